/- The finder: choose. -/
import Derived.Test.YtobgbmfpicmpcaaGreatDoorC26
import Derived.Test.YtobgbmfpicmpcaaGreatDoorC14
import Derived.Test.YtobgbmfpicmpcaaGreatDoorC23
import Derived.Lib.Hide
set_option maxRecDepth 100000
set_option maxHeartbeats 8000000
namespace Go.Proofs.YtobgbmfpicmpcaaGreatDoor
open Go.Lib (hid)
section
open Go.RowKit Go.Maps Go.Sort
variable {fix:Nat→Option Value} {B T F:Nat} {UInv:(Nat→Prop)→List Row→World→Prop} {u:FuncId} {caps:Array Value} {gb go m cs cc:Nat} {ns:List aq} {es:List aJ} {sa ca:Option Addr} {l:List aN} {cl:List bP}
def JH (UInv:(Nat→Prop)→List Row→World→Prop) (Fx:Nat→Prop) (W0:World) (F B T:Nat) (fix:Nat→Option Value) (use:Value) (mb:Nat) (left:Int) (ev:Nat→Value) (en:Nat→List Int) (i:Nat) (st:mA) (W:World):Prop:=
 ∃ev' en' wv' ws' mb' ub',gZ UInv Fx W0 F B T fix use st.left st.f mb' ev' en' wv' ws' ub' st.rows W∧(∀j,j<i→en' j=en j∧ev' j=ev j)∧(mb':Int)+st.left≤mb+left
def wW (UInv:(Nat→Prop)→List Row→World→Prop) (F B T:Nat) (fix:Nat→Option Value) (u:FuncId) (caps:Array Value) (gb go m:Nat) (ns:List aq) (es:List aJ) (sa:Option Addr) (cs:Nat) (l:List aN) (ca:Option Addr) (cc:Nat) (cl:List bP) (r:List aN):Prop:=
 ∀(i:Nat) (prev:ByteArray) (Fx:Nat→Prop) (W0:World) (left:Int) (f:Row) (mb:Nat) (ev:Nat→Value) (en:Nat→List Int) (wv:Value) (ws:List eB) (ub:Nat→Prop) (rows:List Row) (W:World),
  GG UInv Fx W0 B u caps fix gb go m ns es sa cs l ca cc cl→l.drop i=r→i≤l.length→(∀p,0<i→l[i - 1]?=some p→p.name=prev)→gZ UInv Fx W0 F B T fix (.func (.func u) #[] caps) left f mb ev en wv ws ub rows W→
  0≤left→left≤5000→(mb:Int)+left≤900000→(rows.length:Int)+left≤900000→
  Calls Tryz.prog 186 #[.pointer (some ⟨F,0,none⟩),.int .i64 (i:Int)] W fun e W'=>e=.returned (.tuple #[])∧JH UInv Fx W0 F B T fix (.func (.func u) #[] caps) mb left ev en i (bH ns es cl r prev ⟨left,f,rows⟩) W'
theorem zP (hU:oX UInv) (ok:Jb ns es l cl) (hcf:∀args w,(callFunc u args).run Tryz.prog w=.ok (.enter u args) w):wW UInv F B T fix u caps gb go m ns es sa cs l ca cc cl []:=by
 intro i prev Fx W0 left f mb ev en wv ws ub rows W hfix hd hi hprev h hl0 hl1 hmb hrows
 obtain rfl:i=l.length:=by
  have:=congrArg List.length hd
  simp only[List.length_drop,List.length_nil] at this
  omega
 obtain⟨cs0,hc,hf⟩:=h.fa.cell
 have c2:W.cell? ⟨F,2,none⟩=some (.slice sa l.length cs):=(hc.cell 2).trans ((hf.fx 2 (by decide)).trans hfix.q)
 have HE:=hid (end_ hU h hfix.g hfix.c (hfix.st W h.kept).1 ok.conds ok.Lc (hfix.sc W h.kept) hcf hfix.use (by omega))
 have HMB:=hid hmb
 have HP:Hid (bH ns es cl [] prev ⟨left,f,rows⟩=⟨left,f,if cl.all (kD ns f) then rows++[f] else rows⟩):=hid (by simp only[bH];split<;>rfl)
 clear hfix hd hi hprev h hmb hrows hc hf ok hU hcf
 go_enter Tryz.func186,Tryz.ntmps186
 go_wp2_with fail
 refine HE.out.mono ?_
 rintro e W1 ⟨rfl,ub',h1⟩
 have H1:=hid h1
 clear h1
 go_wp2_with fail
 refine bodyPost_ret (results_none rfl _ _ _) rfl ⟨rfl,?_⟩
 rw[HP.out]
 exact⟨ev,en,wv,ws,mb,ub',H1.out,fun j _=>⟨rfl,rfl⟩,Int.le_refl _⟩
theorem zn (hU:oX UInv) (ok:Jb ns es l cl) (s:aN) (r:List aN) (ih:wW UInv F B T fix u caps gb go m ns es sa cs l ca cc cl r):wW UInv F B T fix u caps gb go m ns es sa cs l ca cc cl (s::r):=by
 intro i prev Fx W0 left f mb ev en wv ws ub rows W hfix hd hi hprev h hl0 hl1 hmb hrows
 have hil:i<l.length:=by
  have:=congrArg List.length hd
  simp only[List.length_drop,List.length_cons] at this
  omega
 have hd2:l.drop i=l[i]::l.drop (i+1):=List.drop_eq_getElem_cons hil
 have es1:l[i]=s:=by rw[hd2] at hd;injection hd
 have er:l.drop (i+1)=r:=by rw[hd2] at hd;injection hd
 have hs?:l[i]?=some s:=by rw[List.getElem?_eq_getElem hil,es1]
 have hsf:nL s:=ok.FE s (by rw[←es1];exact List.getElem_mem hil)
 obtain⟨g,oo,rfl,hcell⟩:=bY (l:=l) kN (fun _=>rfl) (hfix.ss W h.kept) hil
 rw[es1] at hcell
 obtain⟨cs0,hc,hf⟩:=h.fa.cell
 have c2:W.cell? ⟨F,2,none⟩=some (.slice (some ⟨g,oo,none⟩) l.length cs):=(hc.cell 2).trans ((hf.fx 2 (by decide)).trans hfix.q)
 have p0:W.cell? ⟨g,oo+i*5,none⟩=some (.string s.name):=hcell 0 (by decide)
 have p1:W.cell? ⟨g,oo+i*5+1,none⟩=some (.string s.label):=hcell 1 (by decide)
 have p2:W.cell? ⟨g,oo+i*5+2,none⟩=some (.string s.type):=hcell 2 (by decide)
 have p3:W.cell? ⟨g,oo+i*5+3,none⟩=some (.int .i64 s.least):=hcell 3 (by decide)
 have p4:W.cell? ⟨g,oo+i*5+4,none⟩=some (.int .i64 s.bf):=hcell 4 (by decide)
 have hii:(i:Int)<(l.length:Int):=by omega
 have hne:((i:Int)==(l.length:Int))=false:=by simp;omega
 have H1:=hid (h.fixed hU (.cells #[.string s.name,.string s.label,.string s.type,.int .i64 s.least,.int .i64 s.bf] 85))
 have HKA:=hid (h.kept.below ((Below.refl W.heap.size W).alloc (Nat.le_refl _) (.cells #[.string s.name,.string s.label,.string s.type,.int .i64 s.least,.int .i64 s.bf] 85)))
 have HS1:=hid (Loc.new W #[.string s.name,.string s.label,.string s.type,.int .i64 s.least,.int .i64 s.bf] 85)
 have HFX:=hid (hfix.on (Fx':=fun k=>Fx k∨k=W.heap.size) (fun k hk=>Or.inl hk) HKA.out)
 have hi6:i<6:=by have:=ok.BN;omega
 have HUU:=hid hU
 have HOK:=hid ok
 have HIH:=hid ih
 have HSF:=hid hsf
 have HSI:=hid hs?
 have HER:=hid er
 have HPV:=hid hprev
 have HMB:=hid hmb
 have HRW:=hid hrows
 have HPW:=hid (fun hz:prev.size≤maxLen=>h.fa.eV.wf hz)
 clear hfix hd hi hprev h hmb hrows hc hf ok hU ih hsf hs? er hd2 es1 hcell
 go_enter Tryz.func186,Tryz.ntmps186
 go_upto_region 3 with fail
 obtain⟨Z,hZ⟩:∃Z,Z=W.heap.size:=⟨_,rfl⟩
 rw[←hZ] at H1 HS1 HFX⊢
 clear hZ c2 p0 p1 p2 p3 p4
 generalize W.alloc (.cells #[.string s.name,.string s.label,.string s.type,.int .i64 s.least,.int .i64 s.bf] 85)=W1 at H1 HKA HS1 HFX⊢
 obtain⟨av,cv,hvn⟩:=bB (H1.out.fa.re i hi6)
 obtain⟨cs1,hc1,hf1⟩:=H1.out.fa.cell
 have e0:W1.cell? ⟨F,21+i,none⟩=some (.slice av (en i).length cv):=(hc1.cell (21+i)).trans ((hf1.e i hi6).trans (by rw[hvn]))
 have f0:=hc1.free (21+i)
 have hi6':(i:Int)<6:=by omega
 have HVN:=hid hvn
 clear hvn hc1 hf1
 go_region
 have HA2:=hid ((H1.out.step HUU.out (H1.out.wide.Jl hi6 HVN.out) ((Kept.refl _ W1).then (aC W1 F (21+i) (.slice av 0 cv)) (fun k hk=>by injection hk with hk;rw[←hk];exact Or.inl (Or.inl (Or.inl rfl))))).drew HUU.out)
 clear e0 f0 H1
 generalize (W1.setCell ⟨F,21+i,none⟩ (.slice av 0 cv)).drew=W2 at HA2⊢
 have HZ2:=hid (HA2.out.loc (Or.inr rfl) HS1.out)
 have z2:=HZ2.out.at_ 2 (.string s.type) rfl
 obtain⟨xs,hxs⟩:∃xs,(fC ns es s ((f prev).getD 0) left).1=xs:=⟨_,rfl⟩
 obtain⟨l1,hl1e⟩:∃l1,(fC ns es s ((f prev).getD 0) left).2=l1:=⟨_,rfl⟩
 have HXS:=hid hxs
 have HL1:=hid hl1e
 clear hxs hl1e
 go_upto_if 41 with fail
 go_cut [] (fun w=>∃(ev':Nat→Value) (en':Nat→List Int) (wv':Value) (ws':List eB),gZ UInv (fun k=>Fx k∨k=Z) W1 F B T fix (.func (.func u) #[] caps) l1 f mb ev' en' wv' ws' ub rows w∧en' i=xs∧(∀j,j<i→en' j=en j∧ev' j=ev j))
 case first=>
  have HST:=hid ((HFX.out.st.on HA2.out.kept).narrow (fun k hk=>HA2.out.free hk))
  cases hty:s.type.toList.isEmpty with
  | true=>
   have HTY:=hid hty
   go_wp2_with fail
   refine(Jr HA2.out.wide HFX.out.g HST.out hi6 (by have:=HOK.out.rF;simp[pU];omega) (fun k hk=>Or.inr hk)).mono ?_
   rintro e W3 ⟨rfl,ev',en',h3,hen,hoth,hk⟩
   have HA3:=hid (HA2.out.step HUU.out h3 hk)
   have HEN:=hid hen
   have HOT:=hid hoth
   clear h3 hen hoth hk
   go_wp2_with fail
   go_meet
   have e1:=HXS.out
   have e2:=HL1.out
   simp only[fC,HTY.out,if_true] at e1 e2
   refine⟨ev',en',wv,ws,by rw[←e2];exact HA3.out,by rw[HEN.out,←e1];simp[pU],fun j hj=>?_⟩
   have:=HOT.out j (by omega)
   rw[this.1,this.2]
   unfold pU pd
   rw[if_neg (by omega),if_neg (by omega)]
   exact⟨rfl,rfl⟩
  | false=>
   have HTY:=hid hty
   have hi0:0<i:=by
    rcases Nat.eq_zero_or_pos i with e|e
    ·subst e
     have:=HOK.out.first s HSI.out
     rw[this] at hty
     cases hty
    ·exact e
   obtain⟨p,hp⟩:∃p,l[i - 1]?=some p:=⟨_,List.getElem?_eq_getElem (by omega)⟩
   have HPN:=hid (HPV.out p hi0 hp)
   have HP:=hid hp
   have HPF:=hid (HOK.out.FE p (List.mem_of_getElem? hp))
   have HSS:Hid (oq (yT F B T (pd ev i (.slice av 0 cv)) wv W2) (some ⟨g,oo,none⟩) cs l W2):=hid (fun w hk=>HFX.out.ss w (HA2.out.kept.trans (hk.kt (fun k hk=>HA2.out.free hk))))
   clear hp
   go_wp2_with fail
   refine(KA HA2.out.wide HFX.out.g HFX.out.q HST.out HSS.out hi6 HSI.out HP.out hi0 HSF.out HPF.out ⟨hl0,hl1⟩ (by simp[pU]) (fun k hk=>Or.inr hk)).mono ?_
   rintro e W3 ⟨rfl,ev',en',wv',ws',h3,hen,hoth,hk⟩
   have HA3:=hid (HA2.out.step HUU.out h3 hk)
   have HEN:=hid hen
   have HOT:=hid hoth
   clear h3 hen hoth hk
   go_wp2_with fail
   go_meet
   have e1:=HXS.out
   have e2:=HL1.out
   simp only[fC,HTY.out,Bool.false_eq_true,if_false] at e1 e2
   have e3:=HPN.out
   have h3:=HA3.out
   have h4:=HEN.out
   rw[e3] at h3 h4
   refine⟨ev',en',wv',ws',by rw[←e2];exact h3,by rw[h4,←e1];simp[pU],fun j hj=>?_⟩
   have:=HOT.out j (by omega)
   rw[this.1,this.2]
   unfold pU pd
   rw[if_neg (by omega),if_neg (by omega)]
   exact⟨rfl,rfl⟩
 case rest=>
  obtain⟨ev2,en2,wv2,ws2,ha3,hen3,hot3⟩:=hcut
  have HA3:=hid ha3
  have HE3:=hid hen3
  have HO3:=hid hot3
  clear ha3 hen3 hot3 z2 HA2 HZ2
  have HZ3:=hid (HA3.out.loc (Or.inr rfl) HS1.out)
  obtain⟨cs3,hc3,hf3⟩:=HA3.out.fa.cell
  have b0:wc.cell? ⟨F,20,none⟩=some (.map (some B)):=(hc3.cell 20).trans hf3.b
  have z0:=HZ3.out.at_ 0 (.string s.name) rfl
  have la:(Instr.lookup 137 (.map (some B)) (.string s.name) true).run Tryz.prog wc.drew=.ok (.tuple #[.int .i64 ((f s.name).getD 0),.bool (f s.name).isSome]) wc.drew:=(HA3.out.drew HUU.out).fa.eV.KE HSF.out.1
  have HA4:=hid (HA3.out.drew HUU.out)
  clear hc3 hf3
  go_upto_region 7 with fail
  go_region
  clear la b0 z0 HZ3 HA3
  generalize wc.drew=W4 at HA4⊢
  obtain⟨nd,hnd⟩:∃nd,(f s.name).getD 0=nd:=⟨_,rfl⟩
  obtain⟨bd,hbd⟩:∃bd,(f s.name).isSome=bd:=⟨_,rfl⟩
  rw[hnd,hbd]
  have HND:=hid hnd
  have HBD:=hid hbd
  clear hnd hbd
  obtain⟨ax,cx,hvx⟩:=bB (HA4.out.fa.re i hi6)
  obtain⟨cs4,hc4,hf4⟩:=HA4.out.fa.cell
  have e0:W4.cell? ⟨F,21+i,none⟩=some (.slice ax xs.length cx):=(hc4.cell (21+i)).trans ((hf4.e i hi6).trans (by rw[hvx,HE3.out]))
  have HVX:Hid (ev2 i=.slice ax xs.length cx):=hid (by rw[hvx,HE3.out])
  have hxl:xs.length≤10000:=by rw[←HXS.out];exact AG ns es s _ _ HOK.out.rF hl1
  have HEL:=hid (qT ns es s ((f prev).getD 0) left hl0)
  rw[HL1.out] at HEL
  clear hvx hc4 hf4
  go_upto_region 9 with fail
  clear e0
  obtain⟨rec,hrec⟩:∃rec,(fun t=>bH ns es cl r s.name t)=rec:=⟨_,rfl⟩
  obtain⟨sk,hsk⟩:∃sk,qX ns s (f s.name)=sk:=⟨_,rfl⟩
  have HREC:=hid hrec
  have HSK:=hid hsk
  have HCP:Hid (bH ns es cl (s::r) prev ⟨left,f,rows⟩=if (fw rec sk s.name xs ⟨l1,f,rows⟩).2 then (fw rec sk s.name xs ⟨l1,f,rows⟩).1 else if bd then (fw rec sk s.name xs ⟨l1,f,rows⟩).1 else ⟨(fw rec sk s.name xs ⟨l1,f,rows⟩).1.left,fD (fw rec sk s.name xs ⟨l1,f,rows⟩).1.f s.name none,(fw rec sk s.name xs ⟨l1,f,rows⟩).1.rows⟩):=hid (by
   show bH ns es cl (s::r) prev ⟨left,f,rows⟩=_
   unfold bH
   simp only[hrec,hsk,HXS.out,HL1.out,HBD.out])
  clear hrec hsk
  have hr6:r.length+1≤6:=by
   have h1:=congrArg List.length HER.out
   have h2:=HOK.out.BN
   simp only[List.length_drop] at h1
   omega
  go_loopg [65] xs.length (fun c iv w=>∃(k:Nat) (st:mA) (ev':Nat→Value) (en':Nat→List Int) (wv':Value) (ws':List eB) (mb':Nat) (ub':Nat→Prop),iv=.int .i64 (k:Int)∧k+c=xs.length∧fw rec sk s.name xs ⟨l1,f,rows⟩=fw rec sk s.name (xs.drop k) st∧gZ UInv (fun k=>Fx k∨k=Z) W1 F B T fix (.func (.func u) #[] caps) st.left st.f mb' ev' en' wv' ws' ub' st.rows w∧en' i=xs∧ev' i=.slice ax xs.length cx∧(∀j,j<i→en' j=en j∧ev' j=ev j)∧-7≤st.left∧st.left≤5000∧(mb':Int)+st.left≤mb+left∧(st.rows.length:Int)+st.left≤rows.length+left)
  case atStart=>
   have h1:=HEL.out
   exact⟨0,⟨l1,f,rows⟩,ev2,en2,wv2,ws2,mb,ub,rfl,by omega,by simp,HA4.out,HE3.out,HVX.out,HO3.out,by simp only;omega,by simp only;omega,by simp only;omega,by simp only;omega⟩
  case round=>
   obtain⟨k,st,ev5,en5,wv5,ws5,mb5,ub5,rfl,hk,hlp,ha5,hen5,hev5,hot5,hlo,hhi,hmb5,hrw5⟩:=hrel
   have HLP:=hid hlp
   have HA5:=hid ha5
   have HEN5:=hid hen5
   have HEV5:=hid hev5
   have HOT5:=hid hot5
   have HMB5:=hid hmb5
   have HRW5:=hid hrw5
   clear hlp ha5 hen5 hev5 hot5 hmb5 hrw5 HA4
   by_cases hlt:k<xs.length
   ·have hki:(k:Int)<(xs.length:Int):=by omega
    have hse:bO wr 1 (.slice ax xs.length cx) xs.length (xs.flatMap (fun a=>[Value.int .i64 a])):=by
     have h1:=HA5.out.fa.re i hi6
     rw[HEN5.out,HEV5.out] at h1
     have h2:=aP h1 h1.1
     rwa [List.map_eq_flatMap] at h2
    obtain⟨gx,ox,rfl,hcell⟩:=bY (l:=xs) (fun a=>[Value.int .i64 a]) (fun _=>rfl) hse hlt
    obtain⟨e,he⟩:∃e,xs[k]=e:=⟨_,rfl⟩
    have HDR:Hid (xs.drop k=e::xs.drop (k+1)):=hid (by rw[List.drop_eq_getElem_cons hlt,he])
    rw[he] at hcell
    have hem:e∈xs:=by rw[←he];exact List.getElem_mem hlt
    have p0:wr.cell? ⟨gx,ox+k,none⟩=some (.int .i64 e):=by have:=hcell 0 (by decide);simpa using this
    clear hcell hse he
    have HSE:Hid (sk e=((bd&&(e != nd)) || !(mJ ns e s.label))):=hid (by rw[←HSK.out];unfold qX;rw[HBD.out,HND.out])
    have HHL:=hid (DB (n:=e) (l:=s.label) HA5.out.fa HFX.out.g (HFX.out.st wr HA5.out.kept).1)
    have HZ5:=hid (HA5.out.loc (Or.inr rfl) HS1.out)
    have z1:=HZ5.out.at_ 1 (.string s.label) rfl
    go_upto_region 11 with fail
    clear p0
    go_cut [82] (fun c w=>c=.bool (sk e)∧gZ UInv (fun k=>Fx k∨k=Z) W1 F B T fix (.func (.func u) #[] caps) st.left st.f mb5 ev5 en5 wv5 ws5 ub5 st.rows w)
    case first=>
     cases bd with
     | true=>
      cases hen:(e != nd) with
      | true=>
       have HS:Hid (sk e=true):=hid (by rw[HSE.out,hen];rfl)
       go_wp2_with fail
       go_meet
       exact⟨by rw[HS.out],HA5.out⟩
      | false=>
       go_wp2_with fail
       refine HHL.out.mono ?_
       rintro e2 W6 ⟨rfl,hb6⟩
       have HA6:=hid (HA5.out.below HUU.out hb6)
       clear hb6 HHL
       cases hlb:mJ ns e s.label with
       | true=>
        have HS:Hid (sk e=false):=hid (by rw[HSE.out,hlb];rw[hen];rfl)
        go_wp2_with fail
        go_meet
        exact⟨by rw[HS.out],HA6.out⟩
       | false=>
        have HS:Hid (sk e=true):=hid (by rw[HSE.out,hlb];simp)
        go_wp2_with fail
        go_meet
        exact⟨by rw[HS.out],HA6.out⟩
     | false=>
      go_wp2_with fail
      refine HHL.out.mono ?_
      rintro e2 W6 ⟨rfl,hb6⟩
      have HA6:=hid (HA5.out.below HUU.out hb6)
      clear hb6 HHL
      cases hlb:mJ ns e s.label with
      | true=>
       have HS:Hid (sk e=false):=hid (by rw[HSE.out,hlb];rfl)
       go_wp2_with fail
       go_meet
       exact⟨by rw[HS.out],HA6.out⟩
      | false=>
       have HS:Hid (sk e=true):=hid (by rw[HSE.out,hlb];simp)
       go_wp2_with fail
       go_meet
       exact⟨by rw[HS.out],HA6.out⟩
    case rest=>
     obtain⟨rfl,ha6⟩:=hcut
     have HA6:=hid ha6
     clear ha6 z1 HA5 HZ5 HHL HSE
     cases hs:sk e with
     | true=>
      have HST:Hid (fw rec sk s.name (e::xs.drop (k+1)) st=fw rec sk s.name (xs.drop (k+1)) st):=hid (by simp only[fw,hs,if_true])
      go_wp2_with fail
      go_roundg (gk - 1)
      case rel=>exact⟨k+1,st,ev5,en5,wv5,ws5,mb5,ub5,by simp,by omega,by rw[HLP.out,HDR.out,HST.out],HA6.out,HEN5.out,HEV5.out,HOT5.out,hlo,hhi,HMB5.out,HRW5.out⟩
      case measure=>omega
     | false=>
      have HSF2:=hid hs
      clear hs
      go_wp2_with fail
      refine(Ja HA6.out.wide ⟨by omega,by omega⟩).mono ?_
      rintro e3 W7 ⟨rfl,h7,g7⟩
      have HA7:=hid (HA6.out.step HUU.out h7 ((Kept.refl _ wc).then g7 (fun k hk=>by injection hk with hk;rw[←hk];exact Or.inl (Or.inl (Or.inl rfl)))))
      clear h7 g7 HA6
      by_cases hp:0≤st.left - 1
      ·have hpd:decide (0≤st.left - 1)=true:=decide_eq_true hp
       rw[hpd]
       clear hpd
       have HPOS:=hid hp
       have HZ7:=hid (HA7.out.loc (Or.inr rfl) HS1.out)
       obtain⟨cs7,hc7,hf7⟩:=HA7.out.fa.cell
       have b0:W7.cell? ⟨F,20,none⟩=some (.map (some B)):=(hc7.cell 20).trans hf7.b
       have z0:=HZ7.out.at_ 0 (.string s.name) rfl
       have HD7:=hid (HA7.out.drew HUU.out)
       obtain⟨D,hown,hDD⟩:=HD7.out.fa.eV
       have hwe:(Lit.int .i64 e).wf=true:=by
        refine vw (ns:=ns) (es:=es) (s:=s) (p:=(f prev).getD 0) (left:=left) HOK.out.Lm HOK.out.Lk ?_ e (by rw[HXS.out];exact hem)
        intro hty
        have hi0:0<i:=by
         rcases Nat.eq_zero_or_pos i with e0|e0
         ·subst e0
          have:=HOK.out.first s HSI.out
          rw[this] at hty
          cases hty
         ·exact e0
        have hgp:l[i - 1]?=some (l[i - 1]'(by omega)):=List.getElem?_eq_getElem (by omega)
        refine HPW.out ?_
        rw[←HPV.out _ hi0 hgp]
        exact(HOK.out.FE _ (List.mem_of_getElem? hgp)).1
       have hmx:mb5<maxLen:=by have h1:=HMB5.out;have h2:=HMB.out;unfold maxLen;omega
       obtain⟨w8,hrun,hout,hturn⟩:=hown.store nN Tryz.underlying137 hmx (oY HSF.out.1) (plainElem_int Tryz.underlying3 hwe)
       have HA8:=hid (HD7.out.step HUU.out (HD7.out.wide.bind hturn.grown (bF.put hown.isMap hDD HSF.out.1 hout)) ((Kept.refl _ W7.drew).then hturn.grown (fun k hk=>by injection hk with hk;rw[←hk];exact Or.inl (Or.inl (Or.inr (Or.inl rfl))))))
       clear hc7 hf7 hown hDD hout hturn HD7 HA7 HZ7
       go_upto_region 13 with fail
       go_region
       clear b0 z0 hrun
       have HCH:=hid (HIH.out (i+1) s.name (fun k=>Fx k∨k=Z) W1 (st.left - 1) (fD st.f s.name (some e)) (mb5+1) ev5 en5 wv5 ws5 ub5 st.rows w8 HFX.out HER.out (by omega) (fun p _ hp=>by have h1:=HSI.out;rw[Nat.add_sub_cancel,h1] at hp;injection hp with hp;rw[hp]) HA8.out HPOS.out (by omega) (by have h1:=HMB5.out;have h2:=HMB.out;omega) (by have h1:=HRW5.out;have h2:=HRW.out;omega))
       go_wp2_with fail
       refine HCH.out.mono ?_
       rintro e4 W9 ⟨rfl,ev9,en9,wv9,ws9,mb9,ub9,h9,hot9,hmb9⟩
       have HA9:=hid h9
       have HOT9:=hid hot9
       have HMB9:=hid hmb9
       clear h9 hot9 hmb9 HCH HA8
       go_wp2_with fail
       go_roundg (gk - 1)
       case rel=>
        have hle:=gD ns es cl r s.name ⟨st.left - 1,fD st.f s.name (some e),st.rows⟩ HPOS.out
        have h9:=HA9.out
        have hm9:=HMB9.out
        have hr:bH ns es cl r s.name ⟨st.left - 1,fD st.f s.name (some e),st.rows⟩=rec ⟨st.left - 1,fD st.f s.name (some e),st.rows⟩:=by rw[←HREC.out]
        rw[hr] at hle h9 hm9
        simp only at hle
        refine⟨k+1,_,ev9,en9,wv9,ws9,mb9,ub9,by simp,by omega,?_,h9,?_,?_,fun j hj=>?_,by omega,by omega,?_,?_⟩
        ·rw[HLP.out,HDR.out]
         simp only[fw,HSF2.out,Bool.false_eq_true,if_false,if_pos HPOS.out]
        ·rw[(HOT9.out i (by omega)).1,HEN5.out]
        ·rw[(HOT9.out i (by omega)).2,HEV5.out]
        ·have h1:=HOT9.out j (by omega)
         have h2:=HOT5.out j hj
         exact⟨h1.1.trans h2.1,h1.2.trans h2.2⟩
        ·have h1:=HMB5.out
         omega
        ·have h1:=HRW5.out
         omega
       case measure=>omega
      ·have hpd:decide (0≤st.left - 1)=false:=decide_eq_false hp
       rw[hpd]
       have HE:Hid (bH ns es cl (s::r) prev ⟨left,f,rows⟩=⟨st.left - 1,st.f,st.rows⟩):=hid (by
        have h1:fw rec sk s.name xs ⟨l1,f,rows⟩=(⟨st.left - 1,st.f,st.rows⟩,true):=by
         rw[HLP.out,HDR.out]
         simp only[fw,HSF2.out,Bool.false_eq_true,if_false,if_neg hp]
        rw[HCP.out,h1]
        rfl)
       clear hpd
       go_wp2_with fail
       refine bodyPost_ret (results_none rfl _ _ _) rfl ⟨rfl,?_⟩
       rw[HE.out]
       exact⟨ev5,en5,wv5,ws5,mb5,ub5,HA7.out.Gt (fun k hk=>Or.inl hk) HKA.out,HOT5.out,by have:=HMB5.out;simp only;omega⟩
   ·have hki:¬(k:Int)<(xs.length:Int):=by omega
    have HLE:Hid (fw rec sk s.name xs ⟨l1,f,rows⟩=(st,false)):=hid (by rw[HLP.out,List.drop_eq_nil_of_le (by omega)];rfl)
    cases bd with
    | true=>
     have HE:Hid (bH ns es cl (s::r) prev ⟨left,f,rows⟩=st):=hid (by rw[HCP.out,HLE.out];rfl)
     go_wp2_with fail
     go_end0
     refine⟨rfl,?_⟩
     rw[HE.out]
     exact⟨ev5,en5,wv5,ws5,mb5,ub5,HA5.out.Gt (fun k hk=>Or.inl hk) HKA.out,HOT5.out,HMB5.out⟩
    | false=>
     have HE:Hid (bH ns es cl (s::r) prev ⟨left,f,rows⟩=⟨st.left,fD st.f s.name none,st.rows⟩):=hid (by rw[HCP.out,HLE.out];rfl)
     have HZ7:=hid (HA5.out.loc (Or.inr rfl) HS1.out)
     obtain⟨cs7,hc7,hf7⟩:=HA5.out.fa.cell
     have b0:wr.cell? ⟨F,20,none⟩=some (.map (some B)):=(hc7.cell 20).trans hf7.b
     have z0:=HZ7.out.at_ 0 (.string s.name) rfl
     have HD7:=hid (HA5.out.drew HUU.out)
     obtain⟨D,hown,hDD⟩:=HD7.out.fa.eV
     obtain⟨w8,hrun,hout,hturn⟩:=hown.drop nN Tryz.underlying137 (oY HSF.out.1) 0
     have HA8:=hid (HD7.out.step HUU.out (HD7.out.wide.bind hturn.grown (bF.del hDD hout)) ((Kept.refl _ wr.drew).then hturn.grown (fun k hk=>by injection hk with hk;rw[←hk];exact Or.inl (Or.inl (Or.inr (Or.inl rfl))))))
     clear hc7 hf7 hown hDD hout hturn HD7 HZ7
     go_upto_region 17 with fail
     go_region
     go_wp2_with fail
     go_end0
     refine⟨rfl,?_⟩
     rw[HE.out]
     exact⟨ev5,en5,wv5,ws5,mb5,ub5,HA8.out.Gt (fun k hk=>Or.inl hk) HKA.out,HOT5.out,HMB5.out⟩
theorem BY (hU:oX UInv) (ok:Jb ns es l cl) (hcf:∀args w,(callFunc u args).run Tryz.prog w=.ok (.enter u args) w):∀r,wW UInv F B T fix u caps gb go m ns es sa cs l ca cc cl r
 | []=>zP hU ok hcf
 | s::r=>zn hU ok s r (BY hU ok hcf r)
end
section
open Go.RowKit Go.Maps
def gI (S:aI→Bool) (q:au):Bool:=q.ay.all (fun p=>S (5,q.label,p.key))&&S (4,q.label,⟨#[]⟩)
theorem wJ {v:Int} {t k:ByteArray} (h0:0≤v) (h1:v≤10) (ht:t.size≤maxLen) (hk:k.size≤maxLen):D5 (v,t,k):=⟨WalkArith.wf_i64 (by simp only;omega),ht,hk⟩
theorem zx {W:World} {rb rn:Nat} {S:aI→Bool} {nm:ByteArray} {q:au} {vs vc vi:Value} {aop:Option Addr} {cap:Nat} (hr:bm W rb rn S) (hp:bO W 2 (.slice aop q.ay.length cap) q.ay.length (q.ay.flatMap nS)) (hn:q.ay.length≤1000) (hl:q.label.size≤maxLen) (hk:∀p∈q.ay,p.key.size≤maxLen):
  Calls Tryz.prog 257 #[.agg #[.string nm,.map (some rb)],.agg (qC q vs vc vi (.slice aop q.ay.length cap))] W fun e W'=>e=.returned (.bool (gI S q))∧Below W.heap.size W W':=by
 have HB0:=hid ((Below.refl W.heap.size W).alloc (Nat.le_refl _) (.cells #[.string nm,.map (some rb)] 118))
 have HR0:=hid (Loc.new W #[.string nm,.map (some rb)] 118)
 have HB1:=hid (HB0.out.alloc HB0.out.size (.cells (qC q vs vc vi (.slice aop q.ay.length cap)) 29))
 have HR1:=hid (HR0.out.alloc (.cells (qC q vs vc vi (.slice aop q.ay.length cap)) 29))
 have HQ1:=hid (Loc.new (W.alloc (.cells #[.string nm,.map (some rb)] 118)) (qC q vs vc vi (.slice aop q.ay.length cap)) 29)
 have HR:=hid hr
 have HP:=hid hp
 have HL:=hid hl
 have HK:=hid hk
 clear hr hp hl hk HB0 HR0
 go_enter Tryz.func257,Tryz.ntmps257
 go_upto_region 1 with fail
 obtain⟨Y,hY⟩:∃Y,Y=W.heap.size:=⟨_,rfl⟩
 have e1:(W.alloc (.cells #[.string nm,.map (some rb)] 118)).heap.size=Y+1:=by rw[hY];simp
 rw[e1] at HQ1
 rw[←hY] at HR1⊢
 clear hY e1
 generalize (W.alloc (.cells #[.string nm,.map (some rb)] 118)).alloc (.cells (qC q vs vc vi (.slice aop q.ay.length cap)) 29)=W1 at HB1 HR1 HQ1⊢
 have q16:W1.cell? ⟨Y+1,16,none⟩=some (.slice aop q.ay.length cap):=(HQ1.out.cell 16).trans rfl
 go_wp2_with fail
 clear q16
 go_loopg [10] q.ay.length (fun n iv w=>∃k:Nat,iv=.int .i64 (k:Int)∧k+n=q.ay.length∧(q.ay.take k).all (fun p=>S (5,q.label,p.key))=true∧Below W.heap.size W w∧Loc w Y #[.string nm,.map (some rb)] 118∧Loc w (Y+1) (qC q vs vc vi (.slice aop q.ay.length cap)) 29)
 case atStart=>exact⟨0,rfl,by omega,by simp,HB1.out,HR1.out,HQ1.out⟩
 case round=>
  obtain⟨k,rfl,hk,hall,hb,hro,hq⟩:=hrel
  have HALL:=hid hall
  have HB:=hid hb
  have HRO:=hid hro
  have HQ:=hid hq
  clear hall hb hro hq HB1 HR1 HQ1
  by_cases hlt:k<q.ay.length
  ·obtain⟨g,oo,rfl,hcell⟩:=bY (l:=q.ay) nS (fun _=>rfl) (HP.out.below HB.out) hlt
   obtain⟨y,hy⟩:∃y,q.ay[k]=y:=⟨_,rfl⟩
   have HY:=hid hy
   have HYK:=hid (HK.out y (by rw[←hy];exact List.getElem_mem hlt))
   rw[hy] at hcell
   clear hy
   have p0:wr.cell? ⟨g,oo+k*2,none⟩=some (.string y.key):=hcell 0 (by decide)
   have p1:wr.cell? ⟨g,oo+k*2+1,none⟩=some (.int .i64 y.val):=hcell 1 (by decide)
   have hki:(k:Int)<(q.ay.length:Int):=by omega
   clear hcell
   have HB2:=hid (HB.out.alloc HB.out.size (.cells #[.string y.key,.int .i64 y.val] 91))
   have HRO2:=hid (HRO.out.alloc (.cells #[.string y.key,.int .i64 y.val] 91))
   have HQ2:=hid (HQ.out.alloc (.cells #[.string y.key,.int .i64 y.val] 91))
   have HZ2:=hid (Loc.new wr #[.string y.key,.int .i64 y.val] 91)
   clear HB HRO HQ
   go_upto_region 4 with fail
   obtain⟨Z,hZ⟩:∃Z,Z=wr.heap.size:=⟨_,rfl⟩
   rw[←hZ] at HZ2⊢
   clear hZ p0 p1
   generalize wr.alloc (.cells #[.string y.key,.int .i64 y.val] 91)=W2 at HB2 HRO2 HQ2 HZ2⊢
   have r0:=HRO2.out.at_ 0 (.string nm) rfl
   have r1:=HRO2.out.at_ 1 (.map (some rb)) rfl
   have q15:W2.cell? ⟨Y+1,15,none⟩=some (.string q.label):=(HQ2.out.cell 15).trans rfl
   have z0:=HZ2.out.at_ 0 (.string y.key) rfl
   go_wp2_with fail
   refine(xL (r:=(5,q.label,y.key)) (HR.out.kept (af HB2.out none) (by simp)) (wJ (by decide) (by decide) HL.out HYK.out)).mono ?_
   rintro e W3 ⟨rfl,hb⟩
   have HB3:=hid (HB2.out.trans (hb.mono HB2.out.size))
   have HRO3:=hid (HRO2.out.grown (af hb none) (by simp))
   have HQ3:=hid (HQ2.out.grown (af hb none) (by simp))
   clear hb r0 r1 q15 z0 HB2 HRO2 HQ2 HZ2
   cases hs:S (5,q.label,y.key) with
   | true=>
    have HST:=hid hs
    clear hs
    go_wp2_with fail
    go_roundg (gk - 1)
    case rel=>
     refine⟨k+1,by simp,by omega,?_,HB3.out,HRO3.out,HQ3.out⟩
     rw[List.take_add_one,List.getElem?_eq_getElem hlt,List.all_append,HALL.out,HY.out]
     simp[HST.out]
    case measure=>omega
   | false=>
    have HE:Hid (gI S q=false):=hid (by
     unfold gI
     have:q.ay.all (fun p=>S (5,q.label,p.key))=false:=by rw[List.all_eq_false];exact⟨q.ay[k],List.getElem_mem hlt,by rw[HY.out,hs];simp⟩
     rw[this];rfl)
    clear hs
    go_wp2_with fail
    go_ret
    exact⟨by rw[HE.out];rfl,HB3.out⟩
  ·have hki:¬(k:Int)<(q.ay.length:Int):=by omega
   have HE:Hid (gI S q=S (4,q.label,⟨#[]⟩)):=hid (by have:=HALL.out;rw[List.take_of_length_le (by omega)] at this;unfold gI;rw[this];rfl)
   have r0:=HRO.out.at_ 0 (.string nm) rfl
   have r1:=HRO.out.at_ 1 (.map (some rb)) rfl
   have q15:wr.cell? ⟨Y+1,15,none⟩=some (.string q.label):=(HQ.out.cell 15).trans rfl
   go_wp2_with fail
   refine(xL (r:=(4,q.label,⟨#[]⟩)) (HR.out.kept (af HB.out none) (by simp)) (nU (by decide) (by decide) HL.out)).mono ?_
   rintro e W3 ⟨rfl,hb⟩
   have HB3:=hid (HB.out.trans (hb.mono HB.out.size))
   clear hb r0 r1 q15
   go_wp2_with fail
   go_ret
   exact⟨by rw[HE.out];rfl,HB3.out⟩
end
section
open Go.RowKit Go.Maps
def lj (l:List dR):ByteArray→Option Int:=l.foldl (fun f p=>fD f p.key (some p.val)) (fun _=>none)
theorem yk {l:List dR} {k:Nat} (hk:k<l.length):lj (l.take (k+1))=fD (lj (l.take k)) l[k].key (some l[k].val):=by
 unfold lj
 rw[List.take_add_one,List.getElem?_eq_getElem hk,List.foldl_append]
 rfl
theorem bF.made (W:World):bF (W.alloc (.map #[] 0)) W.heap.size 0 (fun _=>none):=
 ⟨.map [],World.ownsMap_made W _ _ _,fun _ _=>⟨rfl,rfl⟩⟩
variable {gb go m:Nat} {T:TypeId} {cs:Array Value} {vn ve:Value} {ns:List aq} {es:List aJ} {last:Int} {W:World} {rb rn:Nat} {S:aI→Bool} {nm:ByteArray} {q:au} {vs vc vi:Value} {aop:Option Addr} {cap:Nat} {bud:Int}
def iH (S:aI→Bool) (q:au) (bud:Int) (n:Nat):Int:=if bud<1 then 6 else if gI S q then (if 40≤n then 8 else 0) else 7
theorem JG (h:ed gb go T cs vn ve ns es last m W) (hr:bm W rb rn S) (hp:bO W 2 (.slice aop q.ay.length cap) q.ay.length (q.ay.flatMap nS)) (hn:q.ay.length≤1000) (hl:q.label.size≤maxLen) (hk:∀p∈q.ay,p.key.size≤maxLen) (hf:ns.length≤1000000) (hm:(iH S q bud ns.length==0)=false):
  Calls Tryz.prog 197 #[.pointer (some ⟨gb,go,none⟩),.agg #[.string nm,.map (some rb)],.agg (qC q vs vc vi (.slice aop q.ay.length cap)),.int .i64 bud] W fun e W'=>e=.returned (.tuple #[.int .i64 0,.int .i64 (iH S q bud ns.length)])∧Below W.heap.size W W':=by
 have HB0:=hid ((Below.refl W.heap.size W).alloc (Nat.le_refl _) (.cells #[.string nm,.map (some rb)] 118))
 have HR0:=hid (Loc.new W #[.string nm,.map (some rb)] 118)
 have HB1:=hid (HB0.out.alloc HB0.out.size (.cells (qC q vs vc vi (.slice aop q.ay.length cap)) 29))
 have HR1:=hid (HR0.out.alloc (.cells (qC q vs vc vi (.slice aop q.ay.length cap)) 29))
 have HQ1:=hid (Loc.new (W.alloc (.cells #[.string nm,.map (some rb)] 118)) (qC q vs vc vi (.slice aop q.ay.length cap)) 29)
 obtain⟨av,cv,hvn⟩:=bB h.on
 subst hvn
 have HC0:=hid ((h.bZ.cell go).trans h.c0)
 have HR:=hid hr
 have HP:=hid hp
 have HL:=hid hl
 have HK:=hid hk
 have HM:=hid hm
 clear h hr hp hl hk hm HB0 HR0
 go_enter Tryz.func197,Tryz.ntmps197
 go_upto_region 1 with fail
 obtain⟨Y,hY⟩:∃Y,Y=W.heap.size:=⟨_,rfl⟩
 have e1:(W.alloc (.cells #[.string nm,.map (some rb)] 118)).heap.size=Y+1:=by rw[hY];simp
 rw[e1] at HQ1
 rw[←hY] at HR1⊢
 clear hY e1
 generalize (W.alloc (.cells #[.string nm,.map (some rb)] 118)).alloc (.cells (qC q vs vc vi (.slice aop q.ay.length cap)) 29)=W1 at HB1 HR1 HQ1⊢
 by_cases hb:bud<1
 ·have HE:Hid (iH S q bud ns.length=6):=hid (by unfold iH;rw[if_pos hb])
  go_wp2_with fail
  go_ret2
  exact⟨by rw[HE.out];rfl,HB1.out⟩
 ·have HNB:=hid hb
  have r0:=HR1.out.at_ 0 (.string nm) rfl
  have r1:=HR1.out.at_ 1 (.map (some rb)) rfl
  go_wp2_with (refine wpList_load_mid rfl 29 _ rfl (Y+1) 0 rfl (qC q vs vc vi (.slice aop q.ay.length cap)).toList _ HQ1.out.range Tryz.underlying29 rfl (by rw[Tryz.aX];rfl) ?_)
  refine(zx (HR.out.kept (af HB1.out none) (by simp)) (HP.out.below HB1.out) hn HL.out HK.out).mono ?_
  rintro e W2 ⟨rfl,hb2⟩
  have HB2:=hid (HB1.out.trans (hb2.mono HB1.out.size))
  clear hb2 r0 r1
  have c0:W2.cell? ⟨gb,go,none⟩=some (.slice av ns.length cv):=(HB2.out.cell (block_lt_of_cell HC0.out)).trans HC0.out
  cases hmm:gI S q with
  | false=>
   have HE:Hid (iH S q bud ns.length=7):=hid (by unfold iH;rw[if_neg (by have:=HNB.out;omega),hmm];rfl)
   go_wp2_with fail
   go_ret2
   exact⟨by rw[HE.out];rfl,HB2.out⟩
  | true=>
   have h40:40≤ns.length:=by
    rcases Nat.lt_or_ge ns.length 40 with h1|h1
    ·exfalso
     have:=HM.out
     unfold iH at this
     rw[if_neg (by have:=HNB.out;omega),hmm,if_pos rfl,if_neg (by omega)] at this
     cases this
    ·exact h1
   have h40i:(40:Int)≤(ns.length:Int):=by omega
   have HE:Hid (iH S q bud ns.length=8):=hid (by unfold iH;rw[if_neg (by have:=HNB.out;omega),hmm,if_pos rfl,if_pos h40])
   go_wp2_with fail
   go_ret2
   exact⟨by rw[HE.out];rfl,HB2.out⟩
theorem I1 (h:ed gb go T cs vn ve ns es last m W) (hs:go+2<cs.size) (hr:bm W rb rn S) (hp:bO W 2 (.slice aop q.ay.length cap) q.ay.length (q.ay.flatMap nS)) (hn:q.ay.length≤1000) (hl:q.label.size≤maxLen) (hk:∀p∈q.ay,p.key.size≤maxLen∧(Lit.int .i64 p.val).wf=true) (hla:0≤last∧last≤1000000000) (hpm:q.ay.length≤m) (hm:iH S q bud ns.length=0):
  Calls Tryz.prog 197 #[.pointer (some ⟨gb,go,none⟩),.agg #[.string nm,.map (some rb)],.agg (qC q vs vc vi (.slice aop q.ay.length cap)),.int .i64 bud] W fun e W'=>e=.returned (.tuple #[.int .i64 (last+1),.int .i64 0])∧∃vn' cs' pb,ed gb go T cs' vn' ve (ns++[⟨last+1,q.label,pb,lj q.ay⟩]) es (last+1) m W'∧cs'.size=cs.size∧(∀j,j≠go→j≠go+2→cs'[j]?=cs[j]?)∧W.heap.size≤pb∧Kept (fun b=>b=gb∨vn.ownBlock=some b) W W'∧rq W vn vn':=by
 have hb1:¬bud<1:=by intro hb;unfold iH at hm;rw[if_pos hb] at hm;cases hm
 have hmm:gI S q=true:=by
  cases hh:gI S q with
  | true=>rfl
  | false=>unfold iH at hm;rw[if_neg hb1,hh] at hm;cases hm
 have h40:ns.length<40:=by
  rcases Nat.lt_or_ge ns.length 40 with h1|h1
  ·exact h1
  ·unfold iH at hm;rw[if_neg hb1,hmm,if_pos rfl,if_pos h1] at hm;cases hm
 have HB0:=hid ((Below.refl W.heap.size W).alloc (Nat.le_refl _) (.cells #[.string nm,.map (some rb)] 118))
 have HR0:=hid (Loc.new W #[.string nm,.map (some rb)] 118)
 have HB1:=hid (HB0.out.alloc HB0.out.size (.cells (qC q vs vc vi (.slice aop q.ay.length cap)) 29))
 have HR1:=hid (HR0.out.alloc (.cells (qC q vs vc vi (.slice aop q.ay.length cap)) 29))
 have HQ1:=hid (Loc.new (W.alloc (.cells #[.string nm,.map (some rb)] 118)) (qC q vs vc vi (.slice aop q.ay.length cap)) 29)
 obtain⟨av,cv,hvn⟩:=bB h.on
 subst hvn
 have HC0:=hid ((h.bZ.cell go).trans h.c0)
 have H:=hid h
 have HS:=hid hs
 have HR:=hid hr
 have HP:=hid hp
 have HL:=hid hl
 have HK:=hid hk
 have HLA:=hid hla
 have HPM:=hid hpm
 have HMM:=hid hmm
 have HBLK:Hid (∀y∈ns,y.bZ<W.heap.size):=hid (fun y hy=>(h.aW y hy).lt)
 clear h hs hr hp hl hk hm hla hpm hmm HB0 HR0
 go_enter Tryz.func197,Tryz.ntmps197
 go_upto_region 1 with fail
 obtain⟨Y,hY⟩:∃Y,Y=W.heap.size:=⟨_,rfl⟩
 have e1:(W.alloc (.cells #[.string nm,.map (some rb)] 118)).heap.size=Y+1:=by rw[hY];simp
 rw[e1] at HQ1
 have HYW:=hid hY
 rw[←hY] at HR1⊢
 clear hY e1
 generalize (W.alloc (.cells #[.string nm,.map (some rb)] 118)).alloc (.cells (qC q vs vc vi (.slice aop q.ay.length cap)) 29)=W1 at HB1 HR1 HQ1⊢
 have r0:=HR1.out.at_ 0 (.string nm) rfl
 have r1:=HR1.out.at_ 1 (.map (some rb)) rfl
 go_wp2_with (refine wpList_load_mid rfl 29 _ rfl (Y+1) 0 rfl (qC q vs vc vi (.slice aop q.ay.length cap)).toList _ HQ1.out.range Tryz.underlying29 rfl (by rw[Tryz.aX];rfl) ?_)
 refine(zx (HR.out.kept (af HB1.out none) (by simp)) (HP.out.below HB1.out) hn HL.out (fun p hp=>(HK.out p hp).1)).mono ?_
 rintro e W2 ⟨rfl,hb2⟩
 have HB2:=hid (HB1.out.trans (hb2.mono HB1.out.size))
 have HQ2:=hid (HQ1.out.grown (af hb2 none) (by simp))
 clear hb2 r0 r1 HB1 HR1 HQ1
 rw[HMM.out]
 have c0:W2.cell? ⟨gb,go,none⟩=some (.slice av ns.length cv):=(HB2.out.cell (block_lt_of_cell HC0.out)).trans HC0.out
 have h40i:¬(40:Int)≤(ns.length:Int):=by omega
 have hmk:=@run_makeMap Tryz.prog
 go_upto_region 8 with fail
 have HM3:=hid (bF.made W2)
 have HB3:=hid (HB2.out.alloc HB2.out.size (.map #[] 0))
 have HQ3:=hid (HQ2.out.alloc (.map #[] 0))
 have HMN:=hid HB2.out.size
 have HMQ:Hid (Y+1<W2.heap.size):=hid HQ2.out.lt
 obtain⟨M,hM⟩:∃M,M=W2.heap.size:=⟨_,rfl⟩
 rw[←hM] at HM3 HMN HMQ⊢
 clear hM c0 hmk HB2 HQ2
 generalize W2.alloc (.map #[] 0)=W3 at HM3 HB3 HQ3⊢
 have q16:W3.cell? ⟨Y+1,16,none⟩=some (.slice aop q.ay.length cap):=(HQ3.out.cell 16).trans rfl
 go_wp2_with fail
 clear q16
 go_loopg [32] q.ay.length (fun n iv w=>∃k:Nat,iv=.int .i64 (k:Int)∧k+n=q.ay.length∧bF w M k (lj (q.ay.take k))∧Below W.heap.size W w∧Loc w (Y+1) (qC q vs vc vi (.slice aop q.ay.length cap)) 29)
 case atStart=>exact⟨0,rfl,by omega,HM3.out,HB3.out,HQ3.out⟩
 case round=>
  obtain⟨k,rfl,hk2,hpr,hb,hq⟩:=hrel
  have HPR:=hid hpr
  have HB:=hid hb
  have HQ:=hid hq
  clear hpr hb hq HM3 HB3 HQ3
  by_cases hlt:k<q.ay.length
  ·obtain⟨g,oo,rfl,hcell⟩:=bY (l:=q.ay) nS (fun _=>rfl) (HP.out.below HB.out) hlt
   obtain⟨y,hy⟩:∃y,q.ay[k]=y:=⟨_,rfl⟩
   have HY:=hid hy
   have HYK:=hid (HK.out y (by rw[←hy];exact List.getElem_mem hlt))
   rw[hy] at hcell
   clear hy
   have p0:wr.cell? ⟨g,oo+k*2,none⟩=some (.string y.key):=hcell 0 (by decide)
   have p1:wr.cell? ⟨g,oo+k*2+1,none⟩=some (.int .i64 y.val):=hcell 1 (by decide)
   have hki:(k:Int)<(q.ay.length:Int):=by omega
   clear hcell
   have HB4:=hid (HB.out.alloc HB.out.size (.cells #[.string y.key,.int .i64 y.val] 91))
   have HQ4:=hid (HQ.out.alloc (.cells #[.string y.key,.int .i64 y.val] 91))
   have HP4:=hid (HPR.out.kept (ar wr (.cells #[.string y.key,.int .i64 y.val] 91) none) (by simp))
   have HZ4:=hid (Loc.new wr #[.string y.key,.int .i64 y.val] 91)
   clear HB HQ HPR
   go_upto_region 11 with fail
   obtain⟨Z,hZ⟩:∃Z,Z=wr.heap.size:=⟨_,rfl⟩
   rw[←hZ] at HZ4⊢
   clear hZ p0 p1
   generalize wr.alloc (.cells #[.string y.key,.int .i64 y.val] 91)=W4 at HB4 HQ4 HP4 HZ4⊢
   have z0:=HZ4.out.at_ 0 (.string y.key) rfl
   have z1:=HZ4.out.at_ 1 (.int .i64 y.val) rfl
   obtain⟨D,hown,hD⟩:=HP4.out
   have HO:=hid hown
   have HDD:=hid hD
   clear hown hD
   go_wp2_with (first
    | (at_mapUpdate;refine wpList_mapUpdate_own _ rfl _ _ _ 137 rfl 9 3 nN Tryz.underlying137 _ M k D rfl HO.out (by unfold maxLen;omega) _ _ _ rfl rfl (oY HYK.out.1) _ [] (plainElem_int Tryz.underlying3 HYK.out.2) ?_;intro w5 hout5 hg5;go_frame)
    | go_in)
   have HP5:Hid (bF w5 M (k+1) (lj (q.ay.take (k+1)))):=hid (by rw[yk hlt,HY.out];exact bF.put HO.out.isMap HDD.out HYK.out.1 hout5)
   have HG5:=hid hg5
   clear hout5 hg5
   go_roundg (gk - 1)
   case rel=>exact⟨k+1,by simp,by omega,HP5.out,HB4.out.grown HG5.out HB4.out.size (fun j hj=>by injection hj with hj;rw[←hj];exact HMN.out),HQ4.out.grown HG5.out (by intro e;injection e with e;have:=HMQ.out;omega)⟩
   case measure=>omega
  ·have hki:¬(k:Int)<(q.ay.length:Int):=by omega
   have HPF:Hid (bF wr M m (lj q.ay)):=hid (by have:=HPR.out.more (n':=m) (by have:=HPM.out;omega);rwa [List.take_of_length_le (by omega)] at this)
   have q15:wr.cell? ⟨Y+1,15,none⟩=some (.string q.label):=(HQ.out.cell 15).trans rfl
   go_wp2_with fail
   refine(EG (lb:=q.label) (H.out.later HB.out) HS.out (by omega) HLA.out HPF.out (fun y hy=>by have h1:=HBLK.out y hy;have h2:=HMN.out;omega)).mono ?_
   rintro e W6 ⟨rfl,vn',cs',h6,hsz,hot,hk6,hgw⟩
   have HGW:Hid (rq W (Value.slice av ns.length cv) vn'):=hid (fun b hb=>(hgw b hb).imp id (fun h=>Nat.le_trans HB.out.size h))
   have H6:=hid h6
   have HSZ:=hid hsz
   have HOT:=hid hot
   have HK6:=hid (((Kept.refl (fun b=>b=gb∨(Value.slice av ns.length cv).ownBlock=some b) W).below HB.out).trans hk6)
   clear h6 hsz hot hk6 hgw q15
   go_wp2_with fail
   go_ret2
   exact⟨rfl,vn',cs',M,H6.out,HSZ.out,HOT.out,HMN.out,HK6.out,HGW.out⟩
end
end Go.Proofs.YtobgbmfpicmpcaaGreatDoor
