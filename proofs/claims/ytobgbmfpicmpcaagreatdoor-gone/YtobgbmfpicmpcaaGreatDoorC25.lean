/- The finder: walk. -/
import Derived.Test.YtobgbmfpicmpcaaGreatDoorC24
import Derived.Test.YtobgbmfpicmpcaaGreatDoorC23
import Derived.Lib.Hide
set_option maxRecDepth 100000
set_option maxHeartbeats 8000000
namespace Go.Proofs.YtobgbmfpicmpcaaGreatDoor
open Go.Lib (hid)
section
open Go.RowKit Go.Maps
variable {fix:Nat→Option Value} {left:Int} {use:Value} {B T F:Nat} {ev:Nat→Value} {wv:Value} {own:Nat→Prop} {f:ByteArray→Option Int} {mb:Nat} {en:Nat→List Int} {ws:List eB} {W:World}
def oq (own:Nat→Prop) (sa:Option Addr) (cs:Nat) (l:List aN) (W:World):Prop:=∀w,Kept own W w→bO w 5 (.slice sa l.length cs) l.length (l.flatMap kN)
def nL (s:aN):Prop:=s.name.size≤maxLen∧s.label.size≤maxLen∧0≤s.least∧s.least≤100∧0≤s.bf∧s.bf≤4
theorem KA {gb go m i cs:Nat} {ns:List aq} {es:List aJ} {sa:Option Addr} {l:List aN} {s p:aN} (h:gT own F B T fix left use f mb ev en wv ws W) (hg:fix 0=some (.pointer (some ⟨gb,go,none⟩))) (hq:fix 2=some (.slice sa l.length cs)) (hst:kS own gb go ns es m W) (hss:oq own sa cs l W)
  (hi:i<6) (hs:l[i]?=some s) (hp:l[i - 1]?=some p) (h0:0<i) (hsf:nL s) (hpf:nL p) (hl:0≤left∧left≤5000) (hen:(en i).length≤5000) (hown:∀k,W.heap.size≤k→own k):
  Calls Tryz.prog 241 #[.pointer (some ⟨F,0,none⟩),.int .i64 (i:Int)] W fun e W'=>e=.returned (.tuple #[])∧∃ev' en' wv' ws',gT own F B T fix (eY es s.type s.least s.bf (left.toNat+2) [⟨0,0,0,0,0,(f p.name).getD 0⟩] left).2 use f mb ev' en' wv' ws' W'∧en' i=en i++(eY es s.type s.least s.bf (left.toNat+2) [⟨0,0,0,0,0,(f p.name).getD 0⟩] left).1∧(∀j,j≠i→en' j=en j∧ev' j=ev j)∧Kept own W W':=by
 obtain⟨i0,hi0,hz0,hz1,hz2⟩:=info_parts Tryz.BU
 obtain⟨i1,hi1,hy0,hy1,hy2⟩:=info_parts Tryz.BV
 have hil:i<l.length:=by
  rcases Nat.lt_or_ge i l.length with h1|h1
  ·exact h1
  ·rw[List.getElem?_eq_none h1] at hs;cases hs
 obtain⟨g,oo,rfl,hcell⟩:=bY (l:=l) kN (fun _=>rfl) (hss W (Kept.refl _ _)) hil
 obtain⟨g',oo',eg,hcell'⟩:=bY (l:=l) kN (fun _=>rfl) (hss W (Kept.refl _ _)) (show i - 1<l.length by omega)
 injection eg with eg
 injection eg with eg1 eg2
 subst eg1 eg2
 have es1:l[i]=s:=by rw[List.getElem?_eq_getElem hil] at hs;injection hs
 have es2:l[i - 1]'(by omega)=p:=by rw[List.getElem?_eq_getElem (by omega)] at hp;injection hp
 rw[es1] at hcell
 rw[es2] at hcell'
 obtain⟨cs0,hc,hf⟩:=h.cell
 have c2:W.cell? ⟨F,2,none⟩=some (.slice (some ⟨g,oo,none⟩) l.length cs):=(hc.cell 2).trans ((hf.fx 2 (by decide)).trans hq)
 have p0:W.cell? ⟨g,oo+i*5,none⟩=some (.string s.name):=hcell 0 (by decide)
 have p1:W.cell? ⟨g,oo+i*5+1,none⟩=some (.string s.label):=hcell 1 (by decide)
 have p2:W.cell? ⟨g,oo+i*5+2,none⟩=some (.string s.type):=hcell 2 (by decide)
 have p3:W.cell? ⟨g,oo+i*5+3,none⟩=some (.int .i64 s.least):=hcell 3 (by decide)
 have p4:W.cell? ⟨g,oo+i*5+4,none⟩=some (.int .i64 s.bf):=hcell 4 (by decide)
 have q0:W.cell? ⟨g,oo+(i - 1)*5,none⟩=some (.string p.name):=hcell' 0 (by decide)
 have hii:(i:Int)<(l.length:Int):=by omega
 have hba:=(Below.refl W.heap.size W).alloc (Nat.le_refl _) (.cells #[.string s.name,.string s.label,.string s.type,.int .i64 s.least,.int .i64 s.bf] 85)
 have HA1:=hid (h.later hba)
 have HK1:=hid ((Kept.refl own W).below hba)
 have HS1:=hid (Loc.new W #[.string s.name,.string s.label,.string s.type,.int .i64 s.least,.int .i64 s.bf] 85)
 have HQ0:=hid ((hba.cell (block_lt_of_cell q0)).trans q0)
 have HC2:=hid ((hba.cell (block_lt_of_cell c2)).trans c2)
 have HST:=hid hst
 have HG:=hid hg
 have HOWN:=hid hown
 have HSF:=hid hsf
 have HPF:=hid hpf
 have HI:=hid hi
 have HLB:=hid hl
 have HEN0:=hid hen
 clear h hg hq hst hss hs hp hsf hpf hen hown hc hf hcell hcell' es1 es2 hba q0
 go_enter Tryz.func241,Tryz.ntmps241
 go_upto_region 1 with fail
 obtain⟨Z,hZ⟩:∃Z,Z=W.heap.size:=⟨_,rfl⟩
 have HZO:Hid (own Z):=hid (HOWN.out Z (by omega))
 rw[←hZ] at HS1⊢
 clear hZ c2 p0 p1 p2 p3 p4
 generalize W.alloc (.cells #[.string s.name,.string s.label,.string s.type,.int .i64 s.least,.int .i64 s.bf] 85)=W1 at HA1 HK1 HS1 HQ0 HC2⊢
 obtain⟨cs1,hc1,hf1⟩:=HA1.out.cell
 have b0:W1.cell? ⟨F,20,none⟩=some (.map (some B)):=(hc1.cell 20).trans hf1.b
 have c2:=HC2.out
 have q0:=HQ0.out
 have la:(Instr.lookup 137 (.map (some B)) (.string p.name) false).run Tryz.prog W1.drew=.ok (.int .i64 ((f p.name).getD 0)) W1.drew:=by
  have hb:bF W1.drew B mb f:=HA1.out.drew.eV
  exact hb.look HPF.out.1
 have hi1i:((i:Int) - 1)<(l.length:Int):=by omega
 have hi1n:0≤((i:Int) - 1):=by omega
 go_region
 have HA2:=hid HA1.out.drew
 have HK2:Hid (Kept own W W1.drew):=hid ⟨HK1.out.os,HK1.out.tape,HK1.out.output,HK1.out.size,HK1.out.block⟩
 have HS2:Hid (Loc W1.drew Z #[.string s.name,.string s.label,.string s.type,.int .i64 s.least,.int .i64 s.bf] 85):=hid HS1.out
 clear la b0 c2 q0 hc1 hf1 hi1i hi1n HA1 HK1 HS1 HQ0 HC2 cs1
 generalize W1.drew=W2 at HA2 HK2 HS2⊢
 obtain⟨fr,hfr⟩:∃fr,(f p.name).getD 0=fr:=⟨_,rfl⟩
 rw[hfr]
 have HFR:=hid hfr
 clear hfr
 obtain⟨av,cv,hvn⟩:=bB HA2.out.rw
 subst hvn
 obtain⟨cs2,hc2,hf2⟩:=HA2.out.cell
 have w0:W2.cell? ⟨F,27,none⟩=some (.slice av ws.length cv):=(hc2.cell 27).trans hf2.w
 have HD:=hid (HA2.out.later ((Below.refl _ _).alloc (Nat.le_refl _) (.cells #[.int .i64 0,.int .i64 0,.int .i64 0,.int .i64 0,.int .i64 0,.int .i64 fr] 361)))
 have HKD:=hid (HK2.out.below ((Below.refl _ _).alloc (Nat.le_refl _) (.cells #[.int .i64 0,.int .i64 0,.int .i64 0,.int .i64 0,.int .i64 0,.int .i64 fr] 361)))
 have HLD:=hid (hc2.alloc (.cells #[.int .i64 0,.int .i64 0,.int .i64 0,.int .i64 0,.int .i64 0,.int .i64 fr] 361))
 have HSD:=hid (HS2.out.alloc (.cells #[.int .i64 0,.int .i64 0,.int .i64 0,.int .i64 0,.int .i64 0,.int .i64 fr] 361))
 have HZR:=hid (tS HD.out.rw)
 have HWE:=hid hf2.w
 clear hc2 hf2 HA2 HK2 HS2
 go_wp2_with (at_builtin;go_must (refine wpList_append_lies _ rfl _ _ 261 rfl 0 361 i0 (.agg #[.int .i64 0,.int .i64 0,.int .i64 0,.int .i64 0,.int .i64 0,.int .i64 0]) 6 48 Tryz.underlying261 hi0 hz0 hz1 hz2 rfl (by decide) (.slice av 0 cv) _ _ (by simp[Act.eval]) HZR.out ⟨W2.heap.size,0,none⟩ 1 1 [.int .i64 0,.int .i64 0,.int .i64 0,.int .i64 0,.int .i64 0,.int .i64 fr] (by simp[Act.eval]) rfl (World.news_of_block (heap_alloc_new W2 _)) (B7 ⟨0,0,0,0,0,fr⟩) (by omega) (by unfold maxLen;omega) (by omega) (Nat.zero_le _) _ rfl ?_);intro g2 cap2 w9 hown hgrow hlies _;have HLW:=HLD.out.fs HZR.out hgrow (by decide);have c9:w9.cell? ⟨F,27,none⟩=some (.slice av ws.length cv):=(HLW.cell 27).trans HWE.out;have f9:w9.frozen? ⟨F,27,none⟩=false:=HLW.free 27;have HG9:=hid hgrow;have HO9:=hid hown;have HLI:=hid hlies;have HLW9:=hid HLW;clear HLW hown hgrow hlies)
 have hown9:w9.ownsRow 0 361 6 (.slice (some ⟨g2,0,none⟩) 1 cap2) 1 (ru ⟨0,0,0,0,0,fr⟩):=HO9.out
 have HA3:=hid (HD.out.Jo HZR.out HG9.out hown9 HLI.out (fun b hb=>HOWN.out b (Nat.le_trans HKD.out.size hb)))
 have HK3:=hid ((HKD.out.then HG9.out (fun b hb=>Or.inl (HD.out.dH.2.2.2.2 b (by cases av with|none=>cases hb|some a=>exact hb)))).then (aC w9 F 27 (.slice (some ⟨g2,0,none⟩) 1 cap2)) (fun b hb=>by injection hb with hb;rw[←hb];exact Or.inl HD.out.dH.1))
 have HS3:=hid ((HSD.out.fs HZR.out HG9.out (by decide)).setOther (b':=F) (kR (HSD.out.fs HZR.out HG9.out (by decide)) HLW9.out (by decide)) 27 (.slice (some ⟨g2,0,none⟩) 1 cap2))
 clear hown9 c9 f9 HG9 HO9 HLI HLW9 HD HKD HLD HSD HZR HWE
 generalize w9.setCell ⟨F,27,none⟩ (.slice (some ⟨g2,0,none⟩) 1 cap2)=W3 at HA3 HK3 HS3⊢
 have hl0:=HLB.out.1
 have hl1:=HLB.out.2
 have hen0:=HEN0.out
 go_loopg [6] (left.toNat+2) (fun n iv w=>∃(k:Nat) (wv':Value) (ws':List eB) (lf:Int) (pre:List Int) (ev':Nat→Value) (en':Nat→List Int),iv=.int .i64 (k:Int)∧eY es s.type s.least s.bf (left.toNat+2) [⟨0,0,0,0,0,fr⟩] left=(pre++(eY es s.type s.least s.bf n (ws'.drop k) lf).1,(eY es s.type s.least s.bf n (ws'.drop k) lf).2)∧k≤ws'.length∧(ws'.length - k)+(lf+1).toNat≤n∧-1≤lf∧(ws'.length:Int)+lf≤left+1∧(∀y∈ws',wP y)∧gT own F B T fix lf use f mb ev' en' wv' ws' w∧en' i=en i++pre∧pre.length≤k∧(∀j,j≠i→en' j=en j∧ev' j=ev j)∧Kept own W w∧Loc w Z #[.string s.name,.string s.label,.string s.type,.int .i64 s.least,.int .i64 s.bf] 85)
 case atStart=>
  refine⟨0,_,[⟨0,0,0,0,0,fr⟩],left,[],ev,en,rfl,by simp,by simp,by simp;omega,by omega,by simp;omega,?_,HA3.out,by simp,by simp,fun j _=>⟨rfl,rfl⟩,HK3.out,HS3.out⟩
  intro y hy
  simp only[List.mem_singleton] at hy
  subst hy
  have hz:(Lit.int .i64 0).wf=true:=by decide
  refine⟨Nat.zero_le _,fun j hj=>?_⟩
  match j,hj with
  | 0,_=>exact hz
  | 1,_=>exact hz
  | 2,_=>exact hz
  | 3,_=>exact hz
 case round=>
  obtain⟨k,wv',ws',lf,pre,ev',en',rfl,hwp,hkl,hfu,hlf,hbud,hfine,hfa,hen',hpl,hoth,hkept,hz⟩:=hrel
  have HWP:=hid hwp
  have HFU:=hid hfu
  have HFINE:=hid hfine
  have HA:=hid hfa
  have HEN:=hid hen'
  have HOT:=hid hoth
  have HK:=hid hkept
  have HZ:=hid hz
  clear hwp hfu hfine hfa hen' hoth hkept hz HA3 HK3 HS3
  obtain⟨aw,cw,hvn⟩:=bB HA.out.rw
  subst hvn
  obtain⟨csw,hcw,hfw⟩:=HA.out.cell
  have w0:wr.cell? ⟨F,27,none⟩=some (.slice aw ws'.length cw):=(hcw.cell 27).trans hfw.w
  have l0:wr.cell? ⟨F,18,none⟩=some (.int .i64 lf):=(hcw.cell 18).trans hfw.l
  clear hcw hfw
  have hwl:ws'.length≤6000:=by omega
  by_cases hlt:k<ws'.length
  ·have hki:(k:Int)<(ws'.length:Int):=by omega
   by_cases hneg:0≤lf
   ·have HDR:Hid (ws'.drop k=ws'[k]::ws'.drop (k+1)):=hid (List.drop_eq_getElem_cons hlt)
    obtain⟨g,oo,rfl,hcell⟩:=bY (l:=ws') ru (fun _=>rfl) (aP HA.out.rw HA.out.rw.1) hlt
    obtain⟨y,hy⟩:∃y,ws'[k]=y:=⟨_,rfl⟩
    have HYF:=hid (HFINE.out y (by rw[←hy];exact List.getElem_mem hlt))
    rw[hy] at hcell HDR
    clear hy
    have p0:wr.cell? ⟨g,oo+k*6,none⟩=some (.int .i64 y.e0):=hcell 0 (by decide)
    have p1:wr.cell? ⟨g,oo+k*6+1,none⟩=some (.int .i64 y.e1):=hcell 1 (by decide)
    have p2:wr.cell? ⟨g,oo+k*6+2,none⟩=some (.int .i64 y.e2):=hcell 2 (by decide)
    have p3:wr.cell? ⟨g,oo+k*6+3,none⟩=some (.int .i64 y.e3):=hcell 3 (by decide)
    have p4:wr.cell? ⟨g,oo+k*6+4,none⟩=some (.int .i64 y.bM):=hcell 4 (by decide)
    have p5:wr.cell? ⟨g,oo+k*6+5,none⟩=some (.int .i64 y.at_):=hcell 5 (by decide)
    clear hcell
    have hba:=(Below.refl wr.heap.size wr).alloc (Nat.le_refl _) (.cells #[.int .i64 y.e0,.int .i64 y.e1,.int .i64 y.e2,.int .i64 y.e3,.int .i64 y.bM,.int .i64 y.at_] 361)
    have HA4:=hid (HA.out.later hba)
    have HK4:=hid (HK.out.below hba)
    have HZ4:=hid (HZ.out.alloc (.cells #[.int .i64 y.e0,.int .i64 y.e1,.int .i64 y.e2,.int .i64 y.e3,.int .i64 y.bM,.int .i64 y.at_] 361))
    have HY4:=hid (Loc.new wr #[.int .i64 y.e0,.int .i64 y.e1,.int .i64 y.e2,.int .i64 y.e3,.int .i64 y.bM,.int .i64 y.at_] 361)
    clear hba HA HK HZ
    go_upto_region 7 with fail
    obtain⟨Y,hY⟩:∃Y,Y=wr.heap.size:=⟨_,rfl⟩
    rw[←hY] at HY4⊢
    clear hY p0 p1 p2 p3 p4 p5 w0 l0
    generalize wr.alloc (.cells #[.int .i64 y.e0,.int .i64 y.e1,.int .i64 y.e2,.int .i64 y.e3,.int .i64 y.bM,.int .i64 y.at_] 361)=W4 at HA4 HK4 HZ4 HY4⊢
    have y4:=HY4.out.at_ 4 (.int .i64 y.bM) rfl
    have z3:=HZ4.out.at_ 3 (.int .i64 s.least) rfl
    go_upto_if 70 with fail
    clear y4 z3
    go_cut [] (fun w=>∃(ev2:Nat→Value) (en2:Nat→List Int),gT own F B T fix lf use f mb ev2 en2 (.slice (some ⟨g,oo,none⟩) ws'.length cw) ws' w∧en2 i=en' i++(if s.least≤(y.bM:Int) then [y.at_] else [])∧(∀j,j≠i→en2 j=en j∧ev2 j=ev j)∧Kept own W w∧Loc w Z #[.string s.name,.string s.label,.string s.type,.int .i64 s.least,.int .i64 s.bf] 85∧Loc w Y #[.int .i64 y.e0,.int .i64 y.e1,.int .i64 y.e2,.int .i64 y.e3,.int .i64 y.bM,.int .i64 y.at_] 361)
    case first=>
     by_cases hge:s.least≤(y.bM:Int)
     ·have HGE:=hid hge
      have hsz:(en' i).length≤20000:=by rw[HEN.out,List.length_append];omega
      obtain⟨av,cv,hvn⟩:=bB (HA4.out.re i HI.out)
      obtain⟨cs2,hc2,hf2⟩:=HA4.out.cell
      have e0:W4.cell? ⟨F,21+i,none⟩=some (.slice av (en' i).length cv):=(hc2.cell (21+i)).trans ((hf2.e i HI.out).trans (by rw[hvn]))
      have y5:=HY4.out.at_ 5 (.int .i64 y.at_) rfl
      have HD:=hid (HA4.out.later ((Below.refl _ _).alloc (Nat.le_refl _) (.cells #[.int .i64 y.at_] 3))).drew
      have HKD:Hid (Kept own W ((W4.alloc (.cells #[.int .i64 y.at_] 3)).drew)):=hid (by have:=HK4.out.below ((Below.refl _ _).alloc (Nat.le_refl _) (.cells #[.int .i64 y.at_] 3));exact⟨this.os,this.tape,this.output,this.size,this.block⟩)
      have HRE:Hid (((W4.alloc (.cells #[.int .i64 y.at_] 3)).drew).ownsRow 0 3 1 (.slice av (en' i).length cv) (en' i).length ((en' i).map (Value.int .i64))):=hid (by have:=HD.out.re i HI.out;rwa [hvn] at this)
      have HOB:Hid ((ev' i).ownBlock=(Value.slice av (en' i).length cv).ownBlock):=hid (by rw[hvn])
      have HLD:Hid (Loc ((W4.alloc (.cells #[.int .i64 y.at_] 3)).drew) F cs2 263):=hid (hc2.alloc (.cells #[.int .i64 y.at_] 3))
      have HZD:Hid (Loc ((W4.alloc (.cells #[.int .i64 y.at_] 3)).drew) Z #[.string s.name,.string s.label,.string s.type,.int .i64 s.least,.int .i64 s.bf] 85):=hid (HZ4.out.alloc (.cells #[.int .i64 y.at_] 3))
      have HYD:Hid (Loc ((W4.alloc (.cells #[.int .i64 y.at_] 3)).drew) Y #[.int .i64 y.e0,.int .i64 y.e1,.int .i64 y.e2,.int .i64 y.e3,.int .i64 y.bM,.int .i64 y.at_] 361):=hid (HY4.out.alloc (.cells #[.int .i64 y.at_] 3))
      have e1:(W4.alloc (.cells #[.int .i64 y.at_] 3)).cell? ⟨F,21+i,none⟩=some (.slice av (en' i).length cv):=(HLD.out.cell (21+i)).trans ((hf2.e i HI.out).trans (by rw[hvn]))
      have HEE:=hid ((hf2.e i HI.out).trans (by rw[hvn]):cs2[21+i]?=some (.slice av (en' i).length cv))
      have hi6:=HI.out
      have hi6':(i:Int)<6:=by omega
      clear hvn hc2 hf2 HA4 HK4 HZ4 HY4
      go_upto_region 8 with fail
      go_region_law (go_must (refine step_append_lies _ rfl _ _ 53 rfl 0 3 i1 (.int .i64 0) 1 8 Tryz.underlying53 hi1 hy0 hy1 hy2 rfl (by decide) (.slice av (en' i).length cv) _ _ (by simp[Act.eval]) HRE.out ⟨W4.heap.size,0,none⟩ 1 1 [.int .i64 y.at_] (by simp[Act.eval]) rfl (World.news_of_block (heap_alloc_new W4 _)) B6 (by omega) (by unfold maxLen;omega) (by omega) (Nat.zero_le _) _ rfl ?_);intro g2 cap2 w5 hown hgrow hlies _;have HLW:=HLD.out.fs HRE.out hgrow (by decide);have c5:w5.cell? ⟨F,21+i,none⟩=some (.slice av (en' i).length cv):=(HLW.cell (21+i)).trans HEE.out;have f5:w5.frozen? ⟨F,21+i,none⟩=false:=HLW.free (21+i);have HG5:=hid hgrow;have HO5:=hid hown;have HLI:=hid hlies;have HLW5:=hid HLW;clear HLW hown hgrow hlies)
      all_goals
       go_wp2_with fail
       go_meet
       have hE:=HD.out.ended (i:=i) (x:=y.at_) HI.out (by rw[HOB.out];exact HG5.out) HO5.out (by rw[HOB.out];exact HLI.out) (fun b hb=>HOWN.out b (Nat.le_trans HKD.out.size hb))
       have hz5:=HZD.out.fs HRE.out HG5.out (by decide)
       have hy5:=HYD.out.fs HRE.out HG5.out (by decide)
       refine⟨_,_,hE,?_,fun j hj=>?_,?_,hz5.setOther (kR hz5 HLW5.out (by decide)) _ _,hy5.setOther (kR hy5 HLW5.out (by decide)) _ _⟩
       ·unfold pU
        rw[if_pos rfl,if_pos HGE.out]
       ·unfold pU pd
        rw[if_neg hj,if_neg hj]
        exact HOT.out j hj
       ·refine(HKD.out.then HG5.out (fun b hb=>Or.inl (HD.out.dH.2.2.2.1 i HI.out b (by rw[HOB.out];exact hb)))).then (aC w5 F (21+i) _) (fun b hb=>?_)
        injection hb with hb
        rw[←hb]
        exact Or.inl HD.out.dH.1
     ·have HGE:=hid hge
      go_wp2_with fail
      go_meet
      exact⟨ev',en',HA4.out,by rw[if_neg (by have:=HGE.out;omega)];simp,HOT.out,HK4.out,HZ4.out,HY4.out⟩
    case rest=>
     obtain⟨ev2,en2,ha5,he5,ho5,hk5,hz5,hy5⟩:=hcut
     have HA5:=hid ha5
     have HE5:=hid he5
     have HO5:=hid ho5
     have HK5:=hid hk5
     have HZ5:=hid hz5
     have HY5:=hid hy5
     clear ha5 he5 ho5 hk5 hz5 hy5 HA4 HK4 HZ4 HY4
     have y4:=HY5.out.at_ 4 (.int .i64 y.bM) rfl
     have z4:=HZ5.out.at_ 4 (.int .i64 s.bf) rfl
     obtain⟨n',hn'⟩:∃n',gk=n'+1:=⟨gk - 1,by have:=HFU.out;omega⟩
     have HGK:=hid hn'
     clear hn'
     by_cases hmo:(y.bM:Int)<s.bf
     ·have HMO:=hid hmo
      have y0:=HY5.out.at_ 0 (.int .i64 y.e0) rfl
      have y1:=HY5.out.at_ 1 (.int .i64 y.e1) rfl
      have y2:=HY5.out.at_ 2 (.int .i64 y.e2) rfl
      have y3:=HY5.out.at_ 3 (.int .i64 y.e3) rfl
      have y5:=HY5.out.at_ 5 (.int .i64 y.at_) rfl
      have z2:=HZ5.out.at_ 2 (.string s.type) rfl
      have HWO:Hid (Cp y):=hid ⟨by have h1:=HSF.out.2.2.2.2.2;have h2:=HMO.out;omega,HYF.out.2⟩
      go_wp2_with fail
      refine(Kz (own:=fun b=>own b∧b≠Z) (x:=y) (kind:=s.type) (HA5.out.narrow HZ5.out (by decide) (by decide) (by decide)) HG.out ((HST.out.on HK5.out).narrow (fun b hb=>hb.1)) HWO.out ⟨hneg,by omega⟩ (by omega) (fun b hb=>⟨HOWN.out b (Nat.le_trans HK5.out.size hb),fun e=>by have:=HZ5.out.lt;omega⟩)).mono ?_
      rintro e W6 ⟨rfl,wv6,ha6,hk6⟩
      have HA6:=hid (ha6.kt (own:=own) (fun b hb=>hb.1))
      have HK6:=hid (HK5.out.trans (hk6.kt (fun b hb=>hb.1)))
      have HZ6:Hid (Loc W6 Z #[.string s.name,.string s.label,.string s.type,.int .i64 s.least,.int .i64 s.bf] 85):=hid ((hk6.block Z HZ5.out.lt (fun e=>e.2 rfl)).trans HZ5.out)
      have HGL:=hid (rz y s.type es 0 lf hneg)
      have HGF:=hid (sX s.type HWO.out es 0 lf (by have:=(HST.out.on HK5.out).qm.rF.2;omega))
      clear ha6 hk6 y0 y1 y2 y3 y4 y5 z2 z4 HA5 HK5 HZ5 HY5
      go_wp2_with fail
      go_roundg n'
      case rel=>
       refine⟨k+1,wv6,_,_,pre++(if s.least≤(y.bM:Int) then [y.at_] else []),ev2,en2,by simp,?_,?_,?_,?_,?_,?_,HA6.out,by rw[HE5.out,HEN.out];simp,?_,HO5.out,HK6.out,HZ6.out⟩
       ·rw[HWP.out,HDR.out,HGK.out]
        have hd:(ws'++(lL y s.type 0 es lf).1).drop (k+1)=ws'.drop (k+1)++(lL y s.type 0 es lf).1:=by rw[List.drop_append_of_le_length (by omega)]
        rw[hd]
        simp only[eY,if_neg (show ¬lf<0 by omega),if_pos HMO.out]
        simp
       ·rw[List.length_append];omega
       ·have h1:=HFU.out
        have h2:=HGK.out
        rw[List.length_append]
        rcases HGL.out with ⟨a,b⟩|⟨a,b⟩<;>omega
       ·rcases HGL.out with ⟨a,b⟩|⟨a,b⟩<;>omega
       ·rw[List.length_append]
        rcases HGL.out with ⟨a,b⟩|⟨a,b⟩<;>omega
       ·intro z hz
        rcases List.mem_append.1 hz with hz|hz
        ·exact HFINE.out z hz
        ·exact HGF.out z hz
       ·rw[List.length_append]
        split<;>simp<;>omega
      case measure=>have:=HGK.out;omega
     ·have HMO:=hid hmo
      go_wp2_with fail
      go_roundg n'
      case rel=>
       refine⟨k+1,_,ws',lf,pre++(if s.least≤(y.bM:Int) then [y.at_] else []),ev2,en2,by simp,?_,by omega,?_,hlf,hbud,HFINE.out,HA5.out,by rw[HE5.out,HEN.out];simp,?_,HO5.out,HK5.out,HZ5.out⟩
       ·rw[HWP.out,HDR.out,HGK.out]
        simp only[eY,if_neg (show ¬lf<0 by omega),if_neg (show ¬(y.bM:Int)<s.bf by have:=HMO.out;omega)]
        simp
       ·have h1:=HFU.out
        have h2:=HGK.out
        omega
       ·rw[List.length_append]
        split<;>simp<;>omega
      case measure=>have:=HGK.out;omega
   ·have hnegi:¬0≤lf:=hneg
    have hlneg:lf<0:=by omega
    have HE:Hid (eY es s.type s.least s.bf (left.toNat+2) [⟨0,0,0,0,0,fr⟩] left=(pre,lf)):=hid (by rw[HWP.out,List.drop_eq_getElem_cons hlt];cases gk<;>simp[eY,hlneg])
    clear hlneg
    go_wp2_with fail
    go_end0
    exact⟨rfl,ev',en',⟨_,_,by rw[HFR.out,HE.out];exact HA.out⟩,by rw[HFR.out,HE.out];exact HEN.out,HOT.out,HK.out⟩
  ·have hki:¬(k:Int)<(ws'.length:Int):=by omega
   have HE:Hid (eY es s.type s.least s.bf (left.toNat+2) [⟨0,0,0,0,0,fr⟩] left=(pre,lf)):=hid (by rw[HWP.out,List.drop_of_length_le (by omega)];cases gk<;>simp[eY])
   go_wp2_with fail
   go_end0
   exact⟨rfl,ev',en',⟨_,_,by rw[HFR.out,HE.out];exact HA.out⟩,by rw[HFR.out,HE.out];exact HEN.out,HOT.out,HK.out⟩
end
section
open Go.RowKit Go.Maps
structure ed (gb go:Nat) (T:TypeId) (cs:Array Value) (vn ve:Value) (ns:List aq) (es:List aJ) (last:Int) (m:Nat) (W:World):Prop where
 bZ:Loc W gb cs T
 c0:cs[go]?=some vn
 c1:cs[go+1]?=some ve
 c2:cs[go+2]?=some (.int .i64 last)
 on:W.ownsRow 0 139 3 vn ns.length (ns.flatMap eD)
 oe:W.ownsRow 0 142 3 ve es.length (es.flatMap fL)
 aW:∀x∈ns,bF W x.bZ m x.aW
 apart:(ns.map (·.bZ)).Nodup
 gh:ns.Pairwise (fun a b=>a.num<b.num)
 top:∀x∈ns,x.num≤last
 kT:139≠T∧142≠T
variable {gb go m:Nat} {T:TypeId} {cs:Array Value} {vn ve:Value} {ns:List aq} {es:List aJ} {last:Int} {W w:World}
theorem ed.later (h:ed gb go T cs vn ve ns es last m W) (hb:Below W.heap.size W w):ed gb go T cs vn ve ns es last m w:=
 ⟨h.bZ.grown (af hb none) (by simp),h.c0,h.c1,h.c2,h.on.kept (af hb none) (by cases vn.ownBlock<;>simp),h.oe.kept (af hb none) (by cases ve.ownBlock<;>simp),fun x hx=>(h.aW x hx).kept (af hb none) (by simp),h.apart,h.gh,h.top,h.kT⟩
theorem ed.drew (h:ed gb go T cs vn ve ns es last m W):ed gb go T cs vn ve ns es last m W.drew:=⟨h.bZ,h.c0,h.c1,h.c2,h.on,h.oe,h.aW,h.apart,h.gh,h.top,h.kT⟩
def rq (W:World) (v v':Value):Prop:=∀b,v'.ownBlock=some b→v.ownBlock=some b∨W.heap.size≤b
theorem ed.linked {v':Value} {x:aJ} (h:ed gb go T cs vn ve ns es last m W) (hg:W.grownBy w ve.ownBlock) (ho:w.ownsRow 0 142 3 v' (es.length+1) (es.flatMap fL++fL x)) (hs:go+2<cs.size):
  ed gb go T (cs.setIfInBounds (go+1) v') vn v' ns (es++[x]) last m (w.setCell ⟨gb,go+1,none⟩ v'):=by
 have hl:=h.bZ.fs h.oe hg h.kT.2
 have g2:=aC w gb (go+1) v'
 have hn':=h.on.kept hg (gm h.on h.oe (by decide))
 refine⟨hl.set (go+1) v',?_,?_,?_,hn'.kept g2 (Or.inr (fun e=>aQ hn' hl h.kT.1 e)),?_,fun y hy=>?_,h.apart,h.gh,h.top,h.kT⟩
 ·rw[Array.getElem?_setIfInBounds,if_neg (by omega)];exact h.c0
 ·rw[Array.getElem?_setIfInBounds,if_pos rfl,if_pos (by omega)]
 ·rw[Array.getElem?_setIfInBounds,if_neg (by omega)];exact h.c2
 ·have e1:(es++[x]).length=es.length+1:=by simp
  have e2:(es++[x]).flatMap fL=es.flatMap fL++fL x:=by simp
  rw[e1,e2]
  exact ho.kept g2 (Or.inr (fun e=>aQ ho hl h.kT.2 e))
 ·have hy':=(h.aW y hy).kept hg ((h.aW y hy).eh h.oe)
  exact hy'.kept g2 (by intro e;injection e with e;exact hy'.aV hl e)
theorem Kl {ty:ByteArray} {src dst:Int} (h:ed gb go T cs vn ve ns es last m W) (hs:go+2<cs.size) (hf:es.length≤1000000):
  Calls Tryz.prog 260 #[.pointer (some ⟨gb,go,none⟩),.string ty,.int .i64 src,.int .i64 dst] W fun e W'=>e=.returned (.tuple #[])∧∃ve',ed gb go T (cs.setIfInBounds (go+1) ve') vn ve' ns (es++[⟨ty,src,dst⟩]) last m W'∧Kept (fun b=>b=gb∨ve.ownBlock=some b) W W'∧rq W ve ve':=by
 obtain⟨i1,hj,hy0,hy1,hy2⟩:=info_parts Tryz.xC
 obtain⟨av,cv,hvn⟩:=bB h.oe
 subst hvn
 have c1:W.cell? ⟨gb,go+1,none⟩=some (.slice av es.length cv):=(h.bZ.cell (go+1)).trans h.c1
 have HD:=hid (h.later ((Below.refl _ _).alloc (Nat.le_refl _) (.cells #[.string ty,.int .i64 src,.int .i64 dst] 142)))
 have HK:=hid ((Kept.refl (fun b=>b=gb∨(Value.slice av es.length cv).ownBlock=some b) W).below ((Below.refl _ _).alloc (Nat.le_refl _) (.cells #[.string ty,.int .i64 src,.int .i64 dst] 142)))
 have HS:=hid hs
 clear h hs
 go_enter Tryz.func260,Tryz.ntmps260
 go_wp2_with (at_builtin;go_must (refine wpList_append_lies _ rfl _ _ 124 rfl 0 142 i1 (.agg #[.string ⟨#[]⟩,.int .i64 0,.int .i64 0]) 3 32 Tryz.underlying124 hj hy0 hy1 hy2 rfl (by decide) (.slice av es.length cv) _ _ (by simp[Act.eval]) HD.out.oe ⟨W.heap.size,0,none⟩ 1 1 [.string ty,.int .i64 src,.int .i64 dst] (by simp[Act.eval]) rfl (World.news_of_block (heap_alloc_new W _)) (zw ⟨ty,src,dst⟩) (by omega) (by unfold maxLen;omega) (by omega) (Nat.zero_le _) _ rfl ?_);intro g2 cap2 w5 hown hgrow hlies _;have HLI:=hid hlies;clear hlies;have HLW:=HD.out.bZ.fs HD.out.oe hgrow HD.out.kT.2;have c5:w5.cell? ⟨gb,go+1,none⟩=some (.slice av es.length cv):=(HLW.cell (go+1)).trans HD.out.c1;have f5:w5.frozen? ⟨gb,go+1,none⟩=false:=HLW.free (go+1);have HG5:=hid hgrow;have HO5:=hid hown;clear HLW hown hgrow)
 go_end0
 refine⟨rfl,_,HD.out.linked (x:=⟨ty,src,dst⟩) HG5.out HO5.out HS.out,?_,fun b hb=>?_⟩
 ·exact(HK.out.then HG5.out (fun b hb=>Or.inl (Or.inr hb))).then (aC w5 gb (go+1) _) (fun b hb=>Or.inl (Or.inl (by injection hb with hb;exact hb.symm)))
 ·injection hb with hb
  have hb:g2=b:=hb
  rcases HLI.out with h2|h2
  ·exact Or.inl (by rw[h2,hb])
  ·refine Or.inr ?_
   rw[World.size_alloc] at h2
   omega
theorem ed.next (h:ed gb go T cs vn ve ns es last m W) (hs:go+2<cs.size):ed gb go T (cs.setIfInBounds (go+2) (.int .i64 (last+1))) vn ve ns es (last+1) m (W.setCell ⟨gb,go+2,none⟩ (.int .i64 (last+1))):=by
 have g2:=aC W gb (go+2) (.int .i64 (last+1))
 refine⟨h.bZ.set (go+2) _,?_,?_,?_,h.on.kept g2 (Or.inr (fun e=>aQ h.on h.bZ h.kT.1 e)),h.oe.kept g2 (Or.inr (fun e=>aQ h.oe h.bZ h.kT.2 e)),fun y hy=>(h.aW y hy).kept g2 (by intro e;injection e with e;exact(h.aW y hy).aV h.bZ e),h.apart,h.gh,fun x hx=>by have:=h.top x hx;omega,h.kT⟩
 ·rw[Array.getElem?_setIfInBounds,if_neg (by omega)];exact h.c0
 ·rw[Array.getElem?_setIfInBounds,if_neg (by omega)];exact h.c1
 ·rw[Array.getElem?_setIfInBounds,if_pos rfl,if_pos (by omega)]
theorem ed.Ep {v':Value} {x:aq} (h:ed gb go T cs vn ve ns es last m W) (hp:bF W x.bZ m x.aW) (hnew:∀y∈ns,y.bZ≠x.bZ) (hlt:∀y∈ns,y.num<x.num) (hle:x.num≤last) (hg:W.grownBy w vn.ownBlock) (ho:w.ownsRow 0 139 3 v' (ns.length+1) (ns.flatMap eD++eD x)) (hs:go+2<cs.size):
  ed gb go T (cs.setIfInBounds go v') v' ve (ns++[x]) es last m (w.setCell ⟨gb,go,none⟩ v'):=by
 have hl:=h.bZ.fs h.on hg h.kT.1
 have g2:=aC w gb go v'
 have he':=h.oe.kept hg (gm h.oe h.on (by decide))
 have hk:∀{y:aq},bF W y.bZ m y.aW→bF (w.setCell ⟨gb,go,none⟩ v') y.bZ m y.aW:=fun {y} hy=>by
  have hy':=hy.kept hg (hy.eh h.on)
  exact hy'.kept g2 (by intro e;injection e with e;exact hy'.aV hl e)
 refine⟨hl.set go v',?_,?_,?_,?_,he'.kept g2 (Or.inr (fun e=>aQ he' hl h.kT.2 e)),fun y hy=>?_,?_,?_,fun y hy=>?_,h.kT⟩
 ·rw[Array.getElem?_setIfInBounds,if_pos rfl,if_pos (by omega)]
 ·rw[Array.getElem?_setIfInBounds,if_neg (by omega)];exact h.c1
 ·rw[Array.getElem?_setIfInBounds,if_neg (by omega)];exact h.c2
 ·have e1:(ns++[x]).length=ns.length+1:=by simp
  have e2:(ns++[x]).flatMap eD=ns.flatMap eD++eD x:=by simp
  rw[e1,e2]
  exact ho.kept g2 (Or.inr (fun e=>aQ ho hl h.kT.1 e))
 ·rcases List.mem_append.1 hy with hy|hy
  ·exact hk (h.aW y hy)
  ·simp only[List.mem_singleton] at hy
   subst hy
   exact hk hp
 ·rw[List.map_append,List.nodup_append]
  refine⟨h.apart,by simp,?_⟩
  intro a ha b hb
  simp only[List.map_cons,List.map_nil,List.mem_singleton] at hb
  obtain⟨y,hy,rfl⟩:=List.mem_map.1 ha
  rw[hb]
  exact hnew y hy
 ·rw[List.pairwise_append]
  refine⟨h.gh,by simp,fun a ha b hb=>?_⟩
  simp only[List.mem_singleton] at hb
  subst hb
  exact hlt a ha
 ·rcases List.mem_append.1 hy with hy|hy
  ·exact h.top y hy
  ·simp only[List.mem_singleton] at hy
   subst hy
   exact hle
theorem EG {lb:ByteArray} {pb:Nat} {pf:ByteArray→Option Int} (h:ed gb go T cs vn ve ns es last m W) (hs:go+2<cs.size) (hf:ns.length≤1000000) (hl:0≤last∧last≤1000000000) (hp:bF W pb m pf) (hnew:∀y∈ns,y.bZ≠pb):
  Calls Tryz.prog 258 #[.pointer (some ⟨gb,go,none⟩),.string lb,.map (some pb)] W fun e W'=>e=.returned (.int .i64 (last+1))∧∃vn' cs',ed gb go T cs' vn' ve (ns++[⟨last+1,lb,pb,pf⟩]) es (last+1) m W'∧cs'.size=cs.size∧(∀j,j≠go→j≠go+2→cs'[j]?=cs[j]?)∧Kept (fun b=>b=gb∨vn.ownBlock=some b) W W'∧rq W vn vn':=by
 obtain⟨i0,hi,hz0,hz1,hz2⟩:=info_parts Tryz.yh
 obtain⟨av,cv,hvn⟩:=bB h.on
 subst hvn
 have c2:W.cell? ⟨gb,go+2,none⟩=some (.int .i64 last):=(h.bZ.cell (go+2)).trans h.c2
 have f2:=h.bZ.free (go+2)
 have H1:=hid (h.next hs)
 have HP1:=hid (hp.kept (aC W gb (go+2) (.int .i64 (last+1))) (by intro e;injection e with e;exact hp.aV h.bZ e))
 have HK1:=hid ((Kept.refl (fun b=>b=gb∨(Value.slice av ns.length cv).ownBlock=some b) W).then (aC W gb (go+2) (.int .i64 (last+1))) (fun b hb=>Or.inl (Or.inl (by injection hb with hb;exact hb.symm))))
 have HT:=hid h.top
 have HS:=hid hs
 have HN:=hid hnew
 have h1:=hl.1
 have h2:=hl.2
 clear h hs hp hnew hl
 go_enter Tryz.func258,Tryz.ntmps258
 go_upto_region 2 with fail
 clear c2 f2
 generalize W.setCell ⟨gb,go+2,none⟩ (.int .i64 (last+1))=W1 at H1 HP1 HK1⊢
 have c0:W1.cell? ⟨gb,go,none⟩=some (.slice av ns.length cv):=(H1.out.bZ.cell go).trans H1.out.c0
 have c2:W1.cell? ⟨gb,go+2,none⟩=some (.int .i64 (last+1)):=(H1.out.bZ.cell (go+2)).trans H1.out.c2
 have HD:=hid (H1.out.later ((Below.refl _ _).alloc (Nat.le_refl _) (.cells #[.int .i64 (last+1),.string lb,.map (some pb)] 139))).drew
 have hpd:=HP1.out.kept (ar W1 (.cells #[.int .i64 (last+1),.string lb,.map (some pb)] 139) none) (by simp)
 have HPD:Hid (bF ((W1.alloc (.cells #[.int .i64 (last+1),.string lb,.map (some pb)] 139)).drew) pb m pf):=hid hpd
 have HKD:Hid (Kept (fun b=>b=gb∨(Value.slice av ns.length cv).ownBlock=some b) W ((W1.alloc (.cells #[.int .i64 (last+1),.string lb,.map (some pb)] 139)).drew)):=hid (by have:=HK1.out.below ((Below.refl _ _).alloc (Nat.le_refl _) (.cells #[.int .i64 (last+1),.string lb,.map (some pb)] 139));exact⟨this.os,this.tape,this.output,this.size,this.block⟩)
 have ca0:(W1.alloc (.cells #[.int .i64 (last+1),.string lb,.map (some pb)] 139)).cell? ⟨gb,go,none⟩=some (.slice av ns.length cv):=(HD.out.bZ.cell go).trans HD.out.c0
 have ca2:(W1.alloc (.cells #[.int .i64 (last+1),.string lb,.map (some pb)] 139)).cell? ⟨gb,go+2,none⟩=some (.int .i64 (last+1)):=(HD.out.bZ.cell (go+2)).trans HD.out.c2
 have HSS:Hid (go+2<(cs.setIfInBounds (go+2) (.int .i64 (last+1))).size):=hid (by have:=HS.out;simpa using this)
 clear hpd H1 HP1 HK1
 go_region_law (go_must (refine step_append_lies _ rfl _ _ 123 rfl 0 139 i0 (.agg #[.int .i64 0,.string ⟨#[]⟩,.map none]) 3 32 Tryz.underlying123 hi hz0 hz1 hz2 rfl (by decide) (.slice av ns.length cv) _ _ (by simp[Act.eval]) HD.out.on ⟨W1.heap.size,0,none⟩ 1 1 [.int .i64 (last+1),.string lb,.map (some pb)] (by simp[Act.eval]) rfl (World.news_of_block (heap_alloc_new W1 _)) (xS ⟨last+1,lb,pb,pf⟩) (by omega) (by unfold maxLen;omega) (by omega) (Nat.zero_le _) _ rfl ?_);intro g2 cap2 w5 hown hgrow hlies _;have HLI:=hid hlies;clear hlies;have HLW:=HD.out.bZ.fs HD.out.on hgrow HD.out.kT.1;have c5:w5.cell? ⟨gb,go,none⟩=some (.slice av ns.length cv):=(HLW.cell go).trans HD.out.c0;have f5:w5.frozen? ⟨gb,go,none⟩=false:=HLW.free go;have HG5:=hid hgrow;have H5:=hid (HD.out.Ep (x:=⟨last+1,lb,pb,pf⟩) HPD.out HN.out (fun y hy=>by have:=HT.out y hy;simp only;omega) (Int.le_refl _) hgrow hown HSS.out);clear HLW hown hgrow)
 all_goals
  have c6:(w5.setCell ⟨gb,go,none⟩ (.slice (some ⟨g2,0,none⟩) (ns.length+1) cap2)).cell? ⟨gb,go+2,none⟩=some (.int .i64 (last+1)):=(H5.out.bZ.cell (go+2)).trans H5.out.c2
  go_wp2_with fail
  go_ret
  refine⟨rfl,_,_,H5.out,by simp,fun j hj1 hj2=>?_,?_,fun b hb=>?_⟩
  ·rw[Array.getElem?_setIfInBounds,if_neg (fun e=>hj1 e.symm),Array.getElem?_setIfInBounds,if_neg (fun e=>hj2 e.symm)]
  ·exact(HKD.out.then HG5.out (fun b hb=>Or.inl (Or.inr hb))).then (aC w5 gb go _) (fun b hb=>Or.inl (Or.inl (by injection hb with hb;exact hb.symm)))
  ·injection hb with hb
   have hb:g2=b:=hb
   rcases HLI.out with h2|h2
   ·exact Or.inl (by rw[h2,hb])
   ·refine Or.inr ?_
    have h3:=HKD.out.size
    have h4:g2=((W1.alloc (.cells #[.int .i64 (last+1),.string lb,.map (some pb)] 139)).drew).heap.size:=h2
    omega
end
end Go.Proofs.YtobgbmfpicmpcaaGreatDoor
