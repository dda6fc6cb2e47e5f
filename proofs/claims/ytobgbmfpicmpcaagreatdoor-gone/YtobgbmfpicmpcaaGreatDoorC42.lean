/- Reads of the graph that made left. -/
import Derived.Test.YtobgbmfpicmpcaaGreatDoorC41
import Derived.Test.YtobgbmfpicmpcaaGreatDoorC05
import Derived.Test.YtobgbmfpicmpcaaGreatDoorC38
import Derived.Lib.Hide
set_option maxRecDepth 100000
set_option maxHeartbeats 8000000
namespace Go.Proofs.YtobgbmfpicmpcaaGreatDoor
open Go.Lib (hid)
section
open Go.RowKit Go.Maps Go.Sort
def Ci (f:Row):Prop:=∀s,(Lit.int .i64 ((f s).getD 0)).wf=true
theorem Lf:(Lit.int .i64 (0:Int)).wf=true:=by decide
theorem sI {rec:mA→mA} {skip:Int→Bool} {name:ByteArray} (hrec:∀st,Ci st.f→(∀r∈st.rows,Ci r)→Ci (rec st).f∧∀r∈(rec st).rows,Ci r):∀(xs:List Int) (st:mA),(∀x∈xs,(Lit.int .i64 x).wf=true)→Ci st.f→(∀r∈st.rows,Ci r)→Ci (fw rec skip name xs st).1.f∧∀r∈(fw rec skip name xs st).1.rows,Ci r
 | [],st,_,h1,h2=>by simp only[fw];exact⟨h1,h2⟩
 | e::r,st,hx,h1,h2=>by
  have hx':=fun x hxx=>hx x (List.mem_cons_of_mem _ hxx)
  unfold fw
  split
  ·exact sI hrec r st hx' h1 h2
  ·split
   ·have hf:Ci (fD st.f name (some e)):=by
     intro s
     unfold fD
     split
     ·exact hx e List.mem_cons_self
     ·exact h1 s
    obtain⟨a,b⟩:=hrec ⟨st.left - 1,fD st.f name (some e),st.rows⟩ hf h2
    exact sI hrec r _ hx' a b
   ·exact⟨h1,h2⟩
theorem sd (ns:List aq) (es:List aJ) (cl:List bP) (hn:∀x∈ns,(Lit.int .i64 x.num).wf=true) (he:∀e∈es,(Lit.int .i64 e.dst).wf=true):∀(r:List aN) (prev:ByteArray) (st:mA),Ci st.f→(∀x∈st.rows,Ci x)→Ci (bH ns es cl r prev st).f∧∀x∈(bH ns es cl r prev st).rows,Ci x
 | [],prev,st,h1,h2=>by
  unfold bH
  split
  ·refine⟨h1,fun x hx=>?_⟩
   rcases List.mem_append.1 hx with hx|hx
   ·exact h2 x hx
   ·rw[List.mem_singleton.1 hx];exact h1
  ·exact⟨h1,h2⟩
 | s::r,prev,st,h1,h2=>by
  have hl:=sI (skip:=qX ns s (st.f s.name)) (name:=s.name) (fun t a b=>sd ns es cl hn he r s.name t a b) (fC ns es s ((st.f prev).getD 0) st.left).1 ⟨(fC ns es s ((st.f prev).getD 0) st.left).2,st.f,st.rows⟩ (vw hn he (fun _=>h1 prev)) h1 h2
  simp only[bH]
  split
  ·exact hl
  ·split
   ·exact hl
   ·refine⟨fun t=>?_,hl.2⟩
    simp only
    unfold fD
    split
    ·exact Lf
    ·exact hl.1 t
theorem CK {ns:List aq} {es:List aJ} {q:au} {b:Int} (hn:∀x∈ns,(Lit.int .i64 x.num).wf=true) (he:∀e∈es,(Lit.int .i64 e.dst).wf=true):∀x∈(aR ns es q b).rows,Ci x:=
 (sd ns es q.conds hn he q.ai ⟨#[]⟩ ⟨b,jN,[]⟩ (fun _=>Lf) (fun x hx=>by cases hx)).2
theorem qG.seen {g:oJ} (h:qG g) (S:aI→Bool):(∀x∈gq S g.ns,(Lit.int .i64 x.num).wf=true)∧∀e∈jS S g.ns g.es,(Lit.int .i64 e.dst).wf=true:=by
 refine⟨fun x hx=>?_,fun e he=>(h.ends e (List.mem_filter.1 he).1).2⟩
 unfold gq dP at hx
 obtain⟨t,ht,rfl⟩:=List.mem_map.1 hx
 obtain⟨y,hy,rfl⟩:=List.mem_map.1 ht
 exact h.num y (List.mem_filter.1 hy).1
theorem FF {ns:List aq} {n:Int} {k:ByteArray} {v:Option Int} {P:aq→Prop} (hP:∀x pr,P x→P {x with aW:=pr}) (h:∀x∈ns,P x):∀x∈iQ ns n k v,P x:=by
 intro x hx
 unfold iQ at hx
 obtain⟨y,hy,rfl⟩:=List.mem_map.1 hx
 split
 ·exact hP y _ (h y hy)
 ·exact h y hy
theorem qF {sn:List aq} {q:au} {P:aq→Prop} (hP:∀x pr,P x→P {x with aW:=pr}):∀(l:List Int) (ns:List aq),(∀x∈ns,P x)→∀x∈dh sn q ns l,P x
 | [],_,h=>h
 | _::r,_,h=>qF hP r _ (FF hP h)
theorem xf {S:aI→Bool} {g:oJ} {q:au} {b:Int} (h:qG g) (hl:g.last<1000000) (hq:mM q∨kz q∨km q∨iS q):qG (tA S g q b).2.2∧(tA S g q b).2.2.last≤g.last+1:=by
 have hsame:qG g∧g.last≤g.last+1:=⟨h,by omega⟩
 unfold tA
 rcases hq with hq|hq|hq|hq
 ·rw[(qj hq).2.1,if_neg (by decide),if_neg (by decide),if_pos rfl]
  unfold D8
  split
  ·split
   ·exact⟨⟨by simp only;rw[oP];exact h.n40,h.GQ,qF (P:=fun x=>x.label.size≤maxLen) (fun _ _ h=>h) _ _ h.wy,h.ty,qF (P:=fun x=>(Lit.int .i64 x.num).wf=true) (fun _ _ h=>h) _ _ h.num,h.ends,h.last⟩,hsame.2⟩
   ·exact hsame
  ·exact hsame
 ·rw[(ol hq).2.1,if_neg (by decide),if_neg (by decide),if_neg (by decide)]
  unfold BK
  split
  ·split
   ·exact⟨⟨Nat.le_trans (List.length_filter_le _ _) h.n40,Nat.le_trans (List.length_filter_le _ _) h.GQ,fun x hx=>h.wy x (List.mem_filter.1 hx).1,fun x hx=>h.ty x (List.mem_filter.1 hx).1,fun x hx=>h.num x (List.mem_filter.1 hx).1,fun x hx=>h.ends x (List.mem_filter.1 hx).1,h.last⟩,hsame.2⟩
   ·exact hsame
  ·exact hsame
 ·obtain⟨_,a2,_,_,a5⟩:=og hq
  rw[a2,if_neg (by decide),if_pos rfl]
  unfold BL
  split
  ·split
   ·split
    ·rename_i hle
     have hw:=CK (q:=q) (b:=b) (h.seen S).1 (h.seen S).2
     refine⟨⟨h.n40,?_,h.wy,fun x hx=>?_,h.num,fun x hx=>?_,h.last⟩,hsame.2⟩
     ·simp only
      rw[List.length_append,List.length_map]
      exact hle
     ·rcases List.mem_append.1 hx with hx|hx
      ·exact h.ty x hx
      ·obtain⟨p,_,rfl⟩:=List.mem_map.1 hx
       exact a5
     ·rcases List.mem_append.1 hx with hx|hx
      ·exact h.ends x hx
      ·obtain⟨p,hp,rfl⟩:=List.mem_map.1 hx
       unfold jb at hp
       have h1:=kF.1 ((fJ _ _).subset hp)
       unfold jQ at h1
       obtain⟨f,hf,rfl⟩:=List.mem_map.1 h1
       exact⟨hw f hf _,hw f hf _⟩
    ·exact hsame
   ·exact hsame
  ·exact hsame
 ·obtain⟨a1,a2,_,_⟩:=mQ hq
  rw[a1,if_pos rfl]
  unfold ER
  split
  ·rename_i hm
   have hla:=h.last
   have hlt:¬40≤g.ns.length:=by
    intro h40
    unfold iH at hm
    split at hm
    ·cases hm
    ·split at hm
     ·first|cases hm|(rw[if_pos h40] at hm;cases hm)
     ·cases hm
   refine⟨⟨?_,h.GQ,fun x hx=>?_,h.ty,fun x hx=>?_,h.ends,by simp only;omega⟩,by simp only;omega⟩
   ·simp only
    rw[List.length_append,List.length_singleton]
    omega
   ·rcases List.mem_append.1 hx with hx|hx
    ·exact h.wy x hx
    ·rw[List.mem_singleton.1 hx];exact a2
   ·rcases List.mem_append.1 hx with hx|hx
    ·exact h.num x hx
    ·rw[List.mem_singleton.1 hx];exact WalkArith.wf_i64 ⟨by simp only;omega,by simp only;omega⟩
  ·exact hsame
theorem BE {pol:List cU} {g:oJ} {role text:ByteArray} {b:Int} (h:qG g) (hl:g.last<1000000):qG (lK pol g role text b).2∧(lK pol g role text b).2.last≤g.last+1:=by
 have hsame:qG g∧g.last≤g.last+1:=⟨h,by omega⟩
 unfold lK
 cases jg pol role with
 | none=>exact hsame
 | some r=>
  simp only
  by_cases he:(parseText (fg text)).2=0
  ·rw[if_pos he]
   have hg:jk (parseText (fg text)).1:=by
    rcases qU text with h1|h1|h1
    ·exact h1.2.1
    ·rw[h1] at he;cases he
    ·rw[h1] at he;cases he
   unfold uq
   rcases hg with hk|hk|hk|hk|hk|hk
   ·rw[if_pos (Cq hk).2.2];exact hsame
   ·split
    ·exact hsame
    ·split
     ·exact hsame
     ·exact xf h hl (Or.inl hk)
   ·split
    ·exact hsame
    ·split
     ·exact hsame
     ·exact xf h hl (Or.inr (Or.inl hk))
   ·split
    ·exact hsame
    ·split
     ·exact hsame
     ·exact xf h hl (Or.inr (Or.inr (Or.inl hk)))
   ·split
    ·exact hsame
    ·split
     ·exact hsame
     ·exact xf h hl (Or.inr (Or.inr (Or.inr hk)))
   ·rw[if_neg (by rw[(wO hk).1];decide),if_pos (wO hk).1];exact hsame
  ·rw[if_neg he];exact hsame
theorem qG.de {ns ns':List aq} {es:List aJ} {last:Int} (h:qG ⟨ns,es,last⟩) (e:ns'.map Go.Proofs.YtobgbmfpicmpcaaGreatDoor.de=ns.map Go.Proofs.YtobgbmfpicmpcaaGreatDoor.de):qG ⟨ns',es,last⟩:=by
 have hx:∀x∈ns',∃y∈ns,y.label=x.label∧y.num=x.num:=by
  intro x hx
  have h1:Go.Proofs.YtobgbmfpicmpcaaGreatDoor.de x∈ns.map Go.Proofs.YtobgbmfpicmpcaaGreatDoor.de:=by rw[←e];exact List.mem_map_of_mem hx
  obtain⟨y,hy,ey⟩:=List.mem_map.1 h1
  refine⟨y,hy,?_,?_⟩
  ·have:=congrArg aq.label ey;exact this
  ·have:=congrArg aq.num ey;exact this
 have hlen:ns'.length=ns.length:=by have:=congrArg List.length e;simpa using this
 refine⟨by simp only;rw[hlen];exact h.n40,h.GQ,fun x hx'=>?_,h.ty,fun x hx'=>?_,h.ends,h.last⟩
 ·obtain⟨y,hy,a,_⟩:=hx x hx'
  rw[←a];exact h.wy y hy
 ·obtain⟨y,hy,_,a⟩:=hx x hx'
  rw[←a];exact h.num y hy
end
section
open Go.RowKit
theorem vI {W:World} {c n:Int} (hc:ux c) (hn0:0<n) (hn1:n≤9223372036854775807):
  Calls Tryz.prog 31 #[.int .i64 c,.int .i64 n] W fun e W'=>e=.returned (.int .i64 (pk c n))∧W'=W:=by
 obtain⟨h0,h1⟩:=hc
 by_cases hneg:c<0
 ·have HP:Hid (pk c n=-((c+1).tmod n)):=by show _=_;unfold pk;rw[if_pos hneg,←Int.neg_tmod,Int.tmod_eq_emod_of_nonneg (by omega)]
  have hm0:0≤-(c+1) % n:=Int.emod_nonneg _ (by omega)
  have hm1:-(c+1) % n<n:=Int.emod_lt_of_pos _ hn0
  have hz:(n==0)=false:=by simp;omega
  go_enter Tryz.func31,Tryz.ntmps31
  go_wp2_with fail
  go_ret
  exact⟨by rw[HP.out];rfl,rfl⟩
 ·have HP:Hid (pk c n=c % n):=by show _=_;unfold pk;rw[if_neg hneg]
  have hm0:0≤c % n:=Int.emod_nonneg _ (by omega)
  have hm1:c % n<n:=Int.emod_lt_of_pos _ hn0
  have hz:(n==0)=false:=by simp;omega
  go_enter Tryz.func31,Tryz.ntmps31
  go_wp2_with fail
  go_ret
  exact⟨by rw[HP.out];rfl,rfl⟩
theorem Ex {c k:Int} (hc:ux c) (hk:0<k):ux (c.tdiv k):=by
 obtain⟨h0,h1⟩:=hc
 by_cases h:0≤c
 ·have a:=Int.tdiv_nonneg h (Int.le_of_lt hk)
  rw[Int.tdiv_eq_ediv_of_nonneg h] at a⊢
  have b:=Int.ediv_le_self k h
  exact⟨by omega,by omega⟩
 ·have hn:0≤-c:=by omega
  have e:c.tdiv k=-((-c) / k):=by rw[←Int.tdiv_eq_ediv_of_nonneg hn,Int.neg_tdiv,Int.neg_neg]
  rw[e]
  have b:=Int.ediv_le_self k hn
  have a:=Int.ediv_nonneg hn (Int.le_of_lt hk)
  exact⟨by omega,by omega⟩
theorem BH {W:World} {c:Int} (hc:ux c):
  Calls Tryz.prog 67 #[.int .i64 c] W fun e W'=>e=.returned (.string (D6 c))∧Below W.heap.size W W':=by
 have HB:Hid (Below W.heap.size W (W.alloc (.cells #[.string ⟨#[65]⟩,.string ⟨#[66]⟩,.string ⟨#[72]⟩] 9))):=(Below.refl _ _).alloc (Nat.le_refl _) _
 have h0:=ma (c:=c) (n:=3) (by omega)
 have h1:=zb (c:=c) (n:=3) (by omega)
 have h3:pk c 3=0∨pk c 3=1∨pk c 3=2:=by omega
 have HC:=hid hc
 clear h0 h1 hc
 rcases h3 with h|h|h
 ·have HT:Hid (D6 c=⟨#[65]⟩):=by show _=_;unfold D6;rw[if_pos h]
  have HP:=hid h
  clear h
  go_enter Tryz.func67,Tryz.ntmps67
  go_wp2_with fail
  refine(vI HC.out (by omega) (by omega)).mono ?_
  rw[HP.out]
  rintro e w1 ⟨rfl,hw⟩
  subst hw
  go_wp2_with fail
  go_ret
  exact⟨by rw[HT.out];rfl,HB.out⟩
 ·have HT:Hid (D6 c=⟨#[66]⟩):=by show _=_;unfold D6;rw[if_neg (by omega),if_pos h]
  have HP:=hid h
  clear h
  go_enter Tryz.func67,Tryz.ntmps67
  go_wp2_with fail
  refine(vI HC.out (by omega) (by omega)).mono ?_
  rw[HP.out]
  rintro e w1 ⟨rfl,hw⟩
  subst hw
  go_wp2_with fail
  go_ret
  exact⟨by rw[HT.out];rfl,HB.out⟩
 ·have HT:Hid (D6 c=⟨#[72]⟩):=by show _=_;unfold D6;rw[if_neg (by omega),if_neg (by omega)]
  have HP:=hid h
  clear h
  go_enter Tryz.func67,Tryz.ntmps67
  go_wp2_with fail
  refine(vI HC.out (by omega) (by omega)).mono ?_
  rw[HP.out]
  rintro e w1 ⟨rfl,hw⟩
  subst hw
  go_wp2_with fail
  go_ret
  exact⟨by rw[HT.out];rfl,HB.out⟩
theorem ze {W:World} {c:Int} (hc:ux c) (ht:BG W):
  Calls Tryz.prog 68 #[.int .i64 c] W fun e W'=>e=.returned (.string (dB (GP c)))∧Below W.heap.size W W':=by
 have h0:=ma (c:=c) (n:=7) (by omega)
 have h1:=zb (c:=c) (n:=7) (by omega)
 have hf:=Cd c
 have HF:Hid (ux (GP c)):=⟨by omega,by omega⟩
 have HN:Hid (pk c 7 - 3=GP c):=rfl
 clear hf
 go_enter Tryz.func68,Tryz.ntmps68
 go_wp2_with fail
 refine(vI hc (by omega) (by omega)).mono ?_
 rintro e w1 ⟨rfl,hw⟩
 obtain rfl:=hw.symm
 go_wp2_with fail
 rw[HN.out]
 refine(FP HF.out ht).mono ?_
 rintro e w2 ⟨rfl,hb⟩
 have HB:=hid hb
 clear hb
 go_wp2_with fail
 go_ret
 exact⟨rfl,HB.out⟩
end
section
open Go.RowKit
theorem Co (l:Array UInt8):(⟨l⟩:ByteArray).size=l.size:=rfl
theorem Ix {W:World} {c:Int} (hc:ux c) (ht:BG W):
  Calls Tryz.prog 30 #[.int .i64 c] W fun e W'=>(∃s:ByteArray,e=.returned (.string s)∧s.size≤1000)∧Below W.heap.size W W':=by
 have HC:=hid hc
 have HT:=hid ht
 obtain⟨hc1,hc2⟩:=hc
 have hs0:=ma (c:=c) (n:=6) (by omega)
 have hs1:=zb (c:=c) (n:=6) (by omega)
 have h6:pk c 6=0∨pk c 6=1∨pk c 6=2∨pk c 6=3∨pk c 6=4∨pk c 6=5:=by omega
 have HS:=hid h6
 clear ht hs0 hs1 h6
 go_enter Tryz.func30,Tryz.ntmps30
 go_wp2_with fail
 refine(vI (Ex HC.out (by omega)) (by omega) (by omega)).mono ?_
 rintro e w1 ⟨rfl,hw1⟩
 obtain rfl:=hw1.symm
 have hd0:=ma (c:=c.tdiv 6) (n:=1099511627776) (by omega)
 have hd1:=zb (c:=c.tdiv 6) (n:=1099511627776) (by omega)
 generalize pk (c.tdiv 6) 1099511627776=d at hd0 hd1⊢
 have HD:Hid (ux d∧ux (d / 3)∧ux (d / 9)∧ux (d / 63)):=hid ⟨⟨by omega,by omega⟩,⟨by omega,by omega⟩,⟨by omega,by omega⟩,⟨by omega,by omega⟩⟩
 go_wp2_with fail
 refine(BH HD.out.1).mono ?_
 rintro e W1 ⟨rfl,hb1⟩
 have HB1:=hid hb1
 have ha:=Pure.zt d
 generalize D6 d=a at ha⊢
 clear hb1
 go_wp2_with fail
 refine(BH HD.out.2.1).mono ?_
 rintro e W2 ⟨rfl,hb2⟩
 have HB2:=hid (HB1.out.trans (hb2.mono HB1.out.size))
 have hb:=Pure.zt (d / 3)
 generalize D6 (d / 3)=b at hb⊢
 clear hb2 HB1
 go_wp2_with fail
 refine(ze HD.out.2.2.1 (HT.out.below HB2.out)).mono ?_
 rintro e W3 ⟨rfl,hb3⟩
 have HB3:=hid (HB2.out.trans (hb3.mono HB2.out.size))
 have hn:=Pure.yL (d / 9)
 generalize dB (GP (d / 9))=n at hn⊢
 clear hb3 HB2
 go_wp2_with fail
 refine(vI HC.out (by omega) (by omega)).mono ?_
 rintro e w1 ⟨rfl,hw1⟩
 obtain rfl:=hw1.symm
 rcases HS.out with h|h|h|h|h|h
 all_goals
  rw[h]
  clear h
  go_wp2_with fail
 any_goals
  go_ret
  exact⟨⟨_,rfl,by simp[ByteArray.size_append,Co];omega⟩,HB3.out⟩
 all_goals
  refine(ze HD.out.2.2.2 (HT.out.below HB3.out)).mono ?_
  rintro e W4 ⟨rfl,hb4⟩
  have HB4:=hid (HB3.out.trans (hb4.mono HB3.out.size))
  have hz:=Pure.yL (d / 63)
  generalize dB (GP (d / 63))=z at hz⊢
  clear hb4
  go_wp2_with fail
  go_ret
  exact⟨⟨_,rfl,by simp[ByteArray.size_append,Co];omega⟩,HB4.out⟩
end
section
open Go.RowKit Go.Maps Go.Sort
theorem Jw {B G m:Nat} {l:List cU} {vp:Value} {W:World} (hB:B≤G) (hl:Loc W G #[vp,.slice none 0 0,.slice none 0 0,.int .i64 0,.slice none 0 0,.slice none 0 0] 129) (hp:pn vp l m W):VG B G l #[vp,.slice none 0 0,.slice none 0 0,.int .i64 0,.slice none 0 0,.slice none 0 0] (.slice none 0 0) (.slice none 0 0) [] [] 0 6 W:=by
 refine⟨⟨hl,rfl,rfl,rfl,World.ownsRow_nil _ _ _ _,World.ownsRow_nil _ _ _ _,fun x hx=>(by cases hx),List.nodup_nil,List.Pairwise.nil,fun x hx=>(by cases hx),by decide⟩,rfl,⟨vp,m,rfl,hp⟩,rfl,rfl,fun x _ y hy=>(by cases hy),fun b hb=>?_⟩
 rcases hb with rfl|hb|hb|⟨x,hx,_⟩
 ·exact hB
 ·cases hb
 ·cases hb
 ·cases hx
theorem FC:qG ⟨[],[],0⟩:=⟨by decide,by decide,fun x hx=>(by cases hx),fun x hx=>(by cases hx),fun x hx=>(by cases hx),fun x hx=>(by cases hx),by decide⟩
theorem VG.more {B G m m':Nat} {pol:List cU} {cs:Array Value} {vn ve:Value} {ns:List aq} {es:List aJ} {last:Int} {W:World} (h:VG B G pol cs vn ve ns es last m W) (hm:m≤m'):VG B G pol cs vn ve ns es last m' W:=
 ⟨⟨h.own.bZ,h.own.c0,h.own.c1,h.own.c2,h.own.on,h.own.oe,fun x hx=>(h.own.aW x hx).more hm,h.own.apart,h.own.gh,h.own.top,h.own.kT⟩,h.size,h.KY,h.BQ,h.Gn,h.apart,h.base⟩
theorem yy {W:World} {B:Nat} {v:Value} {t:ByteArray} (h:W.ownsRow B 9 1 v 1 (strs [t])):∃g c,v=.slice (some ⟨g,0,none⟩) 1 c∧W.cell? ⟨g,0,none⟩=some (.string t):=by
 obtain⟨g,c,rfl⟩:=ownsRow_succ h
 refine⟨g,c,rfl,?_⟩
 obtain⟨g',o,e,hc⟩:=bY (l:=[t]) (fun s=>[.string s]) (fun _=>rfl) (by have h1:=aP h h.1;simpa [strs] using h1) (i:=0) (by simp)
 injection e with e
 injection e with e1 e2
 subst e1 e2
 simpa using hc 0 (by decide)
def ED (W0:World) (G:Nat) (W':World):Prop:=∃pol cs vn ve ns es last m,VG W0.heap.size G pol cs vn ve ns es last m W'∧qG ⟨ns,es,last⟩∧pol.map er=GV∧6≤m∧m≤400000∧last≤100∧Below W0.heap.size W0 W'
theorem Le {W0:World} {raw:List Int} {ao:Option Addr} {cp:Nat} {mx:Int} {ev:Value} (hs:bO W0 1 (.slice ao raw.length cp) raw.length (raw.flatMap kI)) (hraw:∀x∈raw,ux x) (hlen:raw.length≤9223372036854775807) (hm:W0.cell? ⟨1,0,none⟩=some (.int .i64 mx)) (ht:BG W0) (hge:W0.cell? ⟨5,0,none⟩=some ev) (hev:ev=.nilIface∨∃te pe,ev=.iface te pe):
  Calls Tryz.prog 25 #[.slice ao raw.length cp] W0 fun e W'=>∃G,e=.returned (.pointer (some ⟨G,0,none⟩))∧ED W0 G W':=by
 have HS:=hid hs
 have HRW:=hid hraw
 have HT:Hid (∀w,Below W0.heap.size W0 w→BG w):=hid (fun w hb=>ht.below hb)
 have HGE:Hid (∀w,Below W0.heap.size W0 w→w.cell? ⟨5,0,none⟩=some ev):=hid (fun w hb=>(hb.cell (block_lt_of_cell hge)).trans hge)
 have HEV:=hid hev
 have HN:=hid (Ld (s:=uC) hm)
 rw[E9] at HN
 clear hs hraw ht hge hev hm
 go_enter Tryz.func25,Tryz.ntmps25
 go_wp2_with fail
 refine HN.out.mono ?_
 rintro e W1 ⟨hb1,h1⟩
 rcases h1 with ⟨h0,_⟩|⟨ls,l,G,vp,m,hls,her,_,hG,rfl,hloc,hpol⟩
 ·cases h0
 injection hls with hls
 subst hls
 have HB1:=hid hb1
 have HV1:=hid (Jw hG hloc hpol)
 obtain⟨b1,b2,rfl⟩:=CL her
 clear hloc hpol hb1 hG HN her
 have HR1:=hid (Iz (role:=fH) (text:=Kf) (budget:=1) HV1.out FC (by unfold maxLen;omega) HB1.out.size (by unfold maxLen;decide) ⟨by omega,by omega⟩ (fun w hw=>HT.out w (HB1.out.trans hw)) (fun w hw=>HGE.out w (HB1.out.trans hw)) HEV.out)
 rw[vt] at HR1
 go_wp2_with fail
 refine HR1.out.mono ?_
 rintro e W2 ⟨⟨v1,rfl,hrow1⟩,ns1,cs1,vn1,ve1,m1,hst1,hv2,hm1,hk1⟩
 simp only at hst1 hv2 hrow1
 have HB2:=hid (HB1.out.trans (HV1.out.under hk1 HB1.out.size))
 have HV2:=hid (hv2.more (Nat.le_add_right m1 6))
 have HRW1:=hid hrow1
 have HST1:=hid hst1
 have hm1':m1≤7006:=by omega
 have HM1:=hid hm1'
 clear hst1 hv2 hrow1 hm1 hk1 hm1' HR1
 have hok1:qG ⟨ns1,[],1⟩:=by
  have h1:=(BE (pol:=[(fH,b1,SR),(fm,b2,SG)]) (role:=fH) (text:=Kf) (b:=1) FC (by decide)).1
  rw[vt] at h1
  exact h1.de HST1.out
 have HOK1:=hid hok1
 have HR2:=hid (Iz (role:=fm) (text:=KW) (budget:=1) HV2.out hok1 (by have:=HM1.out;unfold maxLen;omega) HB2.out.size (by unfold maxLen;decide) ⟨by omega,by omega⟩ (fun w hw=>HT.out w (HB2.out.trans hw)) (fun w hw=>HGE.out w (HB2.out.trans hw)) HEV.out)
 rw[Bo (by rw[HST1.out];rfl)] at HR2
 clear hok1
 go_wp2_with fail
 refine HR2.out.mono ?_
 rintro e W3 ⟨⟨v2,rfl,hrow2⟩,ns2,cs2,vn2,ve2,m2,hst2,hv3,hm2,hk2⟩
 simp only at hst2 hv3 hrow2
 have HB3:=hid (HB2.out.trans (HV2.out.under hk2 HB2.out.size))
 have hrow1:=HV2.out.row HRW1.out (by decide) (by decide) (by decide) hk2
 obtain⟨g1,c1,rfl,cell1⟩:=yy hrow1
 obtain⟨g2,c2,rfl,cell2⟩:=yy hrow2
 have HV3:=hid (hv3.more (Nat.le_add_right m2 6))
 have HOK3:=hid (HOK1.out.de hst2)
 have hm3:m2≤14100:=by have:=HM1.out;omega
 have HM3:=hid hm3
 clear hrow1 hrow2 hst2 hv3 hm2 hk2 hm3 HR2 HRW1
 unfold Jq at cell1
 unfold BJ at cell2
 go_wp2_with fail
 obtain⟨n,hn,hn1,hn2⟩:∃n,n=min raw.length 40∧n≤raw.length∧n≤40:=⟨_,rfl,by omega,by omega⟩
 have hlen2:(raw.length:Int)≤9223372036854775807:=by omega
 go_loopg [9] n (fun c iv w=>∃(k:Nat) (cs:Array Value) (vn ve:Value) (ns:List aq) (es:List aJ) (last:Int) (m:Nat),iv=.int .i64 (k:Int)∧k+c=n∧VG W0.heap.size G [(fH,b1,SR),(fm,b2,SG)] cs vn ve ns es last m w∧qG ⟨ns,es,last⟩∧6≤m∧m≤15000+k*7010∧last≤1+k∧Below W0.heap.size W0 w)
 case atStart=>exact⟨0,cs2,vn2,ve2,ns2,[],1,m2+6,rfl,by omega,HV3.out,HOK3.out,by omega,by have:=HM3.out;omega,by omega,HB3.out⟩
 case round=>
  obtain⟨k,cs,vn,ve,ns,es,last,m,rfl,hk,hv,hok,hm6,hmk,hla,hbw⟩:=hrel
  have HV:=hid hv
  have HOK:=hid hok
  have HMK:=hid (And.intro hm6 (And.intro hmk hla))
  have HBW:=hid hbw
  clear hv hok hm6 hmk hla hbw HV3 HOK3 HB3 cell1 cell2
  by_cases hlt:k<n
  ·have hki:(k:Int)<(raw.length:Int):=by omega
   have hk40:(k:Int)<40:=by omega
   have hkr:k<raw.length:=by omega
   obtain⟨g,oo,hal,hcell⟩:=bY (l:=raw) kI (fun _=>rfl) (HS.out.below HBW.out) hkr
   have hc0:=hcell 0 (by decide)
   have hI:=HRW.out raw[k] (List.getElem_mem hkr)
   obtain⟨y,hy⟩:∃y,raw[k]=y:=⟨_,rfl⟩
   rw[hy] at hc0 hI
   subst hal
   have hcy:wr.cell? ⟨g,oo+k,none⟩=some (.int .i64 y):=by have h1:=hc0;rw[Nat.mul_one] at h1;exact h1
   have HSH:=hid (Ix hI (HT.out wr HBW.out))
   clear hc0 hcell hy hI
   go_wp2_with fail
   refine HSH.out.mono ?_
   rintro e W4 ⟨⟨t,rfl,hts⟩,hb4⟩
   have HB4:=hid (HBW.out.trans (hb4.mono HBW.out.size))
   have HV4:=hid (HV.out.later hb4)
   have hla:last<1000000:=by have:=HMK.out.2.2;omega
   have HROK:=hid (BE (pol:=[(fH,b1,SR),(fm,b2,SG)]) (role:=fH) (text:=t) (b:=5000) HOK.out hla)
   have HRN:=hid (Iz (role:=fH) (text:=t) (budget:=5000) HV4.out HOK.out (by have:=HMK.out;unfold maxLen;omega) HB4.out.size (by unfold maxLen;omega) ⟨by omega,by omega⟩ (fun w hw=>HT.out w (HB4.out.trans hw)) (fun w hw=>HGE.out w (HB4.out.trans hw)) HEV.out)
   generalize lK [(fH,b1,SR),(fm,b2,SG)] ⟨ns,es,last⟩ fH t 5000=R at HROK HRN
   clear hb4 hts hla HSH hcy
   go_wp2_with fail
   refine HRN.out.mono ?_
   rintro e W5 ⟨⟨v5,rfl,_⟩,ns5,cs5,vn5,ve5,m5,hst5,hv5,hm5,hk5⟩
   have HB5:=hid (HB4.out.trans (HV4.out.under hk5 HB4.out.size))
   have HV5:=hid (hv5.more (Nat.le_add_right m5 6))
   have HOK5:Hid (qG ⟨ns5,R.2.es,R.2.last⟩):=hid (qG.de (ns:=R.2.ns) HROK.out.1 hst5)
   have HM5:Hid (6≤m5+6∧m5+6≤15000+(k+1)*7010∧R.2.last≤1+((k+1:Nat):Int)):=hid (by have h1:=HMK.out;have h2:=HROK.out.2;refine⟨by omega,by omega,?_⟩;have h3:=h1.2.2;omega)
   clear hst5 hv5 hm5 hk5 HRN
   go_wp2_with fail
   go_roundg (gk - 1)
   case rel=>exact⟨k+1,cs5,vn5,ve5,ns5,R.2.es,R.2.last,m5+6,by simp,by omega,HV5.out,HOK5.out,HM5.out.1,HM5.out.2.1,HM5.out.2.2,HB5.out⟩
   case measure=>omega
  ·have hkn:k=n:=by omega
   have HFIN:Hid (ED W0 G wr):=hid ⟨_,cs,vn,ve,ns,es,last,m,HV.out,HOK.out,rfl,HMK.out.1,by have:=HMK.out;omega,by have:=HMK.out;omega,HBW.out⟩
   by_cases hr:k<raw.length
   ·have hki:(k:Int)<(raw.length:Int):=by omega
    have hk40:¬(k:Int)<40:=by omega
    clear hkn hn
    go_wp2_with fail
    go_ret
    exact⟨G,rfl,HFIN.out⟩
   ·have hki:¬(k:Int)<(raw.length:Int):=by omega
    clear hkn hn
    go_wp2_with fail
    go_ret
    exact⟨G,rfl,HFIN.out⟩
end
section
open Go.RowKit
theorem Cr {w:World} {ao:Option Addr} {cp:Nat} {xs:List ByteArray} (h:bO w 1 (.slice ao xs.length cp) xs.length (strs xs)) {k:Nat} (hk:k<xs.length):∃g o,ao=some ⟨g,o,none⟩∧w.cell? ⟨g,o+k,none⟩=some (.string xs[k]):=by
 obtain⟨_,a2,c2,e,_,hc⟩:=h
 injection e with e1 e2 e3
 subst e1 e3
 obtain⟨g,o,rfl,hd⟩:=hc (by omega)
 refine⟨g,o,rfl,hd k _ ?_⟩
 unfold strs
 rw[List.getElem?_map,List.getElem?_eq_getElem hk]
 rfl
def zE (xs ys:List ByteArray):Bool:=decide (xs=ys)
theorem KL {a b:ByteArray} (h:a≠b):(a.toList==b.toList)=false:=by
 cases he:(a.toList==b.toList)
 ·rfl
 ·have h1:a.toList=b.toList:=by simpa using he
  rw[ByteArray.toList_eq,ByteArray.toList_eq] at h1
  exact absurd (Pure.KD h1) h
theorem J5 {W:World} {a1 a2:Option Addr} {c1 c2:Nat} {xs ys:List ByteArray} (hx:bO W 1 (.slice a1 xs.length c1) xs.length (strs xs)) (hy:bO W 1 (.slice a2 ys.length c2) ys.length (strs ys)) (hl:xs.length≤1000000):
  Calls Tryz.prog 28 #[.slice a1 xs.length c1,.slice a2 ys.length c2] W fun e W'=>e=.returned (.bool (zE xs ys))∧Below W.heap.size W W':=by
 have HX:=hid hx
 have HY:=hid hy
 clear hx hy
 by_cases hn:xs.length=ys.length
 ·have hnb:((xs.length:Int)==(ys.length:Int))=true:=by simp[hn]
  have HN:=hid hn
  go_enter Tryz.func28,Tryz.ntmps28
  go_wp2_with fail
  go_loopg [5] xs.length (fun c iv w=>∃k:Nat,iv=.int .i64 (k:Int)∧k+c=xs.length∧xs.take k=ys.take k∧Below W.heap.size W w)
  case atStart=>exact⟨0,rfl,by omega,rfl,Below.refl _ _⟩
  case round=>
   obtain⟨k,rfl,hk,ht,hb⟩:=hrel
   have HTK:=hid ht
   have HB:=hid hb
   clear ht hb
   by_cases hlt:k<xs.length
   ·have hki:(k:Int)<(xs.length:Int):=by omega
    have hkj:(k:Int)<(ys.length:Int):=by omega
    obtain⟨g,o,rfl,cx⟩:=Cr (HX.out.below HB.out) hlt
    obtain⟨g2,o2,rfl,cy⟩:=Cr (HY.out.below HB.out) (by omega:k<ys.length)
    obtain⟨x,hx⟩:∃x,xs[k]=x:=⟨_,rfl⟩
    obtain⟨y,hy⟩:∃y,ys[k]'(by omega)=y:=⟨_,rfl⟩
    rw[hx] at cx
    rw[hy] at cy
    have HXK:Hid (xs.take (k+1)=xs.take k++[x]):=hid (by rw[List.take_add_one,List.getElem?_eq_getElem hlt,hx];rfl)
    have HYK:Hid (ys.take (k+1)=ys.take k++[y]):=hid (by rw[List.take_add_one,List.getElem?_eq_getElem (by omega),hy];rfl)
    have HXE:Hid (xs[k]?=some x∧ys[k]?=some y):=hid ⟨by rw[List.getElem?_eq_getElem hlt,hx],by rw[List.getElem?_eq_getElem (by omega),hy]⟩
    clear hx hy
    go_upto_region 6 with fail
    by_cases he:x=y
    ·subst he
     go_quiet (fail)
     go_wp2_with fail
     go_roundg (gk - 1)
     case rel=>exact⟨k+1,by simp,by omega,by rw[HXK.out,HYK.out,HTK.out],HB.out.trans (Joins.below_draws _ wr nq)⟩
     case measure=>omega
    ·have hne:=KL he
     have HE:Hid (zE xs ys=false):=hid (decide_eq_false (fun e=>he (by have h1:=HXE.out.1;rw[e,HXE.out.2] at h1;injection h1 with h1;exact h1.symm)))
     go_quiet (fail)
     go_wp2_with fail
     go_ret
     exact⟨by rw[HE.out];rfl,HB.out.trans (Joins.below_draws _ wr nq)⟩
   ·have hki:¬(k:Int)<(xs.length:Int):=by omega
    have HE:Hid (zE xs ys=true):=hid (decide_eq_true (by
     have h1:=HTK.out
     rwa [List.take_of_length_le (by omega),List.take_of_length_le (by have:=HN.out;omega)] at h1))
    go_wp2_with fail
    go_ret
    exact⟨by rw[HE.out];rfl,HB.out⟩
 ·have hnb:((xs.length:Int)==(ys.length:Int))=false:=by simp;omega
  have HE:Hid (zE xs ys=false):=hid (by unfold zE;exact decide_eq_false (fun e=>hn (by rw[e])))
  clear hn
  go_enter Tryz.func28,Tryz.ntmps28
  go_wp2_with fail
  go_ret
  exact⟨by rw[HE.out];rfl,Below.refl _ _⟩
end
section
open Go.RowKit Go.Maps Go.Sort
def Ap (S:aI→Bool) (ns:List aq) (es:List aJ) (q:au) (b:Int):List ByteArray × Int:=eK (gq S ns) (jS S ns es) q (uj b)
theorem GC {pol:List cU} {r:cU} {g:oJ} {role text:ByteArray} {q:au} {b:Int} (hf:jg pol role=some r) (hp:parseText (fg text)=(q,0)) (hk:q.kind=1):lK pol g role text b=(Ap r.2.2 g.ns g.es q b,g):=by
 unfold lK
 rw[hf,hp]
 simp only[if_pos]
 unfold uq
 rw[if_pos hk]
 rfl
theorem zW {S:aI→Bool} {ns ns':List aq} {es:List aJ} {q:au} {b:Int} (h:ns'.map de=ns.map de):Ap S ns' es q b=Ap S ns es q b:=by
 unfold Ap
 rw[←kV S ns',←rf S ns',h,kV,rf]
def GS (B G b1 b2:Nat) (ns:List aq) (es:List aJ) (last:Int) (k:Nat) (W0 W:World):Prop:=
 ∃cs vn ve ns' m,VG B G [(fH,b1,SR),(fm,b2,SG)] cs vn ve ns' es last m W∧ns'.map de=ns.map de∧qG ⟨ns',es,last⟩∧6≤m∧m≤400000+k*7010∧Below B W0 W∧B≤W.heap.size
variable {B G b1 b2 k:Nat} {ns:List aq} {es:List aJ} {last:Int} {W0 W w:World}
def Fo (W w:World):Prop:=∀Bx v n xs,W.ownsRow Bx 9 1 v n xs→w.ownsRow Bx 9 1 v n xs
theorem KQ {role text:ByteArray} {r:cU} {q:au} {budget:Int} {ev:Value} (h:GS B G b1 b2 ns es last k W0 W) (hk:k≤1000) (hf:jg [(fH,b1,SR),(fm,b2,SG)] role=some r) (hp:parseText (fg text)=(q,0)) (hq:q.kind=1) (hs:text.size≤maxLen) (hbu:ux budget) (ht:∀w,Below B W0 w→BG w) (hge:∀w,Below B W0 w→w.cell? ⟨5,0,none⟩=some ev) (hev:ev=.nilIface∨∃te pe,ev=.iface te pe):
  Calls Tryz.prog 26 #[.pointer (some ⟨G,0,none⟩),.string role,.string text,.int .i64 budget] W fun e W'=>(∃v,e=.returned (.tuple #[v,.int .i64 (Ap r.2.2 ns es q budget).2])∧W'.ownsRow W.heap.size 9 1 v (Ap r.2.2 ns es q budget).1.length (strs (Ap r.2.2 ns es q budget).1))∧GS B G b1 b2 ns es last (k+1) W0 W'∧Fo W W':=by
 obtain⟨cs,vn,ve,ns',m,hv,hst,hok,h6,hm,hbw,hB⟩:=h
 have hr:=Iz (role:=role) (text:=text) (budget:=budget) hv hok (by unfold maxLen;omega) hB hs hbu (fun w hw=>ht w (hbw.trans hw)) (fun w hw=>hge w (hbw.trans hw)) hev
 rw[GC hf hp hq] at hr
 refine hr.mono ?_
 rintro e W' ⟨hv',ns2,cs2,vn2,ve2,m2,hst2,hv2,hm2,hk2⟩
 simp only at hv' hst2 hv2
 rw[zW hst] at hv'
 refine⟨hv',⟨cs2,vn2,ve2,ns2,m2+6,hv2.more (Nat.le_add_right _ _),hst2.trans hst,hok.de hst2,by omega,by omega,hbw.trans (hv.under hk2 hB),Nat.le_trans hB hk2.size⟩,fun Bx v n xs hrow=>hv.row hrow (by decide) (by decide) (by decide) hk2⟩
end
end Go.Proofs.YtobgbmfpicmpcaaGreatDoor
