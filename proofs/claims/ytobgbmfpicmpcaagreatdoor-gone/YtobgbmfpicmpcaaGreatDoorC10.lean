/- The program's parser: the kind of a token; is the next one of this kind? -/
import Derived.Test.YtobgbmfpicmpcaaGreatDoorC06
import Derived.Lib.Hide
set_option maxRecDepth 100000
set_option maxHeartbeats 8000000
namespace Go.Proofs.YtobgbmfpicmpcaaGreatDoor
open Go.Lib (hid)
section
open Go.RowKit
theorem sJ (s:ByteArray):bj s=0∨bj s=1∨bj s=2∨bj s=3:=by
 unfold bj
 repeat' split
 all_goals simp
theorem xF (s:ByteArray) (w:World):Calls Tryz.prog 321 #[.string s] w fun e w'=>e=.returned (.int .i64 (kQ s))∧w'=w:=by
 rcases sJ s with h|h|h|h
 all_goals
  have HK:=hid h
  have HE:=hid (GL s)
  clear h
  go_enter Tryz.func321,Tryz.ntmps321
  go_wp2_with (go_at_call 73;refine(eC _ _).mono ?_;rintro e w' ⟨rfl,rfl⟩;rw[HK.out])
  go_ret
  exact⟨by rw[HE.out,HK.out];rfl,rfl⟩
theorem G5 (t:Tok) (w:World):Calls Tryz.prog 275 #[.agg #[.int .i64 t.kind,.string t.text,.int .i64 t.val]] w fun e w'=>e=.returned (.int .i64 (eL t))∧Below w.heap.size w w':=by
 have HB:Hid (Below w.heap.size w (w.alloc (.cells #[.int .i64 t.kind,.string t.text,.int .i64 t.val] 153))):=Below.alloc (Below.refl _ _) (Nat.le_refl _) _
 by_cases h2:t.kind=2
 ·have HK:Hid (eL t=4):=by show _=_;unfold eL;rw[if_pos h2]
  go_enter Tryz.func275,Tryz.ntmps275
  go_wp2_with fail
  refine bodyPost_ret (v:=.int .i64 4) ?_ rfl ⟨by rw[HK.out],?_⟩
  ·simp[results,Tryz.results275,go_sem]
  ·simpa [h2] using HB.out
 ·by_cases h3:t.kind=3
  ·have HK:Hid (eL t=5):=by show _=_;unfold eL;rw[if_neg h2,if_pos h3]
   go_enter Tryz.func275,Tryz.ntmps275
   go_wp2_with fail
   refine bodyPost_ret (v:=.int .i64 5) ?_ rfl ⟨by rw[HK.out],?_⟩
   ·simp[results,Tryz.results275,go_sem]
   ·simpa [h3] using HB.out
  ·by_cases h1:t.kind=1
   ·have HK:Hid (eL t=kQ t.text):=by show _=_;unfold eL;rw[if_neg h2,if_neg h3,if_pos h1]
    go_enter Tryz.func275,Tryz.ntmps275
    go_wp2_with (go_at_call 321;refine(xF _ _).mono ?_;rintro e w' ⟨rfl,rfl⟩)
    refine bodyPost_ret (v:=.int .i64 (kQ t.text)) ?_ rfl ⟨by rw[HK.out],?_⟩
    ·simp[results,Tryz.results275,go_sem]
    ·simpa [h1] using HB.out
   ·have HK:Hid (eL t=0):=by show _=_;unfold eL;rw[if_neg h2,if_neg h3,if_neg h1]
    go_enter Tryz.func275,Tryz.ntmps275
    go_wp2_with fail
    refine bodyPost_ret (v:=.int .i64 0) ?_ rfl ⟨by rw[HK.out],HB.out⟩
    simp[results,Tryz.results275,go_sem]
theorem BO {b G:Nat} {st:RS} {W:World} (h:PI b G st W) (k:Int) (m:Bool) (hm:gC k st=m):
  Calls Tryz.prog 217 #[.pointer (some ⟨b,0,none⟩),.int .i64 k] W fun e W'=>e=.returned (.bool m)∧PI b G st W'∧W.grownBy W' (some b):=by
 obtain⟨ao,c,hb,hc,hs⟩:=h.box
 have HH:=hid h
 cases hr:st.rest with
 | nil=>
  rw[hr] at hb
  have hm0:m=false:=by rw[←hm];unfold gC;rw[hr]
  subst hm0
  have c0:=hb.at_ 0 (.slice ao 0 c) rfl
  clear hs h hc hb hm hr
  go_enter Tryz.func217,Tryz.ntmps217
  go_wp2_with fail
  refine bodyPost_ret (v:=.bool false) ?_ rfl ⟨rfl,HH.out,ku _ _⟩
  simp[results,Tryz.results217,go_sem]
 | cons t r=>
  have hmt:m=decide (eL t=k):=by rw[←hm];unfold gC;rw[hr]
  have HM:=hid hmt
  rw[hr] at hs hc hb
  obtain⟨o,rfl,a0,a1,a2⟩:=hs 0 (by simp)
  have k0:W.cell? ⟨G,o,none⟩=some (.int .i64 t.kind):=by simpa using a0
  have k1:W.cell? ⟨G,o+1,none⟩=some (.string t.text):=by simpa using a1
  have k2:W.cell? ⟨G,o+2,none⟩=some (.int .i64 t.val):=by simpa using a2
  have c0:=hb.at_ 0 (.slice (some ⟨G,o,none⟩) (r.length+1) c) rfl
  clear hs h hc hb a0 a1 a2 hm hr hmt
  go_enter Tryz.func217,Tryz.ntmps217
  go_wp2_with fail
  refine(G5 t W).mono ?_
  rintro e W1 ⟨rfl,hb1⟩
  have HB1:=hid hb1
  clear hb1
  go_wp2_with fail
  refine bodyPost_ret (v:=.bool (decide (eL t=k))) ?_ rfl ⟨by rw[HM.out],HH.out.quiet (af HB1.out none),af HB1.out _⟩
  simp[results,Tryz.results217,go_sem]
  by_cases hk:eL t=k<;>simp[hk]
end
section
open Go.RowKit
theorem PI.ne {b G x:Nat} {st:RS} {W:World} (h:PI b G st W) (hx:W.heap.size≤x):b≠x∧G≠x:=by
 obtain⟨ao,c,hb,_⟩:=h.box
 have:=hb.lt
 exact⟨by omega,by have:=h.xU.2;omega⟩
theorem JE {b G:Nat} {st:RS} {W:World} (h:PI b G st W) (k:Int) (hm:gC k st=false):
  Calls Tryz.prog 155 #[.pointer (some ⟨b,0,none⟩),.int .i64 k] W fun e W'=>e=.returned (.agg #[.int .i64 0,.string ⟨#[]⟩,.int .i64 0])∧PI b G dv W'∧W.grownBy W' (some b):=by
 have g0:=ar W (.cells #[.int .i64 0,.string ⟨#[]⟩,.int .i64 0] 153) none
 have HG0:=hid (ar W (.cells #[.int .i64 0,.string ⟨#[]⟩,.int .i64 0] 153) (some b))
 have H0:=hid (h.quiet g0)
 have HL0:=hid (Loc.new W #[.int .i64 0,.string ⟨#[]⟩,.int .i64 0] 153)
 have HNE:=hid (h.ne (Nat.le_refl _)).1
 have HNG:=hid (h.ne (Nat.le_refl _)).2
 have HM:=hid hm
 clear h g0 hm
 go_enter Tryz.func155,Tryz.ntmps155
 go_wp2_with fail
 obtain⟨X,hX⟩:∃X,X=W.heap.size:=⟨_,rfl⟩
 rw[←hX] at HL0 HNE HNG⊢
 have hXW:W.heap.size≤X:=by omega
 clear hX
 generalize W.alloc (.cells #[.int .i64 0,.string ⟨#[]⟩,.int .i64 0] 153)=W1 at H0 HL0 HG0⊢
 refine(BO H0.out k false HM.out).mono ?_
 rintro e W2 ⟨rfl,h2,g2⟩
 have H2:=hid h2
 have G2:=hid (aB HG0.out g2)
 have HL2:=hid (HL0.out.grown g2 (by intro e;injection e with e;exact HNE.out e.symm))
 clear h2 g2 H0 HL0
 go_wp2_with fail
 refine(nk H2.out).mono ?_
 rintro e W3 ⟨rfl,h3,g3⟩
 have H3:=hid h3
 have G3:=hid (aB G2.out g3)
 have HL3:=hid (HL2.out.grown g3 (by intro e;injection e with e;exact HNE.out e.symm))
 have c0:=HL3.out.at_ 0 (.int .i64 0) rfl
 have c1:=HL3.out.at_ 1 (.string ⟨#[]⟩) rfl
 have c2:=HL3.out.at_ 2 (.int .i64 0) rfl
 have f0:W3.frozen? ⟨X,0,none⟩=false:=HL3.out.free 0
 have f1:W3.frozen? ⟨X,1,none⟩=false:=HL3.out.free 1
 have f2:W3.frozen? ⟨X,2,none⟩=false:=HL3.out.free 2
 clear h3 g3 H2 HL2
 go_wp2_with fail
 have hF:Loc (((W3.setCell ⟨X,0,none⟩ (.int .i64 0)).setCell ⟨X,1,none⟩ (.string ⟨#[]⟩)).setCell ⟨X,2,none⟩ (.int .i64 0)) X #[.int .i64 0,.string ⟨#[]⟩,.int .i64 0] 153:=((HL3.out.set 0 _).set 1 _).set 2 _
 have hP:PI b G dv (((W3.setCell ⟨X,0,none⟩ (.int .i64 0)).setCell ⟨X,1,none⟩ (.string ⟨#[]⟩)).setCell ⟨X,2,none⟩ (.int .i64 0)):=H3.out.kept (r:=some X) (aB (aB (aC _ _ _ _) (aC _ _ _ _)) (aC _ _ _ _)) (by intro e;injection e with e;exact HNE.out e) (by intro e;injection e with e;exact HNG.out e)
 have hG:=dL (dL (dL G3.out hXW 0 (.int .i64 0)) hXW 1 (.string ⟨#[]⟩)) hXW 2 (.int .i64 0)
 generalize (((W3.setCell ⟨X,0,none⟩ (.int .i64 0)).setCell ⟨X,1,none⟩ (.string ⟨#[]⟩)).setCell ⟨X,2,none⟩ (.int .i64 0))=WF at hF hP hG⊢
 refine bodyPost_ret (v:=.agg #[.int .i64 0,.string ⟨#[]⟩,.int .i64 0]) ?_ rfl ⟨rfl,hP,hG⟩
 have r0:=hF.cell 0
 have r1:=hF.cell 1
 have r2:=hF.cell 2
 simp at r0 r1 r2
 simp[results,Tryz.results155,go_sem,r0,r1,r2]
theorem Ht {b G:Nat} {st:RS} {W:World} (h:PI b G st W) (k:Int) (hm:gC k st=true) {t:Tok} {r:List Tok} (hr:st.rest=t::r):
  Calls Tryz.prog 155 #[.pointer (some ⟨b,0,none⟩),.int .i64 k] W fun e W'=>e=.returned (.agg #[.int .i64 t.kind,.string t.text,.int .i64 t.val])∧PI b G ⟨r,st.bad⟩ W'∧W.grownBy W' (some b):=by
 have g0:=ar W (.cells #[.int .i64 0,.string ⟨#[]⟩,.int .i64 0] 153) none
 have HG0:=hid (ar W (.cells #[.int .i64 0,.string ⟨#[]⟩,.int .i64 0] 153) (some b))
 have H0:=hid (h.quiet g0)
 have HL0:=hid (Loc.new W #[.int .i64 0,.string ⟨#[]⟩,.int .i64 0] 153)
 have HNE:=hid (h.ne (Nat.le_refl _)).1
 have HNG:=hid (h.ne (Nat.le_refl _)).2
 have HM:=hid hm
 have HR:=hid hr
 clear h g0 hm hr
 go_enter Tryz.func155,Tryz.ntmps155
 go_wp2_with fail
 obtain⟨X,hX⟩:∃X,X=W.heap.size:=⟨_,rfl⟩
 rw[←hX] at HL0 HNE HNG⊢
 have hXW:W.heap.size≤X:=by omega
 clear hX
 generalize W.alloc (.cells #[.int .i64 0,.string ⟨#[]⟩,.int .i64 0] 153)=W1 at H0 HL0 HG0⊢
 refine(BO H0.out k true HM.out).mono ?_
 rintro e W2 ⟨rfl,h2,g2⟩
 have H2:=hid h2
 have G2:=hid (aB HG0.out g2)
 have HL2:=hid (HL0.out.grown g2 (by intro e;injection e with e;exact HNE.out e.symm))
 obtain⟨ao,c,hb,hc,hs⟩:=h2.box
 rw[HR.out] at hb hc hs
 obtain⟨o,rfl,a0,a1,a2⟩:=hs 0 (by simp)
 have k0:W2.cell? ⟨G,o,none⟩=some (.int .i64 t.kind):=by simpa using a0
 have k1:W2.cell? ⟨G,o+1,none⟩=some (.string t.text):=by simpa using a1
 have k2:W2.cell? ⟨G,o+2,none⟩=some (.int .i64 t.val):=by simpa using a2
 have c0:=hb.at_ 0 (.slice (some ⟨G,o,none⟩) (r.length+1) c) rfl
 have hc':r.length+1≤c:=hc
 have HB:=hid hb
 have HS:=hid hs
 clear h2 g2 H0 HL0 hb hc hs a0 a1 a2
 go_upto_region 5 with fail
 obtain⟨Y,hY⟩:∃Y,Y=W2.heap.size:=⟨_,rfl⟩
 have g3:=ar W2 (.cells #[.int .i64 t.kind,.string t.text,.int .i64 t.val] 153) none
 have G3:=hid (aB G2.out (ar W2 (.cells #[.int .i64 t.kind,.string t.text,.int .i64 t.val] 153) (some b)))
 have H3:=hid (H2.out.quiet g3)
 have HL3:=hid (HL2.out.grown g3 (by simp))
 have HB3:=hid (HB.out.grown g3 (by simp))
 have HY:=hid (Loc.new W2 #[.int .i64 t.kind,.string t.text,.int .i64 t.val] 153)
 have HYB:Hid (Y≠b):=by have:=HB.out.lt;show Y≠b;omega
 have HS3:Hid (px G (some ⟨G,o,none⟩) (t::r) (W2.alloc (.cells #[.int .i64 t.kind,.string t.text,.int .i64 t.val] 153))):=by
  intro j hj
  obtain⟨o',e,a0,a1,a2⟩:=HS.out j hj
  have hlt:=H2.out.xU.2
  have hB:=g3.block G hlt (by simp)
  have hcc:∀x,(W2.alloc (.cells #[.int .i64 t.kind,.string t.text,.int .i64 t.val] 153)).cell? ⟨G,x,none⟩=W2.cell? ⟨G,x,none⟩:=fun x=>by simp only[World.cell?,hB]
  exact⟨o',e,by rw[hcc];exact a0,by rw[hcc];exact a1,by rw[hcc];exact a2⟩
 rw[←hY] at HY⊢
 clear hY g3
 generalize W2.alloc (.cells #[.int .i64 t.kind,.string t.text,.int .i64 t.val] 153)=W3 at H3 HL3 HB3 HY HS3 G3⊢
 clear c0 k0 k1 k2 HB HS H2 HL2 G2
 have c0:=HB3.out.at_ 0 (.slice (some ⟨G,o,none⟩) (r.length+1) c) rfl
 have fb0:W3.frozen? ⟨b,0,none⟩=false:=HB3.out.free 0
 have k0:True:=trivial
 have k1:True:=trivial
 have k2:True:=trivial
 by_cases hc1:c=1
 ·subst hc1
  have hr0:r=[]:=List.length_eq_zero_iff.1 (by omega)
  have hrl:r.length=0:=by rw[hr0];rfl
  clear hr0
  have H4a:PI b G ⟨r,st.bad⟩ (W3.setCell ⟨b,0,none⟩ (.slice (some ⟨G,o,none⟩) 0 0)):=by have h:=H3.out.KV HR.out HB3.out (ao:=some ⟨G,o,none⟩) (c:=0) (by omega) (by intro j hj;omega);rw[hrl] at h;exact h
  have H4:=hid H4a
  have hY4:=(HY.out.setOther HYB.out 0 (.slice (some ⟨G,o,none⟩) 0 0))
  have hL4:=(HL3.out.setOther (fun e=>HNE.out e.symm) 0 (.slice (some ⟨G,o,none⟩) 0 0))
  have hG4:=aB G3.out (aC W3 b 0 (.slice (some ⟨G,o,none⟩) 0 0))
  go_upto_region 6 with fail
  generalize W3.setCell ⟨b,0,none⟩ (.slice (some ⟨G,o,none⟩) 0 0)=W4 at H4 hY4 hL4 hG4⊢
  clear H4a k0 k1 k2 c0 fb0
  have y0:=hY4.at_ 0 (.int .i64 t.kind) rfl
  have y1:=hY4.at_ 1 (.string t.text) rfl
  have y2:=hY4.at_ 2 (.int .i64 t.val) rfl
  have x0:=hL4.at_ 0 (.int .i64 0) rfl
  have x1:=hL4.at_ 1 (.string ⟨#[]⟩) rfl
  have x2:=hL4.at_ 2 (.int .i64 0) rfl
  have f0:W4.frozen? ⟨X,0,none⟩=false:=hL4.free 0
  have f1:W4.frozen? ⟨X,1,none⟩=false:=hL4.free 1
  have f2:W4.frozen? ⟨X,2,none⟩=false:=hL4.free 2
  have HL4:=hid hL4
  have HG4:=hid hG4
  clear hY4 hL4 hG4
  go_wp2_with fail
  have hF:Loc (((W4.setCell ⟨X,0,none⟩ (.int .i64 t.kind)).setCell ⟨X,1,none⟩ (.string t.text)).setCell ⟨X,2,none⟩ (.int .i64 t.val)) X #[.int .i64 t.kind,.string t.text,.int .i64 t.val] 153:=((HL4.out.set 0 _).set 1 _).set 2 _
  have hP:PI b G ⟨r,st.bad⟩ (((W4.setCell ⟨X,0,none⟩ (.int .i64 t.kind)).setCell ⟨X,1,none⟩ (.string t.text)).setCell ⟨X,2,none⟩ (.int .i64 t.val)):=H4.out.kept (r:=some X) (aB (aB (aC _ _ _ _) (aC _ _ _ _)) (aC _ _ _ _)) (by intro e;injection e with e;exact HNE.out e) (by intro e;injection e with e;exact HNG.out e)
  have hG:=dL (dL (dL HG4.out hXW 0 (.int .i64 t.kind)) hXW 1 (.string t.text)) hXW 2 (.int .i64 t.val)
  generalize (((W4.setCell ⟨X,0,none⟩ (.int .i64 t.kind)).setCell ⟨X,1,none⟩ (.string t.text)).setCell ⟨X,2,none⟩ (.int .i64 t.val))=WF at hF hP hG⊢
  refine bodyPost_ret (v:=.agg #[.int .i64 t.kind,.string t.text,.int .i64 t.val]) ?_ rfl ⟨rfl,hP,hG⟩
  have r0:=hF.cell 0
  have r1:=hF.cell 1
  have r2:=hF.cell 2
  simp at r0 r1 r2
  simp[results,Tryz.results155,go_sem,r0,r1,r2]
 ·have H4a:PI b G ⟨r,st.bad⟩ (W3.setCell ⟨b,0,none⟩ (.slice (some ⟨G,o+3,none⟩) r.length (c - 1))):=H3.out.KV HR.out HB3.out (by omega) HS3.out.tail
  have H4:=hid H4a
  have hY4:=(HY.out.setOther HYB.out 0 (.slice (some ⟨G,o+3,none⟩) r.length (c - 1)))
  have hL4:=(HL3.out.setOther (fun e=>HNE.out e.symm) 0 (.slice (some ⟨G,o+3,none⟩) r.length (c - 1)))
  have hG4:=aB G3.out (aC W3 b 0 (.slice (some ⟨G,o+3,none⟩) r.length (c - 1)))
  go_upto_region 6 with fail
  generalize W3.setCell ⟨b,0,none⟩ (.slice (some ⟨G,o+3,none⟩) r.length (c - 1))=W4 at H4 hY4 hL4 hG4⊢
  clear H4a k0 k1 k2 c0 fb0
  have y0:=hY4.at_ 0 (.int .i64 t.kind) rfl
  have y1:=hY4.at_ 1 (.string t.text) rfl
  have y2:=hY4.at_ 2 (.int .i64 t.val) rfl
  have x0:=hL4.at_ 0 (.int .i64 0) rfl
  have x1:=hL4.at_ 1 (.string ⟨#[]⟩) rfl
  have x2:=hL4.at_ 2 (.int .i64 0) rfl
  have f0:W4.frozen? ⟨X,0,none⟩=false:=hL4.free 0
  have f1:W4.frozen? ⟨X,1,none⟩=false:=hL4.free 1
  have f2:W4.frozen? ⟨X,2,none⟩=false:=hL4.free 2
  have HL4:=hid hL4
  have HG4:=hid hG4
  clear hY4 hL4 hG4
  go_wp2_with fail
  have hF:Loc (((W4.setCell ⟨X,0,none⟩ (.int .i64 t.kind)).setCell ⟨X,1,none⟩ (.string t.text)).setCell ⟨X,2,none⟩ (.int .i64 t.val)) X #[.int .i64 t.kind,.string t.text,.int .i64 t.val] 153:=((HL4.out.set 0 _).set 1 _).set 2 _
  have hP:PI b G ⟨r,st.bad⟩ (((W4.setCell ⟨X,0,none⟩ (.int .i64 t.kind)).setCell ⟨X,1,none⟩ (.string t.text)).setCell ⟨X,2,none⟩ (.int .i64 t.val)):=H4.out.kept (r:=some X) (aB (aB (aC _ _ _ _) (aC _ _ _ _)) (aC _ _ _ _)) (by intro e;injection e with e;exact HNE.out e) (by intro e;injection e with e;exact HNG.out e)
  have hG:=dL (dL (dL HG4.out hXW 0 (.int .i64 t.kind)) hXW 1 (.string t.text)) hXW 2 (.int .i64 t.val)
  generalize (((W4.setCell ⟨X,0,none⟩ (.int .i64 t.kind)).setCell ⟨X,1,none⟩ (.string t.text)).setCell ⟨X,2,none⟩ (.int .i64 t.val))=WF at hF hP hG⊢
  refine bodyPost_ret (v:=.agg #[.int .i64 t.kind,.string t.text,.int .i64 t.val]) ?_ rfl ⟨rfl,hP,hG⟩
  have r0:=hF.cell 0
  have r1:=hF.cell 1
  have r2:=hF.cell 2
  simp at r0 r1 r2
  simp[results,Tryz.results155,go_sem,r0,r1,r2]
theorem xE {b G:Nat} {st:RS} {W:World} (h:PI b G st W) (k:Int):
  Calls Tryz.prog 155 #[.pointer (some ⟨b,0,none⟩),.int .i64 k] W fun e W'=>e=.returned (.agg #[.int .i64 (dV k st).1.kind,.string (dV k st).1.text,.int .i64 (dV k st).1.val])∧PI b G (dV k st).2 W'∧W.grownBy W' (some b):=by
 cases hm:gC k st with
 | false=>
  have e:dV k st=(CH,dv):=by unfold dV;rw[hm];rfl
  rw[e]
  exact JE h k hm
 | true=>
  cases hr:st.rest with
  | nil=>unfold gC at hm;rw[hr] at hm;cases hm
  | cons t r=>
   have e:dV k st=(t,⟨r,st.bad⟩):=by unfold dV;rw[hm,hr];rfl
   rw[e]
   exact Ht h k hm hr
end
section
open Go.RowKit
theorem vM (a c:Int) (s:ByteArray) (w:World):(Instr.field 153 (.agg #[.int .i64 a,.string s,.int .i64 c]) 1).run Tryz.prog w=.ok (.string s) w:=by kernel_rfl
theorem Ec (a c:Int) (s:ByteArray) (w:World):(Instr.field 153 (.agg #[.int .i64 a,.string s,.int .i64 c]) 2).run Tryz.prog w=.ok (.int .i64 c) w:=by kernel_rfl
theorem mS {b G:Nat} {st s1:RS} {n:ByteArray} {W:World} (h:PI b G st W) (hn:du st=(n,s1)):
  Calls Tryz.prog 95 #[.pointer (some ⟨b,0,none⟩)] W fun e W'=>e=.returned (.string n)∧PI b G s1 W'∧W.grownBy W' (some b):=by
 have HH:=hid h
 obtain⟨t,s2,ht⟩:∃t s2,dV 1 st=(t,s2):=⟨_,_,rfl⟩
 have e:(t.text,s2)=(n,s1):=by rw[←hn];unfold du;rw[ht]
 injection e with e1 e2
 have HT:=hid ht
 have HE1:=hid e1
 have HE2:=hid e2
 have hfd:=vM t.kind t.val t.text
 clear h hn ht e1 e2
 go_enter Tryz.func95,Tryz.ntmps95
 go_wp2_with fail
 refine(xE HH.out 1).mono ?_
 rintro e W1 ⟨rfl,h1,g1⟩
 rw[HT.out] at h1⊢
 have H1:=hid h1
 have G1:=hid g1
 clear h1 g1
 go_wp2_with fail
 refine bodyPost_ret (v:=.string t.text) ?_ rfl ⟨by rw[HE1.out],by rw[←HE2.out];exact H1.out,G1.out⟩
 simp[results,Tryz.results95,go_sem]
theorem rN {b G:Nat} {st s1:RS} {n:ByteArray} {W:World} (h:PI b G st W) (hn:cN st=(n,s1)):
  Calls Tryz.prog 156 #[.pointer (some ⟨b,0,none⟩)] W fun e W'=>e=.returned (.string n)∧PI b G s1 W'∧W.grownBy W' (some b):=by
 have HH:=hid h
 obtain⟨t,s2,ht⟩:∃t s2,dV 2 st=(t,s2):=⟨_,_,rfl⟩
 have e:(t.text,s2)=(n,s1):=by rw[←hn];unfold cN;rw[ht]
 injection e with e1 e2
 have HT:=hid ht
 have HE1:=hid e1
 have HE2:=hid e2
 have hfd:=vM t.kind t.val t.text
 clear h hn ht e1 e2
 go_enter Tryz.func156,Tryz.ntmps156
 go_wp2_with fail
 refine(xE HH.out 2).mono ?_
 rintro e W1 ⟨rfl,h1,g1⟩
 rw[HT.out] at h1⊢
 have H1:=hid h1
 have G1:=hid g1
 clear h1 g1
 go_wp2_with fail
 refine bodyPost_ret (v:=.string t.text) ?_ rfl ⟨by rw[HE1.out],by rw[←HE2.out];exact H1.out,G1.out⟩
 simp[results,Tryz.results156,go_sem]
theorem kC {b G:Nat} {st s1:RS} {lo hi n:Int} {W:World} (h:PI b G st W) (hn:bL lo hi st=(n,s1)):
  Calls Tryz.prog 218 #[.pointer (some ⟨b,0,none⟩),.int .i64 lo,.int .i64 hi] W fun e W'=>e=.returned (.int .i64 n)∧PI b G s1 W'∧W.grownBy W' (some b):=by
 have HH:=hid h
 obtain⟨t,s2,ht⟩:∃t s2,dV 4 st=(t,s2):=⟨_,_,rfl⟩
 have e:(t.val,if t.val<lo∨hi<t.val then dv else s2)=(n,s1):=by rw[←hn];unfold bL;rw[ht]
 injection e with e1 e2
 have HT:=hid ht
 have HE1:=hid e1
 have HE2:=hid e2
 have hfd:=Ec t.kind t.val t.text
 clear h hn ht e1 e2
 by_cases hlo:t.val<lo
 ·have HS:Hid (s1=dv):=by show _=_;rw[←HE2.out,if_pos (Or.inl hlo)]
  go_enter Tryz.func218,Tryz.ntmps218
  go_wp2_with fail
  refine(xE HH.out 4).mono ?_
  rintro e W1 ⟨rfl,h1,g1⟩
  rw[HT.out] at h1⊢
  have H1:=hid h1
  have G1:=hid g1
  clear h1 g1
  go_wp2_with fail
  refine(nk H1.out).mono ?_
  rintro e W2 ⟨rfl,h2,g2⟩
  have H2:=hid h2
  have G2:=hid g2
  clear h2 g2
  go_wp2_with fail
  refine bodyPost_ret (v:=.int .i64 t.val) ?_ rfl ⟨by rw[HE1.out],by rw[HS.out];exact H2.out,aB G1.out G2.out⟩
  simp[results,Tryz.results218,go_sem]
 ·by_cases hhi:hi<t.val
  ·have HS:Hid (s1=dv):=by show _=_;rw[←HE2.out,if_pos (Or.inr hhi)]
   go_enter Tryz.func218,Tryz.ntmps218
   go_wp2_with fail
   refine(xE HH.out 4).mono ?_
   rintro e W1 ⟨rfl,h1,g1⟩
   rw[HT.out] at h1⊢
   have H1:=hid h1
   have G1:=hid g1
   clear h1 g1
   go_wp2_with fail
   refine(nk H1.out).mono ?_
   rintro e W2 ⟨rfl,h2,g2⟩
   have H2:=hid h2
   have G2:=hid g2
   clear h2 g2
   go_wp2_with fail
   refine bodyPost_ret (v:=.int .i64 t.val) ?_ rfl ⟨by rw[HE1.out],by rw[HS.out];exact H2.out,aB G1.out G2.out⟩
   simp[results,Tryz.results218,go_sem]
  ·have HS:Hid (s1=s2):=by show _=_;rw[←HE2.out,if_neg (by rintro (e|e);exact hlo e;exact hhi e)]
   go_enter Tryz.func218,Tryz.ntmps218
   go_wp2_with fail
   refine(xE HH.out 4).mono ?_
   rintro e W1 ⟨rfl,h1,g1⟩
   rw[HT.out] at h1⊢
   have H1:=hid h1
   have G1:=hid g1
   clear h1 g1
   go_wp2_with fail
   refine bodyPost_ret (v:=.int .i64 t.val) ?_ rfl ⟨by rw[HE1.out],by rw[HS.out];exact H1.out,G1.out⟩
   simp[results,Tryz.results218,go_sem]
theorem Kq {b G:Nat} {st:RS} {W:World} (h:PI b G st W):
  Calls Tryz.prog 46 #[.pointer (some ⟨b,0,none⟩)] W fun e W'=>e=.returned (.bool (!st.bad&&st.rest.isEmpty))∧W'=W:=by
 obtain⟨ao,c,hb,hc,hs⟩:=h.box
 have c0:=hb.at_ 0 (.slice ao st.rest.length c) rfl
 have c1:=hb.at_ 1 (.bool st.bad) rfl
 clear hs h hc hb
 cases hbad:st.bad with
 | true=>
  rw[hbad] at c1
  go_enter Tryz.func46,Tryz.ntmps46
  go_wp2_with fail
  refine bodyPost_ret (v:=.bool false) ?_ rfl ⟨rfl,rfl⟩
  simp[results,Tryz.results46,go_sem]
 | false=>
  rw[hbad] at c1
  cases hr:st.rest with
  | nil=>
   rw[hr] at c0
   have c0':W.cell? ⟨b,0,none⟩=some (.slice ao 0 c):=c0
   clear c0
   go_enter Tryz.func46,Tryz.ntmps46
   go_wp2_with fail
   refine bodyPost_ret (v:=.bool true) ?_ rfl ⟨rfl,rfl⟩
   simp[results,Tryz.results46,go_sem]
  | cons t r=>
   rw[hr] at c0
   have c0':W.cell? ⟨b,0,none⟩=some (.slice ao (r.length+1) c):=c0
   clear c0
   go_enter Tryz.func46,Tryz.ntmps46
   go_wp2_with fail
   refine bodyPost_ret (v:=.bool false) ?_ rfl ⟨rfl,rfl⟩
   simp[results,Tryz.results46,go_sem]
   try omega
end
section
open Go.RowKit
structure PX (W0:World) (b G:Nat) (st:RS) (x:Nat) (cx:Array Value) (T:TypeId) (w:World):Prop where
 p:PI b G st w
 lx:Loc w x cx T
 nx:W0.heap.size≤x
 xb:x≠b
 xg:x≠G
 grown:W0.grownBy w (some b)
theorem PX.start {W:World} {b G:Nat} {st:RS} (h:PI b G st W) (cx:Array Value) (T:TypeId):PX W b G st W.heap.size cx T (W.alloc (.cells cx T)):=
 ⟨h.quiet (ar W _ none),Loc.new W cx T,Nat.le_refl _,fun e=>(h.ne (Nat.le_refl _)).1 e.symm,fun e=>(h.ne (Nat.le_refl _)).2 e.symm,ar W _ _⟩
theorem PX.call {W0 w w':World} {b G x:Nat} {st st':RS} {cx:Array Value} {T:TypeId} (h:PX W0 b G st x cx T w) (h1:PI b G st' w') (g1:w.grownBy w' (some b)):PX W0 b G st' x cx T w':=
 ⟨h1,h.lx.grown g1 (by intro e;injection e with e;exact h.xb e),h.nx,h.xb,h.xg,aB h.grown g1⟩
theorem PX.set {W0 w:World} {b G x:Nat} {st:RS} {cx:Array Value} {T:TypeId} (h:PX W0 b G st x cx T w) (j:Nat) (u:Value):PX W0 b G st x (cx.setIfInBounds j u) T (w.setCell ⟨x,j,none⟩ u):=
 ⟨h.p.kept (aC w x j u) (by intro e;injection e with e;exact h.xb e.symm) (by intro e;injection e with e;exact h.xg e.symm),h.lx.set j u,h.nx,h.xb,h.xg,dL h.grown h.nx j u⟩
theorem vL {b G:Nat} {st s1:RS} {n k:ByteArray} {W:World} (h:PI b G st W) (hn:iE st=((n,k),s1)):
  Calls Tryz.prog 166 #[.pointer (some ⟨b,0,none⟩)] W fun e W'=>e=.returned (.tuple #[.string n,.string k])∧PI b G s1 W'∧W.grownBy W' (some b):=by
 have HH:=hid h
 obtain⟨n',a1,ha⟩:∃n' a1,du st=(n',a1):=⟨_,_,rfl⟩
 obtain⟨k',a2,hk⟩:∃k' a2,du (aD eX a1)=(k',a2):=⟨_,_,rfl⟩
 have e:((n',k'),a2)=((n,k),s1):=by rw[←hn];unfold iE;simp only[ha,hk]
 injection e with e1 e3
 injection e1 with e1 e2
 subst e1;subst e2;subst e3
 have HA:=hid ha
 have HK:=hid hk
 clear h hn ha hk
 go_enter Tryz.func166,Tryz.ntmps166
 go_wp2_with fail
 refine(mS HH.out HA.out).mono ?_
 rintro e W1 ⟨rfl,h1,g1⟩
 have H1:=hid h1
 have G1:=hid g1
 clear h1 g1
 go_wp2_with fail
 refine(dA H1.out eX).mono ?_
 rintro e W2 ⟨rfl,h2,g2⟩
 have H2:=hid h2
 have G2:=hid (aB G1.out g2)
 clear h2 g2
 go_wp2_with fail
 refine(mS H2.out HK.out).mono ?_
 rintro e W3 ⟨rfl,h3,g3⟩
 have H3:=hid h3
 have G3:=hid (aB G2.out g3)
 clear h3 g3
 go_wp2_with fail
 refine bodyPost_ret (v:=.tuple #[.string n',.string k']) ?_ rfl ⟨rfl,H3.out,G3.out⟩
 simp[results,Tryz.results166,go_sem]
theorem Jc {b G:Nat} {st s1:RS} {r:dR} {W:World} (h:PI b G st W) (hn:fu st=(r,s1)):
  Calls Tryz.prog 158 #[.pointer (some ⟨b,0,none⟩)] W fun e W'=>e=.returned (.agg #[.string r.key,.int .i64 r.val])∧PI b G s1 W'∧W.grownBy W' (some b):=by
 have H0:=hid (PX.start h #[.string ⟨#[]⟩,.int .i64 0] 91)
 obtain⟨n',a1,ha⟩:∃n' a1,du st=(n',a1):=⟨_,_,rfl⟩
 obtain⟨v',a2,hk⟩:∃v' a2,bL (-1000000000) 1000000000 (aD bX a1)=(v',a2):=⟨_,_,rfl⟩
 have e:((⟨n',v'⟩:dR),a2)=(r,s1):=by rw[←hn];unfold fu;simp only[ha,hk]
 injection e with e1 e3
 subst e1;subst e3
 have HA:=hid ha
 have HK:=hid hk
 clear h hn ha hk
 go_enter Tryz.func158,Tryz.ntmps158
 go_wp2_with fail
 obtain⟨X,hX⟩:∃X,X=W.heap.size:=⟨_,rfl⟩
 rw[←hX] at H0⊢
 clear hX
 generalize W.alloc (.cells #[.string ⟨#[]⟩,.int .i64 0] 91)=W1 at H0⊢
 refine(mS H0.out.p HA.out).mono ?_
 rintro e W2 ⟨rfl,h2,g2⟩
 have H2:=hid (H0.out.call h2 g2)
 clear h2 g2 H0
 go_wp2_with fail
 refine(dA H2.out.p bX).mono ?_
 rintro e W3 ⟨rfl,h3,g3⟩
 have H3:=hid (H2.out.call h3 g3)
 clear h3 g3 H2
 go_wp2_with fail
 refine(kC H3.out.p HK.out).mono ?_
 rintro e W4 ⟨rfl,h4,g4⟩
 have H4:=hid (H3.out.call h4 g4)
 clear h4 g4 H3
 have c0:=H4.out.lx.at_ 0 (.string ⟨#[]⟩) rfl
 have f0:W4.frozen? ⟨X,0,none⟩=false:=H4.out.lx.free 0
 have c1:=H4.out.lx.at_ 1 (.int .i64 0) rfl
 have f1:W4.frozen? ⟨X,1,none⟩=false:=H4.out.lx.free 1
 go_wp2_with fail
 have hF:=((H4.out.set 0 (.string n')).set 1 (.int .i64 v'))
 generalize ((W4.setCell ⟨X,0,none⟩ (.string n')).setCell ⟨X,1,none⟩ (.int .i64 v'))=WF at hF⊢
 refine bodyPost_ret (v:=.agg #[.string n',.int .i64 v']) ?_ rfl ⟨rfl,hF.p,hF.grown⟩
 have r0:=hF.lx.cell 0
 have r1:=hF.lx.cell 1
 simp at r0 r1
 simp[results,Tryz.results158,go_sem,r0,r1]
theorem xJ {b G:Nat} {st s1:RS} {r:gj} {W:World} (h:PI b G st W) (hn:dM st=(r,s1)):
  Calls Tryz.prog 163 #[.pointer (some ⟨b,0,none⟩)] W fun e W'=>e=.returned (.agg #[.string r.name,.string r.key,.int .i64 r.val])∧PI b G s1 W'∧W.grownBy W' (some b):=by
 have H0:=hid (PX.start h #[.string ⟨#[]⟩,.string ⟨#[]⟩,.int .i64 0] 26)
 cases hm:gC 4 st with
 | true=>
  obtain⟨v',a2,hk⟩:∃v' a2,bL (-1000000000) 1000000000 st=(v',a2):=⟨_,_,rfl⟩
  have e:((⟨⟨#[]⟩,⟨#[]⟩,v'⟩:gj),a2)=(r,s1):=by rw[←hn];unfold dM;rw[hm];simp only[hk];rfl
  injection e with e1 e3
  subst e1;subst e3
  have HM:=hid hm
  have HK:=hid hk
  clear h hn hm hk
  go_enter Tryz.func163,Tryz.ntmps163
  go_wp2_with fail
  obtain⟨X,hX⟩:∃X,X=W.heap.size:=⟨_,rfl⟩
  rw[←hX] at H0⊢
  clear hX
  generalize W.alloc (.cells #[.string ⟨#[]⟩,.string ⟨#[]⟩,.int .i64 0] 26)=W1 at H0⊢
  refine(BO H0.out.p 4 true HM.out).mono ?_
  rintro e W2 ⟨rfl,h2,g2⟩
  have H2:=hid (H0.out.call h2 g2)
  clear h2 g2 H0
  go_wp2_with fail
  refine(kC H2.out.p HK.out).mono ?_
  rintro e W4 ⟨rfl,h4,g4⟩
  have H4:=hid (H2.out.call h4 g4)
  clear h4 g4 H2
  have c0:=H4.out.lx.at_ 0 (.string ⟨#[]⟩) rfl
  have f0:W4.frozen? ⟨X,0,none⟩=false:=H4.out.lx.free 0
  have c1:=H4.out.lx.at_ 1 (.string ⟨#[]⟩) rfl
  have f1:W4.frozen? ⟨X,1,none⟩=false:=H4.out.lx.free 1
  have c2:=H4.out.lx.at_ 2 (.int .i64 0) rfl
  have f2:W4.frozen? ⟨X,2,none⟩=false:=H4.out.lx.free 2
  go_wp2_with fail
  have hF:=(((H4.out.set 0 (.string ⟨#[]⟩)).set 1 (.string ⟨#[]⟩)).set 2 (.int .i64 v'))
  generalize (((W4.setCell ⟨X,0,none⟩ (.string ⟨#[]⟩)).setCell ⟨X,1,none⟩ (.string ⟨#[]⟩)).setCell ⟨X,2,none⟩ (.int .i64 v'))=WF at hF⊢
  refine bodyPost_ret (v:=.agg #[.string ⟨#[]⟩,.string ⟨#[]⟩,.int .i64 v']) ?_ rfl ⟨rfl,hF.p,hF.grown⟩
  have r0:=hF.lx.cell 0
  have r1:=hF.lx.cell 1
  have r2:=hF.lx.cell 2
  simp at r0 r1 r2
  simp[results,Tryz.results163,go_sem,r0,r1,r2]
 | false=>
  obtain⟨n',k',a2,hk⟩:∃n' k' a2,iE st=((n',k'),a2):=⟨_,_,_,rfl⟩
  have e:((⟨n',k',0⟩:gj),a2)=(r,s1):=by rw[←hn];unfold dM;rw[hm];simp only[hk];rfl
  injection e with e1 e3
  subst e1;subst e3
  have HM:=hid hm
  have HK:=hid hk
  clear h hn hm hk
  go_enter Tryz.func163,Tryz.ntmps163
  go_wp2_with fail
  obtain⟨X,hX⟩:∃X,X=W.heap.size:=⟨_,rfl⟩
  rw[←hX] at H0⊢
  clear hX
  generalize W.alloc (.cells #[.string ⟨#[]⟩,.string ⟨#[]⟩,.int .i64 0] 26)=W1 at H0⊢
  refine(BO H0.out.p 4 false HM.out).mono ?_
  rintro e W2 ⟨rfl,h2,g2⟩
  have H2:=hid (H0.out.call h2 g2)
  clear h2 g2 H0
  go_wp2_with fail
  refine(vL H2.out.p HK.out).mono ?_
  rintro e W4 ⟨rfl,h4,g4⟩
  have H4:=hid (H2.out.call h4 g4)
  clear h4 g4 H2
  have c0:=H4.out.lx.at_ 0 (.string ⟨#[]⟩) rfl
  have f0:W4.frozen? ⟨X,0,none⟩=false:=H4.out.lx.free 0
  have c1:=H4.out.lx.at_ 1 (.string ⟨#[]⟩) rfl
  have f1:W4.frozen? ⟨X,1,none⟩=false:=H4.out.lx.free 1
  have c2:=H4.out.lx.at_ 2 (.int .i64 0) rfl
  have f2:W4.frozen? ⟨X,2,none⟩=false:=H4.out.lx.free 2
  go_wp2_with fail
  have hF:=(((H4.out.set 0 (.string n')).set 1 (.string k')).set 2 (.int .i64 0))
  generalize (((W4.setCell ⟨X,0,none⟩ (.string n')).setCell ⟨X,1,none⟩ (.string k')).setCell ⟨X,2,none⟩ (.int .i64 0))=WF at hF⊢
  refine bodyPost_ret (v:=.agg #[.string n',.string k',.int .i64 0]) ?_ rfl ⟨rfl,hF.p,hF.grown⟩
  have r0:=hF.lx.cell 0
  have r1:=hF.lx.cell 1
  have r2:=hF.lx.cell 2
  simp at r0 r1 r2
  simp[results,Tryz.results163,go_sem,r0,r1,r2]
end
end Go.Proofs.YtobgbmfpicmpcaaGreatDoor
