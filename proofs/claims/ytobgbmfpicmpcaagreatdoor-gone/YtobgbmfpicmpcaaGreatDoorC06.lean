/- The program's reader of queries in memory: its tokens left, and whether one did not fit. -/
import Derived.Test.YtobgbmfpicmpcaaGreatDoorC03
import Derived.Test.YtobgbmfpicmpcaaGreatDoorC02
import Derived.Lib.Hide
set_option maxRecDepth 100000
set_option maxHeartbeats 8000000
namespace Go.Proofs.YtobgbmfpicmpcaaGreatDoor
open Go.Lib (hid)
section
open Go.RowKit
def px (G:Nat) (ao:Option Addr) (l:List Tok) (w:World):Prop:=
 ∀j,(hj:j<l.length)→∃o,ao=some ⟨G,o,none⟩∧w.cell? ⟨G,o+j*3,none⟩=some (.int .i64 l[j].kind)∧w.cell? ⟨G,o+j*3+1,none⟩=some (.string l[j].text)∧w.cell? ⟨G,o+j*3+2,none⟩=some (.int .i64 l[j].val)
structure PI (b G:Nat) (st:RS) (w:World):Prop where
 box:∃ao c,Loc w b #[.slice ao st.rest.length c,.bool st.bad] 81∧st.rest.length≤c∧px G ao st.rest w
 xU:G≠b∧G<w.heap.size
theorem PI.kept {b G:Nat} {st:RS} {w w':World} {r:Option Nat} (h:PI b G st w) (hg:w.grownBy w' r) (h1:some b≠r) (h2:some G≠r):PI b G st w':=by
 obtain⟨ao,c,hb,hc,hs⟩:=h.box
 refine⟨⟨ao,c,hb.grown hg h1,hc,?_⟩,⟨h.xU.1,Nat.lt_of_lt_of_le h.xU.2 hg.size⟩⟩
 intro j hj
 obtain⟨o,e,a0,a1,a2⟩:=hs j hj
 have hB:=hg.block G h.xU.2 h2
 have hc:∀x,w'.cell? ⟨G,x,none⟩=w.cell? ⟨G,x,none⟩:=fun x=>by simp[World.cell?,hB]
 exact⟨o,e,by rw[hc];exact a0,by rw[hc];exact a1,by rw[hc];exact a2⟩
theorem PI.quiet {b G:Nat} {st:RS} {w w':World} (h:PI b G st w) (hg:w.grownBy w' none):PI b G st w':=h.kept hg (by simp) (by simp)
theorem px.tail {G g o:Nat} {l:List Tok} {t:Tok} {w:World} (h:px G (some ⟨g,o,none⟩) (t::l) w):px G (some ⟨g,o+3,none⟩) l w:=by
 intro j hj
 obtain⟨o',e,a0,a1,a2⟩:=h (j+1) (by simpa using hj)
 injection e with e
 injection e with e1 e2
 subst e1;subst e2
 refine⟨o+3,rfl,?_,?_,?_⟩
 ·rw[show o+3+j*3=o+(j+1)*3 by omega];simpa using a0
 ·rw[show o+3+j*3=o+(j+1)*3 by omega];simpa using a1
 ·rw[show o+3+j*3=o+(j+1)*3 by omega];simpa using a2
theorem px.set {G b:Nat} {ao:Option Addr} {l:List Tok} {w:World} (h:px G ao l w) (hg:G≠b) (j:Nat) (u:Value):px G ao l (w.setCell ⟨b,j,none⟩ u):=by
 intro k hk
 obtain⟨o,e,a0,a1,a2⟩:=h k hk
 have hB:=Below.heap_setCell w ⟨b,j,none⟩ u G hg
 have hc:∀x,(w.setCell ⟨b,j,none⟩ u).cell? ⟨G,x,none⟩=w.cell? ⟨G,x,none⟩:=fun x=>by simp only[World.cell?,hB]
 exact⟨o,e,by rw[hc];exact a0,by rw[hc];exact a1,by rw[hc];exact a2⟩
theorem PI.KV {b G:Nat} {st:RS} {t:Tok} {r:List Tok} {W:World} {ao:Option Addr} {c:Nat} {v:Value} (h:PI b G st W) (_:st.rest=t::r) (hb:Loc W b #[v,.bool st.bad] 81) (hc:r.length≤c) (hs:px G ao r W):PI b G ⟨r,st.bad⟩ (W.setCell ⟨b,0,none⟩ (.slice ao r.length c)):=by
 have hf:=h.xU
 exact⟨⟨ao,c,hb.set 0 _,hc,hs.set hf.1 0 _⟩,⟨hf.1,by simpa [World.setCell] using hf.2⟩⟩
theorem PI.KJ {b G:Nat} {st:RS} {W:World} {v:Value} (h:PI b G st W) (hb:Loc W b #[v,.bool st.bad] 81):PI b G dv ((W.setCell ⟨b,0,none⟩ (.slice none 0 0)).setCell ⟨b,1,none⟩ (.bool true)):=
 ⟨⟨none,0,(hb.set 0 _).set 1 _,Nat.le_refl _,fun j hj=>by simp[dv] at hj⟩,⟨h.xU.1,by simpa [World.setCell] using h.xU.2⟩⟩
theorem nk {b G:Nat} {st:RS} {W:World} (h:PI b G st W):
  Calls Tryz.prog 160 #[.pointer (some ⟨b,0,none⟩)] W fun e W'=>e=.returned (.tuple #[])∧PI b G dv W'∧W.grownBy W' (some b):=by
 obtain⟨ao,c,hb,hc,hs⟩:=h.box
 have c0:=hb.at_ 0 (.slice ao st.rest.length c) rfl
 have c1:=hb.at_ 1 (.bool st.bad) rfl
 have f0:W.frozen? ⟨b,0,none⟩=false:=hb.free 0
 have f1:W.frozen? ⟨b,1,none⟩=false:=hb.free 1
 have HB:=hid hb
 have HH:=hid h
 clear hs h hc hb
 go_enter Tryz.func160,Tryz.ntmps160
 go_wp2_with fail
 go_end0
 exact⟨rfl,HH.out.KJ HB.out,aB (aC _ _ _ _) (aC _ _ _ _)⟩
theorem Dh {b G:Nat} {st:RS} {s:ByteArray} {W:World} (h:PI b G st W) (hp:aE s st=true):
  Calls Tryz.prog 94 #[.pointer (some ⟨b,0,none⟩),.string s] W fun e W'=>e=.returned (.bool true)∧PI b G (ag s st) W'∧W.grownBy W' (some b):=by
 obtain⟨ao,c,hb,hc,hs⟩:=h.box
 cases hr:st.rest with
 | nil=>unfold aE at hp;rw[hr] at hp;cases hp
 | cons t r=>
  have hte:(t.text.toList==s.toList)=true:=by unfold aE at hp;rw[hr] at hp;exact hp
  have HA:Hid (ag s st=⟨r,st.bad⟩):=by show _=_;unfold ag;rw[if_pos hp,hr];rfl
  rw[hr] at hs hc hb
  obtain⟨o,rfl,a0,a1,a2⟩:=hs 0 (by simp)
  have k1:W.cell? ⟨G,o+1,none⟩=some (.string t.text):=by simpa using a1
  have c0:=hb.at_ 0 (.slice (some ⟨G,o,none⟩) (r.length+1) c) rfl
  have f0:W.frozen? ⟨b,0,none⟩=false:=hb.free 0
  have hc':r.length+1≤c:=hc
  have HB:=hid hb
  have HS:=hid hs
  have HH:=hid h
  have HR:=hid hr
  clear hs h hc hb a0 a1 a2 hp hr
  by_cases hc1:c=1
  ·have hr0:r=[]:=List.length_eq_zero_iff.1 (by omega)
   subst hc1
   have HR0:=hid hr0
   have hrl:r.length=0:=by rw[hr0];rfl
   clear hr0
   go_enter Tryz.func94,Tryz.ntmps94
   go_wp2_with fail
   refine bodyPost_ret (v:=.bool true) ?_ rfl ⟨rfl,?_,aC _ _ _ _⟩
   ·simp[results,Tryz.results94,go_sem]
   ·rw[HA.out]
    have h:=HH.out.KV HR.out HB.out (ao:=some ⟨G,o,none⟩) (c:=0) (by omega) (by intro j hj;omega)
    rw[hrl] at h
    exact h
  ·go_enter Tryz.func94,Tryz.ntmps94
   go_wp2_with fail
   refine bodyPost_ret (v:=.bool true) ?_ rfl ⟨rfl,?_,aC _ _ _ _⟩
   ·simp[results,Tryz.results94,go_sem]
   ·rw[HA.out]
    exact HH.out.KV HR.out HB.out (by omega) HS.out.tail
theorem FO {b G:Nat} {st:RS} {s:ByteArray} {W:World} (h:PI b G st W) (hp:aE s st=false):
  Calls Tryz.prog 94 #[.pointer (some ⟨b,0,none⟩),.string s] W fun e W'=>e=.returned (.bool false)∧PI b G (ag s st) W'∧W.grownBy W' (some b):=by
 obtain⟨ao,c,hb,hc,hs⟩:=h.box
 have HA:Hid (ag s st=st):=by show _=_;unfold ag;rw[hp];rfl
 have HH:=hid h
 cases hr:st.rest with
 | nil=>
  rw[hr] at hb
  have c0:=hb.at_ 0 (.slice ao 0 c) rfl
  clear hs h hc hb hp hr
  go_enter Tryz.func94,Tryz.ntmps94
  go_wp2_with fail
  refine bodyPost_ret (v:=.bool false) ?_ rfl ⟨rfl,by rw[HA.out];exact HH.out,ku _ _⟩
  simp[results,Tryz.results94,go_sem]
 | cons t r=>
  have hte:(t.text.toList==s.toList)=false:=by unfold aE at hp;rw[hr] at hp;exact hp
  rw[hr] at hs hc hb
  obtain⟨o,rfl,a0,a1,a2⟩:=hs 0 (by simp)
  have k1:W.cell? ⟨G,o+1,none⟩=some (.string t.text):=by simpa using a1
  have c0:=hb.at_ 0 (.slice (some ⟨G,o,none⟩) (r.length+1) c) rfl
  clear hs h hc hb a0 a1 a2 hp hr
  go_enter Tryz.func94,Tryz.ntmps94
  go_wp2_with fail
  refine bodyPost_ret (v:=.bool false) ?_ rfl ⟨rfl,by rw[HA.out];exact HH.out,ku _ _⟩
  simp[results,Tryz.results94,go_sem]
theorem aL {b G:Nat} {st:RS} {W:World} (h:PI b G st W) (s:ByteArray) (m:Bool) (hm:aE s st=m):
  Calls Tryz.prog 94 #[.pointer (some ⟨b,0,none⟩),.string s] W fun e W'=>e=.returned (.bool m)∧PI b G (ag s st) W'∧W.grownBy W' (some b):=by
 cases m with
 | true=>exact Dh h hm
 | false=>exact FO h hm
theorem dA {b G:Nat} {st:RS} {W:World} (h:PI b G st W) (s:ByteArray):
  Calls Tryz.prog 97 #[.pointer (some ⟨b,0,none⟩),.string s] W fun e W'=>e=.returned (.tuple #[])∧PI b G (aD s st) W'∧W.grownBy W' (some b):=by
 have HH:=hid h
 clear h
 cases hm:aE s st with
 | true=>
  have HM:=hid hm
  have HE:Hid (aD s st=ag s st):=by show _=_;unfold aD;rw[if_pos hm]
  clear hm
  go_enter Tryz.func97,Tryz.ntmps97
  go_wp2_with fail
  refine(aL HH.out s true HM.out).mono ?_
  rintro e W1 ⟨rfl,h1,g1⟩
  have H1:=hid h1
  have G1:=hid g1
  clear h1 g1
  go_wp2_with fail
  go_end0
  exact⟨rfl,by rw[HE.out];exact H1.out,G1.out⟩
 | false=>
  have HM:=hid hm
  have HE:Hid (aD s st=dv):=by show _=_;unfold aD;rw[hm];rfl
  clear hm
  go_enter Tryz.func97,Tryz.ntmps97
  go_wp2_with fail
  refine(aL HH.out s false HM.out).mono ?_
  rintro e W1 ⟨rfl,h1,g1⟩
  have H1:=hid h1
  have G1:=hid g1
  clear h1 g1
  go_wp2_with fail
  refine(nk H1.out).mono ?_
  rintro e W2 ⟨rfl,h2,g2⟩
  have H2:=hid h2
  have G2:=hid g2
  clear h2 g2
  go_wp2_with fail
  go_end0
  exact⟨rfl,by rw[HE.out];exact H2.out,aB G1.out G2.out⟩
end
section
open Go.RowKit
theorem FJ {s:ByteArray} (h:1≤s.size):s.toList.isEmpty=false:=by
 rw[ByteArray.toList_eq]
 have:s.data.toList.length=s.size:=aZ s
 cases hd:s.data.toList with
 | nil=>rw[hd] at this;simp at this;omega
 | cons a l=>rfl
theorem DP {s:ByteArray} (h:¬1≤s.size):s.toList.isEmpty=true:=by
 rw[ByteArray.toList_eq]
 have:s.data.toList.length=s.size:=aZ s
 cases hd:s.data.toList with
 | nil=>rfl
 | cons a l=>rw[hd] at this;simp at this;omega
theorem dQ (s:ByteArray) (w:World):Calls Tryz.prog 147 #[.string s] w fun e w'=>e=.returned (.bool (isWord s))∧w'=w:=by
 by_cases h1:1≤s.size
 ·have hem:=FJ h1
  by_cases h8:s.size≤8
  ·have h0:0<s.size:=h1
   have h8i:¬(8:Int)<(s.size:Int):=by omega
   cases hl:eQ ((s[0]'h0).toNat:Int) with
   | true=>
    have HW:Hid (isWord s=decide (∀j,j<s.size→gU (bt s j)=true)):=DW h1 h8 (by rw[←gl h0];exact hl)
    go_enter Tryz.func147,Tryz.ntmps147
    go_wp2_with (first|(go_at_call 204;refine(fG _ _).mono ?_;rintro e w' ⟨rfl,rfl⟩)|(go_at_call 205;refine(isDigit _ _).mono ?_;rintro e w' ⟨rfl,rfl⟩))
    clear hl
    go_loop [19] (fun i=>∃k:Nat,k≤s.size∧i=.int .i64 k∧∀j,j<k→gU (bt s j)=true) (fun i=>s.size - (intOf i).toNat)
    case atStart=>exact⟨0,by omega,rfl,fun j hj=>absurd hj (by omega)⟩
    case round=>
     obtain⟨k,hk,rfl,hall⟩:=hrel
     have HA:=hid hall
     clear hall
     by_cases hlt:k<s.size
     ·cases hl:eQ ((s[k]'hlt).toNat:Int) with
      | true=>
       have HK1:Hid (∀j,j<k+1→gU (bt s j)=true):=by
        intro j hj
        by_cases e:j=k
        ·subst e;rw[←gl hlt];unfold gU;rw[hl];rfl
        ·exact HA.out j (by omega)
       go_wp2_with (first|(go_at_call 204;refine(fG _ _).mono ?_;rintro e w' ⟨rfl,rfl⟩)|(go_at_call 205;refine(isDigit _ _).mono ?_;rintro e w' ⟨rfl,rfl⟩))
       go_round
       case rel=>exact⟨k+1,by omega,by go_num,HK1.out⟩
       case measure=>simp[intOf];omega
      | false=>
       cases hd:cH ((s[k]'hlt).toNat:Int) with
       | true=>
        have HK1:Hid (∀j,j<k+1→gU (bt s j)=true):=by
         intro j hj
         by_cases e:j=k
         ·subst e;rw[←gl hlt];unfold gU;rw[hl,hd];rfl
         ·exact HA.out j (by omega)
        go_wp2_with (first|(go_at_call 204;refine(fG _ _).mono ?_;rintro e w' ⟨rfl,rfl⟩)|(go_at_call 205;refine(isDigit _ _).mono ?_;rintro e w' ⟨rfl,rfl⟩))
        go_round
        case rel=>exact⟨k+1,by omega,by go_num,HK1.out⟩
        case measure=>simp[intOf];omega
       | false=>
        have HF:Hid (isWord s=false):=by
         show _=_
         rw[HW.out]
         apply decide_eq_false
         intro hall
         have:=hall k hlt
         rw[←gl hlt] at this
         unfold gU at this
         rw[hl,hd] at this
         cases this
        go_wp2_with (first|(go_at_call 204;refine(fG _ _).mono ?_;rintro e w' ⟨rfl,rfl⟩)|(go_at_call 205;refine(isDigit _ _).mono ?_;rintro e w' ⟨rfl,rfl⟩))
        go_ret
        exact⟨nM HF.out.symm,rfl⟩
     ·have HF:Hid (isWord s=true):=by
       show _=_
       rw[HW.out]
       apply decide_eq_true
       intro j hj
       exact HA.out j (by omega)
      go_wp2
      go_ret
      exact⟨nM HF.out.symm,rfl⟩
   | false=>
    have HF:Hid (isWord s=false):=pY (by rintro ⟨_,_,h⟩;rw[←gl h0,hl] at h;cases h)
    go_enter Tryz.func147,Tryz.ntmps147
    go_wp2_with (first|(go_at_call 204;refine(fG _ _).mono ?_;rintro e w' ⟨rfl,rfl⟩)|(go_at_call 205;refine(isDigit _ _).mono ?_;rintro e w' ⟨rfl,rfl⟩))
    go_ret
    exact⟨nM HF.out.symm,rfl⟩
  ·have HF:Hid (isWord s=false):=pY (by omega)
   have h8i:(8:Int)<(s.size:Int):=by omega
   go_enter Tryz.func147,Tryz.ntmps147
   go_wp2_with (first|(go_at_call 204;refine(fG _ _).mono ?_;rintro e w' ⟨rfl,rfl⟩)|(go_at_call 205;refine(isDigit _ _).mono ?_;rintro e w' ⟨rfl,rfl⟩))
   go_ret
   exact⟨nM HF.out.symm,rfl⟩
 ·have HF:Hid (isWord s=false):=pY (by omega)
  have hem:=DP h1
  go_enter Tryz.func147,Tryz.ntmps147
  go_wp2_with (first|(go_at_call 204;refine(fG _ _).mono ?_;rintro e w' ⟨rfl,rfl⟩)|(go_at_call 205;refine(isDigit _ _).mono ?_;rintro e w' ⟨rfl,rfl⟩))
  go_ret
  exact⟨nM HF.out.symm,rfl⟩
end
section
open Go.RowKit
def bj (s:ByteArray):Int:=if isWord s then (if 97≤bt s 0 then 1 else if jm s then 3 else 2) else 0
theorem vR {s:ByteArray} (h:isWord s=true):1≤s.size∧eQ (bt s 0)=true:=by
 unfold isWord at h
 simp only[Bool.and_eq_true,decide_eq_true_eq] at h
 exact⟨h.1.1.1,h.1.2⟩
theorem GL (s:ByteArray):kQ s=if bj s=1 then 1 else if bj s=2 then 2 else 3:=by
 unfold kQ bj bN cD
 cases hw:isWord s with
 | false=>simp
 | true=>
  by_cases h9:97≤bt s 0
  ·simp[h9]
  ·have h9':bt s 0<97:=by omega
   cases hk:jm s<;>simp[h9,h9']
theorem FZ {s:ByteArray} (w:World) (HW:Hid (isWord s=false)):Calls Tryz.prog 73 #[.string s] w fun e w'=>e=.returned (.int .i64 0)∧w'=w:=by
 go_enter Tryz.func73,Tryz.ntmps73
 go_wp2_with (go_at_call 147;refine(dQ _ _).mono ?_;rintro e w' ⟨rfl,rfl⟩;rw[HW.out])
 go_ret
 exact⟨rfl,rfl⟩
theorem Bf {s:ByteArray} (w:World) (HW:Hid (isWord s=true)) (h0:0<s.size) (ha:(97:Int)≤((s[0]'h0).toNat:Int)) (hz:((s[0]'h0).toNat:Int)≤122):Calls Tryz.prog 73 #[.string s] w fun e w'=>e=.returned (.int .i64 1)∧w'=w:=by
 go_enter Tryz.func73,Tryz.ntmps73
 go_wp2_with (go_at_call 147;refine(dQ _ _).mono ?_;rintro e w' ⟨rfl,rfl⟩;rw[HW.out])
 go_ret
 exact⟨rfl,rfl⟩
theorem Bk {s:ByteArray} (w:World) (HW:Hid (isWord s=true)) (h0':0<s.size) (ha:¬(97:Int)≤((s[0]'h0').toNat:Int))  (h0:(s.toList==[77,65,84,67,72])=true):Calls Tryz.prog 73 #[.string s] w fun e w'=>e=.returned (.int .i64 3)∧w'=w:=by
 go_enter Tryz.func73,Tryz.ntmps73
 go_wp2_with (go_at_call 147;refine(dQ _ _).mono ?_;rintro e w' ⟨rfl,rfl⟩;rw[HW.out])
 go_ret
 exact⟨rfl,rfl⟩
theorem Bh {s:ByteArray} (w:World) (HW:Hid (isWord s=true)) (h0':0<s.size) (ha:¬(97:Int)≤((s[0]'h0').toNat:Int)) (h0:(s.toList==[77,65,84,67,72])=false) (h1:(s.toList==[87,72,69,82,69])=true):Calls Tryz.prog 73 #[.string s] w fun e w'=>e=.returned (.int .i64 3)∧w'=w:=by
 go_enter Tryz.func73,Tryz.ntmps73
 go_wp2_with (go_at_call 147;refine(dQ _ _).mono ?_;rintro e w' ⟨rfl,rfl⟩;rw[HW.out])
 go_ret
 exact⟨rfl,rfl⟩
theorem A7 {s:ByteArray} (w:World) (HW:Hid (isWord s=true)) (h0':0<s.size) (ha:¬(97:Int)≤((s[0]'h0').toNat:Int)) (h0:(s.toList==[77,65,84,67,72])=false) (h1:(s.toList==[87,72,69,82,69])=false) (h2:(s.toList==[65,78,68])=true):Calls Tryz.prog 73 #[.string s] w fun e w'=>e=.returned (.int .i64 3)∧w'=w:=by
 go_enter Tryz.func73,Tryz.ntmps73
 go_wp2_with (go_at_call 147;refine(dQ _ _).mono ?_;rintro e w' ⟨rfl,rfl⟩;rw[HW.out])
 go_ret
 exact⟨rfl,rfl⟩
theorem Bu {s:ByteArray} (w:World) (HW:Hid (isWord s=true)) (h0':0<s.size) (ha:¬(97:Int)≤((s[0]'h0').toNat:Int)) (h0:(s.toList==[77,65,84,67,72])=false) (h1:(s.toList==[87,72,69,82,69])=false) (h2:(s.toList==[65,78,68])=false) (h3:(s.toList==[82,69,84,85,82,78])=true):Calls Tryz.prog 73 #[.string s] w fun e w'=>e=.returned (.int .i64 3)∧w'=w:=by
 go_enter Tryz.func73,Tryz.ntmps73
 go_wp2_with (go_at_call 147;refine(dQ _ _).mono ?_;rintro e w' ⟨rfl,rfl⟩;rw[HW.out])
 go_ret
 exact⟨rfl,rfl⟩
theorem Af {s:ByteArray} (w:World) (HW:Hid (isWord s=true)) (h0':0<s.size) (ha:¬(97:Int)≤((s[0]'h0').toNat:Int)) (h0:(s.toList==[77,65,84,67,72])=false) (h1:(s.toList==[87,72,69,82,69])=false) (h2:(s.toList==[65,78,68])=false) (h3:(s.toList==[82,69,84,85,82,78])=false) (h4:(s.toList==[79,82,68,69,82])=true):Calls Tryz.prog 73 #[.string s] w fun e w'=>e=.returned (.int .i64 3)∧w'=w:=by
 go_enter Tryz.func73,Tryz.ntmps73
 go_wp2_with (go_at_call 147;refine(dQ _ _).mono ?_;rintro e w' ⟨rfl,rfl⟩;rw[HW.out])
 go_ret
 exact⟨rfl,rfl⟩
theorem AR {s:ByteArray} (w:World) (HW:Hid (isWord s=true)) (h0':0<s.size) (ha:¬(97:Int)≤((s[0]'h0').toNat:Int)) (h0:(s.toList==[77,65,84,67,72])=false) (h1:(s.toList==[87,72,69,82,69])=false) (h2:(s.toList==[65,78,68])=false) (h3:(s.toList==[82,69,84,85,82,78])=false) (h4:(s.toList==[79,82,68,69,82])=false) (h5:(s.toList==[66,89])=true):Calls Tryz.prog 73 #[.string s] w fun e w'=>e=.returned (.int .i64 3)∧w'=w:=by
 go_enter Tryz.func73,Tryz.ntmps73
 go_wp2_with (go_at_call 147;refine(dQ _ _).mono ?_;rintro e w' ⟨rfl,rfl⟩;rw[HW.out])
 go_ret
 exact⟨rfl,rfl⟩
theorem Ae {s:ByteArray} (w:World) (HW:Hid (isWord s=true)) (h0':0<s.size) (ha:¬(97:Int)≤((s[0]'h0').toNat:Int)) (h0:(s.toList==[77,65,84,67,72])=false) (h1:(s.toList==[87,72,69,82,69])=false) (h2:(s.toList==[65,78,68])=false) (h3:(s.toList==[82,69,84,85,82,78])=false) (h4:(s.toList==[79,82,68,69,82])=false) (h5:(s.toList==[66,89])=false) (h6:(s.toList==[68,69,83,67])=true):Calls Tryz.prog 73 #[.string s] w fun e w'=>e=.returned (.int .i64 3)∧w'=w:=by
 go_enter Tryz.func73,Tryz.ntmps73
 go_wp2_with (go_at_call 147;refine(dQ _ _).mono ?_;rintro e w' ⟨rfl,rfl⟩;rw[HW.out])
 go_ret
 exact⟨rfl,rfl⟩
theorem zO {s:ByteArray} (w:World) (HW:Hid (isWord s=true)) (h0':0<s.size) (ha:¬(97:Int)≤((s[0]'h0').toNat:Int)) (h0:(s.toList==[77,65,84,67,72])=false) (h1:(s.toList==[87,72,69,82,69])=false) (h2:(s.toList==[65,78,68])=false) (h3:(s.toList==[82,69,84,85,82,78])=false) (h4:(s.toList==[79,82,68,69,82])=false) (h5:(s.toList==[66,89])=false) (h6:(s.toList==[68,69,83,67])=false) (h7:(s.toList==[83,75,73,80])=true):Calls Tryz.prog 73 #[.string s] w fun e w'=>e=.returned (.int .i64 3)∧w'=w:=by
 go_enter Tryz.func73,Tryz.ntmps73
 go_wp2_with (go_at_call 147;refine(dQ _ _).mono ?_;rintro e w' ⟨rfl,rfl⟩;rw[HW.out])
 go_ret
 exact⟨rfl,rfl⟩
theorem AA {s:ByteArray} (w:World) (HW:Hid (isWord s=true)) (h0':0<s.size) (ha:¬(97:Int)≤((s[0]'h0').toNat:Int)) (h0:(s.toList==[77,65,84,67,72])=false) (h1:(s.toList==[87,72,69,82,69])=false) (h2:(s.toList==[65,78,68])=false) (h3:(s.toList==[82,69,84,85,82,78])=false) (h4:(s.toList==[79,82,68,69,82])=false) (h5:(s.toList==[66,89])=false) (h6:(s.toList==[68,69,83,67])=false) (h7:(s.toList==[83,75,73,80])=false) (h8:(s.toList==[76,73,77,73,84])=true):Calls Tryz.prog 73 #[.string s] w fun e w'=>e=.returned (.int .i64 3)∧w'=w:=by
 go_enter Tryz.func73,Tryz.ntmps73
 go_wp2_with (go_at_call 147;refine(dQ _ _).mono ?_;rintro e w' ⟨rfl,rfl⟩;rw[HW.out])
 go_ret
 exact⟨rfl,rfl⟩
theorem Bn {s:ByteArray} (w:World) (HW:Hid (isWord s=true)) (h0':0<s.size) (ha:¬(97:Int)≤((s[0]'h0').toNat:Int)) (h0:(s.toList==[77,65,84,67,72])=false) (h1:(s.toList==[87,72,69,82,69])=false) (h2:(s.toList==[65,78,68])=false) (h3:(s.toList==[82,69,84,85,82,78])=false) (h4:(s.toList==[79,82,68,69,82])=false) (h5:(s.toList==[66,89])=false) (h6:(s.toList==[68,69,83,67])=false) (h7:(s.toList==[83,75,73,80])=false) (h8:(s.toList==[76,73,77,73,84])=false) (h9:(s.toList==[83,69,84])=true):Calls Tryz.prog 73 #[.string s] w fun e w'=>e=.returned (.int .i64 3)∧w'=w:=by
 go_enter Tryz.func73,Tryz.ntmps73
 go_wp2_with (go_at_call 147;refine(dQ _ _).mono ?_;rintro e w' ⟨rfl,rfl⟩;rw[HW.out])
 go_ret
 exact⟨rfl,rfl⟩
theorem xM {s:ByteArray} (w:World) (HW:Hid (isWord s=true)) (h0':0<s.size) (ha:¬(97:Int)≤((s[0]'h0').toNat:Int)) (h0:(s.toList==[77,65,84,67,72])=false) (h1:(s.toList==[87,72,69,82,69])=false) (h2:(s.toList==[65,78,68])=false) (h3:(s.toList==[82,69,84,85,82,78])=false) (h4:(s.toList==[79,82,68,69,82])=false) (h5:(s.toList==[66,89])=false) (h6:(s.toList==[68,69,83,67])=false) (h7:(s.toList==[83,75,73,80])=false) (h8:(s.toList==[76,73,77,73,84])=false) (h9:(s.toList==[83,69,84])=false) (h10:(s.toList==[68,69,76,69,84,69])=true):Calls Tryz.prog 73 #[.string s] w fun e w'=>e=.returned (.int .i64 3)∧w'=w:=by
 go_enter Tryz.func73,Tryz.ntmps73
 go_wp2_with (go_at_call 147;refine(dQ _ _).mono ?_;rintro e w' ⟨rfl,rfl⟩;rw[HW.out])
 go_ret
 exact⟨rfl,rfl⟩
theorem yA {s:ByteArray} (w:World) (HW:Hid (isWord s=true)) (h0':0<s.size) (ha:¬(97:Int)≤((s[0]'h0').toNat:Int)) (h0:(s.toList==[77,65,84,67,72])=false) (h1:(s.toList==[87,72,69,82,69])=false) (h2:(s.toList==[65,78,68])=false) (h3:(s.toList==[82,69,84,85,82,78])=false) (h4:(s.toList==[79,82,68,69,82])=false) (h5:(s.toList==[66,89])=false) (h6:(s.toList==[68,69,83,67])=false) (h7:(s.toList==[83,75,73,80])=false) (h8:(s.toList==[76,73,77,73,84])=false) (h9:(s.toList==[83,69,84])=false) (h10:(s.toList==[68,69,76,69,84,69])=false) (h11:(s.toList==[67,82,69,65,84,69])=true):Calls Tryz.prog 73 #[.string s] w fun e w'=>e=.returned (.int .i64 3)∧w'=w:=by
 go_enter Tryz.func73,Tryz.ntmps73
 go_wp2_with (go_at_call 147;refine(dQ _ _).mono ?_;rintro e w' ⟨rfl,rfl⟩;rw[HW.out])
 go_ret
 exact⟨rfl,rfl⟩
theorem xo {s:ByteArray} (w:World) (HW:Hid (isWord s=true)) (h0':0<s.size) (ha:¬(97:Int)≤((s[0]'h0').toNat:Int)) (h0:(s.toList==[77,65,84,67,72])=false) (h1:(s.toList==[87,72,69,82,69])=false) (h2:(s.toList==[65,78,68])=false) (h3:(s.toList==[82,69,84,85,82,78])=false) (h4:(s.toList==[79,82,68,69,82])=false) (h5:(s.toList==[66,89])=false) (h6:(s.toList==[68,69,83,67])=false) (h7:(s.toList==[83,75,73,80])=false) (h8:(s.toList==[76,73,77,73,84])=false) (h9:(s.toList==[83,69,84])=false) (h10:(s.toList==[68,69,76,69,84,69])=false) (h11:(s.toList==[67,82,69,65,84,69])=false) (h12:(s.toList==[67,65,76,76])=true):Calls Tryz.prog 73 #[.string s] w fun e w'=>e=.returned (.int .i64 3)∧w'=w:=by
 go_enter Tryz.func73,Tryz.ntmps73
 go_wp2_with (go_at_call 147;refine(dQ _ _).mono ?_;rintro e w' ⟨rfl,rfl⟩;rw[HW.out])
 go_ret
 exact⟨rfl,rfl⟩
theorem yX {s:ByteArray} (w:World) (HW:Hid (isWord s=true)) (h0':0<s.size) (ha:¬(97:Int)≤((s[0]'h0').toNat:Int)) (h0:(s.toList==[77,65,84,67,72])=false) (h1:(s.toList==[87,72,69,82,69])=false) (h2:(s.toList==[65,78,68])=false) (h3:(s.toList==[82,69,84,85,82,78])=false) (h4:(s.toList==[79,82,68,69,82])=false) (h5:(s.toList==[66,89])=false) (h6:(s.toList==[68,69,83,67])=false) (h7:(s.toList==[83,75,73,80])=false) (h8:(s.toList==[76,73,77,73,84])=false) (h9:(s.toList==[83,69,84])=false) (h10:(s.toList==[68,69,76,69,84,69])=false) (h11:(s.toList==[67,82,69,65,84,69])=false) (h12:(s.toList==[67,65,76,76])=false) (h13:(s.toList==[73,83])=true):Calls Tryz.prog 73 #[.string s] w fun e w'=>e=.returned (.int .i64 3)∧w'=w:=by
 go_enter Tryz.func73,Tryz.ntmps73
 go_wp2_with (go_at_call 147;refine(dQ _ _).mono ?_;rintro e w' ⟨rfl,rfl⟩;rw[HW.out])
 go_ret
 exact⟨rfl,rfl⟩
theorem yJ {s:ByteArray} (w:World) (HW:Hid (isWord s=true)) (h0':0<s.size) (ha:¬(97:Int)≤((s[0]'h0').toNat:Int)) (h0:(s.toList==[77,65,84,67,72])=false) (h1:(s.toList==[87,72,69,82,69])=false) (h2:(s.toList==[65,78,68])=false) (h3:(s.toList==[82,69,84,85,82,78])=false) (h4:(s.toList==[79,82,68,69,82])=false) (h5:(s.toList==[66,89])=false) (h6:(s.toList==[68,69,83,67])=false) (h7:(s.toList==[83,75,73,80])=false) (h8:(s.toList==[76,73,77,73,84])=false) (h9:(s.toList==[83,69,84])=false) (h10:(s.toList==[68,69,76,69,84,69])=false) (h11:(s.toList==[67,82,69,65,84,69])=false) (h12:(s.toList==[67,65,76,76])=false) (h13:(s.toList==[73,83])=false) (h14:(s.toList==[78,79,84])=true):Calls Tryz.prog 73 #[.string s] w fun e w'=>e=.returned (.int .i64 3)∧w'=w:=by
 go_enter Tryz.func73,Tryz.ntmps73
 go_wp2_with (go_at_call 147;refine(dQ _ _).mono ?_;rintro e w' ⟨rfl,rfl⟩;rw[HW.out])
 go_ret
 exact⟨rfl,rfl⟩
theorem xA {s:ByteArray} (w:World) (HW:Hid (isWord s=true)) (h0':0<s.size) (ha:¬(97:Int)≤((s[0]'h0').toNat:Int)) (h0:(s.toList==[77,65,84,67,72])=false) (h1:(s.toList==[87,72,69,82,69])=false) (h2:(s.toList==[65,78,68])=false) (h3:(s.toList==[82,69,84,85,82,78])=false) (h4:(s.toList==[79,82,68,69,82])=false) (h5:(s.toList==[66,89])=false) (h6:(s.toList==[68,69,83,67])=false) (h7:(s.toList==[83,75,73,80])=false) (h8:(s.toList==[76,73,77,73,84])=false) (h9:(s.toList==[83,69,84])=false) (h10:(s.toList==[68,69,76,69,84,69])=false) (h11:(s.toList==[67,82,69,65,84,69])=false) (h12:(s.toList==[67,65,76,76])=false) (h13:(s.toList==[73,83])=false) (h14:(s.toList==[78,79,84])=false) (h15:(s.toList==[78,85,76,76])=true):Calls Tryz.prog 73 #[.string s] w fun e w'=>e=.returned (.int .i64 3)∧w'=w:=by
 go_enter Tryz.func73,Tryz.ntmps73
 go_wp2_with (go_at_call 147;refine(dQ _ _).mono ?_;rintro e w' ⟨rfl,rfl⟩;rw[HW.out])
 go_ret
 exact⟨rfl,rfl⟩
theorem yj {s:ByteArray} (w:World) (HW:Hid (isWord s=true)) (h0':0<s.size) (ha:¬(97:Int)≤((s[0]'h0').toNat:Int)) (h0:(s.toList==[77,65,84,67,72])=false) (h1:(s.toList==[87,72,69,82,69])=false) (h2:(s.toList==[65,78,68])=false) (h3:(s.toList==[82,69,84,85,82,78])=false) (h4:(s.toList==[79,82,68,69,82])=false) (h5:(s.toList==[66,89])=false) (h6:(s.toList==[68,69,83,67])=false) (h7:(s.toList==[83,75,73,80])=false) (h8:(s.toList==[76,73,77,73,84])=false) (h9:(s.toList==[83,69,84])=false) (h10:(s.toList==[68,69,76,69,84,69])=false) (h11:(s.toList==[67,82,69,65,84,69])=false) (h12:(s.toList==[67,65,76,76])=false) (h13:(s.toList==[73,83])=false) (h14:(s.toList==[78,79,84])=false) (h15:(s.toList==[78,85,76,76])=false) (h16:(s.toList==[67,79,85,78,84])=true):Calls Tryz.prog 73 #[.string s] w fun e w'=>e=.returned (.int .i64 3)∧w'=w:=by
 go_enter Tryz.func73,Tryz.ntmps73
 go_wp2_with (go_at_call 147;refine(dQ _ _).mono ?_;rintro e w' ⟨rfl,rfl⟩;rw[HW.out])
 go_ret
 exact⟨rfl,rfl⟩
theorem xT {s:ByteArray} (w:World) (HW:Hid (isWord s=true)) (h0':0<s.size) (ha:¬(97:Int)≤((s[0]'h0').toNat:Int)) (h0:(s.toList==[77,65,84,67,72])=false) (h1:(s.toList==[87,72,69,82,69])=false) (h2:(s.toList==[65,78,68])=false) (h3:(s.toList==[82,69,84,85,82,78])=false) (h4:(s.toList==[79,82,68,69,82])=false) (h5:(s.toList==[66,89])=false) (h6:(s.toList==[68,69,83,67])=false) (h7:(s.toList==[83,75,73,80])=false) (h8:(s.toList==[76,73,77,73,84])=false) (h9:(s.toList==[83,69,84])=false) (h10:(s.toList==[68,69,76,69,84,69])=false) (h11:(s.toList==[67,82,69,65,84,69])=false) (h12:(s.toList==[67,65,76,76])=false) (h13:(s.toList==[73,83])=false) (h14:(s.toList==[78,79,84])=false) (h15:(s.toList==[78,85,76,76])=false) (h16:(s.toList==[67,79,85,78,84])=false):Calls Tryz.prog 73 #[.string s] w fun e w'=>e=.returned (.int .i64 2)∧w'=w:=by
 go_enter Tryz.func73,Tryz.ntmps73
 go_wp2_with (go_at_call 147;refine(dQ _ _).mono ?_;rintro e w' ⟨rfl,rfl⟩;rw[HW.out])
 go_ret
 exact⟨rfl,rfl⟩
theorem Hw:dz.toList=[77,65,84,67,72]:=by decide +kernel
theorem IT:ej.toList=[87,72,69,82,69]:=by decide +kernel
theorem Ke:pP.toList=[65,78,68]:=by decide +kernel
theorem Ey:bq.toList=[82,69,84,85,82,78]:=by decide +kernel
theorem Ii:eJ.toList=[79,82,68,69,82]:=by decide +kernel
theorem La:IH.toList=[66,89]:=by decide +kernel
theorem JY:jF.toList=[68,69,83,67]:=by decide +kernel
theorem Jv:jI.toList=[83,75,73,80]:=by decide +kernel
theorem Ih:iN.toList=[76,73,77,73,84]:=by decide +kernel
theorem KF:fN.toList=[83,69,84]:=by decide +kernel
theorem FN:bI.toList=[68,69,76,69,84,69]:=by decide +kernel
theorem FK:aM.toList=[67,82,69,65,84,69]:=by decide +kernel
theorem JF:eW.toList=[67,65,76,76]:=by decide +kernel
theorem K8:ng.toList=[73,83]:=by decide +kernel
theorem Kk:jo.toList=[78,79,84]:=by decide +kernel
theorem JB:il.toList=[78,85,76,76]:=by decide +kernel
theorem Hn:ga.toList=[67,79,85,78,84]:=by decide +kernel
theorem Jy (k s:ByteArray):ik k s=(s.toList==k.toList):=by
 unfold ik
 rw[Bool.eq_iff_iff]
 simp only[beq_iff_eq]
 exact eq_comm
theorem eC (s:ByteArray) (w:World):Calls Tryz.prog 73 #[.string s] w fun e w'=>e=.returned (.int .i64 (bj s))∧w'=w:=by
 cases hw:isWord s with
 | false=>rw[show bj s=0 by unfold bj;rw[hw];rfl];exact FZ w hw
 | true=>
  obtain⟨h1,hl⟩:=vR hw
  have hs0:0<s.size:=h1
  have hb:=gl hs0
  have hl2:=Ce hl
  by_cases h9:97≤bt s 0
  ·rw[show bj s=1 by unfold bj;rw[hw,if_pos h9];rfl]
   exact Bf w hw hs0 (by omega) (by omega)
  ·have h9':¬(97:Int)≤((s[0]'hs0).toNat:Int):=by omega
   have hk:bj s=if jm s then 3 else 2:=by unfold bj;rw[hw,if_neg h9];rfl
   rw[hk]
   have hkk:jm s=((s.toList==[77,65,84,67,72]) || ((s.toList==[87,72,69,82,69]) || ((s.toList==[65,78,68]) || ((s.toList==[82,69,84,85,82,78]) || ((s.toList==[79,82,68,69,82]) || ((s.toList==[66,89]) || ((s.toList==[68,69,83,67]) || ((s.toList==[83,75,73,80]) || ((s.toList==[76,73,77,73,84]) || ((s.toList==[83,69,84]) || ((s.toList==[68,69,76,69,84,69]) || ((s.toList==[67,82,69,65,84,69]) || ((s.toList==[67,65,76,76]) || ((s.toList==[73,83]) || ((s.toList==[78,79,84]) || ((s.toList==[78,85,76,76]) || ((s.toList==[67,79,85,78,84])))))))))))))))))):=by
    unfold jm ah
    simp only[List.any_cons,List.any_nil,Bool.or_false,Jy,Hw,IT,Ke,Ey,Ii,La,JY,Jv,Ih,KF,FN,FK,JF,K8,Kk,JB,Hn]
   rw[hkk]
   cases h0:(s.toList==[77,65,84,67,72]) with
   | true=>simpa using Bk w hw hs0 h9' h0
   | false=>
    cases h1:(s.toList==[87,72,69,82,69]) with
    | true=>simpa using Bh w hw hs0 h9' h0 h1
    | false=>
     cases h2:(s.toList==[65,78,68]) with
     | true=>simpa using A7 w hw hs0 h9' h0 h1 h2
     | false=>
      cases h3:(s.toList==[82,69,84,85,82,78]) with
      | true=>simpa using Bu w hw hs0 h9' h0 h1 h2 h3
      | false=>
       cases h4:(s.toList==[79,82,68,69,82]) with
       | true=>simpa using Af w hw hs0 h9' h0 h1 h2 h3 h4
       | false=>
        cases h5:(s.toList==[66,89]) with
        | true=>simpa using AR w hw hs0 h9' h0 h1 h2 h3 h4 h5
        | false=>
         cases h6:(s.toList==[68,69,83,67]) with
         | true=>simpa using Ae w hw hs0 h9' h0 h1 h2 h3 h4 h5 h6
         | false=>
          cases h7:(s.toList==[83,75,73,80]) with
          | true=>simpa using zO w hw hs0 h9' h0 h1 h2 h3 h4 h5 h6 h7
          | false=>
           cases h8:(s.toList==[76,73,77,73,84]) with
           | true=>simpa using AA w hw hs0 h9' h0 h1 h2 h3 h4 h5 h6 h7 h8
           | false=>
            cases h9:(s.toList==[83,69,84]) with
            | true=>simpa using Bn w hw hs0 h9' h0 h1 h2 h3 h4 h5 h6 h7 h8 h9
            | false=>
             cases h10:(s.toList==[68,69,76,69,84,69]) with
             | true=>simpa using xM w hw hs0 h9' h0 h1 h2 h3 h4 h5 h6 h7 h8 h9 h10
             | false=>
              cases h11:(s.toList==[67,82,69,65,84,69]) with
              | true=>simpa using yA w hw hs0 h9' h0 h1 h2 h3 h4 h5 h6 h7 h8 h9 h10 h11
              | false=>
               cases h12:(s.toList==[67,65,76,76]) with
               | true=>simpa using xo w hw hs0 h9' h0 h1 h2 h3 h4 h5 h6 h7 h8 h9 h10 h11 h12
               | false=>
                cases h13:(s.toList==[73,83]) with
                | true=>simpa using yX w hw hs0 h9' h0 h1 h2 h3 h4 h5 h6 h7 h8 h9 h10 h11 h12 h13
                | false=>
                 cases h14:(s.toList==[78,79,84]) with
                 | true=>simpa using yJ w hw hs0 h9' h0 h1 h2 h3 h4 h5 h6 h7 h8 h9 h10 h11 h12 h13 h14
                 | false=>
                  cases h15:(s.toList==[78,85,76,76]) with
                  | true=>simpa using xA w hw hs0 h9' h0 h1 h2 h3 h4 h5 h6 h7 h8 h9 h10 h11 h12 h13 h14 h15
                  | false=>
                   cases h16:(s.toList==[67,79,85,78,84]) with
                   | true=>simpa using yj w hw hs0 h9' h0 h1 h2 h3 h4 h5 h6 h7 h8 h9 h10 h11 h12 h13 h14 h15 h16
                   | false=>
                    simpa using xT w hw hs0 h9' h0 h1 h2 h3 h4 h5 h6 h7 h8 h9 h10 h11 h12 h13 h14 h15 h16
end
end Go.Proofs.YtobgbmfpicmpcaaGreatDoor
