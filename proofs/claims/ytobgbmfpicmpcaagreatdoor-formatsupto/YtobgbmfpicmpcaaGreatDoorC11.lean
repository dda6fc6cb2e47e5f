/- The reference's 'number' answers the plain specification's value of a text of digits, with or without a sign. -/
import Derived.Test.YtobgbmfpicmpcaaGreatDoorC02
import Derived.Deep.QuietTactic
import Derived.BigQuiet
import Derived.WalkSmall
import Derived.Laws.Strings
import Derived.Lib.Hide
import Derived.Test.YtobgbmfpicmpcaaGreatDoorC10
import Derived.Deep.MidRow
import Derived.Test.YtobgbmfpicmpcaaGreatDoorC09
namespace Go.Proofs.YtobgbmfpicmpcaaGreatDoor
open Go.RowKit
def numEnd (o:Option Int):Value:=.tuple #[.int .i64 (o.getD 0),.bool o.isSome]
set_option maxHeartbeats 1000000 in
theorem refNumberPlain (s:ByteArray) (w:World) (hs:s.size≤maxLen) (h0:0<s.size) (hd:∀j,j<s.size→48≤bt s j∧bt s j≤57):
  Calls Tryz.prog 80 #[.string s] w fun e w'=>e=.returned (numEnd (numL s.data.toList))∧w'=w:=by
 unfold maxLen at hs
 have HD:Hid (∀j,j<s.size→48≤bt s j∧bt s j≤57):=hd
 have hb0:=hd 0 h0
 rw[←bt_in h0] at hb0
 clear hd
 go_enter Tryz.func80,Tryz.ntmps80
 go_wp2
 go_loop [5,6] (fun n i=>∃k:Nat,k≤s.size∧i=.int .i64 k∧n=.int .i64 (dn s 0 k)∧0≤dn s 0 k∧dn s 0 k≤1000000000) (fun _ i=>s.size - (intOf i).toNat)
 case atStart=>exact⟨0,Nat.zero_le _,rfl,rfl,by simp[dn],by simp[dn]⟩
 case round=>
  obtain⟨k,hk,rfl,rfl,hn0,hn1⟩:=hrel
  by_cases hlt:k<s.size
  ·have hbk:=HD.out k hlt
   have HS:Hid (dn s 0 (k+1)=10*dn s 0 k+(((s[k]'hlt).toNat:Int) - 48)):=by
    show dn s 0 (k+1)=_
    rw[dn,Nat.zero_add,bt_in hlt]
   rw[←bt_in hlt] at hbk
   by_cases hbig:1000000000<10*dn s 0 k+((s[k]'hlt).toNat:Int) - 48
   ·have HN:Hid (numL s.data.toList=none):=by
     have hd:=HD.out
     refine numL_plain_bad h0 (by rw[←bt_in h0];omega) (Or.inr ?_)
     have:=dn_mono s 0 (fun j _=>hd j) (k+1) (by omega)
     rw[HS.out,List.drop_zero] at this
     omega
    go_wp2
    go_ret2
    exact⟨by rw[HN.out];rfl,rfl⟩
   ·go_wp2
    go_round
    case rel=>exact⟨k+1,by omega,by go_num,by rw[HS.out];go_num,by rw[HS.out];omega,by rw[HS.out];omega⟩
    case measure=>simp[intOf];omega
  ·have hks:k=s.size:=by omega
   have HW:Hid (dn s 0 k=(digs 0 s.data.toList:Nat)):=by
    have:=dn_whole s 0 (fun j _=>HD.out j) (by omega)
    rw[List.drop_zero,Nat.sub_zero,←hks] at this
    exact this
   clear hks
   by_cases h48:((s[0]'h0).toNat:Int)=48
   ·by_cases h1:1<s.size
    ·have HN:Hid (numL s.data.toList=none):=numL_plain_bad h0 (by rw[←bt_in h0];omega) (Or.inl ⟨by rw[←bt_in h0];omega,h1⟩)
     have h48':(((s[0]'h0).toNat:Int)==48)=true:=by simp[h48]
     clear h48
     go_wp2
     go_ret2
     exact⟨by rw[HN.out];rfl,rfl⟩
    ·have HN:Hid (numL s.data.toList=some (dn s 0 k)):=by
      rw[HW.out]
      exact numL_plain_ok h0 (by rw[←bt_in h0];omega) (by omega) (by have:=HW.out;omega)
     have h48':(((s[0]'h0).toNat:Int)==48)=true:=by simp[h48]
     clear h48
     go_wp2
     go_ret2
     exact⟨by rw[HN.out];rfl,rfl⟩
   ·have HN:Hid (numL s.data.toList=some (dn s 0 k)):=by
      rw[HW.out]
      exact numL_plain_ok h0 (by rw[←bt_in h0];omega) (by rw[←bt_in h0];omega) (by have:=HW.out;omega)
    have h48':(((s[0]'h0).toNat:Int)==48)=false:=by simp[h48]
    clear h48
    go_wp2
    go_ret2
    exact⟨by rw[HN.out];rfl,rfl⟩
set_option maxHeartbeats 1000000 in
theorem refNumberSign (s:ByteArray) (w:World) (hs:s.size≤maxLen) (h0:0<s.size) (h1:1<s.size) (h45:bt s 0=45) (hd:∀j,1≤j→j<s.size→48≤bt s j∧bt s j≤57):
  Calls Tryz.prog 80 #[.string s] w fun e w'=>e=.returned (numEnd (numL s.data.toList))∧w'=w:=by
 unfold maxLen at hs
 have HD:Hid (∀j,1≤j→j<s.size→48≤bt s j∧bt s j≤57):=hd
 have H45:Hid (bt s 0=45):=h45
 have hb0:(((s[0]'h0).toNat:Int)==45)=true:=by rw[bt_in h0,h45];rfl
 have hb1:=hd 1 (by omega) h1
 rw[←bt_in h1] at hb1
 clear hd h45
 go_enter Tryz.func80,Tryz.ntmps80
 go_wp2
 go_loop [5,6] (fun n i=>∃k:Nat,1+k≤s.size∧i=.int .i64 ((1+k:Nat):Int)∧n=.int .i64 (dn s 1 k)∧0≤dn s 1 k∧dn s 1 k≤1000000000) (fun _ i=>s.size - (intOf i).toNat)
 case atStart=>exact⟨0,by omega,rfl,rfl,by simp[dn],by simp[dn]⟩
 case round=>
  obtain⟨k,hk,rfl,rfl,hn0,hn1⟩:=hrel
  by_cases hlt:1+k<s.size
  ·have hbk:=HD.out (1+k) (by omega) hlt
   have HS:Hid (dn s 1 (k+1)=10*dn s 1 k+(((s[1+k]'hlt).toNat:Int) - 48)):=by
    show dn s 1 (k+1)=_
    rw[dn,bt_in hlt]
   rw[←bt_in hlt] at hbk
   by_cases hbig:1000000000<10*dn s 1 k+((s[1+k]'hlt).toNat:Int) - 48
   ·have HN:Hid (numL s.data.toList=none):=by
     have hd:=HD.out
     refine numL_sign_bad h1 H45.out (Or.inr ?_)
     have:=dn_mono s 1 hd (k+1) (by omega)
     rw[HS.out] at this
     omega
    go_wp2
    go_ret2
    exact⟨by rw[HN.out];rfl,rfl⟩
   ·go_wp2
    go_round
    case rel=>exact⟨k+1,by omega,by go_num,by rw[HS.out];go_num,by rw[HS.out];omega,by rw[HS.out];omega⟩
    case measure=>simp[intOf];omega
  ·have HW:Hid (dn s 1 k=(digs 0 (s.data.toList.drop 1):Nat)):=by
    have hks:k=s.size - 1:=by omega
    have:=dn_whole s 1 HD.out (by omega)
    rw[←hks] at this
    exact this
   by_cases h48:((s[1]'h1).toNat:Int)=48
   ·have HN:Hid (numL s.data.toList=none):=numL_sign_bad h1 H45.out (Or.inl (by rw[←bt_in h1];omega))
    have h48':(((s[1]'h1).toNat:Int)==48)=true:=by simp[h48]
    by_cases h2:2<s.size
    ·clear h48
     go_wp2
     go_ret2
     exact⟨by rw[HN.out];rfl,rfl⟩
    ·have hk0:(dn s 1 k==0)=true:=by
      have:k=1:=by omega
      subst this
      simp only[dn]
      rw[←bt_in h1,h48];rfl
     clear h48
     go_wp2
     go_ret2
     exact⟨by rw[HN.out];rfl,rfl⟩
   ·have HN:Hid (numL s.data.toList=some (-(dn s 1 k))):=by
      rw[HW.out]
      exact numL_sign_ok h1 H45.out (by rw[←bt_in h1];omega) (by have:=HW.out;omega)
    have h48':(((s[1]'h1).toNat:Int)==48)=false:=by simp[h48]
    have hk0:(dn s 1 k==0)=false:=by
     have h2:dn s 1 1≤dn s 1 k:=by
      rw[HW.out];exact dn_mono s 1 HD.out 1 (by omega)
     have h3:dn s 1 1=10*0+(bt s (1+0) - 48):=by simp only[dn]
     rw[Nat.add_zero,←bt_in h1] at h3
     simp;omega
    clear h48
    go_wp2
    go_ret2
    exact⟨by rw[HN.out];rfl,rfl⟩
end Go.Proofs.YtobgbmfpicmpcaaGreatDoor

/- The reference's 'mark' answers the longest mark at the front of a text, or nothing; it makes memory and changes none. -/
namespace Go.Proofs.YtobgbmfpicmpcaaGreatDoor
open Go.RowKit
theorem ret_str {a b:ByteArray} (h:a=b):Ending.returned (.string a)=.returned (.string b):=by rw[h]
theorem empty_extract (s:ByteArray):s.extract 0 0=⟨#[]⟩:=
 ext_bt (by rw[size_extract' _ _ _ (Nat.zero_le _)];rfl) (fun j hj=>by rw[size_extract' _ _ _ (Nat.zero_le _)] at hj;omega)
theorem fits_of_eq {s m:ByteArray} (h1:m.size≤s.size) (h2:((s.extract 0 m.size).toList==m.toList)=true):fits s m:=by
 refine⟨h1,?_⟩
 rw[ByteArray.toList_eq,ByteArray.toList_eq] at h2
 exact ByteArray.ext (Array.toList_inj.1 (by simpa using h2))
theorem not_fits_of_ne {s m:ByteArray} (h2:((s.extract 0 m.size).toList==m.toList)=false):¬fits s m:=by
 rintro ⟨-,h⟩
 rw[h] at h2
 simp at h2
theorem mark_cells (w:World) (j:Nat) (hj:j<17):(w.alloc (.cells #[Value.string {data:=#[93,45,62]},Value.string {data:=#[45,91]},Value.string {data:=#[46,46]},Value.string {data:=#[60,61]},Value.string {data:=#[62,61]},Value.string {data:=#[60,62]},Value.string {data:=#[40]},Value.string {data:=#[41]},Value.string {data:=#[58]},Value.string {data:=#[44]},Value.string {data:=#[46]},Value.string {data:=#[61]},Value.string {data:=#[60]},Value.string {data:=#[62]},Value.string {data:=#[42]},Value.string {data:=#[123]},Value.string {data:=#[125]}] 9)).cell? ⟨w.heap.size,j,none⟩=some (.string (markAt j)):=by
 rcases (show j=0∨j=1∨j=2∨j=3∨j=4∨j=5∨j=6∨j=7∨j=8∨j=9∨j=10∨j=11∨j=12∨j=13∨j=14∨j=15∨j=16 by omega) with rfl|rfl|rfl|rfl|rfl|rfl|rfl|rfl|rfl|rfl|rfl|rfl|rfl|rfl|rfl|rfl|rfl
 all_goals (simp[markTexts,markAt])
set_option maxHeartbeats 1000000 in
theorem refMark (s:ByteArray) (w:World):
  Calls Tryz.prog 81 #[.string s] w fun e w'=>e=.returned (.string (s.extract 0 (markLen s 0)))∧Below w.heap.size w w':=by
 go_enter Tryz.func81,Tryz.ntmps81
 go_wp2
 go_loopw [4] (fun i wr=>∃k:Nat,k≤17∧i=.int .i64 k∧(∀j,j<17→wr.cell? ⟨w.heap.size,j,none⟩=some (.string (markAt j)))∧Below w.heap.size w wr∧∀j,j<k→¬fits s (markAt j)) (fun i _=>17 - (intOf i).toNat)
 case atStart=>exact⟨0,by omega,rfl,mark_cells w,(Below.refl _ _).alloc (Nat.le_refl _) _,fun j hj=>absurd hj (by omega)⟩
 case round=>
  obtain⟨k,hk,rfl,hc,hB,hno⟩:=hrel
  have HC:Hid (∀j,j<17→wr.cell? ⟨w.heap.size,j,none⟩=some (.string (markAt j))):=hc
  have HB:Hid (Below w.heap.size w wr):=hB
  have HN:Hid (∀j,j<k→¬fits s (markAt j)):=hno
  clear hc hB hno
  by_cases hlt:k<17
  ·obtain⟨m,hm⟩:∃m,m=markAt k:=⟨_,rfl⟩
   have hck:wr.cell? ⟨w.heap.size,k,none⟩=some (.string m):=by rw[hm];exact HC.out k hlt
   have HM:Hid (m=markAt k):=hm
   clear hm
   have HF:Hid (¬fits s m→∀j,j<k+1→¬fits s (markAt j)):=by
    intro hn j hj
    by_cases e:j=k
    ·subst e;rw[←HM.out];exact hn
    ·exact HN.out j (by omega)
   by_cases hle:m.size≤s.size
   ·go_wp2
    go_quiet (fail)
    go_wp2
    ·go_ret
     have h2:((s.extract 0 m.size).toList==m.toList)=true:=by assumption
     have hf:=fits_of_eq hle h2
     rw[HM.out] at hf
     exact⟨ret_str (by rw[HM.out];exact(mark_found hlt hf HN.out).1),below_drewN HB.out _⟩
    ·go_roundw
     case rel=>
      have h2:((s.extract 0 m.size).toList==m.toList)=false:=by assumption
      exact⟨k+1,by omega,by go_num,HC.out,below_drewN HB.out _,HF.out (not_fits_of_ne h2)⟩
     case measure=>simp[intOf];omega
   ·have hd:decide ((m.size:Int)≤(s.size:Int))=false:=by simpa using hle
    go_wp2
    go_quiet (fail)
    go_wp2
    go_roundw
    case rel=>exact⟨k+1,by omega,by go_num,HC.out,below_drewN HB.out _,HF.out (fun hf=>hle hf.1)⟩
    case measure=>simp[intOf];omega
  ·have HZ:Hid (markLen s 0=0):=mark_none (fun j hj=>HN.out j (by omega))
   go_wp2
   go_ret
   exact⟨ret_str (by rw[HZ.out];exact(empty_extract s).symm),HB.out⟩
end Go.Proofs.YtobgbmfpicmpcaaGreatDoor

/- The reference's Tokens answers the plain specification's tokens in memory of its own. -/
namespace Go.Proofs.YtobgbmfpicmpcaaGreatDoor
open Go.RowKit
theorem refNumber (t:ByteArray) (w:World) (hs:t.size≤maxLen) (h:Numeral t):
  Calls Tryz.prog 80 #[.string t] w fun e w'=>e=.returned (numEnd (numL t.data.toList))∧w'=w:=by
 rcases h with ⟨h0,hd⟩|⟨h1,h45,hd⟩
 ·exact refNumberPlain t w hs h0 hd
 ·exact refNumberSign t w hs (by omega) h1 h45 hd
theorem refNumberSome (t:ByteArray) (w:World) (v:Int) (hs:t.size≤maxLen) (h:Numeral t) (hv:numL t.data.toList=some v):
  Calls Tryz.prog 80 #[.string t] w fun e w'=>e=.returned (.tuple #[.int .i64 v,.bool true])∧w'=w:=by
 have:=refNumber t w hs h
 rw[hv] at this;exact this
theorem refNumberNone (t:ByteArray) (w:World) (hs:t.size≤maxLen) (h:Numeral t) (hv:numL t.data.toList=none):
  Calls Tryz.prog 80 #[.string t] w fun e w'=>e=.returned (.tuple #[.int .i64 0,.bool false])∧w'=w:=by
 have:=refNumber t w hs h
 rw[hv] at this;exact this
theorem refMarkAt (s:ByteArray) (k:Nat) (h:k<s.size) (w:World):
  Calls Tryz.prog 81 #[.string (s.extract k s.size)] w fun e w'=>e=.returned (.string (s.extract k (k+markLen s k)))∧Below w.heap.size w w':=by
 have:=refMark (s.extract k s.size) w
 rw[mark_text s k h] at this;exact this
set_option maxRecDepth 100000 in
set_option maxHeartbeats 2000000 in
theorem refTokens (s:ByteArray) (w:World) (h2000:s.size≤2000):
  Calls Tryz.prog 37 #[.string s] w (TokPost s w):=by
 obtain⟨i0,hi,hz0,hz1,hz2⟩:=info_parts Tryz.info27
 go_enter Tryz.func37,Tryz.ntmps37
 go_wp2
 go_loopw [4,5] (fun v i wr=>∃k acc,k≤s.size∧i=.int .i64 (k:Nat)∧Sofar s k acc∧acc.length≤k∧Below w.heap.size w wr∧wr.ownsRow w.heap.size 153 3 v acc.length (tokCells acc)) (fun _ i _=>s.size - (intOf i).toNat)
 case atStart=>exact⟨0,[],by omega,rfl,sofar_start s,by simp,Below.refl _ _,World.ownsRow_nil _ _ _ _⟩
 case round=>
  obtain⟨k,acc,hk,rfl,hsf,hal,hB,hown⟩:=hrel
  have HSF:Hid (Sofar s k acc):=hsf
  have HB:Hid (Below w.heap.size w wr):=hB
  have hsz:=hB.size
  clear hsf hB
  by_cases hlt:k<s.size
  ·by_cases h32:((s[k]'hlt).toNat:Int)=32
   ·have hb:(((s[k]'hlt).toNat:Int)==32)=true:=by simp[h32]
    have HBL:Hid (bt s k=32):=by rw[←bt_in hlt];exact h32
    clear h32
    go_wp2
    go_roundw
    case rel=>exact⟨k+1,acc,by omega,by go_num,HSF.out.blank hlt HBL.out,by omega,HB.out,hown⟩
    case measure=>simp[intOf];omega
   ·have hb:(((s[k]'hlt).toNat:Int)==32)=false:=by simp[h32]
    have HNB:Hid (bt s k≠32):=by rw[←bt_in hlt];exact h32
    clear h32
    by_cases hl:letB ((s[k]'hlt).toNat:Int)=true
    ·go_wp2_with (go_at_call 78;refine(refLetter _ _).mono ?_;rintro e w' ⟨rfl,rfl⟩)
     rename_i w1
     go_loop [7] (fun i=>∃e:Nat,k≤e∧e≤s.size∧i=.int .i64 e∧span alnB s e=span alnB s k) (fun i=>s.size - (intOf i).toNat)
     case atStart=>exact⟨k,Nat.le_refl _,by omega,rfl,rfl⟩
     case round=>
      obtain⟨e,he1,he2,rfl,hsp⟩:=hrel
      have HSP:Hid (span alnB s e=span alnB s k):=hsp
      clear hsp
      by_cases hgo:∃h:e<s.size,letB ((s[e]'h).toNat:Int)=true∨digB ((s[e]'h).toNat:Int)=true
      ·obtain⟨het,hgo⟩:=hgo
       have HST:Hid (span alnB s (e+1)=span alnB s k):=span_step het (by unfold alnB;rcases hgo with h|h<;>rw[h]<;>simp) HSP.out
       by_cases hel:letB ((s[e]'het).toNat:Int)=true
       ·clear hgo
        go_wp2_with (go_at_call 78;refine(refLetter _ _).mono ?_;rintro e w' ⟨rfl,rfl⟩)
        go_round
        case rel=>exact⟨e+1,by omega,by omega,by go_num,HST.out⟩
        case measure=>simp[intOf];omega
       ·have hed:digB ((s[e]'het).toNat:Int)=true:=by rcases hgo with h|h;exact absurd h hel;exact h
        have hel':letB ((s[e]'het).toNat:Int)=false:=by simpa using hel
        clear hgo hel
        go_wp2_with (first|(go_at_call 78;refine(refLetter _ _).mono ?_;rintro e w' ⟨rfl,rfl⟩)|(go_at_call 79;refine(refDigit _ _).mono ?_;rintro e w' ⟨rfl,rfl⟩))
        go_round
        case rel=>exact⟨e+1,by omega,by omega,by go_num,HST.out⟩
        case measure=>simp[intOf];omega
      ·have HE:Hid (span alnB s k=e):=span_here (fun h=>by
        unfold alnB
        cases h1:letB ((s[e]'h).toNat:Int) with
        | true=>exact absurd ⟨h,Or.inl h1⟩ hgo
        | false=>cases h2:digB ((s[e]'h).toNat:Int) with
         | true=>exact absurd ⟨h,Or.inr h2⟩ hgo
         | false=>rfl) HSP.out
       have hend:∀h:e<s.size,letB ((s[e]'h).toNat:Int)=false∧digB ((s[e]'h).toNat:Int)=false:=by
        intro h
        refine⟨?_,?_⟩
        ·cases h1:letB ((s[e]'h).toNat:Int) with
         | true=>exact absurd ⟨_,Or.inl h1⟩ hgo
         | false=>rfl
        ·cases h1:digB ((s[e]'h).toNat:Int) with
         | true=>exact absurd ⟨_,Or.inr h1⟩ hgo
         | false=>rfl
       have HEND:Hid (∀h:e<s.size,letB ((s[e]'h).toNat:Int)=false∧digB ((s[e]'h).toNat:Int)=false):=hend
       clear hgo hend
       have hdone:(∃h:e<s.size,letB ((s[e]'h).toNat:Int)=false∧digB ((s[e]'h).toNat:Int)=false)∨¬e<s.size:=by
        by_cases h:e<s.size
        ·exact Or.inl ⟨h,HEND.out h⟩
        ·exact Or.inr h
       by_cases h8:8<e - k
       ·have HONE:Hid (one s k=none):=one_word_bad hlt hl HE.out h8
        rcases hdone with ⟨het,hx1,hx2⟩|het
        all_goals
         go_wp2_with (first|(go_at_call 78;refine(refLetter _ _).mono ?_;rintro e w' ⟨rfl,rfl⟩)|(go_at_call 79;refine(refDigit _ _).mono ?_;rintro e w' ⟨rfl,rfl⟩))
         go_ret2
         exact⟨HB.out,Or.inl ⟨toks_none h2000 (HSF.out.bad hlt HNB.out HONE.out),rfl⟩⟩
       ·have HONE:Hid (one s k=some (e,⟨1,s.extract k e,0⟩)):=one_word hlt hl HE.out (by omega)
        have hne:k<e:=(one_next HONE.out hlt).1
        rcases hdone with ⟨het,hx1,hx2⟩|het
        all_goals
         go_wp2_with (first|(go_at_call 78;refine(refLetter _ _).mono ?_;rintro e w' ⟨rfl,rfl⟩)|(go_at_call 79;refine(refDigit _ _).mono ?_;rintro e w' ⟨rfl,rfl⟩)|(at_builtin;refine wpList_append_own _ rfl _ _ 71 rfl w.heap.size 153 i0 (.agg #[.int .i64 0,.string ⟨#[]⟩,.int .i64 0]) 3 32 Tryz.underlying71 hi hz0 hz1 hz2 rfl (by decide) _ _ _ rfl (hown.alloc _) _ 1 1 [.int .i64 1,.string (s.extract k e),.int .i64 0] rfl rfl three_cells three_one (by unfold maxLen;omega) (by omega) (by simp;omega) ?_;intro v' w2 hown' hgrow _))
         have R:=rel_append HB.out (Nat.le_refl _) hown hown' hgrow
         clear hown' hgrow hown
         go_wp2
         go_roundw
         case rel=>exact⟨e,_,by omega,by go_num,HSF.out.tok hlt HNB.out HONE.out,by simp;omega,R.1,R.2⟩
         case measure=>simp[intOf];omega
    ·have hl0:letB ((s[k]'hlt).toNat:Int)=false:=by simpa using hl
     have HL:Hid (letB (bt s k)=false):=by rw[←bt_in hlt];exact hl0
     clear hl
     by_cases hnb:NumBegin s k
     ·have HNB2:Hid (NumBegin s k):=hnb
      have hsplit:digB ((s[k]'hlt).toNat:Int)=true∨(digB ((s[k]'hlt).toNat:Int)=false∧(((s[k]'hlt).toNat:Int)==45)=true∧∃h:k+1<s.size,digB ((s[k+1]'h).toNat:Int)=true):=by
       rw[bt_in hlt]
       rcases hnb with h|⟨h1,h2⟩
       ·exact Or.inl h
       ·have h3:k+1<s.size:=bt_lt (by have:=of_digB h2;omega)
        refine Or.inr ⟨digB_no (by omega),by rw[h1];rfl,h3,?_⟩
        rw[bt_in h3];exact h2
      clear hnb
      rcases hsplit with hd|⟨hd,h45,hk1,hd1⟩
      all_goals
       go_wp2_with (first|(go_at_call 78;refine(refLetter _ _).mono ?_;rintro e w' ⟨rfl,rfl⟩)|(go_at_call 79;refine(refDigit _ _).mono ?_;rintro e w' ⟨rfl,rfl⟩))
       go_loop [7] (fun i=>∃e:Nat,k+1≤e∧e≤s.size∧i=.int .i64 e∧span digB s e=span digB s (k+1)) (fun i=>s.size - (intOf i).toNat)
       case atStart=>exact⟨k+1,Nat.le_refl _,by omega,by go_num,rfl⟩
       case round=>
        obtain⟨e,he1,he2,rfl,hsp⟩:=hrel
        have HSP:Hid (span digB s e=span digB s (k+1)):=hsp
        clear hsp
        by_cases hgo:∃h:e<s.size,digB ((s[e]'h).toNat:Int)=true
        ·obtain⟨het,hgo⟩:=hgo
         have HST:Hid (span digB s (e+1)=span digB s (k+1)):=span_step het hgo HSP.out
         go_wp2_with (first|(go_at_call 78;refine(refLetter _ _).mono ?_;rintro e w' ⟨rfl,rfl⟩)|(go_at_call 79;refine(refDigit _ _).mono ?_;rintro e w' ⟨rfl,rfl⟩))
         go_round
         case rel=>exact⟨e+1,by omega,by omega,by go_num,HST.out⟩
         case measure=>simp[intOf];omega
        ·have HE:Hid (span digB s (k+1)=e):=span_here (fun h=>by
          cases h1:digB ((s[e]'h).toNat:Int) with
          | true=>exact absurd ⟨h,h1⟩ hgo
          | false=>rfl) HSP.out
         have hdone:(∃h:e<s.size,digB ((s[e]'h).toNat:Int)=false)∨¬e<s.size:=by
          by_cases h:e<s.size
          ·left;refine⟨h,?_⟩
           cases h1:digB ((s[e]'h).toNat:Int) with
           | true=>exact absurd ⟨h,h1⟩ hgo
           | false=>rfl
          ·exact Or.inr h
         clear hgo
         have HNUM:Hid (Numeral (s.extract k e)):=numeral_of hlt HNB2.out HE.out
         have hxz:=size_extract' s k e he2
         have HXZ:Hid ((s.extract k e).size≤maxLen):=by show _≤maxLen;rw[hxz];unfold maxLen;omega
         clear hxz
         cases hv:numL (s.extract k e).data.toList with
         | none=>
          have HV:Hid (numL (s.extract k e).data.toList=none):=hv
          clear hv
          have HONE:Hid (one s k=none):=one_num_bad HL.out HNB2.out HE.out HV.out
          rcases hdone with ⟨het,hx1⟩|het
          all_goals
           go_wp2_with (first|(go_at_call 78;refine(refLetter _ _).mono ?_;rintro e w' ⟨rfl,rfl⟩)|(go_at_call 79;refine(refDigit _ _).mono ?_;rintro e w' ⟨rfl,rfl⟩)|(go_at_call 80;refine(refNumberNone _ _ HXZ.out HNUM.out HV.out).mono ?_;rintro e w' ⟨rfl,rfl⟩))
           go_ret2
           exact⟨HB.out,Or.inl ⟨toks_none h2000 (HSF.out.bad hlt HNB.out HONE.out),rfl⟩⟩
         | some v=>
          have HV:Hid (numL (s.extract k e).data.toList=some v):=hv
          clear hv
          have HONE:Hid (one s k=some (e,⟨2,s.extract k e,v⟩)):=one_num HL.out HNB2.out HE.out HV.out
          rcases hdone with ⟨het,hx1⟩|het
          all_goals
           go_wp2_with (first|(go_at_call 78;refine(refLetter _ _).mono ?_;rintro e w' ⟨rfl,rfl⟩)|(go_at_call 79;refine(refDigit _ _).mono ?_;rintro e w' ⟨rfl,rfl⟩)|(go_at_call 80;refine(refNumberSome _ _ v HXZ.out HNUM.out HV.out).mono ?_;rintro e w' ⟨rfl,rfl⟩)|(at_builtin;refine wpList_append_own _ rfl _ _ 71 rfl w.heap.size 153 i0 (.agg #[.int .i64 0,.string ⟨#[]⟩,.int .i64 0]) 3 32 Tryz.underlying71 hi hz0 hz1 hz2 rfl (by decide) _ _ _ rfl (hown.alloc _) _ 1 1 [.int .i64 2,.string (s.extract k e),.int .i64 v] rfl rfl three_cells three_one (by unfold maxLen;omega) (by omega) (by simp;omega) ?_;intro v' w2 hown' hgrow _))
           have R:=rel_append HB.out (Nat.le_refl _) hown hown' hgrow
           clear hown' hgrow hown
           go_wp2
           go_roundw
           case rel=>exact⟨e,_,by omega,by go_num,HSF.out.tok hlt HNB.out HONE.out,by simp;omega,R.1,R.2⟩
           case measure=>simp[intOf];omega
     ·have HNB2:Hid (¬NumBegin s k):=hnb
      have hsplit:digB ((s[k]'hlt).toNat:Int)=false∧((((s[k]'hlt).toNat:Int)==45)=false∨((((s[k]'hlt).toNat:Int)==45)=true∧((∃h:k+1<s.size,digB ((s[k+1]'h).toNat:Int)=false)∨¬k+1<s.size))):=by
       have h0:digB ((s[k]'hlt).toNat:Int)=false:=by
        cases h1:digB ((s[k]'hlt).toNat:Int) with
        | true=>exact absurd (Or.inl (by rw[←bt_in hlt];exact h1)) hnb
        | false=>rfl
       refine⟨h0,?_⟩
       by_cases h45:((s[k]'hlt).toNat:Int)=45
       ·refine Or.inr ⟨by rw[h45];rfl,?_⟩
        by_cases h1:k+1<s.size
        ·left;refine⟨h1,?_⟩
         cases h2:digB ((s[k+1]'h1).toNat:Int) with
         | true=>exact absurd (Or.inr ⟨by rw[←bt_in hlt];exact h45,by rw[←bt_in h1];exact h2⟩) hnb
         | false=>rfl
        ·exact Or.inr h1
       ·exact Or.inl (by simpa using h45)
      clear hnb
      have hml:=markLen_le hlt
      have HZM:Hid ((s.extract k (k+markLen s k)).size=markLen s k):=by show _=_;rw[size_extract' s k _ hml];omega
      obtain⟨hd,hsplit⟩:=hsplit
      by_cases hm0:markLen s k=0
      ·have HONE:Hid (one s k=none):=one_mark_bad HL.out HNB2.out hm0
       rcases hsplit with h45|⟨h45,⟨h1,hd1⟩|h1⟩
       all_goals
        go_wp2_with (first|(go_at_call 78;refine(refLetter _ _).mono ?_;rintro e w' ⟨rfl,rfl⟩)|(go_at_call 79;refine(refDigit _ _).mono ?_;rintro e w' ⟨rfl,rfl⟩)|(go_at_call 81;refine(refMarkAt s k hlt _).mono ?_;rintro e w2 ⟨rfl,hb2⟩))
        go_ret2
        exact⟨HB.out.trans (hb2.mono hsz),Or.inl ⟨toks_none h2000 (HSF.out.bad hlt HNB.out HONE.out),rfl⟩⟩
      ·have HONE:Hid (one s k=some (k+markLen s k,⟨3,s.extract k (k+markLen s k),0⟩)):=one_mark HL.out HNB2.out (by omega)
       obtain⟨n,hn⟩:∃n,n=markLen s k:=⟨_,rfl⟩
       rw[←hn] at hml HZM HONE hm0
       obtain⟨m,hm⟩:∃m,m=s.extract k (k+n):=⟨_,rfl⟩
       rw[←hm] at HZM HONE
       have hmz:m.size≤n∧n≤m.size:=by have:=HZM.out;omega
       have hme:m.toList.isEmpty=false:=by
        rw[ByteArray.toList_eq]
        cases hx:m.data.toList with
        | nil=>
         have:=len_toList m
         rw[hx,List.length_nil] at this
         omega
        | cons _ _=>rfl
       have hM:∀W:World,Calls Tryz.prog 81 #[.string (s.extract k s.size)] W fun e w'=>e=.returned (.string m)∧Below W.heap.size W w':=fun W=>by rw[hm,hn];exact refMarkAt s k hlt W
       have HMC:=Lib.hid hM
       clear hM hm hn
       rcases hsplit with h45|⟨h45,⟨h1,hd1⟩|h1⟩
       all_goals
        go_wp2_with (first|(go_at_call 78;refine(refLetter _ _).mono ?_;rintro e w' ⟨rfl,rfl⟩)|(go_at_call 79;refine(refDigit _ _).mono ?_;rintro e w' ⟨rfl,rfl⟩)|(go_at_call 81;refine(HMC.out _).mono ?_;rintro e w2 ⟨rfl,hb2⟩;have hb2s:=hb2.size)|(at_builtin;refine wpList_append_own _ rfl _ _ 71 rfl w.heap.size 153 i0 (.agg #[.int .i64 0,.string ⟨#[]⟩,.int .i64 0]) 3 32 Tryz.underlying71 hi hz0 hz1 hz2 rfl (by decide) _ _ _ rfl ((own_below hown hb2).alloc _) _ 1 1 [.int .i64 3,.string m,.int .i64 0] rfl rfl three_cells three_one (by unfold maxLen;omega) (by omega) (by simp;omega) ?_;intro v' w3 hown' hgrow _))
        have R:=rel_append (HB.out.trans (hb2.mono hsz)) (Nat.le_refl _) (own_below hown hb2) hown' hgrow
        clear hown' hgrow hown hb2
        go_wp2
        go_roundw
        case rel=>exact⟨k+n,_,by omega,by go_num,HSF.out.tok hlt HNB.out HONE.out,by simp;omega,R.1,R.2⟩
        case measure=>simp[intOf];omega
  ·go_wp2
   go_ret2
   exact⟨HB.out,Or.inr ⟨acc,_,toks_some h2000 (HSF.out.fin hlt),rfl,hown⟩⟩
set_option maxRecDepth 100000 in
set_option maxHeartbeats 1000000 in
theorem refTokensLong (s:ByteArray) (w:World) (hs:s.size≤maxLen) (h2000:2000<s.size):
  Calls Tryz.prog 37 #[.string s] w (TokPost s w):=by
 unfold maxLen at hs
 go_enter Tryz.func37,Tryz.ntmps37
 go_wp2
 go_ret2
 exact⟨Below.refl _ _,Or.inl ⟨by unfold toks;rw[if_pos h2000],rfl⟩⟩
theorem refTokensAny (s:ByteArray) (w:World) (hs:s.size≤maxLen):Calls Tryz.prog 37 #[.string s] w (TokPost s w):=by
 by_cases h:s.size≤2000
 ·exact refTokens s w h
 ·exact refTokensLong s w hs (by omega)
end Go.Proofs.YtobgbmfpicmpcaaGreatDoor

/- The reference's Parse. -/
namespace Go.Proofs.YtobgbmfpicmpcaaGreatDoor
open Go.RowKit
structure QRows (B:Nat) (q:PQuery) (vs vc vi vp:Value) (w:World):Prop where
 rs:w.ownsRow B 85 5 vs q.spots.length (spotCells q.spots)
 rc:w.ownsRow B 87 7 vc q.conds.length (condCells q.conds)
 rt:w.ownsRow B 89 2 vi q.items.length (itemCells q.items)
 rp:w.ownsRow B 91 2 vp q.pairs.length (pairCells q.pairs)
def ParsePost (r:PQuery × Int) (W:World) (e:Ending) (W':World):Prop:=
 Below W.heap.size W W'∧∃vs vc vi vp,e=.returned (.tuple #[.agg (qC r.1 vs vc vi vp),.int .i64 r.2])∧QRows W.heap.size r.1 vs vc vi vp W'
theorem QRows.none (B:Nat) (w:World):QRows B query0 (.slice none 0 0) (.slice none 0 0) (.slice none 0 0) (.slice none 0 0) w:=
 ⟨World.ownsRow_nil _ _ _ _,World.ownsRow_nil _ _ _ _,World.ownsRow_nil _ _ _ _,World.ownsRow_nil _ _ _ _⟩
theorem row_weaken {w:World} {B B' k n:Nat} {T:TypeId} {v:Value} {xs:List Value} (h:w.ownsRow B T k v n xs) (hb:B'≤B):w.ownsRow B' T k v n xs:=by
 refine⟨h.1,?_⟩
 rcases h.2 with e|⟨g,cap,cur,e,hbg,r⟩
 ·exact Or.inl e
 ·exact Or.inr ⟨g,cap,cur,e,Nat.le_trans hb hbg,r⟩
theorem size_alloc (w:World) (o:Obj):(w.alloc o).heap.size=w.heap.size+1:=by simp
theorem QAt.start {W W1:World} {B:Nat} {lv:Value} {ts:List Tok} (hb:Below W.heap.size W W1) (ho:W1.ownsRow B 153 3 lv ts.length (tokCells ts)) (hl:ts.length≤2000):
  QAt W W1.heap.size lv ts ⟨ts,false⟩ (W1.heap.size+1) (qC query0 (.slice none 0 0) (.slice none 0 0) (.slice none 0 0) (.slice none 0 0)) ⟨(.slice none 0 0),[],(.slice none 0 0),[],(.slice none 0 0),[],(.slice none 0 0),[]⟩ ((W1.alloc (.cells #[lv,.int .i64 0,.bool false] 76)).alloc (.cells zq 29)):=by
 have g1:=grown_alloc W1 (.cells #[lv,.int .i64 0,.bool false] 76) (some W1.heap.size)
 have g2:=grown_alloc (W1.alloc (.cells #[lv,.int .i64 0,.bool false] 76)) (.cells zq 29) (some W1.heap.size)
 have hs:=size_alloc W1 (.cells #[lv,.int .i64 0,.bool false] 76)
 have hl0:Loc (W1.alloc (.cells #[lv,.int .i64 0,.bool false] 76)) W1.heap.size #[lv,.int .i64 ((ts.length - ts.length:Nat):Int),.bool false] 76:=by rw[Nat.sub_self];exact Loc.new _ _ _
 refine⟨⟨hl0.alloc _,⟨[],rfl⟩,⟨_,kept_none (kept_none ho (grown_alloc _ _ none)) (grown_alloc _ _ none)⟩,hl⟩,?_,grown_trans (grown_trans (grown_below hb _) g1) g2,by have:=hb.size;omega,World.ownsRow_nil _ _ _ _,World.ownsRow_nil _ _ _ _,World.ownsRow_nil _ _ _ _,World.ownsRow_nil _ _ _ _⟩
 rw[←hs]
 exact Loc.new _ _ _
theorem below_of {W Wz w:World} {b:Nat} (h0:Below W.heap.size W Wz) (h:Wz.grownBy w (some b)) (hb:W.heap.size≤b):Below W.heap.size W w:=
 ⟨h.os.trans h0.os,h.tape.trans h0.tape,h.output.trans h0.output,Nat.le_trans h0.size h.size,fun k hk=>(h.block k (Nat.lt_of_lt_of_le hk h0.size) (by intro e;injection e with e;omega)).trans (h0.block k hk)⟩
theorem matchR_small {st:RS} (h:(matchR st).2.bad=false):(matchR st).1.1.length≤6∧(matchR st).1.2.length≤6:=by
 unfold matchR at h⊢
 simp only[RS.orBad,Bool.or_eq_false_iff,decide_eq_false_iff_not] at h
 exact⟨by simpa using h.2.1,by simpa using h.2.2⟩
theorem itemsR_small {st:RS} (h:(itemsR st).2.bad=false):(itemsR st).1.items.length≤6:=by
 unfold itemsR at h⊢
 simp only[RS.orBad,Bool.or_eq_false_iff,decide_eq_false_iff_not] at h
 simpa using h.2
theorem query_small {st:RS} (h:(queryR st).2.bad=false):(queryR st).1.spots.length≤6∧(queryR st).1.conds.length≤6∧(queryR st).1.items.length≤6:=by
 unfold queryR at h⊢
 by_cases h1:peekR kCREATE st=true
 ·simp[h1,query0]
 ·by_cases h2:peekR kCALL st=true
  ·simp[h1,h2,query0]
  ·simp only[h1,h2,if_false,Bool.false_eq_true] at h⊢
   by_cases hb:(matchR st).2.bad=true
   ·simp[hb] at h
   ·have hb2:(matchR st).2.bad=false:=by simpa using hb
    obtain⟨a,b⟩:=matchR_small hb2
    simp only[hb2,Bool.false_eq_true,if_false] at h⊢
    unfold behindR at h⊢
    by_cases h3:peekR kRETURN (matchR st).2=true
    ·simp only[h3,if_true] at h⊢
     exact⟨a,b,itemsR_small h⟩
    ·by_cases h4:peekR kSET (matchR st).2=true
     ·simp[h3,h4,query0,a,b]
     ·by_cases h5:peekR kDELETE (matchR st).2=true
      ·simp[h3,h4,h5,query0,a,b]
      ·simp[h3,h4,h5,query0,a,b]
theorem behindR_keeps (q:PQuery) (st:RS):(behindR q st).1.spots=q.spots∧(behindR q st).1.conds=q.conds∧(behindR q st).1.pairs=q.pairs:=by
 unfold behindR
 split
 ·exact⟨rfl,rfl,rfl⟩
 ·split
  ·exact⟨rfl,rfl,rfl⟩
  ·split<;>exact⟨rfl,rfl,rfl⟩
theorem toks_len {s:ByteArray} {ts:List Tok} (h:toks s=some ts):ts.length≤2000:=by
 unfold toks at h
 split at h
 ·cases h
 ·have:=run_length s s.size 0 ts (by omega) h
  omega
end Go.Proofs.YtobgbmfpicmpcaaGreatDoor

/- A block as a whole: read, written, and answered. No walk in this text. -/
namespace Go.Proofs.YtobgbmfpicmpcaaGreatDoor
open Go.RowKit
theorem Loc.range {w:World} {b:Nat} {cs:Array Value} {T:TypeId} (h:Loc w b cs T):w.rangeAt b 0 cs.toList:=fun j v hv=>by
 rw[Nat.zero_add,h.cell j];simpa using hv
theorem Loc.there {w:World} {b:Nat} {cs:Array Value} {T:TypeId} (h:Loc w b cs T):w.there b 0 cs.size:=fun j hj=>by
 rw[Nat.zero_add,h.cell j]
 exact⟨by simp[hj],h.free j⟩
theorem Loc.setMany {X:Nat} {T:TypeId}:∀(l:List Value) (o:Nat) (w:World) (cs:Array Value),Loc w X cs T→o+l.length≤cs.size→Loc (w.setCells X o l) X (cs.toList.take o++l++cs.toList.drop (o+l.length)).toArray T
 | [],o,w,cs,h,_=>by simpa [World.setCells] using h
 | v::r,o,w,cs,h,hl=>by
  rw[World.setCells]
  have h1:=Loc.setMany r (o+1) _ _ (h.set o v) (by simp only[List.length_cons] at hl;simp;omega)
  have ho:o<cs.toList.length:=by simp only[List.length_cons] at hl;simp;omega
  have e:(cs.setIfInBounds o v).toList=cs.toList.set o v:=by simp
  rw[e] at h1
  have e1:(cs.toList.set o v).take (o+1)=cs.toList.take o++[v]:=by
   rw[List.take_add_one,List.take_set_of_le (Nat.le_refl _),List.getElem?_set_self ho];rfl
  have e2:(cs.toList.set o v).drop (o+1+r.length)=cs.toList.drop (o+(v::r).length):=by
   rw[List.drop_set_of_lt (by omega)]
   congr 1
   simp only[List.length_cons];omega
  rw[e1,e2] at h1
  simpa using h1
theorem Loc.setAll {w:World} {X:Nat} {cs new:Array Value} {T:TypeId} (h:Loc w X cs T) (hs:new.size=cs.size):Loc (w.setCells X 0 new.toList) X new T:=by
 have h1:=Loc.setMany new.toList 0 w cs h (by simp[hs])
 have e:(cs.toList.take 0++new.toList++cs.toList.drop (0+new.toList.length)).toArray=new:=by
  have:cs.toList.drop (0+new.toList.length)=[]:=List.drop_eq_nil_of_le (by simp[hs])
  rw[this];simp
 rw[e] at h1
 exact h1
theorem grown_setMany (X:Nat):∀(l:List Value) (o:Nat) (w:World),w.grownBy (w.setCells X o l) (some X)
 | [],o,w=>by simpa [World.setCells] using grown_refl w (some X)
 | v::r,o,w=>by rw[World.setCells];exact grown_trans (grown_set w X o v) (grown_setMany X r (o+1) _)
theorem Tryz.sizeQuery:(Tryz.prog.info? 29).map (·.size)=some 17:=by kernel_rfl
theorem qC_one (q:PQuery) {a1 a2 a3 a4:Option Addr} {n1 n2 n3 n4 k1 k2 k3 k4:Nat}:(qC q (.slice a1 n1 k1) (.slice a2 n2 k2) (.slice a3 n3 k3) (.slice a4 n4 k4)).all (·.oneCell')=true:=by
 simp[qC,Value.oneCell']
theorem z_one:(zq).all (·.oneCell')=true:=by simp[Value.oneCell']
set_option maxRecDepth 100000 in
theorem wpList_zeroQuery {ops:Array Oper} {rest:List Oper} {op:Oper} {a:Act} {w:World} {Q:Exit→Act→World→Prop} (hgd:op.guard=none) (ho:op.op=.build 29 #[]) (h:wpList Tryz.prog ops Q rest (a.put op.dst (.agg zq)) w):wpList Tryz.prog ops Q (op::rest) a w:=
 wpList_plain hgd fun _ hK=>by
  unfold Oper.wp execOp
  simp only[ho]
  go_simp
  exact hK _ _ h
theorem wpList_move {P:Program} {ops:Array Oper} {rest:List Oper} {op:Oper} {a:Act} {w:World} {Q:Exit→Act→World→Prop} {x:Operand} (hgd:op.guard=none) (ho:op.op=.move x) (h:wpList P ops Q rest (a.put op.dst (a.eval x)) w):wpList P ops Q (op::rest) a w:=
 wpList_plain hgd fun _ hK=>by
  unfold Oper.wp execOp
  simp only[ho]
  exact hK _ _ h
theorem retQuery {fn:Func} {tmps:Array Value} {w:World} {X c d:Nat} {cs:Array Value} {e:Int} (hr:fn.results=#[.cell c 29,.tmp d]) (hc:tmps[c]?.getD undef=.pointer (some ⟨X,0,none⟩)) (hd:tmps[d]?.getD undef=.int .i64 e) (hL:Loc w X cs 29) (hs:cs.size=17):
  (results fn tmps).run Tryz.prog w=.ok (.tuple #[.agg cs,.int .i64 e]) w:=by
 have hl:=run_loadVar_mid (P:=Tryz.prog) w X 0 29 cs.toList _ hL.range Tryz.underlying29 rfl (by rw[Tryz.sizeQuery];simp[hs])
 unfold results
 rw[hr]
 simp[hc,hd,hl,asAddr]
end Go.Proofs.YtobgbmfpicmpcaaGreatDoor

/- The program's writer: a match. -/
namespace Go.Proofs.YtobgbmfpicmpcaaGreatDoor
open Go.RowKit
theorem between_ {W0 W:World} {b k:Nat} {ws:List ByteArray} {s:ByteArray} (h:WI W0 b ws W) (hl:ws.length≤2900):
  Calls Tryz.prog 168 #[.pointer (some ⟨b,0,none⟩),.int .i64 (k:Int),.string s] W fun e W'=>e=.returned (.tuple #[])∧WI W0 b (ws++(if k=0 then [] else [s])) W'∧FrW W W':=by
 by_cases hk:k=0
 ·rw[if_pos hk,List.append_nil]
  exact betweenNo h (by omega)
 ·rw[if_neg hk]
  exact betweenYes h (by omega) hl
structure QSees (w:World) (q:PQuery) (vs vc vi vp:Value):Prop where
 rs:Sees w 5 vs q.spots.length (spotCells q.spots)
 rc:Sees w 7 vc q.conds.length (condCells q.conds)
 rt:Sees w 2 vi q.items.length (itemCells q.items)
 rp:Sees w 2 vp q.pairs.length (pairCells q.pairs)
theorem QSees.below {w w':World} {q:PQuery} {vs vc vi vp:Value} (h:QSees w q vs vc vi vp) (hb:Below w.heap.size w w'):QSees w' q vs vc vi vp:=⟨h.rs.below hb,h.rc.below hb,h.rt.below hb,h.rp.below hb⟩
theorem qsees_of {B:Nat} {w:World} {q:PQuery} {vs vc vi vp:Value} (h:QRows B q vs vc vi vp w):QSees w q vs vc vi vp:=by
 have flat:∀{α:Type} (f:α→List Value) (k:Nat) (_:∀a,(f a).length=k) (l:List α),(l.flatMap f).length=l.length*k:=by
  intro α f k hk l
  induction l with
  | nil=>simp
  | cons a r ih=>rw[List.flatMap_cons,List.length_append,hk,ih,List.length_cons,Nat.succ_mul];omega
 exact⟨sees_of_own h.rs (flat fSpot 5 (fun _=>rfl) _),sees_of_own h.rc (flat fCond 7 (fun _=>rfl) _),sees_of_own h.rt (flat fItem 2 (fun _=>rfl) _),sees_of_own h.rp (flat fPair 2 (fun _=>rfl) _)⟩
structure QFits (q:PQuery):Prop where
 sp:∀s∈q.spots,I64 s.least∧I64 s.most
 co:∀c∈q.conds,I64 c.a.val∧I64 c.b.val
 pa:∀p∈q.pairs,I64 p.val
 va:I64 q.value.val
 od:I64 q.order
 sk:I64 q.skip
 li:I64 q.limit
theorem stepW_len (s:PSpot):(stepW s).length≤7:=by unfold stepW;split<;>simp
theorem nodeW_len (s:PSpot):(nodeW s).length≤5:=by unfold nodeW;split<;>simp
theorem spotW_len (b:Bool) (s:PSpot):(spotW b s).length≤12:=by
 unfold spotW
 rw[List.length_append]
 have:=nodeW_len s
 have:=stepW_len s
 split
 ·split<;>simp<;>omega
 ·omega
theorem termW_len (t:PTerm):(termW t).length≤3:=by unfold termW;split<;>simp
theorem opW_len (c:PCond):(opW c).length≤4:=by
 unfold opW
 have:=termW_len c.b
 split
 ·simp
 ·split
  ·simp
  ·simp;omega
theorem condW_len (b:Bool) (c:PCond):(condW b c).length≤8:=by
 unfold condW
 have:=termW_len c.a
 have:=opW_len c
 simp;omega
theorem gatherW_len {α:Type} (f:Bool→α→List ByteArray) (n:Nat) (hf:∀b x,(f b x).length≤n):∀(l:List α) (b:Bool),(gather f b l).length≤l.length*n
 | [],_=>by simp[gather]
 | x::r,b=>by
  rw[gather,List.length_append,List.length_cons,Nat.succ_mul]
  have:=hf b x
  have:=gatherW_len f n hf r false
  omega
theorem gather_next {α:Type} (f:Bool→α→List ByteArray) {l:List α} {k:Nat} (h:k<l.length):gather f true (l.take (k+1))=gather f true (l.take k)++f (decide (k=0)) l[k]:=by
 rw[List.take_succ_eq_append_getElem h,gather_snoc]
 congr 2
 cases k with
 | zero=>rfl
 | succ k=>
  cases l with
  | nil=>simp at h
  | cons a r=>simp
set_option maxRecDepth 100000 in
set_option maxHeartbeats 4000000 in
theorem wmatch {W0 W:World} {b:Nat} {ws:List ByteArray} {q:PQuery} {vs vc vi vp:Value} (h:WI W0 b ws W) (ht:Tab W0) (hq:QSees W0 q vs vc vi vp) (hf:QFits q) (n1:q.spots.length≤6) (n2:q.conds.length≤6) (hl:ws.length≤1000):
  Calls Tryz.prog 106 #[.pointer (some ⟨b,0,none⟩),.agg (qC q vs vc vi vp)] W fun e W'=>e=.returned (.tuple #[])∧WI W0 b (ws++matchW q) W'∧FrW W W':=by
 obtain⟨aos,cas,rfl,hcas⟩:=sees_slice (l:=q.spots) hq.rs
 obtain⟨aoc,cac,rfl,hcac⟩:=sees_slice (l:=q.conds) hq.rc
 obtain⟨aoi,cai,rfl,hcai⟩:=sees_slice (l:=q.items) hq.rt
 obtain⟨aop,cap,rfl,hcap⟩:=sees_slice (l:=q.pairs) hq.rp
 have HQS:=Lib.hid hq
 have HQF:=Lib.hid hf
 clear hq hf hcai hcap
 have HI0:=Lib.hid (h.alloc (.cells (qC q (.slice aos q.spots.length cas) (.slice aoc q.conds.length cac) (.slice aoi q.items.length cai) (.slice aop q.pairs.length cap)) 29))
 have HX0:=Lib.hid (Loc.new W (qC q (.slice aos q.spots.length cas) (.slice aoc q.conds.length cac) (.slice aoi q.items.length cai) (.slice aop q.pairs.length cap)) 29)
 have F0:Hid (FrW W (W.alloc (.cells (qC q (.slice aos q.spots.length cas) (.slice aoc q.conds.length cac) (.slice aoi q.items.length cai) (.slice aop q.pairs.length cap)) 29))):=(FrW.refl W).alloc _
 clear h
 go_enter Tryz.func106,Tryz.ntmps106
 go_upto_region 1 with fail
 obtain⟨X,hX⟩:∃X,X=W.heap.size:=⟨_,rfl⟩
 rw[←hX] at HX0⊢
 clear hX
 generalize W.alloc (.cells (qC q (.slice aos q.spots.length cas) (.slice aoc q.conds.length cac) (.slice aoi q.items.length cai) (.slice aop q.pairs.length cap)) 29)=W0_ at HI0 HX0 F0⊢
 have HA:=Lib.hid (HI0.out.alloc (.cells #[.string ⟨#[77,65,84,67,72]⟩] 9))
 have HG:=Lib.hid (Loc.new W0_ #[.string ⟨#[77,65,84,67,72]⟩] 9)
 go_wp2_with fail
 refine(add_ (m:=1) (new:=[⟨#[77,65,84,67,72]⟩]) HA.out HG.out rfl rfl (by omega) (by simp;omega)).mono ?_
 rintro e W1_ ⟨rfl,h1,f1⟩
 have HI1:=Lib.hid h1
 have HX1:=Lib.hid (f1 X _ _ (HX0.out.alloc _) (by decide) (by decide))
 have F1:=Lib.hid ((F0.out.alloc _).trans f1)
 clear h1 f1 HI0 HX0 F0 HA HG
 have cs:=HX1.out.at_ 1 (.slice aos q.spots.length cas) rfl
 go_upto_block 0 with fail
 clear cs
 go_cut [] (fun w=>WI W0 b (ws++[kMATCH]++gather spotW true q.spots) w∧Loc w X (qC q (.slice aos q.spots.length cas) (.slice aoc q.conds.length cac) (.slice aoi q.items.length cai) (.slice aop q.pairs.length cap)) 29∧FrW W w)
 case first=>
  go_wp2_with fail
  go_loopg [14] q.spots.length (fun m iv w=>∃k:Nat,iv=.int .i64 (k:Int)∧k+m=q.spots.length∧WI W0 b (ws++[kMATCH]++gather spotW true (q.spots.take k)) w∧Loc w X (qC q (.slice aos q.spots.length cas) (.slice aoc q.conds.length cac) (.slice aoi q.items.length cai) (.slice aop q.pairs.length cap)) 29∧FrW W w)
  case atStart=>exact⟨0,rfl,by omega,by rw[List.take_zero];simp only[gather,List.append_nil];exact HI1.out,HX1.out,F1.out⟩
  case round=>
   obtain⟨k,rfl,hk,hi,hx,hfr⟩:=hrel
   have HI:=Lib.hid hi
   have HX:=Lib.hid hx
   have HF:=Lib.hid hfr
   clear hi hx hfr HI1 HX1 F1
   by_cases hlt:k<q.spots.length
   ·obtain⟨g,o,rfl,hcell⟩:=sees_at (l:=q.spots) fSpot (fun _=>rfl) ((HQS.out.rs).below HI.out.low) hlt
    obtain⟨y,hy⟩:∃y,q.spots[k]=y:=⟨_,rfl⟩
    have hmem:y∈q.spots:=by rw[←hy];exact List.getElem_mem hlt
    rw[hy] at hcell
    have p0:wr.cell? ⟨g,o+k*5,none⟩=some (.string y.name):=hcell 0 (by decide)
    have p1:wr.cell? ⟨g,o+k*5+1,none⟩=some (.string y.label):=hcell 1 (by decide)
    have p2:wr.cell? ⟨g,o+k*5+2,none⟩=some (.string y.type):=hcell 2 (by decide)
    have p3:wr.cell? ⟨g,o+k*5+3,none⟩=some (.int .i64 y.least):=hcell 3 (by decide)
    have p4:wr.cell? ⟨g,o+k*5+4,none⟩=some (.int .i64 y.most):=hcell 4 (by decide)
    have hki:(k:Int)<(q.spots.length:Int):=by omega
    have HNX:Hid ((ws++[kMATCH]++gather spotW true (q.spots.take (k+1)))=(ws++[kMATCH]++gather spotW true (q.spots.take k))++spotW (decide (k=0)) y):=by show _=_;rw[gather_next spotW hlt,hy];simp only[List.append_assoc]
    have hlen:(ws++[kMATCH]++gather spotW true (q.spots.take k)).length≤1100:=by
     have:=gatherW_len spotW 12 spotW_len (q.spots.take k) true
     rw[List.length_take_of_le (by omega)] at this
     simp only[List.length_append,List.length_singleton]
     omega
    obtain⟨us,hus⟩:∃us,(ws++[kMATCH]++gather spotW true (q.spots.take k))=us:=⟨_,rfl⟩
    rw[hus] at HI HNX hlen
    have HZ0:=Lib.hid (Loc.new wr #[.string y.name,.string y.label,.string y.type,.int .i64 y.least,.int .i64 y.most] 85)
    have HI0:=Lib.hid (HI.out.alloc (.cells #[.string y.name,.string y.label,.string y.type,.int .i64 y.least,.int .i64 y.most] 85))
    have HX0:=Lib.hid (HX.out.alloc (.cells #[.string y.name,.string y.label,.string y.type,.int .i64 y.least,.int .i64 y.most] 85))
    have F0:=Lib.hid (HF.out.alloc (.cells #[.string y.name,.string y.label,.string y.type,.int .i64 y.least,.int .i64 y.most] 85))
    clear hus hcell hy HI HX HF
    go_upto_region 5 with fail
    obtain⟨Z,hZ⟩:∃Z,Z=wr.heap.size:=⟨_,rfl⟩
    rw[←hZ] at HZ0⊢
    clear hZ
    generalize wr.alloc (.cells #[.string y.name,.string y.label,.string y.type,.int .i64 y.least,.int .i64 y.most] 85)=V0 at HZ0 HI0 HX0 F0⊢
    clear p0 p1 p2 p3 p4
    obtain⟨f0,f1⟩:=HQF.out.sp y hmem
    have HF0:=Lib.hid f0
    have HF1:=Lib.hid f1
    clear hmem f0 f1
    cases hty:y.type.toList.isEmpty with
    | true=>
     have HEQ:Hid (us++spotW (decide (k=0)) y=us++(if k=0 then [] else [mComma])++nodeW y):=by show _=_;unfold spotW;rw[if_pos hty];simp
     have z2:=HZ0.out.at_ 2 (.string y.type) rfl
     go_wp2_with fail
     refine(between_ (k:=k) (s:=⟨#[44]⟩) HI0.out (by omega)).mono ?_
     rintro e V1 ⟨rfl,h1,f1⟩
     have HI1:=Lib.hid h1
     have HZ1:=Lib.hid (f1 Z _ _ HZ0.out (by decide) (by decide))
     have HX1:=Lib.hid (f1 X _ _ HX0.out (by decide) (by decide))
     have F1:=Lib.hid (F0.out.trans f1)
     clear z2
     clear h1 f1 HI0 HX0 HZ0 F0
     have hlen2:(us++(if k=0 then [] else [mComma])).length≤1101:=by rw[List.length_append];split<;>simp<;>omega
     obtain⟨us2,hus2⟩:∃us2,us++(if k=0 then [] else [mComma])=us2:=⟨_,rfl⟩
     have HI1b:Hid (WI W0 b us2 V1):=by show WI _ _ _ _;rw[←hus2];exact HI1.out
     rw[hus2] at HEQ hlen2
     clear hus2 HI1
     have HI1:=HI1b
     have z0:=HZ1.out.at_ 0 (.string y.name) rfl
     have z1:=HZ1.out.at_ 1 (.string y.label) rfl
     have z2:=HZ1.out.at_ 2 (.string y.type) rfl
     have z3:=HZ1.out.at_ 3 (.int .i64 y.least) rfl
     have z4:=HZ1.out.at_ 4 (.int .i64 y.most) rfl
     go_wp2_with fail
     refine(wspot (s:=y) HI1.out (by omega)).mono ?_
     rintro e V2 ⟨rfl,h1,f1⟩
     have HI2:=Lib.hid h1
     have HZ2:=Lib.hid (f1 Z _ _ HZ1.out (by decide) (by decide))
     have HX2:=Lib.hid (f1 X _ _ HX1.out (by decide) (by decide))
     have F2:=Lib.hid (F1.out.trans f1)
     clear z0 z1 z2 z3 z4
     clear h1 f1 HI1 HX1 HZ1 F1
     clear HI1b
     go_wp2_with fail
     go_roundg (gk - 1)
     case measure=>omega
     case rel=>exact⟨k+1,by simp,by omega,by rw[HNX.out];rw[HEQ.out];exact HI2.out,HX2.out,F2.out⟩
    | false=>
     have HEQ:Hid (us++spotW (decide (k=0)) y=us++stepW y++nodeW y):=by show _=_;unfold spotW;rw[hty];simp
     have hsl:=stepW_len y
     have z0:=HZ0.out.at_ 0 (.string y.name) rfl
     have z1:=HZ0.out.at_ 1 (.string y.label) rfl
     have z2:=HZ0.out.at_ 2 (.string y.type) rfl
     have z3:=HZ0.out.at_ 3 (.int .i64 y.least) rfl
     have z4:=HZ0.out.at_ 4 (.int .i64 y.most) rfl
     go_wp2_with fail
     refine(wstep (s:=y) HI0.out ht HF0.out HF1.out (by omega)).mono ?_
     rintro e V1 ⟨rfl,h1,f1⟩
     have HI1:=Lib.hid h1
     have HZ1:=Lib.hid (f1 Z _ _ HZ0.out (by decide) (by decide))
     have HX1:=Lib.hid (f1 X _ _ HX0.out (by decide) (by decide))
     have F1:=Lib.hid (F0.out.trans f1)
     clear z0 z1 z2 z3 z4
     clear h1 f1 HI0 HX0 HZ0 F0
     have z0:=HZ1.out.at_ 0 (.string y.name) rfl
     have z1:=HZ1.out.at_ 1 (.string y.label) rfl
     have z2:=HZ1.out.at_ 2 (.string y.type) rfl
     have z3:=HZ1.out.at_ 3 (.int .i64 y.least) rfl
     have z4:=HZ1.out.at_ 4 (.int .i64 y.most) rfl
     go_wp2_with fail
     refine(wspot (s:=y) HI1.out (by simp;omega)).mono ?_
     rintro e V2 ⟨rfl,h1,f1⟩
     have HI2:=Lib.hid h1
     have HZ2:=Lib.hid (f1 Z _ _ HZ1.out (by decide) (by decide))
     have HX2:=Lib.hid (f1 X _ _ HX1.out (by decide) (by decide))
     have F2:=Lib.hid (F1.out.trans f1)
     clear z0 z1 z2 z3 z4
     clear h1 f1 HI1 HX1 HZ1 F1
     go_wp2_with fail
     go_roundg (gk - 1)
     case measure=>omega
     case rel=>exact⟨k+1,by simp,by omega,by rw[HNX.out];rw[HEQ.out];exact HI2.out,HX2.out,F2.out⟩
   ·have hki:¬(k:Int)<(q.spots.length:Int):=by omega
    have hk2:k=q.spots.length:=by omega
    have HK:=Lib.hid hk2
    clear hk2
    go_wp2_with fail
    go_meet
    case rel=>exact⟨by have h:=HI.out;rw[HK.out,List.take_length] at h;exact h,HX.out,HF.out⟩
 case rest=>
  obtain⟨hi,hx,hfr⟩:=hcut
  have hlen0:(ws++[kMATCH]++gather spotW true q.spots).length≤1100:=by
   have:=gatherW_len spotW 12 spotW_len q.spots true
   simp only[List.length_append,List.length_singleton]
   omega
  have HEM:Hid (ws++matchW q=ws++[kMATCH]++gather spotW true q.spots++gather condW true q.conds):=by show _=_;unfold matchW;simp
  obtain⟨ws1,hws1⟩:∃ws1,ws++[kMATCH]++gather spotW true q.spots=ws1:=⟨_,rfl⟩
  rw[hws1] at hi hlen0 HEM
  have HI9:=Lib.hid hi
  have HX9:=Lib.hid hx
  have F9:=Lib.hid hfr
  clear hi hx hfr hws1 HI1 HX1 F1
  have cs:=HX9.out.at_ 2 (.slice aoc q.conds.length cac) rfl
  go_wp2_with fail
  clear cs
  go_loopg [35] q.conds.length (fun m iv w=>∃k:Nat,iv=.int .i64 (k:Int)∧k+m=q.conds.length∧WI W0 b (ws1++gather condW true (q.conds.take k)) w∧Loc w X (qC q (.slice aos q.spots.length cas) (.slice aoc q.conds.length cac) (.slice aoi q.items.length cai) (.slice aop q.pairs.length cap)) 29∧FrW W w)
  case atStart=>exact⟨0,rfl,by omega,by rw[List.take_zero];simp only[gather,List.append_nil];exact HI9.out,HX9.out,F9.out⟩
  case round=>
   obtain⟨k,rfl,hk,hi,hx,hfr⟩:=hrel
   have HI:=Lib.hid hi
   have HX:=Lib.hid hx
   have HF:=Lib.hid hfr
   clear hi hx hfr HI9 HX9 F9
   by_cases hlt:k<q.conds.length
   ·obtain⟨g,o,rfl,hcell⟩:=sees_at (l:=q.conds) fCond (fun _=>rfl) ((HQS.out.rc).below HI.out.low) hlt
    obtain⟨y,hy⟩:∃y,q.conds[k]=y:=⟨_,rfl⟩
    have hmem:y∈q.conds:=by rw[←hy];exact List.getElem_mem hlt
    rw[hy] at hcell
    have p0:wr.cell? ⟨g,o+k*7,none⟩=some (.int .i64 y.op):=hcell 0 (by decide)
    have p1:wr.cell? ⟨g,o+k*7+1,none⟩=some (.string y.a.name):=hcell 1 (by decide)
    have p2:wr.cell? ⟨g,o+k*7+2,none⟩=some (.string y.a.key):=hcell 2 (by decide)
    have p3:wr.cell? ⟨g,o+k*7+3,none⟩=some (.int .i64 y.a.val):=hcell 3 (by decide)
    have p4:wr.cell? ⟨g,o+k*7+4,none⟩=some (.string y.b.name):=hcell 4 (by decide)
    have p5:wr.cell? ⟨g,o+k*7+5,none⟩=some (.string y.b.key):=hcell 5 (by decide)
    have p6:wr.cell? ⟨g,o+k*7+6,none⟩=some (.int .i64 y.b.val):=hcell 6 (by decide)
    have hki:(k:Int)<(q.conds.length:Int):=by omega
    have HNX:Hid ((ws1++gather condW true (q.conds.take (k+1)))=(ws1++gather condW true (q.conds.take k))++condW (decide (k=0)) y):=by show _=_;rw[gather_next condW hlt,hy];simp only[List.append_assoc]
    have hlen:(ws1++gather condW true (q.conds.take k)).length≤1200:=by
     have:=gatherW_len condW 8 condW_len (q.conds.take k) true
     rw[List.length_take_of_le (by omega)] at this
     simp only[List.length_append]
     omega
    obtain⟨us,hus⟩:∃us,(ws1++gather condW true (q.conds.take k))=us:=⟨_,rfl⟩
    rw[hus] at HI HNX hlen
    have HZ0:=Lib.hid (Loc.new wr #[.int .i64 y.op,.string y.a.name,.string y.a.key,.int .i64 y.a.val,.string y.b.name,.string y.b.key,.int .i64 y.b.val] 87)
    have HI0:=Lib.hid (HI.out.alloc (.cells #[.int .i64 y.op,.string y.a.name,.string y.a.key,.int .i64 y.a.val,.string y.b.name,.string y.b.key,.int .i64 y.b.val] 87))
    have HX0:=Lib.hid (HX.out.alloc (.cells #[.int .i64 y.op,.string y.a.name,.string y.a.key,.int .i64 y.a.val,.string y.b.name,.string y.b.key,.int .i64 y.b.val] 87))
    have F0:=Lib.hid (HF.out.alloc (.cells #[.int .i64 y.op,.string y.a.name,.string y.a.key,.int .i64 y.a.val,.string y.b.name,.string y.b.key,.int .i64 y.b.val] 87))
    clear hus hcell hy HI HX HF
    go_upto_region 13 with fail
    obtain⟨Z,hZ⟩:∃Z,Z=wr.heap.size:=⟨_,rfl⟩
    rw[←hZ] at HZ0⊢
    clear hZ
    generalize wr.alloc (.cells #[.int .i64 y.op,.string y.a.name,.string y.a.key,.int .i64 y.a.val,.string y.b.name,.string y.b.key,.int .i64 y.b.val] 87)=V0 at HZ0 HI0 HX0 F0⊢
    clear p0 p1 p2 p3 p4 p5 p6
    obtain⟨f0,f1⟩:=HQF.out.co y hmem
    have HF0:=Lib.hid f0
    have HF1:=Lib.hid f1
    clear hmem f0 f1
    by_cases hk0:k=0
    ·have HEQ:Hid (us++condW (decide (k=0)) y=us++[kWHERE]++(termW y.a++opW y)):=by show _=_;unfold condW;rw[hk0];simp
     have hkb:((k:Int)==0)=true:=by rw[hk0];rfl
     have hkz:¬0<(k:Int):=by omega
     have HK0:=Lib.hid hk0
     clear hk0
     have HA:=Lib.hid (HI0.out.alloc (.cells #[.string ⟨#[87,72,69,82,69]⟩] 9))
     have HG:=Lib.hid (Loc.new V0 #[.string ⟨#[87,72,69,82,69]⟩] 9)
     go_wp2_with fail
     refine(add_ (m:=1) (new:=[⟨#[87,72,69,82,69]⟩]) HA.out HG.out rfl rfl (by omega) (by simp;omega)).mono ?_
     rintro e V1 ⟨rfl,h1,f1⟩
     have HI1:=Lib.hid h1
     have HZ1:=Lib.hid (f1 Z _ _ (HZ0.out.alloc _) (by decide) (by decide))
     have HX1:=Lib.hid (f1 X _ _ (HX0.out.alloc _) (by decide) (by decide))
     have F1:=Lib.hid ((F0.out.alloc _).trans f1)
     clear h1 f1 HI0 HX0 HZ0 F0 HA HG
     go_wp2_with fail
     refine(betweenNo (s:=⟨#[65,78,68]⟩) HI1.out (by omega)).mono ?_
     rintro e V2 ⟨rfl,h1,f1⟩
     have HI2:=Lib.hid h1
     have HZ2:=Lib.hid (f1 Z _ _ HZ1.out (by decide) (by decide))
     have HX2:=Lib.hid (f1 X _ _ HX1.out (by decide) (by decide))
     have F2:=Lib.hid (F1.out.trans f1)
     clear h1 f1 HI1 HX1 HZ1 F1
     have z0:=HZ2.out.at_ 0 (.int .i64 y.op) rfl
     have z1:=HZ2.out.at_ 1 (.string y.a.name) rfl
     have z2:=HZ2.out.at_ 2 (.string y.a.key) rfl
     have z3:=HZ2.out.at_ 3 (.int .i64 y.a.val) rfl
     have z4:=HZ2.out.at_ 4 (.string y.b.name) rfl
     have z5:=HZ2.out.at_ 5 (.string y.b.key) rfl
     have z6:=HZ2.out.at_ 6 (.int .i64 y.b.val) rfl
     go_wp2_with fail
     refine(wcond (c:=y) HI2.out ht HF0.out HF1.out (by simp;omega)).mono ?_
     rintro e V3 ⟨rfl,h1,f1⟩
     have HI3:=Lib.hid h1
     have HZ3:=Lib.hid (f1 Z _ _ HZ2.out (by decide) (by decide))
     have HX3:=Lib.hid (f1 X _ _ HX2.out (by decide) (by decide))
     have F3:=Lib.hid (F2.out.trans f1)
     clear z0 z1 z2 z3 z4 z5 z6
     clear h1 f1 HI2 HX2 HZ2 F2
     go_wp2_with fail
     go_roundg (gk - 1)
     case measure=>omega
     case rel=>exact⟨k+1,by simp,by omega,by rw[HNX.out];rw[HEQ.out];exact HI3.out,HX3.out,F3.out⟩
    ·have HEQ:Hid (us++condW (decide (k=0)) y=us++[kAND]++(termW y.a++opW y)):=by show _=_;unfold condW;rw[decide_eq_false hk0];simp
     have hkb:((k:Int)==0)=false:=by simp;omega
     go_wp2_with fail
     refine(betweenYes (k:=k) (s:=⟨#[65,78,68]⟩) HI0.out (by omega) (by omega)).mono ?_
     rintro e V1 ⟨rfl,h1,f1⟩
     have HI1:=Lib.hid h1
     have HZ1:=Lib.hid (f1 Z _ _ HZ0.out (by decide) (by decide))
     have HX1:=Lib.hid (f1 X _ _ HX0.out (by decide) (by decide))
     have F1:=Lib.hid (F0.out.trans f1)
     clear h1 f1 HI0 HX0 HZ0 F0
     have z0:=HZ1.out.at_ 0 (.int .i64 y.op) rfl
     have z1:=HZ1.out.at_ 1 (.string y.a.name) rfl
     have z2:=HZ1.out.at_ 2 (.string y.a.key) rfl
     have z3:=HZ1.out.at_ 3 (.int .i64 y.a.val) rfl
     have z4:=HZ1.out.at_ 4 (.string y.b.name) rfl
     have z5:=HZ1.out.at_ 5 (.string y.b.key) rfl
     have z6:=HZ1.out.at_ 6 (.int .i64 y.b.val) rfl
     go_wp2_with fail
     refine(wcond (c:=y) HI1.out ht HF0.out HF1.out (by simp;omega)).mono ?_
     rintro e V2 ⟨rfl,h1,f1⟩
     have HI2:=Lib.hid h1
     have HZ2:=Lib.hid (f1 Z _ _ HZ1.out (by decide) (by decide))
     have HX2:=Lib.hid (f1 X _ _ HX1.out (by decide) (by decide))
     have F2:=Lib.hid (F1.out.trans f1)
     clear z0 z1 z2 z3 z4 z5 z6
     clear h1 f1 HI1 HX1 HZ1 F1
     go_wp2_with fail
     go_roundg (gk - 1)
     case measure=>omega
     case rel=>exact⟨k+1,by simp,by omega,by rw[HNX.out];rw[HEQ.out];exact HI2.out,HX2.out,F2.out⟩
   ·have hki:¬(k:Int)<(q.conds.length:Int):=by omega
    have hk2:k=q.conds.length:=by omega
    have HK:=Lib.hid hk2
    clear hk2
    go_wp2_with fail
    go_end0
    exact⟨rfl,by have h:=HI.out;rw[HK.out,List.take_length] at h;rw[HEM.out];exact h,HF.out⟩
end Go.Proofs.YtobgbmfpicmpcaaGreatDoor

