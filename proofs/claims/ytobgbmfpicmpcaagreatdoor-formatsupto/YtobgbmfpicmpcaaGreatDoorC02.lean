/- What tokens a text has, as a plain function: the specification to which both sides are held. No program in this text. -/
import Derived.Lib.AtoiAllCases
import Derived.Test.YtobgbmfpicmpcaaGreatDoorProg
import Derived.KernelRfl
import Derived.WalkKit
import Derived.WalkSpells
import Derived.WalkLawsBesides
import Derived.WideShapes
import Derived.WalkSmall
import Derived.ArgAppend
import Derived.Lib.Hide
import Derived.Deep.QuietTactic
import Derived.BigQuiet
namespace Go.Proofs.YtobgbmfpicmpcaaGreatDoor
def letB (c:Int):Bool:=decide ((97≤c∧c≤122)∨(65≤c∧c≤90))
def digB (c:Int):Bool:=decide (48≤c∧c≤57)
def alnB (c:Int):Bool:=letB c || digB c
theorem letB_yes {c:Int} (h:(97≤c∧c≤122)∨(65≤c∧c≤90)):letB c=true:=by unfold letB;simpa using h
theorem letB_no {c:Int} (h:¬((97≤c∧c≤122)∨(65≤c∧c≤90))):letB c=false:=by unfold letB;exact decide_eq_false h
theorem digB_yes {c:Int} (h:48≤c∧c≤57):digB c=true:=by unfold digB;simpa using h
theorem digB_no {c:Int} (h:¬(48≤c∧c≤57)):digB c=false:=by unfold digB;exact decide_eq_false h
theorem of_letB {c:Int} (h:letB c=true):(97≤c∧c≤122)∨(65≤c∧c≤90):=by unfold letB at h;exact of_decide_eq_true h
theorem of_digB {c:Int} (h:digB c=true):48≤c∧c≤57:=by unfold digB at h;exact of_decide_eq_true h
theorem of_digB_no {c:Int} (h:digB c=false):¬(48≤c∧c≤57):=by unfold digB at h;exact of_decide_eq_false h
def bt (s:ByteArray) (k:Nat):Int:=if h:k<s.size then ((s[k]'h).toNat:Int) else -1
theorem bt_in {s:ByteArray} {k:Nat} (h:k<s.size):((s[k]'h).toNat:Int)=bt s k:=by unfold bt;rw[dif_pos h]
theorem bt_out {s:ByteArray} {k:Nat} (h:¬k<s.size):bt s k=-1:=by unfold bt;rw[dif_neg h]
theorem bt_lt {s:ByteArray} {k:Nat} (h:0≤bt s k):k<s.size:=by
 by_cases hk:k<s.size
 ·exact hk
 ·rw[bt_out hk] at h;omega
def spanN (p:Int→Bool) (s:ByteArray):Nat→Nat→Nat
 | 0,k=>k
 | n+1,k=>if k<s.size∧p (bt s k)=true then spanN p s n (k+1) else k
def span (p:Int→Bool) (s:ByteArray) (k:Nat):Nat:=spanN p s (s.size - k) k
theorem span_go {p:Int→Bool} {s:ByteArray} {k:Nat} (h:k<s.size) (hp:p (bt s k)=true):span p s k=span p s (k+1):=by
 unfold span
 rw[show s.size - k=(s.size - (k+1))+1 by omega]
 simp only[spanN]
 rw[if_pos ⟨h,hp⟩]
theorem span_stop {p:Int→Bool} {s:ByteArray} {k:Nat} (h:k<s.size→p (bt s k)=false):span p s k=k:=by
 unfold span
 cases hn:s.size - k with
 | zero=>simp only[spanN]
 | succ n=>
  simp only[spanN]
  rw[if_neg]
  rintro ⟨h1,h2⟩
  rw[h h1] at h2;cases h2
theorem span_bounds (p:Int→Bool) (s:ByteArray):∀n k,s.size - k=n→k≤s.size→k≤span p s k∧span p s k≤s.size
 | 0,k,h,hk=>by rw[span_stop (by omega)];omega
 | n+1,k,h,hk=>by
  by_cases hp:p (bt s k)=true
  ·rw[span_go (by omega) hp];have:=span_bounds p s n (k+1) (by omega) (by omega);omega
  ·rw[span_stop (fun _=>by simpa using hp)];omega
theorem span_le {p:Int→Bool} {s:ByteArray} {k:Nat} (hk:k≤s.size):k≤span p s k∧span p s k≤s.size:=span_bounds p s _ k rfl hk
theorem span_all (p:Int→Bool) (s:ByteArray):∀n k,s.size - k=n→k≤s.size→∀j,k≤j→j<span p s k→p (bt s j)=true
 | 0,k,h,hk,j,h1,h2=>by rw[span_stop (by omega)] at h2;omega
 | n+1,k,h,hk,j,h1,h2=>by
  by_cases hp:p (bt s k)=true
  ·by_cases e:j=k
   ·rw[e];exact hp
   ·rw[span_go (by omega) hp] at h2;exact span_all p s n (k+1) (by omega) (by omega) j (by omega) h2
  ·rw[span_stop (fun _=>by simpa using hp)] at h2;omega
def dgt (c:UInt8):Nat:=c.toNat - 48
theorem dgt_eq (c:UInt8):dgt c=c.toNat - 48:=by unfold dgt;exact Eq.refl _
def digs (acc:Nat) (l:List UInt8):Nat:=l.foldl (fun a c=>10*a+dgt c) acc
theorem digs_nil (acc:Nat):digs acc []=acc:=by unfold digs;rw[List.foldl_nil]
theorem digs_cons (acc:Nat) (c:UInt8) (r:List UInt8):digs acc (c::r)=digs (10*acc+dgt c) r:=by unfold digs;rw[List.foldl_cons]
theorem digs_append (l m:List UInt8) (acc:Nat):digs acc (l++m)=digs (digs acc l) m:=by unfold digs;rw[List.foldl_append]
theorem digs_le (l:List UInt8):∀(acc:Nat),acc≤digs acc l:=by
 induction l with
 | nil=>intro acc;rw[digs_nil];exact Nat.le_refl _
 | cons c r ih=>intro acc;have:=ih (10*acc+dgt c);rw[digs_cons];omega
theorem digs_snoc (l:List UInt8) (c:UInt8) (acc:Nat):digs acc (l++[c])=10*digs acc l+dgt c:=by
 rw[digs_append,digs_cons,digs_nil]
def numL:List UInt8→Option Int
 | []=>none
 | c::r=>
  if c.toNat=45 then
   (if r.head?.map UInt8.toNat=some 48∨1000000000<digs 0 r then none else some (-(digs 0 r:Int)))
  else (if (c.toNat=48∧r≠[])∨1000000000<digs 0 (c::r) then none else some (digs 0 (c::r):Int))
structure Tok where
 kind:Int
 text:ByteArray
 val:Int
def markLen (s:ByteArray) (k:Nat):Nat:=
 let c:=bt s k
 let d:=bt s (k+1)
 if c=93 then (if d=45∧bt s (k+2)=62 then 3 else 0)
 else if c=45 then (if d=91 then 2 else 0)
 else if c=46 then (if d=46 then 2 else 1)
 else if c=60 then (if d=61∨d=62 then 2 else 1)
 else if c=62 then (if d=61 then 2 else 1)
 else if c=40∨c=41∨c=58∨c=44∨c=61∨c=42∨c=123∨c=125 then 1
 else 0
theorem markLen_le {s:ByteArray} {k:Nat} (h:k<s.size):k+markLen s k≤s.size:=by
 have h1:∀j,bt s j=45∨bt s j=62∨bt s j=91∨bt s j=46∨bt s j=61→j<s.size:=fun j hj=>bt_lt (by omega)
 have a:=h1 (k+1);have b:=h1 (k+2)
 unfold markLen
 simp only
 repeat' split
 all_goals omega
def one (s:ByteArray) (k:Nat):Option (Nat × Tok):=
 if letB (bt s k) then
  (if 8<span alnB s k - k then none else some (span alnB s k,⟨1,s.extract k (span alnB s k),0⟩))
 else if digB (bt s k) || (decide (bt s k=45)&&digB (bt s (k+1))) then
  (match numL (s.extract k (span digB s (k+1))).data.toList with
   | none=>none
   | some v=>some (span digB s (k+1),⟨2,s.extract k (span digB s (k+1)),v⟩))
 else if markLen s k=0 then none else some (k+markLen s k,⟨3,s.extract k (k+markLen s k),0⟩)
theorem one_next {s:ByteArray} {k e:Nat} {t:Tok} (h:one s k=some (e,t)) (hk:k<s.size):k<e∧e≤s.size:=by
 unfold one at h
 split at h
 ·rename_i hl
  split at h
  ·cases h
  ·injection h with h;injection h with h1 h2;subst h1
   have:span alnB s k=span alnB s (k+1):=span_go hk (by unfold alnB;rw[hl];rfl)
   have:=span_le (p:=alnB) (s:=s) (k:=k+1) hk
   omega
 ·split at h
  ·split at h
   ·cases h
   ·injection h with h;injection h with h1 h2;subst h1
    have:=span_le (p:=digB) (s:=s) (k:=k+1) hk
    omega
  ·split at h
   ·cases h
   ·injection h with h;injection h with h1 h2;subst h1
    have:=markLen_le hk
    omega
def runN (s:ByteArray):Nat→Nat→Option (List Tok)
 | 0,k=>if k<s.size then none else some []
 | n+1,k=>
  if k<s.size then
   (if bt s k=32 then runN s n (k+1)
   else match one s k with
    | none=>none
    | some (e,t)=>if k<e then (runN s n e).map (t::·) else none)
  else some []
def run (s:ByteArray) (k:Nat):Option (List Tok):=runN s (s.size - k) k
theorem runN_fuel (s:ByteArray):∀n m k,s.size - k≤n→s.size - k≤m→runN s n k=runN s m k:=by
 intro n
 induction n with
 | zero=>
  intro m k h1 h2
  have hk:¬k<s.size:=by omega
  cases m with
  | zero=>rfl
  | succ m=>simp only[runN];rw[if_neg hk,if_neg hk]
 | succ n ih=>
  intro m k h1 h2
  cases m with
  | zero=>
   have hk:¬k<s.size:=by omega
   simp only[runN];rw[if_neg hk,if_neg hk]
  | succ m=>
   simp only[runN]
   by_cases hk:k<s.size
   ·rw[if_pos hk,if_pos hk]
    by_cases hb:bt s k=32
    ·rw[if_pos hb,if_pos hb];exact ih m (k+1) (by omega) (by omega)
    ·rw[if_neg hb,if_neg hb]
     cases one s k with
     | none=>rfl
     | some p=>
      obtain⟨e,t⟩:=p
      simp only
      by_cases he:k<e
      ·rw[if_pos he,if_pos he,ih m e (by omega) (by omega)]
      ·rw[if_neg he,if_neg he]
   ·rw[if_neg hk,if_neg hk]
theorem run_end {s:ByteArray} {k:Nat} (h:¬k<s.size):run s k=some []:=by
 unfold run
 rw[show s.size - k=0 by omega]
 simp only[runN]
 rw[if_neg h]
theorem run_step {s:ByteArray} {k:Nat} (h:k<s.size):run s k=if bt s k=32 then run s (k+1) else match one s k with
  | none=>none
  | some (e,t)=>if k<e then (run s e).map (t::·) else none:=by
 unfold run
 rw[show s.size - k=(s.size - (k+1))+1 by omega]
 simp only[runN]
 rw[if_pos h]
 by_cases hb:bt s k=32
 ·rw[if_pos hb,if_pos hb]
 ·rw[if_neg hb,if_neg hb]
  cases one s k with
  | none=>rfl
  | some p=>
   obtain⟨e,t⟩:=p
   simp only
   by_cases he:k<e
   ·rw[if_pos he,if_pos he,runN_fuel s _ (s.size - e) e (by omega) (by omega)]
   ·rw[if_neg he,if_neg he]
theorem run_blank {s:ByteArray} {k:Nat} (h:k<s.size) (hb:bt s k=32):run s k=run s (k+1):=by rw[run_step h,if_pos hb]
theorem run_bad {s:ByteArray} {k:Nat} (h:k<s.size) (hb:bt s k≠32) (ho:one s k=none):run s k=none:=by
 rw[run_step h,if_neg hb,ho]
theorem run_tok {s:ByteArray} {k e:Nat} {t:Tok} (h:k<s.size) (hb:bt s k≠32) (ho:one s k=some (e,t)):run s k=(run s e).map (t::·):=by
 rw[run_step h,if_neg hb,ho]
 simp only
 rw[if_pos (one_next ho h).1]
def Sofar (s:ByteArray) (k:Nat) (acc:List Tok):Prop:=(run s k).map (acc++·)=run s 0
theorem sofar_start (s:ByteArray):Sofar s 0 []:=by unfold Sofar;cases run s 0<;>simp
theorem Sofar.blank {s:ByteArray} {k:Nat} {acc:List Tok} (h:Sofar s k acc) (hk:k<s.size) (hb:bt s k=32):Sofar s (k+1) acc:=by
 unfold Sofar at *;rw[←run_blank hk hb];exact h
theorem Sofar.tok {s:ByteArray} {k e:Nat} {t:Tok} {acc:List Tok} (h:Sofar s k acc) (hk:k<s.size) (hb:bt s k≠32) (ho:one s k=some (e,t)):Sofar s e (acc++[t]):=by
 unfold Sofar at *;rw[run_tok hk hb ho] at h;rw[←h];cases run s e<;>simp
theorem Sofar.bad {s:ByteArray} {k:Nat} {acc:List Tok} (h:Sofar s k acc) (hk:k<s.size) (hb:bt s k≠32) (ho:one s k=none):run s 0=none:=by
 unfold Sofar at h;rw[run_bad hk hb ho] at h;rw[←h];rfl
theorem Sofar.fin {s:ByteArray} {k:Nat} {acc:List Tok} (h:Sofar s k acc) (hk:¬k<s.size):run s 0=some acc:=by
 unfold Sofar at h;rw[run_end hk] at h;rw[←h];simp
theorem run_length (s:ByteArray):∀n k ts,s.size - k≤n→run s k=some ts→ts.length≤s.size - k:=by
 intro n
 induction n with
 | zero=>
  intro k ts hn h
  rw[run_end (by omega)] at h;injection h with h;subst h;simp
 | succ n ih=>
  intro k ts hn h
  by_cases hk:k<s.size
  ·by_cases hb:bt s k=32
   ·rw[run_blank hk hb] at h
    have:=ih (k+1) ts (by omega) h
    omega
   ·cases ho:one s k with
    | none=>rw[run_bad hk hb ho] at h;cases h
    | some p=>
     obtain⟨e,t⟩:=p
     rw[run_tok hk hb ho] at h
     have:=one_next ho hk
     cases hr:run s e with
     | none=>rw[hr] at h;cases h
     | some us=>
      rw[hr] at h;simp at h;subst h
      have:=ih e us (by omega) hr
      simp;omega
  ·rw[run_end hk] at h;injection h with h;subst h;simp
end Go.Proofs.YtobgbmfpicmpcaaGreatDoor

/- The contracts of the byte tests of both sides: each returns its class of bytes and leaves the world as it is. -/
namespace Go.Proofs.YtobgbmfpicmpcaaGreatDoor
open Go.RowKit
set_option maxHeartbeats 400000 in
theorem refLetter (c:Int) (w:World):Calls Tryz.prog 78 #[.int .u8 c] w fun e w'=>e=.returned (.bool (letB c))∧w'=w:=by
 by_cases h1:97≤c<;>by_cases h2:c≤122<;>by_cases h3:65≤c<;>by_cases h4:c≤90
 all_goals first|(exfalso;omega)|skip
 all_goals
  (first|rw[letB_yes (by omega)]|rw[letB_no (by omega)])
  go_enter Tryz.func78,Tryz.ntmps78
  go_wp2
  go_ret
  exact⟨rfl,rfl⟩
set_option maxHeartbeats 400000 in
theorem refDigit (c:Int) (w:World):Calls Tryz.prog 79 #[.int .u8 c] w fun e w'=>e=.returned (.bool (digB c))∧w'=w:=by
 by_cases h1:48≤c<;>by_cases h2:c≤57
 all_goals first|(exfalso;omega)|skip
 all_goals
  (first|rw[digB_yes (by omega)]|rw[digB_no (by omega)])
  go_enter Tryz.func79,Tryz.ntmps79
  go_wp2
  go_ret
  exact⟨rfl,rfl⟩
set_option maxHeartbeats 400000 in
theorem isLetter (c:Int) (w:World):Calls Tryz.prog 204 #[.int .u8 c] w fun e w'=>e=.returned (.bool (letB c))∧w'=w:=by
 by_cases h1:97≤c<;>by_cases h2:c≤122<;>by_cases h3:65≤c<;>by_cases h4:c≤90
 all_goals first|(exfalso;omega)|skip
 all_goals
  (first|rw[letB_yes (by omega)]|rw[letB_no (by omega)])
  go_enter Tryz.func204,Tryz.ntmps204
  go_wp2
  go_ret
  exact⟨rfl,rfl⟩
set_option maxHeartbeats 400000 in
theorem isDigit (c:Int) (w:World):Calls Tryz.prog 205 #[.int .u8 c] w fun e w'=>e=.returned (.bool (digB c))∧w'=w:=by
 by_cases h1:48≤c<;>by_cases h2:c≤57
 all_goals first|(exfalso;omega)|skip
 all_goals
  (first|rw[digB_yes (by omega)]|rw[digB_no (by omega)])
  go_enter Tryz.func205,Tryz.ntmps205
  go_wp2
  go_ret
  exact⟨rfl,rfl⟩
end Go.Proofs.YtobgbmfpicmpcaaGreatDoor

/- Numbers in the plain specification: the value of digits gathered from the left, and what the library's Atoi makes of them. No program in this text. -/
namespace Go.Proofs.YtobgbmfpicmpcaaGreatDoor
def dn (s:ByteArray) (a:Nat):Nat→Int
 | 0=>0
 | j+1=>10*dn s a j+(bt s (a+j) - 48)
theorem take_snoc (l:List UInt8) (j:Nat) (h:j<l.length):l.take (j+1)=l.take j++[l[j]]:=by
 rw[List.take_succ_eq_append_getElem h]
theorem len_toList (s:ByteArray):s.data.toList.length=s.size:=by rw[Array.length_toList];rfl
theorem bt_get {s:ByteArray} {k:Nat} (h:k<s.data.toList.length):bt s k=((s.data.toList[k]'h).toNat:Int):=by
 have h':k<s.size:=by rw[len_toList] at h;exact h
 rw[←bt_in h',Array.getElem_toList];rfl
theorem dn_digs (s:ByteArray) (a:Nat) (hd:∀j,a≤j→j<s.size→48≤bt s j∧bt s j≤57):
  ∀j,a+j≤s.size→dn s a j=(digs 0 ((s.data.toList.drop a).take j):Nat)
 | 0,_=>by rw[List.take_zero,digs_nil];unfold dn;omega
 | j+1,h=>by
  have ih:=dn_digs s a hd j (by omega)
  have hl:=len_toList s
  have hj:j<(s.data.toList.drop a).length:=by rw[List.length_drop,hl];omega
  rw[take_snoc _ j hj,digs_snoc,dn,ih,dgt_eq]
  have hb:=hd (a+j) (by omega) (by omega)
  rw[bt_get (by rw[hl];omega)] at hb
  rw[bt_get (by rw[hl];omega),List.getElem_drop]
  omega
theorem dn_mono (s:ByteArray) (a:Nat) (hd:∀j,a≤j→j<s.size→48≤bt s j∧bt s j≤57) (j:Nat) (h:a+j≤s.size):
  dn s a j≤(digs 0 (s.data.toList.drop a):Nat):=by
 rw[dn_digs s a hd j h]
 have:digs 0 (s.data.toList.drop a)=digs (digs 0 ((s.data.toList.drop a).take j)) ((s.data.toList.drop a).drop j):=by
  rw[←digs_append,List.take_append_drop]
 rw[this]
 have:=digs_le ((s.data.toList.drop a).drop j) (digs 0 ((s.data.toList.drop a).take j))
 omega
theorem dn_whole (s:ByteArray) (a:Nat) (hd:∀j,a≤j→j<s.size→48≤bt s j∧bt s j≤57) (h:a≤s.size):
  dn s a (s.size - a)=(digs 0 (s.data.toList.drop a):Nat):=by
 rw[dn_digs s a hd _ (by omega),List.take_of_length_le (by rw[List.length_drop,len_toList];omega)]
theorem cons_of {s:ByteArray} (h:0<s.size):∃c r,s.data.toList=c::r∧(c.toNat:Int)=bt s 0∧r=s.data.toList.drop 1∧r.length+1=s.size:=by
 have hl:=len_toList s
 match hs:s.data.toList with
 | []=>rw[hs] at hl;simp at hl;omega
 | c::r=>
  have:=bt_get (s:=s) (k:=0) (by rw[hl];exact h)
  refine⟨c,r,rfl,?_,rfl,?_⟩
  ·rw[this];simp[hs]
  ·rw[hs] at hl;simpa using hl
theorem numL_plain_bad {s:ByteArray} (h0:0<s.size) (h45:bt s 0≠45) (h:(bt s 0=48∧1<s.size)∨1000000000<(digs 0 s.data.toList:Nat)):numL s.data.toList=none:=by
 obtain⟨c,r,e,hc,-,hr⟩:=cons_of h0
 rw[e] at h⊢
 simp only[numL]
 rw[if_neg (by omega),if_pos]
 rcases h with ⟨h1,h2⟩|h
 ·exact Or.inl ⟨by omega,by intro hn;subst hn;simp at hr;omega⟩
 ·exact Or.inr h
theorem numL_plain_ok {s:ByteArray} (h0:0<s.size) (h45:bt s 0≠45) (h1:¬(bt s 0=48∧1<s.size)) (h2:(digs 0 s.data.toList:Nat)≤1000000000):numL s.data.toList=some ((digs 0 s.data.toList:Nat):Int):=by
 obtain⟨c,r,e,hc,-,hr⟩:=cons_of h0
 rw[e] at h2⊢
 simp only[numL]
 rw[if_neg (by omega),if_neg]
 intro h
 rcases h with ⟨ha,hb⟩|h
 ·apply h1
  have:0<r.length:=List.length_pos_iff.2 hb
  omega
 ·omega
theorem numL_sign_bad {s:ByteArray} (h0:1<s.size) (h45:bt s 0=45) (h:bt s 1=48∨1000000000<(digs 0 (s.data.toList.drop 1):Nat)):numL s.data.toList=none:=by
 obtain⟨c,r,e,hc,hr1,hr⟩:=cons_of (s:=s) (by omega)
 have hl:=len_toList s
 have hb1:=bt_get (s:=s) (k:=1) (by rw[hl];exact h0)
 rw[←hr1] at h
 rw[e]
 simp only[numL]
 rw[if_pos (by omega),if_pos]
 rcases h with h|h
 ·left
  cases r with
  | nil=>simp at hr;omega
  | cons d t=>
   have:s.data.toList[1]'(by rw[hl];exact h0)=d:=by simp[e]
   rw[this] at hb1
   simp;omega
 ·exact Or.inr h
theorem numL_sign_ok {s:ByteArray} (h0:1<s.size) (h45:bt s 0=45) (h1:bt s 1≠48) (h2:(digs 0 (s.data.toList.drop 1):Nat)≤1000000000):numL s.data.toList=some (-((digs 0 (s.data.toList.drop 1):Nat):Int)):=by
 obtain⟨c,r,e,hc,hr1,hr⟩:=cons_of (s:=s) (by omega)
 have hl:=len_toList s
 have hb1:=bt_get (s:=s) (k:=1) (by rw[hl];exact h0)
 rw[←hr1] at h2⊢
 rw[e]
 simp only[numL]
 rw[if_pos (by omega),if_neg]
 intro h
 rcases h with h|h
 ·cases r with
  | nil=>simp at h
  | cons d t=>
   have:s.data.toList[1]'(by rw[hl];exact h0)=d:=by simp[e]
   rw[this] at hb1
   simp at h;omega
 ·omega
theorem pu_nil (acc:Nat):Lib.parseUint10 acc []=.ok acc:=by simp only[Lib.parseUint10]
theorem pu_cons (acc:Nat) (c:UInt8) (r:List UInt8) (hc:48≤c.toNat∧c.toNat≤57):Lib.parseUint10 acc (c::r)=if 1844674407370955162≤acc then .range else if 18446744073709551616≤acc*10+(c.toNat - 48) then .range else Lib.parseUint10 (acc*10+(c.toNat - 48)) r:=by
 simp only[Lib.parseUint10];rw[if_pos hc]
theorem parseUint_digs (M:Nat) (hM:M=18446744073709551616) (l:List UInt8):∀(acc:Nat),(∀c∈l,48≤c.toNat∧c.toNat≤57)→acc<M→
  (digs acc l<M∧Lib.parseUint10 acc l=.ok (digs acc l))∨(M≤digs acc l∧Lib.parseUint10 acc l=.range):=by
 induction l with
 | nil=>intro acc _ ha;rw[digs_nil,pu_nil];exact Or.inl ⟨ha,rfl⟩
 | cons c r ih=>
  intro acc hl ha
  have hc:=hl c List.mem_cons_self
  have hle:=digs_le r (10*acc+(c.toNat - 48))
  rw[pu_cons acc c r hc,digs_cons,dgt_eq]
  by_cases h1:1844674407370955162≤acc
  ·rw[if_pos h1];exact Or.inr ⟨by omega,rfl⟩
  ·rw[if_neg h1]
   by_cases h2:18446744073709551616≤acc*10+(c.toNat - 48)
   ·rw[if_pos h2];exact Or.inr ⟨by omega,rfl⟩
   ·rw[if_neg h2]
    have e:acc*10+(c.toNat - 48)=10*acc+(c.toNat - 48):=by omega
    rw[e]
    exact ih _ (fun d hd=>hl d (List.mem_cons_of_mem _ hd)) (by omega)
theorem atoi_plain {s:ByteArray} (h0:0<s.size) (hd:∀j,j<s.size→48≤bt s j∧bt s j≤57):
  Lib.atoiAll s.data.toList=.ok ((digs 0 s.data.toList:Nat):Int)∨(Lib.atoiAll s.data.toList=.range∧1000000000<(digs 0 s.data.toList:Nat)):=by
 have hl:=len_toList s
 have hall:∀c∈s.data.toList,48≤c.toNat∧c.toNat≤57:=by
  intro c hc
  obtain⟨i,hi,rfl⟩:=List.mem_iff_getElem.1 hc
  have:=hd i (by rw[←hl];exact hi)
  rw[bt_get hi] at this;omega
 obtain⟨c,r,e,hc,-,hr⟩:=cons_of h0
 have hb:=hd 0 h0
 have hp:=parseUint_digs 18446744073709551616 rfl s.data.toList 0 hall (by omega)
 rw[e] at hp⊢
 have hm:Lib.parseMag (c::r)=Lib.parseUint10 0 (c::r):=by simp[Lib.parseMag]
 rw[Lib.atoiAll_plain c r (by omega) (by omega),hm]
 rcases hp with ⟨h1,h2⟩|⟨h1,h2⟩
 ·rw[h2]
  by_cases h3:9223372036854775808≤digs 0 (c::r)
  ·right;exact⟨by simp[Lib.signless,h3],by omega⟩
  ·left;simp[Lib.signless,h3]
 ·rw[h2];right;exact⟨by simp[Lib.signless],by omega⟩
theorem atoi_sign {s:ByteArray} (h0:1<s.size) (h45:bt s 0=45) (hd:∀j,1≤j→j<s.size→48≤bt s j∧bt s j≤57):
  Lib.atoiAll s.data.toList=.ok (-((digs 0 (s.data.toList.drop 1):Nat):Int))∨(Lib.atoiAll s.data.toList=.range∧1000000000<(digs 0 (s.data.toList.drop 1):Nat)):=by
 have hl:=len_toList s
 obtain⟨c,r,e,hc,hr1,hr⟩:=cons_of (s:=s) (by omega)
 have hall:∀c∈r,48≤c.toNat∧c.toNat≤57:=by
  intro c hc
  rw[hr1] at hc
  obtain⟨i,hi,rfl⟩:=List.mem_iff_getElem.1 hc
  rw[List.length_drop,hl] at hi
  have:=hd (1+i) (by omega) (by omega)
  rw[bt_get (by rw[hl];omega)] at this
  rw[List.getElem_drop];omega
 have hp:=parseUint_digs 18446744073709551616 rfl r 0 hall (by omega)
 have hc45:c=45:=UInt8.toNat_inj.1 (by show c.toNat=45;omega)
 have hne:r≠[]:=by intro hn;subst hn;simp at hr;omega
 have hm:Lib.parseMag r=Lib.parseUint10 0 r:=by simp[Lib.parseMag,hne]
 rw[←hr1,e,hc45,Lib.atoiAll_minus,hm]
 rcases hp with ⟨h1,h2⟩|⟨h1,h2⟩
 ·rw[h2]
  by_cases h3:9223372036854775808<digs 0 r
  ·right;exact⟨by simp[Lib.signed,h3],by omega⟩
  ·left;simp[Lib.signed,h3]
 ·rw[h2];right;exact⟨by simp[Lib.signed],by omega⟩
end Go.Proofs.YtobgbmfpicmpcaaGreatDoor

/- The list of marks and the plain specification's longest mark are one. No program in this text. -/
namespace Go.Proofs.YtobgbmfpicmpcaaGreatDoor
def markTexts:Array ByteArray:=#[⟨#[93,45,62]⟩,⟨#[45,91]⟩,⟨#[46,46]⟩,⟨#[60,61]⟩,⟨#[62,61]⟩,⟨#[60,62]⟩,⟨#[40]⟩,⟨#[41]⟩,⟨#[58]⟩,⟨#[44]⟩,⟨#[46]⟩,⟨#[61]⟩,⟨#[60]⟩,⟨#[62]⟩,⟨#[42]⟩,⟨#[123]⟩,⟨#[125]⟩]
def markAt (k:Nat):ByteArray:=markTexts.getD k ByteArray.empty
def fits (s m:ByteArray):Prop:=m.size≤s.size∧s.extract 0 m.size=m
theorem bt_extract (s:ByteArray) (a b j:Nat) (hb:b≤s.size) (hj:a+j<b):bt (s.extract a b) j=bt s (a+j):=by
 have h1:j<(s.extract a b).size:=by rw[ByteArray.size_extract];omega
 rw[←bt_in h1,←bt_in (show a+j<s.size by omega)]
 rw[ByteArray.getElem_extract]
theorem size_extract' (s:ByteArray) (a b:Nat) (hb:b≤s.size):(s.extract a b).size=b - a:=by rw[ByteArray.size_extract];omega
theorem ext_bt {a b:ByteArray} (hz:a.size=b.size) (h:∀j,j<a.size→bt a j=bt b j):a=b:=by
 apply ByteArray.ext
 apply Array.ext hz
 intro i h1 h2
 have:=h i h1
 rw[←bt_in h1,←bt_in (show i<b.size from h2)] at this
 have h3:(a[i]'h1).toNat=(b[i]'h2).toNat:=by omega
 exact UInt8.toNat_inj.1 h3
theorem fits_iff (s m:ByteArray):fits s m↔∀j,j<m.size→bt s j=bt m j:=by
 constructor
 ·rintro ⟨h1,h2⟩ j hj
  have:=bt_extract s 0 m.size j h1 (by omega)
  rw[Nat.zero_add] at this
  rw[←this,h2]
 ·intro h
  have hle:m.size≤s.size:=by
   by_cases h0:m.size=0
   ·omega
   ·have hm:m.size - 1<m.size:=by omega
    have h1:=h (m.size - 1) hm
    have h2:=bt_in hm
    have:m.size - 1<s.size:=bt_lt (by omega)
    omega
  refine⟨hle,ext_bt (by rw[size_extract' _ _ _ hle];omega) ?_⟩
  intro j hj
  rw[size_extract' _ _ _ hle] at hj
  rw[bt_extract s 0 m.size j hle (by omega),Nat.zero_add]
  exact h j (by omega)
theorem fits1 (s:ByteArray) (a:UInt8):fits s ⟨#[a]⟩↔bt s 0=(a.toNat:Int):=by
 rw[fits_iff]
 have z:(⟨#[a]⟩:ByteArray).size=1:=rfl
 have b0:bt ⟨#[a]⟩ 0=(a.toNat:Int):=(bt_in (s:=⟨#[a]⟩) (k:=0) (by omega)).symm
 constructor
 ·intro h;rw[h 0 (by omega),b0]
 ·intro h j hj
  have:j=0:=by omega
  subst this;rw[h,b0]
theorem fitsTwo (s:ByteArray) (a b:UInt8):fits s ⟨#[a,b]⟩↔bt s 0=(a.toNat:Int)∧bt s 1=(b.toNat:Int):=by
 rw[fits_iff]
 have z:(⟨#[a,b]⟩:ByteArray).size=2:=rfl
 have b0:bt ⟨#[a,b]⟩ 0=(a.toNat:Int):=(bt_in (s:=⟨#[a,b]⟩) (k:=0) (by omega)).symm
 have b1:bt ⟨#[a,b]⟩ 1=(b.toNat:Int):=(bt_in (s:=⟨#[a,b]⟩) (k:=1) (by omega)).symm
 constructor
 ·intro h;exact⟨by rw[h 0 (by omega),b0],by rw[h 1 (by omega),b1]⟩
 ·intro h j hj
  have:j=0∨j=1:=by omega
  rcases this with rfl|rfl
  ·rw[h.1,b0]
  ·rw[h.2,b1]
theorem fits3 (s:ByteArray) (a b c:UInt8):fits s ⟨#[a,b,c]⟩↔bt s 0=(a.toNat:Int)∧bt s 1=(b.toNat:Int)∧bt s 2=(c.toNat:Int):=by
 rw[fits_iff]
 have z:(⟨#[a,b,c]⟩:ByteArray).size=3:=rfl
 have b0:bt ⟨#[a,b,c]⟩ 0=(a.toNat:Int):=(bt_in (s:=⟨#[a,b,c]⟩) (k:=0) (by omega)).symm
 have b1:bt ⟨#[a,b,c]⟩ 1=(b.toNat:Int):=(bt_in (s:=⟨#[a,b,c]⟩) (k:=1) (by omega)).symm
 have b2:bt ⟨#[a,b,c]⟩ 2=(c.toNat:Int):=(bt_in (s:=⟨#[a,b,c]⟩) (k:=2) (by omega)).symm
 constructor
 ·intro h;exact⟨by rw[h 0 (by omega),b0],by rw[h 1 (by omega),b1],by rw[h 2 (by omega),b2]⟩
 ·intro h j hj
  have:j=0∨j=1∨j=2:=by omega
  rcases this with rfl|rfl|rfl
  ·rw[h.1,b0]
  ·rw[h.2.1,b1]
  ·rw[h.2.2,b2]
structure Fit (s:ByteArray):Prop where
 m0:fits s (markAt 0)↔bt s 0=93∧bt s 1=45∧bt s 2=62
 m1:fits s (markAt 1)↔bt s 0=45∧bt s 1=91
 m2:fits s (markAt 2)↔bt s 0=46∧bt s 1=46
 m3:fits s (markAt 3)↔bt s 0=60∧bt s 1=61
 m4:fits s (markAt 4)↔bt s 0=62∧bt s 1=61
 m5:fits s (markAt 5)↔bt s 0=60∧bt s 1=62
 m6:fits s (markAt 6)↔bt s 0=40
 m7:fits s (markAt 7)↔bt s 0=41
 m8:fits s (markAt 8)↔bt s 0=58
 m9:fits s (markAt 9)↔bt s 0=44
 m10:fits s (markAt 10)↔bt s 0=46
 m11:fits s (markAt 11)↔bt s 0=61
 m12:fits s (markAt 12)↔bt s 0=60
 m13:fits s (markAt 13)↔bt s 0=62
 m14:fits s (markAt 14)↔bt s 0=42
 m15:fits s (markAt 15)↔bt s 0=123
 m16:fits s (markAt 16)↔bt s 0=125
theorem fit (s:ByteArray):Fit s where
 m0:=fits3 s 93 45 62
 m1:=fitsTwo s 45 91
 m2:=fitsTwo s 46 46
 m3:=fitsTwo s 60 61
 m4:=fitsTwo s 62 61
 m5:=fitsTwo s 60 62
 m6:=fits1 s 40
 m7:=fits1 s 41
 m8:=fits1 s 58
 m9:=fits1 s 44
 m10:=fits1 s 46
 m11:=fits1 s 61
 m12:=fits1 s 60
 m13:=fits1 s 62
 m14:=fits1 s 42
 m15:=fits1 s 123
 m16:=fits1 s 125
theorem mark_none {s:ByteArray} (h:∀j,j<17→¬fits s (markAt j)):markLen s 0=0:=by
 have F:=fit s
 have a0:=mt F.m0.2 (h 0 (by omega));have a1:=mt F.m1.2 (h 1 (by omega));have a6:=mt F.m6.2 (h 6 (by omega));have a7:=mt F.m7.2 (h 7 (by omega))
 have a8:=mt F.m8.2 (h 8 (by omega));have a9:=mt F.m9.2 (h 9 (by omega));have a10:=mt F.m10.2 (h 10 (by omega));have a11:=mt F.m11.2 (h 11 (by omega))
 have a12:=mt F.m12.2 (h 12 (by omega));have a13:=mt F.m13.2 (h 13 (by omega));have a14:=mt F.m14.2 (h 14 (by omega));have a15:=mt F.m15.2 (h 15 (by omega));have a16:=mt F.m16.2 (h 16 (by omega))
 unfold markLen
 simp only[Nat.zero_add]
 repeat' split
 all_goals omega
theorem mark_len0 {s:ByteArray} (hf:fits s (markAt 0)) :markLen s 0=3:=by
 have F:=fit s
 have b:=F.m0.1 hf
 clear F hf
 unfold markLen
 simp only[Nat.zero_add]
 repeat' split
 all_goals omega
theorem mark_len1 {s:ByteArray} (hf:fits s (markAt 1)) :markLen s 0=2:=by
 have F:=fit s
 have b:=F.m1.1 hf
 clear F hf
 unfold markLen
 simp only[Nat.zero_add]
 repeat' split
 all_goals omega
theorem mark_len2 {s:ByteArray} (hf:fits s (markAt 2)) :markLen s 0=2:=by
 have F:=fit s
 have b:=F.m2.1 hf
 clear F hf
 unfold markLen
 simp only[Nat.zero_add]
 repeat' split
 all_goals omega
theorem mark_len3 {s:ByteArray} (hf:fits s (markAt 3)) :markLen s 0=2:=by
 have F:=fit s
 have b:=F.m3.1 hf
 clear F hf
 unfold markLen
 simp only[Nat.zero_add]
 repeat' split
 all_goals omega
theorem mark_len4 {s:ByteArray} (hf:fits s (markAt 4)) :markLen s 0=2:=by
 have F:=fit s
 have b:=F.m4.1 hf
 clear F hf
 unfold markLen
 simp only[Nat.zero_add]
 repeat' split
 all_goals omega
theorem mark_len5 {s:ByteArray} (hf:fits s (markAt 5)) :markLen s 0=2:=by
 have F:=fit s
 have b:=F.m5.1 hf
 clear F hf
 unfold markLen
 simp only[Nat.zero_add]
 repeat' split
 all_goals omega
theorem mark_len6 {s:ByteArray} (hf:fits s (markAt 6)) :markLen s 0=1:=by
 have F:=fit s
 have b:=F.m6.1 hf
 clear F hf
 unfold markLen
 simp only[Nat.zero_add]
 repeat' split
 all_goals omega
theorem mark_len7 {s:ByteArray} (hf:fits s (markAt 7)) :markLen s 0=1:=by
 have F:=fit s
 have b:=F.m7.1 hf
 clear F hf
 unfold markLen
 simp only[Nat.zero_add]
 repeat' split
 all_goals omega
theorem mark_len8 {s:ByteArray} (hf:fits s (markAt 8)) :markLen s 0=1:=by
 have F:=fit s
 have b:=F.m8.1 hf
 clear F hf
 unfold markLen
 simp only[Nat.zero_add]
 repeat' split
 all_goals omega
theorem mark_len9 {s:ByteArray} (hf:fits s (markAt 9)) :markLen s 0=1:=by
 have F:=fit s
 have b:=F.m9.1 hf
 clear F hf
 unfold markLen
 simp only[Nat.zero_add]
 repeat' split
 all_goals omega
theorem mark_len10 {s:ByteArray} (hf:fits s (markAt 10)) (a2:¬fits s (markAt 2)):markLen s 0=1:=by
 have F:=fit s
 have b:=F.m10.1 hf
 have c2:=mt F.m2.2 a2
 clear F hf a2
 unfold markLen
 simp only[Nat.zero_add]
 repeat' split
 all_goals omega
theorem mark_len11 {s:ByteArray} (hf:fits s (markAt 11)) :markLen s 0=1:=by
 have F:=fit s
 have b:=F.m11.1 hf
 clear F hf
 unfold markLen
 simp only[Nat.zero_add]
 repeat' split
 all_goals omega
theorem mark_len12 {s:ByteArray} (hf:fits s (markAt 12)) (a3:¬fits s (markAt 3)) (a5:¬fits s (markAt 5)):markLen s 0=1:=by
 have F:=fit s
 have b:=F.m12.1 hf
 have c3:=mt F.m3.2 a3
 have c5:=mt F.m5.2 a5
 clear F hf a3 a5
 unfold markLen
 simp only[Nat.zero_add]
 repeat' split
 all_goals omega
theorem mark_len13 {s:ByteArray} (hf:fits s (markAt 13)) (a4:¬fits s (markAt 4)):markLen s 0=1:=by
 have F:=fit s
 have b:=F.m13.1 hf
 have c4:=mt F.m4.2 a4
 clear F hf a4
 unfold markLen
 simp only[Nat.zero_add]
 repeat' split
 all_goals omega
theorem mark_len14 {s:ByteArray} (hf:fits s (markAt 14)) :markLen s 0=1:=by
 have F:=fit s
 have b:=F.m14.1 hf
 clear F hf
 unfold markLen
 simp only[Nat.zero_add]
 repeat' split
 all_goals omega
theorem mark_len15 {s:ByteArray} (hf:fits s (markAt 15)) :markLen s 0=1:=by
 have F:=fit s
 have b:=F.m15.1 hf
 clear F hf
 unfold markLen
 simp only[Nat.zero_add]
 repeat' split
 all_goals omega
theorem mark_len16 {s:ByteArray} (hf:fits s (markAt 16)) :markLen s 0=1:=by
 have F:=fit s
 have b:=F.m16.1 hf
 clear F hf
 unfold markLen
 simp only[Nat.zero_add]
 repeat' split
 all_goals omega
theorem mark_len {s:ByteArray} {k:Nat} (hk:k<17) (hf:fits s (markAt k)) (h:∀j,j<k→¬fits s (markAt j)):markLen s 0=(markAt k).size∧0<(markAt k).size:=by
 rcases (show k=0∨k=1∨k=2∨k=3∨k=4∨k=5∨k=6∨k=7∨k=8∨k=9∨k=10∨k=11∨k=12∨k=13∨k=14∨k=15∨k=16 by omega) with rfl|rfl|rfl|rfl|rfl|rfl|rfl|rfl|rfl|rfl|rfl|rfl|rfl|rfl|rfl|rfl|rfl
 ·rw[show (markAt 0).size=3 from rfl];exact⟨mark_len0 hf,by omega⟩
 ·rw[show (markAt 1).size=2 from rfl];exact⟨mark_len1 hf,by omega⟩
 ·rw[show (markAt 2).size=2 from rfl];exact⟨mark_len2 hf,by omega⟩
 ·rw[show (markAt 3).size=2 from rfl];exact⟨mark_len3 hf,by omega⟩
 ·rw[show (markAt 4).size=2 from rfl];exact⟨mark_len4 hf,by omega⟩
 ·rw[show (markAt 5).size=2 from rfl];exact⟨mark_len5 hf,by omega⟩
 ·rw[show (markAt 6).size=1 from rfl];exact⟨mark_len6 hf,by omega⟩
 ·rw[show (markAt 7).size=1 from rfl];exact⟨mark_len7 hf,by omega⟩
 ·rw[show (markAt 8).size=1 from rfl];exact⟨mark_len8 hf,by omega⟩
 ·rw[show (markAt 9).size=1 from rfl];exact⟨mark_len9 hf,by omega⟩
 ·rw[show (markAt 10).size=1 from rfl];exact⟨mark_len10 hf (h 2 (by omega)),by omega⟩
 ·rw[show (markAt 11).size=1 from rfl];exact⟨mark_len11 hf,by omega⟩
 ·rw[show (markAt 12).size=1 from rfl];exact⟨mark_len12 hf (h 3 (by omega)) (h 5 (by omega)),by omega⟩
 ·rw[show (markAt 13).size=1 from rfl];exact⟨mark_len13 hf (h 4 (by omega)),by omega⟩
 ·rw[show (markAt 14).size=1 from rfl];exact⟨mark_len14 hf,by omega⟩
 ·rw[show (markAt 15).size=1 from rfl];exact⟨mark_len15 hf,by omega⟩
 ·rw[show (markAt 16).size=1 from rfl];exact⟨mark_len16 hf,by omega⟩
theorem mark_found {s:ByteArray} {k:Nat} (hk:k<17) (hf:fits s (markAt k)) (h:∀j,j<k→¬fits s (markAt j)):markAt k=s.extract 0 (markLen s 0)∧0<markLen s 0:=by
 obtain⟨h1,h2⟩:=mark_len hk hf h
 rw[h1];exact⟨hf.2.symm,h2⟩
theorem markLen_rest (s:ByteArray) (k:Nat) (h:k≤s.size):markLen (s.extract k s.size) 0=markLen s k:=by
 have e:∀j,bt (s.extract k s.size) j=bt s (k+j):=by
  intro j
  by_cases hj:k+j<s.size
  ·exact bt_extract s k s.size j (Nat.le_refl _) hj
  ·rw[bt_out (by rw[size_extract' _ _ _ (Nat.le_refl _)];omega),bt_out hj]
 unfold markLen
 simp only[e,Nat.zero_add,Nat.add_zero]
theorem mark_text (s:ByteArray) (k:Nat) (h:k<s.size):(s.extract k s.size).extract 0 (markLen (s.extract k s.size) 0)=s.extract k (k+markLen s k):=by
 have hl:=markLen_le h
 rw[markLen_rest s k (by omega)]
 have z1:=size_extract' s k s.size (Nat.le_refl _)
 have z2:=size_extract' s k (k+markLen s k) hl
 have z3:=size_extract' (s.extract k s.size) 0 (markLen s k) (by omega)
 refine ext_bt (by omega) ?_
 intro j hj
 rw[bt_extract _ 0 _ _ (by omega) (by omega),Nat.zero_add,bt_extract _ _ _ _ (Nat.le_refl _) (by omega),bt_extract _ _ _ _ hl (by omega)]
end Go.Proofs.YtobgbmfpicmpcaaGreatDoor

/- Tokens in memory: what a list of tokens owns, and the plain facts on one token that both sides use. No walk in this text. -/
namespace Go.Proofs.YtobgbmfpicmpcaaGreatDoor
open Go.RowKit
def tokCells (ts:List Tok):List Value:=ts.flatMap fun t=>[.int .i64 t.kind,.string t.text,.int .i64 t.val]
def toks (s:ByteArray):Option (List Tok):=if 2000<s.size then none else run s 0
def TokPost (s:ByteArray) (w:World) (e:Ending) (w':World):Prop:=
 Below w.heap.size w w'∧((toks s=none∧e=.returned (.tuple #[.slice none 0 0,.int .i64 3]))∨
  ∃ts v,toks s=some ts∧e=.returned (.tuple #[v,.int .i64 0])∧w'.ownsRow w.heap.size 153 3 v ts.length (tokCells ts))
theorem Tryz.info27:(Tryz.prog.info? 153).map (fun i=>(i.zero,i.size,i.bytes))=some (some (.agg #[.int .i64 0,.string ⟨#[]⟩,.int .i64 0]),3,32):=by kernel_rfl
def Numeral (t:ByteArray):Prop:=(0<t.size∧∀j,j<t.size→48≤bt t j∧bt t j≤57)∨(1<t.size∧bt t 0=45∧∀j,1≤j→j<t.size→48≤bt t j∧bt t j≤57)
theorem span_step {s:ByteArray} {k e:Nat} {p:Int→Bool} (h:e<s.size) (hp:p ((s[e]'h).toNat:Int)=true) (hs:span p s e=span p s k):span p s (e+1)=span p s k:=by
 rw[←hs];exact(span_go h (by rw[←bt_in h];exact hp)).symm
theorem span_here {s:ByteArray} {k e:Nat} {p:Int→Bool} (h:∀h:e<s.size,p ((s[e]'h).toNat:Int)=false) (hs:span p s e=span p s k):span p s k=e:=by
 rw[←hs];exact span_stop fun hh=>by rw[←bt_in hh];exact h hh
theorem toks_none {s:ByteArray} (h:s.size≤2000) (hr:run s 0=none):toks s=none:=by unfold toks;rw[if_neg (by omega)];exact hr
theorem toks_some {s:ByteArray} {ts:List Tok} (h:s.size≤2000) (hr:run s 0=some ts):toks s=some ts:=by unfold toks;rw[if_neg (by omega)];exact hr
theorem one_word {s:ByteArray} {k e:Nat} (h:k<s.size) (hl:letB ((s[k]'h).toNat:Int)=true) (he:span alnB s k=e) (h8:e - k≤8):one s k=some (e,⟨1,s.extract k e,0⟩):=by
 unfold one;rw[←bt_in h,if_pos hl,he,if_neg (by omega)]
theorem one_word_bad {s:ByteArray} {k e:Nat} (h:k<s.size) (hl:letB ((s[k]'h).toNat:Int)=true) (he:span alnB s k=e) (h8:8<e - k):one s k=none:=by
 unfold one;rw[←bt_in h,if_pos hl,he,if_pos h8]
theorem tokCells_snoc (acc:List Tok) (t:Tok):tokCells (acc++[t])=tokCells acc++[.int .i64 t.kind,.string t.text,.int .i64 t.val]:=by
 unfold tokCells;rw[List.flatMap_append];simp
def NumBegin (s:ByteArray) (k:Nat):Prop:=digB (bt s k)=true∨(bt s k=45∧digB (bt s (k+1))=true)
theorem numeral_of {s:ByteArray} {k e:Nat} (h:k<s.size) (hb:NumBegin s k) (he:span digB s (k+1)=e):Numeral (s.extract k e):=by
 have hle:=span_le (p:=digB) (s:=s) (k:=k+1) h
 have hz:=size_extract' s k e (by omega)
 have hall:∀j,1≤j→j<e - k→48≤bt (s.extract k e) j∧bt (s.extract k e) j≤57:=by
  intro j h1 h2
  rw[bt_extract s k e j (by omega) (by omega)]
  exact of_digB (span_all digB s _ (k+1) rfl h (k+j) (by omega) (by omega))
 have h0:bt (s.extract k e) 0=bt s k:=by rw[bt_extract s k e 0 (by omega) (by omega),Nat.add_zero]
 rcases hb with hb|⟨hb,hb1⟩
 ·left
  refine⟨by omega,?_⟩
  intro j hj
  by_cases e0:j=0
  ·subst e0;rw[h0];exact of_digB hb
  ·exact hall j (by omega) (by omega)
 ·right
  have h1:k+1<s.size:=bt_lt (by have:=of_digB hb1;omega)
  have:span digB s (k+1)=span digB s (k+1+1):=span_go h1 hb1
  have:=span_le (p:=digB) (s:=s) (k:=k+1+1) h1
  exact⟨by omega,by rw[h0];exact hb,fun j h1 h2=>hall j h1 (by omega)⟩
theorem one_num {s:ByteArray} {k e:Nat} {v:Int} (hl:letB (bt s k)=false) (hb:NumBegin s k) (he:span digB s (k+1)=e) (hv:numL (s.extract k e).data.toList=some v):one s k=some (e,⟨2,s.extract k e,v⟩):=by
 unfold one;rw[if_neg (by rw[hl];simp),if_pos,he,hv]
 rcases hb with h|⟨h1,h2⟩
 ·rw[h];rfl
 ·rw[h1,h2];simp
theorem one_num_bad {s:ByteArray} {k e:Nat} (hl:letB (bt s k)=false) (hb:NumBegin s k) (he:span digB s (k+1)=e) (hv:numL (s.extract k e).data.toList=none):one s k=none:=by
 unfold one;rw[if_neg (by rw[hl];simp),if_pos,he,hv]
 rcases hb with h|⟨h1,h2⟩
 ·rw[h];rfl
 ·rw[h1,h2];simp
theorem one_mark {s:ByteArray} {k:Nat} (hl:letB (bt s k)=false) (hb:¬NumBegin s k) (hm:0<markLen s k):one s k=some (k+markLen s k,⟨3,s.extract k (k+markLen s k),0⟩):=by
 unfold one;rw[if_neg (by rw[hl];simp),if_neg,if_neg (by omega)]
 intro h;apply hb
 simp only[Bool.or_eq_true,Bool.and_eq_true,decide_eq_true_eq] at h
 exact h
theorem one_mark_bad {s:ByteArray} {k:Nat} (hl:letB (bt s k)=false) (hb:¬NumBegin s k) (hm:markLen s k=0):one s k=none:=by
 unfold one;rw[if_neg (by rw[hl];simp),if_neg,if_pos hm]
 intro h;apply hb
 simp only[Bool.or_eq_true,Bool.and_eq_true,decide_eq_true_eq] at h
 exact h
theorem own_below {w w':World} {B:Nat} {v:Value} {n:Nat} {xs:List Value} (h:w.ownsRow B 153 3 v n xs) (hb:Below w.heap.size w w'):w'.ownsRow B 153 3 v n xs:=
 h.kept (row:=none) ⟨hb.os,hb.tape,hb.output,hb.size,fun k hk _=>hb.block k hk⟩ (by cases hv:v.ownBlock<;>simp)
theorem rel_append {w wr w2:World} {B:Nat} {v v':Value} {acc:List Tok} {kd vl:Int} {tx:ByteArray} {o:Obj} (hB:Below B w wr) (hBs:B≤w.heap.size) (hown:wr.ownsRow B 153 3 v acc.length (tokCells acc))
  (hown':w2.ownsRow B 153 3 v' (acc.length+1) (tokCells acc++[.int .i64 kd,.string tx,.int .i64 vl])) (hg:(wr.alloc o).grownBy w2 v.ownBlock):
  Below B w w2∧w2.ownsRow B 153 3 v' (acc++[Tok.mk kd tx vl]).length (tokCells (acc++[Tok.mk kd tx vl])):=by
 have hs:=hB.size
 refine⟨(hB.alloc (by omega) o).grown hg (by simp;omega) (fun k hk=>(hown.lt k hk).1),?_⟩
 rw[tokCells_snoc,List.length_append]
 exact hown'
theorem three_cells {w:World} {a b c:Value} {T:TypeId}:∀(j:Nat) (u:Value),[a,b,c][j]?=some u→(w.alloc (.cells #[a,b,c] T)).cell? ((⟨w.heap.size,0,none⟩:Addr).add j)=some u:=by
 intro j u hj
 match j,hj with
 | 0,hj=>simp at hj;subst hj;simp[Addr.add]
 | 1,hj=>simp at hj;subst hj;simp[Addr.add]
 | 2,hj=>simp at hj;subst hj;simp[Addr.add]
theorem three_one {kd vl:Int} {tx:ByteArray}:∀u∈[Value.int .i64 kd,.string tx,.int .i64 vl],u.oneCell'=true:=by
 intro u hu
 simp at hu
 rcases hu with rfl|rfl|rfl<;>rfl
end Go.Proofs.YtobgbmfpicmpcaaGreatDoor

/- An append onto a slice that the call owns leaves what the slice itself owned as it was, wherever the new one lies. Of no program. -/
namespace Go.Proofs.YtobgbmfpicmpcaaGreatDoor
open Go Go.RowKit
theorem grown_any {w w':World} (h:w.grownBy w' none) (r:Option Nat):w.grownBy w' r:=⟨h.os,h.tape,h.output,h.size,fun k hk _=>h.block k hk (by simp)⟩
theorem own_front {w:World} {B:Nat} {e:TypeId} {size g n m cap:Nat} {xs ys:List Value} (h:w.ownsRow B e size (.slice (some ⟨g,0,none⟩) m cap) m (xs++ys)) (hl:xs.length=n*size) (hn:n≤m):
  w.ownsRow B e size (.slice (some ⟨g,0,none⟩) n cap) n xs:=by
 refine⟨hl,.inr ?_⟩
 rcases h.2 with ⟨h0,_⟩|⟨g',cap',cur,hv,hb,hg,hmc,hcm,hcs,ht⟩
 ·cases h0
 ·injection hv with h1 h2 h3
  injection h1 with h1
  injection h1 with h1
  subst h1;subst h3
  refine⟨g,cap,cur,rfl,hb,hg,by omega,hcm,hcs,?_⟩
  have h4:(cur.toList.take (m*size)).take (n*size)=cur.toList.take (n*size):=by
   rw[List.take_take,Nat.min_eq_left (Nat.mul_le_mul_right _ hn)]
  rw[←h4,ht,←hl,List.take_left]
end Go.Proofs.YtobgbmfpicmpcaaGreatDoor

/- Rows of tokens and of marks in memory: the small facts by which the law's own helpers are walked. No walk in this text. -/
namespace Go.Proofs.YtobgbmfpicmpcaaGreatDoor
open Go.RowKit
theorem tokCells_cons (t:Tok) (r:List Tok):tokCells (t::r)=.int .i64 t.kind::.string t.text::.int .i64 t.val::tokCells r:=by
 unfold tokCells;rw[List.flatMap_cons];rfl
theorem tokCells_length (ts:List Tok):(tokCells ts).length=ts.length*3:=by
 induction ts with
 | nil=>rfl
 | cons t r ih=>rw[tokCells_cons];simp only[List.length_cons,ih];omega
theorem tokCells_at (ts:List Tok):∀(k:Nat) (h:k<ts.length),(tokCells ts)[k*3]?=some (.int .i64 ts[k].kind)∧(tokCells ts)[k*3+1]?=some (.string ts[k].text)∧(tokCells ts)[k*3+2]?=some (.int .i64 ts[k].val):=by
 induction ts with
 | nil=>intro k h;simp at h
 | cons t r ih=>
  intro k h
  rw[tokCells_cons]
  cases k with
  | zero=>exact⟨rfl,rfl,rfl⟩
  | succ k=>
   have:=ih k (by simpa using h)
   rw[show (k+1)*3=k*3+1+1+1 by omega,show k*3+1+1+1+1=(k*3+1)+1+1+1 by omega,show k*3+1+1+1+2=(k*3+2)+1+1+1 by omega]
   simp only[List.getElem?_cons_succ,List.getElem_cons_succ]
   exact this
theorem own_tok {w:World} {B g n cap:Nat} {ts:List Tok} (h:w.ownsRow B 153 3 (.slice (some ⟨g,0,none⟩) n cap) n (tokCells ts)) (hl:ts.length=n) (k:Nat) (hk:k<ts.length):
  w.cell? ⟨g,k*3,none⟩=some (.int .i64 ts[k].kind)∧w.cell? ⟨g,k*3+1,none⟩=some (.string ts[k].text)∧w.cell? ⟨g,k*3+2,none⟩=some (.int .i64 ts[k].val):=by
 obtain⟨h0,h1,h2⟩:=tokCells_at ts k hk
 exact⟨(h.cellAt _ (by omega)).trans h0,(h.cellAt _ (by omega)).trans h1,(h.cellAt _ (by omega)).trans h2⟩
def mk (m:Int):Tok:=⟨m,⟨#[]⟩,0⟩
def marks (m:Int) (n:Nat):List Tok:=List.replicate n (mk m)
theorem marks_length (m:Int) (n:Nat):(marks m n).length=n:=List.length_replicate
theorem marks_front (m:Int) {n k:Nat} (h:k≤n):tokCells (marks m n)=tokCells (marks m k)++tokCells (marks m (n - k)):=by
 have:marks m n=marks m k++marks m (n - k):=by unfold marks;rw[List.replicate_append_replicate];congr 1;omega
 rw[this];unfold tokCells;rw[List.flatMap_append]
def Marked (B:Nat) (m:Int) (N:Nat) (w:World) (u:Value):Prop:=∃len,len≤N∧w.ownsRow B 153 3 u len (tokCells (marks m len))
theorem Marked.kept {B:Nat} {m:Int} {N:Nat} {w w':World} {u:Value} {row:Option Nat} (h:Marked B m N w u) (hg:w.grownBy w' row) (hne:u.ownBlock=none∨u.ownBlock≠row):Marked B m N w' u:=by
 obtain⟨len,h1,h2⟩:=h
 exact⟨len,h1,h2.kept hg hne⟩
theorem Marked.old {B:Nat} {m:Int} {N:Nat} {w w':World} {u:Value} (h:Marked B m N w u) (hb:Below w.heap.size w w'):Marked B m N w' u:=by
 obtain⟨len,h1,h2⟩:=h
 exact⟨len,h1,own_below h2 hb⟩
theorem Marked.grown {B:Nat} {m:Int} {N:Nat} {w w':World} {u v:Value} (h:Marked B m N w u) (hv:w.ownsRow B 153 3 v N (tokCells (marks m N))) (hg:w.grownBy w' v.ownBlock) (hv':w'.ownsRow B 153 3 v N (tokCells (marks m N))):Marked B m (N+1) w' u:=by
 obtain⟨len,h1,h2⟩:=h
 by_cases he:u.ownBlock=none∨u.ownBlock≠v.ownBlock
 ·exact⟨len,by omega,h2.kept hg he⟩
 ·have he2:u.ownBlock=v.ownBlock:=by
   by_cases h3:u.ownBlock=v.ownBlock
   ·exact h3
   ·exact absurd (Or.inr h3) he
  refine⟨len,by omega,?_⟩
  rcases h2.2 with ⟨hu,h0⟩|⟨g,cap,cur,hu,hb,hgg,hnc,hcm,hcs,ht⟩
  ·rw[hu];subst h0;exact World.ownsRow_nil _ _ _ _
  ·rcases hv.2 with ⟨hvn,_⟩|⟨g2,cap2,cur2,hv2,_,hgg2,_,_,hcs2,_⟩
   ·rw[hu,hvn] at he2;simp[Value.ownBlock] at he2
   ·rw[hu,hv2] at he2
    have hgeq:g=g2:=by simpa [Value.ownBlock] using he2
    subst hgeq
    rw[hgg] at hgg2
    injection hgg2 with hgg2
    injection hgg2 with hcc _ _
    subst hcc
    have hcap:cap=cap2:=by omega
    subst hcap
    rw[hu]
    rw[hv2,marks_front m h1] at hv'
    exact own_front hv' (by rw[tokCells_length,marks_length]) h1
def Owned (B:Nat) (m:Int) (w:World) (v:Value):Prop:=∃us,w.ownsRow B 71 1 v 4 us∧∀u∈us,Marked B m 2003 w u
theorem Owned.old {B:Nat} {m:Int} {w w':World} {v:Value} (h:Owned B m w v) (hb:Below w.heap.size w w'):Owned B m w' v:=by
 obtain⟨us,h1,h2⟩:=h
 refine⟨us,?_,fun u hu=>(h2 u hu).old hb⟩
 exact h1.kept (row:=none) ⟨hb.os,hb.tape,hb.output,hb.size,fun k hk _=>hb.block k hk⟩ (by cases hv:v.ownBlock<;>simp)
end Go.Proofs.YtobgbmfpicmpcaaGreatDoor

/- What a slice that owns tokens looks like to a walk that reads it. No walk in this text. -/
namespace Go.Proofs.YtobgbmfpicmpcaaGreatDoor
open Go.RowKit
theorem own_seen {w:World} {B:Nat} {v:Value} {ts:List Tok} (h:w.ownsRow B 153 3 v ts.length (tokCells ts)):
  ∃ao cap,v=.slice ao ts.length cap∧ts.length≤cap∧∀k,(hk:k<ts.length)→∃g,ao=some ⟨g,0,none⟩∧w.cell? ⟨g,k*3,none⟩=some (.int .i64 ts[k].kind)∧w.cell? ⟨g,k*3+1,none⟩=some (.string ts[k].text)∧w.cell? ⟨g,k*3+2,none⟩=some (.int .i64 ts[k].val):=by
 rcases h.2 with ⟨hv,h0⟩|⟨g,cap,cur,hv,hb,hg,hnc,_⟩
 ·exact⟨none,0,by rw[hv,h0],by omega,fun k hk=>by omega⟩
 ·rw[hv] at h
  exact⟨some ⟨g,0,none⟩,cap,hv,hnc,fun k hk=>⟨g,rfl,own_tok h rfl k hk⟩⟩
def Loc (W:World) (b:Nat) (cs:Array Value) (T:TypeId):Prop:=W.heap[b]?=some (.cells cs T (0,0))
theorem Loc.lt {W:World} {b:Nat} {cs:Array Value} {T:TypeId} (h:Loc W b cs T):b<W.heap.size:=lt_of_block h
theorem Loc.cell {W:World} {b:Nat} {cs:Array Value} {T:TypeId} (h:Loc W b cs T) (j:Nat):W.cell? ⟨b,j,none⟩=cs[j]?:=by
 unfold Loc at h;simp[World.cell?,h]
theorem Loc.at_ {W:World} {b:Nat} {cs:Array Value} {T:TypeId} (h:Loc W b cs T) (j:Nat) (v:Value) (e:cs[j]?=some v):W.cell? ⟨b,j,none⟩=some v:=(h.cell j).trans e
theorem Loc.free {W:World} {b:Nat} {cs:Array Value} {T:TypeId} (h:Loc W b cs T) (j:Nat):W.frozen? ⟨b,j,none⟩=false:=by
 unfold Loc at h;simp[World.frozen?,h]
theorem Loc.set {W:World} {b:Nat} {cs:Array Value} {T:TypeId} (h:Loc W b cs T) (j:Nat) (u:Value):Loc (W.setCell ⟨b,j,none⟩ u) b (cs.setIfInBounds j u) T:=by
 unfold Loc at h⊢;simp[World.setCell,Array.getElem?_modify,h]
theorem Loc.setOther {W:World} {b b':Nat} {cs:Array Value} {T:TypeId} (h:Loc W b cs T) (hne:b≠b') (j:Nat) (u:Value):Loc (W.setCell ⟨b',j,none⟩ u) b cs T:=by
 unfold Loc at h⊢
 rw[Below.heap_setCell W ⟨b',j,none⟩ u b hne];exact h
theorem Loc.alloc {W:World} {b:Nat} {cs:Array Value} {T:TypeId} (h:Loc W b cs T) (o:Obj):Loc (W.alloc o) b cs T:=by
 unfold Loc;rw[Below.heap_alloc W o b h.lt];exact h
theorem Loc.new (W:World) (cs:Array Value) (T:TypeId):Loc (W.alloc (.cells cs T)) W.heap.size cs T:=heap_alloc_new W _
theorem Loc.grown {W W':World} {b:Nat} {cs:Array Value} {T:TypeId} {r:Option Nat} (h:Loc W b cs T) (hg:W.grownBy W' r) (hne:some b≠r):Loc W' b cs T:=by
 unfold Loc;rw[hg.block b h.lt hne];exact h
theorem Loc.drew {W:World} {b:Nat} {cs:Array Value} {T:TypeId} (h:Loc W b cs T) (n:Nat):Loc (W.drewN n) b cs T:=h
theorem grown_trans {a b c:World} {r:Option Nat} (h:a.grownBy b r) (k:b.grownBy c r):a.grownBy c r:=
 ⟨k.os.trans h.os,k.tape.trans h.tape,k.output.trans h.output,Nat.le_trans h.size k.size,fun j hj hne=>(k.block j (Nat.lt_of_lt_of_le hj h.size) hne).trans (h.block j hj hne)⟩
theorem grown_refl (w:World) (r:Option Nat):w.grownBy w r:=⟨rfl,rfl,rfl,Nat.le_refl _,fun _ _ _=>rfl⟩
theorem grown_drew (w:World) (n:Nat) (r:Option Nat):w.grownBy (w.drewN n) r:=⟨rfl,rfl,rfl,Nat.le_refl _,fun _ _ _=>rfl⟩
theorem grown_set (w:World) (b j:Nat) (u:Value):w.grownBy (w.setCell ⟨b,j,none⟩ u) (some b):=
 ⟨rfl,rfl,rfl,by simp[World.setCell],fun k _ hne=>Below.heap_setCell w ⟨b,j,none⟩ u k (fun e=>hne (by rw[e]))⟩
theorem grown_alloc (w:World) (o:Obj) (r:Option Nat):w.grownBy (w.alloc o) r:=World.grownBy_alloc w o r
theorem grown_below {w w':World} (h:Below w.heap.size w w') (r:Option Nat):w.grownBy w' r:=⟨h.os,h.tape,h.output,h.size,fun k hk _=>h.block k hk⟩
theorem grown_own {a b:World} {r:Option Nat} (h:a.grownBy b r) {x:Nat} (hx:a.heap.size≤x) (j:Nat) (u:Value):a.grownBy (b.setCell ⟨x,j,none⟩ u) r:=
 ⟨h.os,h.tape,h.output,by simpa [World.setCell] using h.size,fun k hk hne=>(Below.heap_setCell b ⟨x,j,none⟩ u k (by show k≠x;omega)).trans (h.block k hk hne)⟩
end Go.Proofs.YtobgbmfpicmpcaaGreatDoor

/- The reference's reader of queries, as plain functions on a list of tokens: each does, to the letter, what the reference's function does, also where something wrong stood. No program in this text. -/
namespace Go.Proofs.YtobgbmfpicmpcaaGreatDoor
def eqB (a b:ByteArray):Bool:=a.toList==b.toList
structure PTerm where
 name:ByteArray
 key:ByteArray
 val:Int
structure PSpot where
 name:ByteArray
 label:ByteArray
 type:ByteArray
 least:Int
 most:Int
structure PCond where
 op:Int
 a:PTerm
 b:PTerm
structure PItem where
 name:ByteArray
 key:ByteArray
structure PPair where
 key:ByteArray
 val:Int
structure PQuery where
 kind:Int
 spots:List PSpot
 conds:List PCond
 items:List PItem
 order:Int
 down:Bool
 skip:Int
 limit:Int
 name:ByteArray
 key:ByteArray
 value:PTerm
 type:ByteArray
 to:ByteArray
 label:ByteArray
 pairs:List PPair
def e0:ByteArray:=⟨#[]⟩
def tok0:Tok:=⟨0,e0,0⟩
def term0:PTerm:=⟨e0,e0,0⟩
def spot0:PSpot:=⟨e0,e0,e0,0,0⟩
def query0:PQuery:=⟨0,[],[],[],0,false,0,0,e0,e0,term0,e0,e0,e0,[]⟩
def kMATCH:ByteArray:=⟨#[77,65,84,67,72]⟩
def kWHERE:ByteArray:=⟨#[87,72,69,82,69]⟩
def kAND:ByteArray:=⟨#[65,78,68]⟩
def kRETURN:ByteArray:=⟨#[82,69,84,85,82,78]⟩
def kORDER:ByteArray:=⟨#[79,82,68,69,82]⟩
def kBY:ByteArray:=⟨#[66,89]⟩
def kDESC:ByteArray:=⟨#[68,69,83,67]⟩
def kSKIP:ByteArray:=⟨#[83,75,73,80]⟩
def kLIMIT:ByteArray:=⟨#[76,73,77,73,84]⟩
def kSET:ByteArray:=⟨#[83,69,84]⟩
def kDELETE:ByteArray:=⟨#[68,69,76,69,84,69]⟩
def kCREATE:ByteArray:=⟨#[67,82,69,65,84,69]⟩
def kCALL:ByteArray:=⟨#[67,65,76,76]⟩
def kIS:ByteArray:=⟨#[73,83]⟩
def kNOT:ByteArray:=⟨#[78,79,84]⟩
def kNULL:ByteArray:=⟨#[78,85,76,76]⟩
def kCOUNT:ByteArray:=⟨#[67,79,85,78,84]⟩
def mOpen:ByteArray:=⟨#[40]⟩
def mClose:ByteArray:=⟨#[41]⟩
def mColon:ByteArray:=⟨#[58]⟩
def mComma:ByteArray:=⟨#[44]⟩
def mDot:ByteArray:=⟨#[46]⟩
def mDots:ByteArray:=⟨#[46,46]⟩
def mStar:ByteArray:=⟨#[42]⟩
def mTo:ByteArray:=⟨#[45,91]⟩
def mArrow:ByteArray:=⟨#[93,45,62]⟩
def mBrace:ByteArray:=⟨#[123]⟩
def mUnbrace:ByteArray:=⟨#[125]⟩
def mEq:ByteArray:=⟨#[61]⟩
def mNe:ByteArray:=⟨#[60,62]⟩
def mLt:ByteArray:=⟨#[60]⟩
def mLe:ByteArray:=⟨#[60,61]⟩
def mGt:ByteArray:=⟨#[62]⟩
def mGe:ByteArray:=⟨#[62,61]⟩
def keywords:List ByteArray:=[kMATCH,kWHERE,kAND,kRETURN,kORDER,kBY,kDESC,kSKIP,kLIMIT,kSET,kDELETE,kCREATE,kCALL,kIS,kNOT,kNULL,kCOUNT]
def isKeyword (s:ByteArray):Bool:=keywords.any fun k=>eqB k s
def isWord (s:ByteArray):Bool:=decide (1≤s.size)&&decide (s.size≤8)&&letB (bt s 0)&&decide (∀j,j<s.size→alnB (bt s j)=true)
def isName (s:ByteArray):Bool:=isWord s&&decide (97≤bt s 0)
def isTitle (s:ByteArray):Bool:=isWord s&&decide (bt s 0<97)&&!isKeyword s
structure RS where
 rest:List Tok
 bad:Bool
def RS.orBad (st:RS) (b:Bool):RS:=⟨st.rest,st.bad || b⟩
def peekR (s:ByteArray) (st:RS):Bool:=
 match st.rest with
 | []=>false
 | t::_=>decide (t.kind≠2)&&eqB t.text s
def hasR (s:ByteArray) (st:RS):RS:=if peekR s st then ⟨st.rest.tail,st.bad⟩ else st
def mustR (s:ByteArray) (st:RS):RS:=(hasR s st).orBad (!peekR s st)
def isKind (k:Int) (st:RS):Bool:=
 match st.rest with
 | []=>false
 | t::_=>decide (t.kind=k)
def nextR (k:Int) (st:RS):Tok × RS:=if isKind k st then (st.rest.headD tok0,⟨st.rest.tail,st.bad⟩) else (tok0,⟨st.rest,true⟩)
def nameR (st:RS):ByteArray × RS:=((nextR 1 st).1.text,(nextR 1 st).2.orBad (!isName (nextR 1 st).1.text))
def titleR (st:RS):ByteArray × RS:=((nextR 1 st).1.text,(nextR 1 st).2.orBad (!isTitle (nextR 1 st).1.text))
def countR (lo hi:Int) (st:RS):Int × RS:=((nextR 2 st).1.val,(nextR 2 st).2.orBad (decide ((nextR 2 st).1.val<lo) || decide (hi<(nextR 2 st).1.val)))
def spotR (x:PSpot) (st:RS):PSpot × RS:=
 let n:=nameR (mustR mOpen st)
 let l:=if peekR mColon n.2 then titleR (hasR mColon n.2) else (x.label,n.2)
 (⟨n.1,l.1,x.type,x.least,x.most⟩,mustR mClose l.2)
def starR (st:RS):(Int × Int) × RS:=
 if peekR mStar st then
  let a:=countR 0 4 (hasR mStar st)
  let b:=countR a.1 4 (mustR mDots a.2)
  ((a.1,b.1),b.2)
 else ((1,1),st)
def stepR (st:RS):PSpot × RS:=
 let t:=titleR st
 let s:=starR t.2
 spotR ⟨e0,e0,t.1,s.1.1,s.1.2⟩ (mustR mArrow s.2)
def pathLoop:Nat→List PSpot→RS→List PSpot × RS
 | 0,out,st=>(out,st)
 | n+1,out,st=>if !st.bad&&peekR mTo st then pathLoop n (out++[(stepR (hasR mTo st)).1]) (stepR (hasR mTo st)).2 else (out,st)
def pathR (st:RS):List PSpot × RS:=pathLoop (spotR spot0 st).2.rest.length [(spotR spot0 st).1] (spotR spot0 st).2
def termR (st:RS):PTerm × RS:=
 if isKind 2 st then (⟨e0,e0,(nextR 2 st).1.val⟩,(nextR 2 st).2)
 else
  let n:=nameR st
  let k:=nameR (mustR mDot n.2)
  (⟨n.1,k.1,0⟩,k.2)
def opsR:List ByteArray:=[mEq,mNe,mLt,mLe,mGt,mGe]
def opLoop:List ByteArray→Int→RS→Int × RS
 | [],_,st=>(0,st)
 | m::r,i,st=>if peekR m st then (i,hasR m st) else opLoop r (i+1) st
def condR (st:RS):PCond × RS:=
 let a:=termR st
 if peekR kIS a.2 then
  let s:=hasR kIS a.2
  (⟨if peekR kNOT s then 8 else 7,a.1,term0⟩,mustR kNULL (hasR kNOT s))
 else
  let o:=opLoop opsR 1 a.2
  let b:=termR (o.2.orBad (decide (o.1=0)))
  (⟨o.1,a.1,b.1⟩,b.2)
def matchLoop:Nat→List PSpot→RS→List PSpot × RS
 | 0,out,st=>(out,st)
 | n+1,out,st=>
  if st.bad then (out,st)
  else
   let p:=pathR st
   if !p.2.bad&&peekR mComma p.2 then matchLoop n (out++p.1) (hasR mComma p.2) else (out++p.1,p.2)
def condLoop:Nat→List PCond→RS→List PCond × RS
 | 0,out,st=>(out,st)
 | n+1,out,st=>
  let c:=condR st
  if !c.2.bad&&peekR kAND c.2 then condLoop n (out++[c.1]) (hasR kAND c.2) else (out++[c.1],c.2)
def matchR (st:RS):(List PSpot × List PCond) × RS:=
 let s:=matchLoop (st.rest.length+1) [] (mustR kMATCH st)
 let c:=if !s.2.bad&&peekR kWHERE s.2 then condLoop (st.rest.length+1) [] (hasR kWHERE s.2) else ([],s.2)
 ((s.1,c.1),c.2.orBad (decide (6<s.1.length) || decide (6<c.1.length)))
def itemR (st:RS):PItem × RS:=
 if peekR kCOUNT st then (⟨e0,e0⟩,hasR kCOUNT st)
 else
  let n:=nameR st
  if !n.2.bad&&peekR mDot n.2 then
   let k:=nameR (hasR mDot n.2)
   (⟨n.1,k.1⟩,k.2)
  else (⟨n.1,e0⟩,n.2)
def itemLoop:Nat→List PItem→RS→List PItem × RS
 | 0,out,st=>(out,st)
 | n+1,out,st=>
  if st.bad then (out,st)
  else
   let x:=itemR st
   if !x.2.bad&&peekR mComma x.2 then itemLoop n (out++[x.1]) (hasR mComma x.2) else (out++[x.1],x.2)
def orderR (k:Int) (st:RS):(Int × Bool) × RS:=
 if !st.bad&&peekR kORDER st then
  let o:=countR 1 k (mustR kBY (hasR kORDER st))
  ((o.1,peekR kDESC o.2),hasR kDESC o.2)
 else ((0,false),st)
def partR (word:ByteArray) (none:Int) (st:RS):Int × RS:=
 if !st.bad&&peekR word st then countR 0 1000000000 (hasR word st) else (none,st)
structure PItems where
 items:List PItem
 order:Int
 down:Bool
 skip:Int
 limit:Int
def itemsR (st:RS):PItems × RS:=
 let x:=itemLoop (st.rest.length+1) [] st
 let o:=orderR x.1.length x.2
 let s:=partR kSKIP 0 o.2
 let l:=partR kLIMIT (-1) s.2
 (⟨x.1,o.1.1,o.1.2,s.1,l.1⟩,l.2.orBad (decide (6<x.1.length)))
def pairR (have_:List PPair) (st:RS):PPair × RS:=
 let k:=nameR st
 let v:=countR (-1000000000) 1000000000 (mustR mColon k.2)
 (⟨k.1,v.1⟩,v.2.orBad (have_.any fun x=>eqB x.key k.1))
def pairLoop:Nat→List PPair→RS→List PPair × RS
 | 0,out,st=>(out,st)
 | n+1,out,st=>
  if st.bad then (out,st)
  else
   let x:=pairR out st
   if !x.2.bad&&peekR mComma x.2 then pairLoop n (out++[x.1]) (hasR mComma x.2) else (out++[x.1],x.2)
def makeR (st:RS):(ByteArray × List PPair) × RS:=
 let t:=titleR (mustR mOpen st)
 let p:=if peekR mBrace t.2 then pairLoop (st.rest.length+1) [] (hasR mBrace t.2) else ([],t.2)
 let u:=if peekR mBrace t.2 then mustR mUnbrace p.2 else p.2
 ((t.1,p.1),(mustR mClose u).orBad (decide (6<p.1.length)))
def linkR (st:RS):(ByteArray × ByteArray × ByteArray) × RS:=
 let n:=nameR (mustR mOpen (mustR kCREATE st))
 let t:=titleR (mustR mTo (mustR mClose n.2))
 let o:=nameR (mustR mOpen (mustR mArrow t.2))
 ((n.1,t.1,o.1),mustR mClose o.2)
def setR (st:RS):(ByteArray × ByteArray × PTerm) × RS:=
 let n:=nameR st
 let k:=nameR (mustR mDot n.2)
 let v:=termR (mustR mEq k.2)
 ((n.1,k.1,v.1),v.2)
def behindR (q:PQuery) (st:RS):PQuery × RS:=
 if peekR kRETURN st then
  let x:=itemsR (hasR kRETURN st)
  ({q with kind:=1,items:=x.1.items,order:=x.1.order,down:=x.1.down,skip:=x.1.skip,limit:=x.1.limit},x.2)
 else if peekR kSET st then
  let x:=setR (hasR kSET st)
  ({q with kind:=2,name:=x.1.1,key:=x.1.2.1,value:=x.1.2.2},x.2)
 else if peekR kDELETE st then
  let x:=nameR (hasR kDELETE st)
  ({q with kind:=3,name:=x.1},x.2)
 else
  let x:=linkR st
  ({q with kind:=4,name:=x.1.1,type:=x.1.2.1,to:=x.1.2.2},x.2)
def queryR (st:RS):PQuery × RS:=
 if peekR kCREATE st then
  let x:=makeR (hasR kCREATE st)
  ({query0 with kind:=5,label:=x.1.1,pairs:=x.1.2},x.2)
 else if peekR kCALL st then
  let x:=nameR (hasR kCALL st)
  ({query0 with kind:=6,name:=x.1},x.2)
 else
  let m:=matchR st
  let q:={query0 with spots:=m.1.1,conds:=m.1.2}
  if m.2.bad then (q,m.2) else behindR q m.2
def boundR (spots:List PSpot) (name:ByteArray):Bool:=spots.any fun x=>eqB x.name name
def namesR (q:PQuery):List ByteArray:=
 (q.conds.flatMap fun c=>[c.a.name,c.b.name])++q.items.map (fun x=>x.name)++(if 2≤q.kind∧q.kind≤4 then [q.name,q.to,q.value.name] else [])
def scopedR (q:PQuery):Bool:=
 ((namesR q).all fun n=>n.toList.isEmpty || boundR q.spots n)&&(q.value.name.toList.isEmpty || eqB q.value.name q.name)
def parseR (ts:List Tok):PQuery × Int:=
 let x:=queryR ⟨ts,false⟩
 if x.2.bad || !x.2.rest.isEmpty then (query0,3)
 else if scopedR x.1 then (x.1,0) else (query0,4)
def parseText (t:Option (List Tok)):PQuery × Int:=
 match t with
 | none=>(query0,3)
 | some ts=>parseR ts
end Go.Proofs.YtobgbmfpicmpcaaGreatDoor

/- The reference's reader in memory, and its first steps: each does what its plain mirror does. -/
namespace Go.Proofs.YtobgbmfpicmpcaaGreatDoor
open Go.RowKit
structure RI (b:Nat) (lv:Value) (ts:List Tok) (st:RS) (W:World):Prop where
 box:Loc W b #[lv,.int .i64 ((ts.length - st.rest.length:Nat):Int),.bool st.bad] 76
 suf:∃pre,ts=pre++st.rest
 row:∃B,W.ownsRow B 153 3 lv ts.length (tokCells ts)
 len:ts.length≤2000
theorem RI.ne {b:Nat} {lv:Value} {ts:List Tok} {st:RS} {W:World} (h:RI b lv ts st W):lv.ownBlock≠some b:=by
 obtain⟨B,ho⟩:=h.row
 intro he
 rcases ho.2 with ⟨rfl,_⟩|⟨g,cap,cur,rfl,hb,hg,_⟩
 ·simp[Value.ownBlock] at he
 ·simp[Value.ownBlock] at he
  subst he
  have hx:=h.box
  unfold Loc at hx
  rw[hg] at hx
  simp at hx
theorem RI.kept {b:Nat} {lv:Value} {ts:List Tok} {st:RS} {W W':World} {r:Option Nat} (h:RI b lv ts st W) (hg:W.grownBy W' r) (h1:some b≠r) (h2:lv.ownBlock=none∨lv.ownBlock≠r):RI b lv ts st W':=by
 obtain⟨B,ho⟩:=h.row
 exact⟨h.box.grown hg h1,h.suf,⟨B,ho.kept hg h2⟩,h.len⟩
theorem RI.old {b:Nat} {lv:Value} {ts:List Tok} {st:RS} {W W':World} (h:RI b lv ts st W) (hg:W.grownBy W' none):RI b lv ts st W':=
 h.kept hg (by simp) (by cases hv:lv.ownBlock<;>simp)
theorem RI.alloc {b:Nat} {lv:Value} {ts:List Tok} {st:RS} {W:World} (h:RI b lv ts st W) (o:Obj):RI b lv ts st (W.alloc o):=h.old (grown_alloc W o none)
theorem RI.drew {b:Nat} {lv:Value} {ts:List Tok} {st:RS} {W:World} (h:RI b lv ts st W) (n:Nat):RI b lv ts st (W.drewN n):=h.old (grown_drew W n none)
theorem RI.setOther {b x:Nat} {lv:Value} {ts:List Tok} {st:RS} {W:World} (h:RI b lv ts st W) (h1:b≠x) (h2:lv.ownBlock≠some x) (j:Nat) (u:Value):RI b lv ts st (W.setCell ⟨x,j,none⟩ u):=
 h.kept (grown_set W x j u) (by simpa using h1) (Or.inr h2)
theorem RI.setBad {b:Nat} {lv:Value} {ts:List Tok} {st:RS} {W:World} (h:RI b lv ts st W) (x:Bool):RI b lv ts ⟨st.rest,x⟩ (W.setCell ⟨b,2,none⟩ (.bool x)):=by
 obtain⟨B,ho⟩:=h.row
 exact⟨h.box.set 2 (.bool x),h.suf,⟨B,ho.kept (grown_set W b 2 _) (Or.inr h.ne)⟩,h.len⟩
theorem RI.setAt {b:Nat} {lv:Value} {ts:List Tok} {st:RS} {W:World} {t:Tok} {r:List Tok} (h:RI b lv ts st W) (hr:st.rest=t::r) (x:Int) (hx:x=((ts.length - r.length:Nat):Int)):RI b lv ts ⟨r,st.bad⟩ (W.setCell ⟨b,1,none⟩ (.int .i64 x)):=by
 obtain⟨B,ho⟩:=h.row
 obtain⟨pre,hp⟩:=h.suf
 subst hx
 exact⟨h.box.set 1 (.int .i64 ((ts.length - r.length:Nat):Int)),⟨pre++[t],by rw[hp,hr];simp⟩,⟨B,ho.kept (grown_set W b 1 _) (Or.inr h.ne)⟩,h.len⟩
theorem ret_bool {a b:Bool} (h:a=b):Ending.returned (.bool a)=.returned (.bool b):=by rw[h]
theorem RI.seen {b:Nat} {lv:Value} {ts:List Tok} {st:RS} {W:World} (h:RI b lv ts st W):
  ∃ao cap k,lv=.slice ao ts.length cap∧ts.length≤cap∧ts.length≤2000∧k=ts.length - st.rest.length∧st.rest.length≤ts.length∧
   W.cell? ⟨b,0,none⟩=some lv∧W.cell? ⟨b,1,none⟩=some (.int .i64 (k:Nat))∧W.cell? ⟨b,2,none⟩=some (.bool st.bad)∧
   ∀t r,st.rest=t::r→k<ts.length∧∃g,ao=some ⟨g,0,none⟩∧W.cell? ⟨g,k*3,none⟩=some (.int .i64 t.kind)∧W.cell? ⟨g,k*3+1,none⟩=some (.string t.text)∧W.cell? ⟨g,k*3+2,none⟩=some (.int .i64 t.val):=by
 obtain⟨B,ho⟩:=h.row
 obtain⟨pre,hp⟩:=h.suf
 obtain⟨ao,cap,hv,hc,V⟩:=own_seen ho
 have hl:ts.length=pre.length+st.rest.length:=by rw[hp,List.length_append]
 refine⟨ao,cap,ts.length - st.rest.length,hv,hc,h.len,rfl,by omega,(h.box.cell 0).trans rfl,(h.box.cell 1).trans rfl,(h.box.cell 2).trans rfl,?_⟩
 intro t r hr
 have hr1:st.rest.length=r.length+1:=by rw[hr];rfl
 have hlt:ts.length - st.rest.length<ts.length:=by omega
 refine⟨hlt,?_⟩
 obtain⟨g,e,z0,z1,z2⟩:=V _ hlt
 have he:ts[ts.length - st.rest.length]'hlt=t:=by
  have hk:ts.length - st.rest.length=pre.length:=by omega
  simp only[hk]
  have:∀(l:List Tok) (hl:l=pre++t::r) (hh:pre.length<l.length),l[pre.length]'hh=t:=by
   intro l hl hh;subst hl;simp
  exact this ts (by rw[hp,hr]) _
 rw[he] at z0 z1 z2
 exact⟨g,e,z0,z1,z2⟩
set_option maxRecDepth 100000 in
set_option maxHeartbeats 1000000 in
theorem peek {b:Nat} {lv:Value} {ts:List Tok} {st:RS} {W:World} (h:RI b lv ts st W) (s:ByteArray):
  Calls Tryz.prog 82 #[.pointer (some ⟨b,0,none⟩),.string s] W fun e W'=>e=.returned (.bool (peekR s st))∧∃d,W'=W.drewN d:=by
 obtain⟨ao,cap,k,rfl,hcap,hlen,hk,hrl,c0,c1,c2,hr⟩:=h.seen
 have HR:=Lib.hid hr
 clear hr h
 cases hrest:st.rest with
 | nil=>
  have HP:Hid (peekR s st=false):=by show _=_;unfold peekR;rw[hrest]
  have hkn:k=ts.length:=by rw[hk,hrest];rfl
  have hg:decide ((k:Int)<(ts.length:Int))=false:=by rw[hkn];simp
  have hge:¬k<ts.length:=by omega
  clear hk hrest HR hkn hrl
  go_enter Tryz.func82,Tryz.ntmps82
  go_wp2
  go_quiet (fail)
  go_wp2
  go_ret
  exact⟨ret_bool HP.out.symm,nq,rfl⟩
 | cons t r=>
  obtain⟨hlt,g,rfl,z0,z1,z2⟩:=HR.out t r hrest
  have HP:Hid (peekR s st=(decide (t.kind≠2)&&eqB t.text s)):=by show _=_;unfold peekR;rw[hrest]
  clear hk hrest HR hrl z2 c2
  by_cases h2:t.kind=2
  ·have hg2:(t.kind != 2)=false:=by simp[h2]
   have HP2:Hid (peekR s st=false):=by show _=_;rw[HP.out,h2];rfl
   clear h2
   go_enter Tryz.func82,Tryz.ntmps82
   go_wp2
   go_quiet (fail)
   go_wp2
   go_ret
   exact⟨ret_bool HP2.out.symm,nq,rfl⟩
  ·have hg2:(t.kind != 2)=true:=by simp[h2]
   have HP2:Hid (peekR s st=(t.text.toList==s.toList)):=by show _=_;rw[HP.out];simp[h2,eqB]
   clear h2
   go_enter Tryz.func82,Tryz.ntmps82
   go_wp2
   go_quiet (fail)
   go_wp2
   go_ret
   exact⟨ret_bool HP2.out.symm,nq,rfl⟩
theorem peekIs {b:Nat} {lv:Value} {ts:List Tok} {st:RS} {W:World} (h:RI b lv ts st W) (s:ByteArray) (x:Bool) (hx:peekR s st=x):
  Calls Tryz.prog 82 #[.pointer (some ⟨b,0,none⟩),.string s] W fun e W'=>e=.returned (.bool x)∧∃d,W'=W.drewN d:=by
 have:=peek h s
 rw[hx] at this;exact this
theorem peek_cons {s:ByteArray} {st:RS} (h:peekR s st=true):∃t r,st.rest=t::r:=by
 unfold peekR at h
 split at h
 ·cases h
 ·exact⟨_,_,by assumption⟩
set_option maxRecDepth 100000 in
set_option maxHeartbeats 1000000 in
theorem has {b:Nat} {lv:Value} {ts:List Tok} {st:RS} {W:World} (h:RI b lv ts st W) (s:ByteArray) (x:Bool) (hx:peekR s st=x):
  Calls Tryz.prog 38 #[.pointer (some ⟨b,0,none⟩),.string s] W fun e W'=>e=.returned (.bool x)∧RI b lv ts (hasR s st) W'∧W.grownBy W' (some b):=by
 have HI:=Lib.hid h
 have HX:=Lib.hid hx
 obtain⟨ao,cap,k,rfl,hcap,hlen,hk,hrl,c0,c1,c2,hr⟩:=h.seen
 have f1:=h.box.free 1
 have hkb:k≤2000:=by omega
 have HK:=Lib.hid hk
 clear h hr hk
 cases x with
 | true=>
  obtain⟨t,r,hrest⟩:=peek_cons HX.out
  have HH:Hid (hasR s st=⟨r,st.bad⟩):=by show _=_;unfold hasR;rw[HX.out,hrest];rfl
  have HS:=Lib.hid hrest
  clear hrest hx
  have hrr:st.rest.length=r.length+1:=by rw[HS.out];rfl
  have HRR:=Lib.hid hrr
  clear hrr
  go_enter Tryz.func38,Tryz.ntmps38
  go_wp2_with (go_at_call 82;refine(peekIs HI.out s true HX.out).mono ?_;rintro e W1 ⟨rfl,d,rfl⟩)
  go_ret
  refine⟨rfl,?_,grown_trans (grown_drew W d _) (grown_set _ b 1 _)⟩
  rw[HH.out]
  exact(HI.out.drew d).setAt HS.out _ (by have:=HK.out;have:=HRR.out;omega)
 | false=>
  have HH:Hid (hasR s st=st):=by show _=_;unfold hasR;rw[HX.out];rfl
  clear hx
  go_enter Tryz.func38,Tryz.ntmps38
  go_wp2_with (go_at_call 82;refine(peekIs HI.out s false HX.out).mono ?_;rintro e W1 ⟨rfl,d,rfl⟩)
  go_ret
  exact⟨rfl,by rw[HH.out];exact HI.out.drew d,grown_drew W d _⟩
theorem hasR_bad (s:ByteArray) (st:RS):(hasR s st).bad=st.bad:=by unfold hasR;split<;>rfl
set_option maxRecDepth 100000 in
set_option maxHeartbeats 1000000 in
theorem must {b:Nat} {lv:Value} {ts:List Tok} {st:RS} {W:World} (h:RI b lv ts st W) (s:ByteArray):
  Calls Tryz.prog 83 #[.pointer (some ⟨b,0,none⟩),.string s] W fun e W'=>e=.returned (.tuple #[])∧RI b lv ts (mustR s st) W'∧W.grownBy W' (some b):=by
 have HI:=Lib.hid h
 clear h
 cases hx:peekR s st with
 | true=>
  have HX:=Lib.hid hx
  cases hb:st.bad with
  | true=>
   have HM:Hid (mustR s st=⟨(hasR s st).rest,true⟩):=by show _=_;unfold mustR RS.orBad;rw[hasR_bad,hb,hx];rfl
   have HB:=Lib.hid hb
   clear hx hb
   go_enter Tryz.func83,Tryz.ntmps83
   go_wp2_with (go_at_call 38;refine(has HI.out s true HX.out).mono ?_;rintro e W1 ⟨rfl,h1,g1⟩;have HI1:=Lib.hid h1;have HG1:=Lib.hid g1;have c2:=(h1.box.cell 2).trans (by rw[hasR_bad,HB.out];rfl:_=some (Value.bool true));have f2:=h1.box.free 2;clear h1 g1)
   go_end0
   exact⟨rfl,by rw[HM.out];exact HI1.out.setBad true,grown_trans HG1.out (grown_set _ b 2 _)⟩
  | false=>
   have HM:Hid (mustR s st=⟨(hasR s st).rest,false⟩):=by show _=_;unfold mustR RS.orBad;rw[hasR_bad,hb,hx];rfl
   have HB:=Lib.hid hb
   clear hx hb
   go_enter Tryz.func83,Tryz.ntmps83
   go_wp2_with (go_at_call 38;refine(has HI.out s true HX.out).mono ?_;rintro e W1 ⟨rfl,h1,g1⟩;have HI1:=Lib.hid h1;have HG1:=Lib.hid g1;have c2:=(h1.box.cell 2).trans (by rw[hasR_bad,HB.out];rfl:_=some (Value.bool false));have f2:=h1.box.free 2;clear h1 g1)
   go_end0
   exact⟨rfl,by rw[HM.out];exact HI1.out.setBad false,grown_trans HG1.out (grown_set _ b 2 _)⟩
 | false=>
  have HX:=Lib.hid hx
  have HM:Hid (mustR s st=⟨(hasR s st).rest,true⟩):=by show _=_;unfold mustR RS.orBad;rw[hx];simp
  clear hx
  cases hb:st.bad with
  | true=>
   have HB:=Lib.hid hb
   clear hb
   go_enter Tryz.func83,Tryz.ntmps83
   go_wp2_with (go_at_call 38;refine(has HI.out s false HX.out).mono ?_;rintro e W1 ⟨rfl,h1,g1⟩;have HI1:=Lib.hid h1;have HG1:=Lib.hid g1;have c2:=(h1.box.cell 2).trans (by rw[hasR_bad,HB.out];rfl:_=some (Value.bool true));have f2:=h1.box.free 2;clear h1 g1)
   go_end0
   exact⟨rfl,by rw[HM.out];exact HI1.out.setBad true,grown_trans HG1.out (grown_set _ b 2 _)⟩
  | false=>
   have HB:=Lib.hid hb
   clear hb
   go_enter Tryz.func83,Tryz.ntmps83
   go_wp2_with (go_at_call 38;refine(has HI.out s false HX.out).mono ?_;rintro e W1 ⟨rfl,h1,g1⟩;have HI1:=Lib.hid h1;have HG1:=Lib.hid g1;have c2:=(h1.box.cell 2).trans (by rw[hasR_bad,HB.out];rfl:_=some (Value.bool false));have f2:=h1.box.free 2;clear h1 g1)
   go_end0
   exact⟨rfl,by rw[HM.out];exact HI1.out.setBad true,grown_trans HG1.out (grown_set _ b 2 _)⟩
end Go.Proofs.YtobgbmfpicmpcaaGreatDoor

