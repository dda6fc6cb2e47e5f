/- What tokens a text has, as a plain function: the specification to which both sides are held. No program in this text. -/
import Derived.Lib.AtoiAllCases
import Derived.WideShapes
import Derived.Test.YtobgbmfpicmpcaaGreatDoorProg
import Derived.KernelRfl
import Derived.WalkKit
import Derived.WalkSpells
import Derived.WalkLawsBesides
import Derived.WalkSmall
import Derived.ArgAppend
set_option maxRecDepth 100000
set_option maxHeartbeats 8000000
namespace Go.Proofs.YtobgbmfpicmpcaaGreatDoor
def eQ (c:Int):Bool:=decide ((97≤c∧c≤122)∨(65≤c∧c≤90))
def cH (c:Int):Bool:=decide (48≤c∧c≤57)
def gU (c:Int):Bool:=eQ c || cH c
theorem ye {c:Int} (h:(97≤c∧c≤122)∨(65≤c∧c≤90)):eQ c=true:=by unfold eQ;simpa using h
theorem ef {c:Int} (h:¬((97≤c∧c≤122)∨(65≤c∧c≤90))):eQ c=false:=by unfold eQ;exact decide_eq_false h
theorem lH {c:Int} (h:48≤c∧c≤57):cH c=true:=by unfold cH;simpa using h
theorem jZ {c:Int} (h:¬(48≤c∧c≤57)):cH c=false:=by unfold cH;exact decide_eq_false h
theorem Ce {c:Int} (h:eQ c=true):(97≤c∧c≤122)∨(65≤c∧c≤90):=by unfold eQ at h;exact of_decide_eq_true h
theorem pt {c:Int} (h:cH c=true):48≤c∧c≤57:=by unfold cH at h;exact of_decide_eq_true h
theorem Bl {c:Int} (h:cH c=false):¬(48≤c∧c≤57):=by unfold cH at h;exact of_decide_eq_false h
def bt (s:ByteArray) (k:Nat):Int:=if h:k<s.size then ((s[k]'h).toNat:Int) else -1
theorem gl {s:ByteArray} {k:Nat} (h:k<s.size):((s[k]'h).toNat:Int)=bt s k:=by unfold bt;rw[dif_pos h]
theorem AF {s:ByteArray} {k:Nat} (h:¬k<s.size):bt s k=-1:=by unfold bt;rw[dif_neg h]
theorem Bz {s:ByteArray} {k:Nat} (h:0≤bt s k):k<s.size:=by
 by_cases hk:k<s.size
 ·exact hk
 ·rw[AF hk] at h;omega
def zF (p:Int→Bool) (s:ByteArray):Nat→Nat→Nat
 | 0,k=>k
 | n+1,k=>if k<s.size∧p (bt s k)=true then zF p s n (k+1) else k
def span (p:Int→Bool) (s:ByteArray) (k:Nat):Nat:=zF p s (s.size - k) k
theorem iP {p:Int→Bool} {s:ByteArray} {k:Nat} (h:k<s.size) (hp:p (bt s k)=true):span p s k=span p s (k+1):=by
 unfold span
 rw[show s.size - k=(s.size - (k+1))+1 by omega]
 simp only[zF]
 rw[if_pos ⟨h,hp⟩]
theorem jw {p:Int→Bool} {s:ByteArray} {k:Nat} (h:k<s.size→p (bt s k)=false):span p s k=k:=by
 unfold span
 cases hn:s.size - k with
 | zero=>simp only[zF]
 | succ n=>
  simp only[zF]
  rw[if_neg]
  rintro ⟨h1,h2⟩
  rw[h h1] at h2;cases h2
theorem qP (p:Int→Bool) (s:ByteArray):∀n k,s.size - k=n→k≤s.size→k≤span p s k∧span p s k≤s.size
 | 0,k,h,hk=>by rw[jw (by omega)];omega
 | n+1,k,h,hk=>by
  by_cases hp:p (bt s k)=true
  ·rw[iP (by omega) hp];have:=qP p s n (k+1) (by omega) (by omega);omega
  ·rw[jw (fun _=>by simpa using hp)];omega
theorem nV {p:Int→Bool} {s:ByteArray} {k:Nat} (hk:k≤s.size):k≤span p s k∧span p s k≤s.size:=qP p s _ k rfl hk
theorem yu (p:Int→Bool) (s:ByteArray):∀n k,s.size - k=n→k≤s.size→∀j,k≤j→j<span p s k→p (bt s j)=true
 | 0,k,h,hk,j,h1,h2=>by rw[jw (by omega)] at h2;omega
 | n+1,k,h,hk,j,h1,h2=>by
  by_cases hp:p (bt s k)=true
  ·by_cases e:j=k
   ·rw[e];exact hp
   ·rw[iP (by omega) hp] at h2;exact yu p s n (k+1) (by omega) (by omega) j (by omega) h2
  ·rw[jw (fun _=>by simpa using hp)] at h2;omega
def J9 (c:UInt8):Nat:=c.toNat - 48
theorem sl (c:UInt8):J9 c=c.toNat - 48:=by unfold J9;exact Eq.refl _
def fz (acc:Nat) (l:List UInt8):Nat:=l.foldl (fun a c=>10*a+J9 c) acc
theorem lW (acc:Nat):fz acc []=acc:=by unfold fz;rw[List.foldl_nil]
theorem lT (acc:Nat) (c:UInt8) (r:List UInt8):fz acc (c::r)=fz (10*acc+J9 c) r:=by unfold fz;rw[List.foldl_cons]
theorem yE (l m:List UInt8) (acc:Nat):fz acc (l++m)=fz (fz acc l) m:=by unfold fz;rw[List.foldl_append]
theorem IW (l:List UInt8):∀(acc:Nat),acc≤fz acc l:=by
 induction l with
 | nil=>intro acc;rw[lW];exact Nat.le_refl _
 | cons c r ih=>intro acc;have:=ih (10*acc+J9 c);rw[lT];omega
theorem uJ (l:List UInt8) (c:UInt8) (acc:Nat):fz acc (l++[c])=10*fz acc l+J9 c:=by
 rw[yE,lT,lW]
def j9:List UInt8→Option Int
 | []=>none
 | c::r=>
  if c.toNat=45 then
   (if r.head?.map UInt8.toNat=some 48∨1000000000<fz 0 r then none else some (-(fz 0 r:Int)))
  else (if (c.toNat=48∧r≠[])∨1000000000<fz 0 (c::r) then none else some (fz 0 (c::r):Int))
structure Tok where
 kind:Int
 text:ByteArray
 val:Int
def aY (s:ByteArray) (k:Nat):Nat:=
 let c:=bt s k
 let d:=bt s (k+1)
 if c=93 then (if d=45∧bt s (k+2)=62 then 3 else 0)
 else if c=45 then (if d=91 then 2 else 0)
 else if c=46 then (if d=46 then 2 else 1)
 else if c=60 then (if d=61∨d=62 then 2 else 1)
 else if c=62 then (if d=61 then 2 else 1)
 else if c=40∨c=41∨c=58∨c=44∨c=61∨c=42∨c=123∨c=125 then 1
 else 0
theorem sS {s:ByteArray} {k:Nat} (h:k<s.size):k+aY s k≤s.size:=by
 have h1:∀j,bt s j=45∨bt s j=62∨bt s j=91∨bt s j=46∨bt s j=61→j<s.size:=fun j hj=>Bz (by omega)
 have a:=h1 (k+1);have b:=h1 (k+2)
 unfold aY
 simp only
 repeat' split
 all_goals omega
def one (s:ByteArray) (k:Nat):Option (Nat × Tok):=
 if eQ (bt s k) then
  (if 8<span gU s k - k then none else some (span gU s k,⟨1,s.extract k (span gU s k),0⟩))
 else if cH (bt s k) || (decide (bt s k=45)&&cH (bt s (k+1))) then
  (match j9 (s.extract k (span cH s (k+1))).data.toList with
   | none=>none
   | some v=>some (span cH s (k+1),⟨2,s.extract k (span cH s (k+1)),v⟩))
 else if aY s k=0 then none else some (k+aY s k,⟨3,s.extract k (k+aY s k),0⟩)
theorem pD {s:ByteArray} {k e:Nat} {t:Tok} (h:one s k=some (e,t)) (hk:k<s.size):k<e∧e≤s.size:=by
 unfold one at h
 split at h
 ·rename_i hl
  split at h
  ·cases h
  ·injection h with h;injection h with h1 h2;subst h1
   have:span gU s k=span gU s (k+1):=iP hk (by unfold gU;rw[hl];rfl)
   have:=nV (p:=gU) (s:=s) (k:=k+1) hk
   omega
 ·split at h
  ·split at h
   ·cases h
   ·injection h with h;injection h with h1 h2;subst h1
    have:=nV (p:=cH) (s:=s) (k:=k+1) hk
    omega
  ·split at h
   ·cases h
   ·injection h with h;injection h with h1 h2;subst h1
    have:=sS hk
    omega
def runN (s:ByteArray):Nat→Nat→Option (List Tok)
 | 0,k=>if k<s.size then none else some []
 | n+1,k=>
  if k<s.size then
   (if bt s k=32 then runN s n (k+1)
   else match one s k with
    | none=>none
    | some (e,t)=>if k<e then (runN s n e).map (t::·) else none)
  else some []
def run (s:ByteArray) (k:Nat):Option (List Tok):=runN s (s.size - k) k
theorem Cu (s:ByteArray):∀n m k,s.size - k≤n→s.size - k≤m→runN s n k=runN s m k:=by
 intro n
 induction n with
 | zero=>
  intro m k h1 h2
  have hk:¬k<s.size:=by omega
  cases m with
  | zero=>rfl
  | succ m=>simp only[runN];rw[if_neg hk,if_neg hk]
 | succ n ih=>
  intro m k h1 h2
  cases m with
  | zero=>
   have hk:¬k<s.size:=by omega
   simp only[runN];rw[if_neg hk,if_neg hk]
  | succ m=>
   simp only[runN]
   by_cases hk:k<s.size
   ·rw[if_pos hk,if_pos hk]
    by_cases hb:bt s k=32
    ·rw[if_pos hb,if_pos hb];exact ih m (k+1) (by omega) (by omega)
    ·rw[if_neg hb,if_neg hb]
     cases one s k with
     | none=>rfl
     | some p=>
      obtain⟨e,t⟩:=p
      simp only
      by_cases he:k<e
      ·rw[if_pos he,if_pos he,ih m e (by omega) (by omega)]
      ·rw[if_neg he,if_neg he]
   ·rw[if_neg hk,if_neg hk]
theorem mq {s:ByteArray} {k:Nat} (h:¬k<s.size):run s k=some []:=by
 unfold run
 rw[show s.size - k=0 by omega]
 simp only[runN]
 rw[if_neg h]
theorem sZ {s:ByteArray} {k:Nat} (h:k<s.size):run s k=if bt s k=32 then run s (k+1) else match one s k with
  | none=>none
  | some (e,t)=>if k<e then (run s e).map (t::·) else none:=by
 unfold run
 rw[show s.size - k=(s.size - (k+1))+1 by omega]
 simp only[runN]
 rw[if_pos h]
 by_cases hb:bt s k=32
 ·rw[if_pos hb,if_pos hb]
 ·rw[if_neg hb,if_neg hb]
  cases one s k with
  | none=>rfl
  | some p=>
   obtain⟨e,t⟩:=p
   simp only
   by_cases he:k<e
   ·rw[if_pos he,if_pos he,Cu s _ (s.size - e) e (by omega) (by omega)]
   ·rw[if_neg he,if_neg he]
theorem oh {s:ByteArray} {k:Nat} (h:k<s.size) (hb:bt s k=32):run s k=run s (k+1):=by rw[sZ h,if_pos hb]
theorem wH {s:ByteArray} {k:Nat} (h:k<s.size) (hb:bt s k≠32) (ho:one s k=none):run s k=none:=by
 rw[sZ h,if_neg hb,ho]
theorem rJ {s:ByteArray} {k e:Nat} {t:Tok} (h:k<s.size) (hb:bt s k≠32) (ho:one s k=some (e,t)):run s k=(run s e).map (t::·):=by
 rw[sZ h,if_neg hb,ho]
 simp only
 rw[if_pos (pD ho h).1]
def jj (s:ByteArray) (k:Nat) (acc:List Tok):Prop:=(run s k).map (acc++·)=run s 0
theorem zC (s:ByteArray):jj s 0 []:=by unfold jj;cases run s 0<;>simp
theorem jj.blank {s:ByteArray} {k:Nat} {acc:List Tok} (h:jj s k acc) (hk:k<s.size) (hb:bt s k=32):jj s (k+1) acc:=by
 unfold jj at *;rw[←oh hk hb];exact h
theorem jj.tok {s:ByteArray} {k e:Nat} {t:Tok} {acc:List Tok} (h:jj s k acc) (hk:k<s.size) (hb:bt s k≠32) (ho:one s k=some (e,t)):jj s e (acc++[t]):=by
 unfold jj at *;rw[rJ hk hb ho] at h;rw[←h];cases run s e<;>simp
theorem jj.bad {s:ByteArray} {k:Nat} {acc:List Tok} (h:jj s k acc) (hk:k<s.size) (hb:bt s k≠32) (ho:one s k=none):run s 0=none:=by
 unfold jj at h;rw[wH hk hb ho] at h;rw[←h];rfl
theorem jj.fin {s:ByteArray} {k:Nat} {acc:List Tok} (h:jj s k acc) (hk:¬k<s.size):run s 0=some acc:=by
 unfold jj at h;rw[mq hk] at h;rw[←h];simp
theorem Bi (s:ByteArray):∀n k ts,s.size - k≤n→run s k=some ts→ts.length≤s.size - k:=by
 intro n
 induction n with
 | zero=>
  intro k ts hn h
  rw[mq (by omega)] at h;injection h with h;subst h;simp
 | succ n ih=>
  intro k ts hn h
  by_cases hk:k<s.size
  ·by_cases hb:bt s k=32
   ·rw[oh hk hb] at h
    have:=ih (k+1) ts (by omega) h
    omega
   ·cases ho:one s k with
    | none=>rw[wH hk hb ho] at h;cases h
    | some p=>
     obtain⟨e,t⟩:=p
     rw[rJ hk hb ho] at h
     have:=pD ho hk
     cases hr:run s e with
     | none=>rw[hr] at h;cases h
     | some us=>
      rw[hr] at h;simp at h;subst h
      have:=ih e us (by omega) hr
      simp;omega
  ·rw[mq hk] at h;injection h with h;subst h;simp
def dn (s:ByteArray) (a:Nat):Nat→Int
 | 0=>0
 | j+1=>10*dn s a j+(bt s (a+j) - 48)
theorem Dz (l:List UInt8) (j:Nat) (h:j<l.length):l.take (j+1)=l.take j++[l[j]]:=by
 rw[List.take_succ_eq_append_getElem h]
theorem aZ (s:ByteArray):s.data.toList.length=s.size:=by rw[Array.length_toList];rfl
theorem iO {s:ByteArray} {k:Nat} (h:k<s.data.toList.length):bt s k=((s.data.toList[k]'h).toNat:Int):=by
 have h':k<s.size:=by rw[aZ] at h;exact h
 rw[←gl h',Array.getElem_toList];rfl
theorem Cn (s:ByteArray) (a:Nat) (hd:∀j,a≤j→j<s.size→48≤bt s j∧bt s j≤57):
  ∀j,a+j≤s.size→dn s a j=(fz 0 ((s.data.toList.drop a).take j):Nat)
 | 0,_=>by rw[List.take_zero,lW];unfold dn;omega
 | j+1,h=>by
  have ih:=Cn s a hd j (by omega)
  have hl:=aZ s
  have hj:j<(s.data.toList.drop a).length:=by rw[List.length_drop,hl];omega
  rw[Dz _ j hj,uJ,dn,ih,sl]
  have hb:=hd (a+j) (by omega) (by omega)
  rw[iO (by rw[hl];omega)] at hb
  rw[iO (by rw[hl];omega),List.getElem_drop]
  omega
theorem Gv (s:ByteArray) (a:Nat) (hd:∀j,a≤j→j<s.size→48≤bt s j∧bt s j≤57) (h:a≤s.size):
  dn s a (s.size - a)=(fz 0 (s.data.toList.drop a):Nat):=by
 rw[Cn s a hd _ (by omega),List.take_of_length_le (by rw[List.length_drop,aZ];omega)]
theorem j0 {s:ByteArray} (h:0<s.size):∃c r,s.data.toList=c::r∧(c.toNat:Int)=bt s 0∧r=s.data.toList.drop 1∧r.length+1=s.size:=by
 have hl:=aZ s
 match hs:s.data.toList with
 | []=>rw[hs] at hl;simp at hl;omega
 | c::r=>
  have:=iO (s:=s) (k:=0) (by rw[hl];exact h)
  refine⟨c,r,rfl,?_,rfl,?_⟩
  ·rw[this];simp[hs]
  ·rw[hs] at hl;simpa using hl
theorem sC {s:ByteArray} (h0:0<s.size) (h45:bt s 0≠45) (h:(bt s 0=48∧1<s.size)∨1000000000<(fz 0 s.data.toList:Nat)):j9 s.data.toList=none:=by
 obtain⟨c,r,e,hc,-,hr⟩:=j0 h0
 rw[e] at h⊢
 simp only[j9]
 rw[if_neg (by omega),if_pos]
 rcases h with ⟨h1,h2⟩|h
 ·exact Or.inl ⟨by omega,by intro hn;subst hn;simp at hr;omega⟩
 ·exact Or.inr h
theorem oH {s:ByteArray} (h0:0<s.size) (h45:bt s 0≠45) (h1:¬(bt s 0=48∧1<s.size)) (h2:(fz 0 s.data.toList:Nat)≤1000000000):j9 s.data.toList=some ((fz 0 s.data.toList:Nat):Int):=by
 obtain⟨c,r,e,hc,-,hr⟩:=j0 h0
 rw[e] at h2⊢
 simp only[j9]
 rw[if_neg (by omega),if_neg]
 intro h
 rcases h with ⟨ha,hb⟩|h
 ·apply h1
  have:0<r.length:=List.length_pos_iff.2 hb
  omega
 ·omega
theorem uA {s:ByteArray} (h0:1<s.size) (h45:bt s 0=45) (h:bt s 1=48∨1000000000<(fz 0 (s.data.toList.drop 1):Nat)):j9 s.data.toList=none:=by
 obtain⟨c,r,e,hc,hr1,hr⟩:=j0 (s:=s) (by omega)
 have hl:=aZ s
 have hb1:=iO (s:=s) (k:=1) (by rw[hl];exact h0)
 rw[←hr1] at h
 rw[e]
 simp only[j9]
 rw[if_pos (by omega),if_pos]
 rcases h with h|h
 ·left
  cases r with
  | nil=>simp at hr;omega
  | cons d t=>
   have:s.data.toList[1]'(by rw[hl];exact h0)=d:=by simp[e]
   rw[this] at hb1
   simp;omega
 ·exact Or.inr h
theorem pu {s:ByteArray} (h0:1<s.size) (h45:bt s 0=45) (h1:bt s 1≠48) (h2:(fz 0 (s.data.toList.drop 1):Nat)≤1000000000):j9 s.data.toList=some (-((fz 0 (s.data.toList.drop 1):Nat):Int)):=by
 obtain⟨c,r,e,hc,hr1,hr⟩:=j0 (s:=s) (by omega)
 have hl:=aZ s
 have hb1:=iO (s:=s) (k:=1) (by rw[hl];exact h0)
 rw[←hr1] at h2⊢
 rw[e]
 simp only[j9]
 rw[if_pos (by omega),if_neg]
 intro h
 rcases h with h|h
 ·cases r with
  | nil=>simp at h
  | cons d t=>
   have:s.data.toList[1]'(by rw[hl];exact h0)=d:=by simp[e]
   rw[this] at hb1
   simp at h;omega
 ·omega
theorem JC (acc:Nat):Lib.parseUint10 acc []=.ok acc:=by simp only[Lib.parseUint10]
theorem Ip (acc:Nat) (c:UInt8) (r:List UInt8) (hc:48≤c.toNat∧c.toNat≤57):Lib.parseUint10 acc (c::r)=if 1844674407370955162≤acc then .range else if 18446744073709551616≤acc*10+(c.toNat - 48) then .range else Lib.parseUint10 (acc*10+(c.toNat - 48)) r:=by
 simp only[Lib.parseUint10];rw[if_pos hc]
theorem nP (M:Nat) (hM:M=18446744073709551616) (l:List UInt8):∀(acc:Nat),(∀c∈l,48≤c.toNat∧c.toNat≤57)→acc<M→
  (fz acc l<M∧Lib.parseUint10 acc l=.ok (fz acc l))∨(M≤fz acc l∧Lib.parseUint10 acc l=.range):=by
 induction l with
 | nil=>intro acc _ ha;rw[lW,JC];exact Or.inl ⟨ha,rfl⟩
 | cons c r ih=>
  intro acc hl ha
  have hc:=hl c List.mem_cons_self
  have hle:=IW r (10*acc+(c.toNat - 48))
  rw[Ip acc c r hc,lT,sl]
  by_cases h1:1844674407370955162≤acc
  ·rw[if_pos h1];exact Or.inr ⟨by omega,rfl⟩
  ·rw[if_neg h1]
   by_cases h2:18446744073709551616≤acc*10+(c.toNat - 48)
   ·rw[if_pos h2];exact Or.inr ⟨by omega,rfl⟩
   ·rw[if_neg h2]
    have e:acc*10+(c.toNat - 48)=10*acc+(c.toNat - 48):=by omega
    rw[e]
    exact ih _ (fun d hd=>hl d (List.mem_cons_of_mem _ hd)) (by omega)
theorem sh {s:ByteArray} (h0:0<s.size) (hd:∀j,j<s.size→48≤bt s j∧bt s j≤57):
  Lib.atoiAll s.data.toList=.ok ((fz 0 s.data.toList:Nat):Int)∨(Lib.atoiAll s.data.toList=.range∧1000000000<(fz 0 s.data.toList:Nat)):=by
 have hl:=aZ s
 have hall:∀c∈s.data.toList,48≤c.toNat∧c.toNat≤57:=by
  intro c hc
  obtain⟨i,hi,rfl⟩:=List.mem_iff_getElem.1 hc
  have:=hd i (by rw[←hl];exact hi)
  rw[iO hi] at this;omega
 obtain⟨c,r,e,hc,-,hr⟩:=j0 h0
 have hb:=hd 0 h0
 have hp:=nP 18446744073709551616 rfl s.data.toList 0 hall (by omega)
 rw[e] at hp⊢
 have hm:Lib.parseMag (c::r)=Lib.parseUint10 0 (c::r):=by simp[Lib.parseMag]
 rw[Lib.atoiAll_plain c r (by omega) (by omega),hm]
 rcases hp with ⟨h1,h2⟩|⟨h1,h2⟩
 ·rw[h2]
  by_cases h3:9223372036854775808≤fz 0 (c::r)
  ·right;exact⟨by simp[Lib.signless,h3],by omega⟩
  ·left;simp[Lib.signless,h3]
 ·rw[h2];right;exact⟨by simp[Lib.signless],by omega⟩
theorem uE {s:ByteArray} (h0:1<s.size) (h45:bt s 0=45) (hd:∀j,1≤j→j<s.size→48≤bt s j∧bt s j≤57):
  Lib.atoiAll s.data.toList=.ok (-((fz 0 (s.data.toList.drop 1):Nat):Int))∨(Lib.atoiAll s.data.toList=.range∧1000000000<(fz 0 (s.data.toList.drop 1):Nat)):=by
 have hl:=aZ s
 obtain⟨c,r,e,hc,hr1,hr⟩:=j0 (s:=s) (by omega)
 have hall:∀c∈r,48≤c.toNat∧c.toNat≤57:=by
  intro c hc
  rw[hr1] at hc
  obtain⟨i,hi,rfl⟩:=List.mem_iff_getElem.1 hc
  rw[List.length_drop,hl] at hi
  have:=hd (1+i) (by omega) (by omega)
  rw[iO (by rw[hl];omega)] at this
  rw[List.getElem_drop];omega
 have hp:=nP 18446744073709551616 rfl r 0 hall (by omega)
 have hc45:c=45:=UInt8.toNat_inj.1 (by show c.toNat=45;omega)
 have hne:r≠[]:=by intro hn;subst hn;simp at hr;omega
 have hm:Lib.parseMag r=Lib.parseUint10 0 r:=by simp[Lib.parseMag,hne]
 rw[←hr1,e,hc45,Lib.atoiAll_minus,hm]
 rcases hp with ⟨h1,h2⟩|⟨h1,h2⟩
 ·rw[h2]
  by_cases h3:9223372036854775808<fz 0 r
  ·right;exact⟨by simp[Lib.signed,h3],by omega⟩
  ·left;simp[Lib.signed,h3]
 ·rw[h2];right;exact⟨by simp[Lib.signed],by omega⟩
theorem kx (s:ByteArray) (a b j:Nat) (hb:b≤s.size) (hj:a+j<b):bt (s.extract a b) j=bt s (a+j):=by
 have h1:j<(s.extract a b).size:=by rw[ByteArray.size_extract];omega
 rw[←gl h1,←gl (show a+j<s.size by omega)]
 rw[ByteArray.getElem_extract]
theorem ij (s:ByteArray) (a b:Nat) (hb:b≤s.size):(s.extract a b).size=b - a:=by rw[ByteArray.size_extract];omega
theorem Jx {a b:ByteArray} (hz:a.size=b.size) (h:∀j,j<a.size→bt a j=bt b j):a=b:=by
 apply ByteArray.ext
 apply Array.ext hz
 intro i h1 h2
 have:=h i h1
 rw[←gl h1,←gl (show i<b.size from h2)] at this
 have h3:(a[i]'h1).toNat=(b[i]'h2).toNat:=by omega
 exact UInt8.toNat_inj.1 h3
def ik (a b:ByteArray):Bool:=a.toList==b.toList
structure gj where
 name:ByteArray
 key:ByteArray
 val:Int
structure aN where
 name:ByteArray
 label:ByteArray
 type:ByteArray
 least:Int
 bf:Int
structure bP where
 op:Int
 a:gj
 b:gj
structure bi where
 name:ByteArray
 key:ByteArray
structure dR where
 key:ByteArray
 val:Int
structure au where
 kind:Int
 ai:List aN
 conds:List bP
 items:List bi
 order:Int
 down:Bool
 skip:Int
 bR:Int
 name:ByteArray
 key:ByteArray
 value:gj
 type:ByteArray
 dest:ByteArray
 label:ByteArray
 ay:List dR
def e0:ByteArray:=⟨#[]⟩
def CH:Tok:=⟨0,e0,0⟩
def lD:gj:=⟨e0,e0,0⟩
def cq:aN:=⟨e0,e0,e0,0,0⟩
def aF:au:=⟨0,[],[],[],0,false,0,0,e0,e0,lD,e0,e0,e0,[]⟩
def dz:ByteArray:=⟨#[77,65,84,67,72]⟩
def ej:ByteArray:=⟨#[87,72,69,82,69]⟩
def pP:ByteArray:=⟨#[65,78,68]⟩
def bq:ByteArray:=⟨#[82,69,84,85,82,78]⟩
def eJ:ByteArray:=⟨#[79,82,68,69,82]⟩
def IH:ByteArray:=⟨#[66,89]⟩
def jF:ByteArray:=⟨#[68,69,83,67]⟩
def jI:ByteArray:=⟨#[83,75,73,80]⟩
def iN:ByteArray:=⟨#[76,73,77,73,84]⟩
def fN:ByteArray:=⟨#[83,69,84]⟩
def bI:ByteArray:=⟨#[68,69,76,69,84,69]⟩
def aM:ByteArray:=⟨#[67,82,69,65,84,69]⟩
def eW:ByteArray:=⟨#[67,65,76,76]⟩
def ng:ByteArray:=⟨#[73,83]⟩
def jo:ByteArray:=⟨#[78,79,84]⟩
def il:ByteArray:=⟨#[78,85,76,76]⟩
def ga:ByteArray:=⟨#[67,79,85,78,84]⟩
def bE:ByteArray:=⟨#[40]⟩
def bA:ByteArray:=⟨#[41]⟩
def bX:ByteArray:=⟨#[58]⟩
def aK:ByteArray:=⟨#[44]⟩
def eX:ByteArray:=⟨#[46]⟩
def kw:ByteArray:=⟨#[46,46]⟩
def dU:ByteArray:=⟨#[42]⟩
def jG:ByteArray:=⟨#[45,91]⟩
def da:ByteArray:=⟨#[93,45,62]⟩
def cP:ByteArray:=⟨#[123]⟩
def gG:ByteArray:=⟨#[125]⟩
def tT:ByteArray:=⟨#[61]⟩
def D7:ByteArray:=⟨#[60,62]⟩
def D9:ByteArray:=⟨#[60]⟩
def D2:ByteArray:=⟨#[60,61]⟩
def D4:ByteArray:=⟨#[62]⟩
def D3:ByteArray:=⟨#[62,61]⟩
def ah:List ByteArray:=[dz,ej,pP,bq,eJ,IH,jF,jI,iN,fN,bI,aM,eW,ng,jo,il,ga]
def jm (s:ByteArray):Bool:=ah.any fun k=>ik k s
def isWord (s:ByteArray):Bool:=decide (1≤s.size)&&decide (s.size≤8)&&eQ (bt s 0)&&decide (∀j,j<s.size→gU (bt s j)=true)
def bN (s:ByteArray):Bool:=isWord s&&decide (97≤bt s 0)
def cD (s:ByteArray):Bool:=isWord s&&decide (bt s 0<97)&&!jm s
structure RS where
 rest:List Tok
 bad:Bool
def RS.dx (st:RS) (b:Bool):RS:=⟨st.rest,st.bad || b⟩
def bD (s:ByteArray) (st:RS):Bool:=
 match st.rest with
 | []=>false
 | t::_=>decide (t.kind≠2)&&ik t.text s
def dl (s:ByteArray) (st:RS):RS:=if bD s st then ⟨st.rest.tail,st.bad⟩ else st
def dd (s:ByteArray) (st:RS):RS:=(dl s st).dx (!bD s st)
def isKind (k:Int) (st:RS):Bool:=
 match st.rest with
 | []=>false
 | t::_=>decide (t.kind=k)
def iI (k:Int) (st:RS):Tok × RS:=if isKind k st then (st.rest.headD CH,⟨st.rest.tail,st.bad⟩) else (CH,⟨st.rest,true⟩)
def eu (st:RS):ByteArray × RS:=((iI 1 st).1.text,(iI 1 st).2.dx (!bN (iI 1 st).1.text))
def iL (st:RS):ByteArray × RS:=((iI 1 st).1.text,(iI 1 st).2.dx (!cD (iI 1 st).1.text))
def iC (lo hi:Int) (st:RS):Int × RS:=((iI 2 st).1.val,(iI 2 st).2.dx (decide ((iI 2 st).1.val<lo) || decide (hi<(iI 2 st).1.val)))
def kK (x:aN) (st:RS):aN × RS:=
 let n:=eu (dd bE st)
 let l:=if bD bX n.2 then iL (dl bX n.2) else (x.label,n.2)
 (⟨n.1,l.1,x.type,x.least,x.bf⟩,dd bA l.2)
def qQ (st:RS):(Int × Int) × RS:=
 if bD dU st then
  let a:=iC 0 4 (dl dU st)
  let b:=iC a.1 4 (dd kw a.2)
  ((a.1,b.1),b.2)
 else ((1,1),st)
def nQ (st:RS):aN × RS:=
 let t:=iL st
 let s:=qQ t.2
 kK ⟨e0,e0,t.1,s.1.1,s.1.2⟩ (dd da s.2)
def dO:Nat→List aN→RS→List aN × RS
 | 0,out,st=>(out,st)
 | n+1,out,st=>if !st.bad&&bD jG st then dO n (out++[(nQ (dl jG st)).1]) (nQ (dl jG st)).2 else (out,st)
def qV (st:RS):List aN × RS:=dO (kK cq st).2.rest.length [(kK cq st).1] (kK cq st).2
def rM (st:RS):gj × RS:=
 if isKind 2 st then (⟨e0,e0,(iI 2 st).1.val⟩,(iI 2 st).2)
 else
  let n:=eu st
  let k:=eu (dd eX n.2)
  (⟨n.1,k.1,0⟩,k.2)
def mY:List ByteArray:=[tT,D7,D9,D2,D4,D3]
def jP:List ByteArray→Int→RS→Int × RS
 | [],_,st=>(0,st)
 | m::r,i,st=>if bD m st then (i,dl m st) else jP r (i+1) st
def BX (st:RS):bP × RS:=
 let a:=rM st
 if bD ng a.2 then
  let s:=dl ng a.2
  (⟨if bD jo s then 8 else 7,a.1,lD⟩,dd il (dl jo s))
 else
  let o:=jP mY 1 a.2
  let b:=rM (o.2.dx (decide (o.1=0)))
  (⟨o.1,a.1,b.1⟩,b.2)
def gP:Nat→List aN→RS→List aN × RS
 | 0,out,st=>(out,st)
 | n+1,out,st=>
  if st.bad then (out,st)
  else
   let p:=qV st
   if !p.2.bad&&bD aK p.2 then gP n (out++p.1) (dl aK p.2) else (out++p.1,p.2)
def pF:Nat→List bP→RS→List bP × RS
 | 0,out,st=>(out,st)
 | n+1,out,st=>
  let c:=BX st
  if !c.2.bad&&bD pP c.2 then pF n (out++[c.1]) (dl pP c.2) else (out++[c.1],c.2)
def pZ (st:RS):(List aN × List bP) × RS:=
 let s:=gP (st.rest.length+1) [] (dd dz st)
 let c:=if !s.2.bad&&bD ej s.2 then pF (st.rest.length+1) [] (dl ej s.2) else ([],s.2)
 ((s.1,c.1),c.2.dx (decide (6<s.1.length) || decide (6<c.1.length)))
def sV (st:RS):bi × RS:=
 if bD ga st then (⟨e0,e0⟩,dl ga st)
 else
  let n:=eu st
  if !n.2.bad&&bD eX n.2 then
   let k:=eu (dl eX n.2)
   (⟨n.1,k.1⟩,k.2)
  else (⟨n.1,e0⟩,n.2)
def pH:Nat→List bi→RS→List bi × RS
 | 0,out,st=>(out,st)
 | n+1,out,st=>
  if st.bad then (out,st)
  else
   let x:=sV st
   if !x.2.bad&&bD aK x.2 then pH n (out++[x.1]) (dl aK x.2) else (out++[x.1],x.2)
def rP (k:Int) (st:RS):(Int × Bool) × RS:=
 if !st.bad&&bD eJ st then
  let o:=iC 1 k (dd IH (dl eJ st))
  ((o.1,bD jF o.2),dl jF o.2)
 else ((0,false),st)
def vj (word:ByteArray) (none:Int) (st:RS):Int × RS:=
 if !st.bad&&bD word st then iC 0 1000000000 (dl word st) else (none,st)
structure Fl where
 items:List bi
 order:Int
 down:Bool
 skip:Int
 bR:Int
def AE (st:RS):Fl × RS:=
 let x:=pH (st.rest.length+1) [] st
 let o:=rP x.1.length x.2
 let s:=vj jI 0 o.2
 let l:=vj iN (-1) s.2
 (⟨x.1,o.1.1,o.1.2,s.1,l.1⟩,l.2.dx (decide (6<x.1.length)))
def Ei (have_:List dR) (st:RS):dR × RS:=
 let k:=eu st
 let v:=iC (-1000000000) 1000000000 (dd bX k.2)
 (⟨k.1,v.1⟩,v.2.dx (have_.any fun x=>ik x.key k.1))
def jJ:Nat→List dR→RS→List dR × RS
 | 0,out,st=>(out,st)
 | n+1,out,st=>
  if st.bad then (out,st)
  else
   let x:=Ei out st
   if !x.2.bad&&bD aK x.2 then jJ n (out++[x.1]) (dl aK x.2) else (out++[x.1],x.2)
def yz (st:RS):(ByteArray × List dR) × RS:=
 let t:=iL (dd bE st)
 let p:=if bD cP t.2 then jJ (st.rest.length+1) [] (dl cP t.2) else ([],t.2)
 let u:=if bD cP t.2 then dd gG p.2 else p.2
 ((t.1,p.1),(dd bA u).dx (decide (6<p.1.length)))
def xI (st:RS):(ByteArray × ByteArray × ByteArray) × RS:=
 let n:=eu (dd bE (dd aM st))
 let t:=iL (dd jG (dd bA n.2))
 let o:=eu (dd bE (dd da t.2))
 ((n.1,t.1,o.1),dd bA o.2)
def J7 (st:RS):(ByteArray × ByteArray × gj) × RS:=
 let n:=eu st
 let k:=eu (dd eX n.2)
 let v:=rM (dd tT k.2)
 ((n.1,k.1,v.1),v.2)
def rC (q:au) (st:RS):au × RS:=
 if bD bq st then
  let x:=AE (dl bq st)
  ({q with kind:=1,items:=x.1.items,order:=x.1.order,down:=x.1.down,skip:=x.1.skip,bR:=x.1.bR},x.2)
 else if bD fN st then
  let x:=J7 (dl fN st)
  ({q with kind:=2,name:=x.1.1,key:=x.1.2.1,value:=x.1.2.2},x.2)
 else if bD bI st then
  let x:=eu (dl bI st)
  ({q with kind:=3,name:=x.1},x.2)
 else
  let x:=xI st
  ({q with kind:=4,name:=x.1.1,type:=x.1.2.1,dest:=x.1.2.2},x.2)
def qn (st:RS):au × RS:=
 if bD aM st then
  let x:=yz (dl aM st)
  ({aF with kind:=5,label:=x.1.1,ay:=x.1.2},x.2)
 else if bD eW st then
  let x:=eu (dl eW st)
  ({aF with kind:=6,name:=x.1},x.2)
 else
  let m:=pZ st
  let q:={aF with ai:=m.1.1,conds:=m.1.2}
  if m.2.bad then (q,m.2) else rC q m.2
def fl (ai:List aN) (name:ByteArray):Bool:=ai.any fun x=>ik x.name name
def EY (q:au):List ByteArray:=
 (q.conds.flatMap fun c=>[c.a.name,c.b.name])++q.items.map (fun x=>x.name)++(if 2≤q.kind∧q.kind≤4 then [q.name,q.dest,q.value.name] else [])
def wz (q:au):Bool:=
 ((EY q).all fun n=>n.toList.isEmpty || fl q.ai n)&&(q.value.name.toList.isEmpty || ik q.value.name q.name)
def Ak (ts:List Tok):au × Int:=
 let x:=qn ⟨ts,false⟩
 if x.2.bad || !x.2.rest.isEmpty then (aF,3)
 else if wz x.1 then (x.1,0) else (aF,4)
def parseText (t:Option (List Tok)):au × Int:=
 match t with
 | none=>(aF,3)
 | some ts=>Ak ts
theorem kh (s:ByteArray) (st:RS):(dl s st).rest.length≤st.rest.length:=by
 unfold dl;split
 ·simp[List.length_tail]
 ·exact Nat.le_refl _
theorem qI {s:ByteArray} {st:RS} (h:bD s st=true):(dl s st).rest.length+1=st.rest.length:=by
 unfold dl;rw[if_pos h]
 unfold bD at h
 split at h
 ·cases h
 ·rename_i e;rw[e];simp
theorem Bj (st:RS) (x:Bool):(st.dx x).rest=st.rest:=rfl
theorem j8 (s:ByteArray) (st:RS):(dd s st).rest.length≤st.rest.length:=by
 unfold dd;rw[Bj];exact kh s st
theorem qh (k:Int) (st:RS):(iI k st).2.rest.length≤st.rest.length:=by
 unfold iI;split
 ·simp[List.length_tail]
 ·exact Nat.le_refl _
theorem DO (st:RS):(eu st).2.rest.length≤st.rest.length:=qh 1 st
theorem ph (st:RS):(iL st).2.rest.length≤st.rest.length:=qh 1 st
theorem sA (lo hi:Int) (st:RS):(iC lo hi st).2.rest.length≤st.rest.length:=qh 2 st
theorem uH (x:aN) (st:RS):(kK x st).2.rest.length≤st.rest.length:=by
 unfold kK
 simp only
 refine Nat.le_trans (j8 _ _) ?_
 have h1:=j8 bE st
 have h2:=DO (dd bE st)
 split
 ·have h3:=ph (dl bX (eu (dd bE st)).2)
  have h4:=kh bX (eu (dd bE st)).2
  omega
 ·simp only;omega
theorem CV (st:RS):(qQ st).2.rest.length≤st.rest.length:=by
 unfold qQ
 split
 ·simp only
  have h1:=kh dU st
  have h2:=sA 0 4 (dl dU st)
  have h3:=j8 kw (iC 0 4 (dl dU st)).2
  have h4:=sA (iC 0 4 (dl dU st)).1 4 (dd kw (iC 0 4 (dl dU st)).2)
  omega
 ·exact Nat.le_refl _
theorem vq (st:RS):(nQ st).2.rest.length≤st.rest.length:=by
 unfold nQ
 simp only
 refine Nat.le_trans (uH _ _) ?_
 have h1:=ph st
 have h2:=CV (iL st).2
 have h3:=j8 da (qQ (iL st).2).2
 omega
theorem vP (n:Nat):∀(out:List aN) (st:RS),(dO n out st).2.rest.length≤st.rest.length:=by
 induction n with
 | zero=>intro out st;exact Nat.le_refl _
 | succ n ih=>
  intro out st
  simp only[dO]
  split
  ·have h1:=ih (out++[(nQ (dl jG st)).1]) (nQ (dl jG st)).2
   have h2:=vq (dl jG st)
   have h3:=kh jG st
   omega
  ·exact Nat.le_refl _
theorem CE (st:RS):(qV st).2.rest.length≤st.rest.length:=by
 unfold qV
 exact Nat.le_trans (vP _ _ _) (uH _ _)
section
open Go.RowKit
theorem Ka (c:Int) (w:World):Calls Tryz.prog 78 #[.int .u8 c] w fun e w'=>e=.returned (.bool (eQ c))∧w'=w:=by
 by_cases h1:97≤c<;>by_cases h2:c≤122<;>by_cases h3:65≤c<;>by_cases h4:c≤90
 all_goals first|(exfalso;omega)|skip
 all_goals
  (first|rw[ye (by omega)]|rw[ef (by omega)])
  go_enter Tryz.func78,Tryz.ntmps78
  go_wp2
  go_ret
  exact⟨rfl,rfl⟩
theorem KG (c:Int) (w:World):Calls Tryz.prog 79 #[.int .u8 c] w fun e w'=>e=.returned (.bool (cH c))∧w'=w:=by
 by_cases h1:48≤c<;>by_cases h2:c≤57
 all_goals first|(exfalso;omega)|skip
 all_goals
  (first|rw[lH (by omega)]|rw[jZ (by omega)])
  go_enter Tryz.func79,Tryz.ntmps79
  go_wp2
  go_ret
  exact⟨rfl,rfl⟩
theorem fG (c:Int) (w:World):Calls Tryz.prog 204 #[.int .u8 c] w fun e w'=>e=.returned (.bool (eQ c))∧w'=w:=by
 by_cases h1:97≤c<;>by_cases h2:c≤122<;>by_cases h3:65≤c<;>by_cases h4:c≤90
 all_goals first|(exfalso;omega)|skip
 all_goals
  (first|rw[ye (by omega)]|rw[ef (by omega)])
  go_enter Tryz.func204,Tryz.ntmps204
  go_wp2
  go_ret
  exact⟨rfl,rfl⟩
theorem isDigit (c:Int) (w:World):Calls Tryz.prog 205 #[.int .u8 c] w fun e w'=>e=.returned (.bool (cH c))∧w'=w:=by
 by_cases h1:48≤c<;>by_cases h2:c≤57
 all_goals first|(exfalso;omega)|skip
 all_goals
  (first|rw[lH (by omega)]|rw[jZ (by omega)])
  go_enter Tryz.func205,Tryz.ntmps205
  go_wp2
  go_ret
  exact⟨rfl,rfl⟩
end
section
open Go.RowKit
def dy (ts:List Tok):List Value:=ts.flatMap fun t=>[.int .i64 t.kind,.string t.text,.int .i64 t.val]
def fg (s:ByteArray):Option (List Tok):=if 2000<s.size then none else run s 0
def Iw (s:ByteArray) (w:World) (e:Ending) (w':World):Prop:=
 Below w.heap.size w w'∧((fg s=none∧e=.returned (.tuple #[.slice none 0 0,.int .i64 3]))∨
  ∃ts v,fg s=some ts∧e=.returned (.tuple #[v,.int .i64 0])∧w'.ownsRow w.heap.size 153 3 v ts.length (dy ts))
theorem Tryz.JS:(Tryz.prog.info? 153).map (fun i=>(i.zero,i.size,i.bytes))=some (some (.agg #[.int .i64 0,.string ⟨#[]⟩,.int .i64 0]),3,32):=by kernel_rfl
def rA (t:ByteArray):Prop:=(0<t.size∧∀j,j<t.size→48≤bt t j∧bt t j≤57)∨(1<t.size∧bt t 0=45∧∀j,1≤j→j<t.size→48≤bt t j∧bt t j≤57)
theorem Ct {s:ByteArray} (h:s.size≤2000) (hr:run s 0=none):fg s=none:=by unfold fg;rw[if_neg (by omega)];exact hr
theorem De {s:ByteArray} {ts:List Tok} (h:s.size≤2000) (hr:run s 0=some ts):fg s=some ts:=by unfold fg;rw[if_neg (by omega)];exact hr
theorem El {s:ByteArray} {k e:Nat} (h:k<s.size) (hl:eQ ((s[k]'h).toNat:Int)=true) (he:span gU s k=e) (h8:e - k≤8):one s k=some (e,⟨1,s.extract k e,0⟩):=by
 unfold one;rw[←gl h,if_pos hl,he,if_neg (by omega)]
theorem wq {s:ByteArray} {k e:Nat} (h:k<s.size) (hl:eQ ((s[k]'h).toNat:Int)=true) (he:span gU s k=e) (h8:8<e - k):one s k=none:=by
 unfold one;rw[←gl h,if_pos hl,he,if_pos h8]
theorem ul (acc:List Tok) (t:Tok):dy (acc++[t])=dy acc++[.int .i64 t.kind,.string t.text,.int .i64 t.val]:=by
 unfold dy;rw[List.flatMap_append];simp
def iT (s:ByteArray) (k:Nat):Prop:=cH (bt s k)=true∨(bt s k=45∧cH (bt s (k+1))=true)
theorem Bw {s:ByteArray} {k e:Nat} (h:k<s.size) (hb:iT s k) (he:span cH s (k+1)=e):rA (s.extract k e):=by
 have hle:=nV (p:=cH) (s:=s) (k:=k+1) h
 have hz:=ij s k e (by omega)
 have hall:∀j,1≤j→j<e - k→48≤bt (s.extract k e) j∧bt (s.extract k e) j≤57:=by
  intro j h1 h2
  rw[kx s k e j (by omega) (by omega)]
  exact pt (yu cH s _ (k+1) rfl h (k+j) (by omega) (by omega))
 have h0:bt (s.extract k e) 0=bt s k:=by rw[kx s k e 0 (by omega) (by omega),Nat.add_zero]
 rcases hb with hb|⟨hb,hb1⟩
 ·left
  refine⟨by omega,?_⟩
  intro j hj
  by_cases e0:j=0
  ·subst e0;rw[h0];exact pt hb
  ·exact hall j (by omega) (by omega)
 ·right
  have h1:k+1<s.size:=Bz (by have:=pt hb1;omega)
  have:span cH s (k+1)=span cH s (k+1+1):=iP h1 hb1
  have:=nV (p:=cH) (s:=s) (k:=k+1+1) h1
  exact⟨by omega,by rw[h0];exact hb,fun j h1 h2=>hall j h1 (by omega)⟩
theorem one_num {s:ByteArray} {k e:Nat} {v:Int} (hl:eQ (bt s k)=false) (hb:iT s k) (he:span cH s (k+1)=e) (hv:j9 (s.extract k e).data.toList=some v):one s k=some (e,⟨2,s.extract k e,v⟩):=by
 unfold one;rw[if_neg (by rw[hl];simp),if_pos,he,hv]
 rcases hb with h|⟨h1,h2⟩
 ·rw[h];rfl
 ·rw[h1,h2];simp
theorem za {s:ByteArray} {k e:Nat} (hl:eQ (bt s k)=false) (hb:iT s k) (he:span cH s (k+1)=e) (hv:j9 (s.extract k e).data.toList=none):one s k=none:=by
 unfold one;rw[if_neg (by rw[hl];simp),if_pos,he,hv]
 rcases hb with h|⟨h1,h2⟩
 ·rw[h];rfl
 ·rw[h1,h2];simp
theorem E8 {s:ByteArray} {k:Nat} (hl:eQ (bt s k)=false) (hb:¬iT s k) (hm:0<aY s k):one s k=some (k+aY s k,⟨3,s.extract k (k+aY s k),0⟩):=by
 unfold one;rw[if_neg (by rw[hl];simp),if_neg,if_neg (by omega)]
 intro h;apply hb
 simp only[Bool.or_eq_true,Bool.and_eq_true,decide_eq_true_eq] at h
 exact h
theorem jT {s:ByteArray} {k:Nat} (hl:eQ (bt s k)=false) (hb:¬iT s k) (hm:aY s k=0):one s k=none:=by
 unfold one;rw[if_neg (by rw[hl];simp),if_neg,if_pos hm]
 intro h;apply hb
 simp only[Bool.or_eq_true,Bool.and_eq_true,decide_eq_true_eq] at h
 exact h
theorem Cw {w w':World} {B:Nat} {v:Value} {n:Nat} {xs:List Value} (h:w.ownsRow B 153 3 v n xs) (hb:Below w.heap.size w w'):w'.ownsRow B 153 3 v n xs:=
 h.kept (row:=none) ⟨hb.os,hb.tape,hb.output,hb.size,fun k hk _=>hb.block k hk⟩ (by cases hv:v.ownBlock<;>simp)
theorem Aw {w wr w2:World} {B:Nat} {v v':Value} {acc:List Tok} {kd vl:Int} {tx:ByteArray} {o:Obj} (hB:Below B w wr) (hBs:B≤w.heap.size) (hown:wr.ownsRow B 153 3 v acc.length (dy acc))
  (hown':w2.ownsRow B 153 3 v' (acc.length+1) (dy acc++[.int .i64 kd,.string tx,.int .i64 vl])) (hg:(wr.alloc o).grownBy w2 v.ownBlock):
  Below B w w2∧w2.ownsRow B 153 3 v' (acc++[Tok.mk kd tx vl]).length (dy (acc++[Tok.mk kd tx vl])):=by
 have hs:=hB.size
 refine⟨(hB.alloc (by omega) o).grown hg (by simp;omega) (fun k hk=>(hown.lt k hk).1),?_⟩
 rw[ul,List.length_append]
 exact hown'
theorem yO {w:World} {a b c:Value} {T:TypeId}:∀(j:Nat) (u:Value),[a,b,c][j]?=some u→(w.alloc (.cells #[a,b,c] T)).cell? ((⟨w.heap.size,0,none⟩:Addr).add j)=some u:=by
 intro j u hj
 match j,hj with
 | 0,hj=>simp at hj;subst hj;simp[Addr.add]
 | 1,hj=>simp at hj;subst hj;simp[Addr.add]
 | 2,hj=>simp at hj;subst hj;simp[Addr.add]
theorem Dt {kd vl:Int} {tx:ByteArray}:∀u∈[Value.int .i64 kd,.string tx,.int .i64 vl],u.oneCell'=true:=by
 intro u hu
 simp at hu
 rcases hu with rfl|rfl|rfl<;>rfl
end
section
open Go Go.RowKit
theorem DS {w w':World} (h:w.grownBy w' none) (r:Option Nat):w.grownBy w' r:=⟨h.os,h.tape,h.output,h.size,fun k hk _=>h.block k hk (by simp)⟩
end
section
open Go.RowKit
theorem uv (t:Tok) (r:List Tok):dy (t::r)=.int .i64 t.kind::.string t.text::.int .i64 t.val::dy r:=by
 unfold dy;rw[List.flatMap_cons];rfl
theorem zk (ts:List Tok):∀(k:Nat) (h:k<ts.length),(dy ts)[k*3]?=some (.int .i64 ts[k].kind)∧(dy ts)[k*3+1]?=some (.string ts[k].text)∧(dy ts)[k*3+2]?=some (.int .i64 ts[k].val):=by
 induction ts with
 | nil=>intro k h;simp at h
 | cons t r ih=>
  intro k h
  rw[uv]
  cases k with
  | zero=>exact⟨rfl,rfl,rfl⟩
  | succ k=>
   have:=ih k (by simpa using h)
   rw[show (k+1)*3=k*3+1+1+1 by omega,show k*3+1+1+1+1=(k*3+1)+1+1+1 by omega,show k*3+1+1+1+2=(k*3+2)+1+1+1 by omega]
   simp only[List.getElem?_cons_succ,List.getElem_cons_succ]
   exact this
theorem IK {w:World} {B g n cap:Nat} {ts:List Tok} (h:w.ownsRow B 153 3 (.slice (some ⟨g,0,none⟩) n cap) n (dy ts)) (hl:ts.length=n) (k:Nat) (hk:k<ts.length):
  w.cell? ⟨g,k*3,none⟩=some (.int .i64 ts[k].kind)∧w.cell? ⟨g,k*3+1,none⟩=some (.string ts[k].text)∧w.cell? ⟨g,k*3+2,none⟩=some (.int .i64 ts[k].val):=by
 obtain⟨h0,h1,h2⟩:=zk ts k hk
 exact⟨(h.cellAt _ (by omega)).trans h0,(h.cellAt _ (by omega)).trans h1,(h.cellAt _ (by omega)).trans h2⟩
def mk (m:Int):Tok:=⟨m,⟨#[]⟩,0⟩
def marks (m:Int) (n:Nat):List Tok:=List.replicate n (mk m)
end
end Go.Proofs.YtobgbmfpicmpcaaGreatDoor
