/- Words that are joined by blanks are cut into these words again. No program in this text. -/
import Derived.Test.YtobgbmfpicmpcaaGreatDoorC15
set_option maxRecDepth 100000
set_option maxHeartbeats 8000000
namespace Go.Proofs.YtobgbmfpicmpcaaGreatDoor
namespace Pure
structure ja (w:ByteArray) (t:Tok):Prop where
 ne:0<w.size
 nb:bt w 0≠32
 cut:∀(s:ByteArray) (k:Nat),(∀j,j<w.size→bt s (k+j)=bt w j)→k+w.size≤s.size→(bt s (k+w.size)=32∨k+w.size=s.size)→one s k=some (k+w.size,t)
theorem gJ {w s:ByteArray} {k:Nat} (h:∀j,j<w.size→bt s (k+j)=bt w j) (hk:k+w.size≤s.size):s.extract k (k+w.size)=w:=by
 have hz:=ij s k (k+w.size) hk
 refine Jx (by omega) fun j hj=>?_
 rw[kx s k (k+w.size) j hk (by omega),h j (by omega)]
theorem rB {p:Int→Bool} {s:ByteArray} {e:Nat}:∀(n k:Nat),k+n=e→e≤s.size→(∀j,k≤j→j<e→p (bt s j)=true)→(e<s.size→p (bt s e)=false)→span p s k=e
 | 0,k,h,he,_,hs=>by
  obtain rfl:k=e:=by omega
  exact jw hs
 | n+1,k,h,he,hp,hs=>by
  rw[iP (by omega) (hp k (Nat.le_refl _) (by omega))]
  exact rB n (k+1) (by omega) he (fun j hj h2=>hp j (by omega) h2) hs
theorem sg {p:Int→Bool} {s:ByteArray} {e:Nat} (h32:p 32=false) (h:bt s e=32∨e=s.size):e<s.size→p (bt s e)=false:=by
 intro hl
 rcases h with h|h
 ·rw[h];exact h32
 ·omega
theorem jX {w:ByteArray} (h:isWord w=true):1≤w.size∧w.size≤8∧eQ (bt w 0)=true∧∀j,j<w.size→gU (bt w j)=true:=by
 unfold isWord at h
 simp only[Bool.and_eq_true,decide_eq_true_eq] at h
 exact⟨h.1.1.1,h.1.1.2,h.1.2,h.2⟩
theorem rG {w:ByteArray} (h:isWord w=true):ja w ⟨1,w,0⟩:=by
 obtain⟨h1,h8,hl,ha⟩:=jX h
 refine⟨h1,?_,?_⟩
 ·intro e;rw[e] at hl;exact absurd hl (by decide)
 ·intro s k hw hk he
  have hl':eQ (bt s k)=true:=by have:=hw 0 (by omega);rw[Nat.add_zero] at this;rw[this];exact hl
  have hsp:span gU s k=k+w.size:=rB w.size k rfl hk (fun j hj h2=>by
   have:=hw (j - k) (by omega)
   rw[show k+(j - k)=j by omega] at this
   rw[this];exact ha _ (by omega)) (sg (by decide) he)
  unfold one
  rw[if_pos hl',hsp,if_neg (by omega),gJ hw hk]
theorem vY:ah.all isWord=true:=by decide +kernel
theorem JL {w:ByteArray} (h:w∈ah):ja w ⟨1,w,0⟩:=rG (List.all_eq_true.1 vY w h)
def marks:List ByteArray:=[bE,bA,bX,aK,eX,kw,dU,jG,da,cP,gG,tT,D7,D9,D2,D4,D3]
theorem l9 {c:UInt8} (h:c.toNat=46∨c.toNat=60∨c.toNat=62∨c.toNat=40∨c.toNat=41∨c.toNat=58∨c.toNat=44∨c.toNat=61∨c.toNat=42∨c.toNat=123∨c.toNat=125):ja ⟨#[c]⟩ ⟨3,⟨#[c]⟩,0⟩:=by
 have hz:(⟨#[c]⟩:ByteArray).size=1:=rfl
 have h0:bt (⟨#[c]⟩:ByteArray) 0=(c.toNat:Int):=rfl
 refine⟨by omega,by omega,?_⟩
 intro s k hw hk he
 have ex:=gJ hw hk
 rw[hz] at hw hk he ex⊢
 have hc:=hw 0 (by omega)
 rw[Nat.add_zero,h0] at hc
 have hd:bt s (k+1)=32∨bt s (k+1)=-1:=by
  rcases he with e|e
  ·exact Or.inl e
  ·exact Or.inr (AF (by omega))
 have hm:aY s k=1:=by
  unfold aY
  simp only
  repeat' split
  all_goals omega
 have hl:eQ (bt s k)=false:=ef (by omega)
 have hg:cH (bt s k)=false:=jZ (by omega)
 unfold one
 rw[hl,hg,hm,ex]
 simp
 omega
theorem yU {c d:UInt8} (h:(c.toNat=45∧d.toNat=91)∨(c.toNat=46∧d.toNat=46)∨(c.toNat=60∧d.toNat=61)∨(c.toNat=60∧d.toNat=62)∨(c.toNat=62∧d.toNat=61)):ja ⟨#[c,d]⟩ ⟨3,⟨#[c,d]⟩,0⟩:=by
 have hz:(⟨#[c,d]⟩:ByteArray).size=2:=rfl
 have h0:bt (⟨#[c,d]⟩:ByteArray) 0=(c.toNat:Int):=rfl
 have h1:bt (⟨#[c,d]⟩:ByteArray) 1=(d.toNat:Int):=rfl
 refine⟨by omega,by omega,?_⟩
 intro s k hw hk he
 have ex:=gJ hw hk
 rw[hz] at hw hk he ex⊢
 have hc:=hw 0 (by omega)
 have hd:=hw 1 (by omega)
 rw[Nat.add_zero,h0] at hc
 rw[h1] at hd
 have hm:aY s k=2:=by
  unfold aY
  simp only
  repeat' split
  all_goals omega
 have hl:eQ (bt s k)=false:=ef (by omega)
 have hg:cH (bt s k)=false:=jZ (by omega)
 have hg2:cH (bt s (k+1))=false:=jZ (by omega)
 unfold one
 rw[hl,hg,hg2,hm,ex]
 simp
theorem Kr:ja da ⟨3,da,0⟩:=by
 have hz:da.size=3:=rfl
 have h0:bt da 0=93:=rfl
 have h1:bt da 1=45:=rfl
 have h2:bt da 2=62:=rfl
 refine⟨by omega,by omega,?_⟩
 intro s k hw hk he
 have ex:=gJ hw hk
 rw[hz] at hw hk he ex⊢
 have hc:=hw 0 (by omega)
 have hd:=hw 1 (by omega)
 have hf:=hw 2 (by omega)
 rw[Nat.add_zero,h0] at hc
 rw[h1] at hd
 rw[h2] at hf
 have hm:aY s k=3:=by
  unfold aY
  simp only
  repeat' split
  all_goals omega
 have hl:eQ (bt s k)=false:=ef (by omega)
 have hg:cH (bt s k)=false:=jZ (by omega)
 have hg2:cH (bt s (k+1))=false:=jZ (by omega)
 unfold one
 rw[hl,hg,hg2,hm,ex]
 simp
theorem Hm {w:ByteArray} (h:w∈marks):ja w ⟨3,w,0⟩:=by
 simp only[marks,List.mem_cons,List.not_mem_nil,or_false] at h
 rcases h with rfl|rfl|rfl|rfl|rfl|rfl|rfl|rfl|rfl|rfl|rfl|rfl|rfl|rfl|rfl|rfl|rfl
 ·exact l9 (by decide)
 ·exact l9 (by decide)
 ·exact l9 (by decide)
 ·exact l9 (by decide)
 ·exact l9 (by decide)
 ·exact yU (by decide)
 ·exact l9 (by decide)
 ·exact yU (by decide)
 ·exact Kr
 ·exact l9 (by decide)
 ·exact l9 (by decide)
 ·exact l9 (by decide)
 ·exact yU (by decide)
 ·exact l9 (by decide)
 ·exact yU (by decide)
 ·exact l9 (by decide)
 ·exact yU (by decide)
theorem Cc {u:Nat} (h:¬u<10):Lib.decDigits u=Lib.decDigits (u / 10)++[UInt8.ofNat (48+u % 10)]:=by rw[Lib.decDigits,dif_neg h]
theorem kG (n:Nat) (h:n<256):(UInt8.ofNat n).toNat=n:=by simp;omega
theorem sQ (n:Nat):∀u,u≤n→(∀c∈Lib.decDigits u,48≤c.toNat∧c.toNat≤57)∧fz 0 (Lib.decDigits u)=u∧(∃c r,Lib.decDigits u=c::r∧(c.toNat=48→u=0∧r=[])):=by
 induction n with
 | zero=>
  intro u hu
  obtain rfl:u=0:=by omega
  rw[Lib.decDigits_one (by omega)]
  refine⟨?_,?_,_,_,rfl,fun _=>⟨rfl,rfl⟩⟩
  ·intro c hc
   rw[List.mem_singleton.1 hc,kG _ (by omega)];omega
  ·rw[lT,lW,sl,kG _ (by omega)]
 | succ n ih=>
  intro u hu
  by_cases h:u<10
  ·rw[Lib.decDigits_one h]
   refine⟨?_,?_,_,_,rfl,fun e=>⟨?_,rfl⟩⟩
   ·intro c hc
    rw[List.mem_singleton.1 hc,kG _ (by omega)];omega
   ·rw[lT,lW,sl,kG _ (by omega)];omega
   ·rw[kG _ (by omega)] at e;omega
  ·rw[Cc h]
   obtain⟨ha,hd,c,r,hcr,hc⟩:=ih (u / 10) (by omega)
   refine⟨?_,?_,?_⟩
   ·intro x hx
    rcases List.mem_append.1 hx with hx|hx
    ·exact ha x hx
    ·rw[List.mem_singleton.1 hx,kG _ (by omega)];omega
   ·rw[uJ,hd,sl,kG _ (by omega)];omega
   ·rw[hcr]
    exact⟨c,r++[UInt8.ofNat (48+u % 10)],rfl,fun e=>absurd (hc e).1 (by omega)⟩
end Pure
namespace Pure
theorem JN {w:ByteArray} {P:Int→Prop} (h:∀c∈w.data.toList,P (c.toNat:Int)):∀j,j<w.size→P (bt w j):=by
 intro j hj
 have hl:j<w.data.toList.length:=by rw[aZ];exact hj
 rw[iO hl]
 exact h _ (List.getElem_mem hl)
theorem vC {n:Int} (h0:-1000000000≤n) (h1:n≤1000000000):ja (dB n) ⟨2,dB n,n⟩:=by
 have hd:(dB n).data.toList=Lib.itoa n:=by simp[dB]
 by_cases hn:n<0
 ·obtain⟨u,rfl⟩:∃u:Nat,n=-(u:Int):=⟨n.natAbs,by omega⟩
  have hi:Lib.itoa (-(u:Int))=45::Lib.decDigits u:=by unfold Lib.itoa;rw[if_pos (by omega)];simp
  obtain⟨ha,hg,c,r,hcr,hc⟩:=sQ u u (Nat.le_refl _)
  rw[hi] at hd
  have hz:(dB (-(u:Int))).size=(c::r).length+1:=by rw[←aZ,hd,hcr];rfl
  have hcut:∀j,j<(dB (-(u:Int))).size→bt (dB (-(u:Int))) j=(((45::Lib.decDigits u)[j]?.getD 0).toNat:Int):=by
   intro j hj
   have hl:j<(dB (-(u:Int))).data.toList.length:=by rw[aZ];exact hj
   rw[iO hl]
   have e:(45::Lib.decDigits u)[j]?=some ((dB (-(u:Int))).data.toList[j]):=by rw[←hd];exact List.getElem?_eq_getElem hl
   rw[e];rfl
  have b0:bt (dB (-(u:Int))) 0=45:=by rw[hcut 0 (by omega)];rfl
  have bd:∀j,1≤j→j<(dB (-(u:Int))).size→48≤bt (dB (-(u:Int))) j∧bt (dB (-(u:Int))) j≤57:=by
   intro j h1 hj
   obtain⟨i,rfl⟩:∃i,j=i+1:=⟨j - 1,by omega⟩
   rw[hcut _ hj,List.getElem?_cons_succ]
   have hi:i<(Lib.decDigits u).length:=by rw[hcr];omega
   rw[List.getElem?_eq_getElem hi]
   have:=ha _ (List.getElem_mem hi)
   simp only[Option.getD_some]
   omega
  refine⟨by omega,by omega,?_⟩
  intro s k hw hk he
  have s0:bt s k=45:=by have:=hw 0 (by omega);rw[Nat.add_zero,b0] at this;exact this
  have s1:cH (bt s (k+1))=true:=by rw[hw 1 (by rw[hz];simp)];exact lH (bd 1 (by omega) (by rw[hz];simp))
  have hsp:span cH s (k+1)=k+(dB (-(u:Int))).size:=rB ((dB (-(u:Int))).size - 1) (k+1) (by omega) hk (fun j hj h2=>by
   have:=hw (j - k) (by omega)
   rw[show k+(j - k)=j by omega] at this
   rw[this];exact lH (bd _ (by omega) (by omega))) (sg (by decide) he)
  have hv:j9 (dB (-(u:Int))).data.toList=some (-(u:Int)):=by
   rw[hd]
   have h45:(45:UInt8).toNat=45:=rfl
   unfold j9
   simp only
   rw[if_pos h45,if_neg,hg]
   rintro (e|e)
   ·rw[hcr] at e
    simp only[List.head?_cons,Option.map_some,Option.some.injEq] at e
    have:=(hc e).1
    omega
   ·rw[hg] at e;omega
  unfold one
  rw[s0,s1,hsp,gJ hw hk,hv]
  rfl
 ·obtain⟨u,rfl⟩:∃u:Nat,n=(u:Int):=⟨n.toNat,by omega⟩
  have hi:Lib.itoa (u:Int)=Lib.decDigits u:=by unfold Lib.itoa;rw[if_neg (by omega)];simp
  obtain⟨ha,hg,c,r,hcr,hc⟩:=sQ u u (Nat.le_refl _)
  rw[hi] at hd
  have hz:(dB (u:Int)).size=(c::r).length:=by rw[←aZ,hd,hcr]
  have hpos:0<(dB (u:Int)).size:=by rw[hz];simp
  have bd:∀j,j<(dB (u:Int)).size→48≤bt (dB (u:Int)) j∧bt (dB (u:Int)) j≤57:=
   JN (P:=fun x=>48≤x∧x≤57) (by rw[hd];intro c hc;have:=ha c hc;omega)
  have b0:=bd 0 hpos
  refine⟨hpos,by omega,?_⟩
  intro s k hw hk he
  have s0:bt s k=bt (dB (u:Int)) 0:=by have:=hw 0 hpos;rw[Nat.add_zero] at this;exact this
  have hsp:span cH s (k+1)=k+(dB (u:Int)).size:=rB ((dB (u:Int)).size - 1) (k+1) (by omega) hk (fun j hj h2=>by
   have:=hw (j - k) (by omega)
   rw[show k+(j - k)=j by omega] at this
   rw[this];exact lH (bd _ (by omega))) (sg (by decide) he)
  have hv:j9 (dB (u:Int)).data.toList=some (u:Int):=by
   rw[hd,hcr]
   have hc48:=ha c (by rw[hcr];simp)
   unfold j9
   simp only
   rw[if_neg (by omega),if_neg,←hcr,hg]
   rintro (⟨e,e2⟩|e)
   ·exact e2 (hc e).2
   ·rw[←hcr,hg] at e;omega
  unfold one
  rw[s0,ef (by omega),lH b0,hsp,gJ hw hk,hv]
  rfl
theorem vO {s:ByteArray} {k:Nat} {l:List UInt8} (h:s.data.toList.drop k=l) (j:Nat) (hj:j<l.length):bt s (k+j)=((l[j]'hj).toNat:Int):=by
 have hl:k+j<s.data.toList.length:=by
  have:=congrArg List.length h
  rw[List.length_drop] at this
  omega
 rw[iO hl]
 subst h
 rw[List.getElem_drop]
theorem zG {s:ByteArray} {k:Nat} {w:ByteArray} {t:Tok} {r:List ByteArray} (hw:ja w t) (h:s.data.toList.drop k=bl w++ju r):run s k=(run s (k+w.size)).map (t::·)∧s.data.toList.drop (k+w.size)=ju r:=by
 have hlen:(bl w).length=w.size:=aZ w
 have hz:=congrArg List.length h
 rw[List.length_drop,List.length_append,hlen,aZ] at hz
 have hd:s.data.toList.drop (k+w.size)=ju r:=by
  rw[←List.drop_drop,h,List.drop_append,hlen]
  simp[←hlen]
 have h1:∀j,j<w.size→bt s (k+j)=bt w j:=by
  intro j hj
  rw[vO h j (by rw[List.length_append,hlen];omega),iO (by rw[aZ];exact hj),List.getElem_append_left (by rw[hlen];exact hj)]
  rfl
 have hne:=hw.ne
 have he:bt s (k+w.size)=32∨k+w.size=s.size:=by
  cases r with
  | nil=>
   right
   rw[o5] at hz
   simp only[List.length_nil] at hz
   omega
  | cons a r=>
   left
   rw[nj] at hd
   have:=vO hd 0 (by simp)
   rw[Nat.add_zero] at this
   rw[this];rfl
 have ho:=hw.cut s k h1 (by omega) he
 refine⟨rJ (by omega) ?_ ho,hd⟩
 have:=h1 0 hne
 rw[Nat.add_zero] at this
 rw[this];exact hw.nb
theorem rT:∀(ps:List (ByteArray × Tok)),(∀p∈ps,ja p.1 p.2)→∀(s:ByteArray) (k:Nat),s.data.toList.drop k=ju (ps.map (·.1))→run s k=some (ps.map (·.2))
 | [],_,s,k,h=>by
  rw[List.map_nil,o5] at h
  have:=congrArg List.length h
  rw[List.length_drop,aZ] at this
  simp only[List.length_nil] at this
  rw[mq (by omega)];rfl
 | (w,t)::r,hp,s,k,h=>by
  simp only[List.map_cons] at h⊢
  rw[nj] at h
  have h32:=vO h 0 (by simp)
  rw[Nat.add_zero] at h32
  have hz:=congrArg List.length h
  rw[List.length_drop,aZ] at hz
  simp only[List.length_cons] at hz
  have hd:s.data.toList.drop (k+1)=bl w++ju (r.map (·.1)):=by rw[←List.drop_drop,h];rfl
  obtain⟨e1,e2⟩:=zG (hp (w,t) (by simp)) hd
  rw[oh (by omega) (by rw[h32];rfl),e1,rT r (fun p h=>hp p (by simp[h])) s _ e2]
  rfl
theorem AP {ps:List (ByteArray × Tok)} (hp:∀p∈ps,ja p.1 p.2):run ⟨(iy (ps.map (·.1))).toArray⟩ 0=some (ps.map (·.2)):=by
 cases ps with
 | nil=>rw[mq];rfl;simp[iy,Lib.join,List.intercalate,ByteArray.size]
 | cons p r=>
  obtain⟨w,t⟩:=p
  have h:(⟨(iy (((w,t)::r).map (·.1))).toArray⟩:ByteArray).data.toList.drop 0=bl w++ju (r.map (·.1)):=by
   simp only[List.map_cons,List.drop_zero]
   rw[qR]
  obtain⟨e1,e2⟩:=zG (hp (w,t) (by simp)) h
  rw[e1,rT r (fun p h=>hp p (by simp[h])) _ _ e2]
  rfl
end Pure
def oD (n:Int):Prop:=-1000000000≤n∧n≤1000000000
def je (t:gj):Prop:=(t.name=e0∧t.key=e0∧oD t.val)∨(bN t.name=true∧bN t.key=true∧t.val=0)
structure fU (s:aN):Prop where
 IM:bN s.name=true
 wy:s.label=e0∨cD s.label=true
 KX:(s.type=e0∧s.least=0∧s.bf=0)∨(cD s.type=true∧0≤s.least∧s.least≤s.bf∧s.bf≤4)
structure mg (c:bP):Prop where
 ops:1≤c.op∧c.op≤8
 K4:je c.a
 KZ:(c.op≤6∧je c.b)∨(7≤c.op∧c.b=lD)
def lO (x:bi):Prop:=(x.name=e0∧x.key=e0)∨(bN x.name=true∧(x.key=e0∨bN x.key=true))
def lV (p:dR):Prop:=bN p.key=true∧oD p.val
namespace Pure
def dr (w:ByteArray):Tok:=((one w 0).map (·.2)).getD CH
theorem nu {w:ByteArray} {t:Tok} (h:ja w t):dr w=t:=by
 have:=h.cut w 0 (fun j _=>by rw[Nat.zero_add]) (by omega) (Or.inr (by omega))
 unfold dr
 rw[this];rfl
theorem AS {w:ByteArray} (h:w∈lits):w∈ah∨w∈marks:=List.mem_append.1 h
theorem Gx {w:ByteArray} (h:w∈lits):∃k,ja w ⟨k,w,0⟩:=by
 rcases AS h with h|h
 ·exact⟨1,JL h⟩
 ·exact⟨3,Hm h⟩
theorem yR {w:ByteArray} (h:w∈lits):(dr w).text=w:=by
 obtain⟨k,hk⟩:=Gx h
 rw[nu hk]
theorem j6 {w:ByteArray} (h:bN w=true):isWord w=true∧97≤bt w 0:=by
 unfold bN at h
 simpa using h
theorem mN {w:ByteArray} (h:cD w=true):isWord w=true∧bt w 0<97∧jm w=false:=by
 unfold cD at h
 simp only[Bool.and_eq_true,decide_eq_true_eq,Bool.not_eq_true'] at h
 exact⟨h.1.1,h.1.2,h.2⟩
theorem pE {w:ByteArray} (h:bN w=true):dr w=⟨1,w,0⟩:=nu (rG (j6 h).1)
theorem uU {w:ByteArray} (h:cD w=true):dr w=⟨1,w,0⟩:=nu (rG (mN h).1)
theorem BD {n:Int} (h:oD n):dr (dB n)=⟨2,dB n,n⟩:=nu (vC h.1 h.2)
def K (ws:List ByteArray):List Tok:=ws.map dr
theorem fv:K []=[]:=rfl
theorem cm (w:ByteArray) (r:List ByteArray):K (w::r)=dr w::K r:=rfl
theorem dE (a b:List ByteArray):K (a++b)=K a++K b:=by unfold K;rw[List.map_append]
theorem cj {w:ByteArray} (h:w∈lits) (r:List Tok):aE w ⟨dr w::r,false⟩=true:=by
 unfold aE;simp only[yR h];exact EW w
theorem dG {v w:ByteArray} (h:v∈lits) (r:List Tok):aE w ⟨dr v::r,false⟩=ik v w:=by
 unfold aE;simp only[yR h]
theorem bh {w:ByteArray} (h:w∈lits) (r:List Tok):ag w ⟨dr w::r,false⟩=⟨r,false⟩:=by
 unfold ag;rw[cj h,if_pos rfl];rfl
theorem vd {w:ByteArray} {st:RS} (h:aE w st=false):ag w st=st:=by unfold ag;rw[h];rfl
theorem bJ {w:ByteArray} (h:w∈lits) (r:List Tok):aD w ⟨dr w::r,false⟩=⟨r,false⟩:=by
 unfold aD;rw[cj h,if_pos rfl,bh h]
theorem AU:lits.all (fun w=>decide (bt w 0<97∨122<bt w 0))=true:=by decide +kernel
theorem uL {n w:ByteArray} (h:bN n=true) (hw:w∈lits) (r:List Tok):aE w ⟨dr n::r,false⟩=false:=by
 unfold aE
 simp only[pE h]
 cases he:ik n w
 ·rfl
 ·obtain rfl:=Fu he
  have h1:=List.all_eq_true.1 AU n hw
  simp only[decide_eq_true_eq] at h1
  have h2:=(j6 h).2
  have h3:=Ce (jX (j6 h).1).2.2.1
  omega
theorem iu {n:ByteArray} (h:bN n=true) (r:List Tok):du ⟨dr n::r,false⟩=(n,⟨r,false⟩):=by
 have hk:eL (dr n)=1:=by rw[pE h];unfold eL kQ;simp[h]
 unfold du dV gC
 simp only[hk,decide_true,if_true,List.headD_cons,List.tail_cons]
 rw[pE h]
theorem nR {n:ByteArray} (h:cD n=true) (r:List Tok):cN ⟨dr n::r,false⟩=(n,⟨r,false⟩):=by
 have hn:bN n=false:=by
  cases hx:bN n
  ·rfl
  ·have a:=(j6 hx).2;have b:=(mN h).2.1;omega
 have hk:eL (dr n)=2:=by rw[uU h];unfold eL kQ;simp[h,hn]
 unfold cN dV gC
 simp only[hk,decide_true,if_true,List.headD_cons,List.tail_cons]
 rw[uU h]
theorem yV {n:Int} (h:oD n):eL (dr (dB n))=4:=by rw[BD h];rfl
theorem o9 {n lo hi:Int} (h:oD n) (hlo:lo≤n) (hhi:n≤hi) (r:List Tok):bL lo hi ⟨dr (dB n)::r,false⟩=(n,⟨r,false⟩):=by
 have hk:=yV h
 have ht:dV 4 ⟨dr (dB n)::r,false⟩=(dr (dB n),⟨r,false⟩):=by
  unfold dV gC
  simp[hk]
 unfold bL
 rw[ht,BD h]
 simp only
 rw[if_neg (by omega)]
theorem dY:e0.toList.isEmpty=true:=by decide +kernel
theorem oF {w:ByteArray} (h:isWord w=true):w.toList.isEmpty=false:=by
 have:=(jX h).1
 cases he:w.toList.isEmpty
 ·rfl
 ·rw[ByteArray.toList_eq] at he
  have hl:=aZ w
  rw[List.isEmpty_iff.1 he] at hl
  simp at hl
  omega
theorem eo {w:ByteArray} (h:bN w=true):w.toList.isEmpty=false:=oF (j6 h).1
theorem kq {w:ByteArray} (h:cD w=true):w.toList.isEmpty=false:=oF (mN h).1
theorem BW {n k:ByteArray} (h1:bN n=true) (h2:bN k=true) (r:List Tok):iE ⟨dr n::dr eX::dr k::r,false⟩=((n,k),⟨r,false⟩):=by
 unfold iE
 simp only[iu h1,bJ (w:=eX) (by simp[lits]),iu h2]
theorem wG {t:gj} (h:je t) (r:List Tok):dM ⟨K (ig t)++r,false⟩=(t,⟨r,false⟩):=by
 rcases h with ⟨h1,h2,h3⟩|⟨h1,h2,h3⟩
 ·have hw:ig t=[dB t.val]:=by unfold ig;rw[h1,dY];rfl
  rw[hw,cm,fv,List.cons_append,List.nil_append]
  unfold dM
  have hs:gC 4 ⟨dr (dB t.val)::r,false⟩=true:=by unfold gC;simp[yV h3]
  rw[hs,if_pos rfl,o9 h3 h3.1 h3.2]
  cases t;simp only at h1 h2 h3⊢;rw[h1,h2]
 ·have hw:ig t=[t.name,eX,t.key]:=by unfold ig;rw[eo h1];rfl
  rw[hw]
  simp only[cm,fv,List.cons_append,List.nil_append]
  unfold dM
  have hs:gC 4 ⟨dr t.name::dr eX::dr t.key::r,false⟩=false:=by
   unfold gC;simp only[pE h1];unfold eL kQ;simp[h1]
  rw[hs,if_neg (by simp),BW h1 h2]
  cases t;simp only at h1 h2 h3⊢;rw[h3]
theorem wX {s:aN} (h:fU s) (x:aN) (hx:x.label=e0) (r:List Tok):cg x ⟨K (mU s)++r,false⟩=(⟨s.name,s.label,x.type,x.least,x.bf⟩,⟨r,false⟩):=by
 unfold mU
 rcases h.wy with hl|hl
 ·rw[hl,dY]
  simp only[if_true,List.nil_append,List.cons_append,cm,fv]
  unfold cg
  simp only[bJ (w:=bE) (by simp[lits]),iu h.IM,dG (v:=bA) (w:=bX) (by simp[lits]),show ik bA bX=false by decide +kernel,Bool.false_eq_true,if_false,bJ (w:=bA) (by simp[lits]),hx]
 ·rw[kq hl]
  simp only[Bool.false_eq_true,if_false,List.nil_append,List.cons_append,cm,fv]
  unfold cg
  simp only[bJ (w:=bE) (by simp[lits]),iu h.IM,cj (w:=bX) (by simp[lits]),bh (w:=bX) (by simp[lits]),nR hl,if_true,bJ (w:=bA) (by simp[lits])]
theorem oa {n:Int} (h0:0≤n) (h4:n≤4):oD n:=⟨by omega,by omega⟩
theorem Ik {s:aN} (ht:cD s.type=true) (h0:0≤s.least) (h1:s.least≤s.bf) (h4:s.bf≤4) (r:List Tok):gv (ag jG ⟨K (pO s)++r,false⟩)=(⟨e0,e0,s.type,s.least,s.bf⟩,⟨r,false⟩):=by
 unfold pO
 by_cases hs:s.least=1∧s.bf=1
 ·rw[if_pos hs]
  simp only[List.nil_append,List.cons_append,cm,fv]
  rw[bh (by simp[lits])]
  unfold gv jR
  simp only[nR ht,dG (v:=da) (w:=dU) (by simp[lits]),show ik da dU=false by decide +kernel,Bool.false_eq_true,if_false,bJ (w:=da) (by simp[lits]),hs.1,hs.2]
 ·rw[if_neg hs]
  simp only[List.nil_append,List.cons_append,cm,fv]
  rw[bh (by simp[lits])]
  unfold gv jR
  simp only[nR ht,cj (w:=dU) (by simp[lits]),bh (w:=dU) (by simp[lits]),if_true,o9 (oa h0 (by omega)) h0 (show s.least≤4 by omega),bJ (w:=kw) (by simp[lits]),o9 (oa (by omega) h4) h1 h4,bJ (w:=da) (by simp[lits])]
theorem Jz {s:aN} (h:fU s) (ht:cD s.type=true) (h0:0≤s.least) (h1:s.least≤s.bf) (h4:s.bf≤4) (r:List Tok):ov (ag jG ⟨K (pO s++mU s)++r,false⟩)=(s,⟨r,false⟩):=by
 unfold ov
 rw[dE,List.append_assoc,Ik ht h0 h1 h4,wX h _ rfl]
end Pure
structure gK (q:au):Prop where
 ai:∀s∈q.ai,fU s
 first:∃s r,q.ai=s::r∧s.type=e0
 qW:q.ai.length≤6
 conds:∀c∈q.conds,mg c
 qY:q.conds.length≤6
def nO (q:au):Prop:=
 gK q∧(∀x∈q.items,lO x)∧q.items≠[]∧q.items.length≤6∧0≤q.order∧q.order≤q.items.length∧(q.order=0→q.down=false)∧0≤q.skip∧q.skip≤1000000000∧(q.bR=-1∨(0≤q.bR∧q.bR≤1000000000))
  ∧ q=⟨1,q.ai,q.conds,q.items,q.order,q.down,q.skip,q.bR,e0,e0,lD,e0,e0,e0,[]⟩
def mM (q:au):Prop:=
 gK q∧bN q.name=true∧bN q.key=true∧je q.value∧q=⟨2,q.ai,q.conds,[],0,false,0,0,q.name,q.key,q.value,e0,e0,e0,[]⟩
def kz (q:au):Prop:=
 gK q∧bN q.name=true∧q=⟨3,q.ai,q.conds,[],0,false,0,0,q.name,e0,lD,e0,e0,e0,[]⟩
def km (q:au):Prop:=
 gK q∧bN q.name=true∧cD q.type=true∧bN q.dest=true∧q=⟨4,q.ai,q.conds,[],0,false,0,0,q.name,e0,lD,q.type,q.dest,e0,[]⟩
def iS (q:au):Prop:=
 cD q.label=true∧(∀p∈q.ay,lV p)∧q.ay.length≤6∧dK [] q.ay=false∧q=⟨5,[],[],[],0,false,0,0,e0,e0,lD,e0,e0,q.label,q.ay⟩
def tQ (q:au):Prop:=bN q.name=true∧q=⟨6,[],[],[],0,false,0,0,q.name,e0,lD,e0,e0,e0,[]⟩
def jk (q:au):Prop:=nO q∨mM q∨kz q∨km q∨iS q∨tQ q
namespace Pure
def fK (bad:List ByteArray) (r:List Tok):Prop:=∀w∈bad,aE w ⟨r,false⟩=false
theorem lG (bad:List ByteArray):fK bad []:=fun _ _=>rfl
theorem qu {bad:List ByteArray} {v:ByteArray} (h:v∈lits) (hb:(bad.all fun w=>!ik v w)=true) (r:List Tok):fK bad (dr v::r):=by
 intro w hw
 rw[dG h]
 have:=List.all_eq_true.1 hb w hw
 simpa using this
theorem yQ {s:aN} (h:s.type=e0):iV false s=aK::mU s:=by
 unfold iV;rw[h,dY];rfl
theorem sf {b:Bool} {s:aN} (h:cD s.type=true):iV b s=pO s++mU s:=by
 unfold iV;rw[kq h];rfl
theorem yK:∀(l:List aN) (n:Nat) (out:List aN) (r:List Tok),(∀s∈l,fU s)→fK [aK,jG] r→l.length≤n→aT n out ⟨K (bT iV false l)++r,false⟩=(out++l,⟨r,false⟩)
 | [],n,out,r,_,hr,_=>by
  have h1:=hr aK (by simp)
  have h2:=hr jG (by simp)
  rw[bT,fv,List.nil_append,List.append_nil]
  cases n with
  | zero=>rfl
  | succ n=>unfold aT;rw[h1,h2];simp
 | s::l,0,out,r,_,_,hn=>by simp at hn
 | s::l,n+1,out,r,hs,hr,hn=>by
  have hg:=hs s (by simp)
  have ih:=fun out=>yK l n out r (fun x hx=>hs x (by simp[hx])) hr (by simp at hn;omega)
  rw[bT,dE,List.append_assoc]
  rcases hg.KX with ⟨t0,t1,t2⟩|⟨t0,t1,t2,t3⟩
  ·rw[yQ t0,cm,List.cons_append]
   unfold aT
   rw[cj (w:=aK) (by simp[lits]),if_pos rfl,bh (by simp[lits]),wX hg cq rfl,ih]
   have:(⟨s.name,s.label,cq.type,cq.least,cq.bf⟩:aN)=s:=by
    cases s;simp only at t0 t1 t2;subst t0;subst t1;subst t2;rfl
   rw[this,List.append_assoc];rfl
  ·rw[sf t0]
   have hp:K (pO s++mU s)++(K (bT iV false l)++r)=dr jG::(K (((s.type::((if s.least=1∧s.bf=1 then [] else [dU,dB s.least,kw,dB s.bf])++[da])))++mU s)++(K (bT iV false l)++r)):=by
    unfold pO;simp only[List.cons_append,List.nil_append,cm]
   have hh:=Jz hg t0 t1 t2 t3 (K (bT iV false l)++r)
   unfold aT
   rw[hh]
   rw[hp,dG (v:=jG) (w:=aK) (by simp[lits]),show ik jG aK=false by decide +kernel,if_neg (by simp),cj (w:=jG) (by simp[lits]),if_pos rfl,ih,List.append_assoc];rfl
theorem rV {α:Type} (f:Bool→α→List ByteArray) (hf:∀b x,1≤(f b x).length):∀(l:List α) (b:Bool),l.length≤(bT f b l).length
 | [],_=>Nat.le_refl _
 | x::l,b=>by
  rw[bT,List.length_append,List.length_cons]
  have:=rV f hf l false
  have:=hf b x
  omega
theorem xO (l:List ByteArray):(K l).length=l.length:=by unfold K;rw[List.length_map]
theorem yS {s:aN} {l:List aN} (hs:∀x∈s::l,fU x) (h0:s.type=e0) (hn:(s::l).length≤6) {r:List Tok} (hr:fK [aK,jG] r):eE ⟨K (bT iV true (s::l))++r,false⟩=(s::l,⟨r,false⟩):=by
 have hg:=hs s (by simp)
 have ht:s.least=0∧s.bf=0:=by
  rcases hg.KX with ⟨_,b,c⟩|⟨t0,_⟩
  ·exact⟨b,c⟩
  ·rw[h0] at t0;exact absurd t0 (by decide +kernel)
 have e:(⟨s.name,s.label,cq.type,cq.least,cq.bf⟩:aN)=s:=by
  cases s;simp only at h0 ht;obtain⟨a,b⟩:=ht;subst h0;subst a;subst b;rfl
 have hw:bT iV true (s::l)=mU s++bT iV false l:=by
  rw[bT];unfold iV;rw[h0,dY];rfl
 have hlen:l.length≤(K (bT iV false l)++r).length:=by
  rw[List.length_append,xO]
  have:=rV iV (fun b x=>by unfold iV mU;simp;omega) l false
  omega
 unfold eE
 rw[hw,dE,List.append_assoc,wX hg cq rfl]
 simp only
 rw[yK l _ _ r (fun x hx=>hs x (by simp[hx])) hr hlen,e]
 simp only[List.cons_append,List.nil_append]
 rw[if_neg (by omega)]
theorem BR {α:Type} {one:RS→α × RS} {sep:ByteArray} {g:α→List ByteArray} {bad:List ByteArray} (hsep:sep∈lits) (hb:(bad.all fun w=>!ik sep w)=true):∀(l:List α),(∀x∈l,∀r,fK bad r→one ⟨K (g x)++r,false⟩=(x,⟨r,false⟩))→∀(n:Nat) (out:List α) (r:List Tok),fK bad r→aE sep ⟨r,false⟩=false→l.length≤n→
  bz one sep n out ⟨K (l.flatMap fun x=>sep::g x)++r,false⟩=(out++l,⟨r,false⟩)
 | [],_,n,out,r,_,hp,_=>by
  rw[List.flatMap_nil,fv,List.nil_append,List.append_nil]
  cases n with
  | zero=>rfl
  | succ n=>unfold bz;rw[hp];simp
 | x::l,_,0,_,_,_,_,hn=>by simp at hn
 | x::l,h,n+1,out,r,hr,hp,hn=>by
  rw[List.flatMap_cons,List.cons_append,cm,List.cons_append,dE,List.append_assoc]
  have hst:fK bad (K (l.flatMap fun x=>sep::g x)++r):=by
   cases l with
   | nil=>rw[List.flatMap_nil,fv,List.nil_append];exact hr
   | cons y l=>rw[List.flatMap_cons,List.cons_append,cm,List.cons_append];exact qu hsep hb _
  unfold bz
  rw[cj hsep,if_pos rfl,bh hsep,h x (by simp) _ hst,BR hsep hb l (fun y hy=>h y (by simp[hy])) n _ r hr hp (by simp at hn;omega),List.append_assoc];rfl
theorem sF {α:Type} {one:RS→α × RS} {sep:ByteArray} {g:α→List ByteArray} {bad:List ByteArray} (hsep:sep∈lits) (hb:(bad.all fun w=>!ik sep w)=true) {x:α} {l:List α} (h:∀y∈x::l,∀r,fK bad r→one ⟨K (g y)++r,false⟩=(y,⟨r,false⟩)) (hn:(x::l).length≤6) {r:List Tok} (hr:fK bad r) (hp:aE sep ⟨r,false⟩=false):
  eO one sep 6 ⟨K (g x++l.flatMap fun x=>sep::g x)++r,false⟩=(x::l,⟨r,false⟩):=by
 have hst:fK bad (K (l.flatMap fun x=>sep::g x)++r):=by
  cases l with
  | nil=>rw[List.flatMap_nil,fv,List.nil_append];exact hr
  | cons y l=>rw[List.flatMap_cons,List.cons_append,cm,List.cons_append];exact qu hsep hb _
 have hlen:l.length≤(K (l.flatMap fun x=>sep::g x)++r).length:=by
  rw[List.length_append,xO]
  have:∀l:List α,l.length≤(l.flatMap fun x=>sep::g x).length:=by
   intro l
   induction l with
   | nil=>exact Nat.le_refl _
   | cons y l ih=>rw[List.flatMap_cons,List.length_append,List.length_cons,List.length_cons];omega
  have:=this l
  omega
 unfold eO
 rw[dE,List.append_assoc,h x (by simp) _ hst]
 simp only
 rw[BR hsep hb l (fun y hy=>h y (by simp[hy])) _ _ r hr hp hlen]
 simp only[List.cons_append,List.nil_append]
 rw[if_neg (by omega)]
theorem JX {c:bP} (h:1≤c.op∧c.op≤6) (r:List Tok):dt mY 1 ⟨dr (lR c.op)::r,false⟩=(c.op,⟨r,false⟩):=by
 have hop:c.op=1∨c.op=2∨c.op=3∨c.op=4∨c.op=5∨c.op=6:=by omega
 have y:∀{m:ByteArray} {r2:List ByteArray} {i:Int},m∈lits→dt (m::r2) i ⟨dr m::r,false⟩=(i,⟨r,false⟩):=by
  intro m r2 i hm
  unfold dt;rw[cj hm,if_pos rfl,bh hm]
 have n:∀{v m:ByteArray} {r2:List ByteArray} {i:Int},v∈lits→ik v m=false→dt (m::r2) i ⟨dr v::r,false⟩=dt r2 (i+1) ⟨dr v::r,false⟩:=by
  intro v m r2 i hv e
  rw[dt,dG hv,e,if_neg (by simp)]
 unfold mY
 rcases hop with e|e|e|e|e|e<;>rw[e]
 ·rw[show lR 1=tT from rfl]
  exact y (by simp[lits])
 ·rw[show lR 2=D7 from rfl]
  exact(n (by simp[lits]) (by decide +kernel)).trans (y (by simp[lits]))
 ·rw[show lR 3=D9 from rfl]
  exact(n (by simp[lits]) (by decide +kernel)).trans ((n (by simp[lits]) (by decide +kernel)).trans (y (by simp[lits])))
 ·rw[show lR 4=D2 from rfl]
  exact(n (by simp[lits]) (by decide +kernel)).trans ((n (by simp[lits]) (by decide +kernel)).trans ((n (by simp[lits]) (by decide +kernel)).trans (y (by simp[lits]))))
 ·rw[show lR 5=D4 from rfl]
  exact(n (by simp[lits]) (by decide +kernel)).trans ((n (by simp[lits]) (by decide +kernel)).trans ((n (by simp[lits]) (by decide +kernel)).trans ((n (by simp[lits]) (by decide +kernel)).trans (y (by simp[lits])))))
 ·rw[show lR 6=D3 from rfl]
  exact(n (by simp[lits]) (by decide +kernel)).trans ((n (by simp[lits]) (by decide +kernel)).trans ((n (by simp[lits]) (by decide +kernel)).trans ((n (by simp[lits]) (by decide +kernel)).trans ((n (by simp[lits]) (by decide +kernel)).trans (y (by simp[lits]))))))
theorem uI {op:Int} (h:1≤op∧op≤6):lR op∈lits∧ik (lR op) ng=false:=by
 have hop:op=1∨op=2∨op=3∨op=4∨op=5∨op=6:=by omega
 rcases hop with e|e|e|e|e|e<;>subst e<;>exact⟨by simp[lits,lR],by decide +kernel⟩
theorem Hr {c:bP} (h:mg c) (r:List Tok):fR ⟨K (ig c.a++xN c)++r,false⟩=(c,⟨r,false⟩):=by
 rw[dE,List.append_assoc]
 unfold fR
 rw[wG h.K4]
 simp only
 rcases h.KZ with ⟨h6,hb⟩|⟨h7,hb⟩
 ·have hw:xN c=lR c.op::ig c.b:=by unfold xN;rw[if_neg (by omega),if_neg (by omega)]
  obtain⟨hm,hk⟩:=uI (op:=c.op) ⟨h.ops.1,h6⟩
  rw[hw,cm,List.cons_append,dG hm,hk,if_neg (by simp),JX ⟨h.ops.1,h6⟩,wG hb]
 ·have hop:c.op=7∨c.op=8:=by have:=h.ops;omega
  rcases hop with e|e
  ·have hw:xN c=[ng,il]:=by unfold xN;rw[if_pos e]
   rw[hw,show K [ng,il]++r=dr ng::dr il::r from rfl]
   rw[cj (by simp[lits,ah]),if_pos rfl,bh (by simp[lits,ah]),dG (v:=il) (w:=jo) (by simp[lits,ah]),show ik il jo=false by decide +kernel,vd (by rw[dG (v:=il) (w:=jo) (by simp[lits,ah])];decide +kernel),bJ (by simp[lits,ah])]
   cases c;simp only at e hb;subst e;subst hb;rfl
  ·have hw:xN c=[ng,jo,il]:=by unfold xN;rw[if_neg (by omega),if_pos e]
   rw[hw,show K [ng,jo,il]++r=dr ng::dr jo::dr il::r from rfl]
   rw[cj (by simp[lits,ah]),if_pos rfl,bh (by simp[lits,ah]),cj (w:=jo) (by simp[lits,ah]),bh (w:=jo) (by simp[lits,ah]),bJ (by simp[lits,ah])]
   cases c;simp only at e hb;subst e;subst hb;rfl
theorem Il {x:bi} (h:lO x) (r:List Tok) (hr:fK [eX] r):fS ⟨K (xq x)++r,false⟩=(x,⟨r,false⟩):=by
 unfold xq
 rcases h with ⟨h1,h2⟩|⟨h1,h2|h2⟩
 ·rw[h1,dY,if_pos rfl]
  simp only[cm,fv,List.cons_append,List.nil_append]
  unfold fS
  rw[cj (by simp[lits,ah]),if_pos rfl,bh (by simp[lits,ah])]
  cases x;simp only at h1 h2;subst h1;subst h2;rfl
 ·rw[eo h1,h2,dY]
  simp only[Bool.false_eq_true,if_false,if_true,cm,fv,List.cons_append,List.nil_append]
  unfold fS
  rw[uL h1 (by simp[lits,ah]),if_neg (by simp),iu h1]
  simp only
  rw[hr eX (by simp),if_neg (by simp)]
  cases x;simp only at h2;subst h2;rfl
 ·rw[eo h1,eo h2]
  simp only[Bool.false_eq_true,if_false,cm,fv,List.cons_append,List.nil_append]
  unfold fS
  rw[uL h1 (by simp[lits,ah]),if_neg (by simp),iu h1]
  simp only
  rw[cj (by simp[lits]),if_pos rfl,bh (by simp[lits]),iu h2]
theorem IA {p:dR} (h:lV p) (r:List Tok):fu ⟨K [p.key,bX,dB p.val]++r,false⟩=(p,⟨r,false⟩):=by
 simp only[cm,fv,List.cons_append,List.nil_append]
 unfold fu
 simp only[iu h.1,bJ (w:=bX) (by simp[lits]),o9 h.2 h.2.1 h.2.2]
end Pure
end Go.Proofs.YtobgbmfpicmpcaaGreatDoor
