/- The program's 'token': the machine of states cuts the token that begins at its place, or tells that there is none. -/
import Derived.Test.YtobgbmfpicmpcaaGreatDoorC18
import Derived.WalkMore
import Derived.Lib.Hide
import Derived.Deep.LoopGhost
set_option maxRecDepth 100000
set_option maxHeartbeats 8000000
namespace Go.Proofs.YtobgbmfpicmpcaaGreatDoor
open Go.Lib (hid)
section
open Go.RowKit
def Fr (b:Nat) (a:Act):Prop:=
 ∃u3 u4 u5 u6 u7 u8 u9 u10 u11 u12 u13 u14 u15 u16 u17 u18 u19 u20 u21 u22 u23 u24 u25 u26 u27 u28 u29 u30 u31 u32 u33 u34 u35 u36 u37 u38 u39 u40 u41 u42 u43 u44 u45 u46 u47 u48 u49 u50 u51 u52 u53 u54 u55 u56 u57 u58 u59 u60 u61 u62 u63 u64 u65 u66 u67 u68 u69 u70 u71 u72:Value,a={tmps:=#[.pointer (some ⟨b,0,none⟩),undef,.bool false,u3,u4,u5,u6,u7,u8,u9,u10,u11,u12,u13,u14,u15,u16,u17,u18,u19,u20,u21,u22,u23,u24,u25,u26,u27,u28,u29,u30,u31,u32,u33,u34,u35,u36,u37,u38,u39,u40,u41,u42,u43,u44,u45,u46,u47,u48,u49,u50,u51,u52,u53,u54,u55,u56,u57,u58,u59,u60,u61,u62,u63,u64,u65,u66,u67,u68,u69,u70,u71,u72],defers:=[]}
def JT (w0:World) (b:Nat) (s:ByteArray) (k:Nat) (acc:List Tok) (l n:Nat) (a:Act) (W:World):Prop:=
 Fr b a∧match l with
 | 0=>∃e:Nat,k<e∧e≤s.size∧n=s.size - e+1∧span gU s e=span gU s k∧eQ (bt s k)=true∧Inv w0 b s (k:Nat) (e:Nat) acc W
 | 1=>∃e:Nat,k<e∧e≤s.size∧n=s.size - e+1∧span cH s e=span cH s (k+1)∧iT s k∧eQ (bt s k)=false∧Inv w0 b s (k:Nat) (e:Nat) acc W
 | 2=>n=s.size+2∧bt s k=45∧Inv w0 b s (k:Nat) ((k+1:Nat):Int) acc W
 | 3=>n=1∧bt s k=93∧Inv w0 b s (k:Nat) ((k+1:Nat):Int) acc W
 | 4=>n=1∧bt s k=46∧Inv w0 b s (k:Nat) ((k+1:Nat):Int) acc W
 | 5=>n=2∧bt s k=60∧Inv w0 b s (k:Nat) ((k+1:Nat):Int) acc W
 | 6=>n=1∧(bt s k=62∨(bt s k=60∧bt s (k+1)≠62))∧Inv w0 b s (k:Nat) ((k+1:Nat):Int) acc W
 | 7=>n=0∧eQ (bt s k)=false∧¬iT s k∧0<aY s k∧Inv w0 b s (k:Nat) ((k+aY s k:Nat):Int) acc W
 | _=>False
def DK (w0:World) (b:Nat) (s:ByteArray) (k:Nat) (acc:List Tok) (e:Ending) (W:World):Prop:=
 (e=.returned (.bool true)∧∃en t,one s k=some (en,t)∧Inv w0 b s (k:Nat) (en:Nat) (acc++[t]) W)∨
 (e=.returned (.bool false)∧one s k=none∧Below w0.heap.size w0 W)
def wQ (c o:Int):Prop:=
 (o=0→eQ c=false∧cH c=false∧c≠45∧c≠93∧c≠46∧c≠60∧c≠62∧c≠40∧c≠41∧c≠58∧c≠44∧c≠61∧c≠42∧c≠123∧c≠125)∧
 (o=1→eQ c=true)∧(o=2→cH c=true∧eQ c=false)∧(o=3→c=45)∧(o=4→c=93)∧(o=5→c=46)∧(o=6→c=60)∧(o=7→c=62)∧
 (o=8→c=40∨c=41∨c=58∨c=44∨c=61∨c=42∨c=123∨c=125)
theorem Ju (c:Int):wQ c (jE c):=by
 unfold wQ jE
 by_cases h1:c=45
 ·subst h1;simp
 by_cases h2:c=93
 ·subst h2;simp
 by_cases h3:c=46
 ·subst h3;simp
 by_cases h4:c=60
 ·subst h4;simp
 by_cases h5:c=62
 ·subst h5;simp
 rw[if_neg h1,if_neg h2,if_neg h3,if_neg h4,if_neg h5]
 by_cases h6:c=40∨c=41∨c=58∨c=44∨c=61∨c=42∨c=123∨c=125
 ·rw[if_pos h6];simp;exact h6
 ·rw[if_neg h6]
  cases hl:eQ c with
  | true=>simp
  | false=>
   cases hd:cH c with
   | true=>simp
   | false=>simp;omega
theorem ne_of_beq_false {x y:Int} (h:(x==y)=false):x≠y:=by simpa using h
theorem CU (c:Int):jE c=0∨jE c=1∨jE c=2∨jE c=3∨jE c=4∨jE c=5∨jE c=6∨jE c=7∨jE c=8:=by
 unfold jE;repeat' split
 all_goals simp
theorem im {s:ByteArray} {k:Nat} (h1:¬(48≤bt s k∧bt s k≤57)) (h2:bt s k≠45∨cH (bt s (k+1))=false):¬iT s k:=by
 rintro (h|⟨h,h3⟩)
 ·exact h1 (pt h)
 ·rcases h2 with h2|h2
  ·exact h2 h
  ·rw[h2] at h3;cases h3
theorem KB {s:ByteArray} {k:Nat} (h:bt s k≠45∧bt s k≠93∧bt s k≠46∧bt s k≠60∧bt s k≠62∧bt s k≠40∧bt s k≠41∧bt s k≠58∧bt s k≠44∧bt s k≠61∧bt s k≠42∧bt s k≠123∧bt s k≠125):aY s k=0:=by
 unfold aY
 simp only
 repeat' split
 all_goals omega
theorem l9 {s:ByteArray} {k:Nat} (h:bt s k=40∨bt s k=41∨bt s k=58∨bt s k=44∨bt s k=61∨bt s k=42∨bt s k=123∨bt s k=125):aY s k=1:=by
 unfold aY
 simp only
 repeat' split
 all_goals omega
theorem token {w0 W:World} {ev:Value} (hg:w0.cell? ⟨5,0,none⟩=some ev) (hev:ev=.nilIface∨∃te pe,ev=.iface te pe) {b:Nat} {s:ByteArray} {f:Int} {k:Nat} {acc:List Tok}
  (hinv:Inv w0 b s f (k:Nat) acc W) (hs:s.size≤2000) (hk:k<s.size) (hal:acc.length≤2000):
  Calls Tryz.prog 154 #[.pointer (some ⟨b,0,none⟩)] W (DK w0 b s k acc):=by
 have HG:Hid (w0.cell? ⟨5,0,none⟩=some ev):=hg
 have HEV:Hid (ev=.nilIface∨∃te pe,ev=.iface te pe):=hev
 clear hg hev
 go_enter Tryz.func154,Tryz.ntmps154
 go_wp2
 refine rr (JT w0 b s k acc) ?_ ?_
 ·have HI:Hid (Inv w0 b s f (k:Nat) acc W):=hinv
  obtain⟨lv,hx,ho⟩:=hinv.cut
  obtain⟨c0,c1,c2,c3⟩:=hx.cells
  have f1:=hx.free 1
  have f2:=hx.free 2
  clear hinv hx ho c3
  go_wp2
  have hI1:Inv w0 b s (k:Nat) ((k+1:Nat):Int) acc ((W.setCell ⟨b,1,none⟩ (.int .i64 (k:Int))).setCell ⟨b,2,none⟩ (.int .i64 ((k:Int)+1))):=by
   rw[show ((k+1:Nat):Int)=(k:Int)+1 from by omega]
   exact(HI.out.wT (k:Int)).setAt ((k:Int)+1)
  generalize (W.setCell ⟨b,1,none⟩ (.int .i64 (k:Int))).setCell ⟨b,2,none⟩ (.int .i64 ((k:Int)+1))=W1 at hI1⊢
  clear HI c0 c1 c2 f1 f2
  have HI:Hid (Inv w0 b s (k:Nat) ((k+1:Nat):Int) acc W1):=hI1
  obtain⟨lv1,hx,ho⟩:=hI1.cut
  obtain⟨c0,c1,c2,c3⟩:=hx.cells
  clear hI1 hx ho c2 c3
  have HC:Hid (wQ (bt s k) (jE (bt s k))):=Ju _
  have hopen:=CU ((s[k]'hk).toNat:Int)
  go_quiet ((go_at_call 213;exact Calls.quiet_of_same (Hy _ _)))
  rcases hopen with ho|ho|ho|ho|ho|ho|ho|ho|ho
  all_goals
   have HO:Hid (wQ (bt s k) (jE ((s[k]'hk).toNat:Int))):=by rw[gl hk];exact HC.out
   rw[ho] at HO
   clear HC
  ·go_wp2
   simp only[fE]
   go_ret
   obtain⟨h1,h2,h3⟩:=HO.out.1 rfl
   have h4:=Bl h2
   exact Or.inr ⟨rfl,jT h1 (im h4 (Or.inl h3.1)) (KB h3),(HI.out.drew nq).below⟩
  ·go_wp2
   go_step3
   have h1:=HO.out.2.1 rfl
   exact⟨_,⟨_,_,_,_,_,_,_,_,_,_,_,_,_,_,_,_,_,_,_,_,_,_,_,_,_,_,_,_,_,_,_,_,_,_,_,_,_,_,_,_,_,_,_,_,_,_,_,_,_,_,_,_,_,_,_,_,_,_,_,_,_,_,_,_,_,_,_,_,_,_,rfl⟩,k+1,by omega,by omega,rfl,(iP hk (by unfold gU;rw[h1];rfl)).symm,h1,HI.out.drew nq⟩
  ·go_wp2
   go_step3
   have h1:=HO.out.2.2.1 rfl
   exact⟨_,⟨_,_,_,_,_,_,_,_,_,_,_,_,_,_,_,_,_,_,_,_,_,_,_,_,_,_,_,_,_,_,_,_,_,_,_,_,_,_,_,_,_,_,_,_,_,_,_,_,_,_,_,_,_,_,_,_,_,_,_,_,_,_,_,_,_,_,_,_,_,_,rfl⟩,k+1,by omega,by omega,rfl,rfl,Or.inl h1.1,h1.2,HI.out.drew nq⟩
  ·go_wp2
   go_step3
   exact⟨_,⟨_,_,_,_,_,_,_,_,_,_,_,_,_,_,_,_,_,_,_,_,_,_,_,_,_,_,_,_,_,_,_,_,_,_,_,_,_,_,_,_,_,_,_,_,_,_,_,_,_,_,_,_,_,_,_,_,_,_,_,_,_,_,_,_,_,_,_,_,_,_,rfl⟩,rfl,HO.out.2.2.2.1 rfl,HI.out.drew nq⟩
  ·go_wp2
   go_step3
   exact⟨_,⟨_,_,_,_,_,_,_,_,_,_,_,_,_,_,_,_,_,_,_,_,_,_,_,_,_,_,_,_,_,_,_,_,_,_,_,_,_,_,_,_,_,_,_,_,_,_,_,_,_,_,_,_,_,_,_,_,_,_,_,_,_,_,_,_,_,_,_,_,_,_,rfl⟩,rfl,HO.out.2.2.2.2.1 rfl,HI.out.drew nq⟩
  ·go_wp2
   go_step3
   exact⟨_,⟨_,_,_,_,_,_,_,_,_,_,_,_,_,_,_,_,_,_,_,_,_,_,_,_,_,_,_,_,_,_,_,_,_,_,_,_,_,_,_,_,_,_,_,_,_,_,_,_,_,_,_,_,_,_,_,_,_,_,_,_,_,_,_,_,_,_,_,_,_,_,rfl⟩,rfl,HO.out.2.2.2.2.2.1 rfl,HI.out.drew nq⟩
  ·go_wp2
   go_step3
   exact⟨_,⟨_,_,_,_,_,_,_,_,_,_,_,_,_,_,_,_,_,_,_,_,_,_,_,_,_,_,_,_,_,_,_,_,_,_,_,_,_,_,_,_,_,_,_,_,_,_,_,_,_,_,_,_,_,_,_,_,_,_,_,_,_,_,_,_,_,_,_,_,_,_,rfl⟩,rfl,HO.out.2.2.2.2.2.2.1 rfl,HI.out.drew nq⟩
  ·go_wp2
   go_step3
   exact⟨_,⟨_,_,_,_,_,_,_,_,_,_,_,_,_,_,_,_,_,_,_,_,_,_,_,_,_,_,_,_,_,_,_,_,_,_,_,_,_,_,_,_,_,_,_,_,_,_,_,_,_,_,_,_,_,_,_,_,_,_,_,_,_,_,_,_,_,_,_,_,_,_,rfl⟩,rfl,Or.inl (HO.out.2.2.2.2.2.2.2.1 rfl),HI.out.drew nq⟩
  ·go_wp2
   go_step3
   have h1:=HO.out.2.2.2.2.2.2.2.2 rfl
   have h2:=l9 h1
   exact⟨_,⟨_,_,_,_,_,_,_,_,_,_,_,_,_,_,_,_,_,_,_,_,_,_,_,_,_,_,_,_,_,_,_,_,_,_,_,_,_,_,_,_,_,_,_,_,_,_,_,_,_,_,_,_,_,_,_,_,_,_,_,_,_,_,_,_,_,_,_,_,_,_,rfl⟩,rfl,ef (by omega),im (by omega) (Or.inl (by omega)),by omega,by rw[h2];exact HI.out.drew nq⟩
 ·intro n l a' W' hJ
  obtain⟨hfr,hj⟩:=hJ
  obtain⟨u3,u4,u5,u6,u7,u8,u9,u10,u11,u12,u13,u14,u15,u16,u17,u18,u19,u20,u21,u22,u23,u24,u25,u26,u27,u28,u29,u30,u31,u32,u33,u34,u35,u36,u37,u38,u39,u40,u41,u42,u43,u44,u45,u46,u47,u48,u49,u50,u51,u52,u53,u54,u55,u56,u57,u58,u59,u60,u61,u62,u63,u64,u65,u66,u67,u68,u69,u70,u71,u72,rfl⟩:=hfr
  match l,hj with
  | 0,hj=>
   obtain⟨e,he1,he2,rfl,hsp,hl,hI⟩:=hj
   have HI:Hid (Inv w0 b s (k:Nat) (e:Nat) acc W'):=hI
   have HSP:Hid (span gU s e=span gU s k):=hsp
   have HL:Hid (eQ (bt s k)=true):=hl
   clear hI hsp hl
   refine⟨_,rfl,?_⟩
   cases hel:eQ (bt s e) with
   | true=>
    have HX:Hid (eQ (bt s e)=true):=hel
    have het:e<s.size:=gF hel xt
    have HST:Hid (span gU s (e+1)=span gU s k):=by show _=_;rw[←HSP.out];exact(iP het (by unfold gU;rw[hel];rfl)).symm
    clear hel
    go_wp2_with (first|(go_at_call_of 211 (Value.func (Fn.func (204:Nat)) #[] #[]);refine(ur HI.out hs HX.out).mono ?_;rintro e1 W1 ⟨rfl,hI1⟩;have HI1:=hid hI1;clear hI1))
    go_step3
    exact⟨_,by omega,⟨_,_,_,_,_,_,_,_,_,_,_,_,_,_,_,_,_,_,_,_,_,_,_,_,_,_,_,_,_,_,_,_,_,_,_,_,_,_,_,_,_,_,_,_,_,_,_,_,_,_,_,_,_,_,_,_,_,_,_,_,_,_,_,_,_,_,_,_,_,_,rfl⟩,e+1,by omega,by omega,rfl,HST.out,HL.out,HI1.out⟩
   | false=>
    have HX:Hid (eQ (bt s e)=false):=hel
    cases hed:cH (bt s e) with
    | true=>
     have HY:Hid (cH (bt s e)=true):=hed
     have het:e<s.size:=gF hed pQ
     have HST:Hid (span gU s (e+1)=span gU s k):=by show _=_;rw[←HSP.out];exact(iP het (by unfold gU;rw[hel,hed];rfl)).symm
     clear hel hed
     go_wp2_with (first|(go_at_call_of 211 (Value.func (Fn.func (204:Nat)) #[] #[]);refine(mE HI.out he2 HX.out).mono ?_;rintro e1 W1 ⟨rfl,hI1⟩;have HI1:=hid hI1;clear hI1)|(go_at_call_of 211 (Value.func (Fn.func (205:Nat)) #[] #[]);refine(mz HI1.out hs HY.out).mono ?_;rintro e2 W2 ⟨rfl,hI2⟩;have HI2:=hid hI2;clear hI2))
     go_step3
     exact⟨_,by omega,⟨_,_,_,_,_,_,_,_,_,_,_,_,_,_,_,_,_,_,_,_,_,_,_,_,_,_,_,_,_,_,_,_,_,_,_,_,_,_,_,_,_,_,_,_,_,_,_,_,_,_,_,_,_,_,_,_,_,_,_,_,_,_,_,_,_,_,_,_,_,_,rfl⟩,e+1,by omega,by omega,rfl,HST.out,HL.out,HI2.out⟩
    | false=>
     have HY:Hid (cH (bt s e)=false):=hed
     have HE:Hid (span gU s k=e):=by show _=_;rw[←HSP.out];exact jw (fun _=>by unfold gU;rw[hel,hed];rfl)
     clear hel hed
     by_cases h8:8<e - k
     ·have HONE:Hid (one s k=none):=wq hk (by rw[gl hk];exact HL.out) HE.out h8
      go_wp2_with (first|(go_at_call_of 211 (Value.func (Fn.func (204:Nat)) #[] #[]);refine(mE HI.out he2 HX.out).mono ?_;rintro e1 W1 ⟨rfl,hI1⟩;have HI1:=hid hI1;clear hI1)|(go_at_call_of 211 (Value.func (Fn.func (205:Nat)) #[] #[]);refine(jD HI1.out he2 HY.out).mono ?_;rintro e2 W2 ⟨rfl,hI2⟩;have HI2:=hid hI2;clear hI2)|(go_at_call 214;refine(CM HI2.out hs (by omega) he2 h8).mono ?_;rintro e3 W3 ⟨rfl,hI3⟩;have HI3:=hid hI3;clear hI3))
      simp only[fE]
      go_ret
      exact Or.inr ⟨rfl,HONE.out,HI3.out.below⟩
     ·have HONE:Hid (one s k=some (e,⟨1,s.extract k e,0⟩)):=El hk (by rw[gl hk];exact HL.out) HE.out (by omega)
      go_wp2_with (first|(go_at_call_of 211 (Value.func (Fn.func (204:Nat)) #[] #[]);refine(mE HI.out he2 HX.out).mono ?_;rintro e1 W1 ⟨rfl,hI1⟩;have HI1:=hid hI1;clear hI1)|(go_at_call_of 211 (Value.func (Fn.func (205:Nat)) #[] #[]);refine(jD HI1.out he2 HY.out).mono ?_;rintro e2 W2 ⟨rfl,hI2⟩;have HI2:=hid hI2;clear hI2)|(go_at_call 214;refine(AW HI2.out hs (by omega) he2 hal (by omega)).mono ?_;rintro e3 W3 ⟨rfl,hI3⟩;have HI3:=hid hI3;clear hI3))
      simp only[fE]
      go_ret
      exact Or.inl ⟨rfl,e,_,HONE.out,HI3.out⟩
  | 1,hj=>
   obtain⟨e,he1,he2,rfl,hsp,hnb,hl,hI⟩:=hj
   have HI:Hid (Inv w0 b s (k:Nat) (e:Nat) acc W'):=hI
   have HSP:Hid (span cH s e=span cH s (k+1)):=hsp
   have HNB:Hid (iT s k):=hnb
   have HL:Hid (eQ (bt s k)=false):=hl
   clear hI hsp hl hnb
   refine⟨_,rfl,?_⟩
   cases hed:cH (bt s e) with
   | true=>
    have HY:Hid (cH (bt s e)=true):=hed
    have het:e<s.size:=gF hed pQ
    have HST:Hid (span cH s (e+1)=span cH s (k+1)):=by show _=_;rw[←HSP.out];exact(iP het hed).symm
    clear hed
    go_wp2_with (first|(go_at_call_of 211 (Value.func (Fn.func (205:Nat)) #[] #[]);refine(mz HI.out hs HY.out).mono ?_;rintro e2 W2 ⟨rfl,hI2⟩;have HI2:=hid hI2;clear hI2))
    go_step3
    exact⟨_,by omega,⟨_,_,_,_,_,_,_,_,_,_,_,_,_,_,_,_,_,_,_,_,_,_,_,_,_,_,_,_,_,_,_,_,_,_,_,_,_,_,_,_,_,_,_,_,_,_,_,_,_,_,_,_,_,_,_,_,_,_,_,_,_,_,_,_,_,_,_,_,_,_,rfl⟩,e+1,by omega,by omega,rfl,HST.out,HNB.out,HL.out,HI2.out⟩
   | false=>
    have HY:Hid (cH (bt s e)=false):=hed
    have HE:Hid (span cH s (k+1)=e):=by show _=_;rw[←HSP.out];exact jw (fun _=>hed)
    clear hed
    have HNUM:Hid (rA (s.extract k e)):=Bw hk HNB.out HE.out
    cases hv:j9 (s.extract k e).data.toList with
    | none=>
     have HV:Hid (j9 (s.extract k e).data.toList=none):=hv
     have HONE:Hid (one s k=none):=za HL.out HNB.out HE.out hv
     clear hv
     go_wp2_with (first|(go_at_call_of 211 (Value.func (Fn.func (205:Nat)) #[] #[]);refine(jD HI.out he2 HY.out).mono ?_;rintro e2 W2 ⟨rfl,hI2⟩;have HI2:=hid hI2;clear hI2)|(go_at_call 215;refine(uf HG.out HEV.out HI2.out hs (by omega) he2 rfl HNUM.out HV.out).mono ?_;rintro e3 W3 ⟨rfl,hI3⟩;have HI3:=hid hI3;clear hI3))
     simp only[fE]
     go_ret
     exact Or.inr ⟨rfl,HONE.out,HI3.out.below⟩
    | some v=>
     have HV:Hid (j9 (s.extract k e).data.toList=some v):=hv
     have HONE:Hid (one s k=some (e,⟨2,s.extract k e,v⟩)):=one_num HL.out HNB.out HE.out hv
     clear hv
     go_wp2_with (first|(go_at_call_of 211 (Value.func (Fn.func (205:Nat)) #[] #[]);refine(jD HI.out he2 HY.out).mono ?_;rintro e2 W2 ⟨rfl,hI2⟩;have HI2:=hid hI2;clear hI2)|(go_at_call 215;refine(uo HI2.out hs (by omega) he2 hal rfl HNUM.out HV.out).mono ?_;rintro e3 W3 ⟨rfl,hI3⟩;have HI3:=hid hI3;clear hI3))
     simp only[fE]
     go_ret
     exact Or.inl ⟨rfl,e,_,HONE.out,HI3.out⟩
  | 2,hj=>
   obtain⟨rfl,hb,hI⟩:=hj
   have HI:Hid (Inv w0 b s (k:Nat) ((k+1:Nat):Int) acc W'):=hI
   have HB:Hid (bt s k=45):=hb
   clear hI hb
   refine⟨_,rfl,?_⟩
   cases hq:(bt s (k+1)==91) with
   | true=>
    have HQ:Hid ((bt s (k+1)==91)=true):=hq
    clear hq
    have HM:Hid (aY s k=2):=by
     have hb:=HB.out
     have hqx:=eq_of_beq HQ.out
     show aY s k=2
     unfold aY
     simp only
     repeat' split
     all_goals omega
    have HD:Hid (cH (bt s (k+1))=false):=jZ (by have:=eq_of_beq HQ.out;omega)
    go_wp2_with (first|(go_at_call_of 153 (Value.int IntKind.u8 91);refine(jK (by omega) HI.out hs HQ.out).mono ?_;rintro e1 W1 ⟨rfl,hI1⟩;have HI1:=hid hI1;clear hI1))
    go_step3
    exact⟨_,by omega,⟨_,_,_,_,_,_,_,_,_,_,_,_,_,_,_,_,_,_,_,_,_,_,_,_,_,_,_,_,_,_,_,_,_,_,_,_,_,_,_,_,_,_,_,_,_,_,_,_,_,_,_,_,_,_,_,_,_,_,_,_,_,_,_,_,_,_,_,_,_,_,rfl⟩,rfl,ef (by have:=HB.out;omega),im (by have:=HB.out;omega) (Or.inr HD.out),by rw[HM.out];omega,by rw[HM.out];exact HI1.out⟩
   | false=>
    have HQ:Hid ((bt s (k+1)==91)=false):=hq
    clear hq
    cases hed:cH (bt s (k+1)) with
    | true=>
     have HY:Hid (cH (bt s (k+1))=true):=hed
     have het:k+1<s.size:=gF hed pQ
     have HST:Hid (span cH s (k+1+1)=span cH s (k+1)):=(iP het hed).symm
     clear hed
     go_wp2_with (first|(go_at_call_of 153 (Value.int IntKind.u8 91);refine(jY HI.out (by omega) HQ.out).mono ?_;rintro e1 W1 ⟨rfl,hI1⟩;have HI1:=hid hI1;clear hI1)|(go_at_call_of 211 (Value.func (Fn.func (205:Nat)) #[] #[]);refine(mz HI1.out hs HY.out).mono ?_;rintro e2 W2 ⟨rfl,hI2⟩;have HI2:=hid hI2;clear hI2))
     go_step3
     exact⟨_,by omega,⟨_,_,_,_,_,_,_,_,_,_,_,_,_,_,_,_,_,_,_,_,_,_,_,_,_,_,_,_,_,_,_,_,_,_,_,_,_,_,_,_,_,_,_,_,_,_,_,_,_,_,_,_,_,_,_,_,_,_,_,_,_,_,_,_,_,_,_,_,_,_,rfl⟩,k+1+1,by omega,by omega,rfl,HST.out,Or.inr ⟨HB.out,HY.out⟩,ef (by have:=HB.out;omega),HI2.out⟩
    | false=>
     have HY:Hid (cH (bt s (k+1))=false):=hed
     clear hed
     have HONE:Hid (one s k=none):=by
      have hb:=HB.out
      have hqx:=ne_of_beq_false HQ.out
      refine jT (ef (by omega)) (im (by omega) (Or.inr HY.out)) ?_
      unfold aY
      simp only
      repeat' split
      all_goals omega
     go_wp2_with (first|(go_at_call_of 153 (Value.int IntKind.u8 91);refine(jY HI.out (by omega) HQ.out).mono ?_;rintro e1 W1 ⟨rfl,hI1⟩;have HI1:=hid hI1;clear hI1)|(go_at_call_of 211 (Value.func (Fn.func (205:Nat)) #[] #[]);refine(jD HI1.out (by omega) HY.out).mono ?_;rintro e2 W2 ⟨rfl,hI2⟩;have HI2:=hid hI2;clear hI2))
     simp only[fE]
     go_ret
     exact Or.inr ⟨rfl,HONE.out,HI2.out.below⟩
  | 3,hj=>
   obtain⟨rfl,hb,hI⟩:=hj
   have HI:Hid (Inv w0 b s (k:Nat) ((k+1:Nat):Int) acc W'):=hI
   have HB:Hid (bt s k=93):=hb
   clear hI hb
   refine⟨_,rfl,?_⟩
   cases hq:(bt s (k+1)==45) with
   | true=>
    have HQ:Hid ((bt s (k+1)==45)=true):=hq
    clear hq
    have het:k+1<s.size:=Bz (by have:=eq_of_beq HQ.out;omega)
    cases hr:(bt s (k+1+1)==62) with
    | true=>
     have HR:Hid ((bt s (k+1+1)==62)=true):=hr
     clear hr
     have HM:Hid (aY s k=3):=by
      have hb:=HB.out
      have hqx:=eq_of_beq HQ.out
      have hrx:bt s (k+2)=62:=eq_of_beq HR.out
      show aY s k=3
      unfold aY
      simp only
      repeat' split
      all_goals omega
     go_wp2_with (first|(go_at_call_of 153 (Value.int IntKind.u8 45);refine(jK (by omega) HI.out hs HQ.out).mono ?_;rintro e1 W1 ⟨rfl,hI1⟩;have HI1:=hid hI1;clear hI1)|(go_at_call_of 153 (Value.int IntKind.u8 62);refine(jK (by omega) HI1.out hs HR.out).mono ?_;rintro e2 W2 ⟨rfl,hI2⟩;have HI2:=hid hI2;clear hI2))
     go_step3
     exact⟨_,by omega,⟨_,_,_,_,_,_,_,_,_,_,_,_,_,_,_,_,_,_,_,_,_,_,_,_,_,_,_,_,_,_,_,_,_,_,_,_,_,_,_,_,_,_,_,_,_,_,_,_,_,_,_,_,_,_,_,_,_,_,_,_,_,_,_,_,_,_,_,_,_,_,rfl⟩,rfl,ef (by have:=HB.out;omega),im (by have:=HB.out;omega) (Or.inl (by have:=HB.out;omega)),by rw[HM.out];omega,by rw[HM.out];exact HI2.out⟩
    | false=>
     have HR:Hid ((bt s (k+1+1)==62)=false):=hr
     clear hr
     have HONE:Hid (one s k=none):=by
      have hb:=HB.out
      have hqx:=eq_of_beq HQ.out
      have hrx:bt s (k+2)≠62:=ne_of_beq_false HR.out
      refine jT (ef (by omega)) (im (by omega) (Or.inl (by omega))) ?_
      unfold aY
      simp only
      repeat' split
      all_goals omega
     go_wp2_with (first|(go_at_call_of 153 (Value.int IntKind.u8 45);refine(jK (by omega) HI.out hs HQ.out).mono ?_;rintro e1 W1 ⟨rfl,hI1⟩;have HI1:=hid hI1;clear hI1)|(go_at_call_of 153 (Value.int IntKind.u8 62);refine(jY HI1.out (by omega) HR.out).mono ?_;rintro e2 W2 ⟨rfl,hI2⟩;have HI2:=hid hI2;clear hI2))
     simp only[fE]
     go_ret
     exact Or.inr ⟨rfl,HONE.out,HI2.out.below⟩
   | false=>
    have HQ:Hid ((bt s (k+1)==45)=false):=hq
    clear hq
    have HONE:Hid (one s k=none):=by
     have hb:=HB.out
     have hqx:=ne_of_beq_false HQ.out
     refine jT (ef (by omega)) (im (by omega) (Or.inl (by omega))) ?_
     unfold aY
     simp only
     repeat' split
     all_goals omega
    go_wp2_with (first|(go_at_call_of 153 (Value.int IntKind.u8 45);refine(jY HI.out (by omega) HQ.out).mono ?_;rintro e1 W1 ⟨rfl,hI1⟩;have HI1:=hid hI1;clear hI1))
    simp only[fE]
    go_ret
    exact Or.inr ⟨rfl,HONE.out,HI1.out.below⟩
  | 4,hj=>
   obtain⟨rfl,hb,hI⟩:=hj
   have HI:Hid (Inv w0 b s (k:Nat) ((k+1:Nat):Int) acc W'):=hI
   have HB:Hid (bt s k=46):=hb
   clear hI hb
   refine⟨_,rfl,?_⟩
   cases hq:(bt s (k+1)==46) with
   | true=>
    have HQ:Hid ((bt s (k+1)==46)=true):=hq
    clear hq
    have HM:Hid (aY s k=2):=by
     have hb:=HB.out
     have hqx:=eq_of_beq HQ.out
     show aY s k=2
     unfold aY
     simp only
     repeat' split
     all_goals omega
    go_wp2_with (first|(go_at_call_of 153 (Value.int IntKind.u8 46);refine(jK (by omega) HI.out hs HQ.out).mono ?_;rintro e1 W1 ⟨rfl,hI1⟩;have HI1:=hid hI1;clear hI1))
    go_step3
    exact⟨_,by omega,⟨_,_,_,_,_,_,_,_,_,_,_,_,_,_,_,_,_,_,_,_,_,_,_,_,_,_,_,_,_,_,_,_,_,_,_,_,_,_,_,_,_,_,_,_,_,_,_,_,_,_,_,_,_,_,_,_,_,_,_,_,_,_,_,_,_,_,_,_,_,_,rfl⟩,rfl,ef (by have:=HB.out;omega),im (by have:=HB.out;omega) (Or.inl (by have:=HB.out;omega)),by rw[HM.out];omega,by rw[HM.out];exact HI1.out⟩
   | false=>
    have HQ:Hid ((bt s (k+1)==46)=false):=hq
    clear hq
    have HM:Hid (aY s k=1):=by
     have hb:=HB.out
     have hqx:=ne_of_beq_false HQ.out
     show aY s k=1
     unfold aY
     simp only
     repeat' split
     all_goals omega
    go_wp2_with (first|(go_at_call_of 153 (Value.int IntKind.u8 46);refine(jY HI.out (by omega) HQ.out).mono ?_;rintro e1 W1 ⟨rfl,hI1⟩;have HI1:=hid hI1;clear hI1))
    go_step3
    exact⟨_,by omega,⟨_,_,_,_,_,_,_,_,_,_,_,_,_,_,_,_,_,_,_,_,_,_,_,_,_,_,_,_,_,_,_,_,_,_,_,_,_,_,_,_,_,_,_,_,_,_,_,_,_,_,_,_,_,_,_,_,_,_,_,_,_,_,_,_,_,_,_,_,_,_,rfl⟩,rfl,ef (by have:=HB.out;omega),im (by have:=HB.out;omega) (Or.inl (by have:=HB.out;omega)),by rw[HM.out];omega,by rw[HM.out];exact HI1.out⟩
  | 5,hj=>
   obtain⟨rfl,hb,hI⟩:=hj
   have HI:Hid (Inv w0 b s (k:Nat) ((k+1:Nat):Int) acc W'):=hI
   have HB:Hid (bt s k=60):=hb
   clear hI hb
   refine⟨_,rfl,?_⟩
   cases hq:(bt s (k+1)==62) with
   | true=>
    have HQ:Hid ((bt s (k+1)==62)=true):=hq
    clear hq
    have HM:Hid (aY s k=2):=by
     have hb:=HB.out
     have hqx:=eq_of_beq HQ.out
     show aY s k=2
     unfold aY
     simp only
     repeat' split
     all_goals omega
    go_wp2_with (first|(go_at_call_of 153 (Value.int IntKind.u8 62);refine(jK (by omega) HI.out hs HQ.out).mono ?_;rintro e1 W1 ⟨rfl,hI1⟩;have HI1:=hid hI1;clear hI1))
    go_step3
    exact⟨_,by omega,⟨_,_,_,_,_,_,_,_,_,_,_,_,_,_,_,_,_,_,_,_,_,_,_,_,_,_,_,_,_,_,_,_,_,_,_,_,_,_,_,_,_,_,_,_,_,_,_,_,_,_,_,_,_,_,_,_,_,_,_,_,_,_,_,_,_,_,_,_,_,_,rfl⟩,rfl,ef (by have:=HB.out;omega),im (by have:=HB.out;omega) (Or.inl (by have:=HB.out;omega)),by rw[HM.out];omega,by rw[HM.out];exact HI1.out⟩
   | false=>
    have HQ:Hid ((bt s (k+1)==62)=false):=hq
    clear hq
    go_wp2_with (first|(go_at_call_of 153 (Value.int IntKind.u8 62);refine(jY HI.out (by omega) HQ.out).mono ?_;rintro e1 W1 ⟨rfl,hI1⟩;have HI1:=hid hI1;clear hI1))
    go_step3
    exact⟨_,by omega,⟨_,_,_,_,_,_,_,_,_,_,_,_,_,_,_,_,_,_,_,_,_,_,_,_,_,_,_,_,_,_,_,_,_,_,_,_,_,_,_,_,_,_,_,_,_,_,_,_,_,_,_,_,_,_,_,_,_,_,_,_,_,_,_,_,_,_,_,_,_,_,rfl⟩,rfl,Or.inr ⟨HB.out,ne_of_beq_false HQ.out⟩,HI1.out⟩
  | 6,hj=>
   obtain⟨rfl,hb,hI⟩:=hj
   have HI:Hid (Inv w0 b s (k:Nat) ((k+1:Nat):Int) acc W'):=hI
   have HB:Hid (bt s k=62∨(bt s k=60∧bt s (k+1)≠62)):=hb
   clear hI hb
   refine⟨_,rfl,?_⟩
   cases hq:(bt s (k+1)==61) with
   | true=>
    have HQ:Hid ((bt s (k+1)==61)=true):=hq
    clear hq
    have HM:Hid (aY s k=2):=by
     have hb:=HB.out
     have hqx:=eq_of_beq HQ.out
     show aY s k=2
     unfold aY
     simp only
     repeat' split
     all_goals omega
    go_wp2_with (first|(go_at_call_of 153 (Value.int IntKind.u8 61);refine(jK (by omega) HI.out hs HQ.out).mono ?_;rintro e1 W1 ⟨rfl,hI1⟩;have HI1:=hid hI1;clear hI1))
    go_step3
    exact⟨_,by omega,⟨_,_,_,_,_,_,_,_,_,_,_,_,_,_,_,_,_,_,_,_,_,_,_,_,_,_,_,_,_,_,_,_,_,_,_,_,_,_,_,_,_,_,_,_,_,_,_,_,_,_,_,_,_,_,_,_,_,_,_,_,_,_,_,_,_,_,_,_,_,_,rfl⟩,rfl,ef (by have:=HB.out;omega),im (by have:=HB.out;omega) (Or.inl (by have:=HB.out;omega)),by rw[HM.out];omega,by rw[HM.out];exact HI1.out⟩
   | false=>
    have HQ:Hid ((bt s (k+1)==61)=false):=hq
    clear hq
    have HM:Hid (aY s k=1):=by
     have hb:=HB.out
     have hqx:=ne_of_beq_false HQ.out
     show aY s k=1
     unfold aY
     simp only
     repeat' split
     all_goals omega
    go_wp2_with (first|(go_at_call_of 153 (Value.int IntKind.u8 61);refine(jY HI.out (by omega) HQ.out).mono ?_;rintro e1 W1 ⟨rfl,hI1⟩;have HI1:=hid hI1;clear hI1))
    go_step3
    exact⟨_,by omega,⟨_,_,_,_,_,_,_,_,_,_,_,_,_,_,_,_,_,_,_,_,_,_,_,_,_,_,_,_,_,_,_,_,_,_,_,_,_,_,_,_,_,_,_,_,_,_,_,_,_,_,_,_,_,_,_,_,_,_,_,_,_,_,_,_,_,_,_,_,_,_,rfl⟩,rfl,ef (by have:=HB.out;omega),im (by have:=HB.out;omega) (Or.inl (by have:=HB.out;omega)),by rw[HM.out];omega,by rw[HM.out];exact HI1.out⟩
  | 7,hj=>
   obtain⟨rfl,h1,h2,hm3,hI⟩:=hj
   have HI:Hid (Inv w0 b s (k:Nat) ((k+aY s k:Nat):Int) acc W'):=hI
   clear hI
   have hml:=sS hk
   refine⟨_,rfl,?_⟩
   go_wp2_with (go_at_call 216;refine(add 3 0 HI.out hs (by omega) (by omega) hal).mono ?_;rintro e W3 ⟨rfl,h3⟩)
   simp only[fE]
   go_ret
   exact Or.inl ⟨rfl,_,_,E8 h1 h2 hm3,h3⟩
  | x+8,hj=>exact hj.elim
end
section
open Go.RowKit
theorem EJ {w0 W:World} {ev:Value} (hg:w0.cell? ⟨5,0,none⟩=some ev) (hev:ev=.nilIface∨∃te pe,ev=.iface te pe) {b:Nat} {s:ByteArray} {f:Int} {k en:Nat} {t:Tok} {acc:List Tok}
  (hinv:Inv w0 b s f (k:Nat) acc W) (hs:s.size≤2000) (hk:k<s.size) (hal:acc.length≤2000) (ho:one s k=some (en,t)):
  Calls Tryz.prog 154 #[.pointer (some ⟨b,0,none⟩)] W fun e W'=>e=.returned (.bool true)∧Inv w0 b s (k:Nat) (en:Nat) (acc++[t]) W':=by
 refine(token hg hev hinv hs hk hal).mono ?_
 rintro e W' (⟨he,en',t',h1,h2⟩|⟨_,h1,_⟩)
 ·rw[ho] at h1
  injection h1 with h1;injection h1 with h1 h3;subst h1;subst h3
  exact⟨he,h2⟩
 ·rw[ho] at h1;cases h1
theorem IN {w0 W:World} {ev:Value} (hg:w0.cell? ⟨5,0,none⟩=some ev) (hev:ev=.nilIface∨∃te pe,ev=.iface te pe) {b:Nat} {s:ByteArray} {f:Int} {k:Nat} {acc:List Tok}
  (hinv:Inv w0 b s f (k:Nat) acc W) (hs:s.size≤2000) (hk:k<s.size) (hal:acc.length≤2000) (ho:one s k=none):
  Calls Tryz.prog 154 #[.pointer (some ⟨b,0,none⟩)] W fun e W'=>e=.returned (.bool false)∧Below w0.heap.size w0 W':=by
 refine(token hg hev hinv hs hk hal).mono ?_
 rintro e W' (⟨he,en',t',h1,h2⟩|⟨he,_,h2⟩)
 ·rw[ho] at h1;cases h1
 ·exact⟨he,h2⟩
def I0 (w0:World) (b:Nat) (s:ByteArray) (e:Ending) (W:World):Prop:=
 (e=.returned (.bool true)∧∃ts f k,run s 0=some ts∧Inv w0 b s f k ts W)∨(e=.returned (.bool false)∧run s 0=none∧Below w0.heap.size w0 W)
theorem cut {w0 W:World} {ev:Value} (hg:w0.cell? ⟨5,0,none⟩=some ev) (hev:ev=.nilIface∨∃te pe,ev=.iface te pe) {b:Nat} {s:ByteArray} {f:Int} (hinv:Inv w0 b s f ((0:Nat):Int) [] W) (hs:s.size≤2000):
  Calls Tryz.prog 93 #[.pointer (some ⟨b,0,none⟩)] W (I0 w0 b s):=by
 have HG:Hid (w0.cell? ⟨5,0,none⟩=some ev):=hg
 have HEV:Hid (ev=.nilIface∨∃te pe,ev=.iface te pe):=hev
 have HI0:Hid (Inv w0 b s f ((0:Nat):Int) [] W):=hinv
 clear hg hev hinv
 go_enter Tryz.func93,Tryz.ntmps93
 go_wp2
 go_loopg [2] s.size (fun g u wr=>u=.bool false∧∃(k:Nat) (f:Int) (acc:List Tok),k≤s.size∧g=s.size - k∧jj s k acc∧acc.length≤k∧Inv w0 b s f (k:Nat) acc wr)
 case atStart=>exact⟨rfl,0,f,[],by omega,by omega,zC s,by simp,HI0.out⟩
 case round=>
  obtain⟨rfl,k,f,acc,hk,rfl,hsf,hal,hI⟩:=hrel
  have HSF:Hid (jj s k acc):=hsf
  have HI:Hid (Inv w0 b s f (k:Nat) acc wr):=hI
  obtain⟨lv,hx,ho⟩:=hI.cut
  obtain⟨c0,c1,c2,c3⟩:=hx.cells
  clear hI hx ho c1 c3 hsf HI0
  by_cases hlt:k<s.size
  ·go_wp2
   go_quiet (fail)
   cases hb:(bt s k==32) with
   | true=>
    have HB:Hid ((bt s k==32)=true):=hb
    clear hb
    go_wp2_with (go_at_call 153;refine(jK (by omega) (HI.out.drew nq) hs HB.out).mono ?_;rintro e1 W1 ⟨rfl,hI1⟩;have HI1:=hid hI1;clear hI1)
    go_roundg (s.size - (k+1))
    case measure=>omega
    case rel=>exact⟨rfl,k+1,f,acc,by omega,rfl,HSF.out.blank hlt (eq_of_beq HB.out),by omega,HI1.out⟩
   | false=>
    have HB:Hid ((bt s k==32)=false):=hb
    clear hb
    cases hone:one s k with
    | none=>
     have HO:Hid (one s k=none):=hone
     clear hone
     go_wp2_with (first|(go_at_call 153;refine(jY (HI.out.drew nq) hk HB.out).mono ?_;rintro e1 W1 ⟨rfl,hI1⟩;have HI1:=hid hI1;clear hI1)|(go_at_call 154;refine(IN HG.out HEV.out HI1.out hs hlt (by omega) HO.out).mono ?_;rintro e2 W2 ⟨rfl,hI2⟩;have HI2:=hid hI2;clear hI2))
     go_ret
     exact Or.inr ⟨rfl,HSF.out.bad hlt (ne_of_beq_false HB.out) HO.out,HI2.out⟩
    | some p=>
     obtain⟨en,t⟩:=p
     have HO:Hid (one s k=some (en,t)):=hone
     have hnx:=pD hone hlt
     clear hone
     go_wp2_with (first|(go_at_call 153;refine(jY (HI.out.drew nq) hk HB.out).mono ?_;rintro e1 W1 ⟨rfl,hI1⟩;have HI1:=hid hI1;clear hI1)|(go_at_call 154;refine(EJ HG.out HEV.out HI1.out hs hlt (by omega) HO.out).mono ?_;rintro e2 W2 ⟨rfl,hI2⟩;have HI2:=hid hI2;clear hI2))
     go_roundg (s.size - en)
     case measure=>omega
     case rel=>exact⟨rfl,en,_,_,by omega,rfl,HSF.out.tok hlt (ne_of_beq_false HB.out) HO.out,by simp;omega,HI2.out⟩
  ·go_wp2
   go_quiet (fail)
   go_wp2
   go_ret
   exact Or.inl ⟨rfl,acc,f,k,HSF.out.fin hlt,HI.out.drew nq⟩
theorem Hf {w0 W:World} {ev:Value} (hg:w0.cell? ⟨5,0,none⟩=some ev) (hev:ev=.nilIface∨∃te pe,ev=.iface te pe) {b:Nat} {s:ByteArray} {f:Int} {ts:List Tok} (hinv:Inv w0 b s f ((0:Nat):Int) [] W) (hs:s.size≤2000) (hr:run s 0=some ts):
  Calls Tryz.prog 93 #[.pointer (some ⟨b,0,none⟩)] W fun e W'=>e=.returned (.bool true)∧∃f k,Inv w0 b s f k ts W':=by
 refine(cut hg hev hinv hs).mono ?_
 rintro e W' (⟨he,ts',f,k,h1,h2⟩|⟨_,h1,_⟩)
 ·rw[hr] at h1;injection h1 with h1;subst h1;exact⟨he,f,k,h2⟩
 ·rw[hr] at h1;cases h1
theorem GU {w0 W:World} {ev:Value} (hg:w0.cell? ⟨5,0,none⟩=some ev) (hev:ev=.nilIface∨∃te pe,ev=.iface te pe) {b:Nat} {s:ByteArray} {f:Int} (hinv:Inv w0 b s f ((0:Nat):Int) [] W) (hs:s.size≤2000) (hr:run s 0=none):
  Calls Tryz.prog 93 #[.pointer (some ⟨b,0,none⟩)] W fun e W'=>e=.returned (.bool false)∧Below w0.heap.size w0 W':=by
 refine(cut hg hev hinv hs).mono ?_
 rintro e W' (⟨he,ts',f,k,h1,h2⟩|⟨he,_,h2⟩)
 ·rw[hr] at h1;cases h1
 ·exact⟨he,h2⟩
theorem By (w:World) (s:ByteArray):Inv w w.heap.size s 0 ((0:Nat):Int) [] (w.alloc (.cells #[.string s,.int .i64 0,.int .i64 0,.slice none 0 0] 163)):=
 ⟨(Below.refl _ _).alloc (Nat.le_refl _) _,Nat.le_refl _,.slice none 0 0,heap_alloc_new w _,World.ownsRow_nil _ _ _ _⟩
theorem tokens (s:ByteArray) (w:World) {ev:Value} (hg:w.cell? ⟨5,0,none⟩=some ev) (hev:ev=.nilIface∨∃te pe,ev=.iface te pe) (hm:s.size≤maxLen):
  Calls Tryz.prog 44 #[.string s] w (Iw s w):=by
 unfold maxLen at hm
 have HG:Hid (w.cell? ⟨5,0,none⟩=some ev):=hg
 have HEV:Hid (ev=.nilIface∨∃te pe,ev=.iface te pe):=hev
 clear hg hev
 by_cases hs:s.size≤2000
 ·cases hr:run s 0 with
  | none=>
   have HR:Hid (run s 0=none):=hr
   clear hr
   go_enter Tryz.func44,Tryz.ntmps44
   go_wp2_with (go_at_call 93;refine(GU HG.out HEV.out (By w s) hs HR.out).mono ?_;rintro e1 W1 ⟨rfl,hb1⟩)
   go_ret2
   exact⟨hb1,Or.inl ⟨Ct hs HR.out,rfl⟩⟩
  | some ts=>
   have HR:Hid (run s 0=some ts):=hr
   clear hr
   go_enter Tryz.func44,Tryz.ntmps44
   go_wp2_with (go_at_call 93;refine(Hf HG.out HEV.out (By w s) hs HR.out).mono ?_;rintro e1 W1 ⟨rfl,f1,k1,hI1⟩;have HI1:=hid hI1;obtain⟨lv,hx,ho⟩:=hI1.cut;have c3:=hx.cells.2.2.2;have HOW:=hid ho;clear hI1 hx ho)
   go_ret2
   exact⟨HI1.out.below,Or.inr ⟨ts,lv,De hs HR.out,rfl,HOW.out⟩⟩
 ·go_enter Tryz.func44,Tryz.ntmps44
  go_wp2
  go_ret2
  exact⟨Below.refl _ _,Or.inl ⟨by unfold fg;rw[if_pos (by omega)],rfl⟩⟩
end
end Go.Proofs.YtobgbmfpicmpcaaGreatDoor
