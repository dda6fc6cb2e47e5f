/- Mine. -/
import Derived.Test.YtbfmmmjkjhjleaaGreatDoorC22
import Derived.Test.YtbfmmmjkjhjleaaGreatDoorC13
import Derived.Test.YtbfmmmjkjhjleaaGreatDoorC18
import Derived.Test.YtbfmmmjkjhjleaaGreatDoorC16
import Derived.Test.YtbfmmmjkjhjleaaGreatDoorC19
import Derived.Test.YtbfmmmjkjhjleaaGreatDoorC20
set_option maxRecDepth 100000
set_option maxHeartbeats 0
namespace Go.Proofs.YtbfmmmjkjhjleaaGreatDoor
open Go.Proofs.Tryz
variable {W W0 w:World} {s:ByteArray} {X m:Nat} {mx:Int} {vp:Value}
section
open Go.RowKit Go.Maps
def pZ(S:bF->Bool)(x:bF):bF->Bool:=fun r=>S r || decide (r=x)
theorem dl.put{w:World}{b n:Nat}{D:DataW Unit}{S:bF->Bool}{x:bF}(c:IsMap D)(d:∀r,N9 r->Maps.has D (G5 r)=S r)(a:N9 x)(f:w.ownsMap prog 177 unitElem b n (D.put (G5 x) (.agg []))):dl w b n (pZ S x):=by
 refine⟨_,f,fun r hr=>?_⟩;unfold pZ;by_cases e:r=x
 ·subst e;rw[has_put_same c (Px.key (MK a))];simp
 ·rw[has_put_other (fun h=>e (Mz hr a h)),d r hr];simp[e]
theorem J0(l:List db):(l.flatMap nW).length=l.length*2:=by
 induction l with
 | nil=>rfl
 | cons a l ih=>simp[nW,ih];omega
theorem ER(s:ByteArray):0<=fH s/\fH s<=9:=by
 unfold fH
 repeat' split
 all_goals omega
theorem Kt(g:s.size<=2000):N9 (dP s).1:=by
 have c:=ER (kX s 32);have h1:=uJ s 32;have d:=Kg (kw s 32) 46;have f:=uJ (kw s 32) 46;have wf:∀v:Int,0<=v->v<=10->(Lit.int .i64 v).wf=true:=fun v a b=>WalkArith.wf_i64 (by omega);have hm:∀n:Nat,n<=2000->n<=maxLen:=fun n hn=>by unfold maxLen;omega
 unfold dP;split
 ·exact⟨wf 10 (by decide) (by decide),hm 0 (by decide),hm 0 (by decide)⟩
 split
 ·exact⟨wf 0 (by decide) (by decide),hm 0 (by decide),hm 0 (by decide)⟩
 split
 ·exact⟨wf 9 (by decide) (by decide),hm (kw s 32).size (by omega),hm 0 (by decide)⟩
 split
 ·exact⟨wf (fH (kX s 32)) c.1 (by omega),hm (kX (kw s 32) 46).size (by omega),hm (kw (kw s 32) 46).size (by omega)⟩
 ·exact⟨wf (fH (kX s 32)) c.1 (by omega),hm (kw s 32).size (by omega),hm 0 (by decide)⟩
theorem gX.SY{l:List db}{y:db}{x:bF}(h:gX W0 X (l++[y]) m W)(b:W.grownBy w (some y.2.1))(j:dl w y.2.1 (m+1) (pZ y.2.2 x)):
  gX W0 X (l++[(y.1,y.2.1,pZ y.2.2 x)]) (m+1) w:=by
 obtain⟨v,f,d⟩:=h.list;have g:=h.right y (by simp);have c:=h.apart;rw[vb,List.nodup_append] at c;refine⟨⟨v,f.grown b (fun e=>g.cJ f (by injection e with e;exact e.symm)),?_⟩,?_,?_,?_,mY h.frame b (fun k hk=>by injection hk with hk;rw[<-hk];exact h.low y (by simp))⟩
 ·have e:(l++[((y.1,y.2.1,pZ y.2.2 x):db)]).length=(l++[y]).length:=by simp
  have i:(l++[((y.1,y.2.1,pZ y.2.2 x):db)]).flatMap nW=(l++[y]).flatMap nW:=by simp[nW]
  rw[e,i];exact d.kept b (a6 (fun e=>g.j6 d e.symm))
 ·intro z a;rcases List.mem_append.1 a with a|a
  ·refine((h.right z (by simp[a])).kept b ?_).more (Nat.le_succ m);intro e;injection e with e
   exact c.2.2 z.2.1 (List.mem_map.2 ⟨z,a,rfl⟩) y.2.1 (by simp) e
  ·simp only[vA] at a;subst a;exact j
 ·rw[vb,List.nodup_append];exact c
 ·intro z a;rcases List.mem_append.1 a with a|a
  ·exact h.low z (by simp[a])
  ·simp only[vA] at a;subst a;exact h.low y (by simp)
theorem xH{l:List db}(h:gX W0 X l m W)(t:s.size<=2000)(hm:W.cell? ⟨1,0,none⟩=some (.int .i64 mx))(b:(dP s).2=false\/l=[]):
  Calls prog 43 #[.pointer (some ⟨X,0,none⟩),.string s] W fun e W'=>e=.returned (.bool false)/\gX W0 X l m W':=by
 have H:=p9 h;have f:=p9 hm;clear h hm;go_enter func43,ntmps43
 go_wp2_with fail;refine(DA (by omega) f.o).mono ?_;rintro e n ⟨rfl,g⟩;have H1:=p9 (H.o.later g);clear H g f;generalize (dP s).2=ok at b⊢;generalize (dP s).1=r;obtain⟨v,a,k⟩:=r;have c:=p9 (H1.o.later ((r5 _ _).alloc (rm _) (.cells #[.int .i64 v,.string a,.string k] 177)));clear H1;unfold vN;simp only;go_upto_region 2 with fail;generalize n.alloc (.cells #[.int .i64 v,.string a,.string k] 177)=q at c⊢;cases ok with
 | false=>
  go_wp2_with fail;go_ret;exact⟨rfl,c.o⟩
 | true=>
  have p:l=[]:=by rcases b with b|b;cases b;exact b
  subst p;obtain⟨u,j,d⟩:=c.o.list;obtain⟨ao,cap,rfl,i⟩:=bi (l:=([]:List db)) (aJ d d.1);have x0:=j.at_ 0 (.slice ao 0 cap) rfl;clear j d b;go_wp2_with fail;go_ret;exact⟨rfl,c.o⟩
theorem Ej{l:List db}{y:db}(h:gX W0 X (l++[y]) m W)(S:l.length<6)(p:m<maxLen)(Q:s.size<=2000)(hm:W.cell? ⟨1,0,none⟩=some (.int .i64 mx))(J:(dP s).2=true):
  Calls prog 43 #[.pointer (some ⟨X,0,none⟩),.string s] W fun e W'=>e=.returned (.bool true)/\gX W0 X (l++[(y.1,y.2.1,pZ y.2.2 (dP s).1)]) (m+1) W':=by
 have H:=p9 h;have E:=p9 hm;have w:=p9 (Kt Q);have x:=p9 p;clear h hm p;go_enter func43,ntmps43
 go_wp2_with fail;refine(DA (by omega) E.o).mono ?_;rintro e A ⟨rfl,I⟩;have H1:=p9 (H.o.later I);clear H I E;rw[J];clear J;obtain⟨r,n⟩:∃r,(dP s).1=r:=⟨_,rfl⟩;rw[n] at w⊢;have z:=p9 n;clear n;obtain⟨v,a,k⟩:=r;have t:=p9 (H1.o.later ((r5 _ _).alloc (rm _) (.cells #[.int .i64 v,.string a,.string k] 177)));have b:=p9 (Loc.new A #[.int .i64 v,.string a,.string k] 177);clear H1;unfold vN;simp only;go_upto_region 2 with fail;obtain⟨Z,G⟩:∃Z,Z=A.heap.size:=⟨_,rfl⟩;rw[<-G] at b⊢;clear G;generalize A.alloc (.cells #[.int .i64 v,.string a,.string k] 177)=B at t b⊢;obtain⟨u,K,q⟩:=t.o.list;have R:=p9 q;have O:(l++[y]).length=l.length+1:=by simp
 rw[O] at q;obtain⟨g,cap,rfl⟩:=E4 q;have x0:=K.at_ 0 (.slice (some ⟨g,0,none⟩) (l.length+1) cap) rfl;have U:=b.o.at_ 0 (.int .i64 v) rfl;have V:=b.o.at_ 1 (.string a) rfl;have Y:=b.o.at_ 2 (.string k) rfl;have T:B.cell? ⟨g,l.length*2+1,none⟩=some (.map (some y.2.1)):=by
  rw[q.cellAt (l.length*2+1) (by omega)];have C:=J0 l;rw[As,F7 (by omega),C];have:l.length*2+1 - l.length*2=1:=by omega
  rw[this]
  rfl
 obtain⟨D,c,F⟩:=t.o.right y (by simp);have d:B.drew.ownsMap prog 177 unitElem y.2.1 m D:=c;obtain⟨L,j,f,i⟩:=d.store Px underlying102 x.o (MK w.o) (unitElem_mk (H:=Unit));have M:qv (B.grownBy L (some y.2.1)):=p9 (by have:=i.grown;exact⟨this.os,this.tape,this.output,this.size,this.block⟩);have N:qv (dl L y.2.1 (m+1) (pZ y.2.2 (v,a,k))):=p9 (dl.put (c.isMap) F w.o f);unfold vN at j;simp only at j;clear K q c d f i F;have P:(0:Int)<=(l.length:Int):=by omega
 go_upto_region 4 with fail;go_region;go_wp2_with fail;go_ret;exact⟨rfl,by rw[z.o];exact t.o.SY M.o N.o⟩
abbrev wF:=List (ByteArray × (bF->Bool))
def er(x:db):ByteArray × (bF->Bool):=(x.1,x.2.2)
def i7(l:wF)(s:ByteArray):Bool:=vq s&&(bM (iH s)==1)&&!(l.length==6)&&(l.find? (fun x=>x.1.toList==(iH s).toList)).isNone
def TO:bF->Bool:=fun _=>false
def kg(l:wF)(s:ByteArray):Option wF:=
 if i7 l s then some (l++[(iH s,TO)])
 else match l.getLast? with
  | none=>none
  | some y=>if (dP s).2 then some (l.dropLast++[(y.1,pZ y.2 (dP s).1)]) else none
def gN(s:ByteArray):Option wF:=if s.size<=2000 then (jk s).foldlM kg [] else none
theorem qU(l:List db)(s:ByteArray):i7 (l.map er) s=oq l s:=by
 unfold i7 oq kW;rw[tB,List.find?_map,Option.isNone_map]
 rfl
theorem FA{l:List db}(h:oq l s=true)(b:Nat):kg (l.map er) s=some ((l++[(iH s,b,fun _=>false)]).map er):=by
 unfold kg;rw[qU,a8 h];simp[er];rfl
theorem Ep{l:List db}{y:db}(h:oq (l++[y]) s=false)(a:(dP s).2=true):kg ((l++[y]).map er) s=some ((l++[(y.1,y.2.1,pZ y.2.2 (dP s).1)]).map er):=by
 unfold kg;rw[qU,bk (by simp[h])];simp[er,a]
theorem yH{l:List db}(h:oq l s=false)(a:(dP s).2=false\/l=[]):kg (l.map er) s=none:=by
 unfold kg;rw[qU,bk (by simp[h])];rcases a with a|rfl
 ·cases (l.map er).getLast?<;>simp[a]
 ·rfl
theorem JL{l b:wF}(h:kg l s=some b)(d:l.length<=6):b.length<=6:=by
 unfold kg at h;split at h
 ·rename_i a;injection h with h
  subst h;unfold i7 at a;simp only[wa,Bool.not_eq_true',beq_eq_false_iff_ne] at a;have:=a.1.2;simp;omega
 ·split at h
  ·cases h
  ·rename_i y c;split at h
   ·injection h with h
    subst h;have:l≠[]:=by intro e;subst e;cases c
    have:=List.length_pos_iff.2 this;simp;omega
   ·cases h
theorem dj.Ri{n:Nat}{v:Value}{k:List ByteArray}{a:Value}{T:TypeId}(h:dj W0 1 v n (k.map Value.string))(y:Loc W0 X #[a] T)(q:∀s,a≠.string s)(g:W0.grownBy w (some X)):dj w 1 v n (k.map Value.string):=by
 obtain⟨h1,ao,cap,rfl,x,p⟩:=h;refine⟨h1,ao,cap,rfl,x,fun hn=>?_⟩;obtain⟨b,o,rfl,d⟩:=p hn;refine⟨b,o,rfl,fun j u hu=>?_⟩;have c:=d j u hu;have r:=block_lt_of_cell c;have f:b≠X:=by
  intro e;subst e;rw[y.cell] at c;rw[F0] at hu;cases l:k[j]? with
  | none=>rw[l] at hu;cases hu
  | some t=>
   rw[l] at hu;injection hu with hu
   subst hu;cases m:o+j with
   | zero=>rw[m] at c;simp at c;exact q _ c
   | succ i=>rw[m] at c;simp at c
 rw[<-c];exact World.cell?_of_block (w:=W0) (g.block b r (by intro e;injection e with e;exact f e))
theorem sK{α β:Type}{f:β->α->Option β}{l:List α}{k:Nat}(hk:k<l.length){a b:β}(h:(l.take k).foldlM f a=some b):(l.take (k+1)).foldlM f a=f b l[k]:=by
 rw[tt,List.foldlM_append,h,r6 hk];simp
theorem xY{α β:Type}{f:β->α->Option β}{l:List α}{k:Nat}(hk:k<l.length){a b:β}(h:(l.take k).foldlM f a=some b)(d:f b l[k]=none):l.foldlM f a=none:=by
 have h1:=sK hk h;rw[d] at h1;have c:(l.take (k+1)++l.drop (k+1)).foldlM f a=none:=by rw[List.foldlM_append,h1];rfl
 rwa [Mp] at c
theorem gX.more{W0 W:World}{X m a:Nat}{l:List db}(h:gX W0 X l m W)(hm:m<=a):gX W0 X l a W:=
 ⟨h.list,fun x hx=>(h.right x hx).more hm,h.apart,h.low,h.frame⟩
theorem gX.aside{R:Nat}{l:List db}{a b:Value}(h:gX W0 X l m W)(j:Loc W0 R #[a] 58)(_hx:Loc W0 X #[b] 58)(u:Value)(f:R≠X:=by simp):gX (W0.setCell ⟨R,0,none⟩ u) X l m (W.setCell ⟨R,0,none⟩ u):=by
 obtain⟨v,n,i⟩:=h.list;have c:Loc W R #[a] 58:=j.grown h.frame (by intro e;injection e with e;exact f e);have d:(W0.setCell ⟨R,0,none⟩ u).heap.size=W0.heap.size:=by simp
 refine⟨⟨v,n.aY (Ne.symm f) 0 u,?_⟩,fun x hxl=>(h.right x hxl).kept (aE W R 0 u) (by intro e;injection e with e;exact(h.right x hxl).cJ c e),h.apart,fun x hxl=>by rw[d];exact h.low x hxl,?_⟩
 ·rw[d];exact i.kept (aE W R 0 u) (a6 (fun e=>aR i c (by decide) e))
 ·have g:=h.frame;refine⟨g.os,g.tape,g.output,by simpa using g.size,fun k hk hkx=>?_⟩;rw[d] at hk;by_cases e:k=R
  ·subst e;rw[j.set 0 u,c.set 0 u]
  ·rw[Below.heap_setCell _ _ _ _ e,Below.heap_setCell _ _ _ _ e];exact g.block k hk hkx
def uM(W:World)(s:ByteArray)(e:Ending)(W':World):Prop:=
 (gN s=none/\e=.returned (.tuple #[.agg #[.slice none 0 0],.bool false]))\/
 ∃ls l W0 X v m,gN s=some ls/\l.map er=ls/\l.length<=6/\m<=2001/\W.heap.size<=W0.heap.size/\gX W0 X l m W'/\Loc W' X #[v] 58/\e=.returned (.tuple #[.agg #[v],.bool true])
theorem Ko(a:¬s.size<=2000):
  Calls prog 12 #[.string s] W fun e W'=>uM W s e W'/\Below W.heap.size W W':=by
 have hi:(2000:Int)<(s.size:Int):=by omega
 have c:qv (gN s=none):=p9 (by unfold gN;rw[bk a]);have b:=p9 ((r5 W.heap.size W).alloc (rm _) (.cells #[.slice none 0 0] 58));clear a;go_enter func12,ntmps12
 go_wp2_with fail;refine bodyPost_ret (v:=.tuple #[.agg #[.slice none 0 0],.bool false]) ?_ rfl ⟨ad ⟨c.o,rfl⟩,b.o⟩;simp[results,results12,go_sem]
theorem GK(hs:s.size<=2000)(hm:W.cell? ⟨1,0,none⟩=some (.int .i64 mx)):
  Calls prog 12 #[.string s] W fun e W'=>uM W s e W'/\Below W.heap.size W W':=by
 have hi:¬(2000:Int)<(s.size:Int):=by omega
 have HS:=p9 hs;have HM:=p9 hm;have HP:qv (gN s=(jk s).foldlM kg []):=p9 (by unfold gN;rw[a8 hs]);have A4:=p9 (Loc.new W #[.slice none 0 0] 58);have U:=p9 ((r5 W.heap.size W).alloc (rm _) (.cells #[.slice none 0 0] 58));have I:=p9 (A4.o.alloc (.cells #[.slice none 0 0] 58));have K:=p9 (Loc.new (W.alloc (.cells #[.slice none 0 0] 58)) #[.slice none 0 0] 58);have E:=p9 (U.o.alloc U.o.size (.cells #[.slice none 0 0] 58));clear hs hm A4 U;go_enter func12,ntmps12
 go_upto_region 4 with fail;obtain⟨R,hR⟩:∃R,R=W.heap.size:=⟨_,rfl⟩;have e1:(W.alloc (.cells #[.slice none 0 0] 58)).heap.size=R+1:=by rw[hR];simp
 rw[e1] at K;rw[<-hR] at I⊢;have m:=p9 hR;clear hR e1;generalize (W.alloc (.cells #[.slice none 0 0] 58)).alloc (.cells #[.slice none 0 0] 58)=W2 at I K E⊢;go_wp2_with fail;refine(clone s W2 (by have:=HS.o;omega)).mono ?_;rintro e W3 ⟨rfl,N⟩;have A5:=p9 (I.o.grown (ag N none) (by simp));have A9:=p9 (K.o.grown (ag N none) (by simp));have F:=p9 (E.o.trans (N.mono E.o.size));clear N I K E;go_wp2_with fail;refine(Mo HS.o ((F.o.cell (block_lt_of_cell HM.o)).trans HM.o)).mono ?_;rintro e W4 ⟨ao,cap,rfl,T,N⟩;have J:=p9 (A5.o.grown (ag N none) (by simp));have X:=p9 (A9.o.grown (ag N none) (by simp));have d:=p9 (F.o.trans (N.mono F.o.size));have HL:=p9 T;have A1:=p9 ((d.o.cell (block_lt_of_cell HM.o)).trans HM.o);have Ac:qv (1<R):=p9 (by rw[m.o];exact block_lt_of_cell HM.o);have A8:=p9 (fun x (hx:x∈jk s)=>r8 (GG hx) HS.o);have G:=p9 (JN HS.o);have A2:qv (gX W4 (R+1) [] 0 W4):=p9 ⟨⟨_,X.o,⟨rfl,ad ⟨rfl,rfl⟩⟩⟩,by simp,by simp,by simp,⟨rfl,rfl,rfl,rm _,fun _ _ _=>rfl⟩⟩;clear N T A5 A9 F;generalize jk s=C at HL HP A8 G⊢;go_wp2_with fail;go_loopg [15] C.length (fun n iv w=>∃(k:Nat) (l:List db),iv=.int .i64 (k:Int)/\k+n=C.length/\(C.take k).foldlM kg []=some (l.map er)/\l.length<=6/\gX W4 (R+1) l k w)
 case atStart=>exact⟨0,[],rfl,by omega,rfl,by simp,A2.o⟩
 case round=>
  obtain⟨k,l,rfl,hk,hf,A,hp⟩:=hrel;have HF:=p9 hf;have H:=p9 hp;have H6:=p9 A;clear hf hp A A2;have A6:=p9 (HL.o.Ri X.o (by intro s;simp) H.o.frame);have Ag:=G.o;by_cases r:k<C.length
  ·have A7:qv (dj wr 1 (.slice ao C.length cap) C.length (C.flatMap fun x=>[Value.string x])):=p9 (by rw[<-List.map_eq_flatMap];exact A6.o);obtain⟨g,o,rfl,q⟩:=bC (l:=C) (fun x=>[Value.string x]) (fun _=>rfl) A7.o r;obtain⟨y,hy⟩:∃y,C[k]=y:=⟨_,rfl⟩;have HY:=p9 hy;have Y:qv (y.size<=2000):=p9 (A8.o y (by rw[<-hy];exact sT r));rw[hy] at q;have p0:wr.cell? ⟨g,o+k,none⟩=some (.string y):=by simpa using q 0 (by decide)
   have Af:(k:Int)<(C.length:Int):=by omega
   clear q hy A6 A7;cases hr:oq l y with
   | true=>
    have i:=p9 hr;clear hr;go_wp2_with fail;refine(Hk H.o H6.o i.o).mono ?_;rintro e W5 ⟨rfl,b,Z⟩;have H5:=p9 Z;clear Z p0;go_wp2_with fail;go_roundg (gk - 1)
    case rel=>
     have e:=FA i.o b;refine⟨k+1,_,by simp,by omega,?_,?_,H5.o.more (Nat.le_succ k)⟩
     ·rw[sK r HF.o,HY.o];exact e
     ·have:=JL e (by simpa using H6.o)
      simpa using this
    case measure=>omega
   | false=>
    have i:=p9 hr;clear hr;go_wp2_with fail;refine(Jf H.o H6.o i.o).mono ?_;rintro e W5 ⟨rfl,Z⟩;have H5:=p9 Z;have V:=p9 (show W5.cell? ⟨1,0,none⟩=some (.int .i64 mx) from (World.cell?_of_block (w:=W4) (Z.frame.block 1 (block_lt_of_cell A1.o) (by intro e;injection e with e;have:=Ac.o;omega))).trans A1.o);clear Z p0;cases O:(dP y).2 with
    | false=>
     have t:=p9 O;clear O;go_wp2_with fail;refine(xH H5.o Y.o V.o (ad t.o)).mono ?_;rintro e W6 ⟨rfl,A⟩;have c:=p9 A;clear A;have a:=p9 (J.o.grown c.o.frame (by simp));have D:=a.o.at_ 0 (.slice none 0 0) rfl;have u:=a.o.free 0;have HE:qv (gN s=none):=p9 (by rw[HP.o];exact xY r HF.o (by rw[HY.o];exact yH i.o (ad t.o)));go_wp2_with fail;have h:=p9 (a.o.set 0 (.slice none 0 0));have f:=p9 ((d.o.grown c.o.frame d.o.size (fun j B=>by injection B with B;rw[<-B,m.o];exact Nat.le_succ _)).setCell (p:=⟨R,0,none⟩) (by rw[m.o];exact rm _) (.slice none 0 0));clear D u a c;generalize W6.setCell ⟨R,0,none⟩ (.slice none 0 0)=W7 at h f⊢;have D:=h.o.at_ 0 (.slice none 0 0) rfl;refine bodyPost_ret (v:=.tuple #[.agg #[.slice none 0 0],.bool false]) ?_ rfl ⟨ad ⟨HE.o,rfl⟩,f.o⟩;simp[results,results12,go_sem,D]
    | true=>
     have t:=p9 O;clear O;rcases List.eq_nil_or_concat l with S|⟨l',z,Q⟩
     ·have P:=p9 S;clear S;go_wp2_with fail;refine(xH H5.o Y.o V.o (a6 P.o)).mono ?_;rintro e W6 ⟨rfl,A⟩;have c:=p9 A;clear A;have a:=p9 (J.o.grown c.o.frame (by simp));have D:=a.o.at_ 0 (.slice none 0 0) rfl;have u:=a.o.free 0;have HE:qv (gN s=none):=p9 (by rw[HP.o];exact xY r HF.o (by rw[HY.o];exact yH i.o (a6 P.o)));go_wp2_with fail;have h:=p9 (a.o.set 0 (.slice none 0 0));have f:=p9 ((d.o.grown c.o.frame d.o.size (fun j B=>by injection B with B;rw[<-B,m.o];exact Nat.le_succ _)).setCell (p:=⟨R,0,none⟩) (by rw[m.o];exact rm _) (.slice none 0 0));clear D u a c;generalize W6.setCell ⟨R,0,none⟩ (.slice none 0 0)=W7 at h f⊢;have D:=h.o.at_ 0 (.slice none 0 0) rfl;refine bodyPost_ret (v:=.tuple #[.agg #[.slice none 0 0],.bool false]) ?_ rfl ⟨ad ⟨HE.o,rfl⟩,f.o⟩;simp[results,results12,go_sem,D]
     ·rw[List.concat_eq_append] at Q;subst Q;have A0:qv (l'.length<6):=p9 (by have:=H6.o;simp at this;omega);have Ad:qv (k<maxLen):=p9 (by have:=G.o;unfold maxLen;omega);go_wp2_with fail;refine(Ej H5.o A0.o Ad.o Y.o V.o t.o).mono ?_;rintro e W6 ⟨rfl,A⟩;have c:=p9 A;clear A;go_wp2_with fail;go_roundg (gk - 1)
      case rel=>
       have e:=Ep i.o t.o;refine⟨k+1,_,by simp,by omega,?_,?_,c.o⟩
       ·rw[sK r HF.o,HY.o];exact e
       ·have:=A0.o;simp;omega
      case measure=>omega
  ·have Af:¬(k:Int)<(C.length:Int):=by omega
   have a:=p9 (J.o.grown H.o.frame (by simp));obtain⟨v,hx,ho⟩:=H.o.list;obtain⟨L,M,rfl,_⟩:=bi (aJ ho ho.1);have Aa:=p9 hx;have D:=a.o.at_ 0 (.slice none 0 0) rfl;have u:=a.o.free 0;have x0:wr.cell? ⟨R+1,0,none⟩=some (.slice L l.length M):=(hx.cell 0).trans rfl;have HE:qv (gN s=some (l.map er)):=p9 (by rw[HP.o];have:=HF.o;rwa [uB (by omega)] at this);have Ae:qv (k<=2001):=p9 (by have:=G.o;omega);clear hx ho;go_wp2_with fail;have h:=p9 (a.o.set 0 (.slice L l.length M));have Ab:=p9 (Aa.o.aY (b':=R) (by simp) 0 (.slice L l.length M));have f:=p9 ((d.o.grown H.o.frame d.o.size (fun j B=>by injection B with B;rw[<-B,m.o];exact Nat.le_succ _)).setCell (p:=⟨R,0,none⟩) (by rw[m.o];exact rm _) (.slice L l.length M));have A3:=p9 (gX.aside H.o J.o X.o (.slice L l.length M));clear D u x0 a Aa H;generalize wr.setCell ⟨R,0,none⟩ (.slice L l.length M)=W7 at h f Ab A3⊢;have D:=h.o.at_ 0 (.slice L l.length M) rfl;refine bodyPost_ret (v:=.tuple #[.agg #[.slice L l.length M],.bool true]) ?_ rfl ⟨a6 ⟨_,l,W4.setCell ⟨R,0,none⟩ (.slice L l.length M),R+1,_,k,HE.o,rfl,H6.o,Ae.o,?_,A3.o,Ab.o,rfl⟩,f.o⟩
   ·simp[results,results12,go_sem,D]
   ·have:=d.o.size
    simpa using this
theorem DO(hm:W.cell? ⟨1,0,none⟩=some (.int .i64 mx)):
  Calls prog 12 #[.string s] W fun e W'=>uM W s e W'/\Below W.heap.size W W':=by
 by_cases a:s.size<=2000
 ·exact GK a hm
 ·exact Ko a
structure sA(vp:Value)(l:List db)(m:Nat)(W:World):Prop where
 own:W.ownsRow 0 104 2 vp l.length (l.flatMap nW)
 right:∀x∈l,dl W x.2.1 m x.2.2
 rY:l.length<=6
theorem sA.later{l:List db}(h:sA vp l m W)(a:Below W.heap.size W w):sA vp l m w:=
 ⟨h.own.kept (ag a none) (by cases vp.ownBlock<;>simp),fun x hx=>(h.right x hx).kept (ag a none) (by simp),h.rY⟩
theorem SK(hm:W.cell? ⟨1,0,none⟩=some (.int .i64 mx)):
  Calls prog 6 #[.string s] W fun e W'=>Below W.heap.size W W'/\((gN s=none/\e=.returned (.tuple #[.pointer none,.int .i64 1]))\/∃ls l G vp m,gN s=some ls/\l.map er=ls/\m<=2001/\W.heap.size<=G/\e=.returned (.tuple #[.pointer (some ⟨G,0,none⟩),.int .i64 0])/\Loc W' G #[vp,.slice none 0 0,.slice none 0 0,.int .i64 0,.slice none 0 0,.slice none 0 0] 67/\sA vp l m W'):=by
 have J:=p9 hm;clear hm;go_enter func6,ntmps6
 go_wp2_with fail;refine(DO (s:=s) J.o).mono ?_;rintro e q ⟨hp,j⟩;rcases hp with ⟨C,rfl⟩|⟨ls,l,W0,X,v,m,D,B,z,n,_,a,E,rfl⟩
 ·have K:=p9 C;have i:=p9 (j.alloc j.size (.cells #[.slice none 0 0] 58));clear C j;go_wp2_with fail;go_ret2;exact⟨i.o,ad ⟨K.o,rfl⟩⟩
 ·have L:=p9 D;have I:=p9 B;have u:=p9 n;obtain⟨F,p,r⟩:=a.list;have h:F=v:=by
   have h1:=p.cell 0;rw[E.cell 0] at h1;simp at h1;exact h1.symm
  subst h;have k:qv (sA F l m q):=p9 ⟨⟨r.1,r.2.imp id (fun ⟨g,c,cu,a1,_,a3⟩=>⟨g,c,cu,a1,tJ _,a3⟩)⟩,a.right,z⟩;obtain⟨d,f,h⟩:=aV r;subst h;have i:=p9 (j.alloc j.size (.cells #[.slice d l.length f] 58));have b:=p9 (k.o.later ((r5 _ _).alloc (rm _) (.cells #[.slice d l.length f] 58)));clear D B n a E p r z j k;go_upto_region 4 with fail;have x:=p9 (Loc.new q #[.slice d l.length f] 58);obtain⟨Y,A⟩:∃Y,Y=q.heap.size:=⟨_,rfl⟩;rw[<-A] at x⊢;clear A;generalize q.alloc (.cells #[.slice d l.length f] 58)=y at i b x⊢;have x0:=x.o.at_ 0 (.slice d l.length f) rfl;have H:=p9 (Loc.new y #[.slice d l.length f,.slice none 0 0,.slice none 0 0,.int .i64 0,.slice none 0 0,.slice none 0 0] 67);have t:=p9 (i.o.alloc i.o.size (.cells #[.slice d l.length f,.slice none 0 0,.slice none 0 0,.int .i64 0,.slice none 0 0,.slice none 0 0] 67));have w:=p9 (b.o.later ((r5 _ _).alloc (rm _) (.cells #[.slice d l.length f,.slice none 0 0,.slice none 0 0,.int .i64 0,.slice none 0 0,.slice none 0 0] 67)));go_wp2_with fail;go_ret2;exact⟨t.o,a6 ⟨ls,l,y.heap.size,_,m,L.o,I.o,u.o,i.o.size,rfl,H.o,w.o⟩⟩
end
section
open Go.RowKit
theorem SI{B:Nat}{q:aI}{vs vc vi:Value}(M:W.ownsRow B 191 5 vs q.ah.length (bL q.ah))(L:W.ownsRow B 125 7 vc q.aq.length (eK q.aq))(N:W.ownsRow B 129 2 vi q.af.length (eJ q.af))(Aa:q.aq.length<=3000)(Ab:q.af.length<=3000):
  Calls prog 125 #[.agg (qC q vs vc vi vp)] W fun e W'=>∃v,e=.returned v/\W'.ownsRow W.heap.size 9 1 v (lO q).length (strs (lO q))/\(lO q).length<=9003/\Below W.heap.size W W':=by
 obtain⟨i1,hj,P,Q,R⟩:=info_parts Tryz.gV;obtain⟨n,p,rfl,A6⟩:=aQ (l:=q.ah) M;obtain⟨f,i,rfl,A4⟩:=aQ (l:=q.aq) L;obtain⟨h,j,rfl,A5⟩:=aQ (l:=q.af) N;have g0:=aD W (.cells (qC q (.slice n q.ah.length p) (.slice f q.aq.length i) (.slice h q.af.length j) vp) 49) none;have S:qv (qz W B W.heap.size (qC q (.slice n q.ah.length p) (.slice f q.aq.length i) (.slice h q.af.length j) vp) q (.slice n q.ah.length p) (.slice f q.aq.length i) (.slice h q.af.length j) (.slice none 0 0) [] (W.alloc (.cells (qC q (.slice n q.ah.length p) (.slice f q.aq.length i) (.slice h q.af.length j) vp) 49))):=
  ⟨FD (r5 _ _) (rm _) _,Loc.new W _ _,rm _,bD M g0,bD L g0,bD N g0,tj _ _ _ _⟩
 clear M L N g0;go_enter func125,ntmps125
 go_upto_region 2 with fail;obtain⟨X,hX⟩:∃X,X=W.heap.size:=⟨_,rfl⟩;rw[<-hX] at S⊢;generalize W.alloc (.cells (qC q (.slice n q.ah.length p) (.slice f q.aq.length i) (.slice h q.af.length j) vp) 49)=W1 at S⊢;have A9:W.heap.size<=X:=by omega
 clear hX;have c2:=S.o.lq.at_ 2 (.slice f q.aq.length i) rfl;go_upto_block 0 with fail;clear c2;go_cut [3] (fun v w=>qz W B X (qC q (.slice n q.ah.length p) (.slice f q.aq.length i) (.slice h q.af.length j) vp) q (.slice n q.ah.length p) (.slice f q.aq.length i) (.slice h q.af.length j) v (dV q.aq) w)
 case first=>
  go_wp2_with fail;go_loopg [3,11] q.aq.length (fun m v iv w=>∃k:Nat,iv=.int .i64 (k:Int)/\k+m=q.aq.length/\qz W B X (qC q (.slice n q.ah.length p) (.slice f q.aq.length i) (.slice h q.af.length j) vp) q (.slice n q.ah.length p) (.slice f q.aq.length i) (.slice h q.af.length j) v (dV (q.aq.take k)) w)
  case atStart=>exact⟨0,rfl,by omega,S.o⟩
  case round=>
   obtain⟨k,rfl,hk,H⟩:=hrel;have A:=p9 H;clear S;by_cases s:k<q.aq.length
   ·obtain⟨g,rfl,c⟩:=nC (l:=q.aq) pX (fun _=>rfl) H.rc s;obtain⟨y,O⟩:∃y,q.aq[k]=y:=⟨_,rfl⟩;rw[O] at c;have p0:wr.cell? ⟨g,k*7,none⟩=some (.int .i64 y.op):=c 0 (by decide);have p1:wr.cell? ⟨g,k*7+1,none⟩=some (.string y.a.name):=c 1 (by decide);have p2:wr.cell? ⟨g,k*7+2,none⟩=some (.string y.a.key):=c 2 (by decide);have p3:wr.cell? ⟨g,k*7+3,none⟩=some (.int .i64 y.a.val):=c 3 (by decide);have p4:wr.cell? ⟨g,k*7+4,none⟩=some (.string y.b.name):=c 4 (by decide);have p5:wr.cell? ⟨g,k*7+5,none⟩=some (.string y.b.key):=c 5 (by decide);have p6:wr.cell? ⟨g,k*7+6,none⟩=some (.int .i64 y.b.val):=c 6 (by decide);have K:(k:Int)<(q.aq.length:Int):=by omega
    have z:qv (dV (q.aq.take (k+1))=dV (q.aq.take k)++[y.a.name,y.b.name]):=by show _=_;rw[qt s,O]
    have u:=lE (q.aq.take k);rw[List.length_take_of_le (by omega)] at u;obtain⟨ns,D⟩:∃ns,dV (q.aq.take k)=ns:=⟨_,rfl⟩;rw[D] at A z u;have A1:ns.length<=6000:=by omega
    have I:=p9 (Loc.new wr #[.int .i64 y.op,.string y.a.name,.string y.a.key,.int .i64 y.a.val,.string y.b.name,.string y.b.key,.int .i64 y.b.val] 125);have t:=p9 (A.o.alloc (.cells #[.int .i64 y.op,.string y.a.name,.string y.a.key,.int .i64 y.a.val,.string y.b.name,.string y.b.key,.int .i64 y.b.val] 125));clear D s u c O H A;go_upto_region 5 with fail;obtain⟨Z,V⟩:∃Z,Z=wr.heap.size:=⟨_,rfl⟩;rw[<-V] at I⊢;clear V;generalize wr.alloc (.cells #[.int .i64 y.op,.string y.a.name,.string y.a.key,.int .i64 y.a.val,.string y.b.name,.string y.b.key,.int .i64 y.b.val] 125)=W3 at I t⊢;clear p0 p1 p2 p3 p4 p5 p6;have z1:=I.o.at_ 1 (.string y.a.name) rfl;have z4:=I.o.at_ 4 (.string y.b.name) rfl;have x:=p9 (t.o.alloc (.cells #[.string y.a.name,.string y.b.name] 9));go_wp2_with (at_builtin;go_must (refine wpList_append_lies _ rfl _ _ 34 rfl W.heap.size 9 i1 (.string ⟨#[]⟩) 1 16 underlying34 hj P Q R rfl (by decide) u3 _ _ rfl x.o.rl _ 2 2 [.string y.a.name,.string y.b.name] rfl rfl (World.news_of_block (heap_alloc_new W3 _)) uv (by omega) (by unfold maxLen;omega) (by omega) x.o.low.size _ rfl ?_;intro g2 C w5 r d _ _;have T:=p9 (x.o.more (l:=[y.a.name,y.b.name]) d (by rw[iO,r7];exact r));clear r d))
    go_roundg (gk - 1)
    case measure=>omega
    case rel=>exact⟨k+1,by simp,by omega,by rw[z.o];exact T.o⟩
   ·have K:¬(k:Int)<(q.aq.length:Int):=by omega
    have J:k=q.aq.length:=by omega
    clear H;go_wp2_with fail;go_meet
    case rel=>
     rw[J,yt] at A;exact A.o
 case rest=>
  clear S;have H1:=p9 hcut;have Y:=lE q.aq;obtain⟨n0,E⟩:∃n0,dV q.aq=n0:=⟨_,rfl⟩;rw[E] at H1 Y;have A2:=p9 E;have A7:n0.length<=6000:=by omega
  clear hcut E Y;have c3:=H1.o.lq.at_ 3 (.slice h q.af.length j) rfl;go_upto_block 2 with fail;clear c3;go_cut [3] (fun v w=>qz W B X (qC q (.slice n q.ah.length p) (.slice f q.aq.length i) (.slice h q.af.length j) vp) q (.slice n q.ah.length p) (.slice f q.aq.length i) (.slice h q.af.length j) v (n0++dh q.af) w)
  case first=>
   go_wp2_with fail;go_loopg [3,28] q.af.length (fun m v iv w=>∃k:Nat,iv=.int .i64 (k:Int)/\k+m=q.af.length/\qz W B X (qC q (.slice n q.ah.length p) (.slice f q.aq.length i) (.slice h q.af.length j) vp) q (.slice n q.ah.length p) (.slice f q.aq.length i) (.slice h q.af.length j) v (n0++dh (q.af.take k)) w)
   case atStart=>exact⟨0,rfl,by omega,by rw[show dh (q.af.take 0)=[] from rfl,x8];exact H1.o⟩
   case round=>
    obtain⟨k,rfl,hk,H⟩:=hrel;have A:=p9 H;clear H1;by_cases s:k<q.af.length
    ·obtain⟨g,rfl,c⟩:=nC (l:=q.af) kk (fun _=>rfl) H.rt s;obtain⟨y,O⟩:∃y,q.af[k]=y:=⟨_,rfl⟩;rw[O] at c;have p0:wr.cell? ⟨g,k*2,none⟩=some (.string y.name):=c 0 (by decide);have p1:wr.cell? ⟨g,k*2+1,none⟩=some (.string y.key):=c 1 (by decide);have K:(k:Int)<(q.af.length:Int):=by omega
     have z:qv (n0++dh (q.af.take (k+1))=(n0++dh (q.af.take k))++[y.name]):=by show _=_;rw[qw s,O,wh]
     have u:=lH (q.af.take k);rw[List.length_take_of_le (by omega)] at u;have A1:(n0++dh (q.af.take k)).length<=9000:=by rw[r7];omega
     obtain⟨ns,D⟩:∃ns,n0++dh (q.af.take k)=ns:=⟨_,rfl⟩;rw[D] at A z A1;have I:=p9 (Loc.new wr #[.string y.name,.string y.key] 129);have t:=p9 (A.o.alloc (.cells #[.string y.name,.string y.key] 129));clear D s u c O H A;go_upto_region 10 with fail;obtain⟨Z,V⟩:∃Z,Z=wr.heap.size:=⟨_,rfl⟩;rw[<-V] at I⊢;clear V;generalize wr.alloc (.cells #[.string y.name,.string y.key] 129)=W3 at I t⊢;clear p0 p1;have z0:=I.o.at_ 0 (.string y.name) rfl;have x:=p9 (t.o.alloc (.cells #[.string y.name] 9));go_wp2_with (at_builtin;go_must (refine wpList_append_lies _ rfl _ _ 34 rfl W.heap.size 9 i1 (.string ⟨#[]⟩) 1 16 underlying34 hj P Q R rfl (by decide) u3 _ _ rfl x.o.rl _ 1 1 [.string y.name] rfl rfl (World.news_of_block (heap_alloc_new W3 _)) I8 (by omega) (by unfold maxLen;omega) (by omega) x.o.low.size _ rfl ?_;intro g2 C w5 r d _ _;have T:=p9 (x.o.more (l:=[y.name]) d (by rw[iO,r7];exact r));clear r d))
     go_roundg (gk - 1)
     case measure=>omega
     case rel=>exact⟨k+1,by simp,by omega,by rw[z.o];exact T.o⟩
    ·have K:¬(k:Int)<(q.af.length:Int):=by omega
     have J:k=q.af.length:=by omega
     clear H;go_wp2_with fail;go_meet
     case rel=>
      rw[J,yt] at A;exact A.o
  case rest=>
   clear H1;have A3:=lH q.af;have t:=p9 hcut;have A0:(n0++dh q.af).length<=9000:=by rw[r7];omega
   obtain⟨G,F⟩:∃G,n0++dh q.af=G:=⟨_,rfl⟩;rw[F] at t A0;have HU:qv (lO q=G++(if q.kind≠6 then [q.name,q.dest] else [])):=by
    show _=_;unfold lO;rw[<-F,<-A2.o]
    rfl
   clear hcut F A3;obtain⟨pa,pc,hu⟩:∃ao cap,u3=.slice ao G.length cap:=by
    obtain⟨ao,cap,e,_⟩:=aQ (l:=G) t.o.rl;exact⟨ao,cap,e⟩
   subst hu;have c0:=t.o.lq.at_ 0 (.int .i64 q.kind) rfl;by_cases h6:q.kind=6
   ·have U:qv (lO q=G):=by show _=_;rw[HU.o,bk (by simp[h6])];exact x8 _
    go_wp2_with fail;refine bodyPost_ret (v:=.slice pa G.length pc) ?_ rfl ⟨_,rfl,by rw[U.o];exact t.o.rl,by rw[U.o];omega,t.o.low⟩;simp[results,results125,go_sem]
   ·have U:qv (lO q=G++[q.name,q.dest]):=by show _=_;rw[HU.o,a8 h6]
    have c8:=t.o.lq.at_ 8 (.string q.name) rfl;have A8:=t.o.lq.at_ 14 (.string q.dest) rfl;have x:=p9 (t.o.alloc (.cells #[.string q.name,.string q.dest] 9));go_wp2_with (at_builtin;go_must (refine wpList_append_lies _ rfl _ _ 34 rfl W.heap.size 9 i1 (.string ⟨#[]⟩) 1 16 underlying34 hj P Q R rfl (by decide) (.slice pa G.length pc) _ _ rfl x.o.rl _ 2 2 [.string q.name,.string q.dest] rfl rfl (World.news_of_block (heap_alloc_new wc _)) uv (by omega) (by unfold maxLen;omega) (by omega) x.o.low.size _ rfl ?_;intro g2 C w5 r d _ _;have T:=p9 (x.o.more (l:=[q.name,q.dest]) d (by rw[iO,r7];exact r));clear r d))
    refine bodyPost_ret (v:=.slice (some ⟨g2,0,none⟩) (G.length+2) C) ?_ rfl ⟨_,rfl,by rw[U.o];exact T.o.rl,by rw[U.o,r7];simp;omega,T.o.low⟩;simp[results,results125,go_sem]
theorem E5{B:Nat}{q:aI}{vs vc vi:Value}(E:W.ownsRow B 191 5 vs q.ah.length (bL q.ah))(D:W.ownsRow B 125 7 vc q.aq.length (eK q.aq))(F:W.ownsRow B 129 2 vi q.af.length (eJ q.af))(R:q.ah.length<=3000)(S:q.aq.length<=3000)(T:q.af.length<=3000):
  Calls prog 77 #[.agg (qC q vs vc vi vp)] W fun e W'=>e=.returned (.bool (fF q))/\Below W.heap.size W W':=by
 obtain⟨a,b,rfl,A2⟩:=aQ (l:=q.ah) E;obtain⟨c,f,rfl,A0⟩:=aQ (l:=q.aq) D;obtain⟨d,i,rfl,A1⟩:=aQ (l:=q.af) F;have g0:=aD W (.cells (qC q (.slice a q.ah.length b) (.slice c q.aq.length f) (.slice d q.af.length i) vp) 49) none;have r:qv (qz W B W.heap.size (qC q (.slice a q.ah.length b) (.slice c q.aq.length f) (.slice d q.af.length i) vp) q (.slice a q.ah.length b) (.slice c q.aq.length f) (.slice d q.af.length i) (.slice none 0 0) [] (W.alloc (.cells (qC q (.slice a q.ah.length b) (.slice c q.aq.length f) (.slice d q.af.length i) vp) 49))):=
  ⟨FD (r5 _ _) (rm _) _,Loc.new W _ _,rm _,bD E g0,bD D g0,bD F g0,tj _ _ _ _⟩
 clear E D F g0;go_enter func77,ntmps77
 go_upto_region 1 with fail;obtain⟨X,hX⟩:∃X,X=W.heap.size:=⟨_,rfl⟩;rw[<-hX] at r⊢;generalize W.alloc (.cells (qC q (.slice a q.ah.length b) (.slice c q.aq.length f) (.slice d q.af.length i) vp) 49)=W1 at r⊢;clear hX;refine wp_region_lit ?_;refine wpList_load_mid rfl 49 _ rfl X 0 rfl (qC q (.slice a q.ah.length b) (.slice c q.aq.length f) (.slice d q.af.length i) vp).toList _ r.o.lq.range underlying49 rfl (by rw[Tryz.bp];rfl) ?_;go_wp2_with fail;refine(SI (vp:=vp) r.o.rs r.o.rc r.o.rt S T).mono ?_;rintro e W2 ⟨v0,rfl,U,hlen,J⟩;obtain⟨pa,pc,rfl,V⟩:=aQ (l:=lO q) U;have M:qv (qz W B X (qC q (.slice a q.ah.length b) (.slice c q.aq.length f) (.slice d q.af.length i) vp) q (.slice a q.ah.length b) (.slice c q.aq.length f) (.slice d q.af.length i) (.slice pa (lO q).length pc) (lO q) W2):=by
  have h:=r.o.later J;exact⟨h.low,h.lq,h.nx,h.rs,h.rc,h.rt,U.mono r.o.low.size⟩
 obtain⟨ns,C⟩:∃ns,lO q=ns:=⟨_,rfl⟩;rw[C] at M hlen V⊢;have H:=p9 C;clear U J r C;go_wp2_with fail;go_loopg [8] ns.length (fun m iv w=>∃k:Nat,iv=.int .i64 (k:Int)/\k+m=ns.length/\qz W B X (qC q (.slice a q.ah.length b) (.slice c q.aq.length f) (.slice d q.af.length i) vp) q (.slice a q.ah.length b) (.slice c q.aq.length f) (.slice d q.af.length i) (.slice pa ns.length pc) ns w/\(ns.take k).all (fun n=>n.toList.isEmpty || dQ q.ah n)=true)
 case atStart=>exact⟨0,rfl,by omega,M.o,rfl⟩
 case round=>
  obtain⟨k,rfl,hk,L,z⟩:=hrel;have j:=p9 L;have y:=p9 z;clear M z;by_cases u:k<ns.length
  ·obtain⟨g,rfl,p⟩:=nC (l:=ns) (fun s=>[.string s]) (fun _=>rfl) (by rw[<-AD];exact L.rl) u;have p0:wr.cell? ⟨g,k,none⟩=some (.string ns[k]):=by have:=p 0 (by decide);simpa using this
   have Q:(k:Int)<(ns.length:Int):=by omega
   obtain⟨nm,x⟩:∃nm,ns[k]=nm:=⟨_,rfl⟩;have I:qv ((ns.take (k+1)).all (fun n=>n.toList.isEmpty || dQ q.ah n)=(nm.toList.isEmpty || dQ q.ah nm)):=by
    show _=_;rw[show ns.take (k+1)=ns.take k++[ns[k]] by rw[tt,r6 u];rfl,List.all_append,y.o,x];simp
   have N:qv ((nm.toList.isEmpty || dQ q.ah nm)=false->fF q=false):=by
    intro e;have h1:ns.all (fun n=>n.toList.isEmpty || dQ q.ah n)=false:=by
     rw[List.all_eq_false];exact⟨ns[k],sT u,by rw[x,e];simp⟩
    unfold fF;rw[H.o,h1]
    rfl
   rw[x] at p0;clear p x u L;cases he:nm.toList.isEmpty with
   | true=>
    go_wp2_with fail;go_roundg (gk - 1)
    case measure=>omega
    case rel=>exact⟨k+1,by simp,by omega,j.o,by rw[I.o,he];rfl⟩
   | false=>
    have c1:=j.o.lq.at_ 1 (.slice a q.ah.length b) rfl;go_wp2_with fail;refine(NV (n:=nm) j.o.rs R).mono ?_;rintro e W5 ⟨rfl,K⟩;have Y:=p9 (j.o.later K);clear K c1 p0;obtain⟨O,A⟩:∃O,dQ q.ah nm=O:=⟨_,rfl⟩;have G:=p9 A;rw[A];clear A;cases O with
    | true=>
     go_wp2_with fail;go_roundg (gk - 1)
     case measure=>omega
     case rel=>exact⟨k+1,by simp,by omega,Y.o,by rw[I.o,G.o];simp⟩
    | false=>
     have HR:qv (fF q=false):=N.o (by rw[he,G.o];rfl);go_wp2_with fail;refine bodyPost_ret (v:=.bool false) ?_ rfl ⟨?_,Y.o.low⟩
     ·simp[results,results77,go_sem]
     ·rw[HR.o]
  ·have Q:¬(k:Int)<(ns.length:Int):=by omega
   have P:k=ns.length:=by omega
   have c0:=j.o.lq.at_ 0 (.int .i64 q.kind) rfl;have c8:=j.o.lq.at_ 8 (.string q.name) rfl;have A3:=j.o.lq.at_ 10 (.string q.value.name) rfl;have t:qv (fF q=(decide (q.kind≠2) || q.value.name.toList.isEmpty || (q.value.name.toList==q.name.toList))):=by
    show _=_;have:=y.o;rw[P,yt] at this;unfold fF;rw[H.o,this]
    rfl
   clear L;by_cases Z:q.kind=2
   ·cases he:q.value.name.toList.isEmpty with
    | true=>
     go_wp2_with fail;refine bodyPost_ret (v:=.bool true) ?_ rfl ⟨?_,j.o.low⟩
     ·simp[results,results77,go_sem]
     ·rw[t.o,he];simp
    | false=>
     cases hf:(q.value.name.toList==q.name.toList) with
     | true=>
      go_wp2_with fail;refine bodyPost_ret (v:=.bool true) ?_ rfl ⟨?_,j.o.low⟩
      ·simp[results,results77,go_sem]
      ·rw[t.o,hf];simp
     | false=>
      go_wp2_with fail;refine bodyPost_ret (v:=.bool false) ?_ rfl ⟨?_,j.o.low⟩
      ·simp[results,results77,go_sem]
      ·rw[t.o,he,hf];simp[Z]
   ·go_wp2_with fail;refine bodyPost_ret (v:=.bool true) ?_ rfl ⟨?_,j.o.low⟩
    ·simp[results,results77,go_sem]
    ·rw[t.o];simp[Z]
end
end Go.Proofs.YtbfmmmjkjhjleaaGreatDoor
