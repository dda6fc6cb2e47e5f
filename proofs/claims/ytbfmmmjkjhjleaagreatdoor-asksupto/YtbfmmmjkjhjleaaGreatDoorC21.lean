/- Mine. -/
import Derived.Test.YtbfmmmjkjhjleaaGreatDoorC17
set_option maxRecDepth 100000
set_option maxHeartbeats 0
namespace Go.Proofs.YtbfmmmjkjhjleaaGreatDoor
open Go.Proofs.Tryz
variable {m b gb go n cap B:Nat} {w W:World} {D0 Dout:DataW Unit} {left:Lit->Bool} {p:ByteArray->Bool} {f:ByteArray->Option Int} {ao:Option Addr}
section
open Go.RowKit Go.Maps
abbrev k8(s:ByteArray):Lit:=.string s.data.toList
theorem uf{s t:ByteArray}(h:k8 s=k8 t):s=t:=by
 injection h with h
 obtain⟨a⟩:=s;obtain⟨b⟩:=t
 congr
 exact Array.toList_inj.1 h
theorem El{key:Value}{a:Lit}(h:keyOf prog 9 key=some a):∃x:ByteArray,key=.string x/\a=k8 x/\x.size<=maxLen:=by
 cases key<;>simp[keyOf,underlying9,mapKey] at h
 exact⟨_,rfl,h.2.symm,h.1⟩
theorem yu(s t:ByteArray):(k8 s).sameKey (k8 t)=decide (s=t):=by
 by_cases e:s=t
 ·subst e;simp[Lit.sameKey]
 ·rw[decide_eq_false e];exact sameKey_ne (fun h=>e (uf h))
def mu(D0 Dout:DataW Unit)(left:Lit->Bool)(p:ByteArray->Bool):Prop:=
 ∀s:ByteArray,s.size<=maxLen->Maps.has Dout (k8 s)=(Maps.has D0 (k8 s)&&!left (k8 s)&&p s)/\(Maps.has Dout (k8 s)=true->∀z,Dout.atKey (k8 s) z=D0.atKey (k8 s) z)
theorem mu.start(a:DataW Unit)(p:ByteArray->Bool):mu a (.map []) (Maps.has a) p:=fun s _=>⟨by cases Maps.has a (k8 s)<;>rfl,fun h=>by cases h⟩
theorem Ff{D:DataW Unit}{k:Lit}{y:DataW Unit}(h:∀z,D.atKey k z=y):Maps.has D k=true:=has_true_of_atKey h
theorem mu.skip{x:ByteArray}(h:mu D0 Dout left p)(hp:p x=false):mu D0 Dout (fun z=>left z&&!z.sameKey (k8 x)) p:=by
 intro s a;refine⟨?_,(h s a).2⟩;simp only[yu];rw[(h s a).1];by_cases e:s=x
 ·subst e;simp[hp]
 ·simp[e]
theorem mu.put{f a:DataW Unit}{left:Lit->Bool}{p:ByteArray->Bool}{x:ByteArray}{d:DataW Unit}(h:mu f a left p)(hm:IsMap a)(i:x.size<=maxLen)(hp:p x=true)(b:∀z,f.atKey (k8 x) z=d):mu f (a.put (k8 x) d) (fun z=>left z&&!z.sameKey (k8 x)) p:=by
 intro s g;by_cases e:s=x
 ·subst e;refine⟨?_,fun _ z=>?_⟩
  ·simp only[yu];rw[has_put_same hm (rX.key (uH i)),Ff b];simp[hp]
  ·rw[atKey_put_same hm (rX.key (uH i)),b]
 ·have c:k8 s≠k8 x:=fun h=>e (uf h);simp only[yu];rw[has_put_other c];refine⟨?_,fun hh z=>?_⟩
  ·rw[(h s g).1];simp[e]
  ·rw[atKey_put_other c];exact(h s g).2 hh z
theorem mu.done{n':Nat}(h:mu D0 Dout left p)(d:∀k,left k=false)(_h0:W.ownsMap prog 9 (plainElem prog 3) b n D0)
  (c:∀s:ByteArray,s.size<=maxLen->Maps.has D0 (k8 s)=(f s).isSome/\D0.atKey (k8 s) (.lit (.int .i64 0))=.lit (.int .i64 ((f s).getD 0))) (g:w.ownsMap prog 9 (plainElem prog 3) B n' Dout):cK w B n' (fun s=>if p s then f s else none):=by
 refine⟨Dout,g,fun s hs=>?_⟩;have h1:=h s hs;rw[d,(c s hs).1] at h1;cases hp:p s with
 | false=>
  simp only[hp,Bool.and_false] at h1;simp only[hp,th,if_false];refine⟨by rw[h1.1];rfl,?_⟩;rw[atKey_of_not_has h1.1];rfl
 | true=>
  simp only[hp,Bool.and_true,GS] at h1;simp only[hp,if_true];refine⟨h1.1,?_⟩;cases a:(f s).isSome with
  | true=>rw[h1.2 (by rw[h1.1,a])];exact(c s hs).2
  | false=>
   rw[a] at h1;rw[atKey_of_not_has h1.1];have:f s=none:=by simpa using a
   rw[this];rfl
theorem JB{x:aH}{O rn:Nat}{nm:ByteArray}{S:bF->Bool}(hp:cK W x.bJ m x.bf)(hm:m<maxLen)(hr:dl W O rn S)(hl:x.ai.size<=maxLen):
  Calls prog 90 #[.agg #[.int .i64 x.num,.string x.ai,.map (some x.bJ)],.agg #[.string nm,.map (some O)]] W fun e W'=>∃B,e=.returned (.map (some B))/\W.heap.size<=B/\cK W' B m (fun s=>if S (3,x.ai,s) then x.bf s else none)/\Below W.heap.size W W':=by
 obtain⟨num,ai,l,bf⟩:=x;simp only at hp hl⊢;obtain⟨D,G,hD⟩:=hp;have HR:=p9 hr;have HL:=p9 hl;have HD:=p9 hD;have At:=p9 hm;have V:=p9 ((r5 W.heap.size W).alloc (rm _) (.cells #[.int .i64 num,.string ai,.map (some l)] 138));have A9:=p9 (Loc.new W #[.int .i64 num,.string ai,.map (some l)] 138);have a:=p9 (V.o.alloc V.o.size (.cells #[.string nm,.map (some O)] 104));have d:=p9 (A9.o.alloc (.cells #[.string nm,.map (some O)] 104));have M:=p9 (Loc.new (W.alloc (.cells #[.int .i64 num,.string ai,.map (some l)] 138)) #[.string nm,.map (some O)] 104);have HO:=p9 G;have A5:=p9 G.lt;have B0:=@run_makeMap prog;clear hr hl hD hm G V A9;go_enter func90,ntmps90
 go_upto_region 1 with fail;obtain⟨Y,hY⟩:∃Y,Y=W.heap.size:=⟨_,rfl⟩;have e1:(W.alloc (.cells #[.int .i64 num,.string ai,.map (some l)] 138)).heap.size=Y+1:=by rw[hY];simp
 have e2:((W.alloc (.cells #[.int .i64 num,.string ai,.map (some l)] 138)).alloc (.cells #[.string nm,.map (some O)] 104)).heap.size=Y+2:=by rw[hY];simp
 have t:=p9 e2;have N:=p9 hY;rw[e1] at M;rw[<-hY] at d⊢;clear hY e1 e2;generalize (W.alloc (.cells #[.int .i64 num,.string ai,.map (some l)] 138)).alloc (.cells #[.string nm,.map (some O)] 104)=W1 at a d M t⊢;have Z:qv ((W1.alloc (.map #[] 0)).ownsMap prog 9 (plainElem (H:=Unit) prog 3) (Y+2) 0 (.map [])):=p9 (by rw[<-t.o];exact World.ownsMap_made W1 _ _ _);have b:=p9 (a.o.alloc a.o.size (.map #[] 0));have f:=p9 (d.o.alloc (.map #[] 0));have A2:=p9 (M.o.alloc (.map #[] 0));have A0:=p9 (HO.o.kept (ag b.o none) (by simp));have X:qv ((W1.alloc (.map #[] 0)).heap.size=Y+3):=p9 (by have:=t.o;simp[this]);go_upto_region 2 with fail;rw[t.o];clear B0 a d M;generalize W1.alloc (.map #[] 0)=W2 at Z b f A2 A0 X⊢;have n2:=f.o.at_ 2 (.map (some l)) rfl;go_wp2_with (first
  | (at_range;refine wpList_range_own _ rfl _ 136 rfl 9 3 rX underlying136 _ l m D rfl A0.o ?_;intro w0 I A Al)
  | go_in)
 go_frame
 rw[X.o] at I Al⊢;have Ab:=p9 I;have K:=p9 (b.o.grown A b.o.size (by simp));have L:=p9 (f.o.grown A (by simp));have Aa:=p9 (A2.o.grown A (by simp));have A8:=p9 (Z.o.kept A (by simp));clear I A Al n2 b f A2 Z A0 X t;go_loopg [6] (Maps.size D) (fun c _ wr=>∃(left:Lit->Bool) (q:DataW Unit),wr.ranges prog 9 (plainElem prog 3) l (Y+3) m D left c/\c<=Maps.size D/\wr.ownsMap prog 9 (plainElem prog 3) (Y+2) (Maps.size D - c) q/\mu D q left (fun s=>S (3,ai,s))/\Below W.heap.size W wr/\Loc wr Y #[.int .i64 num,.string ai,.map (some l)] 138/\Loc wr (Y+1) #[.string nm,.map (some O)] 104)
 case atStart=>exact⟨_,.map [],Ab.o,rm _,A8.o.mono (tJ _),mu.start D _,K.o,L.o,Aa.o⟩
 case round=>
  obtain⟨left,q,Aj,Ag,T,J,hb,hn,Ak⟩:=hrel;have HS:=p9 J;have HB:=p9 hb;have HN:=p9 hn;have Ac:=p9 Ak;have HG:=p9 Aj;have u:=p9 T;have HC:=p9 Ag;clear J hb hn Ak Aj T Ag Ab K L Aa A8;go_wp2_with (first
   | (at_next;refine wpList_next_ranges _ rfl _ rfl 9 rX (plainElem prog 3) Value.string (Value.int .i64) (fun key kl i=>by obtain⟨x,rfl,_⟩:=El i;exact⟨x,rfl⟩) (fun v y hv=>by obtain⟨c,rfl,_⟩:=plainElem_int_inv underlying3 hv;exact⟨c,rfl⟩) l (Y+3) m D left gk rfl HG.o ?_ ?_)
   | go_in)
  ·intro Af Ah;have Ar:=p9 Ah;have B3:=p9 Af;clear Ah Af;go_wp2_with fail;go_ret;refine⟨Y+2,rfl,by rw[N.o];omega,?_,HB.o⟩;have:=HS.o.done Ar.o HO.o HD.o u.o;obtain⟨D',B1,Aw⟩:=this;exact⟨D',B1.mono (by have:=HO.o.size_le;omega),Aw⟩
  ·intro x c kl y1 y2 w1 Q i Az hv Ae U Ai C B2 Ax;obtain⟨x',ex,Ay,An⟩:=El i;injection ex with ex
   subst ex;subst Ay;obtain⟨c',ec,Ao,Am⟩:=plainElem_int_inv underlying3 hv;injection ec with _ ec
   subst ec;have R:∀z,D.atKey (k8 x) z=.lit (.int .i64 c):=fun z=>(Ae z).trans (congrArg Prod.fst Ao);have Ap:=p9 R;have A4:=p9 An;have Av:=p9 Am;have k:=p9 Ai;have A6:=p9 U;have w:=p9 (u.o.kept C (by simp));have a:=p9 (HB.o.grown C HB.o.size (fun j hj=>by injection hj with hj;rw[<-hj,N.o];omega));have d:=p9 (HN.o.grown C (by simp));have h:=p9 (Ac.o.grown C (by simp));clear i Az hv Ae R U Ai C B2 An Am Ao y1 y2 HG u HB HN Ac;have n1:=d.o.at_ 1 (.string ai) rfl;have r0:w1.cell? ⟨Y+1,0,none⟩=some (.string nm):=(h.o.cell 0).trans rfl;have r1:w1.cell? ⟨Y+1,1,none⟩=some (.map (some O)):=(h.o.cell 1).trans rfl;go_wp2_with fail;refine(Pu (r:=(3,ai,x)) (HR.o.kept (ag a.o none) (by simp)) ⟨WalkArith.wf_i64 (n:=3) (by decide),HL.o,A4.o⟩).mono ?_;rintro e w2 ⟨rfl,p⟩;have A7:=p9 (A6.o.kept (ag p none) (by simp) (by simp));have g:=p9 (w.o.kept (ag p none) (by simp));have b:=p9 (a.o.trans (p.mono a.o.size));have f:=p9 (d.o.grown (ag p none) (by simp));have P:=p9 (h.o.grown (ag p none) (by simp));clear p Ax n1 r0 r1 A6 w a d h;have Au:qv (l≠Y+2/\l≠Y+3):=p9 (by have:=A5.o;rw[N.o];omega);cases hs:S (3,ai,x) with
   | true=>
    have A3:=p9 hs;clear hs;have As:qv (Maps.size D - gk<maxLen):=p9 (by have h1:=HO.o.size_le;have h2:=At.o;omega);go_wp2_with (first
     | (at_mapUpdate;refine wpList_mapUpdate_own _ rfl _ _ _ 136 rfl 9 3 rX underlying136 _ (Y+2) _ _ rfl g.o As.o _ _ _ rfl rfl (uH A4.o) _ [] (plainElem_int underlying3 Av.o) ?_;intro w3 F E;go_frame)
     | go_in)
    have Aq:=p9 (A7.o.kept E (fun e=>by injection e with e;exact Au.o.1 e) (by simp));have K:=p9 (b.o.grown E b.o.size (fun j hj=>by injection hj with hj;rw[<-hj,N.o];omega));have L:=p9 (f.o.grown E (by simp));have Ad:=p9 (P.o.grown E (by simp));have A1:=p9 F;clear E F;go_roundg Q
    case rel=>
     refine⟨_,_,Aq.o,by have:=k.o;have:=HC.o;omega,A1.o.mono (by have:=k.o;have:=HC.o;omega),HS.o.put g.o.isMap A4.o A3.o Ap.o,K.o,L.o,Ad.o⟩
    case measure=>exact k.o
   | false=>
    have A3:=p9 hs;clear hs;go_wp2_with fail;go_roundg Q
    case rel=>
     refine⟨_,_,A7.o,by have:=k.o;have:=HC.o;omega,g.o.mono (by have:=k.o;have:=HC.o;omega),HS.o.skip A3.o,b.o,f.o,P.o⟩
    case measure=>exact k.o
theorem Tryz.EU:(prog.info? 138).map (fun i=>(i.zero,i.size,i.bytes))=some (some (.agg #[.int .i64 0,.string ⟨#[]⟩,.map none]),3,32):=by kernel_rfl
theorem Tryz.MU:(prog.info? 141).map (fun i=>(i.zero,i.size,i.bytes))=some (some (.agg #[.string ⟨#[]⟩,.int .i64 0,.int .i64 0]),3,32):=by kernel_rfl
theorem Db(x:aH):∀u∈jO x,u.oneCell'=true:=by
 intro u hu;simp[jO] at hu;rcases hu with rfl|rfl|rfl<;>rfl
theorem KV{S:bF->Bool}{ns:List aH}{k:Nat}(hk:k<ns.length):gU S (ns.take (k+1))=gU S (ns.take k)++(if za S ns[k] then [Qb S ns[k]] else []):=by
 unfold gU;rw[tt,r6 hk,List.filter_append,vb];simp only[F2];cases a:za S ns[k]<;>simp[List.filter,a]
theorem TY{o A rn:Nat}{ns:List aH}{es:List bK}{S:bF->Bool}{nm:ByteArray}(h:jq b o ns es m W)(hr:dl W A rn S)(hm:m<maxLen)(hn:∀x∈ns,x.ai.size<=maxLen)(he:∀x∈es,x.type.size<=maxLen)(Al:es=[]):
  Calls prog 37 #[.pointer (some ⟨b,o,none⟩),.agg #[.string nm,.map (some A)]] W fun e W'=>∃Sb sn,e=.returned (.pointer (some ⟨Sb,0,none⟩))/\W.heap.size<=Sb/\sn.map Lh=gU S ns/\jq Sb 0 sn (es.filter (qR sn S)) m W'/\Below W.heap.size W W'/\∀w,(∀k,W.heap.size<=k->k<W'.heap.size->w.heap[k]?=W'.heap[k]?)->jq Sb 0 sn (es.filter (qR sn S)) m w:=by
 obtain⟨i0,hi,B7,B8,B9⟩:=info_parts Tryz.EU;obtain⟨i1,hj,Bj,Bk,Bl⟩:=info_parts Tryz.MU;have H:=p9 h;have HR:=p9 hr;have Av:=p9 hm;have Aw:=p9 hn;have Bd:=p9 he;have X:=p9 ((r5 W.heap.size W).alloc (rm _) (.cells #[.string nm,.map (some A)] 104));have Aa:=p9 (Loc.new W #[.string nm,.map (some A)] 104);have N:=p9 (X.o.alloc X.o.size (.cells #[.slice none 0 0,.slice none 0 0,.int .i64 0] 64));have O:=p9 (Aa.o.alloc (.cells #[.slice none 0 0,.slice none 0 0,.int .i64 0] 64));have P:=p9 (Loc.new (W.alloc (.cells #[.string nm,.map (some A)] 104)) #[.slice none 0 0,.slice none 0 0,.int .i64 0] 64);have Au:=p9 Al;clear Al;clear h hr hm hn he X Aa;go_enter func37,ntmps37
 go_upto_region 2 with fail;obtain⟨Y,hY⟩:∃Y,Y=W.heap.size:=⟨_,rfl⟩;have e1:(W.alloc (.cells #[.string nm,.map (some A)] 104)).heap.size=Y+1:=by rw[hY];simp
 have B2:=p9 hY;rw[e1] at P;rw[<-hY] at O⊢;clear hY e1;generalize (W.alloc (.cells #[.string nm,.map (some A)] 104)).alloc (.cells #[.slice none 0 0,.slice none 0 0,.int .i64 0] 64)=W1 at N O P⊢;have t:qv (iU W (Y+1) (.slice none 0 0) (.slice none 0 0) [] [] m W1):=p9 ⟨P.o,⟨rfl,ad ⟨rfl,rfl⟩⟩,⟨rfl,ad ⟨rfl,rfl⟩⟩,by simp,by rw[B2.o];exact Nat.le_succ _,N.o,fun x hx=>(by cases hx)⟩;obtain⟨an,kn,A6,As⟩:=H.o.cn;have cn:W1.cell? ⟨b,o,none⟩=some (.slice an ns.length kn):=(N.o.cell (block_lt_of_cell A6)).trans A6;have B0:=p9 As;have Ba:=p9 H.o.rY;have Bg:=H.o.rY.1;clear As A6 P;go_wp2_with fail;go_loopg [17] ns.length (fun n iv w=>∃(k:Nat) (sn:List aH) (vn:Value),iv=.int .i64 (k:Int)/\k+n=ns.length/\sn.map Lh=gU S (ns.take k)/\iU W (Y+1) vn (.slice none 0 0) sn [] m w/\Loc w Y #[.string nm,.map (some A)] 104)
 case atStart=>exact⟨0,[],_,rfl,by omega,rfl,t.o,O.o⟩
 case round=>
  obtain⟨k,sn,vn,rfl,hk,Aq,c,J⟩:=hrel;have q:=p9 Aq;have L:=p9 c;have C:=p9 J;clear Aq c J t O N;by_cases A7:k<ns.length
  ·obtain⟨g,oo,rfl,a⟩:=bC (l:=ns) jO (fun _=>rfl) (B0.o.below L.o.below) A7;obtain⟨y,hy⟩:∃y,ns[k]=y:=⟨_,rfl⟩;have HY:=p9 hy;have I:y∈ns:=by rw[<-hy];exact sT A7
   have A9:=p9 (Aw.o y I);have Ay:=p9 (H.o.bf y I);rw[hy] at a;clear hy I;obtain⟨num,ai,K,bf⟩:=y;have p0:wr.cell? ⟨g,oo+k*3,none⟩=some (.int .i64 num):=a 0 (by decide);have p1:wr.cell? ⟨g,oo+k*3+1,none⟩=some (.string ai):=a 1 (by decide);have p2:wr.cell? ⟨g,oo+k*3+2,none⟩=some (.map (some K)):=a 2 (by decide);have B5:(k:Int)<(ns.length:Int):=by omega
   clear a cn;have t:=p9 (L.o.later ((r5 _ _).alloc (rm _) (.cells #[.int .i64 num,.string ai,.map (some K)] 138)));have i:=p9 (C.o.alloc (.cells #[.int .i64 num,.string ai,.map (some K)] 138));have E:=p9 (Loc.new wr #[.int .i64 num,.string ai,.map (some K)] 138);have Ah:=p9 L.o.below.size;have Aj:qv (vn.ownBlock≠some wr.heap.size):=p9 (by intro e;have:=(L.o.on.lt _ e).2;omega);have Ai:=p9 (Ne.symm (Nat.ne_of_lt L.o.ls.lt));have Ag:=p9 (Nat.ne_of_lt C.o.lt);have Ae:qv (sn.length<=1000000):=p9 (by have h1:=C3 q.o;rw[v8] at h1;omega);clear L C;go_upto_region 5 with fail;obtain⟨Z,hZ⟩:∃Z,Z=wr.heap.size:=⟨_,rfl⟩;rw[<-hZ] at E Ah Aj Ai Ag⊢;clear hZ p0 p1 p2;generalize wr.alloc (.cells #[.int .i64 num,.string ai,.map (some K)] 138)=W2 at t i E⊢;have z1:=E.o.at_ 1 (.string ai) rfl;have r0:=i.o.at_ 0 (.string nm) rfl;have r1:=i.o.at_ 1 (.map (some A)) rfl;go_wp2_with fail;refine(Pu (r:=(1,ai,⟨#[]⟩)) (HR.o.kept (ag t.o.below none) (by simp)) (CR (by decide) (by decide) A9.o)).mono ?_;rintro e W3 ⟨rfl,Q⟩;have v:=p9 (t.o.later Q);have p:=p9 (i.o.grown (ag Q none) (by simp));have F:=p9 (E.o.grown (ag Q none) (by simp));clear Q z1 r0 r1 t i E;have A1:=p9 (KV (S:=S) A7);rw[HY.o] at A1;cases hs:S (1,ai,⟨#[]⟩) with
   | false=>
    have Az:qv (za S ⟨num,ai,K,bf⟩=false):=p9 hs;clear hs;go_wp2_with fail;go_roundg (gk - 1)
    case rel=>exact⟨k+1,sn,vn,by simp,by omega,by rw[A1.o,Az.o,q.o];simp,v.o,p.o⟩
    case measure=>omega
   | true=>
    have B1:qv (za S ⟨num,ai,K,bf⟩=true):=p9 hs;clear hs;have z0:=F.o.at_ 0 (.int .i64 num) rfl;have z1:=F.o.at_ 1 (.string ai) rfl;have z2:=F.o.at_ 2 (.map (some K)) rfl;have r0:=p.o.at_ 0 (.string nm) rfl;have r1:=p.o.at_ 1 (.map (some A)) rfl;go_wp2_with fail;refine(JB (x:=⟨num,ai,K,bf⟩) (Ay.o.kept (ag v.o.below none) (by simp)) Av.o (HR.o.kept (ag v.o.below none) (by simp)) A9.o).mono ?_;rintro e W4 ⟨f,rfl,B4,An,Q⟩;have At:qv (W.heap.size<=f):=p9 (r8 v.o.below.size B4);have A8:=p9 (v.o.later Q);have R:=p9 (p.o.grown (ag Q none) (by simp));have z:=p9 (F.o.grown (ag Q none) (by simp));have A2:=p9 An;clear Q An z0 z1 z2 r0 r1 v p F;have z2:=z.o.at_ 2 (.map (some K)) rfl;have B3:=z.o.free 2;go_upto_region 7 with fail;have B:=p9 (A8.o.aside (j:=2) (u:=.map (some f)) z.o Ai.o Aj.o (by simp[Value.ownBlock]) Ah.o);have D:=p9 (R.o.aY (b':=Z) Ag.o 2 (.map (some f)));have G:=p9 (z.o.set 2 (.map (some f)));have A3:=p9 (A2.o.kept (aE W4 Z 2 (.map (some f))) (by intro e;injection e with e;exact A2.o.cJ z.o e));clear z2 B3 A8 R z A2;generalize W4.setCell ⟨Z,2,none⟩ (.map (some f))=W5 at B D G A3⊢;obtain⟨av,cv,B6⟩:=aV B.o.on;subst B6;have z0:=G.o.at_ 0 (.int .i64 num) rfl;have z1:=G.o.at_ 1 (.string ai) rfl;have z2:=G.o.at_ 2 (.map (some f)) rfl;have s0:W5.cell? ⟨Y+1,0,none⟩=some (.slice av sn.length cv):=(B.o.ls.cell 0).trans rfl;have HD:=p9 (B.o.later ((r5 _ _).alloc (rm _) (.cells #[.int .i64 num,.string ai,.map (some f)] 138))).drew;have Ac:qv (Loc ((W5.alloc (.cells #[.int .i64 num,.string ai,.map (some f)] 138)).drew) Y #[.string nm,.map (some A)] 104):=p9 (D.o.alloc (.cells #[.int .i64 num,.string ai,.map (some f)] 138));have Ao:=A3.o.kept (aD W5 (.cells #[.int .i64 num,.string ai,.map (some f)] 138) none) (by simp);have Ax:qv (cK ((W5.alloc (.cells #[.int .i64 num,.string ai,.map (some f)] 138)).drew) f m (fun s=>if S (3,ai,s) then bf s else none)):=p9 Ao;clear Ao;have Bm:(W5.alloc (.cells #[.int .i64 num,.string ai,.map (some f)] 138)).cell? ⟨Y+1,0,none⟩=some (.slice av sn.length cv):=(HD.o.ls.cell 0).trans rfl;have Bi:=Ae.o;clear B D G A3;go_region_law (go_must (refine step_append_lies _ rfl _ _ 61 rfl W.heap.size 138 i0 (.agg #[.int .i64 0,.string ⟨#[]⟩,.map none]) 3 32 underlying61 hi B7 B8 B9 rfl (by decide) (.slice av sn.length cv) _ _ (by simp[Act.eval]) HD.o.on ⟨W5.heap.size,0,none⟩ 1 1 [.int .i64 num,.string ai,.map (some f)] (by simp[Act.eval]) rfl (World.news_of_block (heap_alloc_new W5 _)) (Db ⟨num,ai,f,bf⟩) (by omega) (by unfold maxLen;omega) (by omega) HD.o.below.size _ rfl ?_);intro g2 Ak w5 V d _ _;have A0:=HD.o.ls.dY HD.o.on d (by decide);have c5:w5.cell? ⟨Y+1,0,none⟩=some (.slice av sn.length cv):=(A0.cell 0).trans rfl;have f5:w5.frozen? ⟨Y+1,0,none⟩=false:=A0.free 0;have H5:=p9 (HD.o.LW (x:=⟨num,ai,f,fun s=>if S (3,ai,s) then bf s else none⟩) Ax.o At.o d V);have Ab:=p9 ((Ac.o.dY HD.o.on d (by decide)).aY (b':=Y+1) (by simp) 0 (.slice (some ⟨g2,0,none⟩) (sn.length+1) Ak));clear A0 V d)
    all_goals
     go_wp2_with fail;go_roundg (gk - 1)
     case rel=>exact⟨k+1,_,_,by simp,by omega,by rw[A1.o,B1.o,vb,q.o];rfl,H5.o,Ab.o⟩
     case measure=>omega
  ·have B5:¬(k:Int)<(ns.length:Int):=by omega
   have A4:qv (sn.map Lh=gU S ns):=p9 (by have:=q.o;rwa [uB (by omega)] at this);have Af:=p9 (CQ A4.o H.o.nk);have Ad:qv (sn.length<=1000000):=p9 (r8 (C3 A4.o) H.o.rY.1);obtain⟨ae,ke,A5,Ar⟩:=H.o.ce;have ce:wr.cell? ⟨b,o+1,none⟩=some (.slice ae es.length ke):=(L.o.below.cell (block_lt_of_cell A5)).trans A5;have Be:=p9 Ar;have Bf:=H.o.rY.2;clear Ar A5 cn q;go_wp2_with fail;go_loopg [46] es.length (fun n iv w=>∃(k:Nat) (se:List bK) (ve:Value),iv=.int .i64 (k:Int)/\k+n=es.length/\se=(es.take k).filter (qR sn S)/\iU W (Y+1) vn ve sn se m w/\Loc w Y #[.string nm,.map (some A)] 104)
   case atStart=>exact⟨0,[],_,rfl,by omega,rfl,L.o,C.o⟩
   case round=>
    obtain⟨k2,se,ve,rfl,Bh,Ap,c,J⟩:=hrel;have U:=p9 Ap;have M:=p9 c;have Bb:=p9 J;clear Ap c J L C ce;have T:qv (se.length<=1000000):=p9 (by rw[U.o];refine r8 (NK _ _) ?_;rw[v8];omega);by_cases Am:k2<es.length
    ·exact absurd Am (by rw[Au.o];simp)
    ·have Bc:¬(k2:Int)<(es.length:Int):=by omega
     have HE:qv (se=es.filter (qR sn S)):=p9 (by have:=U.o;rwa [uB (by omega)] at this);go_wp2_with fail;go_ret;exact⟨Y+1,rfl,M.o.ns,sn,A4.o,by rw[<-HE.o];exact M.o.Jm Af.o ⟨Ad.o,T.o⟩,M.o.below,fun w hw=>by rw[<-HE.o];exact M.o.by Af.o ⟨Ad.o,T.o⟩ hw⟩
variable {fix:Nat->Option Value} {left:Int} {use:Value} {B T F:Nat} {ev:Nat->Value} {wv:Value} {own:Nat->Prop} {f:ByteArray->Option Int} {mb:Nat} {en:Nat->List Int} {ws:List gh} {W:World}
def tO(en:Nat->List Int)(i:Nat)(l:List Int):Nat->List Int:=fun j=>if j=i then l else en j
theorem km.drew(h:km own F B T fix left use f mb ev en wv ws W):km own F B T fix left use f mb ev en wv ws W.drew:=⟨h.cell,h.iF,h.taken,h.re,h.rw,h.apart,h.gC,h.bt⟩
def nQ(own:Nat->Prop)(gb go:Nat)(ns:List aH)(es:List bK)(m:Nat)(W:World):Prop:=
 ∀w,Kept own W w->jq gb go ns es m w/\w.cell? ⟨gb,go,none⟩=W.cell? ⟨gb,go,none⟩/\w.cell? ⟨gb,go+1,none⟩=W.cell? ⟨gb,go+1,none⟩
theorem Kept.trans{D:Nat->Prop}{a b c:World}(h:Kept D a b)(k:Kept D b c):Kept D a c:=
 ⟨k.os.trans h.os,k.tape.trans h.tape,k.output.trans h.output,r8 h.size k.size,fun j hj hd=>(k.block j (vH hj h.size) hd).trans (h.block j hj hd)⟩
theorem nQ.on{ns:List aH}{es:List bK}(h:nQ own gb go ns es m W)(hk:Kept own W w):nQ own gb go ns es m w:=fun w' hk'=>by
 have h1:=h w hk;have a:=h w' (hk.trans hk');exact⟨a.1,a.2.1.trans h1.2.1.symm,a.2.2.trans h1.2.2.symm⟩
theorem nQ.Jm{ns:List aH}{es:List bK}(h:nQ own gb go ns es m W):jq gb go ns es m W:=(h W (Kept.refl _ _)).1
theorem km.ended{i g:Nat}{x:Int}(h:km own F B T fix left use f mb ev en wv ws W)(hi:i<6)(s:W.grownBy w (ev i).ownBlock)(C:w.ownsRow 0 3 1 (.slice (some ⟨g,0,none⟩) ((en i).length+1) cap) ((en i).length+1) ((en i).map (Value.int .i64)++[.int .i64 x]))
  (n:(ev i).ownBlock=some g\/g=W.heap.size) (t:∀k,W.heap.size<=k->own k):
  km own F B T fix left use f mb (sZ ev i (.slice (some ⟨g,0,none⟩) ((en i).length+1) cap)) (tO en i (en i++[x])) wv ws (w.setCell ⟨F,21+i,none⟩ (.slice (some ⟨g,0,none⟩) ((en i).length+1) cap)):=by
 obtain⟨cs,G,E⟩:=h.cell;obtain⟨I,S,D,H⟩:=h.taken;have l:=G.dY (h.re i hi) s (by decide);have d:∀j,j<6->j≠i->w.ownsRow 0 3 1 (ev j) (en j).length ((en j).map (Value.int .i64)):=fun j m p=>(h.re j m).kept s (h.apart j m i hi p);have A:km own F B T fix left use f mb ev en wv ws W:=h;have key:∀j,j<6->j≠i->(ev j).ownBlock=none\/(ev j).ownBlock≠some g:=by
  intro j m p;rcases n with n|n
  ·rcases h.apart j m i hi p with h1|h1
   ·exact ad h1
   ·exact a6 (by rw[<-n];exact h1)
  ·refine a6 (fun e=>?_);have:=((h.re j m).lt g e).2;omega
 have g2:=aE w F (21+i) (.slice (some ⟨g,0,none⟩) ((en i).length+1) cap);have q:=h.iF.kept s (h.iF.j6 (h.re i hi));have u:=D.kept s (D.j6 (h.re i hi));have v:=h.rw.kept s (bT h.rw (h.re i hi) (by decide));refine⟨⟨_,l.set (21+i) _,E.Mj hi _⟩,q.kept g2 (by intro e;injection e with e;exact q.cJ l e),⟨I,S,u.kept g2 (by intro e;injection e with e;exact u.cJ l e),H⟩,?_,v.kept g2 (a6 (fun e=>aR v l (by decide) e)),?_,⟨h.gC.1,h.gC.2.1,h.gC.2.2.1,?_,h.gC.2.2.2.2⟩,h.bt⟩
 ·intro j m;unfold sZ tO;by_cases e:j=i
  ·subst e;simp only[if_true,r7,x6,vb,xd,Cf];exact C.kept g2 (a6 (fun e=>aR C l (by decide) e))
  ·simp only[bk e];exact(d j m e).kept g2 (a6 (fun e'=>aR (d j m e) l (by decide) e'))
 ·intro a z b r o;unfold sZ;by_cases e:a=i
  ·subst e;rw[a8 rfl,bk (fun e=>o e.symm)]
   right
   rcases key b r (fun e=>o e.symm) with h1|h1
   ·rw[h1];simp[Value.ownBlock]
   ·exact fun e=>h1 (by rw[<-e];rfl)
  ·rw[bk e];by_cases y:b=i
   ·subst y;rw[a8 rfl];rcases key a z e with h1|h1
    ·exact ad h1
    ·exact a6 (fun e=>h1 (by rw[e];rfl))
   ·rw[bk y];exact h.apart a z b r o
 ·intro j m b c;unfold sZ at c;by_cases e:j=i
  ·subst e;rw[a8 rfl] at c;injection c with c
   rcases n with n|n
   ·exact h.gC.2.2.2.1 j m b (by rw[n,<-c])
   ·exact t b (by rw[<-c,n];exact rm _)
  ·rw[bk e] at c;exact h.gC.2.2.2.1 j m b c
theorem Tryz.Cm:(prog.info? 3).map (fun i=>(i.zero,i.size,i.bytes))=some (some (.int .i64 0),1,8):=by kernel_rfl
theorem IS{x:Int}:∀u∈[Value.int .i64 x],u.oneCell'=true:=by
 intro u hu;simp at hu;subst hu;rfl
theorem Qx{i:Nat}{ns:List aH}{es:List bK}(h:km own F B T fix left use f mb ev en wv ws W)(hg:fix 0=some (.pointer (some ⟨gb,go,none⟩)))(M:nQ own gb go ns es m W)(hi:i<6)(An:(en i).length+ns.length<=1000000)
  (c:∀k,W.heap.size<=k->own k):
  Calls prog 176 #[.pointer (some ⟨F,0,none⟩),.int .i64 (i:Int)] W fun e W'=>e=.returned (.tuple #[])/\∃ev' en',km own F B T fix left use f mb ev' en' wv ws W'/\en' i=en i++ns.map (·.num)/\(∀j,j≠i->en' j=en j/\ev' j=ev j)/\Kept own W W':=by
 obtain⟨i0,Ab,Ad,Ae,Af⟩:=info_parts Tryz.Cm;obtain⟨cs,hc,hf⟩:=h.cell;have c0:W.cell? ⟨F,0,none⟩=some (.pointer (some ⟨gb,go,none⟩)):=(hc.cell 0).trans ((hf.fx 0 (by decide)).trans hg);have hs:=M.Jm;obtain⟨an,kn,cn,Ah⟩:=hs.cn;have A6:=p9 M;have A4:=p9 cn;have R:=p9 c;have H:=p9 h;have Al:=hs.rY.1;have v:=p9 hi;clear h hc hf hs M c Ah;go_enter func176,ntmps176
 go_wp2_with fail;go_loopg [14] ns.length (fun n iv w=>∃(k:Nat) (ev':Nat->Value) (en':Nat->List Int),iv=.int .i64 (k:Int)/\k+n=ns.length/\km own F B T fix left use f mb ev' en' wv ws w/\en' i=en i++(ns.take k).map (·.num)/\(∀j,j≠i->en' j=en j/\ev' j=ev j)/\Kept own W w)
 case atStart=>exact⟨0,ev,en,rfl,by omega,H.o,by simp,fun j _=>⟨rfl,rfl⟩,Kept.refl _ _⟩
 case round=>
  obtain⟨k,ev',en',rfl,hk,A1,A0,z,s⟩:=hrel;have HA:=p9 A1;have A:=p9 A0;have Q:=p9 z;have HK:=p9 s;clear A1 A0 z s c0 cn;by_cases A2:k<ns.length
  ·have L:=A6.o wr HK.o;obtain⟨A9,Ag,V,A3⟩:=L.1.cn;have Aa:A9=an/\Ag=kn:=by
    have:=V.symm.trans (L.2.1.trans A4.o);injection this with this
    injection this with h1 _ h2
    exact⟨h1,h2⟩
   obtain⟨rfl,rfl⟩:=Aa;obtain⟨g,oo,rfl,a⟩:=bC (l:=ns) jO (fun _=>rfl) A3 A2;obtain⟨y,hy⟩:∃y,ns[k]=y:=⟨_,rfl⟩;have HY:=p9 hy;rw[hy] at a;clear hy L V A3;obtain⟨num,ai,U,bf⟩:=y;have p0:wr.cell? ⟨g,oo+k*3,none⟩=some (.int .i64 num):=a 0 (by decide);have p1:wr.cell? ⟨g,oo+k*3+1,none⟩=some (.string ai):=a 1 (by decide);have p2:wr.cell? ⟨g,oo+k*3+2,none⟩=some (.map (some U)):=a 2 (by decide);have Ac:(k:Int)<(ns.length:Int):=by omega
   clear a;have q:=p9 (HA.o.later ((r5 _ _).alloc (rm _) (.cells #[.int .i64 num,.string ai,.map (some U)] 138)));have C:=p9 (HK.o.below ((r5 _ _).alloc (rm _) (.cells #[.int .i64 num,.string ai,.map (some U)] 138)));have u:=p9 (Loc.new wr #[.int .i64 num,.string ai,.map (some U)] 138);clear HA HK;go_upto_region 3 with fail;obtain⟨Z,hZ⟩:∃Z,Z=wr.heap.size:=⟨_,rfl⟩;rw[<-hZ] at u⊢;clear hZ p0 p1 p2;generalize wr.alloc (.cells #[.int .i64 num,.string ai,.map (some U)] 138)=G at q C u⊢;obtain⟨I,J,p⟩:=aV (q.o.re i v.o);obtain⟨X,K,r⟩:=q.o.cell;have e0:G.cell? ⟨F,21+i,none⟩=some (.slice I (en' i).length J):=(K.cell (21+i)).trans ((r.e i v.o).trans (by rw[p]));have z0:=u.o.at_ 0 (.int .i64 num) rfl;have HD:=p9 (q.o.later ((r5 _ _).alloc (rm _) (.cells #[.int .i64 num] 3))).drew;have O:qv (Kept own W ((G.alloc (.cells #[.int .i64 num] 3)).drew)):=p9 (by have:=C.o.below ((r5 _ _).alloc (rm _) (.cells #[.int .i64 num] 3));exact⟨this.os,this.tape,this.output,this.size,this.block⟩);have S:qv (((G.alloc (.cells #[.int .i64 num] 3)).drew).ownsRow 0 3 1 (.slice I (en' i).length J) (en' i).length ((en' i).map (Value.int .i64))):=p9 (by have:=HD.o.re i v.o;rwa [p] at this);have E:qv ((ev' i).ownBlock=(Value.slice I (en' i).length J).ownBlock):=p9 (by rw[p]);have P:qv (Loc ((G.alloc (.cells #[.int .i64 num] 3)).drew) F X 228):=p9 (K.alloc (.cells #[.int .i64 num] 3));have Ak:=p9 r;have e1:(G.alloc (.cells #[.int .i64 num] 3)).cell? ⟨F,21+i,none⟩=some (.slice I (en' i).length J):=(P.o.cell (21+i)).trans ((r.e i v.o).trans (by rw[p]));have A5:=p9 ((r.e i v.o).trans (by rw[p]):X[21+i]?=some (.slice I (en' i).length J));have Ao:(en' i).length<=1000000:=by rw[A.o,r7,tB,v8];omega
   have Am:=v.o;have Aj:(i:Int)<6:=by omega
   clear p K r q C u;go_region_law (go_must (refine step_append_lies _ rfl _ _ 206 rfl 0 3 i0 (.int .i64 0) 1 8 underlying206 Ab Ad Ae Af rfl (by decide) (.slice I (en' i).length J) _ _ (by simp[Act.eval]) S.o ⟨G.heap.size,0,none⟩ 1 1 [.int .i64 num] (by simp[Act.eval]) rfl (World.news_of_block (heap_alloc_new G _)) IS (by omega) (by unfold maxLen;omega) (by omega) (tJ _) _ rfl ?_);intro g2 Ai w5 c d t _;have D:=P.o.dY S.o d (by decide);have c5:w5.cell? ⟨F,21+i,none⟩=some (.slice I (en' i).length J):=(D.cell (21+i)).trans A5.o;have f5:w5.frozen? ⟨F,21+i,none⟩=false:=D.free (21+i);have N:=p9 d;have A8:=p9 c;have A7:=p9 t;clear D c d t)
   all_goals
    go_wp2_with fail;go_roundg (gk - 1)
    case rel=>
     have hE:=HD.o.ended (i:=i) (x:=num) v.o (by rw[E.o];exact N.o) A8.o (by rw[E.o];exact A7.o) (fun k hk=>R.o k (r8 O.o.size hk));refine⟨k+1,_,_,by simp,by omega,hE,?_,fun j hj=>?_,?_⟩
     ·unfold tO;rw[a8 rfl,A.o,tt,r6 A2,HY.o];simp
     ·unfold tO sZ;rw[bk hj,bk hj];exact Q.o j hj
     ·refine(O.o.then N.o (fun b Y=>ad (HD.o.gC.2.2.2.1 i v.o b (by rw[E.o];exact Y)))).then (aE w5 F (21+i) _) (fun b Y=>?_)
      injection Y with Y
      rw[<-Y];exact ad HD.o.gC.1
    case measure=>omega
  ·have Ac:¬(k:Int)<(ns.length:Int):=by omega
   go_wp2_with fail;go_end0;exact⟨rfl,ev',en',HA.o,by rw[A.o,uB (by omega)],Q.o,HK.o⟩
theorem Ey(x:gh)(k:Nat):sX x (k+1)=fun p=>sX x k p || (xN x k==p):=by
 funext p
 unfold sX;rw[List.range_succ,List.any_append];simp
def Ia(x:gh):Prop:=x.gI<4/\∀j,j<4->(Lit.int .i64 (xN x j)).wf=true
theorem Tryz.IP:(prog.info? 311).map (fun i=>(i.zero,i.size,i.bytes))=some (some (.agg #[.int .i64 0,.int .i64 0,.int .i64 0,.int .i64 0,.int .i64 0,.int .i64 0]),6,48):=by kernel_rfl
theorem OG(x:gh):∀u∈Ge x,u.oneCell'=true:=by
 intro u hu;simp[Ge] at hu;rcases hu with rfl|rfl|rfl|rfl|rfl|rfl<;>rfl
theorem wW{a:Nat}{c d:Array Value}{T g:TypeId}(h1:Loc w a c T)(f:Loc w b d g)(h:T≠g):a≠b:=by
 intro e;subst e;unfold Loc at h1 f;rw[h1] at f;injection f with f
 injection f with _ f
 exact h f
theorem Ta{ns:List aH}{es:List bK}{x:gh}{kind:ByteArray}(h:km own F B T fix left use f mb ev en wv ws W)(hg:fix 0=some (.pointer (some ⟨gb,go,none⟩)))(j:nQ own gb go ns es m W)(hx:Ia x)(hl:0<=left/\left<=100000)(Z:ws.length<=100000)(R:es=[])
  (g:∀k,W.heap.size<=k->own k):
  Calls prog 228 #[.pointer (some ⟨F,0,none⟩),.agg (DS x),.string kind] W fun e W'=>e=.returned (.tuple #[])/\∃wv',km own F B T fix (qe x kind 0 es left).2 use f mb ev en wv' (ws++(qe x kind 0 es left).1) W'/\Kept own W W':=by
 obtain⟨i0,Aj,An,Ao,Ap⟩:=info_parts Tryz.IP;have A:=p9 ((r5 W.heap.size W).alloc (rm _) (.cells (DS x) 311));have l:=p9 (Loc.new W (DS x) 311);have i:=p9 (h.later A.o);have s:=p9 ((Kept.refl own W).below A.o);have G:qv (wv.ownBlock≠some W.heap.size):=p9 (by intro e;have:=(h.rw.lt _ e).2;omega);have A9:=p9 g;have O:=p9 j;have HX:=p9 hx;have M:=p9 hl;have Af:=p9 Z;have A1:=p9 R;have A2:=p9 hg;clear h hg j hx hl Z R g;unfold DS at i l s⊢;go_enter func228,ntmps228
 go_upto_region 1 with fail;obtain⟨V,hV⟩:∃V,V=W.heap.size:=⟨_,rfl⟩;rw[<-hV] at l G⊢;clear hV A;generalize W.alloc (.cells #[.int .i64 x.e0,.int .i64 x.e1,.int .i64 x.e2,.int .i64 x.e3,.int .i64 x.gI,.int .i64 x.at_] 311)=W1 at i l s⊢;obtain⟨cs,y,z⟩:=i.o.cell;obtain⟨tn,S0,ht,_⟩:=i.o.taken;have t0:W1.cell? ⟨F,28,none⟩=some (.map (some T)):=(y.cell 28).trans z.t;obtain⟨w2,Q,I,d⟩:=ht.clear;have r:=p9 (i.o.SJ d.grown I (by decide));have u:=p9 (s.o.then d.grown (fun k hk=>by injection hk with hk;rw[<-hk];exact ad i.o.gC.2.2.1));have v:=p9 (l.o.grown d.grown (by intro e;injection e with e;exact ht.cJ l.o e.symm));have E:=p9 I;clear y z ht I d;go_upto_region 2 with fail;clear t0 Q i s l;have v4:=v.o.at_ 4 (.int .i64 x.gI) rfl;have Ai:=HX.o.1;have Ab:(x.gI:Int)<=4:=by omega
 go_wp2_with fail;clear v4;go_loopg [22] x.gI (fun n iv w=>∃k:Nat,iv=.int .i64 (k:Int)/\k+n=x.gI/\km own F B T fix left use f mb ev en wv ws w/\kO w T k (sX x k)/\Kept own W w/\Loc w V (DS x) 311)
 case atStart=>exact⟨0,rfl,by omega,r.o,E.o,u.o,v.o⟩
 case round=>
  obtain⟨k,rfl,hk,p,c,a,hv⟩:=hrel;have K:=p9 p;have HN:=p9 c;have HK:=p9 a;have P:=p9 hv;clear p c a hv r E u v;by_cases X:k<x.gI
  ·obtain⟨cs,y,z⟩:=K.o.cell;have t0:wr.cell? ⟨F,28,none⟩=some (.map (some T)):=(y.cell 28).trans z.t;have p0:wr.cell? ⟨V,k,none⟩=some (.int .i64 (xN x k)):=(P.o.cell k).trans (OK x (by omega));have A6:(k:Int)<(x.gI:Int):=by omega
   obtain⟨D,g,hS⟩:=HN.o;have HO:=p9 g;have A5:=p9 hS;have L:=p9 (HX.o.2 k (by omega));have A4:qv (T≠V):=p9 (HN.o.cJ P.o);clear y z g hS;go_wp2_with (first
    | (at_mapUpdate;refine wpList_mapUpdate_own _ rfl _ _ _ 224 rfl 3 189 S7 underlying224 _ T k D rfl HO.o (by unfold maxLen;omega) _ _ _ rfl rfl (keyOf_int_mk underlying3 L.o) _ [] (unitElem_mk (H:=Unit)) ?_;intro w3 q S;go_frame)
    | go_in)
   have N:qv (kO w3 T (k+1) (sX x (k+1))):=p9 (by rw[Ey];exact kO.put HO.o.isMap A5.o L.o q);have C:=p9 S;clear q S;go_roundg (gk - 1)
   case rel=>exact⟨k+1,by simp,by omega,K.o.SJ C.o N.o (by omega),N.o,HK.o.then C.o (fun b hb=>by injection hb with hb;rw[<-hb];exact ad K.o.gC.2.2.1),P.o.grown C.o (by intro e;injection e with e;exact A4.o e.symm)⟩
   case measure=>omega
  ·have A6:¬(k:Int)<(x.gI:Int):=by omega
   obtain rfl:k=x.gI:=by omega
   have j:=O.o wr HK.o;obtain⟨ae,ke,ce,_⟩:=j.1.ce;have Ad:=p9 ce;have A8:=p9 j.1.rY.2;obtain⟨cs,y,z⟩:=K.o.cell;have c0:wr.cell? ⟨F,0,none⟩=some (.pointer (some ⟨gb,go,none⟩)):=(y.cell 0).trans ((z.fx 0 (by decide)).trans A2.o);have Ah:=j.1.rY.2;have Ag:=p9 (O.o.on HK.o);clear j y z;go_wp2_with fail;clear c0 ce;have A7:=M.o.1;have Al:=M.o.2;go_loopg [41] es.length (fun n iv w=>∃(k:Nat) (wv':Value) (nw:List gh) (J:Int),iv=.int .i64 (k:Int)/\k+n=es.length/\qe x kind 0 es left=(nw++(qe x kind k (es.drop k) J).1,(qe x kind k (es.drop k) J).2)/\0<=J/\(nw.length:Int)+J=left/\km own F B T fix J use f mb ev en wv' (ws++nw) w/\kO w T x.gI (sX x x.gI)/\Kept own W w/\Loc w V (DS x) 311/\wv'.ownBlock≠some V)
   case atStart=>exact⟨0,wv,[],left,rfl,by omega,by simp,A7,by simp,by simpa using K.o,HN.o,HK.o,P.o,G.o⟩
   case round=>
    obtain⟨k,wv',nw,J,rfl,Ak,U,Am,Y,p,c,a,hv,A0⟩:=hrel;have A3:=p9 U;have r:=p9 p;have E:=p9 c;have u:=p9 a;have v:=p9 hv;have Aa:=p9 A0;have Ae:=p9 Y;clear U p c a hv A0 Y K HN P G;by_cases X:k<es.length
    ·exact absurd X (by rw[A1.o];simp)
    ·have Ac:¬(k:Int)<(es.length:Int):=by omega
     have HE:qv (qe x kind 0 es left=(nw,J)):=p9 (by rw[A3.o,BS (by omega)];simp[qe]);go_wp2_with fail;go_end0;exact⟨rfl,⟨wv',by rw[HE.o];exact r.o⟩,u.o⟩
theorem wL(x:gh)(kind:ByteArray):∀(es:List bK) (p:Nat) (left:Int),0<=left->(0<=(qe x kind p es left).2/\((qe x kind p es left).1.length:Int)+(qe x kind p es left).2=left)\/((qe x kind p es left).2=-1/\((qe x kind p es left).1.length:Int)=left)
 | [],p,left,h=>ad ⟨h,by simp[qe]⟩
 | e::r,p,left,h=>by
  unfold qe;split
  ·split
   ·rename_i h1;rcases wL x kind r (p+1) (left - 1) h1 with ⟨a,b⟩|⟨a,b⟩
    ·exact ad ⟨a,by simp only[vw];omega⟩
    ·exact a6 ⟨a,by simp only[vw];omega⟩
   ·rename_i h1;exact a6 ⟨by simp only;omega,by simp only[yd];omega⟩
  ·exact wL x kind r (p+1) left h
def BZ(x:gh):Prop:=x.gI<=4/\∀j,j<4->(Lit.int .i64 (xN x j)).wf=true
theorem Fw{x:gh}{p n:Int}(h:Ia x)(hp:(Lit.int .i64 p).wf=true):BZ (AJ x p n):=by
 have d:=h.2 0 (by decide);have h1:=h.2 1 (by decide);have f:=h.2 2 (by decide);have g:=h.2 3 (by decide);refine⟨by rw[Hj x p n h.1];have:=h.1;omega,?_⟩;have c:=h.1;clear h;obtain⟨e0,k,l,m,i,a⟩:=x;simp only at c
 match i,c with
 | 0,_=>intro j b;match j,b with
  | 0,_=>exact hp
  | 1,_=>exact h1
  | 2,_=>exact f
  | 3,_=>exact g
 | 1,_=>intro j b;match j,b with
  | 0,_=>exact d
  | 1,_=>exact hp
  | 2,_=>exact f
  | 3,_=>exact g
 | 2,_=>intro j b;match j,b with
  | 0,_=>exact d
  | 1,_=>exact h1
  | 2,_=>exact hp
  | 3,_=>exact g
 | 3,_=>intro j b;match j,b with
  | 0,_=>exact d
  | 1,_=>exact h1
  | 2,_=>exact f
  | 3,_=>exact hp
theorem zB{x:gh}(kind:ByteArray)(h:Ia x):∀(es:List bK) (p:Nat) (left:Int),p+es.length<=1000000->∀y∈(qe x kind p es left).1,BZ y
 | [],p,left,_,y,hy=>by simp[qe] at hy
 | e::r,p,left,hl,y,hy=>by
  simp only[vw] at hl;unfold qe at hy;split at hy
  ·split at hy
   ·rcases List.mem_cons.1 hy with rfl|hy
    ·exact Fw h (WalkArith.wf_i64 (by omega))
    ·exact zB kind h r (p+1) (left - 1) (by omega) y hy
   ·cases hy
  ·exact zB kind h r (p+1) left (by omega) y hy
def fG(es:List bK)(kind:ByteArray)(least bq:Int):Nat->List gh->Int->List Int × Int
 | 0,_,left=>([],left)
 | _+1,[],left=>([],left)
 | n+1,x::r,left=>
  if left<0 then ([],left)
  else if (x.gI:Int)<bq then ((if least<=(x.gI:Int) then [x.at_] else [])++(fG es kind least bq n (r++(qe x kind 0 es left).1) (qe x kind 0 es left).2).1,(fG es kind least bq n (r++(qe x kind 0 es left).1) (qe x kind 0 es left).2).2)
  else ((if least<=(x.gI:Int) then [x.at_] else [])++(fG es kind least bq n r left).1,(fG es kind least bq n r left).2)
theorem yh{B k:Nat}{T:TypeId}{xs:List Value}(h:w.ownsRow B T k (.slice ao n cap) n xs):w.ownsRow B T k (.slice ao 0 cap) 0 []:=by
 refine⟨by simp,?_⟩;rcases h.2 with ⟨b,m⟩|⟨g,c,d,b,i,j,o,hm,l,_⟩
 ·injection b with h1 f a
  subst h1 a;exact ad ⟨rfl,rfl⟩
 ·injection b with h1 f a
  subst h1 a;exact a6 ⟨g,_,d,rfl,i,j,tJ _,hm,l,by simp⟩
theorem km.Ru{g c:Nat}{x:gh}(h:km own F B T fix left use f mb ev en (.slice ao n cap) ws W)(j:W.ownsRow 0 311 6 (.slice ao 0 cap) 0 [])(s:W.grownBy w (Value.slice ao 0 cap).ownBlock)
  (t:w.ownsRow 0 311 6 (.slice (some ⟨g,0,none⟩) 1 c) 1 (Ge x)) (m:(Value.slice ao 0 cap).ownBlock=some g\/g=W.heap.size) (p:∀k,W.heap.size<=k->own k):
  km own F B T fix left use f mb ev en (.slice (some ⟨g,0,none⟩) 1 c) [x] (w.setCell ⟨F,27,none⟩ (.slice (some ⟨g,0,none⟩) 1 c)):=by
 obtain⟨cs,y,v⟩:=h.cell;obtain⟨A,S,u,z⟩:=h.taken;have d:=y.dY j s (by decide);have g2:=aE w F 27 (.slice (some ⟨g,0,none⟩) 1 c);have o:=h.iF.kept s (h.iF.j6 j);have r:=u.kept s (u.j6 j);have q:∀i,i<6->w.ownsRow 0 3 1 (ev i) (en i).length ((en i).map (Value.int .i64)):=fun i hi=>(h.re i hi).kept s (bT (h.re i hi) j (by decide));refine⟨⟨_,d.set 27 _,v.O6 _⟩,o.kept g2 (by intro e;injection e with e;exact o.cJ d e),⟨A,S,r.kept g2 (by intro e;injection e with e;exact r.cJ d e),z⟩,fun i hi=>(q i hi).kept g2 (a6 (fun e=>aR (q i hi) d (by decide) e)),?_,h.apart,⟨h.gC.1,h.gC.2.1,h.gC.2.2.1,h.gC.2.2.2.1,?_⟩,h.bt⟩
 ·have:=t.kept g2 (a6 (fun e=>aR t d (by decide) e))
  simpa using this
 ·intro b l;injection l with l
  rcases m with m|m
  ·refine h.gC.2.2.2.2 b ?_;cases ao with
   | none=>cases m
   | some a=>injection m with m;show some a.block=some b;rw[m];exact congrArg some l
  ·exact p b (by rw[<-l,m];exact rm _)
theorem km.narrow{Z:Nat}{cs:Array Value}{c:TypeId}(h:km own F B T fix left use f mb ev en wv ws W)(a:Loc W Z cs c)(h1:228≠c)(k:3≠c)(l:311≠c):km (fun b=>own b/\b≠Z) F B T fix left use f mb ev en wv ws W:=by
 obtain⟨d,g,m⟩:=h.cell;obtain⟨o,S,j,n⟩:=h.taken;exact⟨⟨d,g,m⟩,h.iF,⟨o,S,j,n⟩,h.re,h.rw,h.apart,⟨⟨h.gC.1,wW g a h1⟩,⟨h.gC.2.1,h.iF.cJ a⟩,⟨h.gC.2.2.1,j.cJ a⟩,fun i hi b hb=>⟨h.gC.2.2.2.1 i hi b hb,fun e=>aR (h.re i hi) a k (by rw[hb,e])⟩,fun b hb=>⟨h.gC.2.2.2.2 b hb,fun e=>aR h.rw a l (by rw[hb,e])⟩⟩,h.bt⟩
theorem km.pT{a:Nat->Prop}(h:km a F B T fix left use f mb ev en wv ws W)(hw:∀b,a b->own b):km own F B T fix left use f mb ev en wv ws W:=
 ⟨h.cell,h.iF,h.taken,h.re,h.rw,h.apart,⟨hw _ h.gC.1,hw _ h.gC.2.1,hw _ h.gC.2.2.1,fun i hi b hb=>hw _ (h.gC.2.2.2.1 i hi b hb),fun b hb=>hw _ (h.gC.2.2.2.2 b hb)⟩,h.bt⟩
theorem Kept.pT{D a:Nat->Prop}(h:Kept a W w)(hw:∀b,a b->D b):Kept D W w:=⟨h.os,h.tape,h.output,h.size,fun k hk hd=>h.block k hk (fun e=>hd (hw k e))⟩
theorem nQ.narrow{a:Nat->Prop}{ns:List aH}{es:List bK}(h:nQ own gb go ns es m W)(hw:∀b,a b->own b):nQ a gb go ns es m W:=fun w hk=>h w (hk.pT hw)
open Go.Sort
theorem cK.look(h:cK W b n f){s:ByteArray}(g:s.size<=maxLen):
  (Instr.lookup 136 (.map (some b)) (.string s) false).run prog W=.ok (.int .i64 ((f s).getD 0)) W:=by
 obtain⟨D,j,i⟩:=h;obtain⟨c,a,d,_⟩:=j.lookup_int rX underlying136 underlying3 (pj W) (uH g);have e:=d.symm.trans (i s g).2;obtain rfl:c=(f s).getD 0:=by {injection e with e;injection e}
 exact a
def kS(ns:List aH)(f:ByteArray->Option Int)(c:bW):Bool:=nH c.op (jj ns c.a ((f c.a.name).getD 0)) (jj ns c.b ((f c.b.name).getD 0))
def BY(c:bW):Prop:=c.a.name.size<=maxLen/\c.a.key.size<=maxLen/\c.b.name.size<=maxLen/\c.b.key.size<=maxLen
theorem NP{o mb:Nat}{ns:List aH}{es:List bK}{l:List bW}(h:jq b o ns es m W)(hb:cK W B mb f)(hl:l.length<=1000)(O:∀c∈l,BY c)
  (hs:dj W 7 (.slice ao l.length cap) l.length (l.flatMap pX)):
  Calls prog 227 #[.pointer (some ⟨b,o,none⟩),.slice ao l.length cap,.map (some B)] W fun e W'=>e=.returned (.bool (l.all (kS ns f)))/\Below W.heap.size W W':=by
 have H:=p9 h;have X:=p9 hb;have HS:=p9 hs;have HK:=p9 O;clear h hb hs O;go_enter func227,ntmps227
 go_wp2_with fail;go_loopg [11] l.length (fun n iv w=>∃k:Nat,iv=.int .i64 (k:Int)/\k+n=l.length/\(l.take k).all (kS ns f)=true/\Below W.heap.size W w)
 case atStart=>exact⟨0,rfl,by omega,by simp,r5 _ _⟩
 case round=>
  obtain⟨k,rfl,hk,G,N⟩:=hrel;have V:=p9 G;have J:=p9 N;clear G N;by_cases F:k<l.length
  ·obtain⟨g,I,rfl,a⟩:=bC (l:=l) pX (fun _=>rfl) (HS.o.below J.o) F;obtain⟨y,P⟩:∃y,l[k]=y:=⟨_,rfl⟩;have HY:=p9 P;have E:=p9 (HK.o y (by rw[<-P];exact sT F));rw[P] at a;clear P;obtain⟨op,⟨j,v,x⟩,⟨q,z,bv⟩⟩:=y;have p0:wr.cell? ⟨g,I+k*7,none⟩=some (.int .i64 op):=a 0 (by decide);have p1:wr.cell? ⟨g,I+k*7+1,none⟩=some (.string j):=a 1 (by decide);have p2:wr.cell? ⟨g,I+k*7+2,none⟩=some (.string v):=a 2 (by decide);have p3:wr.cell? ⟨g,I+k*7+3,none⟩=some (.int .i64 x):=a 3 (by decide);have p4:wr.cell? ⟨g,I+k*7+4,none⟩=some (.string q):=a 4 (by decide);have p5:wr.cell? ⟨g,I+k*7+5,none⟩=some (.string z):=a 5 (by decide);have p6:wr.cell? ⟨g,I+k*7+6,none⟩=some (.int .i64 bv):=a 6 (by decide);have T:(k:Int)<(l.length:Int):=by omega
   clear a;go_upto_region 4 with fail;have u:=p9 (Loc.new wr #[.int .i64 op,.string j,.string v,.int .i64 x,.string q,.string z,.int .i64 bv] 125);have A:=p9 (J.o.alloc J.o.size (.cells #[.int .i64 op,.string j,.string v,.int .i64 x,.string q,.string z,.int .i64 bv] 125));clear p0 p1 p2 p3 p4 p5 p6 J;obtain⟨Y,Z⟩:∃Y,Y=wr.heap.size:=⟨_,rfl⟩;rw[<-Z] at u⊢;clear Z;generalize wr.alloc (.cells #[.int .i64 op,.string j,.string v,.int .i64 x,.string q,.string z,.int .i64 bv] 125)=i at u A⊢;have c0:=cell_regrown ((u.o.cell 0).trans rfl:i.cell? ⟨Y,0,none⟩=some (.int .i64 op));have c1:=cell_regrown ((u.o.cell 1).trans rfl:i.cell? ⟨Y,1,none⟩=some (.string j));have c2:=cell_regrown ((u.o.cell 2).trans rfl:i.cell? ⟨Y,2,none⟩=some (.string v));have c3:=cell_regrown ((u.o.cell 3).trans rfl:i.cell? ⟨Y,3,none⟩=some (.int .i64 x));have c4:=cell_regrown ((u.o.cell 4).trans rfl:i.cell? ⟨Y,4,none⟩=some (.string q));have c5:=cell_regrown ((u.o.cell 5).trans rfl:i.cell? ⟨Y,5,none⟩=some (.string z));have c6:=cell_regrown ((u.o.cell 6).trans rfl:i.cell? ⟨Y,6,none⟩=some (.int .i64 bv));have s:=p9 (fun d os=>A.o.trans ((below_regrown i d os).mono A.o.size));have la:∀d os,(Instr.lookup 136 (.map (some B)) (.string j) false).run prog (grow (redrawn i d) os)=.ok (.int .i64 ((f j).getD 0)) (grow (redrawn i d) os):=fun d os=>(X.o.kept (ag (s.o d os) none) (by simp)).look E.o.1;have lb:∀d os,(Instr.lookup 136 (.map (some B)) (.string q) false).run prog (grow (redrawn i d) os)=.ok (.int .i64 ((f q).getD 0)) (grow (redrawn i d) os):=fun d os=>(X.o.kept (ag (s.o d os) none) (by simp)).look E.o.2.2.1;have M:qv (kS ns f l[k]=nH op (jj ns ⟨j,v,x⟩ ((f j).getD 0)) (jj ns ⟨q,z,bv⟩ ((f q).getD 0))):=p9 (by rw[HY.o];rfl);have cA:∀d os,Calls prog 200 #[.pointer (some ⟨b,o,none⟩),.agg #[.string j,.string v,.int .i64 x],.int .i64 ((f j).getD 0)] (grow (redrawn i d) os) fun e w''=>e=.returned (.agg (eS (jj ns ⟨j,v,x⟩ ((f j).getD 0))))/\∃p:Regrown,w''=grow (redrawn i p.d) p.os:=
    fun d os=>Calls.regrown_of (Hy (t:=⟨j,v,x⟩) (H.o.below (s.o d os)) E.o.2.1)
   have cB:∀d os,Calls prog 200 #[.pointer (some ⟨b,o,none⟩),.agg #[.string q,.string z,.int .i64 bv],.int .i64 ((f q).getD 0)] (grow (redrawn i d) os) fun e w''=>e=.returned (.agg (eS (jj ns ⟨q,z,bv⟩ ((f q).getD 0))))/\∃p:Regrown,w''=grow (redrawn i p.d) p.os:=
    fun d os=>Calls.regrown_of (Hy (t:=⟨q,z,bv⟩) (H.o.below (s.o d os)) E.o.2.2.2)
   have C:=p9 cA;have D:=p9 cB;clear cA cB;generalize jj ns ⟨j,v,x⟩ ((f j).getD 0)=Q at M C;generalize jj ns ⟨q,z,bv⟩ ((f q).getD 0)=R at M D;have L:qv (∀d os,Calls prog 271 #[.int .i64 op,.agg (eS Q),.agg (eS R)] (grow (redrawn i d) os) fun e w''=>e=.returned (.bool (nH op Q R))/\∃p:Regrown,w''=grow (redrawn i p.d) p.os):=
    p9 fun d os=>Calls.regrown_of (RK op Q R _)
   generalize (f j).getD 0=ia at la C;generalize (f q).getD 0=ib at lb D;refine wp_region_quiet_below (by kernel_rfl) (by kernel_rfl) ?_
   iterate 10 (quiet_step (fail))
   quiet_step (exact C.o _ _)
   iterate 8 (quiet_step (fail))
   quiet_step (exact D.o _ _)
   quiet_step (exact L.o _ _)
   quiet_step (fail)
   refine wpQuiet_nil ?_;intro W2 hw;have K:qv (Below W.heap.size W W2):=p9 (by obtain⟨⟨dq,U⟩,rfl⟩:=hw;exact s.o dq U);clear hw la lb c0 c1 c2 c3 c4 c5 c6 C D L s A u;generalize nH op Q R=r at M⊢;cases r with
   | true=>
    go_wp2_with fail;go_roundg (gk - 1)
    case rel=>
     refine⟨k+1,by simp,by omega,?_,K.o⟩;rw[tt,r6 F,List.all_append,V.o];simp[M.o]
    case measure=>omega
   | false=>
    have S:qv (l.all (kS ns f)=false):=p9 (by rw[List.all_eq_false];exact⟨l[k],sT F,by rw[M.o];simp⟩);go_wp2_with fail;go_ret;exact⟨by rw[S.o];rfl,K.o⟩
  ·have T:¬(k:Int)<(l.length:Int):=by omega
   have S:qv (l.all (kS ns f)=true):=p9 (by have:=V.o;rwa [uB (by omega)] at this);go_wp2_with fail;go_ret;exact⟨by rw[S.o];rfl,J.o⟩
end
end Go.Proofs.YtbfmmmjkjhjleaaGreatDoor
