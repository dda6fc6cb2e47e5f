/- Mine. -/
import Derived.Test.YtbfmmmjkjhjleaaGreatDoorC16
import Derived.Test.YtbfmmmjkjhjleaaGreatDoorC21
import Derived.Lib.ItoaLen
set_option maxRecDepth 100000
set_option maxHeartbeats 0
namespace Go.Proofs.YtbfmmmjkjhjleaaGreatDoor
open Go.Proofs.Tryz
variable {k n b B gb go m:Nat} {w W:World} {f:ByteArray->Option Int} {st:RS}
section
open Go.RowKit
structure iJ(B:Nat)(q:aI)(vs vc vi vp:Value)(w:World):Prop where
 rs:w.ownsRow B 191 5 vs q.ah.length (bL q.ah)
 rc:w.ownsRow B 125 7 vc q.aq.length (eK q.aq)
 rt:w.ownsRow B 129 2 vi q.af.length (eJ q.af)
 rp:w.ownsRow B 120 2 vp q.aj.length (fu q.aj)
def rF(r:aI × Int)(W:World)(e:Ending)(W':World):Prop:=
 Below W.heap.size W W'/\∃vs vc vi vp,e=.returned (.tuple #[.agg (qC r.1 vs vc vi vp),.int .i64 r.2])/\iJ W.heap.size r.1 vs vc vi vp W'
theorem iJ.none(B:Nat)(w:World):iJ B aB (.slice none 0 0) (.slice none 0 0) (.slice none 0 0) (.slice none 0 0) w:=
 ⟨tj _ _ _ _,tj _ _ _ _,tj _ _ _ _,tj _ _ _ _⟩
theorem cP{b:Nat}{T:TypeId}{v:Value}{xs:List Value}(h:w.ownsRow B T k v n xs)(d:b<=B):w.ownsRow b T k v n xs:=by
 refine⟨h.1,?_⟩;rcases h.2 with e|⟨g,cap,c,e,a,r⟩
 ·exact ad e
 ·exact a6 ⟨g,cap,c,e,r8 d a,r⟩
theorem size_alloc(w:World)(o:Obj):(w.alloc o).heap.size=w.heap.size+1:=by simp
theorem fN.start{a:World}{b:Value}{c:List Tok}(f:Below W.heap.size W a)(h:a.ownsRow B 115 3 b c.length (dO c))(g:c.length<=2000):
  fN W a.heap.size b c ⟨c,false⟩ (a.heap.size+1) (qC aB (.slice none 0 0) (.slice none 0 0) (.slice none 0 0) (.slice none 0 0)) ⟨(.slice none 0 0),[],(.slice none 0 0),[],(.slice none 0 0),[],(.slice none 0 0),[]⟩ ((a.alloc (.cells #[b,.int .i64 0,.bool false] 91)).alloc (.cells zq 49)):=by
 have g1:=aD a (.cells #[b,.int .i64 0,.bool false] 91) (some a.heap.size);have g2:=aD (a.alloc (.cells #[b,.int .i64 0,.bool false] 91)) (.cells zq 49) (some a.heap.size);have i:=size_alloc a (.cells #[b,.int .i64 0,.bool false] 91);have d:Loc (a.alloc (.cells #[b,.int .i64 0,.bool false] 91)) a.heap.size #[b,.int .i64 ((c.length - c.length:Nat):Int),.bool false] 91:=by rw[F3];exact Loc.new _ _ _
 refine⟨⟨d.alloc _,⟨[],rfl⟩,⟨_,bD (bD h (aD _ _ none)) (aD _ _ none)⟩,g⟩,?_,ay (ay (ag f _) g1) g2,by have:=f.size;omega,tj _ _ _ _,tj _ _ _ _,tj _ _ _ _,tj _ _ _ _⟩;rw[<-i];exact Loc.new _ _ _
theorem eI{c:World}(a:Below W.heap.size W c)(h:c.grownBy w (some b))(d:W.heap.size<=b):Below W.heap.size W w:=
 ⟨h.os.trans a.os,h.tape.trans a.tape,h.output.trans a.output,r8 a.size h.size,fun k hk=>(h.block k (vH hk a.size) (by intro e;injection e with e;omega)).trans (a.block k hk)⟩
theorem Ca(h:(fE st).2.bad=false):(fE st).1.1.length<=6/\(fE st).1.2.length<=6:=by
 unfold fE at h⊢;simp only[RS.bA,L5,decide_eq_false_iff_not] at h;exact⟨by simpa using h.2.1,by simpa using h.2.2⟩
theorem Ci(h:(jE st).2.bad=false):(jE st).1.af.length<=6:=by
 unfold jE at h⊢;simp only[RS.bA,L5,decide_eq_false_iff_not] at h
 simpa using h.2
theorem wk(h:(iS st).2.bad=false):(iS st).1.ah.length<=6/\(iS st).1.aq.length<=6/\(iS st).1.af.length<=6:=by
 unfold iS at h⊢;by_cases h1:aO aW st=true
 ·simp[h1,aB]
 ·by_cases g:aO fl st=true
  ·simp[h1,g,aB]
  ·simp only[h1,g,if_false,th] at h⊢;by_cases j:(fE st).2.bad=true
   ·simp[j] at h
   ·have c:(fE st).2.bad=false:=by simpa using j
    obtain⟨a,b⟩:=Ca c;simp only[c,th,if_false] at h⊢;unfold df at h⊢;by_cases d:aO bH (fE st).2=true
    ·simp only[d,if_true] at h⊢;exact⟨a,b,Ci h⟩
    ·by_cases f:aO fZ (fE st).2=true
     ·simp[d,f,aB,a,b]
     ·by_cases i:aO bR (fE st).2=true
      ·simp[d,f,i,aB,a,b]
      ·simp[d,f,i,aB,a,b]
theorem zT(q:aI)(st:RS):(df q st).1.ah=q.ah/\(df q st).1.aq=q.aq/\(df q st).1.aj=q.aj:=by
 unfold df;split
 ·exact⟨rfl,rfl,rfl⟩
 ·split
  ·exact⟨rfl,rfl,rfl⟩
  ·split<;>exact⟨rfl,rfl,rfl⟩
theorem DL{s:ByteArray}{a:List Tok}(h:dN s=some a):a.length<=2000:=by
 unfold dN at h;split at h
 ·cases h
 ·have:=GA s s.size 0 a (by omega) h;omega
open Go.Maps
structure kN(gb go:Nat)(T:TypeId)(cs:Array Value)(vn ve:Value)(ns:List aH)(es:List bK)(last:Int)(m:Nat)(W:World):Prop where
 bJ:Loc W gb cs T
 c0:cs[go]?=some vn
 c1:cs[go+1]?=some ve
 c2:cs[go+2]?=some (.int .i64 last)
 on:W.ownsRow 0 138 3 vn ns.length (ns.flatMap jO)
 oe:W.ownsRow 0 141 3 ve es.length (es.flatMap MW)
 bf:∀x∈ns,cK W x.bJ m x.bf
 apart:(ns.map (·.bJ)).Nodup
 nk:ns.Pairwise (fun a b=>a.num<b.num)
 top:∀x∈ns,x.num<=last
 kT:138≠T/\141≠T
variable {gb go m:Nat} {T:TypeId} {cs:Array Value} {vn ve:Value} {ns:List aH} {es:List bK} {last:Int} {W w:World}
theorem kN.later(h:kN gb go T cs vn ve ns es last m W)(a:Below W.heap.size W w):kN gb go T cs vn ve ns es last m w:=
 ⟨h.bJ.grown (ag a none) (by simp),h.c0,h.c1,h.c2,h.on.kept (ag a none) (by cases vn.ownBlock<;>simp),h.oe.kept (ag a none) (by cases ve.ownBlock<;>simp),fun x hx=>(h.bf x hx).kept (ag a none) (by simp),h.apart,h.nk,h.top,h.kT⟩
theorem kN.drew(h:kN gb go T cs vn ve ns es last m W):kN gb go T cs vn ve ns es last m W.drew:=⟨h.bJ,h.c0,h.c1,h.c2,h.on,h.oe,h.bf,h.apart,h.nk,h.top,h.kT⟩
def wI(W:World)(v v':Value):Prop:=∀b,v'.ownBlock=some b->v.ownBlock=some b\/W.heap.size<=b
theorem kN.next(h:kN gb go T cs vn ve ns es last m W)(a:go+2<cs.size):kN gb go T (cs.setIfInBounds (go+2) (.int .i64 (last+1))) vn ve ns es (last+1) m (W.setCell ⟨gb,go+2,none⟩ (.int .i64 (last+1))):=by
 have g2:=aE W gb (go+2) (.int .i64 (last+1));refine⟨h.bJ.set (go+2) _,?_,?_,?_,h.on.kept g2 (a6 (fun e=>aR h.on h.bJ h.kT.1 e)),h.oe.kept g2 (a6 (fun e=>aR h.oe h.bJ h.kT.2 e)),fun y hy=>(h.bf y hy).kept g2 (by intro e;injection e with e;exact(h.bf y hy).cJ h.bJ e),h.apart,h.nk,fun x hx=>by have:=h.top x hx;omega,h.kT⟩
 ·rw[uc,bk (by omega)];exact h.c0
 ·rw[uc,bk (by omega)];exact h.c1
 ·rw[uc,a8 rfl,a8 (by omega)]
theorem kN.LW{d:Value}{x:aH}(h:kN gb go T cs vn ve ns es last m W)(hp:cK W x.bJ m x.bf)(i:∀y∈ns,y.bJ≠x.bJ)(o:∀y∈ns,y.num<x.num)(hle:x.num<=last)(n:W.grownBy w vn.ownBlock)(p:w.ownsRow 0 138 3 d (ns.length+1) (ns.flatMap jO++jO x))(s:go+2<cs.size):
  kN gb go T (cs.setIfInBounds go d) d ve (ns++[x]) es last m (w.setCell ⟨gb,go,none⟩ d):=by
 have k:=h.bJ.dY h.on n h.kT.1;have g2:=aE w gb go d;have g:=h.oe.kept n (bT h.oe h.on (by decide));have hk:∀{y:aH},cK W y.bJ m y.bf->cK (w.setCell ⟨gb,go,none⟩ d) y.bJ m y.bf:=fun {y} c=>by
  have j:=c.kept n (c.j6 h.on);exact j.kept g2 (by intro e;injection e with e;exact j.cJ k e)
 refine⟨k.set go d,?_,?_,?_,?_,g.kept g2 (a6 (fun e=>aR g k h.kT.2 e)),fun y c=>?_,?_,?_,fun y c=>?_,h.kT⟩
 ·rw[uc,a8 rfl,a8 (by omega)]
 ·rw[uc,bk (by omega)];exact h.c1
 ·rw[uc,bk (by omega)];exact h.c2
 ·have q:(ns++[x]).length=ns.length+1:=by simp
  have r:(ns++[x]).flatMap jO=ns.flatMap jO++jO x:=by simp
  rw[q,r];exact p.kept g2 (a6 (fun e=>aR p k h.kT.1 e))
 ·rcases List.mem_append.1 c with c|c
  ·exact hk (h.bf y c)
  ·simp only[vA] at c;subst c;exact hk hp
 ·rw[vb,List.nodup_append];refine⟨h.apart,by simp,?_⟩;intro a l b f;simp only[xd,Cf,vA] at f;obtain⟨y,c,rfl⟩:=List.mem_map.1 l;rw[f];exact i y c
 ·rw[List.pairwise_append];refine⟨h.nk,by simp,fun a l b f=>?_⟩;simp only[vA] at f;subst f;exact o a l
 ·rcases List.mem_append.1 c with c|c
  ·exact h.top y c
  ·simp only[vA] at c;subst c;exact hle
theorem NL{lb:ByteArray}{c:Nat}{w:ByteArray->Option Int}(h:kN gb go T cs vn ve ns es last m W)(H:go+2<cs.size)(Y:ns.length<=1000000)(G:0<=last/\last<=1000000000)(hp:cK W c m w)(k:∀y∈ns,y.bJ≠c):
  Calls prog 194 #[.pointer (some ⟨gb,go,none⟩),.string lb,.map (some c)] W fun e W'=>e=.returned (.int .i64 (last+1))/\∃vn' cs',kN gb go T cs' vn' ve (ns++[⟨last+1,lb,c,w⟩]) es (last+1) m W'/\cs'.size=cs.size/\(∀j,j≠go->j≠go+2->cs'[j]?=cs[j]?)/\Kept (fun b=>b=gb\/vn.ownBlock=some b) W W'/\wI W vn vn':=by
 obtain⟨i0,hi,J,K,L⟩:=info_parts Tryz.EU;obtain⟨r,s,I⟩:=aV h.on;subst I;have c2:W.cell? ⟨gb,go+2,none⟩=some (.int .i64 last):=(h.bJ.cell (go+2)).trans h.c2;have f2:=h.bJ.free (go+2);have H1:=p9 (h.next H);have q:=p9 (hp.kept (aE W gb (go+2) (.int .i64 (last+1))) (by intro e;injection e with e;exact hp.cJ h.bJ e));have n:=p9 ((Kept.refl (fun b=>b=gb\/(Value.slice r ns.length s).ownBlock=some b) W).then (aE W gb (go+2) (.int .i64 (last+1))) (fun b d=>ad (ad (by injection d with d;exact d.symm))));have O:=p9 h.top;have N:=p9 H;have M:=p9 k;have h1:=G.1;have z:=G.2;clear h H hp k G;go_enter func194,ntmps194
 go_upto_region 2 with fail;clear c2 f2;generalize W.setCell ⟨gb,go+2,none⟩ (.int .i64 (last+1))=i at H1 q n⊢;have R:i.cell? ⟨gb,go,none⟩=some (.slice r ns.length s):=(H1.o.bJ.cell go).trans H1.o.c0;have c2:i.cell? ⟨gb,go+2,none⟩=some (.int .i64 (last+1)):=(H1.o.bJ.cell (go+2)).trans H1.o.c2;have g:=p9 (H1.o.later ((r5 _ _).alloc (rm _) (.cells #[.int .i64 (last+1),.string lb,.map (some c)] 138))).drew;have v:=q.o.kept (aD i (.cells #[.int .i64 (last+1),.string lb,.map (some c)] 138) none) (by simp);have E:qv (cK ((i.alloc (.cells #[.int .i64 (last+1),.string lb,.map (some c)] 138)).drew) c m w):=p9 v;have t:qv (Kept (fun b=>b=gb\/(Value.slice r ns.length s).ownBlock=some b) W ((i.alloc (.cells #[.int .i64 (last+1),.string lb,.map (some c)] 138)).drew)):=p9 (by have:=n.o.below ((r5 _ _).alloc (rm _) (.cells #[.int .i64 (last+1),.string lb,.map (some c)] 138));exact⟨this.os,this.tape,this.output,this.size,this.block⟩);have P:(i.alloc (.cells #[.int .i64 (last+1),.string lb,.map (some c)] 138)).cell? ⟨gb,go,none⟩=some (.slice r ns.length s):=(g.o.bJ.cell go).trans g.o.c0;have Q:(i.alloc (.cells #[.int .i64 (last+1),.string lb,.map (some c)] 138)).cell? ⟨gb,go+2,none⟩=some (.int .i64 (last+1)):=(g.o.bJ.cell (go+2)).trans g.o.c2;have F:qv (go+2<(cs.setIfInBounds (go+2) (.int .i64 (last+1))).size):=p9 (by have:=N.o;simpa using this);clear v H1 q n;go_region_law (go_must (refine step_append_lies _ rfl _ _ 61 rfl 0 138 i0 (.agg #[.int .i64 0,.string ⟨#[]⟩,.map none]) 3 32 underlying61 hi J K L rfl (by decide) (.slice r ns.length s) _ _ (by simp[Act.eval]) g.o.on ⟨i.heap.size,0,none⟩ 1 1 [.int .i64 (last+1),.string lb,.map (some c)] (by simp[Act.eval]) rfl (World.news_of_block (heap_alloc_new i _)) (Db ⟨last+1,lb,c,w⟩) (by omega) (by unfold maxLen;omega) (by omega) (tJ _) _ rfl ?_);intro g2 u A l a f _;have D:=p9 f;clear f;have p:=g.o.bJ.dY g.o.on a g.o.kT.1;have S:A.cell? ⟨gb,go,none⟩=some (.slice r ns.length s):=(p.cell go).trans g.o.c0;have f5:A.frozen? ⟨gb,go,none⟩=false:=p.free go;have C:=p9 a;have B:=p9 (g.o.LW (x:=⟨last+1,lb,c,w⟩) E.o M.o (fun y hy=>by have:=O.o y hy;simp only;omega) (Int.le_refl _) a l F.o);clear p l a)
 all_goals
  have U:(A.setCell ⟨gb,go,none⟩ (.slice (some ⟨g2,0,none⟩) (ns.length+1) u)).cell? ⟨gb,go+2,none⟩=some (.int .i64 (last+1)):=(B.o.bJ.cell (go+2)).trans B.o.c2;go_wp2_with fail;go_ret;refine⟨rfl,_,_,B.o,by simp,fun j hj1 hj2=>?_,?_,fun b d=>?_⟩
  ·rw[uc,bk (fun e=>hj1 e.symm),uc,bk (fun e=>hj2 e.symm)]
  ·exact(t.o.then C.o (fun b d=>ad (a6 d))).then (aE A gb go _) (fun b d=>ad (ad (by injection d with d;exact d.symm)))
  ·injection d with d
   have d:g2=b:=d;rcases D.o with z|z
   ·exact ad (by rw[z,d])
   ·refine a6 ?_;have V:=t.o.size;have X:g2=((i.alloc (.cells #[.int .i64 (last+1),.string lb,.map (some c)] 138)).drew).heap.size:=z;omega
end
section
open Go.RowKit Go.Maps
abbrev bY:=List (Option Int)
def lB(l:bY)(i:Nat):Value:=.bool ((l[i]?).getD none).isSome
def lN(l:bY)(i:Nat):Value:=.int .i64 (((l[i]?).getD none).getD 0)
def fM(l:bY):Array Value:=#[lB l 0,lN l 0,lB l 1,lN l 1,lB l 2,lN l 2,lB l 3,lN l 3,lB l 4,lN l 4,lB l 5,lN l 5]
def gZ(l:bY):List Value:=[lB l 0,lN l 0,lB l 1,lN l 1,lB l 2,lN l 2,lB l 3,lN l 3,lB l 4,lN l 4,lB l 5,lN l 5]
def eQ:bY:=[none,none,none,none,none,none]
theorem GQ:fM eQ=#[.bool false,.int .i64 0,.bool false,.int .i64 0,.bool false,.int .i64 0,.bool false,.int .i64 0,.bool false,.int .i64 0,.bool false,.int .i64 0]:=rfl
theorem Cg{l:bY}(g:l.length=6){i:Nat}(hi:i<6)(v:Option Int):((fM l).setIfInBounds (i*2) (.bool v.isSome)).setIfInBounds (i*2+1) (.int .i64 (v.getD 0))=fM (l.set i v):=by
 match l,g with
 | [a,b,c,d,e,f],_=>
  match i,hi with
  | 0,_=>rfl
  | 1,_=>rfl
  | 2,_=>rfl
  | 3,_=>rfl
  | 4,_=>rfl
  | 5,_=>rfl
theorem jR{l:bY}{i:Nat}(hi:i<6):(fM l)[i*2]?=some (lB l i)/\(fM l)[i*2+1]?=some (lN l i):=by
 match i,hi with
 | 0,_=>exact⟨rfl,rfl⟩
 | 1,_=>exact⟨rfl,rfl⟩
 | 2,_=>exact⟨rfl,rfl⟩
 | 3,_=>exact⟨rfl,rfl⟩
 | 4,_=>exact⟨rfl,rfl⟩
 | 5,_=>exact⟨rfl,rfl⟩
def fi(x:aZ):Bool:=x.name.toList.isEmpty
theorem uk(x:aZ)(W:World):Calls prog 82 #[.agg #[.string x.name,.string x.key]] W fun e W'=>e=.returned (.bool (fi x))/\Below W.heap.size W W':=by
 have b:=p9 ((r5 W.heap.size W).alloc (rm _) (.cells #[.string x.name,.string x.key] 129));cases he:x.name.toList.isEmpty with
 | true=>
  have a:=p9 he;go_enter func82,ntmps82
  go_wp2_with fail;go_ret;exact⟨by rw[fi,a.o];rfl,b.o⟩
 | false=>
  have a:=p9 he;go_enter func82,ntmps82
  go_wp2_with fail;go_ret;exact⟨by rw[fi,a.o];rfl,b.o⟩
theorem JZ(x:aZ)(W:World):Calls prog 131 #[.agg #[.string x.name,.string x.key]] W fun e W'=>e=.returned (.bool (!(fi x)))/\Below W.heap.size W W':=by
 have b:=p9 ((r5 W.heap.size W).alloc (rm _) (.cells #[.string x.name,.string x.key] 129));go_enter func131,ntmps131
 go_wp2_with fail;refine(uk x _).mono ?_;rintro e d ⟨rfl,c⟩;have a:=p9 (b.o.trans (c.mono b.o.size));clear c;go_wp2_with fail;go_ret;exact⟨rfl,a.o⟩
theorem M9{u:FuncId}{p:aZ->Bool}(E:∀args w,(callFunc u args).run prog w=.ok (.enter u args) w)(hu:∀(x:aZ) (W:World),Calls prog u #[.agg #[.string x.name,.string x.key]] W fun e W'=>e=.returned (.bool (p x))/\Below W.heap.size W W')
  {W:World} {ao:Option Addr} {cp:Nat} {l:List aZ} (z:dj W 2 (.slice ao l.length cp) l.length (l.flatMap kk)) (I:l.length<=1000000):
  Calls prog 130 #[.slice ao l.length cp,.func (.func u) #[] #[]] W fun e W'=>(∃i:Int,e=.returned (.int .i64 i)/\(l.any p=decide (0<=i))/\-1<=i/\i<=1000000)/\Below W.heap.size W W':=by
 have C:=p9 z;have D:=p9 hu;clear z hu;go_enter func130,ntmps130
 go_wp2_with fail;go_loopg [8] l.length (fun c iv w=>∃k:Nat,iv=.int .i64 (k:Int)/\k+c=l.length/\(l.take k).any p=false/\Below W.heap.size W w)
 case atStart=>exact⟨0,rfl,by omega,by simp,r5 _ _⟩
 case round=>
  obtain⟨k,rfl,hk,d,v⟩:=hrel;have b:=p9 d;have m:=p9 v;clear d v;by_cases f:k<l.length
  ·obtain⟨g,A,rfl,a⟩:=bC (l:=l) kk (fun _=>rfl) (C.o.below m.o) f;obtain⟨y,s⟩:∃y,l[k]=y:=⟨_,rfl⟩;have t:=p9 s;rw[s] at a;clear s;have F:wr.cell? ⟨g,A+k*2,none⟩=some (.string y.name):=a 0 (by decide);have G:wr.cell? ⟨g,A+k*2+1,none⟩=some (.string y.key):=a 1 (by decide);have r:(k:Int)<(l.length:Int):=by omega
   clear a;go_wp2_with fail;refine(D.o y _).mono ?_;rintro e H ⟨rfl,j⟩;have h:=p9 (m.o.trans (j.mono m.o.size));clear j F G;cases n:p y with
   | true=>
    have q:qv (l.any p=true):=p9 (List.any_eq_true.2 ⟨y,by rw[<-t.o];exact sT f,n⟩);clear n;go_wp2_with fail;go_ret;exact⟨⟨k,rfl,by rw[q.o];simp,by omega,by omega⟩,h.o⟩
   | false=>
    have B:=p9 n;clear n;go_wp2_with fail;go_roundg (gk - 1)
    case rel=>
     refine⟨k+1,by simp,by omega,?_,h.o⟩;rw[tt,r6 f,List.any_append,b.o,t.o];simp[B.o]
    case measure=>omega
  ·have r:¬(k:Int)<(l.length:Int):=by omega
   have q:qv (l.any p=false):=p9 (by have:=b.o;rwa [uB (by omega)] at this);go_wp2_with fail;go_ret;exact⟨⟨-1,rfl,by rw[q.o];simp,by omega,by omega⟩,m.o⟩
theorem D4{u:FuncId}{p:aZ->Bool}(a:∀args w,(callFunc u args).run prog w=.ok (.enter u args) w)(hu:∀(x:aZ) (W:World),Calls prog u #[.agg #[.string x.name,.string x.key]] W fun e W'=>e=.returned (.bool (p x))/\Below W.heap.size W W')
  {W:World} {ao:Option Addr} {cp:Nat} {l:List aZ} (c:dj W 2 (.slice ao l.length cp) l.length (l.flatMap kk)) (h:l.length<=1000000):
  Calls prog 81 #[.slice ao l.length cp,.func (.func u) #[] #[]] W fun e W'=>e=.returned (.bool (l.any p))/\Below W.heap.size W W':=by
 have g:=p9 (M9 a hu c h);clear c hu;go_enter func81,ntmps81
 go_wp2_with fail;refine g.o.mono ?_;rintro e j ⟨⟨i,rfl,hi,h1,k⟩,b⟩;have f:=p9 hi;have d:=p9 b;clear hi b;go_wp2_with fail
 all_goals
  go_ret;exact⟨by rw[f.o];(try simp);(try omega),d.o⟩
theorem Tryz.jV:(prog.info? 163).map (·.size)=some 12:=by kernel_rfl
theorem wS(l:bY):(fM l).all (·.oneCell')=true:=by simp[fM,lB,lN,Value.oneCell']
theorem Ox{fn:Func}{tmps:Array Value}{X c:Nat}{cs:Array Value}(f:fn.results=#[.cell c 163])(b:tmps[c]?.getD undef=.pointer (some ⟨X,0,none⟩))(a:Loc w X cs 163)(g:cs.size=12):
  (results fn tmps).run prog w=.ok (.agg cs) w:=by
 have d:=run_loadVar_mid (P:=prog) w X 0 163 cs.toList _ a.range underlying163 rfl (by rw[Tryz.jV];simp[g]);unfold results;rw[f];simp[b,d,asAddr]
def jQ(ns:List aH)(f:ByteArray->Option Int)(x:aZ):Option Int:=if fi x then none else if x.key.toList.isEmpty then some ((f x.name).getD 0) else valueOf ns ((f x.name).getD 0) x.key
def fB(ns:List aH)(af:List aZ)(f:ByteArray->Option Int):bY:=(List.range 6).map fun i=>(af[i]?).elim none (jQ ns f)
def eV(ns:List aH)(af:List aZ)(f:ByteArray->Option Int)(k:Nat):bY:=(List.range 6).map fun i=>if i<k then (af[i]?).elim none (jQ ns f) else none
theorem tY(ns:List aH)(af:List aZ)(f:ByteArray->Option Int)(k:Nat):(eV ns af f k).length=6:=by simp[eV]
theorem B3(ns:List aH)(af:List aZ)(f:ByteArray->Option Int):eV ns af f af.length=fB ns af f:=by
 unfold eV fB
 congr 1
 funext i
 split
 ·rfl
 ·rw[x7 (by omega)];rfl
theorem sj(ns:List aH)(af:List aZ)(f:ByteArray->Option Int)(hk:k<af.length):eV ns af f (k+1)=(eV ns af f k).set k (jQ ns f af[k]):=by
 refine LX (by simp[eV]) fun i h1 h2=>?_;rw[List.getElem_set];simp only[eV,DG,List.getElem_range];by_cases e:k=i
 ·subst e;rw[a8 (by omega),a8 rfl,r6 hk]
  rfl
 ·rw[bk e];by_cases a:i<k
  ·rw[a8 (by omega),a8 a]
  ·rw[bk (by omega),bk a]
theorem zW(ns:List aH)(af:List aZ)(f:ByteArray->Option Int)(hk:k<af.length)(a:jQ ns f af[k]=none):eV ns af f (k+1)=eV ns af f k:=by
 rw[sj ns af f hk,a];refine LX (by simp) fun i h1 h2=>?_;rw[List.getElem_set];split
 ·rename_i e;subst e;simp[eV]
 ·rfl
theorem O8{mb:Nat}{ns:List aH}{es:List bK}{ao:Option Addr}{cp:Nat}{l:List aZ}(hg:jq gb go ns es m W)(hb:cK W B mb f)(hs:dj W 2 (.slice ao l.length cp) l.length (l.flatMap kk))(hl:l.length<=6)(A4:∀x∈l,x.name.size<=maxLen/\x.key.size<=maxLen):
  Calls prog 80 #[.pointer (some ⟨gb,go,none⟩),.slice ao l.length cp,.map (some B)] W fun e W'=>e=.returned (.agg (fM (fB ns l f)))/\Below W.heap.size W W':=by
 have Q:=(r5 W.heap.size W).alloc (rm _) (.cells (fM eQ) 163);have A1:=Q.alloc Q.size (.cells (fM eQ) 163);have t:=p9 A1;have r:=p9 ((Loc.new W (fM eQ) 163).alloc (.cells (fM eQ) 163));have q:=p9 (Loc.new (W.alloc (.cells (fM eQ) 163)) (fM eQ) 163);have HG:=p9 hg;have HP:=p9 hb;have HS:=p9 hs;have A5:=p9 A4;clear Q A1 hg hb hs A4;rw[GQ] at t r q;go_enter func80,ntmps80
 go_upto_region 2 with fail;rw[z6] at q;obtain⟨R,hR⟩:∃R,R=W.heap.size:=⟨_,rfl⟩;obtain⟨L,hL⟩:∃L,L=W.heap.size+1:=⟨_,rfl⟩;have d:qv (R≠L/\W.heap.size<=R/\W.heap.size<=L):=p9 (by omega);rw[<-hL] at q⊢;rw[<-hR] at r⊢;clear hR hL;rw[<-GQ] at t r q⊢;generalize (W.alloc (.cells (fM eQ) 163)).alloc (.cells (fM eQ) 163)=W2 at t r q⊢;go_wp2_with fail;go_loopg [12] l.length (fun c iv w=>∃k:Nat,iv=.int .i64 (k:Int)/\k+c=l.length/\Below W.heap.size W w/\Loc w R (fM eQ) 163/\Loc w L (fM (eV ns l f k)) 163)
 case atStart=>exact⟨0,rfl,by omega,t.o,r.o,q.o⟩
 case round=>
  obtain⟨k,rfl,hk,hb,hr,A3⟩:=hrel;have S:=p9 hb;have HR:=p9 hr;have E:=p9 A3;clear hb hr A3 t r q;by_cases I:k<l.length
  ·have A6:(k:Int)<(l.length:Int):=by omega
   have A7:(k:Int)<6:=by omega
   obtain⟨g,oo,rfl,i⟩:=bC (l:=l) kk (fun _=>rfl) (HS.o.below S.o) I;obtain⟨y,hy⟩:∃y,l[k]=y:=⟨_,rfl⟩;have A0:=p9 (A5.o y (by rw[<-hy];exact sT I));have N:=p9 (sj ns l f I);have V:=p9 (zW ns l f I);rw[hy] at i N V;clear hy;have p0:wr.cell? ⟨g,oo+k*2,none⟩=some (.string y.name):=i 0 (by decide);have p1:wr.cell? ⟨g,oo+k*2+1,none⟩=some (.string y.key):=i 1 (by decide);have D:=p9 (S.o.alloc S.o.size (.cells #[.string y.name,.string y.key] 129));have O:=p9 (HR.o.alloc (.cells #[.string y.name,.string y.key] 129));have K:=p9 (E.o.alloc (.cells #[.string y.name,.string y.key] 129));have s:=p9 (Loc.new wr #[.string y.name,.string y.key] 129);clear i S HR E;go_upto_region 6 with fail;obtain⟨Z,hZ⟩:∃Z,Z=wr.heap.size:=⟨_,rfl⟩;rw[<-hZ] at s⊢;clear hZ p0 p1;generalize wr.alloc (.cells #[.string y.name,.string y.key] 129)=W3 at D O K s⊢;have z0:=s.o.at_ 0 (.string y.name) rfl;have z1:=s.o.at_ 1 (.string y.key) rfl;go_wp2_with fail;refine(uk y _).mono ?_;rintro e W4 ⟨rfl,C⟩;have b:=p9 (D.o.trans (C.mono D.o.size));have A:=p9 (O.o.grown (ag C none) (by simp));have z:=p9 (K.o.grown (ag C none) (by simp));have F:=p9 (s.o.grown (ag C none) (by simp));clear C z0 z1 D O K s;cases G:fi y with
   | true=>
    have HE:qv (eV ns l f (k+1)=eV ns l f k):=p9 (V.o (by unfold jQ;rw[G];rfl));clear G;go_wp2_with fail;go_roundg (gk - 1)
    case rel=>exact⟨k+1,by simp,by omega,b.o,A.o,by rw[HE.o];exact z.o⟩
    case measure=>omega
   | false=>
    have U:=p9 G;clear G;have z0:=F.o.at_ 0 (.string y.name) rfl;have z1:=F.o.at_ 1 (.string y.key) rfl;have A2:=(HP.o.kept (ag b.o none) (by simp)).look A0.o.1;cases H:y.key.toList.isEmpty with
    | true=>
     have u:qv (jQ ns f y=some ((f y.name).getD 0)):=p9 (by unfold jQ;rw[U.o,H];rfl);go_wp2_with fail;refine(Bz _ _).mono ?_;rintro e W5 ⟨rfl,h⟩;have J:=p9 (b.o.trans (h.mono b.o.size));have P:=p9 (A.o.grown (ag h none) (by simp));have a:=p9 (z.o.grown (ag h none) (by simp));clear h z0 z1 A2 H b A z F;obtain⟨v,hv⟩:∃v,(f y.name).getD 0=v:=⟨_,rfl⟩;rw[hv] at u⊢;clear hv;have q0:W5.cell? ⟨L,k*2,none⟩=some (lB (eV ns l f k) k):=(a.o.cell (k*2)).trans (jR (by omega)).1;have q1:W5.cell? ⟨L,k*2+1,none⟩=some (lN (eV ns l f k) k):=(a.o.cell (k*2+1)).trans (jR (by omega)).2;have f0:=a.o.free (k*2);have f1:=a.o.free (k*2+1);have M:=p9 ((a.o.set (k*2) (.bool true)).set (k*2+1) (.int .i64 v));unfold eS;go_wp2_with fail;go_roundg (gk - 1)
     case rel=>
      refine⟨k+1,by simp,by omega,(J.o.setCell (p:=⟨L,k*2,none⟩) d.o.2.2 _).setCell (p:=⟨L,k*2+1,none⟩) d.o.2.2 _,(P.o.aY (b':=L) d.o.1 _ _).aY (b':=L) d.o.1 _ _,?_⟩;have e:=Cg (tY ns l f k) (show k<6 by omega) (some v);rw[N.o,u.o,<-e];exact M.o
     case measure=>omega
    | false=>
     have u:qv (jQ ns f y=valueOf ns ((f y.name).getD 0) y.key):=p9 (by unfold jQ;rw[U.o,H];rfl);have Y:=p9 (Nl (n:=(f y.name).getD 0) (k:=y.key) (HG.o.below b.o) A0.o.2);go_wp2_with fail;refine Y.o.mono ?_;rintro e W5 ⟨rfl,h⟩;have J:=p9 (b.o.trans (h.mono b.o.size));have P:=p9 (A.o.grown (ag h none) (by simp));have a:=p9 (z.o.grown (ag h none) (by simp));clear h z0 z1 A2 H b A z F Y;obtain⟨v,hv⟩:∃v,valueOf ns ((f y.name).getD 0) y.key=v:=⟨_,rfl⟩;rw[hv] at u⊢;clear hv;have q0:W5.cell? ⟨L,k*2,none⟩=some (lB (eV ns l f k) k):=(a.o.cell (k*2)).trans (jR (by omega)).1;have q1:W5.cell? ⟨L,k*2+1,none⟩=some (lN (eV ns l f k) k):=(a.o.cell (k*2+1)).trans (jR (by omega)).2;have f0:=a.o.free (k*2);have f1:=a.o.free (k*2+1);have M:=p9 ((a.o.set (k*2) (.bool v.isSome)).set (k*2+1) (.int .i64 (v.getD 0)));rw[ko];go_wp2_with fail;go_roundg (gk - 1)
     case rel=>
      refine⟨k+1,by simp,by omega,(J.o.setCell (p:=⟨L,k*2,none⟩) d.o.2.2 _).setCell (p:=⟨L,k*2+1,none⟩) d.o.2.2 _,(P.o.aY (b':=L) d.o.1 _ _).aY (b':=L) d.o.1 _ _,?_⟩;have e:=Cg (tY ns l f k) (show k<6 by omega) v;rw[N.o,u.o,<-e];exact M.o
     case measure=>omega
  ·have A6:¬(k:Int)<(l.length:Int):=by omega
   obtain rfl:k=l.length:=by omega
   have HE:=p9 (B3 ns l f);rw[HE.o] at E;go_upto_region 10 with fail;refine wp_region_lit ?_;refine wpList_load_mid rfl 163 _ rfl L 0 rfl (fM (fB ns l f)).toList _ E.o.range underlying163 rfl (by rw[Tryz.jV];rfl) ?_;refine wpList_store_mid rfl 163 _ _ rfl R 0 (fM (fB ns l f)) rfl rfl HR.o.there Tryz.jV (wS _) ?_;have X:=p9 (HR.o.fC (new:=fM (fB ns l f)) rfl);have T:=p9 (S.o.grown (aU R (fM (fB ns l f)).toList 0 wr) S.o.size (fun j hj=>by injection hj with hj;rw[<-hj];exact d.o.2.1));generalize wr.setCells R 0 (fM (fB ns l f)).toList=W9 at X T⊢;go_wp2_with fail;refine bodyPost_ret (Ox rfl rfl X.o rfl) rfl ⟨rfl,T.o⟩
variable {gb go m:Nat} {T:TypeId} {cs:Array Value} {vn ve:Value} {ns:List aH} {es:List bK} {last:Int} {W w:World}
theorem kN.Jm(h:kN gb go T cs vn ve ns es last m W)(d:ns.length<=1000000/\es.length<=1000000):jq gb go ns es m W:=by
 have s1:=aJ h.on h.on.1;have s2:=aJ h.oe h.oe.1;have a:=h.bJ;have c:=h.c0;have c1:=h.c1;obtain⟨b,f,rfl,_⟩:=bi s1;obtain⟨a2,g,rfl,_⟩:=bi s2;exact⟨⟨b,f,(a.cell go).trans c,s1⟩,⟨a2,g,(a.cell (go+1)).trans c1,s2⟩,h.nk,d,h.bf⟩
def fI(pf:ByteArray->Option Int)(k:ByteArray)(v:Option Int):ByteArray->Option Int:=fun s=>if s=k then v else pf s
theorem cK.more{n':Nat}(h:cK W b n f)(c:n<=n'):cK W b n' f:=by
 obtain⟨D,d,a⟩:=h;exact⟨D,d.mono c,a⟩
theorem cK.put{b n:Nat}{D:DataW Unit}{f:ByteArray->Option Int}{k:ByteArray}{v:Int}(c:IsMap D)(d:∀s:ByteArray,s.size<=maxLen->Maps.has D (.string s.data.toList)=(f s).isSome/\D.atKey (.string s.data.toList) (.lit (.int .i64 0))=.lit (.int .i64 ((f s).getD 0)))(hk:k.size<=maxLen)
  (g:w.ownsMap prog 9 (plainElem prog 3) b n (D.put (k8 k) (.lit (.int .i64 v)))):cK w b n (fI f k (some v)):=by
 refine⟨_,g,fun s hs=>?_⟩;unfold fI;by_cases e:s=k
 ·subst e;rw[a8 rfl,has_put_same c (rX.key (uH hk)),atKey_put_same c (rX.key (uH hk))];exact⟨rfl,rfl⟩
 ·have a:k8 s≠k8 k:=fun h=>e (uf h);rw[bk e,has_put_other a,atKey_put_other a];exact d s hs
theorem cK.del{b n:Nat}{D:DataW Unit}{f:ByteArray->Option Int}{k:ByteArray}(c:∀s:ByteArray,s.size<=maxLen->Maps.has D (.string s.data.toList)=(f s).isSome/\D.atKey (.string s.data.toList) (.lit (.int .i64 0))=.lit (.int .i64 ((f s).getD 0)))
  (d:w.ownsMap prog 9 (plainElem prog 3) b n (D.del (k8 k))):cK w b n (fI f k none):=by
 refine⟨_,d,fun s hs=>?_⟩;unfold fI;by_cases e:s=k
 ·subst e;rw[a8 rfl,has_del_same,atKey_del_same];exact⟨rfl,rfl⟩
 ·have a:k8 s≠k8 k:=fun h=>e (uf h);rw[bk e,has_del_other a,atKey_del_other a];exact c s hs
variable {fix:Nat->Option Value} {left:Int} {use:Value} {B T F:Nat} {ev:Nat->Value} {wv:Value} {own:Nat->Prop} {f:ByteArray->Option Int} {mb:Nat} {en:Nat->List Int} {ws:List gh}
def yr(F B T:Nat)(ev:Nat->Value)(wv:Value)(k:Nat):Prop:=k=F\/k=B\/k=T\/(∃i,i<6/\(ev i).ownBlock=some k)\/wv.ownBlock=some k
theorem km.tight(h:km own F B T fix left use f mb ev en wv ws W):km (yr F B T ev wv) F B T fix left use f mb ev en wv ws W:=
 ⟨h.cell,h.iF,h.taken,h.re,h.rw,h.apart,⟨ad rfl,a6 (ad rfl),a6 (a6 (ad rfl)),fun i hi _ hb=>a6 (a6 (a6 (ad ⟨i,hi,hb⟩))),fun _ hb=>a6 (a6 (a6 (a6 hb)))⟩,h.bt⟩
theorem km.within(h:km own F B T fix left use f mb ev en wv ws W)(hk:yr F B T ev wv k):own k:=by
 rcases hk with rfl|rfl|rfl|⟨i,hi,a⟩|a
 ·exact h.gC.1
 ·exact h.gC.2.1
 ·exact h.gC.2.2.1
 ·exact h.gC.2.2.2.1 i hi k a
 ·exact h.gC.2.2.2.2 k a
theorem kO.lt{S:Int->Bool}(h:kO W b n S):b<W.heap.size:=by
 obtain⟨D,⟨es,c,a,_⟩,_⟩:=h;exact lt_of_block a
theorem km.low(h:km own F B T fix left use f mb ev en wv ws W)(hk:yr F B T ev wv k):k<W.heap.size:=by
 obtain⟨cs,b,d⟩:=h.cell;obtain⟨j,S,c,g⟩:=h.taken;rcases hk with rfl|rfl|rfl|⟨i,hi,a⟩|a
 ·exact b.lt
 ·exact h.iF.lt
 ·exact c.lt
 ·exact((h.re i hi).lt k a).2
 ·exact(h.rw.lt k a).2
theorem oh{w:World}{t:TypeId}{v:Value}{xs:List Value}(h:W.ownsRow b t k v n xs)(he:∀g,v.ownBlock=some g->w.heap[g]?=W.heap[g]?):w.ownsRow b t k v n xs:=by
 refine⟨h.1,?_⟩;rcases h.2 with c|⟨g,cap,a,rfl,d,f,r⟩
 ·exact ad c
 ·exact a6 ⟨g,cap,a,rfl,d,(he g rfl).trans f,r⟩
theorem cK.by{b n:Nat}(h:cK W b n f)(he:w.heap[b]?=W.heap[b]?):cK w b n f:=by
 obtain⟨D,⟨es,c,d,r⟩,a⟩:=h;exact⟨D,⟨es,c,he.trans d,r⟩,a⟩
theorem kO.by{b n:Nat}{S:Int->Bool}(h:kO W b n S)(he:w.heap[b]?=W.heap[b]?):kO w b n S:=by
 obtain⟨D,⟨es,c,d,r⟩,a⟩:=h;exact⟨D,⟨es,c,he.trans d,r⟩,a⟩
theorem km.by(h:km own F B T fix left use f mb ev en wv ws W)(he:∀k,yr F B T ev wv k->w.heap[k]?=W.heap[k]?):km own F B T fix left use f mb ev en wv ws w:=by
 obtain⟨cs,b,a⟩:=h.cell;obtain⟨j,S,d,c⟩:=h.taken;refine⟨⟨cs,(he F (ad rfl)).trans b,a⟩,h.iF.by (he B (a6 (ad rfl))),⟨j,S,d.by (he T (a6 (a6 (ad rfl)))),c⟩,fun i hi=>oh (h.re i hi) (fun g hg=>he g (a6 (a6 (a6 (ad ⟨i,hi,hg⟩))))),oh h.rw (fun g hg=>he g (a6 (a6 (a6 (a6 hg))))),h.apart,h.gC,h.bt⟩
abbrev Row:=ByteArray->Option Int
structure vT(UInv:(Nat->Prop)->List Row->World->Prop):Prop where
 Tg:∀ub rows W w,UInv ub rows W->W.heap.size<=w.heap.size->(∀k,ub k->w.heap[k]?=W.heap[k]?)->UInv ub rows w
 low:∀ub rows W,UInv ub rows W->∀k,ub k->k<W.heap.size
variable {UInv:(Nat->Prop)->List Row->World->Prop} {Fx ub:Nat->Prop} {rows:List Row} {W0:World}
structure jT(UInv:(Nat->Prop)->List Row->World->Prop)(Fx:Nat->Prop)(W0:World)(F B T:Nat)(fix:Nat->Option Value)(use:Value)(left:Int)(f:Row)(mb:Nat)(ev:Nat->Value)(en:Nat->List Int)(wv:Value)(ws:List gh)(ub:Nat->Prop)(rows:List Row)(W:World):Prop where
 fa:km (yr F B T ev wv) F B T fix left use f mb ev en wv ws W
 fx:∀k,Fx k->k<W.heap.size/\¬yr F B T ev wv k/\¬ub k
 Qa:∀k,ub k->¬yr F B T ev wv k
 ui:UInv ub rows W
 kept:Kept (fun k=>¬Fx k) W0 W
def Dl(F B T:Nat)(ev:Nat->Value)(wv:Value)(W:World)(k:Nat):Prop:=yr F B T ev wv k\/W.heap.size<=k
theorem jT.wide(h:jT UInv Fx W0 F B T fix use left f mb ev en wv ws ub rows W):km (Dl F B T ev wv W) F B T fix left use f mb ev en wv ws W:=h.fa.pT (fun _ hb=>ad hb)
theorem jT.free(h:jT UInv Fx W0 F B T fix use left f mb ev en wv ws ub rows W)(hk:Dl F B T ev wv W k):¬Fx k:=fun e=>by
 obtain⟨h1,a,_⟩:=h.fx k e;rcases hk with hk|hk
 ·exact a hk
 ·omega
theorem jT.step(m:vT UInv)(h:jT UInv Fx W0 F B T fix use left f mb ev en wv ws ub rows W){a:Int}{o:Row}{j:Nat}{d:Nat->Value}{i:Nat->List Int}{g:Value}{l:List gh}(p:km (Dl F B T ev wv W) F B T fix a use o j d i g l w)(hk:Kept (Dl F B T ev wv W) W w):
  jT UInv Fx W0 F B T fix use a o j d i g l ub rows w:=by
 have c:∀k,k<W.heap.size->yr F B T d g k->yr F B T ev wv k:=fun k hk0 hf=>(p.within hf).elim id (fun e=>by omega);refine⟨p.tight,fun k hx=>?_,fun k hu hf=>?_,m.Tg _ _ _ _ h.ui hk.size (fun k hu=>?_),h.kept.trans (hk.pT (fun b hb=>h.free hb))⟩
 ·obtain⟨h1,q,r⟩:=h.fx k hx;exact⟨vH h1 hk.size,fun hf=>q (c k h1 hf),r⟩
 ·exact h.Qa k hu (c k (m.low _ _ _ h.ui k hu) hf)
 ·have n:=m.low _ _ _ h.ui k hu;exact hk.block k n (fun e=>e.elim (h.Qa k hu) (fun e=>by omega))
theorem jT.used(h:jT UInv Fx W0 F B T fix use left f mb ev en wv ws ub rows W){c:Nat->Prop}{a:List Row}(hu:UInv c a w)(hk:Kept ub W w)(d:∀k,c k->ub k\/W.heap.size<=k):jT UInv Fx W0 F B T fix use left f mb ev en wv ws c a w:=by
 refine⟨h.fa.by (fun k hf=>hk.block k (h.fa.low hf) (fun e=>h.Qa k e hf)),fun k hx=>?_,fun k hu' hf=>?_,hu,h.kept.trans (hk.pT (fun b hb hx=>(h.fx b hx).2.2 hb))⟩
 ·obtain⟨h1,g,i⟩:=h.fx k hx;exact⟨vH h1 hk.size,g,fun e=>(d k e).elim i (fun e=>by omega)⟩
 ·rcases d k hu' with e|e
  ·exact h.Qa k e hf
  ·have:=h.fa.low hf;omega
structure mO where
 left:Int
 f:Row
 rows:List Row
def fK(rec:mO->mO)(skip:Int->Bool)(name:ByteArray):List Int->mO->mO × Bool
 | [],st=>(st,false)
 | e::r,st=>if skip e then fK rec skip name r st else if 0<=st.left - 1 then fK rec skip name r (rec ⟨st.left - 1,fI st.f name (some e),st.rows⟩) else (⟨st.left - 1,st.f,st.rows⟩,true)
def fT(ns:List aH)(es:List bK)(s:aK)(p:Int)(left:Int):List Int × Int:=
 if s.type.toList.isEmpty then (ns.map (·.num),left) else fG es s.type s.least s.bq (left.toNat+2) [⟨0,0,0,0,0,p⟩] left
def mw(ns:List aH)(s:aK)(node:Option Int)(e:Int):Bool:=(node.isSome&&(e != node.getD 0)) || !(nF ns e s.ai)
def bZ(ns:List aH)(es:List bK)(cl:List bW):List aK->ByteArray->mO->mO
 | [],_,st=>if cl.all (kS ns st.f) then ⟨st.left,st.f,st.rows++[st.f]⟩ else st
 | s::r,prev,st=>
  let x:=fK (fun t=>bZ ns es cl r s.name t) (mw ns s (st.f s.name)) s.name (fT ns es s ((st.f prev).getD 0) st.left).1 ⟨(fT ns es s ((st.f prev).getD 0) st.left).2,st.f,st.rows⟩
  if x.2 then x.1 else if (st.f s.name).isSome then x.1 else ⟨x.1.left,fI x.1.f s.name none,x.1.rows⟩
end
section
open Go.RowKit Go.Maps Go.Sort
variable {fix:Nat->Option Value} {left:Int} {B T F:Nat} {ev:Nat->Value} {wv:Value} {own:Nat->Prop} {f:Row} {mb:Nat} {en:Nat->List Int} {ws:List gh} {W w:World}
variable {UInv:(Nat->Prop)->List Row->World->Prop} {Fx ub:Nat->Prop} {rows:List Row} {W0:World} {u:FuncId} {caps:Array Value}
def Kn(UInv:(Nat->Prop)->List Row->World->Prop)(Fx:Nat->Prop)(W0:World)(B:Nat)(u:FuncId)(caps:Array Value):Prop:=
 ∀W ub rows f mb,UInv ub rows W->cK W B mb f->¬ub B->Kept (fun k=>¬Fx k) W0 W->rows.length<1000000->
  Calls prog u (#[.map (some B)]++caps) W fun e W'=>e=.returned (.tuple #[])/\∃ub',UInv ub' (rows++[f]) W'/\Kept ub W W'/\(∀k,ub' k->ub k\/W.heap.size<=k)
theorem jT.below{use:Value}(b:vT UInv)(h:jT UInv Fx W0 F B T fix use left f mb ev en wv ws ub rows W)(a:Below W.heap.size W w):jT UInv Fx W0 F B T fix use left f mb ev en wv ws ub rows w:=
 h.step b (h.wide.later a) ((Kept.refl _ W).below a)
theorem Kept.drew{D:Nat->Prop}(h:Kept D W w):Kept D W w.drew:=⟨h.os,h.tape,h.output,h.size,h.block⟩
theorem jT.drew{use:Value}(a:vT UInv)(h:jT UInv Fx W0 F B T fix use left f mb ev en wv ws ub rows W):jT UInv Fx W0 F B T fix use left f mb ev en wv ws ub rows W.drew:=
 ⟨h.fa.drew,h.fx,h.Qa,a.Tg _ _ _ _ h.ui (rm _) (fun _ _=>rfl),h.kept.drew⟩
theorem end_{cc:Nat}{ns:List aH}{es:List bK}{ca:Option Addr}{cl:List bW}(I:vT UInv)(h:jT UInv Fx W0 F B T fix (.func (.func u) #[] caps) left f mb ev en wv ws ub rows W)(K:fix 0=some (.pointer (some ⟨gb,go,none⟩)))(L:fix 3=some (.slice ca cl.length cc))(v:jq gb go ns es m W)(V:cl.length<=1000)(x:∀c∈cl,BY c)
  (t:dj W 7 (.slice ca cl.length cc) cl.length (cl.flatMap pX)) (k:∀args w,(callFunc u args).run prog w=.ok (.enter u args) w) (i:Kn UInv Fx W0 B u caps) (M:rows.length<1000000):
  Calls prog 175 #[.pointer (some ⟨F,0,none⟩)] W fun e W'=>e=.returned (.tuple #[])/\∃ub',jT UInv Fx W0 F B T fix (.func (.func u) #[] caps) left f mb ev en wv ws ub' (if cl.all (kS ns f) then rows++[f] else rows) W':=by
 obtain⟨cs,g,a⟩:=h.fa.cell;have Q:=cell_regrown ((g.cell 0).trans ((a.fx 0 (by decide)).trans K));have S:=cell_regrown ((g.cell 3).trans ((a.fx 3 (by decide)).trans L));have s:=cell_regrown ((g.cell 20).trans a.b);have j:qv (∀d os,Calls prog 227 #[.pointer (some ⟨gb,go,none⟩),.slice ca cl.length cc,.map (some B)] (grow (redrawn W d) os) fun e w''=>e=.returned (.bool (cl.all (kS ns f)))/\∃p:Regrown,w''=grow (redrawn W p.d) p.os):=
  p9 fun d os=>Calls.regrown_of (NP (v.below (below_regrown W d os)) (h.fa.iF.kept (ag (below_regrown W d os) none) (by simp)) V x (t.below (below_regrown W d os)))
 have H:=p9 h;have q:=p9 I;have n:=p9 i;have A:=p9 k;have P:=p9 M;clear h K L v x t I i k M g a;generalize cl.all (kS ns f)=r at j⊢;go_enter func175,ntmps175
 go_upto_region 0 with fail;refine wp_region_quiet_below (by kernel_rfl) (by kernel_rfl) ?_
 iterate 13 (quiet_step (fail))
 quiet_step (exact j.o _ _)
 refine wpQuiet_nil ?_;intro z hw;have J:Below W.heap.size W z:=(by obtain⟨⟨U,G⟩,rfl⟩:=hw;exact below_regrown W U G);have l:=p9 (H.o.below q.o J);clear J hw Q S s j H;cases r with
 | false=>
  go_wp2_with fail;go_end0;exact⟨rfl,ub,by simpa using l.o⟩
 | true=>
  obtain⟨cs,g,a⟩:=l.o.fa.cell;have R:z.cell? ⟨F,19,none⟩=some (.func (.func u) #[] caps):=(g.cell 19).trans a.u;have s:z.cell? ⟨F,20,none⟩=some (.map (some B)):=(g.cell 20).trans a.b;clear g a;have k:=A.o;have y:=p9 (l.o.drew q.o);have O:=p9 (fun e=>l.o.Qa B e (a6 (ad rfl)):¬ub B);clear l;go_upto_region 1 with fail;go_region_with (refine(n.o z.drew ub rows f mb y.o.ui y.o.fa.iF O.o y.o.kept P.o).mono ?_;rintro e X ⟨rfl,ub',hu,hk,N⟩;have E:=p9 hu;have C:=p9 hk;have D:=p9 N;clear hu hk N)
  all_goals
   go_wp2_with fail;go_end0;exact⟨rfl,ub',by simpa using y.o.used E.o C.o D.o⟩
def cmpL:bY->bY->Int
 | a::r,b::s=>if eB a b=0 then cmpL r s else eB a b
 | _,_=>0
def jm(l:bY)(i:Nat):Option Int:=(l[i]?).getD none
def kz(order:Int)(down:Bool)(a b:bY):Int:=
 if 0<order then
  let o:=if down then -(eB (jm a (order - 1).toNat) (jm b (order - 1).toNat)) else eB (jm a (order - 1).toNat) (jm b (order - 1).toNat)
  if o=0 then cmpL a b else o
 else cmpL a b
theorem sS(a b:Option Int):-1<=eB a b/\eB a b<=1:=by
 cases a<;>cases b<;>simp[eB]
 unfold Lib.compareInt;split
 ·simp
 ·split<;>simp
theorem uO{a b:bY}(c:a.length=6)(lb:b.length=6)(hk:k<6):cmpL (a.drop k) (b.drop k)=if eB (jm a k) (jm b k)=0 then cmpL (a.drop (k+1)) (b.drop (k+1)) else eB (jm a k) (jm b k):=by
 rw[xi (show k<a.length by omega),xi (show k<b.length by omega)];simp only[cmpL];unfold jm;rw[r6 (show k<a.length by omega),r6 (show k<b.length by omega)]
 rfl
theorem GP{P:Program}(w:World){ops:Array Oper}{o:Oper}{a:Act}{K:Act->World->Prop}{Q:Exit->Act->World->Prop}{E:Prop}(c:o.guard=none)(f:FuncId)(x y z:Operand)(m:Array TypeId)
  (b:∀args w',(callFunc f args).run P w'=.ok (.enter f args) w')
  (i:o.op=.call {callee:=.value (.func f),args:=#[x,y,z],argTypes:=m}) (v1 v2 v3 r:Value) (j:a.eval x=v1) (k:a.eval y=v2) (l:a.eval z=v3)
  (g:Calls P f #[v1,v2,v3] w fun e w'=>e=.returned r/\Below w.heap.size w w') (h:∀w',Below w.heap.size w w'->K (a.put o.dst r) w'):
  if Region.wanted o (yielded ops a.tmps)=true then Oper.wp P o a w K Q else E:=by
 have hw:Region.wanted o (yielded ops a.tmps)=true:=by simp[Region.wanted,c]
 rw[a8 hw];unfold Oper.wp execOp;simp only[i];have e:a.eval (Operand.func f)=.func (.func f) #[] #[]:=rfl;simp[resolve,invoke,j,k,l,e,Deferred.ofValue,b];rw[Oper.upon_enter];refine g.mono ?_;rintro e w' ⟨rfl,d⟩;exact h w' d
theorem Tryz.NN(args:Array Value)(w:World):(callFunc 80 args).run prog w=.ok (.enter 80 args) w:=by go_simp
theorem Tryz.NR(args:Array Value)(w:World):(callFunc 79 args).run prog w=.ok (.enter 79 args) w:=by go_simp
theorem Tryz.Ek:(prog.info? 163).map (fun i=>(i.zero,i.size,i.bytes))=some (some (.agg (fM eQ)),12,96):=by kernel_rfl
theorem xk(l:bY):∀u∈gZ l,u.oneCell'=true:=by
 intro u hu;simp[gZ] at hu;rcases hu with rfl|rfl|rfl|rfl|rfl|rfl|rfl|rfl|rfl|rfl|rfl|rfl<;>rfl
def Rg(ns:List aH)(af:List aZ)(L:Nat)(ub:Nat->Prop)(rows:List Row)(W:World):Prop:=
 ∃v,Loc W L #[v] 158/\W.ownsRow 0 163 12 v rows.length (rows.flatMap fun f=>gZ (fB ns af f))/\∀k,ub k↔(k=L\/v.ownBlock=some k)
theorem JK(ns:List aH)(af:List aZ)(L:Nat):vT (Rg ns af L):=by
 refine⟨fun ub rows W w ⟨v,hl,hr,hu⟩ _ he=>⟨v,(he L ((hu L).2 (ad rfl))).trans hl,oh hr (fun g hg=>he g ((hu g).2 (a6 hg))),hu⟩,fun ub rows W ⟨v,hl,hr,hu⟩ k hk=>?_⟩;rcases (hu k).1 hk with rfl|h
 ·exact hl.lt
 ·exact(hr.lt k h).2
theorem LJ{G Q cp L:Nat}{ns:List aH}{es:List bK}{ao:Option Addr}{af:List aZ}{Z:Nat->Prop}{W0:World}(hl:af.length<=6)(T:∀x∈af,x.name.size<=maxLen/\x.key.size<=maxLen)
  (E:∀w,Kept (fun k=>¬Z k) W0 w->jq gb go ns es m w/\w.cell? ⟨G,0,none⟩=some (.pointer (some ⟨gb,go,none⟩))/\w.cell? ⟨Q,3,none⟩=some (.slice ao af.length cp)/\dj w 2 (.slice ao af.length cp) af.length (af.flatMap kk)):
  Kn (Rg ns af L) Z W0 B 79 #[.pointer (some ⟨L,0,none⟩),.pointer (some ⟨G,0,none⟩),.pointer (some ⟨Q,0,none⟩)]:=by
 intro W ub rows f mb U hp S hk hr;obtain⟨i0,R,V,X,Y⟩:=info_parts Tryz.Ek;obtain⟨v,p,g,F⟩:=U;obtain⟨hg,cG,cQ,hs⟩:=E W hk;obtain⟨A,C,rfl⟩:=aV g;have cL:=p.at_ 0 (.slice A rows.length C) rfl;have n:qv (∀w,Below W.heap.size W w->Calls prog 80 #[.pointer (some ⟨gb,go,none⟩),.slice ao af.length cp,.map (some B)] w fun e w'=>e=.returned (.agg (fM (fB ns af f)))/\Below w.heap.size w w'):=p9 fun w hb=>O8 (hg.below hb) (hp.kept (ag hb none) (by simp)) (hs.below hb) hl T;have J:=p9 p;have N:=p9 g;have j:=p9 F;have s:qv (Below W.heap.size W W.drew):=p9 ⟨rfl,rfl,rfl,rm _,fun _ _=>rfl⟩;clear p g F hg hs E hk hp S;show Calls _ _ #[.map (some B),.pointer (some ⟨L,0,none⟩),.pointer (some ⟨G,0,none⟩),.pointer (some ⟨Q,0,none⟩)] _ _;go_enter func79,ntmps79
 go_upto_region 0 with fail;obtain⟨a,q⟩:∃a,fB ns af f=a:=⟨_,rfl⟩;rw[q] at n;have K:=p9 q;clear q;unfold fM at n;go_region_law (first|(refine GP _ rfl 80 _ _ _ _ Tryz.NN rfl (.pointer (some ⟨gb,go,none⟩)) (.slice ao af.length cp) (.map (some B)) (.agg (#[lB a 0,lN a 0,lB a 1,lN a 1,lB a 2,lN a 2,lB a 3,lN a 3,lB a 4,lN a 4,lB a 5,lN a 5])) (by simp[Act.eval]) (by simp[Act.eval]) (by simp[Act.eval]) (n.o W.drew s.o) ?_;intro r D;have h:qv (Below W.heap.size W r):=p9 (s.o.trans D);have t:=p9 (J.o.grown (ag h.o none) (by simp));have O:=p9 (N.o.kept (ag h.o none) (by cases (Value.ownBlock _)<;>simp));have c5:r.cell? ⟨L,0,none⟩=some (.slice A rows.length C):=(t.o.cell 0).trans rfl;have HE:=p9 (O.o.alloc (.cells (#[lB a 0,lN a 0,lB a 1,lN a 1,lB a 2,lN a 2,lB a 3,lN a 3,lB a 4,lN a 4,lB a 5,lN a 5]) 163));have y:=p9 (t.o.alloc (.cells (#[lB a 0,lN a 0,lB a 1,lN a 1,lB a 2,lN a 2,lB a 3,lN a 3,lB a 4,lN a 4,lB a 5,lN a 5]) 163));have c6:(r.alloc (.cells (#[lB a 0,lN a 0,lB a 1,lN a 1,lB a 2,lN a 2,lB a 3,lN a 3,lB a 4,lN a 4,lB a 5,lN a 5]) 163)).cell? ⟨L,0,none⟩=some (.slice A rows.length C):=(y.o.cell 0).trans rfl;clear D)|(refine step_append_lies _ rfl _ _ 158 rfl 0 163 i0 (.agg (fM eQ)) 12 96 underlying158 R V X Y rfl (by decide) (.slice A rows.length C) _ _ (by simp[Act.eval]) HE.o ⟨r.heap.size,0,none⟩ 1 1 (gZ a) (by simp[Act.eval]) rfl (World.news_of_block (heap_alloc_new r _)) (xk a) (by omega) (by unfold maxLen;omega) (by omega) (tJ _) _ rfl ?_;intro g2 c H l b d _;have i:=y.o.dY HE.o b (by decide);have c7:H.cell? ⟨L,0,none⟩=some (.slice A rows.length C):=(i.cell 0).trans rfl;have f7:H.frozen? ⟨L,0,none⟩=false:=i.free 0;have I:=p9 b;have z:=p9 l;have M:=p9 d;have u:=p9 i;clear i l b d))
 all_goals
  go_wp2_with fail;go_end0;refine⟨rfl,fun k=>k=L\/(Value.slice (some ⟨g2,0,none⟩) (rows.length+1) c).ownBlock=some k,⟨.slice (some ⟨g2,0,none⟩) (rows.length+1) c,u.o.set 0 _,?_,fun k=>Iff.rfl⟩,?_,fun k hk=>?_⟩
  ·have h1:=z.o.kept (aE H L 0 (.slice (some ⟨g2,0,none⟩) (rows.length+1) c)) (a6 (fun e=>aR z.o u.o (by decide) e));rw[r7,As];simp only[vz,List.flatMap_nil,x8,x6,K.o];exact h1
  ·have h1:=((Kept.refl ub W).below h.o).below ((r5 r.heap.size r).alloc (rm _) (.cells #[lB a 0,lN a 0,lB a 1,lN a 1,lB a 2,lN a 2,lB a 3,lN a 3,lB a 4,lN a 4,lB a 5,lN a 5] 163));refine(h1.then I.o (fun k hk=>ad ((j.o k).2 (a6 hk)))).then (aE H L 0 (.slice (some ⟨g2,0,none⟩) (rows.length+1) c)) (fun k hk=>?_)
   injection hk with hk
   exact ad ((j.o k).2 (ad hk.symm))
  ·rcases hk with rfl|hk
   ·exact ad ((j.o _).2 (ad rfl))
   ·injection hk with hk
    rcases M.o with P|P
    ·exact ad ((j.o k).2 (a6 (by rw[P];exact congrArg some hk)))
    ·refine a6 ?_;have h3:=h.o.size;rw[z6] at P;have hk:g2=k:=hk;omega
end
section
open Go.RowKit
structure ED(w:World)(q:aI)(vs vc vi vp:Value):Prop where
 rs:dj w 5 vs q.ah.length (bL q.ah)
 rc:dj w 7 vc q.aq.length (eK q.aq)
 rt:dj w 2 vi q.af.length (eJ q.af)
 rp:dj w 2 vp q.aj.length (fu q.aj)
theorem ED.below{w b:World}{q:aI}{vs vc vi vp:Value}(h:ED w q vs vc vi vp)(a:Below w.heap.size w b):ED b q vs vc vi vp:=⟨h.rs.below a,h.rc.below a,h.rt.below a,h.rp.below a⟩
theorem MA{q:aI}{vs vc vi vp:Value}(h:iJ B q vs vc vi vp w):ED w q vs vc vi vp:=by
 have flat:∀{α:Type} (f:α->List Value) (k:Nat) (_:∀a,(f a).length=k) (l:List α),(l.flatMap f).length=l.length*k:=by
  intro α f k hk l
  induction l with
  | nil=>simp
  | cons a r ih=>rw[vz,r7,hk,ih,vw,Nat.succ_mul];omega
 exact⟨aJ h.rs (flat nG 5 (fun _=>rfl) _),aJ h.rc (flat pX 7 (fun _=>rfl) _),aJ h.rt (flat kk 2 (fun _=>rfl) _),aJ h.rp (flat dG 2 (fun _=>rfl) _)⟩
end
end Go.Proofs.YtbfmmmjkjhjleaaGreatDoor
