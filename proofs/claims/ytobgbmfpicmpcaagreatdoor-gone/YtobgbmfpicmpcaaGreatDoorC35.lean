/- The changes: pairs as keys; maps.Keys over a set of pairs, as an iterator. -/
import Derived.Test.YtobgbmfpicmpcaaGreatDoorC02
import Derived.Shelf.SlIterI.Nil
import Derived.RangeFuncBox
import Derived.Test.YtobgbmfpicmpcaaGreatDoorC01
import Derived.Test.YtobgbmfpicmpcaaGreatDoorC32
import Derived.Test.YtobgbmfpicmpcaaGreatDoorC29
import Derived.Deep.RegionHeld3
import Derived.Shelf.SlGeneric
import Derived.Shelf.SlSortCmp.WholeK
import Derived.Test.YtobgbmfpicmpcaaGreatDoorProg
import Derived.Test.YtobgbmfpicmpcaaGreatDoorC21
import Derived.Test.YtobgbmfpicmpcaaGreatDoorC31
import Derived.Deep.RegionWith
import Derived.Lib.Hide
set_option maxRecDepth 100000
set_option maxHeartbeats 8000000
namespace Go.Proofs.YtobgbmfpicmpcaaGreatDoor
open Go.Lib (hid)
section
open Go.RowKit Go.Maps Go.Sort
abbrev PP:=Int × Int
def pB (p:PP):Value:=.agg #[.int .i64 p.1,.int .i64 p.2]
def ie (p:PP):Lit:=.string (keyBytes [.int .i64 p.1,.int .i64 p.2])
def Ax (p:PP):Prop:=(Lit.int .i64 p.1).wf=true∧(Lit.int .i64 p.2).wf=true
theorem Fv:Tryz.prog.keyType 336=true:=by kernel_rfl
theorem Ao:Tryz.prog.keyTypeAt 3 336=true:=by kernel_rfl
theorem JD:Tryz.prog.tiled 3 336=true:=by kernel_rfl
theorem EZ:Tryz.prog.cellsOf 336=2:=by kernel_rfl
theorem Ig:Tryz.prog.cellsOf 3=1:=by kernel_rfl
theorem DJ:Keyed Tryz.prog 336:=Keyed.of_law (deep_law (m:=3) (Nat.le_of_ble_eq_true rfl) Ao JD (by rw[Tryz.underlying336]))
theorem FW {p:PP} (h:Ax p):keyOf Tryz.prog 336 (pB p)=some (ie p):=by
 obtain⟨a,b⟩:=p
 obtain⟨ha,hb⟩:=h
 obtain⟨m,hm⟩:=vE
 have hf:(pB (a,b)).formed Tryz.prog 336=true:=by simp[pB,Value.formed,Tryz.underlying336,EZ]
 unfold keyOf
 rw[Tryz.underlying336]
 simp only[Fv,hf,Bool.and_self,if_true,hm]
 have hc:(pB (a,b)).cells.toList=[.int .i64 a,.int .i64 b]:=rfl
 rw[hc]
 simp only at ha hb
 simp[Program.keyLits,Tryz.underlying336,Tryz.underlying3,EZ,Ig,ha,hb,ie]
theorem Ew {p r:PP} (h:pB p=pB r):p=r:=by
 obtain⟨a,b⟩:=p
 obtain⟨a',b'⟩:=r
 simp only[pB,Value.agg.injEq] at h
 injection h with h
 injection h with h1 h2
 injection h2 with h2 _
 injection h1 with _ h1
 injection h2 with _ h2
 subst h1 h2
 rfl
theorem zv {p r:PP} (hp:Ax p) (hr:Ax r) (h:ie p=ie r):p=r:=Ew (DJ.inj (FW hp) (by rw[h];exact FW hr))
theorem Ea {key:Value} {kl:Lit} (h:keyOf Tryz.prog 336 key=some kl):∃cs,key=.agg cs:=by
 cases key<;>first|exact⟨_,rfl⟩|(simp[keyOf,Tryz.underlying336,Value.formed] at h)
structure kM (D:DataW Unit) (left:Lit→Bool) (ss:List PP):Prop where
 lZ:ss.Nodup
 ok:∀p∈ss,Ax p
 all:∀p,Ax p→(p∈ss↔(Maps.has D (ie p)=true∧left (ie p)=false))
theorem kM.start (D:DataW Unit):kM D (Maps.has D) []:=⟨List.nodup_nil,fun p hp=>(by cases hp),fun p _=>(by cases Maps.has D (ie p)<;>simp)⟩
theorem kM.step {D:DataW Unit} {left:Lit→Bool} {ss:List PP} (h:kM D left ss) {x:PP} {y:DataW Unit} (hx:Ax x) (hl:left (ie x)=true) (hat:∀zd,D.atKey (ie x) zd=y):kM D (fun z=>left z&&!z.sameKey (ie x)) (ss++[x]):=by
 have hhas:Maps.has D (ie x)=true:=has_true_of_atKey hat
 have hnew:x ∉ ss:=fun hm=>by have:=((h.all x hx).1 hm).2;rw[hl] at this;cases this
 refine⟨List.nodup_append.2 ⟨h.lZ,by simp,fun a ha b hb=>by simp at hb;subst hb;exact fun e=>hnew (e▸ha)⟩,fun p hp=>?_,fun p hp=>?_⟩
 ·rcases List.mem_append.1 hp with hp|hp
  ·exact h.ok p hp
  ·rw[List.mem_singleton.1 hp];exact hx
 ·by_cases e:p=x
  ·subst e
   have hsk:(ie p).sameKey (ie p)=true:=by simp[Lit.sameKey,ie]
   simp[hhas,hsk]
  ·have hne:ie p≠ie x:=fun h1=>e (zv hp hx h1)
   have hsk:(ie p).sameKey (ie x)=false:=by
    cases hs:(ie p).sameKey (ie x) with
    | false=>rfl
    | true=>exact absurd (by simpa [Lit.sameKey,ie] using hs) hne
   simp[h.all p hp,e,hsk]
theorem Ij (n:Nat) (hn:1≤n) (l Bm b nn:Nat) (D0:DataW Unit) (J:List PP→World→Prop)
  (hY:∀pre x W,J pre W→pre.length<Maps.size D0→YieldAt Fence.wide (n - 1) Tryz.prog l #[pB x] W fun e W'=>e=.returned (.bool true)∧J (pre++[x]) W'∧KeepsWalks W W')
  (W:World) (hJ:AbidesFrom W.heap.size J) (hm:W.cell? ⟨Bm,0,none⟩=some (.map (some b))) (hown:W.ownsMap Tryz.prog 336 unitElem b nn D0) (hkeys:∀k,Maps.has D0 k=true→∃p,Ax p∧k=ie p) (h0:J [] W):
  CallsIn Fence.wide n Tryz.prog 334 #[.func (.yield l) #[] #[],.pointer (some ⟨Bm,0,none⟩)] W fun e W'=>(∃v,e=.returned v)∧∃ss:List PP,kM D0 (fun _=>false) ss∧J ss W':=by
 refine callsIn_of_wp Tryz.func334 rfl trivial ?_ rfl
 simp only[Tryz.ntmps334,List.size_toArray,List.length_cons,List.length_nil,Nat.reduceAdd,Nat.reduceSub,Array.replicate_succ,Array.replicate_zero,List.push_toArray,List.append_toArray,List.nil_append,List.cons_append]
 gi_wp2_with (first
  | (gi_at_range;refine wpListIn_range_own _ rfl _ 369 rfl 336 273 DJ Tryz.underlying369 _ b nn _ rfl hown ?_;intro w0 hrg0 hg0 hs0)
  | gi_in)
 go_frame
 gi_loopw [3] (fun _ wr=>∃(left:Lit→Bool) (cnt:Nat) (ss:List PP),wr.ranges Tryz.prog 336 unitElem b W.heap.size nn D0 left cnt∧ss.length+cnt≤Maps.size D0∧kM D0 left ss∧J ss wr)
  (fun _ wr=>wr.rangeLeft b W.heap.size)
 case atStart=>
  exact⟨_,_,[],hrg0,by simp,kM.start D0,hJ [] W w0 none h0 hg0 (fun r e=>by cases e)⟩
 case round=>
  obtain⟨left,cnt,ss,hrg,hcs,hC,hJs⟩:=hrel
  gi_wp2_with (first
   | (gi_at_next;refine wpListIn_next_ranges _ rfl _ rfl 336 DJ unitElem Value.agg id (fun key kl hk=>Ea hk) (fun v _ _=>⟨v,rfl⟩) b W.heap.size nn _ _ _ rfl hrg ?_ ?_)
   | gi_in)
  ·intro hc0 hl0
   gi_wp2
   go_end0
   exact⟨⟨_,rfl⟩,ss,⟨hC.lZ,hC.ok,fun p hp=>by rw[hC.all p hp,hl0]⟩,hJs⟩
  ·intro x c kl yd yp w2 cnt2 hkey hlk hv hat hrg2 hlt hg2 hs2 hen
   obtain⟨p,hp,rfl⟩:=hkeys kl (has_true_of_atKey hat)
   obtain rfl:x=#[.int .i64 p.1,.int .i64 p.2]:=by
    have h1:=DJ.inj hkey (FW hp)
    injection h1
   have hJ2:J ss w2:=hJ ss wr w2 (some W.heap.size) hJs hg2 (fun r e=>by cases e;exact⟨Nat.le_refl _,hrg.iter_walk⟩)
   have hJ3:J ss (w2.alloc (.cells #[.int .i64 p.1,.int .i64 p.2] 336)):=hJ ss w2 _ none hJ2 (World.grownBy_alloc w2 _ none) (fun r e=>by cases e)
   obtain⟨fn,tmps,assign,body,hy,hR⟩:=hY ss p _ hJ3 (by omega)
   unfold pB at hy
   clear hs2
   gi_wp2
   refine hR.mono ?_
   rintro e W3 ⟨rfl,hJ4,hk3⟩
   gi_wp2
   have hrg3:=hrg2.of_walks ((KeepsWalks.alloc w2 (.cells #[.int .i64 p.1,.int .i64 p.2] 336)).trans hk3)
   go_roundw
   case rel=>exact⟨_,cnt2,ss++[p],hrg3,by simp;omega,hC.step hp hlk hat,hJ4⟩
   case measure=>rw[hrg3.left_eq,hrg.left_eq];exact hlt
theorem zh (n:Nat) (hn:1≤n) (Bm b nn:Nat) (D0:DataW Unit) (w:World) (hBm:Bm<w.heap.size) (hm:w.cell? ⟨Bm,0,none⟩=some (.map (some b))) (hown:w.ownsMap Tryz.prog 336 unitElem b nn D0) (hkeys:∀k,Maps.has D0 k=true→∃p,Ax p∧k=ie p):
  SeqGives Fence.wide n Tryz.prog 334 #[.pointer (some ⟨Bm,0,none⟩)] pB (kM D0 (fun _=>false)) (Maps.size D0) w:=fun l J W hW hJ hY h0=>by
 have hown':W.ownsMap Tryz.prog 336 unitElem b nn D0:=by
  have hbl:=hown.lt
  obtain⟨es,clock,hb,Ft,hs,hD⟩:=hown
  exact⟨es,clock,(hW.block b hbl).trans hb,Ft,hs,hD⟩
 exact Ij n hn l Bm b nn D0 J hY W hJ ((hW.cell (p:=⟨Bm,0,none⟩) hBm).trans hm) hown' hkeys h0
theorem CS (mb:Option Nat) (W:World):Calls Tryz.prog 295 #[.map mb] W fun e w'=>e=.returned (.func (.func 334) #[] #[.pointer (some ⟨W.heap.size,0,none⟩)])∧w'=W.alloc (.cells #[.map mb] 369):=by
 go_enter Tryz.func295,Tryz.ntmps295
 go_wp2_with fail
 go_ret
 exact⟨rfl,rfl⟩
end
section
open Go.RowKit Go.Maps Go.Sort
def J4 {α:Type} (I:List α→World→Prop) (xs:List α) (W:World):Exit→Act→World→Prop
 | .normal,_,W'=>KeepsOthers W W'∧I xs W'
 | _,_,_=>False
theorem oy {F:Fence} {n:Nat} {P:Program} {α:Type} {g:Operand} {ps:Array Tmp} {assign body:Code} {Q:Exit→Act→World→Prop} {a:Act} {w:World} (hro:F.round=none) (h1:1≤n) {gf:Nat} {lb:Array Value} (hg:a.eval g=.func (.func gf) #[] lb) (hFg:F.fn gf) (eg:∀args w,(callFunc gf args).run P w=.ok (.enter gf args) w)
  {enc:α→Value} {S:List α→Prop} {N:Nat} {w0:World} (hseq:SeqGives F (n - 1) P gf lb enc S N w0) (hb0:Below w0.heap.size w0 w) (hps:ps.size=1) (I:List α→World→Prop) (hI:OwnFrom w.heap.size I) (h0:I [] w) (a₁:α→World→Act) (o₁:α→Obj)
  (hassign:∀(l:Nat) (x:α) (W:World) (K:Act→World→Prop),K (a₁ x W) (W.alloc (o₁ x))→assign.wpIn (F.inRound l) (n - 1 - 1) P (Exit.then K (fun _ _ _=>False)) {tmps:=(ps.zip #[enc x]).foldl (fun t (p,v)=>t.setIfInBounds p v) a.tmps,defers:=[]} W)
  (hbody:∀(l:Nat) (pre:List α) (x:α) (W V:World),I pre V→pre.length<N→w.heap.size≤W.heap.size→V.heap[W.heap.size]?=some (o₁ x)→body.wpIn (F.inRound l) (n - 1 - 1) P (J4 I (pre++[x]) V) (a₁ x W) V)
  (hdone:∀(D:Nat) (xs:List α) (W:World),w.heap.size≤D→S xs→I xs W→W.heap[D]?=some (.deferred (some []))→Q .normal {a with defers:={target:=.collected D,args:=#[]}::a.defers} W):
  (Code.rangeFunc g ps assign body).wpIn F n P Q a w:=by
 refine wpIn_rangeFunc ?_
 intro fn hfn
 rw[hro]
 obtain⟨rec,hrec⟩:∃rec:LoopState→Option Code→Loop,rec=fun st pe=>{state:=st,pending:=pe,fn,tmps:=a.tmps,params:=ps,assign,body,defers:=w.heap.size}:=⟨_,rfl⟩
 obtain⟨W1,hW1⟩:∃W1,(w.alloc (.deferred (some []))).alloc (.loop (rec .ready none))=W1:=⟨_,rfl⟩
 have hL1:W1.heap[w.heap.size+1]?=some (.loop (rec .ready none)):=by
  rw[←hW1]
  have h:=World.alloc_heap_new (w.alloc (.deferred (some []))) (.loop (rec .ready none))
  rwa [World.size_alloc] at h
 have hK1:W1.heap[w.heap.size]?=some (.deferred (some [])):=by
  rw[←hW1]
  exact(Below.heap_alloc _ _ _ (by simp)).trans (World.alloc_heap_new w _)
 have hI1:I [] W1:=by rw[←hW1];exact hI.alloc _ (hI.alloc _ h0)
 have hb1:Below w0.heap.size w0 W1:=by
  rw[←hW1]
  exact hb0.trans ((((Below.refl _ w).alloc (Nat.le_refl _) _).alloc (by simp) _).mono hb0.size)
 refine⟨w.heap.size+1,[{target:=.collected w.heap.size,args:=#[]}],W1,{target:=.fn (.func gf) lb,args:=#[.func (.yield (w.heap.size+1)) #[] #[]]},W1,gf,#[.func (.yield (w.heap.size+1)) #[] #[]]++lb,W1,?_,?_,?_,?_,fun _=>h1,?_⟩
 ·rw[←hW1,hrec];exact run_enterLoop_outer _ _ _ _ _
 ·simp only[resolve,hg]
  simp[go_sem]
 ·intro f' hf'
  simp[Target.leads] at hf'
  subst hf'
  exact hFg
 ·simp[invoke,go_sem,eg]
 ·have hs1:w.heap.size+2=W1.heap.size:=by rw[←hW1];simp
  refine(hseq (w.heap.size+1) (fun pre W=>I pre W∧W.heap[w.heap.size+1]?=some (.loop (rec .ready none))∧W.heap[w.heap.size]?=some (.deferred (some []))) W1 hb1
   (fun s A B row hs hg' hr=>⟨hI s A B row hs.1 hg' (fun r e=>by obtain⟨hB,o,ho,hw⟩:=hr r e;exact⟨by omega,o,ho,Obj.not_cells_of_walk hw⟩),(grownBy_keeps hg' (fun r e=>(hr r e).2) hs.2.1 rfl).trans hs.2.1,(grownBy_keeps hg' (fun r e=>(hr r e).2) hs.2.2 rfl).trans hs.2.2⟩) ?_ ⟨hI1,hL1,hK1⟩).mono ?_
  ·rintro pre x W ⟨hi,hl,hk⟩ hlen
   have hlt:w.heap.size+1<W.heap.size:=(Array.getElem?_eq_some_iff.1 hl).1
   have hy:=run_yield (P:=P) (args:=#[enc x]) hl (by rw[hrec];exact hps.symm)
   rw[hrec] at hy
   have hlA:(W.alloc (o₁ x)).heap[w.heap.size+1]?=some (.loop (rec .ready none)):=(Below.heap_alloc _ _ _ hlt).trans hl
   have hkA:(W.alloc (o₁ x)).heap[w.heap.size]?=some (.deferred (some [])):=(Below.heap_alloc _ _ _ (by omega)).trans hk
   have hnA:(W.alloc (o₁ x)).heap[W.heap.size]?=some (o₁ x):=World.alloc_heap_new W _
   have hiA:=hI.alloc (o₁ x) hi
   have hltA:w.heap.size+1<(W.alloc (o₁ x)).heap.size:=by rw[World.size_alloc];omega
   refine⟨fn,_,assign,body,hy,roundIn_of_wpIn hfn (hassign _ x W _ ⟨_,run_beginRound hlA (by rw[hrec]),?_⟩)⟩
   obtain⟨V,hV⟩:∃V,(W.alloc (o₁ x)).putObj (w.heap.size+1) (.loop {rec .ready none with state:=.busy})=V:=⟨_,rfl⟩
   have hl2:V.heap[w.heap.size+1]?=some (.loop {rec .ready none with state:=.busy}):=by rw[←hV];exact World.putObj_heap_same hltA
   have hk2:V.heap[w.heap.size]?=some (.deferred (some [])):=by rw[←hV];exact(World.putObj_heap_other (by omega)).trans hkA
   have hn2:V.heap[W.heap.size]?=some (o₁ x):=by rw[←hV];exact(World.putObj_heap_other (by omega)).trans hnA
   have hi2:I pre V:=by rw[←hV];exact hI.putObj _ hiA (by omega) hlA rfl
   have hkw:KeepsWalks W V:=(KeepsWalks.alloc W (o₁ x)).trans (by rw[←hV];exact KeepsWalks.putObj _ hlA rfl)
   rw[hV]
   refine wpIn_mono (hbody _ pre x W V hi2 hlen (by omega) hn2) ?_
   rintro e a3 W3 hp
   cases e with
   | normal=>
    obtain⟨hk3,hi3⟩:=hp
    have hl3:=hk3.same _ _ hl2 rfl
    have hr:=run_endRound (P:=P) none hl3
    have hl4:=World.putObj_heap_same (w:=W3) (o:=.loop (rec .ready none)) (Array.getElem?_eq_some_iff.1 hl3).1
    rw[hrec] at hr hl4⊢
    refine⟨_,_,hr,rfl,⟨hI.putObj _ hi3 (by omega) hl3 rfl,hl4,(World.putObj_heap_other (by omega)).trans (hk3.same _ _ hk2 rfl)⟩,(hkw.trans hk3.walks).trans (KeepsWalks.putObj _ hl3 rfl)⟩
   | ret=>exact hp.elim
   | exit id=>exact hp.elim
   | goto t=>exact hp.elim
   | panic ch=>exact hp.elim
   | outgrown=>exact hp.elim
  ·rintro e W2 ⟨⟨v,rfl⟩,xs,hS,hi,hl,hk⟩
   exact⟨none,_,by have h:=run_endLoop (P:=P) hl (by rw[hrec];simp);rw[hrec] at h;exact h,hdone _ xs _ (Nat.le_refl _) hS (hI.putObj _ hi (by omega) hl rfl) ((World.putObj_heap_other (by omega)).trans hk)⟩
def fP (p:PP):List Value:=[.int .i64 p.1,.int .i64 p.2]
theorem Tryz.Je:(Tryz.prog.info? 336).map (fun i=>(i.zero,i.size,i.bytes))=some (some (.agg #[.int .i64 0,.int .i64 0]),2,16):=by kernel_rfl
def Lg (w0:World) (Bs:Nat) (ss:List PP) (W:World):Prop:=(∃v,Boxed W Bs 332 v∧W.ownsRow w0.heap.size 336 2 v ss.length (ss.flatMap fP)∧True)∧Below w0.heap.size w0 W
end
section
open Go.RowKit Go.Maps Go.Sort
theorem FT (p:PP):∀u∈fP p,u.oneCell'=true:=by
 intro u hu
 simp[fP] at hu
 rcases hu with rfl|rfl<;>rfl
theorem Gs (w0:World) (Bs B:Nat) (hB:w0.heap.size≤B):OwnFrom B (Lg w0 Bs):=fun s W W' row h hg hr=>
 ⟨holdsRow_own w0.heap.size Bs 332 336 2 (fun s:List PP=>s.length) (fun s=>s.flatMap fP) (fun _ _=>True) s W W' row h.1 hg (fun r e=>(hr r e).2),h.2.grown hg h.2.size (fun j e=>Nat.le_trans hB (hr j e).1)⟩
theorem GN {n:Nat} (hn:2≤n) {g:Nat} {lb:Array Value} (eg:∀args w,(callFunc g args).run Tryz.prog w=.ok (.enter g args) w) {S:List PP→Prop} {N:Nat} (hN:N≤1000000) {w:World} (hseq:SeqGives Fence.wide (n - 1) Tryz.prog g lb pB S N w):
  CallsIn Fence.wide n Tryz.prog 355 #[.slice none 0 0,.func (.func g) #[] lb] w fun e w'=>∃(v:Value) (ss:List PP),e=.returned v∧S ss∧w'.ownsRow w.heap.size 336 2 v ss.length (ss.flatMap fP)∧Below w.heap.size w w':=by
 obtain⟨i0,hi,hz0,hz1,hz2⟩:=info_parts Tryz.Je
 refine callsIn_of_wp_marks Tryz.func355 rfl trivial ?_ rfl
 simp only[Tryz.ntmps355,List.size_toArray,List.length_cons,List.length_nil,Nat.reduceAdd,Nat.reduceSub,Array.replicate_succ,Array.replicate_zero,List.push_toArray,List.append_toArray,List.nil_append,List.cons_append]
 gi_wp2
 have hb0:Below w.heap.size w (w.alloc (.cells #[.slice none 0 0] 332)):=(Below.refl _ w).alloc (Nat.le_refl _) _
 refine oy (α:=PP) (enc:=pB) rfl (by omega) rfl trivial eg (hseq.later hb0) (Below.refl _ _) rfl (Lg w w.heap.size) (Gs w w.heap.size _ hb0.size) ⟨⟨_,Boxed.new w _ _,World.ownsRow_nil _ _ _ _,trivial⟩,hb0⟩ (fun x W=>{tmps:=#[.slice none 0 0,.func (.func g) #[] lb,.pointer (some ⟨w.heap.size,0,none⟩),undef,.slice none 0 0,.pointer (some ⟨W.heap.size,0,none⟩),.func (.func g) #[] lb,.agg #[.int .i64 x.1,.int .i64 x.2],undef,undef,undef,undef,undef],defers:=[]}) (fun x=>.cells #[.int .i64 x.1,.int .i64 x.2] 336) ?hassign ?hbody ?hdone
 case hassign=>
  intro l x W K hK
  unfold pB
  gi_wp2_with (rw[Oper.semAt_eq _ _ _ (fun c h=>by cases h)];go_simp;try go_bits)
  exact hK
 case hbody=>
  intro l pre x W V hi hlen hWl hV
  obtain⟨⟨v,hbox,hrow,_⟩,hbl⟩:=hi
  have hl:Loc V W.heap.size #[.int .i64 x.1,.int .i64 x.2] 336:=hV
  have c0:V.cell? ⟨W.heap.size,0,none⟩=some (.int .i64 x.1):=(hl.cell 0).trans rfl
  have c1:V.cell? ⟨W.heap.size,1,none⟩=some (.int .i64 x.2):=(hl.cell 1).trans rfl
  have cb:=hbox.cell
  have hrb:=hrow.alloc (.cells #[.int .i64 x.1,.int .i64 x.2] 336)
  gi_wp2_with (first
   | (gi_at_builtin;refine wpListIn_append_own _ rfl _ _ 332 rfl w.heap.size 336 i0 (.agg #[.int .i64 0,.int .i64 0]) 2 16 Tryz.underlying332 hi hz0 hz1 hz2 rfl (by decide) v _ _ rfl hrb ⟨V.heap.size,0,none⟩ 1 1 (fP x) rfl rfl (World.news_of_block (heap_alloc_new V _)) (FT x) (by unfold maxLen;omega) (by omega) (by have:=hbl.size;simp;omega) ?_;intro v' w3 hown' hg3 hnil3;obtain⟨g2,cap2,rfl⟩:=ownsRow_succ hown';have happ:=hbox.appended (by decide) hrow hbl.size (Nat.le_refl _) hown' hg3;have cb3:=happ.1.cell;have fb3:=happ.1.frozen)
   | (rw[Oper.semAt_eq _ _ _ (fun c h=>by cases h)];go_simp;try go_bits))
  refine⟨happ.2.2.2.1,⟨_,happ.2.1,?_,trivial⟩,hbl.trans happ.2.2.2.2⟩
  have e1:(pre++[x]).length=pre.length+1:=by simp
  have e2:(pre++[x]).flatMap fP=pre.flatMap fP++fP x:=by simp
  rw[e1,e2]
  exact happ.2.2.1
 case hdone=>
  intro D xs W hD hS hi hK
  obtain⟨⟨v,hbox,hrow,_⟩,hbl⟩:=hi
  have cb:=hbox.cell
  gi_wp2
  refine⟨by simp,.inl ⟨_,_,rfl,run_takeDeferred hK,?_⟩⟩
  have hD':w.heap.size≤D:=by rw[World.size_alloc] at hD;omega
  exact⟨_,results_tmp rfl _ _ _,v,xs,rfl,hS,ownsRow_putObj hrow _ hK rfl,hbl.grown (grownBy_putObj' W D _) hbl.size (fun j e=>by cases e;exact hD')⟩
theorem DM {n:Nat} (hn:3≤n) {g:Nat} {lb:Array Value} (eg:∀args w,(callFunc g args).run Tryz.prog w=.ok (.enter g args) w) {S:List PP→Prop} {N:Nat} (hN:N≤1000000) {w:World} (hseq:SeqGives Fence.wide (n - 1 - 1) Tryz.prog g lb pB S N w):
  CallsIn Fence.wide n Tryz.prog 332 #[.func (.func g) #[] lb] w fun e w'=>∃(v:Value) (ss:List PP),e=.returned v∧S ss∧w'.ownsRow w.heap.size 336 2 v ss.length (ss.flatMap fP)∧Below w.heap.size w w':=by
 have h1:1≤n:=by omega
 have ha:=GN (n:=n - 1) (by omega) eg hN hseq
 refine callsIn_of_wp Tryz.func332 rfl trivial ?_ rfl
 simp only[Tryz.ntmps332,List.size_toArray,List.length_cons,List.length_nil,Nat.reduceAdd,Nat.reduceSub,Array.replicate_succ,Array.replicate_zero,List.push_toArray,List.append_toArray,List.nil_append,List.cons_append]
 gi_wp2
 refine⟨trivial,ha.mono ?_⟩
 rintro e w' ⟨v,ss,rfl,hS,hrow,hb⟩
 gi_wp2
 go_ret
 exact⟨v,ss,rfl,hS,hrow,hb⟩
theorem GH {b M nn:Nat} {D0:DataW Unit} {w:World} (hown:w.ownsMap Tryz.prog 336 unitElem M nn D0) (hkeys:∀k,Maps.has D0 k=true→∃p,Ax p∧k=ie p) (hb:b<w.heap.size) (hm:w.cell? ⟨b,0,none⟩=some (.map (some M))) (hn:nn≤1000000):
  Calls Tryz.prog 332 #[.func (.func 334) #[] #[.pointer (some ⟨b,0,none⟩)]] w fun e w'=>∃(v:Value) (ss:List PP),e=.returned v∧kM D0 (fun _=>false) ss∧w'.ownsRow w.heap.size 336 2 v ss.length (ss.flatMap fP)∧Below w.heap.size w w':=by
 have hsz:=hown.size_le
 refine(callsIn_wide (n:=6)).1 ?_
 exact DM (by omega) (enters_of Tryz.func334 (by kernel_rfl) rfl) (by omega) (zh 4 (by omega) b M nn D0 w hb hm hown hkeys)
end
section
open Go.RowKit Go.Maps Go.Sort
theorem dW {P:Program} {w:World} {ops:Array Oper} {o:Oper} {a:Act} {K:Act→World→Prop} {Q:Exit→Act→World→Prop} {E:Prop} (hgd:o.guard=none) (f:FuncId) (xs:Array Operand) (ts:Array TypeId)
  (hcf:∀args w',(callFunc f args).run P w'=.ok (.enter f args) w') (ho:o.op=.call {callee:=.value (.func f),args:=xs,argTypes:=ts}) (vs:Array Value) (hx:xs.map a.eval=vs) {Post:Ending→World→Prop}
  (hc:Calls P f vs w Post) (h:∀e w',Post e w'→∃r,e=.returned r∧K (a.put o.dst r) w'):if Region.wanted o (yielded ops a.tmps)=true then Oper.wp P o a w K Q else E:=by
 have hw:Region.wanted o (yielded ops a.tmps)=true:=by simp[Region.wanted,hgd]
 rw[if_pos hw]
 unfold Oper.wp execOp
 simp only[ho]
 have e:a.eval (Operand.func f)=.func (.func f) #[] #[]:=rfl
 simp[resolve,invoke,hx,e,Deferred.ofValue,hcf]
 rw[Oper.upon_enter]
 refine hc.mono ?_
 intro e w' hp
 obtain⟨r,rfl,hk⟩:=h e w' hp
 exact hk
theorem Fz {n:Int} (h:(Lit.int .i64 n).wf=true):ux n:=by
 simp[Lit.wf,IntKind.min,IntKind.max,IntKind.bits,IntKind.signed] at h
 unfold ux
 omega
theorem jH {W W3 w:World} {ub:Nat→Prop} (hb:Below W.heap.size W W3) (hu:∀k,ub k→W.heap.size≤k) (hk:Kept (fun k=>¬Hk W3 ub k) W3 w):Below W.heap.size W w:=
 ⟨hk.os.trans hb.os,hk.tape.trans hb.tape,hk.output.trans hb.output,Nat.le_trans hb.size hk.size,fun k hkl=>(hk.block k (Nat.lt_of_lt_of_le hkl hb.size) (fun e=>e ⟨Nat.lt_of_lt_of_le hkl hb.size,fun hu'=>by have:=hu k hu';omega⟩)).trans (hb.block k hkl)⟩
theorem iz {W W3 w:World} {ub:Nat→Prop} (hb:Below W.heap.size W W3) (hu:∀k,ub k→W.heap.size≤k) (hk:Kept ub W3 w):Below W.heap.size W w:=
 ⟨hk.os.trans hb.os,hk.tape.trans hb.tape,hk.output.trans hb.output,Nat.le_trans hb.size hk.size,fun k hkl=>(hk.block k (Nat.lt_of_lt_of_le hkl hb.size) (fun e=>by have:=hu k e;omega)).trans (hb.block k hkl)⟩
theorem nB {W W3:World} {ub:Nat→Prop} {gb go m:Nat} {ns:List aq} {es:List aJ} (h:et gb go ns es m W) (hb:Below W.heap.size W W3) (hu:∀k,ub k→W.heap.size≤k):kS (fun k=>¬Hk W3 ub k) gb go ns es m W3:=by
 intro w hk
 have hb':=jH hb hu hk
 obtain⟨_,_,c1,_⟩:=h.cn
 obtain⟨_,_,c2,_⟩:=h.ce
 exact⟨h.below hb',(hb'.cell (block_lt_of_cell c1)).trans (hb.cell (block_lt_of_cell c1)).symm,(hb'.cell (block_lt_of_cell c2)).trans (hb.cell (block_lt_of_cell c2)).symm⟩
def BM (f:Row):Prop:=∀s:ByteArray,s.size≤maxLen→(Lit.int .i64 ((f s).getD 0)).wf=true
def sW (UInv:(Nat→Prop)→List Row→World→Prop) (ub:Nat→Prop) (rows:List Row) (W:World):Prop:=UInv ub rows W∧∀f∈rows,BM f
theorem wY {UInv:(Nat→Prop)→List Row→World→Prop} (h:oX UInv):oX (sW UInv):=
 ⟨fun ub rows W w h0 hs he=>⟨h.KU ub rows W w h0.1 hs he,h0.2⟩,fun ub rows W h0=>h.low ub rows W h0.1⟩
theorem vT {UInv:(Nat→Prop)→List Row→World→Prop} {Fx:Nat→Prop} {W0:World} {B:Nat} {u:FuncId} {caps:Array Value} (h:yW UInv Fx W0 B u caps):yW (sW UInv) Fx W0 B u caps:=by
 intro W ub rows f mb hui hp hnb hk hr
 refine(h W ub rows f mb hui.1 hp hnb hk hr).mono ?_
 rintro e W' ⟨rfl,ub',hu',hk',hs⟩
 refine⟨rfl,ub',⟨hu',fun g hg=>?_⟩,hk',hs⟩
 rcases List.mem_append.1 hg with hg|hg
 ·exact hui.2 g hg
 ·rw[List.mem_singleton.1 hg]
  exact fun s hs=>hp.wf hs
theorem sE {gb go m:Nat} {ns:List aq} {es:List aJ} {W:World} (h:et gb go ns es m W) {n:Int} {k:ByteArray} (hk:k.size≤maxLen):KP (valueOf ns n k):=by
 intro a ha
 unfold valueOf at ha
 cases hn:nodeAt ns n with
 | none=>rw[hn] at ha;cases ha
 | some x=>
  rw[hn] at ha
  have hx:x∈ns:=List.mem_of_find?_eq_some hn
  have h1:=(h.aW x hx).wf hk
  have ha':x.aW k=some a:=ha
  rw[ha'] at h1
  exact Fz h1
theorem Cv {gb go m:Nat} {ns:List aq} {es:List aJ} {W:World} {items:List bi} {f:Row} (h:et gb go ns es m W) (hf:BM f) (hi:∀x∈items,x.name.size≤maxLen∧x.key.size≤maxLen):sj (fi ns items f):=by
 refine⟨by simp[fi],fun v hv=>?_⟩
 unfold fi at hv
 obtain⟨i,_,rfl⟩:=List.mem_map.1 hv
 cases hx:items[i]? with
 | none=>intro n hn;cases hn
 | some x=>
  have hm:=hi x (List.mem_of_getElem? hx)
  simp only[Option.elim]
  unfold gW
  split
  ·intro n hn;cases hn
  ·split
   ·intro n hn
    injection hn with hn
    rw[←hn]
    exact Fz (hf _ hm.1)
   ·exact sE h hm.2
theorem Bd {items:List bi} {l:bK} {n:Int} (hl:sj l) (hn:ux n):sj (ir items l n):=by
 refine⟨by simp[ir],fun v hv=>?_⟩
 unfold ir at hv
 obtain⟨i,hi,rfl⟩:=List.mem_map.1 hv
 split
 ·intro k hk
  injection hk with hk
  rw[←hk]
  exact hn
 ·have h6:i<l.length:=by have:=hl.1;have:=List.mem_range.1 hi;omega
  unfold gV
  rw[List.getElem?_eq_getElem h6]
  exact hl.2 _ (List.getElem_mem h6)
theorem Iv {items:List bi} {ls:List bK} (h:∀l∈ls,sj l) (hn:ls.length≤1000000):∀l∈lJ items ls,sj l:=by
 intro l hl
 unfold lJ at hl
 split at hl
 ·obtain⟨k,hk,rfl⟩:=List.mem_map.1 hl
  have hk':=uK.1 hk
  have hb:=mR items ls (dJ items) 0 (fun l=>by rw[pG];simp) k
  refine Bd ?_ ⟨by omega,by omega⟩
  rcases (nl ls (dJ items) k).1 hk' with h1|h1
  ·unfold dJ at h1
   split at h1
   ·cases h1
   ·unfold ow at h1
    split at h1
    ·rename_i e
     rw[e]
     exact su
    ·cases h1
  ·exact h k h1
 ·exact h l hl
theorem keys_perm {items:List bi} {ls ks:List bK} (hn:ks.Nodup) (hm:∀l,l∈ks↔(dC (dJ items) ls l).isSome=true):ks.Perm (tD items ls):=
 (List.perm_ext_iff_of_nodup hn (kf _)).2 fun l=>(hm l).trans uK.symm
theorem CB (items:List bi) (ls:List bK):(tD items ls).length≤ls.length+1:=by
 have h:∀(l:List bK),(lZ l).length≤l.length:=by
  intro l
  induction l with
  | nil=>exact Nat.le_refl _
  | cons a r ih=>
   unfold lZ
   split
   ·simp only[List.length_cons];omega
   ·simp only[List.length_cons];omega
 have h1:=h ((if items.any (fun x=>!(jl x)) then [] else [fc])++ls)
 unfold tD
 rw[List.length_append] at h1
 split at h1
 ·rename_i h2;rw[if_pos h2];simp only[List.length_nil] at h1;omega
 ·rename_i h2;rw[if_neg h2];simp only[List.length_singleton] at h1;omega
theorem Fc (items:List bi) (ls:List bK):(lJ items ls).length≤ls.length+1:=by
 unfold lJ
 split
 ·rw[List.length_map];exact CB items ls
 ·omega
structure I8 (q:au):Prop where
 rF:1≤q.items.length∧q.items.length≤6
 small:∀x∈q.items,x.name.size≤maxLen∧x.key.size≤maxLen
 order:0≤q.order∧q.order≤6
 skip:0≤q.skip∧q.skip≤1000000000
 bR:-1≤q.bR∧q.bR≤1000000000
structure Lb (W:World) (L Q:Nat) (qc:Array Value) (told:List bK) (w:World):Prop where
 st:∃ao cp,∃ls:List bK,Loc w L #[.slice ao ls.length cp] 205∧w.ownsRow 0 210 12 (.slice ao ls.length cp) ls.length (ls.flatMap fo)∧ls.Perm told∧∀b,(Value.slice ao ls.length cp).ownBlock=some b→W.heap.size≤b
 q:Loc w Q qc 29
 b:Below W.heap.size W w
end
end Go.Proofs.YtobgbmfpicmpcaaGreatDoor
namespace Go.Proofs
open Go.Shelf
def Tryz.sortPair_ren : Go.Shelf.Ren := ⟨fun | 6 => 333 | 15 => 192 | 14 => 356 | 28 => 252 | 29 => 253 | 20 => 367 | 21 => 368 | 22 => 369 | 23 => 370 | 24 => 371 | 25 => 372 | 26 => 373 | 27 => 374 | 46 => 388 | 47 => 288 | 48 => 289 | 49 => 389 | 50 => 390 | 57 => 394 | n => n, fun | 22 => 332 | 24 => 336 | 25 => 374 | 3 => 3 | 39 => 204 | 0 => 0 | 53 => 327 | 55 => 278 | 4 => 4 | 46 => 321 | 45 => 320 | 50 => 154 | 5 => 5 | 9 => 9 | 66 => 363 | 70 => 367 | 76 => 395 | 77 => 396 | n => n, fun | n => n⟩
theorem Tryz.sortPair : Go.Proofs.SlLaysF0.n6 Tryz.prog Tryz.sortPair_ren := {
  mixed := by kernel_rfl
  f6 := ⟨Tryz.f333.name, by decide, Tryz.func333.trans (congrArg some (by kernel_rfl))⟩
  f14 := ⟨Tryz.f356.name, by decide, Tryz.func356.trans (congrArg some (by kernel_rfl))⟩
  f15 := Tryz.func192.trans (congrArg some (by kernel_rfl))
  f20 := ⟨Tryz.f367.name, by decide, Tryz.func367.trans (congrArg some (by kernel_rfl))⟩
  f21 := ⟨Tryz.f368.name, by decide, Tryz.func368.trans (congrArg some (by kernel_rfl))⟩
  f22 := ⟨Tryz.f369.name, by decide, Tryz.func369.trans (congrArg some (by kernel_rfl))⟩
  f23 := ⟨Tryz.f370.name, by decide, Tryz.func370.trans (congrArg some (by kernel_rfl))⟩
  f24 := ⟨Tryz.f371.name, by decide, Tryz.func371.trans (congrArg some (by kernel_rfl))⟩
  f25 := ⟨Tryz.f372.name, by decide, Tryz.func372.trans (congrArg some (by kernel_rfl))⟩
  f26 := ⟨Tryz.f373.name, by decide, Tryz.func373.trans (congrArg some (by kernel_rfl))⟩
  f27 := ⟨Tryz.f374.name, by decide, Tryz.func374.trans (congrArg some (by kernel_rfl))⟩
  f28 := Tryz.func252.trans (congrArg some (by kernel_rfl))
  f29 := Tryz.func253.trans (congrArg some (by kernel_rfl))
  f46 := ⟨Tryz.f388.name, by decide, Tryz.func388.trans (congrArg some (by kernel_rfl))⟩
  f47 := Tryz.func288.trans (congrArg some (by kernel_rfl))
  f48 := Tryz.func289.trans (congrArg some (by kernel_rfl))
  f49 := ⟨Tryz.f389.name, by decide, Tryz.func389.trans (congrArg some (by kernel_rfl))⟩
  f50 := ⟨Tryz.f390.name, by decide, Tryz.func390.trans (congrArg some (by kernel_rfl))⟩
  f57 := ⟨Tryz.f394.name, by decide, Tryz.func394.trans (congrArg some (by kernel_rfl))⟩
  t0 := Tryz.underlying0
  a0 := Tryz.isAgg0
  z0 := Tryz.sizeOf0
  v0 := Tryz.zeroValue0
  t3 := Tryz.underlying3
  a3 := Tryz.isAgg3
  z3 := Tryz.sizeOf3
  v3 := Tryz.zeroValue3
  t4 := Tryz.underlying4
  a4 := Tryz.isAgg4
  z4 := Tryz.sizeOf4
  v4 := Tryz.zeroValue4
  t5 := Tryz.underlying5
  a5 := Tryz.isAgg5
  z5 := Tryz.sizeOf5
  v5 := Tryz.zeroValue5
  t9 := Tryz.underlying9
  a9 := Tryz.isAgg9
  z9 := Tryz.sizeOf9
  v9 := Tryz.zeroValue9
  t22 := Tryz.underlying332
  a22 := Tryz.isAgg332
  z22 := Tryz.sizeOf332
  v22 := Tryz.zeroValue332
  t25 := Tryz.underlying374
  a25 := Tryz.isAgg374
  z25 := Tryz.sizeOf374
  v25 := Tryz.zeroValue374
  t39 := Tryz.underlying204
  a39 := Tryz.isAgg204
  z39 := Tryz.sizeOf204
  v39 := Tryz.zeroValue204
  t45 := Tryz.underlying320
  a45 := Tryz.isAgg320
  z45 := Tryz.sizeOf320
  v45 := Tryz.zeroValue320
  t46 := Tryz.underlying321
  a46 := Tryz.isAgg321
  z46 := Tryz.sizeOf321
  v46 := Tryz.zeroValue321
  t50 := Tryz.underlying154
  a50 := Tryz.isAgg154
  z50 := Tryz.sizeOf154
  v50 := Tryz.zeroValue154
  t53 := Tryz.underlying327
  a53 := Tryz.isAgg327
  z53 := Tryz.sizeOf327
  v53 := Tryz.zeroValue327
  t55 := Tryz.underlying278
  a55 := Tryz.isAgg278
  z55 := Tryz.sizeOf278
  v55 := Tryz.zeroValue278
  t66 := Tryz.underlying363
  a66 := Tryz.isAgg363
  z66 := Tryz.sizeOf363
  v66 := Tryz.zeroValue363
  t70 := Tryz.underlying367
  a70 := Tryz.isAgg367
  z70 := Tryz.sizeOf367
  v70 := Tryz.zeroValue367
  t76 := Tryz.underlying395
  a76 := Tryz.isAgg395
  z76 := Tryz.sizeOf395
  v76 := Tryz.zeroValue395
  t77 := Tryz.underlying396
  a77 := Tryz.isAgg396
  z77 := Tryz.sizeOf396
  v77 := Tryz.zeroValue396 }
end Go.Proofs
namespace Go.Proofs.YtobgbmfpicmpcaaGreatDoor
open Go.Lib (hid)
section
open Go.RowKit Go.Maps Go.Sort
def KR (x y:Int):Int:=if x=0 then y else x
theorem Lh {W:World} {b:Nat} {x y:Int} (h0:W.cell? ⟨b,0,none⟩=some (.int .i64 x)) (h1:W.cell? ⟨b,1,none⟩=some (.int .i64 y)):Calls Tryz.prog 335 #[.slice (some ⟨b,0,none⟩) 2 2] W fun e W'=>e=.returned (.int .i64 (KR x y))∧W'=W:=by
 go_enter Tryz.func335,Tryz.ntmps335
 go_wp2_with fail
 go_loopg [8] 2 (fun c iv w=>∃k:Nat,iv=.int .i64 (k:Int)∧k+c=2∧(0<k→x=0)∧(1<k→y=0)∧w=W)
 case atStart=>exact⟨0,rfl,by omega,fun h=>absurd h (by omega),fun h=>absurd h (by omega),rfl⟩
 case round=>
  obtain⟨k,rfl,hk,hx,hy,rfl⟩:=hrel
  rcases (by omega:k=0∨k=1∨k=2) with rfl|rfl|rfl
  ·by_cases hz:x=0
   ·have hzb:(x==0)=true:=by simpa using hz
    subst hz
    go_wp2_with fail
    go_roundg (gk - 1)
    case rel=>exact⟨1,by simp,by omega,by simp,fun h=>absurd h (by omega),rfl⟩
    case measure=>omega
   ·go_wp2_with fail
    all_goals
     go_ret
     refine⟨?_,rfl⟩
     unfold KR
     rw[if_neg hz]
     rfl
  ·have hx0:=hx (by omega)
   subst hx0
   by_cases hz:y=0
   ·subst hz
    go_wp2_with fail
    go_roundg (gk - 1)
    case rel=>exact⟨2,by simp,by omega,by simp,by simp,rfl⟩
    case measure=>omega
   ·go_wp2_with fail
    all_goals
     go_ret
     exact⟨rfl,rfl⟩
  ·have hx0:=hx (by omega)
   have hy0:=hy (by omega)
   subst hx0 hy0
   go_wp2_with fail
   go_ret
   exact⟨rfl,rfl⟩
theorem Tryz.xj (args:Array Value) (w:World):(callFunc 254 args).run Tryz.prog w=.ok (.enter 254 args) w:=by go_simp
theorem Tryz.Ir (args:Array Value) (w:World):(callFunc 335 args).run Tryz.prog w=.ok (.enter 335 args) w:=by go_simp
def mV (a b:PP):Int:=KR (Lib.compareInt a.1 b.1) (Lib.compareInt a.2 b.2)
theorem Cy (a b:PP) (W:World):Calls Tryz.prog 296 #[.agg #[.int .i64 a.1,.int .i64 a.2],.agg #[.int .i64 b.1,.int .i64 b.2]] W fun e W'=>e=.returned (.int .i64 (mV a b))∧Grown W W':=by
 obtain⟨a1,a2⟩:=a
 obtain⟨b1,b2⟩:=b
 simp only
 have HX:=hid ((Loc.new W #[.int .i64 a1,.int .i64 a2] 336).alloc (.cells #[.int .i64 b1,.int .i64 b2] 336))
 have HY:=hid (Loc.new (W.alloc (.cells #[.int .i64 a1,.int .i64 a2] 336)) #[.int .i64 b1,.int .i64 b2] 336)
 go_enter Tryz.func296,Tryz.ntmps296
 go_upto_region 1 with fail
 rw[World.size_alloc] at HY
 have x0:((W.alloc (.cells #[.int .i64 a1,.int .i64 a2] 336)).alloc (.cells #[.int .i64 b1,.int .i64 b2] 336)).cell? ⟨W.heap.size,0,none⟩=some (.int .i64 a1):=(HX.out.cell 0).trans rfl
 have x1:((W.alloc (.cells #[.int .i64 a1,.int .i64 a2] 336)).alloc (.cells #[.int .i64 b1,.int .i64 b2] 336)).cell? ⟨W.heap.size,1,none⟩=some (.int .i64 a2):=(HX.out.cell 1).trans rfl
 have y0:((W.alloc (.cells #[.int .i64 a1,.int .i64 a2] 336)).alloc (.cells #[.int .i64 b1,.int .i64 b2] 336)).cell? ⟨W.heap.size+1,0,none⟩=some (.int .i64 b1):=(HY.out.cell 0).trans rfl
 have y1:((W.alloc (.cells #[.int .i64 a1,.int .i64 a2] 336)).alloc (.cells #[.int .i64 b1,.int .i64 b2] 336)).cell? ⟨W.heap.size+1,1,none⟩=some (.int .i64 b2):=(HY.out.cell 1).trans rfl
 generalize hW2:(W.alloc (.cells #[.int .i64 a1,.int .i64 a2] 336)).alloc (.cells #[.int .i64 b1,.int .i64 b2] 336)=W2 at x0 x1 y0 y1⊢
 have HW2:=hid hW2
 clear hW2 HX HY
 have n0:(W2.alloc (.cells #[.int .i64 (Lib.compareInt a1 b1),.int .i64 (Lib.compareInt a2 b2)] 3)).drew.cell? ⟨W2.heap.size,0,none⟩=some (.int .i64 (Lib.compareInt a1 b1)):=((Loc.new W2 #[.int .i64 (Lib.compareInt a1 b1),.int .i64 (Lib.compareInt a2 b2)] 3).cell 0).trans rfl
 have n1:(W2.alloc (.cells #[.int .i64 (Lib.compareInt a1 b1),.int .i64 (Lib.compareInt a2 b2)] 3)).drew.cell? ⟨W2.heap.size,1,none⟩=some (.int .i64 (Lib.compareInt a2 b2)):=((Loc.new W2 #[.int .i64 (Lib.compareInt a1 b1),.int .i64 (Lib.compareInt a2 b2)] 3).cell 1).trans rfl
 have HN:=hid (And.intro n0 n1)
 clear n0 n1
 have HS:Hid ((W2.alloc (.cells #[.int .i64 (Lib.compareInt a1 b1),.int .i64 (Lib.compareInt a2 b2)] 3)).drew.cell? ⟨W.heap.size,0,none⟩=some (.int .i64 a1)∧(W2.alloc (.cells #[.int .i64 (Lib.compareInt a1 b1),.int .i64 (Lib.compareInt a2 b2)] 3)).drew.cell? ⟨W.heap.size,1,none⟩=some (.int .i64 a2)∧(W2.alloc (.cells #[.int .i64 (Lib.compareInt a1 b1),.int .i64 (Lib.compareInt a2 b2)] 3)).drew.cell? ⟨W.heap.size+1,0,none⟩=some (.int .i64 b1)∧(W2.alloc (.cells #[.int .i64 (Lib.compareInt a1 b1),.int .i64 (Lib.compareInt a2 b2)] 3)).drew.cell? ⟨W.heap.size+1,1,none⟩=some (.int .i64 b2)):=hid ⟨((Below.refl _ W2).alloc (Nat.le_refl _) _).cell (block_lt_of_cell x0) |>.trans x0,((Below.refl _ W2).alloc (Nat.le_refl _) _).cell (block_lt_of_cell x1) |>.trans x1,((Below.refl _ W2).alloc (Nat.le_refl _) _).cell (block_lt_of_cell y0) |>.trans y0,((Below.refl _ W2).alloc (Nat.le_refl _) _).cell (block_lt_of_cell y1) |>.trans y1⟩
 refine wp_region_noPanic ?_
 refine wp_region_held_drew (S:=fun w'=>w'.cell? ⟨W.heap.size,0,none⟩=some (.int .i64 a1)∧w'.cell? ⟨W.heap.size,1,none⟩=some (.int .i64 a2)∧w'.cell? ⟨W.heap.size+1,0,none⟩=some (.int .i64 b1)∧w'.cell? ⟨W.heap.size+1,1,none⟩=some (.int .i64 b2)) (by kernel_rfl) ⟨x0,x1,y0,y1⟩ (fun hHeld0=>?_)
 refine wpAnyH_take (i:=0) (v:=?v1) rfl (by kernel_rfl) (by kernel_rfl) (by kernel_rfl) (fun _ _ _ h=>h) (Or.inl ⟨by rfl,?y1⟩) hHeld0 ?r1
 case y1=>(intro w hSw;obtain⟨hc1,hc2,hc3,hc4⟩:=hSw;go_simp;(try with_reducible rfl))
 simp only[Act.put,List.getElem_toArray,List.getElem_cons_zero]
 refine wpAnyH_take (i:=1) (v:=?v2) rfl (by kernel_rfl) (by kernel_rfl) (by kernel_rfl) (fun _ _ _ h=>h) (Or.inl ⟨by rfl,?y2⟩) hHeld0 ?r2
 case y2=>(intro w hSw;obtain⟨hc1,hc2,hc3,hc4⟩:=hSw;go_simp;(try with_reducible rfl))
 simp only[Act.put,List.getElem_toArray,List.getElem_cons_zero,List.getElem_cons_succ]
 refine wpAnyH_take (i:=2) (v:=?v3) rfl (by kernel_rfl) (by kernel_rfl) (by kernel_rfl) (fun _ _ _ h=>h) (Or.inl ⟨by rfl,?y3⟩) hHeld0 ?r3
 case y3=>(intro w hSw;obtain⟨hc1,hc2,hc3,hc4⟩:=hSw;go_simp;(try with_reducible rfl))
 simp only[Act.put,List.getElem_toArray,List.getElem_cons_zero,List.getElem_cons_succ]
 refine wpAnyH_take (i:=3) (v:=?v4) rfl (by kernel_rfl) (by kernel_rfl) (by kernel_rfl) (fun _ _ _ h=>h) (Or.inl ⟨by rfl,?y4⟩) hHeld0 ?r4
 case y4=>(intro w hSw;obtain⟨hc1,hc2,hc3,hc4⟩:=hSw;go_simp;(try with_reducible rfl))
 simp only[Act.put,List.getElem_toArray,List.getElem_cons_zero,List.getElem_cons_succ]
 refine wpAnyH_take (i:=5) (v:=?v5) rfl (by kernel_rfl) (by kernel_rfl) (by kernel_rfl) (fun _ _ _ h=>h) (Or.inl ⟨by rfl,?y5⟩) hHeld0 ?r5
 case y5=>(intro w hSw;obtain⟨hc1,hc2,hc3,hc4⟩:=hSw;go_simp;(try with_reducible rfl))
 simp only[Act.put,List.getElem_toArray,List.getElem_cons_zero,List.getElem_cons_succ]
 refine wpAnyH_take (i:=6) (v:=?v6) rfl (by kernel_rfl) (by kernel_rfl) (by kernel_rfl) (fun _ _ _ h=>h) (Or.inl ⟨by rfl,?y6⟩) hHeld0 ?r6
 case y6=>(intro w hSw;obtain⟨hc1,hc2,hc3,hc4⟩:=hSw;go_simp;(try with_reducible rfl))
 simp only[Act.put,List.getElem_toArray,List.getElem_cons_zero,List.getElem_cons_succ]
 refine wpAnyH_take (i:=7) (v:=?v7) rfl (by kernel_rfl) (by kernel_rfl) (by kernel_rfl) (fun _ _ _ h=>h) (Or.inl ⟨by rfl,?y7⟩) hHeld0 ?r7
 case y7=>(intro w hSw;obtain⟨hc1,hc2,hc3,hc4⟩:=hSw;go_simp;(try with_reducible rfl))
 simp only[Act.put,List.getElem_toArray,List.getElem_cons_zero,List.getElem_cons_succ]
 refine wpAnyH_take (i:=8) (v:=?v8) rfl (by kernel_rfl) (by kernel_rfl) (by kernel_rfl) (fun _ _ _ h=>h) (Or.inl ⟨by rfl,?y8⟩) hHeld0 ?r8
 case y8=>(intro w hSw;obtain⟨hc1,hc2,hc3,hc4⟩:=hSw;go_simp;(try with_reducible rfl))
 simp only[Act.put,List.getElem_toArray,List.getElem_cons_zero,List.getElem_cons_succ]
 refine wpAnyH_ready (rs:=[4]) (by kernel_rfl) (by simp) ?_
 refine AllReadyH.cons rfl (fun K hK=>?_) AllReadyH.nil
 refine dW rfl 254 _ _ Tryz.xj rfl #[.int .i64 a1,.int .i64 b1] (by simp[Act.eval]) (Tryz.cmp_Compare_int _ _ _) (fun e w1 hp=>?_)
 obtain⟨rfl,hw⟩:=hp
 obtain rfl:=hw.symm
 refine⟨_,rfl,?_⟩
 refine hK.out _ _ ⟨x0,x1,y0,y1⟩ (fun hHeld1=>?_)
 clear hK K
 simp only[Act.put,List.getElem_toArray,List.getElem_cons_zero,List.getElem_cons_succ]
 refine wpAnyH_ready (rs:=[9]) (by kernel_rfl) (by simp) ?_
 refine AllReadyH.cons rfl (fun K hK=>?_) AllReadyH.nil
 refine dW rfl 254 _ _ Tryz.xj rfl #[.int .i64 a2,.int .i64 b2] (by simp[Act.eval]) (Tryz.cmp_Compare_int _ _ _) (fun e w1 hp=>?_)
 obtain⟨rfl,hw⟩:=hp
 obtain rfl:=hw.symm
 refine⟨_,rfl,?_⟩
 refine hK.out _ _ ⟨x0,x1,y0,y1⟩ (fun hHeld2=>?_)
 clear hK K
 simp only[Act.put,List.getElem_toArray,List.getElem_cons_zero,List.getElem_cons_succ]
 refine wpAnyH_ready (rs:=[10]) (by kernel_rfl) (by simp) ?_
 refine AllReadyH.cons rfl (fun K hK=>?_) AllReadyH.nil
 go_simp
 refine hK.out _ _ HS.out (fun hHeld3=>?_)
 clear hK K
 refine wpAnyH_ready (rs:=[11]) (by kernel_rfl) (by simp) ?_
 refine AllReadyH.cons rfl (fun K hK=>?_) AllReadyH.nil
 refine dW rfl 335 _ _ Tryz.Ir rfl #[.slice (some ⟨W2.heap.size,0,none⟩) 2 2] (by simp[Act.eval]) (Lh HN.out.1 HN.out.2) (fun e w1 hp=>?_)
 obtain⟨rfl,hw⟩:=hp
 obtain rfl:=hw.symm
 refine⟨_,rfl,?_⟩
 refine hK.out _ _ HS.out (fun hHeld4=>?_)
 clear hK K
 simp only[Act.put,List.getElem_toArray,List.getElem_cons_zero,List.getElem_cons_succ]
 refine wpAnyH_take (i:=12) (v:=?v9) rfl (by kernel_rfl) (by kernel_rfl) (by kernel_rfl) (fun _ _ _ h=>h) (Or.inl ⟨by rfl,?y9⟩) hHeld4 ?r9
 case y9=>(intro w hSw;obtain⟨hc1,hc2,hc3,hc4⟩:=hSw;go_simp;(try with_reducible rfl))
 simp only[Act.put,List.getElem_toArray,List.getElem_cons_zero,List.getElem_cons_succ]
 refine wpAnyH_done (by kernel_rfl) ?_ _
 refine NoPanic.normal ?_
 go_wp2_with fail
 go_ret
 refine⟨rfl,?_⟩
 rw[←HW2.out]
 exact((((Grown.refl W).alloc _).alloc _).drew).alloc _
end
end Go.Proofs.YtobgbmfpicmpcaaGreatDoor
