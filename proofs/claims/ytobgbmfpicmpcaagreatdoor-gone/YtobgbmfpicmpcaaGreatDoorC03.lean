/- The reference's reader in memory, and its first steps: each does what its plain mirror does. -/
import Derived.Test.YtobgbmfpicmpcaaGreatDoorC02
import Derived.Test.YtobgbmfpicmpcaaGreatDoorC01
import Derived.Deep.QuietTactic
import Derived.BigQuiet
import Derived.WalkSmall
import Derived.Deep.LoopGhost
import Derived.Deep.AppendLies
import Derived.Deep.DeepMust
import Derived.Deep.CutBlock
import Derived.Deep.DeepCutAuto
import Derived.Deep.RegionLaw
import Derived.Shelf.LaysM
import Derived.Shelf.Strings.OnBuilder
import Derived.Shelf.Strconv.Itoa3
import Derived.Test.YtobgbmfpicmpcaaGreatDoorProg
set_option maxRecDepth 100000
set_option maxHeartbeats 8000000
namespace Go.Proofs.YtobgbmfpicmpcaaGreatDoor
section
open Go.RowKit
theorem nM {a b:Bool} (h:a=b):Ending.returned (.bool a)=.returned (.bool b):=by rw[h]
end
section
open Go.RowKit
theorem DW {s:ByteArray} (h1:1≤s.size) (h8:s.size≤8) (hl:eQ (bt s 0)=true):isWord s=decide (∀j,j<s.size→gU (bt s j)=true):=by
 unfold isWord;rw[decide_eq_true h1,decide_eq_true h8,hl];rfl
theorem pY {s:ByteArray} (h:¬(1≤s.size∧s.size≤8∧eQ (bt s 0)=true)):isWord s=false:=by
 cases hx:isWord s with
 | false=>rfl
 | true=>
  exfalso;apply h
  unfold isWord at hx
  simp only[Bool.and_eq_true,decide_eq_true_eq] at hx
  exact⟨hx.1.1.1,hx.1.1.2,hx.1.2⟩
end
section
open Go.RowKit
def eU (l:List aN):List Value:=l.flatMap fun x=>[.string x.name,.string x.label,.string x.type,.int .i64 x.least,.int .i64 x.bf]
theorem Tryz.Em:(Tryz.prog.info? 85).map (fun i=>(i.zero,i.size,i.bytes))=some (some (.agg #[.string ⟨#[]⟩,.string ⟨#[]⟩,.string ⟨#[]⟩,.int .i64 0,.int .i64 0]),5,64):=by kernel_rfl
theorem zr {a b c:ByteArray} {d e:Int}:∀u∈[Value.string a,.string b,.string c,.int .i64 d,.int .i64 e],u.oneCell'=true:=by
 intro u hu
 simp at hu
 rcases hu with rfl|rfl|rfl|rfl|rfl<;>rfl
end
section
open Go.RowKit
theorem aQ {W:World} {B k n x:Nat} {T T':TypeId} {v:Value} {xs:List Value} {cs:Array Value} (ho:W.ownsRow B T k v n xs) (hl:Loc W x cs T') (hT:T≠T'):v.ownBlock≠some x:=by
 intro he
 rcases ho.2 with ⟨rfl,_⟩|⟨g,cap,cur,rfl,hb,hg,_⟩
 ·simp[Value.ownBlock] at he
 ·simp[Value.ownBlock] at he
  subst he
  unfold Loc at hl
  rw[hg] at hl
  simp at hl
  exact hT hl.2
theorem gm {W:World} {B k n B' k' n':Nat} {T T':TypeId} {v v':Value} {xs xs':List Value} (ho:W.ownsRow B T k v n xs) (ho':W.ownsRow B' T' k' v' n' xs') (hT:T≠T'):v.ownBlock=none∨v.ownBlock≠v'.ownBlock:=by
 rcases ho.2 with ⟨rfl,_⟩|⟨g,cap,cur,rfl,hb,hg,_⟩
 ·left;simp[Value.ownBlock]
 ·right
  intro he
  rcases ho'.2 with ⟨rfl,_⟩|⟨g2,cap2,cur2,rfl,hb2,hg2,_⟩
  ·simp[Value.ownBlock] at he
  ·simp[Value.ownBlock] at he
   subst he
   rw[hg] at hg2
   simp at hg2
   exact hT hg2.2
theorem Loc.fs {W w2:World} {x:Nat} {cs:Array Value} {T':TypeId} {B k n:Nat} {T:TypeId} {v:Value} {xs:List Value} (h:Loc W x cs T') (ho:W.ownsRow B T k v n xs) (hg:W.grownBy w2 v.ownBlock) (h1:T≠T'):Loc w2 x cs T':=
 h.grown hg (fun e=>aQ ho h h1 e.symm)
def eT (l:List bP):List Value:=l.flatMap fun c=>[.int .i64 c.op,.string c.a.name,.string c.a.key,.int .i64 c.a.val,.string c.b.name,.string c.b.key,.int .i64 c.b.val]
theorem sP (l:List bP) (c:bP):eT (l++[c])=eT l++[.int .i64 c.op,.string c.a.name,.string c.a.key,.int .i64 c.a.val,.string c.b.name,.string c.b.key,.int .i64 c.b.val]:=by
 unfold eT;rw[List.flatMap_append];simp
def eR (l:List bi):List Value:=l.flatMap fun c=>[.string c.name,.string c.key]
theorem tC (l:List bi) (c:bi):eR (l++[c])=eR l++[.string c.name,.string c.key]:=by
 unfold eR;rw[List.flatMap_append];simp
def fB (l:List dR):List Value:=l.flatMap fun c=>[.string c.key,.int .i64 c.val]
theorem rY (l:List dR) (c:dR):fB (l++[c])=fB l++[.string c.key,.int .i64 c.val]:=by
 unfold fB;rw[List.flatMap_append];simp
theorem lU (l m:List aN):eU (l++m)=eU l++eU m:=by unfold eU;rw[List.flatMap_append]
structure Kv where
 vs:Value
 sp:List aN
 vc:Value
 cd:List bP
 vi:Value
 it:List bi
 vp:Value
 pr:List dR
variable {W0 W W' w2:World} {b x:Nat} {lv:Value} {ts:List Tok} {st st':RS} {cs:Array Value} {R:Kv}
end
section
open Go.RowKit
theorem Tryz.Ed:(Tryz.prog.info? 87).map (fun i=>(i.zero,i.size,i.bytes))=some (some (.agg #[.int .i64 0,.string ⟨#[]⟩,.string ⟨#[]⟩,.int .i64 0,.string ⟨#[]⟩,.string ⟨#[]⟩,.int .i64 0]),7,88):=by kernel_rfl
theorem DQ {a b c d:ByteArray} {i j k:Int}:∀u∈[Value.int .i64 i,.string a,.string b,.int .i64 j,.string c,.string d,.int .i64 k],u.oneCell'=true:=by
 intro u hu
 simp at hu
 rcases hu with rfl|rfl|rfl|rfl|rfl|rfl|rfl<;>rfl
end
section
open Go.RowKit
abbrev zq:Array Value:=#[.int .i64 0,.slice none 0 0,.slice none 0 0,.slice none 0 0,.int .i64 0,.bool false,.int .i64 0,.int .i64 0,.string ⟨#[]⟩,.string ⟨#[]⟩,.string ⟨#[]⟩,.string ⟨#[]⟩,.int .i64 0,.string ⟨#[]⟩,.string ⟨#[]⟩,.string ⟨#[]⟩,.slice none 0 0]
def qC (q:au) (vs vc vi vp:Value):Array Value:=#[.int .i64 q.kind,vs,vc,vi,.int .i64 q.order,.bool q.down,.int .i64 q.skip,.int .i64 q.bR,.string q.name,.string q.key,.string q.value.name,.string q.value.key,.int .i64 q.value.val,.string q.type,.string q.dest,.string q.label,vp]
end
section
open Go.RowKit
variable {W0 W W' w2:World} {b x y:Nat} {lv:Value} {ts:List Tok} {st st':RS} {cs cy:Array Value} {R:Kv} {T:TypeId}
theorem wV {a b:ByteArray}:∀u∈[Value.string a,.string b],u.oneCell'=true:=by
 intro u hu
 simp at hu
 rcases hu with rfl|rfl<;>rfl
theorem Gp {a:ByteArray} {i:Int}:∀u∈[Value.string a,.int .i64 i],u.oneCell'=true:=by
 intro u hu
 simp at hu
 rcases hu with rfl|rfl<;>rfl
theorem Tryz.GI:(Tryz.prog.info? 89).map (fun i=>(i.zero,i.size,i.bytes))=some (some (.agg #[.string ⟨#[]⟩,.string ⟨#[]⟩]),2,32):=by kernel_rfl
theorem Tryz.ES:(Tryz.prog.info? 91).map (fun i=>(i.zero,i.size,i.bytes))=some (some (.agg #[.string ⟨#[]⟩,.int .i64 0]),2,24):=by kernel_rfl
end
section
open Go.RowKit
theorem om {α:Type} (f:α→List Value) {k:Nat} (hk:∀a,(f a).length=k):∀(l:List α) (i:Nat) (hi:i<l.length) (j:Nat),j<k→(l.flatMap f)[i*k+j]?=(f l[i])[j]?
 | [],i,hi,_,_=>by simp at hi
 | a::l,0,_,j,hj=>by
  rw[List.flatMap_cons,List.getElem?_append_left (by rw[hk];omega)]
  simp
 | a::l,i+1,hi,j,hj=>by
  have ih:=om f hk l i (by simpa using hi) j hj
  rw[List.flatMap_cons,List.getElem?_append_right (by rw[hk,Nat.succ_mul];omega),hk]
  rw[show (i+1)*k+j - k=i*k+j by rw[Nat.succ_mul];omega]
  simpa using ih
def K7 {α:Type} (f:α→List Value) (k:Nat) (l:List α) (ao:Option Addr) (w:World):Prop:=
 ∀i,(hi:i<l.length)→∃g,ao=some ⟨g,0,none⟩∧∀j,j<k→w.cell? ⟨g,i*k+j,none⟩=(f l[i])[j]?
theorem Es {α:Type} {w:World} {B k:Nat} {T:TypeId} {v:Value} {l:List α} (f:α→List Value) (hk:∀a,(f a).length=k) (h:w.ownsRow B T k v l.length (l.flatMap f)):
  ∃ao cap,v=.slice ao l.length cap∧l.length≤cap∧K7 f k l ao w:=by
 rcases h.2 with ⟨hv,h0⟩|⟨g,cap,cur,hv,hb,hg,hnc,_⟩
 ·exact⟨none,0,by rw[hv,h0],by omega,fun i hi=>by omega⟩
 ·refine⟨some ⟨g,0,none⟩,cap,hv,hnc,fun i hi=>⟨g,rfl,fun j hj=>?_⟩⟩
  rw[hv] at h
  refine(h.cellAt _ ?_).trans (om f hk l i hi j hj)
  have:(i+1)*k≤l.length*k:=Nat.mul_le_mul_right k (by omega)
  rw[Nat.succ_mul] at this
  omega
theorem qv {α:Type} {w:World} {B k n cap:Nat} {T:TypeId} {ao:Option Addr} {l:List α} (f:α→List Value) (hk:∀a,(f a).length=k) (h:w.ownsRow B T k (.slice ao n cap) l.length (l.flatMap f)) {i:Nat} (hi:i<l.length):
  ∃g,ao=some ⟨g,0,none⟩∧∀j,j<k→w.cell? ⟨g,i*k+j,none⟩=(f l[i])[j]?:=by
 obtain⟨ao',cap',e,_,hl⟩:=Es f hk h
 injection e with e1 e2 e3
 subst e1
 exact hl i hi
theorem aU {α:Type} {w:World} {B k:Nat} {T:TypeId} {v:Value} {l:List α} {xs:List Value} (h:w.ownsRow B T k v l.length xs):∃ao cap,v=.slice ao l.length cap∧l.length≤cap:=by
 rcases h.2 with ⟨hv,h0⟩|⟨g,cap,cur,hv,hb,hg,hnc,_⟩
 ·exact⟨none,0,by rw[hv,h0],by omega⟩
 ·exact⟨_,cap,hv,hnc⟩
def kN (c:aN):List Value:=[.string c.name,.string c.label,.string c.type,.int .i64 c.least,.int .i64 c.bf]
def kk (c:bP):List Value:=[.int .i64 c.op,.string c.a.name,.string c.a.key,.int .i64 c.a.val,.string c.b.name,.string c.b.key,.int .i64 c.b.val]
def mT (c:bi):List Value:=[.string c.name,.string c.key]
def nS (c:dR):List Value:=[.string c.key,.int .i64 c.val]
end
section
open Go.RowKit
theorem AH {sp:List aN} {n:ByteArray} {k:Nat} (h:k<sp.length):fl (sp.take (k+1)) n=(fl (sp.take k) n || ik sp[k].name n):=by
 have e:sp.take (k+1)=sp.take k++[sp[k]]:=by rw[List.take_add_one,List.getElem?_eq_getElem h];rfl
 unfold fl;rw[e,List.any_append];simp
theorem Am {sp:List aN} {n:ByteArray} {k:Nat} (h:k<sp.length) (he:ik sp[k].name n=true):fl sp n=true:=by
 unfold fl
 exact List.any_eq_true.2 ⟨sp[k],List.getElem_mem h,he⟩
theorem bW {W W':World} {B k n:Nat} {T:TypeId} {v:Value} {xs:List Value} (h:W.ownsRow B T k v n xs) (g:W.grownBy W' none):W'.ownsRow B T k v n xs:=
 h.kept g (by cases hv:v.ownBlock<;>simp)
end
section
open Go.RowKit
def strs (l:List ByteArray):List Value:=l.map .string
theorem nz (a b:List ByteArray):strs (a++b)=strs a++strs b:=by unfold strs;rw[List.map_append]
theorem DE (l:List ByteArray):strs l=l.flatMap fun s=>[.string s]:=by
 induction l with
 | nil=>rfl
 | cons a l ih=>unfold strs at *;rw[List.map_cons,ih];rfl
theorem Tryz.tN:(Tryz.prog.info? 9).map (fun i=>(i.zero,i.size,i.bytes))=some (some (.string ⟨#[]⟩),1,16):=by kernel_rfl
structure uM (W:World) (B X:Nat) (cs:Array Value) (q:au) (vs vc vi v:Value) (ns:List ByteArray) (w:World):Prop where
 low:Below W.heap.size W w
 lq:Loc w X cs 29
 nx:W.heap.size≤X
 rs:w.ownsRow B 85 5 vs q.ai.length (eU q.ai)
 rc:w.ownsRow B 87 7 vc q.conds.length (eT q.conds)
 rt:w.ownsRow B 89 2 vi q.items.length (eR q.items)
 rl:w.ownsRow W.heap.size 9 1 v ns.length (strs ns)
variable {W w w2:World} {B X:Nat} {cs:Array Value} {q:au} {vs vc vi v:Value} {ns:List ByteArray}
theorem uM.quiet (h:uM W B X cs q vs vc vi v ns w) (g:w.grownBy w2 none):uM W B X cs q vs vc vi v ns w2:=
 ⟨⟨g.os.trans h.low.os,g.tape.trans h.low.tape,g.output.trans h.low.output,Nat.le_trans h.low.size g.size,fun k hk=>(g.block k (Nat.lt_of_lt_of_le hk h.low.size) (by simp)).trans (h.low.block k hk)⟩,h.lq.grown g (by simp),h.nx,bW h.rs g,bW h.rc g,bW h.rt g,bW h.rl g⟩
theorem uM.alloc (h:uM W B X cs q vs vc vi v ns w) (o:Obj):uM W B X cs q vs vc vi v ns (w.alloc o):=h.quiet (ar w o none)
theorem uM.later (h:uM W B X cs q vs vc vi v ns w) (hb:Below w.heap.size w w2):uM W B X cs q vs vc vi v ns w2:=h.quiet (af hb none)
theorem uM.more {v2:Value} {l:List ByteArray} (h:uM W B X cs q vs vc vi v ns w) (hg:w.grownBy w2 v.ownBlock) (ho:w2.ownsRow W.heap.size 9 1 v2 (ns++l).length (strs (ns++l))):uM W B X cs q vs vc vi v2 (ns++l) w2:=
 ⟨⟨hg.os.trans h.low.os,hg.tape.trans h.low.tape,hg.output.trans h.low.output,Nat.le_trans h.low.size hg.size,fun k hk=>(hg.block k (Nat.lt_of_lt_of_le hk h.low.size) (by
   intro e
   have:=(h.rl.lt k e.symm).1
   omega)).trans (h.low.block k hk)⟩,
  h.lq.fs h.rl hg (by decide),h.nx,h.rs.kept hg (gm h.rs h.rl (by decide)),h.rc.kept hg (gm h.rc h.rl (by decide)),h.rt.kept hg (gm h.rt h.rl (by decide)),ho⟩
def fF (l:List bP):List ByteArray:=l.flatMap fun c=>[c.a.name,c.b.name]
def dS (l:List bi):List ByteArray:=l.map fun x=>x.name
theorem tK {l:List bP} {k:Nat} (h:k<l.length):fF (l.take (k+1))=fF (l.take k)++[l[k].a.name,l[k].b.name]:=by
 have e:l.take (k+1)=l.take k++[l[k]]:=by rw[List.take_add_one,List.getElem?_eq_getElem h];rfl
 unfold fF;rw[e,List.flatMap_append];simp
theorem tP {l:List bi} {k:Nat} (h:k<l.length):dS (l.take (k+1))=dS (l.take k)++[l[k].name]:=by
 have e:l.take (k+1)=l.take k++[l[k]]:=by rw[List.take_add_one,List.getElem?_eq_getElem h];rfl
 unfold dS;rw[e,List.map_append];simp
theorem oM (l:List bP):(fF l).length=l.length*2:=by
 induction l with
 | nil=>rfl
 | cons c l ih=>unfold fF at *;rw[List.flatMap_cons,List.length_append,ih];simp;omega
theorem oI (l:List bi):(dS l).length=l.length:=by unfold dS;rw[List.length_map]
end
end Go.Proofs.YtobgbmfpicmpcaaGreatDoor
namespace Go.Proofs
open Go.Shelf
def Tryz.lays156_ren : Go.Shelf.Ren := ⟨fun | 156 => 54 | 165 => 109 | 166 => 110 | 169 => 111 | 240 => 173 | 241 => 174 | 276 => 222 | 277 => 223 | n => n, fun | 31 => 56 | 9 => 9 | 3 => 3 | 4 => 4 | 0 => 0 | 20 => 20 | 72 => 174 | 76 => 178 | 70 => 172 | 37 => 168 | 75 => 177 | 127 => 247 | 164 => 288 | 5 => 5 | 80 => 79 | n => n, fun | n => n⟩
theorem Tryz.lays156 : Go.Proofs.Lays.n156 Tryz.prog Tryz.lays156_ren := {
  mixed := by kernel_rfl
  f156 := Tryz.func54.trans (congrArg some (by kernel_rfl))
  f165 := Tryz.func109.trans (congrArg some (by kernel_rfl))
  f166 := Tryz.func110.trans (congrArg some (by kernel_rfl))
  f169 := Tryz.func111.trans (congrArg some (by kernel_rfl))
  f240 := Tryz.func173.trans (congrArg some (by kernel_rfl))
  f241 := Tryz.func174.trans (congrArg some (by kernel_rfl))
  f276 := Tryz.func222.trans (congrArg some (by kernel_rfl))
  f277 := Tryz.func223.trans (congrArg some (by kernel_rfl))
  t0 := Tryz.underlying0
  a0 := Tryz.isAgg0
  z0 := Tryz.sizeOf0
  v0 := Tryz.zeroValue0
  t3 := Tryz.underlying3
  a3 := Tryz.isAgg3
  z3 := Tryz.sizeOf3
  v3 := Tryz.zeroValue3
  t4 := Tryz.underlying4
  a4 := Tryz.isAgg4
  z4 := Tryz.sizeOf4
  v4 := Tryz.zeroValue4
  t9 := Tryz.underlying9
  a9 := Tryz.isAgg9
  z9 := Tryz.sizeOf9
  v9 := Tryz.zeroValue9
  t20 := Tryz.underlying20
  a20 := Tryz.isAgg20
  z20 := Tryz.sizeOf20
  v20 := Tryz.zeroValue20
  t31 := Tryz.underlying56
  a31 := Tryz.isAgg56
  z31 := Tryz.sizeOf56
  v31 := Tryz.zeroValue56
  t37 := Tryz.underlying168
  a37 := Tryz.isAgg168
  z37 := Tryz.sizeOf168
  v37 := Tryz.zeroValue168
  t70 := Tryz.underlying172
  a70 := Tryz.isAgg172
  z70 := Tryz.sizeOf172
  v70 := Tryz.zeroValue172
  t72 := Tryz.underlying174
  a72 := Tryz.isAgg174
  z72 := Tryz.sizeOf174
  v72 := Tryz.zeroValue174
  t75 := Tryz.underlying177
  a75 := Tryz.isAgg177
  z75 := Tryz.sizeOf177
  v75 := Tryz.zeroValue177
  t76 := Tryz.underlying178
  a76 := Tryz.isAgg178
  z76 := Tryz.sizeOf178
  v76 := Tryz.zeroValue178
  t127 := Tryz.underlying247
  a127 := Tryz.isAgg247
  z127 := Tryz.sizeOf247
  v127 := Tryz.zeroValue247
  t164 := Tryz.underlying288
  a164 := Tryz.isAgg288
  z164 := Tryz.sizeOf288
  v164 := Tryz.zeroValue288 }
theorem Tryz.Builder_Extra_156 : Builder.Extra Tryz.prog Tryz.lays156_ren := {
  sizeBuilder := by kernel_rfl
  liesBuilder := by kernel_rfl
  t5 := Tryz.underlying5
  a5 := Tryz.isAgg5
  z5 := Tryz.sizeOf5
  v5 := Tryz.zeroValue5
  infoByte := by kernel_rfl
  cellsByte := by kernel_rfl
  sizeByte := by kernel_rfl
  neB5 := by decide }
open Go.RowKit in
theorem Tryz.strings_Join (bk o c : Nat) (xs : List ByteArray) (sep : ByteArray) (w : World) (hcells : ∀ (j : Nat) x, xs[j]? = some x → w.cell? ⟨bk, o + j, none⟩ = some (.string x)) (hbk : bk < w.heap.size) (hN : xs.length ≤ 140737488355328) (hcap : xs.length ≤ c) (hlen : (Lib.join (xs.map (·.data.toList)) sep.data.toList).length ≤ 140737488355328) :
    Calls Tryz.prog 54 #[.slice (some ⟨bk, o, none⟩) xs.length c, .string sep] w fun e w' => e = .returned (.string ⟨(Lib.join (xs.map (·.data.toList)) sep.data.toList).toArray⟩) ∧ Below w.heap.size w w' := Any.strings_Join Tryz.lays156 Tryz.Builder_Extra_156 bk o c xs sep w hcells hbk hN hcap hlen
def Tryz.laysM171_ren : Go.Shelf.Ren := ⟨fun | 171 => 36 | 243 => 77 | 246 => 149 | 283 => 206 | 284 => 207 | 285 => 208 | 286 => 209 | 129 => 253 | 317 => 269 | 318 => 270 | 319 => 271 | 320 => 272 | 337 => 316 | 338 => 317 | n => n, fun | 3 => 3 | 9 => 9 | 2 => 2 | 4 => 4 | 171 => 277 | 0 => 0 | 53 => 278 | 37 => 168 | 5 => 5 | 173 => 281 | 212 => 348 | 51 => 327 | 20 => 20 | 213 => 349 | 46 => 204 | 232 => 407 | 233 => 408 | n => n, fun | 17 => 0 | 18 => 2 | 19 => 3 | n => n⟩
theorem Tryz.laysM171 : Go.Proofs.LaysM.n171 Tryz.prog Tryz.laysM171_ren := {
  mixed := by kernel_rfl
  f129 := Tryz.func253.trans (congrArg some (by kernel_rfl))
  f171 := Tryz.func36.trans (congrArg some (by kernel_rfl))
  f243 := Tryz.func77.trans (congrArg some (by kernel_rfl))
  f246 := Tryz.func149.trans (congrArg some (by kernel_rfl))
  f283 := Tryz.func206.trans (congrArg some (by kernel_rfl))
  f284 := Tryz.func207.trans (congrArg some (by kernel_rfl))
  f285 := Tryz.func208.trans (congrArg some (by kernel_rfl))
  f286 := Tryz.func209.trans (congrArg some (by kernel_rfl))
  f317 := Tryz.func269.trans (congrArg some (by kernel_rfl))
  f318 := Tryz.func270.trans (congrArg some (by kernel_rfl))
  f319 := Tryz.func271.trans (congrArg some (by kernel_rfl))
  f320 := Tryz.func272.trans (congrArg some (by kernel_rfl))
  f337 := Tryz.func316.trans (congrArg some (by kernel_rfl))
  f338 := Tryz.func317.trans (congrArg some (by kernel_rfl))
  t0 := Tryz.underlying0
  a0 := Tryz.isAgg0
  z0 := Tryz.sizeOf0
  v0 := Tryz.zeroValue0
  t2 := Tryz.underlying2
  a2 := Tryz.isAgg2
  z2 := Tryz.sizeOf2
  v2 := Tryz.zeroValue2
  t3 := Tryz.underlying3
  a3 := Tryz.isAgg3
  z3 := Tryz.sizeOf3
  v3 := Tryz.zeroValue3
  t4 := Tryz.underlying4
  a4 := Tryz.isAgg4
  z4 := Tryz.sizeOf4
  v4 := Tryz.zeroValue4
  t5 := Tryz.underlying5
  a5 := Tryz.isAgg5
  z5 := Tryz.sizeOf5
  v5 := Tryz.zeroValue5
  t9 := Tryz.underlying9
  a9 := Tryz.isAgg9
  z9 := Tryz.sizeOf9
  v9 := Tryz.zeroValue9
  t20 := Tryz.underlying20
  a20 := Tryz.isAgg20
  z20 := Tryz.sizeOf20
  v20 := Tryz.zeroValue20
  t37 := Tryz.underlying168
  a37 := Tryz.isAgg168
  z37 := Tryz.sizeOf168
  v37 := Tryz.zeroValue168
  t46 := Tryz.underlying204
  a46 := Tryz.isAgg204
  z46 := Tryz.sizeOf204
  v46 := Tryz.zeroValue204
  t51 := Tryz.underlying327
  a51 := Tryz.isAgg327
  z51 := Tryz.sizeOf327
  v51 := Tryz.zeroValue327
  t53 := Tryz.underlying278
  a53 := Tryz.isAgg278
  z53 := Tryz.sizeOf278
  v53 := Tryz.zeroValue278
  t171 := Tryz.underlying277
  a171 := Tryz.isAgg277
  z171 := Tryz.sizeOf277
  v171 := Tryz.zeroValue277
  t173 := Tryz.underlying281
  a173 := Tryz.isAgg281
  z173 := Tryz.sizeOf281
  v173 := Tryz.zeroValue281
  t212 := Tryz.underlying348
  a212 := Tryz.isAgg348
  z212 := Tryz.sizeOf348
  v212 := Tryz.zeroValue348
  t213 := Tryz.underlying349
  a213 := Tryz.isAgg349
  z213 := Tryz.sizeOf349
  t232 := Tryz.underlying407
  a232 := Tryz.isAgg407
  z232 := Tryz.sizeOf407
  v232 := Tryz.zeroValue407
  t233 := Tryz.underlying408
  a233 := Tryz.isAgg408
  z233 := Tryz.sizeOf408
  v233 := Tryz.zeroValue408
  g17 := by kernel_rfl
  g18 := by kernel_rfl
  g19 := by kernel_rfl
  i0 := by kernel_rfl
  i2 := by kernel_rfl
  i3 := by kernel_rfl
  i4 := by kernel_rfl
  i5 := by kernel_rfl
  i9 := by kernel_rfl
  i20 := by kernel_rfl
  i37 := by kernel_rfl
  i46 := by kernel_rfl
  i51 := by kernel_rfl
  i53 := by kernel_rfl
  i171 := by kernel_rfl
  i173 := by kernel_rfl
  i212 := by kernel_rfl
  i232 := by kernel_rfl
  i233 := by kernel_rfl
  m17 := by kernel_rfl
  m18 := by kernel_rfl
  m19 := by kernel_rfl }
open Go.RowKit Go.Sort Go.Lib in
theorem Tryz.strconv_Itoa (n : Int) (h0 : -9223372036854775808 ≤ n) (h1 : n ≤ 9223372036854775807) (w : World) (htab : Lib.TabIs Tryz.prog w "internal/strconv.uint64pow10" .u64 Lib.pow10Tab) :
    Calls Tryz.prog 36 #[.int .i64 n] w fun e w' => e = .returned (.string ⟨(Lib.itoa n).toArray⟩) ∧ ∃ k os, w' = grow (w.drewN k) os := Any.strconv_Itoa Tryz.laysM171 n h0 h1 w htab
end Go.Proofs
namespace Go.Proofs.YtobgbmfpicmpcaaGreatDoor
def dv:RS:=⟨[],true⟩
def aE (s:ByteArray) (st:RS):Bool:=
 match st.rest with
 | []=>false
 | t::_=>ik t.text s
def ag (s:ByteArray) (st:RS):RS:=if aE s st then ⟨st.rest.tail,st.bad⟩ else st
def aD (s:ByteArray) (st:RS):RS:=if aE s st then ag s st else dv
def kQ (s:ByteArray):Int:=if bN s then 1 else if cD s then 2 else 3
def eL (t:Tok):Int:=if t.kind=2 then 4 else if t.kind=3 then 5 else if t.kind=1 then kQ t.text else 0
def gC (k:Int) (st:RS):Bool:=
 match st.rest with
 | []=>false
 | t::_=>decide (eL t=k)
def dV (k:Int) (st:RS):Tok × RS:=if gC k st then (st.rest.headD CH,⟨st.rest.tail,st.bad⟩) else (CH,dv)
def du (st:RS):ByteArray × RS:=((dV 1 st).1.text,(dV 1 st).2)
def cN (st:RS):ByteArray × RS:=((dV 2 st).1.text,(dV 2 st).2)
def bL (lo hi:Int) (st:RS):Int × RS:=((dV 4 st).1.val,if (dV 4 st).1.val<lo∨hi<(dV 4 st).1.val then dv else (dV 4 st).2)
def bz {α:Type} (one:RS→α × RS) (sep:ByteArray):Nat→List α→RS→List α × RS
 | 0,out,st=>(out,st)
 | n+1,out,st=>if aE sep st then bz one sep n (out++[(one (ag sep st)).1]) (one (ag sep st)).2 else (out,st)
def eO {α:Type} (one:RS→α × RS) (sep:ByteArray) (bf:Nat) (st:RS):List α × RS:=
 let l:=bz one sep (one st).2.rest.length [(one st).1] (one st).2
 (l.1,if bf<l.1.length then dv else l.2)
def cg (x:aN) (st:RS):aN × RS:=
 let n:=du (aD bE st)
 let l:=if aE bX n.2 then cN (ag bX n.2) else (x.label,n.2)
 (⟨n.1,l.1,x.type,x.least,x.bf⟩,aD bA l.2)
def jR (st:RS):(Int × Int) × RS:=
 if aE dU st then
  let a:=bL 0 4 (ag dU st)
  let b:=bL a.1 4 (aD kw a.2)
  ((a.1,b.1),b.2)
 else ((1,1),st)
def gv (st:RS):aN × RS:=
 let t:=cN st
 let s:=jR t.2
 (⟨e0,e0,t.1,s.1.1,s.1.2⟩,aD da s.2)
def ov (st:RS):aN × RS:=cg (gv st).1 (gv st).2
def aT:Nat→List aN→RS→List aN × RS
 | 0,out,st=>(out,st)
 | n+1,out,st=>
  if aE aK st then aT n (out++[(cg cq (ag aK st)).1]) (cg cq (ag aK st)).2
  else if aE jG st then aT n (out++[(ov (ag jG st)).1]) (ov (ag jG st)).2
  else (out,st)
def eE (st:RS):List aN × RS:=
 let l:=aT (cg cq st).2.rest.length [(cg cq st).1] (cg cq st).2
 (l.1,if 6<l.1.length then dv else l.2)
def iE (st:RS):(ByteArray × ByteArray) × RS:=
 let n:=du st
 let k:=du (aD eX n.2)
 ((n.1,k.1),k.2)
def dM (st:RS):gj × RS:=
 if gC 4 st then
  let v:=bL (-1000000000) 1000000000 st
  (⟨e0,e0,v.1⟩,v.2)
 else
  let p:=iE st
  (⟨p.1.1,p.1.2,0⟩,p.2)
def dt:List ByteArray→Int→RS→Int × RS
 | [],_,_=>(0,dv)
 | m::r,i,st=>if aE m st then (i,ag m st) else dt r (i+1) st
def fR (st:RS):bP × RS:=
 let a:=dM st
 if aE ng a.2 then
  let s:=ag ng a.2
  (⟨if aE jo s then 8 else 7,a.1,lD⟩,aD il (ag jo s))
 else
  let o:=dt mY 1 a.2
  let b:=dM o.2
  (⟨o.1,a.1,b.1⟩,b.2)
def fS (st:RS):bi × RS:=
 if aE ga st then (⟨e0,e0⟩,ag ga st)
 else
  let n:=du st
  if aE eX n.2 then
   let k:=du (ag eX n.2)
   (⟨n.1,k.1⟩,k.2)
  else (⟨n.1,e0⟩,n.2)
def fu (st:RS):dR × RS:=
 let k:=du st
 let v:=bL (-1000000000) 1000000000 (aD bX k.2)
 (⟨k.1,v.1⟩,v.2)
def dK:List dR→List dR→Bool
 | _,[]=>false
 | pre,x::r=>(pre.any fun y=>ik y.key x.key) || dK (pre++[x]) r
def bG (st:RS):(ByteArray × List dR) × RS:=
 let t:=cN (aD bE st)
 let p:=if aE cP t.2 then eO fu aK 6 (ag cP t.2) else ([],t.2)
 let u:=if aE cP t.2 then aD gG p.2 else p.2
 ((t.1,p.1),if dK [] p.1 then dv else aD bA u)
def gE (k:Int) (st:RS):(Int × Bool) × RS:=
 if aE eJ st then
  let o:=bL 1 k (aD IH (ag eJ st))
  ((o.1,aE jF o.2),ag jF o.2)
 else ((0,false),st)
def gz (word:ByteArray) (none:Int) (st:RS):Int × RS:=
 if aE word st then bL 0 1000000000 (ag word st) else (none,st)
def eA (st:RS):Fl × RS:=
 let x:=eO fS aK 6 st
 let o:=gE x.1.length x.2
 let s:=gz jI 0 o.2
 let l:=gz iN (-1) s.2
 (⟨x.1,o.1.1,o.1.2,s.1,l.1⟩,l.2)
def jh (st:RS):(ByteArray × ByteArray × ByteArray) × RS:=
 let n:=du (aD bE st)
 let t:=cN (aD jG (aD bA n.2))
 let o:=du (aD bE (aD da t.2))
 ((n.1,t.1,o.1),aD bA o.2)
def qg (st:RS):(ByteArray × ByteArray × gj) × RS:=
 let p:=iE st
 let v:=dM (aD tT p.2)
 ((p.1.1,p.1.2,v.1),v.2)
def bS (q:au) (st:RS):au × RS:=
 if aE bq st then
  let x:=eA (ag bq st)
  ({q with kind:=1,items:=x.1.items,order:=x.1.order,down:=x.1.down,skip:=x.1.skip,bR:=x.1.bR},x.2)
 else if aE fN st then
  let x:=qg (ag fN st)
  ({q with kind:=2,name:=x.1.1,key:=x.1.2.1,value:=x.1.2.2},x.2)
 else if aE bI st then
  let x:=du (ag bI st)
  ({q with kind:=3,name:=x.1},x.2)
 else if aE aM st then
  let x:=jh (ag aM st)
  ({q with kind:=4,name:=x.1.1,type:=x.1.2.1,dest:=x.1.2.2},x.2)
 else (q,dv)
def dN (st:RS):List bP × RS:=if aE ej st then eO fR pP 6 (ag ej st) else ([],st)
def eF (st:RS):au × RS:=
 if aE eW st then
  let x:=du (ag eW st)
  ({aF with kind:=6,name:=x.1},x.2)
 else if aE aM st then
  let x:=bG (ag aM st)
  ({aF with kind:=5,label:=x.1.1,ay:=x.1.2},x.2)
 else
  let s:=eE (aD dz st)
  let c:=dN s.2
  bS {aF with ai:=s.1,conds:=c.1} c.2
def lM (q:au):List ByteArray:=
 (q.conds.flatMap fun c=>[c.a.name,c.b.name])++q.items.map (fun x=>x.name)++(if q.kind≠6 then [q.name,q.dest] else [])
def eG (q:au):Bool:=
 ((lM q).all fun n=>n.toList.isEmpty || fl q.ai n)&&(decide (q.kind≠2) || q.value.name.toList.isEmpty || ik q.value.name q.name)
def fj (ts:List Tok):au × Int:=
 let x:=eF ⟨ts,false⟩
 if x.2.bad || !x.2.rest.isEmpty then (aF,3)
 else if eG x.1 then (x.1,0) else (aF,4)
namespace Pure
theorem fI {st:RS} {x:Bool} (h:st.bad=true):(st.dx x).bad=true:=by unfold RS.dx;simp[h]
theorem mr (st:RS):(st.dx true).bad=true:=by unfold RS.dx;simp
theorem dj (st:RS):st.dx false=st:=by unfold RS.dx;simp
theorem dZ {s:ByteArray} {st:RS} (h:st.bad=true):(dl s st).bad=true:=by unfold dl;split<;>exact h
theorem rO {s:ByteArray} {st:RS}:(dl s st).bad=st.bad:=by unfold dl;split<;>rfl
theorem aG {s:ByteArray} {st:RS} (h:st.bad=true):(dd s st).bad=true:=by unfold dd;exact fI (dZ h)
theorem nW {k:Int} {st:RS} (h:st.bad=true):(iI k st).2.bad=true:=by unfold iI;split;exact h;exact rfl
theorem db {st:RS} (h:st.bad=true):(eu st).2.bad=true:=by unfold eu;exact fI (nW h)
theorem fk {st:RS} (h:st.bad=true):(iL st).2.bad=true:=by unfold iL;exact fI (nW h)
theorem fO {lo hi:Int} {st:RS} (h:st.bad=true):(iC lo hi st).2.bad=true:=by unfold iC;exact fI (nW h)
theorem aO {s:ByteArray} {st:RS} (h:st.bad=true):(ag s st).bad=true:=by unfold ag;split<;>exact h
theorem aj {s:ByteArray} {st:RS} (h:st.bad=true):(aD s st).bad=true:=by unfold aD;split;exact aO h;exact rfl
theorem qB {k:Int} {st:RS} (h:st.bad=true):(dV k st).2.bad=true:=by unfold dV;split;exact h;exact rfl
theorem bC {st:RS} (h:st.bad=true):(du st).2.bad=true:=qB h
theorem dX {st:RS} (h:st.bad=true):(cN st).2.bad=true:=qB h
theorem dw {lo hi:Int} {st:RS} (h:st.bad=true):(bL lo hi st).2.bad=true:=by unfold bL;simp only;split;exact rfl;exact qB h
theorem jx {x:aN} {st:RS} (h:st.bad=true):(cg x st).2.bad=true:=by
 unfold cg;simp only;refine aj ?_;split
 ·exact dX (aO (bC (aj h)))
 ·exact bC (aj h)
theorem ou {x:aN} {st:RS} (h:st.bad=true):(kK x st).2.bad=true:=by
 unfold kK;simp only;refine aG ?_;split
 ·exact fk (dZ (db (aG h)))
 ·exact db (aG h)
theorem pW {st:RS} (h:st.bad=true):(jR st).2.bad=true:=by
 unfold jR;split
 ·exact dw (aj (dw (aO h)))
 ·exact h
theorem vf {st:RS} (h:st.bad=true):(qQ st).2.bad=true:=by
 unfold qQ;split
 ·exact fO (aG (fO (dZ h)))
 ·exact h
theorem DX {st:RS} (h:st.bad=true):(gv st).2.bad=true:=by unfold gv;exact aj (pW (dX h))
theorem FG {st:RS} (h:st.bad=true):(ov st).2.bad=true:=by unfold ov;exact jx (DX h)
theorem CT {st:RS} (h:st.bad=true):(nQ st).2.bad=true:=by unfold nQ;exact ou (aG (vf (fk h)))
theorem vG {st:RS} (h:st.bad=true):(iE st).2.bad=true:=by unfold iE;exact bC (aj (bC h))
theorem fZ {st:RS} (h:st.bad=true):(dM st).2.bad=true:=by
 unfold dM;split
 ·exact dw h
 ·exact vG h
theorem nY {st:RS} (h:st.bad=true):(rM st).2.bad=true:=by
 unfold rM;split
 ·exact nW h
 ·exact db (aG (db h))
theorem nI {l:List ByteArray}:∀{i:Int} {st:RS},st.bad=true→(dt l i st).2.bad=true:=by
 induction l with
 | nil=>intro i st h;rfl
 | cons m r ih=>intro i st h;simp only[dt];split;exact aO h;exact ih h
theorem Al {l:List ByteArray}:∀{i:Int} {st:RS},st.bad=true→(jP l i st).2.bad=true:=by
 induction l with
 | nil=>intro i st h;exact h
 | cons m r ih=>intro i st h;simp only[jP];split;exact dZ h;exact ih h
theorem qe {st:RS} (h:st.bad=true):(fR st).2.bad=true:=by
 unfold fR;simp only;split
 ·exact aj (aO (aO (fZ h)))
 ·exact fZ (nI (fZ h))
theorem qH {st:RS} (h:st.bad=true):(fS st).2.bad=true:=by
 unfold fS;split
 ·exact aO h
 ·simp only;split
  ·exact bC (aO (bC h))
  ·exact bC h
theorem qd {st:RS} (h:st.bad=true):(fu st).2.bad=true:=by unfold fu;exact dw (aj (bC h))
theorem jV {α:Type} {one:RS→α × RS} {sep:ByteArray} (ho:∀{st:RS},st.bad=true→(one st).2.bad=true) (n:Nat):∀{out:List α} {st:RS},st.bad=true→(bz one sep n out st).2.bad=true:=by
 induction n with
 | zero=>intro out st h;exact h
 | succ n ih=>intro out st h;simp only[bz];split;exact ih (ho (aO h));exact h
theorem qp {α:Type} {one:RS→α × RS} {sep:ByteArray} {bf:Nat} (ho:∀{st:RS},st.bad=true→(one st).2.bad=true) {st:RS} (h:st.bad=true):(eO one sep bf st).2.bad=true:=by
 unfold eO;simp only;split;exact rfl;exact jV ho _ (ho h)
theorem fh (n:Nat):∀{out:List aN} {st:RS},st.bad=true→(aT n out st).2.bad=true:=by
 induction n with
 | zero=>intro out st h;exact h
 | succ n ih=>
  intro out st h;simp only[aT];split
  ·exact ih (jx (aO h))
  ·split
   ·exact ih (FG (aO h))
   ·exact h
theorem AQ {st:RS} (h:st.bad=true):(eE st).2.bad=true:=by
 unfold eE;simp only;split;exact rfl;exact fh _ (jx h)
theorem mG (n:Nat):∀{out:List aN} {st:RS},st.bad=true→(dO n out st).2.bad=true:=by
 induction n with
 | zero=>intro out st h;exact h
 | succ n ih=>intro out st h;simp only[dO];split;exact ih (CT (dZ h));exact h
theorem pj {k:Int} {st:RS} (h:st.bad=true):(gE k st).2.bad=true:=by
 unfold gE;split
 ·exact aO (dw (aj (aO h)))
 ·exact h
theorem AX {k:Int} {st:RS} (h:st.bad=true):(rP k st).2.bad=true:=by
 unfold rP;split
 ·exact dZ (fO (aG (dZ h)))
 ·exact h
theorem gN {s:ByteArray} {k:Int} {st:RS} (h:st.bad=true):(gz s k st).2.bad=true:=by
 unfold gz;split;exact dw (aO h);exact h
theorem me {s:ByteArray} {k:Int} {st:RS} (h:st.bad=true):(vj s k st).2.bad=true:=by
 unfold vj;split;exact fO (dZ h);exact h
theorem CC {st:RS} (h:st.bad=true):(jh st).2.bad=true:=by
 unfold jh;exact aj (bC (aj (aj (dX (aj (aj (bC (aj h))))))))
theorem Df {st:RS} (h:(dd aM st).bad=true):(xI st).2.bad=true:=by
 unfold xI;exact aG (db (aG (aG (fk (aG (aG (db (aG h))))))))
theorem Gd {st:RS} (h:st.bad=true):(qg st).2.bad=true:=by unfold qg;exact fZ (aj (vG h))
theorem Dk {st:RS} (h:st.bad=true):(eA st).2.bad=true:=by unfold eA;exact gN (gN (pj (qp qH h)))
theorem mH {st:RS} (h:st.bad=true):(dN st).2.bad=true:=by
 unfold dN;split;exact qp qe (aO h);exact h
theorem qZ {q:au} {st:RS} (h:st.bad=true):(bS q st).2.bad=true:=by
 unfold bS;split
 ·exact Dk (aO h)
 ·split
  ·exact Gd (aO h)
  ·split
   ·exact bC (aO h)
   ·split
    ·exact CC (aO h)
    ·rfl
end Pure
end Go.Proofs.YtobgbmfpicmpcaaGreatDoor
