/- What a slice that owns tokens looks like to a walk that reads it. No walk in this text. -/
import Derived.Test.YtobgbmfpicmpcaaGreatDoorC01
import Derived.Lib.Hide
import Derived.DeepKeys5
import Derived.Maps.OwnSet
import Derived.Maps.OwnOps
import Derived.KernelRfl
set_option maxRecDepth 100000
set_option maxHeartbeats 8000000
namespace Go.Proofs.YtobgbmfpicmpcaaGreatDoor
section
open Go.RowKit
theorem GM {w:World} {B:Nat} {v:Value} {ts:List Tok} (h:w.ownsRow B 153 3 v ts.length (dy ts)):
  ∃ao cap,v=.slice ao ts.length cap∧ts.length≤cap∧∀k,(hk:k<ts.length)→∃g,ao=some ⟨g,0,none⟩∧w.cell? ⟨g,k*3,none⟩=some (.int .i64 ts[k].kind)∧w.cell? ⟨g,k*3+1,none⟩=some (.string ts[k].text)∧w.cell? ⟨g,k*3+2,none⟩=some (.int .i64 ts[k].val):=by
 rcases h.2 with ⟨hv,h0⟩|⟨g,cap,cur,hv,hb,hg,hnc,_⟩
 ·exact⟨none,0,by rw[hv,h0],by omega,fun k hk=>by omega⟩
 ·rw[hv] at h
  exact⟨some ⟨g,0,none⟩,cap,hv,hnc,fun k hk=>⟨g,rfl,IK h rfl k hk⟩⟩
def Loc (W:World) (b:Nat) (cs:Array Value) (T:TypeId):Prop:=W.heap[b]?=some (.cells cs T (0,0))
theorem Loc.lt {W:World} {b:Nat} {cs:Array Value} {T:TypeId} (h:Loc W b cs T):b<W.heap.size:=lt_of_block h
theorem Loc.cell {W:World} {b:Nat} {cs:Array Value} {T:TypeId} (h:Loc W b cs T) (j:Nat):W.cell? ⟨b,j,none⟩=cs[j]?:=by
 unfold Loc at h;simp[World.cell?,h]
theorem Loc.at_ {W:World} {b:Nat} {cs:Array Value} {T:TypeId} (h:Loc W b cs T) (j:Nat) (v:Value) (e:cs[j]?=some v):W.cell? ⟨b,j,none⟩=some v:=(h.cell j).trans e
theorem Loc.free {W:World} {b:Nat} {cs:Array Value} {T:TypeId} (h:Loc W b cs T) (j:Nat):W.frozen? ⟨b,j,none⟩=false:=by
 unfold Loc at h;simp[World.frozen?,h]
theorem Loc.set {W:World} {b:Nat} {cs:Array Value} {T:TypeId} (h:Loc W b cs T) (j:Nat) (u:Value):Loc (W.setCell ⟨b,j,none⟩ u) b (cs.setIfInBounds j u) T:=by
 unfold Loc at h⊢;simp[World.setCell,Array.getElem?_modify,h]
theorem Loc.setOther {W:World} {b b':Nat} {cs:Array Value} {T:TypeId} (h:Loc W b cs T) (hne:b≠b') (j:Nat) (u:Value):Loc (W.setCell ⟨b',j,none⟩ u) b cs T:=by
 unfold Loc at h⊢
 rw[Below.heap_setCell W ⟨b',j,none⟩ u b hne];exact h
theorem Loc.alloc {W:World} {b:Nat} {cs:Array Value} {T:TypeId} (h:Loc W b cs T) (o:Obj):Loc (W.alloc o) b cs T:=by
 unfold Loc;rw[Below.heap_alloc W o b h.lt];exact h
theorem Loc.new (W:World) (cs:Array Value) (T:TypeId):Loc (W.alloc (.cells cs T)) W.heap.size cs T:=heap_alloc_new W _
theorem Loc.grown {W W':World} {b:Nat} {cs:Array Value} {T:TypeId} {r:Option Nat} (h:Loc W b cs T) (hg:W.grownBy W' r) (hne:some b≠r):Loc W' b cs T:=by
 unfold Loc;rw[hg.block b h.lt hne];exact h
theorem Loc.drew {W:World} {b:Nat} {cs:Array Value} {T:TypeId} (h:Loc W b cs T) (n:Nat):Loc (W.drewN n) b cs T:=h
theorem aB {a b c:World} {r:Option Nat} (h:a.grownBy b r) (k:b.grownBy c r):a.grownBy c r:=
 ⟨k.os.trans h.os,k.tape.trans h.tape,k.output.trans h.output,Nat.le_trans h.size k.size,fun j hj hne=>(k.block j (Nat.lt_of_lt_of_le hj h.size) hne).trans (h.block j hj hne)⟩
theorem ku (w:World) (r:Option Nat):w.grownBy w r:=⟨rfl,rfl,rfl,Nat.le_refl _,fun _ _ _=>rfl⟩
theorem aC (w:World) (b j:Nat) (u:Value):w.grownBy (w.setCell ⟨b,j,none⟩ u) (some b):=
 ⟨rfl,rfl,rfl,by simp[World.setCell],fun k _ hne=>Below.heap_setCell w ⟨b,j,none⟩ u k (fun e=>hne (by rw[e]))⟩
theorem ar (w:World) (o:Obj) (r:Option Nat):w.grownBy (w.alloc o) r:=World.grownBy_alloc w o r
theorem af {w w':World} (h:Below w.heap.size w w') (r:Option Nat):w.grownBy w' r:=⟨h.os,h.tape,h.output,h.size,fun k hk _=>h.block k hk⟩
theorem dL {a b:World} {r:Option Nat} (h:a.grownBy b r) {x:Nat} (hx:a.heap.size≤x) (j:Nat) (u:Value):a.grownBy (b.setCell ⟨x,j,none⟩ u) r:=
 ⟨h.os,h.tape,h.output,by simpa [World.setCell] using h.size,fun k hk hne=>(Below.heap_setCell b ⟨x,j,none⟩ u k (by show k≠x;omega)).trans (h.block k hk hne)⟩
end
section
open Go.RowKit Go.Maps
abbrev aI:=Int × ByteArray × ByteArray
def nf (r:aI):Value:=.agg #[.int .i64 r.1,.string r.2.1,.string r.2.2]
def AZ (r:aI):Lit:=.string (keyBytes [.int .i64 r.1,.string r.2.1.data.toList,.string r.2.2.data.toList])
def D5 (r:aI):Prop:=(Lit.int .i64 r.1).wf=true∧r.2.1.size≤maxLen∧r.2.2.size≤maxLen
theorem EL:Tryz.prog.keyType 224=true:=by kernel_rfl
theorem zJ:Tryz.prog.keyTypeAt 3 224=true:=by kernel_rfl
theorem Jk:Tryz.prog.tiled 3 224=true:=by kernel_rfl
theorem GK:Tryz.prog.cellsOf 224=3:=by kernel_rfl
theorem Fy:Tryz.prog.cellsOf 222=1:=by kernel_rfl
theorem Jt:Tryz.prog.cellsOf 9=1:=by kernel_rfl
theorem vE:∃m,Tryz.prog.types.size=m+1:=by
 have h:(Tryz.prog.types.size==0)=false:=by kernel_rfl
 cases e:Tryz.prog.types.size with
 | zero=>rw[e] at h;cases h
 | succ m=>exact⟨m,rfl⟩
theorem Ie:Keyed Tryz.prog 224:=Keyed.of_law (deep_law (m:=3) (Nat.le_of_ble_eq_true rfl) zJ Jk (by rw[Tryz.underlying224]))
theorem FR {r:aI} (h:D5 r):keyOf Tryz.prog 224 (nf r)=some (AZ r):=by
 obtain⟨v,a,b⟩:=r
 obtain⟨hv,ha,hb⟩:=h
 obtain⟨m,hm⟩:=vE
 have hf:(nf (v,a,b)).formed Tryz.prog 224=true:=by simp[nf,Value.formed,Tryz.underlying224,GK]
 unfold keyOf
 rw[Tryz.underlying224]
 simp only[EL,hf,Bool.and_self,if_true,hm]
 have hc:(nf (v,a,b)).cells.toList=[.int .i64 v,.string a,.string b]:=rfl
 rw[hc]
 simp only at hv ha hb
 simp[Program.keyLits,Tryz.underlying224,Tryz.underlying222,Tryz.underlying9,GK,Fy,Jt,hv,ha,hb,AZ]
theorem FB {r s:aI} (hr:D5 r) (hs:D5 s) (h:AZ r=AZ s):r=s:=by
 have:=Ie.inj (FR hr) (by rw[h];exact FR hs)
 obtain⟨v,a,b⟩:=r
 obtain⟨v',a',b'⟩:=s
 simp only[nf,Value.agg.injEq] at this
 injection this with this
 injection this with h1 h2
 injection h2 with h2 h3
 injection h3 with h3 _
 injection h1 with _ h1
 injection h2 with h2
 injection h3 with h3
 subst h1 h2 h3
 rfl
def bm (W:World) (b n:Nat) (S:aI→Bool):Prop:=∃D:DataW Unit,W.ownsMap Tryz.prog 224 unitElem b n D∧∀r,D5 r→Maps.has D (AZ r)=S r
theorem ID (w:World):(zeroValue 273).run Tryz.prog w=.ok (.agg #[]) w:=by kernel_rfl
end
end Go.Proofs.YtobgbmfpicmpcaaGreatDoor
