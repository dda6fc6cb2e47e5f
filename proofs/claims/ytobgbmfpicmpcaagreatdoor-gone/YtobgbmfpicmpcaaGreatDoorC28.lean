/- The finder: Each. -/
import Derived.Test.YtobgbmfpicmpcaaGreatDoorC27
import Derived.Lib.Hide
set_option maxRecDepth 100000
set_option maxHeartbeats 8000000
namespace Go.Proofs.YtobgbmfpicmpcaaGreatDoor
open Go.Lib (hid)
section
open Go.RowKit Go.Maps Go.Sort
variable {UInv:(Nat→Prop)→List Row→World→Prop} {u:FuncId} {caps:Array Value} {gb go m sc cc:Nat} {ns:List aq} {es:List aJ} {sa ca:Option Addr}
def jN:Row:=fun _=>none
def aR (ns:List aq) (es:List aJ) (q:au) (budget:Int):mA:=bH ns es q.conds q.ai ⟨#[]⟩ ⟨budget,jN,[]⟩
def ml (p:Value) (q:au) (vs vc vi vp:Value) (left:Int) (use:Value) (B T:Nat):Array Value:=
 #[p,.int .i64 q.kind,vs,vc,vi,.int .i64 q.order,.bool q.down,.int .i64 q.skip,.int .i64 q.bR,.string q.name,.string q.key,.string q.value.name,.string q.value.key,.int .i64 q.value.val,.string q.type,.string q.dest,.string q.label,vp,.int .i64 left,use,.map (some B),.slice none 0 0,.slice none 0 0,.slice none 0 0,.slice none 0 0,.slice none 0 0,.slice none 0 0,.slice none 0 0,.map (some T)]
theorem qM (gb go:Nat) (q:au) (vs vc vi vp:Value) (left:Int) (u:FuncId) (caps:Array Value) (B T:Nat):Tryz.prog.built 263 [(0,.pointer (some ⟨gb,go,none⟩)),(1,.agg (qC q vs vc vi vp)),(2,.int .i64 left),(3,.func (.func u) #[] caps),(4,.map (some B)),(7,.map (some T))]=some (ml (.pointer (some ⟨gb,go,none⟩)) q vs vc vi vp left (.func (.func u) #[] caps) B T):=by kernel_rfl
def iq:Array Value:=#[.pointer none,.int .i64 0,.slice none 0 0,.slice none 0 0,.slice none 0 0,.int .i64 0,.bool false,.int .i64 0,.int .i64 0,.string ⟨#[]⟩,.string ⟨#[]⟩,.string ⟨#[]⟩,.string ⟨#[]⟩,.int .i64 0,.string ⟨#[]⟩,.string ⟨#[]⟩,.string ⟨#[]⟩,.slice none 0 0,.int .i64 0,.nilFunc,.map none,.slice none 0 0,.slice none 0 0,.slice none 0 0,.slice none 0 0,.slice none 0 0,.slice none 0 0,.slice none 0 0,.map none]
theorem Tryz.Bc:(Tryz.prog.info? 263).map (·.size)=some 29:=by kernel_rfl
theorem oV {ops:Array Oper} {rest:List Oper} {op:Oper} {a:Act} {w:World} {Q:Exit→Act→World→Prop} (hgd:op.guard=none) (ho:op.op=.alloc 263) (h:wpList Tryz.prog ops Q rest (a.put op.dst (.pointer (some ⟨w.heap.size,0,none⟩))) (w.alloc (.cells iq 263))):wpList Tryz.prog ops Q (op::rest) a w:=
 wpList_plain hgd fun _ hK=>by
  unfold Oper.wp execOp
  simp only[ho]
  go_simp
  exact hK _ _ h
theorem nE {P:Program} {ops:Array Oper} {rest:List Oper} {op:Oper} {a:Act} {w:World} {Q:Exit→Act→World→Prop} (t:TypeId) (hgd:op.guard=none) (ho:op.op=.makeMap t none) (h:wpList P ops Q rest (a.put op.dst (.map (some w.heap.size))) (w.alloc (.map #[] 0))):wpList P ops Q (op::rest) a w:=
 wpList_plain hgd fun _ hK=>by
  unfold Oper.wp execOp
  simp only[ho]
  exact hK _ _ h
theorem JK {q:au} {sa ca ia pa:Option Addr} {n1 n2 n3 n4 k1 k2 k3 k4 gb go B T:Nat} {left:Int} {u:FuncId} {caps:Array Value}:(ml (.pointer (some ⟨gb,go,none⟩)) q (.slice sa n1 k1) (.slice ca n2 k2) (.slice ia n3 k3) (.slice pa n4 k4) left (.func (.func u) #[] caps) B T).all (·.oneCell')=true:=by
 simp[ml,Value.oneCell']
theorem oW {ops:Array Oper} {rest:List Oper} {op:Oper} {a:Act} {w:World} {Q:Exit→Act→World→Prop} {x0 x1 x2 x3 x4 x5:Operand} (gb go:Nat) (q:au) (vs vc vi vp:Value) (left:Int) (u:FuncId) (caps:Array Value) (B T:Nat) (hgd:op.guard=none) (ho:op.op=.build 263 #[(0,x0),(1,x1),(2,x2),(3,x3),(4,x4),(7,x5)])
  (h0:a.eval x0=.pointer (some ⟨gb,go,none⟩)) (h1:a.eval x1=.agg (qC q vs vc vi vp)) (h2:a.eval x2=.int .i64 left) (h3:a.eval x3=.func (.func u) #[] caps) (h4:a.eval x4=.map (some B)) (h5:a.eval x5=.map (some T))
  (h:wpList Tryz.prog ops Q rest (a.put op.dst (.agg (ml (.pointer (some ⟨gb,go,none⟩)) q vs vc vi vp left (.func (.func u) #[] caps) B T))) w):wpList Tryz.prog ops Q (op::rest) a w:=by
 have he:((#[(0,x0),(1,x1),(2,x2),(3,x3),(4,x4),(7,x5)]:Array (Nat × Operand)).map fun (i,x)=>(i,a.eval x)).toList=[(0,.pointer (some ⟨gb,go,none⟩)),(1,.agg (qC q vs vc vi vp)),(2,.int .i64 left),(3,.func (.func u) #[] caps),(4,.map (some B)),(7,.map (some T))]:=by
  simp only[List.map_toArray,List.map_cons,List.map_nil,h0,h1,h2,h3,h4,h5]
 exact wpList_build hgd _ _ ho (by rw[he,qM];rfl) (by rw[he,qM];exact h)
theorem IE (p:Value) (q:au) (vs vc vi vp:Value) (left:Int) (use:Value) (B T:Nat):kW (ml p q vs vc vi vp left use B T) (fun j=>(ml p q vs vc vi vp left use B T)[j]?) left use B T (fun _=>.slice none 0 0) (.slice none 0 0):=by
 refine⟨rfl,fun _ _=>rfl,rfl,rfl,rfl,fun i hi=>?_,rfl,rfl⟩
 match i,hi with
 | 0,_=>rfl
 | 1,_=>rfl
 | 2,_=>rfl
 | 3,_=>rfl
 | 4,_=>rfl
 | 5,_=>rfl
theorem iJ.made (W:World):iJ (W.alloc (.map #[] 0)) W.heap.size 0 (fun _=>false):=⟨.map [],World.ownsMap_made W _ _ _,fun _ _=>rfl⟩
def Hk (W:World) (ub:Nat→Prop) (k:Nat):Prop:=k<W.heap.size∧¬ub k
theorem wN {W W4:World} {s1:Nat} {fd:Array Value} {fix:Nat→Option Value} {budget:Int} {use:Value} {ub:Nat→Prop} (hU:oX UInv) (hu0:UInv ub [] W) (hs:W.heap.size≤s1) (hb:Below W.heap.size W W4) (hl:Loc W4 (s1+1+1) fd 263) (hf:kW fd fix budget use s1 (s1+1) (fun _=>.slice none 0 0) (.slice none 0 0)) (hp:bF W4 s1 0 jN) (hn:iJ W4 (s1+1) 0 (fun _=>false)):
  gZ UInv (Hk W ub) W (s1+1+1) s1 (s1+1) fix use budget jN 0 (fun _=>.slice none 0 0) (fun _=>[]) (.slice none 0 0) [] ub [] W4:=by
 have hown:∀k,tr (s1+1+1) s1 (s1+1) (fun _=>Value.slice none 0 0) (.slice none 0 0) k→W.heap.size≤k:=by
  intro k hk
  rcases hk with rfl|rfl|rfl|⟨i,_,e⟩|e
  ·omega
  ·omega
  ·omega
  ·cases e
  ·cases e
 have hlow:=hU.low _ _ _ hu0
 have hfa:gT (fun _=>True) (s1+1+1) s1 (s1+1) fix budget use jN 0 (fun _=>.slice none 0 0) (fun _=>[]) (.slice none 0 0) [] W4:=
  ⟨⟨fd,hl,hf⟩,hp,⟨0,_,hn,by omega⟩,fun i _=>World.ownsRow_nil _ _ _ _,World.ownsRow_nil _ _ _ _,fun i _ j _ _=>Or.inl rfl,⟨trivial,trivial,trivial,fun _ _ _ _=>trivial,fun _ _=>trivial⟩,by omega⟩
 refine⟨hfa.tight,fun k hk=>⟨Nat.lt_of_lt_of_le hk.1 hb.size,fun e=>?_,hk.2⟩,fun k hk e=>?_,hU.KU _ _ _ _ hu0 hb.size (fun k hk=>hb.block k (hlow k hk)),⟨hb.os,hb.tape,hb.output,hb.size,fun k hk _=>hb.block k hk⟩⟩
 ·have:=hown k e
  have:=hk.1
  omega
 ·have:=hown k e
  have:=hlow k hk
  omega
theorem EE {W:World} {q:au} {ia pa:Option Addr} {ic pc:Nat} {budget:Int} {ub:Nat→Prop} (hU:oX UInv) (hcf:∀args w,(callFunc u args).run Tryz.prog w=.ok (.enter u args) w) (ok:Jb ns es q.ai q.conds) (hb:0≤budget∧budget≤5000) (hu0:UInv ub [] W)
  (hst:kS (fun k=>¬Hk W ub k) gb go ns es m W) (hss:oq (fun k=>¬Hk W ub k) sa sc q.ai W) (hsc:∀w,Kept (fun k=>¬Hk W ub k) W w→bO w 7 (.slice ca q.conds.length cc) q.conds.length (q.conds.flatMap kk)) (huse:∀B,yW UInv (Hk W ub) W B u caps):
  Calls Tryz.prog 130 #[.pointer (some ⟨gb,go,none⟩),.agg (qC q (.slice sa q.ai.length sc) (.slice ca q.conds.length cc) (.slice ia q.items.length ic) (.slice pa q.ay.length pc)),.int .i64 budget,.func (.func u) #[] caps] W fun e W'=>e=.returned (.bool (decide (0≤(aR ns es q budget).left)))∧∃ub',UInv ub' (aR ns es q budget).rows W'∧Kept ub W W'∧∀k,ub' k→ub k∨W.heap.size≤k:=by
 have hmk:=@run_makeMap Tryz.prog
 have HQ1:=hid (Loc.new W (qC q (.slice sa q.ai.length sc) (.slice ca q.conds.length cc) (.slice ia q.items.length ic) (.slice pa q.ay.length pc)) 29)
 have HB1:=hid ((Below.refl W.heap.size W).alloc (Nat.le_refl _) (.cells (qC q (.slice sa q.ai.length sc) (.slice ca q.conds.length cc) (.slice ia q.items.length ic) (.slice pa q.ay.length pc)) 29))
 go_enter Tryz.func130,Tryz.ntmps130
 go_upto_region 1 with fail
 obtain⟨Y,hY⟩:∃Y,Y=W.heap.size:=⟨_,rfl⟩
 rw[←hY] at HQ1⊢
 have HYE:=hid hY
 clear hY
 generalize W.alloc (.cells (qC q (.slice sa q.ai.length sc) (.slice ca q.conds.length cc) (.slice ia q.items.length ic) (.slice pa q.ay.length pc)) 29)=W1 at HB1 HQ1⊢
 refine wp_region_lit ?_
 refine iF rfl rfl ?_
 refine wpList_load_mid rfl 29 _ rfl Y 0 rfl (qC q (.slice sa q.ai.length sc) (.slice ca q.conds.length cc) (.slice ia q.items.length ic) (.slice pa q.ay.length pc)).toList _ HQ1.out.range Tryz.underlying29 rfl (by rw[Tryz.aX];rfl) ?_
 refine iF rfl rfl ?_
 refine iF rfl rfl ?_
 refine nE _ rfl rfl ?_
 refine nE _ rfl rfl ?_
 obtain⟨s1,hs1⟩:∃s1,W1.heap.size=s1:=⟨_,rfl⟩
 have hs2:(W1.alloc (.map #[] 0)).heap.size=s1+1:=by rw[World.size_alloc,hs1]
 have hs3:((W1.alloc (.map #[] 0)).alloc (.map #[] 0)).heap.size=s1+1+1:=by rw[World.size_alloc,hs2]
 rw[hs1,hs2]
 simp only[Array.toArray_toList]
 go_simp
 refine oW (x0:=.tmp 10) (x1:=.tmp 11) (x2:=.tmp 12) (x3:=.tmp 13) (x4:=.tmp 14) (x5:=.tmp 15) gb go q (.slice sa q.ai.length sc) (.slice ca q.conds.length cc) (.slice ia q.items.length ic) (.slice pa q.ay.length pc) budget u caps s1 (s1+1) rfl rfl (by simp only[Act.eval];rfl) (by simp only[Act.eval];rfl) (by simp only[Act.eval];rfl) (by simp only[Act.eval];rfl) (by simp only[Act.eval];rfl) (by simp only[Act.eval];rfl) ?_
 obtain⟨fd,hfd⟩:∃fd,ml (.pointer (some ⟨gb,go,none⟩)) q (.slice sa q.ai.length sc) (.slice ca q.conds.length cc) (.slice ia q.items.length ic) (.slice pa q.ay.length pc) budget (.func (.func u) #[] caps) s1 (s1+1)=fd:=⟨_,rfl⟩
 have hone:fd.all (·.oneCell')=true:=by rw[←hfd];exact JK
 have hsz:fd.size=29:=by rw[←hfd];rfl
 have HFC:=hid (IE (.pointer (some ⟨gb,go,none⟩)) q (.slice sa q.ai.length sc) (.slice ca q.conds.length cc) (.slice ia q.items.length ic) (.slice pa q.ay.length pc) budget (.func (.func u) #[] caps) s1 (s1+1))
 have HF0:Hid (fd[0]?=some (.pointer (some ⟨gb,go,none⟩))∧fd[2]?=some (.slice sa q.ai.length sc)∧fd[3]?=some (.slice ca q.conds.length cc)):=hid (by rw[←hfd];exact⟨rfl,rfl,rfl⟩)
 rw[hfd] at HFC⊢
 clear hfd
 refine oV rfl rfl ?_
 rw[hs3]
 have hn3:Loc (((W1.alloc (.map #[] 0)).alloc (.map #[] 0)).alloc (.cells iq 263)) (s1+1+1) iq 263:=by rw[←hs3];exact Loc.new _ _ _
 have hth:(((W1.alloc (.map #[] 0)).alloc (.map #[] 0)).alloc (.cells iq 263)).there (s1+1+1) 0 fd.size:=by rw[hsz];exact hn3.there
 go_simp
 refine wpList_store_mid rfl 263 _ _ rfl (s1+1+1) 0 fd (by simp only[Act.eval];rfl) (by simp only[Act.eval];rfl) hth (by rw[hsz];exact Tryz.Bc) hone ?_
 have HF4:=hid (hn3.dh (new:=fd) (by rw[hsz];rfl))
 have HG4:=hid (aS (s1+1+1) fd.toList 0 (((W1.alloc (.map #[] 0)).alloc (.map #[] 0)).alloc (.cells iq 263)))
 have hsW:W.heap.size≤s1:=by rw[←hs1];exact HB1.out.size
 have HP4:Hid (bF ((((W1.alloc (.map #[] 0)).alloc (.map #[] 0)).alloc (.cells iq 263)).setCells (s1+1+1) 0 fd.toList) s1 0 jN):=hid (by
  have h1:=bF.made W1
  rw[hs1] at h1
  have h2:=(h1.kept (ar _ (.map #[] 0) none) (by simp)).kept (ar _ (.cells iq 263) none) (by simp)
  exact h2.kept HG4.out (by intro e;injection e with e;omega))
 have HT4:Hid (iJ ((((W1.alloc (.map #[] 0)).alloc (.map #[] 0)).alloc (.cells iq 263)).setCells (s1+1+1) 0 fd.toList) (s1+1) 0 (fun _=>false)):=hid (by
  have h1:=iJ.made (W1.alloc (.map #[] 0))
  rw[hs2] at h1
  have h2:=h1.kept (ar _ (.cells iq 263) none) (by simp)
  exact h2.kept HG4.out (by intro e;injection e with e;omega))
 have HB4:Hid (Below W.heap.size W ((((W1.alloc (.map #[] 0)).alloc (.map #[] 0)).alloc (.cells iq 263)).setCells (s1+1+1) 0 fd.toList)):=hid (by
  have h1:=HB1.out.alloc HB1.out.size (.map #[] 0)
  have h2:=h1.alloc h1.size (.map #[] 0)
  have h3:=h2.alloc h2.size (.cells iq 263)
  exact h3.grown HG4.out h3.size (fun j hj=>by injection hj with hj;omega))
 have HC:=hid (wN hU hu0 hsW HB4.out HF4.out HFC.out HP4.out HT4.out)
 clear HP4 HT4 HB4 HG4 HF4 HQ1 HB1 hn3 hth hone hsz hs1 hs2 hs3 HYE hsW
 generalize (((W1.alloc (.map #[] 0)).alloc (.map #[] 0)).alloc (.cells iq 263)).setCells (s1+1+1) 0 fd.toList=W4 at HC⊢
 have HFX:Hid (GG UInv (Hk W ub) W s1 u caps (fun j=>fd[j]?) gb go m ns es sa sc q.ai ca cc q.conds):=hid ⟨HF0.out.1,HF0.out.2.1,HF0.out.2.2,hst,hss,hsc,huse s1⟩
 have HCH:=hid (BY hU ok hcf (F:=s1+1+1) (T:=s1+1) q.ai 0 ⟨#[]⟩ (Hk W ub) W budget jN 0 (fun _=>.slice none 0 0) (fun _=>[]) (.slice none 0 0) [] ub [] W4 HFX.out rfl (Nat.zero_le _) (fun p h0 _=>absurd h0 (Nat.lt_irrefl 0)) HC.out hb.1 hb.2 (by simp;omega) (by simp;omega))
 have HFO:Hid (bH ns es q.conds q.ai ⟨#[]⟩ ⟨budget,jN,[]⟩=aR ns es q budget):=hid rfl
 have HLE:=hid (gD ns es q.conds q.ai ⟨#[]⟩ ⟨budget,jN,[]⟩ hb.1)
 rw[HFO.out] at HCH HLE
 have h6:=ok.BN
 clear HFX HC HFC HF0 hst hss hsc huse hcf ok hu0 hU hmk HFO
 go_wp2_with fail
 refine HCH.out.mono ?_
 rintro e W5 ⟨rfl,ev',en',wv',ws',mb',ub',h5,_,_⟩
 obtain⟨cs5,hc5,hf5⟩:=h5.fa.cell
 have l5:W5.cell? ⟨s1+1+1,18,none⟩=some (.int .i64 (aR ns es q budget).left):=(hc5.cell 18).trans hf5.l
 have H5:=hid h5
 have hlo:=HLE.out.1
 have hhi:=HLE.out.2.1
 clear h5 hc5 hf5 HCH
 obtain⟨lf,hlf⟩:∃lf,(aR ns es q budget).left=lf:=⟨_,rfl⟩
 rw[hlf] at l5 hlo hhi
 have HLF:=hid hlf
 clear hlf
 have hp:Kept ub W W5∧∀k,ub' k→ub k∨W.heap.size≤k:=by
  refine⟨⟨H5.out.kept.os,H5.out.kept.tape,H5.out.kept.output,H5.out.kept.size,fun k hk hn=>H5.out.kept.block k hk (fun e=>e ⟨hk,hn⟩)⟩,fun k hk=>?_⟩
  by_cases h1:ub k
  ·exact Or.inl h1
  ·rcases Nat.lt_or_ge k W.heap.size with h2|h2
   ·exact absurd hk (H5.out.fx k ⟨h2,h1⟩).2.2
   ·exact Or.inr h2
 have HP:=hid hp
 clear hp
 go_wp2_with fail
 all_goals
  go_ret
  refine⟨?_,ub',H5.out.ui,HP.out.1,HP.out.2⟩
  rw[HLF.out]
  (try simp)
  (try omega)
end
end Go.Proofs.YtobgbmfpicmpcaaGreatDoor
