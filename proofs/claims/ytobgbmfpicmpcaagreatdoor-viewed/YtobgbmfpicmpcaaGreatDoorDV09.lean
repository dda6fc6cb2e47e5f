/- The law Viewed is proved: for every input (lists of numbers and numbers) the call returns true and all that was handed in reads as it did; the package variables that the row lists are tied to the program's own text by the given tie. -/
import Derived.Test.YtobgbmfpicmpcaaGreatDoorCards
import Derived.Test.YtobgbmfpicmpcaaGreatDoorDV01
import Derived.Test.YtobgbmfpicmpcaaGreatDoorTie
import Derived.Test.YtobgbmfpicmpcaaGreatDoorDV08
import Derived.ProofKit
import Derived.LaidMore
import Derived.Lay
import Derived.LaidSub
import Derived.OpenShut
import Derived.Stop.Joined
import Derived.Stop.LaidErr
import Derived.SevenTiedAt
import Derived.Carry
import Derived.Lib.LaidTab
import Derived.WideKeyArgs
import Derived.ChangeSlices
import Derived.Test.YtobgbmfpicmpcaaGreatDoorDV02
import Derived.Test.YtobgbmfpicmpcaaGreatDoorDV03
import Derived.Test.YtobgbmfpicmpcaaGreatDoorDV04
import Derived.Test.YtobgbmfpicmpcaaGreatDoorDV05
import Derived.Test.YtobgbmfpicmpcaaGreatDoorDV06
import Derived.Test.YtobgbmfpicmpcaaGreatDoorDV07
set_option maxRecDepth 100000
set_option maxHeartbeats 8000000
namespace Go.Proofs.YtobgbmfpicmpcaaGreatDoor
section
open Go.ChangeShapes Go.WideShapes Go.ChangeAt Go.RowKit
theorem Tryz.own:ownKnob Tryz.prog.godebug=none:=by kernel_rfl
theorem Lq : Tryz.prog.globalNamed "strconv.ErrRange" = some 5 := by kernel_rfl
theorem ni:(Tryz.prog.globals[5]?).map (·.type)=some 177:=by kernel_rfl
theorem LP:Tryz.prog.cellsOf 442=1:=by kernel_rfl
theorem LK:Tryz.prog.cellsOf 9=1:=by kernel_rfl
theorem star : "*" ++ "errors.errorString" = "*errors.errorString" := by decide
theorem Mq (u : TypeId) (h : Tryz.prog.typeName? 3 u = some "*errors.errorString") : u = 440 :=
 typeName_ptr_named (nm := "errors.errorString") (by rw [star]; kernel_rfl) (by kernel_rfl) (by decide) u (by rw [star]; exact h)
theorem Lx:(Tryz.prog.globals[0]?).map (·.type)=some 348:=by kernel_rfl
theorem F3:Tryz.prog.underlying 348=some (.array 20 278):=by kernel_rfl
theorem x7:Tryz.prog.underlying 278=some (.int .u64):=by kernel_rfl
theorem zc:Tryz.prog.cellsOf 278=1:=by kernel_rfl
theorem z6:Tryz.prog.cellsOf 348=20:=by kernel_rfl
theorem LS:(Rows.laid_internal_strconv_uint64pow10:DataW Unit)=Lib.tabData .u64 Lib.pow10Tab:=by rfl
theorem Ly {W:World} (h:laidMetH Tryz.prog Rows.viewedRow.laid W):∃ev,W.cell? ⟨5,0,none⟩=some ev∧(ev=.nilIface∨∃te pe,ev=.iface te pe):=by
 have h1 := laidMetH.filter (fun x => x.1 == "strconv.ErrRange") h
 have e : (Rows.viewedRow.laid.filter fun x => x.1 == "strconv.ErrRange") = [("strconv.ErrRange", Rows.laid_strconv_ErrRange)] := by kernel_rfl
 rw[e] at h1
 rw[MakeChecks.laidMetH_plain _ _ _ (by kernel_rfl)] at h1
 obtain⟨a0,s0,hv0,-,-,-⟩:=laid_sentinel h1 Lq ni Tryz.underlying177 Mq Tryz.underlying440 Tryz.underlying442 rfl rfl Tryz.underlying9 LP LK
 exact⟨_,by have h0:=World.var?_cell Lq hv0 0;simpa using h0,Or.inr ⟨_,_,rfl⟩⟩
theorem L1 {W:World} (h:laidMetH Tryz.prog Rows.viewedRow.laid W):BG W:=by
 have h1 := laidMetH.filter (fun x => x.1 == "internal/strconv.uint64pow10") h
 have e : (Rows.viewedRow.laid.filter fun x => x.1 == "internal/strconv.uint64pow10") = [("internal/strconv.uint64pow10", Rows.laid_internal_strconv_uint64pow10)] := by kernel_rfl
 rw[e] at h1
 rw[MakeChecks.laidMetH_plain _ _ _ (by kernel_rfl)] at h1
 rw[LS] at h1
 exact Lib.tabIs_of_head K5 Lx F3 x7 zc z6 h1
theorem b7 {n:Int} (h:(Lit.int .i64 n).wf=true):ux n:=by
 have h:=h
 rw[Lit.wf,Bool.and_eq_true,decide_eq_true_eq,decide_eq_true_eq] at h
 exact⟨h.1,h.2⟩
theorem LZ {W:World} (h:W.ShapedOpen Tryz.prog):∃mx,W.cell? ⟨1,0,none⟩=some (.int .i64 mx):=by
 obtain⟨cs,hh,hs,hr⟩:=h.1 1 #[.int .i64 0] 3 (Nat.lt_of_lt_of_le (Nat.lt_succ_self 1) (Nat.le_of_ble_eq_true (by kernel_rfl))) (by kernel_rfl)
 obtain⟨ts,hts,_,hall⟩:=hr (by kernel_rfl)
 have hc:Tryz.prog.cellTypes Tryz.prog.depth 3=some [3]:=by kernel_rfl
 rw[hc] at hts
 cases hts
 have h1:0<cs.size:=by rw[hs];decide
 obtain⟨u,hu',hok⟩:=hall 0 cs[0] (by simp[h1])
 have e:u=3:=by simpa using hu'.symm
 subst e
 have hcell:W.cell? ⟨1,0,none⟩=some cs[0]:=by simp[World.cell?,hh,h1]
 rw[hcell]
 unfold Cell.ok at hok
 rw[Tryz.underlying3] at hok
 cases hv:cs[0]<;>rw[hv] at hok<;>first|(simp at hok;done)|skip
 rename_i q n
 have hq:q=.i64:=(show q=.i64∧_ by simpa using hok).1
 subst hq
 exact⟨n,rfl⟩
theorem sT:Tryz.prog.cellsOf 3=1:=by kernel_rfl
theorem Ma (b o i:Nat):(⟨b,o,none⟩:Addr).add i=⟨b,o+i,none⟩:=by
 unfold Addr.add
 split<;>simp_all
theorem LO {H:Type} {enc:TypeId × Value→H} {W:World} {b0:Nat} {v:Value} {d:DataW H} {ps:List MemPlace} (h:DataW.Trod enc Tryz.prog W 0 (fun _=>true) true 53 v d ps) (hv:Value.okWide Tryz.prog W .any b0 53 v):∃(ao:Option Addr) (raw:List Int) (cp:Nat),v=.slice ao raw.length cp∧bO W 1 (.slice ao raw.length cp) raw.length (raw.flatMap kI)∧(∀x∈raw,ux x)∧raw.length≤maxLen:=by
 obtain⟨ao,len,cp,rfl⟩:∃ao len cp,v=.slice ao len cp:=by
  unfold Value.okWide at hv
  rw[Tryz.underlying53] at hv
  unfold Cell.okWide at hv
  rw[Tryz.underlying53] at hv
  cases v<;>first|exact⟨_,_,_,rfl⟩|(unfold Cell.ok at hv;rw[Tryz.underlying53] at hv;simp at hv;done)
 obtain⟨fuel,hf⟩:=h
 rcases open_ints Tryz.underlying53 Tryz.underlying3 sT hf with ⟨h0,_⟩|⟨a,len',cap',zs,hcs,_,hlc,hcm,hzl,_,hcell,hwf⟩
 ·have h1:[Value.slice ao len cp]=[.slice none 0 0]:=h0
  injection h1 with h1 _
  injection h1 with h1 h2 h3
  subst h1 h2 h3
  exact⟨none,[],0,rfl,⟨rfl,none,0,rfl,by decide,fun h=>absurd h (by decide)⟩,fun x hx=>(by cases hx),by unfold maxLen;decide⟩
 ·have h1:[Value.slice ao len cp]=[.slice (some a) len' cap']:=hcs
  injection h1 with h1 _
  injection h1 with h1 h2 h3
  subst h1 h2 h3
  have hzl':zs.length=cp:=by simpa using hzl
  have hle:(zs.take len).length=len:=by rw[List.length_take];omega
  refine⟨some a,zs.take len,cp,by rw[hle],?_,fun x hx=>b7 (hwf x (List.mem_of_mem_take hx)),by rw[hle];omega⟩
  rw[hle]
  have hfl:∀(l:List Int),(l.flatMap kI).length=l.length*1:=by
   intro l
   rw[←zo,List.length_map,Nat.mul_one]
  refine⟨by rw[hfl,hle],some a,cp,rfl,hlc,fun h0=>?_⟩
  obtain⟨b,o,sp⟩:=a
  have hsp:sp=none:=by
   have h2:=World.cell?_spot (hcell 0 (by omega))
   simpa [Addr.add] using h2
  subst hsp
  refine⟨b,o,rfl,fun j u hu=>?_⟩
  rw[←zo,List.getElem?_map] at hu
  have hj:j<len:=by
   rcases Nat.lt_or_ge j len with h|h
   ·exact h
   ·rw[List.getElem?_eq_none (by rw[hle];exact h)] at hu;cases hu
  have hjz:j<zs.length:=by omega
  rw[List.getElem?_take,if_pos hj,List.getElem?_eq_getElem hjz] at hu
  injection hu with hu
  have h3:=hcell j hjz
  rw[Ma] at h3
  rw[h3,←hu]
  have e:zs.getD j 0=zs[j]:=by simp[List.getD,hjz]
  rw[e]
theorem vy {H:Type} {enc:TypeId × Value→H} {P:Program} {w:World} {base:Nat} {spare:Nat→Bool} {held:Bool} {t0 t1 t2 t3 t4 t5:TypeId} {args:Array Value} {ds:List (DataW H)} {ps:List MemPlace} (h:DataW.TrodAll enc P w base spare held [t0,t1,t2,t3,t4,t5] args.toList ds ps):
  ∃v0 v1 v2 v3 v4 v5 d0 d1 d2 d3 d4 d5 p0 p1 p2 p3 p4 p5,args=#[v0,v1,v2,v3,v4,v5]∧ds=[d0,d1,d2,d3,d4,d5]∧ps=p0++(p1++(p2++(p3++(p4++(p5++[])))))∧DataW.Trod enc P w base spare held t0 v0 d0 p0∧DataW.Trod enc P w base spare held t1 v1 d1 p1∧DataW.Trod enc P w base spare held t2 v2 d2 p2∧DataW.Trod enc P w base spare held t3 v3 d3 p3∧DataW.Trod enc P w base spare held t4 v4 d4 p4∧DataW.Trod enc P w base spare held t5 v5 d5 p5:=by
 obtain⟨v0,vs0,d0,ds0,p0,q0,hargs,rfl,rfl,h0,hr0⟩:=trodAll_cons h
 obtain⟨v1,vs1,d1,ds1,p1,q1,rfl,rfl,rfl,h1,hr1⟩:=trodAll_cons hr0
 obtain⟨v2,vs2,d2,ds2,p2,q2,rfl,rfl,rfl,h2,hr2⟩:=trodAll_cons hr1
 obtain⟨v3,vs3,d3,ds3,p3,q3,rfl,rfl,rfl,h3,hr3⟩:=trodAll_cons hr2
 obtain⟨v4,vs4,d4,ds4,p4,q4,rfl,rfl,rfl,h4,hr4⟩:=trodAll_cons hr3
 obtain⟨v5,vs5,d5,ds5,p5,q5,rfl,rfl,rfl,h5,hr5⟩:=trodAll_cons hr4
 obtain⟨rfl,rfl,rfl⟩:=trodAll_nil hr5
 exact⟨v0,v1,v2,v3,v4,v5,d0,d1,d2,d3,d4,d5,p0,p1,p2,p3,p4,p5,by cases args;simp_all,rfl,rfl,h0,h1,h2,h3,h4,h5⟩
theorem lc:Tryz.prog.readableRec 53=true:=by kernel_rfl
theorem LJ:53<Tryz.prog.types.size:=Nat.lt_of_lt_of_le (Nat.lt_succ_self _) (Nat.le_of_ble_eq_true (by kernel_rfl))
theorem j1 (H:Type) (enc:TypeId × Value→H) (W:World) (base:Nat) (args:Array Value) (ds gs:List (DataW H)) (before:List MemPlace)
  (hval0:∀(j:Nat) t v,Tryz.f10.params[j]?=some t→args[j]?=some v→Value.okWide Tryz.prog W .any base t v)
  (hW:DataW.Whole enc Tryz.prog Tryz.f10.params.toList Rows.viewedSpec.vars false W args.toList ds gs before) (hL:laidMetH Tryz.prog Rows.viewedRow.laid W) (hsh:W.ShapedOpen Tryz.prog):
  Calls Tryz.prog 10 args W fun e W'=>∃v,e=.returned v∧Rows.viewedSpec.post enc Tryz.prog Tryz.f10 false true false false W args v W':=by
 have hval:∀(j:Nat) t v,Tryz.f10.params[j]?=some t→args[j]?=some v→Value.okWide Tryz.prog W .any base t v:=hval0
 have hW':=hW
 have hlt:=hW.lt
 obtain⟨p,qq,hA0,hV,rfl,_,_⟩:=hW
 have hA:DataW.TrodAll enc Tryz.prog W 0 (fun _=>true) true Tryz.f10.params.toList args.toList ds p:=hA0
 rw[Tryz.params10] at hA hval
 obtain⟨v0,v1,v2,v3,v4,v5,d0,d1,d2,d3,d4,d5,p0,p1,p2,p3,p4,p5,rfl,rfl,rfl,h0,h1,h2,h3,h4,h5⟩:=vy hA
 obtain⟨rfl,rfl⟩:=trodVars_none hV
 obtain⟨ao0,raw0,cp0,rfl,hraw0,hri0,hrl0⟩:=LO h0 (hval 0 53 v0 rfl rfl)
 obtain⟨x1,rfl,rfl,rfl,hx1⟩:=open_int Tryz.underlying3 (hval 1 3 v1 rfl rfl) h1
 obtain⟨x2,rfl,rfl,rfl,hx2⟩:=open_int Tryz.underlying3 (hval 2 3 v2 rfl rfl) h2
 obtain⟨x3,rfl,rfl,rfl,hx3⟩:=open_int Tryz.underlying3 (hval 3 3 v3 rfl rfl) h3
 obtain⟨x4,rfl,rfl,rfl,hx4⟩:=open_int Tryz.underlying3 (hval 4 3 v4 rfl rfl) h4
 obtain⟨x5,rfl,rfl,rfl,hx5⟩:=open_int Tryz.underlying3 (hval 5 3 v5 rfl rfl) h5
 obtain⟨ev,hg,hev⟩:=Ly hL
 have ht:=L1 hL
 obtain⟨mx,hmx⟩:=LZ hsh
 clear hA0 hval0
 simp only[List.append_nil] at hW' hlt
 refine(L5 hraw0 hri0 (by unfold maxLen at hrl0;omega) (b7 hx1) (b7 hx2) (b7 hx3) (b7 hx4) (b7 hx5) hmx ht hg hev).mono fun e W' ⟨he,hnx⟩=>?_
 subst he
 refine⟨_,rfl,_,_,_,[],p0++([]++([]++([]++([]++[])))),[],hW',?_,?_,rfl,hnx.frame _,fun h=>by cases h⟩
 ·exact trodAll_mk1 (shut_bool Tryz.underlying4 _)
 ·refine trodAll_cons_mk (WideElems.Trod_stays l6 lc LJ h0 (fun x hx=>?_) (fun x hx=>?_)) (trodAll_cons_mk (shut_int Tryz.underlying3 hx1) (trodAll_cons_mk (shut_int Tryz.underlying3 hx2) (trodAll_cons_mk (shut_int Tryz.underlying3 hx3) (trodAll_cons_mk (shut_int Tryz.underlying3 hx4) (trodAll_mk1 (shut_int Tryz.underlying3 hx5))))))
  ·have hb:=hlt x (by simp[hx])
   cases x with
   | cell b o=>exact hnx.cell hb
   | map b=>exact hnx.block b hb
  ·simpa using hlt x (by simp[hx])
theorem lr (os:Os) (started:os.Started) (H:Type) (enc:TypeId × Value→H):
  ReturnsInHanded {} Tryz.checked os 10 .any (fun w args=>(Rows.viewedSpec.pre enc Tryz.prog Tryz.f10 [] false w args∧laidMetH Tryz.prog Rows.viewedRow.laid w)∧sizedMet enc Tryz.prog Tryz.f10 (OpenSpec.ofChange Rows.viewedSpec) false w args)
   (Rows.viewedSpec.post enc Tryz.prog Tryz.f10 false true false false):=by
 refine returnsInHanded_of_calls (C:=Tryz.checked) Tryz.own started (by kernel_rfl)
  (ChangeSpec.witness_shaped (enc:=enc) (C:=Tryz.checked) (os:=os) (X:=fun w _=>laidMetH Tryz.prog Rows.viewedRow.laid w) false (World.laidAll Tryz.prog os Rows.viewedRow.laid) #[.slice none 0 0,.int .i64 0,.int .i64 0,.int .i64 0,.int .i64 0,.int .i64 0] 8 (World.laidAll_os _ _ _)
   (World.shaped_of_ZipB (by kernel_rfl) (by kernel_rfl)) (by kernel_rfl) (by kernel_rfl) (by kernel_rfl)
   (by rw[MakeChecks.laidMetH_plain _ _ _ (by kernel_rfl)];exact laidMet_laidAll _ (by kernel_rfl) (by kernel_rfl))) ?_
 intro w tape i _ hsh _ hok hpre _
 obtain⟨_,_,_,fn',hfn',_,_,_,_,hval⟩:=hok
 have e:fn'=Tryz.f10:=Option.some.inj (hfn'.symm.trans Tryz.func10)
 subst e
 obtain⟨⟨⟨ds,gs,before,hw,_⟩,hx⟩,_⟩:=hpre
 have hw':=DataW.Whole.of_heap (w':=w.forCall tape i) (by rfl) hw
 refine(j1 H enc (w.forCall tape i) w.heap.size i.args ds gs before hval hw' (hx.of_heap (by rfl)) hsh).mono fun e W' ⟨v,he,hp⟩=>?_
 subst he
 exact ChangeSpec.post_blind hp
theorem bx {a b:Bool} (h1:a=true) (h2:b=true):(a&&b)=true:=by rw[h1,h2];rfl
theorem kp:joinedFacts Tryz.prog 10 Tryz.f10 Rows.viewedSpec Rows.viewedRow=true:=by
 unfold joinedFacts
 exact bx (bx (bx (bx (bx (bx (bx (bx (bx (bx (bx (bx (bx (bx (bx (bx (bx (bx (bx (bx (bx (bx (bx (bx (bx (bx (bx (bx (bx (bx (bx (x8) l6) B1) Lz) Lo) F8) B2) G4) Ls) sb) vx) ud) sv) vH) xi) vg) ri) s6) tw) uc) xl) vm) u2) vb) xd) vo) s8) vz) tt) ti) tH) tk
theorem gi:Rows.ViewedSaid:=
 OpenClaim.holds_of_wide 10 Tryz.f10 rfl rfl rfl rfl rfl rfl rfl ⟨rfl,rfl,rfl,rfl,rfl⟩ rfl rfl rfl rfl rfl gu Tryz.func10 kp p8 o4
  (fun os started H enc _=>lr os started H enc)
theorem oc:Tryz.prog.wantsStandIn 53=false:=by kernel_rfl
theorem cX:Tryz.prog.wantsStandIn 3=false:=by kernel_rfl
theorem viewed_holds:Rows.ViewedCardSaid:=
 Claim7.holds_tied_plain_at .later [] [.data, .data, .data, .data, .sentinel, .sentinel, .pinned] true (true, "688554a4e8ee496442038ba4f4df914fac4bc704e873b26b6050a7898a9f0fee") true
  gi (fun _ h=>by cases h) FD (fun _ h=>by cases h) viewed_row_tie rfl ⟨rfl,rfl⟩ np rfl
  (fun f fn hf hfn=>by
   obtain rfl:f=10:=Option.some.inj (gu.symm.trans hf) |>.symm
   obtain rfl:fn=Tryz.f10:=(Option.some.inj (Tryz.func10.symm.trans hfn)).symm
   exact⟨lS,fun j t ht=>by
    rw[Tryz.params10] at ht
    have hm:t∈[53,3,3,3,3,3]:=by simpa using Array.mem_of_getElem? ht
    simp only[List.mem_cons,List.not_mem_nil,or_false] at hm
    rcases hm with rfl|rfl|rfl|rfl|rfl|rfl
    ·exact oc
    ·exact cX
    ·exact cX
    ·exact cX
    ·exact cX
    ·exact cX⟩)
  ob
#print axioms viewed_holds
end
end Go.Proofs.YtobgbmfpicmpcaaGreatDoor
