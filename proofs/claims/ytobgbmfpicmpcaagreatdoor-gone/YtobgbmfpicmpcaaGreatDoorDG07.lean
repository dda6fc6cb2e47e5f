/- The law Gone is proved: for every input (lists of numbers and numbers) the call returns true and all that was handed in reads as it did; the package variables that the row lists are tied to the program's own text by the given tie. -/
import Derived.Test.YtobgbmfpicmpcaaGreatDoorCards
import Derived.Test.YtobgbmfpicmpcaaGreatDoorDG01
import Derived.Test.YtobgbmfpicmpcaaGreatDoorTie
import Derived.Test.YtobgbmfpicmpcaaGreatDoorDG06
import Derived.ProofKit
import Derived.LaidMore
import Derived.Lay
import Derived.LaidSub
import Derived.OpenShut
import Derived.Stop.Joined
import Derived.Stop.LaidErr
import Derived.SevenTiedAt
import Derived.Carry
import Derived.Lib.LaidTab
import Derived.WideKeyArgs
import Derived.ChangeSlices
import Derived.Test.YtobgbmfpicmpcaaGreatDoorDG02
import Derived.Test.YtobgbmfpicmpcaaGreatDoorDG03
import Derived.Test.YtobgbmfpicmpcaaGreatDoorDG04
import Derived.Test.YtobgbmfpicmpcaaGreatDoorDG05
set_option maxRecDepth 100000
set_option maxHeartbeats 8000000
namespace Go.Proofs.YtobgbmfpicmpcaaGreatDoor
section
open Go.ChangeShapes Go.WideShapes Go.ChangeAt Go.RowKit
theorem Tryz.own:ownKnob Tryz.prog.godebug=none:=by kernel_rfl
theorem B1 : Tryz.prog.globalNamed "strconv.ErrRange" = some 5 := by kernel_rfl
theorem sb:(Tryz.prog.globals[5]?).map (·.type)=some 177:=by kernel_rfl
theorem Lx:Tryz.prog.cellsOf 442=1:=by kernel_rfl
theorem L2:Tryz.prog.cellsOf 9=1:=by kernel_rfl
theorem star : "*" ++ "errors.errorString" = "*errors.errorString" := by decide
theorem MH (u : TypeId) (h : Tryz.prog.typeName? 3 u = some "*errors.errorString") : u = 440 :=
 typeName_ptr_named (nm := "errors.errorString") (by rw [star]; kernel_rfl) (by kernel_rfl) (by decide) u (by rw [star]; exact h)
theorem A4:(Tryz.prog.globals[0]?).map (·.type)=some 348:=by kernel_rfl
theorem BS:Tryz.prog.underlying 348=some (.array 20 278):=by kernel_rfl
theorem Hd:Tryz.prog.underlying 278=some (.int .u64):=by kernel_rfl
theorem An:Tryz.prog.cellsOf 278=1:=by kernel_rfl
theorem E1:Tryz.prog.cellsOf 348=20:=by kernel_rfl
theorem LB:(Rows.laid_internal_strconv_uint64pow10:DataW Unit)=Lib.tabData .u64 Lib.pow10Tab:=by rfl
theorem F5 {W:World} (h:laidMetH Tryz.prog Rows.goneRow.laid W):∃ev,W.cell? ⟨5,0,none⟩=some ev∧(ev=.nilIface∨∃te pe,ev=.iface te pe):=by
 have h1 := laidMetH.filter (fun x => x.1 == "strconv.ErrRange") h
 have e : (Rows.goneRow.laid.filter fun x => x.1 == "strconv.ErrRange") = [("strconv.ErrRange", Rows.laid_strconv_ErrRange)] := by kernel_rfl
 rw[e] at h1
 rw[MakeChecks.laidMetH_plain _ _ _ (by kernel_rfl)] at h1
 obtain⟨a0,s0,hv0,-,-,-⟩:=laid_sentinel h1 B1 sb Tryz.underlying177 MH Tryz.underlying440 Tryz.underlying442 rfl rfl Tryz.underlying9 Lx L2
 exact⟨_,by have h0:=World.var?_cell B1 hv0 0;simpa using h0,Or.inr ⟨_,_,rfl⟩⟩
theorem Me {W:World} (h:laidMetH Tryz.prog Rows.goneRow.laid W):BG W:=by
 have h1 := laidMetH.filter (fun x => x.1 == "internal/strconv.uint64pow10") h
 have e : (Rows.goneRow.laid.filter fun x => x.1 == "internal/strconv.uint64pow10") = [("internal/strconv.uint64pow10", Rows.laid_internal_strconv_uint64pow10)] := by kernel_rfl
 rw[e] at h1
 rw[MakeChecks.laidMetH_plain _ _ _ (by kernel_rfl)] at h1
 rw[LB] at h1
 exact Lib.tabIs_of_head K5 A4 BS Hd An E1 h1
theorem pp {n:Int} (h:(Lit.int .i64 n).wf=true):ux n:=by
 have h:=h
 rw[Lit.wf,Bool.and_eq_true,decide_eq_true_eq,decide_eq_true_eq] at h
 exact⟨h.1,h.2⟩
theorem Mf {W:World} (h:W.ShapedOpen Tryz.prog):∃mx,W.cell? ⟨1,0,none⟩=some (.int .i64 mx):=by
 obtain⟨cs,hh,hs,hr⟩:=h.1 1 #[.int .i64 0] 3 (Nat.lt_of_lt_of_le (Nat.lt_succ_self 1) (Nat.le_of_ble_eq_true (by kernel_rfl))) (by kernel_rfl)
 obtain⟨ts,hts,_,hall⟩:=hr (by kernel_rfl)
 have hc:Tryz.prog.cellTypes Tryz.prog.depth 3=some [3]:=by kernel_rfl
 rw[hc] at hts
 cases hts
 have h1:0<cs.size:=by rw[hs];decide
 obtain⟨u,hu',hok⟩:=hall 0 cs[0] (by simp[h1])
 have e:u=3:=by simpa using hu'.symm
 subst e
 have hcell:W.cell? ⟨1,0,none⟩=some cs[0]:=by simp[World.cell?,hh,h1]
 rw[hcell]
 unfold Cell.ok at hok
 rw[Tryz.underlying3] at hok
 cases hv:cs[0]<;>rw[hv] at hok<;>first|(simp at hok;done)|skip
 rename_i q n
 have hq:q=.i64:=(show q=.i64∧_ by simpa using hok).1
 subst hq
 exact⟨n,rfl⟩
theorem ud:Tryz.prog.cellsOf 3=1:=by kernel_rfl
theorem MB (b o i:Nat):(⟨b,o,none⟩:Addr).add i=⟨b,o+i,none⟩:=by
 unfold Addr.add
 split<;>simp_all
theorem LD {H:Type} {enc:TypeId × Value→H} {W:World} {b0:Nat} {v:Value} {d:DataW H} {ps:List MemPlace} (h:DataW.Trod enc Tryz.prog W 0 (fun _=>true) true 53 v d ps) (hv:Value.okWide Tryz.prog W .any b0 53 v):∃(ao:Option Addr) (raw:List Int) (cp:Nat),v=.slice ao raw.length cp∧bO W 1 (.slice ao raw.length cp) raw.length (raw.flatMap kI)∧(∀x∈raw,ux x)∧raw.length≤maxLen:=by
 obtain⟨ao,len,cp,rfl⟩:∃ao len cp,v=.slice ao len cp:=by
  unfold Value.okWide at hv
  rw[Tryz.underlying53] at hv
  unfold Cell.okWide at hv
  rw[Tryz.underlying53] at hv
  cases v<;>first|exact⟨_,_,_,rfl⟩|(unfold Cell.ok at hv;rw[Tryz.underlying53] at hv;simp at hv;done)
 obtain⟨fuel,hf⟩:=h
 rcases open_ints Tryz.underlying53 Tryz.underlying3 ud hf with ⟨h0,_⟩|⟨a,len',cap',zs,hcs,_,hlc,hcm,hzl,_,hcell,hwf⟩
 ·have h1:[Value.slice ao len cp]=[.slice none 0 0]:=h0
  injection h1 with h1 _
  injection h1 with h1 h2 h3
  subst h1 h2 h3
  exact⟨none,[],0,rfl,⟨rfl,none,0,rfl,by decide,fun h=>absurd h (by decide)⟩,fun x hx=>(by cases hx),by unfold maxLen;decide⟩
 ·have h1:[Value.slice ao len cp]=[.slice (some a) len' cap']:=hcs
  injection h1 with h1 _
  injection h1 with h1 h2 h3
  subst h1 h2 h3
  have hzl':zs.length=cp:=by simpa using hzl
  have hle:(zs.take len).length=len:=by rw[List.length_take];omega
  refine⟨some a,zs.take len,cp,by rw[hle],?_,fun x hx=>pp (hwf x (List.mem_of_mem_take hx)),by rw[hle];omega⟩
  rw[hle]
  have hfl:∀(l:List Int),(l.flatMap kI).length=l.length*1:=by
   intro l
   rw[←zo,List.length_map,Nat.mul_one]
  refine⟨by rw[hfl,hle],some a,cp,rfl,hlc,fun h0=>?_⟩
  obtain⟨b,o,sp⟩:=a
  have hsp:sp=none:=by
   have h2:=World.cell?_spot (hcell 0 (by omega))
   simpa [Addr.add] using h2
  subst hsp
  refine⟨b,o,rfl,fun j u hu=>?_⟩
  rw[←zo,List.getElem?_map] at hu
  have hj:j<len:=by
   rcases Nat.lt_or_ge j len with h|h
   ·exact h
   ·rw[List.getElem?_eq_none (by rw[hle];exact h)] at hu;cases hu
  have hjz:j<zs.length:=by omega
  rw[List.getElem?_take,if_pos hj,List.getElem?_eq_getElem hjz] at hu
  injection hu with hu
  have h3:=hcell j hjz
  rw[MB] at h3
  rw[h3,←hu]
  have e:zs.getD j 0=zs[j]:=by simp[List.getD,hjz]
  rw[e]
theorem tH {H:Type} {enc:TypeId × Value→H} {P:Program} {w:World} {base:Nat} {spare:Nat→Bool} {held:Bool} {t0:TypeId} {args:Array Value} {ds:List (DataW H)} {ps:List MemPlace} (h:DataW.TrodAll enc P w base spare held [t0] args.toList ds ps):
  ∃v0 d0 p0,args=#[v0]∧ds=[d0]∧ps=p0++[]∧DataW.Trod enc P w base spare held t0 v0 d0 p0:=by
 obtain⟨v0,vs0,d0,ds0,p0,q0,hargs,rfl,rfl,h0,hr0⟩:=trodAll_cons h
 obtain⟨rfl,rfl,rfl⟩:=trodAll_nil hr0
 exact⟨v0,d0,p0,by cases args;simp_all,rfl,rfl,h0⟩
theorem lC:Tryz.prog.readableRec 53=true:=by kernel_rfl
theorem L4:53<Tryz.prog.types.size:=Nat.lt_of_lt_of_le (Nat.lt_succ_self _) (Nat.le_of_ble_eq_true (by kernel_rfl))
theorem lP (H:Type) (enc:TypeId × Value→H) (W:World) (base:Nat) (args:Array Value) (ds gs:List (DataW H)) (before:List MemPlace)
  (hval0:∀(j:Nat) t v,Tryz.f13.params[j]?=some t→args[j]?=some v→Value.okWide Tryz.prog W .any base t v)
  (hW:DataW.Whole enc Tryz.prog Tryz.f13.params.toList Rows.goneSpec.vars false W args.toList ds gs before) (hL:laidMetH Tryz.prog Rows.goneRow.laid W) (hsh:W.ShapedOpen Tryz.prog):
  Calls Tryz.prog 13 args W fun e W'=>∃v,e=.returned v∧Rows.goneSpec.post enc Tryz.prog Tryz.f13 false true false false W args v W':=by
 have hval:∀(j:Nat) t v,Tryz.f13.params[j]?=some t→args[j]?=some v→Value.okWide Tryz.prog W .any base t v:=hval0
 have hW':=hW
 have hlt:=hW.lt
 obtain⟨p,qq,hA0,hV,rfl,_,_⟩:=hW
 have hA:DataW.TrodAll enc Tryz.prog W 0 (fun _=>true) true Tryz.f13.params.toList args.toList ds p:=hA0
 rw[Tryz.params13] at hA hval
 obtain⟨v0,d0,p0,rfl,rfl,rfl,h0⟩:=tH hA
 obtain⟨rfl,rfl⟩:=trodVars_none hV
 obtain⟨ao0,raw0,cp0,rfl,hraw0,hri0,hrl0⟩:=LD h0 (hval 0 53 v0 rfl rfl)
 obtain⟨ev,hg,hev⟩:=F5 hL
 have ht:=Me hL
 obtain⟨mx,hmx⟩:=Mf hsh
 clear hA0 hval0
 simp only[List.append_nil] at hW' hlt
 refine(gone hraw0 hri0 (by unfold maxLen at hrl0;omega) hmx ht hg hev).mono fun e W' ⟨he,hnx⟩=>?_
 subst he
 refine⟨_,rfl,_,_,_,[],p0,[],hW',?_,?_,rfl,hnx.frame _,fun h=>by cases h⟩
 ·exact trodAll_mk1 (shut_bool Tryz.underlying4 _)
 ·refine trodAll_mk1 (WideElems.Trod_stays F6 lC L4 h0 (fun x hx=>?_) (fun x hx=>?_))
  ·have hb:=hlt x (by simp[hx])
   cases x with
   | cell b o=>exact hnx.cell hb
   | map b=>exact hnx.block b hb
  ·simpa using hlt x (by simp[hx])
theorem qx (os:Os) (started:os.Started) (H:Type) (enc:TypeId × Value→H):
  ReturnsInHanded {} Tryz.checked os 13 .any (fun w args=>(Rows.goneSpec.pre enc Tryz.prog Tryz.f13 [] false w args∧laidMetH Tryz.prog Rows.goneRow.laid w)∧sizedMet enc Tryz.prog Tryz.f13 (OpenSpec.ofChange Rows.goneSpec) false w args)
   (Rows.goneSpec.post enc Tryz.prog Tryz.f13 false true false false):=by
 refine returnsInHanded_of_calls (C:=Tryz.checked) Tryz.own started (by kernel_rfl)
  (ChangeSpec.witness_shaped (enc:=enc) (C:=Tryz.checked) (os:=os) (X:=fun w _=>laidMetH Tryz.prog Rows.goneRow.laid w) false (World.laidAll Tryz.prog os Rows.goneRow.laid) #[.slice none 0 0] 8 (World.laidAll_os _ _ _)
   (World.shaped_of_ZipB (by kernel_rfl) (by kernel_rfl)) (by kernel_rfl) (by kernel_rfl) (by kernel_rfl)
   (by rw[MakeChecks.laidMetH_plain _ _ _ (by kernel_rfl)];exact laidMet_laidAll _ (by kernel_rfl) (by kernel_rfl))) ?_
 intro w tape i _ hsh _ hok hpre _
 obtain⟨_,_,_,fn',hfn',_,_,_,_,hval⟩:=hok
 have e:fn'=Tryz.f13:=Option.some.inj (hfn'.symm.trans Tryz.func13)
 subst e
 obtain⟨⟨⟨ds,gs,before,hw,_⟩,hx⟩,_⟩:=hpre
 have hw':=DataW.Whole.of_heap (w':=w.forCall tape i) (by rfl) hw
 refine(lP H enc (w.forCall tape i) w.heap.size i.args ds gs before hval hw' (hx.of_heap (by rfl)) hsh).mono fun e W' ⟨v,he,hp⟩=>?_
 subst he
 exact ChangeSpec.post_blind hp
theorem ba {a b:Bool} (h1:a=true) (h2:b=true):(a&&b)=true:=by rw[h1,h2];rfl
theorem ra:joinedFacts Tryz.prog 13 Tryz.f13 Rows.goneSpec Rows.goneRow=true:=by
 unfold joinedFacts
 exact ba (ba (ba (ba (ba (ba (ba (ba (ba (ba (ba (ba (ba (ba (ba (ba (ba (ba (ba (ba (ba (ba (ba (ba (ba (ba (ba (ba (ba (ba (ba (Mh) F6) Mu) Mn) My) Mq) Mr) Mg) Mx) Lo) Ln) LX) LL) Lt) L1) LJ) LK) Ls) Lu) LA) Lz) Lv) LF) LM) Ly) Is) LC) L5) LV) LO) L7) LS
theorem jc:Rows.GoneSaid:=
 OpenClaim.holds_of_wide 13 Tryz.f13 rfl rfl rfl rfl rfl rfl rfl ⟨rfl,rfl,rfl,rfl,rfl⟩ rfl rfl rfl rfl rfl j2 Tryz.func13 ra F0 G4
  (fun os started H enc _=>qx os started H enc)
theorem o4:Tryz.prog.wantsStandIn 53=false:=by kernel_rfl
theorem gone_holds:Rows.GoneCardSaid:=
 Claim7.holds_tied_plain_at .later [] [.data, .data, .data, .data, .sentinel, .sentinel, .pinned] true (true, "688554a4e8ee496442038ba4f4df914fac4bc704e873b26b6050a7898a9f0fee") true
  jc (fun _ h=>by cases h) Ml (fun _ h=>by cases h) gone_row_tie rfl ⟨rfl,rfl⟩ F2 rfl
  (fun f fn hf hfn=>by
   obtain rfl:f=13:=Option.some.inj (j2.symm.trans hf) |>.symm
   obtain rfl:fn=Tryz.f13:=(Option.some.inj (Tryz.func13.symm.trans hfn)).symm
   exact⟨uc,fun j t ht=>by
    rw[Tryz.params13] at ht
    have hm:t∈[53]:=by simpa using Array.mem_of_getElem? ht
    simp only[List.mem_cons,List.not_mem_nil,or_false] at hm
    rcases hm with rfl
    ·exact o4⟩)
  zi
#print axioms gone_holds
end
end Go.Proofs.YtobgbmfpicmpcaaGreatDoor
