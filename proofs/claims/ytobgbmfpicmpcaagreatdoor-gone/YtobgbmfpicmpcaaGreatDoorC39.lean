/- The changes: done, Do. -/
import Derived.Test.YtobgbmfpicmpcaaGreatDoorC38
import Derived.Lib.Hide
set_option maxRecDepth 100000
set_option maxHeartbeats 8000000
namespace Go.Proofs.YtobgbmfpicmpcaaGreatDoor
open Go.Lib (hid)
section
open Go.RowKit Go.Maps Go.Sort
variable {gb go m:Nat} {T:TypeId} {cs:Array Value} {vn ve:Value} {ns:List aq} {es:List aJ} {last:Int} {W:World}
theorem pV.from {W W2 w:World} {g:oJ} (h:pV gb go T cs vn ve ns m W2 g w) (hb:Below W.heap.size W W2):pV gb go T cs vn ve ns m W g w:=by
 obtain⟨ns',cs',vn',ve',m',a,b,c,d,e,f,i,j,k⟩:=h
 exact⟨ns',cs',vn',ve',m',a,b,c,d,((Kept.refl _ W).below hb).trans e,fun x hx=>(f x hx).imp id (fun h=>Nat.le_trans hb.size h),fun x hx=>(i x hx).imp id (fun h=>Nat.le_trans hb.size h),fun y hy=>(j y hy).imp id (fun h=>Nat.le_trans hb.size h),k⟩
theorem pV.below {W W2 w:World} {g:oJ} (h:pV gb go T cs vn ve ns m W g W2) (hb:Below W2.heap.size W2 w):pV gb go T cs vn ve ns m W g w:=by
 obtain⟨ns',cs',vn',ve',m',a,b,c,d,e,f,i,j,k⟩:=h
 exact⟨ns',cs',vn',ve',m',a,b.later hb,c,d,e.below hb,f,i,j,k⟩
theorem Ko {rb rn cap:Nat} {S:aI→Bool} {nm:ByteArray} {q:au} {budget:Int} {vs vc vi:Value} {aop:Option Addr} (h:ed gb go T cs vn ve ns es last m W) (hz:go+2<cs.size) (hg:qG ⟨ns,es,last⟩) (hpm:6≤m) (hr:bm W rb rn S) (hq:iS q) (hp:bO W 2 (.slice aop q.ay.length cap) q.ay.length (q.ay.flatMap nS)):
  Calls Tryz.prog 197 #[.pointer (some ⟨gb,go,none⟩),.agg #[.string nm,.map (some rb)],.agg (qC q vs vc vi (.slice aop q.ay.length cap)),.int .i64 budget] W fun e W'=>e=.returned (.tuple #[.int .i64 (ER S ⟨ns,es,last⟩ q budget).1,.int .i64 (ER S ⟨ns,es,last⟩ q budget).2.1])∧pV gb go T cs vn ve ns m W (ER S ⟨ns,es,last⟩ q budget).2.2 W':=by
 obtain⟨_,hl,h6,hk⟩:=mQ hq
 have hn:=hg.n40
 simp only at hn
 by_cases hm:iH S q budget ns.length=0
 ·have e:ER S ⟨ns,es,last⟩ q budget=(last+1,0,⟨ns++[⟨last+1,q.label,0,lj q.ay⟩],es,last+1⟩):=by
   unfold ER
   simp only
   rw[if_pos hm]
  rw[e]
  have hla:=hg.last
  simp only at hla
  refine(I1 h hz hr hp (by omega) hl hk ⟨hla.1,by omega⟩ (by omega) hm).mono ?_
  rintro e W' ⟨rfl,vn',cs',pb,h',hs',ho',hpb,hk',hgr⟩
  refine⟨rfl,_,cs',vn',ve,m,?_,h',hs',fun j hj=>ho' j (by omega) (by omega),hk'.kt (fun b hb=>hb.elim Or.inl (fun hb=>Or.inr (Or.inl hb))),hgr,fun b hb=>Or.inl hb,fun y hy=>?_,by omega⟩
  ·simp[de]
  ·rcases List.mem_append.1 hy with hy|hy
   ·exact Or.inl ⟨y,hy,rfl⟩
   ·rw[List.mem_singleton.1 hy]
    exact Or.inr hpb
 ·have e:ER S ⟨ns,es,last⟩ q budget=(0,iH S q budget ns.length,⟨ns,es,last⟩):=by
   unfold ER
   simp only
   rw[if_neg hm]
  rw[e]
  refine(JG h hr hp (by omega) hl (fun p hp=>(hk p hp).1) (by omega) (by simpa using hm)).mono ?_
  rintro e W' ⟨rfl,hb⟩
  exact⟨rfl,pV.same h hb⟩
theorem Kb {rb rn sc cc ic pc:Nat} {S:aI→Bool} {nm:ByteArray} {q:au} {budget:Int} {sa ca ia pa:Option Addr} (h:ed gb go T cs vn ve ns es last m W) (hz:go+2<cs.size) (hg:qG ⟨ns,es,last⟩) (hm:6≤m∧m+7000<maxLen) (hr:bm W rb rn S) (hq:mM q∨kz q∨km q∨iS q) (hb:0≤budget∧budget≤5000)
  (hss:bO W 5 (.slice sa q.ai.length sc) q.ai.length (q.ai.flatMap kN)) (hsc:bO W 7 (.slice ca q.conds.length cc) q.conds.length (q.conds.flatMap kk)) (hsp:bO W 2 (.slice pa q.ay.length pc) q.ay.length (q.ay.flatMap nS)):
  Calls Tryz.prog 144 #[.pointer (some ⟨gb,go,none⟩),.agg #[.string nm,.map (some rb)],.agg (qC q (.slice sa q.ai.length sc) (.slice ca q.conds.length cc) (.slice ia q.items.length ic) (.slice pa q.ay.length pc)),.int .i64 budget] W fun e W'=>e=.returned (.tuple #[.int .i64 (tA S ⟨ns,es,last⟩ q budget).1,.int .i64 (tA S ⟨ns,es,last⟩ q budget).2.1])∧pV gb go T cs vn ve ns m W (tA S ⟨ns,es,last⟩ q budget).2.2 W':=by
 obtain⟨qc,hqc⟩:∃qc,qC q (.slice sa q.ai.length sc) (.slice ca q.conds.length cc) (.slice ia q.items.length ic) (.slice pa q.ay.length pc)=qc:=⟨_,rfl⟩
 have hqs:qc.size=17:=by rw[←hqc];rfl
 have hB1:=(Below.refl W.heap.size W).alloc (Nat.le_refl _) (.cells #[.string nm,.map (some rb)] 118)
 have hB2:=hB1.alloc hB1.size (.cells qc 29)
 have HR2:=hid ((Loc.new W #[.string nm,.map (some rb)] 118).alloc (.cells qc 29))
 have HQ2:=hid (Loc.new (W.alloc (.cells #[.string nm,.map (some rb)] 118)) qc 29)
 have HB2:=hid hB2
 have HQS:Hid ((Tryz.prog.info? 29).map (·.size)=some qc.toList.length):=hid (by rw[Tryz.aX,Array.length_toList,hqs])
 have hkind:qc[0]?=some (.int .i64 q.kind):=by rw[←hqc];rfl
 obtain⟨f,hf1,hf2⟩:∃f:FuncId,(f=(if q.kind=5 then (197:Nat) else if q.kind=4 then 198 else if q.kind=2 then 199 else 200))∧Calls Tryz.prog f #[.pointer (some ⟨gb,go,none⟩),.agg #[.string nm,.map (some rb)],.agg qc,.int .i64 budget] ((W.alloc (.cells #[.string nm,.map (some rb)] 118)).alloc (.cells qc 29)) fun e W'=>e=.returned (.tuple #[.int .i64 (tA S ⟨ns,es,last⟩ q budget).1,.int .i64 (tA S ⟨ns,es,last⟩ q budget).2.1])∧pV gb go T cs vn ve ns m W (tA S ⟨ns,es,last⟩ q budget).2.2 W':=by
  refine⟨_,rfl,?_⟩
  rw[←hqc]
  have h2:=h.later (by rw[hqc];exact hB2:Below W.heap.size W ((W.alloc (.cells #[.string nm,.map (some rb)] 118)).alloc (.cells (qC q (.slice sa q.ai.length sc) (.slice ca q.conds.length cc) (.slice ia q.items.length ic) (.slice pa q.ay.length pc)) 29)))
  have hb2:Below W.heap.size W ((W.alloc (.cells #[.string nm,.map (some rb)] 118)).alloc (.cells (qC q (.slice sa q.ai.length sc) (.slice ca q.conds.length cc) (.slice ia q.items.length ic) (.slice pa q.ay.length pc)) 29)):=by rw[hqc];exact hB2
  have hr2:=hr.kept (af hb2 none) (by simp)
  unfold tA
  rcases hq with hq|hq|hq|hq
  ·obtain⟨a1,a2,a3,a4,a5,a6⟩:=qj hq
   rw[a2,if_neg (by decide),if_neg (by decide),if_pos rfl,if_neg (by decide),if_neg (by decide),if_pos rfl]
   refine(KH h2 hg hm.2 hr2 a1 hb a3 a4 a5 a6 (hss.below hb2) (hsc.below hb2)).mono ?_
   rintro e W' ⟨rfl,hc⟩
   exact⟨rfl,hc.from hb2⟩
  ·obtain⟨a1,a2,a3⟩:=ol hq
   rw[a2,if_neg (by decide),if_neg (by decide),if_neg (by decide),if_neg (by decide),if_neg (by decide),if_neg (by decide)]
   refine(Ky h2 hz hg (by omega) hr2 a1 hb a3 (hss.below hb2) (hsc.below hb2)).mono ?_
   rintro e W' ⟨rfl,hc⟩
   exact⟨rfl,hc.from hb2⟩
  ·obtain⟨a1,a2,a3,a4,a5⟩:=og hq
   rw[a2,if_neg (by decide),if_pos rfl,if_neg (by decide),if_pos rfl]
   refine(Km h2 hz hg (by omega) hr2 a1 hb a3 a4 a5 (hss.below hb2) (hsc.below hb2)).mono ?_
   rintro e W' ⟨rfl,hc⟩
   exact⟨rfl,hc.from hb2⟩
  ·obtain⟨a1,_,_,_⟩:=mQ hq
   rw[a1,if_pos rfl,if_pos rfl]
   refine(Ko h2 hz hg hm.1 hr2 hq (hsp.below hb2)).mono ?_
   rintro e W' ⟨rfl,hc⟩
   exact⟨rfl,hc.from hb2⟩
 have hks:q.kind=2∨q.kind=3∨q.kind=4∨q.kind=5:=by
  rcases hq with hq|hq|hq|hq
  ·exact Or.inl (qj hq).2.1
  ·exact Or.inr (Or.inl (ol hq).2.1)
  ·exact Or.inr (Or.inr (Or.inl (og hq).2.1))
  ·exact Or.inr (Or.inr (Or.inr (mQ hq).1))
 have HF2:=hid hf2
 have HKD:=hid hkind
 clear h hz hg hm hr hq hb hss hsc hsp hB1 hB2 hqs hf2 hkind
 rw[hqc]
 clear hqc
 generalize tA S ⟨ns,es,last⟩ q budget=R at HF2⊢
 generalize q.kind=kd at hf1 hks HKD
 rcases hks with hks|hks|hks|hks
 all_goals
  subst hks
  simp only[reduceIte,Int.reduceEq] at hf1
  subst hf1
  go_enter Tryz.func144,Tryz.ntmps144
  go_upto_region 1 with fail
  obtain⟨Y,hY⟩:∃Y,Y=W.heap.size:=⟨_,rfl⟩
  rw[World.size_alloc] at HQ2
  rw[←hY] at HR2 HQ2⊢
  clear hY
  generalize (W.alloc (.cells #[.string nm,.map (some rb)] 118)).alloc (.cells qc 29)=W2 at HF2 HB2 HR2 HQ2⊢
  have r0:=HR2.out.at_ 0 (.string nm) rfl
  have r1:=HR2.out.at_ 1 (.map (some rb)) rfl
  have k0:W2.cell? ⟨Y+1,0,none⟩=some (.int .i64 _):=(HQ2.out.cell 0).trans HKD.out
  go_wp2_with (refine wpList_load_mid rfl 29 _ rfl (Y+1) 0 rfl qc.toList _ HQ2.out.range Tryz.underlying29 rfl HQS.out ?_;simp only[Array.toArray_toList])
  refine HF2.out.mono ?_
  rintro e W3 ⟨rfl,hc⟩
  have HC:=hid hc
  clear hc HF2
  go_wp2_with fail
  go_ret2
  exact⟨rfl,HC.out⟩
end
section
open Go.RowKit Go.Maps Go.Sort
variable {gb go m:Nat} {T:TypeId} {cs:Array Value} {vn ve:Value} {ns:List aq} {es:List aJ} {last:Int} {W:World}
def Jm (S:aI→Bool) (g:oJ) (q:au) (b:Int):List ByteArray × Int:=if (tA S g q b).2.1=0 then ([dB (tA S g q b).1],0) else ([],(tA S g q b).2.1)
theorem CD {S:aI→Bool} {g:oJ} {q:au} {b:Int} (hg:qG g) (hb:0≤b∧b≤5000) (hq:mM q∨kz q∨km q∨iS q):0≤(tA S g q b).1∧(tA S g q b).1≤1000001:=by
 unfold tA
 have hn:∀{x y z:Int × Int × oJ} {c:Prop} [Decidable c],(0≤x.1∧x.1≤1000001)→(0≤y.1∧y.1≤1000001)→(0≤(if c then x else y).1∧(if c then x else y).1≤1000001):=by
  intro x y z c _ h1 h2
  split
  ·exact h1
  ·exact h2
 have h0:∀(e:Int) (g:oJ),(0:Int)≤((0,e,g):Int × Int × oJ).1∧((0,e,g):Int × Int × oJ).1≤1000001:=fun e g=>⟨by simp,by simp⟩
 have hl:=hg.last
 rcases hq with hq|hq|hq|hq
 ·obtain⟨a1,a2,_⟩:=qj hq
  rw[a2,if_neg (by decide),if_neg (by decide),if_pos rfl]
  unfold D8
  have h1:=mn (k:=q.name) (ns:=gq S g.ns) (es:=jS S g.ns g.es) hb a1.BN
  exact hn (z:=(0,0,g)) (hn (z:=(0,0,g)) ⟨by simp,by simp only;unfold iD;omega⟩ (h0 _ _)) (h0 _ _)
 ·obtain⟨a1,a2,_⟩:=ol hq
  rw[a2,if_neg (by decide),if_neg (by decide),if_neg (by decide)]
  unfold BK
  have h1:=mn (k:=q.name) (ns:=gq S g.ns) (es:=jS S g.ns g.es) hb a1.BN
  exact hn (z:=(0,0,g)) (hn (z:=(0,0,g)) ⟨by simp,by simp only;unfold iD;omega⟩ (h0 _ _)) (h0 _ _)
 ·obtain⟨a1,a2,_⟩:=og hq
  rw[a2,if_neg (by decide),if_pos rfl]
  unfold BL
  have h1:=tI (k:=q.name) (k2:=q.dest) (ns:=gq S g.ns) (es:=jS S g.ns g.es) hb a1.BN
  exact hn (z:=(0,0,g)) (hn (z:=(0,0,g)) (hn (z:=(0,0,g)) ⟨by simp,by simp only;unfold iD;omega⟩ (h0 _ _)) (h0 _ _)) (h0 _ _)
 ·obtain⟨a2,_⟩:=mQ hq
  rw[a2,if_pos rfl]
  unfold ER
  exact hn (z:=(0,0,g)) ⟨by simp only;omega,by simp only;omega⟩ (h0 _ _)
theorem pV.under {B:Nat} {W w:World} {g:oJ} (h:pV gb go T cs vn ve ns m W g w) (hlo:∀b,uz gb vn ve ns b→B≤b) (hB:B≤W.heap.size):Below B W w:=by
 obtain⟨_,_,_,_,_,_,_,_,_,k,_⟩:=h
 exact⟨k.os,k.tape,k.output,k.size,fun b hb=>k.block b (Nat.lt_of_lt_of_le hb hB) (fun e=>by have:=hlo b e;omega)⟩
theorem Ll {B rb rn sc cc ic pc:Nat} {S:aI→Bool} {nm:ByteArray} {q:au} {budget:Int} {sa ca ia pa:Option Addr} (h:ed gb go T cs vn ve ns es last m W) (hz:go+2<cs.size) (hg:qG ⟨ns,es,last⟩) (hm:6≤m∧m+7000<maxLen) (hr:bm W rb rn S) (hq:mM q∨kz q∨km q∨iS q) (hb:0≤budget∧budget≤5000) (hlo:∀b,uz gb vn ve ns b→B≤b) (hB:B≤W.heap.size) (ht:∀w,Below B W w→BG w)
  (hss:bO W 5 (.slice sa q.ai.length sc) q.ai.length (q.ai.flatMap kN)) (hsc:bO W 7 (.slice ca q.conds.length cc) q.conds.length (q.conds.flatMap kk)) (hsp:bO W 2 (.slice pa q.ay.length pc) q.ay.length (q.ay.flatMap nS)):
  Calls Tryz.prog 66 #[.pointer (some ⟨gb,go,none⟩),.agg #[.string nm,.map (some rb)],.agg (qC q (.slice sa q.ai.length sc) (.slice ca q.conds.length cc) (.slice ia q.items.length ic) (.slice pa q.ay.length pc)),.int .i64 budget] W fun e W'=>(∃v,e=.returned (.tuple #[v,.int .i64 (Jm S ⟨ns,es,last⟩ q budget).2])∧W'.ownsRow W.heap.size 9 1 v (Jm S ⟨ns,es,last⟩ q budget).1.length (strs (Jm S ⟨ns,es,last⟩ q budget).1))∧pV gb go T cs vn ve ns m W (tA S ⟨ns,es,last⟩ q budget).2.2 W':=by
 obtain⟨qc,hqc⟩:∃qc,qC q (.slice sa q.ai.length sc) (.slice ca q.conds.length cc) (.slice ia q.items.length ic) (.slice pa q.ay.length pc)=qc:=⟨_,rfl⟩
 have hqs:qc.size=17:=by rw[←hqc];rfl
 have hB1:=(Below.refl W.heap.size W).alloc (Nat.le_refl _) (.cells #[.string nm,.map (some rb)] 118)
 have hB2:=hB1.alloc hB1.size (.cells qc 29)
 have HR2:=hid ((Loc.new W #[.string nm,.map (some rb)] 118).alloc (.cells qc 29))
 have HQ2:=hid (Loc.new (W.alloc (.cells #[.string nm,.map (some rb)] 118)) qc 29)
 have HB2:=hid hB2
 have HQS:Hid ((Tryz.prog.info? 29).map (·.size)=some qc.toList.length):=hid (by rw[Tryz.aX,Array.length_toList,hqs])
 have HD:=hid (Kb (nm:=nm) (ia:=ia) (ic:=ic) (h.later hB2) hz hg hm (hr.kept (af hB2 none) (by simp)) hq hb (hss.below hB2) (hsc.below hB2) (hsp.below hB2))
 rw[hqc] at HD
 have hcn:=CD (S:=S) hg hb hq
 have HLO:=hid hlo
 have HBB:=hid hB
 have HT:=hid ht
 clear h hz hg hm hr hq hb hlo hB ht hss hsc hsp hB1 hB2 hqs
 rw[hqc]
 clear hqc
 unfold Jm
 generalize tA S ⟨ns,es,last⟩ q budget=R at HD hcn⊢
 obtain⟨cnt,ern,g2⟩:=R
 simp only at HD hcn⊢
 go_enter Tryz.func66,Tryz.ntmps66
 go_upto_region 1 with fail
 obtain⟨Y,hY⟩:∃Y,Y=W.heap.size:=⟨_,rfl⟩
 rw[World.size_alloc] at HQ2
 rw[←hY] at HR2 HQ2⊢
 have HYW:=hid hY
 clear hY
 generalize (W.alloc (.cells #[.string nm,.map (some rb)] 118)).alloc (.cells qc 29)=W2 at HD HB2 HR2 HQ2⊢
 have r0:=HR2.out.at_ 0 (.string nm) rfl
 have r1:=HR2.out.at_ 1 (.map (some rb)) rfl
 go_wp2_with (refine wpList_load_mid rfl 29 _ rfl (Y+1) 0 rfl qc.toList _ HQ2.out.range Tryz.underlying29 rfl HQS.out ?_;simp only[Array.toArray_toList])
 refine HD.out.mono ?_
 rintro e W3 ⟨rfl,hc⟩
 have HC:=hid (hc.from HB2.out)
 clear hc HD r0 r1 HR2 HQ2
 by_cases he:ern=0
 ·subst he
  have HU:=hid (HC.out.under HLO.out HBB.out)
  obtain⟨h1,h2⟩:=hcn
  rw[HYW.out]
  go_wp2_with fail
  refine(FP ⟨by omega,by omega⟩ (HT.out W3 HU.out)).mono ?_
  rintro e W4 ⟨rfl,hb4⟩
  have HB4:=hid hb4
  clear hb4
  go_wp2_with fail
  go_ret2
  have hsz:W.heap.size≤W4.heap.size:=by
   obtain⟨_,_,_,_,_,_,_,_,_,k,_⟩:=HC.out
   exact Nat.le_trans k.size HB4.out.size
  refine⟨⟨_,rfl,⟨rfl,Or.inr ⟨W4.heap.size,1,#[.string (dB cnt)],rfl,hsz,heap_alloc_new W4 _,Nat.le_refl _,by unfold maxLen;omega,rfl,rfl⟩⟩⟩,HC.out.below (HB4.out.alloc HB4.out.size _)⟩
 ·have heb:(ern==0)=false:=by simpa using he
  go_wp2_with fail
  all_goals
   go_ret2
   simp only
   exact⟨⟨_,rfl,World.ownsRow_nil _ _ _ _⟩,HC.out⟩
end
end Go.Proofs.YtobgbmfpicmpcaaGreatDoor
