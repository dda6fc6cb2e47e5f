/- The law Counted, walked out of its callees' contracts. -/
import Derived.Test.YtobgbmfpicmpcaaGreatDoorC42
import Derived.Test.YtobgbmfpicmpcaaGreatDoorDC04
import Derived.Test.YtobgbmfpicmpcaaGreatDoorDC02
import Derived.Test.YtobgbmfpicmpcaaGreatDoorDC03
import Derived.Lib.Hide
set_option maxRecDepth 100000
set_option maxHeartbeats 8000000
namespace Go.Proofs.YtobgbmfpicmpcaaGreatDoor
open Go.Lib (hid)
section
open Go.RowKit Go.Maps Go.Sort
theorem sees_part {w:World} {ao:Option Addr} {n cp k m:Nat} {xs:List Value} (h:bO w 1 (.slice ao n cp) n xs) (hk:k+m≤n):bO w 1 (.slice (if cp=k then ao else Option.map (fun x=>x.add k) ao) m (cp - k)) m ((xs.drop k).take m):=by
 obtain⟨hl,ao',cap',e,hc,hx⟩:=h
 injection e with e1 _ e3
 subst e1 e3
 refine⟨by rw[List.length_take,List.length_drop,hl];omega,_,_,rfl,by omega,fun hn=>?_⟩
 obtain⟨g,o,rfl,hcell⟩:=hx (by omega)
 rw[if_neg (by omega)]
 refine⟨g,o+k,by simp[Addr.add_mid],fun j u hj=>?_⟩
 rw[List.getElem?_take] at hj
 split at hj
 ·rw[List.getElem?_drop] at hj
  rw[Nat.add_assoc]
  exact hcell _ u hj
 ·cases hj
theorem gs_low {B G b1 b2 k:Nat} {ns:List aq} {es:List aJ} {last:Int} {W0 W:World} (h:GS B G b1 b2 ns es last k W0 W):Below B W0 W:=by
 obtain⟨_,_,_,_,_,_,_,_,_,_,h,_⟩:=h
 exact h
theorem row_bel {W w:World} {Bx n:Nat} {v:Value} {xs:List Value} (h:W.ownsRow Bx 9 1 v n xs) (hb:Below W.heap.size W w):w.ownsRow Bx 9 1 v n xs:=h.kept (af hb none) (by cases v.ownBlock<;>simp)
theorem part_eq {α:Type} (l:List α) (s k:Nat):∃f h:Nat,min (s:Int) (l.length:Int)=(f:Int)∧min ((f:Int)+(k:Int)) (l.length:Int)=(h:Int)∧f≤h∧h≤l.length∧(l.drop s).take k=(l.drop f).take (h - f):=by
 by_cases hs:s≤l.length
 ·by_cases hk:s+k≤l.length
  ·exact⟨s,s+k,by omega,by omega,by omega,hk,by rw[Nat.add_sub_cancel_left]⟩
  ·refine⟨s,l.length,by omega,by omega,hs,Nat.le_refl _,?_⟩
   rw[List.take_of_length_le (by rw[List.length_drop];omega),List.take_of_length_le (by rw[List.length_drop];omega)]
 ·refine⟨l.length,l.length,by omega,by omega,Nat.le_refl _,Nat.le_refl _,?_⟩
  rw[List.drop_eq_nil_of_le (by omega),List.drop_eq_nil_of_le (Nat.le_refl _)]
  simp
theorem step_callsG {P:Program} {w:World} {ops:Array Oper} {o:Oper} {a:Act} {K:Act→World→Prop} {Q:Exit→Act→World→Prop} {E:Prop} (hw:Region.wanted o (yielded ops a.tmps)=true) (f:FuncId) (xs:Array Operand) (ts:Array TypeId)
  (hcf:∀args w',(callFunc f args).run P w'=.ok (.enter f args) w') (ho:o.op=.call {callee:=.value (.func f),args:=xs,argTypes:=ts}) (vs:Array Value) (hx:xs.map a.eval=vs) {Post:Ending→World→Prop}
  (hc:Calls P f vs w Post) (h:∀e w',Post e w'→∃r,e=.returned r∧K (a.put o.dst r) w'):if Region.wanted o (yielded ops a.tmps)=true then Oper.wp P o a w K Q else E:=by
 rw[if_pos hw]
 unfold Oper.wp execOp
 simp only[ho]
 have e:a.eval (Operand.func f)=.func (.func f) #[] #[]:=rfl
 simp[resolve,invoke,hx,e,Deferred.ofValue,hcf]
 rw[Oper.upon_enter]
 refine hc.mono ?_
 intro e w' hp
 obtain⟨r,rfl,hk⟩:=h e w' hp
 exact hk
theorem Tryz.callItoa (args:Array Value) (w:World):(callFunc 36 args).run Tryz.prog w=.ok (.enter 36 args) w:=by go_simp
theorem counted {W0:World} {raw:List Int} {ao:Option Addr} {cp:Nat} {mx:Int} {ev:Value} {c wh sk lm:Int} (hs:bO W0 1 (.slice ao raw.length cp) raw.length (raw.flatMap kI)) (hraw:∀x∈raw,ux x) (hlen:raw.length≤9223372036854775807) (hc:ux c) (hw:ux wh) (hsk:ux sk) (hlm:ux lm) (hm:W0.cell? ⟨1,0,none⟩=some (.int .i64 mx)) (ht:BG W0) (hge:W0.cell? ⟨5,0,none⟩=some ev) (hev:ev=.nilIface∨∃te pe,ev=.iface te pe):
  Calls Tryz.prog 11 #[.slice ao raw.length cp,.int .i64 c,.int .i64 wh,.int .i64 sk,.int .i64 lm] W0 fun e W'=>e=.returned (.bool true)∧Below W0.heap.size W0 W':=by
 have HMD:=hid (Le hs hraw hlen hm ht hge hev)
 have HT:Hid (∀w,Below W0.heap.size W0 w→BG w):=hid (fun w hb=>ht.below hb)
 have HGE:Hid (∀w,Below W0.heap.size W0 w→w.cell? ⟨5,0,none⟩=some ev):=hid (fun w hb=>(hb.cell (block_lt_of_cell hge)).trans hge)
 have HEV:=hid hev
 have HC:=hid (And.intro hc hw)
 have HSK:=hid (And.intro hsk hlm)
 have hp1:=tu (Pure.ka_good c wh) (Pure.ka_scope c wh 0 (-1))
 have hp2:=tu (Pure.kn_good c wh) (Pure.kn_scope c wh)
 rw[Pure.ka_text] at hp1
 rw[Pure.kn_text] at hp2
 have HP1:=hid hp1
 have HP2:=hid hp2
 have HP3:Hid (∀s k:Int,0≤s∧s≤11→0≤k∧k≤11→_):=hid (fun s k hs hk=>(Pure.kp_text c wh s k)▸kp_parse (c:=c) (w:=wh) hs hk)
 have HP3S:Hid (∀s k:Int,0≤s∧s≤11→0≤k∧k≤11→_):=hid (fun s k hs hk=>(Pure.kp_text c wh s k)▸Pure.kp_size (c:=c) (w:=wh) hs hk)
 have hts:=Pure.kmText_size c wh
 clear hs hraw hlen hc hw hsk hlm hm ht hge hev hp1 hp2
 go_enter Tryz.func11,Tryz.ntmps11
 go_wp2_with fail
 refine HMD.out.mono ?_
 rintro e W1 ⟨G,rfl,pol,cs,vn,ve,ns,es,last,m,hv,hok,her,h6,hm,_,hb1⟩
 obtain⟨b1,b2,rfl⟩:=CL her
 have HG1:Hid (GS W0.heap.size G b1 b2 ns es last 0 W0 W1):=hid ⟨cs,vn,ve,ns,m,hv,rfl,hok,h6,by omega,hb1,hb1.size⟩
 have HFG:=hid (CW b1 b2)
 have HB1:=hid hb1
 clear hv hok her h6 hm hb1 HMD
 go_wp2_with fail
 refine(match_K HC.out.1 HC.out.2 (HT.out _ HB1.out)).mono ?_
 rintro e W2 ⟨rfl,hb2⟩
 have HG2:=hid (HG1.out.later hb2)
 clear hb2 HG1 HB1
 have HKA:Hid (∀s k:Int,Ap SR ns es (kaQ c wh s k) 5000=_):=hid (fun s k=>ka_answer (gq SR ns) (jS SR ns es) c wh s k (uj 5000))
 have HKN:Hid (Ap SR ns es (knQ c wh) 5000=_):=hid (kn_answer (gq SR ns) (jS SR ns es) c wh (uj 5000))
 have HLN:=hid (kaL_len (gq SR ns) (jS SR ns es) c wh (uj 5000))
 generalize kaL (gq SR ns) (jS SR ns es) c wh (uj 5000)=L at HKA HLN
 generalize kfF (gq SR ns) (jS SR ns es) c wh (uj 5000)=F at HKA HKN HLN
 obtain⟨t,htt⟩:∃t,kmText c wh=t:=⟨_,rfl⟩
 rw[htt] at hts HP1 HP2 HP3 HP3S⊢
 clear htt
 have HRA:=hid (KQ (budget:=5000) HG2.out (by omega) HFG.out HP1.out rfl (by unfold maxLen;rw[ByteArray.size_append];have e:(⟨#[32,82,69,84,85,82,78,32,97,32,44,32,98,32,46,32,107]⟩:ByteArray).size=17:=rfl;omega) ⟨by omega,by omega⟩ HT.out HGE.out HEV.out)
 simp only at HRA
 have h17:(⟨#[32,82,69,84,85,82,78,32,97,32,44,32,98,32,46,32,107]⟩:ByteArray).size=17:=rfl
 go_wp2_with fail
 refine HRA.out.mono ?_
 rintro e W3 ⟨⟨va,rfl,hra⟩,hg3,_⟩
 have HXA:=hid hra
 have HRN:=hid (KQ (budget:=5000) hg3 (by omega) HFG.out HP2.out rfl (by unfold maxLen;rw[ByteArray.size_append];have e:(⟨#[32,82,69,84,85,82,78,32,67,79,85,78,84]⟩:ByteArray).size=13:=rfl;omega) ⟨by omega,by omega⟩ HT.out HGE.out HEV.out)
 simp only at HRN
 clear hra hg3 HRA HG2
 go_wp2_with fail
 refine HRN.out.mono ?_
 rintro e W4 ⟨⟨vn4,rfl,hrn⟩,hg4,hst4⟩
 have HXA4:=hid (hst4 _ _ _ _ HXA.out)
 have HXN:=hid hrn
 have HG4:=hid hg4
 clear hrn hg4 hst4 HRN HXA
 rw[HKA.out] at HXA4⊢
 rw[HKN.out] at HXN⊢
 by_cases hf:0≤F.left
 ·simp only[if_pos hf] at HXA4 HXN⊢
  have HKP:Hid (∀s k:Int,Ap SR ns es (kaQ c wh s k) 5000=((ix s k L).map (gB 2),0)):=hid (fun s k=>by rw[HKA.out,if_pos hf])
  clear HKA HKN hf
  have hpl:ix 0 (-1) L=L:=by unfold ix;rw[if_pos (by decide)];rfl
  rw[hpl] at HXA4
  rw[←HLN.out] at HXN
  clear hpl
  obtain⟨LT,hLT⟩:∃LT,L.map (gB 2)=LT:=⟨_,rfl⟩
  have hLL:L.length=LT.length:=by rw[←hLT,List.length_map]
  rw[hLT] at HXA4
  rw[hLL] at HXN
  have HLT:=hid (And.intro hLT hLL)
  have hl4:LT.length≤1000000:=by
   have h1:=answer_len (ns:=gq SR ns) (es:=jS SR ns es) (q:=kaQ c wh 0 (-1)) (yP 5000)
   have h2:=HKP.out 0 (-1)
   unfold Ap at h2
   rw[h2] at h1
   have hpl:ix 0 (-1) L=L:=by unfold ix;rw[if_pos (by decide)];rfl
   rw[hpl,hLT] at h1
   simp only at h1
   omega
  clear hLT hLL
  have hs0:=ma (c:=sk) (n:=12) (by omega)
  have hs1:=zb (c:=sk) (n:=12) (by omega)
  have hk0:=ma (c:=lm) (n:=12) (by omega)
  have hk1:=zb (c:=lm) (n:=12) (by omega)
  obtain⟨aa,ac,rfl⟩:=bB HXA4.out
  obtain⟨na,nc,rfl,hnc⟩:=yy HXN.out
  have HNC:=hid hnc
  have hac:LT.length≤ac:=by
   obtain⟨_,_,_,e,h,_⟩:=aP HXA4.out HXA4.out.1
   injection e with _ _ e
   omega
  clear hnc
  go_wp2_with fail
  refine(vI HSK.out.1 (by omega) (by omega)).mono ?_
  rintro e w1 ⟨rfl,hw1⟩
  obtain rfl:=hw1.symm
  generalize pk sk 12=s at hs0 hs1⊢
  go_wp2_with fail
  refine(vI HSK.out.2 (by omega) (by omega)).mono ?_
  rintro e w1 ⟨rfl,hw1⟩
  obtain rfl:=hw1.symm
  generalize pk lm 12=k at hk0 hk1⊢
  obtain⟨s',rfl⟩:∃s':Nat,s=(s':Int):=⟨s.toNat,by omega⟩
  obtain⟨k',rfl⟩:∃k':Nat,k=(k':Int):=⟨k.toNat,by omega⟩
  have hpc:(ix (s':Int) (k':Int) L).map (gB 2)=(LT.drop s').take k':=by
   unfold ix
   rw[if_neg (by omega),List.map_take,List.map_drop,HLT.out.1];rfl
  have HRS:=hid (HKP.out (s':Int) (k':Int))
  rw[hpc] at HRS
  obtain⟨f,h,hf1,hf2,hf3,hf4,hf5⟩:=part_eq LT s' k'
  rw[hf5] at HRS
  obtain⟨XS,hXS⟩:∃XS,(LT.drop f).take (h - f)=XS:=⟨_,rfl⟩
  have hXL:XS.length=h - f:=by rw[←hXS,List.length_take,List.length_drop];omega
  rw[hXS] at HRS
  have HXX:=hid (And.intro hXS hXL)
  have HPA:=hid (HP3.out (s':Int) (k':Int) ⟨hs0,by omega⟩ ⟨hk0,by omega⟩)
  have HPS:=hid (HP3S.out (s':Int) (k':Int) ⟨hs0,by omega⟩ ⟨hk0,by omega⟩)
  have HB4:=hid (gs_low HG4.out)
  have hd1:=(Pure.nD (n:=(s':Int)) ⟨by omega,by omega⟩).2
  have hd2:=(Pure.nD (n:=(k':Int)) ⟨by omega,by omega⟩).2
  clear hpc hf5 hXS hXL HLN HKP HP1 HP2 HP3 HP3S HLT
  go_wp2_with fail
  refine(FP (n:=(s':Int)) ⟨by omega,by omega⟩ (HT.out _ HB4.out)).mono ?_
  rintro e W5 ⟨rfl,hb5⟩
  generalize dB (s':Int)=ds at hd1 HPA HPS⊢
  have HB5:=hid (HB4.out.trans (hb5.mono HB4.out.size))
  have HB45:=hid hb5
  clear hb5
  go_wp2_with fail
  refine(FP (n:=(k':Int)) ⟨by omega,by omega⟩ (HT.out _ HB5.out)).mono ?_
  rintro e W6 ⟨rfl,hb6⟩
  generalize dB (k':Int)=dk at hd2 HPA HPS⊢
  have HB46:=hid (HB45.out.trans (hb6.mono HB45.out.size))
  have HXA6:=hid (row_bel HXA4.out HB46.out)
  have HXN6:=hid (row_bel HXN.out HB46.out)
  have HRZ:=hid (KQ (budget:=5000) (HG4.out.later HB46.out) (by omega) HFG.out HPA.out rfl (by have:=HPS.out;unfold maxLen;omega) ⟨by omega,by omega⟩ HT.out HGE.out HEV.out)
  simp only at HRZ
  rw[HRS.out] at HRZ
  clear hb6 HG4 HXA4 HXN HB45 HB4 HB5 HRS HPA HPS HNC
  go_wp2_with fail
  refine HRZ.out.mono ?_
  rintro e W7 ⟨⟨v7,rfl,hr7⟩,hg7,hst7⟩
  have HXS:=hid hr7
  have HXA7:=hid (hst7 _ _ _ _ HXA6.out)
  have HXN7:=hid (hst7 _ _ _ _ HXN6.out)
  have HB7:=hid (gs_low hg7)
  clear hr7 hst7 hg7 HRZ HXA6 HXN6
  obtain⟨sa,sc,rfl⟩:=bB HXS.out
  have hn7:W7.cell? ⟨na,0,none⟩=some (.string (dB (LT.length:Int))):=by
   obtain⟨g',c',e',hc'⟩:=yy HXN7.out
   injection e' with e1 _ e2
   injection e1 with e1
   injection e1 with e1 e3
   subst e1
   exact hc'
  have HN7:=hid hn7
  have HSP:=hid (sees_part (k:=f) (m:=h - f) (aP HXA7.out HXA7.out.1) (by omega))
  have hst:((strs LT).drop f).take (h - f)=strs XS:=by unfold strs;rw[←List.map_drop,←List.map_take,HXX.out.1]
  rw[hst] at HSP
  clear hst
  clear hn7
  have hi1:(f:Int)≤(h:Int):=by omega
  have hi2:(h:Int)≤(LT.length:Int):=by omega
  have hi3:(h:Int)≤(ac:Int):=by omega
  go_upto_region 16 with fail
  rw[←HXX.out.2] at HSP⊢
  obtain⟨pa,hpa⟩:∃pa,(if ac=f then aa else Option.map (fun x=>x.add f) aa)=pa:=⟨_,rfl⟩
  obtain⟨pc,hpc⟩:∃pc,ac - f=pc:=⟨_,rfl⟩
  rw[hpa,hpc] at HSP⊢
  have hxl:XS.length≤1000000:=by have:=HXX.out.2;omega
  have HS8:=hid (J5 (aP HXS.out HXS.out.1) HSP.out hxl)
  clear hpa hpc hxl hf1 hf2 hf3 hf4 hi1 hi2 hi3 hac HXX
  go_wp2_with fail
  refine HS8.out.mono ?_
  rintro e W8 ⟨rfl,hb8⟩
  have hsl:zE XS XS=true:=decide_eq_true rfl
  rw[hsl]
  obtain⟨dlz,hdlz⟩:∃dlz,dB (LT.length:Int)=dlz:=⟨_,rfl⟩
  have HB8:=hid (HB7.out.trans (hb8.mono HB7.out.size))
  have HIT:Hid (∀w,Below W0.heap.size W0 w→Calls Tryz.prog 36 #[.int .i64 (LT.length:Int)] w fun e W'=>e=.returned (.string dlz)∧Below w.heap.size w W'):=hid (fun w hb=>by rw[←hdlz];exact FP ⟨by omega,by omega⟩ (HT.out w hb))
  have HCN:Hid (∀w,Below W7.heap.size W7 w→w.cell? ⟨na,0,none⟩=some (.string dlz)):=hid (fun w hb=>by rw[←hdlz,hb.cell (block_lt_of_cell HN7.out)];exact HN7.out)
  have HB78:=hid hb8
  have HDW:Hid (Below W8.heap.size W8 W8.drew):=hid ⟨rfl,rfl,rfl,Nat.le_refl _,fun _ _=>rfl⟩
  have c8:W8.cell? ⟨na,0,none⟩=some (.string dlz):=HCN.out _ HB78.out
  clear hsl hdlz hb8 HS8 HSP HXS HXA7 HXN7 HN7
  go_upto_region 17 with fail
  have HS8:Hid (W8.drew.cell? ⟨na,0,none⟩=some (.string dlz)):=hid (HCN.out _ (HB78.out.trans (HDW.out.mono HB78.out.size)))
  clear c8
  refine wp_region_noPanic ?_
  refine wp_region_held_drew (S:=fun w=>w.cell? ⟨na,0,none⟩=some (.string dlz)) (by kernel_rfl) HS8.out (fun hHeld0=>?_)
  refine wpAnyH_take (i:=0) (v:=?v0) rfl (by kernel_rfl) (by kernel_rfl) (by kernel_rfl) (fun _ _ _ h=>h) (Or.inl ⟨by rfl,?y0⟩) hHeld0 ?r0
  case y0=>(intro w hSw;go_simp;(try with_reducible rfl))
  simp only[Act.put,List.getElem_toArray,List.getElem_cons_zero,List.setIfInBounds_toArray,List.set_cons_zero,List.set_cons_succ]
  refine wpAnyH_take (i:=1) (v:=?v1) rfl (by kernel_rfl) (by kernel_rfl) (by kernel_rfl) (fun _ _ _ h=>h) (Or.inl ⟨by rfl,?y1⟩) hHeld0 ?r1
  case y1=>(intro w hSw;go_simp;(try with_reducible rfl))
  simp only[Act.put,List.getElem_toArray,List.getElem_cons_zero,List.getElem_cons_succ,List.setIfInBounds_toArray,List.set_cons_zero,List.set_cons_succ]
  refine wpAnyH_take (i:=2) (v:=?v2) rfl (by kernel_rfl) (by kernel_rfl) (by kernel_rfl) (fun _ _ _ h=>h) (Or.inl ⟨by rfl,?y2⟩) hHeld0 ?r2
  case y2=>(intro w hSw;go_simp;(try with_reducible rfl))
  simp only[Act.put,List.getElem_toArray,List.getElem_cons_zero,List.getElem_cons_succ,List.setIfInBounds_toArray,List.set_cons_zero,List.set_cons_succ]
  refine wpAnyH_take (i:=3) (v:=?v3) rfl (by kernel_rfl) (by kernel_rfl) (by kernel_rfl) (fun _ _ _ h=>h) (Or.inl ⟨by rfl,?y3⟩) hHeld0 ?r3
  case y3=>(intro w hSw;go_simp;(try with_reducible rfl))
  simp only[Act.put,List.getElem_toArray,List.getElem_cons_zero,List.getElem_cons_succ,List.setIfInBounds_toArray,List.set_cons_zero,List.set_cons_succ]
  refine wpAnyH_take (i:=4) (v:=?v4) rfl (by kernel_rfl) (by kernel_rfl) (by kernel_rfl) (fun _ _ _ h=>h) (Or.inl ⟨by rfl,?y4⟩) hHeld0 ?r4
  case y4=>(intro w hSw;go_simp;(try with_reducible rfl))
  simp only[Act.put,List.getElem_toArray,List.getElem_cons_zero,List.getElem_cons_succ,List.setIfInBounds_toArray,List.set_cons_zero,List.set_cons_succ]
  refine wpAnyH_take (i:=5) (v:=?v5) rfl (by kernel_rfl) (by kernel_rfl) (by kernel_rfl) (fun _ _ _ h=>h) (Or.inl ⟨by rfl,?y5⟩) hHeld0 ?r5
  case y5=>(intro w hSw;go_simp;(try with_reducible rfl))
  simp only[Act.put,List.getElem_toArray,List.getElem_cons_zero,List.getElem_cons_succ,List.setIfInBounds_toArray,List.set_cons_zero,List.set_cons_succ]
  refine wpAnyH_take (i:=6) (v:=?v6) rfl (by kernel_rfl) (by kernel_rfl) (by kernel_rfl) (fun _ _ _ h=>h) (Or.inl ⟨by rfl,?y6⟩) hHeld0 ?r6
  case y6=>(intro w hSw;go_simp;(try with_reducible rfl))
  simp only[Act.put,List.getElem_toArray,List.getElem_cons_zero,List.getElem_cons_succ,List.setIfInBounds_toArray,List.set_cons_zero,List.set_cons_succ]
  refine wpAnyH_take (i:=7) (v:=?v7) rfl (by kernel_rfl) (by kernel_rfl) (by kernel_rfl) (fun _ _ _ h=>h) (Or.inl ⟨by rfl,?y7⟩) hHeld0 ?r7
  case y7=>(intro w hSw;go_simp;(try with_reducible rfl))
  simp only[Act.put,List.getElem_toArray,List.getElem_cons_zero,List.getElem_cons_succ,List.setIfInBounds_toArray,List.set_cons_zero,List.set_cons_succ]
  refine wpAnyH_take (i:=8) (v:=?v8) rfl (by kernel_rfl) (by kernel_rfl) (by kernel_rfl) (fun _ _ _ h=>h) (Or.inl ⟨by rfl,?y8⟩) hHeld0 ?r8
  case y8=>(intro w hSw;go_simp;(try with_reducible rfl))
  simp only[Act.put,List.getElem_toArray,List.getElem_cons_zero,List.getElem_cons_succ,List.setIfInBounds_toArray,List.set_cons_zero,List.set_cons_succ]
  refine wpAnyH_take (i:=9) (v:=?v9) rfl (by kernel_rfl) (by kernel_rfl) (by kernel_rfl) (fun _ _ _ h=>h) (Or.inl ⟨by rfl,?y9⟩) hHeld0 ?r9
  case y9=>(intro w hSw;go_simp;(try with_reducible rfl))
  simp only[Act.put,List.getElem_toArray,List.getElem_cons_zero,List.getElem_cons_succ,List.setIfInBounds_toArray,List.set_cons_zero,List.set_cons_succ]
  refine wpAnyH_take (i:=10) (v:=?v10) rfl (by kernel_rfl) (by kernel_rfl) (by kernel_rfl) (fun _ _ _ h=>h) (Or.inl ⟨by rfl,?y10⟩) hHeld0 ?r10
  case y10=>(intro w hSw;go_simp;(try with_reducible rfl))
  simp only[Act.put,List.getElem_toArray,List.getElem_cons_zero,List.getElem_cons_succ,List.setIfInBounds_toArray,List.set_cons_zero,List.set_cons_succ]
  refine wpAnyH_take (i:=11) (v:=?v11) rfl (by kernel_rfl) (by kernel_rfl) (by kernel_rfl) (fun _ _ _ h=>h) (Or.inl ⟨by rfl,?y11⟩) hHeld0 ?r11
  case y11=>(intro w hSw;go_simp;(try with_reducible rfl))
  simp only[Act.put,List.getElem_toArray,List.getElem_cons_zero,List.getElem_cons_succ,List.setIfInBounds_toArray,List.set_cons_zero,List.set_cons_succ]
  refine wpAnyH_take (i:=12) (v:=?v12) rfl (by kernel_rfl) (by kernel_rfl) (by kernel_rfl) (fun _ _ _ h=>h) (Or.inl ⟨by rfl,?y12⟩) hHeld0 ?r12
  case y12=>(intro w hSw;go_simp;(try with_reducible rfl))
  simp only[Act.put,List.getElem_toArray,List.getElem_cons_zero,List.getElem_cons_succ,List.setIfInBounds_toArray,List.set_cons_zero,List.set_cons_succ]
  refine wpAnyH_take (i:=13) (v:=?v13) rfl (by kernel_rfl) (by kernel_rfl) (by kernel_rfl) (fun _ _ _ h=>h) (Or.inl ⟨by rfl,?y13⟩) hHeld0 ?r13
  case y13=>(intro w hSw;go_simp;(try with_reducible rfl))
  simp only[Act.put,List.getElem_toArray,List.getElem_cons_zero,List.getElem_cons_succ,List.setIfInBounds_toArray,List.set_cons_zero,List.set_cons_succ]
  refine wpAnyH_take (i:=14) (v:=?v14) rfl (by kernel_rfl) (by kernel_rfl) (by kernel_rfl) (fun _ _ _ h=>h) (Or.inl ⟨by rfl,?y14⟩) hHeld0 ?r14
  case y14=>(intro w hSw;go_simp;(try with_reducible rfl))
  simp only[Act.put,List.getElem_toArray,List.getElem_cons_zero,List.getElem_cons_succ,List.setIfInBounds_toArray,List.set_cons_zero,List.set_cons_succ]
  refine wpAnyH_take (i:=15) (v:=?v15) rfl (by kernel_rfl) (by kernel_rfl) (by kernel_rfl) (fun _ _ _ h=>h) (Or.inl ⟨by rfl,?y15⟩) hHeld0 ?r15
  case y15=>(intro w hSw;go_simp;(try with_reducible rfl))
  simp only[Act.put,List.getElem_toArray,List.getElem_cons_zero,List.getElem_cons_succ,List.setIfInBounds_toArray,List.set_cons_zero,List.set_cons_succ]
  refine wpAnyH_ready (rs:=[16]) (by kernel_rfl) (by simp) ?_
  refine AllReadyH.cons rfl (fun K hK=>?_) AllReadyH.nil
  refine step_callsG (by rfl) 36 _ _ Tryz.callItoa rfl #[.int .i64 (LT.length:Int)] (by simp[Act.eval]) (HIT.out W8.drew (HB8.out.trans (HDW.out.mono HB8.out.size))) (fun e w9 hp=>?_)
  obtain⟨rfl,hb9⟩:=hp
  refine⟨_,rfl,?_⟩
  have HB9:=hid ((HB8.out.trans (HDW.out.mono HB8.out.size)).trans (hb9.mono (HB8.out.trans (HDW.out.mono HB8.out.size)).size))
  refine hK.out _ _ (HCN.out _ ((HB78.out.trans (HDW.out.mono HB78.out.size)).trans (hb9.mono (HB78.out.trans (HDW.out.mono HB78.out.size)).size))) (fun hHeld1=>?_)
  clear hK K hHeld0 hb9
  simp only[Act.put,List.getElem_toArray,List.getElem_cons_zero,List.getElem_cons_succ,List.setIfInBounds_toArray,List.set_cons_zero,List.set_cons_succ]
  refine wpAnyH_take (i:=17) (v:=?v17) rfl (by kernel_rfl) (by kernel_rfl) (by kernel_rfl) (fun _ _ _ h=>h) (Or.inl ⟨by rfl,?y17⟩) hHeld1 ?r17
  case y17=>(intro w hSw;go_simp;(try with_reducible rfl))
  simp only[Act.put,List.getElem_toArray,List.getElem_cons_zero,List.getElem_cons_succ,List.setIfInBounds_toArray,List.set_cons_zero,List.set_cons_succ]
  refine wpAnyH_take (i:=18) (v:=?v18) rfl (by kernel_rfl) (by kernel_rfl) (by kernel_rfl) (fun _ _ _ h=>h) (Or.inl ⟨by rfl,?y18⟩) hHeld1 ?r18
  case y18=>(intro w hSw;go_simp;(try with_reducible rfl))
  simp only[Act.put,List.getElem_toArray,List.getElem_cons_zero,List.getElem_cons_succ,List.setIfInBounds_toArray,List.set_cons_zero,List.set_cons_succ]
  refine wpAnyH_take (i:=19) (v:=?v19) rfl (by kernel_rfl) (by kernel_rfl) (by kernel_rfl) (fun _ _ _ h=>h) (Or.inl ⟨by rfl,?y19⟩) hHeld1 ?r19
  case y19=>(intro w hSw;go_simp;(try with_reducible rfl))
  simp only[Act.put,List.getElem_toArray,List.getElem_cons_zero,List.getElem_cons_succ,List.setIfInBounds_toArray,List.set_cons_zero,List.set_cons_succ]
  refine wpAnyH_done (by kernel_rfl) ?_ _
  refine NoPanic.normal ?_
  clear hHeld1
  go_simp
  go_wp2_with fail
  go_ret
  exact⟨rfl,HB9.out⟩
 ·simp only[if_neg hf] at HXA4 HXN⊢
  have HB4:Hid (Below W0.heap.size W0 W4):=hid (by obtain⟨_,_,_,_,_,_,_,_,_,_,h,_⟩:=HG4.out;exact h)
  clear HXA4 HXN HKA HKN hf HG4
  go_wp2_with fail
  go_ret
  exact⟨rfl,HB4.out⟩
end
end Go.Proofs.YtobgbmfpicmpcaaGreatDoor
