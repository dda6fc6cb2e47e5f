/- Reads: where a node's properties lie makes no difference. -/
import Derived.Test.YtobgbmfpicmpcaaGreatDoorC32
import Derived.Test.YtobgbmfpicmpcaaGreatDoorC33
import Derived.Test.YtobgbmfpicmpcaaGreatDoorC23
import Derived.Test.YtobgbmfpicmpcaaGreatDoorC22
import Derived.Lib.QuietBelow
import Derived.Test.YtobgbmfpicmpcaaGreatDoorC36
import Derived.Test.YtobgbmfpicmpcaaGreatDoorC34
import Derived.Lib.Hide
set_option maxRecDepth 100000
set_option maxHeartbeats 8000000
namespace Go.Proofs.YtobgbmfpicmpcaaGreatDoor
open Go.Lib (hid)
section
open Go.RowKit Go.Maps Go.Sort
def de (x:aq):aq:=⟨x.num,x.label,0,x.aW⟩
theorem jW (ns:List aq) (n:Int):nodeAt (ns.map de) n=(nodeAt ns n).map de:=by
 unfold nodeAt
 rw[List.find?_map]
 rfl
theorem rj (ns:List aq) (n:Int):((nodeAt (ns.map de) n).elim (⟨#[]⟩:ByteArray) (fun x=>x.label))=(nodeAt ns n).elim ⟨#[]⟩ (fun x=>x.label):=by
 rw[jW]
 cases nodeAt ns n<;>rfl
theorem vW (ns:List aq) (n:Int) (l:ByteArray):mJ (ns.map de) n l=mJ ns n l:=by
 unfold mJ
 rw[rj]
theorem oE (ns:List aq) (n:Int) (k:ByteArray):valueOf (ns.map de) n k=valueOf ns n k:=by
 unfold valueOf
 rw[jW]
 cases nodeAt ns n<;>rfl
theorem mw (ns:List aq) (t:gj) (n:Int):eH (ns.map de) t n=eH ns t n:=by
 unfold eH
 rw[oE]
theorem yM (ns:List aq) (f:Row) (c:bP):kD (ns.map de) f c=kD ns f c:=by
 unfold kD
 rw[mw,mw]
theorem xX (ns:List aq) (s:aN) (o:Option Int):qX (ns.map de) s o=qX ns s o:=by
 funext e
 unfold qX
 rw[vW]
theorem wR (ns:List aq) (es:List aJ) (s:aN) (p left:Int):fC (ns.map de) es s p left=fC ns es s p left:=by
 unfold fC
 rw[List.map_map]
 rfl
theorem oB (ns:List aq) (es:List aJ) (cl:List bP):∀(r:List aN) (prev:ByteArray) (st:mA),bH (ns.map de) es cl r prev st=bH ns es cl r prev st
 | [],prev,st=>by
  have e:kD (ns.map de) st.f=kD ns st.f:=funext fun c=>yM ns st.f c
  unfold bH
  rw[e]
 | s::r,prev,st=>by
  have e:(fun t=>bH (ns.map de) es cl r s.name t)=(fun t=>bH ns es cl r s.name t):=funext fun t=>oB ns es cl r s.name t
  simp only[bH]
  rw[e,xX,wR]
theorem pJ (ns:List aq) (es:List aJ) (q:au) (b:Int):aR (ns.map de) es q b=aR ns es q b:=oB ns es q.conds q.ai ⟨#[]⟩ ⟨b,jN,[]⟩
theorem wF (ns:List aq) (f:Row):gW (ns.map de) f=gW ns f:=by
 funext x
 unfold gW
 rw[oE]
theorem wE (ns:List aq) (items:List bi):fi (ns.map de) items=fi ns items:=by
 funext f
 unfold fi
 rw[wF]
theorem tY (ns:List aq) (es:List aJ) (q:au) (b:Int):eK (ns.map de) es q b=eK ns es q b:=by
 unfold eK
 rw[pJ,wE]
theorem qL (ns:List aq) (S:aI→Bool):eM (ns.map de) S=eM ns S:=by
 funext x
 unfold eM
 rw[jW,jW]
 cases nodeAt ns x.src<;>cases nodeAt ns x.dst<;>rfl
def gq (S:aI→Bool) (ns:List aq):List aq:=(dP S ns).map fun t=>⟨t.1,t.2.1,0,t.2.2⟩
def jS (S:aI→Bool) (ns:List aq) (es:List aJ):List aJ:=es.filter (eM (gq S ns) S)
theorem nr {S:aI→Bool} {ns sn:List aq} (h:sn.map AY=dP S ns):sn.map de=gq S ns:=by
 unfold gq
 rw[←h,List.map_map]
 rfl
theorem yt {S:aI→Bool} {ns sn:List aq} {es:List aJ} (h:sn.map AY=dP S ns):es.filter (eM sn S)=jS S ns es:=by
 unfold jS
 rw[←nr h,qL]
theorem xu {S:aI→Bool} {ns sn:List aq} {es:List aJ} (h:sn.map AY=dP S ns) (q:au) (b:Int):eK sn (es.filter (eM sn S)) q b=eK (gq S ns) (jS S ns es) q b:=by
 rw[yt h,←nr h,tY]
theorem oO {S:aI→Bool} {ns sn:List aq} {es:List aJ} (h:sn.map AY=dP S ns) (q:au) (b:Int):aR sn (es.filter (eM sn S)) q b=aR (gq S ns) (jS S ns es) q b:=by
 rw[yt h,←nr h,pJ]
end
section
open Go.RowKit Go.Maps
def jU (ns:List aq) (n:Int):ByteArray:=(nodeAt ns n).elim ⟨#[]⟩ (fun x=>x.label)
def gX (ns:List aq) (S:aI→Bool) (v:Int) (k:ByteArray) (l:List Int):Bool:=l.all (fun n=>S (v,jU ns n,k))
theorem ue {ns:List aq} {n:Int} (h:∀x∈ns,x.label.size≤maxLen):(jU ns n).size≤maxLen:=by
 unfold jU
 cases hn:nodeAt ns n with
 | none=>exact Nat.zero_le _
 | some x=>exact h x (mm hn)
theorem uS {W:World} {b o m rb rn:Nat} {ns:List aq} {es:List aJ} {S:aI→Bool} {nm k:ByteArray} {v:Int} {l:List Int} {aop:Option Addr} {cap:Nat} (h:et b o ns es m W) (hr:bm W rb rn S) (hl:∀x∈ns,x.label.size≤maxLen) (hp:bO W 1 (.slice aop l.length cap) l.length (l.flatMap kI)) (hn:l.length≤1000000) (h0:0≤v) (h1:v≤10) (hk:k.size≤maxLen):
  Calls Tryz.prog 262 #[.pointer (some ⟨b,o,none⟩),.agg #[.string nm,.map (some rb)],.int .i64 v,.string k,.slice aop l.length cap] W fun e W'=>e=.returned (.bool (gX ns S v k l))∧Below W.heap.size W W':=by
 have HB1:=hid ((Below.refl W.heap.size W).alloc (Nat.le_refl _) (.cells #[.string nm,.map (some rb)] 118))
 have HR1:=hid (Loc.new W #[.string nm,.map (some rb)] 118)
 have H:=hid h
 have HR:=hid hr
 have HP:=hid hp
 have HL:=hid hl
 have HK:Hid (∀n,D5 (v,jU ns n,k)):=hid (fun n=>wJ h0 h1 (ue hl) hk)
 clear h hr hp hl hk
 go_enter Tryz.func262,Tryz.ntmps262
 go_upto_region 1 with fail
 obtain⟨Y,hY⟩:∃Y,Y=W.heap.size:=⟨_,rfl⟩
 rw[←hY] at HR1⊢
 clear hY
 generalize W.alloc (.cells #[.string nm,.map (some rb)] 118)=W1 at HB1 HR1⊢
 go_wp2_with fail
 go_loopg [17] l.length (fun c iv w=>∃i:Nat,iv=.int .i64 (i:Int)∧i+c=l.length∧(l.take i).all (fun n=>S (v,jU ns n,k))=true∧Below W.heap.size W w∧Loc w Y #[.string nm,.map (some rb)] 118)
 case atStart=>exact⟨0,rfl,by omega,by simp,HB1.out,HR1.out⟩
 case round=>
  obtain⟨i,rfl,hi,hall,hb,hro⟩:=hrel
  have HALL:=hid hall
  have HB:=hid hb
  have HRO:=hid hro
  clear hall hb hro HB1 HR1
  by_cases hlt:i<l.length
  ·obtain⟨g,oo,rfl,hcell⟩:=bY (l:=l) kI (fun _=>rfl) (HP.out.below HB.out) hlt
   obtain⟨y,hy⟩:∃y,l[i]=y:=⟨_,rfl⟩
   have HY:=hid hy
   rw[hy] at hcell
   clear hy
   have p0:wr.cell? ⟨g,oo+i,none⟩=some (.int .i64 y):=by have:=hcell 0 (by decide);simpa [kI] using this
   have hki:(i:Int)<(l.length:Int):=by omega
   clear hcell
   go_wp2_with fail
   refine(vD (n:=y) (H.out.below HB.out)).mono ?_
   rintro e W2 ⟨rfl,hb⟩
   obtain⟨a1,m1,hv⟩:=qS (nodeAt ns y)
   rw[hv]
   have HLB:Hid ((nodeAt ns y).elim ⟨#[]⟩ (fun x=>x.label)=jU ns y):=hid rfl
   rw[HLB.out]
   have HKY:=hid (HK.out y)
   generalize hlb:jU ns y=lb at HKY⊢
   have HLBE:=hid hlb
   generalize (nodeAt ns y).isSome=f1
   have HB2:=hid ((HB.out.trans (hb.mono HB.out.size)).alloc (HB.out.trans (hb.mono HB.out.size)).size (.cells #[.int .i64 a1,.string lb,.map m1] 139))
   have HRO2:=hid ((HRO.out.grown (af hb none) (by simp)).alloc (.cells #[.int .i64 a1,.string lb,.map m1] 139))
   have HX2:=hid (Loc.new W2 #[.int .i64 a1,.string lb,.map m1] 139)
   clear hb hv p0 hlb HB HRO HLB
   go_upto_region 5 with fail
   obtain⟨Z,hZ⟩:∃Z,Z=W2.heap.size:=⟨_,rfl⟩
   rw[←hZ] at HX2⊢
   clear hZ
   generalize W2.alloc (.cells #[.int .i64 a1,.string lb,.map m1] 139)=W3 at HB2 HRO2 HX2⊢
   have r0:=HRO2.out.at_ 0 (.string nm) rfl
   have r1:=HRO2.out.at_ 1 (.map (some rb)) rfl
   have z1:=HX2.out.at_ 1 (.string lb) rfl
   go_wp2_with fail
   refine(xL (r:=(v,lb,k)) (HR.out.kept (af HB2.out none) (by simp)) HKY.out).mono ?_
   rintro e W4 ⟨rfl,hb⟩
   have HB3:=hid (HB2.out.trans (hb.mono HB2.out.size))
   have HRO3:=hid (HRO2.out.grown (af hb none) (by simp))
   clear hb r0 r1 z1 HB2 HRO2 HX2
   cases hs:S (v,lb,k) with
   | true=>
    have HST:=hid hs
    clear hs
    go_wp2_with fail
    go_roundg (gk - 1)
    case rel=>
     refine⟨i+1,by simp,by omega,?_,HB3.out,HRO3.out⟩
     rw[List.take_add_one,List.getElem?_eq_getElem hlt,List.all_append,HALL.out,HY.out]
     simp[HLBE.out,HST.out]
    case measure=>omega
   | false=>
    have HE:Hid (gX ns S v k l=false):=hid (by
     unfold gX
     rw[List.all_eq_false];exact⟨l[i],List.getElem_mem hlt,by rw[HY.out,HLBE.out,hs];simp⟩)
    clear hs
    go_wp2_with fail
    go_ret
    exact⟨by rw[HE.out];rfl,HB3.out⟩
  ·have hki:¬(i:Int)<(l.length:Int):=by omega
   have HE:Hid (gX ns S v k l=true):=hid (by have:=HALL.out;rw[List.take_of_length_le (by omega)] at this;unfold gX;rw[this])
   go_wp2_with fail
   go_ret
   exact⟨by rw[HE.out];rfl,HB.out⟩
end
section
open Go.RowKit Go.Maps
def iw (ns:List aq) (S:aI→Bool) (x:aJ):aI:=if eM ns S x then (8,x.type,⟨#[]⟩) else (10,⟨#[]⟩,⟨#[]⟩)
theorem tz {W:World} {b o m rb rn:Nat} {ns:List aq} {es:List aJ} {S:aI→Bool} {nm:ByteArray} {x:aJ} (h:et b o ns es m W) (hr:bm W rb rn S) (ht:x.type.size≤maxLen):
  Calls Tryz.prog 301 #[.pointer (some ⟨b,o,none⟩),.agg #[.string nm,.map (some rb)],.agg #[.string x.type,.int .i64 x.src,.int .i64 x.dst]] W fun e W'=>e=.returned (nf (iw ns S x))∧Below W.heap.size W W':=by
 obtain⟨ty,src,dst⟩:=x
 have HB0:=hid ((Below.refl W.heap.size W).alloc (Nat.le_refl _) (.cells #[.string nm,.map (some rb)] 118))
 have HR0:=hid (Loc.new W #[.string nm,.map (some rb)] 118)
 have HB1:=hid (HB0.out.alloc HB0.out.size (.cells #[.string ty,.int .i64 src,.int .i64 dst] 142))
 have HR1:=hid (HR0.out.alloc (.cells #[.string ty,.int .i64 src,.int .i64 dst] 142))
 have HX1:=hid (Loc.new (W.alloc (.cells #[.string nm,.map (some rb)] 118)) #[.string ty,.int .i64 src,.int .i64 dst] 142)
 have HB2:=hid (HB1.out.alloc HB1.out.size (.cells #[.int .i64 0,.string ⟨#[]⟩,.string ⟨#[]⟩] 224))
 have HR2:=hid (HR1.out.alloc (.cells #[.int .i64 0,.string ⟨#[]⟩,.string ⟨#[]⟩] 224))
 have HX2:=hid (HX1.out.alloc (.cells #[.int .i64 0,.string ⟨#[]⟩,.string ⟨#[]⟩] 224))
 have HZ2:=hid (Loc.new ((W.alloc (.cells #[.string nm,.map (some rb)] 118)).alloc (.cells #[.string ty,.int .i64 src,.int .i64 dst] 142)) #[.int .i64 0,.string ⟨#[]⟩,.string ⟨#[]⟩] 224)
 have H:=hid h
 have HR:=hid hr
 have HT:=hid ht
 clear h hr ht HB0 HR0 HB1 HR1 HX1
 go_enter Tryz.func301,Tryz.ntmps301
 go_upto_region 1 with fail
 obtain⟨Y,hY⟩:∃Y,Y=W.heap.size:=⟨_,rfl⟩
 have HYW:=hid (Nat.le_of_eq hY.symm)
 have e1:(W.alloc (.cells #[.string nm,.map (some rb)] 118)).heap.size=Y+1:=by rw[hY];simp
 have e2:((W.alloc (.cells #[.string nm,.map (some rb)] 118)).alloc (.cells #[.string ty,.int .i64 src,.int .i64 dst] 142)).heap.size=Y+2:=by rw[hY];simp
 rw[e1] at HX2
 rw[e2] at HZ2
 rw[←hY] at HR2⊢
 clear hY e1 e2
 generalize ((W.alloc (.cells #[.string nm,.map (some rb)] 118)).alloc (.cells #[.string ty,.int .i64 src,.int .i64 dst] 142)).alloc (.cells #[.int .i64 0,.string ⟨#[]⟩,.string ⟨#[]⟩] 224)=W1 at HB2 HR2 HX2 HZ2⊢
 have r0:=HR2.out.at_ 0 (.string nm) rfl
 have r1:=HR2.out.at_ 1 (.map (some rb)) rfl
 have x0:W1.cell? ⟨Y+1,0,none⟩=some (.string ty):=(HX2.out.cell 0).trans rfl
 have x1:W1.cell? ⟨Y+1,1,none⟩=some (.int .i64 src):=(HX2.out.cell 1).trans rfl
 have x2:W1.cell? ⟨Y+1,2,none⟩=some (.int .i64 dst):=(HX2.out.cell 2).trans rfl
 go_wp2_with fail
 refine(yH (x:=⟨ty,src,dst⟩) (H.out.below HB2.out) (HR.out.kept (af HB2.out none) (by simp)) HT.out).mono ?_
 rintro e W2 ⟨rfl,hb⟩
 have HB3:=hid (HB2.out.trans (hb.mono HB2.out.size))
 have HX3:=hid (HX2.out.grown (af hb none) (by simp))
 have HZ3:=hid (HZ2.out.grown (af hb none) (by simp))
 clear hb r0 r1 x0 x1 x2 HB2 HX2 HZ2 HR2
 have HE:Hid (iw ns S ⟨ty,src,dst⟩=if eM ns S ⟨ty,src,dst⟩ then (8,ty,⟨#[]⟩) else (10,⟨#[]⟩,⟨#[]⟩)):=hid rfl
 generalize eM ns S ⟨ty,src,dst⟩=f1 at HE⊢
 have z0:W2.cell? ⟨Y+2,0,none⟩=some (.int .i64 0):=(HZ3.out.cell 0).trans rfl
 have z1:W2.cell? ⟨Y+2,1,none⟩=some (.string ⟨#[]⟩):=(HZ3.out.cell 1).trans rfl
 have z2:W2.cell? ⟨Y+2,2,none⟩=some (.string ⟨#[]⟩):=(HZ3.out.cell 2).trans rfl
 have fz0:=HZ3.out.free 0
 have fz1:=HZ3.out.free 1
 have fz2:=HZ3.out.free 2
 have x0:W2.cell? ⟨Y+1,0,none⟩=some (.string ty):=(HX3.out.cell 0).trans rfl
 have HYZ:Hid (W.heap.size≤Y+2):=hid (Nat.le_trans HYW.out (Nat.le_add_right _ _))
 cases f1 with
 | true=>
  go_wp2_with fail
  have HZ4:=hid (((HZ3.out.set 0 (.int .i64 8)).set 1 (.string ty)).set 2 (.string ⟨#[]⟩))
  have HB4:=hid (((HB3.out.setCell (p:=⟨Y+2,0,none⟩) HYZ.out (.int .i64 8)).setCell (p:=⟨Y+2,1,none⟩) HYZ.out (.string ty)).setCell (p:=⟨Y+2,2,none⟩) HYZ.out (.string ⟨#[]⟩))
  clear z0 z1 z2 fz0 fz1 fz2 x0 HZ3 HB3
  generalize ((W2.setCell ⟨Y+2,0,none⟩ (.int .i64 8)).setCell ⟨Y+2,1,none⟩ (.string ty)).setCell ⟨Y+2,2,none⟩ (.string ⟨#[]⟩)=W4 at HZ4 HB4⊢
  have z0:W4.cell? ⟨Y+2,0,none⟩=some (.int .i64 8):=(HZ4.out.cell 0).trans rfl
  have z1:W4.cell? ⟨Y+2,1,none⟩=some (.string ty):=(HZ4.out.cell 1).trans rfl
  have z2:W4.cell? ⟨Y+2,2,none⟩=some (.string ⟨#[]⟩):=(HZ4.out.cell 2).trans rfl
  refine bodyPost_ret (v:=.agg #[.int .i64 8,.string ty,.string ⟨#[]⟩]) ?_ rfl ⟨by rw[HE.out];rfl,HB4.out⟩
  simp[results,Tryz.results301,go_sem,z0,z1,z2]
 | false=>
  go_wp2_with fail
  have HZ4:=hid (((HZ3.out.set 0 (.int .i64 10)).set 1 (.string ⟨#[]⟩)).set 2 (.string ⟨#[]⟩))
  have HB4:=hid (((HB3.out.setCell (p:=⟨Y+2,0,none⟩) HYZ.out (.int .i64 10)).setCell (p:=⟨Y+2,1,none⟩) HYZ.out (.string ⟨#[]⟩)).setCell (p:=⟨Y+2,2,none⟩) HYZ.out (.string ⟨#[]⟩))
  clear z0 z1 z2 fz0 fz1 fz2 x0 HZ3 HB3
  generalize ((W2.setCell ⟨Y+2,0,none⟩ (.int .i64 10)).setCell ⟨Y+2,1,none⟩ (.string ⟨#[]⟩)).setCell ⟨Y+2,2,none⟩ (.string ⟨#[]⟩)=W4 at HZ4 HB4⊢
  have z0:W4.cell? ⟨Y+2,0,none⟩=some (.int .i64 10):=(HZ4.out.cell 0).trans rfl
  have z1:W4.cell? ⟨Y+2,1,none⟩=some (.string ⟨#[]⟩):=(HZ4.out.cell 1).trans rfl
  have z2:W4.cell? ⟨Y+2,2,none⟩=some (.string ⟨#[]⟩):=(HZ4.out.cell 2).trans rfl
  refine bodyPost_ret (v:=.agg #[.int .i64 10,.string ⟨#[]⟩,.string ⟨#[]⟩]) ?_ rfl ⟨by rw[HE.out];rfl,HB4.out⟩
  simp[results,Tryz.results301,go_sem,z0,z1,z2]
end
section
open Go.RowKit Go.Maps Go.Sort
def l8 (ns:List aq) (S:aI→Bool) (l:List Int) (x:aJ):Bool:=!(eN l x) || S (iw ns S x)
theorem Ba {ns:List aq} {S:aI→Bool} {x:aJ} (h:x.type.size≤maxLen):D5 (iw ns S x):=by
 unfold iw
 cases eM ns S x with
 | true=>exact nU (by decide) (by decide) h
 | false=>exact nU (by decide) (by decide) (Nat.zero_le _)
theorem Eu {W:World} {ab ao b o m m2 rb rn:Nat} {ns nsA:List aq} {es esA:List aJ} {S:aI→Bool} {nm:ByteArray} {l:List Int} {aop:Option Addr} {cap:Nat} (hA:et ab ao nsA esA m2 W) (h:et b o ns es m W) (hr:bm W rb rn S) (hl:∀x∈esA,x.type.size≤maxLen) (hp:bO W 1 (.slice aop l.length cap) l.length (l.flatMap kI)) (hn:l.length≤1000000):
  Calls Tryz.prog 265 #[.pointer (some ⟨ab,ao,none⟩),.pointer (some ⟨b,o,none⟩),.agg #[.string nm,.map (some rb)],.slice aop l.length cap] W fun e W'=>e=.returned (.bool (esA.all (l8 ns S l)))∧Below W.heap.size W W':=by
 obtain⟨ae,ce,hce,hse⟩:=hA.ce
 have hfew:=hA.rF.2
 have HB1:=hid ((Below.refl W.heap.size W).alloc (Nat.le_refl _) (.cells #[.string nm,.map (some rb)] 118))
 have HR1:=hid (Loc.new W #[.string nm,.map (some rb)] 118)
 have HCE:=hid ((HB1.out.cell (block_lt_of_cell hce)).trans hce)
 have HSE:=hid hse
 have H:=hid h
 have HR:=hid hr
 have HP:=hid hp
 have HL:=hid hl
 have HN:=hid hn
 clear hA hce hse h hr hp hl hn
 go_enter Tryz.func265,Tryz.ntmps265
 go_upto_region 1 with fail
 obtain⟨Y,hY⟩:∃Y,Y=W.heap.size:=⟨_,rfl⟩
 rw[←hY] at HR1⊢
 clear hY
 generalize W.alloc (.cells #[.string nm,.map (some rb)] 118)=W1 at HB1 HR1 HCE⊢
 have ce1:=HCE.out
 go_wp2_with fail
 clear ce1 HCE
 go_loopg [16] esA.length (fun c iv w=>∃i:Nat,iv=.int .i64 (i:Int)∧i+c=esA.length∧(esA.take i).all (l8 ns S l)=true∧Below W.heap.size W w∧Loc w Y #[.string nm,.map (some rb)] 118)
 case atStart=>exact⟨0,rfl,by omega,by simp,HB1.out,HR1.out⟩
 case round=>
  obtain⟨i,rfl,hi,hall,hb,hro⟩:=hrel
  have HALL:=hid hall
  have HB:=hid hb
  have HRO:=hid hro
  clear hall hb hro HB1 HR1
  by_cases hlt:i<esA.length
  ·obtain⟨g,oo,rfl,hcell⟩:=bY (l:=esA) fL (fun _=>rfl) (HSE.out.below HB.out) hlt
   obtain⟨⟨ty,src,dst⟩,hy⟩:∃y,esA[i]=y:=⟨_,rfl⟩
   have HY:=hid hy
   have HYL:Hid (ty.size≤maxLen):=hid (by have:=HL.out esA[i] (List.getElem_mem hlt);rwa [hy] at this)
   rw[hy] at hcell
   clear hy
   have p0:wr.cell? ⟨g,oo+i*3,none⟩=some (.string ty):=hcell 0 (by decide)
   have p1:wr.cell? ⟨g,oo+i*3+1,none⟩=some (.int .i64 src):=hcell 1 (by decide)
   have p2:wr.cell? ⟨g,oo+i*3+2,none⟩=some (.int .i64 dst):=hcell 2 (by decide)
   have hki:(i:Int)<(esA.length:Int):=by omega
   clear hcell
   go_upto_region 4 with fail
   have HX:=hid (Loc.new wr #[.string ty,.int .i64 src,.int .i64 dst] 142)
   have HB1:=hid (HB.out.alloc HB.out.size (.cells #[.string ty,.int .i64 src,.int .i64 dst] 142))
   have HR1:=hid (HRO.out.alloc (.cells #[.string ty,.int .i64 src,.int .i64 dst] 142))
   clear p0 p1 p2 HB HRO
   obtain⟨Z,hZ⟩:∃Z,Z=wr.heap.size:=⟨_,rfl⟩
   rw[←hZ] at HX⊢
   clear hZ
   generalize wr.alloc (.cells #[.string ty,.int .i64 src,.int .i64 dst] 142)=W1 at HX HB1 HR1⊢
   have c0:=cell_regrown ((HX.out.cell 0).trans rfl:W1.cell? ⟨Z,0,none⟩=some (.string ty))
   have c1:=cell_regrown ((HX.out.cell 1).trans rfl:W1.cell? ⟨Z,1,none⟩=some (.int .i64 src))
   have c2:=cell_regrown ((HX.out.cell 2).trans rfl:W1.cell? ⟨Z,2,none⟩=some (.int .i64 dst))
   have d0:=cell_regrown ((HR1.out.cell 0).trans rfl:W1.cell? ⟨Y,0,none⟩=some (.string nm))
   have d1:=cell_regrown ((HR1.out.cell 1).trans rfl:W1.cell? ⟨Y,1,none⟩=some (.map (some rb)))
   have HBR:=hid (fun d os=>HB1.out.trans ((below_regrown W1 d os).mono HB1.out.size))
   have HCA:Hid (∀d os,Calls Tryz.prog 300 #[.agg #[.string ty,.int .i64 src,.int .i64 dst],.slice aop l.length cap] (grow (redrawn W1 d) os) fun e w''=>e=.returned (.bool (eN l ⟨ty,src,dst⟩))∧∃p:Regrown,w''=grow (redrawn W1 p.d) p.os):=
    hid fun d os=>Calls.regrown_of (Cj (x:=⟨ty,src,dst⟩) (HP.out.below (HBR.out d os)) HN.out)
   have HCB:Hid (∀d os,Calls Tryz.prog 301 #[.pointer (some ⟨b,o,none⟩),.agg #[.string nm,.map (some rb)],.agg #[.string ty,.int .i64 src,.int .i64 dst]] (grow (redrawn W1 d) os) fun e w''=>e=.returned (nf (iw ns S ⟨ty,src,dst⟩))∧∃p:Regrown,w''=grow (redrawn W1 p.d) p.os):=
    hid fun d os=>Calls.regrown_of (tz (x:=⟨ty,src,dst⟩) (H.out.below (HBR.out d os)) (HR.out.kept (af (HBR.out d os) none) (by simp)) HYL.out)
   have HCC:Hid (∀d os,Calls Tryz.prog 141 #[.agg #[.string nm,.map (some rb)],nf (iw ns S ⟨ty,src,dst⟩)] (grow (redrawn W1 d) os) fun e w''=>e=.returned (.bool (S (iw ns S ⟨ty,src,dst⟩)))∧∃p:Regrown,w''=grow (redrawn W1 p.d) p.os):=
    hid fun d os=>Calls.regrown_of (xL (HR.out.kept (af (HBR.out d os) none) (by simp)) (Ba HYL.out))
   have HE:Hid (l8 ns S l esA[i]=(!(eN l ⟨ty,src,dst⟩) || S (iw ns S ⟨ty,src,dst⟩))):=hid (by rw[HY.out];rfl)
   generalize eN l ⟨ty,src,dst⟩=f1 at HE HCA
   generalize S (iw ns S ⟨ty,src,dst⟩)=f2 at HE HCC
   generalize nf (iw ns S ⟨ty,src,dst⟩)=rv at HCB HCC
   cases f1 with
   | false=>
    refine wp_region_quiet_below (by kernel_rfl) (by kernel_rfl) ?_
    iterate 2 (quiet_step (fail))
    quiet_step (exact HCA.out _ _)
    iterate 9 (quiet_step (fail))
    refine wpQuiet_nil ?_
    intro W2 hw
    have HB2:Hid (Below W.heap.size W W2):=hid (by obtain⟨⟨dq,osq⟩,rfl⟩:=hw;exact HBR.out dq osq)
    have HR2:Hid (Loc W2 Y #[.string nm,.map (some rb)] 118):=hid (by obtain⟨⟨dq,osq⟩,rfl⟩:=hw;exact HR1.out.grown (af (below_regrown W1 dq osq) none) (by simp))
    clear hw c0 c1 c2 d0 d1 HCA HCB HCC HBR HB1 HR1 HX
    go_wp2_with fail
    go_roundg (gk - 1)
    case rel=>
     refine⟨i+1,by simp,by omega,?_,HB2.out,HR2.out⟩
     rw[List.take_add_one,List.getElem?_eq_getElem hlt,List.all_append,HALL.out]
     simp[HE.out]
    case measure=>omega
   | true=>
    refine wp_region_quiet_below (by kernel_rfl) (by kernel_rfl) ?_
    iterate 2 (quiet_step (fail))
    quiet_step (exact HCA.out _ _)
    iterate 5 (quiet_step (fail))
    quiet_step (exact HCB.out _ _)
    quiet_step (exact HCC.out _ _)
    iterate 2 (quiet_step (fail))
    refine wpQuiet_nil ?_
    intro W2 hw
    have HB2:Hid (Below W.heap.size W W2):=hid (by obtain⟨⟨dq,osq⟩,rfl⟩:=hw;exact HBR.out dq osq)
    have HR2:Hid (Loc W2 Y #[.string nm,.map (some rb)] 118):=hid (by obtain⟨⟨dq,osq⟩,rfl⟩:=hw;exact HR1.out.grown (af (below_regrown W1 dq osq) none) (by simp))
    clear hw c0 c1 c2 d0 d1 HCA HCB HCC HBR HB1 HR1 HX
    cases f2 with
    | true=>
     go_wp2_with fail
     go_roundg (gk - 1)
     case rel=>
      refine⟨i+1,by simp,by omega,?_,HB2.out,HR2.out⟩
      rw[List.take_add_one,List.getElem?_eq_getElem hlt,List.all_append,HALL.out]
      simp[HE.out]
     case measure=>omega
    | false=>
     have HZ:Hid (esA.all (l8 ns S l)=false):=hid (by rw[List.all_eq_false];exact⟨esA[i],List.getElem_mem hlt,by rw[HE.out];simp⟩)
     go_wp2_with fail
     go_ret
     exact⟨by rw[HZ.out];rfl,HB2.out⟩
  ·have hki:¬(i:Int)<(esA.length:Int):=by omega
   have HZ:Hid (esA.all (l8 ns S l)=true):=hid (by have:=HALL.out;rwa [List.take_of_length_le (by omega)] at this)
   go_wp2_with fail
   go_ret
   exact⟨by rw[HZ.out];rfl,HB.out⟩
end
section
open Go.RowKit Go.Maps Go.Sort
structure oJ where
 ns:List aq
 es:List aJ
 last:Int
def iD (S:aI→Bool) (g:oJ) (q:au) (b:Int):mA:=aR (gq S g.ns) (jS S g.ns g.es) q b
def ER (S:aI→Bool) (g:oJ) (q:au) (b:Int):Int × Int × oJ:=
 if iH S q b g.ns.length=0 then (g.last+1,0,⟨g.ns++[⟨g.last+1,q.label,0,lj q.ay⟩],g.es,g.last+1⟩) else (0,iH S q b g.ns.length,g)
def BL (S:aI→Bool) (g:oJ) (q:au) (b:Int):Int × Int × oJ:=
 if 0≤(iD S g q b).left then
  if S (7,q.type,⟨#[]⟩) then
   if g.es.length+(jb q.name q.dest (iD S g q b).rows).length≤80 then ((jb q.name q.dest (iD S g q b).rows).length,0,⟨g.ns,g.es++(jb q.name q.dest (iD S g q b).rows).map (fun p=>⟨q.type,p.1,p.2⟩),g.last⟩)
   else (0,8,g)
  else (0,7,g)
 else (0,6,g)
def dh (sn:List aq) (q:au) (ns:List aq) (l:List Int):List aq:=l.foldl (fun ns n=>iQ ns n q.key (eH sn q.value n)) ns
def D8 (S:aI→Bool) (g:oJ) (q:au) (b:Int):Int × Int × oJ:=
 if 0≤(iD S g q b).left then
  if gX (gq S g.ns) S 5 q.key (fQ q.name (iD S g q b).rows) then ((fQ q.name (iD S g q b).rows).length,0,⟨dh (gq S g.ns) q g.ns (fQ q.name (iD S g q b).rows),g.es,g.last⟩)
  else (0,7,g)
 else (0,6,g)
def BK (S:aI→Bool) (g:oJ) (q:au) (b:Int):Int × Int × oJ:=
 if 0≤(iD S g q b).left then
  if gX (gq S g.ns) S 6 ⟨#[]⟩ (fQ q.name (iD S g q b).rows)&&g.es.all (l8 (gq S g.ns) S (fQ q.name (iD S g q b).rows)) then ((fQ q.name (iD S g q b).rows).length,0,⟨g.ns.filter (fun x=>!(cW (fQ q.name (iD S g q b).rows) x.num)),g.es.filter (fun x=>!(eN (fQ q.name (iD S g q b).rows) x)),g.last⟩)
  else (0,7,g)
 else (0,6,g)
def tA (S:aI→Bool) (g:oJ) (q:au) (b:Int):Int × Int × oJ:=
 if q.kind=5 then ER S g q b else if q.kind=4 then BL S g q b else if q.kind=2 then D8 S g q b else BK S g q b
def uz (gb:Nat) (vn ve:Value) (ns:List aq) (b:Nat):Prop:=b=gb∨vn.ownBlock=some b∨ve.ownBlock=some b∨∃x∈ns,x.bZ=b
def pV (gb go:Nat) (T:TypeId) (cs:Array Value) (vn ve:Value) (ns:List aq) (m:Nat) (W:World) (g:oJ) (W':World):Prop:=
 ∃ns' cs' vn' ve' m',ns'.map de=g.ns.map de∧ed gb go T cs' vn' ve' ns' g.es g.last m' W'∧cs'.size=cs.size∧(∀j,j<go∨go+2<j→cs'[j]?=cs[j]?)∧Kept (uz gb vn ve ns) W W'∧rq W vn vn'∧rq W ve ve'∧(∀y∈ns',(∃x∈ns,x.bZ=y.bZ)∨W.heap.size≤y.bZ)∧m'≤m+7000
theorem pV.same {gb go m:Nat} {T:TypeId} {cs:Array Value} {vn ve:Value} {ns:List aq} {W W':World} {es:List aJ} {last:Int} (h:ed gb go T cs vn ve ns es last m W) (hb:Below W.heap.size W W'):pV gb go T cs vn ve ns m W ⟨ns,es,last⟩ W':=
 ⟨ns,cs,vn,ve,m,rfl,h.later hb,rfl,fun _ _=>rfl,(Kept.refl _ W).below hb,fun b hb=>Or.inl hb,fun b hb=>Or.inl hb,fun y hy=>Or.inl ⟨y,hy,rfl⟩,by omega⟩
structure qG (g:oJ):Prop where
 n40:g.ns.length≤40
 GQ:g.es.length≤80
 wy:∀x∈g.ns,x.label.size≤maxLen
 ty:∀x∈g.es,x.type.size≤maxLen
 num:∀x∈g.ns,(Lit.int .i64 x.num).wf=true
 ends:∀x∈g.es,(Lit.int .i64 x.src).wf=true∧(Lit.int .i64 x.dst).wf=true
 last:0≤g.last∧g.last≤1000000
structure oL (q:au):Prop where
 BN:q.ai.length≤6
 FE:∀s∈q.ai,nL s
 first:∀s,q.ai[0]?=some s→s.type.toList.isEmpty=true
 conds:q.conds.length≤1000
 Lc:∀c∈q.conds,wu c
theorem oL.wj {q:au} (h:oL q) {ns sn:List aq} {es:List aJ} {S:aI→Bool} {last:Int} (hg:qG ⟨ns,es,last⟩) (hs:sn.map AY=dP S ns):Jb sn (es.filter (eM sn S)) q.ai q.conds:=by
 have hlen:sn.length≤ns.length:=by
  have h1:(sn.map AY).length=(dP S ns).length:=by rw[hs]
  unfold dP at h1
  rw[List.length_map,List.length_map] at h1
  rw[h1]
  exact List.length_filter_le _ _
 refine⟨h.BN,h.FE,h.first,h.conds,h.Lc,?_,fun x hx=>?_,fun e he=>(hg.ends e ((List.mem_filter.1 he).1)).2⟩
 ·have:=hg.n40
  simp only at this
  omega
 ·have h1:AY x∈dP S ns:=by rw[←hs];exact List.mem_map_of_mem hx
  unfold dP at h1
  obtain⟨y,hy,e⟩:=List.mem_map.1 h1
  have e1:x.num=y.num:=by have:=congrArg (fun t:Int × ByteArray × (ByteArray→Option Int)=>t.1) e;exact this.symm
  rw[e1]
  exact hg.num y ((List.mem_filter.1 hy).1)
end
section
open Go.RowKit Go.Maps Go.Sort
theorem sD {W w:World} {B k n:Nat} {T:TypeId} {v:Value} {xs:List Value} {D:Nat→Prop} (hr:W.ownsRow B T k v n xs) (hk:Kept D W w) (hD:∀b,D b→b<B):w.ownsRow B T k v n xs:=
 tR hr (fun g hg=>hk.block g (hr.lt g hg).2 (fun e=>by have h1:=hD g e;have h2:=(hr.lt g hg).1;omega))
theorem zo (l:List Int):l.map encZ=l.flatMap kI:=by
 induction l with
 | nil=>rfl
 | cons a r ih=>rw[List.map_cons,List.flatMap_cons,ih];rfl
theorem uD (ns:List aq) (n:Int):jU (ns.map de) n=jU ns n:=rj ns n
theorem py (ns:List aq) (S:aI→Bool) (v:Int) (k:ByteArray) (l:List Int):gX (ns.map de) S v k l=gX ns S v k l:=by
 unfold gX
 congr 1
 funext n
 rw[uD]
theorem xk (ns:List aq) (S:aI→Bool) (l:List Int):l8 (ns.map de) S l=l8 ns S l:=by
 funext x
 unfold l8 iw
 rw[qL]
variable {gb go m:Nat} {T:TypeId} {cs:Array Value} {vn ve:Value} {ns:List aq} {es:List aJ} {last:Int} {W:World}
theorem ed.low (h:ed gb go T cs vn ve ns es last m W):∀b,uz gb vn ve ns b→b<W.heap.size:=by
 intro b hb
 rcases hb with rfl|hb|hb|⟨x,hx,rfl⟩
 ·exact h.bZ.lt
 ·exact(h.on.lt b hb).2
 ·exact(h.oe.lt b hb).2
 ·exact(h.aW x hx).lt
theorem mn {ns:List aq} {es:List aJ} {q:au} {b:Int} {k:ByteArray} (hb:0≤b∧b≤5000) (h6:q.ai.length≤6):(fQ k (aR ns es q b).rows).length≤6000:=by
 have h1:=gD ns es q.conds q.ai ⟨#[]⟩ ⟨b,jN,[]⟩ hb.1
 have h2:bH ns es q.conds q.ai ⟨#[]⟩ ⟨b,jN,[]⟩=aR ns es q b:=rfl
 rw[h2] at h1
 simp only[List.length_nil] at h1
 unfold fQ
 rw[List.length_mergeSort]
 have h3:=pC (mP k (aR ns es q b).rows)
 have h4:(mP k (aR ns es q b).rows).length=(aR ns es q b).rows.length:=by unfold mP;rw[List.length_map]
 omega
theorem yn {S:aI→Bool} {ns sn:List aq} (h:sn.map AY=dP S ns) (hl:∀x∈ns,x.label.size≤maxLen):∀x∈sn,x.label.size≤maxLen:=by
 intro x hx
 have h1:AY x∈dP S ns:=by rw[←h];exact List.mem_map_of_mem hx
 unfold dP at h1
 obtain⟨y,hy,e⟩:=List.mem_map.1 h1
 have e1:x.label=y.label:=by have:=congrArg (fun t:Int × ByteArray × (ByteArray→Option Int)=>t.2.1) e;exact this.symm
 rw[e1]
 exact hl y (List.mem_filter.1 hy).1
theorem Ky {rb rn sc cc ic pc:Nat} {S:aI→Bool} {nm:ByteArray} {q:au} {budget:Int} {sa ca ia pa:Option Addr} (h:ed gb go T cs vn ve ns es last m W) (hz:go+2<cs.size) (hg:qG ⟨ns,es,last⟩) (hm:m<maxLen) (hr:bm W rb rn S) (hq:oL q) (hb:0≤budget∧budget≤5000) (hk:q.name.size≤maxLen)
  (hss:bO W 5 (.slice sa q.ai.length sc) q.ai.length (q.ai.flatMap kN)) (hsc:bO W 7 (.slice ca q.conds.length cc) q.conds.length (q.conds.flatMap kk)):
  Calls Tryz.prog 200 #[.pointer (some ⟨gb,go,none⟩),.agg #[.string nm,.map (some rb)],.agg (qC q (.slice sa q.ai.length sc) (.slice ca q.conds.length cc) (.slice ia q.items.length ic) (.slice pa q.ay.length pc)),.int .i64 budget] W fun e W'=>e=.returned (.tuple #[.int .i64 (BK S ⟨ns,es,last⟩ q budget).1,.int .i64 (BK S ⟨ns,es,last⟩ q budget).2.1])∧pV gb go T cs vn ve ns m W (BK S ⟨ns,es,last⟩ q budget).2.2 W':=by
 obtain⟨qc,hqc⟩:∃qc,qC q (.slice sa q.ai.length sc) (.slice ca q.conds.length cc) (.slice ia q.items.length ic) (.slice pa q.ay.length pc)=qc:=⟨_,rfl⟩
 have hf:ns.length≤1000000∧es.length≤1000000:=by have h1:=hg.n40;have h2:=hg.GQ;simp only at h1 h2;omega
 have hqs:qc.size=17:=by rw[←hqc];rfl
 have hB1:=(Below.refl W.heap.size W).alloc (Nat.le_refl _) (.cells #[.string nm,.map (some rb)] 118)
 have hB2:=hB1.alloc hB1.size (.cells qc 29)
 have HR2:=hid ((Loc.new W #[.string nm,.map (some rb)] 118).alloc (.cells qc 29))
 have HQ2:=hid (Loc.new (W.alloc (.cells #[.string nm,.map (some rb)] 118)) qc 29)
 have HB2:=hid hB2
 have H:=hid h
 have HZ:=hid hz
 have HG:=hid hg
 have HF:=hid hf
 have HMM:=hid hm
 have HR:=hid hr
 have HQF:=hid hq
 have HKS:=hid hk
 have HSS:=hid hss
 have HSC:=hid hsc
 have HBD:=hid hb
 have HQC:=hid hqc
 have HQS:Hid ((Tryz.prog.info? 29).map (·.size)=some qc.toList.length):=hid (by rw[Tryz.aX,Array.length_toList,hqs])
 clear h hz hg hf hm hr hq hk hss hsc hB1 hB2 hqs
 rw[hqc]
 clear hqc
 go_enter Tryz.func200,Tryz.ntmps200
 go_upto_region 1 with fail
 obtain⟨Y,hY⟩:∃Y,Y=W.heap.size:=⟨_,rfl⟩
 rw[World.size_alloc] at HQ2
 rw[←hY] at HR2 HQ2⊢
 clear hY
 generalize (W.alloc (.cells #[.string nm,.map (some rb)] 118)).alloc (.cells qc 29)=W2 at HB2 HR2 HQ2⊢
 have r0:=HR2.out.at_ 0 (.string nm) rfl
 have r1:=HR2.out.at_ 1 (.map (some rb)) rfl
 have HOF:=hid (KS (nm:=nm) ((H.out.qm HF.out).below HB2.out) (HR.out.kept (af HB2.out none) (by simp)) HMM.out HG.out.wy HG.out.ty)
 go_wp2_with fail
 refine HOF.out.mono ?_
 rintro e W3 ⟨Sb,sn,rfl,hSb,her,hseen,hb3,_⟩
 have HB3:=hid (HB2.out.trans (hb3.mono HB2.out.size))
 have HR3:=hid (HR2.out.grown (af hb3 none) (by simp))
 have HQ3:=hid (HQ2.out.grown (af hb3 none) (by simp))
 have HSEEN:=hid hseen
 have HER:=hid her
 have HNO:=hid (zg (ia:=ia) (ic:=ic) (pa:=pa) (pc:=pc) (budget:=budget) hseen (HQF.out.wj HG.out her) HBD.out HKS.out (HSS.out.below HB3.out) (HSC.out.below HB3.out))
 rw[HQC.out] at HNO
 clear hseen her hb3 hSb HOF r0 r1 HB2 HR2 HQ2
 go_wp2_with (refine wpList_load_mid rfl 29 _ rfl (Y+1) 0 rfl qc.toList _ HQ3.out.range Tryz.underlying29 rfl HQS.out ?_;simp only[Array.toArray_toList])
 refine HNO.out.mono ?_
 rintro e W4 ⟨⟨v,rfl,hrow⟩,hb4⟩
 obtain⟨l,hl⟩:∃l,fQ q.name (aR sn (es.filter (eM sn S)) q budget).rows=l:=⟨_,rfl⟩
 rw[hl,zo] at hrow
 have HLL:Hid (l.length≤6000):=hid (by rw[←hl];exact mn HBD.out HQF.out.BN)
 obtain⟨al,cl,rfl⟩:=bB hrow
 obtain⟨lf,hlf⟩:∃lf,(aR sn (es.filter (eM sn S)) q budget).left=lf:=⟨_,rfl⟩
 have HDP:Hid (BK S ⟨ns,es,last⟩ q budget=if 0≤lf then (if gX sn S 6 ⟨#[]⟩ l&&es.all (l8 sn S l) then ((l.length:Int),0,⟨ns.filter (fun x=>!(cW l x.num)),es.filter (fun x=>!(eN l x)),last⟩) else (0,7,⟨ns,es,last⟩)) else (0,6,⟨ns,es,last⟩)):=hid (by
  unfold BK iD
  simp only
  rw[←oO HER.out,hl,hlf,←nr HER.out,py,xk])
 rw[hlf]
 have HB4:=hid (HB3.out.trans (hb4.mono HB3.out.size))
 have HR4:=hid (HR3.out.grown (af hb4 none) (by simp))
 have HS4:=hid (HSEEN.out.below hb4)
 have HROW:=hid hrow
 clear hl hlf hrow hb4 HNO HSEEN HR3 HQ3
 by_cases hle:0≤lf
 ·have hd:decide (0≤lf)=true:=decide_eq_true hle
  rw[hd]
  have HDQ:Hid (BK S ⟨ns,es,last⟩ q budget=if gX sn S 6 ⟨#[]⟩ l&&es.all (l8 sn S l) then ((l.length:Int),0,⟨ns.filter (fun x=>!(cW l x.num)),es.filter (fun x=>!(eN l x)),last⟩) else (0,7,⟨ns,es,last⟩)):=hid (by rw[HDP.out,if_pos hle])
  clear hd HDP hle
  have r0:=HR4.out.at_ 0 (.string nm) rfl
  have r1:=HR4.out.at_ 1 (.map (some rb)) rfl
  have HMA:=hid (uS (nm:=nm) (v:=6) (k:=⟨#[]⟩) HS4.out (HR.out.kept (af HB4.out none) (by simp)) (yn HER.out HG.out.wy) (aP HROW.out HROW.out.1) (by have:=HLL.out;omega) (by decide) (by decide) (by decide))
  go_wp2_with fail
  refine HMA.out.mono ?_
  rintro e W5 ⟨rfl,hb5⟩
  have HB5:=hid (HB4.out.trans (hb5.mono HB4.out.size))
  have HR5:=hid (HR4.out.grown (af hb5 none) (by simp))
  have HS5:=hid (HS4.out.below hb5)
  have HRO5:=hid (HROW.out.kept (af hb5 none) (by cases (Value.ownBlock _)<;>simp))
  clear hb5 HMA r0 r1 HB4 HR4 HS4 HROW
  cases ha:gX sn S 6 ⟨#[]⟩ l with
  | false=>
   have HDR:Hid (BK S ⟨ns,es,last⟩ q budget=(0,7,⟨ns,es,last⟩)):=hid (by rw[HDQ.out,ha];rfl)
   clear ha HDQ
   go_wp2_with fail
   go_ret2
   refine⟨?_,?_⟩
   ·rw[HDR.out]
    rfl
   ·rw[HDR.out]
    exact pV.same H.out HB5.out
  | true=>
   have HDR:Hid (BK S ⟨ns,es,last⟩ q budget=if es.all (l8 sn S l) then ((l.length:Int),0,⟨ns.filter (fun x=>!(cW l x.num)),es.filter (fun x=>!(eN l x)),last⟩) else (0,7,⟨ns,es,last⟩)):=hid (by rw[HDQ.out,ha];rfl)
   clear ha HDQ
   have r0:=HR5.out.at_ 0 (.string nm) rfl
   have r1:=HR5.out.at_ 1 (.map (some rb)) rfl
   have HFR:=hid (Eu (nm:=nm) ((H.out.later HB5.out).qm HF.out) HS5.out (HR.out.kept (af HB5.out none) (by simp)) HG.out.ty (aP HRO5.out HRO5.out.1) (by have:=HLL.out;omega))
   go_wp2_with fail
   refine HFR.out.mono ?_
   rintro e W6 ⟨rfl,hb6⟩
   have HB6:=hid (HB5.out.trans (hb6.mono HB5.out.size))
   have HRO6:=hid (HRO5.out.kept (af hb6 none) (by cases (Value.ownBlock _)<;>simp))
   clear hb6 HFR r0 r1 HB5 HR5 HS5 HRO5
   cases hfr:es.all (l8 sn S l) with
   | false=>
    have HDS:Hid (BK S ⟨ns,es,last⟩ q budget=(0,7,⟨ns,es,last⟩)):=hid (by rw[HDR.out,hfr];rfl)
    clear hfr HDR
    go_wp2_with fail
    go_ret2
    refine⟨?_,?_⟩
    ·rw[HDS.out]
     rfl
    ·rw[HDS.out]
     exact pV.same H.out HB6.out
   | true=>
    have HDS:Hid (BK S ⟨ns,es,last⟩ q budget=((l.length:Int),0,⟨ns.filter (fun x=>!(cW l x.num)),es.filter (fun x=>!(eN l x)),last⟩)):=hid (by rw[HDR.out,hfr];rfl)
    clear hfr HDR
    have hlow:=H.out.low
    have HDC:=hid (KM (l:=l) (H.out.later HB6.out) HZ.out HF.out (by have:=HLL.out;omega) (fun w hk=>by
     have h1:=sD HRO6.out hk (fun b hb=>Nat.lt_of_lt_of_le (hlow b (hb.elim Or.inl (fun hb=>Or.inr (hb.elim Or.inl (fun hb=>Or.inr (Or.inl hb)))))) HB3.out.size)
     exact aP h1 h1.1))
    go_wp2_with fail
    refine HDC.out.mono ?_
    rintro e W7 ⟨rfl,cs',vn',ve',h7,hsz,hot,hk7,hn7,he7⟩
    have HC7:Hid (pV gb go T cs vn ve ns m W ⟨ns.filter (fun x=>!(cW l x.num)),es.filter (fun x=>!(eN l x)),last⟩ W7):=hid ⟨_,cs',vn',ve',m,rfl,h7,hsz,fun j hj=>hot j (by omega) (by omega),((Kept.refl _ W).below HB6.out).trans (hk7.kt (fun b hb=>hb.elim Or.inl (fun hb=>Or.inr (hb.elim Or.inl (fun hb=>Or.inr (Or.inl hb)))))),fun b hb=>Or.inl (by rw[←hn7];exact hb),fun b hb=>Or.inl (by rw[←he7];exact hb),fun y hy=>Or.inl ⟨y,(List.mem_filter.1 hy).1,rfl⟩,by omega⟩
    clear h7 hsz hot hk7 hn7 he7 HDC hlow
    have hll:(l.length:Int)≤6000:=by have:=HLL.out;omega
    go_wp2_with fail
    go_ret2
    refine⟨?_,?_⟩
    ·rw[HDS.out]
     rfl
    ·rw[HDS.out]
     exact HC7.out
 ·have hd:decide (0≤lf)=false:=decide_eq_false hle
  rw[hd]
  have HDQ:Hid (BK S ⟨ns,es,last⟩ q budget=(0,6,⟨ns,es,last⟩)):=hid (by rw[HDP.out,if_neg hle])
  clear hd HDP hle
  go_wp2_with fail
  go_ret2
  refine⟨?_,?_⟩
  ·rw[HDQ.out]
   rfl
  ·rw[HDQ.out]
   exact pV.same H.out HB4.out
end
end Go.Proofs.YtobgbmfpicmpcaaGreatDoor
