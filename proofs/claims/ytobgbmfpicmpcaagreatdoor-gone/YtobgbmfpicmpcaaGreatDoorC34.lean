/- slices.DeleteFunc over an own row, whole. -/
import Derived.Test.YtobgbmfpicmpcaaGreatDoorC33
import Derived.Lib.Hide
set_option maxRecDepth 100000
set_option maxHeartbeats 8000000
namespace Go.Proofs.YtobgbmfpicmpcaaGreatDoor
open Go.Lib (hid)
section
open Go.RowKit Go.Maps
theorem iX.KC {α:Type} {p:α→Bool} {l:List α} {i j:Int} (h:iX p l i) (h':iX p l j):i=j:=by
 have aux:∀{a b:Nat} (ha:a<l.length),p l[a]=true→(l.take b).all (fun x=>!(p x))=true→b≤a:=by
  intro a b ha hp hall
  apply Nat.le_of_not_lt
  intro hlt
  have:=List.all_eq_true.1 hall l[a] (by rw[List.mem_iff_getElem];exact⟨a,by rw[List.length_take];omega,by rw[List.getElem_take]⟩)
  rw[hp] at this
  cases this
 have aux2:∀{a:Nat} (ha:a<l.length),p l[a]=true→l.all (fun x=>!(p x))=true→False:=by
  intro a ha hp hall
  have:=List.all_eq_true.1 hall l[a] (List.getElem_mem ha)
  rw[hp] at this
  cases this
 rcases h with ⟨h1,h2⟩|⟨a,h1,h2,h3,h4⟩
 ·rcases h' with ⟨g1,g2⟩|⟨b,g1,g2,g3,g4⟩
  ·rw[h1,g1]
  ·exact(aux2 g2 g3 h2).elim
 ·rcases h' with ⟨g1,g2⟩|⟨b,g1,g2,g3,g4⟩
  ·exact(aux2 h2 h3 g2).elim
  ·have e1:=aux h2 h3 g4
   have e2:=aux g2 g3 h4
   rw[h1,g1];omega
theorem iX.ex {α:Type} (p:α→Bool):∀(l:List α),∃i,iX p l i
 | []=>⟨-1,Or.inl ⟨rfl,rfl⟩⟩
 | x::r=>by
  cases hx:p x with
  | true=>exact⟨0,Or.inr ⟨0,rfl,by simp,by simpa using hx,by simp⟩⟩
  | false=>
   obtain⟨i,hi⟩:=iX.ex p r
   rcases hi with ⟨h1,h2⟩|⟨a,h1,h2,h3,h4⟩
   ·exact⟨-1,Or.inl ⟨rfl,by rw[List.all_cons,hx,h2];rfl⟩⟩
   ·exact⟨((a+1:Nat):Int),Or.inr ⟨a+1,rfl,by simp;exact h2,by simpa using h3,by rw[List.take_succ_cons,List.all_cons,hx,h4];rfl⟩⟩
theorem Kept.by {g:Nat} {W w:World} (h:Kept (fun b=>b=g) W w):W.grownBy w (some g):=⟨h.os,h.tape,h.output,h.size,fun k hk hne=>h.block k hk (fun e=>hne (by rw[e]))⟩
theorem EX {α:Type} {f:α→List Value} (hk:∀a,(f a).length=3) (l:List α):(l.flatMap f).length=l.length*3:=by
 induction l with
 | nil=>rfl
 | cons y r ih=>rw[List.flatMap_cons,List.length_append,ih,hk,List.length_cons];omega
theorem BI {α:Type} {f:α→List Value} (hk:∀a,(f a).length=3) {cur:Array Value} {ns:List α} (hs:ns.length*3≤cur.size) (ht:cur.toList.take (ns.length*3)=ns.flatMap f) {k:Nat} (hkn:k<ns.length):qy f cur ns (ns.take k) k:=by
 have hat:∀q,q<ns.length*3→cur[q]?=(ns.flatMap f)[q]?:=by
  intro q hq
  rw[←ht,List.getElem?_take_of_lt hq];simp
 refine⟨hs,fun q hq=>?_,fun t htl _ q hq=>?_,by rw[List.length_take];omega⟩
 ·have hlen:(ns.take k).length=k:=by rw[List.length_take];omega
  rw[hlen] at hq
  rw[hat q (by omega)]
  have e:ns.flatMap f=(ns.take k).flatMap f++(ns.drop k).flatMap f:=by rw[←List.flatMap_append,List.take_append_drop]
  rw[e,List.getElem?_append_left (by rw[EX hk,hlen];exact hq)]
 ·rw[hat (t*3+q) (by omega)]
  exact om f hk ns t htl q hq
theorem DR {W:World} {P:Nat} {l:List Int} {aop:Option Addr} {cap:Nat} {vn:Value} {ns:List aq} (ho:W.ownsRow 0 139 3 vn ns.length (ns.flatMap eD)) (hl:ns.length≤1000000)
  (hst:∀w,W.grownBy w vn.ownBlock→w.cell? ⟨P,0,none⟩=some (.slice aop l.length cap)∧bO w 1 (.slice aop l.length cap) l.length (l.flatMap kI)) (hn:l.length≤1000000):
  Calls Tryz.prog 302 #[vn,.func (.func 303) #[] #[.pointer (some ⟨P,0,none⟩)]] W fun e W'=>∃v',e=.returned v'∧W'.ownsRow 0 139 3 v' (ns.filter (fun x=>!(cW l x.num))).length ((ns.filter (fun x=>!(cW l x.num))).flatMap eD)∧v'.ownBlock=vn.ownBlock∧W.grownBy W' vn.ownBlock:=by
 obtain⟨av,cv,rfl⟩:=bB ho
 have hself:W.grownBy W (Value.slice av ns.length cv).ownBlock:=⟨rfl,rfl,rfl,Nat.le_refl _,fun _ _ _=>rfl⟩
 have hi:=E4 (aP ho (EX (fun _=>rfl) ns)) hl (hst W hself).1 (hst W hself).2 hn
 obtain⟨i,hidx⟩:=iX.ex (fun x:aq=>cW l x.num) ns
 have hi2:=hi.mono (R':=fun e W'=>e=.returned (.int .i64 i)∧Below W.heap.size W W') (fun e W' ⟨⟨j,he,hj⟩,hb⟩=>⟨by rw[he,hj.KC hidx],hb⟩)
 rcases hidx with ⟨rfl,h2⟩|⟨k,rfl,hk,h3,h4⟩
 ·refine(wB hi2).mono ?_
  rintro e W' ⟨rfl,hb⟩
  rw[filter_all h2]
  exact⟨_,rfl,ho.kept (af hb none) (by cases (Value.slice av ns.length cv).ownBlock<;>simp),rfl,af hb _⟩
 ·have hx:=ho.2
  rcases hx with ⟨_,h0⟩|⟨g,cp,cur,hv,_,hb,hc1,hc2,hc3,ht⟩
  ·omega
  ·injection hv with e1 e2 e3
   subst e1 e3
   refine(FQ (g:=g) (k0:=k) hb (BI (fun _=>rfl) (by omega) ht hk) ⟨hc1,hc2,hc3⟩ hl hk h3 h4 (fun w hw=>hst w hw.by) hn hi2).mono ?_
   rintro e W' ⟨kept,rfl,rfl,hown,hkp⟩
   exact⟨_,rfl,hown,rfl,hkp.by⟩
theorem C3 {W:World} {P:Nat} {l:List Int} {aop:Option Addr} {cap:Nat} {vn:Value} {ns:List aJ} (ho:W.ownsRow 0 142 3 vn ns.length (ns.flatMap fL)) (hl:ns.length≤1000000)
  (hst:∀w,W.grownBy w vn.ownBlock→w.cell? ⟨P,0,none⟩=some (.slice aop l.length cap)∧bO w 1 (.slice aop l.length cap) l.length (l.flatMap kI)) (hn:l.length≤1000000):
  Calls Tryz.prog 305 #[vn,.func (.func 306) #[] #[.pointer (some ⟨P,0,none⟩)]] W fun e W'=>∃v',e=.returned v'∧W'.ownsRow 0 142 3 v' (ns.filter (fun x=>!(eN l x))).length ((ns.filter (fun x=>!(eN l x))).flatMap fL)∧v'.ownBlock=vn.ownBlock∧W.grownBy W' vn.ownBlock:=by
 obtain⟨av,cv,rfl⟩:=bB ho
 have hself:W.grownBy W (Value.slice av ns.length cv).ownBlock:=⟨rfl,rfl,rfl,Nat.le_refl _,fun _ _ _=>rfl⟩
 have hi:=FV (aP ho (EX (fun _=>rfl) ns)) hl (hst W hself).1 (hst W hself).2 hn
 obtain⟨i,hidx⟩:=iX.ex (eN l) ns
 have hi2:=hi.mono (R':=fun e W'=>e=.returned (.int .i64 i)∧Below W.heap.size W W') (fun e W' ⟨⟨j,he,hj⟩,hb⟩=>⟨by rw[he,hj.KC hidx],hb⟩)
 rcases hidx with ⟨rfl,h2⟩|⟨k,rfl,hk,h3,h4⟩
 ·refine(wI hi2).mono ?_
  rintro e W' ⟨rfl,hb⟩
  rw[filter_all h2]
  exact⟨_,rfl,ho.kept (af hb none) (by cases (Value.slice av ns.length cv).ownBlock<;>simp),rfl,af hb _⟩
 ·have hx:=ho.2
  rcases hx with ⟨_,h0⟩|⟨g,cp,cur,hv,_,hb,hc1,hc2,hc3,ht⟩
  ·omega
  ·injection hv with e1 e2 e3
   subst e1 e3
   refine(GJ (g:=g) (k0:=k) hb (BI (fun _=>rfl) (by omega) ht hk) ⟨hc1,hc2,hc3⟩ hl hk h3 h4 (fun w hw=>hst w hw.by) hn hi2).mono ?_
   rintro e W' ⟨kept,rfl,rfl,hown,hkp⟩
   exact⟨_,rfl,hown,rfl,hkp.by⟩
end
section
open Go.RowKit Go.Maps
variable {gb go m:Nat} {T:TypeId} {cs:Array Value} {vn ve:Value} {ns:List aq} {es:List aJ} {last:Int} {W w:World}
theorem ed.Hg {v':Value} {p:aq→Bool} (h:ed gb go T cs vn ve ns es last m W) (hg:W.grownBy w vn.ownBlock) (ho:w.ownsRow 0 139 3 v' (ns.filter p).length ((ns.filter p).flatMap eD)) (hs:go+2<cs.size):
  ed gb go T (cs.setIfInBounds go v') v' ve (ns.filter p) es last m (w.setCell ⟨gb,go,none⟩ v'):=by
 have hl:=h.bZ.fs h.on hg h.kT.1
 have g2:=aC w gb go v'
 have he':=h.oe.kept hg (gm h.oe h.on (by decide))
 refine⟨hl.set go v',?_,?_,?_,ho.kept g2 (Or.inr (fun e=>aQ ho hl h.kT.1 e)),he'.kept g2 (Or.inr (fun e=>aQ he' hl h.kT.2 e)),fun y hy=>?_,?_,h.gh.sublist (List.filter_sublist),fun y hy=>h.top y (List.mem_filter.1 hy).1,h.kT⟩
 ·rw[Array.getElem?_setIfInBounds,if_pos rfl,if_pos (by omega)]
 ·rw[Array.getElem?_setIfInBounds,if_neg (by omega)];exact h.c1
 ·rw[Array.getElem?_setIfInBounds,if_neg (by omega)];exact h.c2
 ·have hy0:=h.aW y (List.mem_filter.1 hy).1
  have hy':=hy0.kept hg (hy0.eh h.on)
  exact hy'.kept g2 (by intro e;injection e with e;exact hy'.aV hl e)
 ·exact h.apart.sublist (List.Sublist.map _ List.filter_sublist)
theorem ed.GX {v':Value} {p:aJ→Bool} (h:ed gb go T cs vn ve ns es last m W) (hg:W.grownBy w ve.ownBlock) (ho:w.ownsRow 0 142 3 v' (es.filter p).length ((es.filter p).flatMap fL)) (hs:go+2<cs.size):
  ed gb go T (cs.setIfInBounds (go+1) v') vn v' ns (es.filter p) last m (w.setCell ⟨gb,go+1,none⟩ v'):=by
 have hl:=h.bZ.fs h.oe hg h.kT.2
 have g2:=aC w gb (go+1) v'
 have hn':=h.on.kept hg (gm h.on h.oe (by decide))
 refine⟨hl.set (go+1) v',?_,?_,?_,hn'.kept g2 (Or.inr (fun e=>aQ hn' hl h.kT.1 e)),ho.kept g2 (Or.inr (fun e=>aQ ho hl h.kT.2 e)),fun y hy=>?_,h.apart,h.gh,h.top,h.kT⟩
 ·rw[Array.getElem?_setIfInBounds,if_neg (by omega)];exact h.c0
 ·rw[Array.getElem?_setIfInBounds,if_pos rfl,if_pos (by omega)]
 ·rw[Array.getElem?_setIfInBounds,if_neg (by omega)];exact h.c2
 ·have hy':=(h.aW y hy).kept hg ((h.aW y hy).eh h.oe)
  exact hy'.kept g2 (by intro e;injection e with e;exact hy'.aV hl e)
theorem KM {l:List Int} {aop:Option Addr} {cap:Nat} (h:ed gb go T cs vn ve ns es last m W) (hs:go+2<cs.size) (hf:ns.length≤1000000∧es.length≤1000000) (hn:l.length≤1000000)
  (hst:∀w,Kept (fun b=>b=gb∨vn.ownBlock=some b∨ve.ownBlock=some b) W w→bO w 1 (.slice aop l.length cap) l.length (l.flatMap kI)):
  Calls Tryz.prog 266 #[.pointer (some ⟨gb,go,none⟩),.slice aop l.length cap] W fun e W'=>e=.returned (.tuple #[])∧∃cs' vn' ve',ed gb go T cs' vn' ve' (ns.filter (fun x=>!(cW l x.num))) (es.filter (fun x=>!(eN l x))) last m W'∧cs'.size=cs.size∧(∀j,j≠go→j≠go+1→cs'[j]?=cs[j]?)∧Kept (fun b=>b=gb∨vn.ownBlock=some b∨ve.ownBlock=some b) W W'∧vn'.ownBlock=vn.ownBlock∧ve'.ownBlock=ve.ownBlock:=by
 have HD:=hid (h.later ((Below.refl _ _).alloc (Nat.le_refl _) (.cells #[.slice aop l.length cap] 53)))
 have HK:=hid ((Kept.refl (fun b=>b=gb∨vn.ownBlock=some b∨ve.ownBlock=some b) W).below ((Below.refl _ _).alloc (Nat.le_refl _) (.cells #[.slice aop l.length cap] 53)))
 have HX:=hid (Loc.new W #[.slice aop l.length cap] 53)
 have hne:gb≠W.heap.size:=Nat.ne_of_lt h.bZ.lt
 have HS:=hid hs
 have HF:=hid hf
 have HN:=hid hn
 have HST:=hid hst
 clear h hs hf hn hst
 go_enter Tryz.func266,Tryz.ntmps266
 go_upto_region 1 with fail
 obtain⟨P,hP⟩:∃P,P=W.heap.size:=⟨_,rfl⟩
 rw[←hP] at HX hne⊢
 have HNE:=hid hne
 clear hP hne
 generalize W.alloc (.cells #[.slice aop l.length cap] 53)=W1 at HD HK HX⊢
 have c0:W1.cell? ⟨gb,go,none⟩=some vn:=(HD.out.bZ.cell go).trans HD.out.c0
 go_wp2_with fail
 refine(DR (P:=P) HD.out.on HF.out.1 (fun w hw=>⟨((HX.out.grown hw (fun e=>aQ HD.out.on HX.out (by decide) e.symm)).cell 0).trans rfl,HST.out w (HK.out.then hw (fun k hk=>Or.inl (Or.inr (Or.inl hk))))⟩) HN.out).mono ?_
 rintro e W2 ⟨v1,rfl,ho,hob,hg⟩
 obtain⟨a1,k1,rfl⟩:=bB ho
 generalize hv1:Value.slice a1 (ns.filter (fun x=>!(cW l x.num))).length k1=v1 at ho
 have HD2:=hid (HD.out.Hg (p:=fun x=>!(cW l x.num)) hg ho HS.out)
 have HL2:=hid (HD.out.bZ.fs HD.out.on hg HD.out.kT.1)
 have HX2:=hid (((HX.out.grown hg (fun e=>aQ HD.out.on HX.out (by decide) e.symm))).setOther HNE.out.symm go v1)
 have HK2:=hid ((HK.out.then hg (fun k hk=>Or.inl (Or.inr (Or.inl hk)))).then (aC W2 gb go v1) (fun b hb=>Or.inl (Or.inl (by injection hb with hb;exact hb.symm))))
 have HC0:=hid HD.out.c0
 have HO1:Hid (v1.ownBlock=vn.ownBlock):=hid (by rw[←hv1];exact hob)
 subst hv1
 clear ho hob hg c0 HD HK HX
 have c0:W2.cell? ⟨gb,go,none⟩=some vn:=(HL2.out.cell go).trans HC0.out
 have f0:=HL2.out.free go
 go_upto_region 2 with fail
 clear c0 f0 HL2 HC0
 generalize W2.setCell ⟨gb,go,none⟩ _=W3 at HD2 HX2 HK2⊢
 generalize Value.slice a1 (ns.filter (fun x=>!(cW l x.num))).length k1=v1 at HD2 HO1⊢
 have HS2:Hid (go+2<(cs.setIfInBounds go v1).size):=hid (by have:=HS.out;simpa using this)
 have c1:W3.cell? ⟨gb,go+1,none⟩=some ve:=(HD2.out.bZ.cell (go+1)).trans HD2.out.c1
 go_wp2_with fail
 refine(C3 (P:=P) HD2.out.oe HF.out.2 (fun w hw=>⟨((HX2.out.grown hw (fun e=>aQ HD2.out.oe HX2.out (by decide) e.symm)).cell 0).trans rfl,HST.out w (HK2.out.then hw (fun k hk=>Or.inl (Or.inr (Or.inr hk))))⟩) HN.out).mono ?_
 rintro e W4 ⟨v2,rfl,ho,hob,hg⟩
 obtain⟨a2,k2,rfl⟩:=bB ho
 have HD4:=hid (HD2.out.GX (p:=fun x=>!(eN l x)) hg ho HS2.out)
 have HL4:=hid (HD2.out.bZ.fs HD2.out.oe hg HD2.out.kT.2)
 have HK4:=hid ((HK2.out.then hg (fun k hk=>Or.inl (Or.inr (Or.inr hk)))).then (aC W4 gb (go+1) (.slice a2 (es.filter (fun x=>!(eN l x))).length k2)) (fun b hb=>Or.inl (Or.inl (by injection hb with hb;exact hb.symm))))
 have HO2:=hid hob
 have c1':W4.cell? ⟨gb,go+1,none⟩=some ve:=(HL4.out.cell (go+1)).trans HD2.out.c1
 have f1:=HL4.out.free (go+1)
 clear ho hob hg c1 HX2 HK2
 go_wp2_with fail
 go_end0
 refine⟨rfl,_,_,_,HD4.out,by simp,fun j h0 h1=>?_,HK4.out,HO1.out,HO2.out⟩
 rw[Array.getElem?_setIfInBounds,if_neg (by omega),Array.getElem?_setIfInBounds,if_neg (by omega)]
end
end Go.Proofs.YtobgbmfpicmpcaaGreatDoor
