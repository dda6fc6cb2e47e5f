/- veilkeep's others, walked. -/
import Derived.Test.YtobgbmfpicmpcaaGreatDoorDN03
import Derived.Test.YtobgbmfpicmpcaaGreatDoorC42
import Derived.Test.YtobgbmfpicmpcaaGreatDoorDN02
import Derived.Lib.Hide
set_option maxRecDepth 100000
set_option maxHeartbeats 8000000
namespace Go.Proofs.YtobgbmfpicmpcaaGreatDoor
open Go.Lib (hid)
section
open Go.RowKit Go.Maps Go.Sort
def bs (ns:List aq) (ts:List ByteArray) (es:List aJ):List (ByteArray × ByteArray):=(ns.zip ts).map (fun p=>(p.1.label,p.2))++es.map (fun e=>(e.type,bu e))
def vg (p:ByteArray × ByteArray):Bool:=decide (p.1=⟨#[66]⟩) || decide (p.1=⟨#[72]⟩)
def bb (l:List (ByteArray × ByteArray)):List ByteArray:=(l.filter vg).map (·.2)
theorem uc {ns:List aq} {ts:List ByteArray} {es:List aJ} (h:ts.length=ns.length):(bs ns ts es).map (·.2)=ts++es.map bu:=by
 unfold bs
 rw[List.map_append,List.map_map,List.map_map]
 congr 1
 ·have e:((fun p:ByteArray × ByteArray=>p.2) ∘ fun p:aq × ByteArray=>(p.1.label,p.2))=Prod.snd:=rfl
  rw[e]
  exact List.map_snd_zip (by omega)
theorem xp {ns:List aq} {ts:List ByteArray} {es:List aJ} {last:Int} (hn:bx ns ts) (hd:qae ⟨ns,es,last⟩) (hok:Ly ns es):∀p∈bs ns ts es,∃d r,p.2=ba (d::p.1::r)∧th d∧th p.1∧p.2.size≤1000000000000:=by
 intro p hp
 unfold bs at hp
 rcases List.mem_append.1 hp with hp|hp
 ·obtain⟨z,hz,rfl⟩:=List.mem_map.1 hp
  obtain⟨i,hi,rfl⟩:=List.getElem_of_mem hz
  have hl:i<ns.length∧i<ts.length:=by rw[List.length_zip] at hi;omega
  rw[List.getElem_zip]
  have hx:ns[i]∈ns:=List.getElem_mem hl.1
  obtain⟨⟨l,_,e⟩,hsz⟩:=hn i ns[i] ts[i] (List.getElem?_eq_getElem hl.1) (List.getElem?_eq_getElem hl.2)
  exact⟨dB (ns[i]).num,l.map (cO (ns[i]).aW),e,lI _,gA (mN (hd.wy _ hx)),by simp only;omega⟩
 ·obtain⟨x,hx,rfl⟩:=List.mem_map.1 hp
  have hw:isWord x.type=true:=by
   rcases hd.ty x hx with e|e
   ·rw[e];exact mN Pure.vH
   ·rw[e];exact mN Pure.xa
  refine⟨dB x.src,[dB x.dst],rfl,lI _,gA hw,?_⟩
  simp only[bu]
  rw[fe]
  refine Nat.le_trans (br _ 1100 (fun y hy=>?_)) (by simp)
  obtain⟨b,hb,rfl⟩:=List.mem_map.1 hy
  rcases List.mem_cons.1 hb with rfl|hb
  ·have:=vU (hok.ends x hx).1;omega
  ·rcases List.mem_cons.1 hb with rfl|hb
   ·have h1:=hok.ty x hx
    rw[Array.length_toList]
    exact Nat.le_trans h1 (by omega)
   ·rw[List.mem_singleton.1 hb]
    have:=vU (hok.ends x hx).2;omega
theorem tj {W:World} {G m:Nat} {cs:Array Value} {vn ve:Value} {ns:List aq} {es:List aJ} {last:Int} (h:ed G 1 129 cs vn ve ns es last m W) (hok:Ly ns es) (hd:qae ⟨ns,es,last⟩) (hm:m≤1000000) (ht:BG W):
  Calls Tryz.prog 29 #[.pointer (some ⟨G,0,none⟩)] W fun e W'=>∃v ts,e=.returned v∧ts.length=ns.length∧bx ns ts∧W'.ownsRow W.heap.size 9 1 v (bb (bs ns ts es)).length (strs (bb (bs ns ts es)))∧Below W.heap.size W W':=by
 obtain⟨i1,hj,hy0,hy1,hy2⟩:=info_parts Tryz.tN
 have HI0:=hid (And.intro hj (And.intro hy0 (And.intro hy1 hy2)))
 have HDU:=hid (F9 h hok hm ht)
 have HDD:=hid hd
 have HFW:=hid hok.rF
 have HOK:=hid hok
 clear h hok hd hm ht hj hy0 hy1 hy2
 go_enter Tryz.func29,Tryz.ntmps29
 go_wp2_with fail
 refine HDU.out.mono ?_
 rintro e W1 ⟨v1,L0,rfl,hrow,⟨ts,hts,hnt,hL⟩,hb1⟩
 obtain⟨la,lc,rfl⟩:=bB hrow
 have HSE:=hid (aP hrow hrow.1)
 have HB1:=hid hb1
 have HTS:=hid hts
 have HNT:=hid hnt
 have HLO:=hid (xp hnt HDD.out HOK.out)
 obtain⟨ps,hps⟩:∃ps,bs ns ts es=ps:=⟨_,rfl⟩
 have HPS:=hid hps
 have hmp:ps.map (·.2)=L0:=by rw[←hps,hL];exact uc hts
 have HMP:=hid hmp
 have hpl:L0.length=ps.length:=by rw[←hmp,List.length_map]
 have hL1:ps.length≤1000000:=by
  rw[←hpl,hL,List.length_append,List.length_map,hts]
  have:=HFW.out
  omega
 rw[hps] at HLO
 rw[hpl] at HSE⊢
 clear hrow hb1 hts hnt hL hps hmp hpl HDU
 go_wp2_with fail
 go_loopg [4,5] ps.length (fun c lv iv w=>∃(k:Nat),iv=.int .i64 (k:Int)∧k+c=ps.length∧w.ownsRow W1.heap.size 9 1 lv (bb (ps.take k)).length (strs (bb (ps.take k)))∧Below W1.heap.size W1 w)
 case atStart=>exact⟨0,rfl,by omega,World.ownsRow_nil _ _ _ _,Below.refl _ _⟩
 case round=>
  obtain⟨k,rfl,hk,ho,hb⟩:=hrel
  have HO:=hid ho
  have HB:=hid hb
  clear ho hb
  by_cases hlt:k<ps.length
  ·have hki:(k:Int)<(ps.length:Int):=by omega
   obtain⟨p,hp⟩:∃p,ps[k]=p:=⟨_,rfl⟩
   have hpm:p∈ps:=by rw[←hp];exact List.getElem_mem hlt
   have hL0:L0.length=ps.length:=by rw[←HMP.out,List.length_map]
   have hlt0:k<L0.length:=by omega
   obtain⟨g,oo,hal,hcell⟩:=bY (l:=L0) (fun s=>[.string s]) (fun _=>rfl) (by have h1:=HSE.out.below HB.out;unfold strs at h1;rw[List.map_eq_flatMap] at h1;rw[hL0];exact h1) hlt0
   have hc0:=hcell 0 (by decide)
   subst hal
   have hpk:L0[k]=p.2:=by
    have h1:(ps.map (·.2))[k]?=some p.2:=by rw[List.getElem?_map,List.getElem?_eq_getElem hlt,hp];rfl
    rw[HMP.out,List.getElem?_eq_getElem hlt0] at h1
    exact Option.some.inj h1
   have hcy:wr.cell? ⟨g,oo+k,none⟩=some (.string p.2):=by have h1:=hc0;rw[Nat.mul_one,hpk] at h1;exact h1
   obtain⟨d,r,e2,hd1,hd2,hd3⟩:=HLO.out p hpm
   have HTK:Hid (ps.take (k+1)=ps.take k++[p]):=hid (by rw[List.take_add_one,List.getElem?_eq_getElem hlt,hp];rfl)
   obtain⟨w,ln⟩:=p
   simp only at hcy e2 hd2 hd3
   have hB:=ky (r:=r) (wy:=⟨#[66]⟩) hd1 hd2 (by intro c hc;simp at hc;rw[hc];decide)
   have hH:=ky (r:=r) (wy:=⟨#[72]⟩) hd1 hd2 (by intro c hc;simp at hc;rw[hc];decide)
   rw[←e2] at hB hH
   have HLB:=hid (gu (W:=wr) (wy:=⟨#[66]⟩) hB.1 hB.2.1 hB.2.2.1 hd3)
   have HLH:=hid (gu (W:=wr) (wy:=⟨#[72]⟩) hH.1 hH.2.1 hH.2.2.1 hd3)
   rw[hB.2.2.2] at HLB
   rw[hH.2.2.2] at HLH
   have HSL:Hid ((bb (ps.take k)).length≤1000000):=hid (by unfold bb;rw[List.length_map];exact Nat.le_trans (List.length_filter_le _ _) (by rw[List.length_take];omega))
   clear hp hpm hL0 hlt0 hcell hc0 hpk e2 hd1 hd2 hd3 hB hH d r
   have HSE1:Hid (vg (w,ln)=true→bb (ps.take k++[(w,ln)])=bb (ps.take k)++[ln]):=hid (fun hbw=>by unfold bb;rw[List.filter_append,List.filter_cons,hbw,List.map_append];rfl)
   have HSE2:Hid (vg (w,ln)=false→bb (ps.take k++[(w,ln)])=bb (ps.take k)):=hid (fun hbw=>by unfold bb;rw[List.filter_append,List.filter_cons,hbw];simp)
   cases h1:decide (w=⟨#[66]⟩) with
   | true=>
    have HSEL:=hid (HSE1.out (by unfold vg;simp only;rw[h1];rfl))
    rw[h1] at HLB
    generalize decide (w=⟨#[72]⟩)=b2 at HLH
    clear h1 HSE1 HSE2
    go_wp2_with fail
    refine HLB.out.mono ?_
    rintro e w1 ⟨rfl,hw1⟩
    obtain rfl:=hw1.symm
    go_wp2_with fail
    refine HLH.out.mono ?_
    rintro e w1 ⟨rfl,hw1⟩
    obtain rfl:=hw1.symm
    go_wp2_with (at_builtin;go_must (refine wpList_append_own _ rfl _ _ 56 rfl W1.heap.size 9 i1 (.string ⟨#[]⟩) 1 16 Tryz.underlying56 HI0.out.1 HI0.out.2.1 HI0.out.2.2.1 HI0.out.2.2.2 rfl (by decide) _ _ _ rfl (HO.out.alloc _) ⟨wr.heap.size,0,none⟩ 1 1 [.string ln] rfl rfl (World.news_of_block (heap_alloc_new wr _)) (by simp[Value.oneCell']) (by have:=HSL.out;unfold maxLen;omega) (by have:=HSL.out;omega) (by have h1:=HB.out.size;simp;omega) ?_);intro v4 w4 hown hgrow _;have HO4:=hid hown;have HG4:=hid hgrow;clear hown hgrow)
    go_roundg (gk - 1)
    case rel=>
     refine⟨k+1,by simp,by omega,?_,?_⟩
     ·rw[HTK.out,HSEL.out,List.length_append,nz]
      exact HO4.out
     ·exact(HB.out.alloc HB.out.size _).grown HG4.out (by have h1:=HB.out.size;simp;omega) (fun b hb=>((HO.out.alloc (.cells #[.string ln] 9)).lt b hb).1)
    case measure=>omega
   | false=>
    cases h2:decide (w=⟨#[72]⟩) with
    | true=>
     have HSEL:=hid (HSE1.out (by unfold vg;simp only;rw[h1,h2];rfl))
     rw[h1] at HLB
     rw[h2] at HLH
     clear h1 h2 HSE1 HSE2
     go_wp2_with fail
     refine HLB.out.mono ?_
     rintro e w1 ⟨rfl,hw1⟩
     obtain rfl:=hw1.symm
     go_wp2_with fail
     refine HLH.out.mono ?_
     rintro e w1 ⟨rfl,hw1⟩
     obtain rfl:=hw1.symm
     go_wp2_with (at_builtin;go_must (refine wpList_append_own _ rfl _ _ 56 rfl W1.heap.size 9 i1 (.string ⟨#[]⟩) 1 16 Tryz.underlying56 HI0.out.1 HI0.out.2.1 HI0.out.2.2.1 HI0.out.2.2.2 rfl (by decide) _ _ _ rfl (HO.out.alloc _) ⟨wr.heap.size,0,none⟩ 1 1 [.string ln] rfl rfl (World.news_of_block (heap_alloc_new wr _)) (by simp[Value.oneCell']) (by have:=HSL.out;unfold maxLen;omega) (by have:=HSL.out;omega) (by have h1:=HB.out.size;simp;omega) ?_);intro v4 w4 hown hgrow _;have HO4:=hid hown;have HG4:=hid hgrow;clear hown hgrow)
     go_roundg (gk - 1)
     case rel=>
      refine⟨k+1,by simp,by omega,?_,?_⟩
      ·rw[HTK.out,HSEL.out,List.length_append,nz]
       exact HO4.out
      ·exact(HB.out.alloc HB.out.size _).grown HG4.out (by have h1:=HB.out.size;simp;omega) (fun b hb=>((HO.out.alloc (.cells #[.string ln] 9)).lt b hb).1)
     case measure=>omega
    | false=>
     have HSEL:=hid (HSE2.out (by unfold vg;simp only;rw[h1,h2];rfl))
     rw[h1] at HLB
     rw[h2] at HLH
     clear h1 h2 HSE1 HSE2
     go_wp2_with fail
     refine HLB.out.mono ?_
     rintro e w1 ⟨rfl,hw1⟩
     obtain rfl:=hw1.symm
     go_wp2_with fail
     refine HLH.out.mono ?_
     rintro e w1 ⟨rfl,hw1⟩
     obtain rfl:=hw1.symm
     go_wp2_with fail
     go_roundg (gk - 1)
     case rel=>exact⟨k+1,by simp,by omega,by rw[HTK.out,HSEL.out];exact HO.out,HB.out⟩
     case measure=>omega
  ·have hki:¬(k:Int)<(ps.length:Int):=by omega
   obtain rfl:k=ps.length:=by omega
   go_wp2_with fail
   go_ret
   have h1:=HO.out
   rw[List.take_of_length_le (Nat.le_refl _),←HPS.out] at h1
   exact⟨_,rfl,ts,HTS.out,HNT.out,bQ h1 HB1.out.size,HB1.out.trans (HB.out.mono HB1.out.size)⟩
end
section
open Go.RowKit Go.Maps Go.Sort
def vx (x:aq):Bool:=decide (x.label=⟨#[66]⟩) || decide (x.label=⟨#[72]⟩)
theorem bc {p:aq→Bool} (hp:∀x,p (de x)=p x) (l:List aq):(l.filter p).map de=(l.map de).filter p:=by
 rw[List.filter_map]
 congr 1
 exact List.filter_congr fun x _=>(hp x).symm
theorem G4 (ns:List aq):ns.filter vx=(ns.filter qaf).filter vx:=by
 rw[List.filter_filter]
 refine List.filter_congr fun x _=>?_
 cases h:vx x with
 | false=>rfl
 | true=>
  unfold vx at h
  unfold qaf
  rw[Bool.or_eq_true,decide_eq_true_eq,decide_eq_true_eq] at h
  rcases h with h|h<;>(rw[h];decide)
theorem gy:∀(Z Z':List (aq × ByteArray)),(∀p∈Z,dc p.1 p.2)→(∀p∈Z',dc p.1 p.2)→Z.map (fun p=>de p.1)=Z'.map (fun p=>de p.1)→Z.map (·.2)=Z'.map (·.2)
 | [],[],_,_,_=>rfl
 | [],_::_,_,_,e=>by simp at e
 | _::_,[],_,_,e=>by simp at e
 | p::Z,p'::Z',h,h',e=>by
  rw[List.map_cons,List.map_cons] at e
  injection e with e1 e2
  rw[List.map_cons,List.map_cons,(h p List.mem_cons_self).one (h' p' List.mem_cons_self) e1,gy Z Z' (fun x hx=>h x (List.mem_cons_of_mem _ hx)) (fun x hx=>h' x (List.mem_cons_of_mem _ hx)) e2]
theorem tt {ns:List aq} {ts:List ByteArray} {es:List aJ} {last:Int} (hd:qae ⟨ns,es,last⟩):bb (bs ns ts es)=((ns.zip ts).filter (fun p=>vx p.1)).map (·.2):=by
 unfold bb bs
 rw[List.filter_append]
 have h0:(es.map (fun e=>(e.type,bu e))).filter vg=[]:=by
  rw[List.filter_eq_nil_iff]
  intro p hp
  obtain⟨x,hx,rfl⟩:=List.mem_map.1 hp
  have hz:∀z:ByteArray,vg (tB,z)=false∧vg (uB,z)=false:=by
   intro z
   have h1:vg (tB,z)=vg (tB,tB):=rfl
   have h2:vg (uB,z)=vg (uB,tB):=rfl
   rw[h1,h2]
   exact⟨by decide +kernel,by decide +kernel⟩
  rcases hd.ty x hx with e|e
  ·rw[e,(hz _).1];exact Bool.false_ne_true
  ·rw[e,(hz _).2];exact Bool.false_ne_true
 rw[h0,List.append_nil,List.filter_map,List.map_map]
 rfl
theorem zip_fst {ns:List aq} {ts:List ByteArray} (hl:ts.length=ns.length):((ns.zip ts).filter (fun p=>vx p.1)).map (fun p=>de p.1)=(ns.filter vx).map de:=by
 have h1:(ns.zip ts).map Prod.fst=ns:=List.map_fst_zip (by omega)
 have h2:(ns.filter vx).map de=(((ns.zip ts).map Prod.fst).filter vx).map de:=by rw[h1]
 rw[h2,List.filter_map,List.map_map]
 rfl
theorem vB {ns ns':List aq} {ts ts':List ByteArray} {es es':List aJ} {last last':Int} (h:bx ns ts) (hl:ts.length=ns.length) (h':bx ns' ts') (hl':ts'.length=ns'.length) (hd:qae ⟨ns,es,last⟩) (hd':qae ⟨ns',es',last'⟩) (e:(ns'.filter qaf).map de=(ns.filter qaf).map de):bb (bs ns' ts' es')=bb (bs ns ts es):=by
 rw[tt hd,tt hd']
 have hz:∀{ns:List aq} {ts:List ByteArray},bx ns ts→∀p∈(ns.zip ts).filter (fun p=>vx p.1),dc p.1 p.2:=by
  intro ns ts h p hp
  obtain⟨i,hi,e⟩:=List.getElem_of_mem (List.mem_filter.1 hp).1
  have hli:i<ns.length∧i<ts.length:=by rw[List.length_zip] at hi;omega
  rw[List.getElem_zip] at e
  rw[←e]
  exact h i _ _ (List.getElem?_eq_getElem hli.1) (List.getElem?_eq_getElem hli.2)
 refine gy _ _ (hz h') (hz h) ?_
 have h1:∀l:List aq,((l.filter qaf).filter vx).map de=((l.filter qaf).map de).filter vx:=fun l=>bc (fun x=>rfl) _
 rw[zip_fst hl,zip_fst hl',G4 ns,G4 ns',h1,h1,e]
theorem jc {ns:List aq} {es:List aJ} {last:Int} (h:qG ⟨ns,es,last⟩) (hd:qae ⟨ns,es,last⟩):Ly ns es:=by
 refine⟨fun x hx=>Fz (h.num x hx),fun x hx=>Nat.le_trans (cr (mN (hd.wy x hx))) (by decide),fun x hx s hs=>Nat.le_trans (hd.key x hx s hs) (by decide),fun x hx=>⟨Fz (h.ends x hx).1,Fz (h.ends x hx).2⟩,fun x hx=>?_,?_⟩
 ·rcases hd.ty x hx with e|e<;>(rw[e];decide)
 ·have h1:=h.n40;have h2:=h.GQ;simp only at h1 h2;omega
theorem As {ns ns':List aq} (e:ns'.map de=ns.map de):(ns'.filter qaf).map de=(ns.filter qaf).map de:=by
 rw[bc (fun x=>rfl),bc (fun x=>rfl),e]
def ki (B G b1 b2:Nat) (ns ns':List aq) (es':List aJ) (k:Nat) (W0 W:World):Prop:=
 ∃cs vn ve last m,VG B G [(fH,b1,SR),(fm,b2,SG)] cs vn ve ns' es' last m W∧qG ⟨ns',es',last⟩∧qae ⟨ns',es',last⟩∧(ns'.filter qaf).map de=(ns.filter qaf).map de∧6≤m∧m≤400000+k*7010∧last≤100+k∧Below B W0 W∧B≤W.heap.size
variable {B G b1 b2 k:Nat} {ns ns':List aq} {es':List aJ} {W0 W w:World}
theorem ki.later (h:ki B G b1 b2 ns ns' es' k W0 W) (hb:Below W.heap.size W w):ki B G b1 b2 ns ns' es' k W0 w:=by
 obtain⟨cs,vn,ve,last,m,hv,hok,hdi,hnn,h6,hm,hl,hbw,hB⟩:=h
 exact⟨cs,vn,ve,last,m,hv.later hb,hok,hdi,hnn,h6,hm,hl,hbw.trans (hb.mono hB),Nat.le_trans hB hb.size⟩
theorem ki.low (h:ki B G b1 b2 ns ns' es' k W0 W):Below B W0 W:=by
 obtain⟨_,_,_,_,_,_,_,_,_,_,_,_,h,_⟩:=h
 exact h
theorem ki.Lw (h:ki B G b1 b2 ns ns' es' k W0 W) (hk:k≤20) (ht:∀w,Below B W0 w→BG w):
  Calls Tryz.prog 32 #[.pointer (some ⟨G,0,none⟩)] W fun e W'=>∃v L,e=.returned v∧W'.ownsRow W.heap.size 9 1 v L.length (strs L)∧gr ns' es' L∧L.length≤1000000∧Below W.heap.size W W':=by
 have hlow:=h.low
 obtain⟨cs,vn,ve,last,m,hv,hok,hdi,hnn,h6,hm,hl,hbw,hB⟩:=h
 have hd:=jc hok hdi
 refine(F9 hv.own hd (by omega) (ht _ hlow)).mono ?_
 rintro e W' ⟨v,L,rfl,hr,hD,hb⟩
 refine⟨v,L,rfl,hr,hD,?_,hb⟩
 obtain⟨ts,h1,_,rfl⟩:=hD
 have h2:=hd.rF
 rw[List.length_append,List.length_map]
 omega
theorem ki.LB {es:List aJ} {last:Int} {ts:List ByteArray} (h:ki B G b1 b2 ns ns' es' k W0 W) (hk:k≤21) (ht:∀w,Below B W0 w→BG w) (hd:qae ⟨ns,es,last⟩) (hl:ts.length=ns.length) (hn:bx ns ts):
  Calls Tryz.prog 29 #[.pointer (some ⟨G,0,none⟩)] W fun e W'=>∃v,e=.returned v∧W'.ownsRow W.heap.size 9 1 v (bb (bs ns ts es)).length (strs (bb (bs ns ts es)))∧Below W.heap.size W W':=by
 have hlow:=h.low
 obtain⟨cs,vn,ve,last',m,hv,hok,hdi,hnn,h6,hm,hla,hbw,hB⟩:=h
 refine(tj hv.own (jc hok hdi) hdi (by omega) (ht _ hlow)).mono ?_
 rintro e W' ⟨v,ts',rfl,hl',hn',hr,hb⟩
 refine⟨v,rfl,?_,hb⟩
 rw[←vB hn hl hn' hl' hd hdi hnn]
 exact hr
theorem ki.run {t:ByteArray} {ev:Value} (h:ki B G b1 b2 ns ns' es' k W0 W) (hk:k≤20) (hts:t.size≤maxLen) (ht:∀w,Below B W0 w→BG w) (hge:∀w,Below B W0 w→w.cell? ⟨5,0,none⟩=some ev) (hev:ev=.nilIface∨∃te pe,ev=.iface te pe):
  Calls Tryz.prog 26 #[.pointer (some ⟨G,0,none⟩),.string fm,.string t,.int .i64 5000] W fun e W'=>∃v l er ns2 es2,e=.returned (.tuple #[v,.int .i64 er])∧W'.ownsRow W.heap.size 9 1 v l.length (strs l)∧ki B G b1 b2 ns ns2 es2 (k+1) W0 W'∧(er≠0→l=[]∧ns2.map de=ns'.map de∧es2=es')∧Fo W W':=by
 obtain⟨cs,vn,ve,last,m,hv,hok,hdi,hnn,h6,hm,hl,hbw,hB⟩:=h
 have hr:=Iz (role:=fm) (text:=t) (budget:=5000) hv hok (by unfold maxLen;omega) hB hts ⟨by omega,by omega⟩ (fun w hw=>ht w (hbw.trans hw)) (fun w hw=>hge w (hbw.trans hw)) hev
 have hro:=BE (pol:=[(fH,b1,SR),(fm,b2,SG)]) (role:=fm) (text:=t) (b:=5000) hok (by simp only;omega)
 have hdr:=ti (b1:=b1) (b2:=b2) hdi fm t 5000
 have hcr:=yi (b1:=b1) (b2:=b2) (g:=⟨ns',es',last⟩) hv.own.gh t 5000
 have her:=F3 (pol:=[(fH,b1,SR),(fm,b2,SG)]) (g:=⟨ns',es',last⟩) (role:=fm) (t:=t) (b:=5000)
 generalize lK [(fH,b1,SR),(fm,b2,SG)] ⟨ns',es',last⟩ fm t 5000=R at hr hro hdr hcr her
 refine hr.mono ?_
 rintro e W' ⟨⟨v,rfl,hrow⟩,ns2,cs2,vn2,ve2,m2,hst2,hv2,hm2,hk2⟩
 refine⟨v,R.1.1,R.1.2,ns2,R.2.es,rfl,hrow,⟨cs2,vn2,ve2,R.2.last,m2+6,hv2.more (Nat.le_add_right _ _),qG.de (ns:=R.2.ns) hro.1 hst2,qae.cM (ns:=R.2.ns) (l:=R.2.last) hdr hst2,?_,by omega,by omega,by have:=hro.2;simp only at this;omega,hbw.trans (hv.under hk2 hB),Nat.le_trans hB hk2.size⟩,fun hne=>?_,fun Bx v n xs hrow=>hv.row hrow (by decide) (by decide) (by decide) hk2⟩
 ·rw[As hst2,hcr];exact hnn
 ·obtain⟨h1,h2⟩:=her hne
  rw[h1] at hst2⊢
  exact⟨h2,hst2,rfl⟩
theorem a8 {W w:World} {Bx n:Nat} {v:Value} {xs:List Value} (h:W.ownsRow Bx 9 1 v n xs) (hb:Below W.heap.size W w):w.ownsRow Bx 9 1 v n xs:=h.kept (af hb none) (by cases v.ownBlock<;>simp)
end
section
open Go.RowKit Go.Maps Go.Sort
theorem Lq:qae ⟨[],[],0⟩:=⟨fun x hx=>(by cases hx),fun x hx=>(by cases hx),fun x hx=>(by cases hx)⟩
def Ln (W0:World) (G:Nat) (W':World):Prop:=∃pol cs vn ve ns es last m,VG W0.heap.size G pol cs vn ve ns es last m W'∧qG ⟨ns,es,last⟩∧qae ⟨ns,es,last⟩∧pol.map er=GV∧6≤m∧m≤400000∧last≤100∧Below W0.heap.size W0 W'
theorem Lo {W0:World} {raw:List Int} {ao:Option Addr} {cp:Nat} {mx:Int} {ev:Value} (hs:bO W0 1 (.slice ao raw.length cp) raw.length (raw.flatMap kI)) (hraw:∀x∈raw,ux x) (hlen:raw.length≤9223372036854775807) (hm:W0.cell? ⟨1,0,none⟩=some (.int .i64 mx)) (ht:BG W0) (hge:W0.cell? ⟨5,0,none⟩=some ev) (hev:ev=.nilIface∨∃te pe,ev=.iface te pe):
  Calls Tryz.prog 25 #[.slice ao raw.length cp] W0 fun e W'=>∃G,e=.returned (.pointer (some ⟨G,0,none⟩))∧Ln W0 G W':=by
 have HS:=hid hs
 have HRW:=hid hraw
 have HT:Hid (∀w,Below W0.heap.size W0 w→BG w):=hid (fun w hb=>ht.below hb)
 have HGE:Hid (∀w,Below W0.heap.size W0 w→w.cell? ⟨5,0,none⟩=some ev):=hid (fun w hb=>(hb.cell (block_lt_of_cell hge)).trans hge)
 have HEV:=hid hev
 have HN:=hid (Ld (s:=uC) hm)
 rw[E9] at HN
 clear hs hraw ht hge hev hm
 go_enter Tryz.func25,Tryz.ntmps25
 go_wp2_with fail
 refine HN.out.mono ?_
 rintro e W1 ⟨hb1,h1⟩
 rcases h1 with ⟨h0,_⟩|⟨ls,l,G,vp,m,hls,her,_,hG,rfl,hloc,hpol⟩
 ·cases h0
 injection hls with hls
 subst hls
 have HB1:=hid hb1
 have HV1:=hid (Jw hG hloc hpol)
 obtain⟨b1,b2,rfl⟩:=CL her
 clear hloc hpol hb1 hG HN her
 have HR1:=hid (Iz (role:=fH) (text:=Kf) (budget:=1) HV1.out FC (by unfold maxLen;omega) HB1.out.size (by unfold maxLen;decide) ⟨by omega,by omega⟩ (fun w hw=>HT.out w (HB1.out.trans hw)) (fun w hw=>HGE.out w (HB1.out.trans hw)) HEV.out)
 rw[vt] at HR1
 go_wp2_with fail
 refine HR1.out.mono ?_
 rintro e W2 ⟨⟨v1,rfl,hrow1⟩,ns1,cs1,vn1,ve1,m1,hst1,hv2,hm1,hk1⟩
 simp only at hst1 hv2 hrow1
 have HB2:=hid (HB1.out.trans (HV1.out.under hk1 HB1.out.size))
 have HV2:=hid (hv2.more (Nat.le_add_right m1 6))
 have HRW1:=hid hrow1
 have HST1:=hid hst1
 have hm1':m1≤7006:=by omega
 have HM1:=hid hm1'
 clear hst1 hv2 hrow1 hm1 hk1 hm1' HR1
 have hok1:qG ⟨ns1,[],1⟩:=by
  have h1:=(BE (pol:=[(fH,b1,SR),(fm,b2,SG)]) (role:=fH) (text:=Kf) (b:=1) FC (by decide)).1
  rw[vt] at h1
  exact h1.de HST1.out
 have HOK1:=hid hok1
 have HDI1:Hid (qae ⟨ns1,[],1⟩):=hid (by
  have h1:=ti (b1:=b1) (b2:=b2) Lq fH Kf 1
  rw[vt] at h1
  exact h1.cM HST1.out)
 have HR2:=hid (Iz (role:=fm) (text:=KW) (budget:=1) HV2.out hok1 (by have:=HM1.out;unfold maxLen;omega) HB2.out.size (by unfold maxLen;decide) ⟨by omega,by omega⟩ (fun w hw=>HT.out w (HB2.out.trans hw)) (fun w hw=>HGE.out w (HB2.out.trans hw)) HEV.out)
 rw[Bo (by rw[HST1.out];rfl)] at HR2
 clear hok1
 go_wp2_with fail
 refine HR2.out.mono ?_
 rintro e W3 ⟨⟨v2,rfl,hrow2⟩,ns2,cs2,vn2,ve2,m2,hst2,hv3,hm2,hk2⟩
 simp only at hst2 hv3 hrow2
 have HB3:=hid (HB2.out.trans (HV2.out.under hk2 HB2.out.size))
 have hrow1:=HV2.out.row HRW1.out (by decide) (by decide) (by decide) hk2
 obtain⟨g1,c1,rfl,cell1⟩:=yy hrow1
 obtain⟨g2,c2,rfl,cell2⟩:=yy hrow2
 have HV3:=hid (hv3.more (Nat.le_add_right m2 6))
 have HOK3:=hid (HOK1.out.de hst2)
 have HDI3:Hid (qae ⟨ns2,[],1⟩):=hid (HDI1.out.cM hst2)
 have hm3:m2≤14100:=by have:=HM1.out;omega
 have HM3:=hid hm3
 clear hrow1 hrow2 hst2 hv3 hm2 hk2 hm3 HR2 HRW1
 unfold Jq at cell1
 unfold BJ at cell2
 go_wp2_with fail
 obtain⟨n,hn,hn1,hn2⟩:∃n,n=min raw.length 40∧n≤raw.length∧n≤40:=⟨_,rfl,by omega,by omega⟩
 have hlen2:(raw.length:Int)≤9223372036854775807:=by omega
 go_loopg [9] n (fun c iv w=>∃(k:Nat) (cs:Array Value) (vn ve:Value) (ns:List aq) (es:List aJ) (last:Int) (m:Nat),iv=.int .i64 (k:Int)∧k+c=n∧VG W0.heap.size G [(fH,b1,SR),(fm,b2,SG)] cs vn ve ns es last m w∧qG ⟨ns,es,last⟩∧qae ⟨ns,es,last⟩∧6≤m∧m≤15000+k*7010∧last≤1+k∧Below W0.heap.size W0 w)
 case atStart=>exact⟨0,cs2,vn2,ve2,ns2,[],1,m2+6,rfl,by omega,HV3.out,HOK3.out,HDI3.out,by omega,by have:=HM3.out;omega,by omega,HB3.out⟩
 case round=>
  obtain⟨k,cs,vn,ve,ns,es,last,m,rfl,hk,hv,hok,hdi,hm6,hmk,hla,hbw⟩:=hrel
  have HV:=hid hv
  have HOK:=hid hok
  have HDI:=hid hdi
  have HMK:=hid (And.intro hm6 (And.intro hmk hla))
  have HBW:=hid hbw
  clear hv hok hdi hm6 hmk hla hbw HV3 HOK3 HB3 cell1 cell2
  by_cases hlt:k<n
  ·have hki:(k:Int)<(raw.length:Int):=by omega
   have hk40:(k:Int)<40:=by omega
   have hkr:k<raw.length:=by omega
   obtain⟨g,oo,hal,hcell⟩:=bY (l:=raw) kI (fun _=>rfl) (HS.out.below HBW.out) hkr
   have hc0:=hcell 0 (by decide)
   have hI:=HRW.out raw[k] (List.getElem_mem hkr)
   obtain⟨y,hy⟩:∃y,raw[k]=y:=⟨_,rfl⟩
   rw[hy] at hc0 hI
   subst hal
   have hcy:wr.cell? ⟨g,oo+k,none⟩=some (.int .i64 y):=by have h1:=hc0;rw[Nat.mul_one] at h1;exact h1
   have HSH:=hid (Ix hI (HT.out wr HBW.out))
   clear hc0 hcell hy hI
   go_wp2_with fail
   refine HSH.out.mono ?_
   rintro e W4 ⟨⟨t,rfl,hts⟩,hb4⟩
   have HB4:=hid (HBW.out.trans (hb4.mono HBW.out.size))
   have HV4:=hid (HV.out.later hb4)
   have hla:last<1000000:=by have:=HMK.out.2.2;omega
   have HRDI:=hid (ti (b1:=b1) (b2:=b2) HDI.out fH t 5000)
   have HROK:=hid (BE (pol:=[(fH,b1,SR),(fm,b2,SG)]) (role:=fH) (text:=t) (b:=5000) HOK.out hla)
   have HRN:=hid (Iz (role:=fH) (text:=t) (budget:=5000) HV4.out HOK.out (by have:=HMK.out;unfold maxLen;omega) HB4.out.size (by unfold maxLen;omega) ⟨by omega,by omega⟩ (fun w hw=>HT.out w (HB4.out.trans hw)) (fun w hw=>HGE.out w (HB4.out.trans hw)) HEV.out)
   generalize lK [(fH,b1,SR),(fm,b2,SG)] ⟨ns,es,last⟩ fH t 5000=R at HROK HRN HRDI
   clear hb4 hts hla HSH hcy
   go_wp2_with fail
   refine HRN.out.mono ?_
   rintro e W5 ⟨⟨v5,rfl,_⟩,ns5,cs5,vn5,ve5,m5,hst5,hv5,hm5,hk5⟩
   have HB5:=hid (HB4.out.trans (HV4.out.under hk5 HB4.out.size))
   have HV5:=hid (hv5.more (Nat.le_add_right m5 6))
   have HOK5:Hid (qG ⟨ns5,R.2.es,R.2.last⟩):=hid (qG.de (ns:=R.2.ns) HROK.out.1 hst5)
   have HDI5:Hid (qae ⟨ns5,R.2.es,R.2.last⟩):=hid (qae.cM (ns:=R.2.ns) (l:=R.2.last) HRDI.out hst5)
   have HM5:Hid (6≤m5+6∧m5+6≤15000+(k+1)*7010∧R.2.last≤1+((k+1:Nat):Int)):=hid (by have h1:=HMK.out;have h2:=HROK.out.2;refine⟨by omega,by omega,?_⟩;have h3:=h1.2.2;omega)
   clear hst5 hv5 hm5 hk5 HRN
   go_wp2_with fail
   go_roundg (gk - 1)
   case rel=>exact⟨k+1,cs5,vn5,ve5,ns5,R.2.es,R.2.last,m5+6,by simp,by omega,HV5.out,HOK5.out,HDI5.out,HM5.out.1,HM5.out.2.1,HM5.out.2.2,HB5.out⟩
   case measure=>omega
  ·have hkn:k=n:=by omega
   have HFIN:Hid (Ln W0 G wr):=hid ⟨_,cs,vn,ve,ns,es,last,m,HV.out,HOK.out,HDI.out,rfl,HMK.out.1,by have:=HMK.out;omega,by have:=HMK.out;omega,HBW.out⟩
   by_cases hr:k<raw.length
   ·have hki:(k:Int)<(raw.length:Int):=by omega
    have hk40:¬(k:Int)<40:=by omega
    clear hkn hn
    go_wp2_with fail
    go_ret
    exact⟨G,rfl,HFIN.out⟩
   ·have hki:¬(k:Int)<(raw.length:Int):=by omega
    clear hkn hn
    go_wp2_with fail
    go_ret
    exact⟨G,rfl,HFIN.out⟩
end
end Go.Proofs.YtobgbmfpicmpcaaGreatDoor
