/- The finder: goOn. -/
import Derived.Test.YtobgbmfpicmpcaaGreatDoorC23
import Derived.Lib.Hide
set_option maxRecDepth 100000
set_option maxHeartbeats 8000000
namespace Go.Proofs.YtobgbmfpicmpcaaGreatDoor
open Go.Lib (hid)
section
open Go.RowKit Go.Maps
variable {fix:Nat→Option Value} {left:Int} {use:Value} {B T F:Nat} {ev:Nat→Value} {wv:Value} {own:Nat→Prop} {f:ByteArray→Option Int} {mb:Nat} {en:Nat→List Int} {ws:List eB} {W:World}
theorem xR (x:eB) (k:Nat):k9 x (k+1)=fun p=>k9 x k p || (oz x k==p):=by
 funext p
 unfold k9
 rw[List.range_succ,List.any_append]
 simp
def Cp (x:eB):Prop:=x.bM<4∧∀j,j<4→(Lit.int .i64 (oz x j)).wf=true
theorem Tryz.BU:(Tryz.prog.info? 361).map (fun i=>(i.zero,i.size,i.bytes))=some (some (.agg #[.int .i64 0,.int .i64 0,.int .i64 0,.int .i64 0,.int .i64 0,.int .i64 0]),6,48):=by kernel_rfl
theorem B7 (x:eB):∀u∈ru x,u.oneCell'=true:=by
 intro u hu
 simp[ru] at hu
 rcases hu with rfl|rfl|rfl|rfl|rfl|rfl<;>rfl
theorem EI (w:World):(zeroValue 273).run Tryz.prog w=.ok (.agg #[]) w:=by kernel_rfl
theorem kR {w:World} {a b:Nat} {c d:Array Value} {T T':TypeId} (h1:Loc w a c T) (h2:Loc w b d T') (hT:T≠T'):a≠b:=by
 intro e
 subst e
 unfold Loc at h1 h2
 rw[h1] at h2
 injection h2 with h2
 injection h2 with _ h2
 exact hT h2
theorem Kz {gb go m:Nat} {ns:List aq} {es:List aJ} {x:eB} {kind:ByteArray} (h:gT own F B T fix left use f mb ev en wv ws W) (hg:fix 0=some (.pointer (some ⟨gb,go,none⟩))) (hst:kS own gb go ns es m W) (hx:Cp x) (hl:0≤left∧left≤100000) (hsm:ws.length≤100000)
  (hown:∀k,W.heap.size≤k→own k):
  Calls Tryz.prog 286 #[.pointer (some ⟨F,0,none⟩),.agg (tZ x),.string kind] W fun e W'=>e=.returned (.tuple #[])∧∃wv',gT own F B T fix (lL x kind 0 es left).2 use f mb ev en wv' (ws++(lL x kind 0 es left).1) W'∧Kept own W W':=by
 obtain⟨i0,hi0,hz0,hz1,hz2⟩:=info_parts Tryz.BU
 have HB1:=hid ((Below.refl W.heap.size W).alloc (Nat.le_refl _) (.cells (tZ x) 361))
 have HV1:=hid (Loc.new W (tZ x) 361)
 have HA1:=hid (h.later HB1.out)
 have HK1:=hid ((Kept.refl own W).below HB1.out)
 have HVN:Hid (wv.ownBlock≠some W.heap.size):=hid (by intro e;have:=(h.rw.lt _ e).2;omega)
 have HOWN:=hid hown
 have HST:=hid hst
 have HX:=hid hx
 have HLL:=hid hl
 have HSM:=hid hsm
 have HFX:=hid hg
 clear h hg hst hx hl hsm hown
 unfold tZ at HA1 HV1 HK1⊢
 go_enter Tryz.func286,Tryz.ntmps286
 go_upto_region 1 with fail
 obtain⟨V,hV⟩:∃V,V=W.heap.size:=⟨_,rfl⟩
 rw[←hV] at HV1 HVN⊢
 clear hV HB1
 generalize W.alloc (.cells #[.int .i64 x.e0,.int .i64 x.e1,.int .i64 x.e2,.int .i64 x.e3,.int .i64 x.bM,.int .i64 x.at_] 361)=W1 at HA1 HV1 HK1⊢
 obtain⟨cs,hc,hf⟩:=HA1.out.cell
 obtain⟨tn,S0,ht,_⟩:=HA1.out.taken
 have t0:W1.cell? ⟨F,28,none⟩=some (.map (some T)):=(hc.cell 28).trans hf.t
 obtain⟨w2,hclr,hn2,hturn⟩:=ht.clear
 have HA2:=hid (HA1.out.Kx hturn.grown hn2 (by decide))
 have HK2:=hid (HK1.out.then hturn.grown (fun k hk=>by injection hk with hk;rw[←hk];exact Or.inl HA1.out.dH.2.2.1))
 have HV2:=hid (HV1.out.grown hturn.grown (by intro e;injection e with e;exact ht.aV HV1.out e.symm))
 have HN2:=hid hn2
 clear hc hf ht hn2 hturn
 go_upto_region 2 with fail
 clear t0 hclr HA1 HK1 HV1
 have v4:=HV2.out.at_ 4 (.int .i64 x.bM) rfl
 have hh4:=HX.out.1
 have hh4i:(x.bM:Int)≤4:=by omega
 go_wp2_with fail
 clear v4
 go_loopg [22] x.bM (fun n iv w=>∃k:Nat,iv=.int .i64 (k:Int)∧k+n=x.bM∧gT own F B T fix left use f mb ev en wv ws w∧iJ w T k (k9 x k)∧Kept own W w∧Loc w V (tZ x) 361)
 case atStart=>exact⟨0,rfl,by omega,HA2.out,HN2.out,HK2.out,HV2.out⟩
 case round=>
  obtain⟨k,rfl,hk,hfa,hnums,hkept,hv⟩:=hrel
  have HA:=hid hfa
  have HN:=hid hnums
  have HK:=hid hkept
  have HV:=hid hv
  clear hfa hnums hkept hv HA2 HN2 HK2 HV2
  by_cases hlt:k<x.bM
  ·obtain⟨cs,hc,hf⟩:=HA.out.cell
   have t0:wr.cell? ⟨F,28,none⟩=some (.map (some T)):=(hc.cell 28).trans hf.t
   have p0:wr.cell? ⟨V,k,none⟩=some (.int .i64 (oz x k)):=(HV.out.cell k).trans (Hl x (by omega))
   have hki:(k:Int)<(x.bM:Int):=by omega
   obtain⟨D,hown,hS⟩:=HN.out
   have HO:=hid hown
   have HSS:=hid hS
   have HKY:=hid (HX.out.2 k (by omega))
   have HNE:Hid (T≠V):=hid (HN.out.aV HV.out)
   clear hc hf hown hS
   go_wp2_with (first
    | (at_mapUpdate;refine wpList_mapUpdate_own _ rfl _ _ _ 259 rfl 3 273 EA Tryz.underlying259 _ T k D rfl HO.out (by unfold maxLen;omega) _ _ _ rfl rfl (keyOf_int_mk Tryz.underlying3 HKY.out) _ [] (unitElem_mk (H:=Unit)) ?_;intro w3 hout3 hg3;go_frame)
    | go_in)
   have HN3:Hid (iJ w3 T (k+1) (k9 x (k+1))):=hid (by rw[xR];exact iJ.put HO.out.isMap HSS.out HKY.out hout3)
   have HG3:=hid hg3
   clear hout3 hg3
   go_roundg (gk - 1)
   case rel=>exact⟨k+1,by simp,by omega,HA.out.Kx HG3.out HN3.out (by omega),HN3.out,HK.out.then HG3.out (fun b hb=>by injection hb with hb;rw[←hb];exact Or.inl HA.out.dH.2.2.1),HV.out.grown HG3.out (by intro e;injection e with e;exact HNE.out e.symm)⟩
   case measure=>omega
  ·have hki:¬(k:Int)<(x.bM:Int):=by omega
   obtain rfl:k=x.bM:=by omega
   have hst:=HST.out wr HK.out
   obtain⟨ae,ke,ce,_⟩:=hst.1.ce
   have HCE:=hid ce
   have HFEW:=hid hst.1.rF.2
   obtain⟨cs,hc,hf⟩:=HA.out.cell
   have c0:wr.cell? ⟨F,0,none⟩=some (.pointer (some ⟨gb,go,none⟩)):=(hc.cell 0).trans ((hf.fx 0 (by decide)).trans HFX.out)
   have hfe:=hst.1.rF.2
   have HSW:=hid (HST.out.on HK.out)
   clear hst hc hf
   go_wp2_with fail
   clear c0 ce
   have hl0:=HLL.out.1
   have hl1:=HLL.out.2
   go_loopg [41] es.length (fun n iv w=>∃(k:Nat) (wv':Value) (nw:List eB) (lf:Int),iv=.int .i64 (k:Int)∧k+n=es.length∧lL x kind 0 es left=(nw++(lL x kind k (es.drop k) lf).1,(lL x kind k (es.drop k) lf).2)∧0≤lf∧(nw.length:Int)+lf=left∧gT own F B T fix lf use f mb ev en wv' (ws++nw) w∧iJ w T x.bM (k9 x x.bM)∧Kept own W w∧Loc w V (tZ x) 361∧wv'.ownBlock≠some V)
   case atStart=>exact⟨0,wv,[],left,rfl,by omega,by simp,hl0,by simp,by simpa using HA.out,HN.out,HK.out,HV.out,HVN.out⟩
   case round=>
    obtain⟨k,wv',nw,lf,rfl,hk2,hgo,hlf,hnl,hfa,hnums,hkept,hv,hvn⟩:=hrel
    have HGP:=hid hgo
    have HA2:=hid hfa
    have HN2:=hid hnums
    have HK2:=hid hkept
    have HV2:=hid hv
    have HVN2:=hid hvn
    have HNL:=hid hnl
    clear hgo hfa hnums hkept hv hvn hnl HA HN HV HVN
    by_cases hlt:k<es.length
    ·have hgw:=HST.out _ HK2.out
     have hgw0:=HSW.out.qm
     obtain⟨ae',ke',ce',se'⟩:=hgw.1.ce
     have ean:ae'=ae∧ke'=ke:=by
      have h1:=(HST.out _ HK.out).2.2
      have:=ce'.symm.trans (hgw.2.2.trans (h1.symm.trans HCE.out))
      injection this with this
      injection this with h1 _ h2
      exact⟨h1,h2⟩
     obtain⟨rfl,rfl⟩:=ean
     obtain⟨g,oo,rfl,hcell⟩:=bY (l:=es) fL (fun _=>rfl) se' hlt
     obtain⟨y,hy⟩:∃y,es[k]=y:=⟨_,rfl⟩
     have HDR:Hid (es.drop k=y::es.drop (k+1)):=hid (by rw[List.drop_eq_getElem_cons hlt,hy])
     rw[hy] at hcell
     clear hy hgw hgw0 ce' se'
     obtain⟨ty,src,dst⟩:=y
     have p0:wr.cell? ⟨g,oo+k*3,none⟩=some (.string ty):=hcell 0 (by decide)
     have p1:wr.cell? ⟨g,oo+k*3+1,none⟩=some (.int .i64 src):=hcell 1 (by decide)
     have p2:wr.cell? ⟨g,oo+k*3+2,none⟩=some (.int .i64 dst):=hcell 2 (by decide)
     have hki2:(k:Int)<(es.length:Int):=by omega
     clear hcell
     have hba:=(Below.refl wr.heap.size wr).alloc (Nat.le_refl _) (.cells #[.string ty,.int .i64 src,.int .i64 dst] 142)
     have HA3:=hid (HA2.out.later hba)
     have HK3:=hid (HK2.out.below hba)
     have HV3:=hid (HV2.out.alloc (.cells #[.string ty,.int .i64 src,.int .i64 dst] 142))
     have HN3:=hid (HN2.out.kept (af hba none) (by simp))
     have HZ3:=hid (Loc.new wr #[.string ty,.int .i64 src,.int .i64 dst] 142)
     clear hba HA2 HK2 HV2 HN2
     go_upto_region 10 with fail
     obtain⟨Z,hZ⟩:∃Z,Z=wr.heap.size:=⟨_,rfl⟩
     rw[←hZ] at HZ3⊢
     clear hZ p0 p1 p2
     generalize wr.alloc (.cells #[.string ty,.int .i64 src,.int .i64 dst] 142)=W4 at HA3 HK3 HV3 HN3 HZ3⊢
     obtain⟨cs4,hc4,hf4⟩:=HA3.out.cell
     have t0:W4.cell? ⟨F,28,none⟩=some (.map (some T)):=(hc4.cell 28).trans hf4.t
     obtain⟨D,hown4,hS4⟩:=HN3.out
     have HO4:=hid hown4
     have HWF:Hid ((Lit.int .i64 (k:Int)).wf=true):=hid (WalkArith.wf_i64 (by omega))
     have HHS:=hid (hS4 (k:Int) HWF.out)
     have hba:=(Below.refl W4.heap.size W4).alloc (Nat.le_refl _) (.cells #[] 273)
     have HA4:=hid (HA3.out.later hba)
     have HK4:=hid (HK3.out.below hba)
     have HV4:=hid (HV3.out.alloc (.cells #[] 273))
     have HN4:=hid (HN3.out.kept (af hba none) (by simp))
     have HZ4:=hid (HZ3.out.alloc (.cells #[] 273))
     clear hba hc4 hf4 hown4 hS4 HA3 HK3 HV3 HN3 HZ3
     go_upto_region 11 with (first
      | (at_lookup;refine wpList_lookup_own_unit _ rfl _ _ 259 rfl 3 273 EA Tryz.underlying259 (EI _) T x.bM D rfl HO4.out _ _ rfl (keyOf_int_mk Tryz.underlying3 HWF.out) ?_;rw[show Maps.has D (Lit.int .i64 (k:Int))=k9 x x.bM k from HHS.out])
      | go_in)
     generalize W4.alloc (.cells #[] 273)=W5 at HA4 HK4 HV4 HN4 HZ4⊢
     clear t0 HO4
     have z0:=HZ4.out.at_ 0 (.string ty) rfl
     have z1:=HZ4.out.at_ 1 (.int .i64 src) rfl
     have z2:=HZ4.out.at_ 2 (.int .i64 dst) rfl
     have v5:=HV4.out.at_ 5 (.int .i64 x.at_) rfl
     cases htk:k9 x x.bM k with
     | true=>
      have HGF:Hid (pT x kind k ⟨ty,src,dst⟩=false):=hid (by unfold pT;rw[htk];rfl)
      go_wp2_with fail
      go_roundg (gk - 1)
      case rel=>exact⟨k+1,wv',nw,lf,by simp,by omega,by rw[HGP.out,HDR.out];simp only[lL,HGF.out,Bool.false_eq_true,if_false],hlf,HNL.out,HA4.out,HN4.out,HK4.out,HV4.out,HVN2.out⟩
      case measure=>omega
     | false=>
      by_cases hsrc:src=x.at_
      ·have hsn:(src != x.at_)=false:=by simp[hsrc]
       have HSR:=hid hsrc
       clear hsrc
       cases hty:(ty.toList==kind.toList) with
       | false=>
        have htn:(ty.toList != kind.toList)=true:=by simp only[bne,hty];rfl
        have HGF:Hid (pT x kind k ⟨ty,src,dst⟩=false):=hid (by unfold pT;rw[hty];simp)
        go_wp2_with fail
        go_roundg (gk - 1)
        case rel=>exact⟨k+1,wv',nw,lf,by simp,by omega,by rw[HGP.out,HDR.out];simp only[lL,HGF.out,Bool.false_eq_true,if_false],hlf,HNL.out,HA4.out,HN4.out,HK4.out,HV4.out,HVN2.out⟩
        case measure=>omega
       | true=>
        have htn:(ty.toList != kind.toList)=false:=by simp only[bne,hty];rfl
        have HGT:Hid (pT x kind k ⟨ty,src,dst⟩=true):=hid (by unfold pT;rw[htk,hty];have:=HSR.out;simp[this])
        go_wp2_with fail
        refine(Ja HA4.out (by have:=HNL.out;omega)).mono ?_
        rintro e W6 ⟨rfl,h6,g6⟩
        obtain⟨cs4,hc4,_⟩:=HA4.out.cell
        have HA6:=hid h6
        have HK6:=hid (HK4.out.then g6 (fun b hb=>by injection hb with hb;rw[←hb];exact Or.inl HA4.out.dH.1))
        have HV6:=hid (HV4.out.grown g6 (by intro e;injection e with e;exact kR HV4.out hc4 (by decide) e))
        have HN6:=hid (HN4.out.kept g6 (by intro e;injection e with e;exact HN4.out.aV hc4 e))
        have HZ6:=hid (HZ4.out.grown g6 (by intro e;injection e with e;exact kR HZ4.out hc4 (by decide) e))
        clear h6 g6 hc4 z0 z1 z2 v5 HA4 HK4 HV4 HN4 HZ4
        by_cases hp:0≤lf - 1
        ·have hpd:decide (0≤lf - 1)=true:=decide_eq_true hp
         rw[hpd]
         clear hpd
         have HPOS:=hid hp
         have q0:=HV6.out.at_ 0 (.int .i64 x.e0) rfl
         have q1:=HV6.out.at_ 1 (.int .i64 x.e1) rfl
         have q2:=HV6.out.at_ 2 (.int .i64 x.e2) rfl
         have q3:=HV6.out.at_ 3 (.int .i64 x.e3) rfl
         have q4:=HV6.out.at_ 4 (.int .i64 x.bM) rfl
         have z2:=HZ6.out.at_ 2 (.int .i64 dst) rfl
         have hba:=(Below.refl W6.heap.size W6).alloc (Nat.le_refl _) (.cells #[.int .i64 x.e0,.int .i64 x.e1,.int .i64 x.e2,.int .i64 x.e3,.int .i64 ((x.bM:Int)+1),.int .i64 dst] 361)
         have HA7:=hid (HA6.out.later hba)
         have HK7:=hid (HK6.out.below hba)
         have HV7:=hid (HV6.out.alloc (.cells #[.int .i64 x.e0,.int .i64 x.e1,.int .i64 x.e2,.int .i64 x.e3,.int .i64 ((x.bM:Int)+1),.int .i64 dst] 361))
         have HN7:=hid (HN6.out.kept (af hba none) (by simp))
         have HY7:=hid (Loc.new W6 #[.int .i64 x.e0,.int .i64 x.e1,.int .i64 x.e2,.int .i64 x.e3,.int .i64 ((x.bM:Int)+1),.int .i64 dst] 361)
         have HYW:Hid (wv'.ownBlock≠some W6.heap.size):=hid (by intro e;have:=(HA6.out.rw.lt _ e).2;omega)
         have HYV:=hid (Ne.symm (Nat.ne_of_lt HV6.out.lt))
         have HYO:=hid (HOWN.out W6.heap.size HK6.out.size)
         clear hba HA6 HK6 HV6 HN6 HZ6
         go_upto_region 14 with fail
         obtain⟨Y,hY⟩:∃Y,Y=W6.heap.size:=⟨_,rfl⟩
         rw[←hY] at HY7 HYW HYV HYO⊢
         clear hY q0 q1 q2 q3 q4 z2
         generalize W6.alloc (.cells #[.int .i64 x.e0,.int .i64 x.e1,.int .i64 x.e2,.int .i64 x.e3,.int .i64 ((x.bM:Int)+1),.int .i64 dst] 361)=W7 at HA7 HK7 HV7 HN7 HY7⊢
         have q4:=HV7.out.at_ 4 (.int .i64 x.bM) rfl
         have hyc:#[Value.int .i64 x.e0,.int .i64 x.e1,.int .i64 x.e2,.int .i64 x.e3,.int .i64 ((x.bM:Int)+1),.int .i64 dst][x.bM]?=some (.int .i64 (oz x x.bM)):=by
          have:=HX.out.1
          unfold oz
          match hh:x.bM,this with
          | 0,_=>rfl
          | 1,_=>rfl
          | 2,_=>rfl
          | 3,_=>rfl
         have y0:W7.cell? ⟨Y,x.bM,none⟩=some (.int .i64 (oz x x.bM)):=(HY7.out.cell x.bM).trans hyc
         have fy0:=HY7.out.free x.bM
         have hh4':(x.bM:Int)<4:=by omega
         go_upto_region 15 with fail
         obtain⟨cs7,hc7,_⟩:=HA7.out.cell
         have HA8:=hid (HA7.out.aside (j:=x.bM) (u:=.int .i64 (k:Int)) HY7.out (kR HY7.out hc7 (by decide)) HYW.out (by decide))
         have HK8:=hid (HK7.out.then (aC W7 Y x.bM (.int .i64 (k:Int))) (fun b hb=>by injection hb with hb;rw[←hb];exact Or.inl HYO.out))
         have HV8:=hid (HV7.out.setOther (b':=Y) (Ne.symm HYV.out) x.bM (.int .i64 (k:Int)))
         have HN8:=hid (HN7.out.kept (aC W7 Y x.bM (.int .i64 (k:Int))) (by intro e;injection e with e;exact HN7.out.aV HY7.out e))
         have HY8:=hid (HY7.out.set x.bM (.int .i64 (k:Int)))
         rw[xz x k dst HX.out.1] at HY8
         obtain⟨y,hy⟩:∃y,rh x k dst=y:=⟨_,rfl⟩
         rw[hy] at HY8
         have HYE:=hid hy
         clear hy hyc y0 fy0 q4 hc7 HA7 HK7 HV7 HN7 HY7
         generalize W7.setCell ⟨Y,x.bM,none⟩ (.int .i64 (k:Int))=W8 at HA8 HK8 HV8 HN8 HY8⊢
         have y0:=HY8.out.at_ 0 (.int .i64 y.e0) rfl
         have y1:=HY8.out.at_ 1 (.int .i64 y.e1) rfl
         have y2:=HY8.out.at_ 2 (.int .i64 y.e2) rfl
         have y3:=HY8.out.at_ 3 (.int .i64 y.e3) rfl
         have y4:=HY8.out.at_ 4 (.int .i64 y.bM) rfl
         have y5:=HY8.out.at_ 5 (.int .i64 y.at_) rfl
         obtain⟨av,cv,hvn⟩:=bB HA8.out.rw
         subst hvn
         obtain⟨cs8,hc8,hf8⟩:=HA8.out.cell
         have w0:W8.cell? ⟨F,27,none⟩=some (.slice av (ws++nw).length cv):=(hc8.cell 27).trans hf8.w
         have HD:=hid (HA8.out.later ((Below.refl _ _).alloc (Nat.le_refl _) (.cells #[.int .i64 y.e0,.int .i64 y.e1,.int .i64 y.e2,.int .i64 y.e3,.int .i64 y.bM,.int .i64 y.at_] 361))).drew
         have HKD:Hid (Kept own W ((W8.alloc (.cells #[.int .i64 y.e0,.int .i64 y.e1,.int .i64 y.e2,.int .i64 y.e3,.int .i64 y.bM,.int .i64 y.at_] 361)).drew)):=hid (by have:=HK8.out.below ((Below.refl _ _).alloc (Nat.le_refl _) (.cells #[.int .i64 y.e0,.int .i64 y.e1,.int .i64 y.e2,.int .i64 y.e3,.int .i64 y.bM,.int .i64 y.at_] 361));exact⟨this.os,this.tape,this.output,this.size,this.block⟩)
         have HLD:Hid (Loc ((W8.alloc (.cells #[.int .i64 y.e0,.int .i64 y.e1,.int .i64 y.e2,.int .i64 y.e3,.int .i64 y.bM,.int .i64 y.at_] 361)).drew) F cs8 263):=hid (hc8.alloc (.cells #[.int .i64 y.e0,.int .i64 y.e1,.int .i64 y.e2,.int .i64 y.e3,.int .i64 y.bM,.int .i64 y.at_] 361))
         have HVD:Hid (Loc ((W8.alloc (.cells #[.int .i64 y.e0,.int .i64 y.e1,.int .i64 y.e2,.int .i64 y.e3,.int .i64 y.bM,.int .i64 y.at_] 361)).drew) V (tZ x) 361):=hid (HV8.out.alloc (.cells #[.int .i64 y.e0,.int .i64 y.e1,.int .i64 y.e2,.int .i64 y.e3,.int .i64 y.bM,.int .i64 y.at_] 361))
         have hnd:=HN8.out.kept (ar W8 (.cells #[.int .i64 y.e0,.int .i64 y.e1,.int .i64 y.e2,.int .i64 y.e3,.int .i64 y.bM,.int .i64 y.at_] 361) none) (by simp)
         have HND:Hid (iJ ((W8.alloc (.cells #[.int .i64 y.e0,.int .i64 y.e1,.int .i64 y.e2,.int .i64 y.e3,.int .i64 y.bM,.int .i64 y.at_] 361)).drew) T x.bM (k9 x x.bM)):=hid hnd
         have HWE:=hid hf8.w
         have w1:(W8.alloc (.cells #[.int .i64 y.e0,.int .i64 y.e1,.int .i64 y.e2,.int .i64 y.e3,.int .i64 y.bM,.int .i64 y.at_] 361)).cell? ⟨F,27,none⟩=some (.slice av (ws++nw).length cv):=(HLD.out.cell 27).trans hf8.w
         have hsz:(ws++nw).length≤200000:=by have h1:=HSM.out;have h2:=HNL.out;rw[List.length_append];omega
         clear hnd hc8 hf8 HA8 HK8 HV8 HN8 HY8
         go_region_law (go_must (refine step_append_lies _ rfl _ _ 261 rfl 0 361 i0 (.agg #[.int .i64 0,.int .i64 0,.int .i64 0,.int .i64 0,.int .i64 0,.int .i64 0]) 6 48 Tryz.underlying261 hi0 hz0 hz1 hz2 rfl (by decide) (.slice av (ws++nw).length cv) _ _ (by simp[Act.eval]) HD.out.rw ⟨W8.heap.size,0,none⟩ 1 1 [.int .i64 y.e0,.int .i64 y.e1,.int .i64 y.e2,.int .i64 y.e3,.int .i64 y.bM,.int .i64 y.at_] (by simp[Act.eval]) rfl (World.news_of_block (heap_alloc_new W8 _)) (B7 y) (by omega) (by unfold maxLen;omega) (by omega) (Nat.zero_le _) _ rfl ?_);intro g2 cap2 w9 hown hgrow hlies _;have HLW:=HLD.out.fs HD.out.rw hgrow (by decide);have c9:w9.cell? ⟨F,27,none⟩=some (.slice av (ws++nw).length cv):=(HLW.cell 27).trans HWE.out;have f9:w9.frozen? ⟨F,27,none⟩=false:=HLW.free 27;have HG9:=hid hgrow;have HO9:=hid hown;have HLI:=hid hlies;have HLW9:=hid HLW;clear HLW hown hgrow hlies)
         all_goals
          go_wp2_with fail
          go_roundg (gk - 1)
          case rel=>
           have hE:=HD.out.KN (x:=y) HG9.out HO9.out HLI.out (fun b hb=>HOWN.out b (Nat.le_trans HKD.out.size hb))
           rw[List.append_assoc,List.length_append] at hE
           refine⟨k+1,_,nw++[y],lf - 1,by simp,by omega,?_,HPOS.out,?_,hE,?_,?_,?_,?_⟩
           ·rw[HGP.out,HDR.out]
            simp only[lL,HGT.out,if_true,if_pos HPOS.out,HYE.out]
            simp
           ·have:=HNL.out
            rw[List.length_append]
            simp only[List.length_singleton]
            omega
           ·have h1:=HND.out.kept HG9.out (HND.out.eh HD.out.rw)
            exact h1.kept (aC w9 F 27 _) (by intro e;injection e with e;exact h1.aV HLW9.out e)
           ·refine(HKD.out.then HG9.out (fun b hb=>Or.inl (HD.out.dH.2.2.2.2 b hb))).then (aC w9 F 27 _) (fun b hb=>?_)
            injection hb with hb
            rw[←hb]
            exact Or.inl HD.out.dH.1
           ·have h1:=HVD.out.grown HG9.out (fun e=>HVN2.out e.symm)
            exact h1.setOther (kR h1 HLW9.out (by decide)) 27 _
           ·intro e
            injection e with e
            have e:g2=V:=e
            subst e
            rcases HLI.out with h1|h1
            ·exact HVN2.out h1
            ·have:=HVD.out.lt
             omega
          case measure=>omega
        ·have hpd:decide (0≤lf - 1)=false:=decide_eq_false hp
         rw[hpd]
         have HE:Hid (lL x kind 0 es left=(nw,lf - 1)):=hid (by rw[HGP.out,HDR.out];simp only[lL,HGT.out,if_true,if_neg hp];simp)
         clear hpd
         go_wp2_with fail
         refine bodyPost_ret (results_none rfl _ _ _) rfl ⟨rfl,wv',by rw[HE.out];exact HA6.out,HK6.out⟩
      ·have hsn:(src != x.at_)=true:=by simpa using hsrc
       have HSR:=hid hsrc
       clear hsrc
       have HGF:Hid (pT x kind k ⟨ty,src,dst⟩=false):=hid (by unfold pT;have:=HSR.out;simp[this])
       go_wp2_with fail
       go_roundg (gk - 1)
       case rel=>exact⟨k+1,wv',nw,lf,by simp,by omega,by rw[HGP.out,HDR.out];simp only[lL,HGF.out,Bool.false_eq_true,if_false],hlf,HNL.out,HA4.out,HN4.out,HK4.out,HV4.out,HVN2.out⟩
       case measure=>omega
    ·have hki2:¬(k:Int)<(es.length:Int):=by omega
     have HE:Hid (lL x kind 0 es left=(nw,lf)):=hid (by rw[HGP.out,List.drop_of_length_le (by omega)];simp[lL])
     go_wp2_with fail
     go_end0
     exact⟨rfl,⟨wv',by rw[HE.out];exact HA2.out⟩,HK2.out⟩
end
section
open Go.RowKit Go.Maps
variable {fix:Nat→Option Value} {left:Int} {use:Value} {B T F:Nat} {ev:Nat→Value} {wv:Value} {own:Nat→Prop} {f:ByteArray→Option Int} {mb:Nat} {en:Nat→List Int} {ws:List eB} {W:World}
theorem rz (x:eB) (kind:ByteArray):∀(es:List aJ) (p:Nat) (left:Int),0≤left→(0≤(lL x kind p es left).2∧((lL x kind p es left).1.length:Int)+(lL x kind p es left).2=left)∨((lL x kind p es left).2=-1∧((lL x kind p es left).1.length:Int)=left)
 | [],p,left,h=>Or.inl ⟨h,by simp[lL]⟩
 | e::r,p,left,h=>by
  unfold lL
  split
  ·split
   ·rename_i h1
    rcases rz x kind r (p+1) (left - 1) h1 with ⟨a,b⟩|⟨a,b⟩
    ·exact Or.inl ⟨a,by simp only[List.length_cons];omega⟩
    ·exact Or.inr ⟨a,by simp only[List.length_cons];omega⟩
   ·rename_i h1
    exact Or.inr ⟨by simp only;omega,by simp only[List.length_nil];omega⟩
  ·exact rz x kind r (p+1) left h
def wP (x:eB):Prop:=x.bM≤4∧∀j,j<4→(Lit.int .i64 (oz x j)).wf=true
theorem Az {x:eB} {p n:Int} (h:Cp x) (hp:(Lit.int .i64 p).wf=true):wP (rh x p n):=by
 have h0:=h.2 0 (by decide)
 have h1:=h.2 1 (by decide)
 have h2:=h.2 2 (by decide)
 have h3:=h.2 3 (by decide)
 refine⟨by rw[zK x p n h.1];have:=h.1;omega,?_⟩
 have hlt:=h.1
 clear h
 obtain⟨e0,e1,e2,e3,bM,a⟩:=x
 simp only at hlt
 match bM,hlt with
 | 0,_=>intro j hj;match j,hj with
  | 0,_=>exact hp
  | 1,_=>exact h1
  | 2,_=>exact h2
  | 3,_=>exact h3
 | 1,_=>intro j hj;match j,hj with
  | 0,_=>exact h0
  | 1,_=>exact hp
  | 2,_=>exact h2
  | 3,_=>exact h3
 | 2,_=>intro j hj;match j,hj with
  | 0,_=>exact h0
  | 1,_=>exact h1
  | 2,_=>exact hp
  | 3,_=>exact h3
 | 3,_=>intro j hj;match j,hj with
  | 0,_=>exact h0
  | 1,_=>exact h1
  | 2,_=>exact h2
  | 3,_=>exact hp
theorem sX {x:eB} (kind:ByteArray) (h:Cp x):∀(es:List aJ) (p:Nat) (left:Int),p+es.length≤1000000→∀y∈(lL x kind p es left).1,wP y
 | [],p,left,_,y,hy=>by simp[lL] at hy
 | e::r,p,left,hl,y,hy=>by
  simp only[List.length_cons] at hl
  unfold lL at hy
  split at hy
  ·split at hy
   ·rcases List.mem_cons.1 hy with rfl|hy
    ·exact Az h (WalkArith.wf_i64 (by omega))
    ·exact sX kind h r (p+1) (left - 1) (by omega) y hy
   ·cases hy
  ·exact sX kind h r (p+1) left (by omega) y hy
def eY (es:List aJ) (kind:ByteArray) (least bf:Int):Nat→List eB→Int→List Int × Int
 | 0,_,left=>([],left)
 | _+1,[],left=>([],left)
 | n+1,x::r,left=>
  if left<0 then ([],left)
  else if (x.bM:Int)<bf then ((if least≤(x.bM:Int) then [x.at_] else [])++(eY es kind least bf n (r++(lL x kind 0 es left).1) (lL x kind 0 es left).2).1,(eY es kind least bf n (r++(lL x kind 0 es left).1) (lL x kind 0 es left).2).2)
  else ((if least≤(x.bM:Int) then [x.at_] else [])++(eY es kind least bf n r left).1,(eY es kind least bf n r left).2)
theorem tS {w:World} {B k n cap:Nat} {T:TypeId} {ao:Option Addr} {xs:List Value} (h:w.ownsRow B T k (.slice ao n cap) n xs):w.ownsRow B T k (.slice ao 0 cap) 0 []:=by
 refine⟨by simp,?_⟩
 rcases h.2 with ⟨hv,h0⟩|⟨g,cap',cur,hv,hb,hg,hn,hm,hs,_⟩
 ·injection hv with h1 h2 h3
  subst h1 h3
  exact Or.inl ⟨rfl,rfl⟩
 ·injection hv with h1 h2 h3
  subst h1 h3
  exact Or.inr ⟨g,_,cur,rfl,hb,hg,Nat.zero_le _,hm,hs,by simp⟩
theorem gT.Jo {w:World} {ao:Option Addr} {n cap g cap2:Nat} {x:eB} (h:gT own F B T fix left use f mb ev en (.slice ao n cap) ws W) (hb0:W.ownsRow 0 361 6 (.slice ao 0 cap) 0 []) (hg:W.grownBy w (Value.slice ao 0 cap).ownBlock)
  (ho:w.ownsRow 0 361 6 (.slice (some ⟨g,0,none⟩) 1 cap2) 1 (ru x)) (hb:(Value.slice ao 0 cap).ownBlock=some g∨g=W.heap.size) (hown:∀k,W.heap.size≤k→own k):
  gT own F B T fix left use f mb ev en (.slice (some ⟨g,0,none⟩) 1 cap2) [x] (w.setCell ⟨F,27,none⟩ (.slice (some ⟨g,0,none⟩) 1 cap2)):=by
 obtain⟨cs,hl,hc⟩:=h.cell
 obtain⟨tn,S,ht,hn⟩:=h.taken
 have hl':=hl.fs hb0 hg (by decide)
 have g2:=aC w F 27 (.slice (some ⟨g,0,none⟩) 1 cap2)
 have hb':=h.eV.kept hg (h.eV.eh hb0)
 have ht':=ht.kept hg (ht.eh hb0)
 have hre:∀i,i<6→w.ownsRow 0 3 1 (ev i) (en i).length ((en i).map (Value.int .i64)):=fun i hi=>(h.re i hi).kept hg (gm (h.re i hi) hb0 (by decide))
 refine⟨⟨_,hl'.set 27 _,hc.BZ _⟩,hb'.kept g2 (by intro e;injection e with e;exact hb'.aV hl' e),⟨tn,S,ht'.kept g2 (by intro e;injection e with e;exact ht'.aV hl' e),hn⟩,fun i hi=>(hre i hi).kept g2 (Or.inr (fun e=>aQ (hre i hi) hl' (by decide) e)),?_,h.apart,⟨h.dH.1,h.dH.2.1,h.dH.2.2.1,h.dH.2.2.2.1,?_⟩,h.bt⟩
 ·have:=ho.kept g2 (Or.inr (fun e=>aQ ho hl' (by decide) e))
  simpa using this
 ·intro b hbj
  injection hbj with hbj
  rcases hb with hb|hb
  ·refine h.dH.2.2.2.2 b ?_
   cases ao with
   | none=>cases hb
   | some a=>injection hb with hb;show some a.block=some b;rw[hb];exact congrArg some hbj
  ·exact hown b (by rw[←hbj,hb];exact Nat.le_refl _)
theorem gT.narrow {Z:Nat} {cs:Array Value} {T':TypeId} (h:gT own F B T fix left use f mb ev en wv ws W) (hz:Loc W Z cs T') (h1:263≠T') (h2:3≠T') (h3:361≠T'):gT (fun b=>own b∧b≠Z) F B T fix left use f mb ev en wv ws W:=by
 obtain⟨cs',hl,hc⟩:=h.cell
 obtain⟨tn,S,ht,hn⟩:=h.taken
 exact⟨⟨cs',hl,hc⟩,h.eV,⟨tn,S,ht,hn⟩,h.re,h.rw,h.apart,⟨⟨h.dH.1,kR hl hz h1⟩,⟨h.dH.2.1,h.eV.aV hz⟩,⟨h.dH.2.2.1,ht.aV hz⟩,fun i hi b hb=>⟨h.dH.2.2.2.1 i hi b hb,fun e=>aQ (h.re i hi) hz h2 (by rw[hb,e])⟩,fun b hb=>⟨h.dH.2.2.2.2 b hb,fun e=>aQ h.rw hz h3 (by rw[hb,e])⟩⟩,h.bt⟩
theorem gT.kt {own':Nat→Prop} (h:gT own' F B T fix left use f mb ev en wv ws W) (hw:∀b,own' b→own b):gT own F B T fix left use f mb ev en wv ws W:=
 ⟨h.cell,h.eV,h.taken,h.re,h.rw,h.apart,⟨hw _ h.dH.1,hw _ h.dH.2.1,hw _ h.dH.2.2.1,fun i hi b hb=>hw _ (h.dH.2.2.2.1 i hi b hb),fun b hb=>hw _ (h.dH.2.2.2.2 b hb)⟩,h.bt⟩
theorem Kept.kt {D D':Nat→Prop} {w:World} (h:Kept D' W w) (hw:∀b,D' b→D b):Kept D W w:=⟨h.os,h.tape,h.output,h.size,fun k hk hd=>h.block k hk (fun e=>hd (hw k e))⟩
theorem kS.narrow {own':Nat→Prop} {gb go m:Nat} {ns:List aq} {es:List aJ} (h:kS own gb go ns es m W) (hw:∀b,own' b→own b):kS own' gb go ns es m W:=fun w hk=>h w (hk.kt hw)
end
end Go.Proofs.YtobgbmfpicmpcaaGreatDoor
