/- veil.New: a graph out of a policy. -/
import Derived.Test.YtobgbmfpicmpcaaGreatDoorC09
import Derived.Test.YtobgbmfpicmpcaaGreatDoorC25
import Derived.Test.YtobgbmfpicmpcaaGreatDoorC39
import Derived.Test.YtobgbmfpicmpcaaGreatDoorC20
import Derived.Test.YtobgbmfpicmpcaaGreatDoorC14
import Derived.Test.YtobgbmfpicmpcaaGreatDoorC35
import Derived.Lib.Hide
set_option maxRecDepth 100000
set_option maxHeartbeats 8000000
namespace Go.Proofs.YtobgbmfpicmpcaaGreatDoor
open Go.Lib (hid)
section
open Go.RowKit Go.Maps
structure pn (vp:Value) (l:List cU) (m:Nat) (W:World):Prop where
 own:W.ownsRow 0 118 2 vp l.length (l.flatMap kL)
 right:∀x∈l,bm W x.2.1 m x.2.2
 rF:l.length≤6
theorem pn.later {vp:Value} {l:List cU} {m:Nat} {W w:World} (h:pn vp l m W) (hb:Below W.heap.size W w):pn vp l m w:=
 ⟨h.own.kept (af hb none) (by cases vp.ownBlock<;>simp),fun x hx=>(h.right x hx).kept (af hb none) (by simp),h.rF⟩
theorem Ld {s:ByteArray} {W:World} {mx:Int} (hm:W.cell? ⟨1,0,none⟩=some (.int .i64 mx)):
  Calls Tryz.prog 58 #[.string s] W fun e W'=>Below W.heap.size W W'∧((gQ s=none∧e=.returned (.tuple #[.pointer none,.int .i64 1]))∨∃ls l G vp m,gQ s=some ls∧l.map er=ls∧m≤2001∧W.heap.size≤G∧e=.returned (.tuple #[.pointer (some ⟨G,0,none⟩),.int .i64 0])∧Loc W' G #[vp,.slice none 0 0,.slice none 0 0,.int .i64 0,.slice none 0 0,.slice none 0 0] 129∧pn vp l m W'):=by
 have HM:=hid hm
 clear hm
 go_enter Tryz.func58,Tryz.ntmps58
 go_wp2_with fail
 refine(xG (s:=s) HM.out).mono ?_
 rintro e W1 ⟨hp,hb⟩
 rcases hp with ⟨hn,rfl⟩|⟨ls,l,W0,X,v,m,hs,hl,h6,hmm,_,hpol,hx,rfl⟩
 ·have HN:=hid hn
  have HB:=hid (hb.alloc hb.size (.cells #[.slice none 0 0] 122))
  clear hn hb
  go_wp2_with fail
  go_ret2
  exact⟨HB.out,Or.inl ⟨HN.out,rfl⟩⟩
 ·have HS:=hid hs
  have HL:=hid hl
  have HMM:=hid hmm
  obtain⟨v',hx',ho⟩:=hpol.list
  have hvv:v'=v:=by
   have h1:=hx'.cell 0
   rw[hx.cell 0] at h1
   simp at h1
   exact h1.symm
  subst hvv
  have HPI:Hid (pn v' l m W1):=hid ⟨⟨ho.1,ho.2.imp id (fun ⟨g,c,cu,a1,_,a3⟩=>⟨g,c,cu,a1,Nat.zero_le _,a3⟩)⟩,hpol.right,h6⟩
  obtain⟨av,cv,hvv⟩:=bB ho
  subst hvv
  have HB:=hid (hb.alloc hb.size (.cells #[.slice av l.length cv] 122))
  have HPI2:=hid (HPI.out.later ((Below.refl _ _).alloc (Nat.le_refl _) (.cells #[.slice av l.length cv] 122)))
  clear hs hl hmm hpol hx hx' ho h6 hb HPI
  go_upto_region 4 with fail
  have HX:=hid (Loc.new W1 #[.slice av l.length cv] 122)
  obtain⟨Y,hY⟩:∃Y,Y=W1.heap.size:=⟨_,rfl⟩
  rw[←hY] at HX⊢
  clear hY
  generalize W1.alloc (.cells #[.slice av l.length cv] 122)=W2 at HB HPI2 HX⊢
  have x0:=HX.out.at_ 0 (.slice av l.length cv) rfl
  have HG:=hid (Loc.new W2 #[.slice av l.length cv,.slice none 0 0,.slice none 0 0,.int .i64 0,.slice none 0 0,.slice none 0 0] 129)
  have HB3:=hid (HB.out.alloc HB.out.size (.cells #[.slice av l.length cv,.slice none 0 0,.slice none 0 0,.int .i64 0,.slice none 0 0,.slice none 0 0] 129))
  have HP3:=hid (HPI2.out.later ((Below.refl _ _).alloc (Nat.le_refl _) (.cells #[.slice av l.length cv,.slice none 0 0,.slice none 0 0,.int .i64 0,.slice none 0 0,.slice none 0 0] 129)))
  go_wp2_with fail
  go_ret2
  exact⟨HB3.out,Or.inr ⟨ls,l,W2.heap.size,_,m,HS.out,HL.out,HMM.out,HB.out.size,rfl,HG.out,HP3.out⟩⟩
end
section
open Go.RowKit Go.Maps Go.Sort
theorem bm.ET {W:World} {b n:Nat} {S:aI→Bool} (h:bm W b n S) {B k m:Nat} {T:TypeId} {v:Value} {xs:List Value} (ho:W.ownsRow B T k v m xs):v.ownBlock≠some b:=by
 rcases ho.2 with ⟨rfl,_⟩|⟨g,cap,cur,rfl,_,hg,_⟩
 ·simp[Value.ownBlock]
 ·intro e
  injection e with e
  exact h.aV hg e.symm
theorem bm.by {W w:World} {b n:Nat} {S:aI→Bool} (h:bm W b n S) (he:w.heap[b]?=W.heap[b]?):bm w b n S:=by
 obtain⟨D,⟨es,c,hb,r⟩,hS⟩:=h
 exact⟨D,⟨es,c,he.trans hb,r⟩,hS⟩
theorem tf {W:World} {B B' k k' n n' b:Nat} {T T':TypeId} {v v':Value} {xs xs':List Value} (h:W.ownsRow B T k v n xs) (h':W.ownsRow B' T' k' v' n' xs') (hT:T≠T') (e:v.ownBlock=some b):v'.ownBlock≠some b:=by
 rcases h.2 with ⟨rfl,_⟩|⟨g,cap,cur,rfl,_,hg,_⟩
 ·cases e
 ·injection e with e
  have e:g=b:=e
  subst e
  exact aQ h' hg (Ne.symm hT)
structure VG (B G:Nat) (pol:List cU) (cs:Array Value) (vn ve:Value) (ns:List aq) (es:List aJ) (last:Int) (m:Nat) (W:World):Prop where
 own:ed G 1 129 cs vn ve ns es last m W
 size:cs.size=6
 KY:∃vp mp,cs[0]?=some vp∧pn vp pol mp W
 BQ:cs[4]?=some (.slice none 0 0)
 Gn:cs[5]?=some (.slice none 0 0)
 apart:∀x∈pol,∀y∈ns,x.2.1≠y.bZ
 base:∀b,uz G vn ve ns b→B≤b
variable {B G m:Nat} {pol:List cU} {cs:Array Value} {vn ve:Value} {ns:List aq} {es:List aJ} {last:Int} {W w:World}
theorem VG.later (h:VG B G pol cs vn ve ns es last m W) (hb:Below W.heap.size W w):VG B G pol cs vn ve ns es last m w:=by
 obtain⟨vp,mp,c0,hp⟩:=h.KY
 exact⟨h.own.later hb,h.size,⟨vp,mp,c0,hp.later hb⟩,h.BQ,h.Gn,h.apart,h.base⟩
theorem VG.row {Bx k n:Nat} {T:TypeId} {v:Value} {xs:List Value} (h:VG B G pol cs vn ve ns es last m W) (hr:W.ownsRow Bx T k v n xs) (h1:T≠129) (h2:T≠139) (h3:T≠142) (hk:Kept (uz G vn ve ns) W w):w.ownsRow Bx T k v n xs:=by
 refine tR hr (fun g hg=>hk.block g (hr.lt g hg).2 (fun e=>?_))
 rcases e with e|e|e|⟨x,hx,e⟩
 ·subst e
  exact aQ hr h.own.bZ h1 hg
 ·exact tf hr h.own.on h2 hg e
 ·exact tf hr h.own.oe h3 hg e
 ·subst e
  exact(h.own.aW x hx).eh hr hg.symm
theorem VG.Kn {vp:Value} {mp:Nat} (h:VG B G pol cs vn ve ns es last m W) (hp:pn vp pol mp W) (hk:Kept (uz G vn ve ns) W w):pn vp pol mp w:=by
 refine⟨h.row hp.own (by decide) (by decide) (by decide) hk,fun x hx=>?_,hp.rF⟩
 have hR:=hp.right x hx
 refine hR.by (hk.block _ hR.lt (fun e=>?_))
 rcases e with e|e|e|⟨y,hy,e⟩
 ·exact hR.aV h.own.bZ e
 ·exact hR.ET h.own.on e
 ·exact hR.ET h.own.oe e
 ·exact h.apart x hx y hy e.symm
theorem VG.Hh {g:oJ} (h:VG B G pol cs vn ve ns es last m W) (hc:pV G 1 129 cs vn ve ns m W g w) (hB:B≤W.heap.size):∃ns' cs' vn' ve' m',ns'.map de=g.ns.map de∧VG B G pol cs' vn' ve' ns' g.es g.last m' w∧m'≤m+7000∧Kept (uz G vn ve ns) W w:=by
 obtain⟨ns',cs',vn',ve',m',e,how,hsz,hot,hk,gn,ge,hbl,hm⟩:=hc
 obtain⟨vp,mp,c0,hp⟩:=h.KY
 refine⟨ns',cs',vn',ve',m',e,⟨how,hsz.trans h.size,⟨vp,mp,(hot 0 (by omega)).trans c0,h.Kn hp hk⟩,(hot 4 (by omega)).trans h.BQ,(hot 5 (by omega)).trans h.Gn,fun x hx y hy=>?_,fun b hb=>?_⟩,hm,hk⟩
 ·rcases hbl y hy with ⟨z,hz,ez⟩|hn
  ·rw[←ez]
   exact h.apart x hx z hz
  ·have:=(hp.right x hx).lt
   omega
 ·rcases hb with hb|hb|hb|⟨y,hy,ey⟩
  ·exact h.base b (Or.inl hb)
  ·rcases gn b hb with h1|h1
   ·exact h.base b (Or.inr (Or.inl h1))
   ·omega
  ·rcases ge b hb with h1|h1
   ·exact h.base b (Or.inr (Or.inr (Or.inl h1)))
   ·omega
  ·rcases hbl y hy with ⟨z,hz,ez⟩|hn
   ·exact h.base b (Or.inr (Or.inr (Or.inr ⟨z,hz,by rw[ez,ey]⟩)))
   ·omega
theorem VG.under (h:VG B G pol cs vn ve ns es last m W) (hk:Kept (uz G vn ve ns) W w) (hB:B≤W.heap.size):Below B W w:=
 ⟨hk.os,hk.tape,hk.output,hk.size,fun b hb=>hk.block b (Nat.lt_of_lt_of_le hb hB) (fun e=>by have:=h.base b e;omega)⟩
end
section
open Go.RowKit
theorem iY {P:Program} {ops:Array Oper} {rest:List Oper} {op:Oper} {a:Act} {w:World} {Q:Exit→Act→World→Prop} {x:Operand} {i:Nat} {us:Array Value} {v:Value} (hgd:op.guard=none) (ho:op.op=.extract x i) (hx:a.eval x=.tuple us) (hv:us[i]?=some v) (h:wpList P ops Q rest (a.put op.dst v) w):wpList P ops Q (op::rest) a w:=
 wpList_plain hgd fun _ hK=>by
  unfold Oper.wp execOp
  simp only[ho,hx,Instr.extract,hv]
  exact hK _ _ h
theorem AM {w:World} {cs:Array Value} {T:TypeId} (z:Array Value):Below w.heap.size w ((w.alloc (.cells z T)).setCells w.heap.size 0 cs.toList):=
 gH (b:=w.heap.size) (Below.alloc (Below.refl _ _) (Nat.le_refl _) _) (aS w.heap.size cs.toList 0 _) (Nat.le_refl _)
end
section
open Go.RowKit Go.Maps Go.Sort
def iM:Array Value:=#[.string ⟨#[]⟩,.string ⟨#[]⟩,.map none,.int .i64 0,.slice none 0 0,.slice none 0 0,.slice none 0 0,.int .i64 0,.bool false,.int .i64 0,.int .i64 0,.string ⟨#[]⟩,.string ⟨#[]⟩,.string ⟨#[]⟩,.string ⟨#[]⟩,.int .i64 0,.string ⟨#[]⟩,.string ⟨#[]⟩,.string ⟨#[]⟩,.slice none 0 0]
theorem Tryz.sU:(Tryz.prog.info? 145).map (·.size)=some 20:=by kernel_rfl
theorem uF:iM.all (·.oneCell')=true:=by simp[iM,Value.oneCell']
theorem ry {ops:Array Oper} {rest:List Oper} {op:Oper} {a:Act} {w:World} {Q:Exit→Act→World→Prop} (hgd:op.guard=none) (ho:op.op=.build 145 #[]) (h:wpList Tryz.prog ops Q rest (a.put op.dst (.agg iM)) w):wpList Tryz.prog ops Q (op::rest) a w:=
 wpList_plain hgd fun _ hK=>by
  unfold Oper.wp execOp
  simp only[ho]
  go_simp
  exact hK _ _ h
theorem lY {ops:Array Oper} {rest:List Oper} {op:Oper} {a:Act} {w:World} {Q:Exit→Act→World→Prop} (hgd:op.guard=none) (ho:op.op=.alloc 145) (h:wpList Tryz.prog ops Q rest (a.put op.dst (.pointer (some ⟨w.heap.size,0,none⟩))) (w.alloc (.cells iM 145))):wpList Tryz.prog ops Q (op::rest) a w:=
 wpList_plain hgd fun _ hK=>by
  unfold Oper.wp execOp
  simp only[ho]
  go_simp
  exact hK _ _ h
theorem Hi {fn:Func} {tmps:Array Value} {w:World} {X c d:Nat} {cs:Array Value} {b:Bool} (hr:fn.results=#[.cell c 145,.tmp d]) (hc:tmps[c]?.getD undef=.pointer (some ⟨X,0,none⟩)) (hd:tmps[d]?.getD undef=.bool b) (hL:Loc w X cs 145) (hs:cs.size=20):
  (results fn tmps).run Tryz.prog w=.ok (.tuple #[.agg cs,.bool b]) w:=by
 have hl:=run_loadVar_mid (P:=Tryz.prog) w X 0 145 cs.toList _ hL.range Tryz.underlying145 rfl (by rw[Tryz.sU];simp[hs])
 unfold results
 rw[hr]
 simp[hc,hd,hl,asAddr]
theorem CN {G:Nat} {cs:Array Value} {W:World} {nm:ByteArray} (hg:Loc W G cs 129) (h4:cs[4]?=some (.slice none 0 0)):
  Calls Tryz.prog 72 #[.pointer (some ⟨G,0,none⟩),.string nm] W fun e W'=>e=.returned (.tuple #[.agg iM,.bool false])∧Below W.heap.size W W':=by
 have HB:=hid ((Below.refl W.heap.size W).alloc (Nat.le_refl _) (.cells iM 145))
 have HL:=hid (Loc.new W iM 145)
 have HG:=hid (hg.alloc (.cells iM 145))
 have H4:=hid h4
 clear hg h4
 go_enter Tryz.func72,Tryz.ntmps72
 go_upto_region 0 with fail
 refine wp_region_lit ?_
 refine lY rfl rfl ?_
 obtain⟨X,hX⟩:∃X,X=W.heap.size:=⟨_,rfl⟩
 rw[←hX] at HL⊢
 have HXW:=hid hX
 clear hX
 generalize W.alloc (.cells iM 145)=W1 at HB HL HG⊢
 have c4:W1.cell? ⟨G,4,none⟩=some (.slice none 0 0):=(HG.out.cell 4).trans H4.out
 go_wp2_with fail
 go_loopg [13] 0 (fun _ iv w=>iv=.int .i64 0∧w=W1)
 case atStart=>exact⟨rfl,rfl⟩
 case round=>
  obtain⟨rfl,rfl⟩:=hrel
  go_upto_region 7 with fail
  refine wp_region_lit ?_
  refine ry rfl rfl ?_
  refine wpList_store_mid rfl 145 _ _ rfl X 0 iM rfl rfl HL.out.there Tryz.sU uF ?_
  have HL2:=hid (HL.out.dh (new:=iM) rfl)
  have HB2:=hid (HB.out.grown (aS X iM.toList 0 wr) HB.out.size (fun j hj=>by injection hj with hj;rw[←hj,HXW.out];exact Nat.le_refl _))
  generalize wr.setCells X 0 iM.toList=W2 at HL2 HB2⊢
  go_wp2_with fail
  exact bodyPost_ret (Hi Tryz.results72 rfl rfl HL2.out rfl) rfl ⟨rfl,HB2.out⟩
theorem C9 {G:Nat} {cs:Array Value} {W:World} {nm rn:ByteArray} {rb:Nat} {budget:Int} (hg:Loc W G cs 129) (h4:cs[4]?=some (.slice none 0 0)):
  Calls Tryz.prog 65 #[.pointer (some ⟨G,0,none⟩),.agg #[.string rn,.map (some rb)],.string nm,.int .i64 budget] W fun e W'=>e=.returned (.tuple #[.slice none 0 0,.int .i64 5])∧Below W.heap.size W W':=by
 have HB:=hid ((Below.refl W.heap.size W).alloc (Nat.le_refl _) (.cells #[.string rn,.map (some rb)] 118))
 have HG:=hid (hg.alloc (.cells #[.string rn,.map (some rb)] 118))
 have H4:=hid h4
 clear hg h4
 go_enter Tryz.func65,Tryz.ntmps65
 go_upto_region 1 with fail
 generalize W.alloc (.cells #[.string rn,.map (some rb)] 118)=W1 at HB HG⊢
 go_wp2_with fail
 refine(CN HG.out H4.out).mono ?_
 rintro e W2 ⟨rfl,hb2⟩
 have HB2:=hid (HB.out.trans (hb2.mono HB.out.size))
 clear hb2
 rename_i KK hKK
 refine hKK _ _ ?_
 clear hKK KK
 refine iF rfl rfl ?_
 refine iY rfl rfl rfl rfl ?_
 refine iY rfl rfl rfl rfl ?_
 refine lY rfl rfl ?_
 refine wpList_store_mid rfl 145 _ _ rfl W2.heap.size 0 iM rfl rfl (Loc.new W2 iM 145).there Tryz.sU uF ?_
 have HB3:=hid ((HB2.out.alloc HB2.out.size (.cells iM 145)).grown (aS W2.heap.size iM.toList 0 _) (by have:=HB2.out.size;simp;omega) (fun j hj=>by injection hj with hj;rw[←hj];exact HB2.out.size))
 generalize (W2.alloc (.cells iM 145)).setCells W2.heap.size 0 iM.toList=W3 at HB3⊢
 go_wp2_with fail
 go_ret2
 exact⟨rfl,HB3.out⟩
end
section
open Go.RowKit Go.Maps Go.Sort
theorem Tryz.DY (args:Array Value) (w:World):(callFunc 140 args).run Tryz.prog w=.ok (.enter 140 args) w:=by go_simp
theorem Tryz.Du (args:Array Value) (w:World):(callFunc 139 args).run Tryz.prog w=.ok (.enter 139 args) w:=by go_simp
theorem Tryz.He (args:Array Value) (w:World):(callFunc 134 args).run Tryz.prog w=.ok (.enter 134 args) w:=by go_simp
theorem G6 {W:World} {gb go m sc cc ic pc:Nat} {ns:List aq} {es:List aJ} {sa ca ia pa:Option Addr} {q:au} {budget:Int} (h:et gb go ns es m W) (ok:Jb ns es q.ai q.conds) (hb:0≤budget∧budget≤5000) (hqr:I8 q)
  (hss:bO W 5 (.slice sa q.ai.length sc) q.ai.length (q.ai.flatMap kN)) (hsc:bO W 7 (.slice ca q.conds.length cc) q.conds.length (q.conds.flatMap kk)) (hsi:bO W 2 (.slice ia q.items.length ic) q.items.length (q.items.flatMap mT)) (ht:BG W):
  Calls Tryz.prog 63 #[.pointer (some ⟨gb,go,none⟩),.agg (qC q (.slice sa q.ai.length sc) (.slice ca q.conds.length cc) (.slice ia q.items.length ic) (.slice pa q.ay.length pc)),.int .i64 budget] W fun e W'=>(∃v,e=.returned (.tuple #[v,.int .i64 (eK ns es q budget).2])∧W'.ownsRow W.heap.size 9 1 v (eK ns es q budget).1.length (strs (eK ns es q budget).1))∧Below W.heap.size W W':=by
 obtain⟨qc,hqc⟩:∃qc,qC q (.slice sa q.ai.length sc) (.slice ca q.conds.length cc) (.slice ia q.items.length ic) (.slice pa q.ay.length pc)=qc:=⟨_,rfl⟩
 have q3:qc[3]?=some (.slice ia q.items.length ic):=by rw[←hqc];rfl
 have q4:qc[4]?=some (.int .i64 q.order):=by rw[←hqc];rfl
 have q5:qc[5]?=some (.bool q.down):=by rw[←hqc];rfl
 have q6:qc[6]?=some (.int .i64 q.skip):=by rw[←hqc];rfl
 have q7:qc[7]?=some (.int .i64 q.bR):=by rw[←hqc];rfl
 have qs:qc.size=17:=by rw[←hqc];rfl
 have HQQ:=hid (And.intro q3 (And.intro q4 (And.intro q5 (And.intro q6 (And.intro q7 qs)))))
 clear q3 q4 q5 q6 q7 qs
 have hB1:=(Below.refl W.heap.size W).alloc (Nat.le_refl _) (.cells #[.pointer (some ⟨gb,go,none⟩)] 132)
 have hB2:=hB1.alloc hB1.size (.cells qc 29)
 have hB3:=hB2.alloc hB2.size (.cells #[.slice none 0 0] 205)
 have hG1:=Loc.new W #[.pointer (some ⟨gb,go,none⟩)] 132
 have hQ2:=Loc.new (W.alloc (.cells #[.pointer (some ⟨gb,go,none⟩)] 132)) qc 29
 have hL3:=Loc.new ((W.alloc (.cells #[.pointer (some ⟨gb,go,none⟩)] 132)).alloc (.cells qc 29)) #[.slice none 0 0] 205
 have hG3:=(hG1.alloc (.cells qc 29)).alloc (.cells #[.slice none 0 0] 205)
 have hQ3:=hQ2.alloc (.cells #[.slice none 0 0] 205)
 have HB3:=hid hB3
 have HG3:=hid hG3
 have HQ3:=hid hQ3
 have HL3:=hid hL3
 clear hB1 hB2 hB3 hG1 hQ2 hL3 hG3 hQ3
 have H:=hid h
 have HOK:=hid ok
 have HQR:=hid hqr
 have HSS:=hid hss
 have HSC:=hid hsc
 have HSI:=hid hsi
 have HT:=hid ht
 have HQC:=hid hqc
 clear h ok hqr hss hsc hsi ht
 rw[hqc]
 clear hqc
 go_enter Tryz.func63,Tryz.ntmps63
 go_upto_region 2 with fail
 obtain⟨Y,hY⟩:∃Y,Y=W.heap.size:=⟨_,rfl⟩
 have e1:(W.alloc (.cells #[.pointer (some ⟨gb,go,none⟩)] 132)).heap.size=Y+1:=by rw[hY];simp
 have e2:((W.alloc (.cells #[.pointer (some ⟨gb,go,none⟩)] 132)).alloc (.cells qc 29)).heap.size=Y+1+1:=by rw[World.size_alloc,e1]
 have HYW:=hid hY
 rw[e1] at HQ3
 rw[e2] at HL3
 rw[←hY] at HG3⊢
 clear hY e1 e2
 generalize ((W.alloc (.cells #[.pointer (some ⟨gb,go,none⟩)] 132)).alloc (.cells qc 29)).alloc (.cells #[.slice none 0 0] 205)=W3 at HB3 HG3 HQ3 HL3⊢
 have hu0:∀k,(k=Y+1+1∨(Value.slice none 0 0).ownBlock=some k)→W.heap.size≤k:=by
  intro k hk
  rcases hk with rfl|hk
  ·rw[HYW.out];omega
  ·cases hk
 have HU0:=hid hu0
 have HE:Hid (Calls Tryz.prog 130 #[.pointer (some ⟨gb,go,none⟩),.agg qc,.int .i64 budget,.func (.func 131) #[] #[.pointer (some ⟨Y+1+1,0,none⟩),.pointer (some ⟨Y,0,none⟩),.pointer (some ⟨Y+1,0,none⟩)]] W3 fun e W'=>e=.returned (.bool (decide (0≤(aR ns es q budget).left)))∧∃ub',sW (J0 ns q.items (Y+1+1)) ub' (aR ns es q budget).rows W'∧Kept (fun k=>k=Y+1+1∨(Value.slice none 0 0).ownBlock=some k) W3 W'∧∀k,ub' k→(k=Y+1+1∨(Value.slice none 0 0).ownBlock=some k)∨W3.heap.size≤k):=hid (by
  rw[←HQC.out]
  refine EE (wY (Dq ns q.items (Y+1+1))) Tryz.FA HOK.out hb ⟨⟨_,HL3.out,World.ownsRow_nil _ _ _ _,fun k=>Iff.rfl⟩,fun f hf=>by cases hf⟩ (nB H.out HB3.out hu0) (fun w hk=>HSS.out.below (jH HB3.out hu0 hk)) (fun w hk=>HSC.out.below (jH HB3.out hu0 hk)) (fun B=>vT (Gh (gb:=gb) (go:=go) (m:=m) (es:=es) (ao:=ia) (cp:=ic) (by have:=HQR.out.rF;omega) HQR.out.small fun w hk=>?_))
  have hbw:=jH HB3.out hu0 hk
  refine⟨H.out.below hbw,?_,?_,HSI.out.below hbw⟩
  ·refine Eq.trans ?_ ((HG3.out.cell 0).trans rfl)
   exact World.cell?_of_block (hk.block Y HG3.out.lt (fun e=>e ⟨HG3.out.lt,fun h1=>h1.elim (fun e=>by omega) (fun e=>by cases e)⟩))
  ·refine Eq.trans ?_ ((HQ3.out.cell 3).trans HQQ.out.1)
   exact World.cell?_of_block (hk.block (Y+1) HQ3.out.lt (fun e=>e ⟨HQ3.out.lt,fun h1=>h1.elim (fun e=>by omega) (fun e=>by cases e)⟩)))
 obtain⟨hb1,hb2⟩:=hb
 have HQS:Hid ((Tryz.prog.info? 29).map (·.size)=some qc.toList.length):=hid (by rw[Tryz.aX,Array.length_toList,HQQ.out.2.2.2.2.2])
 have cG:=HG3.out.at_ 0 (.pointer (some ⟨gb,go,none⟩)) rfl
 go_wp2_with (refine wpList_load_mid rfl 29 _ rfl (Y+1) 0 rfl qc.toList _ HQ3.out.range Tryz.underlying29 rfl HQS.out ?_;simp only[Array.toArray_toList])
 refine HE.out.mono ?_
 rintro e W5 ⟨rfl,ub',⟨⟨v,hlv,hrow,hub⟩,hwf⟩,hk5,hub5⟩
 have HB5:=hid (iz HB3.out HU0.out hk5)
 have HQ5:Hid (Loc W5 (Y+1) qc 29):=hid ((hk5.block (Y+1) HQ3.out.lt (fun e=>e.elim (fun e=>by omega) (fun e=>by cases e))).trans HQ3.out)
 obtain⟨ls0,hls0⟩:∃ls0,(aR ns es q budget).rows.map (fi ns q.items)=ls0:=⟨_,rfl⟩
 have HLO:Hid (∀l∈ls0,sj l):=hid (by
  rw[←hls0]
  intro l hl
  obtain⟨f,hf,rfl⟩:=List.mem_map.1 hl
  exact Cv H.out (hwf f hf) HQR.out.small)
 have HLL:Hid (ls0.length≤6000):=hid (by
  rw[←hls0,List.length_map]
  have h1:=gD ns es q.conds q.ai ⟨#[]⟩ ⟨budget,jN,[]⟩ hb1
  have h2:bH ns es q.conds q.ai ⟨#[]⟩ ⟨budget,jN,[]⟩=aR ns es q budget:=rfl
  rw[h2] at h1
  have h3:=HOK.out.BN
  simp only[List.length_nil] at h1
  omega)
 have hrow':W5.ownsRow 0 210 12 v ls0.length (ls0.flatMap fo):=by
  rw[←hls0,List.length_map,List.flatMap_map]
  exact hrow
 obtain⟨av,cv,rfl⟩:=bB hrow'
 have HV:Hid (∀b,(Value.slice av ls0.length cv).ownBlock=some b→W.heap.size≤b):=hid (fun b hbb=>by
  rcases hub5 b ((hub b).2 (Or.inr hbb)) with h1|h1
  ·exact HU0.out b h1
  ·exact Nat.le_trans HB3.out.size h1)
 have HR5:=hid hrow'
 have HL5:=hid hlv
 have HFO:Hid (eK ns es q budget=if 0≤(aR ns es q budget).left then ((ix q.skip q.bR (gR q.order q.down (lJ q.items ls0))).map (gB q.items.length),0) else ([],6)):=hid (by unfold eK;rw[hls0])
 clear hrow hrow' hlv hub hub5 hwf hk5 hls0 hu0 HU0 HE HQ3 HG3 HL3 HB3 cG
 by_cases hlf:0≤(aR ns es q budget).left
 ·have hd:decide (0≤(aR ns es q budget).left)=true:=decide_eq_true hlf
  rw[hd]
  have HF:Hid (eK ns es q budget=((ix q.skip q.bR (gR q.order q.down (lJ q.items ls0))).map (gB q.items.length),0)):=hid (by rw[HFO.out,if_pos hlf])
  clear hd hlf HFO
  have c3:W5.cell? ⟨Y+1,3,none⟩=some (.slice ia q.items.length ic):=(HQ5.out.cell 3).trans HQQ.out.1
  have HAN:=hid (xB Tryz.He (fun x w=>pR x w) (HSI.out.below HB5.out) (by have:=HQR.out.rF;omega))
  go_wp2_with fail
  refine HAN.out.mono ?_
  rintro e W6 ⟨rfl,hb6⟩
  have HB6:=hid (HB5.out.trans (hb6.mono HB5.out.size))
  have HQ6:=hid (HQ5.out.grown (af hb6 none) (by simp))
  have HL6:=hid (HL5.out.grown (af hb6 none) (by simp))
  have HR6:=hid (HR5.out.kept (af hb6 none) (by cases (Value.ownBlock _)<;>simp))
  clear hb6 HB5 HQ5 HL5 HR5 HAN c3
  go_upto_if 19 with fail
  go_cut [] (fun w=>Lb W (Y+1+1) (Y+1) qc (lJ q.items ls0) w)
  case first=>
   cases ha:q.items.any jl with
   | false=>
    have HP:Hid (lJ q.items ls0=ls0):=hid (by unfold lJ;rw[ha];rfl)
    go_wp2_with fail
    go_meet
    exact⟨⟨av,cv,ls0,HL6.out,HR6.out,by rw[HP.out],HV.out⟩,HQ6.out,HB6.out⟩
   | true=>
    have c3:W6.cell? ⟨Y+1,3,none⟩=some (.slice ia q.items.length ic):=(HQ6.out.cell 3).trans HQQ.out.1
    have cL:W6.cell? ⟨Y+1+1,0,none⟩=some (.slice av ls0.length cv):=(HL6.out.cell 0).trans rfl
    have HP:Hid (lJ q.items ls0=(tD q.items ls0).map (fun l=>ir q.items l ((dC (dJ q.items) ls0 l).getD 0))):=hid (by unfold lJ;rw[ha];rfl)
    have HM:=hid (Hp HR6.out (HSI.out.below HB6.out) (fun w hk=>HSI.out.below (iz HB6.out HV.out hk)) (by have:=HLL.out;omega) HQR.out.rF.2 HLO.out)
    clear ha
    go_wp2_with fail
    refine HM.out.mono ?_
    rintro e W7 ⟨v7,ks,rfl,hr7,hnd,hmem,hk7,hv7⟩
    have HB7:=hid (iz HB6.out HV.out hk7)
    have hL7:Loc W7 (Y+1+1) #[.slice av ls0.length cv] 205:=(hk7.block _ HL6.out.lt (fun e=>aQ HR6.out HL6.out (by decide) e)).trans HL6.out
    have hQ7:Loc W7 (Y+1) qc 29:=(hk7.block _ HQ6.out.lt (fun e=>aQ HR6.out HQ6.out (by decide) e)).trans HQ6.out
    obtain⟨a7,c7,rfl⟩:=bB hr7
    have l7:W7.cell? ⟨Y+1+1,0,none⟩=some (.slice av ls0.length cv):=(hL7.cell 0).trans rfl
    have f7:W7.frozen? ⟨Y+1+1,0,none⟩=false:=hL7.free 0
    have HL7:=hid hL7
    have HQ7:=hid hQ7
    have HR7:=hid hr7
    have HKP:=hid (keys_perm hnd hmem)
    have HV7:Hid (∀b,(Value.slice a7 ks.length c7).ownBlock=some b→W.heap.size≤b):=hid (fun b hbb=>by
     rcases hv7 b hbb with h1|h1
     ·exact HV.out b h1
     ·exact Nat.le_trans HB6.out.size h1)
    clear hL7 hQ7 hr7 hnd hmem hk7 hv7 HM c3 cL
    go_wp2_with fail
    go_meet
    have hrs:=HR7.out.kept (aC W7 (Y+1+1) 0 (.slice a7 ks.length c7)) (Or.inr (fun e=>aQ HR7.out HL7.out (by decide) e))
    have hQs:=HQ7.out.grown (aC W7 (Y+1+1) 0 (.slice a7 ks.length c7)) (by intro e;injection e with e;omega)
    have el:(ks.map fun l=>ir q.items l ((dC (dJ q.items) ls0 l).getD 0)).length=ks.length:=by simp
    refine⟨⟨a7,c7,ks.map fun l=>ir q.items l ((dC (dJ q.items) ls0 l).getD 0),?_,?_,?_,?_⟩,hQs,?_⟩
    ·rw[el];exact HL7.out.set 0 _
    ·rw[el];exact hrs
    ·rw[HP.out];exact HKP.out.map _
    ·rw[el];exact HV7.out
    ·exact HB7.out.grown (aC W7 (Y+1+1) 0 _) HB7.out.size (fun j hj=>by injection hj with hj;rw[←hj,HYW.out];omega)
  case rest=>
   obtain⟨⟨ao,cp,ls,hl,hr,hp,hv⟩,hq,hbw⟩:=hcut
   have HTO:=hid (Iv (items:=q.items) HLO.out (by have:=HLL.out;omega))
   have HLO2:Hid (∀l∈ls,sj l):=hid (fun l hl=>HTO.out l (hp.subset hl))
   have HLN:Hid (ls.length≤6001):=hid (by have h1:=Fc q.items ls0;rw[hp.length_eq];have:=HLL.out;omega)
   have HSE:=hid (vX (order:=q.order) (down:=q.down) hp)
   have cL:wc.cell? ⟨Y+1+1,0,none⟩=some (.slice ao ls.length cp):=(hl.cell 0).trans rfl
   have HSO:=hid (Jj hr (fun l h=>(HLO2.out l h).1) hq HQQ.out.2.2.2.2.2 HQQ.out.2.1 HQQ.out.2.2.1 HQR.out.order (by have:=HLN.out;omega))
   have HL8:=hid hl
   have HR8:=hid hr
   have HQ8:=hid hq
   have HB8:=hid hbw
   have HV8:=hid hv
   clear hl hr hp hv hq hbw HL6 HR6 HQ6 HB6 HV HTO
   go_wp2_with fail
   refine HSO.out.mono ?_
   rintro e W9 ⟨rfl,hr9,hk9⟩
   have HB9:=hid (iz HB8.out HV8.out hk9)
   have HL9:Hid (Loc W9 (Y+1+1) #[.slice ao ls.length cp] 205):=hid ((hk9.block _ HL8.out.lt (fun e=>aQ HR8.out HL8.out (by decide) e)).trans HL8.out)
   have HQ9:Hid (Loc W9 (Y+1) qc 29):=hid ((hk9.block _ HQ8.out.lt (fun e=>aQ HR8.out HQ8.out (by decide) e)).trans HQ8.out)
   obtain⟨st,hst⟩:∃st,gR q.order q.down ls=st:=⟨_,rfl⟩
   rw[hst] at hr9 HSE
   have hsl:st.length=ls.length:=by rw[←hst];unfold gR;rw[List.length_map,(fJ _ _).length_eq,List.length_map]
   have HSO2:Hid (∀l∈st,sj l):=hid (by
    rw[←hst]
    intro l hl
    unfold gR at hl
    obtain⟨x,hx,rfl⟩:=List.mem_map.1 hl
    have h1:=(fJ _ _).subset hx
    obtain⟨y,hy,rfl⟩:=List.mem_map.1 h1
    rw[sG (HLO2.out y hy).1]
    exact HLO2.out y hy)
   have HRE:=hid (aP hr9 hr9.1)
   have HN9:Hid (st.length≤6001):=hid (by rw[hsl];exact HLN.out)
   rw[←hsl] at HRE HL9
   clear hst hsl hr9 hk9 HSO HLO2 HL8 HR8 HQ8 HB8 HV8 HLN cL
   have cL9:W9.cell? ⟨Y+1+1,0,none⟩=some (.slice ao st.length cp):=(HL9.out.cell 0).trans rfl
   have cQ9:W9.cell? ⟨Y+1,3,none⟩=some (.slice ia q.items.length ic):=(HQ9.out.cell 3).trans HQQ.out.1
   have HS:Hid (∀w,Below W9.heap.size W9 w→w.cell? ⟨Y+1+1,0,none⟩=some (.slice ao st.length cp)∧w.rangeAt (Y+1) 0 qc.toList∧w.cell? ⟨Y+1,3,none⟩=some (.slice ia q.items.length ic)):=hid (fun w hb=>⟨(hb.cell (block_lt_of_cell cL9)).trans cL9,(HQ9.out.grown (af hb none) (by simp)).range,(hb.cell (block_lt_of_cell cQ9)).trans cQ9⟩)
   have HD9:Hid (Below W9.heap.size W9 W9.drew):=hid ⟨rfl,rfl,rfl,Nat.le_refl _,fun _ _=>rfl⟩
   clear cL9 cQ9
   go_upto_region 8 with fail
   refine wp_region_noPanic ?_
   refine wp_region_held_drew (S:=fun w'=>w'.cell? ⟨Y+1+1,0,none⟩=some (.slice ao st.length cp)∧w'.rangeAt (Y+1) 0 qc.toList∧w'.cell? ⟨Y+1,3,none⟩=some (.slice ia q.items.length ic)) (by kernel_rfl) (HS.out _ HD9.out) (fun hHeld0=>?_)
   refine wpAnyH_take (i:=0) (v:=?v1) rfl (by kernel_rfl) (by kernel_rfl) (by kernel_rfl) (fun _ _ _ h=>h) (Or.inl ⟨by rfl,?y1⟩) hHeld0 ?r1
   case y1=>(intro w hSw;obtain⟨hc1,_,hc3⟩:=hSw;go_simp;(try with_reducible rfl))
   simp only[Act.put,List.getElem_toArray,List.getElem_cons_zero]
   refine wpAnyH_take (i:=1) rfl (by kernel_rfl) (by kernel_rfl) (by kernel_rfl) (fun _ _ _ h=>h) (yieldsIf_load_mid (by rfl) 29 _ rfl (Y+1) 0 rfl qc.toList _ (fun w hw=>hw.2.1) Tryz.underlying29 rfl HQS.out) hHeld0 ?_
   simp only[Act.put,List.getElem_toArray,List.getElem_cons_zero,List.getElem_cons_succ,Array.toArray_toList]
   refine wpAnyH_take (i:=3) (v:=?v3) rfl (by kernel_rfl) (by kernel_rfl) (by kernel_rfl) (fun _ _ _ h=>h) (Or.inl ⟨by rfl,?y3⟩) hHeld0 ?r3
   case y3=>(intro w hSw;obtain⟨hc1,_,hc3⟩:=hSw;go_simp;(try with_reducible rfl))
   simp only[Act.put,List.getElem_toArray,List.getElem_cons_zero,List.getElem_cons_succ]
   refine wpAnyH_take (i:=4) (v:=?v4) rfl (by kernel_rfl) (by kernel_rfl) (by kernel_rfl) (fun _ _ _ h=>h) (Or.inl ⟨by rfl,?y4⟩) hHeld0 ?r4
   case y4=>(intro w hSw;obtain⟨hc1,_,hc3⟩:=hSw;go_simp;(try with_reducible rfl))
   simp only[Act.put,List.getElem_toArray,List.getElem_cons_zero,List.getElem_cons_succ]
   refine wpAnyH_take (i:=5) (v:=?v5) rfl (by kernel_rfl) (by kernel_rfl) (by kernel_rfl) (fun _ _ _ h=>h) (Or.inl ⟨by rfl,?y5⟩) hHeld0 ?r5
   case y5=>(intro w hSw;obtain⟨hc1,_,hc3⟩:=hSw;go_simp;(try with_reducible rfl))
   simp only[Act.put,List.getElem_toArray,List.getElem_cons_zero,List.getElem_cons_succ]
   refine wpAnyH_ready (rs:=[2]) (by kernel_rfl) (by simp) ?_
   refine AllReadyH.cons rfl (fun K hK=>?_) AllReadyH.nil
   have hsk:=HQR.out.skip
   have hlm:=HQR.out.bR
   refine dW rfl 140 _ _ Tryz.DY rfl #[.slice ao st.length cp,.agg qc] (by simp[Act.eval]) (JU (HRE.out.below HD9.out) (by have:=HN9.out;omega) HQQ.out.2.2.2.1 HQQ.out.2.2.2.2.1 ⟨hsk.1,hsk.2,hlm.1,hlm.2⟩) (fun e w1 hp=>?_)
   obtain⟨⟨ap,c1,rfl,hsp⟩,hb1⟩:=hp
   refine⟨_,rfl,?_⟩
   have HBw1:Hid (Below W9.heap.size W9 w1):=hid (HD9.out.trans hb1)
   have HSP:=hid hsp
   refine hK.out _ _ (HS.out w1 HBw1.out) (fun hHeld1=>?_)
   clear hK K hHeld0 hb1 hsp
   simp only[Act.put,List.getElem_toArray,List.getElem_cons_zero,List.getElem_cons_succ]
   obtain⟨pc,hpc⟩:∃pc,ix q.skip q.bR st=pc:=⟨_,rfl⟩
   have HPL:Hid (pc.length≤6001):=hid (by
    rw[←hpc]
    unfold ix
    have:=HN9.out
    split
    ·rw[List.length_drop];omega
    ·rw[List.length_take,List.length_drop];omega)
   have HPO:Hid (∀l∈pc,sj l):=hid (by
    rw[←hpc]
    unfold ix
    intro l hl
    split at hl
    ·exact HSO2.out l (List.mem_of_mem_drop hl)
    ·exact HSO2.out l (List.mem_of_mem_drop (List.mem_of_mem_take hl)))
   rw[hpc] at HSP⊢
   have HF2:Hid (eK ns es q budget=(pc.map (gB q.items.length),0)):=hid (by rw[HF.out,←HSE.out,hpc])
   clear hpc
   refine wpAnyH_ready (rs:=[6]) (by kernel_rfl) (by simp) ?_
   refine AllReadyH.cons rfl (fun K hK=>?_) AllReadyH.nil
   have HBW:Hid (Below W.heap.size W w1):=hid (HB9.out.trans (HBw1.out.mono HB9.out.size))
   refine dW rfl 139 _ _ Tryz.Du rfl #[.slice ap pc.length c1,.int .i64 (q.items.length:Int)] (by simp[Act.eval]) (JM HSP.out (by have:=HPL.out;omega) HPO.out HQR.out.rF (HT.out.below HBW.out)) (fun e w2 hp=>?_)
   obtain⟨⟨vr,rfl,hrr⟩,hb2⟩:=hp
   refine⟨_,rfl,?_⟩
   have HRR:=hid (bQ hrr HBW.out.size)
   have HB2:=hid (HBW.out.trans (hb2.mono HBW.out.size))
   refine hK.out _ _ (HS.out w2 (HBw1.out.trans (hb2.mono HBw1.out.size))) (fun hHeld2=>?_)
   clear hK K hHeld1 hb2 hrr
   simp only[Act.put,List.getElem_toArray,List.getElem_cons_zero,List.getElem_cons_succ]
   refine wpAnyH_take (i:=7) (v:=?v7) rfl (by kernel_rfl) (by kernel_rfl) (by kernel_rfl) (fun _ _ _ h=>h) (Or.inl ⟨by rfl,?y7⟩) hHeld2 ?r7
   case y7=>(intro w hSw;go_simp;(try with_reducible rfl))
   simp only[Act.put,List.getElem_toArray,List.getElem_cons_zero,List.getElem_cons_succ]
   refine wpAnyH_take (i:=8) (v:=?v8) rfl (by kernel_rfl) (by kernel_rfl) (by kernel_rfl) (fun _ _ _ h=>h) (Or.inl ⟨by rfl,?y8⟩) hHeld2 ?r8
   case y8=>(intro w hSw;go_simp;(try with_reducible rfl))
   simp only[Act.put,List.getElem_toArray,List.getElem_cons_zero,List.getElem_cons_succ]
   refine wpAnyH_done (by kernel_rfl) ?_ _
   refine NoPanic.normal ?_
   clear hHeld2
   go_simp
   go_wp2_with fail
   go_ret2
   refine⟨⟨vr,?_,?_⟩,HB2.out⟩
   ·rw[HF2.out]
    rfl
   ·rw[HF2.out]
    simp only[List.length_map]
    exact HRR.out
 ·have hd:decide (0≤(aR ns es q budget).left)=false:=decide_eq_false hlf
  rw[hd]
  have HF:Hid (eK ns es q budget=([],6)):=hid (by rw[HFO.out,if_neg hlf])
  clear hd hlf HFO
  go_wp2_with fail
  go_ret2
  refine⟨⟨.slice none 0 0,?_,?_⟩,HB5.out⟩
  ·rw[HF.out]
   rfl
  ·rw[HF.out];exact World.ownsRow_nil _ _ _ _
end
end Go.Proofs.YtobgbmfpicmpcaaGreatDoor
