/- The program's 'add' lays one token behind those gathered; 'addWord' does so where the word is not too long. -/
import Derived.Test.YtobgbmfpicmpcaaGreatDoorC08
import Derived.Deep.QuietTactic
import Derived.BigQuiet
import Derived.Lib.QuietBelow
import Derived.Lib.Hide
set_option maxRecDepth 100000
set_option maxHeartbeats 8000000
namespace Go.Proofs.YtobgbmfpicmpcaaGreatDoor
open Go.Lib (hid)
section
open Go.RowKit Go.Sort
theorem clone (t:ByteArray) (w:World) (hlim:t.size≤281474976710656):Calls Tryz.prog 74 #[.string t] w fun e w'=>e=.returned (.string t)∧Below w.heap.size w w':=by
 go_enter Tryz.func74,Tryz.ntmps74
 go_wp2_with (go_at_call 148;refine(Tryz.stringslite_Clone t _ hlim).mono ?_;rintro e w' ⟨rfl,hb⟩)
 go_ret
 exact⟨rfl,hb⟩
theorem Cz {w:World} {B n:Nat} {v:Value} {xs:List Value} (h:w.ownsRow B 153 3 v (n+1) xs):∃g cap,v=.slice (some ⟨g,0,none⟩) (n+1) cap:=by
 rcases h.2 with ⟨_,h0⟩|⟨g,cap,cur,rfl,_⟩
 ·omega
 ·exact⟨g,cap,rfl⟩
theorem oK.grown {W w2:World} {b:Nat} {s:ByteArray} {f a:Int} {lv:Value} {o:Obj} {r:Option Nat} (h:oK W b s f a lv) (hg:(W.alloc o).grownBy w2 r) (hne:r≠some b):oK w2 b s f a lv:=by
 have h1:oK (W.alloc o) b s f a lv:=h.old ((Below.refl _ _).alloc (Nat.le_refl _) o)
 unfold oK;rw[hg.block b h1.lt (fun e=>hne e.symm)];exact h1
theorem Inv.Kw {w0 W w2:World} {b:Nat} {s:ByteArray} {f a:Int} {lv v':Value} {acc:List Tok} {kd vl:Int} {tx:ByteArray} {o:Obj} (hB:Below w0.heap.size w0 W) (hbge:w0.heap.size≤b) (hx:oK W b s f a lv)
  (hown:W.ownsRow w0.heap.size 153 3 lv acc.length (dy acc)) (hown':w2.ownsRow w0.heap.size 153 3 v' (acc.length+1) (dy acc++[.int .i64 kd,.string tx,.int .i64 vl])) (hg:(W.alloc o).grownBy w2 lv.ownBlock):
  Inv w0 b s f a (acc++[⟨kd,tx,vl⟩]) (w2.setCell ⟨b,3,none⟩ v'):=by
 have R:=Aw hB (Nat.le_refl _) hown hown' hg
 have hx2:=hx.grown hg (hx.ne hown)
 exact⟨R.1.setCell hbge _,hbge,v',hx2.I2 v',ownsRow_setCell_other R.2 (hx2.ne R.2) _⟩
theorem add {w0 W:World} {b:Nat} {s:ByteArray} {f a:Nat} {acc:List Tok} (kd vl:Int) (hinv:Inv w0 b s (f:Nat) (a:Nat) acc W) (hs:s.size≤2000) (hfa:f≤a) (ha:a≤s.size) (hal:acc.length≤2000):
  Calls Tryz.prog 216 #[.pointer (some ⟨b,0,none⟩),.int .i64 kd,.int .i64 vl] W fun e W'=>e=.returned (.tuple #[])∧Inv w0 b s (f:Nat) (a:Nat) (acc++[⟨kd,s.extract f a,vl⟩]) W':=by
 obtain⟨i0,hi,hz0,hz1,hz2⟩:=info_parts Tryz.JS
 have HI:Hid (Inv w0 b s (f:Nat) (a:Nat) acc W):=hinv
 obtain⟨lv,hx,ho⟩:=hinv.cut
 obtain⟨c0,c1,c2,c3⟩:=hx.cells
 have k0:=cell_regrown c0
 have k1:=cell_regrown c1
 have k2:=cell_regrown c2
 have hz:(s.extract f a).size≤281474976710656:=by rw[ij _ _ _ ha];omega
 have cC:∀d os,Calls Tryz.prog 74 #[.string (s.extract f a)] (grow (redrawn W d) os) fun e w''=>e=.returned (.string (s.extract f a))∧∃p:Regrown,w''=grow (redrawn W p.d) p.os:=fun d os=>Calls.regrown_of (clone _ _ hz)
 clear hinv hx ho c0 c1 c2 c3 hz
 go_enter Tryz.func216,Tryz.ntmps216
 go_wp2
 refine wp_region_quiet_below (by kernel_rfl) (by kernel_rfl) ?_
 repeat (quiet_step (exact cC _ _))
 refine wpQuiet_nil ?_
 intro W1 hw'
 have hI1:Inv w0 b s (f:Nat) (a:Nat) acc W1:=by
  obtain⟨⟨dq,osq⟩,rfl⟩:=hw'
  exact HI.out.old (below_regrown W dq osq)
 clear hw' cC k0 k1 k2 HI
 have hB1:=hI1.below
 have hsz:=hB1.size
 have HB:Hid (Below w0.heap.size w0 W1):=hB1
 have hbge:=hI1.JV
 obtain⟨lv,hx,ho⟩:=hI1.cut
 have HX:Hid (oK W1 b s (f:Nat) (a:Nat) lv):=hx
 obtain⟨c0,c1,c2,c3⟩:=hx.cells
 clear hB1 hI1 hx c0 c1 c2
 go_wp2_with (at_builtin;refine wpList_append_own _ rfl _ _ 71 rfl w0.heap.size 153 i0 (.agg #[.int .i64 0,.string ⟨#[]⟩,.int .i64 0]) 3 32 Tryz.underlying71 hi hz0 hz1 hz2 rfl (by decide) _ _ _ rfl (ho.alloc _) _ 1 1 [.int .i64 kd,.string (s.extract f a),.int .i64 vl] rfl rfl yO Dt (by unfold maxLen;omega) (by omega) (by simp;omega) ?_;intro v' w2 hown' hgrow _;have hx2:=HX.out.grown hgrow (HX.out.ne ho);have cc3:=hx2.cells.2.2.2;have ff3:=hx2.free 3;obtain⟨gg,gcap,hshape⟩:=Cz hown';subst hshape)
 go_end0
 exact⟨rfl,Inv.Kw HB.out hbge HX.out ho hown' hgrow⟩
end
section
open Go.RowKit Go.Maps
abbrev AN:=List (ByteArray × (aI→Bool))
def er (x:cU):ByteArray × (aI→Bool):=(x.1,x.2.2)
def kg (l:AN) (s:ByteArray):Bool:=jt s&&(bj (eZ s)==1)&&!(l.length==6)&&(l.find? (fun x=>x.1.toList==(eZ s).toList)).isNone
def BB:aI→Bool:=fun _=>false
def gS (l:AN) (s:ByteArray):Option AN:=
 if kg l s then some (l++[(eZ s,BB)])
 else match l.getLast? with
  | none=>none
  | some y=>if (ct s).2 then some (l.dropLast++[(y.1,iR y.2 (ct s).1)]) else none
def gQ (s:ByteArray):Option AN:=if s.size≤2000 then (gd s).foldlM gS [] else none
theorem nK (l:List cU) (s:ByteArray):kg (l.map er) s=kZ l s:=by
 unfold kg kZ jg
 rw[List.length_map,List.find?_map,Option.isNone_map]
 rfl
theorem z7 {l:List cU} {s:ByteArray} (h:kZ l s=true) (b:Nat):gS (l.map er) s=some ((l++[(eZ s,b,fun _=>false)]).map er):=by
 unfold gS
 rw[nK,if_pos h]
 simp[er];rfl
theorem yN {l:List cU} {y:cU} {s:ByteArray} (h:kZ (l++[y]) s=false) (hr:(ct s).2=true):gS ((l++[y]).map er) s=some ((l++[(y.1,y.2.1,iR y.2.2 (ct s).1)]).map er):=by
 unfold gS
 rw[nK,if_neg (by simp[h])]
 simp[er,hr]
theorem tG {l:List cU} {s:ByteArray} (h:kZ l s=false) (hr:(ct s).2=false∨l=[]):gS (l.map er) s=none:=by
 unfold gS
 rw[nK,if_neg (by simp[h])]
 rcases hr with hr|rfl
 ·cases (l.map er).getLast?<;>simp[hr]
 ·rfl
theorem CJ {l l':AN} {s:ByteArray} (h:gS l s=some l') (hl:l.length≤6):l'.length≤6:=by
 unfold gS at h
 split at h
 ·rename_i hr
  injection h with h
  subst h
  unfold kg at hr
  simp only[Bool.and_eq_true,Bool.not_eq_true',beq_eq_false_iff_ne] at hr
  have:=hr.1.2
  simp
  omega
 ·split at h
  ·cases h
  ·rename_i y hy
   split at h
   ·injection h with h
    subst h
    have:l≠[]:=by intro e;subst e;cases hy
    have:=List.length_pos_iff.2 this
    simp
    omega
   ·cases h
theorem bO.Jh {W0 w:World} {X n:Nat} {v:Value} {ls:List ByteArray} {a:Value} {T:TypeId} (h:bO W0 1 v n (ls.map Value.string)) (hx:Loc W0 X #[a] T) (ha:∀s,a≠.string s) (g:W0.grownBy w (some X)):bO w 1 v n (ls.map Value.string):=by
 obtain⟨h1,ao,cap,rfl,hc,h2⟩:=h
 refine⟨h1,ao,cap,rfl,hc,fun hn=>?_⟩
 obtain⟨b,o,rfl,hcell⟩:=h2 hn
 refine⟨b,o,rfl,fun j u hu=>?_⟩
 have hc1:=hcell j u hu
 have hb:=block_lt_of_cell hc1
 have hne:b≠X:=by
  intro e
  subst e
  rw[hx.cell] at hc1
  rw[List.getElem?_map] at hu
  cases hl:ls[j]? with
  | none=>rw[hl] at hu;cases hu
  | some t=>
   rw[hl] at hu
   injection hu with hu
   subst hu
   cases ho:o+j with
   | zero=>rw[ho] at hc1;simp at hc1;exact ha _ hc1
   | succ i=>rw[ho] at hc1;simp at hc1
 rw[←hc1]
 exact World.cell?_of_block (w:=W0) (g.block b hb (by intro e;injection e with e;exact hne e))
end
section
open Go.RowKit Go.Maps
theorem pg {α β:Type} {f:β→α→Option β} {l:List α} {k:Nat} (hk:k<l.length) {b0 b:β} (h:(l.take k).foldlM f b0=some b):(l.take (k+1)).foldlM f b0=f b l[k]:=by
 rw[List.take_add_one,List.foldlM_append,h,List.getElem?_eq_getElem hk]
 simp
theorem sN {α β:Type} {f:β→α→Option β} {l:List α} {k:Nat} (hk:k<l.length) {b0 b:β} (h:(l.take k).foldlM f b0=some b) (hn:f b l[k]=none):l.foldlM f b0=none:=by
 have h1:=pg hk h
 rw[hn] at h1
 have h2:(l.take (k+1)++l.drop (k+1)).foldlM f b0=none:=by rw[List.foldlM_append,h1];rfl
 rwa [List.take_append_drop] at h2
theorem fq.more {W0 W:World} {X m m':Nat} {l:List cU} (h:fq W0 X l m W) (hm:m≤m'):fq W0 X l m' W:=
 ⟨h.list,fun x hx=>(h.right x hx).more hm,h.apart,h.low,h.frame⟩
theorem fq.aside {W0 W:World} {X R m:Nat} {l:List cU} {a b:Value} (h:fq W0 X l m W) (hr:Loc W0 R #[a] 122) (_hx:Loc W0 X #[b] 122) (u:Value) (hne:R≠X:=by simp):fq (W0.setCell ⟨R,0,none⟩ u) X l m (W.setCell ⟨R,0,none⟩ u):=by
 obtain⟨v,hx,ho⟩:=h.list
 have hr':Loc W R #[a] 122:=hr.grown h.frame (by intro e;injection e with e;exact hne e)
 have hsz:(W0.setCell ⟨R,0,none⟩ u).heap.size=W0.heap.size:=by simp
 refine⟨⟨v,hx.setOther (Ne.symm hne) 0 u,?_⟩,fun x hxl=>(h.right x hxl).kept (aC W R 0 u) (by intro e;injection e with e;exact(h.right x hxl).aV hr' e),h.apart,fun x hxl=>by rw[hsz];exact h.low x hxl,?_⟩
 ·rw[hsz]
  exact ho.kept (aC W R 0 u) (Or.inr (fun e=>aQ ho hr' (by decide) e))
 ·have g:=h.frame
  refine⟨g.os,g.tape,g.output,by simpa using g.size,fun k hk hkx=>?_⟩
  rw[hsz] at hk
  by_cases e:k=R
  ·subst e
   rw[hr.set 0 u,hr'.set 0 u]
  ·rw[Below.heap_setCell _ _ _ _ e,Below.heap_setCell _ _ _ _ e]
   exact g.block k hk hkx
def qo (W:World) (s:ByteArray) (e:Ending) (W':World):Prop:=
 (gQ s=none∧e=.returned (.tuple #[.agg #[.slice none 0 0],.bool false]))∨
 ∃ls l W0 X v m,gQ s=some ls∧l.map er=ls∧l.length≤6∧m≤2001∧W.heap.size≤W0.heap.size∧fq W0 X l m W'∧Loc W' X #[v] 122∧e=.returned (.tuple #[.agg #[v],.bool true])
theorem C6 {s:ByteArray} {W:World} (hs:¬s.size≤2000):
  Calls Tryz.prog 119 #[.string s] W fun e W'=>qo W s e W'∧Below W.heap.size W W':=by
 have hi:(2000:Int)<(s.size:Int):=by omega
 have HP:Hid (gQ s=none):=hid (by unfold gQ;rw[if_neg hs])
 have HB:=hid ((Below.refl W.heap.size W).alloc (Nat.le_refl _) (.cells #[.slice none 0 0] 122))
 clear hs
 go_enter Tryz.func119,Tryz.ntmps119
 go_wp2_with fail
 refine bodyPost_ret (v:=.tuple #[.agg #[.slice none 0 0],.bool false]) ?_ rfl ⟨Or.inl ⟨HP.out,rfl⟩,HB.out⟩
 simp[results,Tryz.results119,go_sem]
theorem Aq {s:ByteArray} {W:World} {mx:Int} (hs:s.size≤2000) (hm:W.cell? ⟨1,0,none⟩=some (.int .i64 mx)):
  Calls Tryz.prog 119 #[.string s] W fun e W'=>qo W s e W'∧Below W.heap.size W W':=by
 have hi:¬(2000:Int)<(s.size:Int):=by omega
 have HS:=hid hs
 have HM:=hid hm
 have HP:Hid (gQ s=(gd s).foldlM gS []):=hid (by unfold gQ;rw[if_pos hs])
 have HR1:=hid (Loc.new W #[.slice none 0 0] 122)
 have HB1:=hid ((Below.refl W.heap.size W).alloc (Nat.le_refl _) (.cells #[.slice none 0 0] 122))
 have HR2:=hid (HR1.out.alloc (.cells #[.slice none 0 0] 122))
 have HX2:=hid (Loc.new (W.alloc (.cells #[.slice none 0 0] 122)) #[.slice none 0 0] 122)
 have HB2:=hid (HB1.out.alloc HB1.out.size (.cells #[.slice none 0 0] 122))
 clear hs hm HR1 HB1
 go_enter Tryz.func119,Tryz.ntmps119
 go_upto_region 4 with fail
 obtain⟨R,hR⟩:∃R,R=W.heap.size:=⟨_,rfl⟩
 have e1:(W.alloc (.cells #[.slice none 0 0] 122)).heap.size=R+1:=by rw[hR];simp
 rw[e1] at HX2
 rw[←hR] at HR2⊢
 have HRW:=hid hR
 clear hR e1
 generalize (W.alloc (.cells #[.slice none 0 0] 122)).alloc (.cells #[.slice none 0 0] 122)=W2 at HR2 HX2 HB2⊢
 go_wp2_with fail
 refine(clone s W2 (by have:=HS.out;omega)).mono ?_
 rintro e W3 ⟨rfl,hb⟩
 have HR3:=hid (HR2.out.grown (af hb none) (by simp))
 have HX3:=hid (HX2.out.grown (af hb none) (by simp))
 have HB3:=hid (HB2.out.trans (hb.mono HB2.out.size))
 clear hb HR2 HX2 HB2
 go_wp2_with fail
 refine(Fk HS.out ((HB3.out.cell (block_lt_of_cell HM.out)).trans HM.out)).mono ?_
 rintro e W4 ⟨ao,cap,rfl,hsee,hb⟩
 have HR4:=hid (HR3.out.grown (af hb none) (by simp))
 have HX4:=hid (HX3.out.grown (af hb none) (by simp))
 have HB4:=hid (HB3.out.trans (hb.mono HB3.out.size))
 have HL:=hid hsee
 have HM4:=hid ((HB4.out.cell (block_lt_of_cell HM.out)).trans HM.out)
 have H1X:Hid (1<R):=hid (by rw[HRW.out];exact block_lt_of_cell HM.out)
 have HSZ:=hid (fun x (hx:x∈gd s)=>Nat.le_trans (zM hx) HS.out)
 have HLN:=hid (Dw HS.out)
 have HP0:Hid (fq W4 (R+1) [] 0 W4):=hid ⟨⟨_,HX4.out,⟨rfl,Or.inl ⟨rfl,rfl⟩⟩⟩,by simp,by simp,by simp,⟨rfl,rfl,rfl,Nat.le_refl _,fun _ _ _=>rfl⟩⟩
 clear hb hsee HR3 HX3 HB3
 generalize gd s=ls at HL HP HSZ HLN⊢
 go_wp2_with fail
 go_loopg [15] ls.length (fun n iv w=>∃(k:Nat) (l:List cU),iv=.int .i64 (k:Int)∧k+n=ls.length∧(ls.take k).foldlM gS []=some (l.map er)∧l.length≤6∧fq W4 (R+1) l k w)
 case atStart=>exact⟨0,[],rfl,by omega,rfl,by simp,HP0.out⟩
 case round=>
  obtain⟨k,l,rfl,hk,hf,h6,hp⟩:=hrel
  have HF:=hid hf
  have H:=hid hp
  have H6:=hid h6
  clear hf hp h6 HP0
  have HS1:=hid (HL.out.Jh HX4.out (by intro s;simp) H.out.frame)
  have hln:=HLN.out
  by_cases hlt:k<ls.length
  ·have HS2:Hid (bO wr 1 (.slice ao ls.length cap) ls.length (ls.flatMap fun x=>[Value.string x])):=hid (by rw[←List.map_eq_flatMap];exact HS1.out)
   obtain⟨g,o,rfl,hcell⟩:=bY (l:=ls) (fun x=>[Value.string x]) (fun _=>rfl) HS2.out hlt
   obtain⟨y,hy⟩:∃y,ls[k]=y:=⟨_,rfl⟩
   have HY:=hid hy
   have HYS:Hid (y.size≤2000):=hid (HSZ.out y (by rw[←hy];exact List.getElem_mem hlt))
   rw[hy] at hcell
   have p0:wr.cell? ⟨g,o+k,none⟩=some (.string y):=by simpa using hcell 0 (by decide)
   have hki:(k:Int)<(ls.length:Int):=by omega
   clear hcell hy HS1 HS2
   cases hr:kZ l y with
   | true=>
    have HRO:=hid hr
    clear hr
    go_wp2_with fail
    refine(Bb H.out H6.out HRO.out).mono ?_
    rintro e W5 ⟨rfl,b,h5⟩
    have H5:=hid h5
    clear h5 p0
    go_wp2_with fail
    go_roundg (gk - 1)
    case rel=>
     have e:=z7 HRO.out b
     refine⟨k+1,_,by simp,by omega,?_,?_,H5.out.more (Nat.le_succ k)⟩
     ·rw[pg hlt HF.out,HY.out];exact e
     ·have:=CJ e (by simpa using H6.out)
      simpa using this
    case measure=>omega
   | false=>
    have HRO:=hid hr
    clear hr
    go_wp2_with fail
    refine(Dc H.out H6.out HRO.out).mono ?_
    rintro e W5 ⟨rfl,h5⟩
    have H5:=hid h5
    have HM5:=hid (show W5.cell? ⟨1,0,none⟩=some (.int .i64 mx) from (World.cell?_of_block (w:=W4) (h5.frame.block 1 (block_lt_of_cell HM4.out) (by intro e;injection e with e;have:=H1X.out;omega))).trans HM4.out)
    clear h5 p0
    cases hok:(ct y).2 with
    | false=>
     have HOK:=hid hok
     clear hok
     go_wp2_with fail
     refine(sw H5.out HYS.out HM5.out (Or.inl HOK.out)).mono ?_
     rintro e W6 ⟨rfl,h6⟩
     have H6':=hid h6
     clear h6
     have HR5:=hid (HR4.out.grown H6'.out.frame (by simp))
     have r0:=HR5.out.at_ 0 (.slice none 0 0) rfl
     have fr0:=HR5.out.free 0
     have HE:Hid (gQ s=none):=hid (by rw[HP.out];exact sN hlt HF.out (by rw[HY.out];exact tG HRO.out (Or.inl HOK.out)))
     go_wp2_with fail
     have HR6:=hid (HR5.out.set 0 (.slice none 0 0))
     have HB6:=hid ((HB4.out.grown H6'.out.frame HB4.out.size (fun j hj=>by injection hj with hj;rw[←hj,HRW.out];exact Nat.le_succ _)).setCell (p:=⟨R,0,none⟩) (by rw[HRW.out];exact Nat.le_refl _) (.slice none 0 0))
     clear r0 fr0 HR5 H6'
     generalize W6.setCell ⟨R,0,none⟩ (.slice none 0 0)=W7 at HR6 HB6⊢
     have r0:=HR6.out.at_ 0 (.slice none 0 0) rfl
     refine bodyPost_ret (v:=.tuple #[.agg #[.slice none 0 0],.bool false]) ?_ rfl ⟨Or.inl ⟨HE.out,rfl⟩,HB6.out⟩
     simp[results,Tryz.results119,go_sem,r0]
    | true=>
     have HOK:=hid hok
     clear hok
     rcases List.eq_nil_or_concat l with hnil|⟨l',z,hcat⟩
     ·have HNIL:=hid hnil
      clear hnil
      go_wp2_with fail
      refine(sw H5.out HYS.out HM5.out (Or.inr HNIL.out)).mono ?_
      rintro e W6 ⟨rfl,h6⟩
      have H6':=hid h6
      clear h6
      have HR5:=hid (HR4.out.grown H6'.out.frame (by simp))
      have r0:=HR5.out.at_ 0 (.slice none 0 0) rfl
      have fr0:=HR5.out.free 0
      have HE:Hid (gQ s=none):=hid (by rw[HP.out];exact sN hlt HF.out (by rw[HY.out];exact tG HRO.out (Or.inr HNIL.out)))
      go_wp2_with fail
      have HR6:=hid (HR5.out.set 0 (.slice none 0 0))
      have HB6:=hid ((HB4.out.grown H6'.out.frame HB4.out.size (fun j hj=>by injection hj with hj;rw[←hj,HRW.out];exact Nat.le_succ _)).setCell (p:=⟨R,0,none⟩) (by rw[HRW.out];exact Nat.le_refl _) (.slice none 0 0))
      clear r0 fr0 HR5 H6'
      generalize W6.setCell ⟨R,0,none⟩ (.slice none 0 0)=W7 at HR6 HB6⊢
      have r0:=HR6.out.at_ 0 (.slice none 0 0) rfl
      refine bodyPost_ret (v:=.tuple #[.agg #[.slice none 0 0],.bool false]) ?_ rfl ⟨Or.inl ⟨HE.out,rfl⟩,HB6.out⟩
      simp[results,Tryz.results119,go_sem,r0]
     ·rw[List.concat_eq_append] at hcat
      subst hcat
      have HLL:Hid (l'.length<6):=hid (by have:=H6.out;simp at this;omega)
      have HKM:Hid (k<maxLen):=hid (by have:=HLN.out;unfold maxLen;omega)
      go_wp2_with fail
      refine(xw H5.out HLL.out HKM.out HYS.out HM5.out HOK.out).mono ?_
      rintro e W6 ⟨rfl,h6⟩
      have H6':=hid h6
      clear h6
      go_wp2_with fail
      go_roundg (gk - 1)
      case rel=>
       have e:=yN HRO.out HOK.out
       refine⟨k+1,_,by simp,by omega,?_,?_,H6'.out⟩
       ·rw[pg hlt HF.out,HY.out];exact e
       ·have:=HLL.out
        simp
        omega
      case measure=>omega
  ·have hki:¬(k:Int)<(ls.length:Int):=by omega
   have HR5:=hid (HR4.out.grown H.out.frame (by simp))
   obtain⟨v,hx,ho⟩:=H.out.list
   obtain⟨av,cv,rfl,_⟩:=eI (aP ho ho.1)
   have HX5:=hid hx
   have r0:=HR5.out.at_ 0 (.slice none 0 0) rfl
   have fr0:=HR5.out.free 0
   have x0:wr.cell? ⟨R+1,0,none⟩=some (.slice av l.length cv):=(hx.cell 0).trans rfl
   have HE:Hid (gQ s=some (l.map er)):=hid (by rw[HP.out];have:=HF.out;rwa [List.take_of_length_le (by omega)] at this)
   have HKN:Hid (k≤2001):=hid (by have:=HLN.out;omega)
   clear hx ho
   go_wp2_with fail
   have HR6:=hid (HR5.out.set 0 (.slice av l.length cv))
   have HX6:=hid (HX5.out.setOther (b':=R) (by simp) 0 (.slice av l.length cv))
   have HB6:=hid ((HB4.out.grown H.out.frame HB4.out.size (fun j hj=>by injection hj with hj;rw[←hj,HRW.out];exact Nat.le_succ _)).setCell (p:=⟨R,0,none⟩) (by rw[HRW.out];exact Nat.le_refl _) (.slice av l.length cv))
   have HP6:=hid (fq.aside H.out HR4.out HX4.out (.slice av l.length cv))
   clear r0 fr0 x0 HR5 HX5 H
   generalize wr.setCell ⟨R,0,none⟩ (.slice av l.length cv)=W7 at HR6 HB6 HX6 HP6⊢
   have r0:=HR6.out.at_ 0 (.slice av l.length cv) rfl
   refine bodyPost_ret (v:=.tuple #[.agg #[.slice av l.length cv],.bool true]) ?_ rfl ⟨Or.inr ⟨_,l,W4.setCell ⟨R,0,none⟩ (.slice av l.length cv),R+1,_,k,HE.out,rfl,H6.out,HKN.out,?_,HP6.out,HX6.out,rfl⟩,HB6.out⟩
   ·simp[results,Tryz.results119,go_sem,r0]
   ·have:=HB4.out.size
    simpa using this
theorem xG {s:ByteArray} {W:World} {mx:Int} (hm:W.cell? ⟨1,0,none⟩=some (.int .i64 mx)):
  Calls Tryz.prog 119 #[.string s] W fun e W'=>qo W s e W'∧Below W.heap.size W W':=by
 by_cases hs:s.size≤2000
 ·exact Aq hs hm
 ·exact C6 hs
end
end Go.Proofs.YtobgbmfpicmpcaaGreatDoor
