/- The law Asks is proved, where all that is handed in is of bulk at most 1048576 (every value and every letter counted): the two policies, and the script of reads, makes and dumps: the program answers each step as the reference does, and all lists that came out read as their owner left them; the package variables that the row lists are tied to the program's own text by the given tie. -/
import Derived.Test.YtbfmmmjkjhjleaaGreatDoorD01
import Derived.Test.YtbfmmmjkjhjleaaGreatDoorTie
import Derived.Test.YtbfmmmjkjhjleaaGreatDoorD02
import Derived.Test.YtbfmmmjkjhjleaaGreatDoorD03
import Derived.LaidMore
import Derived.Lay
import Derived.Stop.LaidErr
import Derived.Deep.DeepWitnessRowRef
set_option maxRecDepth 100000
set_option maxHeartbeats 0
namespace Go.Proofs.YtbfmmmjkjhjleaaGreatDoor
open Go.Proofs.Tryz
variable {W:World} {H:Type}
section
open Go.ChangeShapes Go.WideShapes Go.ChangeAt Go.RowKit
open Go.ChangeMaps (open_string shut_string)
theorem Tryz.own:ownKnob prog.godebug=none:=by kernel_rfl
theorem mi : prog.globalNamed "strconv.ErrRange" = some 7 := by kernel_rfl
theorem ki:(prog.globals[7]?).map (·.type)=some 254:=by kernel_rfl
theorem nA:prog.cellsOf 411=1:=by kernel_rfl
theorem ob:prog.cellsOf 9=1:=by kernel_rfl
theorem star : "*" ++ "errors.errorString" = "*errors.errorString" := by decide
theorem p8(u : TypeId)(h : prog.typeName? 3 u = some "*errors.errorString") : u = 409 :=
 typeName_ptr_named (nm := "errors.errorString") (by rw [star]; kernel_rfl) (by kernel_rfl) (by decide) u (by rw [star]; exact h)
theorem mg:(prog.globals[0]?).map (·.type)=some 364:=by kernel_rfl
theorem mn:prog.underlying 364=some (.array 20 277):=by kernel_rfl
theorem lS:prog.underlying 277=some (.int .u64):=by kernel_rfl
theorem lI:prog.cellsOf 277=1:=by kernel_rfl
theorem lP:prog.cellsOf 364=20:=by kernel_rfl
theorem np:(Rows.laid_internal_strconv_uint64pow10:DataW Unit)=Lib.tabData .u64 Lib.pow10Tab:=by rfl
theorem l6(h:laidMetH prog Rows.asksUptoRow.laid W):∃ev,W.cell? ⟨7,0,none⟩=some ev/\(ev=.nilIface\/∃te pe,ev=.iface te pe):=by
 have h1 := laidMetH.filter (fun x => x.1 == "strconv.ErrRange") h;have e : (Rows.asksUptoRow.laid.filter fun x => x.1 == "strconv.ErrRange") = [("strconv.ErrRange", Rows.laid_strconv_ErrRange)] := by kernel_rfl
 rw[e] at h1;rw[MakeChecks.laidMetH_plain _ _ _ (by kernel_rfl)] at h1;obtain⟨a0,s0,a,-,-,-⟩:=laid_sentinel h1 mi ki underlying254 p8 underlying409 underlying411 rfl rfl underlying9 nA ob;exact⟨_,by have b:=World.var?_cell mi a 0;simpa using b,a6 ⟨_,_,rfl⟩⟩
theorem pp(h:laidMetH prog Rows.asksUptoRow.laid W):Fa W:=by
 have h1 := laidMetH.filter (fun x => x.1 == "internal/strconv.uint64pow10") h;have e : (Rows.asksUptoRow.laid.filter fun x => x.1 == "internal/strconv.uint64pow10") = [("internal/strconv.uint64pow10", Rows.laid_internal_strconv_uint64pow10)] := by kernel_rfl
 rw[e] at h1;rw[MakeChecks.laidMetH_plain _ _ _ (by kernel_rfl)] at h1;rw[np] at h1;exact Lib.tabIs_of_head TI mg mn lS lI lP h1
theorem p7(h:W.ShapedOpen prog):∃mx,W.cell? ⟨1,0,none⟩=some (.int .i64 mx):=by
 obtain⟨cs,i,l,k⟩:=h.1 1 #[.int .i64 0] 3 (vH (Nat.lt_succ_self 1) (Rf (by kernel_rfl))) (by kernel_rfl);obtain⟨o,d,_,c⟩:=k (by kernel_rfl);have g:prog.cellTypes prog.depth 3=some [3]:=by kernel_rfl
 rw[g] at d;cases d
 have h1:0<cs.size:=by rw[l];decide
 obtain⟨u,f,a⟩:=c 0 cs[0] (by simp[h1]);have e:u=3:=by simpa using f.symm
 subst e;have b:W.cell? ⟨1,0,none⟩=some cs[0]:=by simp[World.cell?,i,h1]
 rw[b];unfold Cell.ok at a;rw[underlying3] at a;cases m:cs[0]<;>rw[m] at a<;>first|(simp at a;done)|skip
 rename_i q n;have j:q=.i64:=(show q=.i64/\_ by simpa using a).1;subst j;exact⟨n,rfl⟩
theorem lC{a:TypeId × Value->H}{P:Program}{w:World}{base:Nat}{spare:Nat->Bool}{held:Bool}{t0 t1 t2:TypeId}{args:Array Value}{g:List (DataW H)}{i:List MemPlace}(h:DataW.TrodAll a P w base spare held [t0,t1,t2] args.toList g i):
  ∃v0 v1 v2 d0 d1 d2 p0 p1 p2,args=#[v0,v1,v2]/\g=[d0,d1,d2]/\i=p0++(p1++(p2++[]))/\DataW.Trod a P w base spare held t0 v0 d0 p0/\DataW.Trod a P w base spare held t1 v1 d1 p1/\DataW.Trod a P w base spare held t2 v2 d2 p2:=by
 obtain⟨v0,o,d0,j,p0,q0,b,rfl,rfl,m,c⟩:=trodAll_cons h;obtain⟨v1,p,d1,k,p1,r,rfl,rfl,rfl,h1,d⟩:=trodAll_cons c;obtain⟨v2,q,d2,l,p2,s,rfl,rfl,rfl,n,f⟩:=trodAll_cons d;obtain⟨rfl,rfl,rfl⟩:=trodAll_nil f;exact⟨v0,v1,v2,d0,d1,d2,p0,p1,p2,by cases args;simp_all,rfl,rfl,m,h1,n⟩
theorem dT:prog.readableRec 22=true:=by kernel_rfl
theorem pt:22<prog.types.size:=vH (Nat.lt_succ_self _) (Rf (by kernel_rfl))
theorem mC{a b d:DataW H}(h:Rows.uptoSmall H ([a,b,d]++[])=true):Rows.uptoBulk d<=1048576:=by
 have h1:=of_decide_eq_true h;have e:Rows.uptoBulkAll ([a,b,d]++[])=Rows.uptoBulk a+(Rows.uptoBulk b+(Rows.uptoBulk d+0)):=by simp only[x8,Rows.uptoBulkAll]
 rw[e] at h1;omega
theorem iK(os:Os)(a:TypeId × Value->H):∃places,DataW.whole a prog ((World.laidAll prog os Rows.asksUptoRow.laid).forCall (fun _ _=>0) ⟨#[],#[.string ⟨#[]⟩,.string ⟨#[]⟩,.slice none 0 0],[]⟩).memory Tryz.f3.params.toList (Rows.OpenSpec.upto Rows.asksSpec).vars false #[Value.string ⟨#[]⟩,.string ⟨#[]⟩,.slice none 0 0].toList 8=some ([.lit (.string []),.lit (.string []),.nil],[],places):=
 ⟨[],by kernel_rfl⟩
theorem ms(H:Type)(f:TypeId × Value->H)(W:World)(base:Nat)(args:Array Value)(z gs:List (DataW H))(before:List MemPlace)
  (d:∀(j:Nat) t v,Tryz.f3.params[j]?=some t->args[j]?=some v->Value.okWide prog W .any base t v)
  (C:DataW.Whole f prog Tryz.f3.params.toList Rows.asksSpec.vars false W args.toList z gs before) (g:Rows.uptoSmall H (z++gs)=true) (O:laidMetH prog Rows.asksUptoRow.laid W) (I:W.ShapedOpen prog):
  Calls prog 3 args W fun e W'=>∃v,e=.returned v/\Rows.asksSpec.post f prog Tryz.f3 false true false false W args v W':=by
 have c:∀(j:Nat) t v,Tryz.f3.params[j]?=some t->args[j]?=some v->Value.okWide prog W .any base t v:=d;have r:=C;have m:=C.lt;obtain⟨p,qq,q,S,rfl,_,_⟩:=C;have N:DataW.TrodAll f prog W 0 (fun _=>true) true Tryz.f3.params.toList args.toList z p:=q;rw[params3] at N c;obtain⟨v0,v1,v2,d0,d1,d2,Z,p1,V,rfl,rfl,rfl,R,h1,M⟩:=lC N;obtain⟨rfl,rfl⟩:=trodVars_none S;obtain⟨one,rfl,rfl,rfl,s⟩:=open_string underlying9 (c 0 9 v0 rfl rfl) R;obtain⟨two,rfl,rfl,rfl,u⟩:=open_string underlying9 (c 1 9 v1 rfl rfl) h1;have A:=M;obtain⟨L,F⟩:=M;obtain⟨l,X,K,w,D⟩:=R8 TM (k:=6) (fun _=>rfl) (by decide) (fun t=>nY t.kind/\nY t.budget/\t.text.size<=maxLen) underlying22 Tryz.lu (fun n cs y hy=>ni hy) F;obtain⟨i,hlen⟩:=D (mC g);obtain⟨ao,cp,rfl,-⟩:∃ao cp,X=.slice ao l.length cp/\l.length<=cp:=by
  obtain⟨_,a2,c2,Q,B,_⟩:=w;exact⟨a2,c2,Q,B⟩
 have J:v2=.slice ao l.length cp:=by
  have a:=c 2 22 v2 rfl rfl;unfold Value.okWide at a;rw[underlying22] at a;unfold Cell.okWide at a;rw[underlying22] at a;cases v2<;>first|(unfold Cell.ok at a;rw[underlying22] at a;simp at a;done)|skip
  have B:[Value.slice _ _ _]=[Value.slice ao l.length cp]:=K;injection B
 subst J;obtain⟨ev,T,E⟩:=l6 O;have U:=pp O;obtain⟨Y,G⟩:=p7 I;clear q d;simp only[x8,tV] at r m;refine(asks w (by omega) i s u G U T E).mono fun e W' ⟨he,hnx⟩=>?_;subst he;refine⟨_,rfl,_,_,_,[],[]++([]++V),[],r,?_,?_,rfl,hnx.frame _,fun h=>by cases h⟩
 ·exact trodAll_mk1 (shut_bool underlying4 _)
 ·refine trodAll_cons_mk (shut_string underlying9 s) (trodAll_cons_mk (shut_string underlying9 u) (trodAll_mk1 (WideElems.Trod_stays aT dT pt A (fun x hx=>?_) (fun x hx=>?_))))
  ·have P:=m x (by simp[hx]);cases x with
   | cell b o=>exact hnx.cell P
   | map b=>exact hnx.block b P
  ·simpa using m x (by simp[hx])
theorem jB(os:Os)(started:os.Started)(H:Type)(a:TypeId × Value->H)(F:Stop.Interp):
  ReturnsInHanded {} Tryz.checked os 3 .any ((Rows.OpenSpec.upto Rows.asksSpec).preRow a prog Tryz.f3 Rows.asksUptoRow.domain false Rows.asksUptoRow.laid) (((Rows.OpenSpec.upto Rows.asksSpec).at F).post a prog Tryz.f3 false true false false):=by
 obtain⟨places,j⟩:=iK os a;have c:Input.okWideB prog ((World.laidAll prog os Rows.asksUptoRow.laid).forCall (fun _ _=>0) ⟨#[],#[.string ⟨#[]⟩,.string ⟨#[]⟩,.slice none 0 0],[]⟩) 3 ⟨#[],#[.string ⟨#[]⟩,.string ⟨#[]⟩,.slice none 0 0],[]⟩=true:=by kernel_rfl
 refine returnsInHanded_of_row (C:=Tryz.checked) (s:=Rows.OpenSpec.upto Rows.asksSpec) Tryz.own started (by kernel_rfl) func3
  ⟨World.laidAll prog os Rows.asksUptoRow.laid,fun _ _=>0,⟨#[],#[.string ⟨#[]⟩,.string ⟨#[]⟩,.slice none 0 0],[]⟩,World.laidAll_os _ _ _,World.shaped_of_ZipB (by kernel_rfl) (by kernel_rfl),(Input.okWide_of_okWideB (base:=0) c).1,(Input.okWide_of_okWideB c).2,
   OpenSpec.preRow_of_cond 8 j (by kernel_rfl) (fun k hk=>by cases hk;kernel_rfl) (by kernel_rfl) (by rw[MakeChecks.laidMetH_plain _ _ _ (by kernel_rfl)];exact laidMet_laidAll _ (by kernel_rfl) (by kernel_rfl)),by
    simp only[Assume.holds];exact⟨by simp,by simp,fun _=>Modest.zero,by simp,by simp⟩⟩ ?_
 intro W base args g gs before d i _ b _ h f _;exact ms H a W base args g gs before d i (b _ rfl) h f
theorem aa{a b:Bool}(h1:a=true)(c:b=true):(a&&b)=true:=by rw[h1,c];rfl
theorem ba:joinedFacts prog 3 Tryz.f3 Rows.asksSpec Rows.asksUptoRow=true:=by
 unfold joinedFacts;exact aa (aa (aa (aa (aa (aa (aa (aa (aa (aa (aa (aa (aa (aa (aa (aa (aa (aa (aa (aa (aa (aa (aa (aa (aa (aa (aa (aa (aa (aa (aa js aT) lp) jA) jc) jn) ji) kA) ll) cN) dp) fY) gf) fP) cM) b9) cz) cr) fe) ep) gu) dc) cT) cX) cR) di) gr) iB) fy) gi) ei) cY
theorem au:Rows.AsksUptoSaid:=
 OpenClaim.holds_of_cond 3 Tryz.f3 rfl rfl rfl rfl rfl rfl rfl ⟨rfl,rfl,rfl,rfl,rfl⟩ rfl rfl rfl rfl rfl ab func3 ba bc b7
  (fun os started H enc _ F=>by rw[OpenClaim.pre_eq_preRow];exact jB os started H enc F)
theorem aA:prog.wantsStandIn 9=false:=by kernel_rfl
theorem lz:prog.wantsStandIn 22=false:=by kernel_rfl
theorem asks_holds:Rows.AsksUptoCardSaid:=
 Claim7.holds_tied_plain_at .later [] [.data, .data, .data, .data, .sentinel, .sentinel, .pinned] true (true, "a2df120106079dd1fe052ac2e50e21ff4e503d25b43374a951c4f1b240ff3663") true
  au (fun _ h=>by cases h) ka (fun _ h=>by cases h) asksUpto_row_tie rfl ⟨rfl,rfl⟩ b6 rfl
  (fun f fn hf hfn=>by
   obtain rfl:f=3:=Bm (ab.symm.trans hf) |>.symm
   obtain rfl:fn=Tryz.f3:=(Bm (func3.symm.trans hfn)).symm;exact⟨bb,fun j t ht=>by
    rw[params3] at ht;have hm:t∈[9,9,22]:=by simpa using Array.mem_of_getElem? ht
    simp only[List.mem_cons,List.not_mem_nil,or_false] at hm;rcases hm with rfl|rfl|rfl
    ·exact aA
    ·exact aA
    ·exact lz⟩)
  b8
#print axioms asks_holds
end
end Go.Proofs.YtbfmmmjkjhjleaaGreatDoor
