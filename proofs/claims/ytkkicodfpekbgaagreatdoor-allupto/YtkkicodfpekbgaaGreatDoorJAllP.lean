/-
Proved: for every script (a list of steps: Check, Decode, Encode, ReadCard, WriteCard with whatever arguments) that can be read as data and that holds together at most 1048576 values and letters, hallmarklaw.All answers true and leaves its argument as it was: each step answers what the document's answer is, leaves its arguments as they were, and every list that came out stays the caller's own through all later steps; its condition: the package's errors and tables lie as the program's text lays them (tied to that text; the table of unicode/utf8 by the form's constant).
-/
import Derived.Test.YtkkicodfpekbgaaGreatDoorJl0
import Derived.Test.YtkkicodfpekbgaaGreatDoorJAllQ
import Derived.Deep.DeepHandedRow
open Go.Obj renaming cells->C
open Option renaming some->U,none->Z
open Go renaming World->M,Calls->Cs,Value->Vv
open _root_ renaming List->Ls
set_option linter.all false
set_option maxRecDepth 100000
set_option maxHeartbeats 8000000
namespace Go.Proofs.YtkkicodfpekbgaaGreatDoor
open Go.ChangeShapes Go.WideShapes Go.ChangeAt Go.WideMaps Go.WideElems Go.RowKit
theorem ab9(ah:Type)(jM:TypeId×Vv->ah)(W:M)(base:Nat)(args:Array Vv)(ds gs:Ls (DataW ah))(before:Ls MemPlace)(AU:∀(j:Nat) t v,Tryz.f12.params[j]? =U t->args[j]? =U v->Value.okWide Tryz.prog W .any base t v)(hW:DataW.Whole jM Tryz.prog Tryz.f12.params.toList Rows.allSpec.vars false W args.toList ds gs before)(hk:Rows.uptoSmall ah (ds++gs)=true)(AV:(DataW.weightsEach Tryz.prog (Tryz.f12.params.toList++Rows.allSpec.plain.varTypes Tryz.prog) (ds++gs)).all (· <=reachBytes)=true)(hL:laidMetH Tryz.prog Ih W):Cs Tryz.prog 12 args W fun e W'=>∃v,e= .returned v/\Rows.allSpec.post jM Tryz.prog Tryz.f12 false true false false W args v W':=by
 have hW':=hW;have aA:=hW.lt;obtain⟨p,q,VJ,hV,rfl,CQ,C1⟩:=hW;have hA:DataW.TrodAll jM Tryz.prog W 0 (fun _=>true) true Tryz.f12.params.toList args.toList ds p:=VJ;rw[Tryz.params12]at hA AU AV;obtain⟨v0,vs0,d0,ds0,p0,q0,aeb,rfl,rfl,h0,r0⟩:=trodAll_cons hA;obtain⟨rfl,rfl,rfl⟩:=trodAll_nil r0;obtain⟨rfl,rfl⟩:=trodVars_none hV;obtain rfl:args=#[v0]:=by rw[<-Array.toArray_toList (xs:=args),aeb]
 obtain⟨a0,l0,c0,e0⟩:=okWide_slice Tryz.underlying79 (AU 0 79 v0 X X);subst e0;have nP:=h0;obtain⟨ajK,g0⟩:=nP;obtain⟨a,n,c,ed,hd⟩:=agX g0;obtain⟨rfl,rfl,rfl⟩:a0=a/\l0=n/\c0=c:=by simpa [Value.cells]using ed
 obtain⟨sn,za,hl,hz,i7⟩:=af3 hL;have hb:=Bj hk;have bO:=Nq (d:=d0) (l:=[d0]++[]) Sq;obtain⟨hs,hn⟩:=hd (by show Rows.uptoBulk d0<=_;omega) fun n hn=>by have h3:=List.all_eq_true.1 AV n (by simp[DataW.weightsEach,hn]);have h4:n<=reachBytes:=Bj h3;unfold reachBytes at h4;omega
 clear VJ g0;refine(ab7 a0 l0 c0 W sn za hl hz i7 hs hn).mono fun e W' ⟨he,hb⟩=>?_;subst he;refine⟨_,X,_,_,_,[],p0++[],[],hW',?_,?_,?_,hb.frame _,fun h=>by cases h⟩;·exact trodAll_mk1 (shut_bool Tryz.underlying4 true)
 ·exact trodAll_cons_mk (Below.trod abA Kr (Bj Kr) h0 hb (fun y hy=>aA y (by simp[hy]))) trodAll_mk0
 rfl
theorem acb(os:Os){ah:Type}(jM:TypeId×Vv->ah):∃ZS,DataW.whole jM Tryz.prog (((Lb (World.holding Tryz.prog os ⟨#[],#[],[]⟩)).layVars Tryz.prog wo).forCall (fun _ _=>0) ⟨#[],#[.slice Z 0 0],[]⟩).memory Tryz.f12.params.toList Rows.allSpec.vars false #[Value.slice Z 0 0].toList 8=U ([.nil],[],ZS):=
 ⟨[],Kr⟩
theorem aca(os:Os)(SC:os.Started)(ah:Type)(jM:TypeId×Vv->ah)(F:Stop.Interp):ReturnsInHanded {} Tryz.checked os 12 .any ((Rows.OpenSpec.upto Rows.allSpec).preRow jM Tryz.prog Tryz.f12 Rows.allUptoRow.domain false Rows.allUptoRow.laid) (((Rows.OpenSpec.upto Rows.allSpec).at F).post jM Tryz.prog Tryz.f12 false true false false):=by
 obtain⟨ZS,hx⟩:=acb os jM;have hok:Input.okWideB Tryz.prog (((Lb (World.holding Tryz.prog os ⟨#[],#[],[]⟩)).layVars Tryz.prog wo).forCall (fun _ _=>0) ⟨#[],#[.slice Z 0 0],[]⟩) 12 ⟨#[],#[.slice Z 0 0],[]⟩=true:=Kr
 refine returnsInHanded_of_row (C:=Tryz.checked) (s:=Rows.OpenSpec.upto Rows.allSpec) abH SC Kr Tryz.func12
  ⟨(Lb (World.holding Tryz.prog os ⟨#[],#[],[]⟩)).layVars Tryz.prog wo,fun _ _=>0,⟨#[],#[.slice Z 0 0],[]⟩,World.layVars_os _ _ _,World.shaped_of_ZipB Kr Kr,
    (Input.okWide_of_okWideB (base:=0) hok).1,(Input.okWide_of_okWideB hok).2,OpenSpec.preRow_of_cond 8 hx Kr (fun k hk=>by cases hk;kernel_rfl) Kr (agt os _),by
      simp only[Assume.holds]
      exact⟨Sq,Sq,fun _=>Modest.zero,Sq,Sq⟩⟩ ?_
 intro W base args ds gs before AU hW _ aem AV hL _ _;exact ab9 ah jM W base args ds gs before AU hW (aem _ X) AV hL
theorem acd:Rows.AllUptoSaid:=
 OpenClaim.holds_of_cond 12 Tryz.f12 X X X X X X X ⟨X,X,X,X,X⟩ X X X X X Kr Tryz.func12 ab8
  (Bj Kr) (by unfold Func.isWrapper;rw[G (of_decide_eq_false Kr)];exact⟨X,X⟩)
  (fun os SC ah jM _ F=>by rw[OpenClaim.pre_eq_preRow];exact aca os SC ah jM F)
theorem all_holds:Rows.AllUptoCardSaid:=
 Claim7.holds_tied_plain_at .later [] _ _ _ _
  acd (fun _ h=>by cases h) Kr (fun _ h=>by cases h) allUpto_row_tie X ⟨X,X⟩ Kr X
  (fun f fn hf hfn=>by
    obtain rfl:f=12:=dd ((show Tryz.prog.funcNamed "hallmark/hallmarklaw.All" =U 12 by kernel_rfl).symm.trans hf) |>.symm
    obtain rfl:fn=Tryz.f12:=(dd (Tryz.func12.symm.trans hfn)).symm
    exact⟨Kr,fun j t ht=>by
     rw[Tryz.params12]at ht
     have hm:t∈ [79]:=by simpa using Array.mem_of_getElem? ht
     have iI:([79].all fun u=> !Tryz.prog.wantsStandIn u)=true:=Kr
     exact(show Tryz.prog.wantsStandIn t=false by simpa using List.all_eq_true.1 iI t hm)⟩)
  Kr
end Go.Proofs.YtkkicodfpekbgaaGreatDoor
