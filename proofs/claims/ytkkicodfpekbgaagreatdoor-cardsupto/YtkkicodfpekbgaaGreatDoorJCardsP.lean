/-
Proved: for every list of texts and every list of cards that can be read as data and that hold together at most 1048576 values and letters, hallmarklaw.Cards answers true and leaves its arguments as they were: hallmark.ReadCard answers of each text what the document's ReadCard answers (the card, the place, the error) and its marks are the caller's own; hallmark.WriteCard answers of each card what the document's WriteCard answers (the bytes, the error) and leaves the card as it was; its condition: the package's errors and tables lie as the program's text lays them (tied to that text; the table of unicode/utf8 by the form's constant).
-/
import Derived.Test.YtkkicodfpekbgaaGreatDoorJl0
import Derived.Test.YtkkicodfpekbgaaGreatDoorJCardsQ
import Derived.Deep.DeepHandedRow
open Go.Obj renaming cells->C
open Option renaming some->U,none->Z
open Go renaming World->M,Calls->Cs,Value->Vv
open _root_ renaming List->Ls
set_option linter.unusedSimpArgs false
set_option linter.unusedVariables false
set_option maxRecDepth 100000
set_option maxHeartbeats 8000000
namespace Go.Proofs.YtkkicodfpekbgaaGreatDoor
open Go.ChangeShapes Go.WideShapes Go.ChangeAt Go.WideMaps Go.WideElems Go.RowKit
theorem qv(ah:Type)(enc:TypeId×Vv->ah)(W:M)(base:Nat)(args:Array Vv)(ds gs:Ls (DataW ah))(before:Ls MemPlace)(hval:∀(j:Nat) t v,Tryz.f9.params[j]? =U t->args[j]? =U v->Value.okWide Tryz.prog W .any base t v)(hW:DataW.Whole enc Tryz.prog Tryz.f9.params.toList Rows.cardsSpec.vars false W args.toList ds gs before)(hk:Rows.uptoSmall ah (ds++gs)=true)(hwt:(DataW.weightsEach Tryz.prog (Tryz.f9.params.toList++Rows.cardsSpec.plain.varTypes Tryz.prog) (ds++gs)).all (· <=reachBytes)=true)(hL:laidMetH Tryz.prog [("unicode/utf8.acceptRanges",Rows.laid_unicode_utf8_acceptRanges),("errors.errorType",Rows.laid_errors_errorType),("hallmark/fault.Schema",Rows.laid_hallmark_fault_Schema),("hallmark/fault.Long",Rows.laid_hallmark_fault_Long),("hallmark/fault.End",Rows.laid_hallmark_fault_End),("hallmark/fault.Tag",Rows.laid_hallmark_fault_Tag),("hallmark/fault.Length",Rows.laid_hallmark_fault_Length),("hallmark/fault.Value",Rows.laid_hallmark_fault_Value),("hallmark/fault.More",Rows.laid_hallmark_fault_More),("hallmark/fault.Order",Rows.laid_hallmark_fault_Order),("hallmark/fault.Default",Rows.laid_hallmark_fault_Default),("hallmark/fault.Deep",Rows.laid_hallmark_fault_Deep),("hallmark/fault.Tree",Rows.laid_hallmark_fault_Tree),("hallmark/fault.Card",Rows.laid_hallmark_fault_Card),("hallmark/fault.Mark",Rows.laid_hallmark_fault_Mark),("hallmark/content.monthDays",Rows.laid_hallmark_content_monthDays),("hallmark/schemas.ownNumbers",Rows.laid_hallmark_schemas_ownNumbers),("unicode/utf8.first",Rows.laid_unicode_utf8_first)] W):Cs Tryz.prog 9 args W fun e W'=>∃v,e= .returned v/\Rows.cardsSpec.post enc Tryz.prog Tryz.f9 false true false false W args v W':=by
 have hW':=hW;have hlt:=hW.lt;obtain⟨p,q,hA0,hV,rfl,hfz,hnd⟩:=hW;have hA:DataW.TrodAll enc Tryz.prog W 0 (fun _=>true) true Tryz.f9.params.toList args.toList ds p:=hA0;rw[Tryz.params9]at hA hval hwt;obtain⟨v0,vs0,d0,ds0,p0,q0,hargs,rfl,rfl,h0,r0⟩:=trodAll_cons hA;obtain⟨v1,vs1,d1,ds1,p1,q1,rfl,rfl,rfl,h1,r1⟩:=trodAll_cons r0;obtain⟨rfl,rfl,rfl⟩:=trodAll_nil r1;obtain⟨rfl,rfl⟩:=trodVars_none hV;obtain rfl:args=#[v0,v1]:=by rw[<-Array.toArray_toList (xs:=args),hargs]
 obtain⟨a0,l0,c0,e0⟩:=okWide_slice Tryz.underlying29 (hval 0 29 v0 X X);obtain⟨a1,l1,c1,e1⟩:=okWide_slice Tryz.underlying63 (hval 1 63 v1 X X);subst e0 e1;have h0':=h0;have h1':=h1;obtain⟨fuel0,g0⟩:=h0';obtain⟨fuel1,g1⟩:=h1';obtain⟨da,dn,dc,ed,hd,hdn⟩:=yP g0;obtain⟨rfl,rfl,rfl⟩:a0=da/\l0=dn/\c0=dc:=by simpa [Value.cells]using ed
 obtain⟨ca,cn,cc,ec,hcd⟩:=yN g1;obtain⟨rfl,rfl,rfl⟩:a1=ca/\l1=cn/\c1=cc:=by simpa [Value.cells]using ec
 obtain⟨sn,za,hl,hz,het⟩:=mD hL;have hb:=ff hk;have hb0:=jx (d:=d0) (l:=[d0,d1]++[]) Sq;have hb1:=jx (d:=d1) (l:=[d0,d1]++[]) Sq;obtain⟨hcs,hcn⟩:=hcd (by show Rows.uptoBulk d1<=_;omega);have hdn':l0<=Rows.uptoBulk d0:=hdn;have hd':∀i,i<l0->∃b o z,a0=U ⟨b,o,Z⟩/\W.cell? ⟨b,o+i,Z⟩=U (.string z)/\z.size<=1048576:=fun i hi=>by obtain⟨b,o,z,q1,q2,q3⟩:=hd i hi;have q3':z.size<=Rows.uptoBulk d0:=q3;exact⟨b,o,z,q1,q2,O⟩
 clear hA0 g0 g1;refine(AH a0 l0 c0 a1 l1 c1 W sn za hl hz het hd' O hcs hcn).mono fun e W' ⟨he,hb⟩=>?_;subst he;refine⟨_,X,_,_,_,[],p0++(p1++[]),[],hW',?_,?_,?_,hb.frame _,fun h=>by cases h⟩
 ·exact trodAll_mk1 (shut_bool Tryz.underlying4 true)
 ·exact trodAll_cons_mk (Below.trod nz Kr (ff Kr) h0 hb (fun y hy=>hlt y (by simp[hy]))) (trodAll_cons_mk (Below.trod nz Kr (ff Kr) h1 hb (fun y hy=>hlt y (by simp[hy]))) trodAll_mk0)
 rfl
theorem vD(os:Os){ah:Type}(enc:TypeId×Vv->ah):∃places,DataW.whole enc Tryz.prog (((pO (World.holding Tryz.prog os ⟨#[],#[],[]⟩)).layVars Tryz.prog [("unicode/utf8.acceptRanges",Rows.laid_unicode_utf8_acceptRanges),("hallmark/fault.Schema",Rows.laid_hallmark_fault_Schema),("hallmark/fault.Long",Rows.laid_hallmark_fault_Long),("hallmark/fault.End",Rows.laid_hallmark_fault_End),("hallmark/fault.Tag",Rows.laid_hallmark_fault_Tag),("hallmark/fault.Length",Rows.laid_hallmark_fault_Length),("hallmark/fault.Value",Rows.laid_hallmark_fault_Value),("hallmark/fault.More",Rows.laid_hallmark_fault_More),("hallmark/fault.Order",Rows.laid_hallmark_fault_Order),("hallmark/fault.Default",Rows.laid_hallmark_fault_Default),("hallmark/fault.Deep",Rows.laid_hallmark_fault_Deep),("hallmark/fault.Tree",Rows.laid_hallmark_fault_Tree),("hallmark/fault.Card",Rows.laid_hallmark_fault_Card),("hallmark/fault.Mark",Rows.laid_hallmark_fault_Mark),("hallmark/content.monthDays",Rows.laid_hallmark_content_monthDays),("hallmark/schemas.ownNumbers",Rows.laid_hallmark_schemas_ownNumbers),("unicode/utf8.first",Rows.laid_unicode_utf8_first)]).forCall (fun _ _=>0) ⟨#[],#[.slice Z 0 0,.slice Z 0 0],[]⟩).memory Tryz.f9.params.toList Rows.cardsSpec.vars false #[Value.slice Z 0 0,.slice Z 0 0].toList 8=U ([.nil,.nil],[],places):=
 ⟨[],Kr⟩
theorem uh(os:Os)(started:os.Started)(ah:Type)(enc:TypeId×Vv->ah)(F:Stop.Interp):ReturnsInHanded {} Tryz.checked os 9 .any ((Rows.OpenSpec.upto Rows.cardsSpec).preRow enc Tryz.prog Tryz.f9 Rows.cardsUptoRow.domain false Rows.cardsUptoRow.laid) (((Rows.OpenSpec.upto Rows.cardsSpec).at F).post enc Tryz.prog Tryz.f9 false true false false):=by
 obtain⟨places,hx⟩:=vD os enc;have hok:Input.okWideB Tryz.prog (((pO (World.holding Tryz.prog os ⟨#[],#[],[]⟩)).layVars Tryz.prog [("unicode/utf8.acceptRanges",Rows.laid_unicode_utf8_acceptRanges),("hallmark/fault.Schema",Rows.laid_hallmark_fault_Schema),("hallmark/fault.Long",Rows.laid_hallmark_fault_Long),("hallmark/fault.End",Rows.laid_hallmark_fault_End),("hallmark/fault.Tag",Rows.laid_hallmark_fault_Tag),("hallmark/fault.Length",Rows.laid_hallmark_fault_Length),("hallmark/fault.Value",Rows.laid_hallmark_fault_Value),("hallmark/fault.More",Rows.laid_hallmark_fault_More),("hallmark/fault.Order",Rows.laid_hallmark_fault_Order),("hallmark/fault.Default",Rows.laid_hallmark_fault_Default),("hallmark/fault.Deep",Rows.laid_hallmark_fault_Deep),("hallmark/fault.Tree",Rows.laid_hallmark_fault_Tree),("hallmark/fault.Card",Rows.laid_hallmark_fault_Card),("hallmark/fault.Mark",Rows.laid_hallmark_fault_Mark),("hallmark/content.monthDays",Rows.laid_hallmark_content_monthDays),("hallmark/schemas.ownNumbers",Rows.laid_hallmark_schemas_ownNumbers),("unicode/utf8.first",Rows.laid_unicode_utf8_first)]).forCall (fun _ _=>0) ⟨#[],#[.slice Z 0 0,.slice Z 0 0],[]⟩) 9 ⟨#[],#[.slice Z 0 0,.slice Z 0 0],[]⟩=true:=Kr
 refine returnsInHanded_of_row (C:=Tryz.checked) (s:=Rows.OpenSpec.upto Rows.cardsSpec) Cm started Kr Tryz.func9
  ⟨(pO (World.holding Tryz.prog os ⟨#[],#[],[]⟩)).layVars Tryz.prog [("unicode/utf8.acceptRanges",Rows.laid_unicode_utf8_acceptRanges),("hallmark/fault.Schema",Rows.laid_hallmark_fault_Schema),("hallmark/fault.Long",Rows.laid_hallmark_fault_Long),("hallmark/fault.End",Rows.laid_hallmark_fault_End),("hallmark/fault.Tag",Rows.laid_hallmark_fault_Tag),("hallmark/fault.Length",Rows.laid_hallmark_fault_Length),("hallmark/fault.Value",Rows.laid_hallmark_fault_Value),("hallmark/fault.More",Rows.laid_hallmark_fault_More),("hallmark/fault.Order",Rows.laid_hallmark_fault_Order),("hallmark/fault.Default",Rows.laid_hallmark_fault_Default),("hallmark/fault.Deep",Rows.laid_hallmark_fault_Deep),("hallmark/fault.Tree",Rows.laid_hallmark_fault_Tree),("hallmark/fault.Card",Rows.laid_hallmark_fault_Card),("hallmark/fault.Mark",Rows.laid_hallmark_fault_Mark),("hallmark/content.monthDays",Rows.laid_hallmark_content_monthDays),("hallmark/schemas.ownNumbers",Rows.laid_hallmark_schemas_ownNumbers),("unicode/utf8.first",Rows.laid_unicode_utf8_first)],fun _ _=>0,⟨#[],#[.slice Z 0 0,.slice Z 0 0],[]⟩,World.layVars_os _ _ _,World.shaped_of_ZipB Kr Kr,
    (Ip (base:=0) hok).1,(Ip hok).2,OpenSpec.preRow_of_cond 8 hx Kr (fun k hk=>by cases hk;kernel_rfl) Kr (wB os _),by
      simp only[Assume.holds]
      exact⟨Sq,Sq,fun _=>Modest.zero,Sq,Sq⟩⟩ ?_
 intro W base args ds gs before hval hW _ hcond hwt hL _ _;exact qv ah enc W base args ds gs before hval hW (hcond _ X) hwt hL
theorem xY:Rows.CardsUptoSaid:=
 OpenClaim.holds_of_cond 9 Tryz.f9 X X X X X X X ⟨X,X,X,X,X⟩ X X X X X Kr Tryz.func9 ug
  (ff Kr) (by unfold Func.isWrapper;rw[G (of_decide_eq_false Kr)];exact⟨X,X⟩)
  (fun os started ah enc _ F=>by rw[OpenClaim.pre_eq_preRow];exact uh os started ah enc F)
theorem cards_holds:Rows.CardsUptoCardSaid:=
 Claim7.holds_tied_plain_at .later [] _ _ _ _
  xY (fun _ h=>by cases h) Kr (fun _ h=>by cases h) cardsUpto_row_tie X ⟨X,X⟩ Kr X
  (fun f fn hf hfn=>by
    obtain rfl:f=9:=aK ((show Tryz.prog.funcNamed "hallmark/hallmarklaw.Cards" =U 9 by kernel_rfl).symm.trans hf) |>.symm
    obtain rfl:fn=Tryz.f9:=(aK (Tryz.func9.symm.trans hfn)).symm
    exact⟨Kr,fun j t ht=>by
     rw[Tryz.params9]at ht
     have hm:t∈ [29,63]:=by simpa using Array.mem_of_getElem? ht
     have hall:([29,63].all fun u=> !Tryz.prog.wantsStandIn u)=true:=Kr
     exact(show Tryz.prog.wantsStandIn t=false by simpa using List.all_eq_true.1 hall t hm)⟩)
  Kr
end Go.Proofs.YtkkicodfpekbgaaGreatDoor
