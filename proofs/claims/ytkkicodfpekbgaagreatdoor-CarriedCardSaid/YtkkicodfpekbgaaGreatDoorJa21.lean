/-
What the condition on the package's variables gives where the variable that holds the type error is among them; a world that meets it.
-/
import Derived.Test.YtkkicodfpekbgaaGreatDoorJa20
import Derived.Test.YtkkicodfpekbgaaGreatDoorJa18
import Derived.LaidHandle
namespace Go.Proofs.YtkkicodfpekbgaaGreatDoor
open Go.ChangeShapes Go.WideShapes Go.ChangeAt Go.WideMaps Go.WideElems Go.RowKit Go.Lib
set_option linter.unusedSimpArgs false
set_option linter.unusedVariables false
set_option maxRecDepth 100000
set_option maxHeartbeats 8000000
theorem Tryz.gEt:Tryz.prog.globalNamed "errors.errorType" =some 13:=by kernel_rfl
theorem Tryz.rtOf:(Tryz.prog.cutTypes.find? (·.1== "internal/reflectlite.rtype")).map (·.2)=some 220:=by kernel_rfl
theorem Tryz.oneRow:((List.range 324).filter fun t=>Tryz.prog.rowNamed t [101,114,114,111,114])=[85]:=by kernel_rfl
theorem Tryz.sizeT:Tryz.prog.types.size=324:=by kernel_rfl
theorem Tryz.hdlE:typeHandle Tryz.prog 85= .pointer (some ⟨19,85,none⟩):=by kernel_rfl
theorem lay_of_laid_decodes{W:World}(h:laidMetH Tryz.prog [("unicode/utf8.acceptRanges",Rows.laid_unicode_utf8_acceptRanges),("errors.errorType",Rows.laid_errors_errorType),("hallmark/fault.Schema",Rows.laid_hallmark_fault_Schema),("hallmark/fault.Long",Rows.laid_hallmark_fault_Long),("hallmark/fault.End",Rows.laid_hallmark_fault_End),("hallmark/fault.Tag",Rows.laid_hallmark_fault_Tag),("hallmark/fault.Length",Rows.laid_hallmark_fault_Length),("hallmark/fault.Value",Rows.laid_hallmark_fault_Value),("hallmark/fault.More",Rows.laid_hallmark_fault_More),("hallmark/fault.Order",Rows.laid_hallmark_fault_Order),("hallmark/fault.Default",Rows.laid_hallmark_fault_Default),("hallmark/fault.Deep",Rows.laid_hallmark_fault_Deep),("hallmark/fault.Tree",Rows.laid_hallmark_fault_Tree),("hallmark/fault.Card",Rows.laid_hallmark_fault_Card),("hallmark/fault.Mark",Rows.laid_hallmark_fault_Mark),("hallmark/content.monthDays",Rows.laid_hallmark_content_monthDays),("hallmark/schemas.ownNumbers",Rows.laid_hallmark_schemas_ownNumbers),("unicode/utf8.first",Rows.laid_unicode_utf8_first)] W):∃sn za,Lay W sn∧LayZ W sn za∧EtC W:=by
 have h':laidMet Tryz.prog [("unicode/utf8.acceptRanges",Rows.laid_unicode_utf8_acceptRanges),("hallmark/fault.Schema",Rows.laid_hallmark_fault_Schema),("hallmark/fault.Long",Rows.laid_hallmark_fault_Long),("hallmark/fault.End",Rows.laid_hallmark_fault_End),("hallmark/fault.Tag",Rows.laid_hallmark_fault_Tag),("hallmark/fault.Length",Rows.laid_hallmark_fault_Length),("hallmark/fault.Value",Rows.laid_hallmark_fault_Value),("hallmark/fault.More",Rows.laid_hallmark_fault_More),("hallmark/fault.Order",Rows.laid_hallmark_fault_Order),("hallmark/fault.Default",Rows.laid_hallmark_fault_Default),("hallmark/fault.Deep",Rows.laid_hallmark_fault_Deep),("hallmark/fault.Tree",Rows.laid_hallmark_fault_Tree),("hallmark/fault.Card",Rows.laid_hallmark_fault_Card),("hallmark/fault.Mark",Rows.laid_hallmark_fault_Mark),("hallmark/content.monthDays",Rows.laid_hallmark_content_monthDays),("hallmark/schemas.ownNumbers",Rows.laid_hallmark_schemas_ownNumbers),("unicode/utf8.first",Rows.laid_unicode_utf8_first)] W∧handlesMet Tryz.prog [("errors.errorType",Rows.laid_errors_errorType)] W:=h
 obtain⟨sn,za,h1,h2⟩:=lay_of_laid_checks (W:=W) (by rw[MakeChecks.laidMetH_plain _ _ _ (by kernel_rfl)];exact h'.1)
 refine⟨sn,za,h1,h2,?_⟩
 obtain⟨name,u,ty,e1,e2,e3,e4,e5⟩:=h'.2 _ (List.mem_singleton.2 rfl)
 have en:name=[101,114,114,111,114]:=(Option.some.inj e1).symm
 subst en
 obtain rfl:=Option.some.inj (Tryz.rtOf.symm.trans e2)
 have hm:ty∈(List.range 324).filter fun t=>Tryz.prog.rowNamed t [101,114,114,111,114]:=List.mem_filter.2 ⟨List.mem_range.2 (by rw[←Tryz.sizeT];exact e3),e4⟩
 rw[Tryz.oneRow]at hm
 obtain rfl:=List.mem_singleton.1 hm
 rw[Tryz.hdlE]at e5
 have:=World.var?_cell Tryz.gEt e5 0
 unfold EtC
 simpa using this
def withErr(w:World):World:=
 {w with heap:=w.heap.modify 13 fun o=>match o with
  | .cells _ t fr=> .cells #[.iface 220 (.agg #[.pointer (some ⟨19,85,none⟩)])] t fr
  |o=>o}
theorem laidMet_from{P:Program}{w0:World}{laid:List (String×DataW Unit)}(args:Array Value)(hf:w0.layFits P laid []=true)(hi:w0.layIfaces P laid (w0.layVars P laid)=true):
 laidMet P laid ((w0.layVars P laid).forCall (fun _ _=>0) ⟨#[],args,[]⟩).memory:=by
 have hin:∀x∈laid,(laid.map (·.1)).contains x.1=true:=fun x hx=>List.contains_iff_mem.2 (List.mem_map.2 ⟨x,hx,rfl⟩)
 have e1:(laid.filter fun x=>(laid.map (·.1)).contains x.1)=laid:=List.filter_eq_self.2 hin
 have e2:(laid.filter fun x=> !(laid.map (·.1)).contains x.1)=[]:=List.filter_eq_nil_iff.2 fun x hx=>by rw[hin x hx];simp
 have h:laidMet P laid (w0.layVars P laid):=laidMet_layVars (w0:=w0) (laid.map (·.1)) [] (by rw[e1]) (by rw[e1];exact hf) (by rw[e1];exact hi) (by rw[e2];exact LaidIn.none)
 exact h.of_heap (by simp[World.memory,World.forCall,Input.heap])
theorem met_decodes(os:Os)(args:Array Value):laidMetH Tryz.prog [("unicode/utf8.acceptRanges",Rows.laid_unicode_utf8_acceptRanges),("errors.errorType",Rows.laid_errors_errorType),("hallmark/fault.Schema",Rows.laid_hallmark_fault_Schema),("hallmark/fault.Long",Rows.laid_hallmark_fault_Long),("hallmark/fault.End",Rows.laid_hallmark_fault_End),("hallmark/fault.Tag",Rows.laid_hallmark_fault_Tag),("hallmark/fault.Length",Rows.laid_hallmark_fault_Length),("hallmark/fault.Value",Rows.laid_hallmark_fault_Value),("hallmark/fault.More",Rows.laid_hallmark_fault_More),("hallmark/fault.Order",Rows.laid_hallmark_fault_Order),("hallmark/fault.Default",Rows.laid_hallmark_fault_Default),("hallmark/fault.Deep",Rows.laid_hallmark_fault_Deep),("hallmark/fault.Tree",Rows.laid_hallmark_fault_Tree),("hallmark/fault.Card",Rows.laid_hallmark_fault_Card),("hallmark/fault.Mark",Rows.laid_hallmark_fault_Mark),("hallmark/content.monthDays",Rows.laid_hallmark_content_monthDays),("hallmark/schemas.ownNumbers",Rows.laid_hallmark_schemas_ownNumbers),("unicode/utf8.first",Rows.laid_unicode_utf8_first)] (((withErr (World.holding Tryz.prog os ⟨#[],#[],[]⟩)).layVars Tryz.prog [("unicode/utf8.acceptRanges",Rows.laid_unicode_utf8_acceptRanges),("hallmark/fault.Schema",Rows.laid_hallmark_fault_Schema),("hallmark/fault.Long",Rows.laid_hallmark_fault_Long),("hallmark/fault.End",Rows.laid_hallmark_fault_End),("hallmark/fault.Tag",Rows.laid_hallmark_fault_Tag),("hallmark/fault.Length",Rows.laid_hallmark_fault_Length),("hallmark/fault.Value",Rows.laid_hallmark_fault_Value),("hallmark/fault.More",Rows.laid_hallmark_fault_More),("hallmark/fault.Order",Rows.laid_hallmark_fault_Order),("hallmark/fault.Default",Rows.laid_hallmark_fault_Default),("hallmark/fault.Deep",Rows.laid_hallmark_fault_Deep),("hallmark/fault.Tree",Rows.laid_hallmark_fault_Tree),("hallmark/fault.Card",Rows.laid_hallmark_fault_Card),("hallmark/fault.Mark",Rows.laid_hallmark_fault_Mark),("hallmark/content.monthDays",Rows.laid_hallmark_content_monthDays),("hallmark/schemas.ownNumbers",Rows.laid_hallmark_schemas_ownNumbers),("unicode/utf8.first",Rows.laid_unicode_utf8_first)]).forCall (fun _ _=>0) ⟨#[],args,[]⟩).memory:=by
 have e0:([("unicode/utf8.acceptRanges",Rows.laid_unicode_utf8_acceptRanges),("errors.errorType",Rows.laid_errors_errorType),("hallmark/fault.Schema",Rows.laid_hallmark_fault_Schema),("hallmark/fault.Long",Rows.laid_hallmark_fault_Long),("hallmark/fault.End",Rows.laid_hallmark_fault_End),("hallmark/fault.Tag",Rows.laid_hallmark_fault_Tag),("hallmark/fault.Length",Rows.laid_hallmark_fault_Length),("hallmark/fault.Value",Rows.laid_hallmark_fault_Value),("hallmark/fault.More",Rows.laid_hallmark_fault_More),("hallmark/fault.Order",Rows.laid_hallmark_fault_Order),("hallmark/fault.Default",Rows.laid_hallmark_fault_Default),("hallmark/fault.Deep",Rows.laid_hallmark_fault_Deep),("hallmark/fault.Tree",Rows.laid_hallmark_fault_Tree),("hallmark/fault.Card",Rows.laid_hallmark_fault_Card),("hallmark/fault.Mark",Rows.laid_hallmark_fault_Mark),("hallmark/content.monthDays",Rows.laid_hallmark_content_monthDays),("hallmark/schemas.ownNumbers",Rows.laid_hallmark_schemas_ownNumbers),("unicode/utf8.first",Rows.laid_unicode_utf8_first)].filter fun(x:String×DataW Unit)=>x.2.handleName?.isNone)=[("unicode/utf8.acceptRanges",Rows.laid_unicode_utf8_acceptRanges),("hallmark/fault.Schema",Rows.laid_hallmark_fault_Schema),("hallmark/fault.Long",Rows.laid_hallmark_fault_Long),("hallmark/fault.End",Rows.laid_hallmark_fault_End),("hallmark/fault.Tag",Rows.laid_hallmark_fault_Tag),("hallmark/fault.Length",Rows.laid_hallmark_fault_Length),("hallmark/fault.Value",Rows.laid_hallmark_fault_Value),("hallmark/fault.More",Rows.laid_hallmark_fault_More),("hallmark/fault.Order",Rows.laid_hallmark_fault_Order),("hallmark/fault.Default",Rows.laid_hallmark_fault_Default),("hallmark/fault.Deep",Rows.laid_hallmark_fault_Deep),("hallmark/fault.Tree",Rows.laid_hallmark_fault_Tree),("hallmark/fault.Card",Rows.laid_hallmark_fault_Card),("hallmark/fault.Mark",Rows.laid_hallmark_fault_Mark),("hallmark/content.monthDays",Rows.laid_hallmark_content_monthDays),("hallmark/schemas.ownNumbers",Rows.laid_hallmark_schemas_ownNumbers),("unicode/utf8.first",Rows.laid_unicode_utf8_first)]:=rfl
 refine laidMetH_of_parts ?_ (by kernel_rfl)
 rw[e0]
 exact laidMet_from args (by kernel_rfl) (by kernel_rfl)
end Go.Proofs.YtkkicodfpekbgaaGreatDoor
