import Derived.Test.YtbjgpfhbdmcbbabGreatDoorGl1
import Derived.Test.YtbjgpfhbdmcbbabGreatDoorP31

/-
  WHAT THE LISTED VARIABLES GIVE the walks on disks that die: Gm.
-/
namespace Go.Proofs.YtbjgpfhbdmcbbabGreatDoor.laid2
open Go.ChangeShapes Go.WideShapes Go.ChangeAt Go.RowKit
open Go.Proofs.YtbjgpfhbdmcbbabGreatDoor.parse Go.Proofs.YtbjgpfhbdmcbbabGreatDoor.files Go.Proofs.YtbjgpfhbdmcbbabGreatDoor.jobs
set_option linter.unusedVariables false

theorem gFail : Tryz.prog.globalNamed "quern/files.errFailed" = some 10 := by kernel_rfl
theorem gOther : Tryz.prog.globalNamed "quern/quern.errOther" = some 5 := by kernel_rfl
theorem gType : Tryz.prog.globalNamed "errors.errorType" = some 4 := by kernel_rfl
theorem tFail : (Tryz.prog.globals[10]?).map (·.type) = some 66 := by kernel_rfl
theorem tOther : (Tryz.prog.globals[5]?).map (·.type) = some 66 := by kernel_rfl
theorem zFail : (((begin Tryz.prog (fun _ _ => 0) default).world.heap[10]?).bind Obj.row?).map (·.2) = some 66 := by kernel_rfl
theorem zOther : (((begin Tryz.prog (fun _ _ => 0) default).world.heap[5]?).bind Obj.row?).map (·.2) = some 66 := by kernel_rfl
theorem zType : (((begin Tryz.prog (fun _ _ => 0) default).world.heap[4]?).bind Obj.row?).map (·.2) = some 118 := by kernel_rfl
theorem handleList : (theRow.laid.filter fun x => x.2.handleName?.isSome) = [("errors.errorType", Rows.laid_errors_errorType)] := by kernel_rfl
theorem handleIn : (Rows.laid_errors_errorType (H := Unit)).funcsIn?.isNone = true := by kernel_rfl
theorem handleIs : (Rows.laid_errors_errorType (H := Unit)).handleName? = some [101, 114, 114, 111, 114] := by kernel_rfl
theorem rtypeIs : (Tryz.prog.cutTypes.find? (·.1 == "internal/reflectlite.rtype")).map (·.2) = some 153 := by kernel_rfl
theorem errorIs : ((List.range Tryz.prog.types.size).filter fun t => Tryz.prog.rowNamed t [101, 114, 114, 111, 114]) = [66] := by kernel_rfl

set_option maxRecDepth 100000 in
theorem gm_of {W : World} (h : laidMetH Tryz.prog theRow.laid W) (hS : W.ShapedOpen Tryz.prog) : Gm W := by
  obtain ⟨h1, h2⟩ := laidMetH_iff.1 h
  rw [plainList] at h1
  rw [handleList] at h2
  have hf := h1.tail.tail.tail.tail.tail.tail.tail.tail.tail.tail.tail
  have ho := hf.tail.tail.tail.tail.tail.tail
  obtain ⟨aF, sF, hvF, _⟩ := laid_sentinel (show laidMet Tryz.prog ((_, .iface "*errors.errorString" (.ptr (.agg [.lit (.string _)]))) :: _) W from hf) gFail tFail Tryz.underlying66 rowE Tryz.underlying254 Tryz.underlying256 rfl rfl Tryz.underlying9 cellsE cellsS
  obtain ⟨aO, sO, hvO, _⟩ := laid_sentinel (show laidMet Tryz.prog ((_, .iface "*errors.errorString" (.ptr (.agg [.lit (.string _)]))) :: _) W from ho) gOther tOther Tryz.underlying66 rowE Tryz.underlying254 Tryz.underlying256 rfl rfl Tryz.underlying9 cellsE cellsS
  obtain ⟨fF, bF⟩ := shaped_block hS (by rw [nGlobals]; decide) zFail gFail hvF
  obtain ⟨fO, bO⟩ := shaped_block hS (by rw [nGlobals]; decide) zOther gOther hvO
  have h5 := h2 _ (List.mem_singleton.2 rfl)
  have hn : (Rows.laid_errors_errorType (H := Unit)).funcsIn? = none := Option.isNone_iff_eq_none.1 handleIn
  have h6 : ∃ name u ty, (Rows.laid_errors_errorType (H := Unit)).handleName? = some name ∧ (Tryz.prog.cutTypes.find? (·.1 == "internal/reflectlite.rtype")).map (·.2) = some u ∧ ty < Tryz.prog.types.size ∧ Tryz.prog.rowNamed ty name = true ∧
      W.var? Tryz.prog "errors.errorType" = some #[.iface u (.agg #[typeHandle Tryz.prog ty])] := by
    revert h5
    simp only [hn]
    exact id
  obtain ⟨name, u, ty, e1, e2, e3, e4, e5⟩ := h6
  obtain rfl := Option.some.inj (handleIs.symm.trans e1)
  obtain rfl := Option.some.inj (rtypeIs.symm.trans e2)
  have hm : ty ∈ ((List.range Tryz.prog.types.size).filter fun t => Tryz.prog.rowNamed t [101, 114, 114, 111, 114]) := List.mem_filter.2 ⟨List.mem_range.2 e3, e4⟩
  rw [errorIs, List.mem_singleton] at hm
  subst hm
  obtain ⟨fT, bT⟩ := shaped_block hS (by rw [nGlobals]; decide) zType gType e5
  refine ⟨⟨_, _, _, aF, bF, rfl, rfl⟩, ⟨_, _, _, bT, by unfold ours; decide, ?_⟩, aO, _, _, _, bO, by unfold ours; decide, rfl⟩
  show some _ = some _
  unfold TyV typeHandle
  rw [nGlobals]
  rfl
end Go.Proofs.YtbjgpfhbdmcbbabGreatDoor.laid2
