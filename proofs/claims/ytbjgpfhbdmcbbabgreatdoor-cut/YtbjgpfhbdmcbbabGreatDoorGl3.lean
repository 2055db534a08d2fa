import Derived.Test.YtbjgpfhbdmcbbabGreatDoorGl1
import Derived.Test.YtbjgpfhbdmcbbabGreatDoorP40

/-
  WHAT THE LISTED VARIABLES GIVE the walks on disks that die: Gm.
-/
namespace Go.Proofs.YtbjgpfhbdmcbbabGreatDoor.laid2
open Go.ChangeShapes Go.WideShapes Go.ChangeAt Go.RowKit
open parse files jobs
set_option linter.unusedVariables false

theorem gFail : Tryz.prog.globalNamed "quern/files.errFailed" = some 10 := by kernel_rfl
theorem gOther : Tryz.prog.globalNamed "quern/quern.errOther" = some 5 := by kernel_rfl
theorem gType : Tryz.prog.globalNamed "errors.errorType" = some 4 := by kernel_rfl
theorem gDead : Tryz.prog.globalNamed "quern/quern.errDead" = some 3 := by kernel_rfl
theorem tDead : (Tryz.prog.globals[3]?).map (·.type) = some 66 := by kernel_rfl
theorem zDead : (((begin Tryz.prog (fun _ _ => 0) default).world.heap[3]?).bind Obj.row?).map (·.2) = some 66 := by kernel_rfl
theorem tFail : (Tryz.prog.globals[10]?).map (·.type) = some 66 := by kernel_rfl
theorem tOther : (Tryz.prog.globals[5]?).map (·.type) = some 66 := by kernel_rfl
theorem zFail : (((begin Tryz.prog (fun _ _ => 0) default).world.heap[10]?).bind Obj.row?).map (·.2) = some 66 := by kernel_rfl
theorem zOther : (((begin Tryz.prog (fun _ _ => 0) default).world.heap[5]?).bind Obj.row?).map (·.2) = some 66 := by kernel_rfl
theorem zType : (((begin Tryz.prog (fun _ _ => 0) default).world.heap[4]?).bind Obj.row?).map (·.2) = some 118 := by kernel_rfl
theorem handleList : (theRow.laid.filter fun x => x.2.handleName?.isSome) = [("errors.errorType", Rows.laid_errors_errorType)] := by kernel_rfl
theorem handleIn : (Rows.laid_errors_errorType (H := Unit)).funcsIn?.isNone = true := by kernel_rfl
theorem handleIs : (Rows.laid_errors_errorType (H := Unit)).handleName? = some [101, 114, 114, 111, 114] := by kernel_rfl
theorem rtypeIs : (Tryz.prog.cutTypes.find? (·.1 == "internal/reflectlite.rtype")).map (·.2) = some 153 := by kernel_rfl
theorem errorIs : ((List.range Tryz.prog.types.size).filter fun t => Tryz.prog.rowNamed t [101, 114, 114, 111, 114]) = [66] := by kernel_rfl

theorem filA : ((theRow.laid.filter fun x => x.2.handleName?.isNone).filter fun x => x.1 == "quern/files.ErrAbsent" || x.1 == "quern/files.errFailed") = [("quern/files.ErrAbsent", Rows.laid_quern_files_ErrAbsent), ("quern/files.errFailed", Rows.laid_quern_files_errFailed)] := by kernel_rfl

set_option maxRecDepth 100000 in
theorem gx_of {W : World} {a b aE : Addr} (h : laidMetH Tryz.prog theRow.laid W) (hS : W.ShapedOpen Tryz.prog) (hG : Gl W a b aE) : ∃ aF, Gx aF a b W := by
  obtain ⟨h1, h2⟩ := laidMetH_iff.1 h
  have hA := h1.filter (fun x => x.1 == "quern/files.ErrAbsent" || x.1 == "quern/files.errFailed")
  rw [filA] at hA
  rw [plainList] at h1
  rw [handleList] at h2
  have hbr := h1.tail.tail.tail.tail.tail.tail.tail.tail.tail.tail
  have hd := hbr.tail.tail.tail.tail
  have ho := hd.tail.tail.tail
  obtain ⟨a', aF, _, _, c0, c1, t0, t1, hva, hvF, _, _, _, _, _, _, hneA, hba, hbF⟩ := laid_sentinels2 (show laidMet Tryz.prog ((_, .iface "*errors.errorString" (.ptr (.agg [.lit (.string _)]))) :: (_, .iface "*errors.errorString" (.ptr (.agg [.lit (.string _)]))) :: _) W from hA) gAbs tAbs gFail tFail Tryz.underlying66 rowE Tryz.underlying254 Tryz.underlying256 rfl rfl Tryz.underlying9 cellsE cellsS
  obtain ⟨b', aF', _, _, c2, c3, t2, t3, hvb, hvF', _, _, _, _, _, _, hneB, hbb, _⟩ := laid_sentinels2 (show laidMet Tryz.prog ((_, .iface "*errors.errorString" (.ptr (.agg [.lit (.string _)]))) :: (_, .iface "*errors.errorString" (.ptr (.agg [.lit (.string _)]))) :: _) W from hbr) gBro tBro gFail tFail Tryz.underlying66 rowE Tryz.underlying254 Tryz.underlying256 rfl rfl Tryz.underlying9 cellsE cellsS
  have eF : aF' = aF := by
    have e := hvF.symm.trans hvF'
    simp at e
    exact e.symm
  subst eF
  obtain ⟨aD, sD, hvD, _⟩ := laid_sentinel (show laidMet Tryz.prog ((_, .iface "*errors.errorString" (.ptr (.agg [.lit (.string _)]))) :: _) W from hd) gDead tDead Tryz.underlying66 rowE Tryz.underlying254 Tryz.underlying256 rfl rfl Tryz.underlying9 cellsE cellsS
  obtain ⟨aO, sO, hvO, _⟩ := laid_sentinel (show laidMet Tryz.prog ((_, .iface "*errors.errorString" (.ptr (.agg [.lit (.string _)]))) :: _) W from ho) gOther tOther Tryz.underlying66 rowE Tryz.underlying254 Tryz.underlying256 rfl rfl Tryz.underlying9 cellsE cellsS
  have okF := laid_ok hbr.tail gFail hvF
  have noF : ¬ ours t1 := fun ho => by
    obtain ⟨d, c, o, hl⟩ := row_of_ok Tryz.underlying254 okF hbF
    rw [ours_no ho] at hl; cases hl
  obtain ⟨fA, bA⟩ := shaped_block hS (by rw [nGlobals]; decide) zAbs gAbs hva
  obtain ⟨fB, bB⟩ := shaped_block hS (by rw [nGlobals]; decide) zBro gBro hvb
  obtain ⟨fF, bF⟩ := shaped_block hS (by rw [nGlobals]; decide) zFail gFail hvF
  obtain ⟨fD, bD⟩ := shaped_block hS (by rw [nGlobals]; decide) zDead gDead hvD
  obtain ⟨fO, bO⟩ := shaped_block hS (by rw [nGlobals]; decide) zOther gOther hvO
  have eA : a' = a := by
    obtain ⟨cs, T, fz, x1, _, x2⟩ := hG.gs.absent
    rw [bA] at x1
    cases x1
    simpa using x2
  have eB : b' = b := by
    obtain ⟨cs, T, fz, x1, _, x2⟩ := hG.gs.broken
    rw [bB] at x1
    cases x1
    simpa using x2
  subst eA
  subst eB
  have h5 := h2 _ (List.mem_singleton.2 rfl)
  have hn : (Rows.laid_errors_errorType (H := Unit)).funcsIn? = none := Option.isNone_iff_eq_none.1 handleIn
  have h6 : ∃ name u ty, (Rows.laid_errors_errorType (H := Unit)).handleName? = some name ∧ (Tryz.prog.cutTypes.find? (·.1 == "internal/reflectlite.rtype")).map (·.2) = some u ∧ ty < Tryz.prog.types.size ∧ Tryz.prog.rowNamed ty name = true ∧
      W.var? Tryz.prog "errors.errorType" = some #[.iface u (.agg #[typeHandle Tryz.prog ty])] := by
    revert h5
    simp only [hn]
    exact id
  obtain ⟨name, u, ty, e1, e2, e3, e4, e5⟩ := h6
  obtain rfl := Option.some.inj (handleIs.symm.trans e1)
  obtain rfl := Option.some.inj (rtypeIs.symm.trans e2)
  have hm : ty ∈ ((List.range Tryz.prog.types.size).filter fun t => Tryz.prog.rowNamed t [101, 114, 114, 111, 114]) := List.mem_filter.2 ⟨List.mem_range.2 e3, e4⟩
  rw [errorIs, List.mem_singleton] at hm
  subst hm
  obtain ⟨fT, bT⟩ := shaped_block hS (by rw [nGlobals]; decide) zType gType e5
  have hty : VarIs W 4 TyV := by
    refine ⟨_, _, _, bT, by unfold ours; decide, ?_⟩
    show some _ = some _
    unfold TyV typeHandle
    rw [nGlobals]
    rfl
  exact ⟨aF', ⟨⟨⟨_, _, _, ⟨aF', rfl⟩, bF, rfl, rfl⟩, hty, aO, _, _, _, bO, by unfold ours; decide, rfl⟩, ⟨hG.sen, fun e => hneA e.symm, fun e => hneB e.symm, _, _, hbF, noF⟩, aD, _, _, _, bD, by unfold ours; decide, rfl⟩⟩
end Go.Proofs.YtbjgpfhbdmcbbabGreatDoor.laid2
