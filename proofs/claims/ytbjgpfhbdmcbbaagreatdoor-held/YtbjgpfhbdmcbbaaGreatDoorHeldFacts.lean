import Derived.Test.YtbjgpfhbdmcbbaaGreatDoorCards
import Derived.JoinedCond
import Derived.WalkKit

/-
  THE CLOSED FACTS of the row of Held, one by one.
-/
namespace Go.Proofs.YtbjgpfhbdmcbbaaGreatDoor.held
open Go.ChangeShapes Go.WideShapes Go.ChangeAt Go.RowKit
set_option linter.unusedVariables false

theorem band {a b : Bool} (ha : a = true) (hb : b = true) : (a && b) = true := by rw [ha, hb]; rfl
theorem k1 : (Rows.heldRow.wf (OpenSpec.ofChange (OpenSpec.ofChange Rows.heldSpec).bare)) = true := by kernel_rfl
theorem k2 : (laidOutB Tryz.prog) = true := by kernel_rfl
theorem k3 : (mapsRowed Tryz.prog) = true := by kernel_rfl
theorem k4 : (Tryz.f8.params.all (Tryz.prog.readableRec ·)) = true := by kernel_rfl
theorem k5 : (namedTie Tryz.prog Rows.heldRow.named (OpenSpec.ofChange Rows.heldSpec).bare.vars) = true := by kernel_rfl
theorem k6 : ((Rows.heldRow.stops == [])) = true := by kernel_rfl
theorem k7 : ((Tryz.prog.stops == [])) = true := by kernel_rfl
theorem k8 : ((Rows.heldRow.knobs == [])) = true := by kernel_rfl
theorem k9 : ((Tryz.prog.stopKnobs == [])) = true := by kernel_rfl
theorem k10 : ((Rows.heldRow.inPlace == Tryz.prog.inPlace 8)) = true := by kernel_rfl
theorem k11 : ((Rows.heldRow.unfollowed == Tryz.prog.unfollowed 8)) = true := by kernel_rfl
theorem k12 : ((Rows.heldRow.recurses == Tryz.prog.recurses 8)) = true := by kernel_rfl
theorem k13 : ((Rows.heldRow.named == Tryz.prog.varsNamed 8)) = true := by kernel_rfl
theorem k14 : ((Rows.heldRow.maps == (Tryz.f8.params.toList ++ (OpenSpec.ofChange Rows.heldSpec).bare.plain.varTypes Tryz.prog).any (Tryz.prog.mapsRec ·))) = true := by kernel_rfl
theorem k15 : ((Rows.heldRow.ifaces == (Tryz.f8.params.toList ++ (OpenSpec.ofChange Rows.heldSpec).bare.plain.varTypes Tryz.prog).any (Tryz.prog.ifacesRec ·))) = true := by kernel_rfl
theorem k16 : ((Rows.heldRow.mapsOut == Tryz.prog.mapsAmong Tryz.f8.resultTypes.toList)) = true := by kernel_rfl
theorem k17 : ((Rows.heldRow.loops == (Tryz.f8.params.toList ++ (OpenSpec.ofChange Rows.heldSpec).bare.plain.varTypes Tryz.prog).any (Tryz.prog.loopsFrom ·))) = true := by kernel_rfl
theorem k18 : ((Rows.heldRow.wideKeys == (Tryz.f8.params.toList ++ (OpenSpec.ofChange Rows.heldSpec).bare.plain.varTypes Tryz.prog ++ Tryz.f8.resultTypes.toList).any (Tryz.prog.wideKeysFrom ·))) = true := by kernel_rfl
theorem k19 : ((OpenSpec.ofChange Rows.heldSpec).bare.vars.all (Tryz.prog.varReadable ·)) = true := by kernel_rfl
theorem k20 : (Tryz.f8.resultTypes.all (fun t => Tryz.prog.readableRec t && decide (t < Tryz.prog.types.size))) = true := by kernel_rfl
theorem k21 : ((Rows.heldRow.ifacesOut == Tryz.f8.resultTypes.toList.any (Tryz.prog.ifacesRec ·))) = true := by kernel_rfl
theorem k22 : ((Rows.heldRow.loopsOut == Tryz.f8.resultTypes.toList.any (Tryz.prog.loopsFrom ·))) = true := by kernel_rfl
theorem k23 : ((Rows.heldRow.plainKeys == Tryz.prog.plainKeys)) = true := by kernel_rfl
theorem k24 : (Rows.heldRow.shortTexts.isNone) = true := by kernel_rfl
theorem k25 : (Tryz.prog.stopsHeard) = true := by kernel_rfl
theorem k26 : (Tryz.prog.mayEnter) = true := by kernel_rfl
theorem k27 : ((Rows.heldRow.lifted == Tryz.prog.liftsFinal)) = true := by kernel_rfl
theorem k28 : ((Tryz.prog.make == some Rows.heldRow.make)) = true := by kernel_rfl
theorem k29 : ((Rows.heldRow.kinds == (if Rows.heldRow.domain.isEmpty then [] else Tryz.f8.params.toList.map fun t => match Tryz.prog.underlying t with | some (.int k) => some k | _ => none))) = true := by kernel_rfl
theorem k30 : ((Rows.heldRow.pinned == Rows.heldRow.pinnedBy)) = true := by kernel_rfl
theorem k31 : ((Rows.heldRow.veiled == (Tryz.f8.params.toList ++ (OpenSpec.ofChange Rows.heldSpec).bare.plain.varTypes Tryz.prog ++ Tryz.f8.resultTypes.toList).any (Tryz.prog.veiledRec ·))) = true := by kernel_rfl
theorem k32 : (Rows.heldRow.veiledFits Tryz.prog Tryz.f8.params.toList (Tryz.f8.params.toList ++ (OpenSpec.ofChange Rows.heldSpec).bare.plain.varTypes Tryz.prog ++ Tryz.f8.resultTypes.toList)) = true := by kernel_rfl
set_option maxRecDepth 100000 in
theorem closed : joinedFacts Tryz.prog 8 Tryz.f8 (OpenSpec.ofChange Rows.heldSpec).bare Rows.heldRow = true := (band (band (band (band (band (band (band (band (band (band (band (band (band (band (band (band (band (band (band (band (band (band (band (band (band (band (band (band (band (band (band k1 k2) k3) k4) k5) k6) k7) k8) k9) k10) k11) k12) k13) k14) k15) k16) k17) k18) k19) k20) k21) k22) k23) k24) k25) k26) k27) k28) k29) k30) k31) k32)
end Go.Proofs.YtbjgpfhbdmcbbaaGreatDoor.held
