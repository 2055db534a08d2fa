import Derived.Test.YtbjgpfhbdmcbbaaGreatDoorCards
import Derived.JoinedCond
import Derived.WalkKit

/-
  THE CLOSED FACTS of the row of Asked, one by one.
-/
namespace Go.Proofs.YtbjgpfhbdmcbbaaGreatDoor.asked
open Go.ChangeShapes Go.WideShapes Go.ChangeAt Go.RowKit
set_option linter.unusedVariables false

theorem band {a b : Bool} (ha : a = true) (hb : b = true) : (a && b) = true := by rw [ha, hb]; rfl
theorem k1 : (Rows.askedRow.wf (OpenSpec.ofChange (OpenSpec.ofChange Rows.askedSpec).bare)) = true := by kernel_rfl
theorem k2 : (laidOutB Tryz.prog) = true := by kernel_rfl
theorem k3 : (mapsRowed Tryz.prog) = true := by kernel_rfl
theorem k4 : (Tryz.f7.params.all (Tryz.prog.readableRec ·)) = true := by kernel_rfl
theorem k5 : (namedTie Tryz.prog Rows.askedRow.named (OpenSpec.ofChange Rows.askedSpec).bare.vars) = true := by kernel_rfl
theorem k6 : ((Rows.askedRow.stops == [])) = true := by kernel_rfl
theorem k7 : ((Tryz.prog.stops == [])) = true := by kernel_rfl
theorem k8 : ((Rows.askedRow.knobs == [])) = true := by kernel_rfl
theorem k9 : ((Tryz.prog.stopKnobs == [])) = true := by kernel_rfl
theorem k10 : ((Rows.askedRow.inPlace == Tryz.prog.inPlace 7)) = true := by kernel_rfl
theorem k11 : ((Rows.askedRow.unfollowed == Tryz.prog.unfollowed 7)) = true := by kernel_rfl
theorem k12 : ((Rows.askedRow.recurses == Tryz.prog.recurses 7)) = true := by kernel_rfl
theorem k13 : ((Rows.askedRow.named == Tryz.prog.varsNamed 7)) = true := by kernel_rfl
theorem k14 : ((Rows.askedRow.maps == (Tryz.f7.params.toList ++ (OpenSpec.ofChange Rows.askedSpec).bare.plain.varTypes Tryz.prog).any (Tryz.prog.mapsRec ·))) = true := by kernel_rfl
theorem k15 : ((Rows.askedRow.ifaces == (Tryz.f7.params.toList ++ (OpenSpec.ofChange Rows.askedSpec).bare.plain.varTypes Tryz.prog).any (Tryz.prog.ifacesRec ·))) = true := by kernel_rfl
theorem k16 : ((Rows.askedRow.mapsOut == Tryz.prog.mapsAmong Tryz.f7.resultTypes.toList)) = true := by kernel_rfl
theorem k17 : ((Rows.askedRow.loops == (Tryz.f7.params.toList ++ (OpenSpec.ofChange Rows.askedSpec).bare.plain.varTypes Tryz.prog).any (Tryz.prog.loopsFrom ·))) = true := by kernel_rfl
theorem k18 : ((Rows.askedRow.wideKeys == (Tryz.f7.params.toList ++ (OpenSpec.ofChange Rows.askedSpec).bare.plain.varTypes Tryz.prog ++ Tryz.f7.resultTypes.toList).any (Tryz.prog.wideKeysFrom ·))) = true := by kernel_rfl
theorem k19 : ((OpenSpec.ofChange Rows.askedSpec).bare.vars.all (Tryz.prog.varReadable ·)) = true := by kernel_rfl
theorem k20 : (Tryz.f7.resultTypes.all (fun t => Tryz.prog.readableRec t && decide (t < Tryz.prog.types.size))) = true := by kernel_rfl
theorem k21 : ((Rows.askedRow.ifacesOut == Tryz.f7.resultTypes.toList.any (Tryz.prog.ifacesRec ·))) = true := by kernel_rfl
theorem k22 : ((Rows.askedRow.loopsOut == Tryz.f7.resultTypes.toList.any (Tryz.prog.loopsFrom ·))) = true := by kernel_rfl
theorem k23 : ((Rows.askedRow.plainKeys == Tryz.prog.plainKeys)) = true := by kernel_rfl
theorem k24 : (Rows.askedRow.shortTexts.isNone) = true := by kernel_rfl
theorem k25 : (Tryz.prog.stopsHeard) = true := by kernel_rfl
theorem k26 : (Tryz.prog.mayEnter) = true := by kernel_rfl
theorem k27 : ((Rows.askedRow.lifted == Tryz.prog.liftsFinal)) = true := by kernel_rfl
theorem k28 : ((Tryz.prog.make == some Rows.askedRow.make)) = true := by kernel_rfl
theorem k29 : ((Rows.askedRow.kinds == (if Rows.askedRow.domain.isEmpty then [] else Tryz.f7.params.toList.map fun t => match Tryz.prog.underlying t with | some (.int k) => some k | _ => none))) = true := by kernel_rfl
theorem k30 : ((Rows.askedRow.pinned == Rows.askedRow.pinnedBy)) = true := by kernel_rfl
theorem k31 : ((Rows.askedRow.veiled == (Tryz.f7.params.toList ++ (OpenSpec.ofChange Rows.askedSpec).bare.plain.varTypes Tryz.prog ++ Tryz.f7.resultTypes.toList).any (Tryz.prog.veiledRec ·))) = true := by kernel_rfl
theorem k32 : (Rows.askedRow.veiledFits Tryz.prog Tryz.f7.params.toList (Tryz.f7.params.toList ++ (OpenSpec.ofChange Rows.askedSpec).bare.plain.varTypes Tryz.prog ++ Tryz.f7.resultTypes.toList)) = true := by kernel_rfl
set_option maxRecDepth 100000 in
theorem closed : joinedFacts Tryz.prog 7 Tryz.f7 (OpenSpec.ofChange Rows.askedSpec).bare Rows.askedRow = true := (band (band (band (band (band (band (band (band (band (band (band (band (band (band (band (band (band (band (band (band (band (band (band (band (band (band (band (band (band (band (band k1 k2) k3) k4) k5) k6) k7) k8) k9) k10) k11) k12) k13) k14) k15) k16) k17) k18) k19) k20) k21) k22) k23) k24) k25) k26) k27) k28) k29) k30) k31) k32)
end Go.Proofs.YtbjgpfhbdmcbbaaGreatDoor.asked
