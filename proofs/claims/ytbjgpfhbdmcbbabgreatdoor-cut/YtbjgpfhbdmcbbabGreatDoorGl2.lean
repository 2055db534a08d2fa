import Derived.Test.YtbjgpfhbdmcbbabGreatDoorGl1
import Derived.Test.YtbjgpfhbdmcbbabGreatDoorP25
import Derived.OpenShut
import Derived.Deep.Slices
import Derived.Deep.DeepHandedRow
import Derived.Deep.DeepWitnessRowRef
import Derived.Stop.LaidErr

/-
  WHAT THE ARGUMENTS ARE, and what the witness of a row takes.
-/
namespace Go.Proofs.YtbjgpfhbdmcbbabGreatDoor.laid2
open Go.ChangeShapes Go.WideShapes Go.ChangeAt Go.RowKit
open parse keep
set_option linter.unusedVariables false

theorem cellsI : Tryz.prog.cellsOf 3 = 1 := by kernel_rfl
theorem cellsR : Tryz.prog.cellsOf 23 = 1 := by kernel_rfl
theorem rows_of {H : Type} {enc : TypeId × Value → H} {W : World} {fuel : Nat} {a0 : Option Addr} {len cap : Nat} {x : DataW H × List MemPlace}
    (h : DataW.trod enc Tryz.prog W 0 (fun _ => true) true fuel 22 [.slice a0 len cap] = some x) : IsRows W a0 len := by
  rcases Go.Deep.open_slice Tryz.underlying22 h with ⟨hcs, _⟩ | ⟨a, l, c, m, n, D, Pl, hcs, _, hl, hm, hmm, _, hel⟩
  · simp at hcs
    obtain ⟨rfl, rfl, rfl⟩ := hcs
    exact ⟨Nat.zero_le _, .inl rfl⟩
  · simp at hcs
    obtain ⟨rfl, rfl, rfl⟩ := hcs
    refine ⟨Nat.le_trans hl hm, ?_⟩
    by_cases h0 : len = 0
    · exact .inl h0
    have key : ∀ i, i < len → ∃ ai li ci zs, W.cell? (a.add i) = some (.slice ai li ci) ∧ IsRow W ai li ci zs := by
      intro i hi
      obtain ⟨cs', hc, hd⟩ := hel i (by rw [hmm]; simp; omega)
      rw [cellsR, Nat.mul_one] at hc
      rcases open_ints Tryz.underlying23 Tryz.underlying3 cellsI hd with ⟨rfl, _⟩ | ⟨y, l', c', zs, rfl, _, hl', hm', hz', _, hcell, hwz⟩
      · exact ⟨none, 0, 0, [], cell_of_cells?_one hc, .inl ⟨rfl, rfl, rfl, rfl⟩⟩
      · exact ⟨some y, l', c', zs, cell_of_cells?_one hc, .inr ⟨y, rfl, hl', hm', by simpa using hz', hcell, hwz⟩⟩
    obtain ⟨b, off, spot⟩ := a
    have hspot : spot = none := by
      obtain ⟨_, _, _, _, hc, _⟩ := key 0 (by omega)
      simpa [Addr.add] using World.cell?_spot hc
    subst hspot
    refine .inr ⟨b, off, rfl, fun i hi => ?_⟩
    obtain ⟨ai, li, ci, zs, hc, hr⟩ := key i hi
    have e : (⟨b, off, none⟩ : Addr).add i = ⟨b, off + i, none⟩ := by unfold Addr.add; split <;> simp_all
    rw [e] at hc
    exact ⟨ai, li, ci, zs, hc, hr⟩
theorem own : ownKnob Tryz.prog.godebug = none := by kernel_rfl
theorem laidOut : laidOutB Tryz.prog = true := by kernel_rfl

/-- the cells that a plain table lies in -/
def flat : DataW Unit → List Value
  | .lit (.int k n) => [.int k n]
  | .agg ds => (ds.map fun | .lit (.int k n) => [Value.int k n] | .agg es => es.map (fun | .lit (.int k n) => Value.int k n | _ => .bool false) | _ => []).flatten
  | _ => []
def putIn (cs : List Value) : Obj → Obj
  | .cells _ t frozen => .cells cs.toArray t frozen
  | o => o
end Go.Proofs.YtbjgpfhbdmcbbabGreatDoor.laid2
