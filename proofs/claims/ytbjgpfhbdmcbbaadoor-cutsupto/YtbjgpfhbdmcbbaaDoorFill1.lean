/-
  CONTRACTS of quernlaw: sameTexts, fill, filled.
-/
import Derived.Test.YtbjgpfhbdmcbbaaDoorPc1
import Derived.RegionTactic
import Derived.Deep.QuietTactic
import Derived.BigQuiet
import Derived.ArgAppend
namespace Go.Proofs.YtbjgpfhbdmcbbaaDoor.fill
open Go.RowKit Go.Proofs.YtbjgpfhbdmcbbaaDoor.dnamath Go.Proofs.YtbjgpfhbdmcbbaaDoor.dna Go.Proofs.YtbjgpfhbdmcbbaaDoor.pieces
set_option linter.unusedVariables false

/-- a list of texts, as it reads -/
def SRow (w : World) (v : Value) (ps : List ByteArray) : Prop :=
  (v = .slice none 0 0 ∧ ps = []) ∨ ∃ g cap, v = .slice (some ⟨g, 0, none⟩) ps.length cap ∧ g < w.heap.size ∧ ∀ (j : Nat) (hj : j < ps.length), w.cell? ⟨g, j, none⟩ = some (.string ps[j])

theorem SRow.later {w w' : World} {v : Value} {ps : List ByteArray} (h : SRow w v ps) (hb : Below w.heap.size w w') : SRow w' v ps := by
  rcases h with h | ⟨g, cap, h1, h2, h3⟩
  · exact .inl h
  · exact .inr ⟨g, cap, h1, Nat.lt_of_lt_of_le h2 hb.size, fun j hj => (hb.cell (by exact h2)).trans (h3 j hj)⟩
theorem SRow.below {B : Nat} {w w' : World} {v : Value} {ps : List ByteArray} (h : SRow w v ps) (hB : w.heap.size ≤ B) {w0 : World} (hb : Below B w0 w') (he : Below w.heap.size w w0) : SRow w' v ps :=
  h.later (he.trans (hb.mono hB))
theorem srow_of_own {w : World} {base : Nat} {v : Value} {ps : List ByteArray} (h : w.ownsRow base 9 1 v ps.length (scells ps)) : SRow w v ps := by
  rcases h.2 with ⟨rfl, h0⟩ | ⟨g, cap, cur, rfl, hg, hh, hr⟩
  · exact .inl ⟨rfl, List.eq_nil_of_length_eq_zero h0⟩
  · refine .inr ⟨g, cap, rfl, lt_of_block hh, fun j hj => ?_⟩
    rw [h.cellAt j (by omega)]
    simp [scells, hj]
theorem srow_nil (w : World) : SRow w (.slice none 0 0) [] := .inl ⟨rfl, rfl⟩

set_option maxHeartbeats 1000000 in
set_option maxRecDepth 100000 in
theorem sameTexts_any (va vb : Value) (ps : List ByteArray) (w : World) (ha : SRow w va ps) (hb : SRow w vb ps) (hl : ps.length ≤ 140737488351232) :
    Calls Tryd.prog 9 #[va, vb] w fun e w' => e = .returned (.bool true) ∧ Below w.heap.size w w' := by
  by_cases h0 : ps = []
  · subst h0
    rcases ha with ⟨rfl, _⟩ | ⟨g, cap, rfl, hg, hc⟩
    all_goals
      rcases hb with ⟨rfl, _⟩ | ⟨g', cap', rfl, hg', hc'⟩
      all_goals
        go_enter Tryd.func9, Tryd.ntmps9
        go_wp2
        refine wp_loop_rounds 1 ?_
        rw [rounds_succ]
        go_wp2
        go_ret
        exact ⟨rfl, Below.refl _ _⟩
  · rcases ha with ⟨_, h⟩ | ⟨g, cap, rfl, hg, hc⟩
    · exact absurd h h0
    rcases hb with ⟨_, h⟩ | ⟨g', cap', rfl, hg', hc'⟩
    · exact absurd h h0
    have HC : Hid (∀ (j : Nat) (hj : j < ps.length), w.cell? ⟨g, j, none⟩ = some (.string ps[j])) := hc
    have HC' : Hid (∀ (j : Nat) (hj : j < ps.length), w.cell? ⟨g', j, none⟩ = some (.string ps[j])) := hc'
    clear hc hc' h0
    go_enter Tryd.func9, Tryd.ntmps9
    go_wp2
    go_loopw [5] (fun i wr => ∃ k : Nat, k ≤ ps.length ∧ i = .int .i64 k ∧ Below w.heap.size w wr) (fun i _ => ps.length - (intOf i).toNat)
    case atStart => exact ⟨0, Nat.zero_le _, rfl, Below.refl _ _⟩
    case round =>
      obtain ⟨k, hk, rfl, hbel⟩ := hrel
      by_cases hlt : k < ps.length
      · have c1 : wr.cell? ⟨g, k, none⟩ = some (.string ps[k]) := (hbel.cell (by exact hg)).trans (HC.out k hlt)
        have c2 : wr.cell? ⟨g', k, none⟩ = some (.string ps[k]) := (hbel.cell (by exact hg')).trans (HC'.out k hlt)
        obtain ⟨x, hx⟩ : ∃ x, x = ps[k] := ⟨_, rfl⟩
        rw [← hx] at c1 c2
        have hI : (k : Int) < (ps.length : Int) := by omega
        clear hx
        go_wp2
        go_quiet (fail)
        go_wp2
        go_roundw
        case rel => exact ⟨k + 1, by omega, by go_num, hbel.trans ⟨rfl, rfl, rfl, Nat.le_refl _, fun _ _ => rfl⟩⟩
        case measure => simp [intOf]; omega
      · go_wp2
        go_ret
        exact ⟨rfl, hbel⟩
end Go.Proofs.YtbjgpfhbdmcbbaaDoor.fill
