/-
  CONTRACTS of package dna: readsOf and Parse, where an input is of a form.
-/
import Derived.Test.YtbjgpfhbdmcbbaaDoorPa1
namespace Go.Proofs.YtbjgpfhbdmcbbaaDoor.parse
open Go.RowKit Go.Proofs.YtbjgpfhbdmcbbaaDoor.dnamath Go.Proofs.YtbjgpfhbdmcbbaaDoor.dna Go.Proofs.YtbjgpfhbdmcbbaaDoor.pieces Go.Proofs.YtbjgpfhbdmcbbaaDoor.lines
set_option linter.unusedVariables false

/-- the variable errEnd holds an error of its own -/
def EndIs (w : World) (a : Addr) : Prop := w.cell? ⟨1, 0, none⟩ = some (.iface 150 (.pointer (some a)))

set_option maxHeartbeats 1000000 in
set_option maxRecDepth 100000 in
theorem fastaNext_end (b g : Nat) (ts : List ByteArray) (a : Addr) (w : World) (h : LS w b g ts.length ts) (hl : ts.length ≤ 1000000) (hE : EndIs w a) :
    Calls Tryd.prog 111 #[.pointer (some ⟨b, 0, none⟩)] w fun en w' => en = .returned (.tuple #[.string ⟨#[]⟩, .iface 150 (.pointer (some a))]) ∧ Below w.heap.size w w' := by
  have HK : Hid (decide (ts.length = ts.length) = true) := decide_eq_true rfl
  unfold EndIs at hE
  go_enter Tryd.func111, Tryd.ntmps111
  go_wp2_with (first | (go_at_call 110; refine (ended_any b g ts.length ts _ h hl).mono ?_; rintro en w' ⟨rfl, hw'⟩; have hw2 := hw'.symm; subst hw2; rw [HK.out]))
  go_quiet (fail)
  go_wp2
  go_ret2
  exact ⟨rfl, (Below.refl _ w).trans ⟨rfl, rfl, rfl, Nat.le_refl _, fun _ _ => rfl⟩⟩

set_option maxHeartbeats 1000000 in
set_option maxRecDepth 100000 in
theorem fastqNext_end (b g : Nat) (ts : List ByteArray) (a : Addr) (w : World) (h : LS w b g ts.length ts) (hl : ts.length ≤ 1000000) (hE : EndIs w a) :
    Calls Tryd.prog 124 #[.pointer (some ⟨b, 0, none⟩)] w fun en w' => en = .returned (.tuple #[.string ⟨#[]⟩, .iface 150 (.pointer (some a))]) ∧ Below w.heap.size w w' := by
  have HK : Hid (decide (ts.length = ts.length) = true) := decide_eq_true rfl
  unfold EndIs at hE
  go_enter Tryd.func124, Tryd.ntmps124
  go_wp2_with (first | (go_at_call 110; refine (ended_any b g ts.length ts _ h hl).mono ?_; rintro en w' ⟨rfl, hw'⟩; have hw2 := hw'.symm; subst hw2; rw [HK.out]))
  go_quiet (fail)
  go_wp2
  go_ret2
  exact ⟨rfl, (Below.refl _ w).trans ⟨rfl, rfl, rfl, Nat.le_refl _, fun _ _ => rfl⟩⟩

set_option maxHeartbeats 1000000 in
set_option maxRecDepth 100000 in
theorem noneNext (a : Addr) (w : World) (hE : EndIs w a) :
    Calls Tryd.prog 109 #[.agg #[]] w fun en w' => en = .returned (.tuple #[.string ⟨#[]⟩, .iface 150 (.pointer (some a))]) ∧ Below w.heap.size w w' := by
  unfold EndIs at hE
  have hlt := World.block_lt_of_cell? _ _ hE
  have hE2 : ∀ o, (w.alloc o).cell? ⟨1, 0, none⟩ = some (.iface 150 (.pointer (some a))) := fun o => (World.cell?_alloc_old _ _ _ (Nat.ne_of_lt hlt)).trans hE
  go_enter Tryd.func109, Tryd.ntmps109
  go_wp2
  go_quiet (fail)
  go_wp2
  go_ret2
  exact ⟨rfl, ((Below.refl _ w).alloc (Nat.le_refl _) _).trans ⟨rfl, rfl, rfl, by simp, fun _ _ => rfl⟩⟩

/-- records of a form, from line k on -/
def Recs (q : Bool) (ts : List ByteArray) : Nat → List (List UInt8) → Prop
  | k, [] => k = ts.length
  | k, r :: rs => ∃ e, ((q = false ∧ RecF ts k e ∧ r = accL ts (k + 1) e) ∨ (q = true ∧ RecQ ts k ∧ e = k + 4 ∧ r = accL ts (k + 1) (k + 2))) ∧ Recs q ts e rs

theorem methodF (v : Value) (w : World) : (Go.method 291 78 v "quern/dna.next").run Tryd.prog w = .ok (111, v) w := by kernel_rfl
theorem methodQ (v : Value) (w : World) : (Go.method 291 84 v "quern/dna.next").run Tryd.prog w = .ok (124, v) w := by kernel_rfl
theorem methodN (v : Value) (w : World) : (Go.method 291 77 v "quern/dna.next").run Tryd.prog w = .ok (109, v) w := by kernel_rfl
end Go.Proofs.YtbjgpfhbdmcbbaaDoor.parse
