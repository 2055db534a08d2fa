/-
  fault.Number at a fault; Parse of an input of no form.
-/
import Derived.Test.YtbjgpfhbdmcbbaaDoorPa4
import Derived.Test.YtbjgpfhbdmcbbaaDoorAs1
namespace Go.Proofs.YtbjgpfhbdmcbbaaDoor.parse
open Go.RowKit Go.Proofs.YtbjgpfhbdmcbbaaDoor.dnamath Go.Proofs.YtbjgpfhbdmcbbaaDoor.dna Go.Proofs.YtbjgpfhbdmcbbaaDoor.pieces Go.Proofs.YtbjgpfhbdmcbbaaDoor.lines
set_option linter.unusedVariables false

/-- the variable errors.errorType holds the type error -/
def TypeIs (w : World) : Prop := w.cell? ⟨3, 0, none⟩ = some (.iface 107 (.agg #[.pointer (some ⟨16, 47, none⟩)]))
/-- the variable errForm holds something of one cell -/
def FormErr (w : World) : Prop := ∃ a, w.cell? ⟨2, 0, none⟩ = some (.iface 150 (.pointer (some a)))

theorem as_hit' (e : Addr) (tb : Nat) (old : Value) (w : World) (hg : TypeIs w) (ht0 : w.cell? ⟨tb, 0, none⟩ = some old) (hf0 : w.frozen? ⟨tb, 0, none⟩ = false) :
    Calls Tryd.prog 38 #[.iface 67 (.pointer (some e)), .iface 69 (.pointer (some ⟨tb, 0, none⟩))] w fun ev w' => ev = .returned (.bool true) ∧ w'.cell? ⟨tb, 0, none⟩ = some (.pointer (some e)) ∧ Below tb w w' := by
  refine (errs.as_hit e ⟨tb, 0, none⟩ old w hg ht0 hf0).mono fun ev w' ⟨he, hw⟩ => ⟨he, ?_, ?_⟩
  · have hlt : tb < w.heap.size := World.block_lt_of_cell? _ _ ht0
    rw [hw]
    refine World.cell?_setCell_same (u := old) _ _ _ ?_
    rw [World.cell?_alloc_lt _ _ ⟨tb, 0, none⟩ (by simp; omega), World.cell?_alloc_lt _ _ ⟨tb, 0, none⟩ (by simp; omega), World.cell?_alloc_lt _ _ ⟨tb, 0, none⟩ (by simp; omega), World.cell?_alloc_lt _ _ ⟨tb, 0, none⟩ hlt]
    exact ht0
  · have hlt : tb < w.heap.size := World.block_lt_of_cell? _ _ ht0
    rw [hw]
    exact (((((Below.refl tb w).alloc (by omega) _).alloc (by simp; omega) _).alloc (by simp; omega) _).alloc (by simp; omega) _).setCell (Nat.le_refl _) _

set_option maxHeartbeats 1000000 in
set_option maxRecDepth 100000 in
theorem Number_any (eb : Nat) (n : Int) (w : World) (hg : TypeIs w) (hc : w.cell? ⟨eb, 0, none⟩ = some (.int .i64 n)) :
    Calls Tryd.prog 24 #[.iface 67 (.pointer (some ⟨eb, 0, none⟩))] w fun e w' => e = .returned (.int .i64 n) ∧ Below w.heap.size w w' := by
  have hlt : eb < w.heap.size := World.block_lt_of_cell? _ _ hc
  have hgl : 3 < w.heap.size := World.block_lt_of_cell? _ _ hg
  have hg1 : TypeIs (w.alloc (.cells #[.pointer none] 67)) := (World.cell?_alloc_lt _ _ ⟨3, 0, none⟩ hgl).trans hg
  have ht1 : (w.alloc (.cells #[.pointer none] 67)).cell? ⟨w.heap.size, 0, none⟩ = some (.pointer none) := by simp
  have hf1 : (w.alloc (.cells #[.pointer none] 67)).frozen? ⟨w.heap.size, 0, none⟩ = false := by simp
  have HG : Hid (TypeIs (w.alloc (.cells #[.pointer none] 67))) := hg1
  have HT : Hid ((w.alloc (.cells #[.pointer none] 67)).cell? ⟨w.heap.size, 0, none⟩ = some (.pointer none)) := ht1
  have HF : Hid ((w.alloc (.cells #[.pointer none] 67)).frozen? ⟨w.heap.size, 0, none⟩ = false) := hf1
  clear hg1 ht1 hf1 hg
  go_enter Tryd.func24, Tryd.ntmps24
  go_wp2_with fail
  refine (as_hit' ⟨eb, 0, none⟩ w.heap.size _ _ HG.out HT.out HF.out).mono ?_
  rintro e w2 ⟨rfl, hc2, hb2⟩
  have hce : w2.cell? ⟨eb, 0, none⟩ = some (.int .i64 n) := (hb2.cell (by exact hlt)).trans ((World.cell?_alloc_lt _ _ ⟨eb, 0, none⟩ hlt).trans hc)
  have HB : Hid (Below w.heap.size w w2) := ((Below.refl _ w).alloc (Nat.le_refl _) _).trans hb2
  clear hb2 hc
  go_wp2
  go_ret
  exact ⟨rfl, HB.out⟩

set_option maxHeartbeats 1000000 in
set_option maxRecDepth 100000 in
theorem Parse_A (w : World) (hg : TypeIs w) (hf : FormErr w) :
    Calls Tryd.prog 8 #[.string ⟨#[65]⟩] w fun e w' => e = .returned (.tuple #[.slice none 0 0, .int .i64 3]) ∧ Below w.heap.size w w' := by
  obtain ⟨a, ha⟩ := hf
  have HG : Hid (TypeIs w) := hg
  have hgl : 3 < w.heap.size := World.block_lt_of_cell? _ _ hg
  clear hg
  go_enter Tryd.func8, Tryd.ntmps8
  have HGA : Hid (∀ o, TypeIs (w.alloc o)) := fun o => (World.cell?_alloc_lt _ _ ⟨3, 0, none⟩ hgl).trans HG.out
  have HCA : Hid (∀ x y : Value, (w.alloc (.cells #[.int .i64 3, x, y] 71)).cell? ⟨w.heap.size, 0, none⟩ = some (.int .i64 3)) := fun x y => by simp
  go_wp2_with (first | (go_at_call 24; refine (Number_any w.heap.size 3 _ (HGA.out _) (HCA.out _ _)).mono ?_; rintro e w2 ⟨rfl, hb2⟩) | go_in)
  go_ret2
  exact ⟨rfl, ((Below.refl _ w).alloc (Nat.le_refl _) _).trans (hb2.mono (by simp))⟩
end Go.Proofs.YtbjgpfhbdmcbbaaDoor.parse
