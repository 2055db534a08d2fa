/-
  CONTRACTS of package dna: Parse, where an input is of a form, or empty.
-/
import Derived.Test.YtbjgpfhbdmcbbaaDoorPa3
namespace Go.Proofs.YtbjgpfhbdmcbbaaDoor.parse
open Go.RowKit Go.Proofs.YtbjgpfhbdmcbbaaDoor.dnamath Go.Proofs.YtbjgpfhbdmcbbaaDoor.dna Go.Proofs.YtbjgpfhbdmcbbaaDoor.pieces Go.Proofs.YtbjgpfhbdmcbbaaDoor.lines
set_option linter.unusedVariables false

set_option maxHeartbeats 1000000 in
set_option maxRecDepth 100000 in
theorem readsOf_empty (a : Addr) (w : World) (hE : EndIs w a) :
    Calls Tryd.prog 23 #[.string ⟨#[]⟩] w fun en w' => en = .returned (.tuple #[.slice none 0 0, .nilIface]) ∧ Below w.heap.size w w' := by
  have hmeth := methodN
  have hE1 : w.cell? ⟨1, 0, none⟩ = some (.iface 150 (.pointer (some a))) := hE
  have hlt := World.block_lt_of_cell? _ _ hE1
  go_enter Tryd.func23, Tryd.ntmps23
  go_wp2
  refine wp_loop_rounds 1 ?_
  rw [rounds_succ]
  go_wp2_with fail
  refine (noneNext a _ hE).mono ?_
  rintro en w2 ⟨rfl, hb2⟩
  have hcE2 : w2.cell? ⟨1, 0, none⟩ = some (.iface 150 (.pointer (some a))) := (hb2.cell (by exact hlt)).trans hE1
  clear hE1
  go_wp2_with (go_at_call 37; refine (errs.is_same a _).mono ?_; rintro en w' ⟨rfl, hw'⟩; have hw2 := hw'.symm; subst hw2)
  go_ret2
  exact ⟨rfl, hb2⟩

/-- what a form reads -/
def FormIs (s : ByteArray) (rs : List (List UInt8)) : Prop :=
  (s = ⟨#[]⟩ ∧ rs = []) ∨ ∃ (q : Bool) (h0 : 0 < s.size), s[0] = (if q then 64 else 62) ∧ (∀ ts : List ByteArray, datas ts = linesL s.data.toList → Recs q ts 0 rs) ∧ rs.length ≤ 20000

theorem readsOf_any (s : ByteArray) (a : Addr) (rs : List (List UInt8)) (w : World) (hs : s.size ≤ 20000) (hE : EndIs w a) (hf : FormIs s rs) :
    Calls Tryd.prog 23 #[.string s] w fun en w' => ∃ v ps, en = .returned (.tuple #[v, .nilIface]) ∧ w'.ownsRow w.heap.size 9 1 v ps.length (scells ps) ∧ datas ps = rs ∧ Below w.heap.size w w' := by
  rcases hf with ⟨rfl, rfl⟩ | ⟨q, h0, hc, hr, hl⟩
  · exact (readsOf_empty a w hE).mono fun en w' ⟨he, hb⟩ => ⟨_, [], he, World.ownsRow_nil _ _ _ _, rfl, hb⟩
  · cases q with
    | false => exact readsOf_false s a rs w hs h0 hc hE hr hl
    | true => exact readsOf_true s a rs w hs h0 hc hE hr hl

set_option maxHeartbeats 400000 in
set_option maxRecDepth 100000 in
theorem Parse_any (s : ByteArray) (a : Addr) (rs : List (List UInt8)) (w : World) (hs : s.size ≤ 20000) (hE : EndIs w a) (hf : FormIs s rs) :
    Calls Tryd.prog 8 #[.string s] w fun en w' => ∃ v ps, en = .returned (.tuple #[v, .int .i64 0]) ∧ w'.ownsRow w.heap.size 9 1 v ps.length (scells ps) ∧ datas ps = rs ∧ Below w.heap.size w w' := by
  go_enter Tryd.func8, Tryd.ntmps8
  go_wp2_with fail
  refine (readsOf_any s a rs w hs hE hf).mono ?_
  rintro en w1 ⟨v, ps, rfl, hown, hd, hb⟩
  have HD : Hid (datas ps = rs) := hd
  clear hd hE hf
  go_wp2
  go_ret2
  exact ⟨v, ps, rfl, hown, HD.out, hb⟩
end Go.Proofs.YtbjgpfhbdmcbbaaDoor.parse
