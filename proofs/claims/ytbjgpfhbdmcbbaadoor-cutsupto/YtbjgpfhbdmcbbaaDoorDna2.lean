/-
  CONTRACTS: turn, Clone.
-/
import Derived.Test.YtbjgpfhbdmcbbaaDoorDna1
import Derived.Lib.BufferWrite
namespace Go.Proofs.YtbjgpfhbdmcbbaaDoor.dna
open Go.RowKit Go.Proofs.YtbjgpfhbdmcbbaaDoor.dnamath
set_option linter.unusedVariables false

theorem infoB : (Tryd.prog.info? 5).map (fun i => (i.zero, i.size, i.bytes)) = some (some (.int .u8 0), 1, 1) := by kernel_rfl

def bcells (l : List UInt8) : Array Value := (l.map fun b => Value.int .u8 (b.toNat : Int)).toArray
def rowT (l : List UInt8) (k : Nat) : List UInt8 := List.replicate (l.length - k) 0 ++ turn (l.take k)

theorem made_eq (n : Nat) : madeCells (Value.int .u8 0).cells (n * 1) = bcells (List.replicate n 0) := by
  apply Array.ext
  · simp [size_madeCells, bcells]
  · intro i h1 h2
    have hi : i < n := by simpa [bcells] using h2
    simp [madeCells, bcells, Value.cells, Nat.mod_one]

theorem bcells_size (l : List UInt8) : (bcells l).size = l.length := by simp [bcells]
theorem rowT_length (l : List UInt8) (k : Nat) (h : k ≤ l.length) : (rowT l k).length = l.length := by
  simp [rowT, turn_length]; omega
theorem turn_snoc (l : List UInt8) (c : UInt8) : turn (l ++ [c]) = comp c :: turn l := by simp [turn]
theorem rowT_set {l : List UInt8} {k : Nat} (h : k < l.length) : (rowT l k).set (l.length - 1 - k) (comp l[k]) = rowT l (k + 1) := by
  unfold rowT
  rw [List.take_succ_eq_append_getElem h, turn_snoc]
  have e : l.length - k = (l.length - 1 - k) + 1 := by omega
  have e2 : l.length - (k + 1) = l.length - 1 - k := by omega
  rw [e, e2, List.replicate_succ', List.append_assoc, List.set_append_right _ _ (by simp)]
  simp
theorem rowT_set' (s : ByteArray) (k : Nat) (h : k < s.size) : (rowT s.data.toList k).set (s.size - 1 - k) (comp s[k]) = rowT s.data.toList (k + 1) :=
  rowT_set (l := s.data.toList) (k := k) h
theorem bcells_set (l : List UInt8) (j : Nat) (c : UInt8) : (bcells l).setIfInBounds j (.int .u8 (c.toNat : Int)) = bcells (l.set j c) := by
  simp [bcells, List.map_set]
theorem rowT_all (l : List UInt8) : rowT l l.length = turn l := by simp [rowT]
theorem rowT_zero (l : List UInt8) : rowT l 0 = List.replicate l.length 0 := by simp [rowT, turn]
theorem bcells_at (l : List UInt8) (j : Nat) (h : j < l.length) : (bcells l)[j]? = some (.int .u8 (l[j].toNat : Int)) := by
  simp [bcells, h]
theorem row_cell (w : World) (l : List UInt8) (t : TypeId) (j : Nat) (h : j < l.length) : (w.alloc (.cells (bcells l) t)).cell? ⟨w.heap.size, j, none⟩ = some (.int .u8 (l[j].toNat : Int)) := by
  rw [World.cell?_alloc_mark, bcells_at l j h]

set_option maxHeartbeats 1000000 in
set_option maxRecDepth 100000 in
theorem turn_any (s : ByteArray) (w : World) (hs : s.size ≤ 140737488351232) :
    Calls Tryd.prog 46 #[.string s] w fun e w' => ∃ r : ByteArray, e = .returned (.string r) ∧ r.data.toList = turn s.data.toList ∧ Below w.heap.size w w' := by
  obtain ⟨i0, hi, hz0, hz1, hz2⟩ := info_parts infoB
  have hmk : ∀ W : World, (Instr.makeSlice 54 (.int .i64 (s.size : Int)) (.int .i64 (s.size : Int))).run Tryd.prog W = .ok (.slice (some ⟨W.heap.size, 0, none⟩) s.size s.size) (W.alloc (.cells (bcells (List.replicate s.size 0)) 5)) := fun W => by
    have h := run_make (P := Tryd.prog) W 54 5 i0 (.int .u8 0) Tryd.underlying54 hi hz0 .i64 .i64 (s.size : Int) (s.size : Int) (by omega) (by omega) (by rw [hz2]; omega) (by omega)
    rw [hz1, Int.toNat_natCast, made_eq] at h
    exact h
  have hcv : ∀ W : World, W = w.alloc (.cells (bcells (turn s.data.toList)) 5) → (convert 54 9 (.slice (some ⟨w.heap.size, 0, none⟩) s.size s.size)).run Tryd.prog W = .ok (.string ⟨(turn s.data.toList).toArray⟩) W := fun W hW => by
    subst hW
    have h := run_convert_bytes_back (P := Tryd.prog) (w.alloc (.cells (bcells (turn s.data.toList)) 5)) 54 9 5 ⟨w.heap.size, 0, none⟩ s.size (turn s.data.toList) Tryd.underlying54 Tryd.underlying5 Tryd.underlying9
      (fun j hj => by rw [show (⟨w.heap.size, 0, none⟩ : Addr).add j = ⟨w.heap.size, j, none⟩ by simp [Addr.add]; omega]; exact row_cell w _ _ j hj)
    rw [turn_length, ← Lib.size_eq] at h
    exact h
  go_enter Tryd.func46, Tryd.ntmps46
  go_wp2
  go_loopw [10] (fun i wr => ∃ k : Nat, k ≤ s.size ∧ i = .int .i64 k ∧ wr = w.alloc (.cells (bcells (rowT s.data.toList k)) 5)) (fun i _ => s.size - (intOf i).toNat)
  case atStart => exact ⟨0, Nat.zero_le _, rfl, by rw [rowT_zero, ← Lib.size_eq]⟩
  case round =>
    obtain ⟨k, hk, rfl, rfl⟩ := hrel
    by_cases hlt : k < s.size
    · obtain ⟨v, hv⟩ : ∃ v, (bcells (rowT s.data.toList k))[s.size - 1 - k]? = some v := ⟨_, bcells_at _ _ (by rw [rowT_length _ _ (by rw [← Lib.size_eq]; omega), ← Lib.size_eq]; omega)⟩
      go_wp2_with (go_at_call 59; refine (partner_any _ _).mono ?_; rintro e w' ⟨rfl, rfl⟩; rw [compI_eq])
      go_roundw
      case rel =>
        refine ⟨k + 1, by omega, by go_num, ?_⟩
        rw [bcells_set, rowT_set' s k hlt]
      case measure => simp [intOf]; omega
    · have e : k = s.size := by omega
      subst e
      have hr : rowT s.data.toList s.size = turn s.data.toList := by rw [Lib.size_eq, rowT_all]
      rw [hr]
      have hcv' := hcv _ rfl
      clear hcv hmk
      go_wp2
      go_ret
      exact ⟨_, rfl, rfl, (Below.refl _ _).alloc (Nat.le_refl _) _⟩

theorem bcells_toList (l : List UInt8) : (bcells l).toList = Lib.byteCells l := by simp [bcells, Lib.byteCells]

set_option maxHeartbeats 1000000 in
set_option maxRecDepth 100000 in
theorem clone_any (s : ByteArray) (w : World) (hs : s.size ≤ 140737488351232) :
    Calls Tryd.prog 31 #[.string s] w fun e w' => e = .returned (.string s) ∧ Below w.heap.size w w' := by
  by_cases h0 : s.size = 0
  · have := empty_of h0
    subst this
    go_enter Tryd.func31, Tryd.ntmps31
    go_wp2
    go_ret
    exact ⟨rfl, Below.refl _ _⟩
  · obtain ⟨i0, hi, hz0, hz1, hz2⟩ := info_parts infoB
    have hmk : ∀ W : World, (Instr.makeSlice 54 (.int .i64 (s.size : Int)) (.int .i64 (s.size : Int))).run Tryd.prog W = .ok (.slice (some ⟨W.heap.size, 0, none⟩) s.size s.size) (W.alloc (.cells (bcells (List.replicate s.size 0)) 5)) := fun W => by
      have h := run_make (P := Tryd.prog) W 54 5 i0 (.int .u8 0) Tryd.underlying54 hi hz0 .i64 .i64 (s.size : Int) (s.size : Int) (by omega) (by omega) (by rw [hz2]; omega) (by omega)
      rw [hz1, Int.toNat_natCast, made_eq] at h
      exact h
    have hinfo : (Tryd.prog.info? 5).map (·.size) = some 1 := by rw [hi]; simp [hz1]
    have hco : Tryd.prog.cellsOf 5 = 1 := by simp [Program.cellsOf, hi, hz1]
    obtain ⟨M, hM⟩ : ∃ M, M = bcells (List.replicate s.size 0) := ⟨_, rfl⟩
    have hMs : M.size = s.size := by rw [hM, bcells_size]; simp
    rw [← hM] at hmk
    have hcp := Lib.run_copy_row_string (P := Tryd.prog) (w.alloc (.cells M 5)) 54 9 3 5 w.heap.size 0 s.size s.size s M 5 Tryd.underlying54 hinfo (heap_alloc_new w _) (Nat.le_refl _) (by omega)
    obtain ⟨Y, hY⟩ : ∃ Y, Y = (M.toList.take 0 ++ Lib.byteCells s.data.toList ++ M.toList.drop (0 + s.size)).toArray := ⟨_, rfl⟩
    rw [← hY] at hcp
    have hYl : Y.toList = Lib.byteCells s.data.toList := by
      rw [hY, List.toList_toArray, List.take_zero, List.nil_append, List.drop_of_length_le (by rw [Array.length_toList]; omega), List.append_nil]
    have hYs : Y.size = s.size := by rw [← Array.length_toList, hYl, Lib.byteCells_length, ← Lib.size_eq]
    have hgY : ((w.alloc (.cells M 5)).setRow w.heap.size Y).heap[w.heap.size]? = some (.cells Y 5 (0, 0)) := setRow_heap _ _ M _ 5 (0, 0) (heap_alloc_new w _)
    have hne : s.data.toList ≠ [] := fun e => h0 (by rw [Lib.size_eq, e]; rfl)
    have hUS := Lib.run_unsafeString_row (P := Tryd.prog) ((w.alloc (.cells M 5)).setRow w.heap.size Y) 104 3 9 5 Tryd.underlying104 hco w.heap.size Y.size (by unfold World.shape?; rw [hgY]) s.data.toList hne (by rw [← Lib.size_eq]; omega) (by rw [← Lib.size_eq]; omega)
      (fun j x hx => Lib.cells_of_row hgY Y.size j _ (by rw [List.take_of_length_le (by rw [Array.length_toList]; exact Nat.le_refl _), hYl]; simp [Lib.byteCells, hx]))
    rw [← Lib.size_eq] at hUS
    clear hY hM
    have hb1 : Below w.heap.size w (w.alloc (.cells M 5)) := (Below.refl _ w).alloc (Nat.le_refl _) _
    have hb2 : Below w.heap.size (w.alloc (.cells M 5)) ((w.alloc (.cells M 5)).setRow w.heap.size Y) := ⟨rfl, rfl, rfl, by simp, fun k hk => setRow_other _ _ _ _ (by omega)⟩
    have hfin := Lib.below_freeze (hb1.trans hb2) (p := ⟨w.heap.size, 0, none⟩) (Nat.le_refl _) s.size
    clear hgY hYl hb1 hb2 hinfo hco
    go_enter Tryd.func31, Tryd.ntmps31
    go_wp2
    go_ret
    exact ⟨rfl, hfin⟩
end Go.Proofs.YtbjgpfhbdmcbbaaDoor.dna
