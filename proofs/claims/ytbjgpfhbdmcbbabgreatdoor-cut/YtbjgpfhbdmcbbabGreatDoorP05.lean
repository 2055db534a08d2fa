import Derived.Test.YtbjgpfhbdmcbbabGreatDoorP01
import Derived.Lib.BufferWrite
import Derived.OpenShut
import Derived.Laws.BytesArg

/-
  CONTRACTS: turn, Clone.
-/
namespace Go.Proofs.YtbjgpfhbdmcbbabGreatDoor.dna
open Go.RowKit dnamath
set_option linter.unusedVariables false

theorem infoB : (Tryz.prog.info? 5).map (fun i => (i.zero, i.size, i.bytes)) = some (some (.int .u8 0), 1, 1) := by kernel_rfl

def bcells (l : List UInt8) : Array Value := (l.map fun b => Value.int .u8 (b.toNat : Int)).toArray
def rowT (l : List UInt8) (k : Nat) : List UInt8 := List.replicate (l.length - k) 0 ++ turn (l.take k)

theorem made_eq (n : Nat) : madeCells (Value.int .u8 0).cells (n * 1) = bcells (List.replicate n 0) := by
  apply Array.ext
  · simp [size_madeCells, bcells]
  · intro i h1 h2
    have hi : i < n := by simpa [bcells] using h2
    simp [madeCells, bcells, Value.cells, Nat.mod_one]

theorem bcells_size (l : List UInt8) : (bcells l).size = l.length := by simp [bcells]
theorem rowT_length (l : List UInt8) (k : Nat) (h : k ≤ l.length) : (rowT l k).length = l.length := by
  simp [rowT, turn_length]; omega
theorem turn_snoc (l : List UInt8) (c : UInt8) : turn (l ++ [c]) = comp c :: turn l := by simp [turn]
theorem rowT_set {l : List UInt8} {k : Nat} (h : k < l.length) : (rowT l k).set (l.length - 1 - k) (comp l[k]) = rowT l (k + 1) := by
  unfold rowT
  rw [List.take_succ_eq_append_getElem h, turn_snoc]
  have e : l.length - k = (l.length - 1 - k) + 1 := by omega
  have e2 : l.length - (k + 1) = l.length - 1 - k := by omega
  rw [e, e2, List.replicate_succ', List.append_assoc, List.set_append_right _ _ (by simp)]
  simp
theorem rowT_set' (s : ByteArray) (k : Nat) (h : k < s.size) : (rowT s.data.toList k).set (s.size - 1 - k) (comp s[k]) = rowT s.data.toList (k + 1) :=
  rowT_set (l := s.data.toList) (k := k) h
theorem bcells_set (l : List UInt8) (j : Nat) (c : UInt8) : (bcells l).setIfInBounds j (.int .u8 (c.toNat : Int)) = bcells (l.set j c) := by
  simp [bcells, List.map_set]
theorem rowT_all (l : List UInt8) : rowT l l.length = turn l := by simp [rowT]
theorem rowT_zero (l : List UInt8) : rowT l 0 = List.replicate l.length 0 := by simp [rowT, turn]
theorem bcells_at (l : List UInt8) (j : Nat) (h : j < l.length) : (bcells l)[j]? = some (.int .u8 (l[j].toNat : Int)) := by
  simp [bcells, h]
theorem row_cell (w : World) (l : List UInt8) (t : TypeId) (j : Nat) (h : j < l.length) : (w.alloc (.cells (bcells l) t)).cell? ⟨w.heap.size, j, none⟩ = some (.int .u8 (l[j].toNat : Int)) := by
  rw [World.cell?_alloc_mark, bcells_at l j h]

set_option maxHeartbeats 1000000 in
set_option maxRecDepth 100000 in
theorem turn_any (s : ByteArray) (w : World) (hs : s.size ≤ 140737488351232) :
    Calls Tryz.prog 166 #[.string s] w fun e w' => ∃ r : ByteArray, e = .returned (.string r) ∧ r.data.toList = turn s.data.toList ∧ Below w.heap.size w w' := by
  obtain ⟨i0, hi, hz0, hz1, hz2⟩ := info_parts infoB
  have hmk : ∀ W : World, (Instr.makeSlice 53 (.int .i64 (s.size : Int)) (.int .i64 (s.size : Int))).run Tryz.prog W = .ok (.slice (some ⟨W.heap.size, 0, none⟩) s.size s.size) (W.alloc (.cells (bcells (List.replicate s.size 0)) 5)) := fun W => by
    have h := run_make (P := Tryz.prog) W 53 5 i0 (.int .u8 0) Tryz.underlying53 hi hz0 .i64 .i64 (s.size : Int) (s.size : Int) (by omega) (by omega) (by rw [hz2]; omega) (by omega)
    rw [hz1, Int.toNat_natCast, made_eq] at h
    exact h
  have hcv : ∀ W : World, W = w.alloc (.cells (bcells (turn s.data.toList)) 5) → (convert 53 9 (.slice (some ⟨w.heap.size, 0, none⟩) s.size s.size)).run Tryz.prog W = .ok (.string ⟨(turn s.data.toList).toArray⟩) W := fun W hW => by
    subst hW
    have h := run_convert_bytes_back (P := Tryz.prog) (w.alloc (.cells (bcells (turn s.data.toList)) 5)) 53 9 5 ⟨w.heap.size, 0, none⟩ s.size (turn s.data.toList) Tryz.underlying53 Tryz.underlying5 Tryz.underlying9
      (fun j hj => by rw [show (⟨w.heap.size, 0, none⟩ : Addr).add j = ⟨w.heap.size, j, none⟩ by simp [Addr.add]; omega]; exact row_cell w _ _ j hj)
    rw [turn_length, ← Lib.size_eq] at h
    exact h
  go_enter Tryz.func166, Tryz.ntmps166
  go_wp2
  go_loopw [10] (fun i wr => ∃ k : Nat, k ≤ s.size ∧ i = .int .i64 k ∧ wr = w.alloc (.cells (bcells (rowT s.data.toList k)) 5)) (fun i _ => s.size - (intOf i).toNat)
  case atStart => exact ⟨0, Nat.zero_le _, rfl, by rw [rowT_zero, ← Lib.size_eq]⟩
  case round =>
    obtain ⟨k, hk, rfl, rfl⟩ := hrel
    by_cases hlt : k < s.size
    · obtain ⟨v, hv⟩ : ∃ v, (bcells (rowT s.data.toList k))[s.size - 1 - k]? = some v := ⟨_, bcells_at _ _ (by rw [rowT_length _ _ (by rw [← Lib.size_eq]; omega), ← Lib.size_eq]; omega)⟩
      go_wp2_with (go_at_call 178; refine (partner_any _ _).mono ?_; rintro e w' ⟨rfl, rfl⟩; rw [compI_eq])
      go_roundw
      case rel =>
        refine ⟨k + 1, by omega, by go_num, ?_⟩
        rw [bcells_set, rowT_set' s k hlt]
      case measure => simp [intOf]; omega
    · have e : k = s.size := by omega
      subst e
      have hr : rowT s.data.toList s.size = turn s.data.toList := by rw [Lib.size_eq, rowT_all]
      rw [hr]
      have hcv' := hcv _ rfl
      clear hcv hmk
      go_wp2
      go_ret
      exact ⟨_, rfl, rfl, (Below.refl _ _).alloc (Nat.le_refl _) _⟩

set_option maxHeartbeats 1000000 in
set_option maxRecDepth 100000 in
theorem clone_any (s : ByteArray) (w : World) (hs : s.size ≤ 140737488351232) :
    Calls Tryz.prog 144 #[.string s] w fun e w' => e = .returned (.string s) ∧ Below w.heap.size w w' := by
  by_cases h0 : s.size = 0
  · have := empty_of h0
    subst this
    go_enter Tryz.func144, Tryz.ntmps144
    go_wp2
    go_ret
    exact ⟨rfl, Below.refl _ _⟩
  · obtain ⟨i0, hi, hz0, hz1, hz2⟩ := info_parts infoB
    have hmk : ∀ W : World, (Instr.makeSlice 53 (.int .i64 (s.size : Int)) (.int .i64 (s.size : Int))).run Tryz.prog W = .ok (.slice (some ⟨W.heap.size, 0, none⟩) s.size s.size) (W.alloc (.cells (bcells (List.replicate s.size 0)) 5)) := fun W => by
      have h := run_make (P := Tryz.prog) W 53 5 i0 (.int .u8 0) Tryz.underlying53 hi hz0 .i64 .i64 (s.size : Int) (s.size : Int) (by omega) (by omega) (by rw [hz2]; omega) (by omega)
      rw [hz1, Int.toNat_natCast, made_eq] at h
      exact h
    have hinfo : (Tryz.prog.info? 5).map (·.size) = some 1 := by rw [hi]; simp [hz1]
    have hco : Tryz.prog.cellsOf 5 = 1 := by simp [Program.cellsOf, hi, hz1]
    obtain ⟨M, hM⟩ : ∃ M, M = bcells (List.replicate s.size 0) := ⟨_, rfl⟩
    have hMs : M.size = s.size := by rw [hM, bcells_size]; simp
    rw [← hM] at hmk
    have hcp := Lib.run_copy_row_string (P := Tryz.prog) (w.alloc (.cells M 5)) 53 9 3 5 w.heap.size 0 s.size s.size s M 5 Tryz.underlying53 hinfo (heap_alloc_new w _) (Nat.le_refl _) (by omega)
    obtain ⟨Y, hY⟩ : ∃ Y, Y = (M.toList.take 0 ++ Lib.byteCells s.data.toList ++ M.toList.drop (0 + s.size)).toArray := ⟨_, rfl⟩
    rw [← hY] at hcp
    have hYl : Y.toList = Lib.byteCells s.data.toList := by
      rw [hY, List.toList_toArray, List.take_zero, List.nil_append, List.drop_of_length_le (by rw [Array.length_toList]; omega), List.append_nil]
    have hYs : Y.size = s.size := by rw [← Array.length_toList, hYl, Lib.byteCells_length, ← Lib.size_eq]
    have hgY : ((w.alloc (.cells M 5)).setRow w.heap.size Y).heap[w.heap.size]? = some (.cells Y 5 (0, 0)) := setRow_heap _ _ M _ 5 (0, 0) (heap_alloc_new w _)
    have hne : s.data.toList ≠ [] := fun e => h0 (by rw [Lib.size_eq, e]; rfl)
    have hUS := Lib.run_unsafeString_row (P := Tryz.prog) ((w.alloc (.cells M 5)).setRow w.heap.size Y) 253 3 9 5 Tryz.underlying253 hco w.heap.size Y.size (by unfold World.shape?; rw [hgY]) s.data.toList hne (by rw [← Lib.size_eq]; omega) (by rw [← Lib.size_eq]; omega)
      (fun j x hx => Lib.cells_of_row hgY Y.size j _ (by rw [List.take_of_length_le (by rw [Array.length_toList]; exact Nat.le_refl _), hYl]; simp [Lib.byteCells, hx]))
    rw [← Lib.size_eq] at hUS
    clear hY hM
    have hb1 : Below w.heap.size w (w.alloc (.cells M 5)) := (Below.refl _ w).alloc (Nat.le_refl _) _
    have hb2 : Below w.heap.size (w.alloc (.cells M 5)) ((w.alloc (.cells M 5)).setRow w.heap.size Y) := ⟨rfl, rfl, rfl, by simp, fun k hk => setRow_other _ _ _ _ (by omega)⟩
    have hfin := Lib.below_freeze (hb1.trans hb2) (p := ⟨w.heap.size, 0, none⟩) (Nat.le_refl _) s.size
    clear hgY hYl hb1 hb2 hinfo hco
    go_enter Tryz.func144, Tryz.ntmps144
    go_wp2
    go_ret
    exact ⟨rfl, hfin⟩
end Go.Proofs.YtbjgpfhbdmcbbabGreatDoor.dna

/-
  CONTRACTS: canonOf, leastPart, markOf; Turned, Canon, Mark of package dna.
-/
namespace Go.Proofs.YtbjgpfhbdmcbbabGreatDoor.dna
open Go.RowKit dnamath
set_option linter.unusedVariables false

set_option maxHeartbeats 400000 in
set_option maxRecDepth 100000 in
theorem canonOf_any (s : ByteArray) (w : World) (hs : s.size ≤ 140737488351232) :
    Calls Tryz.prog 160 #[.string s] w fun e w' => ∃ r : ByteArray, e = .returned (.string r) ∧ r.data.toList = minL s.data.toList (turn s.data.toList) ∧ Below w.heap.size w w' := by
  have hmin := @Lib.run_min_strs Tryz.prog
  go_enter Tryz.func160, Tryz.ntmps160
  go_wp2_with (go_at_call 166; refine (turn_any _ _ hs).mono ?_; rintro e w' ⟨r, rfl, hr, hb⟩)
  go_ret
  exact ⟨_, rfl, by rw [minS_data, hr], hb⟩

theorem cut_extract (s : ByteArray) (k m : Nat) : (s.extract k (k + m)).data.toList = cut s.data.toList k m := by
  rw [Lib.extract_data, cut]; congr 1; omega
theorem cut_extract0 (s : ByteArray) (m : Nat) : (s.extract 0 m).data.toList = cut s.data.toList 0 m := by
  rw [Lib.extract_data, cut]; congr 1
theorem lp_start {s : ByteArray} {m : Nat} (h : m ≤ s.size) : Least (PartTo s.data.toList m 1) (s.extract 0 m).data.toList := by
  rw [cut_extract0]; exact least_start (by rw [← Lib.size_eq]; exact h)
theorem lp_step {s r : ByteArray} {m k : Nat} (h : k + m ≤ s.size) (hr : Least (PartTo s.data.toList m k) r.data.toList) : Least (PartTo s.data.toList m (k + 1)) (Lib.minS r (s.extract k (k + m))).data.toList := by
  rw [minS_data, cut_extract]; exact least_step (by rw [← Lib.size_eq]; exact h) hr
theorem lp_end {s r : ByteArray} {m k : Nat} (h : s.size < k + m) (hr : Least (PartTo s.data.toList m k) r.data.toList) : Least (Part s.data.toList m) r.data.toList :=
  hr.congr (part_of_to (by rw [← Lib.size_eq]; exact h))

theorem slice_km (s : ByteArray) (k m : Nat) (h : k + m ≤ s.size) (hs : s.size ≤ 140737488351232) (w : World) : (Instr.slice 9 (.string s) (some (.int .i64 (k : Int))) (some (.int .i64 ((k : Int) + (m : Int)))) none).run Tryz.prog w = .ok (.string (s.extract k (k + m))) w := by
  have := run_slice_string (P := Tryz.prog) (w := w) 9 s .i64 .i64 (k : Int) ((k : Int) + (m : Int)) Tryz.underlying9 (by omega) (by omega) (by omega)
  rw [this]
  have e1 : ((k : Int)).toNat = k := by omega
  have e2 : ((k : Int) + (m : Int)).toNat = k + m := by omega
  rw [e1, e2]

set_option maxHeartbeats 400000 in
set_option maxRecDepth 100000 in
theorem leastPart_any (s : ByteArray) (m : Nat) (w : World) (hs : s.size ≤ 140737488351232) (hm : m ≤ s.size) :
    Calls Tryz.prog 165 #[.string s, .int .i64 (m : Int)] w fun e w' => ∃ r : ByteArray, e = .returned (.string r) ∧ Least (Part s.data.toList m) r.data.toList ∧ w' = w := by
  have hmin := @Lib.run_min_strs Tryz.prog
  go_enter Tryz.func165, Tryz.ntmps165
  go_wp2
  go_loop [5, 6] (fun l i => ∃ (k : Nat) (r : ByteArray), 1 ≤ k ∧ k + m ≤ s.size + 1 ∧ i = .int .i64 k ∧ l = .string r ∧ Hid (Least (PartTo s.data.toList m k) r.data.toList)) (fun _ i => s.size + 1 - (intOf i).toNat)
  case atStart => exact ⟨1, _, by omega, by omega, rfl, rfl, lp_start hm⟩
  case round =>
    obtain ⟨k, r, hk1, hk, rfl, rfl, hl⟩ := hrel
    by_cases hlt : k + m ≤ s.size
    · have hsl := slice_km s k m hlt hs
      go_wp2
      go_round
      case rel => exact ⟨k + 1, _, by omega, by omega, by go_num, rfl, lp_step hlt hl.out⟩
      case measure => simp [intOf]; omega
    · go_wp2
      go_ret
      exact ⟨r, rfl, lp_end (by omega) hl.out, rfl⟩

set_option maxHeartbeats 400000 in
set_option maxRecDepth 100000 in
theorem markOf_any (s : ByteArray) (m : Nat) (w : World) (hs : s.size ≤ 140737488351232) (hm : m ≤ s.size) :
    Calls Tryz.prog 145 #[.string s, .int .i64 (m : Int)] w fun e w' => ∃ r : ByteArray, e = .returned (.string r) ∧ Least (Both s.data.toList m) r.data.toList ∧ Below w.heap.size w w' := by
  have hmin := @Lib.run_min_strs Tryz.prog
  go_enter Tryz.func145, Tryz.ntmps145
  go_wp2_with (go_at_call 165; refine (leastPart_any _ m _ hs hm).mono ?_; rintro e w' ⟨a, rfl, ha, rfl⟩)
  go_wp2_with (go_at_call 166; refine (turn_any _ _ hs).mono ?_; rintro e w' ⟨t, rfl, ht, hb⟩)
  have hts : t.size = s.size := by rw [Lib.size_eq, ht, turn_length, ← Lib.size_eq]
  refine (leastPart_any t m _ (by omega) (by omega)).mono ?_
  rintro e w' ⟨b, rfl, hb2, rfl⟩
  have HB : Hid (Least (Part (turn s.data.toList) m) b.data.toList) := by rw [← ht]; exact hb2
  clear hb2 hts ht
  go_wp2
  go_ret
  exact ⟨_, rfl, by rw [minS_data]; exact ha.min HB.out, hb⟩

/-- what Turned answers -/
def TurnedIs (s r : ByteArray) (e : Int) : Prop := (wordB s.data.toList = true ∧ e = 0 ∧ r.data.toList = turn s.data.toList) ∨ (wordB s.data.toList = false ∧ e = 1 ∧ r.data.toList = [])
def CanonIs (s r : ByteArray) (e : Int) : Prop := (wordB s.data.toList = true ∧ e = 0 ∧ r.data.toList = minL s.data.toList (turn s.data.toList)) ∨ (wordB s.data.toList = false ∧ e = 1 ∧ r.data.toList = [])
def MarkIs (s : ByteArray) (m : Int) (r : ByteArray) (e : Int) : Prop :=
  ((wordB s.data.toList = true ∧ 1 ≤ m ∧ m ≤ s.size) ∧ e = 0 ∧ Least (Both s.data.toList m.toNat) r.data.toList) ∨ (¬ (wordB s.data.toList = true ∧ 1 ≤ m ∧ m ≤ s.size) ∧ e = 1 ∧ r.data.toList = [])

theorem canon_size {s r : ByteArray} (h : r.data.toList = minL s.data.toList (turn s.data.toList)) : r.size = s.size := by
  rw [Lib.size_eq, h, Lib.size_eq]
  exact minL_length rfl (turn_length _)
theorem both_size {s r : ByteArray} {m : Nat} (h : Least (Both s.data.toList m) r.data.toList) : r.size = m := by
  rw [Lib.size_eq]
  rcases h.1 with ⟨i, hi, e⟩ | ⟨i, hi, e⟩
  · rw [e, cut_length hi]
  · rw [e, cut_length hi]

set_option maxHeartbeats 400000 in
set_option maxRecDepth 100000 in
theorem Canon_any (s : ByteArray) (w : World) (hs : s.size ≤ 140737488351232) :
    Calls Tryz.prog 134 #[.string s] w fun e w' => ∃ (r : ByteArray) (n : Int), e = .returned (.tuple #[.string r, .int .i64 n]) ∧ CanonIs s r n ∧ Below w.heap.size w w' := by
  have hs' : s.size ≤ maxLen := by unfold maxLen; omega
  cases hw : wordB s.data.toList with
  | true =>
    have HW : Hid (wordB s.data.toList = true) := hw
    clear hw
    go_enter Tryz.func134, Tryz.ntmps134
    go_wp2_with (first | (go_at_call 143; refine (isWord_any _ _ hs').mono ?_; rintro e w' ⟨rfl, rfl⟩; rw [HW.out]) | (go_at_call 160; refine (canonOf_any _ _ hs).mono ?_; rintro e w' ⟨r, rfl, hr, hb⟩))
    have hz := canon_size hr
    refine (clone_any r _ (by omega)).mono ?_
    rintro e w2 ⟨rfl, hb2⟩
    go_wp2
    go_ret2
    exact ⟨r, 0, rfl, .inl ⟨HW.out, rfl, hr⟩, hb.trans (hb2.mono hb.size)⟩
  | false =>
    have HW : Hid (wordB s.data.toList = false) := hw
    clear hw
    go_enter Tryz.func134, Tryz.ntmps134
    go_wp2_with (first | (go_at_call 143; refine (isWord_any _ _ hs').mono ?_; rintro e w' ⟨rfl, rfl⟩; rw [HW.out]))
    go_ret2
    exact ⟨_, 1, rfl, .inr ⟨HW.out, rfl, rfl⟩, Below.refl _ _⟩

set_option maxHeartbeats 800000 in
set_option maxRecDepth 100000 in
theorem Mark_any (s : ByteArray) (m : Int) (w : World) (hs : s.size ≤ 140737488351232) :
    Calls Tryz.prog 116 #[.string s, .int .i64 m] w fun e w' => ∃ (r : ByteArray) (n : Int), e = .returned (.tuple #[.string r, .int .i64 n]) ∧ MarkIs s m r n ∧ Below w.heap.size w w' := by
  have hs' : s.size ≤ maxLen := by unfold maxLen; omega
  cases hw : wordB s.data.toList with
  | true =>
    have HW : Hid (wordB s.data.toList = true) := hw
    clear hw
    by_cases h1 : m < 1
    · have hd : decide (m < 1) = true := by simpa using h1
      go_enter Tryz.func116, Tryz.ntmps116
      go_wp2_with (first | (go_at_call 143; refine (isWord_any _ _ hs').mono ?_; rintro e w' ⟨rfl, rfl⟩; rw [HW.out]))
      go_ret2
      exact ⟨_, 1, rfl, .inr ⟨by omega, rfl, rfl⟩, Below.refl _ _⟩
    by_cases h2 : (s.size : Int) < m
    · go_enter Tryz.func116, Tryz.ntmps116
      go_wp2_with (first | (go_at_call 143; refine (isWord_any _ _ hs').mono ?_; rintro e w' ⟨rfl, rfl⟩; rw [HW.out]))
      go_ret2
      exact ⟨_, 1, rfl, .inr ⟨by omega, rfl, rfl⟩, Below.refl _ _⟩
    · obtain ⟨k, rfl⟩ : ∃ k : Nat, m = (k : Int) := ⟨m.toNat, by omega⟩
      have hk : k ≤ s.size := by omega
      go_enter Tryz.func116, Tryz.ntmps116
      go_wp2_with (first | (go_at_call 143; refine (isWord_any _ _ hs').mono ?_; rintro e w' ⟨rfl, rfl⟩; rw [HW.out]) | (go_at_call 145; refine (markOf_any _ k _ hs hk).mono ?_; rintro e w' ⟨r, rfl, hr, hb⟩))
      have hz := both_size hr
      refine (clone_any r _ (by omega)).mono ?_
      rintro e w2 ⟨rfl, hb2⟩
      go_wp2
      go_ret2
      exact ⟨r, 0, rfl, .inl ⟨⟨HW.out, by omega, by omega⟩, rfl, by simpa using hr⟩, hb.trans (hb2.mono hb.size)⟩
  | false =>
    have HW : Hid (wordB s.data.toList = false) := hw
    clear hw
    go_enter Tryz.func116, Tryz.ntmps116
    go_wp2_with (first | (go_at_call 143; refine (isWord_any _ _ hs').mono ?_; rintro e w' ⟨rfl, rfl⟩; rw [HW.out]))
    go_ret2
    exact ⟨_, 1, rfl, .inr ⟨by rw [HW.out]; simp, rfl, rfl⟩, Below.refl _ _⟩
end Go.Proofs.YtbjgpfhbdmcbbabGreatDoor.dna

/-
  CONTRACTS of quernkeep: pick, letters.
-/
namespace Go.Proofs.YtbjgpfhbdmcbbabGreatDoor.keep
open Go.RowKit dnamath dna
set_option linter.unusedVariables false

set_option maxHeartbeats 400000 in
set_option maxRecDepth 100000 in
theorem pick_any (c n : Int) (w : World) (hc : -9223372036854775808 ≤ c ∧ c ≤ 9223372036854775807) (hn : 1 ≤ n) (hn2 : n ≤ 9223372036854775807) :
    Calls Tryz.prog 17 #[.int .i64 c, .int .i64 n] w fun e w' => ∃ p : Nat, e = .returned (.int .i64 (p : Int)) ∧ (p : Int) < n ∧ w' = w := by
  obtain ⟨hc1, hc2⟩ := hc
  have hn0 : (n == 0) = false := by simp; omega
  by_cases h0 : c < 0
  · have hm := Int.emod_nonneg (-(c + 1)) (show n ≠ 0 by omega)
    have hl := Int.emod_lt_of_pos (-(c + 1)) (show 0 < n by omega)
    obtain ⟨p, hp⟩ : ∃ p : Nat, (-(c + 1)) % n = (p : Int) := ⟨((-(c + 1)) % n).toNat, by omega⟩
    have HP : Hid ((-(c + 1)) % n = (p : Int)) := hp
    have HL : Hid ((-(c + 1)) % n < n) := hl
    clear hm hl hp
    go_enter Tryz.func17, Tryz.ntmps17
    go_wp2
    go_ret
    refine ⟨p, ?_, by have := HP.out; have := HL.out; omega, rfl⟩
    rw [← HP.out, ← Int.tmod_eq_emod_of_nonneg (by omega), Int.neg_tmod]; rfl
  · have hm := Int.emod_nonneg c (show n ≠ 0 by omega)
    have hl := Int.emod_lt_of_pos c (show 0 < n by omega)
    obtain ⟨p, hp⟩ : ∃ p : Nat, c % n = (p : Int) := ⟨(c % n).toNat, by omega⟩
    have HP : Hid (c % n = (p : Int)) := hp
    have HL : Hid (c % n < n) := hl
    clear hm hl hp
    go_enter Tryz.func17, Tryz.ntmps17
    go_wp2
    go_ret
    refine ⟨p, ?_, by have := HP.out; have := HL.out; omega, rfl⟩
    rw [← HP.out]; first | rfl | (rw [← Int.tmod_eq_emod_of_nonneg (by omega)]; rfl)

/-- a slice of integers that came in -/
def IsRow (w : World) (a : Option Addr) (len cap : Nat) (zs : List Int) : Prop :=
  (a = none ∧ len = 0 ∧ cap = 0 ∧ zs = []) ∨
  ∃ x, a = some x ∧ len ≤ cap ∧ cap ≤ maxLen ∧ zs.length = cap ∧ (∀ i, i < zs.length → w.cell? (x.add i) = some (.int .i64 (zs.getD i 0))) ∧ ∀ n ∈ zs, (Lit.int .i64 n).wf = true

theorem IsRow.later {w w' : World} {a : Option Addr} {len cap : Nat} {zs : List Int} (h : IsRow w a len cap zs) (hb : Below w.heap.size w w') : IsRow w' a len cap zs := by
  rcases h with h | ⟨x, h1, h2, h3, h4, h5, h6⟩
  · exact .inl h
  · exact .inr ⟨x, h1, h2, h3, h4, fun i hi => (hb.cell (World.block_lt_of_cell? _ _ (h5 i hi))).trans (h5 i hi), h6⟩

def ucells (l : List UInt8) : List Value := l.map fun b => Value.int .u8 (b.toNat : Int)

theorem conv_own {w : World} {base : Nat} {v : Value} {l : List UInt8} (h : w.ownsRow base 5 1 v l.length (ucells l)) :
    (convert 53 9 v).run Tryz.prog w = .ok (.string ⟨l.toArray⟩) w := by
  rcases h.2 with ⟨rfl, h0⟩ | ⟨g, cap, cur, rfl, hg, hh, hle, hm, hs, ht⟩
  · have : l = [] := List.eq_nil_of_length_eq_zero h0
    subst this
    rw [run_convert_bytes_nil w 53 5 Tryz.underlying53 Tryz.underlying5 0 0 9 Tryz.underlying9]
    rfl
  · refine run_convert_bytes_back (P := Tryz.prog) w 53 9 5 ⟨g, 0, none⟩ cap l Tryz.underlying53 Tryz.underlying5 Tryz.underlying9 ?_
    intro j hj
    rw [show (⟨g, 0, none⟩ : Addr).add j = ⟨g, j, none⟩ by simp [Addr.add]; omega, h.cellAt j (by omega)]
    simp [ucells, hj]

def okL (free : Bool) (l : List UInt8) : Prop := l.all isBN = true ∧ (free = false → l.all isB = true)
def acgt (p : Nat) : UInt8 := if p % 4 = 0 then 65 else if p % 4 = 1 then 67 else if p % 4 = 2 then 71 else 84
theorem acgt_isB (p : Nat) : isB (acgt p) = true := by
  unfold acgt; repeat (split; decide)
  decide
theorem okL_snoc {free : Bool} {l : List UInt8} (h : okL free l) (p : Nat) : okL free (l ++ [acgt p]) := by
  refine ⟨?_, fun e => ?_⟩
  · rw [List.all_append, h.1]; simp [isBN, acgt_isB]
  · rw [List.all_append, h.2 e]; simp [acgt_isB]
theorem okL_N {l : List UInt8} (h : okL true l) : okL true (l ++ [78]) := by
  refine ⟨?_, fun e => by cases e⟩
  rw [List.all_append, h.1]; decide

theorem infoB1 : (Tryz.prog.info? 5).map (fun i => (i.zero, i.size, i.bytes)) = some (some (.int .u8 0), 1, 1) := by kernel_rfl

theorem cell_one (w : World) (x : Value) (t : TypeId) : ∀ j u, [x][j]? = some u → (w.alloc (.cells #[x] t)).cell? ((⟨w.heap.size, 0, none⟩ : Addr).add j) = some u := by
  intro j u hj
  match j, hj with
  | 0, hj => simp at hj; subst hj; simp [Addr.add]
theorem one_u8 (n : Int) : ∀ u ∈ [Value.int .u8 n], u.oneCell' = true := by
  intro u hu; simp at hu; subst hu; rfl
theorem push_byte {base : Nat} {w wr w1 : World} {v v' : Value} {l : List UInt8} {c : UInt8} {o : Obj} (hown : wr.ownsRow base 5 1 v l.length (ucells l)) (hb : Below base w wr) (hbase : base ≤ wr.heap.size)
    (hown' : w1.ownsRow base 5 1 v' (l.length + 1) (ucells l ++ [.int .u8 (c.toNat : Int)])) (hgrow : (wr.alloc o).grownBy w1 v.ownBlock) :
    w1.ownsRow base 5 1 v' (l ++ [c]).length (ucells (l ++ [c])) ∧ Below base w w1 := by
  refine ⟨?_, (hb.alloc hbase o).grown hgrow (by simp; omega) (fun j hj => (hown.lt j hj).1)⟩
  have e : ucells (l ++ [c]) = ucells l ++ [.int .u8 (c.toNat : Int)] := by simp [ucells]
  rw [e, List.length_append]
  exact hown'

theorem acgt_mod {p : Nat} {r : Nat} {c : UInt8} (h : ((p : Int) % 4) = (r : Int)) (hc : acgt r = c) (hr : r < 4) : c = acgt p := by
  have : p % 4 = r := by omega
  rw [← hc]; unfold acgt
  have e : r % 4 = p % 4 := by omega
  rw [e]

set_option maxHeartbeats 1600000 in
set_option maxRecDepth 100000 in
theorem letters_any (a0 : Option Addr) (len cap : Nat) (zs : List Int) (free : Bool) (w : World) (hrow : IsRow w a0 len cap zs) :
    Calls Tryz.prog 22 #[.slice a0 len cap, .bool free] w fun e w' => ∃ r : ByteArray, e = .returned (.string r) ∧ r.size ≤ 60 ∧ okL free r.data.toList ∧ Below w.heap.size w w' := by
  obtain ⟨i0, hi, hz0, hz1, hz2⟩ := info_parts infoB1
  have hlen : len ≤ 9223372036854775807 := by
    rcases hrow with ⟨_, rfl, _⟩ | ⟨x, _, h2, h3, _⟩
    · omega
    · unfold maxLen at h3; omega
  go_enter Tryz.func22, Tryz.ntmps22
  go_wp2
  go_loopw [5, 6] (fun v i wr => ∃ (k : Nat) (l : List UInt8), k ≤ len ∧ k ≤ 60 ∧ i = .int .i64 k ∧ l.length = k ∧ okL free l ∧ wr.ownsRow w.heap.size 5 1 v l.length (ucells l) ∧ Below w.heap.size w wr) (fun _ i _ => len - (intOf i).toNat)
  case atStart => exact ⟨0, [], Nat.zero_le _, Nat.zero_le _, rfl, rfl, ⟨rfl, fun _ => rfl⟩, World.ownsRow_nil _ _ _ _, Below.refl _ _⟩
  case round =>
    obtain ⟨k, l, hk, hk60, rfl, hl, hok, hown, hb⟩ := hrel
    by_cases hlt : k < len ∧ k < 60
    · obtain ⟨hlt, hlt60⟩ := hlt
      rcases hrow with ⟨_, rfl, _⟩ | ⟨⟨b, off, spot⟩, rfl, h2, h3, h4, h5, h6⟩
      · omega
      have hc := h5 k (by omega)
      have hspot : spot = none := by
        have := World.cell?_spot hc
        unfold Addr.add at this
        split at this
        · exact this
        · rename_i h; have h5' := World.cell?_spot (h5 0 (by omega)); simpa [Addr.add] using h5'
      subst hspot
      have hcell : wr.cell? ⟨b, off + k, none⟩ = some (.int .i64 (zs.getD k 0)) := by
        have := (hb.cell (World.block_lt_of_cell? _ _ hc)).trans hc
        have e : (⟨b, off, none⟩ : Addr).add k = ⟨b, off + k, none⟩ := by unfold Addr.add; split <;> simp_all
        rw [e] at this
        exact this
      obtain ⟨z, hz⟩ : ∃ z, z = zs.getD k 0 := ⟨_, rfl⟩
      have hzb : -9223372036854775808 ≤ z ∧ z ≤ 9223372036854775807 := by
        rw [hz]; simpa using range_i64 h6 k
      rw [← hz] at hcell
      clear hz h5 h6 hc
      have HO : Hid (okL free l) := hok
      have HL : Hid (l.length = k) := hl
      have hbs : w.heap.size ≤ wr.heap.size := hb.size
      clear hok hl
      go_wp2_with (go_at_call 17; fail)
      refine (pick_any _ _ _ hzb (by omega) (by omega)).mono ?_
      rintro e w' ⟨p, rfl, hp, rfl⟩
      have hmx : l.length + 1 ≤ maxLen := by have := HL.out; unfold maxLen; omega
      have hby : (l.length + 1) * 1 ≤ 140737488355328 := by have := HL.out; omega
      by_cases hN : ((p : Int) == 39) = true ∧ free = true
      · obtain ⟨hp39, rfl⟩ := hN
        go_wp2_with (at_builtin; refine wpList_append_own _ rfl (.tmp 28) (.tmp 29) 53 rfl w.heap.size 5 i0 (.int .u8 0) 1 1 Tryz.underlying53 hi hz0 hz1 hz2 rfl (by decide) _ _ _ rfl (hown.alloc _) ⟨w'.heap.size, 0, none⟩ 1 1 [.int .u8 ((78 : UInt8).toNat : Int)] rfl rfl (cell_one _ _ _) (one_u8 _) hmx hby (by simp; omega) ?_; intro v' w1 hown' hgrow _)
        obtain ⟨R1, R2⟩ := push_byte (c := 78) hown hb hbs hown' hgrow
        clear hown' hgrow hown hb hcell
        go_wp2
        go_roundw
        case rel => exact ⟨k + 1, l ++ [78], by omega, by omega, by go_num, by rw [List.length_append, HL.out]; rfl, okL_N HO.out, R1, R2⟩
        case measure => simp [intOf]; omega
      · have h4 : ((p : Int) % 4 = ((0 : Nat) : Int)) ∨ ((p : Int) % 4 = ((1 : Nat) : Int)) ∨ ((p : Int) % 4 = ((2 : Nat) : Int)) ∨ ((p : Int) % 4 = ((3 : Nat) : Int)) := by omega
        have hg : ((p : Int) == 39) = false ∨ (((p : Int) == 39) = true ∧ free = false) := by
          cases hx : ((p : Int) == 39) with
          | false => exact .inl rfl
          | true => cases hf : free with
            | false => exact .inr ⟨rfl, rfl⟩
            | true => exact absurd ⟨hx, hf⟩ hN
        clear hN
        rcases h4 with hr | hr | hr | hr
        · have HA : Hid ((65 : UInt8) = acgt p) := acgt_mod (r := 0) hr rfl (by omega)
          have hr' : (p : Int) % 4 = 0 := hr
          clear hr
          rcases hg with hg | ⟨hg, rfl⟩
          all_goals
            go_wp2_with (at_builtin; refine wpList_append_own _ rfl (.tmp 31) (.tmp 35) 53 rfl w.heap.size 5 i0 (.int .u8 0) 1 1 Tryz.underlying53 hi hz0 hz1 hz2 rfl (by decide) _ _ _ rfl (hown.alloc _) ⟨w'.heap.size, 0, none⟩ 1 1 [.int .u8 ((65 : UInt8).toNat : Int)] rfl rfl (cell_one _ _ _) (one_u8 _) hmx hby (by simp; omega) ?_; intro v' w1 hown' hgrow _)
            obtain ⟨R1, R2⟩ := push_byte (c := 65) hown hb hbs hown' hgrow
            clear hown' hgrow hown hb hcell
            go_wp2
            go_roundw
            case rel => exact ⟨k + 1, l ++ [65], by omega, by omega, by go_num, by rw [List.length_append, HL.out]; rfl, by rw [HA.out]; exact okL_snoc HO.out p, R1, R2⟩
            case measure => simp [intOf]; omega
        · have HA : Hid ((67 : UInt8) = acgt p) := acgt_mod (r := 1) hr rfl (by omega)
          have hr' : (p : Int) % 4 = 1 := hr
          clear hr
          rcases hg with hg | ⟨hg, rfl⟩
          all_goals
            go_wp2_with (at_builtin; refine wpList_append_own _ rfl (.tmp 31) (.tmp 35) 53 rfl w.heap.size 5 i0 (.int .u8 0) 1 1 Tryz.underlying53 hi hz0 hz1 hz2 rfl (by decide) _ _ _ rfl (hown.alloc _) ⟨w'.heap.size, 0, none⟩ 1 1 [.int .u8 ((67 : UInt8).toNat : Int)] rfl rfl (cell_one _ _ _) (one_u8 _) hmx hby (by simp; omega) ?_; intro v' w1 hown' hgrow _)
            obtain ⟨R1, R2⟩ := push_byte (c := 67) hown hb hbs hown' hgrow
            clear hown' hgrow hown hb hcell
            go_wp2
            go_roundw
            case rel => exact ⟨k + 1, l ++ [67], by omega, by omega, by go_num, by rw [List.length_append, HL.out]; rfl, by rw [HA.out]; exact okL_snoc HO.out p, R1, R2⟩
            case measure => simp [intOf]; omega
        · have HA : Hid ((71 : UInt8) = acgt p) := acgt_mod (r := 2) hr rfl (by omega)
          have hr' : (p : Int) % 4 = 2 := hr
          clear hr
          rcases hg with hg | ⟨hg, rfl⟩
          all_goals
            go_wp2_with (at_builtin; refine wpList_append_own _ rfl (.tmp 31) (.tmp 35) 53 rfl w.heap.size 5 i0 (.int .u8 0) 1 1 Tryz.underlying53 hi hz0 hz1 hz2 rfl (by decide) _ _ _ rfl (hown.alloc _) ⟨w'.heap.size, 0, none⟩ 1 1 [.int .u8 ((71 : UInt8).toNat : Int)] rfl rfl (cell_one _ _ _) (one_u8 _) hmx hby (by simp; omega) ?_; intro v' w1 hown' hgrow _)
            obtain ⟨R1, R2⟩ := push_byte (c := 71) hown hb hbs hown' hgrow
            clear hown' hgrow hown hb hcell
            go_wp2
            go_roundw
            case rel => exact ⟨k + 1, l ++ [71], by omega, by omega, by go_num, by rw [List.length_append, HL.out]; rfl, by rw [HA.out]; exact okL_snoc HO.out p, R1, R2⟩
            case measure => simp [intOf]; omega
        · have HA : Hid ((84 : UInt8) = acgt p) := acgt_mod (r := 3) hr rfl (by omega)
          have hr' : (p : Int) % 4 = 3 := hr
          clear hr
          rcases hg with hg | ⟨hg, rfl⟩
          all_goals
            go_wp2_with (at_builtin; refine wpList_append_own _ rfl (.tmp 31) (.tmp 35) 53 rfl w.heap.size 5 i0 (.int .u8 0) 1 1 Tryz.underlying53 hi hz0 hz1 hz2 rfl (by decide) _ _ _ rfl (hown.alloc _) ⟨w'.heap.size, 0, none⟩ 1 1 [.int .u8 ((84 : UInt8).toNat : Int)] rfl rfl (cell_one _ _ _) (one_u8 _) hmx hby (by simp; omega) ?_; intro v' w1 hown' hgrow _)
            obtain ⟨R1, R2⟩ := push_byte (c := 84) hown hb hbs hown' hgrow
            clear hown' hgrow hown hb hcell
            go_wp2
            go_roundw
            case rel => exact ⟨k + 1, l ++ [84], by omega, by omega, by go_num, by rw [List.length_append, HL.out]; rfl, by rw [HA.out]; exact okL_snoc HO.out p, R1, R2⟩
            case measure => simp [intOf]; omega
    · have hcv := conv_own hown
      by_cases h1 : k < len
      all_goals
        go_wp2
        go_ret
        refine ⟨⟨l.toArray⟩, rfl, ?_, by simpa using hok, hb⟩
        simp [ByteArray.size]; omega
end Go.Proofs.YtbjgpfhbdmcbbabGreatDoor.keep
