/-
  CONTRACTS: canonOf, leastPart, markOf; Turned, Canon, Mark of package dna.
-/
import Derived.Test.YtbjgpfhbdmcbbaaDoorDna2
namespace Go.Proofs.YtbjgpfhbdmcbbaaDoor.dna
open Go.RowKit Go.Proofs.YtbjgpfhbdmcbbaaDoor.dnamath
set_option linter.unusedVariables false

theorem cut_extract (s : ByteArray) (k m : Nat) : (s.extract k (k + m)).data.toList = cut s.data.toList k m := by
  rw [Lib.extract_data, cut]; congr 1; omega
theorem cut_extract0 (s : ByteArray) (m : Nat) : (s.extract 0 m).data.toList = cut s.data.toList 0 m := by
  rw [Lib.extract_data, cut]; congr 1
theorem lp_start {s : ByteArray} {m : Nat} (h : m ≤ s.size) : Least (PartTo s.data.toList m 1) (s.extract 0 m).data.toList := by
  rw [cut_extract0]; exact least_start (by rw [← Lib.size_eq]; exact h)
theorem lp_step {s r : ByteArray} {m k : Nat} (h : k + m ≤ s.size) (hr : Least (PartTo s.data.toList m k) r.data.toList) : Least (PartTo s.data.toList m (k + 1)) (Lib.minS r (s.extract k (k + m))).data.toList := by
  rw [minS_data, cut_extract]; exact least_step (by rw [← Lib.size_eq]; exact h) hr
theorem lp_end {s r : ByteArray} {m k : Nat} (h : s.size < k + m) (hr : Least (PartTo s.data.toList m k) r.data.toList) : Least (Part s.data.toList m) r.data.toList :=
  hr.congr (part_of_to (by rw [← Lib.size_eq]; exact h))

theorem slice_km (s : ByteArray) (k m : Nat) (h : k + m ≤ s.size) (hs : s.size ≤ 140737488351232) (w : World) : (Instr.slice 9 (.string s) (some (.int .i64 (k : Int))) (some (.int .i64 ((k : Int) + (m : Int)))) none).run Tryd.prog w = .ok (.string (s.extract k (k + m))) w := by
  have := run_slice_string (P := Tryd.prog) (w := w) 9 s .i64 .i64 (k : Int) ((k : Int) + (m : Int)) Tryd.underlying9 (by omega) (by omega) (by omega)
  rw [this]
  have e1 : ((k : Int)).toNat = k := by omega
  have e2 : ((k : Int) + (m : Int)).toNat = k + m := by omega
  rw [e1, e2]

set_option maxHeartbeats 400000 in
set_option maxRecDepth 100000 in
theorem leastPart_any (s : ByteArray) (m : Nat) (w : World) (hs : s.size ≤ 140737488351232) (hm : m ≤ s.size) :
    Calls Tryd.prog 45 #[.string s, .int .i64 (m : Int)] w fun e w' => ∃ r : ByteArray, e = .returned (.string r) ∧ Least (Part s.data.toList m) r.data.toList ∧ w' = w := by
  have hmin := @Lib.run_min_strs Tryd.prog
  go_enter Tryd.func45, Tryd.ntmps45
  go_wp2
  go_loop [5, 6] (fun l i => ∃ (k : Nat) (r : ByteArray), 1 ≤ k ∧ k + m ≤ s.size + 1 ∧ i = .int .i64 k ∧ l = .string r ∧ Hid (Least (PartTo s.data.toList m k) r.data.toList)) (fun _ i => s.size + 1 - (intOf i).toNat)
  case atStart => exact ⟨1, _, by omega, by omega, rfl, rfl, lp_start hm⟩
  case round =>
    obtain ⟨k, r, hk1, hk, rfl, rfl, hl⟩ := hrel
    by_cases hlt : k + m ≤ s.size
    · have hsl := slice_km s k m hlt hs
      go_wp2
      go_round
      case rel => exact ⟨k + 1, _, by omega, by omega, by go_num, rfl, lp_step hlt hl.out⟩
      case measure => simp [intOf]; omega
    · go_wp2
      go_ret
      exact ⟨r, rfl, lp_end (by omega) hl.out, rfl⟩

set_option maxHeartbeats 400000 in
set_option maxRecDepth 100000 in
theorem markOf_any (s : ByteArray) (m : Nat) (w : World) (hs : s.size ≤ 140737488351232) (hm : m ≤ s.size) :
    Calls Tryd.prog 32 #[.string s, .int .i64 (m : Int)] w fun e w' => ∃ r : ByteArray, e = .returned (.string r) ∧ Least (Both s.data.toList m) r.data.toList ∧ Below w.heap.size w w' := by
  have hmin := @Lib.run_min_strs Tryd.prog
  go_enter Tryd.func32, Tryd.ntmps32
  go_wp2_with (go_at_call 45; refine (leastPart_any _ m _ hs hm).mono ?_; rintro e w' ⟨a, rfl, ha, rfl⟩)
  go_wp2_with (go_at_call 46; refine (turn_any _ _ hs).mono ?_; rintro e w' ⟨t, rfl, ht, hb⟩)
  have hts : t.size = s.size := by rw [Lib.size_eq, ht, turn_length, ← Lib.size_eq]
  refine (leastPart_any t m _ (by omega) (by omega)).mono ?_
  rintro e w' ⟨b, rfl, hb2, rfl⟩
  have HB : Hid (Least (Part (turn s.data.toList) m) b.data.toList) := by rw [← ht]; exact hb2
  clear hb2 hts ht
  go_wp2
  go_ret
  exact ⟨_, rfl, by rw [minS_data]; exact ha.min HB.out, hb⟩

theorem word_size {s : ByteArray} (h : wordB s.data.toList = true) : 0 < s.size := by
  rw [Lib.size_eq]
  cases hl : s.data.toList with
  | nil => rw [hl] at h; simp [wordB] at h
  | cons a l => simp

/-- what Turned answers -/
def TurnedIs (s r : ByteArray) (e : Int) : Prop := (wordB s.data.toList = true ∧ e = 0 ∧ r.data.toList = turn s.data.toList) ∨ (wordB s.data.toList = false ∧ e = 1 ∧ r.data.toList = [])
def CanonIs (s r : ByteArray) (e : Int) : Prop := (wordB s.data.toList = true ∧ e = 0 ∧ r.data.toList = minL s.data.toList (turn s.data.toList)) ∨ (wordB s.data.toList = false ∧ e = 1 ∧ r.data.toList = [])
def MarkIs (s : ByteArray) (m : Int) (r : ByteArray) (e : Int) : Prop :=
  ((wordB s.data.toList = true ∧ 1 ≤ m ∧ m ≤ s.size) ∧ e = 0 ∧ Least (Both s.data.toList m.toNat) r.data.toList) ∨ (¬ (wordB s.data.toList = true ∧ 1 ≤ m ∧ m ≤ s.size) ∧ e = 1 ∧ r.data.toList = [])

theorem size_of_eq {a b : ByteArray} {l : List UInt8} (h : a.data.toList = l) (hl : l.length = b.size) : a.size = b.size := by rw [Lib.size_eq, h, hl]
theorem canon_size {s r : ByteArray} (h : r.data.toList = minL s.data.toList (turn s.data.toList)) : r.size = s.size := by
  rw [Lib.size_eq, h, Lib.size_eq]
  exact minL_length rfl (turn_length _)
theorem both_size {s r : ByteArray} {m : Nat} (h : Least (Both s.data.toList m) r.data.toList) : r.size = m := by
  rw [Lib.size_eq]
  rcases h.1 with ⟨i, hi, e⟩ | ⟨i, hi, e⟩
  · rw [e, cut_length hi]
  · rw [e, cut_length hi]

set_option maxHeartbeats 800000 in
set_option maxRecDepth 100000 in
theorem Mark_any (s : ByteArray) (m : Int) (w : World) (hs : s.size ≤ 140737488351232) :
    Calls Tryd.prog 19 #[.string s, .int .i64 m] w fun e w' => ∃ (r : ByteArray) (n : Int), e = .returned (.tuple #[.string r, .int .i64 n]) ∧ MarkIs s m r n ∧ Below w.heap.size w w' := by
  have hs' : s.size ≤ maxLen := by unfold maxLen; omega
  cases hw : wordB s.data.toList with
  | true =>
    have HW : Hid (wordB s.data.toList = true) := hw
    clear hw
    by_cases h1 : m < 1
    · have hd : decide (m < 1) = true := by simpa using h1
      go_enter Tryd.func19, Tryd.ntmps19
      go_wp2_with (first | (go_at_call 30; refine (isWord_any _ _ hs').mono ?_; rintro e w' ⟨rfl, rfl⟩; rw [HW.out]))
      go_ret2
      exact ⟨_, 1, rfl, .inr ⟨by omega, rfl, rfl⟩, Below.refl _ _⟩
    by_cases h2 : (s.size : Int) < m
    · go_enter Tryd.func19, Tryd.ntmps19
      go_wp2_with (first | (go_at_call 30; refine (isWord_any _ _ hs').mono ?_; rintro e w' ⟨rfl, rfl⟩; rw [HW.out]))
      go_ret2
      exact ⟨_, 1, rfl, .inr ⟨by omega, rfl, rfl⟩, Below.refl _ _⟩
    · obtain ⟨k, rfl⟩ : ∃ k : Nat, m = (k : Int) := ⟨m.toNat, by omega⟩
      have hk : k ≤ s.size := by omega
      go_enter Tryd.func19, Tryd.ntmps19
      go_wp2_with (first | (go_at_call 30; refine (isWord_any _ _ hs').mono ?_; rintro e w' ⟨rfl, rfl⟩; rw [HW.out]) | (go_at_call 32; refine (markOf_any _ k _ hs hk).mono ?_; rintro e w' ⟨r, rfl, hr, hb⟩))
      have hz := both_size hr
      refine (clone_any r _ (by omega)).mono ?_
      rintro e w2 ⟨rfl, hb2⟩
      go_wp2
      go_ret2
      exact ⟨r, 0, rfl, .inl ⟨⟨HW.out, by omega, by omega⟩, rfl, by simpa using hr⟩, hb.trans (hb2.mono hb.size)⟩
  | false =>
    have HW : Hid (wordB s.data.toList = false) := hw
    clear hw
    go_enter Tryd.func19, Tryd.ntmps19
    go_wp2_with (first | (go_at_call 30; refine (isWord_any _ _ hs').mono ?_; rintro e w' ⟨rfl, rfl⟩; rw [HW.out]))
    go_ret2
    exact ⟨_, 1, rfl, .inr ⟨by rw [HW.out]; simp, rfl, rfl⟩, Below.refl _ _⟩
end Go.Proofs.YtbjgpfhbdmcbbaaDoor.dna
