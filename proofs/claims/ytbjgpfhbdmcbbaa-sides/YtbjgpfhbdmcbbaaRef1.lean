/-
  CONTRACTS of the reference: Word, turned, canon, mark; Turned, Canon, Mark.
-/
import Derived.Test.YtbjgpfhbdmcbbaaDna3
namespace Go.Proofs.Ytbjgpfhbdmcbbaa.ref
open Go.RowKit Go.Proofs.Ytbjgpfhbdmcbbaa.dnamath Go.Proofs.Ytbjgpfhbdmcbbaa.dna
set_option linter.unusedVariables false

theorem isB_int (c : UInt8) : isB c = true ↔ (c.toNat : Int) = 65 ∨ (c.toNat : Int) = 67 ∨ (c.toNat : Int) = 71 ∨ (c.toNat : Int) = 84 := by
  have e : ∀ d : UInt8, c = d ↔ (c.toNat : Int) = (d.toNat : Int) := fun d => by
    constructor
    · intro h; rw [h]
    · intro h; exact UInt8.toNat_inj.1 (by omega)
  simp only [isB, Bool.or_eq_true, beq_iff_eq]
  rw [e 65, e 67, e 71, e 84]
  have k1 : ((65 : UInt8).toNat : Int) = 65 := rfl
  have k2 : ((67 : UInt8).toNat : Int) = 67 := rfl
  have k3 : ((71 : UInt8).toNat : Int) = 71 := rfl
  have k4 : ((84 : UInt8).toNat : Int) = 84 := rfl
  rw [k1, k2, k3, k4]
  omega

theorem wb_step {s : ByteArray} {k : Nat} (hlt : k < s.size) (ha : (s.data.toList.take k).all isB = true) (h : (s[k].toNat : Int) = 65 ∨ (s[k].toNat : Int) = 67 ∨ (s[k].toNat : Int) = 71 ∨ (s[k].toNat : Int) = 84) :
    (s.data.toList.take (k + 1)).all isB = true := by
  rw [take_snoc s k hlt, List.all_append, ha]
  simp [(isB_int _).2 h]
theorem wb_stop {s : ByteArray} {k : Nat} (hlt : k < s.size) (h : ¬ ((s[k].toNat : Int) = 65 ∨ (s[k].toNat : Int) = 67 ∨ (s[k].toNat : Int) = 71 ∨ (s[k].toNat : Int) = 84)) : wordB s.data.toList = false := by
  have hb : isB s[k] = false := by
    cases hc : isB s[k] with
    | false => rfl
    | true => exact absurd ((isB_int _).1 hc) h
  have hm : s[k] ∈ s.data.toList := by
    have : s[k] = s.data.toList[k]'(by rw [← Lib.size_eq]; exact hlt) := rfl
    rw [this]; exact List.getElem_mem _
  have : s.data.toList.all isB = false := List.all_eq_false.2 ⟨_, hm, by rw [hb]; simp⟩
  simp [wordB, this]

set_option maxHeartbeats 400000 in
set_option maxRecDepth 100000 in
theorem Word_any (s : ByteArray) (w : World) (hs : s.size ≤ 140737488351232) :
    Calls Try.prog 15 #[.string s] w fun e w' => e = .returned (.bool (wordB s.data.toList)) ∧ w' = w := by
  by_cases h0 : s.size = 0
  · have := empty_of h0
    subst this
    go_enter Try.func15, Try.ntmps15
    go_wp2
    refine wp_loop_rounds 1 ?_
    rw [rounds_succ]
    go_wp2
    go_ret
    exact ⟨rfl, rfl⟩
  have hne : s.toList.isEmpty = false := by
    rw [Lib.toList_data]; cases hl : s.data.toList with
    | nil => exact absurd (by rw [Lib.size_eq, hl]; rfl) h0
    | cons a l => rfl
  go_enter Try.func15, Try.ntmps15
  go_wp2
  go_loop [3] (fun i => ∃ k : Nat, k ≤ s.size ∧ i = .int .i64 k ∧ Hid ((s.data.toList.take k).all isB = true)) (fun i => s.size - (intOf i).toNat)
  case atStart => exact ⟨0, Nat.zero_le _, rfl, rfl⟩
  case round =>
    obtain ⟨k, hk, rfl, ha⟩ := hrel
    by_cases hlt : k < s.size
    · go_wp2
      rotate_left 3
      · go_ret
        refine ⟨?_, rfl⟩
        rw [wb_stop hlt (by simp only [bne_iff_ne] at *; omega)]
        rfl
      all_goals
        go_round
        case rel => exact ⟨k + 1, by omega, by go_num, wb_step hlt ha.out (by (try simp only [bne_eq_false_iff_eq] at *); omega)⟩
        case measure => simp [intOf]; omega
    · go_wp2
      go_ret
      have e := take_all s k hlt
      have ha := ha.out
      rw [e] at ha
      have hw := word_of h0
      rw [ha] at hw
      exact ⟨by rw [hw]; rfl, rfl⟩

def compRI (n : Int) : Int := if n = 67 then 71 else if n = 71 then 67 else if n = 84 then 65 else 84
theorem compR_int (c : UInt8) : ((compR c).toNat : Int) = compRI (c.toNat : Int) := by
  unfold compRI compR
  by_cases h1 : c = 67
  · subst h1; decide
  by_cases h2 : c = 71
  · subst h2; decide
  by_cases h3 : c = 84
  · subst h3; decide
  have e : ∀ d : UInt8, ¬ c = d → ¬ (c.toNat : Int) = (d.toNat : Int) := fun d h e => h (UInt8.toNat_inj.1 (by omega))
  have g1 := e 67 h1; have g2 := e 71 h2; have g3 := e 84 h3
  have k1 : ((67 : UInt8).toNat : Int) = 67 := rfl
  have k2 : ((71 : UInt8).toNat : Int) = 71 := rfl
  have k3 : ((84 : UInt8).toNat : Int) = 84 := rfl
  rw [k1] at g1; rw [k2] at g2; rw [k3] at g3
  rw [if_neg g1, if_neg g2, if_neg g3]
  simp [h1, h2, h3]

theorem turnR_snoc (l : List UInt8) (c : UInt8) : turnR (l ++ [c]) = compR c :: turnR l := by simp [turnR]
theorem td_step {s r : ByteArray} {k : Nat} (d : UInt8) (hlt : k < s.size) (hr : r.data.toList = turnR (s.data.toList.take k)) (h : (d.toNat : Int) = compRI (s[k].toNat : Int)) :
    ((⟨#[d]⟩ : ByteArray) ++ r).data.toList = turnR (s.data.toList.take (k + 1)) := by
  rw [take_snoc s k hlt, turnR_snoc, ByteArray.data_append, ← hr]
  have : d = compR s[k] := UInt8.toNat_inj.1 (by rw [← compR_int] at h; omega)
  simp [this]

set_option maxHeartbeats 400000 in
set_option maxRecDepth 100000 in
theorem turned_any (s : ByteArray) (w : World) (hs : s.size ≤ 140737488351232) :
    Calls Try.prog 16 #[.string s] w fun e w' => ∃ r : ByteArray, e = .returned (.string r) ∧ r.data.toList = turnR s.data.toList ∧ w' = w := by
  go_enter Try.func16, Try.ntmps16
  go_wp2
  go_loop [3, 4, 5] (fun o i _ => ∃ (k : Nat) (r : ByteArray), k ≤ s.size ∧ i = .int .i64 k ∧ o = .string r ∧ r.size ≤ k ∧ Hid (r.data.toList = turnR (s.data.toList.take k))) (fun _ i _ => s.size - (intOf i).toNat)
  case atStart => exact ⟨0, _, Nat.zero_le _, rfl, rfl, Nat.le_refl _, rfl⟩
  case round =>
    obtain ⟨k, r, hk, rfl, rfl, hz, hr⟩ := hrel
    by_cases hlt : k < s.size
    · go_wp2
      all_goals
        go_round
        case rel =>
          refine ⟨k + 1, _, by omega, by go_num, rfl, by rw [ByteArray.size_append']; show 1 + r.size ≤ _; omega, td_step _ hlt hr.out ?_⟩
          unfold compRI
          simp only [beq_iff_eq, beq_eq_false_iff_ne] at *
          simp [*]
        case measure => simp [intOf]; omega
    · go_wp2
      go_ret
      have e := take_all s k hlt
      have hr := hr.out
      rw [e] at hr
      exact ⟨r, rfl, hr, rfl⟩

set_option maxHeartbeats 400000 in
set_option maxRecDepth 100000 in
theorem canon_any (s : ByteArray) (w : World) (hs : s.size ≤ 140737488351232) :
    Calls Try.prog 19 #[.string s] w fun e w' => ∃ r : ByteArray, e = .returned (.string r) ∧ r.data.toList = minL s.data.toList (turnR s.data.toList) ∧ w' = w := by
  have hmin := @Lib.run_min_strs Try.prog
  go_enter Try.func19, Try.ntmps19
  go_wp2_with (go_at_call 16; refine (turned_any _ _ hs).mono ?_; rintro e w' ⟨r, rfl, hr, rfl⟩)
  go_ret
  exact ⟨_, rfl, by rw [minS_data, hr], rfl⟩

theorem extract_size (s : ByteArray) (k m : Nat) (h : k + m ≤ s.size) : (s.extract k (k + m)).size = m := by
  rw [Lib.size_eq, cut_extract, cut_length (by rw [← Lib.size_eq]; exact h)]

/-- the best so far -/
def Best (l : List UInt8) (m k : Nat) (r : List UInt8) : Prop := (k = 0 ∧ r = []) ∨ (1 ≤ k ∧ Least (CanonTo l m k) r)

theorem canon_cut {s c : ByteArray} {k m : Nat} (hB : s.data.toList.all isB = true) (hc : c.data.toList = minL (s.extract k (k + m)).data.toList (turnR (s.extract k (k + m)).data.toList)) :
    c.data.toList = minL (cut s.data.toList k m) (turn (cut s.data.toList k m)) := by
  rw [hc, cut_extract, turnR_eq (l := cut s.data.toList k m) (all_part hB k m)]
theorem best_first {s c r : ByteArray} {k m : Nat} (hlt : k + m ≤ s.size) (hB : s.data.toList.all isB = true) (h0 : k = 0) (hc : c.data.toList = minL (s.extract k (k + m)).data.toList (turnR (s.extract k (k + m)).data.toList)) :
    Best s.data.toList m (k + 1) c.data.toList := by
  subst h0
  rw [canon_cut hB hc]
  exact .inr ⟨by omega, canon_start (by rw [← Lib.size_eq]; omega)⟩
theorem best_next {s c r : ByteArray} {k m : Nat} (hlt : k + m ≤ s.size) (hB : s.data.toList.all isB = true) (hr : Least (CanonTo s.data.toList m k) r.data.toList) (hc : c.data.toList = minL (s.extract k (k + m)).data.toList (turnR (s.extract k (k + m)).data.toList)) :
    Best s.data.toList m (k + 1) (if c.data.toList < r.data.toList then c.data.toList else r.data.toList) := by
  rw [← min_of_less, canon_cut hB hc]
  exact .inr ⟨by omega, canon_step (by rw [← Lib.size_eq]; omega) hr⟩
theorem best_yes {s c r : ByteArray} {k m : Nat} (hlt : k + m ≤ s.size) (hB : s.data.toList.all isB = true) (hr : Least (CanonTo s.data.toList m k) r.data.toList) (hc : c.data.toList = minL (s.extract k (k + m)).data.toList (turnR (s.extract k (k + m)).data.toList))
    (h : Op.bytesLess c.toList r.toList = true) : Best s.data.toList m (k + 1) c.data.toList := by
  have := best_next hlt hB hr hc
  rw [bytesLess_eq, Lib.toList_data, Lib.toList_data] at h
  rwa [if_pos (of_decide_eq_true h)] at this
theorem best_no {s c r : ByteArray} {k m : Nat} (hlt : k + m ≤ s.size) (hB : s.data.toList.all isB = true) (hr : Least (CanonTo s.data.toList m k) r.data.toList) (hc : c.data.toList = minL (s.extract k (k + m)).data.toList (turnR (s.extract k (k + m)).data.toList))
    (h : Op.bytesLess c.toList r.toList = false) : Best s.data.toList m (k + 1) r.data.toList := by
  have := best_next hlt hB hr hc
  rw [bytesLess_eq, Lib.toList_data, Lib.toList_data] at h
  rwa [if_neg (of_decide_eq_false h)] at this
theorem canonTo_length {l r : List UInt8} {m k : Nat} (h : Least (CanonTo l m k) r) : r.length = m := by
  obtain ⟨i, _, h2, h3⟩ := h.1
  rw [h3]
  exact minL_length (cut_length h2) (by rw [turn_length, cut_length h2])

set_option maxHeartbeats 800000 in
set_option maxRecDepth 100000 in
theorem mark_any (s : ByteArray) (m : Nat) (w : World) (hs : s.size ≤ 140737488351232) (h1 : 1 ≤ m) (hm : m ≤ s.size) (hB : s.data.toList.all isB = true) :
    Calls Try.prog 21 #[.string s, .int .i64 (m : Int)] w fun e w' => ∃ r : ByteArray, e = .returned (.string r) ∧ Least (Both s.data.toList m) r.data.toList ∧ w' = w := by
  have HB : Hid (s.data.toList.all isB = true) := hB
  clear hB
  go_enter Try.func21, Try.ntmps21
  go_wp2
  go_loop [5, 6] (fun b i => ∃ (k : Nat) (r : ByteArray), k + m ≤ s.size + 1 ∧ i = .int .i64 k ∧ b = .string r ∧ Hid (Best s.data.toList m k r.data.toList)) (fun _ i => s.size + 1 - (intOf i).toNat)
  case atStart => exact ⟨0, _, by omega, rfl, rfl, .inl ⟨rfl, rfl⟩⟩
  case round =>
    obtain ⟨k, r, hk, rfl, rfl, hr⟩ := hrel
    by_cases hlt : k + m ≤ s.size
    · have hsl := slice_km s k m hlt hs
      have hz := extract_size s k m hlt
      have hz2 : (s.extract k (k + m)).size ≤ 140737488351232 := by omega
      clear hz
      rcases hr.out with ⟨h0, hr0⟩ | ⟨h0, hr0⟩
      · have e : r = ⟨#[]⟩ := by apply ByteArray.ext; apply Array.toList_inj.1; rw [hr0]
        subst e
        have H0 : Hid (k = 0) := h0
        clear h0 hr0 hr
        go_wp2_with (go_at_call 19; refine (canon_any _ _ hz2).mono ?_; rintro e w' ⟨c, rfl, hc0, rfl⟩; have hc : Hid (c.data.toList = minL (s.extract k (k + m)).data.toList (turnR (s.extract k (k + m)).data.toList)) := hc0; clear hc0)
        go_round
        case rel => exact ⟨k + 1, c, by omega, by go_num, rfl, best_first (r := c) hlt HB.out H0.out hc.out⟩
        case measure => simp [intOf]; omega
      · have hne : r.toList.isEmpty = false := by
          have := canonTo_length hr0
          rw [Lib.toList_data]
          cases hl : r.data.toList with
          | nil => rw [hl] at this; simp at this; omega
          | cons a l => rfl
        have HR : Hid (Least (CanonTo s.data.toList m k) r.data.toList) := hr0
        clear hr0 hr
        go_wp2_with (go_at_call 19; refine (canon_any _ _ hz2).mono ?_; rintro e w' ⟨c, rfl, hc0, rfl⟩; have hc : Hid (c.data.toList = minL (s.extract k (k + m)).data.toList (turnR (s.extract k (k + m)).data.toList)) := hc0; clear hc0)
        · go_round
          case rel => exact ⟨k + 1, c, by omega, by go_num, rfl, best_yes hlt HB.out HR.out hc.out (by assumption)⟩
          case measure => simp [intOf]; omega
        · go_round
          case rel => exact ⟨k + 1, r, by omega, by go_num, rfl, best_no hlt HB.out HR.out hc.out (by assumption)⟩
          case measure => simp [intOf]; omega
    · go_wp2
      go_ret
      refine ⟨r, rfl, ?_, rfl⟩
      rcases hr.out with ⟨h0, _⟩ | ⟨_, hr0⟩
      · omega
      · exact least_canon (by rw [← Lib.size_eq]; omega) hr0

theorem all_of_word {l : List UInt8} (h : wordB l = true) : l.all isB = true := by
  simp only [wordB, Bool.and_eq_true] at h; exact h.2

set_option maxHeartbeats 400000 in
set_option maxRecDepth 100000 in
theorem Turned_any (s : ByteArray) (w : World) (hs : s.size ≤ 140737488351232) :
    Calls Try.prog 6 #[.string s] w fun e w' => ∃ (r : ByteArray) (n : Int), e = .returned (.tuple #[.string r, .int .i64 n]) ∧ TurnedIs s r n ∧ w' = w := by
  cases hw : wordB s.data.toList with
  | true =>
    have HW : Hid (wordB s.data.toList = true) := hw
    clear hw
    go_enter Try.func6, Try.ntmps6
    go_wp2_with (first | (go_at_call 15; refine (Word_any _ _ hs).mono ?_; rintro e w' ⟨rfl, rfl⟩; rw [HW.out]) | (go_at_call 16; refine (turned_any _ _ hs).mono ?_; rintro e w' ⟨r, rfl, hr, rfl⟩))
    go_ret2
    rw [turnR_eq (all_of_word HW.out)] at hr
    exact ⟨r, 0, rfl, .inl ⟨HW.out, rfl, hr⟩, rfl⟩
  | false =>
    have HW : Hid (wordB s.data.toList = false) := hw
    clear hw
    go_enter Try.func6, Try.ntmps6
    go_wp2_with (first | (go_at_call 15; refine (Word_any _ _ hs).mono ?_; rintro e w' ⟨rfl, rfl⟩; rw [HW.out]))
    go_ret2
    exact ⟨_, 1, rfl, .inr ⟨HW.out, rfl, rfl⟩, rfl⟩

set_option maxHeartbeats 400000 in
set_option maxRecDepth 100000 in
theorem Canon_any (s : ByteArray) (w : World) (hs : s.size ≤ 140737488351232) :
    Calls Try.prog 8 #[.string s] w fun e w' => ∃ (r : ByteArray) (n : Int), e = .returned (.tuple #[.string r, .int .i64 n]) ∧ CanonIs s r n ∧ w' = w := by
  cases hw : wordB s.data.toList with
  | true =>
    have HW : Hid (wordB s.data.toList = true) := hw
    clear hw
    go_enter Try.func8, Try.ntmps8
    go_wp2_with (first | (go_at_call 15; refine (Word_any _ _ hs).mono ?_; rintro e w' ⟨rfl, rfl⟩; rw [HW.out]) | (go_at_call 19; refine (canon_any _ _ hs).mono ?_; rintro e w' ⟨r, rfl, hr, rfl⟩))
    go_ret2
    rw [turnR_eq (all_of_word HW.out)] at hr
    exact ⟨r, 0, rfl, .inl ⟨HW.out, rfl, hr⟩, rfl⟩
  | false =>
    have HW : Hid (wordB s.data.toList = false) := hw
    clear hw
    go_enter Try.func8, Try.ntmps8
    go_wp2_with (first | (go_at_call 15; refine (Word_any _ _ hs).mono ?_; rintro e w' ⟨rfl, rfl⟩; rw [HW.out]))
    go_ret2
    exact ⟨_, 1, rfl, .inr ⟨HW.out, rfl, rfl⟩, rfl⟩

set_option maxHeartbeats 800000 in
set_option maxRecDepth 100000 in
theorem Mark_any (s : ByteArray) (m : Int) (w : World) (hs : s.size ≤ 140737488351232) :
    Calls Try.prog 10 #[.string s, .int .i64 m] w fun e w' => ∃ (r : ByteArray) (n : Int), e = .returned (.tuple #[.string r, .int .i64 n]) ∧ MarkIs s m r n ∧ w' = w := by
  cases hw : wordB s.data.toList with
  | true =>
    have HW : Hid (wordB s.data.toList = true) := hw
    clear hw
    by_cases h1 : m < 1
    · have hd : decide (m < 1) = true := by simpa using h1
      go_enter Try.func10, Try.ntmps10
      go_wp2_with (first | (go_at_call 15; refine (Word_any _ _ hs).mono ?_; rintro e w' ⟨rfl, rfl⟩; rw [HW.out]))
      go_ret2
      exact ⟨_, 1, rfl, .inr ⟨by omega, rfl, rfl⟩, rfl⟩
    by_cases h2 : (s.size : Int) < m
    · go_enter Try.func10, Try.ntmps10
      go_wp2_with (first | (go_at_call 15; refine (Word_any _ _ hs).mono ?_; rintro e w' ⟨rfl, rfl⟩; rw [HW.out]))
      go_ret2
      exact ⟨_, 1, rfl, .inr ⟨by omega, rfl, rfl⟩, rfl⟩
    · obtain ⟨k, rfl⟩ : ∃ k : Nat, m = (k : Int) := ⟨m.toNat, by omega⟩
      have hk : k ≤ s.size := by omega
      have hk1 : 1 ≤ k := by omega
      go_enter Try.func10, Try.ntmps10
      go_wp2_with (first | (go_at_call 15; refine (Word_any _ _ hs).mono ?_; rintro e w' ⟨rfl, rfl⟩; rw [HW.out]) | (go_at_call 21; refine (mark_any _ k _ hs hk1 hk (all_of_word HW.out)).mono ?_; rintro e w' ⟨r, rfl, hr, rfl⟩))
      go_ret2
      exact ⟨r, 0, rfl, .inl ⟨⟨HW.out, by omega, by omega⟩, rfl, by simpa using hr⟩, rfl⟩
  | false =>
    have HW : Hid (wordB s.data.toList = false) := hw
    clear hw
    go_enter Try.func10, Try.ntmps10
    go_wp2_with (first | (go_at_call 15; refine (Word_any _ _ hs).mono ?_; rintro e w' ⟨rfl, rfl⟩; rw [HW.out]))
    go_ret2
    exact ⟨_, 1, rfl, .inr ⟨by rw [HW.out]; simp, rfl, rfl⟩, rfl⟩
end Go.Proofs.Ytbjgpfhbdmcbbaa.ref
