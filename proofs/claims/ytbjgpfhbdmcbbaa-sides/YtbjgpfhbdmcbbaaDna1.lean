/-
  CONTRACTS, callees first: strings.IndexByte, hasOnly, isWord, partner, Clone.
-/
import Derived.Test.YtbjgpfhbdmcbbaaProg
import Derived.Test.YtbjgpfhbdmcbbaaMath
import Derived.WalkKit
import Derived.WalkLawsBesides
import Derived.Lib.Bytealg
import Derived.Lib.UnsafeStr
import Derived.Lib.Strings
import Derived.Laws.MakeOwn
import Derived.Laws.IdiomStrings
namespace Go.Proofs.Ytbjgpfhbdmcbbaa.dna
open Go.RowKit Go.Proofs.Ytbjgpfhbdmcbbaa.dnamath
set_option linter.unusedVariables false

set_option maxHeartbeats 1000000 in
set_option maxRecDepth 100000 in
theorem indexByte_any (s : ByteArray) (c : Int) (w : World) :
    Calls Try.prog 26 #[.string s, .int .u8 c] w fun e w' => e = .returned (.int .i64 (Lib.indexByte s.data.toList c.toNat.toUInt8)) ∧ w' = w := by
  go_enter Try.func26, Try.ntmps26
  go_wp2
  rw [run_callFunc_extern Try.func28 (by kernel_rfl) (by kernel_rfl) (by kernel_rfl) (e := Extern.BytealgIndexByte.indexByte) (by kernel_rfl), Lib.run_indexByteString]
  simp only [Result.andThen]
  rw [Oper.upon_value]
  go_wp2
  go_ret
  exact ⟨rfl, rfl⟩

def inB (L : List UInt8) (c : UInt8) : Bool := !decide (Lib.indexByte L c < 0)
def only (L l : List UInt8) : Bool := l.all (inB L)
theorem only_snoc (L l : List UInt8) (c : UInt8) : only L (l ++ [c]) = (only L l && inB L c) := by simp [only]
theorem only_take_false {L l : List UInt8} {k : Nat} (h : only L (l.take k) = false) : only L l = false := by
  rw [only, List.all_eq_false] at h ⊢
  obtain ⟨x, hx, h⟩ := h
  exact ⟨x, List.mem_of_mem_take hx, h⟩

theorem u8_back (c : UInt8) : ((c.toNat : Int)).toNat.toUInt8 = c := by simp
theorem take_snoc (s : ByteArray) (k : Nat) (h : k < s.size) : s.data.toList.take (k + 1) = s.data.toList.take k ++ [s[k]] := by
  rw [List.take_succ_eq_append_getElem (by simpa using h)]; rfl
theorem take_all (s : ByteArray) (k : Nat) (h : ¬ k < s.size) : s.data.toList.take k = s.data.toList := List.take_of_length_le (by simp; omega)

theorem ho_step {s L : ByteArray} {k : Nat} (hlt : k < s.size) (ha : only L.data.toList (s.data.toList.take k) = true) (h : ¬ Lib.indexByte L.data.toList s[k] < 0) :
    only L.data.toList (s.data.toList.take (k + 1)) = true := by
  rw [take_snoc s k hlt, only_snoc, ha]
  simp only [inB, decide_eq_false h]; rfl
theorem ho_stop {s L : ByteArray} {k : Nat} (hlt : k < s.size) (h : Lib.indexByte L.data.toList s[k] < 0) : only L.data.toList s.data.toList = false := by
  apply only_take_false (k := k + 1)
  rw [take_snoc s k hlt, only_snoc]
  simp only [inB, decide_eq_true h]; simp

set_option maxHeartbeats 400000 in
set_option maxRecDepth 100000 in
theorem hasOnly_any (s L : ByteArray) (w : World) (hs : s.size ≤ maxLen) :
    Calls Try.prog 22 #[.string s, .string L] w fun e w' => e = .returned (.bool (only L.data.toList s.data.toList)) ∧ w' = w := by
  unfold maxLen at hs
  go_enter Try.func22, Try.ntmps22
  go_wp2
  go_loop [8] (fun i => ∃ k : Nat, k ≤ s.size ∧ i = .int .i64 k ∧ Hid (only L.data.toList (s.data.toList.take k) = true)) (fun i => s.size - (intOf i).toNat)
  case atStart => exact ⟨0, Nat.zero_le _, rfl, rfl⟩
  case round =>
    obtain ⟨k, hk, rfl, ha⟩ := hrel
    by_cases hlt : k < s.size
    · by_cases hx : Lib.indexByte L.data.toList s[k] < 0
      · go_wp2_with (go_at_call 26; refine (indexByte_any _ _ _).mono ?_; rintro e w' ⟨rfl, rfl⟩; rw [u8_back])
        go_ret
        exact ⟨by rw [ho_stop hlt hx]; rfl, rfl⟩
      · go_wp2_with (go_at_call 26; refine (indexByte_any _ _ _).mono ?_; rintro e w' ⟨rfl, rfl⟩; rw [u8_back])
        go_round
        case rel => exact ⟨k + 1, by omega, by go_num, ho_step hlt ha.out (by omega)⟩
        case measure => simp [intOf]; omega
    · go_wp2
      go_ret
      have e := take_all s k hlt
      have ha := ha.out
      rw [e] at ha
      exact ⟨by rw [ha]; rfl, rfl⟩

theorem inB_acgt (c : UInt8) : inB [65, 67, 71, 84] c = isB c := by
  simp only [inB, isB, Lib.indexByte]
  by_cases h1 : c = 65
  · subst h1; decide
  by_cases h2 : c = 67
  · subst h2; decide
  by_cases h3 : c = 71
  · subst h3; decide
  by_cases h4 : c = 84
  · subst h4; decide
  have e1 : (c == 65) = false := by simpa using h1
  have e2 : (c == 67) = false := by simpa using h2
  have e3 : (c == 71) = false := by simpa using h3
  have e4 : (c == 84) = false := by simpa using h4
  have f1 : ((65 : UInt8) == c) = false := by rw [beq_eq_false_iff_ne]; exact fun h => h1 h.symm
  have f2 : ((67 : UInt8) == c) = false := by rw [beq_eq_false_iff_ne]; exact fun h => h2 h.symm
  have f3 : ((71 : UInt8) == c) = false := by rw [beq_eq_false_iff_ne]; exact fun h => h3 h.symm
  have f4 : ((84 : UInt8) == c) = false := by rw [beq_eq_false_iff_ne]; exact fun h => h4 h.symm
  simp [e1, e2, e3, e4, f1, f2, f3, f4]

theorem only_acgt (l : List UInt8) : only [65, 67, 71, 84] l = l.all isB := by
  unfold only
  congr 1
  funext c
  exact inB_acgt c

theorem empty_of {s : ByteArray} (h : s.size = 0) : s = ⟨#[]⟩ := by
  apply ByteArray.ext
  exact Array.eq_empty_of_size_eq_zero h

theorem word_of {s : ByteArray} (h : ¬ s.size = 0) : wordB s.data.toList = s.data.toList.all isB := by
  unfold wordB
  cases hl : s.data.toList with
  | nil => exact absurd (by rw [Lib.size_eq, hl]; rfl) h
  | cons a l => rfl

set_option maxHeartbeats 400000 in
set_option maxRecDepth 100000 in
theorem isWord_any (s : ByteArray) (w : World) (hs : s.size ≤ maxLen) :
    Calls Try.prog 13 #[.string s] w fun e w' => e = .returned (.bool (wordB s.data.toList)) ∧ w' = w := by
  by_cases h0 : s.size = 0
  · have := empty_of h0
    subst this
    go_enter Try.func13, Try.ntmps13
    go_wp2
    go_ret
    exact ⟨rfl, rfl⟩
  · have hw := word_of h0
    rw [hw, ← only_acgt]
    have hne : s.toList.isEmpty = false := by
      rw [Lib.toList_data]; cases hl : s.data.toList with
      | nil => exact absurd (by rw [Lib.size_eq, hl]; rfl) h0
      | cons a l => rfl
    clear hw
    go_enter Try.func13, Try.ntmps13
    go_wp2_with (go_at_call 22; refine (hasOnly_any _ _ _ hs).mono ?_; rintro e w' ⟨rfl, rfl⟩)
    go_ret
    exact ⟨rfl, rfl⟩

def compI (n : Int) : Int := if n = 65 then 84 else if n = 67 then 71 else if n = 71 then 67 else 65
theorem compI_eq (c : UInt8) : compI (c.toNat : Int) = ((comp c).toNat : Int) := by
  unfold compI comp
  by_cases h1 : c = 65
  · subst h1; decide
  by_cases h2 : c = 67
  · subst h2; decide
  by_cases h3 : c = 71
  · subst h3; decide
  have e : ∀ d : UInt8, ¬ c = d → ¬ (c.toNat : Int) = (d.toNat : Int) := fun d h e => h (UInt8.toNat_inj.1 (by omega))
  have g1 := e 65 h1; have g2 := e 67 h2; have g3 := e 71 h3
  have k1 : ((65 : UInt8).toNat : Int) = 65 := rfl
  have k2 : ((67 : UInt8).toNat : Int) = 67 := rfl
  have k3 : ((71 : UInt8).toNat : Int) = 71 := rfl
  rw [k1] at g1; rw [k2] at g2; rw [k3] at g3
  rw [if_neg g1, if_neg g2, if_neg g3]
  simp [h1, h2, h3]

set_option maxHeartbeats 400000 in
set_option maxRecDepth 100000 in
theorem partner_any (n : Int) (w : World) :
    Calls Try.prog 23 #[.int .u8 n] w fun e w' => e = .returned (.int .u8 (compI n)) ∧ w' = w := by
  unfold compI
  by_cases h1 : n = 65
  · subst h1
    go_enter Try.func23, Try.ntmps23
    go_wp2
    go_ret
    exact ⟨rfl, rfl⟩
  by_cases h2 : n = 67
  · subst h2
    go_enter Try.func23, Try.ntmps23
    go_wp2
    go_ret
    exact ⟨rfl, rfl⟩
  by_cases h3 : n = 71
  · subst h3
    go_enter Try.func23, Try.ntmps23
    go_wp2
    go_ret
    exact ⟨rfl, rfl⟩
  have e1 : (n == 65) = false := by simpa using h1
  have e2 : (n == 67) = false := by simpa using h2
  have e3 : (n == 71) = false := by simpa using h3
  rw [if_neg h1, if_neg h2, if_neg h3]
  clear h1 h2 h3
  go_enter Try.func23, Try.ntmps23
  go_wp2
  go_ret
  exact ⟨rfl, rfl⟩
end Go.Proofs.Ytbjgpfhbdmcbbaa.dna
