/-
  PLAIN MATHEMATICS OF WORDS AND MARKS over lists of bytes. It imports nothing of the program.
-/
import Derived.Lib.MinMaxS
namespace Go.Proofs.YtbjgpfhbdmcbbaaDoor.dnamath

def isB (c : UInt8) : Bool := c == 65 || c == 67 || c == 71 || c == 84
def isBN (c : UInt8) : Bool := isB c || c == 78
def wordB (l : List UInt8) : Bool := !l.isEmpty && l.all isB
def comp (c : UInt8) : UInt8 := if c == 65 then 84 else if c == 67 then 71 else if c == 71 then 67 else 65
def compR (c : UInt8) : UInt8 := if c == 67 then 71 else if c == 71 then 67 else if c == 84 then 65 else 84
def turn (l : List UInt8) : List UInt8 := (l.map comp).reverse
def turnR (l : List UInt8) : List UInt8 := (l.map compR).reverse
def minL (a b : List UInt8) : List UInt8 := if a < b ∨ a = b then a else b

theorem minS_data (x y : ByteArray) : (Lib.minS x y).data.toList = minL x.data.toList y.data.toList := by
  unfold Lib.minS minL
  split <;> rfl

theorem comp_eq {c : UInt8} (h : isB c = true) : compR c = comp c := by
  simp only [isB, Bool.or_eq_true, beq_iff_eq] at h
  rcases h with ((rfl | rfl) | rfl) | rfl <;> decide

theorem comp_isB {c : UInt8} (h : isB c = true) : isB (comp c) = true := by
  simp only [isB, Bool.or_eq_true, beq_iff_eq] at h
  rcases h with ((rfl | rfl) | rfl) | rfl <;> decide

theorem comp_comp {c : UInt8} (h : isB c = true) : comp (comp c) = c := by
  simp only [isB, Bool.or_eq_true, beq_iff_eq] at h
  rcases h with ((rfl | rfl) | rfl) | rfl <;> decide

theorem turnR_eq {l : List UInt8} (h : l.all isB = true) : turnR l = turn l := by
  unfold turnR turn
  congr 1
  apply List.map_congr_left
  intro c hc
  exact comp_eq (List.all_eq_true.1 h c hc)

theorem turn_length (l : List UInt8) : (turn l).length = l.length := by simp [turn]

theorem turn_all {l : List UInt8} (h : l.all isB = true) : (turn l).all isB = true := by
  rw [List.all_eq_true] at h ⊢
  intro c hc
  simp only [turn, List.mem_reverse, List.mem_map] at hc
  obtain ⟨d, hd, rfl⟩ := hc
  exact comp_isB (h d hd)

theorem turn_word {l : List UInt8} (h : wordB l = true) : wordB (turn l) = true := by
  simp only [wordB, Bool.and_eq_true] at h ⊢
  refine ⟨?_, turn_all h.2⟩
  have := turn_length l
  cases hl : turn l with
  | nil => rw [hl] at this; cases l with
    | nil => simp at h
    | cons a l => simp at this
  | cons a l => rfl

theorem turn_turn {l : List UInt8} (h : l.all isB = true) : turn (turn l) = l := by
  unfold turn
  rw [List.map_reverse, List.reverse_reverse, List.map_map]
  conv => rhs; rw [← List.map_id l]
  apply List.map_congr_left
  intro c hc
  exact comp_comp (List.all_eq_true.1 h c hc)

theorem all_part {l : List UInt8} (h : l.all isB = true) (i m : Nat) : ((l.drop i).take m).all isB = true := by
  rw [List.all_eq_true] at h ⊢
  intro c hc
  exact h c (List.mem_of_mem_drop (List.mem_of_mem_take hc))

/-! the order -/
theorem le_of_min_left (a b : List UInt8) : minL a b ≤ a := by
  unfold minL
  split
  · exact List.le_refl _
  · rename_i h
    have h1 : ¬ a < b := fun e => h (.inl e)
    exact List.not_lt.1 h1
theorem le_of_min_right (a b : List UInt8) : minL a b ≤ b := by
  unfold minL
  split
  · rename_i h
    rcases h with h | h
    · exact List.le_of_lt h
    · rw [h]; exact List.le_refl _
  · exact List.le_refl _
theorem min_cases (a b : List UInt8) : minL a b = a ∨ minL a b = b := by
  unfold minL
  split
  · exact .inl rfl
  · exact .inr rfl

/-- r is the least of those that S holds of -/
def Least (S : List UInt8 → Prop) (r : List UInt8) : Prop := S r ∧ ∀ x, S x → r ≤ x

theorem Least.unique {S : List UInt8 → Prop} {a b : List UInt8} (ha : Least S a) (hb : Least S b) : a = b :=
  List.le_antisymm (ha.2 b hb.1) (hb.2 a ha.1)

theorem Least.congr {S T : List UInt8 → Prop} {a : List UInt8} (h : ∀ x, S x ↔ T x) (ha : Least S a) : Least T a :=
  ⟨(h a).1 ha.1, fun x hx => ha.2 x ((h x).2 hx)⟩

theorem Least.min {S T : List UInt8 → Prop} {a b : List UInt8} (ha : Least S a) (hb : Least T b) : Least (fun x => S x ∨ T x) (minL a b) := by
  refine ⟨?_, ?_⟩
  · rcases min_cases a b with h | h
    · rw [h]; exact .inl ha.1
    · rw [h]; exact .inr hb.1
  · rintro x (h | h)
    · exact List.le_trans (le_of_min_left a b) (ha.2 x h)
    · exact List.le_trans (le_of_min_right a b) (hb.2 x h)

theorem Least.one (a : List UInt8) : Least (fun x => x = a) a := ⟨rfl, fun x h => by rw [h]; exact List.le_refl _⟩

/-- the m letters from i on -/
def cut (l : List UInt8) (i m : Nat) : List UInt8 := (l.drop i).take m
/-- a part of m letters, that begins ahead of k -/
def PartTo (l : List UInt8) (m k : Nat) (x : List UInt8) : Prop := ∃ i, i < k ∧ i + m ≤ l.length ∧ x = cut l i m
def Part (l : List UInt8) (m : Nat) (x : List UInt8) : Prop := ∃ i, i + m ≤ l.length ∧ x = cut l i m
/-- Canon of a part -/
def CanonTo (l : List UInt8) (m k : Nat) (x : List UInt8) : Prop := ∃ i, i < k ∧ i + m ≤ l.length ∧ x = minL (cut l i m) (turn (cut l i m))
/-- parts of both sides -/
def Both (l : List UInt8) (m : Nat) (x : List UInt8) : Prop := Part l m x ∨ Part (turn l) m x

theorem part_of_to {l : List UInt8} {m k : Nat} (h : l.length < k + m) (x : List UInt8) : PartTo l m k x ↔ Part l m x := by
  constructor
  · rintro ⟨i, _, h2, h3⟩; exact ⟨i, h2, h3⟩
  · rintro ⟨i, h2, h3⟩; exact ⟨i, by omega, h2, h3⟩

theorem partTo_succ {l : List UInt8} {m k : Nat} (h : k + m ≤ l.length) (x : List UInt8) : (PartTo l m k x ∨ x = cut l k m) ↔ PartTo l m (k + 1) x := by
  constructor
  · rintro (⟨i, h1, h2, h3⟩ | h3)
    · exact ⟨i, by omega, h2, h3⟩
    · exact ⟨k, by omega, h, h3⟩
  · rintro ⟨i, h1, h2, h3⟩
    by_cases e : i = k
    · subst e; exact .inr h3
    · exact .inl ⟨i, by omega, h2, h3⟩

theorem least_start {l : List UInt8} {m : Nat} (h : m ≤ l.length) : Least (PartTo l m 1) (cut l 0 m) :=
  (Least.one _).congr fun x => by
    constructor
    · intro e; exact ⟨0, by omega, by omega, e⟩
    · rintro ⟨i, h1, _, h3⟩
      have : i = 0 := by omega
      subst this; exact h3

theorem least_step {l : List UInt8} {m k : Nat} {r : List UInt8} (h : k + m ≤ l.length) (hr : Least (PartTo l m k) r) : Least (PartTo l m (k + 1)) (minL r (cut l k m)) :=
  (hr.min (Least.one (cut l k m))).congr (partTo_succ h)

theorem cut_length {l : List UInt8} {i m : Nat} (h : i + m ≤ l.length) : (cut l i m).length = m := by
  simp only [cut, List.length_take, List.length_drop]; omega

theorem turn_cut {l : List UInt8} {i m : Nat} (h : i + m ≤ l.length) : cut (turn l) (l.length - (i + m)) m = turn (cut l i m) := by
  unfold cut turn
  rw [List.drop_reverse, List.take_reverse, List.length_map]
  congr 1
  rw [List.map_take, List.map_drop]
  have e1 : l.length - (l.length - (i + m)) = i + m := by omega
  rw [e1, List.drop_take]
  have e2 : (List.take (i + m) (List.map comp l)).length - m = i := by rw [List.length_take, List.length_map]; omega
  rw [e2]
  congr 1
  omega

theorem part_turn {l : List UInt8} {m : Nat} (x : List UInt8) : Part (turn l) m x ↔ ∃ i, i + m ≤ l.length ∧ x = turn (cut l i m) := by
  constructor
  · rintro ⟨j, hj, rfl⟩
    rw [turn_length] at hj
    refine ⟨l.length - (j + m), by omega, ?_⟩
    rw [← turn_cut (by omega)]
    congr 1
    omega
  · rintro ⟨i, hi, rfl⟩
    exact ⟨l.length - (i + m), by rw [turn_length]; omega, (turn_cut hi).symm⟩

/-- THE LEAST PART OF BOTH SIDES IS THE LEAST CANON OF A PART. -/
theorem least_canon {l : List UInt8} {m k : Nat} {r : List UInt8} (h : l.length < k + m) (hr : Least (CanonTo l m k) r) : Least (Both l m) r := by
  refine ⟨?_, ?_⟩
  · obtain ⟨i, _, h2, h3⟩ := hr.1
    rcases min_cases (cut l i m) (turn (cut l i m)) with e | e
    · exact .inl ⟨i, h2, by rw [h3, e]⟩
    · exact .inr ((part_turn _).2 ⟨i, h2, by rw [h3, e]⟩)
  · rintro x (⟨i, h2, rfl⟩ | hx)
    · exact List.le_trans (hr.2 _ ⟨i, by omega, h2, rfl⟩) (le_of_min_left _ _)
    · obtain ⟨i, h2, rfl⟩ := (part_turn _).1 hx
      exact List.le_trans (hr.2 _ ⟨i, by omega, h2, rfl⟩) (le_of_min_right _ _)

theorem canon_start {l : List UInt8} {m : Nat} (h : m ≤ l.length) : Least (CanonTo l m 1) (minL (cut l 0 m) (turn (cut l 0 m))) :=
  (Least.one _).congr fun x => by
    constructor
    · intro e; exact ⟨0, by omega, by omega, e⟩
    · rintro ⟨i, h1, _, h3⟩
      have : i = 0 := by omega
      subst this; exact h3

theorem canon_step {l : List UInt8} {m k : Nat} {r : List UInt8} (h : k + m ≤ l.length) (hr : Least (CanonTo l m k) r) : Least (CanonTo l m (k + 1)) (minL r (minL (cut l k m) (turn (cut l k m)))) :=
  (hr.min (Least.one _)).congr fun x => by
    constructor
    · rintro (⟨i, h1, h2, h3⟩ | h3)
      · exact ⟨i, by omega, h2, h3⟩
      · exact ⟨k, by omega, h, h3⟩
    · rintro ⟨i, h1, h2, h3⟩
      by_cases e : i = k
      · subst e; exact .inr h3
      · exact .inl ⟨i, by omega, h2, h3⟩

/-- the reference keeps the new one only if it is less -/
theorem min_of_less {a b : List UInt8} : minL a b = if b < a then b else a := by
  unfold minL
  by_cases h : b < a
  · rw [if_pos h]
    by_cases e : a < b ∨ a = b
    · rcases e with e | e
      · exact absurd (List.lt_trans h e) (List.lt_irrefl _)
      · subst e; exact absurd h (List.lt_irrefl _)
    · rw [if_neg e]
  · rw [if_neg h]
    by_cases e : a < b ∨ a = b
    · rw [if_pos e]
    · exact absurd (List.le_antisymm (List.not_lt.1 h) (List.not_lt.1 fun x => e (.inl x))) (fun x => e (.inr x))

theorem minL_length {a b : List UInt8} {m : Nat} (ha : a.length = m) (hb : b.length = m) : (minL a b).length = m := by
  rcases min_cases a b with h | h <;> rw [h] <;> assumption

end Go.Proofs.YtbjgpfhbdmcbbaaDoor.dnamath
