import Derived.Test.YtbjgpfhbdmcbbabGreatDoorP01
import Derived.Lib.SplitLaws
import Derived.Lib.IndexBytes
import Derived.Test.YtbjgpfhbdmcbbabGreatDoorP09
import Derived.WalkKit
import Derived.Test.YtbjgpfhbdmcbbabGreatDoorP05

/-
  PLAIN MATHEMATICS OF PIECES. It imports nothing of the program.
-/
namespace Go.Proofs.YtbjgpfhbdmcbbabGreatDoor.dnamath
set_option linter.unusedVariables false

/-- the mark, reckoned -/
def markL (m : Nat) (w : List UInt8) : List UInt8 :=
  (List.range (w.length - m)).foldl (fun r i => minL r (minL (cut w (i + 1) m) (turn (cut w (i + 1) m)))) (minL (cut w 0 m) (turn (cut w 0 m)))

theorem markL_to {w : List UInt8} {m : Nat} (h : m ≤ w.length) : ∀ n, n ≤ w.length - m →
    Least (CanonTo w m (n + 1)) ((List.range n).foldl (fun r i => minL r (minL (cut w (i + 1) m) (turn (cut w (i + 1) m)))) (minL (cut w 0 m) (turn (cut w 0 m))))
  | 0, _ => canon_start h
  | n + 1, hn => by
    rw [List.range_succ, List.foldl_append]
    exact canon_step (by omega) (markL_to h n (by omega))

theorem markL_least {w : List UInt8} {m : Nat} (h : m ≤ w.length) : Least (Both w m) (markL m w) :=
  least_canon (by omega) (markL_to h _ (Nat.le_refl _))

theorem mark_eq {w r : List UInt8} {m : Nat} (h : m ≤ w.length) (hr : Least (Both w m) r) : r = markL m w := hr.unique (markL_least h)

structure St where
  out : List (List UInt8)
  last : Int
  was : List UInt8

def validW (l : List UInt8) (k j : Nat) : Bool := (cut l j k).length == k && (cut l j k).all isB
def ext (out : List (List UInt8)) (x : List UInt8) : List (List UInt8) := out.dropLast ++ [out.getLast?.getD [] ++ x]
def stepR (l : List UInt8) (k m j : Nat) (s : St) : St :=
  if validW l k j then
    (if s.last = (j : Int) - 1 ∧ markL m (cut l j k) = s.was then ⟨ext s.out ((cut l j k).drop (k - 1)), j, markL m (cut l j k)⟩
     else ⟨s.out ++ [cut l j k], j, markL m (cut l j k)⟩)
  else s
def R (l : List UInt8) (k m : Nat) : Nat → St
  | 0 => ⟨[], -2, []⟩
  | j + 1 => stepR l k m j (R l k m j)

theorem ext_snoc (A : List (List UInt8)) (p x : List UInt8) : ext (A ++ [p]) x = A ++ [p ++ x] := by simp [ext]

theorem R_skip {l : List UInt8} {k m j : Nat} (h : validW l k j = false) : R l k m (j + 1) = R l k m j := by
  show stepR l k m j (R l k m j) = _
  unfold stepR; rw [h]; rfl
theorem R_more {l : List UInt8} {k m j : Nat} (h : validW l k j = true) (h1 : (R l k m j).last = (j : Int) - 1) (h2 : markL m (cut l j k) = (R l k m j).was) :
    R l k m (j + 1) = ⟨ext (R l k m j).out ((cut l j k).drop (k - 1)), j, markL m (cut l j k)⟩ := by
  show stepR l k m j (R l k m j) = _
  unfold stepR; rw [if_pos h, if_pos ⟨h1, h2⟩]
theorem R_new {l : List UInt8} {k m j : Nat} (h : validW l k j = true) (h1 : ¬ ((R l k m j).last = (j : Int) - 1 ∧ markL m (cut l j k) = (R l k m j).was)) :
    R l k m (j + 1) = ⟨(R l k m j).out ++ [cut l j k], j, markL m (cut l j k)⟩ := by
  show stepR l k m j (R l k m j) = _
  unfold stepR; rw [if_pos h, if_neg h1]

/-- what the state looks like -/
def Good (l : List UInt8) (k m j : Nat) (s : St) : Prop :=
  (s.out = [] ∧ s.last = -2 ∧ s.was = []) ∨
  ∃ (A : List (List UInt8)) (p : List UInt8) (b : Nat), s.out = A ++ [p] ∧ s.last = (b : Int) ∧ b < j ∧ validW l k b = true ∧ k ≤ p.length ∧ p.drop (p.length - k) = cut l b k ∧ s.was = markL m (cut l b k)

theorem drop_cut {l : List UInt8} {b k : Nat} (hk : 1 ≤ k) (h : (cut l (b + 1) k).length = k) : (cut l b k).drop 1 ++ (cut l (b + 1) k).drop (k - 1) = cut l (b + 1) k := by
  obtain ⟨k', rfl⟩ : ∃ k', k = k' + 1 := ⟨k - 1, by omega⟩
  have e1 : (cut l b (k' + 1)).drop 1 = cut l (b + 1) k' := by
    unfold cut
    rw [List.drop_take, List.drop_drop, Nat.add_sub_cancel]
  have e2 : cut l (b + 1) k' = (cut l (b + 1) (k' + 1)).take k' := by
    unfold cut
    rw [List.take_take, Nat.min_eq_left (by omega)]
  rw [e1, e2, Nat.add_sub_cancel, List.take_append_drop]

theorem valid_len {l : List UInt8} {k j : Nat} (h : validW l k j = true) : (cut l j k).length = k := by
  unfold validW at h; simp only [Bool.and_eq_true, beq_iff_eq] at h; exact h.1
theorem valid_all {l : List UInt8} {k j : Nat} (h : validW l k j = true) : (cut l j k).all isB = true := by
  unfold validW at h; simp only [Bool.and_eq_true, beq_iff_eq] at h; exact h.2
theorem valid_fits {l : List UInt8} {k j : Nat} (hk : 1 ≤ k) (h : validW l k j = true) : j + k ≤ l.length := by
  have := valid_len h
  unfold cut at this
  rw [List.length_take, List.length_drop] at this
  omega

theorem good_R {l : List UInt8} {k m : Nat} (hk : 1 ≤ k) : ∀ j, Good l k m j (R l k m j)
  | 0 => .inl ⟨rfl, rfl, rfl⟩
  | j + 1 => by
    have ih := good_R (l := l) (m := m) hk j
    cases hv : validW l k j with
    | false =>
      rw [R_skip hv]
      rcases ih with h | ⟨A, p, b, h1, h2, h3, h4⟩
      · exact .inl h
      · exact .inr ⟨A, p, b, h1, h2, by omega, h4⟩
    | true =>
      have hlen := valid_len hv
      by_cases hc : (R l k m j).last = (j : Int) - 1 ∧ markL m (cut l j k) = (R l k m j).was
      · rw [R_more hv hc.1 hc.2]
        rcases ih with h | ⟨A, p, b, h1, h2, h3, h4, h5, h6, h7⟩
        · have := hc.1; rw [h.2.1] at this; omega
        · have hb : b + 1 = j := by have := hc.1; rw [h2] at this; omega
          subst hb
          refine .inr ⟨A, p ++ (cut l (b + 1) k).drop (k - 1), b + 1, ?_, rfl, by omega, hv, ?_, ?_, rfl⟩
          · show ext (R l k m (b + 1)).out _ = _
            rw [h1, ext_snoc]
          · rw [List.length_append]; omega
          · have e : ((cut l (b + 1) k).drop (k - 1)).length = 1 := by rw [List.length_drop, hlen]; omega
            have hx : p.length + 1 - k = (p.length - k) + 1 := by omega
            have e0 : (p.length - k) + 1 - p.length = 0 := by omega
            have e4 : p.drop ((p.length - k) + 1) = (p.drop (p.length - k)).drop 1 := by rw [List.drop_drop]
            rw [List.length_append, e, hx, List.drop_append, e0, List.drop_zero, e4, h6]
            exact drop_cut hk hlen
      · rw [R_new hv hc]
        exact .inr ⟨(R l k m j).out, cut l j k, j, rfl, rfl, by omega, hv, by omega, by rw [hlen, Nat.sub_self, List.drop_zero], rfl⟩

/-- what comes later goes on from what is there -/
theorem R_ext {l : List UInt8} {k m i : Nat} {A : List (List UInt8)} {p : List UInt8} (h : (R l k m i).out = A ++ [p]) : ∀ j, i ≤ j → ∃ e B, (R l k m j).out = A ++ [p ++ e] ++ B
  | 0, hj => ⟨[], [], by have : i = 0 := by omega
                         subst this; rw [h]; simp⟩
  | j + 1, hj => by
    by_cases hij : i = j + 1
    · subst hij; exact ⟨[], [], by rw [h]; simp⟩
    · obtain ⟨e, B, ih⟩ := R_ext h j (by omega)
      cases hv : validW l k j with
      | false => exact ⟨e, B, by rw [R_skip hv, ih]⟩
      | true =>
        by_cases hc : (R l k m j).last = (j : Int) - 1 ∧ markL m (cut l j k) = (R l k m j).was
        · rw [R_more hv hc.1 hc.2]
          show ∃ e B, ext (R l k m j).out _ = _
          rw [ih]
          rcases List.eq_nil_or_concat B with rfl | ⟨B', q, rfl⟩
          · exact ⟨e ++ (cut l j k).drop (k - 1), [], by rw [List.append_nil, List.append_nil, ext_snoc, List.append_assoc]⟩
          · exact ⟨e, B' ++ [q ++ (cut l j k).drop (k - 1)], by rw [List.concat_eq_append, ← List.append_assoc, ext_snoc, List.append_assoc]⟩
        · rw [R_new hv hc]
          exact ⟨e, B ++ [cut l j k], by show (R l k m j).out ++ _ = _; rw [ih, List.append_assoc]⟩

theorem R_gap {l : List UInt8} {k m j : Nat} : ∀ n, j ≤ n → (∀ i, j ≤ i → i < n → validW l k i = false) → R l k m n = R l k m j
  | 0, hn, _ => by have : j = 0 := by omega
                   subst this; rfl
  | n + 1, hn, h => by
    by_cases e : j = n + 1
    · subst e; rfl
    · rw [R_skip (h n (by omega) (by omega))]; exact R_gap n (by omega) (fun i h1 h2 => h i h1 (by omega))

theorem invalid_past {l : List UInt8} {k j : Nat} (hk : 1 ≤ k) (h : l.length < j + k) : validW l k j = false := by
  cases hv : validW l k j with
  | false => rfl
  | true => have := valid_fits hk hv; omega

theorem invalid_N {l : List UInt8} {k j x : Nat} {c : UInt8} (h : l[x]? = some c) (hc : isB c = false) (h1 : j ≤ x) (h2 : x < j + k) : validW l k j = false := by
  cases hv : validW l k j with
  | false => rfl
  | true =>
    have ha := valid_all hv
    have hm : c ∈ cut l j k := by
      unfold cut
      apply List.mem_of_getElem? (i := x - j)
      rw [List.getElem?_take, if_pos (by omega), List.getElem?_drop]
      have : j + (x - j) = x := by omega
      rw [this, h]
    have := List.all_eq_true.1 ha c hm
    rw [hc] at this; cases this

/-- a stretch without N, at its place -/
structure Stretch (l : List UInt8) (off : Nat) (t : List UInt8) : Prop where
  at_ : cut l off t.length = t
  clean : t.all isB = true
  fits : off + t.length ≤ l.length
  stop : off + t.length = l.length ∨ ∃ c, l[off + t.length]? = some c ∧ isB c = false

theorem Stretch.cut {l t : List UInt8} {off i k : Nat} (h : Stretch l off t) (hi : i + k ≤ t.length) : cut l (off + i) k = dnamath.cut t i k := by
  have e := h.at_
  unfold dnamath.cut at e ⊢
  conv => rhs; rw [← e]
  rw [List.drop_take, List.take_take, List.drop_drop]
  congr 1
  omega

theorem Stretch.valid {l t : List UInt8} {off i k : Nat} (h : Stretch l off t) (hi : i + k ≤ t.length) : validW l k (off + i) = true := by
  have ha : (dnamath.cut t i k).all isB = true := all_part (l := t) h.clean i k
  unfold validW
  rw [h.cut hi, cut_length hi, ha]
  simp
theorem Stretch.gap {l t : List UInt8} {off j k : Nat} (hk : 1 ≤ k) (h : Stretch l off t) (h1 : off + t.length < j + k) (h2 : j ≤ off + t.length) : validW l k j = false := by
  rcases h.stop with e | ⟨c, hc, hb⟩
  · exact invalid_past hk (by omega)
  · exact invalid_N hc hb h2 h1

def Fresh (l : List UInt8) (k m off : Nat) : Prop := ¬ (R l k m off).last = (off : Int) - 1

/-- the state in a stretch, i words on -/
def Mid (l t : List UInt8) (k m off i : Nat) (C : List (List UInt8)) (b : Nat) : Prop :=
  b < i ∧ i + k ≤ t.length + 1 ∧ R l k m (off + i) = ⟨C ++ [cut t b (i - 1 - b + k)], ((off + i - 1 : Nat) : Int), markL m (cut t (i - 1) k)⟩

theorem mid_start {l t : List UInt8} {k m off : Nat} (hs : Stretch l off t) (hf : Fresh l k m off) (hk : k ≤ t.length) : Mid l t k m off 1 (R l k m off).out 0 := by
  have hv := hs.valid (i := 0) (k := k) (by omega)
  refine ⟨by omega, by omega, ?_⟩
  rw [Nat.add_zero] at hv
  rw [R_new hv (fun h => hf h.1)]
  have e := hs.cut (i := 0) (k := k) (by omega)
  rw [Nat.add_zero] at e
  rw [e]
  simp

theorem mid_more {l t : List UInt8} {k m off i b : Nat} {C : List (List UInt8)} (hk : 1 ≤ k) (hs : Stretch l off t) (h : Mid l t k m off i C b) (hi : i + k ≤ t.length) (he : markL m (cut t i k) = markL m (cut t (i - 1) k)) : Mid l t k m off (i + 1) C b := by
  obtain ⟨h1, h2, h3⟩ := h
  have hv := hs.valid (i := i) (k := k) hi
  refine ⟨by omega, by omega, ?_⟩
  rw [← Nat.add_assoc, R_more hv (by rw [h3]; show ((off + i - 1 : Nat) : Int) = _; omega) (by rw [h3, hs.cut hi]; exact he), hs.cut hi, h3]
  show St.mk (ext (C ++ [cut t b (i - 1 - b + k)]) _) _ _ = _
  rw [ext_snoc]
  have e1 : cut t b (i - 1 - b + k) ++ (cut t i k).drop (k - 1) = cut t b (i + 1 - 1 - b + k) := by
    unfold cut
    have : i + 1 - 1 - b + k = (i - 1 - b + k) + 1 := by omega
    have q1 : k - (k - 1) = 1 := by omega
    have q2 : (t.drop b).drop (i - 1 - b + k) = (t.drop i).drop (k - 1) := by rw [List.drop_drop, List.drop_drop]; congr 1; omega
    obtain ⟨X, hX⟩ : ∃ X, X = i - 1 - b + k := ⟨_, rfl⟩
    rw [← hX] at q2
    rw [this, ← hX, List.take_add, q2, List.drop_take, q1]
  rw [e1]
  congr 1

theorem mid_new {l t : List UInt8} {k m off i b : Nat} {C : List (List UInt8)} (hk : 1 ≤ k) (hs : Stretch l off t) (h : Mid l t k m off i C b) (hi : i + k ≤ t.length) (he : ¬ markL m (cut t i k) = markL m (cut t (i - 1) k)) :
    Mid l t k m off (i + 1) (C ++ [cut t b (i - 1 - b + k)]) i := by
  obtain ⟨h1, h2, h3⟩ := h
  have hv := hs.valid (i := i) (k := k) hi
  refine ⟨by omega, by omega, ?_⟩
  rw [← Nat.add_assoc, R_new hv (by rw [h3, hs.cut hi]; exact fun x => he x.2), hs.cut hi, h3]
  have e : i + 1 - 1 - i + k = k := by omega
  rw [e]
  congr 1

theorem mid_end {l t : List UInt8} {k m off i b : Nat} {C : List (List UInt8)} (hk : 1 ≤ k) (hs : Stretch l off t) (h : Mid l t k m off i C b) (hi : t.length < i + k) :
    (R l k m (off + t.length + 1)).out = C ++ [t.drop b] ∧ Fresh l k m (off + t.length + 1) := by
  obtain ⟨h1, h2, h3⟩ := h
  have e : R l k m (off + t.length + 1) = R l k m (off + i) := R_gap _ (by omega) (fun j hj1 hj2 => hs.gap hk (by omega) (by omega))
  refine ⟨?_, ?_⟩
  · rw [e, h3]
    show C ++ [cut t b (i - 1 - b + k)] = _
    unfold cut
    rw [List.take_of_length_le (by rw [List.length_drop]; omega)]
  · unfold Fresh; rw [e, h3]; show ¬ ((off + i - 1 : Nat) : Int) = _; omega

theorem short_end {l t : List UInt8} {k m off : Nat} (hk : 1 ≤ k) (hs : Stretch l off t) (hf : Fresh l k m off) (h : t.length < k) :
    (R l k m (off + t.length + 1)).out = (R l k m off).out ∧ Fresh l k m (off + t.length + 1) := by
  have e : R l k m (off + t.length + 1) = R l k m off := R_gap _ (by omega) (fun j hj1 hj2 => hs.gap hk (by omega) (by omega))
  refine ⟨by rw [e], ?_⟩
  unfold Fresh
  rw [e]
  rcases good_R (l := l) (m := m) hk off with hg | ⟨A, p, b, h1, h2, h3, _⟩
  · rw [hg.2.1]; omega
  · rw [h2]; omega

/-- the stretches of a read, one behind the other -/
def Offs (l : List UInt8) : Nat → List (List UInt8) → Prop
  | off, [] => off = l.length + 1
  | off, t :: ts => Stretch l off t ∧ Offs l (off + t.length + 1) ts

theorem offs_body {l : List UInt8} (hl : l.all isBN = true) (c off : Nat) (hoff : off ≤ l.length) (hc : Lib.count (l.drop off) [78] = c)
    (hrec : ∀ c', c = c' + 1 → ∀ off, off ≤ l.length → Lib.count (l.drop off) [78] = c' → Offs l off (Lib.splitK [78] 0 c' (l.drop off))) : Offs l off (Lib.splitK [78] 0 c (l.drop off)) := by
  have hmem : ∀ x : Nat, x < l.length → ∀ b, l[x]? = some b → b ≠ 78 → isB b = true := by
    intro x hx b hb hne
    have := List.all_eq_true.1 hl b (List.mem_of_getElem? hb)
    simp only [isBN, Bool.or_eq_true, beq_iff_eq] at this
    rcases this with h | h
    · exact h
    · exact absurd h hne
  have hidx : Lib.index (l.drop off) [78] = Lib.indexByte (l.drop off) 78 := Lib.index_one _ _
  by_cases hm : Lib.index (l.drop off) [78] = -1
  · have h0 : c = 0 := by rw [← hc, Lib.count_miss hm]
    subst h0
    have hno := Lib.indexByte_none (hidx ▸ hm)
    show Stretch l off (l.drop off) ∧ Offs l (off + (l.drop off).length + 1) []
    have hlen : (l.drop off).length = l.length - off := List.length_drop
    refine ⟨⟨?_, ?_, by omega, .inl (by omega)⟩, ?_⟩
    · unfold cut; rw [List.take_of_length_le (Nat.le_refl _)]
    · rw [List.all_eq_true]
      intro b hb
      obtain ⟨i, hi⟩ := List.mem_iff_getElem?.1 hb
      have hi' : l[off + i]? = some b := by rw [← List.getElem?_drop]; exact hi
      exact hmem (off + i) (List.getElem?_eq_some_iff.1 hi').1 b hi' (fun e => hno i (by rw [hi, e]))
    · show off + (l.drop off).length + 1 = l.length + 1
      omega
  · obtain ⟨i, hi⟩ : ∃ i : Nat, Lib.index (l.drop off) [78] = i := ⟨(Lib.index (l.drop off) [78]).toNat, by have := Lib.index_ge (l.drop off) [78]; omega⟩
    have hcnt := Lib.count_hit (s := l.drop off) (sub := [78]) (by simp) hi
    rw [hc] at hcnt
    obtain ⟨c', rfl⟩ : ∃ c', c = c' + 1 := ⟨c - 1, by omega⟩
    have hs := Lib.indexByte_some (hidx ▸ hi)
    have hib : i < (l.drop off).length := (List.getElem?_eq_some_iff.1 hs.1).1
    have hlen : (l.drop off).length = l.length - off := List.length_drop
    have hdrop : (l.drop off).drop (i + [(78 : UInt8)].length) = l.drop (off + i + 1) := by
      rw [List.drop_drop]; rfl
    rw [hdrop] at hcnt
    have ih := hrec c' rfl (off + i + 1) (by omega) (by omega)
    have he : Lib.splitK [78] 0 (c' + 1) (l.drop off) = (l.drop off).take i :: Lib.splitK [78] 0 c' (l.drop (off + i + 1)) := by
      rw [Lib.splitK, if_neg (by rw [hi]; simp), hi, Int.toNat_natCast, Nat.add_zero, hdrop]
    rw [he]
    have htl : ((l.drop off).take i).length = i := by rw [List.length_take]; omega
    refine ⟨⟨?_, ?_, by rw [htl]; omega, ?_⟩, ?_⟩
    · rw [htl]; rfl
    · rw [List.all_eq_true]
      intro b hb
      obtain ⟨x, hx⟩ := List.mem_iff_getElem?.1 hb
      have hxi : x < i := by have := (List.getElem?_eq_some_iff.1 hx).1; omega
      rw [List.getElem?_take, if_pos hxi] at hx
      have hx' : l[off + x]? = some b := by rw [← List.getElem?_drop]; exact hx
      exact hmem (off + x) (List.getElem?_eq_some_iff.1 hx').1 b hx' (fun e => hs.2 x hxi (by rw [hx, e]))
    · right
      rw [htl]
      refine ⟨78, ?_, by decide⟩
      rw [← List.getElem?_drop]; exact hs.1
    · rw [htl]; exact ih

theorem offs_split {l : List UInt8} (hl : l.all isBN = true) (c : Nat) : ∀ off, off ≤ l.length → Lib.count (l.drop off) [78] = c → Offs l off (Lib.splitK [78] 0 c (l.drop off)) := by
  induction c with
  | zero => exact fun off hoff hc => offs_body hl 0 off hoff hc (fun c' h => by omega)
  | succ c ih =>
    refine fun off hoff hc => offs_body hl (c + 1) off hoff hc (fun c' h => ?_)
    have e : c' = c := by omega
    subst e
    exact ih

theorem offs_all {l : List UInt8} (hl : l.all isBN = true) : Offs l 0 (Lib.splitK [78] 0 (Lib.count l [78]) l) := by
  have := offs_split hl (Lib.count l [78]) 0 (Nat.zero_le _) (by rw [List.drop_zero])
  rwa [List.drop_zero] at this

/-- the pieces of a read -/
def piecesL (l : List UInt8) (k m : Nat) : List (List UInt8) := (R l k m (l.length + 1)).out

end Go.Proofs.YtbjgpfhbdmcbbabGreatDoor.dnamath

/-
  strings.Split at a separator of one byte.
-/
namespace Go.Proofs.YtbjgpfhbdmcbbabGreatDoor.split
open Go.RowKit Go.Shelf
set_option linter.unusedVariables false

theorem genSplit_one (s : ByteArray) (c : UInt8) (w : World) (hs : s.size < 4294967281) :
    Calls Tryz.prog 158 #[.string s, .string ⟨#[c]⟩, .int .i64 0, .int .i64 (-1)] w fun e w' =>
      e = .returned (.slice (some ⟨w.heap.size, 0, none⟩) (Lib.countB s ⟨#[c]⟩ + 1) (Lib.countB s ⟨#[c]⟩ + 1)) ∧ w' = w.alloc (.cells ((Lib.splitB ⟨#[c]⟩ 0 (Lib.countB s ⟨#[c]⟩) s).map Value.string).toArray 9) := by
  have h1 : 1 ≤ (⟨#[c]⟩ : ByteArray).size := Nat.le_refl _
  have hle := Lib.countB_le ⟨#[c]⟩ h1 s.size s (Nat.le_refl _)
  have hlen := Lib.splitB_all ⟨#[c]⟩ h1 0 _ s rfl
  have hI : ∀ (x : ByteArray) (q : Array Value), x.size ≤ s.size → Calls Tryz.prog 174 #[.string x, .string ⟨#[c]⟩] (w.alloc (.cells q 9)) fun e w' => e = .returned (.int .i64 (Lib.indexB x ⟨#[c]⟩)) ∧ w' = w.alloc (.cells q 9) := fun x q _ => by
    refine (Tryz.strings_Index_one x c _).mono fun e w' ⟨he, hw⟩ => ⟨?_, hw⟩
    rw [he]
    show _ = Ending.returned (Value.int .i64 (Lib.index x.data.toList [c]))
    rw [Lib.index_one]
  have hC : Calls Tryz.prog 173 #[.string s, .string ⟨#[c]⟩] w fun e w' => e = .returned (.int .i64 (Lib.countB s ⟨#[c]⟩)) ∧ w' = w := by
    refine (Tryz.strings_Count_one s c w).mono fun e w' ⟨he, hw⟩ => ⟨?_, hw⟩
    rw [he]
    show _ = Ending.returned (Value.int .i64 ((Lib.count s.data.toList [c] : Nat) : Int))
    rw [Lib.count_one]
    rfl
  have g := Any.strings_genSplit_core Tryz.lays221 (by kernel_rfl) s ⟨#[c]⟩ 0 (-1) (Lib.countB s ⟨#[c]⟩ + 1) w hs h1 (Nat.zero_le _) hI hC (by decide) (by decide) (by rw [if_pos (by decide)]; omega)
  rw [Nat.add_sub_cancel, hlen] at g
  have e2 : Lib.cellsOf (Lib.splitB ⟨#[c]⟩ 0 (Lib.countB s ⟨#[c]⟩) s) (Lib.countB s ⟨#[c]⟩ + 1) = ((Lib.splitB ⟨#[c]⟩ 0 (Lib.countB s ⟨#[c]⟩) s).map Value.string).toArray := by
    have h := Lib.cellsOf_full (Lib.splitB ⟨#[c]⟩ 0 (Lib.countB s ⟨#[c]⟩) s)
    rw [hlen] at h; exact h
  rw [e2] at g
  exact g

set_option maxHeartbeats 400000 in
theorem split_one (s : ByteArray) (c : UInt8) (w : World) (hs : s.size < 4294967281) :
    Calls Tryz.prog 132 #[.string s, .string ⟨#[c]⟩] w fun e w' =>
      ∃ ts : List ByteArray, e = .returned (.slice (some ⟨w.heap.size, 0, none⟩) ts.length ts.length) ∧ w' = w.alloc (.cells (ts.map Value.string).toArray 9) ∧ ts.map (·.data.toList) = Lib.splitK [c] 0 (Lib.count s.data.toList [c]) s.data.toList ∧ ts.length ≤ s.size + 1 := by
  have h1 : 1 ≤ (⟨#[c]⟩ : ByteArray).size := Nat.le_refl _
  have hlen := Lib.splitB_all ⟨#[c]⟩ h1 0 _ s rfl
  have hle := Lib.countB_le ⟨#[c]⟩ h1 s.size s (Nat.le_refl _)
  have hd := Lib.splitB_data ⟨#[c]⟩ 0 (Lib.countB s ⟨#[c]⟩) s
  obtain ⟨ts, hts⟩ : ∃ ts, ts = Lib.splitB ⟨#[c]⟩ 0 (Lib.countB s ⟨#[c]⟩) s := ⟨_, rfl⟩
  have g := genSplit_one s c w hs
  rw [← hts] at g hlen hd
  rw [← hlen] at g
  have HD : Hid (ts.map (·.data.toList) = Lib.splitK [c] 0 (Lib.count s.data.toList [c]) s.data.toList) := hd
  have HL : Hid (ts.length ≤ s.size + 1) := by show _ ≤ _; omega
  clear hts hd hlen hle
  go_enter Tryz.func132, Tryz.ntmps132
  go_wp2_with (go_at_call 158; refine g.mono ?_; rintro e w' ⟨rfl, rfl⟩)
  go_ret
  exact ⟨ts, rfl, rfl, HD.out, HL.out⟩
end Go.Proofs.YtbjgpfhbdmcbbabGreatDoor.split

/-
  CONTRACTS of package dna: appendPieces, piecesOf, isRead, Pieces.
-/
namespace Go.Proofs.YtbjgpfhbdmcbbabGreatDoor.pieces
open Go.RowKit dnamath dna
set_option linter.unusedVariables false

def scells (ps : List ByteArray) : List Value := ps.map Value.string
def datas (ps : List ByteArray) : List (List UInt8) := ps.map (·.data.toList)
theorem datas_snoc (ps : List ByteArray) (x : ByteArray) : datas (ps ++ [x]) = datas ps ++ [x.data.toList] := by simp [datas]
theorem datas_length (ps : List ByteArray) : (datas ps).length = ps.length := by simp [datas]

theorem infoS : (Tryz.prog.info? 9).map (fun i => (i.zero, i.size, i.bytes)) = some (some (.string ByteArray.empty), 1, 16) := by kernel_rfl

theorem own_later {w w' : World} {base : Nat} {e : TypeId} {v : Value} {n : Nat} {xs : List Value} (h : w.ownsRow base e 1 v n xs) (hb : Below w.heap.size w w') : w'.ownsRow base e 1 v n xs := by
  refine ⟨h.1, ?_⟩
  rcases h.2 with h | ⟨g, cap, cur, h1, h2, h3, h4⟩
  · exact .inl h
  · exact .inr ⟨g, cap, cur, h1, h2, (hb.block g (lt_of_block h3)).trans h3, h4⟩

theorem cell_one (w : World) (x : Value) (t : TypeId) : ∀ j u, [x][j]? = some u → (w.alloc (.cells #[x] t)).cell? ((⟨w.heap.size, 0, none⟩ : Addr).add j) = some u := by
  intro j u hj
  match j, hj with
  | 0, hj => simp at hj; subst hj; simp [Addr.add]
theorem one_str (s : ByteArray) : ∀ u ∈ [Value.string s], u.oneCell' = true := by
  intro u hu; simp at hu; subst hu; rfl
theorem push_str {base : Nat} {w wr w1 : World} {v v' : Value} {ps : List ByteArray} {c : ByteArray} {o : Obj} (hown : wr.ownsRow base 9 1 v ps.length (scells ps)) (hb : Below base w wr) (hbase : base ≤ wr.heap.size)
    (hown' : w1.ownsRow base 9 1 v' (ps.length + 1) (scells ps ++ [.string c])) (hgrow : (wr.alloc o).grownBy w1 v.ownBlock) :
    w1.ownsRow base 9 1 v' (ps ++ [c]).length (scells (ps ++ [c])) ∧ Below base w w1 := by
  refine ⟨?_, (hb.alloc hbase o).grown hgrow (by simp; omega) (fun j hj => (hown.lt j hj).1)⟩
  have e : scells (ps ++ [c]) = scells ps ++ [.string c] := by simp [scells]
  rw [e, List.length_append]
  exact hown'

theorem R_len {l : List UInt8} {k m : Nat} : ∀ j, (R l k m j).out.length ≤ j
  | 0 => Nat.le_refl _
  | j + 1 => by
    have ih := R_len (l := l) (k := k) (m := m) j
    cases hv : validW l k j with
    | false => rw [R_skip hv]; omega
    | true =>
      by_cases hc : (R l k m j).last = (j : Int) - 1 ∧ markL m (cut l j k) = (R l k m j).was
      · rw [R_more hv hc.1 hc.2]
        show (ext _ _).length ≤ _
        simp only [ext, List.length_append, List.length_dropLast, List.length_singleton]; omega
      · rw [R_new hv hc]
        show (_ ++ [_]).length ≤ _
        rw [List.length_append]; simp; omega

theorem slice_be (t : ByteArray) (b i k : Nat) (hb : b < i) (h : i + k ≤ t.size + 1) (hs : t.size ≤ 140737488351232) (w : World) : (Instr.slice 9 (.string t) (some (.int .i64 (b : Int))) (some (.int .i64 ((i : Int) - 1 + (k : Int)))) none).run Tryz.prog w = .ok (.string (t.extract b (i - 1 + k))) w := by
  have := run_slice_string (P := Tryz.prog) (w := w) 9 t .i64 .i64 (b : Int) ((i : Int) - 1 + (k : Int)) Tryz.underlying9 (by omega) (by omega) (by omega)
  rw [this]
  have e1 : ((b : Int)).toNat = b := by omega
  have e2 : ((i : Int) - 1 + (k : Int)).toNat = i - 1 + k := by omega
  rw [e1, e2]
theorem slice_to (t : ByteArray) (k : Nat) (h : k ≤ t.size) (w : World) : (Instr.slice 9 (.string t) none (some (.int .i64 (k : Int))) none).run Tryz.prog w = .ok (.string (t.extract 0 k)) w := by
  rw [run_slice_string_to_if w 9 t .i64 (k : Int) Tryz.underlying9, if_pos (by omega)]
  simp
theorem slice_from (t : ByteArray) (b : Nat) (h : b ≤ t.size) (w : World) : (Instr.slice 9 (.string t) (some (.int .i64 (b : Int))) none none).run Tryz.prog w = .ok (.string (t.extract b t.size)) w := by
  rw [run_slice_string_from_if w 9 t .i64 (b : Int) Tryz.underlying9, if_pos (by omega)]
  simp

theorem ap_size (t : ByteArray) (b x : Nat) (h : x ≤ t.size) : (t.extract b x).size ≤ t.size := by simp [ByteArray.size_extract]; omega
theorem ap_data (t : ByteArray) {b i k : Nat} (hb : b < i) : (t.extract b (i - 1 + k)).data.toList = cut t.data.toList b (i - 1 - b + k) := by
  rw [Lib.extract_data, cut]; congr 1; omega
theorem mark_of {t r : ByteArray} {i k m : Nat} (hm : m ≤ k) (h : i + k ≤ t.size) (hr : Least (Both (t.extract i (i + k)).data.toList m) r.data.toList) : r.data.toList = markL m (cut t.data.toList i k) := by
  rw [cut_extract] at hr
  exact mark_eq (by rw [cut_length (by rw [← Lib.size_eq]; exact h)]; exact hm) hr
theorem mark_of0 {t r : ByteArray} {k m : Nat} (hm : m ≤ k) (h : k ≤ t.size) (hr : Least (Both (t.extract 0 k).data.toList m) r.data.toList) : r.data.toList = markL m (cut t.data.toList 0 k) := by
  rw [cut_extract0] at hr
  exact mark_eq (by rw [cut_length (by rw [← Lib.size_eq]; omega)]; exact hm) hr
theorem str_ne {a b : ByteArray} (h : (a.toList == b.toList) = false) : ¬ a.data.toList = b.data.toList := by
  rw [Lib.toList_data, Lib.toList_data, beq_eq_false_iff_ne] at h; exact h
theorem str_eq {a b : ByteArray} (h : (a.toList == b.toList) = true) : a.data.toList = b.data.toList := by
  rw [Lib.toList_data, Lib.toList_data, beq_iff_eq] at h; exact h

set_option maxHeartbeats 2000000 in
set_option maxRecDepth 100000 in
theorem appendPieces_any (base : Nat) (l : List UInt8) (off : Nat) (v : Value) (ps : List ByteArray) (t : ByteArray) (k m : Nat) (w : World) (hk1 : 1 ≤ k) (hk : k ≤ 31) (hm1 : 1 ≤ m) (hm : m ≤ k) (hl : l.length ≤ 4000000)
    (hown : w.ownsRow base 9 1 v ps.length (scells ps)) (hbase : base ≤ w.heap.size) (hst : Stretch l off t.data.toList) (hfr : Fresh l k m off) (hps : datas ps = (R l k m off).out) :
    Calls Tryz.prog 164 #[v, .string t, .int .i64 (k : Int), .int .i64 (m : Int)] w fun e w' =>
      ∃ v' ps', e = .returned v' ∧ w'.ownsRow base 9 1 v' ps'.length (scells ps') ∧ datas ps' = (R l k m (off + t.size + 1)).out ∧ Fresh l k m (off + t.size + 1) ∧ Below base w w' := by
  have hoff := hst.fits
  rw [← Lib.size_eq] at hoff
  have hpl : ps.length ≤ off := by rw [← datas_length, hps]; exact R_len _
  have hts : t.size ≤ 140737488351232 := by omega
  obtain ⟨i0, hi, hz0, hz1, hz2⟩ := info_parts infoS
  have HST : Hid (Stretch l off t.data.toList) := hst
  have HFR : Hid (Fresh l k m off) := hfr
  have HPS : Hid (datas ps = (R l k m off).out) := hps
  clear hst hfr hps
  by_cases hsh : t.size < k
  · go_enter Tryz.func164, Tryz.ntmps164
    go_wp2
    go_ret
    have g := short_end hk1 HST.out HFR.out (by rw [← Lib.size_eq]; exact hsh)
    rw [← Lib.size_eq] at g
    exact ⟨v, ps, rfl, hown, by rw [g.1]; exact HPS.out, g.2, Below.refl _ _⟩
  · have hkt : k ≤ t.size := by omega
    have hsl0 := slice_to t k hkt
    have hz : (t.extract 0 k).size = k := by simp [ByteArray.size_extract]; omega
    go_enter Tryz.func164, Tryz.ntmps164
    go_wp2_with fail
    refine (markOf_any (t.extract 0 k) m w (by omega) (by omega)).mono ?_
    rintro e w1 ⟨r0, rfl, hr0, hb1⟩
    have HR0 : Hid (r0.data.toList = markL m (cut t.data.toList 0 k)) := mark_of0 hm hkt hr0
    have hown1 := own_later hown hb1
    have hbase1 : base ≤ w1.heap.size := Nat.le_trans hbase hb1.size
    have hbel1 : Below base w w1 := hb1.mono hbase
    clear hr0 hown hb1 hsl0 hz
    go_wp2
    go_loopw [0, 9, 10, 11] (fun v b mk i wr => ∃ (i' b' : Nat) (ps : List ByteArray) (r : ByteArray), i = .int .i64 i' ∧ b = .int .i64 b' ∧ mk = .string r ∧ Hid (r.data.toList = markL m (cut t.data.toList (i' - 1) k)) ∧ wr.ownsRow base 9 1 v ps.length (scells ps) ∧ 1 ≤ i' ∧ b' < i' ∧ i' + k ≤ t.size + 1 ∧ ps.length ≤ off + i' ∧
        Hid (Mid l t.data.toList k m off i' (datas ps) b') ∧ Below base w wr ∧ base ≤ wr.heap.size) (fun _ _ _ i _ => t.size + 1 - (intOf i).toNat)
    case atStart =>
      exact ⟨1, 0, ps, r0, rfl, rfl, rfl, HR0.out, hown1, by omega, by omega, by omega, by omega, by rw [HPS.out]; exact mid_start HST.out HFR.out (by rw [← Lib.size_eq]; omega), hbel1, hbase1⟩
    case round =>
      obtain ⟨i, b, qs, r, rfl, rfl, rfl, HR, hown, hi1, hbi, hik, hql, HM, hbel, hbs⟩ := hrel
      clear hown1 hbel1 hbase1
      have hmx : qs.length + 1 ≤ maxLen := by unfold maxLen; omega
      have hby : (qs.length + 1) * 16 ≤ 140737488355328 := by omega
      by_cases hlt : i + k ≤ t.size
      · have hsl := slice_km t i k hlt hts
        have hz : (t.extract i (i + k)).size = k := by simp [ByteArray.size_extract]; omega
        have hz2 : (t.extract i (i + k)).size ≤ 140737488351232 := by omega
        have hz3 : m ≤ (t.extract i (i + k)).size := by omega
        clear hz
        go_wp2_with fail
        refine (markOf_any (t.extract i (i + k)) m _ hz2 hz3).mono ?_
        rintro e w2 ⟨r2, rfl, hr2, hb2⟩
        have HR2 : Hid (r2.data.toList = markL m (cut t.data.toList i k)) := mark_of hm hlt hr2
        have hown2 := own_later hown hb2
        have hbs2 : base ≤ w2.heap.size := Nat.le_trans hbs hb2.size
        have hbel2 : Below base w w2 := hbel.trans (hb2.mono hbs)
        clear hr2 hown hb2 hsl hz2 hz3 hbel hbs
        cases hq : (r2.toList == r.toList) with
        | true =>
          go_wp2
          go_roundw
          case rel =>
            have hrr := str_eq hq
            exact ⟨i + 1, b, qs, r, by go_num, rfl, rfl, by rw [← hrr, Nat.add_sub_cancel]; exact HR2.out, hown2, by omega, by omega, by omega, by omega,
              mid_more hk1 HST.out HM.out (by rw [← Lib.size_eq]; exact hlt) (by rw [← HR2.out, ← HR.out]; exact hrr), hbel2, hbs2⟩
          case measure => simp [intOf]; omega
        | false =>
          have hsl2 := slice_be t b i k hbi hik hts
          have hz4 := ap_size t b (i - 1 + k) (by omega)
          go_wp2_with fail
          refine (clone_any (t.extract b (i - 1 + k)) _ (by omega)).mono ?_
          rintro e w3 ⟨rfl, hb3⟩
          have hown3 := own_later hown2 hb3
          have hbs3 : base ≤ w3.heap.size := Nat.le_trans hbs2 hb3.size
          have hbel3 : Below base w w3 := hbel2.trans (hb3.mono hbs2)
          clear hown2 hb3 hbel2 hbs2 hz4
          go_wp2_with (at_builtin; refine wpList_append_own _ rfl (.tmp 47) (.tmp 53) 28 rfl base 9 i0 (.string ByteArray.empty) 1 16 Tryz.underlying28 hi hz0 hz1 hz2 rfl (by decide) _ _ _ rfl (hown3.alloc _) ⟨w3.heap.size, 0, none⟩ 1 1 [.string (t.extract b (i - 1 + k))] rfl rfl (cell_one _ _ _) (one_str _) hmx hby (by simp; omega) ?_; intro v' w4 hown' hgrow _)
          obtain ⟨R1, R2⟩ := push_str (c := t.extract b (i - 1 + k)) hown3 hbel3 hbs3 hown' hgrow
          have hsz4 : base ≤ w4.heap.size := by have := hgrow.size; simp at this; omega
          clear hown' hgrow hown3 hbel3 hsl2
          go_wp2
          go_roundw
          case rel =>
            exact ⟨i + 1, i, qs ++ [t.extract b (i - 1 + k)], r2, by go_num, rfl, rfl, by rw [Nat.add_sub_cancel]; exact HR2.out, R1, by omega, by omega, by omega, by rw [List.length_append]; simp; omega,
              by rw [datas_snoc, ap_data t hbi]; exact mid_new hk1 HST.out HM.out (by rw [← Lib.size_eq]; exact hlt) (by rw [← HR2.out, ← HR.out]; exact str_ne hq), R2, hsz4⟩
          case measure => simp [intOf]; omega
      · have hsl3 := slice_from t b (by omega)
        have hz4 := ap_size t b t.size (Nat.le_refl _)
        go_wp2_with fail
        refine (clone_any (t.extract b t.size) _ (by omega)).mono ?_
        rintro e w3 ⟨rfl, hb3⟩
        have hown3 := own_later hown hb3
        have hbs3 : base ≤ w3.heap.size := Nat.le_trans hbs hb3.size
        have hbel3 : Below base w w3 := hbel.trans (hb3.mono hbs)
        clear hown hb3 hbel hbs hz4
        go_wp2_with (at_builtin; refine wpList_append_own _ rfl (.tmp 57) (.tmp 62) 28 rfl base 9 i0 (.string ByteArray.empty) 1 16 Tryz.underlying28 hi hz0 hz1 hz2 rfl (by decide) _ _ _ rfl (hown3.alloc _) ⟨w3.heap.size, 0, none⟩ 1 1 [.string (t.extract b t.size)] rfl rfl (cell_one _ _ _) (one_str _) hmx hby (by simp; omega) ?_; intro v' w4 hown' hgrow _)
        obtain ⟨R1, R2⟩ := push_str (c := t.extract b t.size) hown3 hbel3 hbs3 hown' hgrow
        clear hown' hgrow hown3 hbel3 hsl3
        go_wp2
        go_ret
        have g := mid_end hk1 HST.out HM.out (by rw [← Lib.size_eq]; omega)
        rw [← Lib.size_eq] at g
        exact ⟨v', qs ++ [t.extract b t.size], rfl, R1, by rw [datas_snoc, Lib.extract_to_end]; exact g.1.symm, g.2, R2⟩
end Go.Proofs.YtbjgpfhbdmcbbabGreatDoor.pieces
