/-
  PLAIN MATHEMATICS OF PIECES. It imports nothing of the program.
-/
import Derived.Test.YtbjgpfhbdmcbbaaDoorMath
import Derived.Lib.SplitLaws
import Derived.Lib.IndexBytes
namespace Go.Proofs.YtbjgpfhbdmcbbaaDoor.dnamath
set_option linter.unusedVariables false

/-- the mark, reckoned -/
def markL (m : Nat) (w : List UInt8) : List UInt8 :=
  (List.range (w.length - m)).foldl (fun r i => minL r (minL (cut w (i + 1) m) (turn (cut w (i + 1) m)))) (minL (cut w 0 m) (turn (cut w 0 m)))

theorem markL_to {w : List UInt8} {m : Nat} (h : m ≤ w.length) : ∀ n, n ≤ w.length - m →
    Least (CanonTo w m (n + 1)) ((List.range n).foldl (fun r i => minL r (minL (cut w (i + 1) m) (turn (cut w (i + 1) m)))) (minL (cut w 0 m) (turn (cut w 0 m))))
  | 0, _ => canon_start h
  | n + 1, hn => by
    rw [List.range_succ, List.foldl_append]
    exact canon_step (by omega) (markL_to h n (by omega))

theorem markL_least {w : List UInt8} {m : Nat} (h : m ≤ w.length) : Least (Both w m) (markL m w) :=
  least_canon (by omega) (markL_to h _ (Nat.le_refl _))

theorem mark_eq {w r : List UInt8} {m : Nat} (h : m ≤ w.length) (hr : Least (Both w m) r) : r = markL m w := hr.unique (markL_least h)

structure St where
  out : List (List UInt8)
  last : Int
  was : List UInt8

def validW (l : List UInt8) (k j : Nat) : Bool := (cut l j k).length == k && (cut l j k).all isB
def ext (out : List (List UInt8)) (x : List UInt8) : List (List UInt8) := out.dropLast ++ [out.getLast?.getD [] ++ x]
def stepR (l : List UInt8) (k m j : Nat) (s : St) : St :=
  if validW l k j then
    (if s.last = (j : Int) - 1 ∧ markL m (cut l j k) = s.was then ⟨ext s.out ((cut l j k).drop (k - 1)), j, markL m (cut l j k)⟩
     else ⟨s.out ++ [cut l j k], j, markL m (cut l j k)⟩)
  else s
def R (l : List UInt8) (k m : Nat) : Nat → St
  | 0 => ⟨[], -2, []⟩
  | j + 1 => stepR l k m j (R l k m j)

theorem ext_snoc (A : List (List UInt8)) (p x : List UInt8) : ext (A ++ [p]) x = A ++ [p ++ x] := by simp [ext]

theorem R_skip {l : List UInt8} {k m j : Nat} (h : validW l k j = false) : R l k m (j + 1) = R l k m j := by
  show stepR l k m j (R l k m j) = _
  unfold stepR; rw [h]; rfl
theorem R_more {l : List UInt8} {k m j : Nat} (h : validW l k j = true) (h1 : (R l k m j).last = (j : Int) - 1) (h2 : markL m (cut l j k) = (R l k m j).was) :
    R l k m (j + 1) = ⟨ext (R l k m j).out ((cut l j k).drop (k - 1)), j, markL m (cut l j k)⟩ := by
  show stepR l k m j (R l k m j) = _
  unfold stepR; rw [if_pos h, if_pos ⟨h1, h2⟩]
theorem R_new {l : List UInt8} {k m j : Nat} (h : validW l k j = true) (h1 : ¬ ((R l k m j).last = (j : Int) - 1 ∧ markL m (cut l j k) = (R l k m j).was)) :
    R l k m (j + 1) = ⟨(R l k m j).out ++ [cut l j k], j, markL m (cut l j k)⟩ := by
  show stepR l k m j (R l k m j) = _
  unfold stepR; rw [if_pos h, if_neg h1]

/-- what the state looks like -/
def Good (l : List UInt8) (k m j : Nat) (s : St) : Prop :=
  (s.out = [] ∧ s.last = -2 ∧ s.was = []) ∨
  ∃ (A : List (List UInt8)) (p : List UInt8) (b : Nat), s.out = A ++ [p] ∧ s.last = (b : Int) ∧ b < j ∧ validW l k b = true ∧ k ≤ p.length ∧ p.drop (p.length - k) = cut l b k ∧ s.was = markL m (cut l b k)

theorem drop_cut {l : List UInt8} {b k : Nat} (hk : 1 ≤ k) (h : (cut l (b + 1) k).length = k) : (cut l b k).drop 1 ++ (cut l (b + 1) k).drop (k - 1) = cut l (b + 1) k := by
  obtain ⟨k', rfl⟩ : ∃ k', k = k' + 1 := ⟨k - 1, by omega⟩
  have e1 : (cut l b (k' + 1)).drop 1 = cut l (b + 1) k' := by
    unfold cut
    rw [List.drop_take, List.drop_drop, Nat.add_sub_cancel]
  have e2 : cut l (b + 1) k' = (cut l (b + 1) (k' + 1)).take k' := by
    unfold cut
    rw [List.take_take, Nat.min_eq_left (by omega)]
  rw [e1, e2, Nat.add_sub_cancel, List.take_append_drop]

theorem valid_len {l : List UInt8} {k j : Nat} (h : validW l k j = true) : (cut l j k).length = k := by
  unfold validW at h; simp only [Bool.and_eq_true, beq_iff_eq] at h; exact h.1
theorem valid_all {l : List UInt8} {k j : Nat} (h : validW l k j = true) : (cut l j k).all isB = true := by
  unfold validW at h; simp only [Bool.and_eq_true, beq_iff_eq] at h; exact h.2
theorem valid_fits {l : List UInt8} {k j : Nat} (hk : 1 ≤ k) (h : validW l k j = true) : j + k ≤ l.length := by
  have := valid_len h
  unfold cut at this
  rw [List.length_take, List.length_drop] at this
  omega

theorem good_R {l : List UInt8} {k m : Nat} (hk : 1 ≤ k) : ∀ j, Good l k m j (R l k m j)
  | 0 => .inl ⟨rfl, rfl, rfl⟩
  | j + 1 => by
    have ih := good_R (l := l) (m := m) hk j
    cases hv : validW l k j with
    | false =>
      rw [R_skip hv]
      rcases ih with h | ⟨A, p, b, h1, h2, h3, h4⟩
      · exact .inl h
      · exact .inr ⟨A, p, b, h1, h2, by omega, h4⟩
    | true =>
      have hlen := valid_len hv
      by_cases hc : (R l k m j).last = (j : Int) - 1 ∧ markL m (cut l j k) = (R l k m j).was
      · rw [R_more hv hc.1 hc.2]
        rcases ih with h | ⟨A, p, b, h1, h2, h3, h4, h5, h6, h7⟩
        · have := hc.1; rw [h.2.1] at this; omega
        · have hb : b + 1 = j := by have := hc.1; rw [h2] at this; omega
          subst hb
          refine .inr ⟨A, p ++ (cut l (b + 1) k).drop (k - 1), b + 1, ?_, rfl, by omega, hv, ?_, ?_, rfl⟩
          · show ext (R l k m (b + 1)).out _ = _
            rw [h1, ext_snoc]
          · rw [List.length_append]; omega
          · have e : ((cut l (b + 1) k).drop (k - 1)).length = 1 := by rw [List.length_drop, hlen]; omega
            have hx : p.length + 1 - k = (p.length - k) + 1 := by omega
            have e0 : (p.length - k) + 1 - p.length = 0 := by omega
            have e4 : p.drop ((p.length - k) + 1) = (p.drop (p.length - k)).drop 1 := by rw [List.drop_drop]
            rw [List.length_append, e, hx, List.drop_append, e0, List.drop_zero, e4, h6]
            exact drop_cut hk hlen
      · rw [R_new hv hc]
        exact .inr ⟨(R l k m j).out, cut l j k, j, rfl, rfl, by omega, hv, by omega, by rw [hlen, Nat.sub_self, List.drop_zero], rfl⟩

/-- what comes later goes on from what is there -/
theorem R_ext {l : List UInt8} {k m i : Nat} {A : List (List UInt8)} {p : List UInt8} (h : (R l k m i).out = A ++ [p]) : ∀ j, i ≤ j → ∃ e B, (R l k m j).out = A ++ [p ++ e] ++ B
  | 0, hj => ⟨[], [], by have : i = 0 := by omega
                         subst this; rw [h]; simp⟩
  | j + 1, hj => by
    by_cases hij : i = j + 1
    · subst hij; exact ⟨[], [], by rw [h]; simp⟩
    · obtain ⟨e, B, ih⟩ := R_ext h j (by omega)
      cases hv : validW l k j with
      | false => exact ⟨e, B, by rw [R_skip hv, ih]⟩
      | true =>
        by_cases hc : (R l k m j).last = (j : Int) - 1 ∧ markL m (cut l j k) = (R l k m j).was
        · rw [R_more hv hc.1 hc.2]
          show ∃ e B, ext (R l k m j).out _ = _
          rw [ih]
          rcases List.eq_nil_or_concat B with rfl | ⟨B', q, rfl⟩
          · exact ⟨e ++ (cut l j k).drop (k - 1), [], by rw [List.append_nil, List.append_nil, ext_snoc, List.append_assoc]⟩
          · exact ⟨e, B' ++ [q ++ (cut l j k).drop (k - 1)], by rw [List.concat_eq_append, ← List.append_assoc, ext_snoc, List.append_assoc]⟩
        · rw [R_new hv hc]
          exact ⟨e, B ++ [cut l j k], by show (R l k m j).out ++ _ = _; rw [ih, List.append_assoc]⟩

theorem R_past {l : List UInt8} {k m j : Nat} (h : ∀ i, j ≤ i → validW l k i = false) : ∀ n, j ≤ n → R l k m n = R l k m j
  | 0, hn => by have : j = 0 := by omega
                subst this; rfl
  | n + 1, hn => by
    by_cases e : j = n + 1
    · subst e; rfl
    · rw [R_skip (h n (by omega))]; exact R_past h n (by omega)

theorem R_gap {l : List UInt8} {k m j : Nat} : ∀ n, j ≤ n → (∀ i, j ≤ i → i < n → validW l k i = false) → R l k m n = R l k m j
  | 0, hn, _ => by have : j = 0 := by omega
                   subst this; rfl
  | n + 1, hn, h => by
    by_cases e : j = n + 1
    · subst e; rfl
    · rw [R_skip (h n (by omega) (by omega))]; exact R_gap n (by omega) (fun i h1 h2 => h i h1 (by omega))

theorem invalid_past {l : List UInt8} {k j : Nat} (hk : 1 ≤ k) (h : l.length < j + k) : validW l k j = false := by
  cases hv : validW l k j with
  | false => rfl
  | true => have := valid_fits hk hv; omega

theorem invalid_N {l : List UInt8} {k j x : Nat} {c : UInt8} (h : l[x]? = some c) (hc : isB c = false) (h1 : j ≤ x) (h2 : x < j + k) : validW l k j = false := by
  cases hv : validW l k j with
  | false => rfl
  | true =>
    have ha := valid_all hv
    have hm : c ∈ cut l j k := by
      unfold cut
      apply List.mem_of_getElem? (i := x - j)
      rw [List.getElem?_take, if_pos (by omega), List.getElem?_drop]
      have : j + (x - j) = x := by omega
      rw [this, h]
    have := List.all_eq_true.1 ha c hm
    rw [hc] at this; cases this

/-- a stretch without N, at its place -/
structure Stretch (l : List UInt8) (off : Nat) (t : List UInt8) : Prop where
  at_ : cut l off t.length = t
  clean : t.all isB = true
  fits : off + t.length ≤ l.length
  stop : off + t.length = l.length ∨ ∃ c, l[off + t.length]? = some c ∧ isB c = false

theorem Stretch.cut {l t : List UInt8} {off i k : Nat} (h : Stretch l off t) (hi : i + k ≤ t.length) : cut l (off + i) k = dnamath.cut t i k := by
  have e := h.at_
  unfold dnamath.cut at e ⊢
  conv => rhs; rw [← e]
  rw [List.drop_take, List.take_take, List.drop_drop]
  congr 1
  omega

theorem Stretch.valid {l t : List UInt8} {off i k : Nat} (h : Stretch l off t) (hi : i + k ≤ t.length) : validW l k (off + i) = true := by
  have ha : (dnamath.cut t i k).all isB = true := all_part (l := t) h.clean i k
  unfold validW
  rw [h.cut hi, cut_length hi, ha]
  simp
theorem Stretch.gap {l t : List UInt8} {off j k : Nat} (hk : 1 ≤ k) (h : Stretch l off t) (h1 : off + t.length < j + k) (h2 : j ≤ off + t.length) : validW l k j = false := by
  rcases h.stop with e | ⟨c, hc, hb⟩
  · exact invalid_past hk (by omega)
  · exact invalid_N hc hb h2 h1

def Fresh (l : List UInt8) (k m off : Nat) : Prop := ¬ (R l k m off).last = (off : Int) - 1

/-- the state in a stretch, i words on -/
def Mid (l t : List UInt8) (k m off i : Nat) (C : List (List UInt8)) (b : Nat) : Prop :=
  b < i ∧ i + k ≤ t.length + 1 ∧ R l k m (off + i) = ⟨C ++ [cut t b (i - 1 - b + k)], ((off + i - 1 : Nat) : Int), markL m (cut t (i - 1) k)⟩

theorem mid_start {l t : List UInt8} {k m off : Nat} (hs : Stretch l off t) (hf : Fresh l k m off) (hk : k ≤ t.length) : Mid l t k m off 1 (R l k m off).out 0 := by
  have hv := hs.valid (i := 0) (k := k) (by omega)
  refine ⟨by omega, by omega, ?_⟩
  rw [Nat.add_zero] at hv
  rw [R_new hv (fun h => hf h.1)]
  have e := hs.cut (i := 0) (k := k) (by omega)
  rw [Nat.add_zero] at e
  rw [e]
  simp

theorem mid_more {l t : List UInt8} {k m off i b : Nat} {C : List (List UInt8)} (hk : 1 ≤ k) (hs : Stretch l off t) (h : Mid l t k m off i C b) (hi : i + k ≤ t.length) (he : markL m (cut t i k) = markL m (cut t (i - 1) k)) : Mid l t k m off (i + 1) C b := by
  obtain ⟨h1, h2, h3⟩ := h
  have hv := hs.valid (i := i) (k := k) hi
  refine ⟨by omega, by omega, ?_⟩
  rw [← Nat.add_assoc, R_more hv (by rw [h3]; show ((off + i - 1 : Nat) : Int) = _; omega) (by rw [h3, hs.cut hi]; exact he), hs.cut hi, h3]
  show St.mk (ext (C ++ [cut t b (i - 1 - b + k)]) _) _ _ = _
  rw [ext_snoc]
  have e1 : cut t b (i - 1 - b + k) ++ (cut t i k).drop (k - 1) = cut t b (i + 1 - 1 - b + k) := by
    unfold cut
    have : i + 1 - 1 - b + k = (i - 1 - b + k) + 1 := by omega
    have q1 : k - (k - 1) = 1 := by omega
    have q2 : (t.drop b).drop (i - 1 - b + k) = (t.drop i).drop (k - 1) := by rw [List.drop_drop, List.drop_drop]; congr 1; omega
    obtain ⟨X, hX⟩ : ∃ X, X = i - 1 - b + k := ⟨_, rfl⟩
    rw [← hX] at q2
    rw [this, ← hX, List.take_add, q2, List.drop_take, q1]
  rw [e1]
  congr 1

theorem mid_new {l t : List UInt8} {k m off i b : Nat} {C : List (List UInt8)} (hk : 1 ≤ k) (hs : Stretch l off t) (h : Mid l t k m off i C b) (hi : i + k ≤ t.length) (he : ¬ markL m (cut t i k) = markL m (cut t (i - 1) k)) :
    Mid l t k m off (i + 1) (C ++ [cut t b (i - 1 - b + k)]) i := by
  obtain ⟨h1, h2, h3⟩ := h
  have hv := hs.valid (i := i) (k := k) hi
  refine ⟨by omega, by omega, ?_⟩
  rw [← Nat.add_assoc, R_new hv (by rw [h3, hs.cut hi]; exact fun x => he x.2), hs.cut hi, h3]
  have e : i + 1 - 1 - i + k = k := by omega
  rw [e]
  congr 1

theorem mid_end {l t : List UInt8} {k m off i b : Nat} {C : List (List UInt8)} (hk : 1 ≤ k) (hs : Stretch l off t) (h : Mid l t k m off i C b) (hi : t.length < i + k) :
    (R l k m (off + t.length + 1)).out = C ++ [t.drop b] ∧ Fresh l k m (off + t.length + 1) := by
  obtain ⟨h1, h2, h3⟩ := h
  have e : R l k m (off + t.length + 1) = R l k m (off + i) := R_gap _ (by omega) (fun j hj1 hj2 => hs.gap hk (by omega) (by omega))
  refine ⟨?_, ?_⟩
  · rw [e, h3]
    show C ++ [cut t b (i - 1 - b + k)] = _
    unfold cut
    rw [List.take_of_length_le (by rw [List.length_drop]; omega)]
  · unfold Fresh; rw [e, h3]; show ¬ ((off + i - 1 : Nat) : Int) = _; omega

theorem short_end {l t : List UInt8} {k m off : Nat} (hk : 1 ≤ k) (hs : Stretch l off t) (hf : Fresh l k m off) (h : t.length < k) :
    (R l k m (off + t.length + 1)).out = (R l k m off).out ∧ Fresh l k m (off + t.length + 1) := by
  have e : R l k m (off + t.length + 1) = R l k m off := R_gap _ (by omega) (fun j hj1 hj2 => hs.gap hk (by omega) (by omega))
  refine ⟨by rw [e], ?_⟩
  unfold Fresh
  rw [e]
  rcases good_R (l := l) (m := m) hk off with hg | ⟨A, p, b, h1, h2, h3, _⟩
  · rw [hg.2.1]; omega
  · rw [h2]; omega

/-- the stretches of a read, one behind the other -/
def Offs (l : List UInt8) : Nat → List (List UInt8) → Prop
  | off, [] => off = l.length + 1
  | off, t :: ts => Stretch l off t ∧ Offs l (off + t.length + 1) ts

theorem offs_body {l : List UInt8} (hl : l.all isBN = true) (c off : Nat) (hoff : off ≤ l.length) (hc : Lib.count (l.drop off) [78] = c)
    (hrec : ∀ c', c = c' + 1 → ∀ off, off ≤ l.length → Lib.count (l.drop off) [78] = c' → Offs l off (Lib.splitK [78] 0 c' (l.drop off))) : Offs l off (Lib.splitK [78] 0 c (l.drop off)) := by
  have hmem : ∀ x : Nat, x < l.length → ∀ b, l[x]? = some b → b ≠ 78 → isB b = true := by
    intro x hx b hb hne
    have := List.all_eq_true.1 hl b (List.mem_of_getElem? hb)
    simp only [isBN, Bool.or_eq_true, beq_iff_eq] at this
    rcases this with h | h
    · exact h
    · exact absurd h hne
  have hidx : Lib.index (l.drop off) [78] = Lib.indexByte (l.drop off) 78 := Lib.index_one _ _
  by_cases hm : Lib.index (l.drop off) [78] = -1
  · have h0 : c = 0 := by rw [← hc, Lib.count_miss hm]
    subst h0
    have hno := Lib.indexByte_none (hidx ▸ hm)
    show Stretch l off (l.drop off) ∧ Offs l (off + (l.drop off).length + 1) []
    have hlen : (l.drop off).length = l.length - off := List.length_drop
    refine ⟨⟨?_, ?_, by omega, .inl (by omega)⟩, ?_⟩
    · unfold cut; rw [List.take_of_length_le (Nat.le_refl _)]
    · rw [List.all_eq_true]
      intro b hb
      obtain ⟨i, hi⟩ := List.mem_iff_getElem?.1 hb
      have hi' : l[off + i]? = some b := by rw [← List.getElem?_drop]; exact hi
      exact hmem (off + i) (List.getElem?_eq_some_iff.1 hi').1 b hi' (fun e => hno i (by rw [hi, e]))
    · show off + (l.drop off).length + 1 = l.length + 1
      omega
  · obtain ⟨i, hi⟩ : ∃ i : Nat, Lib.index (l.drop off) [78] = i := ⟨(Lib.index (l.drop off) [78]).toNat, by have := Lib.index_ge (l.drop off) [78]; omega⟩
    have hcnt := Lib.count_hit (s := l.drop off) (sub := [78]) (by simp) hi
    rw [hc] at hcnt
    obtain ⟨c', rfl⟩ : ∃ c', c = c' + 1 := ⟨c - 1, by omega⟩
    have hs := Lib.indexByte_some (hidx ▸ hi)
    have hib : i < (l.drop off).length := (List.getElem?_eq_some_iff.1 hs.1).1
    have hlen : (l.drop off).length = l.length - off := List.length_drop
    have hdrop : (l.drop off).drop (i + [(78 : UInt8)].length) = l.drop (off + i + 1) := by
      rw [List.drop_drop]; rfl
    rw [hdrop] at hcnt
    have ih := hrec c' rfl (off + i + 1) (by omega) (by omega)
    have he : Lib.splitK [78] 0 (c' + 1) (l.drop off) = (l.drop off).take i :: Lib.splitK [78] 0 c' (l.drop (off + i + 1)) := by
      rw [Lib.splitK, if_neg (by rw [hi]; simp), hi, Int.toNat_natCast, Nat.add_zero, hdrop]
    rw [he]
    have htl : ((l.drop off).take i).length = i := by rw [List.length_take]; omega
    refine ⟨⟨?_, ?_, by rw [htl]; omega, ?_⟩, ?_⟩
    · rw [htl]; rfl
    · rw [List.all_eq_true]
      intro b hb
      obtain ⟨x, hx⟩ := List.mem_iff_getElem?.1 hb
      have hxi : x < i := by have := (List.getElem?_eq_some_iff.1 hx).1; omega
      rw [List.getElem?_take, if_pos hxi] at hx
      have hx' : l[off + x]? = some b := by rw [← List.getElem?_drop]; exact hx
      exact hmem (off + x) (List.getElem?_eq_some_iff.1 hx').1 b hx' (fun e => hs.2 x hxi (by rw [hx, e]))
    · right
      rw [htl]
      refine ⟨78, ?_, by decide⟩
      rw [← List.getElem?_drop]; exact hs.1
    · rw [htl]; exact ih

theorem offs_split {l : List UInt8} (hl : l.all isBN = true) (c : Nat) : ∀ off, off ≤ l.length → Lib.count (l.drop off) [78] = c → Offs l off (Lib.splitK [78] 0 c (l.drop off)) := by
  induction c with
  | zero => exact fun off hoff hc => offs_body hl 0 off hoff hc (fun c' h => by omega)
  | succ c ih =>
    refine fun off hoff hc => offs_body hl (c + 1) off hoff hc (fun c' h => ?_)
    have e : c' = c := by omega
    subst e
    exact ih

theorem offs_all {l : List UInt8} (hl : l.all isBN = true) : Offs l 0 (Lib.splitK [78] 0 (Lib.count l [78]) l) := by
  have := offs_split hl (Lib.count l [78]) 0 (Nat.zero_le _) (by rw [List.drop_zero])
  rwa [List.drop_zero] at this

/-- the pieces of a read -/
def piecesL (l : List UInt8) (k m : Nat) : List (List UInt8) := (R l k m (l.length + 1)).out

theorem pieces_at {l : List UInt8} {k m j : Nat} (hk : 1 ≤ k) (h : l.length < j + k) (h2 : j ≤ l.length + 1) : (R l k m j).out = piecesL l k m := by
  unfold piecesL
  rw [R_past (j := j) (fun i hi => invalid_past hk (by omega)) (l.length + 1) h2]

end Go.Proofs.YtbjgpfhbdmcbbaaDoor.dnamath
