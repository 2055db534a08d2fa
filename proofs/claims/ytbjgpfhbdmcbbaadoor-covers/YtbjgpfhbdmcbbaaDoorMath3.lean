/-
  PLAIN MATHEMATICS: going along the pieces. It imports nothing of the program.
-/
import Derived.Test.YtbjgpfhbdmcbbaaDoorMath2
namespace Go.Proofs.YtbjgpfhbdmcbbaaDoor.dnamath
set_option linter.unusedVariables false

/-- behind i windows the next word is word number a of piece number c -/
def At (l : List UInt8) (k m i c a : Nat) : Prop :=
  ((R l k m i).out = [] ∧ c = 0 ∧ a = 0) ∨
  ∃ (A : List (List UInt8)) (p e : List UInt8) (B : List (List UInt8)), (R l k m i).out = A ++ [p] ∧ piecesL l k m = A ++ [p ++ e] ++ B ∧ ((e = [] ∧ c = A.length + 1 ∧ a = 0) ∨ (e ≠ [] ∧ c = A.length ∧ a + k = p.length + 1))

theorem at_start {l : List UInt8} {k m : Nat} : At l k m 0 0 0 := .inl ⟨rfl, rfl, rfl⟩

theorem at_skip {l : List UInt8} {k m i c a : Nat} (h : At l k m i c a) (hv : validW l k i = false) : At l k m (i + 1) c a := by
  unfold At; rw [R_skip hv]; exact h

theorem at_end {l : List UInt8} {k m i c a : Nat} (hk : 1 ≤ k) (h : At l k m i c a) (h1 : l.length < i + k) (h2 : i ≤ l.length + 1) : c = (piecesL l k m).length := by
  have e := pieces_at (m := m) hk h1 h2
  rcases h with ⟨h, hc, _⟩ | ⟨A, p, e', B, h, hp, hx⟩
  · rw [← e, h, hc]; rfl
  · rw [e] at h
    rw [h, List.append_assoc] at hp
    have hq := List.append_cancel_left hp
    simp only [List.singleton_append, List.cons.injEq] at hq
    obtain ⟨hq1, hq2⟩ := hq
    have he : e' = [] := by have := congrArg List.length hq1; rw [List.length_append] at this; exact List.eq_nil_of_length_eq_zero (by omega)
    rcases hx with ⟨_, hc, _⟩ | ⟨hne, _⟩
    · rw [hc, h, List.length_append]; rfl
    · exact absurd he hne

theorem snoc_inj {α : Type} {A A' : List α} {p p' : α} (h : A ++ [p] = A' ++ [p']) : A = A' ∧ p = p' := by
  have := List.append_inj' h rfl
  exact ⟨this.1, by simpa using this.2⟩

theorem at_step {l : List UInt8} {k m i c a : Nat} (hk : 1 ≤ k) (h : At l k m i c a) (hv : validW l k i = true) :
    ∃ q, (piecesL l k m)[c]? = some q ∧ a + k ≤ q.length ∧ cut q a k = cut l i k ∧
      (0 < a → (R l k m i).last = (i : Int) - 1 ∧ markL m (cut l i k) = (R l k m i).was) ∧
      (a = 0 → ¬ ((R l k m i).last = (i : Int) - 1 ∧ markL m (cut l i k) = (R l k m i).was)) ∧
      (q.length < a + 1 + k → At l k m (i + 1) (c + 1) 0) ∧ (a + 1 + k ≤ q.length → At l k m (i + 1) c (a + 1)) := by
  have hlen := valid_len hv
  have hfit := valid_fits hk hv
  by_cases hc : (R l k m i).last = (i : Int) - 1 ∧ markL m (cut l i k) = (R l k m i).was
  · have hR := R_more hv hc.1 hc.2
    rcases good_R (l := l) (m := m) hk i with hg | ⟨A, p, b, h1, h2, h3, h4, h5, h6, h7⟩
    · have := hc.1; rw [hg.2.1] at this; omega
    have hb : b + 1 = i := by have := hc.1; rw [h2] at this; omega
    subst hb
    obtain ⟨x, hx⟩ : ∃ x, x = (cut l (b + 1) k).drop (k - 1) := ⟨_, rfl⟩
    have hxl : x.length = 1 := by rw [hx, List.length_drop, hlen]; omega
    have hout : (R l k m (b + 1 + 1)).out = A ++ [p ++ x] := by rw [hR]; show ext _ _ = _; rw [h1, ext_snoc, hx]
    obtain ⟨e', B', hp'⟩ := R_ext hout (l.length + 1) (by omega)
    have hp' : piecesL l k m = A ++ [p ++ x ++ e'] ++ B' := hp'
    rcases h with ⟨h, _⟩ | ⟨A2, p2, e2, B2, g1, g2, g3⟩
    · rw [h1] at h; simp at h
    rw [h1] at g1
    obtain ⟨rfl, rfl⟩ := snoc_inj g1
    have heq : e2 = x ++ e' := by
      rw [g2, List.append_assoc, List.append_assoc] at hp'
      have := List.append_cancel_left hp'
      simp only [List.singleton_append, List.cons.injEq, List.append_assoc] at this
      exact List.append_cancel_left this.1
    have hne : e2 ≠ [] := by intro h0; rw [heq] at h0; have h8 := congrArg List.length h0; rw [List.length_append, List.length_nil] at h8; omega
    rcases g3 with ⟨g, _⟩ | ⟨_, rfl, ha⟩
    · exact absurd g hne
    refine ⟨p ++ x ++ e', ?_, ?_, ?_, fun _ => hc, fun h0 => by omega, ?_, ?_⟩
    · rw [hp']; simp
    · rw [List.length_append, List.length_append]; omega
    · have ha' : a = (p.length - k) + 1 := by omega
      have e4 : p.drop ((p.length - k) + 1) = (p.drop (p.length - k)).drop 1 := by rw [List.drop_drop]
      unfold cut
      rw [ha', List.append_assoc, List.drop_append, e4, h6]
      have z : (p.length - k) + 1 - p.length = 0 := by omega
      rw [z, List.drop_zero, ← List.append_assoc, hx, drop_cut hk hlen, List.take_append, List.take_of_length_le (by omega)]
      have z2 : k - (cut l (b + 1) k).length = 0 := by omega
      rw [z2, List.take_zero, List.append_nil]
      rfl
    · intro hq
      rw [List.length_append, List.length_append] at hq
      have he0 : e' = [] := List.eq_nil_of_length_eq_zero (by omega)
      exact .inr ⟨A, p ++ x, e', B', hout, hp', .inl ⟨he0, rfl, rfl⟩⟩
    · intro hq
      rw [List.length_append, List.length_append] at hq
      refine .inr ⟨A, p ++ x, e', B', hout, hp', .inr ⟨?_, rfl, ?_⟩⟩
      · intro h0; rw [h0] at hq; simp at hq; omega
      · rw [List.length_append]; omega
  · have hR := R_new hv hc
    have hout : (R l k m (i + 1)).out = (R l k m i).out ++ [cut l i k] := by rw [hR]
    obtain ⟨e', B', hp'⟩ := R_ext hout (l.length + 1) (by omega)
    have hp' : piecesL l k m = (R l k m i).out ++ [cut l i k ++ e'] ++ B' := hp'
    have hca : c = (R l k m i).out.length ∧ a = 0 := by
      rcases h with ⟨h, h1, h2⟩ | ⟨A2, p2, e2, B2, g1, g2, g3⟩
      · rw [h]; exact ⟨h1, h2⟩
      · have he : e2 = [] := by
          rw [g2, g1, List.append_assoc, List.append_assoc, List.append_assoc] at hp'
          have := List.append_cancel_left hp'
          simp only [List.singleton_append, List.cons.injEq] at this
          have h0 := congrArg List.length this.1
          rw [List.length_append] at h0
          exact List.eq_nil_of_length_eq_zero (by omega)
        rcases g3 with ⟨_, h1, h2⟩ | ⟨hne, _⟩
        · rw [g1, List.length_append]; exact ⟨h1, h2⟩
        · exact absurd he hne
    obtain ⟨rfl, rfl⟩ := hca
    refine ⟨cut l i k ++ e', ?_, ?_, ?_, fun h0 => by omega, fun _ => hc, ?_, ?_⟩
    · rw [hp']; simp
    · rw [List.length_append]; omega
    · unfold cut
      rw [List.drop_zero]
      show (cut l i k ++ e').take k = cut l i k
      rw [List.take_append, List.take_of_length_le (by omega)]
      have z2 : k - (cut l i k).length = 0 := by omega
      rw [z2, List.take_zero, List.append_nil]
    · intro hq
      rw [List.length_append] at hq
      have he0 : e' = [] := List.eq_nil_of_length_eq_zero (by omega)
      exact .inr ⟨_, _, e', B', hout, hp', .inl ⟨he0, rfl, rfl⟩⟩
    · intro hq
      rw [List.length_append] at hq
      refine .inr ⟨_, _, e', B', hout, hp', .inr ⟨?_, rfl, by omega⟩⟩
      intro h0; rw [h0] at hq; simp at hq; omega

theorem R_plen {l : List UInt8} {k m : Nat} (hk : 1 ≤ k) : ∀ j, ∀ p ∈ (R l k m j).out, p.length ≤ k + j
  | 0, p, h => by cases h
  | j + 1, p, h => by
    have ih := R_plen (l := l) (m := m) hk j
    cases hv : validW l k j with
    | false => rw [R_skip hv] at h; have := ih p h; omega
    | true =>
      have hlen := valid_len hv
      by_cases hc : (R l k m j).last = (j : Int) - 1 ∧ markL m (cut l j k) = (R l k m j).was
      · rw [R_more hv hc.1 hc.2] at h
        have h : p ∈ ext (R l k m j).out ((cut l j k).drop (k - 1)) := h
        rcases good_R (l := l) (m := m) hk j with hg | ⟨A, p0, b, h1, _⟩
        · have := hc.1; rw [hg.2.1] at this; omega
        rw [h1, ext_snoc, List.mem_append, List.mem_singleton] at h
        rcases h with h | h
        · have := ih p (by rw [h1]; exact List.mem_append_left _ h); omega
        · have := ih p0 (by rw [h1]; simp)
          rw [h, List.length_append, List.length_drop, hlen]; omega
      · rw [R_new hv hc] at h
        have h : p ∈ (R l k m j).out ++ [cut l j k] := h
        rw [List.mem_append, List.mem_singleton] at h
        rcases h with h | h
        · have := ih p h; omega
        · rw [h, hlen]; omega

theorem valid_word {l : List UInt8} {k i : Nat} (hk : 1 ≤ k) (h : i + k ≤ l.length) : validW l k i = wordB (cut l i k) := by
  have hl := cut_length h
  unfold validW wordB
  rw [hl]
  cases hc : cut l i k with
  | nil => rw [hc] at hl; simp at hl; omega
  | cons x y => simp

theorem R_next {l : List UInt8} {k m i : Nat} (hv : validW l k i = true) : (R l k m (i + 1)).last = (i : Int) ∧ (R l k m (i + 1)).was = markL m (cut l i k) := by
  by_cases hc : (R l k m i).last = (i : Int) - 1 ∧ markL m (cut l i k) = (R l k m i).was
  · rw [R_more hv hc.1 hc.2]; exact ⟨rfl, rfl⟩
  · rw [R_new hv hc]; exact ⟨rfl, rfl⟩
end Go.Proofs.YtbjgpfhbdmcbbaaDoor.dnamath
