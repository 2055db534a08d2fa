import Derived.Test.YtbjgpfhbdmcbbabGreatDoorP14

/-
  PLAIN MATHEMATICS: the words of pieces, the bins, tallies. It imports nothing of the program.
-/
namespace Go.Proofs.YtbjgpfhbdmcbbabGreatDoor.dnamath
set_option linter.unusedVariables false

/-- the words of a piece -/
def winP (k : Nat) (p : List UInt8) : List (List UInt8) := (List.range (p.length + 1 - k)).map (fun i => cut p i k)
/-- the words of a read that stand at places below n -/
def winTo (l : List UInt8) (k : Nat) : Nat → List (List UInt8)
  | 0 => []
  | n + 1 => winTo l k n ++ (if validW l k n then [cut l n k] else [])
def winL (k : Nat) (l : List UInt8) : List (List UInt8) := winTo l k (l.length + 1)

theorem winP_one {k : Nat} {p : List UInt8} (h : p.length = k) : winP k p = [p] := by
  unfold winP
  rw [show p.length + 1 - k = 1 by omega]
  simp [List.range_succ, cut]
  rw [← h, List.take_length]

theorem winP_snoc {k : Nat} {p : List UInt8} {c : UInt8} (h : k ≤ p.length) : winP k (p ++ [c]) = winP k p ++ [(p ++ [c]).drop (p.length + 1 - k)] := by
  unfold winP
  have e : (p ++ [c]).length + 1 - k = (p.length + 1 - k) + 1 := by rw [List.length_append]; simp; omega
  rw [e, List.range_succ, List.map_append]
  congr 1
  · apply List.map_congr_left
    intro i hi
    rw [List.mem_range] at hi
    unfold cut
    rw [List.drop_append_of_le_length (by omega), List.take_append_of_le_length (by rw [List.length_drop]; omega)]
  · simp only [List.map_cons, List.map_nil, cut]
    rw [List.take_of_length_le]
    rw [List.length_drop, List.length_append]; simp; omega

theorem winP_last {k : Nat} {p : List UInt8} (h : k ≤ p.length) : p.drop (p.length - k) ∈ winP k p := by
  unfold winP
  rw [List.mem_map]
  refine ⟨p.length - k, by rw [List.mem_range]; omega, ?_⟩
  unfold cut
  rw [List.take_of_length_le]
  rw [List.length_drop]; omega
theorem winP_first {k : Nat} {p : List UInt8} (h : k ≤ p.length) : cut p 0 k ∈ winP k p := by
  unfold winP
  rw [List.mem_map]
  exact ⟨0, by rw [List.mem_range]; omega, rfl⟩

theorem len_one {x : List UInt8} (h : x.length = 1) : ∃ c, x = [c] := by
  match x, h with
  | [c], _ => exact ⟨c, rfl⟩

/-- all words of a piece have one mark -/
def Marked (k m : Nat) (p : List UInt8) : Prop := k ≤ p.length ∧ ∀ x ∈ winP k p, markL m x = markL m (cut p 0 k)

theorem R_wins {l : List UInt8} {k m : Nat} (hk : 1 ≤ k) : ∀ j, (R l k m j).out.flatMap (winP k) = winTo l k j ∧ ∀ p ∈ (R l k m j).out, Marked k m p
  | 0 => ⟨rfl, fun p h => by cases h⟩
  | j + 1 => by
    have ih := R_wins (l := l) (m := m) hk j
    have hg := good_R (l := l) (m := m) hk j
    have hg1 := good_R (l := l) (m := m) hk (j + 1)
    cases hv : validW l k j with
    | false =>
      rw [R_skip hv]
      refine ⟨?_, ih.2⟩
      rw [ih.1]
      simp [winTo, hv]
    | true =>
      have hlen := valid_len hv
      have hw : winTo l k (j + 1) = winTo l k j ++ [cut l j k] := by simp [winTo, hv]
      rw [hw]
      by_cases hc : (R l k m j).last = (j : Int) - 1 ∧ markL m (cut l j k) = (R l k m j).was
      · rcases hg with h | ⟨A, p, b, h1, h2, h3, h4, h5, h6, h7⟩
        · have := hc.1; rw [h.2.1] at this; omega
        have hR := R_more hv hc.1 hc.2
        rcases hg1 with h | ⟨A', p', b', g1, g2, g3, g4, g5, g6, g7⟩
        · rw [hR] at h; have h8 : (j : Int) = -2 := h.2.1; omega
        rw [hR] at g1 g2
        have g2 : (j : Int) = b' := g2
        have hbj : b' = j := by omega
        subst hbj
        have g1 : ext (R l k m b').out ((cut l b' k).drop (k - 1)) = A' ++ [p'] := g1
        rw [h1, ext_snoc] at g1
        obtain ⟨rfl, rfl⟩ := snoc_inj g1
        obtain ⟨c, hcx⟩ := len_one (x := (cut l b' k).drop (k - 1)) (by rw [List.length_drop, hlen]; omega)
        rw [hcx] at g5 g6
        have hout : (R l k m (b' + 1)).out = A ++ [p ++ [c]] := by rw [hR]; show ext (R l k m b').out ((cut l b' k).drop (k - 1)) = _; rw [h1, ext_snoc, hcx]
        have hlp : (p ++ [c]).length = p.length + 1 := by simp
        rw [hlp] at g6
        have hpw := winP_snoc (c := c) h5
        rw [g6] at hpw
        have ihm := ih.2 p (by rw [h1]; simp)
        rw [hout]
        refine ⟨?_, ?_⟩
        · rw [← ih.1, h1, List.flatMap_append, List.flatMap_append]
          simp only [List.flatMap_cons, List.flatMap_nil, List.append_nil]
          rw [hpw, List.append_assoc]
        · intro q hq
          rw [List.mem_append, List.mem_singleton] at hq
          rcases hq with hq | rfl
          · exact ih.2 q (by rw [h1]; exact List.mem_append_left _ hq)
          · refine ⟨by rw [hlp]; omega, ?_⟩
            have e0 : cut (p ++ [c]) 0 k = cut p 0 k := by
              unfold cut; rw [List.drop_zero, List.drop_zero, List.take_append_of_le_length h5]
            rw [e0, hpw]
            intro x hx
            rw [List.mem_append, List.mem_singleton] at hx
            rcases hx with hx | rfl
            · exact ihm.2 x hx
            · rw [hc.2, h7, ← h6]
              exact ihm.2 _ (winP_last h5)
      · have hR := R_new hv hc
        have hout : (R l k m (j + 1)).out = (R l k m j).out ++ [cut l j k] := by rw [hR]
        rw [hout]
        refine ⟨?_, ?_⟩
        · rw [List.flatMap_append, ih.1]
          simp only [List.flatMap_cons, List.flatMap_nil, List.append_nil]
          rw [winP_one hlen]
        · intro q hq
          rw [List.mem_append, List.mem_singleton] at hq
          rcases hq with hq | rfl
          · exact ih.2 q hq
          · refine ⟨by omega, ?_⟩
            rw [winP_one hlen]
            intro x hx
            rw [List.mem_singleton] at hx
            subst hx
            congr 1
            unfold cut
            rw [List.drop_zero, List.take_take, Nat.min_self]

theorem pieces_wins {l : List UInt8} {k m : Nat} (hk : 1 ≤ k) : (piecesL l k m).flatMap (winP k) = winL k l := (R_wins hk _).1
theorem pieces_marked {l : List UInt8} {k m : Nat} (hk : 1 ≤ k) : ∀ p ∈ piecesL l k m, Marked k m p := (R_wins hk _).2

theorem winTo_valid {l : List UInt8} {k : Nat} : ∀ n, ∀ x ∈ winTo l k n, x.length = k ∧ x.all isB = true
  | 0, x, h => by cases h
  | n + 1, x, h => by
    unfold winTo at h
    rw [List.mem_append] at h
    rcases h with h | h
    · exact winTo_valid n x h
    · split at h
      · rename_i hv
        rw [List.mem_singleton] at h
        subst h
        exact ⟨valid_len hv, valid_all hv⟩
      · cases h

def canonL (w : List UInt8) : List UInt8 := minL w (turn w)
theorem canonL_len (w : List UInt8) : (canonL w).length = w.length := minL_length rfl (turn_length w)
theorem canonL_all {w : List UInt8} (h : w.all isB = true) : (canonL w).all isB = true := by
  unfold canonL
  rcases min_cases w (turn w) with e | e <;> rw [e]
  · exact h
  · exact turn_all h
theorem minL_le (a b : List UInt8) : minL a b ≤ minL b a := by
  rcases min_cases b a with h | h <;> rw [h]
  · exact le_of_min_right _ _
  · exact le_of_min_left _ _
theorem minL_comm (a b : List UInt8) : minL a b = minL b a := List.le_antisymm (minL_le a b) (minL_le b a)
theorem canonL_turn {w : List UInt8} (h : w.all isB = true) : canonL (turn w) = canonL w := by
  unfold canonL; rw [turn_turn h, minL_comm]
theorem canonL_idem {w : List UInt8} (h : w.all isB = true) : canonL (canonL w) = canonL w := by
  show canonL (minL w (turn w)) = _
  rcases min_cases w (turn w) with e | e <;> rw [e]
  exact canonL_turn h
theorem both_turn {w : List UInt8} (h : w.all isB = true) (m : Nat) (x : List UInt8) : Both (turn w) m x ↔ Both w m x := by
  unfold Both; rw [turn_turn h]; exact Or.comm
theorem markL_turn {w : List UInt8} {m : Nat} (h : w.all isB = true) (hm : m ≤ w.length) : markL m (turn w) = markL m w :=
  mark_eq hm ((markL_least (by rw [turn_length]; exact hm)).congr (both_turn h m))
theorem markL_canon {w : List UInt8} {m : Nat} (h : w.all isB = true) (hm : m ≤ w.length) : markL m (canonL w) = markL m w := by
  unfold canonL
  rcases min_cases w (turn w) with e | e <;> rw [e]
  exact markL_turn h hm

theorem filter_flatMap {α β : Type} (q : α → Bool) (q' : β → Bool) (f : α → List β) : ∀ (ps : List α), (∀ p ∈ ps, ∀ x ∈ f p, q' x = q p) → (ps.filter q).flatMap f = (ps.flatMap f).filter q'
  | [], _ => rfl
  | p :: ps, h => by
    have ih := filter_flatMap q q' f ps (fun p hp => h p (List.mem_cons_of_mem _ hp))
    have hp := h p (List.mem_cons_self ..)
    rw [List.flatMap_cons, List.filter_append, ← ih]
    cases hq : q p with
    | true =>
      rw [List.filter_cons_of_pos hq, List.flatMap_cons]
      congr 1
      rw [List.filter_eq_self.2]
      intro x hx; rw [hp x hx, hq]
    | false =>
      rw [List.filter_cons_of_neg (by simp [hq])]
      have e0 : (f p).filter q' = [] := List.filter_eq_nil_iff.2 (fun x hx => by rw [hp x hx, hq]; simp)
      rw [e0, List.nil_append]

/-- the words of reads, each as Canon of it -/
def wordsOf (k : Nat) (rs : List (List UInt8)) : List (List UInt8) := (rs.flatMap (winL k)).map canonL
/-- the pieces that go into one bin; the bin hangs on the mark -/
def binOf (bn : List UInt8 → Nat) (k m b : Nat) (rs : List (List UInt8)) : List (List UInt8) := (rs.flatMap (fun l => piecesL l k m)).filter (fun p => bn (markL m (cut p 0 k)) == b)

theorem words_bin (bn : List UInt8 → Nat) {k m : Nat} (hk : 1 ≤ k) (hm : m ≤ k) (b : Nat) (rs : List (List UInt8)) :
    ((binOf bn k m b rs).flatMap (winP k)).map canonL = (wordsOf k rs).filter (fun x => bn (markL m x) == b) := by
  unfold binOf
  have hmk : ∀ p ∈ rs.flatMap (fun l => piecesL l k m), Marked k m p := by
    intro p hp
    rw [List.mem_flatMap] at hp
    obtain ⟨l, _, hp⟩ := hp
    exact pieces_marked hk p hp
  rw [filter_flatMap (fun p => bn (markL m (cut p 0 k)) == b) (fun x => bn (markL m x) == b) (winP k) _ (fun p hp x hx => by rw [(hmk p hp).2 x hx])]
  have e : (rs.flatMap (fun l => piecesL l k m)).flatMap (winP k) = rs.flatMap (winL k) := by
    rw [List.flatMap_assoc]
    congr 1
    funext l
    exact pieces_wins hk
  rw [e]
  unfold wordsOf
  rw [List.filter_map]
  congr 1
  apply List.filter_congr
  intro x hx
  rw [List.mem_flatMap] at hx
  obtain ⟨l, _, hx⟩ := hx
  obtain ⟨h1, h2⟩ := winTo_valid _ x hx
  simp only [Function.comp]
  rw [markL_canon h2 (by omega)]

/-! tallies -/
structure TallyOf (ws : List (List UInt8)) (es : List (List UInt8 × Nat)) : Prop where
  sorted : (es.map Prod.fst).Pairwise (· < ·)
  count : ∀ e ∈ es, e.2 = ws.count e.1 ∧ 1 ≤ e.2
  all : ∀ x ∈ ws, ∃ e ∈ es, e.1 = x

theorem tally_nil : TallyOf [] [] := ⟨.nil, (fun e h => by cases h), (fun e h => by cases h)⟩

theorem sorted_unique : ∀ (a b : List (List UInt8)), a.Pairwise (· < ·) → b.Pairwise (· < ·) → (∀ x, x ∈ a ↔ x ∈ b) → a = b
  | [], [], _, _, _ => rfl
  | [], y :: b, _, _, h => absurd ((h y).2 (List.mem_cons_self ..)) (by simp)
  | x :: a, [], _, _, h => absurd ((h x).1 (List.mem_cons_self ..)) (by simp)
  | x :: a, y :: b, ha, hb, h => by
    rw [List.pairwise_cons] at ha hb
    have hxy : x = y := by
      have h1 := (h x).1 (List.mem_cons_self ..)
      have h2 := (h y).2 (List.mem_cons_self ..)
      rw [List.mem_cons] at h1 h2
      rcases h1 with h1 | h1
      · exact h1
      rcases h2 with h2 | h2
      · exact h2.symm
      exact absurd (List.lt_trans (ha.1 y h2) (hb.1 x h1)) (List.lt_irrefl _)
    subst hxy
    congr 1
    refine sorted_unique a b ha.2 hb.2 (fun z => ?_)
    have hz := h z
    rw [List.mem_cons, List.mem_cons] at hz
    constructor
    · intro hm
      rcases hz.1 (.inr hm) with e | e
      · subst e; exact absurd (ha.1 _ hm) (List.lt_irrefl _)
      · exact e
    · intro hm
      rcases hz.2 (.inr hm) with e | e
      · subst e; exact absurd (hb.1 _ hm) (List.lt_irrefl _)
      · exact e

theorem tally_key {ws : List (List UInt8)} {es : List (List UInt8 × Nat)} (h : TallyOf ws es) (x : List UInt8) : x ∈ es.map Prod.fst ↔ x ∈ ws := by
  rw [List.mem_map]
  constructor
  · rintro ⟨e, he, rfl⟩
    have := h.count e he
    exact List.count_pos_iff.1 (by omega)
  · intro hx
    obtain ⟨e, he, rfl⟩ := h.all x hx
    exact ⟨e, he, rfl⟩

theorem pairs_of_keys {ws ws' : List (List UInt8)} (hc : ∀ x, ws.count x = ws'.count x) : ∀ (es es' : List (List UInt8 × Nat)), es.map Prod.fst = es'.map Prod.fst → (∀ e ∈ es, e.2 = ws.count e.1) → (∀ e ∈ es', e.2 = ws'.count e.1) → es = es'
  | [], [], _, _, _ => rfl
  | [], _ :: _, h, _, _ => by simp at h
  | _ :: _, [], h, _, _ => by simp at h
  | (x, n) :: es, (y, n') :: es', h, h1, h2 => by
    simp only [List.map_cons, List.cons.injEq] at h
    obtain ⟨hxy, ht⟩ := h
    have hxy : x = y := hxy
    subst hxy
    have e1 := h1 (x, n) (List.mem_cons_self ..)
    have e2 := h2 (x, n') (List.mem_cons_self ..)
    have : n = n' := by have e1 : n = ws.count x := e1; have e2 : n' = ws'.count x := e2; rw [e1, e2, hc]
    subst this
    rw [pairs_of_keys hc es es' ht (fun e he => h1 e (List.mem_cons_of_mem _ he)) (fun e he => h2 e (List.mem_cons_of_mem _ he))]

theorem TallyOf.unique {ws ws' : List (List UInt8)} {es es' : List (List UInt8 × Nat)} (h : TallyOf ws es) (h' : TallyOf ws' es') (hc : ∀ x, ws.count x = ws'.count x) : es = es' := by
  refine pairs_of_keys hc es es' (sorted_unique _ _ h.sorted h'.sorted (fun x => ?_)) (fun e he => (h.count e he).1) (fun e he => (h'.count e he).1)
  rw [tally_key h, tally_key h', ← List.count_pos_iff, ← List.count_pos_iff, hc]

/-- the step of countWords -/
def grpStep (es : List (List UInt8 × Nat)) (w : List UInt8) : List (List UInt8 × Nat) :=
  match es.getLast? with
  | some (x, n) => if x = w then es.dropLast ++ [(w, n + 1)] else es ++ [(w, 1)]
  | none => [(w, 1)]
def grp (ws : List (List UInt8)) : List (List UInt8 × Nat) := ws.foldl grpStep []
theorem grp_snoc (us : List (List UInt8)) (w : List UInt8) : grp (us ++ [w]) = grpStep (grp us) w := by simp [grp]
theorem grpStep_same (A : List (List UInt8 × Nat)) (w : List UInt8) (n : Nat) : grpStep (A ++ [(w, n)]) w = A ++ [(w, n + 1)] := by simp [grpStep]
theorem grpStep_other (A : List (List UInt8 × Nat)) (x w : List UInt8) (n : Nat) (h : ¬ x = w) : grpStep (A ++ [(x, n)]) w = A ++ [(x, n)] ++ [(w, 1)] := by simp [grpStep, h]
theorem grpStep_nil (w : List UInt8) : grpStep [] w = [(w, 1)] := rfl

theorem list_snoc {α : Type} (l : List α) : l = [] ∨ ∃ A x, l = A ++ [x] := by
  rcases List.eq_nil_or_concat l with h | ⟨A, x, h⟩
  · exact .inl h
  · exact .inr ⟨A, x, by rw [h, List.concat_eq_append]⟩

theorem tally_new {us : List (List UInt8)} {es : List (List UInt8 × Nat)} {w : List UInt8} (h : TallyOf us es) (hlt : ∀ e ∈ es, e.1 < w) : TallyOf (us ++ [w]) (es ++ [(w, 1)]) := by
  have hnw : w ∉ us := fun hw => by
    obtain ⟨e, he, h1⟩ := h.all w hw
    have := hlt e he
    rw [h1] at this
    exact List.lt_irrefl _ this
  refine ⟨?_, ?_, ?_⟩
  · rw [List.map_append, List.pairwise_append]
    refine ⟨h.sorted, by simp, ?_⟩
    intro a ha b hb
    rw [List.mem_map] at ha
    obtain ⟨e, he, rfl⟩ := ha
    simp at hb
    subst hb
    exact hlt e he
  · intro e he
    rw [List.mem_append, List.mem_singleton] at he
    rcases he with he | rfl
    · have := h.count e he
      have hne : ¬ w = e.1 := fun x => by have := hlt e he; rw [← x] at this; exact List.lt_irrefl _ this
      rw [List.count_append, List.count_singleton]
      have hne2 : (w == e.1) = false := by simpa using hne
      rw [hne2]
      simpa using this
    · show 1 = (us ++ [w]).count w ∧ 1 ≤ 1
      rw [List.count_append, List.count_singleton, List.count_eq_zero.2 hnw]
      simp
  · intro x hx
    rw [List.mem_append, List.mem_singleton] at hx
    rcases hx with hx | rfl
    · obtain ⟨e, he, h1⟩ := h.all x hx
      exact ⟨e, List.mem_append_left _ he, h1⟩
    · exact ⟨(x, 1), by simp, rfl⟩

theorem tally_more {us : List (List UInt8)} {A : List (List UInt8 × Nat)} {w : List UInt8} {n : Nat} (h : TallyOf us (A ++ [(w, n)])) : TallyOf (us ++ [w]) (A ++ [(w, n + 1)]) := by
  have hs := h.sorted
  rw [List.map_append, List.pairwise_append] at hs
  refine ⟨?_, ?_, ?_⟩
  · rw [List.map_append, List.pairwise_append]; exact hs
  · intro e he
    rw [List.mem_append, List.mem_singleton] at he
    rcases he with he | rfl
    · have := h.count e (List.mem_append_left _ he)
      have hlt := hs.2.2 e.1 (List.mem_map.2 ⟨e, he, rfl⟩) w (by simp)
      have hne2 : (w == e.1) = false := by
        simp only [beq_eq_false_iff_ne, ne_eq]
        intro x; rw [← x] at hlt; exact List.lt_irrefl _ hlt
      rw [List.count_append, List.count_singleton, hne2]
      simpa using this
    · have := h.count (w, n) (by simp)
      show n + 1 = (us ++ [w]).count w ∧ 1 ≤ n + 1
      have h1 : n = us.count w := this.1
      rw [List.count_append, List.count_singleton]
      simp; exact h1
  · intro x hx
    rw [List.mem_append, List.mem_singleton] at hx
    rcases hx with hx | rfl
    · obtain ⟨e, he, h1⟩ := h.all x hx
      rw [List.mem_append, List.mem_singleton] at he
      rcases he with he | rfl
      · exact ⟨e, List.mem_append_left _ he, h1⟩
      · exact ⟨(w, n + 1), by simp, h1⟩
    · exact ⟨(x, n + 1), by simp, rfl⟩

theorem grp_tally : ∀ (n : Nat) (ws : List (List UInt8)), ws.length = n → ws.Pairwise (· ≤ ·) → TallyOf ws (grp ws) := by
  intro n
  induction n with
  | zero => intro ws h _; rw [List.eq_nil_of_length_eq_zero h]; exact tally_nil
  | succ n ih =>
    intro ws h hs
    rcases list_snoc ws with rfl | ⟨us, w, rfl⟩
    · simp at h
    rw [List.pairwise_append] at hs
    have hu := ih us (by simpa using h) hs.1
    have hle : ∀ x ∈ us, x ≤ w := fun x hx => hs.2.2 x hx w (by simp)
    rw [grp_snoc]
    rcases list_snoc (grp us) with he | ⟨A, ⟨x, m⟩, he⟩
    · rw [he] at hu ⊢
      rw [grpStep_nil]
      exact tally_new hu (fun e he => by cases he)
    · rw [he] at hu ⊢
      by_cases hx : x = w
      · subst hx
        rw [grpStep_same]
        exact tally_more hu
      · rw [grpStep_other _ _ _ _ hx]
        refine tally_new hu ?_
        have hxu : x ≤ w := hle x ((tally_key hu x).1 (by simp))
        have hxw : x < w := by
          rcases List.le_iff_lt_or_eq.1 hxu with h | h
          · exact h
          · exact absurd h hx
        have hs2 := hu.sorted
        rw [List.map_append, List.pairwise_append] at hs2
        intro e he2
        rw [List.mem_append, List.mem_singleton] at he2
        rcases he2 with he2 | rfl
        · exact List.lt_trans (hs2.2.2 e.1 (List.mem_map.2 ⟨e, he2, rfl⟩) x (by simp)) hxw
        · exact hxw
end Go.Proofs.YtbjgpfhbdmcbbabGreatDoor.dnamath

/-
  PLAIN MATHEMATICS: tallies put together. It imports nothing of the program.
-/
namespace Go.Proofs.YtbjgpfhbdmcbbabGreatDoor.dnamath
set_option linter.unusedVariables false

abbrev Ents := List (List UInt8 × Nat)

/-- tallies being put together: all is done, ls is left -/
structure Merging (all : Ents) (ls : List Ents) (orig : Ents) : Prop where
  done : (all.map Prod.fst).Pairwise (· < ·)
  each : ∀ L ∈ ls, (L.map Prod.fst).Pairwise (· < ·)
  less : ∀ a ∈ all, ∀ L ∈ ls, ∀ e ∈ L, a.1 < e.1
  nodup : (ls.flatten.map Prod.fst).Nodup
  perm : (all ++ ls.flatten).Perm orig

theorem merging_start {ls : List Ents} (h1 : ∀ L ∈ ls, (L.map Prod.fst).Pairwise (· < ·)) (h2 : (ls.flatten.map Prod.fst).Nodup) : Merging [] ls ls.flatten :=
  ⟨by simp, h1, (fun a h => by cases h), h2, .refl _⟩

theorem set_perm {ls : List Ents} {i : Nat} {h : List UInt8 × Nat} {t : Ents} (hi : ls[i]? = some (h :: t)) : ls.flatten.Perm (h :: (ls.set i t).flatten) := by
  induction ls generalizing i with
  | nil => simp at hi
  | cons L ls ih =>
    cases i with
    | zero =>
      simp at hi
      subst hi
      simp
    | succ i =>
      simp at hi
      have := ih hi
      simp only [List.flatten_cons, List.set_cons_succ]
      exact (List.Perm.append_left L this).trans (List.perm_middle)

theorem mem_set {ls : List Ents} {i : Nat} {t L : Ents} (h : L ∈ ls.set i t) : L = t ∨ L ∈ ls := by
  rcases List.mem_or_eq_of_mem_set h with h | h
  · exact .inr h
  · exact .inl h

theorem merging_step {all : Ents} {ls : List Ents} {orig : Ents} {i : Nat} {h : List UInt8 × Nat} {t : Ents} (M : Merging all ls orig) (hi : ls[i]? = some (h :: t))
    (hmin : ∀ L ∈ ls, ∀ x r, L = x :: r → h.1 ≤ x.1) : Merging (all ++ [h]) (ls.set i t) orig := by
  have hmem : (h :: t) ∈ ls := List.mem_of_getElem? hi
  have hp := set_perm hi
  have hnd : (((h :: (ls.set i t).flatten)).map Prod.fst).Nodup := (hp.map Prod.fst).nodup_iff.1 M.nodup
  rw [List.map_cons, List.nodup_cons] at hnd
  have hle : ∀ L ∈ ls, ∀ e ∈ L, h.1 ≤ e.1 := by
    intro L hL e he
    cases L with
    | nil => cases he
    | cons x r =>
      have h1 := hmin _ hL x r rfl
      rw [List.mem_cons] at he
      rcases he with rfl | he
      · exact h1
      · have h2 := M.each _ hL
        rw [List.map_cons, List.pairwise_cons] at h2
        exact List.le_trans h1 (List.le_of_lt (h2.1 e.1 (List.mem_map.2 ⟨e, he, rfl⟩)))
  have hsub : ∀ L ∈ ls.set i t, ∀ e ∈ L, ∃ L' ∈ ls, e ∈ L' := by
    intro L hL e he
    rcases mem_set hL with rfl | hL
    · exact ⟨_, hmem, List.mem_cons_of_mem _ he⟩
    · exact ⟨L, hL, he⟩
  refine ⟨?_, ?_, ?_, hnd.2, ?_⟩
  · rw [List.map_append, List.pairwise_append]
    refine ⟨M.done, by simp, ?_⟩
    intro a ha b hb
    rw [List.mem_map] at ha
    obtain ⟨e, he, rfl⟩ := ha
    simp at hb
    subst hb
    exact M.less e he _ hmem h (List.mem_cons_self ..)
  · intro L hL
    rcases mem_set hL with rfl | hL
    · have h2 := M.each _ hmem
      rw [List.map_cons, List.pairwise_cons] at h2
      exact h2.2
    · exact M.each L hL
  · intro a ha L hL e he
    rw [List.mem_append, List.mem_singleton] at ha
    obtain ⟨L', hL', he'⟩ := hsub L hL e he
    rcases ha with ha | rfl
    · exact M.less a ha L' hL' e he'
    · rcases List.le_iff_lt_or_eq.1 (hle L' hL' e he') with h1 | h1
      · exact h1
      · exfalso
        apply hnd.1
        rw [h1, List.mem_map]
        exact ⟨e, List.mem_flatten.2 ⟨L, hL, he⟩, rfl⟩
  · rw [List.append_assoc]
    exact (List.Perm.append_left all hp.symm).trans M.perm

theorem merging_end {all : Ents} {ls : List Ents} {orig : Ents} (M : Merging all ls orig) (he : ∀ L ∈ ls, L = []) : (all.map Prod.fst).Pairwise (· < ·) ∧ all.Perm orig := by
  refine ⟨M.done, ?_⟩
  have : ls.flatten = [] := List.flatten_eq_nil_iff.2 he
  have h := M.perm
  rw [this, List.append_nil] at h
  exact h

/-- the tallies of parts, that part the words by a number, are together the tally of all words -/
theorem tally_parts {ws : List (List UInt8)} {all : Ents} {bn : List UInt8 → Nat} {bs : List Nat} {T : Nat → Ents} (hs : (all.map Prod.fst).Pairwise (· < ·)) (hp : all.Perm (bs.map T).flatten)
    (hT : ∀ b ∈ bs, TallyOf (ws.filter (fun x => bn x == b)) (T b)) (hb : ∀ x ∈ ws, bn x ∈ bs) : TallyOf ws all := by
  refine ⟨hs, ?_, ?_⟩
  · intro e he
    have h1 := hp.mem_iff.1 he
    rw [List.mem_flatten] at h1
    obtain ⟨L, hL, heL⟩ := h1
    rw [List.mem_map] at hL
    obtain ⟨b, hbm, rfl⟩ := hL
    have h2 := (hT b hbm).count e heL
    refine ⟨?_, h2.2⟩
    have hmem : e.1 ∈ ws.filter (fun x => bn x == b) := List.count_pos_iff.1 (by omega)
    rw [List.mem_filter] at hmem
    rw [h2.1]
    exact List.count_filter (p := fun x => bn x == b) hmem.2
  · intro x hx
    obtain ⟨e, he, h1⟩ := (hT _ (hb x hx)).all x (by rw [List.mem_filter]; exact ⟨hx, by simp⟩)
    exact ⟨e, hp.mem_iff.2 (List.mem_flatten.2 ⟨T (bn x), List.mem_map.2 ⟨_, hb x hx, rfl⟩, he⟩), h1⟩

theorem tally_apart {ws : List (List UInt8)} {bn : List UInt8 → Nat} {T : Nat → Ents} : ∀ (bs : List Nat), bs.Nodup → (∀ b ∈ bs, TallyOf (ws.filter (fun x => bn x == b)) (T b)) → (((bs.map T).flatten).map Prod.fst).Nodup
  | [], _, _ => by simp
  | b :: bs, hn, hT => by
    rw [List.nodup_cons] at hn
    rw [List.map_cons, List.flatten_cons, List.map_append, List.nodup_append]
    refine ⟨?_, tally_apart bs hn.2 (fun c hc => hT c (List.mem_cons_of_mem _ hc)), ?_⟩
    · exact (hT b (List.mem_cons_self ..)).sorted.imp (fun h e => by subst e; exact List.lt_irrefl _ h)
    · intro x hx y hy e
      subst e
      have h1 := (tally_key (hT b (List.mem_cons_self ..)) x).1 hx
      rw [List.mem_map] at hy
      obtain ⟨e, he, rfl⟩ := hy
      rw [List.mem_flatten] at he
      obtain ⟨L, hL, heL⟩ := he
      rw [List.mem_map] at hL
      obtain ⟨c, hc, rfl⟩ := hL
      have h2 := (tally_key (hT c (List.mem_cons_of_mem _ hc)) e.1).1 (List.mem_map.2 ⟨e, heL, rfl⟩)
      rw [List.mem_filter] at h1 h2
      have e1 : bn e.1 = b := by simpa using h1.2
      have e2 : bn e.1 = c := by simpa using h2.2
      exact hn.1 (by rw [← e1, e2]; exact hc)

/-! the other side -/
def turnN (l : List UInt8) : List UInt8 := (l.map (fun c => if c == 78 then 78 else comp c)).reverse

theorem winTo_flat (l : List UInt8) (k : Nat) : ∀ n, winTo l k n = (List.range n).flatMap (fun j => if validW l k j then [cut l j k] else [])
  | 0 => rfl
  | n + 1 => by rw [winTo, winTo_flat l k n, List.range_succ, List.flatMap_append]; simp

theorem winTo_past {l : List UInt8} {k : Nat} (hk : 1 ≤ k) : ∀ d, winTo l k (l.length + 1 - k + d) = winTo l k (l.length + 1 - k)
  | 0 => rfl
  | d + 1 => by
    rw [← Nat.add_assoc, winTo, winTo_past hk d, invalid_past hk (by omega)]
    simp
theorem winL_flat {l : List UInt8} {k : Nat} (hk : 1 ≤ k) : winL k l = (List.range (l.length + 1 - k)).flatMap (fun j => if validW l k j then [cut l j k] else []) := by
  unfold winL
  rw [← winTo_flat]
  by_cases h : k ≤ l.length + 1
  · rw [show l.length + 1 = l.length + 1 - k + k by omega, winTo_past hk]
    rw [show l.length + 1 - k + k - k = l.length + 1 - k by omega]
  · have e := winTo_past (l := l) hk (l.length + 1)
    rw [show l.length + 1 - k = 0 by omega] at e ⊢
    rw [← e, Nat.zero_add]

theorem range_rev (n : Nat) : (List.range n).map (fun j => n - 1 - j) = (List.range n).reverse := by
  apply List.ext_getElem
  · simp
  · intro i h1 h2
    simp

theorem turnN_len (l : List UInt8) : (turnN l).length = l.length := by simp [turnN]
theorem cut_turnN {l : List UInt8} {i k : Nat} (h : i + k ≤ l.length) : cut (turnN l) (l.length - (i + k)) k = turnN (cut l i k) := by
  unfold cut turnN
  rw [List.drop_reverse, List.take_reverse, List.length_map]
  congr 1
  rw [List.map_take, List.map_drop]
  have e1 : l.length - (l.length - (i + k)) = i + k := by omega
  rw [e1, List.drop_take]
  have e2 : (List.take (i + k) (List.map (fun c => if c == 78 then 78 else comp c) l)).length - k = i := by rw [List.length_take, List.length_map]; omega
  rw [e2]
  congr 1
  omega
theorem turnN_all {w : List UInt8} (h : w.all isBN = true) : (turnN w).all isB = w.all isB := by
  unfold turnN
  rw [List.all_reverse, List.all_map]
  induction w with
  | nil => rfl
  | cons c w ih =>
    rw [List.all_cons, Bool.and_eq_true] at h
    rw [List.all_cons, List.all_cons, ih h.2]
    congr 1
    have := h.1
    simp only [isBN, isB, Bool.or_eq_true, beq_iff_eq] at this
    rcases this with (((rfl | rfl) | rfl) | rfl) | rfl <;> decide
theorem turnN_turn {w : List UInt8} (h : w.all isB = true) : turnN w = turn w := by
  unfold turnN turn
  congr 1
  apply List.map_congr_left
  intro c hc
  have := List.all_eq_true.1 h c hc
  simp only [isB, Bool.or_eq_true, beq_iff_eq] at this
  rcases this with ((rfl | rfl) | rfl) | rfl <;> decide
theorem turnN_bn {w : List UInt8} (h : w.all isBN = true) : (turnN w).all isBN = true := by
  rw [List.all_eq_true] at h ⊢
  intro c hc
  simp only [turnN, List.mem_reverse, List.mem_map] at hc
  obtain ⟨d, hd, rfl⟩ := hc
  have := h d hd
  simp only [isBN, isB, Bool.or_eq_true, beq_iff_eq] at this
  rcases this with (((rfl | rfl) | rfl) | rfl) | rfl <;> decide
theorem cut_bn {l : List UInt8} (h : l.all isBN = true) (i k : Nat) : (cut l i k).all isBN = true := by
  rw [List.all_eq_true] at h ⊢
  intro c hc
  exact h c (List.mem_of_mem_drop (List.mem_of_mem_take hc))

theorem win_turn {l : List UInt8} {k i : Nat} (hl : l.all isBN = true) (h : i + k ≤ l.length) :
    ((if validW (turnN l) k (l.length - (i + k)) then [cut (turnN l) (l.length - (i + k)) k] else []) : List (List UInt8)).map canonL = ((if validW l k i then [cut l i k] else []) : List (List UInt8)).map canonL := by
  have e1 : validW (turnN l) k (l.length - (i + k)) = validW l k i := by
    unfold validW
    rw [cut_turnN h, turnN_len, turnN_all (cut_bn hl i k)]
  rw [e1]
  cases hv : validW l k i with
  | false => rfl
  | true =>
    have ha := valid_all hv
    simp only [if_true, List.map_cons, List.map_nil, List.cons.injEq, and_true]
    rw [cut_turnN h, turnN_turn ha, canonL_turn ha]

theorem wins_turn {l : List UInt8} {k : Nat} (hk : 1 ≤ k) (hl : l.all isBN = true) : ((winL k (turnN l)).map canonL).Perm ((winL k l).map canonL) := by
  rw [winL_flat hk, winL_flat hk, turnN_len]
  obtain ⟨n, hn⟩ : ∃ n, n = l.length + 1 - k := ⟨_, rfl⟩
  rw [← hn, List.map_flatMap, List.map_flatMap]
  have e : (List.range n).flatMap (fun a => List.map canonL (if validW (turnN l) k a then [cut (turnN l) a k] else [])) = ((List.range n).reverse).flatMap (fun a => List.map canonL (if validW l k a then [cut l a k] else [])) := by
    rw [← range_rev, List.flatMap_map]
    rw [List.flatMap_def, List.flatMap_def]
    congr 1
    apply List.map_congr_left
    intro j hj
    rw [List.mem_range] at hj
    have := win_turn (i := n - 1 - j) (k := k) hl (by omega)
    rw [show l.length - (n - 1 - j + k) = j by omega] at this
    exact this
  rw [e]
  exact (List.reverse_perm _).flatMap_right _

/-- the same reads, some from the other side -/
def TurnedSome : List (List UInt8) → List (List UInt8) → Prop
  | [], [] => True
  | a :: as', b :: bs => (a = b ∨ a = turnN b) ∧ TurnedSome as' bs
  | _, _ => False
theorem words_turn {k : Nat} (hk : 1 ≤ k) : ∀ (rs' rs : List (List UInt8)), TurnedSome rs' rs → (∀ l ∈ rs, l.all isBN = true) → (wordsOf k rs').Perm (wordsOf k rs)
  | [], [], _, _ => .refl _
  | [], _ :: _, h, _ => by cases h
  | _ :: _, [], h, _ => by cases h
  | a :: as', b :: bs, h, hl => by
    obtain ⟨hab, hr⟩ := h
    have ih := words_turn hk as' bs hr (fun l h => hl l (List.mem_cons_of_mem _ h))
    have hb := hl b (List.mem_cons_self ..)
    unfold wordsOf at ih ⊢
    rw [List.flatMap_cons, List.flatMap_cons, List.map_append, List.map_append]
    refine List.Perm.append ?_ ih
    rcases hab with rfl | rfl
    · exact .refl _
    · exact wins_turn hk hb

theorem words_append (k : Nat) (a b : List (List UInt8)) : wordsOf k (a ++ b) = wordsOf k a ++ wordsOf k b := by simp [wordsOf]
end Go.Proofs.YtbjgpfhbdmcbbabGreatDoor.dnamath
