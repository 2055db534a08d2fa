import Derived.Test.YtbjgpfhbdmcbbaaGreatDoorP33

/-
  FACTS for the walk of Added.
-/
namespace Go.Proofs.YtbjgpfhbdmcbbaaGreatDoor.keep
open Go.RowKit Go.Proofs.YtbjgpfhbdmcbbaaGreatDoor.dnamath Go.Proofs.YtbjgpfhbdmcbbaaGreatDoor.dna Go.Proofs.YtbjgpfhbdmcbbaaGreatDoor.diskm Go.Proofs.YtbjgpfhbdmcbbaaGreatDoor.disk Go.Proofs.YtbjgpfhbdmcbbaaGreatDoor.hex Go.Proofs.YtbjgpfhbdmcbbaaGreatDoor.pieces Go.Proofs.YtbjgpfhbdmcbbaaGreatDoor.files Go.Proofs.YtbjgpfhbdmcbbaaGreatDoor.parse Go.Proofs.YtbjgpfhbdmcbbaaGreatDoor.words Go.Proofs.YtbjgpfhbdmcbbaaGreatDoor.kinds Go.Proofs.YtbjgpfhbdmcbbaaGreatDoor.jobs Go.Proofs.YtbjgpfhbdmcbbaaGreatDoor.base Go.Proofs.YtbjgpfhbdmcbbaaGreatDoor.fill
set_option linter.unusedVariables false

theorem count_one {y : List UInt8} : ∀ {ks : List (List UInt8)}, ks.Pairwise (· < ·) → y ∈ ks → ks.count y = 1
  | [], _, h => by cases h
  | x :: t, hp, h => by
    rw [List.pairwise_cons] at hp
    rw [List.mem_cons] at h
    by_cases e : y = x
    · subst e
      have h0 : t.count y = 0 := List.count_eq_zero.2 (fun hm => List.lt_irrefl _ (hp.1 y hm))
      rw [List.count_cons_self, h0]
    · rcases h with h | h
      · exact absurd h e
      · rw [List.count_cons_of_ne (by intro h; exact e h.symm), count_one hp.2 h]
theorem count_cons_sum (y : List UInt8) (ws : List (List UInt8)) : ∀ ks : List (List UInt8), (ks.map (fun x => (y :: ws).count x)).sum = (ks.map (fun x => ws.count x)).sum + ks.count y
  | [] => by simp
  | x :: t => by
    have ih := count_cons_sum y ws t
    rw [List.map_cons, List.sum_cons, List.map_cons, List.sum_cons, ih]
    by_cases e : y = x
    · subst e
      rw [List.count_cons_self, List.count_cons_self]
      omega
    · rw [List.count_cons_of_ne (by intro h; exact e h), List.count_cons_of_ne (by intro h; exact e h.symm)]
      omega
theorem count_sum {ks : List (List UInt8)} (hp : ks.Pairwise (· < ·)) : ∀ ws : List (List UInt8), (∀ x ∈ ws, x ∈ ks) → (ks.map (fun x => ws.count x)).sum = ws.length
  | [], _ => by
    have e : ks.map (fun x => ([] : List (List UInt8)).count x) = ks.map (fun _ => 0) := by simp
    rw [e]
    clear e hp
    induction ks with
    | nil => rfl
    | cons x t ih => simpa using ih
  | y :: ws, h => by
    rw [count_cons_sum, count_sum hp ws (fun x hx => h x (List.mem_cons_of_mem _ hx)), count_one hp (h y (List.mem_cons_self ..)), List.length_cons]
theorem tally_sum {ws : List (List UInt8)} {es : List Ent} (h : TallyOf ws (es.map cv)) : sumC es = ws.length := by
  have h1 := count_sum h.sorted ws (fun x hx => (tally_key h x).2 hx)
  rw [← h1]
  unfold sumC
  rw [List.map_map, List.map_map]
  congr 1
  apply List.map_congr_left
  intro x hx
  exact (h.count (cv x) (List.mem_map.2 ⟨x, hx, rfl⟩)).1

theorem tally_at {ws : List (List UInt8)} {es : List Ent} (h : TallyOf ws (es.map cv)) {i : Nat} {y : Ent} (hy : es[i]? = some y) : y.2 = ws.count y.1.data.toList ∧ 1 ≤ y.2 :=
  h.count (cv y) (List.mem_map.2 ⟨y, List.mem_of_getElem? hy, rfl⟩)
theorem tally_find {ws : List (List UInt8)} {es : List Ent} (h : TallyOf ws (es.map cv)) {x : List UInt8} (hx : x ∈ ws) : ∃ (k : Nat) (y : Ent), es[k]? = some y ∧ y.1.data.toList = x := by
  obtain ⟨e, he, e1⟩ := h.all x hx
  obtain ⟨y, hy, rfl⟩ := List.mem_map.1 he
  obtain ⟨k, hk⟩ := List.getElem?_of_mem hy
  exact ⟨k, y, hk, e1⟩
theorem tally_mem {ws : List (List UInt8)} {es : List Ent} (h : TallyOf ws (es.map cv)) {i : Nat} {y : Ent} (hy : es[i]? = some y) : y.1.data.toList ∈ ws := by
  have := tally_at h hy
  exact List.count_pos_iff.1 (by omega)
theorem tally_none {ws : List (List UInt8)} {es : List Ent} (h : TallyOf ws (es.map cv)) {t : List UInt8} (hno : ∀ (k : Nat) (y : Ent), es[k]? = some y → y.1.data.toList ≠ t) : ws.count t = 0 := by
  refine List.count_eq_zero.2 (fun hm => ?_)
  obtain ⟨k, y, hy, e⟩ := tally_find h hm
  exact hno k y hy e

/-- i entries are passed where x of the great list are -/
structure Ahead (ea ec : List Ent) (i x : Nat) : Prop where
  le : i ≤ ea.length
  less : ∀ (k : Nat) (y : Ent), k < i → ea[k]? = some y → ∃ (m : Nat) (z : Ent), m < x ∧ ec[m]? = some z ∧ z.1.data.toList = y.1.data.toList
  more : ∀ (k : Nat) (y : Ent), i ≤ k → ea[k]? = some y → ∀ (m : Nat) (z : Ent), m < x → ec[m]? = some z → z.1.data.toList < y.1.data.toList
abbrev SortedE (es : List Ent) : Prop := ((es.map cv).map Prod.fst).Pairwise (· < ·)
/-- the keys of the one are keys of the other -/
def SubE (ea ec : List Ent) : Prop := ∀ (k : Nat) (y : Ent), ea[k]? = some y → ∃ (m : Nat) (z : Ent), ec[m]? = some z ∧ z.1.data.toList = y.1.data.toList
theorem Ahead.start (ea ec : List Ent) : Ahead ea ec 0 0 := ⟨Nat.zero_le _, (fun k y h => by omega), (fun k y h hy m z hm => by omega)⟩
theorem Ahead.hit {ea ec : List Ent} {i x : Nat} {y z : Ent} (h : Ahead ea ec i x) (ha : SortedE ea) (hy : ea[i]? = some y) (hz : ec[x]? = some z) (e : y.1.data.toList = z.1.data.toList) : Ahead ea ec (i + 1) (x + 1) := by
  have hil := (List.getElem?_eq_some_iff.1 hy).1
  refine ⟨hil, fun k y' hk hy' => ?_, fun k y' hk hy' m z' hm hz' => ?_⟩
  · rcases Nat.lt_or_ge k i with h1 | h1
    · obtain ⟨m, z', h2, h3, h4⟩ := h.less k y' h1 hy'
      exact ⟨m, z', by omega, h3, h4⟩
    · have hki : k = i := by omega
      subst hki
      rw [hy] at hy'; cases hy'
      exact ⟨x, z, by omega, hz, e.symm⟩
  · rcases Nat.lt_or_ge m x with h1 | h1
    · exact h.more k y' (by omega) hy' m z' h1 hz'
    · have hmx : m = x := by omega
      subst hmx
      rw [hz] at hz'; cases hz'
      rw [← e]
      exact sorted_get ha (by omega) hy hy'
theorem Ahead.miss {ea ec : List Ent} {i x : Nat} {z : Ent} (h : Ahead ea ec i x) (ha : SortedE ea) (hc : SortedE ec) (hs : SubE ea ec) (hz : ec[x]? = some z) (hno : ∀ y : Ent, ea[i]? = some y → y.1.data.toList ≠ z.1.data.toList) : Ahead ea ec i (x + 1) ∧ ∀ (k : Nat) (y : Ent), ea[k]? = some y → y.1.data.toList ≠ z.1.data.toList := by
  have hgt : ∀ (k : Nat) (y : Ent), i ≤ k → ea[k]? = some y → z.1.data.toList < y.1.data.toList := by
    intro k y hk hy
    have hkl := (List.getElem?_eq_some_iff.1 hy).1
    obtain ⟨y0, hy0⟩ : ∃ y0, ea[i]? = some y0 := ⟨_, List.getElem?_eq_getElem (by omega)⟩
    obtain ⟨m, z', hz', e⟩ := hs i y0 hy0
    have h0 : z.1.data.toList < y0.1.data.toList := by
      rcases Nat.lt_trichotomy m x with h1 | h1 | h1
      · have := h.more i y0 (Nat.le_refl _) hy0 m z' h1 hz'
        rw [e] at this
        exact absurd this (List.lt_irrefl _)
      · subst h1
        rw [hz] at hz'; cases hz'
        exact absurd e.symm (hno y0 hy0)
      · have := sorted_get hc h1 hz hz'
        rw [e] at this
        exact this
    rcases Nat.lt_or_ge i k with h1 | h1
    · exact List.lt_trans h0 (sorted_get ha h1 hy0 hy)
    · have hki : k = i := by omega
      subst hki
      rw [hy0] at hy; cases hy
      exact h0
  refine ⟨⟨h.le, fun k y hk hy => ?_, fun k y hk hy m z' hm hz' => ?_⟩, fun k y hy e => ?_⟩
  · obtain ⟨m, z', h2, h3, h4⟩ := h.less k y hk hy
    exact ⟨m, z', by omega, h3, h4⟩
  · rcases Nat.lt_or_ge m x with h1 | h1
    · exact h.more k y hk hy m z' h1 hz'
    · have hmx : m = x := by omega
      subst hmx
      rw [hz] at hz'; cases hz'
      exact hgt k y hk hy
  · rcases Nat.lt_or_ge k i with h1 | h1
    · obtain ⟨m, z', h2, h3, h4⟩ := h.less k y h1 hy
      have := sorted_get hc h2 h3 hz
      rw [h4, e] at this
      exact List.lt_irrefl _ this
    · have := hgt k y h1 hy
      rw [e] at this
      exact List.lt_irrefl _ this
theorem Ahead.end {ea ec : List Ent} {i : Nat} (h : Ahead ea ec i ec.length) (hs : SubE ea ec) : i = ea.length := by
  rcases Nat.lt_or_ge i ea.length with h1 | h1
  · obtain ⟨y, hy⟩ : ∃ y, ea[i]? = some y := ⟨_, List.getElem?_eq_getElem h1⟩
    obtain ⟨m, z, hz, e⟩ := hs i y hy
    have := h.more i y (Nat.le_refl _) hy m z (List.getElem?_eq_some_iff.1 hz).1 hz
    rw [e] at this
    exact absurd this (List.lt_irrefl _)
  · have := h.le; omega

/-- the counts of the whole, and of its two parts -/
structure Two (wa wb : List (List UInt8)) (ea eb ec : List Ent) : Prop where
  a : TallyOf wa (ea.map cv)
  b : TallyOf wb (eb.map cv)
  c : TallyOf (wa ++ wb) (ec.map cv)
theorem Two.subA {wa wb : List (List UInt8)} {ea eb ec : List Ent} (h : Two wa wb ea eb ec) : SubE ea ec := fun k y hy =>
  tally_find h.c (List.mem_append.2 (.inl (tally_mem h.a hy)))
theorem Two.subB {wa wb : List (List UInt8)} {ea eb ec : List Ent} (h : Two wa wb ea eb ec) : SubE eb ec := fun k y hy =>
  tally_find h.c (List.mem_append.2 (.inr (tally_mem h.b hy)))
theorem Two.sum {wa wb : List (List UInt8)} {ea eb ec : List Ent} (h : Two wa wb ea eb ec) {x : Nat} {z : Ent} (hz : ec[x]? = some z) : z.2 = wa.count z.1.data.toList + wb.count z.1.data.toList := by
  rw [(tally_at h.c hz).1, List.count_append]

/-- one step of a list beside the great list: what is added, and where it stands then -/
theorem step_of {ws : List (List UInt8)} {ea ec : List Ent} {i x : Nat} {z : Ent} (h : Ahead ea ec i x) (ht : TallyOf ws (ea.map cv)) (hc : SortedE ec) (hs : SubE ea ec) (hz : ec[x]? = some z) :
    (∃ y : Ent, i < ea.length ∧ ea[i]? = some y ∧ y.1 = z.1 ∧ y.2 = ws.count z.1.data.toList ∧ Ahead ea ec (i + 1) (x + 1)) ∨ ((∀ y : Ent, ea[i]? = some y → y.1 ≠ z.1) ∧ ws.count z.1.data.toList = 0 ∧ Ahead ea ec i (x + 1)) := by
  by_cases hh : ∃ y : Ent, ea[i]? = some y ∧ y.1 = z.1
  · obtain ⟨y, hy, e⟩ := hh
    refine .inl ⟨y, (List.getElem?_eq_some_iff.1 hy).1, hy, e, ?_, h.hit ht.sorted hy hz (by rw [e])⟩
    rw [← e]
    exact (tally_at ht hy).1
  · have hno : ∀ y : Ent, ea[i]? = some y → y.1 ≠ z.1 := fun y hy e => hh ⟨y, hy, e⟩
    obtain ⟨h1, h2⟩ := h.miss ht.sorted hc hs hz (fun y hy e => hno y hy (kinds.bytes_eq e))
    exact .inr ⟨hno, tally_none ht h2, h1⟩
theorem less_pred {ec : List Ent} (hc : SortedE ec) {x : Nat} {y z : Ent} (hy : ec[x]? = some y) (hz : ec[x + 1]? = some z) : y.1.data.toList < z.1.data.toList := sorted_get hc (by omega) hy hz

/-! places without N -/
theorem winTo_len_succ (l : List UInt8) (k j : Nat) : (winTo l k (j + 1)).length = (winTo l k j).length + (if validW l k j then 1 else 0) := by
  show (winTo l k j ++ _).length = _
  rw [List.length_append]
  split <;> rfl
theorem valid_clean {l : List UInt8} {k j : Nat} (hg : greatB l) (h : j + k ≤ l.length) : validW l k j = (cut l j k).all (fun c => c != 78) := by
  unfold validW
  have hl : (cut l j k).length = k := by unfold cut; rw [List.length_take, List.length_drop]; omega
  rw [hl, beq_self_eq_true, Bool.true_and]
  have hsub : ∀ c ∈ cut l j k, isBN c = true := fun c hc => List.all_eq_true.1 hg c (List.mem_of_mem_drop (List.mem_of_mem_take hc))
  rw [Bool.eq_iff_iff, List.all_eq_true, List.all_eq_true]
  constructor
  · intro h1 c hc
    have := h1 c hc
    rw [bne_iff_ne]
    rintro rfl
    exact absurd this (by decide)
  · intro h1 c hc
    have h2 := hsub c hc
    have h3 := h1 c hc
    rw [bne_iff_ne] at h3
    simp only [isBN, Bool.or_eq_true, beq_iff_eq] at h2
    rcases h2 with h2 | h2
    · exact h2
    · exact absurd h2 h3
theorem cut_snoc (s : ByteArray) (j d : Nat) (h : j + d < s.size) : cut s.data.toList j (d + 1) = cut s.data.toList j d ++ [s[j + d]] := by
  unfold cut
  have hl : j + d < s.data.toList.length := by rw [← Lib.size_eq]; exact h
  rw [List.take_add_one, List.getElem?_drop, List.getElem?_eq_getElem hl]
  rfl
theorem clean_snoc (s : ByteArray) (j d : Nat) (h : j + d < s.size) : (cut s.data.toList j (d + 1)).all (fun c => c != 78) = ((cut s.data.toList j d).all (fun c => c != 78) && (s[j + d] != 78)) := by
  rw [cut_snoc s j d h, List.all_append]
  simp
theorem winTo_stay {l : List UInt8} {k j : Nat} (hk : 1 ≤ k) (h : l.length < j + k) : ∀ d, winTo l k (j + d) = winTo l k j
  | 0 => rfl
  | d + 1 => by
    have hv : validW l k (j + d) = false := by
      unfold validW
      have : ((cut l (j + d) k).length == k) = false := by
        rw [beq_eq_false_iff_ne]
        unfold cut
        rw [List.length_take, List.length_drop]
        omega
      rw [this, Bool.false_and]
    show winTo l k (j + d) ++ (if validW l k (j + d) then [cut l (j + d) k] else []) = _
    rw [hv, winTo_stay hk h d]
    simp
theorem winTo_end {l : List UInt8} {k j : Nat} (hk : 1 ≤ k) (h : l.length < j + k) (hj : j ≤ l.length + 1) : winTo l k j = winL k l := by
  unfold winL
  have := winTo_stay hk h (l.length + 1 - j)
  rw [show j + (l.length + 1 - j) = l.length + 1 by omega] at this
  exact this.symm
/-- places of reads -/
def placesOf (k : Nat) (ps : List ByteArray) : Nat := (wordsOf k (datas ps)).length
theorem places_take {k i : Nat} {ps : List ByteArray} {r : ByteArray} (h : ps[i]? = some r) : placesOf k (ps.take (i + 1)) = placesOf k (ps.take i) + (winL k r.data.toList).length := by
  unfold placesOf
  rw [List.take_add_one, h]
  simp [datas, wordsOf]
theorem places_le (k i : Nat) (ps : List ByteArray) : placesOf k (ps.take i) ≤ placesOf k ps := by
  have e : placesOf k ps = placesOf k (ps.take i) + placesOf k (ps.drop i) := by
    unfold placesOf
    rw [← List.length_append, ← words_append]
    congr 2
    unfold datas
    rw [← List.map_append, List.take_append_drop]
  omega
theorem places_in {k i j : Nat} {ps : List ByteArray} {r : ByteArray} (hk : 1 ≤ k) (h : ps[i]? = some r) (hj : j ≤ r.size + 1) (hp : placesOf k ps ≤ 1440) : placesOf k (ps.take i) + (winTo r.data.toList k j).length ≤ 1440 + 61 + r.size := by
  have h1 := places_le k i ps
  have h2 := winTo_len r.data.toList k j
  omega

/-! a list behind a list -/
theorem scells_append (a b : List ByteArray) : scells (a ++ b) = scells a ++ scells b := by simp [scells]
theorem datas_append (a b : List ByteArray) : datas (a ++ b) = datas a ++ datas b := by simp [datas]
theorem one_scells (ps : List ByteArray) : ∀ u ∈ scells ps, u.oneCell' = true := by
  intro u hu
  obtain ⟨p, _, rfl⟩ := List.mem_map.1 hu
  rfl
theorem wpList_join {w : World} {ops : Array Oper} {rest : List Oper} {o : Oper} {a : Act} {Q : Exit → Act → World → Prop} (hgd : o.guard = none) (s x : Operand)
    (ho : o.op = .call { callee := .builtin .append, args := #[s, x], argTypes := #[26, 26] })
    (base : Nat) (v v2 : Value) (ps qs : List ByteArray) (hs : a.eval s = v) (hown : w.ownsRow base 9 1 v ps.length (scells ps)) (hx : a.eval x = v2) (hq : SRow w v2 qs)
    (hl : ps.length + qs.length ≤ 100) (w0 : World) (hb : Below base w0 w) (hbase : base ≤ w.heap.size)
    (h : ∀ v' w', w'.ownsRow base 9 1 v' (ps ++ qs).length (scells (ps ++ qs)) → Below base w0 w' → (∀ k, k < w.heap.size → k < base → w'.heap[k]? = w.heap[k]?) → wpList Tryz.prog ops Q rest (a.put o.dst v') w') : wpList Tryz.prog ops Q (o :: rest) a w := by
  obtain ⟨i0, hi, hz0, hz1, hz2⟩ := info_parts infoS
  rcases hq with ⟨rfl, rfl⟩ | ⟨g, cap, rfl, hg, hc⟩
  · refine wpList_append_own_none hgd s x 26 ho base 9 i0 1 Tryz.underlying26 hi _ _ _ hs hown hx (h v w ?_ hb (fun _ _ _ => rfl))
    rw [List.append_nil]
    exact hown
  · refine wpList_append_own _ hgd s x 26 ho base 9 i0 (.string ByteArray.empty) 1 16 Tryz.underlying26 hi hz0 hz1 hz2 rfl (by decide) v ps.length (scells ps) hs hown ⟨g, 0, none⟩ qs.length cap (scells qs) hx (by simp [scells]) ?_ (one_scells _) (by unfold maxLen; omega) (by omega) hbase ?_
    · intro j u hj
      have hj' : j < qs.length := by
        have := (List.getElem?_eq_some_iff.1 hj).1
        simpa [scells] using this
      have h1 : (⟨g, 0, none⟩ : Addr).add j = ⟨g, j, none⟩ := by simp [Addr.add]; intro h; exact h.symm
      rw [h1, hc j hj']
      simp [scells, hj'] at hj
      rw [hj]
    · intro v' w' h1 h2 _
      refine h v' w' ?_ (hb.grown h2 hbase (fun j hj => (hown.lt j hj).1)) (fun k hk hkb => h2.block k hk (fun e => ?_))
      · rw [List.length_append, scells_append]
        exact h1
      · have := (hown.lt k e.symm).1
        omega
end Go.Proofs.YtbjgpfhbdmcbbaaGreatDoor.keep
