import Derived.Test.YtbjgpfhbdmcbbabGreatDoorP33

/-
  CONTRACTS of package quern: find.
-/
namespace Go.Proofs.YtbjgpfhbdmcbbabGreatDoor.base
open Go.RowKit dnamath dna diskm disk keep hex pieces files parse words kinds jobs
set_option linter.unusedVariables false

def cmpI (a b : List UInt8) : Int := if a < b then -1 else if b < a then 1 else 0

set_option maxHeartbeats 1000000 in
set_option maxRecDepth 100000 in
theorem isNaN_any (a : ByteArray) (w : World) : Calls Tryz.prog 68 #[.string a] w fun e w' => e = .returned (.bool false) ∧ w' = w := by
  have hne : (a.toList != a.toList) = false := by simp
  go_enter Tryz.func68, Tryz.ntmps68
  go_wp2
  go_ret
  exact ⟨by simp, rfl⟩

set_option maxHeartbeats 1000000 in
set_option maxRecDepth 100000 in
theorem Compare_any (a b : ByteArray) (w : World) : Calls Tryz.prog 44 #[.string a, .string b] w fun e w' => e = .returned (.int .i64 (cmpI a.data.toList b.data.toList)) ∧ w' = w := by
  by_cases h1 : a.data.toList < b.data.toList
  · have hv : cmpI a.data.toList b.data.toList = -1 := by unfold cmpI; rw [if_pos h1]
    have hb : Op.bytesLess a.toList b.toList = true := (strLt_iff a b).2 (by rw [Lib.toList_data, Lib.toList_data]; exact h1)
    rw [hv]
    clear hv h1
    go_enter Tryz.func44, Tryz.ntmps44
    go_wp2_with (go_at_call 68; go_must (refine (isNaN_any _ _).mono ?_; rintro e w' ⟨rfl, hw'⟩; have hw2 := hw'.symm; subst hw2))
    go_ret
    exact ⟨rfl, rfl⟩
  · have hb : Op.bytesLess a.toList b.toList = false := (strLt_not a b).2 (by rw [Lib.toList_data, Lib.toList_data]; exact h1)
    by_cases h2 : b.data.toList < a.data.toList
    · have hv : cmpI a.data.toList b.data.toList = 1 := by unfold cmpI; rw [if_neg h1, if_pos h2]
      have hb2 : (a.toList == b.toList) = false := by rw [beq_eq_false_iff_ne, Lib.toList_data, Lib.toList_data]; intro e; rw [e] at h2; exact List.lt_irrefl _ h2
      rw [hv]
      clear hv h1 h2
      go_enter Tryz.func44, Tryz.ntmps44
      go_wp2_with (go_at_call 68; go_must (refine (isNaN_any _ _).mono ?_; rintro e w' ⟨rfl, hw'⟩; have hw2 := hw'.symm; subst hw2))
      go_ret
      exact ⟨rfl, rfl⟩
    · have hv : cmpI a.data.toList b.data.toList = 0 := by unfold cmpI; rw [if_neg h1, if_neg h2]
      have hb2 : (a.toList == b.toList) = true := by rw [beq_iff_eq, Lib.toList_data, Lib.toList_data]; exact List.le_antisymm (List.not_lt.1 h2) (List.not_lt.1 h1)
      rw [hv]
      clear hv h1 h2
      go_enter Tryz.func44, Tryz.ntmps44
      go_wp2_with (go_at_call 68; go_must (refine (isNaN_any _ _).mono ?_; rintro e w' ⟨rfl, hw'⟩; have hw2 := hw'.symm; subst hw2))
      go_ret
      exact ⟨rfl, rfl⟩

set_option maxHeartbeats 1000000 in
set_option maxRecDepth 100000 in
theorem less_any (x t : ByteArray) (n : Int) (w : World) : Calls Tryz.prog 43 #[.agg #[.string x, .int .i64 n], .string t] w fun e w' => e = .returned (.int .i64 (cmpI x.data.toList t.data.toList)) ∧ Below w.heap.size w w' := by
  obtain ⟨r, hr⟩ : ∃ r, r = cmpI x.data.toList t.data.toList := ⟨_, rfl⟩
  have cc := fun W => Compare_any x t W
  simp only [← hr] at cc ⊢
  clear hr
  go_enter Tryz.func43, Tryz.ntmps43
  go_wp2_with (go_at_call 44; go_must (refine (cc _).mono ?_; rintro e w' ⟨rfl, hw'⟩; have hw2 := hw'.symm; subst hw2))
  go_ret
  exact ⟨rfl, (Below.refl _ w).alloc (Nat.le_refl _) _⟩

/-- where a text stands among entries -/
structure FoundAt (es : List Ent) (t : List UInt8) (i : Nat) (f : Bool) : Prop where
  le : i ≤ es.length
  less : ∀ (k : Nat) (x : Ent), k < i → es[k]? = some x → x.1.data.toList < t
  more : ∀ (k : Nat) (x : Ent), i ≤ k → es[k]? = some x → ¬ x.1.data.toList < t
  yes : f = true → ∃ n : Nat, es[i]? = some (⟨t.toArray⟩, n)
  no : f = false → ∀ (k : Nat) (x : Ent), es[k]? = some x → x.1.data.toList ≠ t

theorem sorted_get {es : List Ent} (hs : ((es.map cv).map Prod.fst).Pairwise (· < ·)) {a b : Nat} {x y : Ent} (hab : a < b) (hx : es[a]? = some x) (hy : es[b]? = some y) : x.1.data.toList < y.1.data.toList := by
  have hb := (List.getElem?_eq_some_iff.1 hy).1
  have h1 : ((es.map cv).map Prod.fst)[a]? = some x.1.data.toList := by simp [hx, cv]
  have h2 : ((es.map cv).map Prod.fst)[b]? = some y.1.data.toList := by simp [hy, cv]
  obtain ⟨l1, e1⟩ := List.getElem?_eq_some_iff.1 h1
  obtain ⟨l2, e2⟩ := List.getElem?_eq_some_iff.1 h2
  have := List.pairwise_iff_getElem.1 hs a b l1 l2 hab
  rw [e1, e2] at this
  exact this
theorem cmp_neg (a b : List UInt8) : cmpI a b < 0 ↔ a < b := by
  unfold cmpI
  by_cases h : a < b
  · rw [if_pos h]; exact ⟨fun _ => h, fun _ => by decide⟩
  · rw [if_neg h]
    refine ⟨fun h2 => ?_, fun h2 => absurd h2 h⟩
    split at h2 <;> omega
theorem cmp_zero (a b : List UInt8) : cmpI a b = 0 ↔ a = b := by
  unfold cmpI
  by_cases h : a < b
  · rw [if_pos h]
    exact ⟨fun h2 => by omega, fun h2 => by subst h2; exact absurd h (List.lt_irrefl _)⟩
  · rw [if_neg h]
    by_cases h2 : b < a
    · rw [if_pos h2]
      exact ⟨fun h3 => by omega, fun h3 => by subst h3; exact absurd h2 (List.lt_irrefl _)⟩
    · rw [if_neg h2]
      exact ⟨fun _ => List.le_antisymm (List.not_lt.1 h2) (List.not_lt.1 h), fun _ => rfl⟩

set_option maxHeartbeats 4000000 in
set_option maxRecDepth 100000 in
theorem search_any (ev : Value) (es : List Ent) (t : ByteArray) (base : Nat) (w : World) (hr : w.ownsRow base 58 2 ev es.length (ecells es)) (hs : ((es.map cv).map Prod.fst).Pairwise (· < ·)) (hl : es.length ≤ 100000) :
    Calls Tryz.prog 42 #[ev, .string t, .func (.func 43) #[] #[]] w fun e w' => ∃ i f, e = .returned (.tuple #[.int .i64 ((i : Nat) : Int), .bool f]) ∧ FoundAt es t.data.toList i f ∧ Below w.heap.size w w' := by
  obtain ⟨aE, cE, hev⟩ := own_slice hr
  subst hev
  have HS : Hid (((es.map cv).map Prod.fst).Pairwise (· < ·)) := hs
  have HR : Hid (w.ownsRow base 58 2 (.slice aE es.length cE) es.length (ecells es)) := hr
  clear hs hr
  go_enter Tryz.func42, Tryz.ntmps42
  go_wp2
  go_loopw [9, 10] (fun i j wr => ∃ (lo hi : Nat), i = .int .i64 (lo : Int) ∧ j = .int .i64 (hi : Int) ∧ lo ≤ hi ∧ hi ≤ es.length ∧ Hid ((∀ (k : Nat) (x : Ent), k < lo → es[k]? = some x → x.1.data.toList < t.data.toList) ∧ (∀ (k : Nat) (x : Ent), hi ≤ k → es[k]? = some x → ¬ x.1.data.toList < t.data.toList)) ∧ Hid (Below w.heap.size w wr)) (fun i j _ => (intOf j).toNat - (intOf i).toNat)
  case atStart => exact ⟨0, es.length, rfl, rfl, Nat.zero_le _, Nat.le_refl _, ⟨(fun k x h => by omega), (fun k x h hx => by have := (List.getElem?_eq_some_iff.1 hx).1; omega)⟩, Below.refl _ _⟩
  case round =>
    obtain ⟨lo, hi, rfl, rfl, hlh, hhl, hI, hB⟩ := hrel
    rename World => wr
    by_cases hlt : lo < hi
    · obtain ⟨x, hx⟩ : ∃ x, es[(lo + hi) / 2]? = some x := ⟨_, List.getElem?_eq_getElem (by omega)⟩
      rcases HR.out.2 with ⟨_, e0⟩ | ⟨g, cap, cur, e1, _, hg, _⟩
      · omega
      cases e1
      have hgl := lt_of_block hg
      have c0 : wr.cell? ⟨g, (lo + hi) / 2 * 2, none⟩ = some (.string x.1) := by
        rw [hB.out.cell (p := ⟨g, (lo + hi) / 2 * 2, none⟩) hgl, HR.out.cellAt (g := g) _ (by omega)]; exact ecells_at0 _ _ _ hx
      have c1 : wr.cell? ⟨g, (lo + hi) / 2 * 2 + 1, none⟩ = some (.int .i64 (x.2 : Int)) := by
        rw [hB.out.cell (p := ⟨g, (lo + hi) / 2 * 2 + 1, none⟩) hgl, HR.out.cellAt (g := g) _ (by omega)]; exact ecells_at1 _ _ _ hx
      have cl := less_any x.1 t (x.2 : Int) wr
      obtain ⟨r, hr⟩ : ∃ r, r = cmpI x.1.data.toList t.data.toList := ⟨_, rfl⟩
      rw [← hr] at cl
      by_cases hneg : r < 0
      · have HI : Hid ((∀ (k : Nat) (y : Ent), k < (lo + hi) / 2 + 1 → es[k]? = some y → y.1.data.toList < t.data.toList) ∧ (∀ (k : Nat) (y : Ent), hi ≤ k → es[k]? = some y → ¬ y.1.data.toList < t.data.toList)) := by
          refine ⟨fun k y hk hy => ?_, hI.out.2⟩
          rw [hr, cmp_neg] at hneg
          rcases Nat.lt_or_ge k ((lo + hi) / 2) with h | h
          · exact List.lt_trans (sorted_get HS.out h hy hx) hneg
          · have : k = (lo + hi) / 2 := by omega
            subst this
            rw [hx] at hy; cases hy; exact hneg
        have hd : decide (r < 0) = true := by simpa using hneg
        clear hr hx hI hg hgl
        go_wp2_with (go_at_call 43; go_must (refine cl.mono ?_; rintro e w2 ⟨rfl, b2⟩))
        have HB2 : Hid (Below w.heap.size w w2) := hB.out.trans (b2.mono hB.out.size)
        go_roundw
        case rel => exact ⟨(lo + hi) / 2 + 1, hi, by rw [show ((lo : Int) + (hi : Int)) / 2 + 1 = (((lo + hi) / 2 + 1 : Nat) : Int) by omega], rfl, by omega, hhl, HI, HB2⟩
        case measure => simp [intOf]; omega
      · have HI : Hid ((∀ (k : Nat) (y : Ent), k < lo → es[k]? = some y → y.1.data.toList < t.data.toList) ∧ (∀ (k : Nat) (y : Ent), (lo + hi) / 2 ≤ k → es[k]? = some y → ¬ y.1.data.toList < t.data.toList)) := by
          refine ⟨hI.out.1, fun k y hk hy hc => ?_⟩
          rw [hr, cmp_neg] at hneg
          rcases Nat.lt_or_ge ((lo + hi) / 2) k with h | h
          · exact hneg (List.lt_trans (sorted_get HS.out h hx hy) hc)
          · have : k = (lo + hi) / 2 := by omega
            subst this
            rw [hx] at hy; cases hy; exact hneg hc
        have hd : decide (r < 0) = false := by simpa using hneg
        clear hr hx hI hg hgl
        go_wp2_with (go_at_call 43; go_must (refine cl.mono ?_; rintro e w2 ⟨rfl, b2⟩))
        have HB2 : Hid (Below w.heap.size w w2) := hB.out.trans (b2.mono hB.out.size)
        go_roundw
        case rel => exact ⟨lo, (lo + hi) / 2, rfl, by rw [show ((lo : Int) + (hi : Int)) / 2 = (((lo + hi) / 2 : Nat) : Int) by omega], by omega, by omega, HI, HB2⟩
        case measure => simp [intOf]; omega
    · have hle : lo = hi := by omega
      subst hle
      by_cases hend : lo < es.length
      · obtain ⟨x, hx⟩ : ∃ x, es[lo]? = some x := ⟨_, List.getElem?_eq_getElem hend⟩
        rcases HR.out.2 with ⟨_, e0⟩ | ⟨g, cap, cur, e1, _, hg, _⟩
        · omega
        cases e1
        have hgl := lt_of_block hg
        have c0 : wr.cell? ⟨g, lo * 2, none⟩ = some (.string x.1) := by
          rw [hB.out.cell (p := ⟨g, lo * 2, none⟩) hgl, HR.out.cellAt (g := g) _ (by omega)]; exact ecells_at0 _ _ _ hx
        have c1 : wr.cell? ⟨g, lo * 2 + 1, none⟩ = some (.int .i64 (x.2 : Int)) := by
          rw [hB.out.cell (p := ⟨g, lo * 2 + 1, none⟩) hgl, HR.out.cellAt (g := g) _ (by omega)]; exact ecells_at1 _ _ _ hx
        have cl := less_any x.1 t (x.2 : Int) wr
        obtain ⟨r, hr⟩ : ∃ r, r = cmpI x.1.data.toList t.data.toList := ⟨_, rfl⟩
        rw [← hr] at cl
        have HFD : Hid (FoundAt es t.data.toList lo (decide (r = 0))) := by
          refine ⟨by omega, hI.out.1, hI.out.2, fun h => ?_, fun h k y hy e => ?_⟩
          · have h0 : r = 0 := by simpa using h
            rw [hr, cmp_zero] at h0
            refine ⟨x.2, ?_⟩
            rw [hx]
            have : x.1 = ⟨t.data.toList.toArray⟩ := kinds.bytes_eq (by rw [h0])
            rw [← this]
          · have h0 : ¬ r = 0 := by simpa using h
            rw [hr, cmp_zero] at h0
            have hkl : ¬ k < lo := fun hc => by
              have := hI.out.1 k y hc hy
              rw [e] at this; exact List.lt_irrefl _ this
            rcases Nat.lt_or_ge lo k with h1 | h1
            · have := sorted_get HS.out h1 hx hy
              rw [e] at this
              exact hI.out.2 lo x (Nat.le_refl _) hx this
            · have : k = lo := by omega
              subst this
              rw [hx] at hy; cases hy; exact h0 e
        clear hr hx hI hg hgl
        go_wp2_with (go_at_call 43; go_must (refine cl.mono ?_; rintro e w2 ⟨rfl, b2⟩))
        go_ret2
        refine ⟨lo, decide (r = 0), ?_, HFD.out, hB.out.trans (b2.mono hB.out.size)⟩
        simp
        by_cases h0 : r = 0 <;> simp [h0]
      · have hle2 : lo = es.length := by omega
        have HFD : Hid (FoundAt es t.data.toList lo false) := by
          refine ⟨by omega, hI.out.1, hI.out.2, (fun h => by cases h), fun _ k y hy e => ?_⟩
          have hk := (List.getElem?_eq_some_iff.1 hy).1
          have := hI.out.1 k y (by omega) hy
          rw [e] at this
          exact List.lt_irrefl _ this
        clear hI hle2
        go_wp2
        go_ret2
        exact ⟨lo, false, rfl, HFD.out, hB.out⟩

/-- counts that were opened -/
structure BaseAt (w : World) (q K base : Nat) (ev : Value) (es : List Ent) (tot : Nat) : Prop where
  blk : w.heap[q]? = some (.cells #[.int .i64 (K : Int), ev, .int .i64 (tot : Int)] 73 (0, 0))
  row : w.ownsRow base 58 2 ev es.length (ecells es)
  sorted : ((es.map cv).map Prod.fst).Pairwise (· < ·)
  few : es.length ≤ 100000
theorem BaseAt.new {Bo : Nat} {w w' : World} {q K base : Nat} {ev : Value} {es : List Ent} {tot : Nat} (h : BaseAt w q K base ev es tot) (hk : New Bo w w') : BaseAt w' q K base ev es tot := by
  refine ⟨(hk.block q (lt_of_block h.blk) (Nat.ne_of_lt (lt_of_block h.blk)) (fun ⟨cs', fz', e⟩ => by rw [h.blk] at e; cases e) (by
    rintro ⟨cs', T', fz', e, hd⟩
    rw [h.blk] at e
    cases e
    rcases hd with h | h | h | h <;> exact absurd h (by decide))).trans h.blk, hk.own h.row not_ours_e, h.sorted, h.few⟩
theorem BaseAt.below {w w' : World} {q K base : Nat} {ev : Value} {es : List Ent} {tot : Nat} (h : BaseAt w q K base ev es tot) (hk : Below w.heap.size w w') : BaseAt w' q K base ev es tot := h.new ((New.refl (Bo := 0) w).below hk)

set_option maxHeartbeats 1000000 in
set_option maxRecDepth 100000 in
theorem find_any (q K base : Nat) (ev : Value) (es : List Ent) (tot : Nat) (t : ByteArray) (w : World) (hB : BaseAt w q K base ev es tot) :
    Calls Tryz.prog 27 #[.pointer (some ⟨q, 0, none⟩), .string t] w fun e w' => ∃ i f, e = .returned (.tuple #[.int .i64 ((i : Nat) : Int), .bool f]) ∧ FoundAt es t.data.toList i f ∧ Below w.heap.size w w' := by
  have cs := search_any ev es t base w hB.row hB.sorted hB.few
  have c1 : w.cell? ⟨q, 1, none⟩ = some ev := st_cell hB.blk 1
  clear hB
  go_enter Tryz.func27, Tryz.ntmps27
  go_wp2_with (go_at_call 42; go_must (refine cs.mono ?_; rintro e w1 ⟨i, f, rfl, hf, b1⟩))
  go_ret2
  exact ⟨i, f, rfl, hf, b1⟩

set_option maxHeartbeats 1000000 in
set_option maxRecDepth 100000 in
theorem Sums_any (q K base : Nat) (ev : Value) (es : List Ent) (tot : Nat) (w : World) (hB : BaseAt w q K base ev es tot) :
    Calls Tryz.prog 23 #[.pointer (some ⟨q, 0, none⟩)] w fun e w' => e = .returned (.tuple #[.int .i64 (es.length : Int), .int .i64 (tot : Int)]) ∧ Still w w' := by
  obtain ⟨aE, cE, hev⟩ := own_slice hB.row
  subst hev
  have c1 : w.cell? ⟨q, 1, none⟩ = some (.slice aE es.length cE) := st_cell hB.blk 1
  have c2 : w.cell? ⟨q, 2, none⟩ = some (.int .i64 (tot : Int)) := st_cell hB.blk 2
  clear hB
  go_enter Tryz.func23, Tryz.ntmps23
  go_wp2
  go_quiet (fail)
  obtain ⟨W1, hW1⟩ : ∃ W, W = w.drewN nq := ⟨_, rfl⟩
  have S1 : Still w W1 := by rw [hW1]; exact Still.drewN _ _
  rw [← hW1]
  go_wp2
  go_ret2
  exact ⟨rfl, S1⟩
end Go.Proofs.YtbjgpfhbdmcbbabGreatDoor.base

/-
  CONTRACTS of package quern: Scan, Count.
-/
namespace Go.Proofs.YtbjgpfhbdmcbbabGreatDoor.base
open Go.RowKit dnamath dna diskm disk keep hex pieces files parse words kinds jobs
set_option linter.unusedVariables false

theorem ecells_len (l : List Ent) : (ecells l).length = l.length * 2 := by
  induction l with
  | nil => rfl
  | cons x l ih =>
    have e : ecells (x :: l) = ecell x ++ ecells l := by simp [ecells]
    rw [e, List.length_append, ih]
    simp [ecell]; omega
theorem ecells_one (l : List Ent) : ∀ u ∈ ecells l, u.oneCell' = true := by
  intro u hu
  unfold ecells at hu
  rw [List.mem_flatMap] at hu
  obtain ⟨x, _, hu⟩ := hu
  simp [ecell] at hu
  rcases hu with rfl | rfl <;> rfl
theorem ecells_get {l : List Ent} {j : Nat} {u : Value} (h : (ecells l)[j]? = some u) : ∃ x, l[j / 2]? = some x ∧ ((j % 2 = 0 ∧ u = .string x.1) ∨ (j % 2 = 1 ∧ u = .int .i64 (x.2 : Int))) := by
  have hj := (List.getElem?_eq_some_iff.1 h).1
  rw [ecells_len] at hj
  obtain ⟨x, hx⟩ : ∃ x, l[j / 2]? = some x := ⟨_, List.getElem?_eq_getElem (by omega)⟩
  refine ⟨x, hx, ?_⟩
  rcases Nat.mod_two_eq_zero_or_one j with h0 | h0
  · have := ecells_at0 l (j / 2) x hx
    rw [show j / 2 * 2 = j by omega, h] at this
    exact .inl ⟨h0, Option.some.inj this⟩
  · have := ecells_at1 l (j / 2) x hx
    rw [show j / 2 * 2 + 1 = j by omega, h] at this
    exact .inr ⟨h0, Option.some.inj this⟩

set_option maxHeartbeats 2000000 in
set_option maxRecDepth 100000 in
theorem Clone_some (b off c : Nat) (l : List Ent) (w : World) (hn : l.length ≤ 100000) (hc : ∀ (j : Nat) (x : Ent), l[j]? = some x → w.cell? ⟨b, off + j * 2, none⟩ = some (.string x.1) ∧ w.cell? ⟨b, off + j * 2 + 1, none⟩ = some (.int .i64 (x.2 : Int))) :
    Calls Tryz.prog 28 #[.slice (some ⟨b, off, none⟩) l.length c] w fun e w' => ∃ v', e = .returned v' ∧ w'.ownsRow w.heap.size 58 2 v' l.length (ecells l) ∧ Below w.heap.size w w' := by
  obtain ⟨j0, hj, hy0, hy1, hy2⟩ := info_parts infoEn
  have q22 : ∀ (w : World) (a : Option Addr) (n c n' c' : Nat), (binOp .eql 30 (.slice a n c) (.slice none n' c')).run Tryz.prog w = .ok (.bool a.isNone) w := fun w a n c n' c' => Lib.run_eql_slice_nil w _ _ a n c n' c' Tryz.underlying30
  have A : Hid (∀ (j : Nat) (u : Value), (ecells l)[j]? = some u → w.cell? ⟨b, off + j, none⟩ = some u) := fun j u hu => by
    obtain ⟨x, hx, h⟩ := ecells_get hu
    have hc2 := hc _ x hx
    rcases h with ⟨h0, rfl⟩ | ⟨h0, rfl⟩
    · have := hc2.1; rw [show j / 2 * 2 = j by omega] at this; exact this
    · have := hc2.2; rw [show off + j / 2 * 2 + 1 = off + j by omega] at this; exact this
  clear hc
  go_enter Tryz.func28, Tryz.ntmps28
  go_wp2_with (at_builtin; go_must (refine wpList_append_own _ rfl _ _ 30 rfl w.heap.size 58 j0 (.agg #[.string ByteArray.empty, .int .i64 0]) 2 24 Tryz.underlying30 hj hy0 hy1 hy2 rfl (by decide) _ _ _ rfl (World.ownsRow_made w #[] 0 (Nat.le_refl _) (Nat.zero_le _) (by simp)) ⟨b, off, none⟩ l.length c (ecells l) rfl (ecells_len l) (fun j u hu => by rw [Addr.add_lit]; exact Lib.cell?_alloc_some _ (A.out j u hu)) (ecells_one l) (by unfold maxLen; omega) (by omega) (by simp) ?_; intro v' w1 hown hgrow hnil))
  go_ret
  exact ⟨v', rfl, by simpa using hown, ((Below.refl _ w).alloc (Nat.le_refl _) _).grown hgrow (by simp) (fun k hk => Nat.le_of_eq (Option.some.inj hk))⟩

set_option maxHeartbeats 1000000 in
set_option maxRecDepth 100000 in
theorem Clone_nil (w : World) : Calls Tryz.prog 28 #[.slice none 0 0] w fun e w' => e = .returned (.slice none 0 0) ∧ w' = w := by
  have q22 : ∀ (w : World) (a : Option Addr) (n c n' c' : Nat), (binOp .eql 30 (.slice a n c) (.slice none n' c')).run Tryz.prog w = .ok (.bool a.isNone) w := fun w a n c n' c' => Lib.run_eql_slice_nil w _ _ a n c n' c' Tryz.underlying30
  go_enter Tryz.func28, Tryz.ntmps28
  go_wp2
  go_ret
  exact ⟨rfl, rfl⟩

set_option maxHeartbeats 2000000 in
set_option maxRecDepth 100000 in
theorem Scan_any (q K base : Nat) (ev : Value) (es : List Ent) (tot : Nat) (t : ByteArray) (many : Nat) (w : World) (hB : BaseAt w q K base ev es tot) (hm : many ≤ 1000000000) :
    Calls Tryz.prog 14 #[.pointer (some ⟨q, 0, none⟩), .string t, .int .i64 (many : Int)] w fun e w' => ∃ v i f, e = .returned (.tuple #[v, .int .i64 0]) ∧ FoundAt es t.data.toList i f ∧ w'.ownsRow w.heap.size 58 2 v ((es.drop i).take many).length (ecells ((es.drop i).take many)) ∧ Below w.heap.size w w' := by
  have cf := find_any q K base ev es tot t w hB
  have HB : Hid (BaseAt w q K base ev es tot) := hB
  have hfew := hB.few
  rcases hB.row.2 with ⟨rfl, h0⟩ | ⟨g, cap, cur, rfl, _, hg, hcap, hcm, _⟩
  · have he : es = [] := List.eq_nil_of_length_eq_zero h0
    subst he
    clear hB
    go_enter Tryz.func14, Tryz.ntmps14
    go_wp2_with fail
    refine cf.mono ?_
    rintro e w1 ⟨i, f, rfl, hf, b1⟩
    have hi0 : i = 0 := Nat.le_zero.1 hf.le
    subst hi0
    have c1 : w1.cell? ⟨q, 1, none⟩ = some (.slice none 0 0) := st_cell (HB.out.below b1).blk 1
    have HF : Hid (FoundAt [] t.data.toList 0 f) := hf
    have hmin : min (many : Int) 0 = 0 := by omega
    clear hf cf
    go_wp2_with (go_at_call 28; go_must (refine (Clone_nil _).mono ?_; rintro e w2 ⟨rfl, hw2⟩; have hw3 := hw2.symm; subst hw3))
    go_ret2
    exact ⟨_, 0, f, rfl, HF.out, by rw [List.drop_nil, List.take_nil]; exact World.ownsRow_nil _ _ _ _, b1⟩
  · have hgl := lt_of_block hg
    clear hB hg
    go_enter Tryz.func14, Tryz.ntmps14
    go_wp2_with fail
    refine cf.mono ?_
    rintro e w1 ⟨i, f, rfl, hf, b1⟩
    have hile := hf.le
    have c1 : w1.cell? ⟨q, 1, none⟩ = some (.slice (some ⟨g, 0, none⟩) es.length cap) := st_cell (HB.out.below b1).blk 1
    have HF : Hid (FoundAt es t.data.toList i f) := hf
    clear hf cf
    obtain ⟨out, hout⟩ : ∃ out, out = (es.drop i).take many := ⟨_, rfl⟩
    have hol : (min (many : Int) ((es.length - i : Nat) : Int)).toNat = out.length := by rw [hout, List.length_take, List.length_drop]; omega
    have hof : out.length ≤ 100000 := by rw [hout, List.length_take, List.length_drop]; omega
    have hoc : ∀ (j : Nat) (x : Ent), out[j]? = some x → w1.cell? ⟨g, i * 2 + j * 2, none⟩ = some (.string x.1) ∧ w1.cell? ⟨g, i * 2 + j * 2 + 1, none⟩ = some (.int .i64 (x.2 : Int)) := fun j x hx => by
      have hj := (List.getElem?_eq_some_iff.1 hx).1
      have hjm : j < many := by rw [hout, List.length_take] at hj; omega
      rw [hout, List.getElem?_take_of_lt hjm, List.getElem?_drop] at hx
      have hl := (List.getElem?_eq_some_iff.1 hx).1
      have hrow := (HB.out.below b1).row
      rw [show i * 2 + j * 2 = (i + j) * 2 by omega]
      refine ⟨?_, ?_⟩
      · rw [hrow.cellAt (g := g) ((i + j) * 2) (by omega)]; exact ecells_at0 _ _ _ hx
      · rw [hrow.cellAt (g := g) ((i + j) * 2 + 1) (by omega)]; exact ecells_at1 _ _ _ hx
    have HO : Hid (out = (es.drop i).take many) := hout
    have HOL : Hid ((min (many : Int) ((es.length - i : Nat) : Int)).toNat = out.length) := hol
    by_cases hci : cap = i
    · have hnil : out = [] := by rw [hout, List.drop_eq_nil_of_le (by omega), List.take_nil]
      have cc := fun c => Clone_some g 0 c out w1 hof (fun j x hx => by rw [hnil] at hx; simp at hx)
      have HOL0 : Hid ((min (many : Int) 0).toNat = out.length) := by show _ = _; rw [hnil]; show (min (many : Int) 0).toNat = 0; omega
      subst hci
      clear hol hout hoc hnil
      go_wp2_with fail
      rw [HOL0.out]
      refine (cc _).mono ?_
      rintro e w2 ⟨v, rfl, own2, b2⟩
      obtain ⟨aV, cV, hv⟩ := own_slice own2
      subst hv
      go_wp2
      go_ret2
      exact ⟨_, _, f, rfl, HF.out, by rw [← HO.out]; exact own_lower own2 b1.size, b1.trans (b2.mono b1.size)⟩
    · have cc := fun c => Clone_some g (i * 2) c out w1 hof hoc
      clear hol hout hoc
      go_wp2_with fail
      rw [HOL.out]
      refine (cc _).mono ?_
      rintro e w2 ⟨v, rfl, own2, b2⟩
      obtain ⟨aV, cV, hv⟩ := own_slice own2
      subst hv
      go_wp2
      go_ret2
      exact ⟨_, _, f, rfl, HF.out, by rw [← HO.out]; exact own_lower own2 b1.size, b1.trans (b2.mono b1.size)⟩

def countIn (es : List Ent) (c : List UInt8) (n : Nat) : Prop := (∃ (i : Nat) (x : Ent), es[i]? = some x ∧ x.1.data.toList = c ∧ x.2 = n) ∨ (n = 0 ∧ ∀ (k : Nat) (x : Ent), es[k]? = some x → x.1.data.toList ≠ c)

end Go.Proofs.YtbjgpfhbdmcbbabGreatDoor.base

/-
  CONTRACTS of package quern: Open of counts that are there.
-/
namespace Go.Proofs.YtbjgpfhbdmcbbabGreatDoor.base
open Go.RowKit dnamath dna diskm disk keep hex pieces files parse words kinds jobs
set_option linter.unusedVariables false

def sumC (es : List Ent) : Nat := (es.map Prod.snd).sum
theorem sumC_take {es : List Ent} {k : Nat} {x : Ent} (h : es[k]? = some x) : sumC (es.take (k + 1)) = sumC (es.take k) + x.2 := by
  unfold sumC
  rw [List.take_add_one, h]
  simp
theorem sumC_le {L : Nat} : ∀ {es : List Ent}, (∀ x ∈ es, x.2 ≤ L) → sumC es ≤ es.length * L
  | [], _ => by simp [sumC]
  | x :: es, h => by
    have ih := sumC_le (es := es) (fun y hy => h y (List.mem_cons_of_mem _ hy))
    have := h x (List.mem_cons_self ..)
    have e : sumC (x :: es) = x.2 + sumC es := by simp [sumC]
    rw [e, List.length_cons, Nat.add_mul, Nat.one_mul]
    omega

/-- only what is new, and rows of bytes, may have changed -/
def Calm (Bo : Nat) (w w' : World) : Prop := WK Bo w.heap.size w w'
theorem Calm.refl {Bo : Nat} (w : World) : Calm Bo w w := WK.refl _ _
theorem Calm.wk {Bo : Nat} {w w1 w2 : World} {q : Nat} (h : Calm Bo w w1) (k : WK Bo q w1 w2) (hq : w.heap.size ≤ q) : Calm Bo w w2 :=
  ⟨k.os.trans h.os, k.tape.trans h.tape, k.output.trans h.output, Nat.le_trans h.size k.size, fun i hi hb hn => by
    have h1 := h.block i hi hb hn
    exact (k.block i (Nat.lt_of_lt_of_le hi h.size) (by omega) (fun ⟨cs, fz, e⟩ => hn ⟨cs, fz, by rw [← h1]; exact e⟩)).trans h1, fun i hi hl hb => (k.low i (Nat.lt_of_lt_of_le hi h.size) hl (by omega)).trans (h.low i hi hl hb)⟩
theorem Calm.below {Bo : Nat} {w w1 w2 : World} (h : Calm Bo w w1) (k : Below w1.heap.size w1 w2) : Calm Bo w w2 := h.wk (q := w.heap.size) (WK.ofBelow k) (Nat.le_refl _)
theorem Calm.new {Bo : Nat} {w w' : World} (h : Calm Bo w w') : New Bo w w' := FK.ofWK h
theorem Calm.disk {Bo : Nat} {w w' : World} {p : Nat} {S : DS} (h : Calm Bo w w') (hD : Disk Bo w p S) : Disk Bo w' p S := WK.disk h hD (fun ⟨cs, T, fz, e, _⟩ => by have := lt_of_block e; omega)

set_option maxHeartbeats 4000000 in
set_option maxRecDepth 100000 in
theorem open_calm {Bo : Nat} (p K : Nat) (S : DS) (N : Nat) (rs : List (List UInt8)) (run : ByteArray) (es : List Ent) (a bb aE : Addr) (w : World) (hG : Gl w a bb aE) (hD : Disk Bo w p S) (hN : N ≤ 1000000) (hF : Done S N K rs run es) (hk1 : 1 ≤ K) (hk2 : K ≤ 31) (hw : (wordsOf K rs).length ≤ 1440) (hrz : run.size ≤ 17) (hrh : ∀ d ∈ run.data.toList, (48 ≤ d.toNat ∧ d.toNat ≤ 57) ∨ (97 ≤ d.toNat ∧ d.toNat ≤ 102)) :
    Calls Tryz.prog 26 #[.pointer (some ⟨p, 0, none⟩)] w fun e w' => ∃ q ev, e = .returned (.tuple #[.pointer (some ⟨q, 0, none⟩), .nilIface]) ∧ BaseAt w' q K w.heap.size ev es (sumC es) ∧ Calm Bo w w' := by
  have hsm := tally_small hF.tally (words_words _) hw
  have htx := text_small hsm.each (by omega)
  have hmul : es.length * (K + 10) ≤ 1440 * 41 := Nat.mul_le_mul hsm.len (by omega)
  have co := openCounts_ok p S N a bb run K es w hD hF.room.good.ok hN hF.room.good.fine hG.gs hF.look hG.many hrh (by omega) (fun x hx => ⟨(hsm.each x hx).1, (hsm.each x hx).2.1, by have := (hsm.each x hx).2.2.2; omega⟩) hk1 (by omega) (by have := hsm.len; omega) (by omega)
  have HSM : Hid (Small K 1440 es) := hsm
  have HSO : Hid (((es.map cv).map Prod.fst).Pairwise (· < ·)) := hF.tally.sorted
  have hel := hsm.len
  clear hsm htx hmul hF hD hG hrh
  go_enter Tryz.func26, Tryz.ntmps26
  go_wp2_with fail
  refine co.mono ?_
  rintro e w1 ⟨q1, cs, ev, rfl, hq1, hb1, h6, h7, own1, k1⟩
  have c6 : w1.cell? ⟨q1, 6, none⟩ = some (.int .i64 (K : Int)) := (st_cell hb1 _).trans h6
  have c7 : w1.cell? ⟨q1, 7, none⟩ = some ev := (st_cell hb1 _).trans h7
  have N1 : Calm Bo w w1 := (Calm.refl w).wk k1 hq1
  have HR : Hid (w1.ownsRow w.heap.size 58 2 ev es.length (ecells es) ∧ Calm Bo w w1) := ⟨own1, N1⟩
  obtain ⟨aE2, cE, hev⟩ := own_slice own1
  subst hev
  clear co own1 N1 hb1 h6 h7 k1
  go_upto_region 6 with fail
  go_region
  all_goals
    obtain ⟨W2, hW2⟩ : ∃ W2, W2 = (w1.alloc (.cells #[.int .i64 (K : Int), .slice aE2 es.length cE, .int .i64 0] 73)).drew := ⟨_, rfl⟩
    obtain ⟨qb, hqb⟩ : ∃ qb, qb = w1.heap.size := ⟨_, rfl⟩
    have B2 : Below w1.heap.size w1 W2 := by rw [hW2]; exact ((Below.refl _ w1).alloc (Nat.le_refl _) _).trans ((⟨rfl, rfl, rfl, rfl, Nat.le_add_right _ _⟩ : Still (w1.alloc (.cells #[.int .i64 (K : Int), .slice aE2 es.length cE, .int .i64 0] 73)) (w1.alloc (.cells #[.int .i64 (K : Int), .slice aE2 es.length cE, .int .i64 0] 73)).drew).below _)
    have q2 : W2.heap[qb]? = some (.cells #[.int .i64 (K : Int), .slice aE2 es.length cE, .int .i64 0] 73 (0, 0)) := by rw [hW2, hqb]; exact heap_alloc_new _ _
    have N2 : Calm Bo w W2 := HR.out.2.below B2
    have hqw : w.heap.size ≤ qb := by rw [hqb]; exact HR.out.2.size
    have own2 : W2.ownsRow w.heap.size 58 2 (.slice aE2 es.length cE) es.length (ecells es) := row_keepB HR.out.1 (TK.below B2)
    have H0 : Hid (BaseAt W2 qb K w.heap.size (.slice aE2 es.length cE) es (sumC (es.take 0)) ∧ Calm Bo w W2) := ⟨⟨q2, own2, HSO.out, by omega⟩, N2⟩
    have c1 : W2.cell? ⟨qb, 1, none⟩ = some (.slice aE2 es.length cE) := st_cell q2 1
    rw [← hW2, ← hqb]
    clear hW2 hqb B2 q2 N2 own2 c6 c7
    go_wp2_with fail
    clear c1
    go_loopw [38] (fun i wr => ∃ k : Nat, i = .int .i64 (k : Int) ∧ k ≤ es.length ∧ Hid (BaseAt wr qb K w.heap.size (.slice aE2 es.length cE) es (sumC (es.take k)) ∧ Calm Bo w wr)) (fun i _ => es.length - (intOf i).toNat)
    case atStart => exact ⟨0, rfl, Nat.zero_le _, H0⟩
    case round =>
      obtain ⟨k, rfl, hk, hH⟩ := hrel
      clear H0
      rename World => wr
      by_cases hlt : k < es.length
      · obtain ⟨x, hx⟩ : ∃ x, es[k]? = some x := ⟨_, List.getElem?_eq_getElem hlt⟩
        have hrow := hH.out.1.row
        rcases hrow.2 with ⟨_, e0⟩ | ⟨g, cap, cur, e1, _⟩
        · omega
        cases e1
        have c0 : wr.cell? ⟨g, k * 2, none⟩ = some (.string x.1) := by rw [hrow.cellAt (g := g) (k * 2) (by omega)]; exact ecells_at0 _ _ _ hx
        have c1 : wr.cell? ⟨g, k * 2 + 1, none⟩ = some (.int .i64 (x.2 : Int)) := by rw [hrow.cellAt (g := g) (k * 2 + 1) (by omega)]; exact ecells_at1 _ _ _ hx
        have hxL := (HSM.out.each x (List.mem_of_getElem? hx)).2.2.2
        have hsl : sumC (es.take k) ≤ 1440 * 1440 := by
          refine Nat.le_trans (sumC_le (L := 1440) (fun y hy => (HSM.out.each y (List.mem_of_mem_take hy)).2.2.2)) (Nat.mul_le_mul_right _ ?_)
          rw [List.length_take]; omega
        have HSU : Hid (sumC (es.take (k + 1)) = sumC (es.take k) + x.2) := sumC_take hx
        obtain ⟨s, hs⟩ : ∃ s, s = sumC (es.take k) := ⟨_, rfl⟩
        rw [← hs] at hH hsl HSU
        clear hs hrow hx
        go_upto_region 10 with fail
        obtain ⟨W5, hW5⟩ : ∃ W5, W5 = wr.alloc (.cells #[.string x.1, .int .i64 (x.2 : Int)] 58) := ⟨_, rfl⟩
        obtain ⟨q5, hq5⟩ : ∃ q5, q5 = wr.heap.size := ⟨_, rfl⟩
        have B5 : Below wr.heap.size wr W5 := by rw [hW5]; exact (Below.refl _ wr).alloc (Nat.le_refl _) _
        have e5 : W5.heap[q5]? = some (.cells #[.string x.1, .int .i64 (x.2 : Int)] 58 (0, 0)) := by rw [hW5, hq5]; exact heap_alloc_new _ _
        have d1 : W5.cell? ⟨q5, 1, none⟩ = some (.int .i64 (x.2 : Int)) := st_cell e5 1
        have b5 := hH.out.1.below B5
        have d2 : W5.cell? ⟨qb, 2, none⟩ = some (.int .i64 (s : Int)) := st_cell b5.blk 2
        have f2 := st_frozen b5.blk 2
        have HB5 : Hid (BaseAt W5 qb K w.heap.size (.slice (some ⟨g, 0, none⟩) es.length cE) es s ∧ Calm Bo w W5) := ⟨b5, hH.out.2.below B5⟩
        rw [← hW5, ← hq5]
        clear hW5 hq5 B5 e5 b5 c0 c1 hH
        go_region
        all_goals
          have HN : Hid (BaseAt (W5.setCell ⟨qb, 2, none⟩ (.int .i64 ((s : Int) + (x.2 : Int)))) qb K w.heap.size (.slice (some ⟨g, 0, none⟩) es.length cE) es (sumC (es.take (k + 1))) ∧ Calm Bo w (W5.setCell ⟨qb, 2, none⟩ (.int .i64 ((s : Int) + (x.2 : Int))))) := by
            refine ⟨⟨?_, row_keepB HB5.out.1.row (TK.set HB5.out.1.blk (by decide)), HB5.out.1.sorted, HB5.out.1.few⟩, HB5.out.2.wk (WK.set _) hqw⟩
            rw [heap_setCell_same W5 qb 2 _ _ _ HB5.out.1.blk, HSU.out]
            simp
          obtain ⟨W6, hW6⟩ : ∃ W6, W6 = W5.setCell ⟨qb, 2, none⟩ (.int .i64 ((s : Int) + (x.2 : Int))) := ⟨_, rfl⟩
          rw [← hW6] at HN ⊢
          have S6 : Below W6.heap.size W6 W6.drew := (⟨rfl, rfl, rfl, rfl, Nat.le_add_right _ _⟩ : Still W6 W6.drew).below _
          have HN2 : Hid (BaseAt W6.drew qb K w.heap.size (.slice (some ⟨g, 0, none⟩) es.length cE) es (sumC (es.take (k + 1))) ∧ Calm Bo w W6.drew) := ⟨HN.out.1.below S6, HN.out.2.below S6⟩
          clear hW6 HN S6 d1 d2 f2 HB5
          go_wp2
          go_roundw
          case rel => exact ⟨k + 1, by go_num, by omega, HN2⟩
          case measure => simp [intOf]; omega
      · have hke : k = es.length := by omega
        subst hke
        have HE : Hid (BaseAt wr qb K w.heap.size (.slice aE2 es.length cE) es (sumC es) ∧ Calm Bo w wr) := by
          have := hH.out
          rw [List.take_length] at this
          exact this
        clear hH
        go_wp2
        go_ret2
        exact ⟨qb, _, rfl, HE.out.1, HE.out.2⟩

set_option maxHeartbeats 1000000 in
set_option maxRecDepth 100000 in
theorem Open_calm {Bo : Nat} (p K : Nat) (S : DS) (N : Nat) (rs : List (List UInt8)) (run : ByteArray) (es : List Ent) (a bb aE : Addr) (w : World) (hG : Gl w a bb aE) (hD : Disk Bo w p S) (hN : N ≤ 1000000) (hF : Done S N K rs run es) (hk1 : 1 ≤ K) (hk2 : K ≤ 31) (hw : (wordsOf K rs).length ≤ 1440) (hrz : run.size ≤ 17) (hrh : ∀ d ∈ run.data.toList, (48 ≤ d.toNat ∧ d.toNat ≤ 57) ∨ (97 ≤ d.toNat ∧ d.toNat ≤ 102)) :
    Calls Tryz.prog 12 #[.pointer (some ⟨p, 0, none⟩)] w fun e w' => ∃ q ev, e = .returned (.tuple #[.pointer (some ⟨q, 0, none⟩), .int .i64 0]) ∧ BaseAt w' q K w.heap.size ev es (sumC es) ∧ Calm Bo w w' := by
  have co := open_calm p K S N rs run es a bb aE w hG hD hN hF hk1 hk2 hw hrz hrh
  clear hG hD hF hw hrz hrh
  go_enter Tryz.func12, Tryz.ntmps12
  go_wp2_with fail
  refine co.mono ?_
  rintro e w1 ⟨q, ev, rfl, hb, hn⟩
  have HH : Hid (BaseAt w1 q K w.heap.size ev es (sumC es) ∧ Calm Bo w w1) := ⟨hb, hn⟩
  clear hb hn co
  go_wp2
  go_ret2
  exact ⟨q, ev, rfl, HH.out.1, HH.out.2⟩
theorem Open_ok {Bo : Nat} (p K : Nat) (S : DS) (N : Nat) (rs : List (List UInt8)) (run : ByteArray) (es : List Ent) (a bb aE : Addr) (w : World) (hG : Gl w a bb aE) (hD : Disk Bo w p S) (hN : N ≤ 1000000) (hF : Done S N K rs run es) (hk1 : 1 ≤ K) (hk2 : K ≤ 31) (hw : (wordsOf K rs).length ≤ 1440) (hrz : run.size ≤ 17) (hrh : ∀ d ∈ run.data.toList, (48 ≤ d.toNat ∧ d.toNat ≤ 57) ∨ (97 ≤ d.toNat ∧ d.toNat ≤ 102)) :
    Calls Tryz.prog 12 #[.pointer (some ⟨p, 0, none⟩)] w fun e w' => ∃ q ev, e = .returned (.tuple #[.pointer (some ⟨q, 0, none⟩), .int .i64 0]) ∧ BaseAt w' q K w.heap.size ev es (sumC es) ∧ New Bo w w' :=
  (Open_calm p K S N rs run es a bb aE w hG hD hN hF hk1 hk2 hw hrz hrh).mono fun e w' ⟨q, ev, h1, h2, h3⟩ => ⟨q, ev, h1, h2, h3.new⟩
end Go.Proofs.YtbjgpfhbdmcbbabGreatDoor.base
