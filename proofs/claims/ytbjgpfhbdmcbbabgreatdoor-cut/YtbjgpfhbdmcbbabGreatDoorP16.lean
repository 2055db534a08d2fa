import Derived.Test.YtbjgpfhbdmcbbabGreatDoorP14
import Derived.Test.YtbjgpfhbdmcbbabGreatDoorP15
import Derived.Sort.OwnSorted
import Derived.Test.YtbjgpfhbdmcbbabGreatDoorP01

/-
  CONTRACTS of package quern: slices.Sort on a row of one's own; countWords.
-/
namespace Go.Proofs.YtbjgpfhbdmcbbabGreatDoor.words
open Go.RowKit dnamath dna diskm disk keep pieces kinds
set_option linter.unusedVariables false

def strOf (l : List UInt8) : ByteArray := ⟨l.toArray⟩
theorem datas_strOf (ls : List (List UInt8)) : datas (ls.map strOf) = ls := by
  unfold datas
  rw [List.map_map]
  conv => rhs; rw [← List.map_id ls]
  rfl
theorem scells_enc (us : List ByteArray) : scells us = (datas us).map encStr := by
  unfold scells datas
  rw [List.map_map]
  rfl

theorem sort_own (base : Nat) (v : Value) (us : List ByteArray) (w : World) (h : w.ownsRow base 9 1 v us.length (scells us)) (hl : us.length ≤ 1000000) :
    Calls Tryz.prog 167 #[v] w fun e w' => e = .returned (.tuple #[]) ∧ ∃ ts : List ByteArray, w'.ownsRow base 9 1 v ts.length (scells ts) ∧ ts.length = us.length ∧ datas ts = (datas us).mergeSort (fun x y => decide (x ≤ y)) ∧ w.grownBy w' v.ownBlock := by
  rcases h.2 with ⟨rfl, h0⟩ | ⟨g, cap, cur, rfl, hg, hh, h1, h2, h3, h4⟩
  · have hl0 : us = [] := List.eq_nil_of_length_eq_zero h0
    subst hl0
    refine (Tryz.slices_Sort_string_none none 0 w).mono ?_
    rintro e w' ⟨rfl, rfl⟩
    exact ⟨rfl, [], World.ownsRow_nil _ _ _ _, rfl, by simp [datas], grown_refl _ _⟩
  · have hdl : (datas us).length = us.length := by simp [datas]
    have hH : Sort.Holds encStr w g 0 (datas us).toArray := by
      intro j hj
      have hj2 : j < us.length := by simpa [datas] using hj
      refine ⟨?_, h.frozenAt _⟩
      rw [Nat.zero_add, h.cellAt (g := g) j (by omega), scells_enc]
      simp [datas, hj2]
    have := Tryz.slices_Sort_string g 0 cap (datas us) w hH (lt_of_block hh) (by rw [hdl]; omega)
    rw [hdl] at this
    refine this.mono ?_
    rintro e w' ⟨rfl, n, os, rfl⟩
    obtain ⟨ls, hls⟩ : ∃ ls, ls = (datas us).mergeSort (fun x y => decide (x ≤ y)) := ⟨_, rfl⟩
    have hll : ls.length = us.length := by rw [hls, List.length_mergeSort, hdl]
    rw [← hls]
    refine ⟨rfl, ls.map strOf, ?_, by simp [hll], by rw [datas_strOf], Go.grownBy_sorted _⟩
    have hs := ownsRow_sorted (w := w) (n := n) (os := os) (ss := datas us) (ts := ls) (base := base) (by rw [hll, hdl]) hg hh (by rw [hdl]; exact h1) h2 h3
    rw [scells_enc, datas_strOf]
    rw [hdl] at hs
    have hm : (ls.map strOf).length = us.length := by simp [hll]
    rw [hm]
    exact hs

/-- the words of the first i places of a piece, as Canon of them -/
def wordsTo (k : Nat) (p : List UInt8) (i : Nat) : List (List UInt8) := (List.range i).map (fun j => canonL (cut p j k))
theorem wordsTo_succ (k : Nat) (p : List UInt8) (i : Nat) : wordsTo k p (i + 1) = wordsTo k p i ++ [canonL (cut p i k)] := by simp [wordsTo, List.range_succ]
theorem wordsTo_all (k : Nat) (p : List UInt8) : wordsTo k p (p.length + 1 - k) = (winP k p).map canonL := by simp [wordsTo, winP]
def allW (k : Nat) (ps : List ByteArray) : List (List UInt8) := ((datas ps).flatMap (winP k)).map canonL
theorem allW_take {k : Nat} {ps : List ByteArray} {j : Nat} {x : ByteArray} (h : ps[j]? = some x) : allW k (ps.take (j + 1)) = allW k (ps.take j) ++ (winP k x.data.toList).map canonL := by
  rw [List.take_add_one, h]
  simp [allW, datas]
theorem allW_le (k : Nat) (ps : List ByteArray) (j : Nat) : (allW k (ps.take j)).length ≤ (allW k ps).length := by
  have e : allW k ps = allW k (ps.take j) ++ allW k (ps.drop j) := by
    unfold allW datas
    rw [← List.map_append, ← List.flatMap_append, ← List.map_append, List.take_append_drop]
  rw [e, List.length_append]
  omega
def cv (x : Ent) : List UInt8 × Nat := (x.1.data.toList, x.2)
theorem infoEn : (Tryz.prog.info? 58).map (fun i => (i.zero, i.size, i.bytes)) = some (some (.agg #[.string ByteArray.empty, .int .i64 0]), 2, 24) := by kernel_rfl

theorem canon_word {s r : ByteArray} {n : Int} (h : CanonIs s r n) (hw : s.data.toList.all isB = true) (hs : 0 < s.size) : n = 0 ∧ r.data.toList = canonL s.data.toList := by
  have hwb : wordB s.data.toList = true := by
    unfold wordB
    rw [hw]
    cases hl : s.data.toList with
    | nil => rw [Lib.size_eq, hl] at hs; simp at hs
    | cons a l => rfl
  rcases h with ⟨_, h1, h2⟩ | ⟨h1, _⟩
  · exact ⟨h1, h2⟩
  · rw [hwb] at h1; cases h1

theorem ecells_set (A : List Ent) (x : ByteArray) (n m : Nat) : (ecells (A ++ [(x, n)])).set (A.length * 2 + 1) (.int .i64 (m : Int)) = ecells (A ++ [(x, m)]) := by
  have hl : (ecells A).length = A.length * 2 := by
    induction A with
    | nil => rfl
    | cons y A ih => rw [ecells, List.flatMap_cons, List.length_append, show (A.flatMap ecell).length = A.length * 2 from ih]; simp [ecell]; omega
  rw [ecells_append, ecells_append, List.set_append_right _ _ (by omega), hl, show A.length * 2 + 1 - A.length * 2 = 1 by omega]
  rfl
theorem ecells_last1 (A : List Ent) (x : ByteArray) (n : Nat) : (ecells (A ++ [(x, n)]))[A.length * 2 + 1]? = some (.int .i64 (n : Int)) := ecells_at1 (A ++ [(x, n)]) A.length (x, n) (by simp)
theorem grp_last (us : List (List UInt8)) (w : List UInt8) : ∃ A n, grp (us ++ [w]) = A ++ [(w, n)] := by
  rw [grp_snoc]
  rcases list_snoc (grp us) with h | ⟨A, ⟨x, n⟩, h⟩
  · rw [h]; exact ⟨[], 1, rfl⟩
  · rw [h]
    by_cases e : x = w
    · subst e; exact ⟨A, n + 1, grpStep_same A x n⟩
    · exact ⟨A ++ [(x, n)], 1, grpStep_other A x w n e⟩
theorem one_ent (x : ByteArray) (n : Int) : ∀ u ∈ [Value.string x, Value.int .i64 n], u.oneCell' = true := by
  intro u hu; simp at hu; rcases hu with rfl | rfl <;> rfl
theorem sorted_merge (l : List (List UInt8)) : (l.mergeSort (fun x y => decide (x ≤ y))).Pairwise (· ≤ ·) := by
  have := List.pairwise_mergeSort (le := fun x y : List UInt8 => decide (x ≤ y)) (fun a b c h1 h2 => decide_eq_true (List.le_trans (of_decide_eq_true h1) (of_decide_eq_true h2))) (fun a b => by
    rcases List.le_total a b with h | h
    · simp [h]
    · simp [h]) l
  exact this.imp (fun h => of_decide_eq_true h)
theorem tally_perm {ws ws' : List (List UInt8)} {es : List (List UInt8 × Nat)} (h : TallyOf ws es) (hp : ws.Perm ws') : TallyOf ws' es :=
  ⟨h.sorted, fun e he => by rw [← hp.count_eq]; exact h.count e he, fun x hx => h.all x (hp.mem_iff.2 hx)⟩
theorem strs_eq {x y : ByteArray} : (x.toList == y.toList) = true ↔ x.data.toList = y.data.toList := by rw [beq_iff_eq, Lib.toList_data, Lib.toList_data]

/-- the entries behind one more word -/
structure Step3 (w : World) (ts : List ByteArray) (base : Nat) (wv : Value) (L : Nat) (wr : World) (ev : Value) (es : List Ent) (j : Nat) : Prop where
  own : wr.ownsRow base 58 2 ev es.length (ecells es)
  grp : es.map cv = grp ((datas ts).take j)
  row : wr.ownsRow base 9 1 wv L (scells ts)
  below : Below base w wr
  size : base ≤ wr.heap.size
  cnt : ∀ e ∈ es, e.2 ≤ j
  len : es.length ≤ j

/-- the entries before the last one's count is raised -/
structure Pre3 (w : World) (ts : List ByteArray) (base : Nat) (wv : Value) (L : Nat) (wr : World) (ev : Value) (A : List Ent) (x : ByteArray) (n j : Nat) : Prop where
  own : wr.ownsRow base 58 2 ev (A ++ [(x, n)]).length (ecells (A ++ [(x, n)]))
  grp : (A ++ [(x, n + 1)]).map cv = grp ((datas ts).take (j + 1))
  row : wr.ownsRow base 9 1 wv L (scells ts)
  below : Below base w wr
  size : base ≤ wr.heap.size
  cnt : ∀ e ∈ A, e.2 ≤ j
  cnt1 : n ≤ j
  len : A.length ≤ j

theorem row_keepB {w w' : World} {b : Nat} {e : TypeId} {s n : Nat} {v : Value} {xs : List Value} (h : w.ownsRow b e s v n xs) (hb : TK e w w') : w'.ownsRow b e s v n xs := by
  refine ⟨h.1, ?_⟩
  rcases h.2 with h2 | ⟨g, cap, cur, h1, h0, h3, h4⟩
  · exact .inl h2
  · exact .inr ⟨g, cap, cur, h1, h0, by rw [hb g _ _ h3]; exact h3, h4⟩

theorem Pre3.step {w : World} {ts : List ByteArray} {base : Nat} {wv : Value} {L : Nat} {wr : World} {g cap : Nat} {A : List Ent} {x : ByteArray} {n j : Nat} (h : Pre3 w ts base wv L wr (.slice (some ⟨g, 0, none⟩) (A.length + 1) cap) A x n j) :
    Step3 w ts base wv L (wr.setCell ⟨g, A.length * 2 + 1, none⟩ (.int .i64 ((n : Int) + 1))) (.slice (some ⟨g, 0, none⟩) (A.length + 1) cap) (A ++ [(x, n + 1)]) (j + 1) := by
  have hl : ∀ m : Nat, (A ++ [(x, m)]).length = A.length + 1 := fun m => by simp
  have hown := h.own
  rw [hl] at hown
  obtain ⟨cs, fz, hgF⟩ := own_kind hown g rfl
  have hst := (hown.stored (A.length * 2 + 1) (.int .i64 ((n : Int) + 1))).1
  have e : (ecells (A ++ [(x, n)])).set (A.length * 2 + 1) (.int .i64 ((n : Int) + 1)) = ecells (A ++ [(x, n + 1)]) := by
    have := ecells_set A x n (n + 1)
    rwa [Int.natCast_succ] at this
  rw [e] at hst
  refine ⟨by rw [hl]; exact hst, h.grp, row_keepB h.row (TK.set hgF (by decide)), h.below.setCell (by exact (hown.lt g rfl).1) _, by simpa using h.size, ?_, by rw [hl]; have := h.len; omega⟩
  intro e he
  rw [List.mem_append, List.mem_singleton] at he
  rcases he with he | rfl
  · have := h.cnt e he; omega
  · have := h.cnt1; show n + 1 ≤ j + 1; omega

theorem Pre3.form {w : World} {ts : List ByteArray} {base : Nat} {wv : Value} {L : Nat} {wr : World} {ev : Value} {A : List Ent} {x : ByteArray} {n j : Nat} (h : Pre3 w ts base wv L wr ev A x n j) :
    ∃ g cap, ev = .slice (some ⟨g, 0, none⟩) (A.length + 1) cap ∧ wr.cell? ⟨g, A.length * 2 + 1, none⟩ = some (.int .i64 (n : Int)) ∧ wr.frozen? ⟨g, A.length * 2 + 1, none⟩ = false := by
  have hl : (A ++ [(x, n)]).length = A.length + 1 := by simp
  have hown := h.own
  rw [hl] at hown
  rcases hown.2 with ⟨_, e0⟩ | ⟨g, cap, cur, e1, _⟩
  · omega
  subst e1
  exact ⟨g, cap, rfl, by rw [hown.cellAt (g := g) (A.length * 2 + 1) (by omega)]; exact ecells_last1 A x n, hown.frozenAt _⟩

theorem take_snoc {l : List (List UInt8)} {j : Nat} {y : List UInt8} (h : l[j]? = some y) : l.take (j + 1) = l.take j ++ [y] := by rw [List.take_add_one, h]; rfl
theorem datas_at {ts : List ByteArray} {j : Nat} {y : ByteArray} (h : ts[j]? = some y) : (datas ts)[j]? = some y.data.toList := by simp [datas, h]

theorem Step3.same {w : World} {ts : List ByteArray} {base : Nat} {wv : Value} {L : Nat} {wr : World} {ev : Value} {es : List Ent} {i : Nat} (h : Step3 w ts base wv L wr ev es (i + 1)) {y z : ByteArray} (hy : ts[i + 1]? = some y) (hz : ts[i]? = some z) (e : y.data.toList = z.data.toList) :
    ∃ A x n, es = A ++ [(x, n)] ∧ Pre3 w ts base wv L wr ev A x n (i + 1) := by
  obtain ⟨A', n, hA⟩ := grp_last ((datas ts).take i) z.data.toList
  rw [← take_snoc (datas_at hz)] at hA
  have hg := h.grp
  rw [hA] at hg
  rcases list_snoc es with h0 | ⟨A, ⟨x, m⟩, he⟩
  · rw [h0] at hg; simp at hg
  · subst he
    rw [List.map_append] at hg
    have h2 := List.append_inj' hg rfl
    have h3 : (x.data.toList, m) = (z.data.toList, n) := by simpa [cv] using h2.2
    have h4 : x.data.toList = z.data.toList := congrArg Prod.fst h3
    have h5 : m = n := congrArg Prod.snd h3
    subst h5
    refine ⟨A, x, m, rfl, h.own, ?_, h.row, h.below, h.size, fun e he => h.cnt e (by simp [he]), h.cnt (x, m) (by simp), by have := h.len; simp at this; omega⟩
    rw [take_snoc (datas_at hy), grp_snoc, hA, e, grpStep_same, List.map_append, h2.1]
    simp [cv, h4]

theorem Step3.other {w : World} {ts : List ByteArray} {base : Nat} {wv : Value} {L : Nat} {wr : World} {ev : Value} {es : List Ent} {j : Nat} (h : Step3 w ts base wv L wr ev es j) {y : ByteArray} (hy : ts[j]? = some y) (hz : ∀ i z, j = i + 1 → ts[i]? = some z → ¬ y.data.toList = z.data.toList) (hj : j ≤ ts.length) :
    (es ++ [(y, 1)]).map cv = Go.Proofs.YtbjgpfhbdmcbbabGreatDoor.dnamath.grp ((datas ts).take (j + 1)) := by
  rw [take_snoc (datas_at hy), grp_snoc, ← h.grp, List.map_append]
  cases j with
  | zero =>
    have hg := h.grp
    rw [List.take_zero] at hg
    rw [hg]
    rfl
  | succ i =>
    obtain ⟨z, hz1⟩ : ∃ z, ts[i]? = some z := ⟨_, List.getElem?_eq_getElem (by omega)⟩
    obtain ⟨A', n, hA⟩ := grp_last ((datas ts).take i) z.data.toList
    rw [← take_snoc (datas_at hz1), ← h.grp] at hA
    rw [hA, grpStep_other _ _ _ _ (fun e => hz i z rfl hz1 e.symm)]
    rfl

theorem Step3.pushed {w : World} {ts : List ByteArray} {base : Nat} {wv : Value} {L : Nat} {wr w4 : World} {ev ev4 : Value} {es : List Ent} {j : Nat} {o : Obj} (h : Step3 w ts base wv L wr ev es j) {y : ByteArray} (hy : ts[j]? = some y) (hz : ∀ i z, j = i + 1 → ts[i]? = some z → ¬ y.data.toList = z.data.toList) (hj : j ≤ ts.length)
    (own4 : w4.ownsRow base 58 2 ev4 (es.length + 1) (ecells es ++ [.string y, .int .i64 0])) (g4 : (wr.alloc o).grownBy w4 ev.ownBlock) : Pre3 w ts base wv L w4 ev4 es y 0 j := by
  have e : ecells (es ++ [(y, 0)]) = ecells es ++ [.string y, .int .i64 0] := by rw [ecells_append]; rfl
  refine ⟨by rw [e, List.length_append]; exact own4, h.other hy hz hj, row_keepB h.row ((TK.alloc o).trans (TK.grown g4 (own_kind_alloc h.own o) (by decide))), (h.below.alloc h.size o).grown g4 (by simp; have := h.size; omega) (fun k hk => (h.own.lt k hk).1), ?_, h.cnt, Nat.zero_le _, h.len⟩
  have := g4.size
  have h0 := h.size
  simp at this
  omega

set_option maxHeartbeats 4000000 in
set_option maxRecDepth 100000 in
theorem countWords_any (v : Value) (ps : List ByteArray) (k : Nat) (w : World) (hr : w.ownsRow 0 9 1 v ps.length (scells ps)) (hk1 : 1 ≤ k) (hk : k ≤ 31) (hB : ∀ p ∈ ps, p.data.toList.all isB = true) (hpl : ps.length ≤ 100000) (hps : ∀ p ∈ ps, p.size ≤ 100000) (hal : (allW k ps).length ≤ 100000) :
    Calls Tryz.prog 148 #[v, .int .i64 (k : Int)] w fun e w' => ∃ ev es, e = .returned ev ∧ w'.ownsRow w.heap.size 58 2 ev es.length (ecells es) ∧ TallyOf (allW k ps) (es.map cv) ∧ Below w.heap.size w w' := by
  obtain ⟨i0, hi, hz0, hz1, hz2⟩ := info_parts infoS
  obtain ⟨j0, hj, hy0, hy1, hy2⟩ := info_parts infoEn
  have HR : Hid (w.ownsRow 0 9 1 v ps.length (scells ps)) := hr
  obtain ⟨av, cv_, rfl⟩ := own_slice hr
  have HPS : Hid (∀ p ∈ ps, p.data.toList.all isB = true ∧ p.size ≤ 100000) := fun p hp => ⟨hB p hp, hps p hp⟩
  have HAL : Hid (∀ j, (allW k (ps.take j)).length ≤ 100000) := fun j => Nat.le_trans (allW_le k ps j) hal
  clear hr hB hps hal
  go_enter Tryz.func148, Tryz.ntmps148
  go_wp2
  go_loopw [5, 16] (fun uv i wr => ∃ (j : Nat) (us : List ByteArray), i = .int .i64 (j : Int) ∧ j ≤ ps.length ∧ Hid (wr.ownsRow w.heap.size 9 1 uv us.length (scells us)) ∧ Hid (datas us = allW k (ps.take j)) ∧ Hid (Below w.heap.size w wr)) (fun _ i _ => ps.length - (intOf i).toNat)
  case atStart => exact ⟨0, [], rfl, Nat.zero_le _, World.ownsRow_nil _ _ _ _, rfl, Below.refl _ _⟩
  case round =>
    obtain ⟨j, us, rfl, hj1, hown, hus, hbl⟩ := hrel
    rename World => wr
    by_cases hlt : j < ps.length
    · obtain ⟨x, hx⟩ : ∃ x, ps[j]? = some x := ⟨_, List.getElem?_eq_getElem hlt⟩
      rcases HR.out.2 with ⟨_, e0⟩ | ⟨g, cap, cur, e1, _, hhg, _⟩
      · omega
      cases e1
      have hgl : g < w.heap.size := lt_of_block hhg
      have hc : wr.cell? ⟨g, j, none⟩ = some (.string x) := by
        rw [hbl.out.cell (p := ⟨g, j, none⟩) hgl, HR.out.cellAt (g := g) j (by omega)]
        simp [scells, hx]
      obtain ⟨hxb, hxs⟩ := HPS.out x (List.mem_of_getElem? hx)
      have HXB : Hid (x.data.toList.all isB = true) := hxb
      have hal1 := HAL.out (j + 1)
      rw [allW_take hx, List.length_append] at hal1
      have hwl : ((winP k x.data.toList).map canonL).length = x.size + 1 - k := by rw [Lib.size_eq]; simp [winP]
      have hul : us.length = (allW k (ps.take j)).length := by rw [← hus.out]; simp [datas]
      have hlim : us.length + (x.size + 1 - k) ≤ 100000 := by rw [hul]; omega
      have HX : Hid (ps[j]? = some x) := hx
      clear hx hxb hal1 hwl hul hhg
      go_wp2_with fail
      go_loopw [5, 8] (fun uv i wr2 => ∃ (i' : Nat) (us2 : List ByteArray), i = .int .i64 (i' : Int) ∧ i' ≤ x.size + 1 - k ∧ us2.length = us.length + i' ∧ Hid (wr2.ownsRow w.heap.size 9 1 uv us2.length (scells us2)) ∧ Hid (datas us2 = allW k (ps.take j) ++ wordsTo k x.data.toList i') ∧ Hid (Below w.heap.size w wr2)) (fun _ i _ => x.size + 1 - (intOf i).toNat)
      case atStart => exact ⟨0, us, rfl, Nat.zero_le _, rfl, hown, by show _ = _; rw [hus.out]; simp [wordsTo], hbl⟩
      case round =>
        obtain ⟨i, us2, rfl, hi1, hl2, hown2, hus2, hbl2⟩ := hrel
        rename World => wr2
        by_cases hik : i + k ≤ x.size
        · have hsl := slice_km x i k hik (by omega)
          have hez : (x.extract i (i + k)).size = k := by simp [ByteArray.size_extract]; omega
          have hed : (x.extract i (i + k)).data.toList = cut x.data.toList i k := cut_extract x i k
          obtain ⟨y, hy⟩ : ∃ y, y = x.extract i (i + k) := ⟨_, rfl⟩
          rw [← hy] at hsl hez hed
          have cc := Canon_any y wr2 (by omega)
          have HYB : Hid (y.data.toList.all isB = true) := by show _ = _; rw [hed]; exact all_part HXB.out i k
          have HYD : Hid (y.data.toList = cut x.data.toList i k) := hed
          have hyk : y.size = k := hez
          have hlq : us2.length ≤ 99999 := by omega
          have HYK : Hid (y.size = k) := hyk
          clear hy hed hez hyk hown hus hbl hc
          go_wp2_with (first | (go_at_call 134; go_must (refine cc.mono ?_; rintro e w3 ⟨r, m, rfl, hcn, hb3⟩; have hown3 := own_later hown2.out hb3; have hbs3 : w.heap.size ≤ w3.heap.size := Nat.le_trans hbl2.out.size hb3.size)) | (at_builtin; go_must (refine wpList_append_own _ rfl (.tmp 38) (.tmp 40) 28 rfl w.heap.size 9 i0 (.string ByteArray.empty) 1 16 Tryz.underlying28 hi hz0 hz1 hz2 rfl (by decide) _ _ _ rfl (hown3.alloc _) _ 1 1 [.string r] rfl rfl (pieces.cell_one _ _ _) (one_str r) (by unfold maxLen; omega) (by omega) (by simp; omega) ?_; intro uv4 w4 own4 g4 _)))
          obtain ⟨R1, R2⟩ := push_str (c := r) hown3 (hbl2.out.trans (hb3.mono hbl2.out.size)) hbs3 own4 g4
          have hcw := canon_word hcn HYB.out (by rw [HYK.out]; omega)
          have HD4 : Hid (datas (us2 ++ [r]) = allW k (ps.take j) ++ wordsTo k x.data.toList (i + 1)) := by
            show _ = _
            rw [wordsTo_succ, ← List.append_assoc, ← hus2.out, ← HYD.out, ← hcw.2]
            simp [datas]
          have HO4 : Hid (w4.ownsRow w.heap.size 9 1 uv4 (us2 ++ [r]).length (scells (us2 ++ [r]))) := R1
          have HB4 : Hid (Below w.heap.size w w4) := R2
          clear R1 R2 hcw hcn hb3 hown3 hbs3 own4 g4 cc hsl
          go_wp2
          go_roundw
          case rel => exact ⟨i + 1, us2 ++ [r], by go_num, by omega, by rw [List.length_append]; simp; omega, HO4, HD4, HB4⟩
          case measure => simp [intOf]; omega
        · have hie : i = x.size + 1 - k := by omega
          have HD4 : Hid (datas us2 = allW k (ps.take (j + 1))) := by
            show _ = _
            rw [allW_take HX.out, hus2.out, hie, Lib.size_eq, wordsTo_all]
          clear hown hus hbl hc
          go_wp2
          go_roundw
          case rel => exact ⟨j + 1, us2, by go_num, by omega, hown2, HD4, hbl2⟩
          case measure => simp [intOf]; omega
    · have hje : j = ps.length := by omega
      subst hje
      rw [List.take_length] at hus
      have hul : us.length = (allW k ps).length := by rw [← hus.out]; simp [datas]
      have hul2 : us.length ≤ 100000 := by rw [hul]; have := HAL.out ps.length; rw [List.take_length] at this; exact this
      obtain ⟨aU, cU, rfl⟩ := own_slice hown.out
      have cso := sort_own w.heap.size (.slice aU us.length cU) us wr hown.out (by omega)
      clear hul
      go_wp2_with (go_at_call 167; go_must (refine cso.mono ?_; rintro e w2 ⟨rfl, ts, own2, hts, hdt, g2⟩))
      rw [hts] at own2
      have HB2 : Below w.heap.size w w2 := hbl.out.grown g2 hbl.out.size (fun k hk => (hown.out.lt k hk).1)
      have hdl : (datas ts).length = us.length := by rw [← hts]; simp [datas]
      have HFIN : Hid (TallyOf (allW k ps) (grp (datas ts))) := by
        show TallyOf _ _
        have h1 : (datas ts).Pairwise (· ≤ ·) := by rw [hdt]; exact sorted_merge _
        have h2 := grp_tally _ _ rfl h1
        refine tally_perm h2 ?_
        rw [hdt, hus.out]
        exact List.mergeSort_perm _ _
      have O0 : Step3 w ts w.heap.size (.slice aU us.length cU) us.length w2 (.slice none 0 0) [] 0 := ⟨World.ownsRow_nil _ _ _ _, rfl, own2, HB2, HB2.size, (fun e h => by cases h), Nat.le_refl _⟩
      have HDL : Hid ((datas ts).length = us.length) := hdl
      have HTS : Hid (ts.length = us.length) := hts
      clear own2 hdt g2 HB2 hdl hts hown hus hbl cso
      go_wp2_with fail
      go_loopw [11, 47] (fun ev i wr3 => ∃ (j : Nat) (es : List Ent), i = .int .i64 (j : Int) ∧ j ≤ us.length ∧ Hid (Step3 w ts w.heap.size (.slice aU us.length cU) us.length wr3 ev es j)) (fun _ i _ => us.length - (intOf i).toNat)
      case atStart => exact ⟨0, [], rfl, Nat.zero_le _, O0⟩
      case round =>
        obtain ⟨j, es, rfl, hj1, hS⟩ := hrel
        clear O0
        rename World => wr3
        by_cases hlt3 : j < us.length
        · obtain ⟨y, hy⟩ : ∃ y, ts[j]? = some y := ⟨_, List.getElem?_eq_getElem (by rw [HTS.out]; exact hlt3)⟩
          rcases hS.out.row.2 with ⟨_, e0⟩ | ⟨g, capU, cur, e1, _⟩
          · omega
          cases e1
          have hcy : wr3.cell? ⟨g, j, none⟩ = some (.string y) := by
            rw [hS.out.row.cellAt (g := g) j (by omega)]
            simp [scells, hy]
          have hes : es.length ≤ 100000 := Nat.le_trans hS.out.len (by omega)
          obtain ⟨aE, cE, rfl⟩ := own_slice hS.out.own
          have HY : Hid (ts[j]? = some y) := hy
          have HOWN : Hid (wr3.ownsRow w.heap.size 58 2 (.slice aE es.length cE) es.length (ecells es)) := hS.out.own
          clear hy
          cases j with
          | zero =>
            go_wp2_with (at_builtin; go_must (refine wpList_append_own _ rfl (.tmp 63) (.tmp 66) 30 rfl w.heap.size 58 j0 (.agg #[.string ByteArray.empty, .int .i64 0]) 2 24 Tryz.underlying30 hj hy0 hy1 hy2 rfl (by decide) _ _ _ rfl (HOWN.out.alloc _) _ 1 1 [.string y, .int .i64 0] rfl rfl (cell_pair _ _ _ _) (one_ent _ _) (by unfold maxLen; omega) (by omega) (by have := hS.out.size; simp; omega) ?_; intro ev4 w4 own4 g4 _; have PR : Pre3 w ts w.heap.size (.slice (some ⟨g, 0, none⟩) us.length cU) us.length w4 ev4 es y 0 0 := hS.out.pushed HY.out (fun i z e => by omega) (Nat.zero_le _) own4 g4; obtain ⟨g5, c5, hev, hcl, hfl⟩ := PR.form; subst hev; have HPR : Hid (Step3 _ _ _ _ _ _ _ _ _) := PR.step; clear PR own4 g4))
            go_roundw
            case rel => exact ⟨1, es ++ [(y, 1)], by go_num, by omega, HPR⟩
            case measure => simp [intOf]; omega
          | succ i =>
            obtain ⟨z, hz⟩ : ∃ z, ts[i]? = some z := ⟨_, List.getElem?_eq_getElem (by rw [HTS.out]; omega)⟩
            have hcz : wr3.cell? ⟨g, i, none⟩ = some (.string z) := by
              rw [hS.out.row.cellAt (g := g) i (by omega)]
              simp [scells, hz]
            have HZ : Hid (ts[i]? = some z) := hz
            clear hz
            by_cases he : y.data.toList = z.data.toList
            · have hq : (y.toList == z.toList) = true := strs_eq.2 he
              obtain ⟨A, x, n, hes2, PR⟩ := hS.out.same HY.out HZ.out he
              obtain ⟨g5, c5, hev, hcl, hfl⟩ := PR.form
              obtain ⟨rfl, rfl⟩ : aE = some ⟨g5, 0, none⟩ ∧ cE = c5 := by injection hev with e1 e2 e3; exact ⟨e1, e3⟩
              have hn : n ≤ 100000 := Nat.le_trans PR.cnt1 (by omega)
              have hel : es.length = A.length + 1 := by rw [hes2]; simp
              rw [hel] at hev PR
              have HPR : Hid (Step3 _ _ _ _ _ _ _ _ _) := PR.step
              have hal2 : A.length ≤ 100000 := by omega
              rw [hel]
              clear PR HOWN hS hev hes2
              go_wp2
              go_roundw
              case rel => exact ⟨i + 2, A ++ [(x, n + 1)], by go_num, by omega, HPR⟩
              case measure => simp [intOf]; omega
            · have hq : (y.toList == z.toList) = false := by
                cases hb : (y.toList == z.toList)
                · rfl
                · exact absurd (strs_eq.1 hb) he
              have HNE : Hid (∀ i' z', i + 1 = i' + 1 → ts[i']? = some z' → ¬ y.data.toList = z'.data.toList) := fun i' z' e1 e2 => by
                have e3 : i = i' := by omega
                subst e3
                have e4 := HZ.out
                rw [e4] at e2
                cases e2
                exact he
              clear he
              go_wp2_with (at_builtin; go_must (refine wpList_append_own _ rfl (.tmp 63) (.tmp 66) 30 rfl w.heap.size 58 j0 (.agg #[.string ByteArray.empty, .int .i64 0]) 2 24 Tryz.underlying30 hj hy0 hy1 hy2 rfl (by decide) _ _ _ rfl (HOWN.out.alloc _) _ 1 1 [.string y, .int .i64 0] rfl rfl (cell_pair _ _ _ _) (one_ent _ _) (by unfold maxLen; omega) (by omega) (by have := hS.out.size; simp; omega) ?_; intro ev4 w4 own4 g4 _; have PR : Pre3 w ts w.heap.size (.slice (some ⟨g, 0, none⟩) us.length cU) us.length w4 ev4 es y 0 (i + 1) := hS.out.pushed HY.out HNE.out (by rw [HTS.out]; omega) own4 g4; obtain ⟨g5, c5, hev, hcl, hfl⟩ := PR.form; subst hev; have HPR : Hid (Step3 _ _ _ _ _ _ _ _ _) := PR.step; clear PR own4 g4))
              go_roundw
              case rel => exact ⟨i + 2, es ++ [(y, 1)], by go_num, by omega, HPR⟩
              case measure => simp [intOf]; omega
        · have hje : j = us.length := by omega
          subst hje
          have hg := hS.out.grp
          rw [← HDL.out, List.take_length] at hg
          have HG : Hid (TallyOf (allW k ps) (es.map cv)) := by show TallyOf _ _; rw [hg]; exact HFIN.out
          clear hg
          go_wp2
          go_ret
          exact ⟨_, es, rfl, hS.out.own, HG.out, hS.out.below⟩
end Go.Proofs.YtbjgpfhbdmcbbabGreatDoor.words

/-
  CONTRACTS of package quern: headOf; linesOf.
-/
namespace Go.Proofs.YtbjgpfhbdmcbbabGreatDoor.kinds
open Go.RowKit dnamath dna diskm disk keep hex pieces files parse
set_option linter.unusedVariables false

def spB : ByteArray := ⟨#[32]⟩
def nlB : ByteArray := ⟨#[10]⟩
def itoaB (n : Nat) : ByteArray := ⟨(Lib.itoa (n : Int)).toArray⟩
def headB (kind run : ByteArray) (n : Nat) : ByteArray := kind ++ spB ++ run ++ spB ++ itoaB n ++ nlB

set_option maxHeartbeats 2000000 in
set_option maxRecDepth 100000 in
theorem headOf_any (kind run : ByteArray) (n : Nat) (a bb : Addr) (w : World) (hg : Gs w a bb) (h1 : kind.size ≤ 1000) (h2 : run.size ≤ 1000) (hn : n ≤ 1000000) (hi : (itoaB n).size ≤ 100) :
    Calls Tryz.prog 85 #[.string kind, .string run, .int .i64 (n : Int)] w fun e w' => e = .returned (.string (headB kind run n)) ∧ Below w.heap.size w w' := by
  obtain ⟨I, hI⟩ : ∃ I, I = itoaB n := ⟨_, rfl⟩
  have ci : ∀ W', Gs W' a bb → Calls Tryz.prog 21 #[.int .i64 (n : Int)] W' fun e w' => e = .returned (.string I) ∧ Below W'.heap.size W' w' := fun W' hg' => by
    refine (Tryz.strconv_Itoa (n : Int) (by omega) (by omega) W' hg'.powC).mono ?_
    rintro e w' ⟨rfl, k', os, rfl⟩
    exact ⟨by rw [hI]; rfl, grow_below _ _ _⟩
  have hil : I.size ≤ 100 := by rw [hI]; exact hi
  have z1 : spB.size = 1 := rfl
  have z2 : nlB.size = 1 := rfl
  have a1 : ∀ W' : World, (Op.stringOp .add kind spB).run Tryz.prog W' = .ok (.string (kind ++ spB)) W' := fun W' => run_string_add_sum W' _ _ (by omega)
  have a2 : ∀ W' : World, (Op.stringOp .add (kind ++ spB) run).run Tryz.prog W' = .ok (.string (kind ++ spB ++ run)) W' := fun W' => run_string_add_sum W' _ _ (by simp only [ByteArray.size_append]; omega)
  have a3 : ∀ W' : World, (Op.stringOp .add (kind ++ spB ++ run) spB).run Tryz.prog W' = .ok (.string (kind ++ spB ++ run ++ spB)) W' := fun W' => run_string_add_sum W' _ _ (by simp only [ByteArray.size_append]; omega)
  have a4 : ∀ W' : World, (Op.stringOp .add (kind ++ spB ++ run ++ spB) I).run Tryz.prog W' = .ok (.string (kind ++ spB ++ run ++ spB ++ I)) W' := fun W' => run_string_add_sum W' _ _ (by simp only [ByteArray.size_append]; omega)
  have a5 : ∀ W' : World, (Op.stringOp .add (kind ++ spB ++ run ++ spB ++ I) nlB).run Tryz.prog W' = .ok (.string (kind ++ spB ++ run ++ spB ++ I ++ nlB)) W' := fun W' => run_string_add_sum W' _ _ (by simp only [ByteArray.size_append]; omega)
  have HE : Hid (headB kind run n = kind ++ spB ++ run ++ spB ++ I ++ nlB) := by show _ = _; rw [hI]; rfl
  clear hi hI
  have es : (⟨#[32]⟩ : ByteArray) = spB := rfl
  have en : (⟨#[10]⟩ : ByteArray) = nlB := rfl
  go_enter Tryz.func85, Tryz.ntmps85
  go_wp2_with (go_at_call 21; go_must (refine (ci _ hg).mono ?_; rintro e w6 ⟨rfl, b6⟩))
  go_ret
  exact ⟨congrArg (fun x => Ending.returned (Value.string x)) HE.out.symm, b6⟩
end Go.Proofs.YtbjgpfhbdmcbbabGreatDoor.kinds

/-
  PLAIN MATHEMATICS of the files' texts: lines and entries read back.
-/
namespace Go.Proofs.YtbjgpfhbdmcbbabGreatDoor.kinds
open dnamath dna hex parse files pieces words
set_option linter.unusedVariables false

theorem decFrom_snoc : ∀ (l : List UInt8) (acc m d : Nat) (b : UInt8), Lib.decFrom acc l = some m → Lib.digitVal b = some d → Lib.decFrom acc (l ++ [b]) = some (m * 10 + d)
  | [], acc, m, d, b, h, hd => by
    simp only [Lib.decFrom, Option.some.injEq] at h
    subst h
    simp [Lib.decFrom, hd]
  | a :: l, acc, m, d, b, h, hd => by
    simp only [List.cons_append, Lib.decFrom] at h ⊢
    cases ha : Lib.digitVal a with
    | none => rw [ha] at h; cases h
    | some e =>
      rw [ha] at h
      exact decFrom_snoc l _ m d b h hd
theorem digit_of (d : Nat) (h : d < 10) : Lib.digitVal (UInt8.ofNat (48 + d)) = some d := by
  have e : (UInt8.ofNat (48 + d)).toNat = 48 + d := by rw [UInt8.toNat_ofNat']; omega
  unfold Lib.digitVal
  rw [e, if_pos (by omega)]
  congr 1
  omega
theorem decFrom_digits : ∀ (u : Nat), Lib.decFrom 0 (Lib.decDigits u) = some u := by
  intro u
  induction u using Nat.strongRecOn with
  | ind u ih =>
    rw [Lib.decDigits]
    split
    · rename_i h
      unfold Lib.decFrom
      rw [digit_of u h]
      simp [Lib.decFrom]
    · rename_i h
      rw [decFrom_snoc _ 0 (u / 10) (u % 10) _ (ih (u / 10) (by omega)) (digit_of _ (by omega))]
      congr 1
      omega
theorem dec_ne (u : Nat) : Lib.decDigits u ≠ [] := by
  rw [Lib.decDigits]
  split <;> simp
theorem atoi_itoa (u : Nat) : Lib.atoi (Lib.itoa (u : Int)) = some (u : Int) := by
  rw [itoa_nat]
  cases hd : Lib.decDigits u with
  | nil => exact absurd hd (dec_ne u)
  | cons b r =>
    have hb := dec_digit u b (by rw [hd]; exact List.mem_cons_self ..)
    have h45 : (b == 45) = false := by
      simp only [beq_eq_false_iff_ne, ne_eq]
      rintro rfl
      have : (45 : UInt8).toNat = 45 := rfl
      omega
    have h43 : (b == 43) = false := by
      simp only [beq_eq_false_iff_ne, ne_eq]
      rintro rfl
      have : (43 : UInt8).toNat = 43 := rfl
      omega
    show (if b == 45 then _ else if b == 43 then _ else _) = _
    rw [h45, h43]
    have hn : Lib.decNat (b :: r) = some u := by
      unfold Lib.decNat
      rw [if_neg (by simp), ← hd]
      exact decFrom_digits u
    rw [hn]
    rfl
theorem itoa_short (u : Nat) (h : u ≤ 1000000) : (Lib.itoa (u : Int)).length ≤ 8 := by
  rw [itoa_nat]
  exact Nat.le_trans (dec_len 7 u (by omega)) (by omega)
theorem itoa_size (u : Nat) (h : u ≤ 1000000) : (itoaB u).size ≤ 8 := by
  rw [Lib.size_eq]
  exact itoa_short u h

/-- a line of an entry -/
def line0 (x : Ent) : List UInt8 := x.1.data.toList ++ 32 :: Lib.itoa (x.2 : Int)
theorem textE_lines (es : List Ent) : textE es = unlines (es.map line0) := by
  unfold textE unlines
  rw [List.map_map]
  congr 1
  apply List.map_congr_left
  intro x _
  simp [lineE, line0]
theorem no_of_B {c d : UInt8} (h : isB c = true) (hd : isB d = false) : c ≠ d := by
  rintro rfl
  rw [h] at hd; cases hd
theorem line0_clean {x : Ent} (h : x.1.data.toList.all isB = true) : clean (line0 x) := by
  intro c hc
  unfold line0 at hc
  rw [List.mem_append, List.mem_cons] at hc
  rcases hc with hc | rfl | hc
  · exact no_of_B (List.all_eq_true.1 h c hc) (by decide)
  · decide
  · rw [itoa_nat] at hc
    have := dec_digit _ c hc
    rintro rfl
    have h10 : (10 : UInt8).toNat = 10 := rfl
    omega
theorem linesQ_unlines {L : List (List UInt8)} (hc : ∀ x ∈ L, clean x) : linesQ (unlines L) = L := by
  unfold linesQ
  cases L with
  | nil => rfl
  | cons a L =>
    rw [if_neg (by simp [unlines])]
    exact lines_unlines (by simp) hc
theorem linesQ_textE {es : List Ent} (h : ∀ x ∈ es, x.1.data.toList.all isB = true) : linesQ (textE es) = es.map line0 := by
  rw [textE_lines]
  refine linesQ_unlines (fun y hy => ?_)
  rw [List.mem_map] at hy
  obtain ⟨x, hx, rfl⟩ := hy
  exact line0_clean (h x hx)
theorem idx_at (c : UInt8) : ∀ (x r : List UInt8), (∀ d ∈ x, d ≠ c) → Lib.indexByte (x ++ c :: r) c = x.length
  | [], r, _ => by simp [Lib.indexByte]
  | d :: x, r, h => by
    have hb : (d == c) = false := by rw [beq_eq_false_iff_ne]; exact h d (by simp)
    have ih := idx_at c x r (fun e he => h e (by simp [he]))
    rw [List.cons_append, Lib.indexByte, hb, ih]
    have hn : (((x.length : Nat) : Int) == -1) = false := by rw [beq_eq_false_iff_ne]; omega
    rw [hn]
    simp
end Go.Proofs.YtbjgpfhbdmcbbabGreatDoor.kinds

/-
  CONTRACTS: strings.Cut at one byte that is there.
-/
namespace Go.Proofs.YtbjgpfhbdmcbbabGreatDoor.kinds
open Go.RowKit dnamath dna diskm disk keep hex pieces files parse
set_option linter.unusedVariables false

set_option maxHeartbeats 1000000 in
set_option maxRecDepth 100000 in
theorem Cut_lite (s : ByteArray) (c : UInt8) (A B : List UInt8) (w : World) (hs : s.data.toList = A ++ c :: B) (hA : ∀ d ∈ A, d ≠ c) (hz : s.size ≤ 2000000) :
    Calls Tryz.prog 97 #[.string s, .string ⟨#[c]⟩] w fun e w' => ∃ a b : ByteArray, e = .returned (.tuple #[.string a, .string b, .bool true]) ∧ a.data.toList = A ∧ b.data.toList = B ∧ Still w w' := by
  have ci := fun W => Tryz.stringslite_Index_one s c W
  have hix : Lib.indexByte s.data.toList c = (A.length : Int) := by rw [hs]; exact idx_at c A B hA
  simp only [hix] at ci
  obtain ⟨k, hk⟩ : ∃ k, k = A.length := ⟨_, rfl⟩
  rw [← hk] at ci
  have hsz : s.size = k + 1 + B.length := by rw [Lib.size_eq, hs, hk]; simp; omega
  obtain ⟨X1, hX1⟩ : ∃ X1 : ByteArray, X1 = s.extract 0 k := ⟨_, rfl⟩
  obtain ⟨X2, hX2⟩ : ∃ X2 : ByteArray, X2 = s.extract (k + 1) s.size := ⟨_, rfl⟩
  have d1 : X1.data.toList = A := by rw [hX1, Lib.extract_data, hs, List.drop_zero, Nat.sub_zero, hk, List.take_left' rfl]
  have d2 : X2.data.toList = B := by
    rw [hX2, Lib.extract_to_end, hs, show A ++ c :: B = (A ++ [c]) ++ B by simp, List.drop_left' (by simp; omega)]
  have sl1 : ∀ W : World, (Instr.slice 9 (.string s) none (some (.int .i64 (k : Int))) none).run Tryz.prog W = .ok (.string X1) W := fun W => by
    have := run_slice_string_h (P := Tryz.prog) W 9 s Tryz.underlying9 .i64 (k : Int) (by omega) (by omega)
    rw [this, hX1, Int.toNat_natCast]
  have sl2 : ∀ W : World, (Instr.slice 9 (.string s) (some (.int .i64 ((k : Int) + 1))) none none).run Tryz.prog W = .ok (.string X2) W := fun W => by
    have := run_slice_string_l (P := Tryz.prog) W 9 s Tryz.underlying9 .i64 ((k : Int) + 1) (by omega) (by omega)
    rw [this, hX2, show ((k : Int) + 1).toNat = k + 1 by omega]
  have HD : Hid (X1.data.toList = A ∧ X2.data.toList = B) := ⟨d1, d2⟩
  have hz1 : (⟨#[c]⟩ : ByteArray).size = 1 := rfl
  have hk2 : k ≤ 2000000 := by omega
  clear hX1 hX2 d1 d2 hk hs hA hix hsz
  go_enter Tryz.func97, Tryz.ntmps97
  go_upto_region 3 with (go_at_call 126; go_must (refine (ci _).mono ?_; rintro e w' ⟨rfl, hw'⟩; have hw2 := hw'.symm; subst hw2))
  go_quiet (fail)
  obtain ⟨W1, hW1⟩ : ∃ W, W = w.drewN nq := ⟨_, rfl⟩
  have S1 : Still w W1 := by rw [hW1]; exact Still.drewN _ _
  rw [← hW1]
  clear hW1
  go_wp2
  exact bodyPost_ret (v := .tuple #[.string X1, .string X2, .bool true]) (by simp [results, Tryz.results97, go_sem]) rfl ⟨X1, X2, rfl, HD.out.1, HD.out.2, S1⟩

set_option maxHeartbeats 1000000 in
set_option maxRecDepth 100000 in
theorem Cut_one (s : ByteArray) (c : UInt8) (A B : List UInt8) (w : World) (hs : s.data.toList = A ++ c :: B) (hA : ∀ d ∈ A, d ≠ c) (hz : s.size ≤ 2000000) :
    Calls Tryz.prog 64 #[.string s, .string ⟨#[c]⟩] w fun e w' => ∃ a b : ByteArray, e = .returned (.tuple #[.string a, .string b, .bool true]) ∧ a.data.toList = A ∧ b.data.toList = B ∧ Still w w' := by
  have cl := Cut_lite s c A B w hs hA hz
  clear hs hA hz
  go_enter Tryz.func64, Tryz.ntmps64
  go_wp2_with (go_at_call 97; go_must (refine cl.mono ?_; rintro e w1 ⟨a, b, rfl, h1, h2, s1⟩))
  exact bodyPost_ret (v := .tuple #[.string a, .string b, .bool true]) (by simp [results, Tryz.results64, go_sem]) rfl ⟨a, b, rfl, h1, h2, s1⟩
end Go.Proofs.YtbjgpfhbdmcbbabGreatDoor.kinds
