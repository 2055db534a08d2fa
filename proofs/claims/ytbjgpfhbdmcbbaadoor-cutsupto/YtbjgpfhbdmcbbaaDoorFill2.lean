/-
  CONTRACTS of quernlaw: fill, filled.
-/
import Derived.Test.YtbjgpfhbdmcbbaaDoorFill1
namespace Go.Proofs.YtbjgpfhbdmcbbaaDoor.fill
open Go.RowKit Go.Proofs.YtbjgpfhbdmcbbaaDoor.dnamath Go.Proofs.YtbjgpfhbdmcbbaaDoor.dna Go.Proofs.YtbjgpfhbdmcbbaaDoor.pieces
set_option linter.unusedVariables false

theorem infoL : (Tryd.prog.info? 22).map (fun i => (i.zero, i.size, i.bytes)) = some (some (.slice none 0 0), 1, 24) := by kernel_rfl

/-- a list whose texts are all M, at most N of them -/
def MarkRow (w : World) (u : Value) (M : ByteArray) (N : Nat) : Prop :=
  u = .slice none 0 0 ∨ ∃ (g n cap : Nat) (cur : Array Value), u = .slice (some ⟨g, 0, none⟩) n cap ∧ w.heap[g]? = some (.cells cur 9 (0, 0)) ∧ n ≤ N ∧ ∀ j, j < n → cur[j]? = some (.string M)

def reps (n : Nat) (M : ByteArray) : List Value := List.replicate n (.string M)

theorem mark_of_own {w : World} {base : Nat} {v : Value} {n : Nat} {M : ByteArray} (h : w.ownsRow base 9 1 v n (reps n M)) : MarkRow w v M n := by
  rcases h.2 with ⟨rfl, h0⟩ | ⟨g, cap, cur, rfl, hg, hh, hle, hm, hs, ht⟩
  · exact .inl rfl
  · refine .inr ⟨g, n, cap, cur, rfl, hh, Nat.le_refl _, fun j hj => ?_⟩
    have e : cur.toList[j]? = (reps n M)[j]? := by rw [← ht, List.getElem?_take, if_pos (by omega)]
    rw [← Array.getElem?_toList, e]
    simp [reps, hj]

theorem mark_kept {w w' : World} {u : Value} {M : ByteArray} {N N' : Nat} (h : MarkRow w u M N) (hN : N ≤ N') (hk : ∀ (g : Nat) (cur : Array Value), w.heap[g]? = some (Obj.cells cur 9 (0, 0)) → w'.heap[g]? = w.heap[g]?) : MarkRow w' u M N' := by
  rcases h with h | ⟨g, n, cap, cur, h1, h2, h3, h4⟩
  · exact .inl h
  · exact .inr ⟨g, n, cap, cur, h1, (hk g cur h2).trans h2, by omega, h4⟩

/-- an append in place: the row's head is as it was -/
theorem mark_fits {w w' : World} {u : Value} {M : ByteArray} {N g0 cap0 base : Nat} (h : MarkRow w u M N) (hown : w'.ownsRow base 9 1 (.slice (some ⟨g0, 0, none⟩) (N + 1) cap0) (N + 1) (reps (N + 1) M)) (hg : w.grownBy w' (some g0)) : MarkRow w' u M (N + 1) := by
  rcases h with h | ⟨g, n, cap, cur, h1, h2, h3, h4⟩
  · exact .inl h
  · by_cases e : g = g0
    · subst e
      rcases mark_of_own hown with h | ⟨g', n', cap', cur', e1, e2, e3, e4⟩
      · simp at h
      · simp only [Value.slice.injEq, Option.some.injEq, Addr.mk.injEq, and_true] at e1
        obtain ⟨rfl, rfl, rfl⟩ := e1
        exact .inr ⟨g, n, cap, cur', h1, e2, by omega, fun j hj => e4 j (by omega)⟩
    · exact .inr ⟨g, n, cap, cur, h1, (hg.block g (lt_of_block h2) (by simpa using e)).trans h2, by omega, h4⟩

theorem own_base {w : World} {base base' : Nat} {e : TypeId} {v : Value} {n : Nat} {xs : List Value} (h : w.ownsRow base e 1 v n xs) (hb : base' ≤ base) : w.ownsRow base' e 1 v n xs := by
  refine ⟨h.1, ?_⟩
  rcases h.2 with h | ⟨g, cap, cur, h1, h2, h3⟩
  · exact .inl h
  · exact .inr ⟨g, cap, cur, h1, by omega, h3⟩

/-- a row of another kind stays through writes to a row -/
theorem own_other {w w' : World} {base base' : Nat} {e : TypeId} {v u : Value} {n n' : Nat} {xs xs' : List Value} {row : Option Nat} (h : w.ownsRow base 22 1 v n xs) (hg : w.grownBy w' row)
    (hr : ∀ k, row = some k → ∃ cur, w.heap[k]? = some (.cells cur 9 (0, 0))) : w'.ownsRow base 22 1 v n xs := by
  refine ⟨h.1, ?_⟩
  rcases h.2 with h | ⟨g, cap, cur, h1, h2, h3, h4⟩
  · exact .inl h
  · refine .inr ⟨g, cap, cur, h1, h2, (hg.block g (lt_of_block h3) ?_).trans h3, h4⟩
    intro e
    obtain ⟨cur', hc⟩ := hr g e.symm
    rw [h3] at hc
    simp at hc

theorem own_block {w : World} {base : Nat} {e : TypeId} {v : Value} {n : Nat} {xs : List Value} (h : w.ownsRow base e 1 v n xs) (k : Nat) (hk : v.ownBlock = some k) : ∃ cur, w.heap[k]? = some (.cells cur e (0, 0)) := by
  rcases h.2 with ⟨rfl, _⟩ | ⟨g, cap, cur, rfl, h2, h3, h4⟩
  · simp [Value.ownBlock] at hk
  · simp [Value.ownBlock] at hk
    subst hk
    exact ⟨cur, h3⟩

/-- lists of lists, as they read: every text is M -/
def Filled (w : World) (v : Value) (M : ByteArray) : Prop :=
  ∃ (g cap N : Nat) (vs : List Value), v = .slice (some ⟨g, 0, none⟩) vs.length cap ∧ g < w.heap.size ∧ vs.length ≤ 10 ∧ N ≤ 140737488351232 ∧ (∀ j u, vs[j]? = some u → w.cell? ⟨g, j, none⟩ = some u) ∧ ∀ u ∈ vs, MarkRow w u M N
theorem Filled.later {w w' : World} {v : Value} {M : ByteArray} (h : Filled w v M) (hb : Below w.heap.size w w') : Filled w' v M := by
  obtain ⟨g, cap, N, vs, h1, h2, h3, h4, h5, h6⟩ := h
  exact ⟨g, cap, N, vs, h1, Nat.lt_of_lt_of_le h2 hb.size, h3, h4, fun j u hu => (hb.cell (by exact h2)).trans (h5 j u hu), fun u hu => mark_kept (h6 u hu) (Nat.le_refl _) (fun g cur hg => hb.block g (lt_of_block hg))⟩

set_option maxHeartbeats 1000000 in
set_option maxRecDepth 100000 in
theorem filled_any (v : Value) (M : ByteArray) (w : World) (h : Filled w v M) :
    Calls Tryd.prog 11 #[v, .string M] w fun e w' => e = .returned (.bool true) ∧ w' = w := by
  obtain ⟨g, cap, N, vs, rfl, h2, h3, h4, h5, h6⟩ := h
  have H5 : Hid (∀ j u, vs[j]? = some u → w.cell? ⟨g, j, none⟩ = some u) := h5
  have H6 : Hid (∀ u ∈ vs, MarkRow w u M N) := h6
  clear h5 h6
  go_enter Tryd.func11, Tryd.ntmps11
  go_wp2
  go_loop [5, 6] (fun i _ => ∃ k : Nat, k ≤ vs.length ∧ i = .int .i64 k) (fun i _ => vs.length - (intOf i).toNat)
  case atStart => exact ⟨0, Nat.zero_le _, rfl⟩
  case round =>
    obtain ⟨i, hi, rfl⟩ := hrel
    by_cases hlt : i < vs.length
    · have hc := H5.out i vs[i] (List.getElem?_eq_getElem hlt)
      have hm := H6.out vs[i] (List.getElem_mem hlt)
      obtain ⟨u, hu⟩ : ∃ u, u = vs[i] := ⟨_, rfl⟩
      rw [← hu] at hc hm
      clear hu
      rcases hm with rfl | ⟨g', n, cap', cur, rfl, hh, hn, hcur⟩
      · go_wp2
        refine wp_loop_rounds 1 ?_
        rw [rounds_succ]
        go_wp2
        go_round
        case rel => exact ⟨i + 1, by omega, by go_num⟩
        case measure => simp [intOf]; omega
      · have HC : Hid (∀ j, j < n → w.cell? ⟨g', j, none⟩ = some (.string M)) := by
          intro j hj
          rw [cell_of_row w g' j cur _ (0, 0) hh]
          exact hcur j hj
        have hn2 : n ≤ 140737488351232 := by omega
        clear hcur hh hn
        go_wp2
        go_loop [6] (fun k => ∃ k' : Nat, k' ≤ n ∧ k = .int .i64 k') (fun k => n - (intOf k).toNat)
        case atStart => exact ⟨0, Nat.zero_le _, rfl⟩
        case round =>
          obtain ⟨k, hk, rfl⟩ := hrel
          by_cases hkl : k < n
          · have hck := HC.out k hkl
            go_wp2
            go_round
            case rel => exact ⟨k + 1, by omega, by go_num⟩
            case measure => simp [intOf]; omega
          · go_wp2
            go_round
            case rel => exact ⟨i + 1, by omega, by go_num⟩
            case measure => simp [intOf]; omega
    · go_wp2
      go_ret
      exact ⟨rfl, rfl⟩

theorem reps_snoc (n : Nat) (M : ByteArray) : reps n M ++ [.string M] = reps (n + 1) M := by
  simp [reps, List.replicate_succ']
theorem reps_length (n : Nat) (M : ByteArray) : (reps n M).length = n := by simp [reps]

theorem one_list (v : Value) (h : v = .slice none 0 0 ∨ ∃ a n c, v = .slice (some a) n c) : ∀ u ∈ [v], u.oneCell' = true := by
  intro u hu
  simp at hu; subst hu
  rcases h with rfl | ⟨a, n, c, rfl⟩ <;> rfl
theorem own_list {w : World} {base : Nat} {e : TypeId} {v : Value} {n : Nat} {xs : List Value} (h : w.ownsRow base e 1 v n xs) : v = .slice none 0 0 ∨ ∃ a n c, v = .slice (some a) n c := by
  rcases h.2 with ⟨rfl, _⟩ | ⟨g, cap, cur, rfl, _⟩
  · exact .inl rfl
  · exact .inr ⟨_, _, _, rfl⟩

/-- the state in the second loop -/
structure Mid2 (w wr : World) (base n0 : Nat) (M : ByteArray) (i N : Nat) (gv ov : Value) (vs : List Value) : Prop where
  own : wr.ownsRow base 9 1 gv N (reps N M)
  out : wr.ownsRow base 22 1 ov vs.length vs
  marks : ∀ u ∈ vs, MarkRow wr u M N
  below : Below base w wr
  size : base ≤ wr.heap.size
  len : vs.length = i + 1
  num : N = n0 + i

theorem mid_alloc {w wr : World} {base n0 : Nat} {M : ByteArray} {i N : Nat} {gv ov : Value} {vs : List Value} (h : Mid2 w wr base n0 M i N gv ov vs) (o : Obj) : Mid2 w (wr.alloc o) base n0 M i N gv ov vs where
  own := h.own.alloc _
  out := h.out.alloc _
  marks := fun u hu => mark_kept (h.marks u hu) (Nat.le_refl _) (fun g cur hg => Below.heap_alloc _ _ _ (lt_of_block hg))
  below := h.below.alloc h.size _
  size := by have := h.size; simp; omega
  len := h.len
  num := h.num

/-- between the two appends of a round -/
structure Mid3 (w wr : World) (base : Nat) (M : ByteArray) (N : Nat) (gv ov : Value) (vs : List Value) : Prop where
  own : wr.ownsRow base 9 1 gv (N + 1) (reps (N + 1) M)
  out : wr.ownsRow base 22 1 ov vs.length vs
  marks : ∀ u ∈ vs, MarkRow wr u M (N + 1)
  below : Below base w wr
  size : base ≤ wr.heap.size

theorem mid_grows {w wr w1 : World} {base n0 : Nat} {M : ByteArray} {i N : Nat} {gv ov v' : Value} {vs : List Value} (h : Mid2 w wr base n0 M i N gv ov vs)
    (hown : w1.ownsRow wr.heap.size 9 1 v' (N + 1) (reps N M ++ [.string M])) (hg : wr.grownBy w1 none) : Mid3 w w1 base M N v' ov vs where
  own := by rw [← reps_snoc]; exact own_base hown h.size
  out := own_other (u := v') (e := 0) (base' := 0) (n' := 0) (xs' := []) h.out hg (fun k hk => by cases hk)
  marks := fun u hu => mark_kept (h.marks u hu) (by omega) (fun g cur hh => hg.block g (lt_of_block hh) (by simp))
  below := h.below.grown hg h.size (fun k hk => by cases hk)
  size := Nat.le_trans h.size hg.size

theorem mid_fits {w wr w1 : World} {base n0 : Nat} {M : ByteArray} {i N g cap : Nat} {ov : Value} {vs : List Value} (h : Mid2 w wr base n0 M i N (.slice (some ⟨g, 0, none⟩) N cap) ov vs)
    (hown : w1.ownsRow base 9 1 (.slice (some ⟨g, 0, none⟩) (N + 1) cap) (N + 1) (reps N M ++ [.string M])) (hg : wr.grownBy w1 (some g)) : Mid3 w w1 base M N (.slice (some ⟨g, 0, none⟩) (N + 1) cap) ov vs where
  own := by rw [← reps_snoc]; exact hown
  out := own_other (u := ov) (e := 0) (base' := 0) (n' := 0) (xs' := []) h.out hg (fun k hk => own_block h.own k (by rw [← hk]; rfl))
  marks := fun u hu => mark_fits (h.marks u hu) (by rw [← reps_snoc]; exact hown) hg
  below := h.below.grown hg h.size (fun k hk => (h.own.lt k (by rw [← hk]; rfl)).1)
  size := Nat.le_trans h.size hg.size

theorem mid3_alloc {w wr : World} {base : Nat} {M : ByteArray} {N : Nat} {gv ov : Value} {vs : List Value} (h : Mid3 w wr base M N gv ov vs) (o : Obj) : Mid3 w (wr.alloc o) base M N gv ov vs where
  own := h.own.alloc _
  out := h.out.alloc _
  marks := fun u hu => mark_kept (h.marks u hu) (Nat.le_refl _) (fun g cur hg => Below.heap_alloc _ _ _ (lt_of_block hg))
  below := h.below.alloc h.size _
  size := by have := h.size; simp; omega

theorem own_str_other {w w' : World} {base : Nat} {v : Value} {n : Nat} {xs : List Value} {row : Option Nat} (h : w.ownsRow base 9 1 v n xs) (hg : w.grownBy w' row)
    (hr : ∀ k, row = some k → ∃ cur, w.heap[k]? = some (.cells cur 22 (0, 0))) : w'.ownsRow base 9 1 v n xs := by
  refine ⟨h.1, ?_⟩
  rcases h.2 with h | ⟨g, cap, cur, h1, h2, h3, h4⟩
  · exact .inl h
  · refine .inr ⟨g, cap, cur, h1, h2, (hg.block g (lt_of_block h3) ?_).trans h3, h4⟩
    intro e
    obtain ⟨cur', hc⟩ := hr g e.symm
    rw [h3] at hc
    simp at hc

theorem mid_round {w wr w1 : World} {base n0 : Nat} {M : ByteArray} {i N : Nat} {gv ov ov' : Value} {vs : List Value} (h : Mid3 w wr base M N gv ov vs) (hN : N = n0 + i) (hl : vs.length = i + 1)
    (hown : w1.ownsRow base 22 1 ov' (vs.length + 1) (vs ++ [gv])) (hg : wr.grownBy w1 ov.ownBlock) : Mid2 w w1 base n0 M (i + 1) (N + 1) gv ov' (vs ++ [gv]) where
  own := own_str_other h.own hg (fun k hk => own_block h.out k hk)
  out := by rw [List.length_append]; exact hown
  marks := by
    have hk : ∀ (g : Nat) (cur : Array Value), wr.heap[g]? = some (Obj.cells cur 9 (0, 0)) → w1.heap[g]? = wr.heap[g]? := fun g cur hh => hg.block g (lt_of_block hh) (by
      intro e
      obtain ⟨cur', hc⟩ := own_block h.out g e.symm
      rw [hh] at hc
      simp at hc)
    intro u hu
    rw [List.mem_append, List.mem_singleton] at hu
    rcases hu with hu | rfl
    · exact mark_kept (h.marks u hu) (Nat.le_refl _) hk
    · exact mark_kept (mark_of_own h.own) (Nat.le_refl _) hk
  below := h.below.grown hg h.size (fun k hk => (h.out.lt k hk).1)
  size := Nat.le_trans h.size hg.size
  len := by rw [List.length_append]; simp; omega
  num := by omega

theorem filled_end {w wr : World} {base n0 : Nat} {M : ByteArray} {N : Nat} {gv ov : Value} {vs : List Value} (h : Mid2 w wr base n0 M 3 N gv ov vs) (hn : n0 ≤ 4000000) : Filled wr ov M := by
  rcases h.out.2 with ⟨_, h0⟩ | ⟨g, cap, cur, rfl, h2, h3, h4⟩
  · have := h.len; omega
  · refine ⟨g, cap, N, vs, rfl, lt_of_block h3, by have := h.len; omega, by have := h.num; omega, fun j u hu => ?_, h.marks⟩
    rw [h.out.cellAt j (by have := (List.getElem?_eq_some_iff.1 hu).1; omega)]; exact hu
end Go.Proofs.YtbjgpfhbdmcbbaaDoor.fill
