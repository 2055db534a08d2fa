import Derived.Test.YtbjgpfhbdmcbbabGreatDoorP01

/-
  CONTRACTS of package disk: do.
-/
namespace Go.Proofs.YtbjgpfhbdmcbbabGreatDoor.disk
open Go.RowKit dnamath dna diskm
set_option linter.unusedVariables false

theorem infoN : (Tryz.prog.info? 84).map (fun i => (i.zero, i.size, i.bytes)) = some (some (.agg #[.string ByteArray.empty, .int .i64 0]), 2, 24) := by kernel_rfl
theorem ncells_append (a b : List DName) : ncells (a ++ b) = ncells a ++ ncells b := by simp [ncells]

theorem cell_pair (w : World) (x y : Value) (t : TypeId) : ∀ j u, [x, y][j]? = some u → (w.alloc (.cells #[x, y] t)).cell? ((⟨w.heap.size, 0, none⟩ : Addr).add j) = some u := by
  intro j u hj
  match j, hj with
  | 0, hj => simp at hj; subst hj; rw [show (⟨w.heap.size, 0, none⟩ : Addr).add 0 = ⟨w.heap.size, 0, none⟩ from rfl]; unfold World.cell?; rw [heap_alloc_new]; rfl
  | 1, hj => simp at hj; subst hj; rw [show (⟨w.heap.size, 0, none⟩ : Addr).add 1 = ⟨w.heap.size, 1, none⟩ from rfl]; unfold World.cell?; rw [heap_alloc_new]; rfl
theorem one_name (x : ByteArray) (n : Int) : ∀ u ∈ [Value.string x, Value.int .i64 n], u.oneCell' = true := by
  intro u hu; simp at hu; rcases hu with rfl | rfl <;> rfl

/-- names that are being put behind one another -/
structure Outs (base : Nat) (w wr : World) (v : Value) (L : List DName) : Prop where
  own : wr.ownsRow base 84 2 v L.length (ncells L)
  below : Below base w wr
  size : base ≤ wr.heap.size

theorem Outs.push {base : Nat} {w wr w1 : World} {v v' : Value} {L : List DName} {x : DName} {o : Obj} (h : Outs base w wr v L)
    (hown' : w1.ownsRow base 84 2 v' (L.length + 1) (ncells L ++ [.string x.name, .int .i64 (x.file : Int)])) (hgrow : (wr.alloc o).grownBy w1 v.ownBlock) : Outs base w w1 v' (L ++ [x]) := by
  have hb := (h.below.alloc h.size o).grown hgrow (by simp; have := h.size; omega) (fun j hj => (h.own.lt j hj).1)
  refine ⟨?_, hb, ?_⟩
  · rw [ncells_append, List.length_append]; exact hown'
  · have := hgrow.size; simp at this; have := h.size; omega

theorem Outs.drew {base : Nat} {w wr : World} {v : Value} {L : List DName} (h : Outs base w wr v L) (n : Nat) : Outs base w (wr.drewN n) v L :=
  ⟨h.own, ⟨h.below.os, h.below.tape, h.below.output, h.below.size, h.below.block⟩, h.size⟩

theorem own_zero {w : World} {base : Nat} {e : TypeId} {s : Nat} {v : Value} {n : Nat} {xs : List Value} (h : w.ownsRow base e s v n xs) : w.ownsRow 0 e s v n xs := by
  refine ⟨h.1, ?_⟩
  rcases h.2 with h2 | ⟨g, cap, cur, h1, _, h3⟩
  · exact .inl h2
  · exact .inr ⟨g, cap, cur, h1, Nat.zero_le _, h3⟩

def stepV (s : DStep) : Value := .agg #[.int .i64 (s.kind : Int), .string s.src, .string s.dst, .int .i64 (s.file : Int)]

theorem box_cell {w wr : World} {base q : Nat} {cs : Array Value} {T : TypeId} (hq : w.heap[q]? = some (.cells cs T (0, 0))) (hb : Below base w wr) (hlt : q < base) (j : Nat) : wr.cell? ⟨q, j, none⟩ = cs[j]? := by
  unfold World.cell?
  rw [hb.block q hlt, hq]
  rfl

/-- what the walk wants to know of the step's box -/
structure Box (wr : World) (q : Nat) (K : Nat) (src dst : ByteArray) (F : Nat) : Prop where
  c0 : wr.cell? ⟨q, 0, none⟩ = some (.int .i64 (K : Int))
  c1 : wr.cell? ⟨q, 1, none⟩ = some (.string src)
  c2 : wr.cell? ⟨q, 2, none⟩ = some (.string dst)
  c3 : wr.cell? ⟨q, 3, none⟩ = some (.int .i64 (F : Int))

theorem box_of {w wr : World} {base q : Nat} {K F : Nat} {src dst : ByteArray} {T : TypeId} (hq : w.heap[q]? = some (.cells #[.int .i64 (K : Int), .string src, .string dst, .int .i64 (F : Int)] T (0, 0))) (hb : Below base w wr) (hlt : q < base) : Box wr q K src dst F :=
  ⟨box_cell hq hb hlt 0, box_cell hq hb hlt 1, box_cell hq hb hlt 2, box_cell hq hb hlt 3⟩

theorem take_snoc_get {l : List DName} {k : Nat} {x : DName} (h : l[k]? = some x) : l.take (k + 1) = l.take k ++ [x] := by
  rw [List.take_add_one, h]; rfl

theorem doFrom_len (at_ : Nat) (s : DStep) : ∀ (l : List DName) (i : Nat), (doFrom at_ s i l).length ≤ 2 * l.length
  | [], _ => by simp [doFrom]
  | x :: l, i => by
    have := doFrom_len at_ s l (i + 1)
    rw [doFrom, List.length_append, List.length_append]
    have h1 : (if i = at_ ∧ s.kind ≠ 3 then [(⟨s.dst, s.file⟩ : DName)] else []).length ≤ 1 := by split <;> simp
    have h2 : (if strEq x.name s.src = false ∧ (s.kind = 3 ∨ strEq x.name s.dst = false) then [x] else []).length ≤ 1 := by split <;> simp
    simp only [List.length_cons]
    omega

set_option maxHeartbeats 4000000 in
set_option maxRecDepth 100000 in
theorem do_put (v : Value) (l : List DName) (s : DStep) (w : World) (h : Names w v l) (hl : l.length ≤ 1000000) (h3 : ¬ s.kind = 3) (hki : s.kind < 10) (hfi : s.file ≤ 1000000000) :
    Calls Tryz.prog 31 #[v, stepV s] w fun e w' => ∃ v', e = .returned v' ∧ Names w' v' (doL l s) ∧ Below w.heap.size w w' := by
  obtain ⟨i0, hi, hz0, hz1, hz2⟩ := info_parts infoN
  obtain ⟨S, hS⟩ : ∃ S, S = s := ⟨s, rfl⟩
  obtain ⟨K, src, dst, F⟩ := s
  have h3 : ¬ K = 3 := h3
  have hki : K < 10 := hki
  have hfi : F ≤ 1000000000 := hfi
  have hK : ((K : Int) == 3) = false := by simp; omega
  have hK2 : ((K : Int) != 3) = true := by simp; omega
  obtain ⟨at_, hat⟩ : ∃ a, a = findIx dst l := ⟨_, rfl⟩
  have HAT : Hid (at_ = findIx dst l) := hat
  have hatl : at_ ≤ l.length := by rw [hat]; exact findIx_le _ _
  have ct := find_any v l dst
  rw [← hat] at ct
  clear hat
  show Calls Tryz.prog 31 #[v, .agg #[.int .i64 (K : Int), .string src, .string dst, .int .i64 (F : Int)]] w fun e w' => ∃ v', e = .returned v' ∧ Names w' v' (doL l ⟨K, src, dst, F⟩) ∧ Below w.heap.size w w'
  rw [← hS]
  have HS : Hid (S = ⟨K, src, dst, F⟩) := hS
  clear hS
  rcases h.2 with ⟨rfl, h0⟩ | ⟨g, cap, cur, rfl, hg, hh, hr⟩
  · have hl0 : l = [] := List.eq_nil_of_length_eq_zero h0
    have ha0 : at_ = 0 := by omega
    subst ha0
    go_enter Tryz.func31, Tryz.ntmps31
    go_wp2_with (go_at_call 46; go_must (refine (ct _ (h.alloc _) hl).mono ?_; rintro e wf ⟨rfl, hst⟩))
    have hq : wf.heap[w.heap.size]? = some (.cells #[.int .i64 (K : Int), .string src, .string dst, .int .i64 (F : Int)] 79 (0, 0)) := by rw [hst.heap]; exact heap_alloc_new _ _
    have hsz : wf.heap.size = w.heap.size + 1 := by rw [hst.heap]; simp
    have HSZ : Hid (wf.heap.size = w.heap.size + 1) := hsz
    have HB : Hid (Below w.heap.size w wf) := by
      refine ⟨hst.os, hst.tape, hst.output, by rw [hsz]; omega, fun i hi => ?_⟩
      rw [hst.heap, Below.heap_alloc _ _ _ hi]
    clear ct hsz
    have O : Hid (Outs (w.heap.size + 1) wf wf (.slice none 0 0) []) := ⟨World.ownsRow_nil _ _ _ _, Below.refl _ _, by rw [HSZ.out]; exact Nat.le_refl _⟩
    obtain ⟨b0, b1, b2, b3⟩ := box_of hq O.out.below (Nat.lt_succ_self _)
    refine wp_loop_rounds 1 ?_
    rw [rounds_succ]
    go_wp2_with (at_builtin; go_must (refine wpList_append_own _ rfl (.tmp 77) (.tmp 83) 60 rfl (w.heap.size + 1) 84 i0 (.agg #[.string ByteArray.empty, .int .i64 0]) 2 24 Tryz.underlying60 hi hz0 hz1 hz2 rfl (by decide) _ _ _ rfl (O.out.own.alloc _) _ 1 1 [.string dst, .int .i64 (F : Int)] rfl rfl (cell_pair _ _ _ _) (one_name _ _) (by first | (unfold maxLen; omega) | (rw [List.length_append, List.length_singleton]; unfold maxLen; omega) | decide) (by first | omega | (rw [List.length_append, List.length_singleton]; omega) | decide) (by have := O.out.size; first | (simp; omega) | (simp at this ⊢; omega)) ?_; intro O1v O1w hown' hgrow _; have O1 : Hid (Outs (w.heap.size + 1) wf O1w O1v _) := O.out.push (x := ⟨dst, F⟩) hown' hgrow; clear hown' hgrow))
    go_ret
    refine ⟨_, rfl, ?_, HB.out.trans (O1.out.below.mono (Nat.le_succ _))⟩
    have hd : doL l S = [] ++ [⟨dst, F⟩] := by unfold doL; rw [HS.out]; simp only; rw [← HAT.out, hl0]; simp [doFrom, h3]
    rw [hd]
    exact own_zero O1.out.own
  · go_enter Tryz.func31, Tryz.ntmps31
    go_wp2_with (go_at_call 46; go_must (refine (ct _ (h.alloc _) hl).mono ?_; rintro e wf ⟨rfl, hst⟩))
    have hq : wf.heap[w.heap.size]? = some (.cells #[.int .i64 (K : Int), .string src, .string dst, .int .i64 (F : Int)] 79 (0, 0)) := by rw [hst.heap]; exact heap_alloc_new _ _
    have hsz : wf.heap.size = w.heap.size + 1 := by rw [hst.heap]; simp
    have hwf : Names wf (.slice (some ⟨g, 0, none⟩) l.length cap) l := hst.owns (h.alloc _)
    have hgl : g < w.heap.size + 1 := by have := lt_of_block hh; omega
    have HB : Hid (Below w.heap.size w wf) := by
      refine ⟨hst.os, hst.tape, hst.output, by rw [hsz]; omega, fun i hi => ?_⟩
      rw [hst.heap, Below.heap_alloc _ _ _ hi]
    clear ct hh hr
    have O0 : Outs (w.heap.size + 1) wf wf (.slice none 0 0) (doFrom at_ S 0 (l.take 0)) := ⟨World.ownsRow_nil _ _ _ _, Below.refl _ _, by rw [hsz]; exact Nat.le_refl _⟩
    go_loopw [5, 8] (fun ov i wr => ∃ k : Nat, i = .int .i64 k ∧ k ≤ l.length ∧ Hid (Outs (w.heap.size + 1) wf wr ov (doFrom at_ S 0 (l.take k)))) (fun _ i _ => l.length - (intOf i).toNat)
    case atStart => exact ⟨0, rfl, Nat.zero_le _, O0⟩
    case round =>
      obtain ⟨k, rfl, hk, O⟩ := hrel
      clear O0
      rename World => wr
      obtain ⟨b0, b1, b2, b3⟩ := box_of hq O.out.below (Nat.lt_succ_self _)
      have HTL : Hid ((l.take k).length = k) := List.length_take_of_le hk
      have hLn : (doFrom at_ S 0 (l.take k)).length ≤ 2000000 := by have := doFrom_len at_ S (l.take k) 0; rw [HTL.out] at this; omega
      by_cases hkl : k < l.length
      · obtain ⟨x, hx⟩ : ∃ x, l[k]? = some x := ⟨_, List.getElem?_eq_getElem hkl⟩
        have HX : Hid (l[k]? = some x) := hx
        have hcell0 : ∀ W : World, Below (w.heap.size + 1) wf W → W.cell? ⟨g, k * 2, none⟩ = some (.string x.name) := fun W hW => by
          have hc := hwf.cellAt (g := g) (k * 2) (by omega)
          rw [ncells_at0 l k x hx] at hc
          exact (hW.cell (p := ⟨g, k * 2, none⟩) hgl).trans hc
        have hcell1 : ∀ W : World, Below (w.heap.size + 1) wf W → W.cell? ⟨g, k * 2 + 1, none⟩ = some (.int .i64 (x.file : Int)) := fun W hW => by
          have hc := hwf.cellAt (g := g) (k * 2 + 1) (by omega)
          rw [ncells_at1 l k x hx] at hc
          exact (hW.cell (p := ⟨g, k * 2 + 1, none⟩) hgl).trans hc
        clear hx
        by_cases hka : k = at_
        · subst hka
          have hka : True := trivial
          have hkk : ((k : Int) == (k : Int)) = true := by simp
          go_wp2_with (at_builtin; go_must (refine wpList_append_own _ rfl (.tmp 30) (.tmp 36) 60 rfl (w.heap.size + 1) 84 i0 (.agg #[.string ByteArray.empty, .int .i64 0]) 2 24 Tryz.underlying60 hi hz0 hz1 hz2 rfl (by decide) _ _ _ rfl (O.out.own.alloc _) _ 1 1 [.string dst, .int .i64 (F : Int)] rfl rfl (cell_pair _ _ _ _) (one_name _ _) (by first | (unfold maxLen; omega) | (rw [List.length_append, List.length_singleton]; unfold maxLen; omega) | decide) (by first | omega | (rw [List.length_append, List.length_singleton]; omega) | decide) (by have := O.out.size; first | (simp; omega) | (simp at this ⊢; omega)) ?_; intro O1v O1w hown' hgrow _; have O1 : Hid (Outs (w.heap.size + 1) wf O1w O1v _) := O.out.push (x := ⟨dst, F⟩) hown' hgrow; clear hown' hgrow))
          have hc0 := hcell0 _ O1.out.below
          have hc1 := hcell1 _ O1.out.below
          have B := box_of hq O1.out.below (Nat.lt_succ_self _)
          obtain ⟨b0, b1, b2, b3⟩ := B
          cases hE1 : (x.name.toList == src.toList) with
          | true =>
            have HE1 : Hid ((x.name.toList == src.toList) = true) := hE1
            have hE1n : (x.name.toList != src.toList) = false := by rw [bne, hE1]; rfl
            have HE2 : Hid (True) := trivial
            go_quiet (fail)
            have OQ : Hid (Outs (w.heap.size + 1) wf _ _ _) := O1.out.drew nq
            go_wp2
            go_roundw
            case rel => exact ⟨k + 1, by go_num, by omega, by show Outs _ _ _ _ _; rw [take_snoc_get HX.out, doFrom_snoc]; have := OQ.out; simpa [HS.out, h3, hka, HE1.out, HE2.out, HTL.out] using this⟩
            case measure => simp [intOf]; omega
          | false =>
            have HE1 : Hid ((x.name.toList == src.toList) = false) := hE1
            have hE1n : (x.name.toList != src.toList) = true := by rw [bne, hE1]; rfl
            cases hE2 : (x.name.toList == dst.toList) with
            | true =>
              have HE2 : Hid ((x.name.toList == dst.toList) = true) := hE2
              have hE2n : (x.name.toList != dst.toList) = false := by rw [bne, hE2]; rfl
              go_quiet (fail)
              have OQ : Hid (Outs (w.heap.size + 1) wf _ _ _) := O1.out.drew nq
              go_wp2
              go_roundw
              case rel => exact ⟨k + 1, by go_num, by omega, by show Outs _ _ _ _ _; rw [take_snoc_get HX.out, doFrom_snoc]; have := OQ.out; simpa [HS.out, h3, hka, HE1.out, HE2.out, HTL.out] using this⟩
              case measure => simp [intOf]; omega
            | false =>
              have HE2 : Hid ((x.name.toList == dst.toList) = false) := hE2
              have hE2n : (x.name.toList != dst.toList) = true := by rw [bne, hE2]; rfl
              go_quiet (fail)
              have OQ : Hid (Outs (w.heap.size + 1) wf _ _ _) := O1.out.drew nq
              go_wp2_with (at_builtin; go_must (refine wpList_append_own _ rfl (.tmp 61) (.tmp 66) 60 rfl (w.heap.size + 1) 84 i0 (.agg #[.string ByteArray.empty, .int .i64 0]) 2 24 Tryz.underlying60 hi hz0 hz1 hz2 rfl (by decide) _ _ _ rfl (OQ.out.own.alloc _) _ 1 1 [.string x.name, .int .i64 (x.file : Int)] rfl rfl (cell_pair _ _ _ _) (one_name _ _) (by first | (unfold maxLen; omega) | (rw [List.length_append, List.length_singleton]; unfold maxLen; omega) | decide) (by first | omega | (rw [List.length_append, List.length_singleton]; omega) | decide) (by have := OQ.out.size; first | (simp; omega) | (simp at this ⊢; omega)) ?_; intro OKv OKw hown' hgrow _; have OK : Hid (Outs (w.heap.size + 1) wf OKw OKv _) := OQ.out.push (x := ⟨x.name, x.file⟩) hown' hgrow; clear hown' hgrow))
              go_roundw
              case rel => exact ⟨k + 1, by go_num, by omega, by show Outs _ _ _ _ _; rw [take_snoc_get HX.out, doFrom_snoc]; have := OK.out; simpa [HS.out, h3, hka, HE1.out, HE2.out, HTL.out] using this⟩
              case measure => simp [intOf]; omega

        · have hkk : ((k : Int) == (at_ : Int)) = false := by simp; omega
          go_wp2
          have hc0 := hcell0 _ O.out.below
          have hc1 := hcell1 _ O.out.below
          have B := box_of hq O.out.below (Nat.lt_succ_self _)
          obtain ⟨b0, b1, b2, b3⟩ := B
          cases hE1 : (x.name.toList == src.toList) with
          | true =>
            have HE1 : Hid ((x.name.toList == src.toList) = true) := hE1
            have hE1n : (x.name.toList != src.toList) = false := by rw [bne, hE1]; rfl
            have HE2 : Hid (True) := trivial
            go_quiet (fail)
            have OQ : Hid (Outs (w.heap.size + 1) wf _ _ _) := O.out.drew nq
            go_wp2
            go_roundw
            case rel => exact ⟨k + 1, by go_num, by omega, by show Outs _ _ _ _ _; rw [take_snoc_get HX.out, doFrom_snoc]; have := OQ.out; simpa [HS.out, h3, hka, HE1.out, HE2.out, HTL.out] using this⟩
            case measure => simp [intOf]; omega
          | false =>
            have HE1 : Hid ((x.name.toList == src.toList) = false) := hE1
            have hE1n : (x.name.toList != src.toList) = true := by rw [bne, hE1]; rfl
            cases hE2 : (x.name.toList == dst.toList) with
            | true =>
              have HE2 : Hid ((x.name.toList == dst.toList) = true) := hE2
              have hE2n : (x.name.toList != dst.toList) = false := by rw [bne, hE2]; rfl
              go_quiet (fail)
              have OQ : Hid (Outs (w.heap.size + 1) wf _ _ _) := O.out.drew nq
              go_wp2
              go_roundw
              case rel => exact ⟨k + 1, by go_num, by omega, by show Outs _ _ _ _ _; rw [take_snoc_get HX.out, doFrom_snoc]; have := OQ.out; simpa [HS.out, h3, hka, HE1.out, HE2.out, HTL.out] using this⟩
              case measure => simp [intOf]; omega
            | false =>
              have HE2 : Hid ((x.name.toList == dst.toList) = false) := hE2
              have hE2n : (x.name.toList != dst.toList) = true := by rw [bne, hE2]; rfl
              go_quiet (fail)
              have OQ : Hid (Outs (w.heap.size + 1) wf _ _ _) := O.out.drew nq
              go_wp2_with (at_builtin; go_must (refine wpList_append_own _ rfl (.tmp 61) (.tmp 66) 60 rfl (w.heap.size + 1) 84 i0 (.agg #[.string ByteArray.empty, .int .i64 0]) 2 24 Tryz.underlying60 hi hz0 hz1 hz2 rfl (by decide) _ _ _ rfl (OQ.out.own.alloc _) _ 1 1 [.string x.name, .int .i64 (x.file : Int)] rfl rfl (cell_pair _ _ _ _) (one_name _ _) (by first | (unfold maxLen; omega) | (rw [List.length_append, List.length_singleton]; unfold maxLen; omega) | decide) (by first | omega | (rw [List.length_append, List.length_singleton]; omega) | decide) (by have := OQ.out.size; first | (simp; omega) | (simp at this ⊢; omega)) ?_; intro OKv OKw hown' hgrow _; have OK : Hid (Outs (w.heap.size + 1) wf OKw OKv _) := OQ.out.push (x := ⟨x.name, x.file⟩) hown' hgrow; clear hown' hgrow))
              go_roundw
              case rel => exact ⟨k + 1, by go_num, by omega, by show Outs _ _ _ _ _; rw [take_snoc_get HX.out, doFrom_snoc]; have := OK.out; simpa [HS.out, h3, hka, HE1.out, HE2.out, HTL.out] using this⟩
              case measure => simp [intOf]; omega

      · have hke : k = l.length := by omega
        rw [hke] at O hLn
        have hkv : (Value.int IntKind.i64 (k : Int)) = .int .i64 (l.length : Int) := by rw [hke]
        rw [hkv]
        clear hkv hke HTL hkl hk k
        rw [List.take_length] at O hLn
        by_cases hal : at_ = l.length
        · have hal2 : ((at_ : Int) == (l.length : Int)) = true := by simp; omega
          go_wp2_with (at_builtin; go_must (refine wpList_append_own _ rfl (.tmp 77) (.tmp 83) 60 rfl (w.heap.size + 1) 84 i0 (.agg #[.string ByteArray.empty, .int .i64 0]) 2 24 Tryz.underlying60 hi hz0 hz1 hz2 rfl (by decide) _ _ _ rfl (O.out.own.alloc _) _ 1 1 [.string dst, .int .i64 (F : Int)] rfl rfl (cell_pair _ _ _ _) (one_name _ _) (by first | (unfold maxLen; omega) | (rw [List.length_append, List.length_singleton]; unfold maxLen; omega) | decide) (by first | omega | (rw [List.length_append, List.length_singleton]; omega) | decide) (by have := O.out.size; first | (simp; omega) | (simp at this ⊢; omega)) ?_; intro O1v O1w hown' hgrow _; have O1 : Hid (Outs (w.heap.size + 1) wf O1w O1v _) := O.out.push (x := ⟨dst, F⟩) hown' hgrow; clear hown' hgrow))
          go_ret
          refine ⟨_, rfl, ?_, HB.out.trans (O1.out.below.mono (Nat.le_succ _))⟩
          have hd : doL l S = doFrom at_ S 0 l ++ [⟨dst, F⟩] := by unfold doL; rw [HS.out]; simp only; rw [← HAT.out, if_pos ⟨hal, h3⟩]
          rw [hd]
          exact own_zero O1.out.own
        · have hal2 : ((at_ : Int) == (l.length : Int)) = false := by simp; omega
          go_wp2
          go_ret
          refine ⟨_, rfl, ?_, HB.out.trans (O.out.below.mono (Nat.le_succ _))⟩
          have hd : doL l S = doFrom at_ S 0 l := by unfold doL; rw [HS.out]; simp only; rw [← HAT.out, if_neg (fun h => hal h.1), List.append_nil]
          rw [hd]
          exact own_zero O.out.own

set_option maxHeartbeats 4000000 in
set_option maxRecDepth 100000 in
theorem do_rm (v : Value) (l : List DName) (s : DStep) (w : World) (h : Names w v l) (hl : l.length ≤ 1000000) (h3 : s.kind = 3) (hfi : s.file ≤ 1000000000) :
    Calls Tryz.prog 31 #[v, stepV s] w fun e w' => ∃ v', e = .returned v' ∧ Names w' v' (doL l s) ∧ Below w.heap.size w w' := by
  obtain ⟨i0, hi, hz0, hz1, hz2⟩ := info_parts infoN
  obtain ⟨S, hS⟩ : ∃ S, S = s := ⟨s, rfl⟩
  obtain ⟨K, src, dst, F⟩ := s
  have h3 : K = 3 := h3
  subst h3
  have hfi : F ≤ 1000000000 := hfi
  obtain ⟨at_, hat⟩ : ∃ a, a = findIx dst l := ⟨_, rfl⟩
  have HAT : Hid (at_ = findIx dst l) := hat
  have hatl : at_ ≤ l.length := by rw [hat]; exact findIx_le _ _
  have HDL : Hid (doL l S = doFrom at_ S 0 l) := by show doL l S = _; unfold doL; rw [hS]; simp only; rw [← hat, if_neg (fun h => h.2 rfl), List.append_nil]
  have ct := find_any v l dst
  rw [← hat] at ct
  clear hat
  show Calls Tryz.prog 31 #[v, .agg #[.int .i64 3, .string src, .string dst, .int .i64 (F : Int)]] w fun e w' => ∃ v', e = .returned v' ∧ Names w' v' (doL l ⟨3, src, dst, F⟩) ∧ Below w.heap.size w w'
  rw [← hS]
  have HS : Hid (S = ⟨3, src, dst, F⟩) := hS
  clear hS
  rcases h.2 with ⟨rfl, h0⟩ | ⟨g, cap, cur, rfl, hg, hh, hr⟩
  · have hl0 : l = [] := List.eq_nil_of_length_eq_zero h0
    have ha0 : at_ = 0 := by omega
    subst ha0
    go_enter Tryz.func31, Tryz.ntmps31
    go_wp2_with (go_at_call 46; go_must (refine (ct _ (h.alloc _) hl).mono ?_; rintro e wf ⟨rfl, hst⟩))
    have hq : wf.heap[w.heap.size]? = some (.cells #[.int .i64 3, .string src, .string dst, .int .i64 (F : Int)] 79 (0, 0)) := by rw [hst.heap]; exact heap_alloc_new _ _
    have hsz : wf.heap.size = w.heap.size + 1 := by rw [hst.heap]; simp
    have HSZ : Hid (wf.heap.size = w.heap.size + 1) := hsz
    have HB : Hid (Below w.heap.size w wf) := by
      refine ⟨hst.os, hst.tape, hst.output, by rw [hsz]; omega, fun i hi => ?_⟩
      rw [hst.heap, Below.heap_alloc _ _ _ hi]
    clear ct hsz
    have O : Hid (Outs (w.heap.size + 1) wf wf (.slice none 0 0) []) := ⟨World.ownsRow_nil _ _ _ _, Below.refl _ _, by rw [HSZ.out]; exact Nat.le_refl _⟩
    obtain ⟨b0, b1, b2, b3⟩ := box_of hq O.out.below (Nat.lt_succ_self _)
    refine wp_loop_rounds 1 ?_
    rw [rounds_succ]
    go_wp2
    go_ret
    have hd : doL [] S = [] := by have := HDL.out; rw [hl0] at this; exact this
    exact ⟨_, rfl, by first | (rw [hd]; exact World.ownsRow_nil _ _ _ _) | (rw [hl0, hd]; exact World.ownsRow_nil _ _ _ _), HB.out⟩
  · go_enter Tryz.func31, Tryz.ntmps31
    go_wp2_with (go_at_call 46; go_must (refine (ct _ (h.alloc _) hl).mono ?_; rintro e wf ⟨rfl, hst⟩))
    have hq : wf.heap[w.heap.size]? = some (.cells #[.int .i64 3, .string src, .string dst, .int .i64 (F : Int)] 79 (0, 0)) := by rw [hst.heap]; exact heap_alloc_new _ _
    have hsz : wf.heap.size = w.heap.size + 1 := by rw [hst.heap]; simp
    have hwf : Names wf (.slice (some ⟨g, 0, none⟩) l.length cap) l := hst.owns (h.alloc _)
    have hgl : g < w.heap.size + 1 := by have := lt_of_block hh; omega
    have HB : Hid (Below w.heap.size w wf) := by
      refine ⟨hst.os, hst.tape, hst.output, by rw [hsz]; omega, fun i hi => ?_⟩
      rw [hst.heap, Below.heap_alloc _ _ _ hi]
    clear ct hh hr
    have O0 : Outs (w.heap.size + 1) wf wf (.slice none 0 0) (doFrom at_ S 0 (l.take 0)) := ⟨World.ownsRow_nil _ _ _ _, Below.refl _ _, by rw [hsz]; exact Nat.le_refl _⟩
    go_loopw [5, 8] (fun ov i wr => ∃ k : Nat, i = .int .i64 k ∧ k ≤ l.length ∧ Hid (Outs (w.heap.size + 1) wf wr ov (doFrom at_ S 0 (l.take k)))) (fun _ i _ => l.length - (intOf i).toNat)
    case atStart => exact ⟨0, rfl, Nat.zero_le _, O0⟩
    case round =>
      obtain ⟨k, rfl, hk, O⟩ := hrel
      clear O0
      rename World => wr
      obtain ⟨b0, b1, b2, b3⟩ := box_of hq O.out.below (Nat.lt_succ_self _)
      have HTL : Hid ((l.take k).length = k) := List.length_take_of_le hk
      have hLn : (doFrom at_ S 0 (l.take k)).length ≤ 2000000 := by have := doFrom_len at_ S (l.take k) 0; rw [HTL.out] at this; omega
      by_cases hkl : k < l.length
      · obtain ⟨x, hx⟩ : ∃ x, l[k]? = some x := ⟨_, List.getElem?_eq_getElem hkl⟩
        have HX : Hid (l[k]? = some x) := hx
        have hcell0 : ∀ W : World, Below (w.heap.size + 1) wf W → W.cell? ⟨g, k * 2, none⟩ = some (.string x.name) := fun W hW => by
          have hc := hwf.cellAt (g := g) (k * 2) (by omega)
          rw [ncells_at0 l k x hx] at hc
          exact (hW.cell (p := ⟨g, k * 2, none⟩) hgl).trans hc
        have hcell1 : ∀ W : World, Below (w.heap.size + 1) wf W → W.cell? ⟨g, k * 2 + 1, none⟩ = some (.int .i64 (x.file : Int)) := fun W hW => by
          have hc := hwf.cellAt (g := g) (k * 2 + 1) (by omega)
          rw [ncells_at1 l k x hx] at hc
          exact (hW.cell (p := ⟨g, k * 2 + 1, none⟩) hgl).trans hc
        clear hx
        have hc0 := hcell0 _ O.out.below
        have hc1 := hcell1 _ O.out.below
        cases hkk : ((k : Int) == (at_ : Int)) with
        | true =>
          go_wp2
          cases hE1 : (x.name.toList == src.toList) with
          | true =>
            have HE1 : Hid ((x.name.toList == src.toList) = true) := hE1
            have hE1n : (x.name.toList != src.toList) = false := by rw [bne, hE1]; rfl
            go_quiet (fail)
            have OQ : Hid (Outs (w.heap.size + 1) wf _ _ _) := O.out.drew nq
            go_wp2
            go_roundw
            case rel => exact ⟨k + 1, by go_num, by omega, by show Outs _ _ _ _ _; rw [take_snoc_get HX.out, doFrom_snoc]; have := OQ.out; simpa [HS.out, HE1.out, HTL.out] using this⟩
            case measure => simp [intOf]; omega
          | false =>
            have HE1 : Hid ((x.name.toList == src.toList) = false) := hE1
            have hE1n : (x.name.toList != src.toList) = true := by rw [bne, hE1]; rfl
            go_quiet (fail)
            have OQ : Hid (Outs (w.heap.size + 1) wf _ _ _) := O.out.drew nq
            go_wp2_with (at_builtin; go_must (refine wpList_append_own _ rfl (.tmp 61) (.tmp 66) 60 rfl (w.heap.size + 1) 84 i0 (.agg #[.string ByteArray.empty, .int .i64 0]) 2 24 Tryz.underlying60 hi hz0 hz1 hz2 rfl (by decide) _ _ _ rfl (OQ.out.own.alloc _) _ 1 1 [.string x.name, .int .i64 (x.file : Int)] rfl rfl (cell_pair _ _ _ _) (one_name _ _) (by first | (unfold maxLen; omega) | (rw [List.length_append, List.length_singleton]; unfold maxLen; omega) | decide) (by first | omega | (rw [List.length_append, List.length_singleton]; omega) | decide) (by have := OQ.out.size; first | (simp; omega) | (simp at this ⊢; omega)) ?_; intro OKv OKw hown' hgrow _; have OK : Hid (Outs (w.heap.size + 1) wf OKw OKv _) := OQ.out.push (x := ⟨x.name, x.file⟩) hown' hgrow; clear hown' hgrow))
            go_roundw
            case rel => exact ⟨k + 1, by go_num, by omega, by show Outs _ _ _ _ _; rw [take_snoc_get HX.out, doFrom_snoc]; have := OK.out; simpa [HS.out, HE1.out, HTL.out] using this⟩
            case measure => simp [intOf]; omega
        | false =>
          go_wp2
          cases hE1 : (x.name.toList == src.toList) with
          | true =>
            have HE1 : Hid ((x.name.toList == src.toList) = true) := hE1
            have hE1n : (x.name.toList != src.toList) = false := by rw [bne, hE1]; rfl
            go_quiet (fail)
            have OQ : Hid (Outs (w.heap.size + 1) wf _ _ _) := O.out.drew nq
            go_wp2
            go_roundw
            case rel => exact ⟨k + 1, by go_num, by omega, by show Outs _ _ _ _ _; rw [take_snoc_get HX.out, doFrom_snoc]; have := OQ.out; simpa [HS.out, HE1.out, HTL.out] using this⟩
            case measure => simp [intOf]; omega
          | false =>
            have HE1 : Hid ((x.name.toList == src.toList) = false) := hE1
            have hE1n : (x.name.toList != src.toList) = true := by rw [bne, hE1]; rfl
            go_quiet (fail)
            have OQ : Hid (Outs (w.heap.size + 1) wf _ _ _) := O.out.drew nq
            go_wp2_with (at_builtin; go_must (refine wpList_append_own _ rfl (.tmp 61) (.tmp 66) 60 rfl (w.heap.size + 1) 84 i0 (.agg #[.string ByteArray.empty, .int .i64 0]) 2 24 Tryz.underlying60 hi hz0 hz1 hz2 rfl (by decide) _ _ _ rfl (OQ.out.own.alloc _) _ 1 1 [.string x.name, .int .i64 (x.file : Int)] rfl rfl (cell_pair _ _ _ _) (one_name _ _) (by first | (unfold maxLen; omega) | (rw [List.length_append, List.length_singleton]; unfold maxLen; omega) | decide) (by first | omega | (rw [List.length_append, List.length_singleton]; omega) | decide) (by have := OQ.out.size; first | (simp; omega) | (simp at this ⊢; omega)) ?_; intro OKv OKw hown' hgrow _; have OK : Hid (Outs (w.heap.size + 1) wf OKw OKv _) := OQ.out.push (x := ⟨x.name, x.file⟩) hown' hgrow; clear hown' hgrow))
            go_roundw
            case rel => exact ⟨k + 1, by go_num, by omega, by show Outs _ _ _ _ _; rw [take_snoc_get HX.out, doFrom_snoc]; have := OK.out; simpa [HS.out, HE1.out, HTL.out] using this⟩
            case measure => simp [intOf]; omega
      · have hke : k = l.length := by omega
        rw [hke] at O hLn
        have hkv : (Value.int IntKind.i64 (k : Int)) = .int .i64 (l.length : Int) := by rw [hke]
        rw [hkv]
        clear hkv hke HTL hkl hk k
        rw [List.take_length] at O hLn
        cases hal2 : ((at_ : Int) == (l.length : Int)) with
        | true =>
          go_wp2
          go_ret
          exact ⟨_, rfl, by rw [HDL.out]; exact own_zero O.out.own, HB.out.trans (O.out.below.mono (Nat.le_succ _))⟩
        | false =>
          go_wp2
          go_ret
          exact ⟨_, rfl, by rw [HDL.out]; exact own_zero O.out.own, HB.out.trans (O.out.below.mono (Nat.le_succ _))⟩
end Go.Proofs.YtbjgpfhbdmcbbabGreatDoor.disk
