/-
  CONTRACT of quernlaw: fill.
-/
import Derived.Test.YtbjgpfhbdmcbbaaDoorFill2
namespace Go.Proofs.YtbjgpfhbdmcbbaaDoor.fill
open Go.RowKit Go.Proofs.YtbjgpfhbdmcbbaaDoor.dnamath Go.Proofs.YtbjgpfhbdmcbbaaDoor.dna Go.Proofs.YtbjgpfhbdmcbbaaDoor.pieces
set_option linter.unusedVariables false

theorem own_new {w : World} {base : Nat} (v : Value) (hb : base ≤ w.heap.size) : (w.alloc (.cells #[v] 22)).ownsRow base 22 1 (.slice (some ⟨w.heap.size, 0, none⟩) 1 1) 1 [v] :=
  ⟨rfl, .inr ⟨w.heap.size, 1, #[v], rfl, hb, heap_alloc_new w _, Nat.le_refl _, by unfold maxLen; omega, rfl, rfl⟩⟩

theorem mid_first {w wr : World} {base n0 : Nat} {M : ByteArray} {gv : Value} (hown : wr.ownsRow base 9 1 gv n0 (reps n0 M)) (hb : Below base w wr) (hs : base ≤ wr.heap.size) :
    Mid2 w (wr.alloc (.cells #[gv] 22)) base n0 M 0 n0 gv (.slice (some ⟨wr.heap.size, 0, none⟩) 1 1) [gv] where
  own := hown.alloc _
  out := own_new gv hs
  marks := fun u hu => by
    rw [List.mem_singleton] at hu
    subst hu
    exact mark_of_own (hown.alloc _)
  below := hb.alloc hs _
  size := by simp; omega
  len := rfl
  num := rfl

theorem grown_shape {w : World} {base : Nat} {e : TypeId} {v : Value} {n : Nat} {xs : List Value} (h : w.ownsRow base e 1 v (n + 1) xs) : ∃ g cap, v = .slice (some ⟨g, 0, none⟩) (n + 1) cap := by
  rcases h.2 with ⟨_, h0⟩ | ⟨g, cap, cur, h1, _⟩
  · omega
  · exact ⟨g, cap, h1⟩

set_option maxHeartbeats 4000000 in
set_option maxRecDepth 100000 in
/-- the second loop's round -/
theorem fill_any (base : Nat) (v : Value) (ps : List ByteArray) (M : ByteArray) (w : World) (hown : w.ownsRow base 9 1 v ps.length (scells ps)) (hbase : base ≤ w.heap.size) (hl : ps.length ≤ 4000000) :
    Calls Tryd.prog 10 #[v, .string M] w fun e w' => ∃ ov, e = .returned ov ∧ Filled w' ov M ∧ Below base w w' := by
  obtain ⟨i0, hi, hz0, hz1, hz2⟩ := info_parts infoS
  obtain ⟨j0, hj, hy0, hy1, hy2⟩ := info_parts infoL
  obtain ⟨n0, hn0⟩ : ∃ n, n = ps.length := ⟨_, rfl⟩
  rw [← hn0] at hown hl
  have hxl : (scells ps).length = n0 := by rw [hn0]; simp [scells]
  obtain ⟨xs, hxs⟩ : ∃ xs, xs = scells ps := ⟨_, rfl⟩
  rw [← hxs] at hown hxl
  clear hxs hn0
  have HX : Hid (xs.length = n0) := hxl
  clear hxl
  have hsh := own_list hown
  rcases hown.2 with ⟨rfl, h0⟩ | ⟨g, cap, cur, rfl, hg, hh, hr⟩
  · subst h0
    have hown0 : w.ownsRow base 9 1 (.slice none 0 0) 0 (reps 0 M) := World.ownsRow_nil _ _ _ _
    have M0 := mid_first hown0 (Below.refl _ _) hbase
    clear hown hown0 hsh
    go_enter Tryd.func10, Tryd.ntmps10
    go_wp2
    refine wp_loop_rounds 1 ?_
    rw [rounds_succ]
    go_wp2
    go_loopw [6, 7, 8] (fun ov gv i wr => ∃ (i' N : Nat) (vs : List Value), i = .int .i64 i' ∧ i' ≤ 3 ∧ Hid (Mid2 w wr base 0 M i' N gv ov vs)) (fun _ _ i _ => 3 - (intOf i).toNat)
    case atStart => exact ⟨0, _, _, rfl, by omega, M0⟩
    case round =>
      obtain ⟨i, N, vs, rfl, hi3, MM⟩ := hrel
      clear M0
      rename World => wr2
      by_cases hlt : i < 3
      · have MA := mid_alloc MM.out (.cells #[.string M] 9)
        have HN2 : Hid (N = 0 + i) := MM.out.num
        have HL2 : Hid (vs.length = i + 1) := MM.out.len
        have hNb : N ≤ 4000003 := by have := HN2.out; omega
        have hVb : vs.length ≤ 4 := by have := HL2.out; omega
        clear MM
        rcases MA.own.2 with ⟨rfl, rfl⟩ | ⟨g2, cap2, cur2, rfl, hg2, hh2, hr2⟩
        · go_wp2_with (first | (at_builtin; refine wpList_append_grows _ rfl (.tmp 26) (.tmp 28) 22 rfl 9 i0 (.string ByteArray.empty) 1 16 Tryd.underlying22 hi hz0 hz1 hz2 rfl (by decide) none 0 0 (reps 0 M) rfl (fun _ => ⟨rfl, rfl⟩) (by rw [reps_length, Nat.mul_one]) (fun b hb => by cases hb) ⟨wr2.heap.size, 0, none⟩ 1 1 [.string M] rfl rfl (cell_one _ _ _) (one_str M) (by omega) (by unfold maxLen; omega) (by omega) ?_; intro v' w1 hown' hgrow; obtain ⟨g3, cap3, hv3⟩ := grown_shape hown'; subst hv3; have M3 := mid_grows MA hown' hgrow; clear hown' hgrow) | (at_builtin; refine wpList_append_own _ rfl (.tmp 30) (.tmp 32) 27 rfl base 22 j0 (.slice none 0 0) 1 24 Tryd.underlying27 hj hy0 hy1 hy2 rfl (by decide) _ _ _ rfl (M3.out.alloc _) ⟨w1.heap.size, 0, none⟩ 1 1 [.slice (some ⟨g3, 0, none⟩) (0 + 1) cap3] rfl rfl (cell_one _ _ _) (one_list _ (own_list M3.own)) (by unfold maxLen; omega) (by omega) (by have := M3.size; simp; omega) ?_; intro ov' w2 hown2 hgrow2 _))
          have MR := mid_round (mid3_alloc M3 _) HN2.out HL2.out hown2 hgrow2
          clear hown2 hgrow2 M3
          go_wp2
          go_roundw
          case rel => exact ⟨i + 1, _, _, by go_num, by omega, MR⟩
          case measure => simp [intOf]; omega
        · have hcap : N ≤ cap2 := hr2.1
          have hcells := MA.own.cells (g := g2) rfl
          clear hh2 hr2
          by_cases hf : N + 1 ≤ cap2
          · go_wp2_with (first | (at_builtin; refine wpList_append_fits _ rfl (.tmp 26) (.tmp 28) 22 rfl base 9 i0 1 Tryd.underlying22 hi hz1 g2 N cap2 (reps N M) rfl MA.own ⟨wr2.heap.size, 0, none⟩ 1 1 [.string M] rfl rfl (cell_one _ _ _) (one_str M) (by omega) ?_; intro w1 hown' hgrow; have M3 := mid_fits MA hown' hgrow; clear hown' hgrow) | (at_builtin; refine wpList_append_own _ rfl (.tmp 30) (.tmp 32) 27 rfl base 22 j0 (.slice none 0 0) 1 24 Tryd.underlying27 hj hy0 hy1 hy2 rfl (by decide) _ _ _ rfl (M3.out.alloc _) ⟨w1.heap.size, 0, none⟩ 1 1 [.slice (some ⟨g2, 0, none⟩) (N + 1) cap2] rfl rfl (cell_one _ _ _) (one_list _ (own_list M3.own)) (by unfold maxLen; omega) (by omega) (by have := M3.size; simp; omega) ?_; intro ov' w2 hown2 hgrow2 _))
            have MR := mid_round (mid3_alloc M3 _) HN2.out HL2.out hown2 hgrow2
            clear hown2 hgrow2 M3
            go_wp2
            go_roundw
            case rel => exact ⟨i + 1, _, _, by go_num, by omega, MR⟩
            case measure => simp [intOf]; omega
          · go_wp2_with (first | (at_builtin; refine wpList_append_grows _ rfl (.tmp 26) (.tmp 28) 22 rfl 9 i0 (.string ByteArray.empty) 1 16 Tryd.underlying22 hi hz0 hz1 hz2 rfl (by decide) (some ⟨g2, 0, none⟩) N cap2 (reps N M) rfl (fun h => by cases h) (by rw [reps_length, Nat.mul_one]) (fun b hb => by cases hb; exact hcells) ⟨wr2.heap.size, 0, none⟩ 1 1 [.string M] rfl rfl (cell_one _ _ _) (one_str M) (by omega) (by unfold maxLen; omega) (by omega) ?_; intro v' w1 hown' hgrow; obtain ⟨g3, cap3, hv3⟩ := grown_shape hown'; subst hv3; have M3 := mid_grows MA hown' hgrow; clear hown' hgrow) | (at_builtin; refine wpList_append_own _ rfl (.tmp 30) (.tmp 32) 27 rfl base 22 j0 (.slice none 0 0) 1 24 Tryd.underlying27 hj hy0 hy1 hy2 rfl (by decide) _ _ _ rfl (M3.out.alloc _) ⟨w1.heap.size, 0, none⟩ 1 1 [.slice (some ⟨g3, 0, none⟩) (N + 1) cap3] rfl rfl (cell_one _ _ _) (one_list _ (own_list M3.own)) (by unfold maxLen; omega) (by omega) (by have := M3.size; simp; omega) ?_; intro ov' w2 hown2 hgrow2 _))
            have MR := mid_round (mid3_alloc M3 _) HN2.out HL2.out hown2 hgrow2
            clear hown2 hgrow2 M3
            go_wp2
            go_roundw
            case rel => exact ⟨i + 1, _, _, by go_num, by omega, MR⟩
            case measure => simp [intOf]; omega
      · have e3 : i = 3 := by omega
        subst e3
        go_wp2
        go_ret
        exact ⟨_, rfl, filled_end MM.out hl, MM.out.below⟩
  · clear hsh hr
    go_enter Tryd.func10, Tryd.ntmps10
    go_wp2
    go_loopw [5] (fun i wr => ∃ k : Nat, i = .int .i64 k ∧ k ≤ n0 ∧ wr.ownsRow base 9 1 (.slice (some ⟨g, 0, none⟩) n0 cap) n0 (reps k M ++ xs.drop k) ∧ Below base w wr ∧ base ≤ wr.heap.size) (fun i _ => n0 - (intOf i).toNat)
    case atStart => exact ⟨0, rfl, Nat.zero_le _, hown, Below.refl _ _, hbase⟩
    case round =>
      obtain ⟨k, rfl, hk, hownr, hbel, hbs⟩ := hrel
      clear hown hh
      by_cases hlt : k < n0
      · have hst := hownr.stored k (.string M)
        have hcell : ∃ u, wr.cell? ⟨g, k, none⟩ = some u := by
          rw [hownr.cellAt k (by omega)]
          exact ⟨_, List.getElem?_eq_getElem (by rw [List.length_append, reps_length, List.length_drop, HX.out]; omega)⟩
        obtain ⟨u, hcell⟩ := hcell
        have hfr : wr.frozen? ⟨g, k, none⟩ = false := hownr.frozenAt k
        have R1 : Hid ((wr.setCell ⟨g, k, none⟩ (.string M)).ownsRow base 9 1 (.slice (some ⟨g, 0, none⟩) n0 cap) n0 (reps (k + 1) M ++ xs.drop (k + 1))) := by
          have h1 := hst.1
          have e : (reps k M ++ xs.drop k).set k (.string M) = reps (k + 1) M ++ xs.drop (k + 1) := by
            rw [List.set_append_right _ _ (by rw [reps_length]; exact Nat.le_refl _), reps_length, Nat.sub_self, ← reps_snoc, List.append_assoc, List.drop_eq_getElem_cons (by rw [HX.out]; exact hlt)]
            rfl
          rw [e] at h1; exact h1
        have R2 : Hid (Below base w (wr.setCell ⟨g, k, none⟩ (.string M))) := hbel.setCell (by exact hg) _
        clear hst hownr hbel
        go_wp2
        go_roundw
        case rel => exact ⟨k + 1, by go_num, by omega, R1.out, R2.out, by simpa using hbs⟩
        case measure => simp [intOf]; omega
      · have e : k = n0 := by omega
        subst e
        have hown0 : wr.ownsRow base 9 1 (.slice (some ⟨g, 0, none⟩) k cap) k (reps k M) := by
          rw [List.drop_of_length_le (by rw [HX.out]; exact Nat.le_refl _), List.append_nil] at hownr; exact hownr
        have M0 := mid_first hown0 hbel hbs
        clear hownr hown0 hbel hbs
        go_wp2
        go_loopw [6, 7, 8] (fun ov gv i wr => ∃ (i' N : Nat) (vs : List Value), i = .int .i64 i' ∧ i' ≤ 3 ∧ Hid (Mid2 w wr base k M i' N gv ov vs)) (fun _ _ i _ => 3 - (intOf i).toNat)
        case atStart => exact ⟨0, _, _, rfl, by omega, M0⟩
        case round =>
          obtain ⟨i, N, vs, rfl, hi3, MM⟩ := hrel
          clear M0
          rename World => wr2
          by_cases hlt : i < 3
          · have MA := mid_alloc MM.out (.cells #[.string M] 9)
            have HN2 : Hid (N = k + i) := MM.out.num
            have HL2 : Hid (vs.length = i + 1) := MM.out.len
            have hNb : N ≤ 4000003 := by have := HN2.out; omega
            have hVb : vs.length ≤ 4 := by have := HL2.out; omega
            clear MM
            rcases MA.own.2 with ⟨rfl, rfl⟩ | ⟨g2, cap2, cur2, rfl, hg2, hh2, hr2⟩
            · go_wp2_with (first | (at_builtin; refine wpList_append_grows _ rfl (.tmp 26) (.tmp 28) 22 rfl 9 i0 (.string ByteArray.empty) 1 16 Tryd.underlying22 hi hz0 hz1 hz2 rfl (by decide) none 0 0 (reps 0 M) rfl (fun _ => ⟨rfl, rfl⟩) (by rw [reps_length, Nat.mul_one]) (fun b hb => by cases hb) ⟨wr2.heap.size, 0, none⟩ 1 1 [.string M] rfl rfl (cell_one _ _ _) (one_str M) (by omega) (by unfold maxLen; omega) (by omega) ?_; intro v' w1 hown' hgrow; obtain ⟨g3, cap3, hv3⟩ := grown_shape hown'; subst hv3; have M3 := mid_grows MA hown' hgrow; clear hown' hgrow) | (at_builtin; refine wpList_append_own _ rfl (.tmp 30) (.tmp 32) 27 rfl base 22 j0 (.slice none 0 0) 1 24 Tryd.underlying27 hj hy0 hy1 hy2 rfl (by decide) _ _ _ rfl (M3.out.alloc _) ⟨w1.heap.size, 0, none⟩ 1 1 [.slice (some ⟨g3, 0, none⟩) (0 + 1) cap3] rfl rfl (cell_one _ _ _) (one_list _ (own_list M3.own)) (by unfold maxLen; omega) (by omega) (by have := M3.size; simp; omega) ?_; intro ov' w2 hown2 hgrow2 _))
              have MR := mid_round (mid3_alloc M3 _) HN2.out HL2.out hown2 hgrow2
              clear hown2 hgrow2 M3
              go_wp2
              go_roundw
              case rel => exact ⟨i + 1, _, _, by go_num, by omega, MR⟩
              case measure => simp [intOf]; omega
            · have hcap : N ≤ cap2 := hr2.1
              have hcells := MA.own.cells (g := g2) rfl
              clear hh2 hr2
              by_cases hf : N + 1 ≤ cap2
              · go_wp2_with (first | (at_builtin; refine wpList_append_fits _ rfl (.tmp 26) (.tmp 28) 22 rfl base 9 i0 1 Tryd.underlying22 hi hz1 g2 N cap2 (reps N M) rfl MA.own ⟨wr2.heap.size, 0, none⟩ 1 1 [.string M] rfl rfl (cell_one _ _ _) (one_str M) (by omega) ?_; intro w1 hown' hgrow; have M3 := mid_fits MA hown' hgrow; clear hown' hgrow) | (at_builtin; refine wpList_append_own _ rfl (.tmp 30) (.tmp 32) 27 rfl base 22 j0 (.slice none 0 0) 1 24 Tryd.underlying27 hj hy0 hy1 hy2 rfl (by decide) _ _ _ rfl (M3.out.alloc _) ⟨w1.heap.size, 0, none⟩ 1 1 [.slice (some ⟨g2, 0, none⟩) (N + 1) cap2] rfl rfl (cell_one _ _ _) (one_list _ (own_list M3.own)) (by unfold maxLen; omega) (by omega) (by have := M3.size; simp; omega) ?_; intro ov' w2 hown2 hgrow2 _))
                have MR := mid_round (mid3_alloc M3 _) HN2.out HL2.out hown2 hgrow2
                clear hown2 hgrow2 M3
                go_wp2
                go_roundw
                case rel => exact ⟨i + 1, _, _, by go_num, by omega, MR⟩
                case measure => simp [intOf]; omega
              · go_wp2_with (first | (at_builtin; refine wpList_append_grows _ rfl (.tmp 26) (.tmp 28) 22 rfl 9 i0 (.string ByteArray.empty) 1 16 Tryd.underlying22 hi hz0 hz1 hz2 rfl (by decide) (some ⟨g2, 0, none⟩) N cap2 (reps N M) rfl (fun h => by cases h) (by rw [reps_length, Nat.mul_one]) (fun b hb => by cases hb; exact hcells) ⟨wr2.heap.size, 0, none⟩ 1 1 [.string M] rfl rfl (cell_one _ _ _) (one_str M) (by omega) (by unfold maxLen; omega) (by omega) ?_; intro v' w1 hown' hgrow; obtain ⟨g3, cap3, hv3⟩ := grown_shape hown'; subst hv3; have M3 := mid_grows MA hown' hgrow; clear hown' hgrow) | (at_builtin; refine wpList_append_own _ rfl (.tmp 30) (.tmp 32) 27 rfl base 22 j0 (.slice none 0 0) 1 24 Tryd.underlying27 hj hy0 hy1 hy2 rfl (by decide) _ _ _ rfl (M3.out.alloc _) ⟨w1.heap.size, 0, none⟩ 1 1 [.slice (some ⟨g3, 0, none⟩) (N + 1) cap3] rfl rfl (cell_one _ _ _) (one_list _ (own_list M3.own)) (by unfold maxLen; omega) (by omega) (by have := M3.size; simp; omega) ?_; intro ov' w2 hown2 hgrow2 _))
                have MR := mid_round (mid3_alloc M3 _) HN2.out HL2.out hown2 hgrow2
                clear hown2 hgrow2 M3
                go_wp2
                go_roundw
                case rel => exact ⟨i + 1, _, _, by go_num, by omega, MR⟩
                case measure => simp [intOf]; omega
          · have e3 : i = 3 := by omega
            subst e3
            go_wp2
            go_ret
            exact ⟨_, rfl, filled_end MM.out hl, MM.out.below⟩
end Go.Proofs.YtbjgpfhbdmcbbaaDoor.fill
