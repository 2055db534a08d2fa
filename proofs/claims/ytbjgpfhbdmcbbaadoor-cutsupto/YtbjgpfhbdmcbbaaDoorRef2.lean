/-
  CONTRACT of the reference: Pieces.
-/
import Derived.Test.YtbjgpfhbdmcbbaaDoorRef1
import Derived.Test.YtbjgpfhbdmcbbaaDoorPc2
import Derived.Test.YtbjgpfhbdmcbbaaDoorMath3
import Derived.RegionTactic
import Derived.BigRegion
namespace Go.Proofs.YtbjgpfhbdmcbbaaDoor.ref
open Go.RowKit Go.Proofs.YtbjgpfhbdmcbbaaDoor.dnamath Go.Proofs.YtbjgpfhbdmcbbaaDoor.dna Go.Proofs.YtbjgpfhbdmcbbaaDoor.pieces
set_option linter.unusedVariables false

theorem isBN_int (c : UInt8) : isBN c = true ↔ (c.toNat : Int) = 65 ∨ (c.toNat : Int) = 67 ∨ (c.toNat : Int) = 71 ∨ (c.toNat : Int) = 84 ∨ (c.toNat : Int) = 78 := by
  have h : c = 78 ↔ (c.toNat : Int) = 78 := by
    constructor
    · intro h; rw [h]; rfl
    · intro h; exact UInt8.toNat_inj.1 (by have : (78 : UInt8).toNat = 78 := rfl; omega)
  simp only [isBN, Bool.or_eq_true, beq_iff_eq]
  rw [isB_int, h]
  omega
theorem rb_step {s : ByteArray} {k : Nat} (hlt : k < s.size) (ha : (s.data.toList.take k).all isBN = true) (h : (s[k].toNat : Int) = 65 ∨ (s[k].toNat : Int) = 67 ∨ (s[k].toNat : Int) = 71 ∨ (s[k].toNat : Int) = 84 ∨ (s[k].toNat : Int) = 78) :
    (s.data.toList.take (k + 1)).all isBN = true := by
  rw [take_snoc s k hlt, List.all_append, ha]
  simp [(isBN_int _).2 h]
theorem rb_stop {s : ByteArray} {k : Nat} (hlt : k < s.size) (h : ¬ ((s[k].toNat : Int) = 65 ∨ (s[k].toNat : Int) = 67 ∨ (s[k].toNat : Int) = 71 ∨ (s[k].toNat : Int) = 84 ∨ (s[k].toNat : Int) = 78)) : readB s.data.toList = false := by
  have hb : isBN s[k] = false := by
    cases hc : isBN s[k] with
    | false => rfl
    | true => exact absurd ((isBN_int _).1 hc) h
  have hm : s[k] ∈ s.data.toList := by
    have : s[k] = s.data.toList[k]'(by rw [← Lib.size_eq]; exact hlt) := rfl
    rw [this]; exact List.getElem_mem _
  exact List.all_eq_false.2 ⟨_, hm, by rw [hb]; simp⟩

theorem slice_k1 (t : ByteArray) (k : Nat) (h1 : 1 ≤ k) (h : k ≤ t.size) (w : World) : (Instr.slice 9 (.string t) (some (.int .i64 ((k : Int) - 1))) none none).run Tryd.prog w = .ok (.string (t.extract (k - 1) t.size)) w := by
  rw [run_slice_string_from_if w 9 t .i64 ((k : Int) - 1) Tryd.underlying9, if_pos (by omega)]
  have e : ((k : Int) - 1).toNat = k - 1 := by omega
  rw [e]

theorem mark_lengths {x : ByteArray} {k : Nat} (h : x.size = k) (h1 : 1 ≤ k) : (x.extract (k - 1) x.size).size = 1 := by
  simp [ByteArray.size_extract]; omega

/-- a list that is not empty, by its end -/
theorem snoc_of {ps : List ByteArray} {A : List (List UInt8)} {p : List UInt8} (h : datas ps = A ++ [p]) : ∃ (qs : List ByteArray) (q : ByteArray), ps = qs ++ [q] ∧ datas qs = A ∧ q.data.toList = p := by
  rcases List.eq_nil_or_concat ps with rfl | ⟨qs, q, rfl⟩
  · simp [datas] at h
  · rw [List.concat_eq_append] at h ⊢
    rw [datas_snoc] at h
    obtain ⟨h1, h2⟩ := snoc_inj h
    exact ⟨qs, q, rfl, h1, h2⟩

theorem own_last {w : World} {base : Nat} {v : Value} {qs : List ByteArray} {q : ByteArray} (h : w.ownsRow base 9 1 v (qs ++ [q]).length (scells (qs ++ [q]))) :
    ∃ g cap, v = .slice (some ⟨g, 0, none⟩) (qs.length + 1) cap ∧ base ≤ g ∧ w.cell? ⟨g, qs.length, none⟩ = some (.string q) ∧ w.frozen? ⟨g, qs.length, none⟩ = false ∧
      ∀ x : ByteArray, (w.setCell ⟨g, qs.length, none⟩ (.string x)).ownsRow base 9 1 v (qs ++ [x]).length (scells (qs ++ [x])) := by
  have hl : (qs ++ [q]).length = qs.length + 1 := by simp
  rcases h.2 with ⟨_, h0⟩ | ⟨g, cap, cur, rfl, hg, hh, hr⟩
  · rw [hl] at h0; omega
  · refine ⟨g, cap, by rw [hl], hg, ?_, h.frozenAt _, fun x => ?_⟩
    · rw [h.cellAt qs.length (by rw [hl]; omega)]
      simp [scells]
    · have h1 := (h.stored qs.length (.string x)).1
      have e : (scells (qs ++ [q])).set qs.length (.string x) = scells (qs ++ [x]) := by
        simp only [scells, List.map_append, List.map_cons, List.map_nil]
        rw [List.set_append_right _ _ (by simp)]
        simp
      rw [e] at h1
      have hl2 : (qs ++ [x]).length = (qs ++ [q]).length := by simp
      rw [hl2]; exact h1

set_option maxHeartbeats 2000000 in
set_option maxRecDepth 100000 in
theorem Pieces_no (s : ByteArray) (k m : Int) (w : World) (hl : s.size ≤ 4000000) (hno : ¬ (1 ≤ k ∧ k ≤ 31 ∧ 1 ≤ m ∧ m ≤ k)) :
    Calls Tryd.prog 12 #[.string s, .int .i64 k, .int .i64 m] w fun e w' => e = .returned (.tuple #[.slice none 0 0, .int .i64 1]) ∧ w' = w := by
  by_cases h1 : k < 1
  · have hd : decide (k < 1) = true := by simpa using h1
    clear hno
    go_enter Tryd.func12, Tryd.ntmps12
    go_wp2
    go_ret2
    exact ⟨rfl, rfl⟩
  by_cases h2 : 31 < k
  · have hd : decide (31 < k) = true := by simpa using h2
    clear hno
    go_enter Tryd.func12, Tryd.ntmps12
    go_wp2
    go_ret2
    exact ⟨rfl, rfl⟩
  by_cases h3 : m < 1
  · have hd : decide (m < 1) = true := by simpa using h3
    clear hno
    go_enter Tryd.func12, Tryd.ntmps12
    go_wp2
    go_ret2
    exact ⟨rfl, rfl⟩
  by_cases h4 : k < m
  · have hd : decide (k < m) = true := by simpa using h4
    clear hno
    go_enter Tryd.func12, Tryd.ntmps12
    go_wp2
    go_ret2
    exact ⟨rfl, rfl⟩
  exact absurd ⟨by omega, by omega, by omega, by omega⟩ hno

set_option maxHeartbeats 4000000 in
set_option maxRecDepth 100000 in
theorem Pieces_yes (s : ByteArray) (k m : Nat) (w : World) (hl : s.size ≤ 4000000) (hk1 : 1 ≤ k) (hk31 : k ≤ 31) (hm1 : 1 ≤ m) (hmk : m ≤ k) :
    Calls Tryd.prog 12 #[.string s, .int .i64 (k : Int), .int .i64 (m : Int)] w fun e w' =>
      (readB s.data.toList = false ∧ e = .returned (.tuple #[.slice none 0 0, .int .i64 1]) ∧ w' = w) ∨
      (readB s.data.toList = true ∧ ∃ v ps, e = .returned (.tuple #[v, .int .i64 0]) ∧ w'.ownsRow w.heap.size 9 1 v ps.length (scells ps) ∧ datas ps = piecesL s.data.toList k m ∧ Below w.heap.size w w') := by
  obtain ⟨i0, hi, hz0, hz1, hz2⟩ := info_parts infoS
  go_enter Tryd.func12, Tryd.ntmps12
  go_wp2
  go_loop [8] (fun i => ∃ j : Nat, j ≤ s.size ∧ i = .int .i64 j ∧ Hid (readB (s.data.toList.take j) = true)) (fun i => s.size - (intOf i).toNat)
  case atStart => exact ⟨0, Nat.zero_le _, rfl, rfl⟩
  case round =>
    obtain ⟨j, hj, rfl, ha⟩ := hrel
    by_cases hlt : j < s.size
    · go_wp2
      rotate_left 4
      · go_ret2
        refine .inl ⟨rb_stop hlt (by simp only [bne_iff_ne] at *; omega), rfl, rfl⟩
      all_goals
        go_round
        case rel => first | exact ⟨j + 1, by omega, by go_num, rb_step hlt ha.out (by (try simp only [bne_eq_false_iff_eq] at *); omega)⟩ | ((repeat apply Exists.intro); exact ⟨⟨j + 1, by omega, by go_num, rb_step hlt ha.out (by (try simp only [bne_eq_false_iff_eq] at *); omega)⟩, rfl, rfl, rfl⟩)
        case measure => simp [intOf]; omega
    · have HRB : Hid (readB s.data.toList = true) := by
        have e := take_all s j hlt
        have ha := ha.out
        rw [e] at ha
        exact ha
      clear ha
      go_wp2
      go_loopw [9, 10, 11, 12] (fun o la ws i wr => ∃ (i' : Nat) (la' : Int) (r : ByteArray) (ps : List ByteArray), i = .int .i64 i' ∧ la = .int .i64 la' ∧ ws = .string r ∧ i' ≤ s.size + 1 ∧ ps.length ≤ i' ∧ -2 ≤ la' ∧ la' ≤ 4000001 ∧ wr.ownsRow w.heap.size 9 1 o ps.length (scells ps) ∧
          Hid (la' = (R s.data.toList k m i').last ∧ r.data.toList = (R s.data.toList k m i').was ∧ datas ps = (R s.data.toList k m i').out) ∧ Below w.heap.size w wr ∧ w.heap.size ≤ wr.heap.size) (fun _ _ _ i _ => s.size + 1 - (intOf i).toNat)
      case atStart => exact ⟨0, -2, _, [], rfl, rfl, rfl, by omega, by simp, by omega, by omega, World.ownsRow_nil _ _ _ _, ⟨rfl, rfl, rfl⟩, Below.refl _ _, Nat.le_refl _⟩
      case round =>
        obtain ⟨i, la, r, ps, rfl, rfl, rfl, hi1, hpl, hla1, hla2, hown, HH, hbel, hbs⟩ := hrel
        by_cases hlt2 : i + k ≤ s.size
        · have hsl := slice_km s i k hlt2 (by omega)
          have HX : Hid ((s.extract i (i + k)).data.toList = cut s.data.toList i k) := cut_extract s i k
          have HV : Hid (validW s.data.toList k i = wordB (cut s.data.toList i k)) := valid_word hk1 (by rw [← Lib.size_eq]; exact hlt2)
          have hz : (s.extract i (i + k)).size = k := by simp [ByteArray.size_extract]; omega
          obtain ⟨x, hx⟩ : ∃ x, x = s.extract i (i + k) := ⟨_, rfl⟩
          rw [← hx] at hsl HX hz
          clear hx
          have HZ : Hid (x.size = k) := hz
          have hz2' : x.size ≤ 140737488351232 := by omega
          have hzm : m ≤ x.size := by omega
          clear hz
          cases hv : validW s.data.toList k i with
          | false =>
            have HVF : Hid (validW s.data.toList k i = false) := hv
            have HWF : Hid (wordB x.data.toList = false) := by rw [HX.out, ← HV.out]; exact hv
            clear hv
            go_wp2_with (go_at_call 25; refine (Word_any x _ hz2').mono ?_; rintro e w' ⟨rfl, rfl⟩; rw [HWF.out])
            go_roundw
            case rel => exact ⟨i + 1, la, r, ps, by go_num, rfl, rfl, by omega, by omega, hla1, hla2, hown, by rw [R_skip HVF.out]; exact HH.out, hbel, hbs⟩
            case measure => simp [intOf]; omega
          | true =>
            have HVT : Hid (validW s.data.toList k i = true) := hv
            have HWT : Hid (wordB x.data.toList = true) := by rw [HX.out, ← HV.out]; exact hv
            have HN : Hid ((R s.data.toList k m (i + 1)).last = (i : Int) ∧ (R s.data.toList k m (i + 1)).was = markL m (cut s.data.toList i k)) := R_next HVT.out
            clear hv
            go_wp2_with (go_at_call 25; refine (Word_any x _ hz2').mono ?_; rintro e w' ⟨rfl, rfl⟩; rw [HWT.out])
            refine (mark_any x m _ hz2' hm1 hzm (all_of_word HWT.out)).mono ?_
            rintro e w3 ⟨r3, rfl, hr3, rfl⟩
            have HR3 : Hid (r3.data.toList = markL m (cut s.data.toList i k)) := by
              rw [HX.out] at hr3
              exact mark_eq (by rw [← HX.out, ← Lib.size_eq]; exact hzm) hr3
            clear hr3 hsl
            have hmx : ps.length + 1 ≤ maxLen := by unfold maxLen; omega
            have hby : (ps.length + 1) * 16 ≤ 140737488355328 := by omega
            cases hlq : (la == (i : Int) - 1) with
            | true =>
              have hla : la = (i : Int) - 1 := by simpa using hlq
              cases hrq : (r3.toList == r.toList) with
              | true =>
                have HC : Hid ((R s.data.toList k m i).last = (i : Int) - 1 ∧ markL m (cut s.data.toList i k) = (R s.data.toList k m i).was) := ⟨by rw [← HH.out.1]; exact hla, by rw [← HR3.out, ← HH.out.2.1]; exact str_eq hrq⟩
                obtain ⟨A, p, hA⟩ : ∃ A p, (R s.data.toList k m i).out = A ++ [p] := by
                  rcases good_R (l := s.data.toList) (m := m) hk1 i with hg | ⟨A, p, b, h1, _⟩
                  · have := HC.out.1; rw [hg.2.1] at this; omega
                  · exact ⟨A, p, h1⟩
                obtain ⟨qs, q, rfl, hqs, hq⟩ := snoc_of (HH.out.2.2.trans hA)
                have hqz : q.size ≤ 5000000 := by
                  have h9 := R_plen (l := s.data.toList) (m := m) hk1 i p (by rw [hA]; simp)
                  rw [Lib.size_eq, hq]; omega
                have hsl2 := slice_k1 x k hk1 (by rw [HZ.out]; exact Nat.le_refl _)
                have hyz := mark_lengths HZ.out hk1
                obtain ⟨y, hy⟩ : ∃ y, y = x.extract (k - 1) x.size := ⟨_, rfl⟩
                rw [← hy] at hsl2 hyz
                have HY : Hid (y.data.toList = (cut s.data.toList i k).drop (k - 1)) := by rw [hy]; show _ = _; rw [Lib.extract_to_end, HX.out]
                have HO : Hid (datas (qs ++ [q ++ y]) = (R s.data.toList k m (i + 1)).out) := by
                  show datas _ = _
                  rw [R_more HVT.out HC.out.1 HC.out.2]
                  show _ = ext _ _
                  rw [hA, ext_snoc, datas_snoc, hqs, ByteArray.data_append, Array.toList_append, hq, HY.out]
                obtain ⟨g, cap, rfl, hg, hcell, hfr, hset⟩ := own_last hown
                have hset' : Hid ((w3.setCell ⟨g, qs.length, none⟩ (.string (q ++ y))).ownsRow w.heap.size 9 1 (.slice (some ⟨g, 0, none⟩) (qs.length + 1) cap) (qs ++ [q ++ y]).length (scells (qs ++ [q ++ y]))) := hset _
                have hb5 : Hid (Below w.heap.size w (w3.setCell ⟨g, qs.length, none⟩ (.string (q ++ y)))) := hbel.setCell (by exact hg) _
                have hql : qs.length + 1 ≤ i := by simpa using hpl
                have hidx : (qs.length : Int) < (qs.length : Int) + 1 := by omega
                have hyz' : (y.size : Int) = 1 := by rw [hyz]; rfl
                subst hla
                clear hy hyz hset hA hq hqs hown hbel hmx hby hlq
                go_wp2
                go_region
                all_goals go_wp2
                all_goals go_roundw
                case rel => exact ⟨i + 1, i, r3, qs ++ [q ++ y], by go_num, rfl, rfl, by omega, by rw [List.length_append]; simp; omega, by omega, by omega, hset'.out, ⟨HN.out.1.symm, by rw [HN.out.2]; exact HR3.out, HO.out⟩, hb5.out.drew, by simpa using hbs⟩
                case measure => simp [intOf]; omega
              | false =>
                have HNC : Hid (¬ ((R s.data.toList k m i).last = (i : Int) - 1 ∧ markL m (cut s.data.toList i k) = (R s.data.toList k m i).was)) := by
                  intro h; exact str_ne hrq (by rw [HR3.out, HH.out.2.1]; exact h.2)
                clear hla
                go_wp2_with (at_builtin; refine wpList_append_own _ rfl (.tmp 111) (.tmp 113) 22 rfl w.heap.size 9 i0 (.string ByteArray.empty) 1 16 Tryd.underlying22 hi hz0 hz1 hz2 rfl (by decide) _ _ _ rfl (hown.alloc _) ⟨w3.heap.size, 0, none⟩ 1 1 [.string x] rfl rfl (cell_one _ _ _) (one_str _) hmx hby (by simp; omega) ?_; intro v' w4 hown' hgrow _)
                obtain ⟨R1, R2⟩ := push_str (c := x) hown hbel hbs hown' hgrow
                have hsz4 : w.heap.size ≤ w4.heap.size := by have := hgrow.size; simp at this; omega
                clear hown' hgrow hown hbel
                go_wp2
                go_roundw
                case rel => exact ⟨i + 1, i, r3, ps ++ [x], by go_num, rfl, rfl, by omega, by rw [List.length_append]; simp; omega, by omega, by omega, R1, ⟨HN.out.1.symm, by rw [HN.out.2]; exact HR3.out, by rw [datas_snoc, HH.out.2.2, HX.out, R_new HVT.out HNC.out]⟩, R2, hsz4⟩
                case measure => simp [intOf]; omega
            | false =>
              have HNC : Hid (¬ ((R s.data.toList k m i).last = (i : Int) - 1 ∧ markL m (cut s.data.toList i k) = (R s.data.toList k m i).was)) := by
                intro h; have h1 := h.1; rw [← HH.out.1] at h1; rw [h1] at hlq; simp at hlq
              go_wp2_with (at_builtin; refine wpList_append_own _ rfl (.tmp 111) (.tmp 113) 22 rfl w.heap.size 9 i0 (.string ByteArray.empty) 1 16 Tryd.underlying22 hi hz0 hz1 hz2 rfl (by decide) _ _ _ rfl (hown.alloc _) ⟨w3.heap.size, 0, none⟩ 1 1 [.string x] rfl rfl (cell_one _ _ _) (one_str _) hmx hby (by simp; omega) ?_; intro v' w4 hown' hgrow _)
              obtain ⟨R1, R2⟩ := push_str (c := x) hown hbel hbs hown' hgrow
              have hsz4 : w.heap.size ≤ w4.heap.size := by have := hgrow.size; simp at this; omega
              clear hown' hgrow hown hbel
              go_wp2
              go_roundw
              case rel => exact ⟨i + 1, i, r3, ps ++ [x], by go_num, rfl, rfl, by omega, by rw [List.length_append]; simp; omega, by omega, by omega, R1, ⟨HN.out.1.symm, by rw [HN.out.2]; exact HR3.out, by rw [datas_snoc, HH.out.2.2, HX.out, R_new HVT.out HNC.out]⟩, R2, hsz4⟩
              case measure => simp [intOf]; omega
        · go_wp2
          go_ret2
          refine .inr ⟨HRB.out, _, ps, rfl, hown, ?_, hbel⟩
          rw [HH.out.2.2]
          exact pieces_at hk1 (by rw [← Lib.size_eq]; omega) (by rw [← Lib.size_eq]; omega)
end Go.Proofs.YtbjgpfhbdmcbbaaDoor.ref
