/-
  THE WALK OF Covers.
-/
import Derived.Test.YtbjgpfhbdmcbbaaDoorPc2
import Derived.Test.YtbjgpfhbdmcbbaaDoorMath3
import Derived.Test.YtbjgpfhbdmcbbaaDoorKeep1
namespace Go.Proofs.YtbjgpfhbdmcbbaaDoor.covers
open Go.RowKit Go.Proofs.YtbjgpfhbdmcbbaaDoor.dnamath Go.Proofs.YtbjgpfhbdmcbbaaDoor.dna Go.Proofs.YtbjgpfhbdmcbbaaDoor.pieces Go.Proofs.YtbjgpfhbdmcbbaaDoor.keep
set_option linter.unusedVariables false

/-- what an owned list of texts is good for -/
theorem own_shape {w : World} {base : Nat} {v : Value} {ps : List ByteArray} (h : w.ownsRow base 9 1 v ps.length (scells ps)) :
    ∃ (ao : Option Addr) (cap : Nat), v = .slice ao ps.length cap ∧ ∀ (j : Nat) (hj : j < ps.length), ∃ g, ao = some ⟨g, 0, none⟩ ∧ g < w.heap.size ∧ w.cell? ⟨g, j, none⟩ = some (.string ps[j]) := by
  rcases h.2 with ⟨rfl, h0⟩ | ⟨g, cap, cur, rfl, hg, hh, hr⟩
  · exact ⟨none, 0, by rw [h0], fun j hj => by omega⟩
  · refine ⟨some ⟨g, 0, none⟩, cap, rfl, fun j hj => ⟨g, rfl, lt_of_block hh, ?_⟩⟩
    rw [h.cellAt j (by omega)]
    simp [scells, hj]

theorem mark_yes {x r : ByteArray} {m : Nat} {n : Int} {y : List UInt8} (h : MarkIs x (m : Int) r n) (hx : x.data.toList = y) (hw : wordB y = true) (h1 : 1 ≤ m) (hm : m ≤ x.size) : n = 0 ∧ r.data.toList = markL m y := by
  subst hx
  rcases h with ⟨_, h1, h2⟩ | ⟨h, _⟩
  · exact ⟨h1, mark_eq (by rw [← Lib.size_eq]; exact hm) (by simpa using h2)⟩
  · exact absurd ⟨hw, by omega, by omega⟩ h
theorem mark_no {x r : ByteArray} {m : Nat} {n : Int} {y : List UInt8} (h : MarkIs x (m : Int) r n) (hx : x.data.toList = y) (hw : wordB y = false) : n = 1 := by
  subst hx
  rcases h with ⟨⟨h, _⟩, _⟩ | ⟨_, h, _⟩
  · rw [hw] at h; cases h
  · exact h

theorem piece_of {ps : List ByteArray} {P : List (List UInt8)} {c : Nat} {q : List UInt8} (h : datas ps = P) (hq : P[c]? = some q) : ∃ hc : c < ps.length, (ps[c]'hc).data.toList = q := by
  rw [← h] at hq
  have hc : c < ps.length := by have := (List.getElem?_eq_some_iff.1 hq).1; rwa [datas_length] at this
  refine ⟨hc, ?_⟩
  simp [datas, hc] at hq
  simpa using hq

theorem bytes_beq {a b : ByteArray} (h : a.data.toList = b.data.toList) : (a.toList == b.toList) = true := by
  rw [Lib.toList_data, Lib.toList_data, beq_iff_eq]; exact h
theorem bytes_bne {a b : ByteArray} (h : ¬ a.data.toList = b.data.toList) : (a.toList == b.toList) = false := by
  rw [Lib.toList_data, Lib.toList_data, beq_eq_false_iff_ne]; exact h

set_option maxHeartbeats 4000000 in
set_option maxRecDepth 100000 in
theorem walk (a0 : Option Addr) (len0 cap0 : Nat) (z0 : List Int) (k0 m0 : Int) (w : World) (w0 : IsRow w a0 len0 cap0 z0) (hk0 : -9223372036854775808 ≤ k0 ∧ k0 ≤ 9223372036854775807) (hm0 : -9223372036854775808 ≤ m0 ∧ m0 ≤ 9223372036854775807) :
    Calls Tryd.prog 6 #[.slice a0 len0 cap0, .int .i64 k0, .int .i64 m0] w fun e w' => e = .returned (.bool true) ∧ Below w.heap.size w w' := by
  go_enter Tryd.func6, Tryd.ntmps6
  go_wp2_with fail
  refine (letters_any a0 len0 cap0 z0 true w w0).mono ?_
  rintro e w1 ⟨s, rfl, hs60, hok, hb1⟩
  have HOK : Hid (readB s.data.toList = true) := hok.1
  clear hok
  go_wp2_with fail
  refine (pick_any k0 31 _ hk0 (by omega) (by omega)).mono ?_
  rintro e w1' ⟨p, rfl, hp, rfl⟩
  obtain ⟨k, hk⟩ : ∃ k : Nat, k = 1 + p := ⟨_, rfl⟩
  have hK : (1 + (p : Int)) = (k : Int) := by omega
  have hk1 : 1 ≤ k := by omega
  have hk31 : k ≤ 31 := by omega
  clear hk hp
  go_wp2_with fail
  refine (pick_any m0 k _ hm0 (by omega) (by omega)).mono ?_
  rintro e w1'' ⟨p2, rfl, hp2, rfl⟩
  obtain ⟨m, hm⟩ : ∃ m : Nat, m = 1 + p2 := ⟨_, rfl⟩
  have hM : (1 + (p2 : Int)) = (m : Int) := by omega
  have hm1 : 1 ≤ m := by omega
  have hmk : m ≤ k := by omega
  clear hm hp2
  go_wp2_with fail
  refine (Pieces_yes s k m _ (by omega) ⟨by omega, by omega, by omega, by omega, HOK.out⟩).mono ?_
  rintro e w2 ⟨v, ps, rfl, hown, hps, hb2⟩
  have HPS : Hid (datas ps = piecesL s.data.toList k m) := hps
  obtain ⟨ao, cap, rfl, hcells⟩ := own_shape hown
  have hpl : ps.length ≤ 100 := by
    rw [← datas_length, hps]
    have h := R_len (l := s.data.toList) (k := k) (m := m) (s.data.toList.length + 1)
    have h2 : (piecesL s.data.toList k m).length ≤ s.data.toList.length + 1 := h
    rw [← Lib.size_eq] at h2; omega
  have hbw : Below w.heap.size w w2 := hb1.trans (hb2.mono hb1.size)
  have HC : Hid (∀ (j : Nat) (hj : j < ps.length), ∃ g, ao = some ⟨g, 0, none⟩ ∧ g < w2.heap.size ∧ w2.cell? ⟨g, j, none⟩ = some (.string ps[j])) := hcells
  clear hps hown hb1 hb2 hcells
  go_wp2
  go_loopw [12, 13, 14, 15, 16] (fun c a la ws i wr => ∃ (c' a' i' : Nat) (la' : Int) (r : ByteArray), c = .int .i64 c' ∧ a = .int .i64 a' ∧ la = .int .i64 la' ∧ ws = .string r ∧ i = .int .i64 i' ∧ i' + k ≤ s.size + 1 + k ∧ c' ≤ 200 ∧ a' ≤ 200 ∧ -2 ≤ la' ∧ la' ≤ 200 ∧
      Hid (At s.data.toList k m i' c' a' ∧ la' = (R s.data.toList k m i').last ∧ r.data.toList = (R s.data.toList k m i').was) ∧ Below w2.heap.size w2 wr) (fun _ _ _ _ i _ => s.size + 2 - (intOf i).toNat)
  case atStart => exact ⟨0, 0, 0, -2, _, rfl, rfl, rfl, rfl, rfl, by omega, by omega, by omega, by omega, by omega, ⟨at_start, rfl, rfl⟩, Below.refl _ _⟩
  case round =>
    obtain ⟨c, a, i, la, r, rfl, rfl, rfl, rfl, rfl, hik, hc2, ha2, hla1, hla2, HA, hbel⟩ := hrel
    by_cases hlt : i + k ≤ s.size
    · have hsl := slice_km s i k hlt (by omega)
      have hz : (s.extract i (i + k)).size = k := by simp [ByteArray.size_extract]; omega
      have hz2 : (s.extract i (i + k)).size ≤ 140737488351232 := by omega
      have hxd := cut_extract s i k
      have hvw := valid_word (l := s.data.toList) (k := k) (i := i) hk1 (by rw [← Lib.size_eq]; exact hlt)
      have HX : Hid ((s.extract i (i + k)).data.toList = cut s.data.toList i k) := hxd
      have HV : Hid (validW s.data.toList k i = wordB (cut s.data.toList i k)) := hvw
      have HZ : Hid ((s.extract i (i + k)).size = k) := hz
      clear hz hxd hvw
      cases hv : validW s.data.toList k i with
      | false =>
        have HVF : Hid (validW s.data.toList k i = false) := hv
        clear hv
        go_wp2_with fail
        refine (Mark_any (s.extract i (i + k)) m _ hz2).mono ?_
        rintro e w3 ⟨r3, n3, rfl, h3, hb3⟩
        have g3 := mark_no h3 HX.out (by rw [← HV.out]; exact HVF.out)
        subst g3
        have hbel3 := hbel.trans (hb3.mono hbel.size)
        clear h3 hbel hb3 hsl
        go_wp2
        go_roundw
        case rel => exact ⟨c, a, i + 1, la, r, rfl, rfl, rfl, rfl, by go_num, by omega, hc2, ha2, hla1, hla2, ⟨at_skip HA.out.1 HVF.out, by rw [R_skip HVF.out]; exact HA.out.2.1, by rw [R_skip HVF.out]; exact HA.out.2.2⟩, hbel3⟩
        case measure => simp [intOf]; omega
      | true =>
        have HVT : Hid (validW s.data.toList k i = true) := hv
        clear hv
        obtain ⟨ql, hq1, hq2, hq3, hq4, hq5, hq6, hq7⟩ := at_step hk1 HA.out.1 HVT.out
        obtain ⟨hcl, hqd⟩ := piece_of HPS.out hq1
        obtain ⟨g, hg1, hg2, hg3⟩ := HC.out c hcl
        obtain ⟨q, hqq⟩ : ∃ q, q = ps[c] := ⟨_, rfl⟩
        rw [← hqq] at hqd hg3
        have hqs : q.size = ql.length := by rw [Lib.size_eq, hqd]
        have HN := R_next (m := m) HVT.out
        have hak : a + k ≤ q.size := by omega
        have hq60 : q.size ≤ 150 := by
          have hmem : ql ∈ (R s.data.toList k m (s.data.toList.length + 1)).out := List.mem_of_getElem? hq1
          have h9 := R_plen hk1 _ ql hmem
          rw [← Lib.size_eq] at h9; omega
        have H4 : Hid (0 < a → la = (i : Int) - 1 ∧ markL m (cut s.data.toList i k) = r.data.toList) := by
          intro h0; have := hq4 h0; rw [← HA.out.2.1, ← HA.out.2.2] at this; exact this
        have H5 : Hid (a = 0 → ¬ (la = (i : Int) - 1 ∧ markL m (cut s.data.toList i k) = r.data.toList)) := by
          intro h0; have := hq5 h0; rw [← HA.out.2.1, ← HA.out.2.2] at this; exact this
        have H6 : Hid (q.size < a + 1 + k → At s.data.toList k m (i + 1) (c + 1) 0) := by rw [hqs]; exact hq6
        have H7 : Hid (a + 1 + k ≤ q.size → At s.data.toList k m (i + 1) c (a + 1)) := by rw [hqs]; exact hq7
        have hslq := slice_km q a k hak (by omega)
        have heq : ((q.extract a (a + k)).toList == (s.extract i (i + k)).toList) = true := bytes_beq (by rw [cut_extract, HX.out, hqd]; exact hq3)
        have HNN : Hid ((R s.data.toList k m (i + 1)).last = (i : Int) ∧ (R s.data.toList k m (i + 1)).was = markL m (cut s.data.toList i k)) := HN
        clear hq1 hq2 hq3 hq4 hq5 hq6 hq7 hqd hqq HN hqs
        subst hg1
        go_wp2_with fail
        refine (Mark_any (s.extract i (i + k)) m _ hz2).mono ?_
        rintro e w3 ⟨r3, n3, rfl, h3, hb3⟩
        obtain ⟨g3, hr3⟩ := mark_yes h3 HX.out (by rw [← HV.out]; exact HVT.out) hm1 (by rw [HZ.out]; exact hmk)
        subst g3
        have HR3 : Hid (r3.data.toList = markL m (cut s.data.toList i k)) := hr3
        have hbel3 := hbel.trans (hb3.mono hbel.size)
        have hcell : w3.cell? ⟨g, c, none⟩ = some (.string q) := (hbel3.cell (by exact hg2)).trans hg3
        clear h3 hr3 hbel hb3 hsl hg3
        by_cases hpos : 0 < a
        · obtain ⟨hla, hnw0⟩ := H4.out hpos
          subst hla
          have hnw : (r3.toList == r.toList) = true := bytes_beq (by rw [HR3.out]; exact hnw0)
          clear hnw0
          by_cases hend : q.size < a + 1 + k
          · go_wp2
            go_roundw
            case rel => exact ⟨c + 1, 0, i + 1, i, r3, by go_num, rfl, rfl, rfl, by go_num, by omega, by omega, by omega, by omega, by omega, ⟨H6.out hend, HNN.out.1.symm, by rw [HNN.out.2]; exact HR3.out⟩, hbel3⟩
            case measure => simp [intOf]; omega
          · go_wp2
            go_roundw
            case rel => exact ⟨c, a + 1, i + 1, i, r3, rfl, by go_num, rfl, rfl, by go_num, by omega, by omega, by omega, by omega, by omega, ⟨H7.out (by omega), HNN.out.1.symm, by rw [HNN.out.2]; exact HR3.out⟩, hbel3⟩
            case measure => simp [intOf]; omega
        · have ha0 : ((a : Int) == 0) = true := by simp; omega
          cases hl : (la == (i : Int) - 1) with
          | true =>
            have hnw : (r3.toList == r.toList) = false := bytes_bne (by
              intro h; exact H5.out (by omega) ⟨by simpa using hl, by rw [← HR3.out]; exact h⟩)
            by_cases hend : q.size < a + 1 + k
            · go_wp2
              go_roundw
              case rel => exact ⟨c + 1, 0, i + 1, i, r3, by go_num, rfl, rfl, rfl, by go_num, by omega, by omega, by omega, by omega, by omega, ⟨H6.out hend, HNN.out.1.symm, by rw [HNN.out.2]; exact HR3.out⟩, hbel3⟩
              case measure => simp [intOf]; omega
            · go_wp2
              go_roundw
              case rel => exact ⟨c, a + 1, i + 1, i, r3, rfl, by go_num, rfl, rfl, by go_num, by omega, by omega, by omega, by omega, by omega, ⟨H7.out (by omega), HNN.out.1.symm, by rw [HNN.out.2]; exact HR3.out⟩, hbel3⟩
              case measure => simp [intOf]; omega
          | false =>
            by_cases hend : q.size < a + 1 + k
            · go_wp2
              go_roundw
              case rel => exact ⟨c + 1, 0, i + 1, i, r3, by go_num, rfl, rfl, rfl, by go_num, by omega, by omega, by omega, by omega, by omega, ⟨H6.out hend, HNN.out.1.symm, by rw [HNN.out.2]; exact HR3.out⟩, hbel3⟩
              case measure => simp [intOf]; omega
            · go_wp2
              go_roundw
              case rel => exact ⟨c, a + 1, i + 1, i, r3, rfl, by go_num, rfl, rfl, by go_num, by omega, by omega, by omega, by omega, by omega, ⟨H7.out (by omega), HNN.out.1.symm, by rw [HNN.out.2]; exact HR3.out⟩, hbel3⟩
              case measure => simp [intOf]; omega
    · have HE : Hid (c = ps.length) := by
        show c = _
        rw [← datas_length, HPS.out]
        exact at_end hk1 HA.out.1 (by rw [← Lib.size_eq]; omega) (by rw [← Lib.size_eq]; omega)
      go_wp2_with fail
      refine (Pieces_no ⟨#[88]⟩ 1 1 _ (by show (1 : Nat) ≤ _; omega) (by intro h; have h5 := h.2.2.2.2; revert h5; decide)).mono ?_
      rintro e w4 ⟨rfl, rfl⟩
      have hce : ((c : Int) == (ps.length : Int)) = true := by rw [HE.out]; simp
      go_wp2
      go_ret
      exact ⟨rfl, hbw.trans (hbel.mono hbw.size)⟩
end Go.Proofs.YtbjgpfhbdmcbbaaDoor.covers
