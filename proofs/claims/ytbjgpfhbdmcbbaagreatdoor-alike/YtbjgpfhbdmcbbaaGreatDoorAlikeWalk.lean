import Derived.Test.YtbjgpfhbdmcbbaaGreatDoorP33

/-
  THE WALK OF Alike.
-/
namespace Go.Proofs.YtbjgpfhbdmcbbaaGreatDoor.alike
open Go.RowKit Go.Proofs.YtbjgpfhbdmcbbaaGreatDoor.dnamath Go.Proofs.YtbjgpfhbdmcbbaaGreatDoor.dna Go.Proofs.YtbjgpfhbdmcbbaaGreatDoor.diskm Go.Proofs.YtbjgpfhbdmcbbaaGreatDoor.disk Go.Proofs.YtbjgpfhbdmcbbaaGreatDoor.hex Go.Proofs.YtbjgpfhbdmcbbaaGreatDoor.pieces Go.Proofs.YtbjgpfhbdmcbbaaGreatDoor.files Go.Proofs.YtbjgpfhbdmcbbaaGreatDoor.parse Go.Proofs.YtbjgpfhbdmcbbaaGreatDoor.words Go.Proofs.YtbjgpfhbdmcbbaaGreatDoor.kinds Go.Proofs.YtbjgpfhbdmcbbaaGreatDoor.jobs Go.Proofs.YtbjgpfhbdmcbbaaGreatDoor.base Go.Proofs.YtbjgpfhbdmcbbaaGreatDoor.fill Go.Proofs.YtbjgpfhbdmcbbaaGreatDoor.keep
set_option linter.unusedVariables false

theorem div_ok {x : Int} (h : -9223372036854775808 ≤ x ∧ x ≤ 9223372036854775807) (n : Nat) : -9223372036854775808 ≤ x / 2 ^ n ∧ x / 2 ^ n ≤ 9223372036854775807 := by
  have hp : (1 : Int) ≤ 2 ^ n := by
    have : 1 ≤ 2 ^ n := Nat.one_le_two_pow
    exact_mod_cast this
  rcases Int.lt_or_le x 0 with h0 | h0
  · refine ⟨?_, ?_⟩
    · have : -9223372036854775808 ≤ x / 2 ^ n := by
        rw [Int.le_ediv_iff_mul_le (by omega)]
        refine Int.le_trans ?_ h.1
        have := Int.mul_le_mul_of_nonneg_left hp (show (0 : Int) ≤ 9223372036854775808 by omega)
        omega
      exact this
    · have := Int.ediv_neg_of_neg_of_pos h0 (show (0 : Int) < 2 ^ n by omega)
      omega
  · refine ⟨?_, ?_⟩
    · have := Int.ediv_nonneg h0 (show (0 : Int) ≤ 2 ^ n by omega)
      omega
    · have := Int.ediv_le_self (2 ^ n) h0
      omega

set_option maxHeartbeats 8000000 in
set_option maxRecDepth 100000 in
theorem walk (a0 : Option Addr) (len cap : Nat) (k m bins m2 bins2 sides form : Int) (a bb aE : Addr) (w : World) (hrow : IsRows w a0 len) (hk : -9223372036854775808 ≤ k ∧ k ≤ 9223372036854775807) (hm : -9223372036854775808 ≤ m ∧ m ≤ 9223372036854775807) (hb : -9223372036854775808 ≤ bins ∧ bins ≤ 9223372036854775807) (hm2 : -9223372036854775808 ≤ m2 ∧ m2 ≤ 9223372036854775807) (hb2 : -9223372036854775808 ≤ bins2 ∧ bins2 ≤ 9223372036854775807) (hsd : -9223372036854775808 ≤ sides ∧ sides ≤ 9223372036854775807) (hfm : -9223372036854775808 ≤ form ∧ form ≤ 9223372036854775807) (hG : Gl w a bb aE) :
    Calls Tryz.prog 5 #[.slice a0 len cap, .int .i64 k, .int .i64 m, .int .i64 bins, .int .i64 m2, .int .i64 bins2, .int .i64 sides, .int .i64 form] w fun e w' => e = .returned (.bool true) ∧ Below w.heap.size w w' := by
  obtain ⟨i0, hi, hz0, hz1, hz2⟩ := info_parts infoS
  have HG : Hid (Gl w a bb aE) := hG
  have HFM : Hid (-9223372036854775808 ≤ form ∧ form ≤ 9223372036854775807) := hfm
  have HSD : Hid (-9223372036854775808 ≤ sides ∧ sides ≤ 9223372036854775807) := hsd
  have cre := reads_12 a0 len cap w hrow
  have cop := fun W => options_any k m bins W hk hm hb
  have cop2 := fun W => options_any k m2 bins2 W hk hm2 hb2
  clear hG hrow hk hm hb hm2 hb2 hfm hsd
  go_enter Tryz.func5, Tryz.ntmps5
  go_wp2_with fail
  refine cre.mono ?_
  rintro e w1 ⟨v, ps, rfl, own1, hps, hp12, b1⟩
  obtain ⟨aV, cV, hv⟩ := own_slice own1
  subst hv
  have S1 := srow_of_own own1
  clear own1 cre
  go_wp2_with fail
  refine (cop _).mono ?_
  rintro e w2 ⟨K, M, Bn, rfl, ho, hK, b2⟩
  have HO : Hid (OptIs K M Bn) := ho
  have HK : Hid ((K : Int) = 1 + 2 * pickI k 16) := hK
  have hK1 := ho.k1
  clear ho hK cop
  go_wp2_with fail
  obtain ⟨W3, hW3⟩ : ∃ W3, W3 = w2.alloc (.cells #[.int .i64 (K : Int), .int .i64 (M : Int), .int .i64 (Bn : Int)] 29) := ⟨_, rfl⟩
  obtain ⟨qo, hqo⟩ : ∃ qo, qo = w2.heap.size := ⟨_, rfl⟩
  have O3 : OptAt W3 qo K M Bn := ⟨by rw [hW3, hqo]; exact heap_alloc_new _ _⟩
  have b3 : Below w2.heap.size w2 W3 := by rw [hW3]; exact (Below.refl _ w2).alloc (Nat.le_refl _) _
  rw [← hW3, ← hqo]
  clear hW3 hqo
  refine (cop2 _).mono ?_
  rintro e w4 ⟨K2, M2, Bn2, rfl, ho2, hK2, b4⟩
  have e2 : K2 = K := by have := HK.out; omega
  subst e2
  have HO2 : Hid (OptIs K2 M2 Bn2) := ho2
  clear ho2 hK2 cop2 HK
  go_wp2_with fail
  obtain ⟨W5, hW5⟩ : ∃ W5, W5 = w4.alloc (.cells #[.int .i64 (K2 : Int), .int .i64 (M2 : Int), .int .i64 (Bn2 : Int)] 29) := ⟨_, rfl⟩
  obtain ⟨qp, hqp⟩ : ∃ qp, qp = w4.heap.size := ⟨_, rfl⟩
  have P5 : OptAt W5 qp K2 M2 Bn2 := ⟨by rw [hW5, hqp]; exact heap_alloc_new _ _⟩
  have b5 : Below w4.heap.size w4 W5 := by rw [hW5]; exact (Below.refl _ w4).alloc (Nat.le_refl _) _
  rw [← hW5, ← hqp]
  clear hW5 hqp
  have B2 := b1.trans (b2.mono b1.size)
  have B3 := B2.trans (b3.mono B2.size)
  have B4 := B3.trans (b4.mono B3.size)
  have B5 : Below w.heap.size w W5 := B4.trans (b5.mono B4.size)
  have S5 : SRow W5 (.slice aV ps.length cV) ps := (((S1.later b2).later b3).later b4).later b5
  have O5 : OptAt W5 qo K2 M Bn := (O3.new ((New.refl (Bo := 0) _).below b4)).new ((New.refl (Bo := 0) _).below b5)
  have H5 : Hid (Below w.heap.size w W5 ∧ SRow W5 (.slice aV ps.length cV) ps ∧ OptAt W5 qo K2 M Bn ∧ OptAt W5 qp K2 M2 Bn2) := ⟨B5, S5, O5, P5⟩
  have HPS : Hid (ReadsIs ps) := hps
  clear b1 b2 b3 b4 b5 B2 B3 B4 B5 S5 O5 P5 O3 S1 hps
  go_wp2_with fail
  go_loopw [20, 21, 22] (fun vo i _ wr => ∃ (m : Nat) (qs : List ByteArray), m ≤ ps.length ∧ i = .int .i64 ((m : Int) - 1) ∧ qs.length ≤ 12 ∧ Hid (Oth ps K2 m qs) ∧ Hid (wr.ownsRow W5.heap.size 9 1 vo qs.length (scells qs) ∧ Below W5.heap.size W5 wr)) (fun _ i _ _ => (intOf i + 1).toNat)
  case atStart => exact ⟨ps.length, [], Nat.le_refl _, rfl, Nat.zero_le _, oth_start _ _, World.ownsRow_nil _ _ _ _, Below.refl _ _⟩
  case round =>
    obtain ⟨m', qs, hm', rfl, hql, HQ, HB⟩ := hrel
    rename World => wr
    cases m' with
    | zero =>
      have hd : (((0 : Nat) : Int) - 1) = -1 := rfl
      rw [hd]
      have hqs := HQ.out.reads (by omega)
      obtain ⟨aQ, cQ, hvq⟩ := own_slice HB.out.1
      subst hvq
      have BX : Below w.heap.size w wr := H5.out.1.trans (HB.out.2.mono H5.out.1.size)
      have N5 : New 0 W5 wr := (New.refl _).below HB.out.2
      have HX : Hid (Below w.heap.size w wr ∧ SRow wr (.slice aV ps.length cV) ps ∧ SRow wr (.slice aQ qs.length cQ) qs ∧ OptAt wr qo K2 M Bn ∧ OptAt wr qp K2 M2 Bn2) := ⟨BX, H5.out.2.1.later HB.out.2, srow_of_own HB.out.1, H5.out.2.2.1.new N5, H5.out.2.2.2.new N5⟩
      have HQS : Hid (ReadsIs qs) := hqs
      have HPM : Hid ((wordsOf K2 (datas qs)).Perm (wordsOf K2 (datas ps))) := by
        have := HQ.out.perm
        rw [List.drop_zero] at this
        exact this
      have cl := lives_b a bb aE wr (HG.out.below BX)
      clear hd hqs N5 BX HB HQ H5
      go_wp2_with fail
      refine cl.mono ?_
      rintro e w6 ⟨rfl, b6⟩
      have s6 : Below w6.heap.size w6 w6.drew := (⟨rfl, rfl, rfl, rfl, Nat.le_add_right _ _⟩ : Still w6 w6.drew).below _
      have b6d : Below wr.heap.size wr w6.drew := b6.trans (s6.mono b6.size)
      have N6 : New 0 wr w6.drew := (New.refl _).below b6d
      have B6 := HX.out.1.trans (b6d.mono HX.out.1.size)
      have H6 : Hid (Below w.heap.size w w6.drew ∧ SRow w6.drew (.slice aV ps.length cV) ps ∧ SRow w6.drew (.slice aQ qs.length cQ) qs ∧ OptAt w6.drew qo K2 M Bn ∧ OptAt w6.drew qp K2 M2 Bn2) := ⟨B6, HX.out.2.1.later b6d, HX.out.2.2.1.later b6d, HX.out.2.2.2.1.new N6, HX.out.2.2.2.2.new N6⟩
      have AB : Hid (∀ W : World, Below w6.drew.heap.size w6.drew W → W.cell? ⟨qo, 0, none⟩ = some (.int .i64 (K2 : Int)) ∧ W.cell? ⟨qo, 1, none⟩ = some (.int .i64 (M : Int)) ∧ W.cell? ⟨qo, 2, none⟩ = some (.int .i64 (Bn : Int))) := fun W hW => (H6.out.2.2.2.1.new ((New.refl (Bo := 0) _).below hW)).cells
      have cx := AB.out w6.drew (Below.refl _ _)
      have S6 := H6.out.2.1
      have G6 : Gl w6.drew a bb aE := HG.out.below H6.out.1
      clear cl HX s6 b6 b6d N6 B6
      go_upto_region 23 with fail
      go_region_held3 (fun w' => w'.cell? ⟨qo, 0, none⟩ = some (.int .i64 (K2 : Int)) ∧ w'.cell? ⟨qo, 1, none⟩ = some (.int .i64 (M : Int)) ∧ w'.cell? ⟨qo, 2, none⟩ = some (.int .i64 (Bn : Int))) (first | with_reducible exact cx | with_reducible exact AB.out _ b7 | with_reducible exact AB.out _ (b7.trans (b8.mono b7.size))) (first | (go_at_call 16; refine (written_any _ ps form 5 _ S6 HPS.out HFM.out (by omega)).mono ?_; rintro e w7 ⟨s, rfl, hs, hfm, b7⟩; have HFT : Hid (Fit K2 M Bn s (datas ps)) := fit_of HO.out HPS.out hs hfm; clear hs hfm) | (go_at_call 15; refine (counted_b K2 M Bn s (datas ps) a bb aE _ (G6.below b7) HFT.out).mono ?_; rintro e w8 ⟨v8, es, rfl, er8, t8, b8⟩))
      all_goals
        obtain ⟨a8, c8, hv8⟩ := er8.slice
        subst hv8
        have s8 : Below w8.heap.size w8 w8.drew := (⟨rfl, rfl, rfl, rfl, Nat.le_add_right _ _⟩ : Still w8 w8.drew).below _
        have b68 := b7.trans (b8.mono b7.size)
        have b8d := b68.trans (s8.mono b68.size)
        have B8 := H6.out.1.trans (b8d.mono H6.out.1.size)
        have H8 : Hid (Below w.heap.size w w8.drew ∧ ERow w8.drew (.slice a8 es.length c8) es ∧ OptAt w8.drew qp K2 M2 Bn2) := ⟨B8, er8.below s8, H6.out.2.2.2.2.new ((New.refl (Bo := 0) _).below b8d)⟩
        have S8 := H6.out.2.2.1.later b8d
        have HT8 : Hid (TallyOf (wordsOf K2 (datas ps)) (es.map cv)) := t8
        have hwl := HFT.out.words
        have G8 : Gl w8.drew a bb aE := HG.out.below B8
        have AB2 : Hid (∀ W : World, Below w8.drew.heap.size w8.drew W → W.cell? ⟨qp, 0, none⟩ = some (.int .i64 (K2 : Int)) ∧ W.cell? ⟨qp, 1, none⟩ = some (.int .i64 (M2 : Int)) ∧ W.cell? ⟨qp, 2, none⟩ = some (.int .i64 (Bn2 : Int))) := fun W hW => (H8.out.2.2.new ((New.refl (Bo := 0) _).below hW)).cells
        have cx2 := AB2.out w8.drew (Below.refl _ _)
        clear AB cx S6 G6 b7 b8 s8 b68 b8d er8 t8 B8 HFT
        have hf' : -9223372036854775808 ≤ IntKind.i64.wrap (form + 1) ∧ IntKind.i64.wrap (form + 1) ≤ 9223372036854775807 := by rw [IntWalk.i64_left]; exact wide_ok (form + 1)
        go_upto_region 24 with fail
        go_region_held3 (fun w' => w'.cell? ⟨qp, 0, none⟩ = some (.int .i64 (K2 : Int)) ∧ w'.cell? ⟨qp, 1, none⟩ = some (.int .i64 (M2 : Int)) ∧ w'.cell? ⟨qp, 2, none⟩ = some (.int .i64 (Bn2 : Int))) (first | with_reducible exact cx2 | with_reducible exact AB2.out _ b9 | with_reducible exact AB2.out _ (b9.trans (b10.mono b9.size))) (first | (go_at_call 16; refine (written_any _ qs _ 3 _ S8 HQS.out hf' (by omega)).mono ?_; rintro e w9 ⟨s2, rfl, hs2, hfm2, b9⟩; have HFT2 : Hid (Fit K2 M2 Bn2 s2 (datas qs)) := fit_of HO2.out HQS.out hs2 hfm2; clear hs2 hfm2) | (go_at_call 15; refine (counted_b K2 M2 Bn2 s2 (datas qs) a bb aE _ (G8.below b9) HFT2.out).mono ?_; rintro e w10 ⟨v10, es2, rfl, er10, t10, b10⟩))
        all_goals
          have hes := tally_same HT8.out t10 HPM.out
          subst hes
          obtain ⟨a10, c10, hv10⟩ := er10.slice
          subst hv10
          have b810 := b9.trans (b10.mono b9.size)
          have B10 := H8.out.1.trans (b810.mono H8.out.1.size)
          have cse := sameEntries_any _ _ es2 w10 (H8.out.2.1.below b810) er10 (by have := (entries_of HT8.out hwl).1; omega)
          have HB10 : Hid (Below w.heap.size w w10) := B10
          clear AB2 cx2 S8 G8 b9 b10 b810 B10 er10 t10 HFT2 H8 HT8 H6
          go_wp2_with fail
          refine cse.mono ?_
          rintro e w11 ⟨rfl, b11⟩
          have HB11 : Hid (Below w.heap.size w w11) := HB10.out.trans (b11.mono HB10.out.size)
          clear cse b11
          go_wp2
          go_ret
          exact ⟨rfl, HB11.out⟩
    | succ n =>
      have hd : (((n + 1 : Nat) : Int) - 1) = (n : Int) := by omega
      rw [hd]
      obtain ⟨r, hr⟩ : ∃ r, ps[n]? = some r := ⟨_, List.getElem?_eq_getElem (by omega)⟩
      have hg := HPS.out.2 r (List.mem_of_getElem? hr)
      have HR : Hid (ps[n]? = some r ∧ 0 < r.size ∧ r.size ≤ 60 ∧ greatB r.data.toList) := ⟨hr, hg⟩
      have hr60 := hg.2.1
      rcases H5.out.2.1 with ⟨_, e0⟩ | ⟨g, cap', e1, hgl, hc⟩
      · rw [e0] at hm'; simp at hm'
      cases e1
      have c0 : wr.cell? ⟨g, n, none⟩ = some (.string r) := by
        rw [HB.out.2.cell (p := ⟨g, n, none⟩) hgl, hc n (by omega)]
        have := (List.getElem?_eq_some_iff.1 hr).2
        rw [this]
      clear hd hr hg hgl hc
      go_wp2_with fail
      refine (pick_any _ 2 _ (div_ok HSD.out n) (by omega) (by omega)).mono ?_
      rintro e wd ⟨pk, rfl, hpk, hwd⟩
      have hwd' := hwd.symm
      subst hwd'
      clear hwd c0
      by_cases h1 : pk = 1
      · subst h1
        go_wp2_with fail
        go_loopw [23, 24] (fun vt vc w2 => ∃ (c : Nat) (t : ByteArray), c ≤ r.size ∧ vc = .int .i64 (c : Int) ∧ vt = .string t ∧ t.size ≤ 60 ∧ Hid (t.data.toList = turnN (r.data.toList.take c)) ∧ Hid (Below wr.heap.size wr w2)) (fun _ vc _ => r.size - (intOf vc).toNat)
        case atStart => exact ⟨0, ⟨#[]⟩, Nat.zero_le _, rfl, rfl, Nat.zero_le _, by show _ = _; simp [turnN], Below.refl _ _⟩
        case round =>
          obtain ⟨c, t, hc, rfl, rfl, ht60, HT, HW⟩ := hrel
          rename World => w2
          by_cases hlt : c < r.size
          · have hts : t.size = c := by rw [Lib.size_eq, HT.out, turnN_len, List.length_take, ← Lib.size_eq]; omega
            have HTS : Hid (t.size + 1 ≤ 60) := by show _ ≤ _; omega
            have HTT : Hid (turnN (r.data.toList.take (c + 1)) = (if r[c] == 78 then 78 else comp r[c]) :: turnN (r.data.toList.take c)) := turnN_take r c hlt
            clear hts
            by_cases hN : r[c] = 78
            · have hb : ((r[c].toNat : Int) == 78) = true := by rw [hN]; rfl
              have hb2 : (r[c].toNat : Int) = 78 := by rw [hN]; rfl
              have HN : Hid (r[c] = 78) := hN
              clear hN
              go_wp2
              go_roundw
              case rel => exact ⟨c + 1, ⟨#[78]⟩ ++ t, by omega, by go_num, rfl, by rw [ByteArray.size_append]; have := HTS.out; have e : (⟨#[78]⟩ : ByteArray).size = 1 := rfl; omega, by show _ = _; rw [HTT.out, HN.out, ← HT.out]; simp, HW⟩
              case measure => simp [intOf]; omega
            · have hb : ((r[c].toNat : Int) == 78) = false := by
                rw [beq_eq_false_iff_ne]; intro e
                exact hN (UInt8.toNat_inj.1 (by have : (78 : UInt8).toNat = 78 := rfl; omega))
              have HN : Hid ((r[c] == 78) = false) := by show _ = _; simpa using hN
              have hsl : ∀ W : World, (Instr.slice 9 (.string r) (some (.int .i64 (c : Int))) (some (.int .i64 ((c : Int) + 1))) none).run Tryz.prog W = .ok (.string (r.extract c (c + 1))) W := fun W => slice_km r c 1 (by omega) (by omega) W
              have hx : (r.extract c (c + 1)).data.toList = [r[c]] := extract_one r c hlt
              have hall : (r.extract c (c + 1)).data.toList.all isB = true := by
                rw [hx]
                have h2 := List.all_eq_true.1 HR.out.2.2.2 r[c] (by have h9 : r.data.toList[c]'(by rw [← Lib.size_eq]; exact hlt) = r[c] := rfl; rw [← h9]; exact List.getElem_mem _)
                simp only [isBN, Bool.or_eq_true, beq_iff_eq] at h2
                rcases h2 with h2 | h2
                · simp [h2]
                · exact absurd h2 hN
              have hsz : (r.extract c (c + 1)).size = 1 := by rw [Lib.size_eq, hx]; rfl
              have ct : Calls Tryz.prog 13 #[.string (r.extract c (c + 1))] w2 fun e w' => ∃ y : ByteArray, e = .returned (.tuple #[.string y, .int .i64 0]) ∧ y.data.toList = [comp r[c]] ∧ y.size = 1 ∧ Below w2.heap.size w2 w' := by
                refine (Turned_any _ w2 (by omega)).mono ?_
                rintro e w' ⟨y, n, rfl, h1, h2⟩
                have h3 := turned_word h1 hall (by omega)
                rw [h3.1]
                have h4 : y.data.toList = [comp r[c]] := by rw [h3.2, hx]; rfl
                exact ⟨y, rfl, h4, by rw [Lib.size_eq, h4]; rfl, h2⟩
              clear hN hx hall hsz
              go_wp2_with fail
              refine ct.mono ?_
              rintro e w3 ⟨y, rfl, hy, hys, b3⟩
              have HY : Hid (y.data.toList = [comp r[c]] ∧ y.size = 1) := ⟨hy, hys⟩
              have hys2 : y.size ≤ 1 := by omega
              have HW3 : Hid (Below wr.heap.size wr w3) := HW.out.trans (b3.mono HW.out.size)
              clear ct hy hys b3 hsl
              go_wp2
              go_roundw
              case rel => exact ⟨c + 1, y ++ t, by omega, by go_num, rfl, by rw [ByteArray.size_append]; have := HTS.out; omega, by show _ = _; rw [HTT.out, HN.out, ← HT.out, ByteArray.data_append, Array.toList_append, HY.out.1]; rfl, HW3⟩
              case measure => simp [intOf]; omega
          · have HT2 : Hid (t.data.toList = turnN r.data.toList) := by show _ = _; rw [HT.out, take_all r c hlt]
            have hownA := own_later HB.out.1 HW.out
            have hbA : Below W5.heap.size W5 w2 := HB.out.2.trans (HW.out.mono HB.out.2.size)
            have hbsA := hbA.size
            clear HW HT
            have hmx : qs.length + 1 ≤ maxLen := by unfold maxLen; omega
            have hby : (qs.length + 1) * 16 ≤ 140737488355328 := by omega
            go_wp2_with (at_builtin; refine wpList_append_own _ rfl (.tmp 86) (.tmp 88) 26 rfl W5.heap.size 9 i0 (.string ByteArray.empty) 1 16 Tryz.underlying26 hi hz0 hz1 hz2 rfl (by decide) _ _ _ rfl (hownA.alloc _) ⟨w2.heap.size, 0, none⟩ 1 1 [.string t] rfl rfl (pieces.cell_one _ _ _) (one_str _) hmx hby (by simp; omega) ?_; intro v' w3 hown' hgrow _)
            obtain ⟨R1, R2⟩ := push_str (c := t) hownA hbA hbsA hown' hgrow
            have HN : Hid (Oth ps K2 n (qs ++ [t]) ∧ w3.ownsRow W5.heap.size 9 1 v' (qs ++ [t]).length (scells (qs ++ [t])) ∧ Below W5.heap.size W5 w3) := ⟨HQ.out.step hK1 HR.out.1 HR.out.2 (.inr (by rw [HT2.out])), R1, R2⟩
            have hql2 : (qs ++ [t]).length ≤ 12 := by have := HN.out.1.len; omega
            clear hown' hgrow R1 R2 hownA hbA
            go_wp2
            go_roundw
            case rel => exact ⟨n, qs ++ [t], by omega, rfl, hql2, HN.out.1, HN.out.2⟩
            case measure => simp [intOf]
      · have hz : ((pk : Int) == 1) = false := beq_eq_false_iff_ne.2 (by omega)
        have hownA := HB.out.1
        have hbA := HB.out.2
        have hbsA := hbA.size
        have hmx : qs.length + 1 ≤ maxLen := by unfold maxLen; omega
        have hby : (qs.length + 1) * 16 ≤ 140737488355328 := by omega
        go_wp2_with (at_builtin; refine wpList_append_own _ rfl (.tmp 86) (.tmp 88) 26 rfl W5.heap.size 9 i0 (.string ByteArray.empty) 1 16 Tryz.underlying26 hi hz0 hz1 hz2 rfl (by decide) _ _ _ rfl (hownA.alloc _) ⟨wr.heap.size, 0, none⟩ 1 1 [.string r] rfl rfl (pieces.cell_one _ _ _) (one_str _) hmx hby (by simp; omega) ?_; intro v' w3 hown' hgrow _)
        obtain ⟨R1, R2⟩ := push_str (c := r) hownA hbA hbsA hown' hgrow
        have HN : Hid (Oth ps K2 n (qs ++ [r]) ∧ w3.ownsRow W5.heap.size 9 1 v' (qs ++ [r]).length (scells (qs ++ [r])) ∧ Below W5.heap.size W5 w3) := ⟨HQ.out.step hK1 HR.out.1 HR.out.2 (.inl rfl), R1, R2⟩
        have hql2 : (qs ++ [r]).length ≤ 12 := by have := HN.out.1.len; omega
        clear hown' hgrow R1 R2 hownA hbA
        go_wp2
        go_roundw
        case rel => exact ⟨n, qs ++ [r], by omega, rfl, hql2, HN.out.1, HN.out.2⟩
        case measure => simp [intOf]
end Go.Proofs.YtbjgpfhbdmcbbaaGreatDoor.alike
