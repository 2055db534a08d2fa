import Derived.Test.YtbjgpfhbdmcbbaaGreatDoorP32

/-
  THE WALK OF Asked.
-/
namespace Go.Proofs.YtbjgpfhbdmcbbaaGreatDoor.asked
open Go.RowKit Go.Proofs.YtbjgpfhbdmcbbaaGreatDoor.dnamath Go.Proofs.YtbjgpfhbdmcbbaaGreatDoor.dna Go.Proofs.YtbjgpfhbdmcbbaaGreatDoor.diskm Go.Proofs.YtbjgpfhbdmcbbaaGreatDoor.disk Go.Proofs.YtbjgpfhbdmcbbaaGreatDoor.hex Go.Proofs.YtbjgpfhbdmcbbaaGreatDoor.pieces Go.Proofs.YtbjgpfhbdmcbbaaGreatDoor.files Go.Proofs.YtbjgpfhbdmcbbaaGreatDoor.parse Go.Proofs.YtbjgpfhbdmcbbaaGreatDoor.words Go.Proofs.YtbjgpfhbdmcbbaaGreatDoor.kinds Go.Proofs.YtbjgpfhbdmcbbaaGreatDoor.jobs Go.Proofs.YtbjgpfhbdmcbbaaGreatDoor.base Go.Proofs.YtbjgpfhbdmcbbaaGreatDoor.fill Go.Proofs.YtbjgpfhbdmcbbaaGreatDoor.keep
set_option linter.unusedVariables false

set_option maxHeartbeats 8000000 in
set_option maxRecDepth 100000 in
theorem walk (a0 : Option Addr) (len cap : Nat) (k m bins at_ many : Int) (a bb aE : Addr) (w : World) (hrow : IsRows w a0 len) (hk : -9223372036854775808 ≤ k ∧ k ≤ 9223372036854775807) (hm : -9223372036854775808 ≤ m ∧ m ≤ 9223372036854775807) (hb : -9223372036854775808 ≤ bins ∧ bins ≤ 9223372036854775807) (hat : -9223372036854775808 ≤ at_ ∧ at_ ≤ 9223372036854775807) (hmn : -9223372036854775808 ≤ many ∧ many ≤ 9223372036854775807) (hG : Gl w a bb aE) :
    Calls Tryz.prog 7 #[.slice a0 len cap, .int .i64 k, .int .i64 m, .int .i64 bins, .int .i64 at_, .int .i64 many] w fun e w' => e = .returned (.bool true) ∧ Below w.heap.size w w' := by
  have HG : Hid (Gl w a bb aE ∧ IsRows w a0 len) := ⟨hG, hrow⟩
  have HAT : Hid (-9223372036854775808 ≤ at_ ∧ at_ ≤ 9223372036854775807) := hat
  have HMN : Hid (-9223372036854775808 ≤ many ∧ many ≤ 9223372036854775807) := hmn
  have co := options_any k m bins w hk hm hb
  clear hG hrow hat hmn hk hm hb
  go_enter Tryz.func7, Tryz.ntmps7
  go_wp2_with fail
  refine co.mono ?_
  rintro e w1 ⟨K, M, Bn, rfl, ho, -, b1⟩
  have HO : Hid (OptIs K M Bn) := ho
  have hK1 := ho.k1
  have hK2 := ho.k2
  clear ho co
  go_wp2_with fail
  obtain ⟨W2, hW2⟩ : ∃ W2, W2 = w1.alloc (.cells #[.int .i64 (K : Int), .int .i64 (M : Int), .int .i64 (Bn : Int)] 29) := ⟨_, rfl⟩
  obtain ⟨qo, hqo⟩ : ∃ qo, qo = w1.heap.size := ⟨_, rfl⟩
  have O2 : OptAt W2 qo K M Bn := ⟨by rw [hW2, hqo]; exact heap_alloc_new _ _⟩
  have B2 : Below w.heap.size w W2 := by rw [hW2]; exact b1.trans (((Below.refl _ w1).alloc (Nat.le_refl _) _).mono b1.size)
  rw [← hW2, ← hqo]
  clear hW2 hqo b1
  refine (New_any (Bo := w.heap.size) _ _ B2.size).mono ?_
  rintro e w3 ⟨p, rfl, D3, b3⟩
  have B3 : Below w.heap.size w w3 := B2.trans (b3.mono B2.size)
  have B3d : Below w.heap.size w w3.drew := B3.trans ((⟨rfl, rfl, rfl, rfl, Nat.le_add_right _ _⟩ : Still w3 w3.drew).below _)
  have b3d : Below w3.heap.size w3 w3.drew := (⟨rfl, rfl, rfl, rfl, Nat.le_add_right _ _⟩ : Still w3 w3.drew).below _
  have O3 : OptAt w3.drew qo K M Bn := (O2.new ((New.refl (Bo := 0) _).below b3)).new ((New.refl (Bo := 0) _).below b3d)
  have D3d : Disk w.heap.size w3.drew p (newDisk 1152921504606846976) := D3.below b3d
  have R3 : IsRows w3.drew a0 len := HG.out.2.later B3d
  have G3 : Gl w3.drew a bb aE := HG.out.1.below B3d
  have AB : Hid (∀ W : World, New w.heap.size w3.drew W → W.cell? ⟨qo, 0, none⟩ = some (.int .i64 (K : Int)) ∧ W.cell? ⟨qo, 1, none⟩ = some (.int .i64 (M : Int)) ∧ W.cell? ⟨qo, 2, none⟩ = some (.int .i64 (Bn : Int))) := fun W hW => (O3.new hW).cells
  have cx := AB.out w3.drew (New.refl _)
  have HB3 : Hid (New w.heap.size w w3.drew) := (New.refl w).below B3d
  have HO3 : Hid (OptAt w3.drew qo K M Bn) := O3
  clear b3d B3 D3 B2 O2 b3 O3 B3d
  go_upto_region 3 with fail
  go_region_held3 (fun w' => w'.cell? ⟨qo, 0, none⟩ = some (.int .i64 (K : Int)) ∧ w'.cell? ⟨qo, 1, none⟩ = some (.int .i64 (M : Int)) ∧ w'.cell? ⟨qo, 2, none⟩ = some (.int .i64 (Bn : Int))) (first | with_reducible exact cx | with_reducible exact AB.out _ N6 | with_reducible exact AB.out _ N7 | with_reducible exact AB.out _ N8) (first | (go_at_call 10; refine (reads_any a0 len cap _ R3).mono ?_; rintro e w6 ⟨v, ps, rfl, own6, hps, b6⟩; have N6 : New w.heap.size w3.drew w6 := (New.refl _).below b6; have S6 := srow_of_own own6; have HPS : Hid (ReadsIs ps) := hps; clear hps own6) | (go_at_call 16; refine (written_any v ps 0 7 _ S6 HPS.out (by omega) (by omega)).mono ?_; rintro e w7 ⟨s, rfl, hs, hfm, b7⟩; have N7 : New w.heap.size w3.drew w7 := New.below N6 b7; have HFT : Hid (Fit K M Bn s (datas ps)) := fit_of HO.out HPS.out hs hfm; clear hs hfm) | (go_at_call 19; refine (Run_any p K M Bn s (datas ps) _ 0 a bb aE _ (G3.new N7) ((D3d.below b6).below b7) new_room (by omega) HFT.out (new_look _ _) (new_look _ _)).mono ?_; rintro e w8 ⟨S8, es, rfl, D8, F8, n8⟩; have N8 : New w.heap.size w3.drew w8 := keep.New.and N7 n8))
  all_goals
    have H8 : Hid (New w.heap.size w w8 ∧ Gl w8 a bb aE ∧ OptAt w8 qo K M Bn ∧ Done S8 (0 + 120) K (datas ps) (runB (textB K M Bn s)) es) := ⟨keep.New.and HB3.out N8, G3.new N8, HO3.out.new N8, F8⟩
    have cc := Copy_any p S8 _ w8 D8 F8.room.good.ok (by omega)
    have hwl := HFT.out.words
    clear N8 N7 N6 F8 D8 n8 G3 D3d R3 AB HB3 HO3 b6 b7 S6 cx HPS
    go_wp2_with fail
    refine cc.mono ?_
    rintro e w9 ⟨q, rfl, D9, b9⟩
    have cop := Open_ok q K S8 _ (datas ps) (runB (textB K M Bn s)) es a bb aE w9 (H8.out.2.1.below b9) D9 (by omega) H8.out.2.2.2 hK1 hK2 hwl (run_size _) (run_hex _)
    have H9 : Hid (New w.heap.size w w9 ∧ New w.heap.size w8 w9) := ⟨New.below H8.out.1 b9, New.below (New.refl _) b9⟩
    clear cc D9 b9
    go_wp2_with fail
    refine cop.mono ?_
    rintro e w10 ⟨qb, ev, rfl, B10, n10⟩
    have n810 := keep.New.and H9.out.2 n10
    have G10 := H8.out.2.1.new n810
    have N10 := keep.New.and H8.out.1 n810
    have cl := lives_yes (Bo := w.heap.size) a bb aE w10 G10 N10.size
    have H10 : Hid (New w.heap.size w w10 ∧ BaseAt w10 qb K w9.heap.size ev es (sumC es) ∧ OptAt w10 qo K M Bn) := ⟨N10, B10, H8.out.2.2.1.new n810⟩
    clear cop n810 G10 N10 B10 n10 H9
    go_wp2_with fail
    refine cl.mono ?_
    rintro e w11 ⟨rfl, n11⟩
    have B11 := H10.out.2.1.new n11
    have O11 := H10.out.2.2.new n11
    have N11 := keep.New.and H10.out.1 n11
    have cs := Sums_any qb K _ ev es _ w11 B11
    have hel := (entries_of H8.out.2.2.2.tally hwl).1
    have HEN : Hid (∀ (k : Nat) (x : Ent), es[k]? = some x → EntIs K es x) := (entries_of H8.out.2.2.2.tally hwl).2
    have HSO : Hid (((es.map cv).map Prod.fst).Pairwise (· < ·)) := H8.out.2.2.2.tally.sorted
    have H11 : Hid (New w.heap.size w w11 ∧ BaseAt w11 qb K w9.heap.size ev es (sumC es) ∧ OptAt w11 qo K M Bn) := ⟨N11, B11, O11⟩
    clear B11 O11 N11 n11 cl H10 H8 HFT
    go_wp2_with fail
    refine cs.mono ?_
    rintro e w12 ⟨rfl, s12⟩
    have b12 : Below w11.heap.size w11 w12 := s12.below _
    have B12 := H11.out.2.1.below b12
    have csc := Scan_any qb K _ ev es _ ⟨#[]⟩ 20000 w12 B12 (by omega)
    have H12 : Hid (New w.heap.size w w12 ∧ BaseAt w12 qb K w9.heap.size ev es (sumC es) ∧ OptAt w12 qo K M Bn) := ⟨New.below H11.out.1 b12, B12, H11.out.2.2.new ((New.refl (Bo := 0) _).below b12)⟩
    clear b12 B12 s12 cs H11
    go_wp2_with fail
    refine csc.mono ?_
    rintro e w13 ⟨v, i, f, rfl, hf, own13, b13⟩
    have hi := found_nil hf
    subst hi
    rw [List.drop_zero, List.take_of_length_le (by omega)] at own13
    obtain ⟨aV, cV, hv⟩ := own_slice own13
    subst hv
    have B13 := H12.out.2.1.below b13
    have O13 := H12.out.2.2.new ((New.refl (Bo := 0) _).below b13)
    have ck : ∀ W, Still w13 W → Calls Tryz.prog 24 #[.pointer (some ⟨qb, 0, none⟩)] W fun e w' => e = .returned (.int .i64 (K : Int)) ∧ w' = W := fun W hW => K_any qb K _ ev es _ W (B13.below (hW.below _))
    have ox := O13.cells.1
    have H13 : Hid (New w.heap.size w w13 ∧ BaseAt w13 qb K w9.heap.size ev es (sumC es) ∧ w13.ownsRow w12.heap.size 43 2 (.slice aV es.length cV) es.length (ecells es)) := ⟨New.below H12.out.1 b13, B13, own13⟩
    clear b13 B13 O13 own13 hf csc H12
    go_upto_region 10 with fail
    go_quiet ((go_at_call 24; exact Calls.quiet_of_same (ck _ (Still.drewN _ _))))
    obtain ⟨W14, hW14⟩ : ∃ W, W = w13.drewN nq := ⟨_, rfl⟩
    have b14 : Below w13.heap.size w13 W14 := by rw [hW14]; exact (Still.drewN _ _).below _
    have H14 : Hid (New w.heap.size w W14 ∧ BaseAt W14 qb K w9.heap.size ev es (sumC es) ∧ W14.ownsRow w12.heap.size 43 2 (.slice aV es.length cV) es.length (ecells es)) := ⟨New.below H13.out.1 b14, H13.out.2.1.below b14, row_keepB H13.out.2.2 (TK.below b14)⟩
    rw [← hW14]
    clear hW14 b14 H13 ck ox
    go_wp2_with fail
    go_loopw [23, 24] (fun sv i wr => ∃ k : Nat, k ≤ es.length ∧ i = .int .i64 (k : Int) ∧ sv = .int .i64 (sumC (es.take k) : Int) ∧ Hid (Below W14.heap.size W14 wr)) (fun _ i _ => es.length - (intOf i).toNat)
    case atStart => exact ⟨0, Nat.zero_le _, rfl, rfl, Below.refl _ _⟩
    case round =>
      obtain ⟨k, hk, rfl, rfl, hB⟩ := hrel
      rename World => wr
      by_cases hlt : k < es.length
      · obtain ⟨x, hx⟩ : ∃ x, es[k]? = some x := ⟨_, List.getElem?_eq_getElem hlt⟩
        have HE : Hid (EntIs K es x) := HEN.out k x hx
        have hx1 := HE.out.one
        have hx2 := HE.out.few
        have row0 := H14.out.2.2
        rcases row0.2 with ⟨_, e0⟩ | ⟨g, cap', cur, e1, _, hg, _⟩
        · omega
        cases e1
        have hgl := lt_of_block hg
        have C0 : Hid (∀ W, Below W14.heap.size W14 W → W.cell? ⟨g, k * 2, none⟩ = some (.string x.1) ∧ W.cell? ⟨g, k * 2 + 1, none⟩ = some (.int .i64 (x.2 : Int))) := fun W hW => by
          refine ⟨?_, ?_⟩
          · rw [hW.cell (p := ⟨g, k * 2, none⟩) hgl, row0.cellAt (g := g) _ (by omega)]; exact ecells_at0 _ _ _ hx
          · rw [hW.cell (p := ⟨g, k * 2 + 1, none⟩) hgl, row0.cellAt (g := g) _ (by omega)]; exact ecells_at1 _ _ _ hx
        have hsl : sumC (es.take k) ≤ 1440 * 1440 := by
          refine Nat.le_trans (sumC_le (L := 1440) (fun y hy => ?_)) (Nat.mul_le_mul_right _ ?_)
          · obtain ⟨j, hj⟩ := List.getElem?_of_mem (List.mem_of_mem_take hy)
            exact (HEN.out j y hj).few
          · rw [List.length_take]; omega
        have HSU : Hid (sumC (es.take (k + 1)) = sumC (es.take k) + x.2) := sumC_take hx
        obtain ⟨t, ht⟩ : ∃ t, t = sumC (es.take k) := ⟨_, rfl⟩
        rw [← ht] at hsl HSU ⊢
        have ct : Calls Tryz.prog 13 #[.string x.1] wr fun e w' => ∃ r : ByteArray, e = .returned (.tuple #[.string r, .int .i64 0]) ∧ r.data.toList = turn x.1.data.toList ∧ Below wr.heap.size wr w' := by
          refine (Turned_any x.1 wr (by have := HE.out.size; omega)).mono ?_
          rintro e w' ⟨r, n, rfl, h1, h2⟩
          have h3 := turned_word h1 HE.out.all (by have := HE.out.size; omega)
          rw [h3.1]
          exact ⟨r, rfl, h3.2, h2⟩
        have d0 := (C0.out wr hB.out).1
        clear ht hx hg hgl row0
        go_wp2_with fail
        refine ct.mono ?_
        rintro e wa ⟨r, rfl, hr, ba⟩
        have Ba := hB.out.trans (ba.mono hB.out.size)
        have da := (C0.out wa Ba).1
        have cw := Count_word qb K _ ev es _ x.1 wa (H14.out.2.1.below Ba) HE.out.size hK1 (by omega) HE.out.all
        have HR : Hid (r.data.toList = turn x.1.data.toList) := hr
        have HBa : Hid (Below W14.heap.size W14 wa) := Ba
        clear ct d0 hr ba Ba
        go_wp2_with fail
        refine cw.mono ?_
        rintro e wb ⟨n1, rfl, hc1, bw⟩
        rw [HE.out.canon] at hc1
        have hn1 := HE.out.count n1 hc1
        subst hn1
        have Bb := HBa.out.trans (bw.mono HBa.out.size)
        have hrs : r.size = K := by rw [Lib.size_eq, HR.out, turn_length, ← Lib.size_eq]; exact HE.out.size
        have hra : r.data.toList.all isB = true := by rw [HR.out]; exact turn_all HE.out.all
        have cw2 := Count_word qb K _ ev es _ r wb (H14.out.2.1.below Bb) hrs hK1 (by omega) hra
        have HBb : Hid (Below W14.heap.size W14 wb) := Bb
        clear cw hc1 bw Bb da hrs hra
        go_wp2_with fail
        refine cw2.mono ?_
        rintro e wc ⟨n2, rfl, hc2, bw⟩
        rw [HR.out, canonL_turn HE.out.all, HE.out.canon] at hc2
        have hn2 := HE.out.count n2 hc2
        subst hn2
        have Bc := HBb.out.trans (bw.mono HBb.out.size)
        have dc := (C0.out wc Bc).2
        have HBc : Hid (Below W14.heap.size W14 wc) := Bc
        clear cw2 hc2 bw Bc
        go_wp2
        go_roundw
        case rel => exact ⟨k + 1, by omega, by go_num, by rw [HSU.out]; simp, HBc⟩
        case measure => simp [intOf]; omega
      · have hke : k = es.length := by omega
        subst hke
        have hsl : sumC es ≤ 1440 * 1440 := by
          refine Nat.le_trans (sumC_le (L := 1440) (fun y hy => ?_)) (Nat.mul_le_mul_right _ hel)
          obtain ⟨j, hj⟩ := List.getElem?_of_mem hy
          exact (HEN.out j y hj).few
        rw [List.take_length]
        have B15 := H14.out.2.1.below hB.out
        have cco := Count_other qb K _ ev es _ ⟨#[]⟩ wr B15 (by show 0 ≠ K; omega) (by decide) (by omega)
        have csn := Scan_neg qb K 0 ev es 0 ⟨#[]⟩ (-1) wr (by omega)
        have H15 : Hid (New w.heap.size w wr ∧ BaseAt wr qb K w9.heap.size ev es (sumC es) ∧ wr.ownsRow w12.heap.size 43 2 (.slice aV es.length cV) es.length (ecells es)) := ⟨New.below H14.out.1 hB.out, B15, row_keepB H14.out.2.2 (TK.below hB.out)⟩
        obtain ⟨t, ht⟩ : ∃ t, t = sumC es := ⟨_, rfl⟩
        rw [← ht] at hsl ⊢
        clear B15 hB H14 hlt hk
        go_wp2_with fail
        refine cco.mono ?_
        rintro e wd ⟨rfl, hwd⟩
        have hwd' := hwd.symm
        subst hwd'
        go_wp2_with fail
        refine csn.mono ?_
        rintro e we ⟨rfl, hwe⟩
        have hwe' := hwe.symm
        subst hwe'
        clear cco csn hwd hwe ht
        by_cases h0 : es.length = 0
        · have hz : ((es.length : Int) == 0) = true := beq_iff_eq.2 (by omega)
          have HN : Hid (Below w.heap.size w wr) := keep.New.to H15.out.1
          clear h0
          go_wp2
          go_ret
          exact ⟨rfl, HN.out⟩
        · have hz : ((es.length : Int) == 0) = false := beq_eq_false_iff_ne.2 (by omega)
          have hpos : 0 < es.length := by omega
          clear h0
          rcases H15.out.2.2.2 with ⟨_, e0⟩ | ⟨g, cap', cur, e1, _, hg, hcap, _⟩
          · omega
          cases e1
          have hcap' : es.length ≤ cV := by omega
          have hgl := lt_of_block hg
          clear hcap hg
          go_wp2_with fail
          refine (pick_any at_ _ _ HAT.out (by omega) (by omega)).mono ?_
          rintro e wd ⟨i, rfl, hi, hwd⟩
          have hwd' := hwd.symm
          subst hwd'
          clear hwd
          have hil : i < es.length := by omega
          have hci : ¬ cV = i := by omega
          clear hi
          go_wp2_with fail
          refine (pick_any many _ _ HMN.out (by omega) (by omega)).mono ?_
          rintro e wd ⟨want, rfl, hwant, hwd⟩
          have hwd' := hwd.symm
          subst hwd'
          clear hwd
          have hw2 : want ≤ 1442 := by omega
          clear hwant
          obtain ⟨x, hx⟩ : ∃ x, es[i]? = some x := ⟨_, List.getElem?_eq_getElem hil⟩
          have row0 := H15.out.2.2
          have c0 : wr.cell? ⟨g, i * 2, none⟩ = some (.string x.1) := by rw [row0.cellAt (g := g) _ (by omega)]; exact ecells_at0 _ _ _ hx
          obtain ⟨out, hout⟩ : ∃ out, out = (es.drop i).take want := ⟨_, rfl⟩
          have hofew : out.length ≤ 100000 := by rw [hout, List.length_take, List.length_drop]; omega
          have HER : Hid (∀ c, ERow wr (.slice (some ⟨g, i * 2, none⟩) out.length c) out) := fun c => by
            refine .inr ⟨g, i * 2, c, rfl, hgl, fun j y hy => ?_⟩
            have hjm : j < want := by have := (List.getElem?_eq_some_iff.1 hy).1; rw [hout, List.length_take] at this; omega
            rw [hout, List.getElem?_take_of_lt hjm, List.getElem?_drop] at hy
            have hl := (List.getElem?_eq_some_iff.1 hy).1
            rw [show i * 2 + j * 2 = (i + j) * 2 by omega]
            refine ⟨?_, ?_⟩
            · rw [row0.cellAt (g := g) _ (by omega)]; exact ecells_at0 _ _ _ hy
            · rw [row0.cellAt (g := g) _ (by omega)]; exact ecells_at1 _ _ _ hy
          have csc : Calls Tryz.prog 23 #[.pointer (some ⟨qb, 0, none⟩), .string x.1, .int .i64 (want : Int)] wr fun e w' => ∃ v, e = .returned (.tuple #[v, .int .i64 0]) ∧ ERow w' v out ∧ Below wr.heap.size wr w' := by
            refine (Scan_any qb K _ ev es _ x.1 want wr H15.out.2.1 (by omega)).mono ?_
            rintro e w' ⟨v, i', f, rfl, hf, own, b⟩
            have hii := found_at HSO.out hx hf
            subst hii
            exact ⟨v, rfl, by rw [hout]; exact ERow.of_own own, b⟩
          have HN : Hid (Below w.heap.size w wr) := keep.New.to H15.out.1
          by_cases hwl2 : want < es.length - i
          · have HOL : Hid (out.length = want) := by show _ = _; rw [hout, List.length_take, List.length_drop]; omega
            clear hout row0 hx hgl
            go_wp2_with fail
            refine csc.mono ?_
            rintro e wf ⟨vv, rfl, hv, bf⟩
            obtain ⟨aX, cX, hvv⟩ := hv.slice
            subst hvv
            have cse : ∀ c, Calls Tryz.prog 17 #[.slice aX out.length cX, .slice (some ⟨g, i * 2, none⟩) want c] wf fun e w' => e = .returned (.bool true) ∧ Below wf.heap.size wf w' := fun c => sameEntries_any _ _ out wf hv (by have := (HER.out c).below bf; rw [HOL.out] at this; exact this) hofew
            have HN2 : Hid (Below w.heap.size w wf) := HN.out.trans (bf.mono HN.out.size)
            clear csc hv bf HOL
            go_wp2_with fail
            refine (cse _).mono ?_
            rintro e wg ⟨rfl, bg⟩
            have HN3 : Hid (Below w.heap.size w wg) := HN2.out.trans (bg.mono HN2.out.size)
            clear cse bg
            go_wp2
            go_ret
            exact ⟨rfl, HN3.out⟩
          · have HOL : Hid (out.length = es.length - i) := by show _ = _; rw [hout, List.length_take, List.length_drop]; omega
            clear hout row0 hx hgl
            go_wp2_with fail
            refine csc.mono ?_
            rintro e wf ⟨vv, rfl, hv, bf⟩
            obtain ⟨aX, cX, hvv⟩ := hv.slice
            subst hvv
            have cse : ∀ c, Calls Tryz.prog 17 #[.slice aX out.length cX, .slice (some ⟨g, i * 2, none⟩) (es.length - i) c] wf fun e w' => e = .returned (.bool true) ∧ Below wf.heap.size wf w' := fun c => sameEntries_any _ _ out wf hv (by have := (HER.out c).below bf; rw [HOL.out] at this; exact this) hofew
            have HN2 : Hid (Below w.heap.size w wf) := HN.out.trans (bf.mono HN.out.size)
            clear csc hv bf HOL
            go_wp2_with fail
            refine (cse _).mono ?_
            rintro e wg ⟨rfl, bg⟩
            have HN3 : Hid (Below w.heap.size w wg) := HN2.out.trans (bg.mono HN2.out.size)
            clear cse bg
            go_wp2
            go_ret
            exact ⟨rfl, HN3.out⟩
end Go.Proofs.YtbjgpfhbdmcbbaaGreatDoor.asked
