import Derived.Test.YtbjgpfhbdmcbbaaGreatDoorP34

/-
  THE WALK OF Added.
-/
namespace Go.Proofs.YtbjgpfhbdmcbbaaGreatDoor.added
open Go.RowKit Go.Proofs.YtbjgpfhbdmcbbaaGreatDoor.dnamath Go.Proofs.YtbjgpfhbdmcbbaaGreatDoor.dna Go.Proofs.YtbjgpfhbdmcbbaaGreatDoor.diskm Go.Proofs.YtbjgpfhbdmcbbaaGreatDoor.disk Go.Proofs.YtbjgpfhbdmcbbaaGreatDoor.hex Go.Proofs.YtbjgpfhbdmcbbaaGreatDoor.pieces Go.Proofs.YtbjgpfhbdmcbbaaGreatDoor.files Go.Proofs.YtbjgpfhbdmcbbaaGreatDoor.parse Go.Proofs.YtbjgpfhbdmcbbaaGreatDoor.words Go.Proofs.YtbjgpfhbdmcbbaaGreatDoor.kinds Go.Proofs.YtbjgpfhbdmcbbaaGreatDoor.jobs Go.Proofs.YtbjgpfhbdmcbbaaGreatDoor.base Go.Proofs.YtbjgpfhbdmcbbaaGreatDoor.fill Go.Proofs.YtbjgpfhbdmcbbaaGreatDoor.keep
set_option linter.unusedVariables false

theorem still_drew (w : World) : Below w.heap.size w w.drew := (⟨rfl, rfl, rfl, rfl, Nat.le_add_right _ _⟩ : Still w w.drew).below _

set_option maxHeartbeats 8000000 in
set_option maxRecDepth 100000 in
theorem walk (a0 : Option Addr) (len cap : Nat) (a1 : Option Addr) (len1 cap1 : Nat) (k m bins form : Int) (a bb aE : Addr) (w : World) (hrow : IsRows w a0 len) (hrow1 : IsRows w a1 len1) (hk : -9223372036854775808 ≤ k ∧ k ≤ 9223372036854775807) (hm : -9223372036854775808 ≤ m ∧ m ≤ 9223372036854775807) (hb : -9223372036854775808 ≤ bins ∧ bins ≤ 9223372036854775807) (hfm : -9223372036854775808 ≤ form ∧ form ≤ 9223372036854775807) (hG : Gl w a bb aE) :
    Calls Tryz.prog 6 #[.slice a0 len cap, .slice a1 len1 cap1, .int .i64 k, .int .i64 m, .int .i64 bins, .int .i64 form] w fun e w' => e = .returned (.bool true) ∧ Below w.heap.size w w' := by
  have HG : Hid (Gl w a bb aE ∧ IsRows w a1 len1) := ⟨hG, hrow1⟩
  have HFM : Hid (-9223372036854775808 ≤ form ∧ form ≤ 9223372036854775807) := hfm
  have cre := reads_12 a0 len cap w hrow
  have cop := fun W => options_any k m bins W hk hm hb
  clear hG hrow hrow1 hk hm hb hfm
  go_enter Tryz.func6, Tryz.ntmps6
  go_wp2_with fail
  refine cre.mono ?_
  rintro e w1 ⟨v, ps, rfl, own1, hps, hp12, b1⟩
  obtain ⟨aV, cV, hv⟩ := own_slice own1
  subst hv
  have S1 := srow_of_own own1
  have HPS : Hid (ReadsIs ps) := hps
  have cre2 := reads_12 a1 len1 cap1 w1 (HG.out.2.later b1)
  clear own1 cre hps
  go_wp2_with fail
  refine cre2.mono ?_
  rintro e w2 ⟨v, qs, rfl, own2, hqs, hq12, b2⟩
  obtain ⟨aQ, cQ, hv⟩ := own_slice own2
  subst hv
  have S2 := srow_of_own own2
  have HQS : Hid (ReadsIs qs) := hqs
  clear own2 cre2 hqs
  go_wp2_with fail
  refine (cop _).mono ?_
  rintro e w3 ⟨K, M, Bn, rfl, ho, -, b3⟩
  have HO : Hid (OptIs K M Bn) := ho
  have hK1 := ho.k1
  have hK2 := ho.k2
  clear ho cop
  go_upto_region 4 with fail
  obtain ⟨W4, hW4⟩ : ∃ W4, W4 = w3.alloc (.cells #[.int .i64 (K : Int), .int .i64 (M : Int), .int .i64 (Bn : Int)] 29) := ⟨_, rfl⟩
  obtain ⟨qo, hqo⟩ : ∃ qo, qo = w3.heap.size := ⟨_, rfl⟩
  have O4 : OptAt W4 qo K M Bn := ⟨by rw [hW4, hqo]; exact heap_alloc_new _ _⟩
  have b4 : Below w3.heap.size w3 W4 := by rw [hW4]; exact (Below.refl _ w3).alloc (Nat.le_refl _) _
  rw [← hW4, ← hqo]
  clear hW4 hqo
  have B2 := b1.trans (b2.mono b1.size)
  have B3 := B2.trans (b3.mono B2.size)
  have B4 := B3.trans (b4.mono B3.size)
  have bd := still_drew W4
  have Bd : Below w.heap.size w W4.drew := B4.trans (bd.mono B4.size)
  have P4 : SRow W4.drew (.slice aV ps.length cV) ps := (((S1.later b2).later b3).later b4).later bd
  have Q4 : SRow W4.drew (.slice aQ qs.length cQ) qs := ((S2.later b3).later b4).later bd
  have O4d : OptAt W4.drew qo K M Bn := O4.new ((New.refl (Bo := 0) _).below bd)
  have H4 : Hid (Below w.heap.size w W4.drew ∧ SRow W4.drew (.slice aV ps.length cV) ps ∧ SRow W4.drew (.slice aQ qs.length cQ) qs ∧ OptAt W4.drew qo K M Bn) := ⟨Bd, P4, Q4, O4d⟩
  have AB : Hid (∀ W : World, Below W4.drew.heap.size W4.drew W → W.cell? ⟨qo, 0, none⟩ = some (.int .i64 (K : Int)) ∧ W.cell? ⟨qo, 1, none⟩ = some (.int .i64 (M : Int)) ∧ W.cell? ⟨qo, 2, none⟩ = some (.int .i64 (Bn : Int))) := fun W hW => (H4.out.2.2.2.new ((New.refl (Bo := 0) _).below hW)).cells
  have cx := AB.out W4.drew (Below.refl _ _)
  have G4 : Gl W4.drew a bb aE := HG.out.1.below Bd
  clear b1 b2 b3 b4 B2 B3 B4 bd Bd Q4 O4d O4 S1 S2
  go_region_held3 (fun w' => w'.cell? ⟨qo, 0, none⟩ = some (.int .i64 (K : Int)) ∧ w'.cell? ⟨qo, 1, none⟩ = some (.int .i64 (M : Int)) ∧ w'.cell? ⟨qo, 2, none⟩ = some (.int .i64 (Bn : Int))) (first | with_reducible exact cx | with_reducible exact AB.out _ b7 | with_reducible exact AB.out _ (b7.trans (b8.mono b7.size))) (first | (go_at_call 16; refine (written_any _ ps form 4 _ P4 HPS.out HFM.out (by omega)).mono ?_; rintro e w7 ⟨s, rfl, hs, hfm, b7⟩; have HFT : Hid (Fit K M Bn s (datas ps)) := fit_of HO.out HPS.out hs hfm; clear hs hfm) | (go_at_call 15; refine (counted_b K M Bn s (datas ps) a bb aE _ (G4.below b7) HFT.out).mono ?_; rintro e w8 ⟨v8, ea, rfl, er8, t8, b8⟩))
  all_goals
    obtain ⟨aA, cA, hv8⟩ := er8.slice
    subst hv8
    have s8 := still_drew w8
    have b48 := b7.trans (b8.mono b7.size)
    have b8d := b48.trans (s8.mono b48.size)
    have B8 := H4.out.1.trans (b8d.mono H4.out.1.size)
    have Q8 : SRow w8.drew (.slice aQ qs.length cQ) qs := H4.out.2.2.1.later b8d
    have O8 : OptAt w8.drew qo K M Bn := H4.out.2.2.2.new ((New.refl (Bo := 0) _).below b8d)
    have H8 : Hid (Below w.heap.size w w8.drew ∧ SRow w8.drew (.slice aV ps.length cV) ps ∧ SRow w8.drew (.slice aQ qs.length cQ) qs ∧ OptAt w8.drew qo K M Bn ∧ ERow w8.drew (.slice aA ea.length cA) ea) := ⟨B8, H4.out.2.1.later b8d, Q8, O8, er8.below s8⟩
    have TA : Hid (TallyOf (wordsOf K (datas ps)) (ea.map cv)) := t8
    have HWA : Hid ((wordsOf K (datas ps)).length ≤ 1440) := HFT.out.words
    have AB2 : Hid (∀ W : World, Below w8.drew.heap.size w8.drew W → W.cell? ⟨qo, 0, none⟩ = some (.int .i64 (K : Int)) ∧ W.cell? ⟨qo, 1, none⟩ = some (.int .i64 (M : Int)) ∧ W.cell? ⟨qo, 2, none⟩ = some (.int .i64 (Bn : Int))) := fun W hW => (H8.out.2.2.2.1.new ((New.refl (Bo := 0) _).below hW)).cells
    have cx2 := AB2.out w8.drew (Below.refl _ _)
    have G8 : Gl w8.drew a bb aE := HG.out.1.below B8
    clear AB cx P4 G4 b7 b8 s8 b48 b8d er8 t8 B8 HFT O8 H4
    go_upto_region 5 with fail
    go_region_held3 (fun w' => w'.cell? ⟨qo, 0, none⟩ = some (.int .i64 (K : Int)) ∧ w'.cell? ⟨qo, 1, none⟩ = some (.int .i64 (M : Int)) ∧ w'.cell? ⟨qo, 2, none⟩ = some (.int .i64 (Bn : Int))) (first | with_reducible exact cx2 | with_reducible exact AB2.out _ b9 | with_reducible exact AB2.out _ (b9.trans (b10.mono b9.size))) (first | (go_at_call 16; refine (written_any _ qs form 4 _ Q8 HQS.out HFM.out (by omega)).mono ?_; rintro e w9 ⟨s2, rfl, hs2, hfm2, b9⟩; have HFT2 : Hid (Fit K M Bn s2 (datas qs)) := fit_of HO.out HQS.out hs2 hfm2; clear hs2 hfm2) | (go_at_call 15; refine (counted_b K M Bn s2 (datas qs) a bb aE _ (G8.below b9) HFT2.out).mono ?_; rintro e w10 ⟨v10, eb, rfl, er10, t10, b10⟩))
    all_goals
      obtain ⟨aB, cB, hv10⟩ := er10.slice
      subst hv10
      have b810 := b9.trans (b10.mono b9.size)
      have B10 := H8.out.1.trans (b810.mono H8.out.1.size)
      have P10 : SRow w10 (.slice aV ps.length cV) ps := H8.out.2.1.later b810
      have Q10 : SRow w10 (.slice aQ qs.length cQ) qs := H8.out.2.2.1.later b810
      have H10 : Hid (Below w.heap.size w w10 ∧ OptAt w10 qo K M Bn ∧ ERow w10 (.slice aA ea.length cA) ea ∧ ERow w10 (.slice aB eb.length cB) eb) := ⟨B10, H8.out.2.2.2.1.new ((New.refl (Bo := 0) _).below b810), H8.out.2.2.2.2.below b810, er10⟩
      have TB : Hid (TallyOf (wordsOf K (datas qs)) (eb.map cv)) := t10
      have HWB : Hid ((wordsOf K (datas qs)).length ≤ 1440) := HFT2.out.words
      clear AB2 cx2 Q8 G8 b9 b10 b810 B10 er10 t10 HFT2 H8
      go_upto_region 9 with (first | (at_builtin; refine wpList_join rfl (.tmp 58) (.tmp 59) rfl w10.heap.size (.slice none 0 0) (.slice aV ps.length cV) [] ps rfl (World.ownsRow_nil _ _ _ _) rfl P10 (by simp; omega) w10 (Below.refl _ _) (Nat.le_refl _) ?_; intro v11 w11 own11 b11 _; rw [List.nil_append] at own11; obtain ⟨a11, c11, hv11⟩ := own_slice own11; subst hv11; have Q11 := Q10.later b11; have hb11 := b11.size) | (at_builtin; refine wpList_join rfl (.tmp 61) (.tmp 62) rfl w10.heap.size _ (.slice aQ qs.length cQ) ps qs rfl own11 rfl Q11 (by omega) w10 b11 hb11 ?_; intro v12 w12 own12 b12 _; obtain ⟨bs, hbs⟩ : ∃ bs, bs = ps ++ qs := ⟨_, rfl⟩; rw [← hbs] at own12; have HBE : Hid (bs = ps ++ qs) := hbs; clear hbs; obtain ⟨aC, cC, hv12⟩ := own_slice own12; subst hv12))
      have HBS : Hid (ReadsIs (ps ++ qs)) := ⟨by rw [List.length_append]; omega, fun p hp => by rcases List.mem_append.1 hp with h | h; exact HPS.out.2 p h; exact HQS.out.2 p h⟩
      have HWC : Hid (wordsOf K (datas (ps ++ qs)) = wordsOf K (datas ps) ++ wordsOf K (datas qs)) := by show _ = _; rw [datas_append, words_append]
      have hbl : (ps ++ qs).length ≤ 24 := HBS.out.1
      rw [← HBE.out] at HBS HWC hbl
      clear HBE own11 Q11 b11 hb11 P10 Q10
      have sd := still_drew w12
      have b12d := b12.trans (sd.mono b12.size)
      have B12 := H10.out.1.trans (b12d.mono H10.out.1.size)
      have S12 : SRow w12.drew (.slice aC bs.length cC) bs := (srow_of_own own12).later sd
      have O12 : OptAt w12.drew qo K M Bn := H10.out.2.1.new ((New.refl (Bo := 0) _).below b12d)
      have H12 : Hid (Below w.heap.size w w12.drew ∧ OptAt w12.drew qo K M Bn ∧ ERow w12.drew (.slice aA ea.length cA) ea ∧ ERow w12.drew (.slice aB eb.length cB) eb) := ⟨B12, O12, H10.out.2.2.1.below b12d, H10.out.2.2.2.below b12d⟩
      have AB3 : Hid (∀ W : World, Below w12.drew.heap.size w12.drew W → W.cell? ⟨qo, 0, none⟩ = some (.int .i64 (K : Int)) ∧ W.cell? ⟨qo, 1, none⟩ = some (.int .i64 (M : Int)) ∧ W.cell? ⟨qo, 2, none⟩ = some (.int .i64 (Bn : Int))) := fun W hW => (H12.out.2.1.new ((New.refl (Bo := 0) _).below hW)).cells
      have cx3 := AB3.out w12.drew (Below.refl _ _)
      have G12 : Gl w12.drew a bb aE := HG.out.1.below B12
      clear own12 sd b12 b12d B12 O12 H10
      go_region_held3 (fun w' => w'.cell? ⟨qo, 0, none⟩ = some (.int .i64 (K : Int)) ∧ w'.cell? ⟨qo, 1, none⟩ = some (.int .i64 (M : Int)) ∧ w'.cell? ⟨qo, 2, none⟩ = some (.int .i64 (Bn : Int))) (first | with_reducible exact cx3 | with_reducible exact AB3.out _ b13 | with_reducible exact AB3.out _ (b13.trans (b14.mono b13.size))) (first | (go_at_call 16; refine (written_any _ bs form 4 _ S12 HBS.out HFM.out (by omega)).mono ?_; rintro e w13 ⟨s3, rfl, hs3, hfm3, b13⟩; have HFT3 : Hid (Fit K M Bn s3 (datas bs)) := fit_of HO.out HBS.out hs3 hfm3; clear hs3 hfm3) | (go_at_call 15; refine (counted_b K M Bn s3 (datas bs) a bb aE _ (G12.below b13) HFT3.out).mono ?_; rintro e w14 ⟨v14, ec, rfl, er14, t14, b14⟩))
      all_goals
        obtain ⟨aD, cD, hv14⟩ := er14.slice
        subst hv14
        have b1214 := b13.trans (b14.mono b13.size)
        have B14 := H12.out.1.trans (b1214.mono H12.out.1.size)
        have H14 : Hid (Below w.heap.size w w14 ∧ OptAt w14 qo K M Bn ∧ ERow w14 (.slice aA ea.length cA) ea ∧ ERow w14 (.slice aB eb.length cB) eb ∧ ERow w14 (.slice aD ec.length cD) ec ∧ SRow w14 (.slice aC bs.length cC) bs) := ⟨B14, H12.out.2.1.new ((New.refl (Bo := 0) _).below b1214), H12.out.2.2.1.below b1214, H12.out.2.2.2.below b1214, er14, S12.later b1214⟩
        have hpl : placesOf K bs ≤ 1440 := HFT3.out.words
        have HLC := entries_of t14 HFT3.out.words
        have hlc := HLC.1
        have HEC : Hid (∀ (k : Nat) (x : Ent), ec[k]? = some x → x.2 ≤ 1440) := fun k x hx => (HLC.2 k x hx).few
        have HSC : Hid (sumC ec = placesOf K bs) := tally_sum t14
        have T2 : Hid (Two (wordsOf K (datas ps)) (wordsOf K (datas qs)) ea eb ec) := ⟨TA.out, TB.out, by rw [← HWC.out]; exact t14⟩
        have hla := (entries_of TA.out HWA.out).1
        have hlb := (entries_of TB.out HWB.out).1
        have cl := lives_b a bb aE w14 (HG.out.1.below B14)
        clear AB3 cx3 S12 G12 b13 b14 b1214 B14 er14 t14 HFT3 HLC H12 HWC TA TB HWA HWB
        go_wp2_with fail
        refine cl.mono ?_
        rintro e W ⟨rfl, b15⟩
        have H15 : Hid (Below w.heap.size w W ∧ OptAt W qo K M Bn ∧ ERow W (.slice aA ea.length cA) ea ∧ ERow W (.slice aB eb.length cB) eb ∧ ERow W (.slice aD ec.length cD) ec ∧ SRow W (.slice aC bs.length cC) bs) := ⟨H14.out.1.trans (b15.mono H14.out.1.size), H14.out.2.1.new ((New.refl (Bo := 0) _).below b15), H14.out.2.2.1.below b15, H14.out.2.2.2.1.below b15, H14.out.2.2.2.2.1.below b15, H14.out.2.2.2.2.2.later b15⟩
        clear cl b15 H14
        go_wp2_with fail

        go_loopw [24, 25] (fun pv iv wr => ∃ n p : Nat, n ≤ bs.length ∧ iv = .int .i64 (n : Int) ∧ pv = .int .i64 (p : Int) ∧ p ≤ 1440 ∧ Hid (p = placesOf K (bs.take n)) ∧ Hid (Still W wr)) (fun _ iv _ => bs.length - (intOf iv).toNat)
        case atStart => exact ⟨0, 0, Nat.zero_le _, rfl, rfl, by omega, by show _ = _; simp [placesOf, wordsOf, datas], Still.refl _⟩
        case round =>
          obtain ⟨n, p, hn, rfl, rfl, hp, HP, HS⟩ := hrel
          rename World => wr
          by_cases hlt : n < bs.length
          · obtain ⟨r, hr⟩ : ∃ r, bs[n]? = some r := ⟨_, List.getElem?_eq_getElem hlt⟩
            have hg := HBS.out.2 r (List.mem_of_getElem? hr)
            have HR : Hid (bs[n]? = some r ∧ greatB r.data.toList) := ⟨hr, hg.2.2⟩
            have hr60 := hg.2.1
            rcases H15.out.2.2.2.2.2 with ⟨_, e0⟩ | ⟨g, cap', e1, hgl, hc⟩
            · rw [e0] at hlt; simp at hlt
            cases e1
            have C0 : Hid (∀ W', Still W W' → W'.cell? ⟨g, n, none⟩ = some (.string r) ∧ W'.cell? ⟨qo, 0, none⟩ = some (.int .i64 (K : Int))) := fun W' hW' => by
              have hb := hW'.below W.heap.size
              refine ⟨?_, ((H15.out.2.1.new ((New.refl (Bo := 0) _).below hb)).cells).1⟩
              rw [hb.cell (p := ⟨g, n, none⟩) hgl, hc n hlt]
              rw [(List.getElem?_eq_some_iff.1 hr).2]
            clear hr hg hgl hc
            go_wp2_with fail
            go_loopw [24, 26] (fun pv jv w2 => ∃ j p' : Nat, j ≤ r.size + 1 ∧ jv = .int .i64 (j : Int) ∧ pv = .int .i64 (p' : Int) ∧ p' ≤ 1600 ∧ Hid (p' = placesOf K (bs.take n) + (winTo r.data.toList K j).length) ∧ Hid (Still W w2)) (fun _ jv _ => r.size + 1 - (intOf jv).toNat)
            case atStart => exact ⟨0, p, Nat.zero_le _, rfl, rfl, by omega, by show _ = _; rw [HP.out]; rfl, HS⟩
            case round =>
              obtain ⟨j, p', hj, rfl, rfl, hp', HP', HS'⟩ := hrel
              rename World => w2
              have c0 := (C0.out w2 HS'.out).1
              have c1 := (C0.out w2 HS'.out).2
              by_cases hjk : j + K ≤ r.size
              · have hjI : (j : Int) + (K : Int) ≤ (r.size : Int) := by omega
                go_wp2
                go_quiet (fail)
                obtain ⟨W3, hW3⟩ : ∃ W', W' = w2.drewN nq := ⟨_, rfl⟩
                have HS3 : Hid (Still W W3) := by rw [hW3]; exact HS'.out.trans (Still.drewN _ _)
                rw [← hW3]
                clear hW3 c0 c1
                go_wp2_with fail
                go_loopw [27, 28] (fun cv xv w3 => ∃ (d : Nat) (c : Bool), d ≤ K ∧ xv = .int .i64 ((j + d : Nat) : Int) ∧ cv = .bool c ∧ Hid (c = (cut r.data.toList j d).all (fun c => c != 78)) ∧ Hid (Still W w3)) (fun _ xv _ => j + K - (intOf xv).toNat)
                case atStart => exact ⟨0, true, Nat.zero_le _, rfl, rfl, by show _ = _; simp [cut], HS3⟩
                case round =>
                  obtain ⟨d, c, hd, rfl, rfl, HC, HS4⟩ := hrel
                  rename World => w3
                  have c0 := (C0.out w3 HS4.out).1
                  have c1 := (C0.out w3 HS4.out).2
                  by_cases hdK : d < K
                  · have hdI : ((j + d : Nat) : Int) < (j : Int) + (K : Int) := by omega
                    have hx : j + d < r.size := by omega
                    have HCS : Hid ((cut r.data.toList j (d + 1)).all (fun c => c != 78) = ((cut r.data.toList j d).all (fun c => c != 78) && (r[j + d] != 78))) := clean_snoc r j d hx
                    cases c with
                    | false =>
                      go_wp2
                      go_roundw
                      case rel => exact ⟨d + 1, false, by omega, by go_num, rfl, by show _ = _; rw [HCS.out, ← HC.out]; rfl, HS4⟩
                      case measure => simp [intOf]; omega
                    | true =>
                      by_cases hN : r[j + d] = 78
                      · have hb : ((r[j + d].toNat : Int) == 78) = true := by rw [hN]; rfl
                        have hb2 : (r[j + d].toNat : Int) = 78 := by rw [hN]; rfl
                        have HN : Hid (r[j + d] = 78) := hN
                        clear hN
                        go_wp2
                        go_roundw
                        case rel => exact ⟨d + 1, false, by omega, by go_num, rfl, by show _ = _; rw [HCS.out, ← HC.out, HN.out]; rfl, HS4⟩
                        case measure => simp [intOf]; omega
                      · have hb : ((r[j + d].toNat : Int) == 78) = false := by
                          rw [beq_eq_false_iff_ne]; intro e
                          exact hN (UInt8.toNat_inj.1 (by have : (78 : UInt8).toNat = 78 := rfl; omega))
                        have HN : Hid ((r[j + d] != 78) = true) := by show _ = _; simpa using hN
                        clear hN
                        go_wp2
                        go_roundw
                        case rel => exact ⟨d + 1, true, by omega, by go_num, congrArg Value.bool (by unfold bne; rw [hb]; rfl), by show _ = _; rw [HCS.out, ← HC.out, HN.out]; rfl, HS4⟩
                        case measure => simp [intOf]; omega
                  · have hdk : d = K := by omega
                    subst hdk
                    have hdI : ¬ ((j + d : Nat) : Int) < (j : Int) + (d : Int) := by omega
                    have hv := valid_clean HR.out.2 (k := d) (j := j) (by rw [← Lib.size_eq]; exact hjk)
                    rw [← HC.out] at hv
                    have HW1 : Hid ((winTo r.data.toList d (j + 1)).length = (winTo r.data.toList d j).length + (if c then 1 else 0)) := by show _ = _; rw [winTo_len_succ, hv]
                    have hwj := winTo_len r.data.toList d (j + 1)
                    have hpp := places_le d n bs
                    clear hv
                    cases c with
                    | false =>
                      go_wp2
                      go_roundw
                      case rel => exact ⟨j + 1, p', by omega, by go_num, rfl, hp', by show _ = _; rw [HW1.out, HP'.out]; simp, HS4⟩
                      case measure => simp [intOf]; omega
                    | true =>
                      have HP2 : Hid (p' + 1 = placesOf d (bs.take n) + (winTo r.data.toList d (j + 1)).length) := by show _ = _; rw [HW1.out, HP'.out]; simp; omega
                      have hp2 : p' + 1 ≤ 1600 := by have := HP2.out; omega
                      go_wp2
                      go_roundw
                      case rel => exact ⟨j + 1, p' + 1, by omega, by go_num, by go_num, hp2, HP2, HS4⟩
                      case measure => simp [intOf]; omega
              · have hjI : ¬ (j : Int) + (K : Int) ≤ (r.size : Int) := by omega
                have HP2 : Hid (p' = placesOf K (bs.take (n + 1))) := by
                  show _ = _
                  rw [HP'.out, places_take HR.out.1, winTo_end hK1 (by rw [← Lib.size_eq]; omega) (by rw [← Lib.size_eq]; exact hj)]
                have hp2 : p' ≤ 1440 := by rw [HP2.out]; exact Nat.le_trans (places_le _ _ _) hpl
                go_wp2
                go_quiet (fail)
                obtain ⟨W3, hW3⟩ : ∃ W', W' = w2.drewN nq := ⟨_, rfl⟩
                have HS3 : Hid (Still W W3) := by rw [hW3]; exact HS'.out.trans (Still.drewN _ _)
                rw [← hW3]
                clear hW3 c0 c1
                go_wp2
                go_roundw
                case rel => exact ⟨n + 1, p', by omega, by go_num, rfl, hp2, HP2, HS3⟩
                case measure => simp [intOf]; omega
          · have hne : n = bs.length := by omega
            subst hne
            have HPE : Hid (p = sumC ec) := by show _ = _; rw [HP.out, HSC.out, List.take_length]
            clear HP hlt hn
            go_wp2_with fail
            go_loopw [29, 30, 31, 32] (fun vi vj vt vx w2 => ∃ i j t x : Nat, x ≤ ec.length ∧ vi = .int .i64 (i : Int) ∧ vj = .int .i64 (j : Int) ∧ vt = .int .i64 (t : Int) ∧ vx = .int .i64 (x : Int) ∧ i ≤ ea.length ∧ j ≤ eb.length ∧ t ≤ 1440 * 1440 ∧ Hid (t = sumC (ec.take x)) ∧ Hid (Ahead ea ec i x ∧ Ahead eb ec j x) ∧ Hid (Still W w2)) (fun _ _ _ vx _ => ec.length - (intOf vx).toNat)
            case atStart => exact ⟨0, 0, 0, 0, Nat.zero_le _, rfl, rfl, rfl, rfl, Nat.zero_le _, Nat.zero_le _, by omega, rfl, ⟨Ahead.start _ _, Ahead.start _ _⟩, HS⟩
            case round =>
              obtain ⟨i, j, t, x, hx, rfl, rfl, rfl, rfl, hi, hj, ht, HT, HA, HS2⟩ := hrel
              rename World => w2
              by_cases hlt : x < ec.length
              · obtain ⟨z, hz⟩ : ∃ z, ec[x]? = some z := ⟨_, List.getElem?_eq_getElem hlt⟩
                have hzf := HEC.out x z hz
                have HSU : Hid (sumC (ec.take (x + 1)) = sumC (ec.take x) + z.2) := sumC_take hz
                have HZS : Hid (z.2 = (wordsOf K (datas ps)).count z.1.data.toList + (wordsOf K (datas qs)).count z.1.data.toList) := T2.out.sum hz
                have stA := step_of HA.out.1 T2.out.a T2.out.c.sorted T2.out.subA hz
                have stB := step_of HA.out.2 T2.out.b T2.out.c.sorted T2.out.subB hz
                have HST : Hid (t + z.2 ≤ 1440 * 1440 ∧ t + z.2 = sumC (ec.take (x + 1))) := by
                  refine ⟨?_, by rw [HT.out, HSU.out]⟩
                  rw [HT.out, ← HSU.out]
                  refine Nat.le_trans (sumC_le (L := 1440) (fun y hy => ?_)) (Nat.mul_le_mul_right _ ?_)
                  · obtain ⟨j, hj⟩ := List.getElem?_of_mem (List.mem_of_mem_take hy)
                    exact HEC.out j y hj
                  · rw [List.length_take]; omega
                have hst := HST.out.1
                rcases H15.out.2.2.2.2.1 with ⟨_, e0⟩ | ⟨gC, oC, capC, e1, hgC, hcC⟩
                · rw [e0] at hlt; simp at hlt
                cases e1
                have HCC : Hid (∀ (y : Nat) (u : Ent), ec[y]? = some u → ∀ W', Still W W' → W'.cell? ⟨gC, oC + y * 2, none⟩ = some (.string u.1) ∧ W'.cell? ⟨gC, oC + y * 2 + 1, none⟩ = some (.int .i64 (u.2 : Int))) := fun y u hu W' hW' => by
                  have hb := hW'.below W.heap.size
                  exact ⟨(hb.cell (p := ⟨gC, oC + y * 2, none⟩) hgC).trans (hcC y u hu).1, (hb.cell (p := ⟨gC, oC + y * 2 + 1, none⟩) hgC).trans (hcC y u hu).2⟩
                have HZ : Hid (ec[x]? = some z) := hz
                have HZ1 : Hid (1 ≤ z.2) := (tally_at T2.out.c hz).2
                have HSC2 : Hid (SortedE ec) := T2.out.c.sorted
                obtain ⟨zs, zn⟩ := z
                clear hcC hgC hz
                rcases stA with ⟨yA, hlA, hyA, hkA, hnA, AA⟩ | ⟨hnoA, hnA, AA⟩
                · have HA2 : Hid (Ahead ea ec (i + 1) (x + 1)) := AA
                  rcases H15.out.2.2.1 with ⟨_, e0⟩ | ⟨gA, oA, capA, e1, hgA, hcA⟩
                  · rw [e0] at hlA; simp at hlA
                  cases e1
                  have HCA : Hid (∀ W', Still W W' → W'.cell? ⟨gA, oA + i * 2, none⟩ = some (.string yA.1) ∧ W'.cell? ⟨gA, oA + i * 2 + 1, none⟩ = some (.int .i64 (yA.2 : Int))) := fun W' hW' => by
                    have hb := hW'.below W.heap.size
                    exact ⟨(hb.cell (p := ⟨gA, oA + i * 2, none⟩) hgA).trans (hcA i yA hyA).1, (hb.cell (p := ⟨gA, oA + i * 2 + 1, none⟩) hgA).trans (hcA i yA hyA).2⟩
                  obtain ⟨ysA, ynA⟩ := yA
                  have hkA' : zs = ysA := hkA.symm
                  subst hkA'
                  have dA := (HCA.out w2 HS2.out).1
                  have dCA := (HCC.out x _ HZ.out w2 HS2.out).1
                  have HNA : Hid (ynA = (wordsOf K (datas ps)).count zs.data.toList) := hnA
                  have hfA : ynA ≤ 1440 := by have h1 := HZS.out; have h2 := HNA.out; have h3 : zn ≤ 1440 := hzf; simp only at h1; omega
                  clear hkA hnA AA hyA hcA
                  go_upto_region 32 with fail
                  go_quiet (fail)
                  obtain ⟨W32, hW32⟩ : ∃ W', W' = w2.drewN nq := ⟨_, rfl⟩
                  have HS32 : Hid (Still W W32) := by rw [hW32]; exact HS2.out.trans (Still.drewN _ _)
                  rw [← hW32]
                  clear hW32
                  have fA := (HCA.out W32 HS32.out).2
                  clear dA dCA
                  rcases stB with ⟨yB, hlB, hyB, hkB, hnB, AB⟩ | ⟨hnoB, hnB, AB⟩
                  · have HB2 : Hid (Ahead eb ec (j + 1) (x + 1)) := AB
                    rcases H15.out.2.2.2.1 with ⟨_, e0⟩ | ⟨gB, oB, capB, e1, hgB, hcB⟩
                    · rw [e0] at hlB; simp at hlB
                    cases e1
                    have HCB : Hid (∀ W', Still W W' → W'.cell? ⟨gB, oB + j * 2, none⟩ = some (.string yB.1) ∧ W'.cell? ⟨gB, oB + j * 2 + 1, none⟩ = some (.int .i64 (yB.2 : Int))) := fun W' hW' => by
                      have hb := hW'.below W.heap.size
                      exact ⟨(hb.cell (p := ⟨gB, oB + j * 2, none⟩) hgB).trans (hcB j yB hyB).1, (hb.cell (p := ⟨gB, oB + j * 2 + 1, none⟩) hgB).trans (hcB j yB hyB).2⟩
                    obtain ⟨ysB, ynB⟩ := yB
                    have hkB' : zs = ysB := hkB.symm
                    subst hkB'
                    have dB := (HCB.out W32 HS32.out).1
                    have dCB := (HCC.out x _ HZ.out W32 HS32.out).1
                    have HNB : Hid (ynB = (wordsOf K (datas qs)).count zs.data.toList) := hnB
                    have hfB : ynB ≤ 1440 := by have h1 := HZS.out; have h2 := HNB.out; have h3 : zn ≤ 1440 := hzf; simp only at h1; omega
                    clear hkB hnB AB hyB hcB
                    go_upto_region 35 with fail
                    go_quiet (fail)
                    obtain ⟨W35, hW35⟩ : ∃ W', W' = W32.drewN nq := ⟨_, rfl⟩
                    have HS35 : Hid (Still W W35) := by rw [hW35]; exact HS32.out.trans (Still.drewN _ _)
                    rw [← hW35]
                    clear hW35
                    have fB := (HCB.out W35 HS35.out).2
                    clear dB dCB
                    have hsum : zn = ynA + ynB := by have h1 := HZS.out; have h2 := HNA.out; have h3 := HNB.out; simp only at h1; omega
                    have cz := (HCC.out x _ HZ.out W35 HS35.out).2
                    cases x with
                    | zero =>
                      subst hsum
                      go_upto_region 38 with fail
                      go_quiet (fail)
                      obtain ⟨W38, hW38⟩ : ∃ W', W' = W35.drewN nq := ⟨_, rfl⟩
                      have HS38 : Hid (Still W W38) := by rw [hW38]; exact HS35.out.trans (Still.drewN _ _)
                      rw [← hW38]
                      clear hW38
                      go_wp2
                      go_roundw
                      case rel => exact ⟨i + 1, j + 1, t + (ynA + ynB), 0 + 1, by omega, by go_num, by go_num, by go_num, by go_num, by omega, by omega, hst, HST.out.2, ⟨HA2.out, HB2.out⟩, HS38⟩
                      case measure => simp [intOf]; omega
                    | succ x' =>
                      obtain ⟨u, hu⟩ : ∃ u, ec[x']? = some u := ⟨_, List.getElem?_eq_getElem (by omega)⟩
                      have hlx : Op.bytesLess u.1.toList zs.toList = true := (strLt_iff u.1 zs).2 (by rw [Lib.toList_data, Lib.toList_data]; exact less_pred HSC2.out hu HZ.out)
                      have cu := (HCC.out x' u hu W35 HS35.out).1
                      have cw := (HCC.out (x' + 1) _ HZ.out W35 HS35.out).1
                      clear hu
                      subst hsum
                      go_upto_region 38 with fail
                      go_quiet (fail)
                      obtain ⟨W38, hW38⟩ : ∃ W', W' = W35.drewN nq := ⟨_, rfl⟩
                      have HS38 : Hid (Still W W38) := by rw [hW38]; exact HS35.out.trans (Still.drewN _ _)
                      rw [← hW38]
                      clear hW38
                      go_wp2
                      go_roundw
                      case rel => exact ⟨i + 1, j + 1, t + (ynA + ynB), (x' + 1) + 1, by omega, by go_num, by go_num, by go_num, by go_num, by omega, by omega, hst, HST.out.2, ⟨HA2.out, HB2.out⟩, HS38⟩
                      case measure => simp [intOf]; omega
                  · have HB2 : Hid (Ahead eb ec j (x + 1)) := AB
                    have HNB : Hid (0 = (wordsOf K (datas qs)).count zs.data.toList) := hnB.symm
                    by_cases hlB : j < eb.length
                    · obtain ⟨yB, hyB⟩ : ∃ y, eb[j]? = some y := ⟨_, List.getElem?_eq_getElem hlB⟩
                      have hneB : yB.1 ≠ zs := hnoB yB hyB
                      rcases H15.out.2.2.2.1 with ⟨_, e0⟩ | ⟨gB, oB, capB, e1, hgB, hcB⟩
                      · rw [e0] at hlB; simp at hlB
                      cases e1
                      have HCB : Hid (∀ W', Still W W' → W'.cell? ⟨gB, oB + j * 2, none⟩ = some (.string yB.1) ∧ W'.cell? ⟨gB, oB + j * 2 + 1, none⟩ = some (.int .i64 (yB.2 : Int))) := fun W' hW' => by
                        have hb := hW'.below W.heap.size
                        exact ⟨(hb.cell (p := ⟨gB, oB + j * 2, none⟩) hgB).trans (hcB j yB hyB).1, (hb.cell (p := ⟨gB, oB + j * 2 + 1, none⟩) hgB).trans (hcB j yB hyB).2⟩
                      obtain ⟨ysB, ynB⟩ := yB
                      have dB := (HCB.out W32 HS32.out).1
                      have dCB := (HCC.out x _ HZ.out W32 HS32.out).1
                      have hqB : (ysB.toList == zs.toList) = false := by rw [beq_eq_false_iff_ne, Lib.toList_data, Lib.toList_data]; exact fun e => hneB (kinds.bytes_eq e)
                      clear hneB hnoB hnB AB hyB hcB
                      go_upto_region 35 with fail
                      go_quiet (fail)
                      obtain ⟨W35, hW35⟩ : ∃ W', W' = W32.drewN nq := ⟨_, rfl⟩
                      have HS35 : Hid (Still W W35) := by rw [hW35]; exact HS32.out.trans (Still.drewN _ _)
                      rw [← hW35]
                      clear hW35
                      clear dB dCB hqB
                      have hsum : zn = ynA := by have h1 := HZS.out; have h2 := HNA.out; have h3 := HNB.out; simp only at h1; omega
                      have cz := (HCC.out x _ HZ.out W35 HS35.out).2
                      cases x with
                      | zero =>
                        subst hsum
                        go_upto_region 38 with fail
                        go_quiet (fail)
                        obtain ⟨W38, hW38⟩ : ∃ W', W' = W35.drewN nq := ⟨_, rfl⟩
                        have HS38 : Hid (Still W W38) := by rw [hW38]; exact HS35.out.trans (Still.drewN _ _)
                        rw [← hW38]
                        clear hW38
                        go_wp2
                        go_roundw
                        case rel => exact ⟨i + 1, j, t + (zn), 0 + 1, by omega, by go_num, by go_num, by go_num, by go_num, by omega, by omega, hst, HST.out.2, ⟨HA2.out, HB2.out⟩, HS38⟩
                        case measure => simp [intOf]; omega
                      | succ x' =>
                        obtain ⟨u, hu⟩ : ∃ u, ec[x']? = some u := ⟨_, List.getElem?_eq_getElem (by omega)⟩
                        have hlx : Op.bytesLess u.1.toList zs.toList = true := (strLt_iff u.1 zs).2 (by rw [Lib.toList_data, Lib.toList_data]; exact less_pred HSC2.out hu HZ.out)
                        have cu := (HCC.out x' u hu W35 HS35.out).1
                        have cw := (HCC.out (x' + 1) _ HZ.out W35 HS35.out).1
                        clear hu
                        subst hsum
                        go_upto_region 38 with fail
                        go_quiet (fail)
                        obtain ⟨W38, hW38⟩ : ∃ W', W' = W35.drewN nq := ⟨_, rfl⟩
                        have HS38 : Hid (Still W W38) := by rw [hW38]; exact HS35.out.trans (Still.drewN _ _)
                        rw [← hW38]
                        clear hW38
                        go_wp2
                        go_roundw
                        case rel => exact ⟨i + 1, j, t + (zn), (x' + 1) + 1, by omega, by go_num, by go_num, by go_num, by go_num, by omega, by omega, hst, HST.out.2, ⟨HA2.out, HB2.out⟩, HS38⟩
                        case measure => simp [intOf]; omega
                    · clear hnoB hnB AB
                      go_upto_region 35 with fail
                      go_quiet (fail)
                      obtain ⟨W35, hW35⟩ : ∃ W', W' = W32.drewN nq := ⟨_, rfl⟩
                      have HS35 : Hid (Still W W35) := by rw [hW35]; exact HS32.out.trans (Still.drewN _ _)
                      rw [← hW35]
                      clear hW35
                      have hsum : zn = ynA := by have h1 := HZS.out; have h2 := HNA.out; have h3 := HNB.out; simp only at h1; omega
                      have cz := (HCC.out x _ HZ.out W35 HS35.out).2
                      cases x with
                      | zero =>
                        subst hsum
                        go_upto_region 38 with fail
                        go_quiet (fail)
                        obtain ⟨W38, hW38⟩ : ∃ W', W' = W35.drewN nq := ⟨_, rfl⟩
                        have HS38 : Hid (Still W W38) := by rw [hW38]; exact HS35.out.trans (Still.drewN _ _)
                        rw [← hW38]
                        clear hW38
                        go_wp2
                        go_roundw
                        case rel => exact ⟨i + 1, j, t + (zn), 0 + 1, by omega, by go_num, by go_num, by go_num, by go_num, by omega, by omega, hst, HST.out.2, ⟨HA2.out, HB2.out⟩, HS38⟩
                        case measure => simp [intOf]; omega
                      | succ x' =>
                        obtain ⟨u, hu⟩ : ∃ u, ec[x']? = some u := ⟨_, List.getElem?_eq_getElem (by omega)⟩
                        have hlx : Op.bytesLess u.1.toList zs.toList = true := (strLt_iff u.1 zs).2 (by rw [Lib.toList_data, Lib.toList_data]; exact less_pred HSC2.out hu HZ.out)
                        have cu := (HCC.out x' u hu W35 HS35.out).1
                        have cw := (HCC.out (x' + 1) _ HZ.out W35 HS35.out).1
                        clear hu
                        subst hsum
                        go_upto_region 38 with fail
                        go_quiet (fail)
                        obtain ⟨W38, hW38⟩ : ∃ W', W' = W35.drewN nq := ⟨_, rfl⟩
                        have HS38 : Hid (Still W W38) := by rw [hW38]; exact HS35.out.trans (Still.drewN _ _)
                        rw [← hW38]
                        clear hW38
                        go_wp2
                        go_roundw
                        case rel => exact ⟨i + 1, j, t + (zn), (x' + 1) + 1, by omega, by go_num, by go_num, by go_num, by go_num, by omega, by omega, hst, HST.out.2, ⟨HA2.out, HB2.out⟩, HS38⟩
                        case measure => simp [intOf]; omega
                · have HA2 : Hid (Ahead ea ec i (x + 1)) := AA
                  have HNA : Hid (0 = (wordsOf K (datas ps)).count zs.data.toList) := hnA.symm
                  by_cases hlA : i < ea.length
                  · obtain ⟨yA, hyA⟩ : ∃ y, ea[i]? = some y := ⟨_, List.getElem?_eq_getElem hlA⟩
                    have hneA : yA.1 ≠ zs := hnoA yA hyA
                    rcases H15.out.2.2.1 with ⟨_, e0⟩ | ⟨gA, oA, capA, e1, hgA, hcA⟩
                    · rw [e0] at hlA; simp at hlA
                    cases e1
                    have HCA : Hid (∀ W', Still W W' → W'.cell? ⟨gA, oA + i * 2, none⟩ = some (.string yA.1) ∧ W'.cell? ⟨gA, oA + i * 2 + 1, none⟩ = some (.int .i64 (yA.2 : Int))) := fun W' hW' => by
                      have hb := hW'.below W.heap.size
                      exact ⟨(hb.cell (p := ⟨gA, oA + i * 2, none⟩) hgA).trans (hcA i yA hyA).1, (hb.cell (p := ⟨gA, oA + i * 2 + 1, none⟩) hgA).trans (hcA i yA hyA).2⟩
                    obtain ⟨ysA, ynA⟩ := yA
                    have dA := (HCA.out w2 HS2.out).1
                    have dCA := (HCC.out x _ HZ.out w2 HS2.out).1
                    have hqA : (ysA.toList == zs.toList) = false := by rw [beq_eq_false_iff_ne, Lib.toList_data, Lib.toList_data]; exact fun e => hneA (kinds.bytes_eq e)
                    clear hneA hnoA hnA AA hyA hcA
                    go_upto_region 32 with fail
                    go_quiet (fail)
                    obtain ⟨W32, hW32⟩ : ∃ W', W' = w2.drewN nq := ⟨_, rfl⟩
                    have HS32 : Hid (Still W W32) := by rw [hW32]; exact HS2.out.trans (Still.drewN _ _)
                    rw [← hW32]
                    clear hW32
                    clear dA dCA hqA
                    rcases stB with ⟨yB, hlB, hyB, hkB, hnB, AB⟩ | ⟨hnoB, hnB, AB⟩
                    · have HB2 : Hid (Ahead eb ec (j + 1) (x + 1)) := AB
                      rcases H15.out.2.2.2.1 with ⟨_, e0⟩ | ⟨gB, oB, capB, e1, hgB, hcB⟩
                      · rw [e0] at hlB; simp at hlB
                      cases e1
                      have HCB : Hid (∀ W', Still W W' → W'.cell? ⟨gB, oB + j * 2, none⟩ = some (.string yB.1) ∧ W'.cell? ⟨gB, oB + j * 2 + 1, none⟩ = some (.int .i64 (yB.2 : Int))) := fun W' hW' => by
                        have hb := hW'.below W.heap.size
                        exact ⟨(hb.cell (p := ⟨gB, oB + j * 2, none⟩) hgB).trans (hcB j yB hyB).1, (hb.cell (p := ⟨gB, oB + j * 2 + 1, none⟩) hgB).trans (hcB j yB hyB).2⟩
                      obtain ⟨ysB, ynB⟩ := yB
                      have hkB' : zs = ysB := hkB.symm
                      subst hkB'
                      have dB := (HCB.out W32 HS32.out).1
                      have dCB := (HCC.out x _ HZ.out W32 HS32.out).1
                      have HNB : Hid (ynB = (wordsOf K (datas qs)).count zs.data.toList) := hnB
                      have hfB : ynB ≤ 1440 := by have h1 := HZS.out; have h2 := HNB.out; have h3 : zn ≤ 1440 := hzf; simp only at h1; omega
                      clear hkB hnB AB hyB hcB
                      go_upto_region 35 with fail
                      go_quiet (fail)
                      obtain ⟨W35, hW35⟩ : ∃ W', W' = W32.drewN nq := ⟨_, rfl⟩
                      have HS35 : Hid (Still W W35) := by rw [hW35]; exact HS32.out.trans (Still.drewN _ _)
                      rw [← hW35]
                      clear hW35
                      have fB := (HCB.out W35 HS35.out).2
                      clear dB dCB
                      have hsum : zn = ynB := by have h1 := HZS.out; have h2 := HNA.out; have h3 := HNB.out; simp only at h1; omega
                      have cz := (HCC.out x _ HZ.out W35 HS35.out).2
                      cases x with
                      | zero =>
                        subst hsum
                        go_upto_region 38 with fail
                        go_quiet (fail)
                        obtain ⟨W38, hW38⟩ : ∃ W', W' = W35.drewN nq := ⟨_, rfl⟩
                        have HS38 : Hid (Still W W38) := by rw [hW38]; exact HS35.out.trans (Still.drewN _ _)
                        rw [← hW38]
                        clear hW38
                        go_wp2
                        go_roundw
                        case rel => exact ⟨i, j + 1, t + (zn), 0 + 1, by omega, by go_num, by go_num, by go_num, by go_num, by omega, by omega, hst, HST.out.2, ⟨HA2.out, HB2.out⟩, HS38⟩
                        case measure => simp [intOf]; omega
                      | succ x' =>
                        obtain ⟨u, hu⟩ : ∃ u, ec[x']? = some u := ⟨_, List.getElem?_eq_getElem (by omega)⟩
                        have hlx : Op.bytesLess u.1.toList zs.toList = true := (strLt_iff u.1 zs).2 (by rw [Lib.toList_data, Lib.toList_data]; exact less_pred HSC2.out hu HZ.out)
                        have cu := (HCC.out x' u hu W35 HS35.out).1
                        have cw := (HCC.out (x' + 1) _ HZ.out W35 HS35.out).1
                        clear hu
                        subst hsum
                        go_upto_region 38 with fail
                        go_quiet (fail)
                        obtain ⟨W38, hW38⟩ : ∃ W', W' = W35.drewN nq := ⟨_, rfl⟩
                        have HS38 : Hid (Still W W38) := by rw [hW38]; exact HS35.out.trans (Still.drewN _ _)
                        rw [← hW38]
                        clear hW38
                        go_wp2
                        go_roundw
                        case rel => exact ⟨i, j + 1, t + (zn), (x' + 1) + 1, by omega, by go_num, by go_num, by go_num, by go_num, by omega, by omega, hst, HST.out.2, ⟨HA2.out, HB2.out⟩, HS38⟩
                        case measure => simp [intOf]; omega
                    · have HB2 : Hid (Ahead eb ec j (x + 1)) := AB
                      have HNB : Hid (0 = (wordsOf K (datas qs)).count zs.data.toList) := hnB.symm
                      by_cases hlB : j < eb.length
                      · obtain ⟨yB, hyB⟩ : ∃ y, eb[j]? = some y := ⟨_, List.getElem?_eq_getElem hlB⟩
                        have hneB : yB.1 ≠ zs := hnoB yB hyB
                        rcases H15.out.2.2.2.1 with ⟨_, e0⟩ | ⟨gB, oB, capB, e1, hgB, hcB⟩
                        · rw [e0] at hlB; simp at hlB
                        cases e1
                        have HCB : Hid (∀ W', Still W W' → W'.cell? ⟨gB, oB + j * 2, none⟩ = some (.string yB.1) ∧ W'.cell? ⟨gB, oB + j * 2 + 1, none⟩ = some (.int .i64 (yB.2 : Int))) := fun W' hW' => by
                          have hb := hW'.below W.heap.size
                          exact ⟨(hb.cell (p := ⟨gB, oB + j * 2, none⟩) hgB).trans (hcB j yB hyB).1, (hb.cell (p := ⟨gB, oB + j * 2 + 1, none⟩) hgB).trans (hcB j yB hyB).2⟩
                        obtain ⟨ysB, ynB⟩ := yB
                        have dB := (HCB.out W32 HS32.out).1
                        have dCB := (HCC.out x _ HZ.out W32 HS32.out).1
                        have hqB : (ysB.toList == zs.toList) = false := by rw [beq_eq_false_iff_ne, Lib.toList_data, Lib.toList_data]; exact fun e => hneB (kinds.bytes_eq e)
                        clear hneB hnoB hnB AB hyB hcB
                        go_upto_region 35 with fail
                        go_quiet (fail)
                        obtain ⟨W35, hW35⟩ : ∃ W', W' = W32.drewN nq := ⟨_, rfl⟩
                        have HS35 : Hid (Still W W35) := by rw [hW35]; exact HS32.out.trans (Still.drewN _ _)
                        rw [← hW35]
                        clear hW35
                        clear dB dCB hqB
                        exact absurd HZ1.out (by have h1 := HZS.out; have h2 := HNA.out; have h3 := HNB.out; simp only at h1 ⊢; omega)
                      · clear hnoB hnB AB
                        go_upto_region 35 with fail
                        go_quiet (fail)
                        obtain ⟨W35, hW35⟩ : ∃ W', W' = W32.drewN nq := ⟨_, rfl⟩
                        have HS35 : Hid (Still W W35) := by rw [hW35]; exact HS32.out.trans (Still.drewN _ _)
                        rw [← hW35]
                        clear hW35
                        exact absurd HZ1.out (by have h1 := HZS.out; have h2 := HNA.out; have h3 := HNB.out; simp only at h1 ⊢; omega)
                  · clear hnoA hnA AA
                    go_upto_region 32 with fail
                    go_quiet (fail)
                    obtain ⟨W32, hW32⟩ : ∃ W', W' = w2.drewN nq := ⟨_, rfl⟩
                    have HS32 : Hid (Still W W32) := by rw [hW32]; exact HS2.out.trans (Still.drewN _ _)
                    rw [← hW32]
                    clear hW32
                    rcases stB with ⟨yB, hlB, hyB, hkB, hnB, AB⟩ | ⟨hnoB, hnB, AB⟩
                    · have HB2 : Hid (Ahead eb ec (j + 1) (x + 1)) := AB
                      rcases H15.out.2.2.2.1 with ⟨_, e0⟩ | ⟨gB, oB, capB, e1, hgB, hcB⟩
                      · rw [e0] at hlB; simp at hlB
                      cases e1
                      have HCB : Hid (∀ W', Still W W' → W'.cell? ⟨gB, oB + j * 2, none⟩ = some (.string yB.1) ∧ W'.cell? ⟨gB, oB + j * 2 + 1, none⟩ = some (.int .i64 (yB.2 : Int))) := fun W' hW' => by
                        have hb := hW'.below W.heap.size
                        exact ⟨(hb.cell (p := ⟨gB, oB + j * 2, none⟩) hgB).trans (hcB j yB hyB).1, (hb.cell (p := ⟨gB, oB + j * 2 + 1, none⟩) hgB).trans (hcB j yB hyB).2⟩
                      obtain ⟨ysB, ynB⟩ := yB
                      have hkB' : zs = ysB := hkB.symm
                      subst hkB'
                      have dB := (HCB.out W32 HS32.out).1
                      have dCB := (HCC.out x _ HZ.out W32 HS32.out).1
                      have HNB : Hid (ynB = (wordsOf K (datas qs)).count zs.data.toList) := hnB
                      have hfB : ynB ≤ 1440 := by have h1 := HZS.out; have h2 := HNB.out; have h3 : zn ≤ 1440 := hzf; simp only at h1; omega
                      clear hkB hnB AB hyB hcB
                      go_upto_region 35 with fail
                      go_quiet (fail)
                      obtain ⟨W35, hW35⟩ : ∃ W', W' = W32.drewN nq := ⟨_, rfl⟩
                      have HS35 : Hid (Still W W35) := by rw [hW35]; exact HS32.out.trans (Still.drewN _ _)
                      rw [← hW35]
                      clear hW35
                      have fB := (HCB.out W35 HS35.out).2
                      clear dB dCB
                      have hsum : zn = ynB := by have h1 := HZS.out; have h2 := HNA.out; have h3 := HNB.out; simp only at h1; omega
                      have cz := (HCC.out x _ HZ.out W35 HS35.out).2
                      cases x with
                      | zero =>
                        subst hsum
                        go_upto_region 38 with fail
                        go_quiet (fail)
                        obtain ⟨W38, hW38⟩ : ∃ W', W' = W35.drewN nq := ⟨_, rfl⟩
                        have HS38 : Hid (Still W W38) := by rw [hW38]; exact HS35.out.trans (Still.drewN _ _)
                        rw [← hW38]
                        clear hW38
                        go_wp2
                        go_roundw
                        case rel => exact ⟨i, j + 1, t + (zn), 0 + 1, by omega, by go_num, by go_num, by go_num, by go_num, by omega, by omega, hst, HST.out.2, ⟨HA2.out, HB2.out⟩, HS38⟩
                        case measure => simp [intOf]; omega
                      | succ x' =>
                        obtain ⟨u, hu⟩ : ∃ u, ec[x']? = some u := ⟨_, List.getElem?_eq_getElem (by omega)⟩
                        have hlx : Op.bytesLess u.1.toList zs.toList = true := (strLt_iff u.1 zs).2 (by rw [Lib.toList_data, Lib.toList_data]; exact less_pred HSC2.out hu HZ.out)
                        have cu := (HCC.out x' u hu W35 HS35.out).1
                        have cw := (HCC.out (x' + 1) _ HZ.out W35 HS35.out).1
                        clear hu
                        subst hsum
                        go_upto_region 38 with fail
                        go_quiet (fail)
                        obtain ⟨W38, hW38⟩ : ∃ W', W' = W35.drewN nq := ⟨_, rfl⟩
                        have HS38 : Hid (Still W W38) := by rw [hW38]; exact HS35.out.trans (Still.drewN _ _)
                        rw [← hW38]
                        clear hW38
                        go_wp2
                        go_roundw
                        case rel => exact ⟨i, j + 1, t + (zn), (x' + 1) + 1, by omega, by go_num, by go_num, by go_num, by go_num, by omega, by omega, hst, HST.out.2, ⟨HA2.out, HB2.out⟩, HS38⟩
                        case measure => simp [intOf]; omega
                    · have HB2 : Hid (Ahead eb ec j (x + 1)) := AB
                      have HNB : Hid (0 = (wordsOf K (datas qs)).count zs.data.toList) := hnB.symm
                      by_cases hlB : j < eb.length
                      · obtain ⟨yB, hyB⟩ : ∃ y, eb[j]? = some y := ⟨_, List.getElem?_eq_getElem hlB⟩
                        have hneB : yB.1 ≠ zs := hnoB yB hyB
                        rcases H15.out.2.2.2.1 with ⟨_, e0⟩ | ⟨gB, oB, capB, e1, hgB, hcB⟩
                        · rw [e0] at hlB; simp at hlB
                        cases e1
                        have HCB : Hid (∀ W', Still W W' → W'.cell? ⟨gB, oB + j * 2, none⟩ = some (.string yB.1) ∧ W'.cell? ⟨gB, oB + j * 2 + 1, none⟩ = some (.int .i64 (yB.2 : Int))) := fun W' hW' => by
                          have hb := hW'.below W.heap.size
                          exact ⟨(hb.cell (p := ⟨gB, oB + j * 2, none⟩) hgB).trans (hcB j yB hyB).1, (hb.cell (p := ⟨gB, oB + j * 2 + 1, none⟩) hgB).trans (hcB j yB hyB).2⟩
                        obtain ⟨ysB, ynB⟩ := yB
                        have dB := (HCB.out W32 HS32.out).1
                        have dCB := (HCC.out x _ HZ.out W32 HS32.out).1
                        have hqB : (ysB.toList == zs.toList) = false := by rw [beq_eq_false_iff_ne, Lib.toList_data, Lib.toList_data]; exact fun e => hneB (kinds.bytes_eq e)
                        clear hneB hnoB hnB AB hyB hcB
                        go_upto_region 35 with fail
                        go_quiet (fail)
                        obtain ⟨W35, hW35⟩ : ∃ W', W' = W32.drewN nq := ⟨_, rfl⟩
                        have HS35 : Hid (Still W W35) := by rw [hW35]; exact HS32.out.trans (Still.drewN _ _)
                        rw [← hW35]
                        clear hW35
                        clear dB dCB hqB
                        exact absurd HZ1.out (by have h1 := HZS.out; have h2 := HNA.out; have h3 := HNB.out; simp only at h1 ⊢; omega)
                      · clear hnoB hnB AB
                        go_upto_region 35 with fail
                        go_quiet (fail)
                        obtain ⟨W35, hW35⟩ : ∃ W', W' = W32.drewN nq := ⟨_, rfl⟩
                        have HS35 : Hid (Still W W35) := by rw [hW35]; exact HS32.out.trans (Still.drewN _ _)
                        rw [← hW35]
                        clear hW35
                        exact absurd HZ1.out (by have h1 := HZS.out; have h2 := HNA.out; have h3 := HNB.out; simp only at h1 ⊢; omega)
              · have hxe : x = ec.length := by omega
                subst hxe
                have hie := HA.out.1.end T2.out.subA
                have hje := HA.out.2.end T2.out.subB
                have hte : t = p := by rw [HT.out, List.take_length, HPE.out]
                subst hie hje hte
                have HB : Hid (Below w.heap.size w w2) := H15.out.1.trans ((HS2.out.below _).mono H15.out.1.size)
                clear HA HT hx hlt
                go_wp2
                go_ret
                exact ⟨rfl, HB.out⟩
end Go.Proofs.YtbjgpfhbdmcbbaaGreatDoor.added
