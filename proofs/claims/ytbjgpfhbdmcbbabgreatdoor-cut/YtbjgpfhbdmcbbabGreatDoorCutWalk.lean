import Derived.Test.YtbjgpfhbdmcbbabGreatDoorP41

/-
  THE WALK OF Cut.
-/
namespace Go.Proofs.YtbjgpfhbdmcbbabGreatDoor.cut
open Go.RowKit dnamath dna diskm disk hex pieces files parse words kinds jobs base fill keep
set_option linter.unusedVariables false

abbrev tailB : ByteArray := ⟨#[65, 67, 71, 84, 84, 71, 67, 65]⟩
theorem tail_reads {qs : List ByteArray} (h : ReadsIs qs) (hl : qs.length ≤ 12) : ReadsIs (qs ++ [tailB]) := by
  refine ⟨by rw [List.length_append]; simp; omega, fun p hp => ?_⟩
  rcases List.mem_append.1 hp with h1 | h1
  · exact h.2 p h1
  · rw [List.mem_singleton] at h1
    subst h1
    exact ⟨by decide, by decide, by unfold greatB; decide⟩

set_option maxHeartbeats 16000000 in
set_option maxRecDepth 100000 in
theorem walk {aF : Addr} (a0 : Option Addr) (len cap : Nat) (a1 : Option Addr) (len1 cap1 : Nat) (k m bins run die : Int) (a7 : Option Addr) (len7 cap7 : Nat) (zs : List Int) (which : Int) (a bb aE : Addr) (w : World) (hrow : IsRows w a0 len) (hrow1 : IsRows w a1 len1) (hk : -9223372036854775808 ≤ k ∧ k ≤ 9223372036854775807) (hm : -9223372036854775808 ≤ m ∧ m ≤ 9223372036854775807) (hb : -9223372036854775808 ≤ bins ∧ bins ≤ 9223372036854775807) (hru : -9223372036854775808 ≤ run ∧ run ≤ 9223372036854775807) (hdi : -9223372036854775808 ≤ die ∧ die ≤ 9223372036854775807) (hkeep : IsRow w a7 len7 cap7 zs) (hwh : -9223372036854775808 ≤ which ∧ which ≤ 9223372036854775807) (hG : Gl w a bb aE) (hGx : Gx aF a bb w) :
    Calls Tryz.prog 4 #[.slice a0 len cap, .slice a1 len1 cap1, .int .i64 k, .int .i64 m, .int .i64 bins, .int .i64 run, .int .i64 die, .slice a7 len7 cap7, .int .i64 which] w fun e w' => e = .returned (.bool true) ∧ Below w.heap.size w w' := by
  obtain ⟨i0, hi, hz0, hz1, hz2⟩ := info_parts infoS
  have HG : Hid (Gl w a bb aE ∧ Gx aF a bb w ∧ IsRows w a0 len ∧ IsRows w a1 len1 ∧ LowRow w.heap.size w a7 len7 cap7 zs) := ⟨hG, hGx, hrow, hrow1, lowRow_of hkeep⟩
  have HDI : Hid ((-9223372036854775808 ≤ run ∧ run ≤ 9223372036854775807) ∧ (-9223372036854775808 ≤ die ∧ die ≤ 9223372036854775807) ∧ (-9223372036854775808 ≤ which ∧ which ≤ 9223372036854775807)) := ⟨hru, hdi, hwh⟩
  have co := options_any k m bins w hk hm hb
  clear hG hGx hrow hrow1 hkeep hk hm hb hru hdi hwh
  go_enter Tryz.func4, Tryz.ntmps4
  go_wp2_with fail
  refine co.mono ?_
  rintro e w1 ⟨K, M, Bn, rfl, ho, -, b1⟩
  have HO : Hid (OptIs K M Bn) := ho
  have hK1 := ho.k1
  have hK2 := ho.k2
  clear ho co
  go_wp2_with fail
  obtain ⟨W2, hW2⟩ : ∃ W2, W2 = w1.alloc (.cells #[.int .i64 (K : Int), .int .i64 (M : Int), .int .i64 (Bn : Int)] 25) := ⟨_, rfl⟩
  obtain ⟨qo, hqo⟩ : ∃ qo, qo = w1.heap.size := ⟨_, rfl⟩
  have O2 : OptAt W2 qo K M Bn := ⟨by rw [hW2, hqo]; exact heap_alloc_new _ _⟩
  have B2 : Below w.heap.size w W2 := by rw [hW2]; exact b1.trans (((Below.refl _ w1).alloc (Nat.le_refl _) _).mono b1.size)
  rw [← hW2, ← hqo]
  clear hW2 hqo b1
  have n2 : New w.heap.size w W2 := (New.refl w).below B2
  have C2 : Ctx aF w W2 a bb aE qo K M Bn a7 len7 cap7 zs := ⟨n2, HG.out.1.below B2, HG.out.2.1.gm.below B2, O2, lowRow_new HG.out.2.2.2.2 (Nat.le_refl _) n2⟩
  have R2 : IsRows W2 a1 len1 := HG.out.2.2.2.1.later B2
  have cre := reads_12 a0 len cap W2 (HG.out.2.2.1.later B2)
  clear O2 B2 n2
  refine cre.mono ?_
  rintro e w3 ⟨v, ps, rfl, own3, hps, hp12, b3⟩
  obtain ⟨aV, cV, hv⟩ := own_slice own3
  subst hv
  have S3 := srow_of_own own3
  have HPS : Hid (ReadsIs ps) := hps
  have C3 := C2.below b3
  have R3 := R2.later b3
  have cwr := written_any (.slice aV ps.length cV) ps 0 6 w3 S3 hps (by omega) (by omega)
  clear cre own3 hps C2 R2 b3
  go_wp2_with fail
  refine cwr.mono ?_
  rintro e w4 ⟨sa, rfl, hsa, hfa, b4⟩
  have HFA : Hid (Fit K M Bn sa (datas ps)) := fit_of HO.out HPS.out hsa hfa
  have C4 := C3.below b4
  have cre := reads_12 a1 len1 cap1 w4 (R3.later b4)
  clear cwr hsa hfa C3 R3 b4 S3
  go_wp2_with fail
  refine cre.mono ?_
  rintro e w5 ⟨v, qs, rfl, own5, hqs, hq12, b5⟩
  obtain ⟨aQ, cQ, hv⟩ := own_slice own5
  subst hv
  have HBS : Hid (ReadsIs (qs ++ [tailB])) := tail_reads hqs hq12
  have hmx : qs.length + 1 ≤ maxLen := by unfold maxLen; omega
  have hby : (qs.length + 1) * 16 ≤ 140737488355328 := by omega
  have hb5 := b5.size
  clear cre hqs
  go_wp2_with (at_builtin; refine wpList_append_own _ rfl (.tmp 43) (.tmp 44) 28 rfl w4.heap.size 9 i0 (.string ByteArray.empty) 1 16 Tryz.underlying28 hi hz0 hz1 hz2 rfl (by decide) _ _ _ rfl (own5.alloc _) ⟨w5.heap.size, 0, none⟩ 1 1 [.string tailB] rfl rfl (pieces.cell_one _ _ _) (one_str _) hmx hby (by simp; omega) ?_; intro v6 w6 own6 g6 _; obtain ⟨R1, R2⟩ := push_str (c := tailB) own5 b5 hb5 own6 g6; obtain ⟨bs, hbs⟩ : ∃ bs, bs = qs ++ [tailB] := ⟨_, rfl⟩; rw [← hbs] at R1; have HBE : Hid (bs = qs ++ [tailB]) := hbs; clear hbs; obtain ⟨aB, cB, hv6⟩ := own_slice R1; subst hv6)
  rw [← HBE.out] at HBS
  have C6 := C4.below R2
  have cwr := written_any (.slice aB bs.length cB) bs 0 6 w6 (srow_of_own R1) HBS.out (by omega) (by omega)
  clear R1 R2 own5 own6 g6 b5 hb5 hmx hby C4 HBE
  refine cwr.mono ?_
  rintro e w7 ⟨sb, rfl, hsb, hfb, b7⟩
  have HFB : Hid (Fit K M Bn sb (datas bs)) := fit_of HO.out HBS.out hsb hfb
  have C7 := C6.below b7
  obtain ⟨x0, x1, x2⟩ := C7.opt.cells
  have cc := counted_any (Bo := w.heap.size) K M Bn sa (datas ps) a bb aE w7 C7.gl C7.new.size HFA.out
  clear cwr hsb hfb C6 b7
  go_wp2_with fail
  refine cc.mono ?_
  rintro e w8 ⟨v8, ea, rfl, own8, t8, n8⟩
  obtain ⟨a8, c8, hv⟩ := own_slice own8
  subst hv
  have HTA : Hid (TallyOf (wordsOf K (datas ps)) (ea.map cv)) := t8
  have C8 := C7.to n8
  have E8 : EOwn w8 (.slice a8 ea.length c8) ea := ⟨_, own8⟩
  clear x0 x1 x2 cc t8 own8 n8 C7
  obtain ⟨x0, x1, x2⟩ := C8.opt.cells
  have cc := counted_any (Bo := w.heap.size) K M Bn sb (datas bs) a bb aE w8 C8.gl C8.new.size HFB.out
  go_wp2_with fail
  refine cc.mono ?_
  rintro e w9 ⟨v9, eb, rfl, own9, t9, n9⟩
  obtain ⟨a9, c9, hv⟩ := own_slice own9
  subst hv
  have HTB : Hid (TallyOf (wordsOf K (datas bs)) (eb.map cv)) := t9
  have N9 := (C8.to n9).new
  have C9 : Ctz aF w w9 a bb aE qo K M Bn a7 len7 cap7 zs (.slice a8 ea.length c8) ea (.slice a9 eb.length c9) eb := ⟨C8.to n9, HG.out.2.1.new N9, E8.new n9, _, own9⟩
  have cl := lives_yes (Bo := w.heap.size) a bb aE w9 C9.c.gl C9.c.new.size
  clear x0 x1 x2 cc t9 own9 n9 C8 E8 N9
  go_wp2_with fail
  refine cl.mono ?_
  rintro e w10 ⟨rfl, n10⟩
  have C10 := C9.to n10
  clear cl n10 C9
  go_wp2_with fail
  refine (disk.New_any (Bo := w.heap.size) _ _ C10.c.new.size).mono ?_
  rintro e w11 ⟨p, rfl, D11, b11⟩
  have C11 := C10.below b11
  have HD11 : Hid (Disk w.heap.size w11 p (newDisk 1152921504606846976)) := D11
  clear b11 C10 D11
  go_wp2_with fail
  refine (pick_any run 150 _ HDI.out.1 (by omega) (by omega)).mono ?_
  rintro e wd ⟨nd, rfl, hnd, hwd⟩
  have hwd' := hwd.symm
  subst hwd'
  clear hwd
  have cdi := Die_any p nd _ _ HD11.out (by omega)
  have HR12 : Hid (Ready (Allow K M Bn (textB K M Bn sa) (runB (textB K M Bn sa)) (datas ps)) (DS.die (newDisk 1152921504606846976) nd) 20) := die_ready new_ready (by omega)
  clear HD11
  go_wp2_with fail
  refine cdi.mono ?_
  rintro e w12 ⟨rfl, D12, k12⟩
  have C12 := C11.kept k12
  obtain ⟨x0, x1, x2⟩ := C12.c.opt.cells
  have cr := Run_m p K M Bn sa (datas ps) _ 20 a bb aE w12 C12.c.gl C12.gx D12 HR12.out (by omega) HFA.out
  clear cdi k12 C11 D12
  go_wp2_with fail
  refine cr.mono ?_
  rintro e w13 ⟨n13, S13, rfl, hn, D13, nw13⟩
  have C13 := C12.to nw13
  have HL13 : Hid (Live (Allow K M Bn (textB K M Bn sa) (runB (textB K M Bn sa)) (datas ps)) draftB S13 484 ∧ AllDirs S13 (fun D => HasK planB D ∨ OnlyD D)) := by
    rcases hn with ⟨_, h⟩ | ⟨_, h⟩
    · exact ⟨h.live, h.plan.mono (fun D h => .inl h)⟩
    · exact ⟨h.live, h.dirs⟩
  have ccr := Crash_any p S13 484 a7 len7 cap7 zs w13 D13 HL13.out.1.sound.sane HL13.out.1.ok (by omega) C13.c.row
  clear cr nw13 C12 x0 x1 x2 D13 hn HR12
  go_wp2_with fail
  refine ccr.mono ?_
  rintro e w14 ⟨rfl, S14, D14, X14, k14⟩
  have C14 := C13.kept k14
  have HR14 : Hid (Ready (Allow K M Bn (textB K M Bn sa) (runB (textB K M Bn sa)) (datas ps)) S14 484) := crash_ready HL13.out.1 HL13.out.2 X14 (by omega)
  have HD14 : Hid (Disk w.heap.size w14 p S14) := D14
  clear ccr k14 C13 X14 D14 HL13
  go_wp2_with fail
  refine (pick_any die 60 _ HDI.out.2.1 (by omega) (by omega)).mono ?_
  rintro e wd ⟨nd2, rfl, hnd2, hwd⟩
  have hwd' := hwd.symm
  subst hwd'
  clear hwd
  have cdi := Die_any p nd2 _ _ HD14.out (by omega)
  have HR15 : Hid (Ready (Allow K M Bn (textB K M Bn sa) (runB (textB K M Bn sa)) (datas ps)) (DS.die S14 nd2) 484) := die_ready HR14.out (by omega)
  clear HD14 HR14
  go_wp2_with fail
  refine cdi.mono ?_
  rintro e w15 ⟨rfl, D15, k15⟩
  have C15 := C14.kept k15
  have hty := keep.Gm.type_kept C15.c.gm
  have cre := Reset_w K M Bn (textB K M Bn sa) (runB (textB K M Bn sa)) (datas ps) p (DS.die S14 nd2) 484 w15 D15 HR15.out (by omega) C15.c.gm.fail hty.1 hty.2
  clear cdi k15 C14 hty D15
  go_wp2_with fail
  refine cre.mono ?_
  rintro e w16 ⟨n16, S16, rfl, D16, l16, k16⟩
  have C16 := C15.kept k16
  have HL16 : Hid (Live (Allow K M Bn (textB K M Bn sa) (runB (textB K M Bn sa)) (datas ps)) draftB S16 (484 + 58) ∧ AllDirs S16 (fun D => HasK planB D ∨ OnlyD D)) := l16
  have ccr := Crash_any p S16 542 a7 len7 cap7 zs w16 D16 HL16.out.1.sound.sane HL16.out.1.ok (by omega) C16.c.row
  clear cre k16 C15 D16 l16 HR15
  go_wp2_with fail
  refine ccr.mono ?_
  rintro e w17 ⟨rfl, S17, D17, X17, k17⟩
  have C17 := C16.kept k17
  have HR17 : Hid (Ready (Allow K M Bn (textB K M Bn sa) (runB (textB K M Bn sa)) (datas ps)) S17 542 ∧ S17.life = -1 ∧ S17.Fine) := ⟨crash_ready HL16.out.1 HL16.out.2 X17 (by omega), X17.fine.life, X17.fine⟩
  have cco := Copy_any p S17 542 w17 D17 HR17.out.1.live.ok (by omega)
  clear ccr k17 C16 X17 D17 HL16
  go_wp2_with fail
  refine cco.mono ?_
  rintro e w18 ⟨q, rfl, D18, b18⟩
  have C18 := C17.below b18
  have HD18 : Hid (Disk w.heap.size w18 q S17) := D18
  clear cco b18 C17 D18
  go_wp2_with fail
  refine (pick_any which 2 _ HDI.out.2.2 (by omega) (by omega)).mono ?_
  rintro e wd ⟨nw, rfl, hnw, hwd⟩
  have hwd' := hwd.symm
  subst hwd'
  clear hwd
  obtain ⟨x0, x1, x2⟩ := C18.c.opt.cells
  by_cases h1 : nw = 1
  · subst h1
    by_cases hpl : sa ≠ sb ∧ HasK planB S17.now
    · have hq : (sb.toList == sa.toList) = false := by rw [beq_eq_false_iff_ne]; exact fun e => hpl.1 (diskm.toList_inj e).symm
      have hta := text_size K M Bn sa (by omega) (by have := HO.out.m3; omega) (by have := HO.out.b2; omega)
      obtain ⟨f, hlf, hAf⟩ := has_look HR17.out.1.live draft_plan hpl.2
      rw [allow_plan hAf] at hlf
      have cro := Run_other q K M Bn sb (textB K M Bn sa) (datas bs) S17 542 a bb aE w18 C18.c.gl C18.c.gm HD18.out HR17.out.1.live.ok (by omega) HR17.out.2.2 HFB.out hlf (textB_ends _ _ _ _) (by have := HFA.out.inp; omega) (fun e => hpl.1 (textB_inj e))
      have HC18 : Hid (New w.heap.size w w18) := C18.c.new
      clear hpl hta hlf hAf HD18 C18
      go_wp2_with fail
      refine cro.mono ?_
      rintro e w19 ⟨rfl, D19, n19⟩
      have HB : Hid (Below w.heap.size w w19) := keep.New.to (keep.New.and HC18.out n19)
      clear cro D19 n19 x0 x1 x2
      go_wp2
      go_ret
      exact ⟨rfl, HB.out⟩
    · have HRb : Hid (Ready (Allow K M Bn (textB K M Bn sb) (runB (textB K M Bn sb)) (datas bs)) S17 542) := by
        by_cases hab : sa = sb
        · have hrs : datas ps = datas bs := form_one HFA.out.form (by rw [hab]; exact HFB.out.form)
          have h := HR17.out.1
          rw [hab, hrs] at h
          exact h
        · exact only_ready HR17.out.1 (HR17.out.1.plan.resolve_left (fun h => hpl ⟨hab, h⟩))
      clear hpl
      have cr := Run_m q K M Bn sb (datas bs) S17 542 a bb aE w18 C18.c.gl C18.gx HD18.out HRb.out (by omega) HFB.out
      clear HD18
      go_wp2_with fail
      refine cr.mono ?_
      rintro e w19 ⟨n19, S19, rfl, hn, D19, nw19⟩
      have C19 := C18.to nw19
      have hn0 : n19 = 0 := by
        rcases hn with ⟨h, _⟩ | ⟨_, h⟩
        · exact h
        · exact absurd HR17.out.2.1 (fun hl => (well_not_cut h hl).elim)
      subst hn0
      have HW19 : Hid (WellR (Allow K M Bn (textB K M Bn sb) (runB (textB K M Bn sb)) (datas bs)) S17 S19 (542 + 464)) := by
        rcases hn with ⟨_, h⟩ | ⟨h, _⟩
        · exact h
        · exact absurd h (by decide)
      have cco := Copy_any q S19 (542 + 464) w19 D19 HW19.out.live.ok (by omega)
      clear cr nw19 C18 x0 x1 x2 D19 hn
      go_wp2_with fail
      refine cco.mono ?_
      rintro e w20 ⟨q2, rfl, D20, b20⟩
      have C20 := C19.below b20
      have hwl := HFB.out.words
      obtain ⟨e2, hl2, ht2⟩ := well_counts HW19.out
      have he2 : e2 = eb := tally_same HTB.out ht2 (List.Perm.refl _)
      subst he2
      have cop := Open_l q2 K S19 (542 + 464) (datas bs) (runB (textB K M Bn sb)) e2 a bb aE w20 C20.c.gl D20 (by omega) HW19.out.live.ok (well_alive HW19.out HR17.out.2.1) hl2 ht2 hK1 hK2 hwl (run_size _) (run_hex _)
      clear cco C19 b20 D20 hl2 ht2
      go_wp2_with fail
      refine cop.mono ?_
      rintro e w21 ⟨qb, ev, rfl, B21, n21⟩
      have C21 := C20.to n21.new
      have hel := (entries_of HTB.out hwl).1
      have csc := Scan_any qb K _ ev e2 _ ⟨#[]⟩ 20000 w21 B21 (by omega)
      clear cop n21 C20
      go_wp2_with fail
      refine csc.mono ?_
      rintro e w22 ⟨v22, i22, f22, rfl, hf22, own22, b22⟩
      have hi22 := found_nil hf22
      subst hi22
      rw [List.drop_zero, List.take_of_length_le (by omega)] at own22
      obtain ⟨a22, c22, hv22⟩ := own_slice own22
      subst hv22
      have C22 := C21.below b22
      have cse := sameEntries_any (.slice a22 e2.length c22) (.slice a9 e2.length c9) e2 w22 (ERow.of_own own22) C22.two.row (by omega)
      have HC22 : Hid (New w.heap.size w w22) := C22.c.new
      clear csc own22 b22 hf22 C21 B21 C22 hel hwl
      go_wp2_with fail
      refine cse.mono ?_
      rintro e w23 ⟨rfl, b23⟩
      have HB : Hid (Below w.heap.size w w23) := keep.New.to (New.below HC22.out b23)
      clear cse b23
      go_wp2
      go_ret
      exact ⟨rfl, HB.out⟩
  · have h2 : ((nw : Int) == 1) = false := by simp; omega
    have cr := Run_m q K M Bn sa (datas ps) S17 542 a bb aE w18 C18.c.gl C18.gx HD18.out HR17.out.1 (by omega) HFA.out
    clear HD18
    go_wp2_with fail
    refine cr.mono ?_
    rintro e w19 ⟨n19, S19, rfl, hn, D19, nw19⟩
    have C19 := C18.to nw19
    have hn0 : n19 = 0 := by
      rcases hn with ⟨h, _⟩ | ⟨_, h⟩
      · exact h
      · exact absurd HR17.out.2.1 (fun hl => (well_not_cut h hl).elim)
    subst hn0
    have HW19 : Hid (WellR (Allow K M Bn (textB K M Bn sa) (runB (textB K M Bn sa)) (datas ps)) S17 S19 (542 + 464)) := by
      rcases hn with ⟨_, h⟩ | ⟨h, _⟩
      · exact h
      · exact absurd h (by decide)
    have cco := Copy_any q S19 (542 + 464) w19 D19 HW19.out.live.ok (by omega)
    clear cr nw19 C18 x0 x1 x2 D19 hn
    go_wp2_with fail
    refine cco.mono ?_
    rintro e w20 ⟨q2, rfl, D20, b20⟩
    have C20 := C19.below b20
    have hwl := HFA.out.words
    obtain ⟨e2, hl2, ht2⟩ := well_counts HW19.out
    have he2 : e2 = ea := tally_same HTA.out ht2 (List.Perm.refl _)
    subst he2
    have cop := Open_l q2 K S19 (542 + 464) (datas ps) (runB (textB K M Bn sa)) e2 a bb aE w20 C20.c.gl D20 (by omega) HW19.out.live.ok (well_alive HW19.out HR17.out.2.1) hl2 ht2 hK1 hK2 hwl (run_size _) (run_hex _)
    clear cco C19 b20 D20 hl2 ht2
    go_wp2_with fail
    refine cop.mono ?_
    rintro e w21 ⟨qb, ev, rfl, B21, n21⟩
    have C21 := C20.to n21.new
    have hel := (entries_of HTA.out hwl).1
    have csc := Scan_any qb K _ ev e2 _ ⟨#[]⟩ 20000 w21 B21 (by omega)
    clear cop n21 C20
    go_wp2_with fail
    refine csc.mono ?_
    rintro e w22 ⟨v22, i22, f22, rfl, hf22, own22, b22⟩
    have hi22 := found_nil hf22
    subst hi22
    rw [List.drop_zero, List.take_of_length_le (by omega)] at own22
    obtain ⟨a22, c22, hv22⟩ := own_slice own22
    subst hv22
    have C22 := C21.below b22
    have cse := sameEntries_any (.slice a22 e2.length c22) (.slice a8 e2.length c8) e2 w22 (ERow.of_own own22) C22.one.row (by omega)
    have HC22 : Hid (New w.heap.size w w22) := C22.c.new
    clear csc own22 b22 hf22 C21 B21 C22 hel hwl
    go_wp2_with fail
    refine cse.mono ?_
    rintro e w23 ⟨rfl, b23⟩
    have HB : Hid (Below w.heap.size w w23) := keep.New.to (New.below HC22.out b23)
    clear cse b23
    go_wp2
    go_ret
    exact ⟨rfl, HB.out⟩
end Go.Proofs.YtbjgpfhbdmcbbabGreatDoor.cut
