import Derived.Test.YtbjgpfhbdmcbbabGreatDoorP31

/-
  THE WALK OF Others.
-/
namespace Go.Proofs.YtbjgpfhbdmcbbabGreatDoor.others
open Go.RowKit Go.Proofs.YtbjgpfhbdmcbbabGreatDoor.dnamath Go.Proofs.YtbjgpfhbdmcbbabGreatDoor.dna Go.Proofs.YtbjgpfhbdmcbbabGreatDoor.diskm Go.Proofs.YtbjgpfhbdmcbbabGreatDoor.disk Go.Proofs.YtbjgpfhbdmcbbabGreatDoor.hex Go.Proofs.YtbjgpfhbdmcbbabGreatDoor.pieces Go.Proofs.YtbjgpfhbdmcbbabGreatDoor.files Go.Proofs.YtbjgpfhbdmcbbabGreatDoor.parse Go.Proofs.YtbjgpfhbdmcbbabGreatDoor.words Go.Proofs.YtbjgpfhbdmcbbabGreatDoor.kinds Go.Proofs.YtbjgpfhbdmcbbabGreatDoor.jobs Go.Proofs.YtbjgpfhbdmcbbabGreatDoor.base Go.Proofs.YtbjgpfhbdmcbbabGreatDoor.fill Go.Proofs.YtbjgpfhbdmcbbabGreatDoor.keep
set_option linter.unusedVariables false

abbrev tailB : ByteArray := ⟨#[65, 67, 71, 84, 84, 71, 67, 65]⟩
theorem tail_reads {qs : List ByteArray} (h : ReadsIs qs) (hl : qs.length ≤ 12) : ReadsIs (qs ++ [tailB]) := by
  refine ⟨by rw [List.length_append]; simp; omega, fun p hp => ?_⟩
  rcases List.mem_append.1 hp with h1 | h1
  · exact h.2 p h1
  · rw [List.mem_singleton] at h1
    subst h1
    exact ⟨by decide, by decide, by unfold greatB; decide⟩

set_option maxHeartbeats 8000000 in
set_option maxRecDepth 100000 in
theorem walk (a0 : Option Addr) (len cap : Nat) (a1 : Option Addr) (len1 cap1 : Nat) (k m bins die : Int) (a6 : Option Addr) (len6 cap6 : Nat) (zs : List Int) (a bb aE : Addr) (w : World) (hrow : IsRows w a0 len) (hrow1 : IsRows w a1 len1) (hk : -9223372036854775808 ≤ k ∧ k ≤ 9223372036854775807) (hm : -9223372036854775808 ≤ m ∧ m ≤ 9223372036854775807) (hb : -9223372036854775808 ≤ bins ∧ bins ≤ 9223372036854775807) (hdi : -9223372036854775808 ≤ die ∧ die ≤ 9223372036854775807) (hkeep : IsRow w a6 len6 cap6 zs) (hG : Gl w a bb aE) (hGm : Gm w) :
    Calls Tryz.prog 3 #[.slice a0 len cap, .slice a1 len1 cap1, .int .i64 k, .int .i64 m, .int .i64 bins, .int .i64 die, .slice a6 len6 cap6] w fun e w' => e = .returned (.bool true) ∧ Below w.heap.size w w' := by
  obtain ⟨i0, hi, hz0, hz1, hz2⟩ := info_parts infoS
  have HG : Hid (Gl w a bb aE ∧ Gm w ∧ IsRows w a0 len ∧ IsRows w a1 len1 ∧ LowRow w.heap.size w a6 len6 cap6 zs) := ⟨hG, hGm, hrow, hrow1, lowRow_of hkeep⟩
  have HDI : Hid (-9223372036854775808 ≤ die ∧ die ≤ 9223372036854775807) := hdi
  have co := options_any k m bins w hk hm hb
  clear hG hGm hrow hrow1 hkeep hk hm hb hdi
  go_enter Tryz.func3, Tryz.ntmps3
  go_wp2_with fail
  refine co.mono ?_
  rintro e w1 ⟨K, M, Bn, rfl, ho, -, b1⟩
  have HO : Hid (OptIs K M Bn) := ho
  have hK1 := ho.k1
  have hK2 := ho.k2
  clear ho co
  go_wp2_with fail
  obtain ⟨W2, hW2⟩ : ∃ W2, W2 = w1.alloc (.cells #[.int .i64 (K : Int), .int .i64 (M : Int), .int .i64 (Bn : Int)] 25) := ⟨_, rfl⟩
  obtain ⟨qo, hqo⟩ : ∃ qo, qo = w1.heap.size := ⟨_, rfl⟩
  have O2 : OptAt W2 qo K M Bn := ⟨by rw [hW2, hqo]; exact heap_alloc_new _ _⟩
  have B2 : Below w.heap.size w W2 := by rw [hW2]; exact b1.trans (((Below.refl _ w1).alloc (Nat.le_refl _) _).mono b1.size)
  rw [← hW2, ← hqo]
  clear hW2 hqo b1
  have n2 : New w.heap.size w W2 := (New.refl w).below B2
  have C2 : Ctx w W2 a bb aE qo K M Bn a6 len6 cap6 zs := ⟨n2, HG.out.1.below B2, HG.out.2.1.below B2, O2, lowRow_new HG.out.2.2.2.2 (Nat.le_refl _) n2⟩
  have R2 : IsRows W2 a1 len1 := HG.out.2.2.2.1.later B2
  have cre := reads_12 a0 len cap W2 (HG.out.2.2.1.later B2)
  clear O2 B2 n2
  refine cre.mono ?_
  rintro e w3 ⟨v, ps, rfl, own3, hps, hp12, b3⟩
  obtain ⟨aV, cV, hv⟩ := own_slice own3
  subst hv
  have S3 := srow_of_own own3
  have HPS : Hid (ReadsIs ps) := hps
  have C3 := C2.below b3
  have R3 := R2.later b3
  have cwr := written_any (.slice aV ps.length cV) ps 0 6 w3 S3 hps (by omega) (by omega)
  clear cre own3 hps C2 R2 b3
  go_wp2_with fail
  refine cwr.mono ?_
  rintro e w4 ⟨sa, rfl, hsa, hfa, b4⟩
  have HFA : Hid (Fit K M Bn sa (datas ps)) := fit_of HO.out HPS.out hsa hfa
  have C4 := C3.below b4
  have cre := reads_12 a1 len1 cap1 w4 (R3.later b4)
  clear cwr hsa hfa C3 R3 b4 S3
  go_wp2_with fail
  refine cre.mono ?_
  rintro e w5 ⟨v, qs, rfl, own5, hqs, hq12, b5⟩
  obtain ⟨aQ, cQ, hv⟩ := own_slice own5
  subst hv
  have HBS : Hid (ReadsIs (qs ++ [tailB])) := tail_reads hqs hq12
  have hmx : qs.length + 1 ≤ maxLen := by unfold maxLen; omega
  have hby : (qs.length + 1) * 16 ≤ 140737488355328 := by omega
  have hb5 := b5.size
  clear cre hqs
  go_wp2_with (at_builtin; refine wpList_append_own _ rfl (.tmp 46) (.tmp 47) 28 rfl w4.heap.size 9 i0 (.string ByteArray.empty) 1 16 Tryz.underlying28 hi hz0 hz1 hz2 rfl (by decide) _ _ _ rfl (own5.alloc _) ⟨w5.heap.size, 0, none⟩ 1 1 [.string tailB] rfl rfl (pieces.cell_one _ _ _) (one_str _) hmx hby (by simp; omega) ?_; intro v6 w6 own6 g6 _; obtain ⟨R1, R2⟩ := push_str (c := tailB) own5 b5 hb5 own6 g6; obtain ⟨bs, hbs⟩ : ∃ bs, bs = qs ++ [tailB] := ⟨_, rfl⟩; rw [← hbs] at R1; have HBE : Hid (bs = qs ++ [tailB]) := hbs; clear hbs; obtain ⟨aB, cB, hv6⟩ := own_slice R1; subst hv6)
  rw [← HBE.out] at HBS
  have C6 := C4.below R2
  have cwr := written_any (.slice aB bs.length cB) bs 0 6 w6 (srow_of_own R1) HBS.out (by omega) (by omega)
  clear R1 R2 own5 own6 g6 b5 hb5 hmx hby C4 HBE
  refine cwr.mono ?_
  rintro e w7 ⟨sb, rfl, hsb, hfb, b7⟩
  have HFB : Hid (Fit K M Bn sb (datas bs)) := fit_of HO.out HBS.out hsb hfb
  have C7 := C6.below b7
  obtain ⟨x0, x1, x2⟩ := C7.opt.cells
  have cc := counted_any (Bo := w.heap.size) K M Bn sb (datas bs) a bb aE w7 C7.gl C7.new.size HFB.out
  clear cwr hsb hfb C6 b7
  go_wp2_with fail
  refine cc.mono ?_
  rintro e w8 ⟨v8, eb, rfl, own8, t8, n8⟩
  obtain ⟨a8, c8, hv⟩ := own_slice own8
  subst hv
  have HTB : Hid (TallyOf (wordsOf K (datas bs)) (eb.map cv)) := t8
  have C8 := C7.to n8
  have E8 : EOwn w8 (.slice a8 eb.length c8) eb := ⟨_, own8⟩
  clear x0 x1 x2 cc t8 own8 n8 C7
  obtain ⟨x0, x1, x2⟩ := C8.opt.cells
  have cc := counted_any (Bo := w.heap.size) K M Bn sa (datas ps) a bb aE w8 C8.gl C8.new.size HFA.out
  go_wp2_with fail
  refine cc.mono ?_
  rintro e w9 ⟨v9, ea, rfl, own9, t9, n9⟩
  obtain ⟨a9, c9, hv⟩ := own_slice own9
  subst hv
  have HTA : Hid (TallyOf (wordsOf K (datas ps)) (ea.map cv)) := t9
  have C9 : Cty w w9 a bb aE qo K M Bn a6 len6 cap6 zs (.slice a8 eb.length c8) eb (.slice a9 ea.length c9) ea := ⟨C8.to n9, E8.new n9, _, own9⟩
  have cl := lives_yes (Bo := w.heap.size) a bb aE w9 C9.c.gl C9.c.new.size
  clear x0 x1 x2 cc t9 own9 n9 C8 E8
  go_wp2_with fail
  refine cl.mono ?_
  rintro e w10 ⟨rfl, n10⟩
  have C10 := C9.to n10
  clear cl n10 C9
  go_wp2_with fail
  refine (disk.New_any (Bo := w.heap.size) _ _ C10.c.new.size).mono ?_
  rintro e w11 ⟨p, rfl, D11, b11⟩
  have C11 := C10.below b11
  obtain ⟨x0, x1, x2⟩ := C11.c.opt.cells
  have cr := Run_full p K M Bn sa (datas ps) _ 0 a bb aE w11 C11.c.gl D11 new_room (by omega) HFA.out (new_look _ _) (new_look _ _)
  clear b11 C10 D11
  go_wp2_with fail
  refine cr.mono ?_
  rintro e w12 ⟨S1, e1, rfl, D12, FP, n12⟩
  have he1 : e1 = ea := tally_same HTA.out FP.1.tally (List.Perm.refl _)
  subst he1
  have C12 := C11.to n12
  have HFP : Hid (Done S1 (0 + 120) K (datas ps) (runB (textB K M Bn sa)) e1 ∧ S1.look planB = some (wholeF (planHB.data.toList ++ (textB K M Bn sa).data.toList))) := FP
  clear x0 x1 x2 cr n12 C11 FP
  by_cases hab : sa = sb
  case' pos =>
    have hq : (sa.toList == sb.toList) = true := by rw [hab]; exact beq_self_eq_true _
    have H20 : Hid (∃ S20, Disk w.heap.size w12 p S20 ∧ files.Good S20 120 ∧ S20.cap = 1152921504606846976) := ⟨S1, D12, HFP.out.1.room.good, HFP.out.1.room.cap⟩
    obtain ⟨w20, hw20⟩ : ∃ w20, w20 = w12 := ⟨_, rfl⟩
    rw [← hw20] at C12 H20 ⊢
    have C20 := C12
    clear D12 C12 hw20 hab
    subst_vars
    go_wp2_with fail
  case' neg =>
    have hq : (sa.toList == sb.toList) = false := by rw [beq_eq_false_iff_ne]; exact fun e => hab (diskm.toList_inj e)
    have hta := text_size K M Bn sa (by omega) (by have := HO.out.m3; omega) (by have := HO.out.b2; omega)
    have cro := Run_other p K M Bn sb (textB K M Bn sa) (datas bs) S1 120 a bb aE w12 C12.c.gl C12.c.gm D12 HFP.out.1.room.good.ok (by omega) HFP.out.1.room.good.fine HFB.out HFP.out.2 (textB_ends _ _ _ _) (by have := HFA.out.inp; omega) (fun e => hab (textB_inj e))
    obtain ⟨x0, x1, x2⟩ := C12.c.opt.cells
    clear hab hta D12
    go_wp2_with fail
    refine cro.mono ?_
    rintro e w13 ⟨rfl, D13, n13⟩
    have C13 := C12.to n13
    have cco := Copy_any p (DS.sure S1) 120 w13 D13 (sure_good HFP.out.1.room.good).ok (by omega)
    clear cro n13 C12 x0 x1 x2
    go_wp2_with fail
    refine cco.mono ?_
    rintro e w14 ⟨q, rfl, D14, b14⟩
    have C14 := C13.below b14
    have D14p := D13.below b14
    have hwl := HFA.out.words
    have cop := Open_calm q K (DS.sure S1) 120 (datas ps) (runB (textB K M Bn sa)) e1 a bb aE w14 C14.c.gl D14 (by omega) (sure_done HFP.out.1) hK1 hK2 hwl (run_size _) (run_hex _)
    clear cco D13 b14 C13 D14
    go_wp2_with fail
    refine cop.mono ?_
    rintro e w15 ⟨qb, ev, rfl, B15, n15⟩
    have C15 := C14.to n15.new
    have D15 := n15.disk D14p
    have hel := (entries_of HTA.out hwl).1
    have csc := Scan_any qb K _ ev e1 _ ⟨#[]⟩ 20000 w15 B15 (by omega)
    clear cop n15 C14 D14p
    go_wp2_with fail
    refine csc.mono ?_
    rintro e w16 ⟨v16, i16, f16, rfl, hf16, own16, b16⟩
    have hi16 := found_nil hf16
    subst hi16
    rw [List.drop_zero, List.take_of_length_le (by omega)] at own16
    obtain ⟨a16, c16, hv16⟩ := own_slice own16
    subst hv16
    have C16 := C15.below b16
    have cse := sameEntries_any (.slice a16 e1.length c16) (.slice a9 e1.length c9) e1 w16 (ERow.of_own own16) C16.two.row (by omega)
    have D16 := D15.below b16
    clear csc own16 b16 hf16 C15 D15 B15
    go_wp2_with fail
    refine cse.mono ?_
    rintro e w20 ⟨rfl, b20⟩
    have C20 := C16.below b20
    have H20 : Hid (∃ S20, Disk w.heap.size w20 p S20 ∧ files.Good S20 120 ∧ S20.cap = 1152921504606846976) := ⟨DS.sure S1, D16.below b20, sure_good HFP.out.1.room.good, HFP.out.1.room.cap⟩
    clear cse b20 C16 D16 hwl hel
    go_wp2_with fail
  all_goals
    refine (pick_any die 60 _ HDI.out (by omega) (by omega)).mono ?_
    rintro e wd ⟨nd, rfl, hnd, hwd⟩
    have hwd' := hwd.symm
    subst hwd'
    clear hwd
    obtain ⟨S20, D20, G20, cap20⟩ := H20.out
    have cdi := Die_any p nd S20 w20 D20 (by omega)
    have HS20 : Hid (files.Good S20 120 ∧ S20.cap = 1152921504606846976) := ⟨G20, cap20⟩
    clear D20 G20 cap20
    go_wp2_with fail
    refine cdi.mono ?_
    rintro e w21 ⟨rfl, D21, k21⟩
    have C21 := C20.kept k21
    have hty := keep.Gm.type_kept C21.c.gm
    have cre := Reset_m p (DS.die S20 nd) 120 w21 D21 (die_sane HS20.out.1.sane) (die_ok HS20.out.1.ok (by omega)) (by omega) C21.c.gm.fail hty.1 hty.2
    clear cdi k21 C20 hty D21 H20
    go_wp2_with fail
    refine cre.mono ?_
    rintro e w22 ⟨n22, S22, rfl, D22, T22, k22⟩
    have C22 := C21.kept k22
    have ccr := Crash_any p S22 481 a6 len6 cap6 zs w22 D22 T22.sane (T22.ok) (by omega) C22.c.row
    have HT22 : Hid (Sane S22 ∧ S22.Ok 481 ∧ S22.cap = 1152921504606846976) := ⟨T22.sane, T22.ok, by rw [T22.cap]; exact HS20.out.2⟩
    clear cre k22 C21 D22 T22
    go_wp2_with fail
    refine ccr.mono ?_
    rintro e w23 ⟨rfl, S23, D23, X23, k23⟩
    have C23 := C22.kept k23
    have HG23 : Hid (files.Good S23 962 ∧ S23.cap = 1152921504606846976) := ⟨crashed_good X23 HT22.out.1 HT22.out.2.1, by rw [X23.cap]; exact HT22.out.2.2⟩
    have cco := Copy_any p S23 962 w23 D23 HG23.out.1.ok (by omega)
    clear ccr k23 C22 X23 D23
    go_wp2_with fail
    refine cco.mono ?_
    rintro e w24 ⟨q2, rfl, D24, b24⟩
    have C24 := C23.below b24
    have crf := Reset_fine q2 S23 962 w24 D24 HG23.out.1 (by omega)
    clear cco b24 C23 D24
    go_wp2_with fail
    refine crf.mono ?_
    rintro e w25 ⟨S25, rfl, D25, L25, k25⟩
    have C25 := C24.kept k25
    have hll : (listOf S23).length ≤ 962 := Nat.le_trans (list_len S23) HG23.out.1.ok.nl
    have HL25 : Hid (Sane S25 ∧ S25.Ok 1924 ∧ S25.now = [] ∧ S25.safe = S25.now ∧ S25.steps = [] ∧ S25.cap = 1152921504606846976) := ⟨L25.1.good.sane, (L25.1.good.mono (by omega)).ok, less_all L25.1 HG23.out.1, L25.2.1, L25.2.2, by rw [L25.1.cap]; exact HG23.out.2⟩
    have ccr := Crash_any q2 S25 1924 a6 len6 cap6 zs w25 D25 HL25.out.1 HL25.out.2.1 (by omega) C25.c.row
    clear crf k25 C24 L25 D25 hll
    go_wp2_with fail
    refine ccr.mono ?_
    rintro e w26 ⟨rfl, S26, D26, X26, k26⟩
    have C26 := C25.kept k26
    have HR26 : Hid (RoomB S26 1924 ∧ S26.now = []) := room_empty X26 HL25.out.1 HL25.out.2.1 HL25.out.2.2.1 HL25.out.2.2.2.1 HL25.out.2.2.2.2.1 HL25.out.2.2.2.2.2
    have cli := List_any q2 S26 1924 w26 D26 HR26.out.1.good.ok (by omega)
    have hle : listOf S26 = [] := by unfold listOf; rw [HR26.out.2]; split <;> rfl
    rw [hle] at cli
    have HD26 : Hid (Disk w.heap.size w26 q2 S26) := D26
    clear ccr k26 C25 X26 D26 hle
    go_wp2_with fail
    refine cli.mono ?_
    rintro e w27 ⟨v27, rfl, own27, b27⟩
    obtain ⟨a27, c27, hv27⟩ := own_slice own27
    subst hv27
    have C27 := C26.below b27
    have cco := Copy_any q2 S26 1924 w27 (HD26.out.below b27) HR26.out.1.good.ok (by omega)
    clear cli own27 b27 C26
    go_wp2_with fail
    refine cco.mono ?_
    rintro e w28 ⟨q3, rfl, D28, b28⟩
    have C28 := C27.below b28
    obtain ⟨x0, x1, x2⟩ := C28.c.opt.cells
    have cr := Run_full q3 K M Bn sb (datas bs) S26 1924 a bb aE w28 C28.c.gl D28 HR26.out.1 (by omega) HFB.out (look_empty HR26.out.2 _) (look_empty HR26.out.2 _)
    clear cco b28 C27 D28
    go_wp2_with fail
    refine cr.mono ?_
    rintro e w29 ⟨S29, e2, rfl, D29, FP2, n29⟩
    have he2 : e2 = eb := tally_same HTB.out FP2.1.tally (List.Perm.refl _)
    subst he2
    have C29 := C28.to n29
    have HFP2 : Hid (Done S29 (1924 + 120) K (datas bs) (runB (textB K M Bn sb)) e2) := FP2.1
    have cco := Copy_any q3 S29 2044 w29 D29 FP2.1.room.good.ok (by omega)
    clear x0 x1 x2 cr n29 C28 FP2 D29
    go_wp2_with fail
    refine cco.mono ?_
    rintro e w30 ⟨q4, rfl, D30, b30⟩
    have C30 := C29.below b30
    have hwb := HFB.out.words
    have cop := Open_calm q4 K S29 (1924 + 120) (datas bs) (runB (textB K M Bn sb)) e2 a bb aE w30 C30.c.gl D30 (by omega) HFP2.out hK1 hK2 hwb (run_size _) (run_hex _)
    clear cco C29 b30 D30
    go_wp2_with fail
    refine cop.mono ?_
    rintro e w31 ⟨qb2, ev2, rfl, B31, n31⟩
    have C31 := C30.to n31.new
    have helb := (entries_of HTB.out hwb).1
    have csc := Scan_any qb2 K _ ev2 e2 _ ⟨#[]⟩ 20000 w31 B31 (by omega)
    clear cop n31 C30
    go_wp2_with fail
    refine csc.mono ?_
    rintro e w32 ⟨v32, i32, f32, rfl, hf32, own32, b32⟩
    have hi32 := found_nil hf32
    subst hi32
    rw [List.drop_zero, List.take_of_length_le (by omega)] at own32
    obtain ⟨a32, c32, hv32⟩ := own_slice own32
    subst hv32
    have C32 := C31.below b32
    have cse := sameEntries_any (.slice a32 e2.length c32) (.slice a8 e2.length c8) e2 w32 (ERow.of_own own32) C32.one.row (by omega)
    have HC32 : Hid (New w.heap.size w w32) := C32.c.new
    clear csc own32 b32 hf32 C31 B31 C32
    go_wp2_with fail
    refine cse.mono ?_
    rintro e w33 ⟨rfl, b33⟩
    have HB : Hid (Below w.heap.size w w33) := keep.New.to (New.below HC32.out b33)
    clear cse b33
    go_wp2
    go_ret
    exact ⟨rfl, HB.out⟩
end Go.Proofs.YtbjgpfhbdmcbbabGreatDoor.others
