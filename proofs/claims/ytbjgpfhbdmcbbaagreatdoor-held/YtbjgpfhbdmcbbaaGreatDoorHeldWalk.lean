import Derived.Test.YtbjgpfhbdmcbbaaGreatDoorP41

/-
  THE WALK OF Held.
-/
namespace Go.Proofs.YtbjgpfhbdmcbbaaGreatDoor.held
open Go.RowKit dnamath dna diskm disk hex pieces files parse words kinds jobs base fill keep
set_option linter.unusedVariables false

theorem row_cap {w : World} {a : Option Addr} {len cap : Nat} {zs : List Int} (h : IsRow w a len cap zs) : len ≤ cap := by
  rcases h with ⟨_, h1, h2, _⟩ | ⟨x, _, h2, h3, _⟩
  · omega
  · omega
/-- if so, then -/
def When (b : Bool) (P : Prop) : Prop := b = true → P
/-- what stands between two rounds -/
def Stands (Bo : Nat) (wr : World) (q N K M Bn : Nat) (s : ByteArray) (rs : List (List UInt8)) (b : Bool) : Prop :=
  ∃ S, Disk Bo wr q S ∧ Ready (Allow K M Bn (textB K M Bn s) (runB (textB K M Bn s)) rs) S N ∧ S.life = -1 ∧ When b (HasK countsB S.now)
/-- what stands behind a run -/
def Ran (Bo : Nat) (wr : World) (q N K M Bn : Nat) (s : ByteArray) (rs : List (List UInt8)) (b : Bool) : Prop :=
  ∃ S, Disk Bo wr q S ∧ Live (Allow K M Bn (textB K M Bn s) (runB (textB K M Bn s)) rs) draftB S N ∧ AllDirs S (fun D => HasK planB D ∨ OnlyD D) ∧ When b (AllDirs S (HasK countsB))

set_option maxHeartbeats 16000000 in
set_option maxRecDepth 100000 in
theorem walk {aF : Addr} (a0 : Option Addr) (len cap : Nat) (k m bins : Int) (a4 : Option Addr) (len4 cap4 : Nat) (zs4 : List Int) (a5 : Option Addr) (len5 cap5 : Nat) (zs5 : List Int) (a bb aE : Addr) (w : World) (hrow : IsRows w a0 len) (hk : -9223372036854775808 ≤ k ∧ k ≤ 9223372036854775807) (hm : -9223372036854775808 ≤ m ∧ m ≤ 9223372036854775807) (hb : -9223372036854775808 ≤ bins ∧ bins ≤ 9223372036854775807) (hdies : IsRow w a4 len4 cap4 zs4) (hkeep : IsRow w a5 len5 cap5 zs5) (hG : Gl w a bb aE) (hGx : Gx aF a bb w) :
    Calls Tryz.prog 8 #[.slice a0 len cap, .int .i64 k, .int .i64 m, .int .i64 bins, .slice a4 len4 cap4, .slice a5 len5 cap5] w fun e w' => e = .returned (.bool true) ∧ Below w.heap.size w w' := by
  have HG : Hid (Gl w a bb aE ∧ Gx aF a bb w ∧ IsRows w a0 len ∧ LowRow w.heap.size w a4 len4 cap4 zs4 ∧ LowRow w.heap.size w a5 len5 cap5 zs5) := ⟨hG, hGx, hrow, lowRow_of hdies, lowRow_of hkeep⟩
  have hl4 := row_len hdies
  have hl5 := row_len hkeep
  have co := options_any k m bins w hk hm hb
  clear hG hGx hrow hdies hkeep hk hm hb
  go_enter Tryz.func8, Tryz.ntmps8
  go_wp2_with fail
  refine co.mono ?_
  rintro e w1 ⟨K, M, Bn, rfl, ho, -, b1⟩
  have HO : Hid (OptIs K M Bn) := ho
  have hK1 := ho.k1
  have hK2 := ho.k2
  clear ho co
  go_wp2_with fail
  obtain ⟨W2, hW2⟩ : ∃ W2, W2 = w1.alloc (.cells #[.int .i64 (K : Int), .int .i64 (M : Int), .int .i64 (Bn : Int)] 29) := ⟨_, rfl⟩
  obtain ⟨qo, hqo⟩ : ∃ qo, qo = w1.heap.size := ⟨_, rfl⟩
  have O2 : OptAt W2 qo K M Bn := ⟨by rw [hW2, hqo]; exact heap_alloc_new _ _⟩
  have B2 : Below w.heap.size w W2 := by rw [hW2]; exact b1.trans (((Below.refl _ w1).alloc (Nat.le_refl _) _).mono b1.size)
  rw [← hW2, ← hqo]
  clear hW2 hqo b1
  have cre := reads_12 a0 len cap W2 (HG.out.2.2.1.later B2)
  refine cre.mono ?_
  rintro e w3 ⟨v, ps, rfl, own3, hps, hp12, b3⟩
  obtain ⟨aV, cV, hv⟩ := own_slice own3
  subst hv
  have HPS : Hid (ReadsIs ps) := hps
  have O3 := O2.new ((New.refl (Bo := w.heap.size) W2).below b3)
  have B3 : Below w.heap.size w w3 := B2.trans (b3.mono B2.size)
  have cwr := written_any (.slice aV ps.length cV) ps 0 6 w3 (srow_of_own own3) hps (by omega) (by omega)
  clear cre own3 hps O2 B2 b3
  go_wp2_with fail
  refine cwr.mono ?_
  rintro e w4 ⟨s, rfl, hs, hf, b4⟩
  have HF : Hid (Fit K M Bn s (datas ps)) := fit_of HO.out HPS.out hs hf
  have O4 := O3.new ((New.refl (Bo := w.heap.size) w3).below b4)
  have B4 : Hid (Below w.heap.size w w4) := B3.trans (b4.mono B3.size)
  obtain ⟨x0, x1, x2⟩ := O4.cells
  have cc := counted_any (Bo := w.heap.size) K M Bn s (datas ps) a bb aE w4 (HG.out.1.below B4.out) B4.out.size HF.out
  clear cwr hs hf O3 B3 b4
  go_wp2_with fail
  refine cc.mono ?_
  rintro e w5 ⟨v5, es, rfl, own5, t5, n5⟩
  obtain ⟨aV5, cV5, hv⟩ := own_slice own5
  subst hv
  have HT : Hid (TallyOf (wordsOf K (datas ps)) (es.map cv)) := t5
  have N5 : New w.heap.size w w5 := keep.New.and ((New.refl w).below B4.out) n5
  have C5 : Cth aF w w5 a bb aE qo K M Bn a4 len4 cap4 zs4 a5 len5 cap5 zs5 (.slice aV5 es.length cV5) es := ⟨N5, HG.out.1.new N5, HG.out.2.1.new N5, O4.new n5, lowRow_new HG.out.2.2.2.1 (Nat.le_refl _) N5, lowRow_new HG.out.2.2.2.2 (Nat.le_refl _) N5, _, own5⟩
  have cl := lives_yes (Bo := w.heap.size) a bb aE w5 C5.gl C5.new.size
  clear x0 x1 x2 cc t5 own5 n5 N5 O4
  go_wp2_with fail
  refine cl.mono ?_
  rintro e w6 ⟨rfl, n6⟩
  have C6 := C5.to n6
  clear cl n6 C5
  go_wp2_with fail
  refine (disk.New_any (Bo := w.heap.size) _ _ C6.new.size).mono ?_
  rintro e w7 ⟨p, rfl, D7, b7⟩
  have HC7 : Hid (Cth aF w w7 a bb aE qo K M Bn a4 len4 cap4 zs4 a5 len5 cap5 zs5 (.slice aV5 es.length cV5) es) := C6.below b7
  have HD7 : Hid (Stands w.heap.size w7 p (20 + 464 * 0) K M Bn s (datas ps) false) := ⟨_, D7, new_ready, rfl, fun h => by cases h⟩
  have hwl : Hid ((wordsOf K (datas ps)).length ≤ 1440) := HF.out.words
  have hel : es.length ≤ 1440 := (entries_of HT.out hwl.out).1
  clear b7 C6 D7
  go_wp2_with fail
  go_loopw [18, 19, 20] (fun dv bv iv wr => ∃ (j q : Nat) (b : Bool), j ≤ len4 ∧ j ≤ 12 ∧ dv = .pointer (some ⟨q, 0, none⟩) ∧ bv = .bool b ∧ iv = .int .i64 (j : Int) ∧ Hid (Cth aF w wr a bb aE qo K M Bn a4 len4 cap4 zs4 a5 len5 cap5 zs5 (.slice aV5 es.length cV5) es) ∧ Hid (Stands w.heap.size wr q (20 + 464 * j) K M Bn s (datas ps) b)) (fun _ _ iv _ => len4 - (intOf iv).toNat)
  case atStart => exact ⟨0, p, false, Nat.zero_le _, Nat.zero_le _, rfl, rfl, rfl, HC7, HD7⟩
  case round =>
    obtain ⟨j, q, b, hj4, hj12, rfl, rfl, rfl, hC, hD⟩ := hrel
    clear HC7 HD7
    rename World => wr
    by_cases hlt : j < len4 ∧ j < 12
    · obtain ⟨h4, h12⟩ := hlt
      obtain ⟨b4, o4, z, ha4, hc4, hz1, hz2, -⟩ := row_at hC.out.rowd.1 h4
      subst ha4
      go_wp2_with fail
      refine (pick_any z 150 _ ⟨hz1, hz2⟩ (by omega) (by omega)).mono ?_
      rintro e wd ⟨nd, rfl, hnd, hwd⟩
      have hwd' := hwd.symm
      subst hwd'
      clear hwd hc4 hz1 hz2
      obtain ⟨S, D0, R0, L0, K0⟩ := hD.out
      have cdi := Die_any q nd S wr D0 (by omega)
      have HR1 : Hid (Ready (Allow K M Bn (textB K M Bn s) (runB (textB K M Bn s)) (datas ps)) (DS.die S nd) (20 + 464 * j) ∧ When b (HasK countsB (DS.die S nd).now)) := ⟨die_ready R0 (by omega), K0⟩
      clear D0 R0 L0 K0 hD
      go_wp2_with fail
      refine cdi.mono ?_
      rintro e wa ⟨rfl, Da, ka⟩
      have Ca := hC.out.kept ka
      obtain ⟨x0, x1, x2⟩ := Ca.opt.cells
      have cr := Run_m q K M Bn s (datas ps) (DS.die S nd) (20 + 464 * j) a bb aE wa Ca.gl Ca.gx Da HR1.out.1 (by omega) HF.out
      clear cdi ka hC Da
      go_wp2_with fail
      refine cr.mono ?_
      rintro e wb ⟨n, S2, rfl, hn, Db, nb⟩
      have Cb : Hid (Cth aF w wb a bb aE qo K M Bn (some ⟨b4, o4, none⟩) len4 cap4 zs4 a5 len5 cap5 zs5 (.slice aV5 es.length cV5) es) := Ca.to nb
      have cdd : Calls Tryz.prog 27 #[.pointer (some ⟨q, 0, none⟩)] wb fun e w' => e = .returned (.bool S2.dead) ∧ w' = wb := by
        obtain ⟨vF, vN, vS, vT, h⟩ := Db
        exact Dead_any q S2 vF vN vS vT wb h
      have HDb : Hid (Disk w.heap.size wb q S2) := Db
      clear cr nb Ca x0 x1 x2 Db
      rcases hn with ⟨rfl, hn⟩ | ⟨rfl, hn⟩
      · have HRan : Hid (Ran w.heap.size wb q (20 + 464 * j + 464) K M Bn s (datas ps) true) := ⟨S2, HDb.out, hn.live, hn.plan.mono (fun D h => .inl h), fun _ => hn.counts⟩
        clear hn HDb HR1
        obtain ⟨dd, hdd⟩ : ∃ dd, dd = S2.dead := ⟨_, rfl⟩
        rw [← hdd] at cdd
        clear hdd
        go_wp2_with fail
        refine cdd.mono ?_
        rintro e we ⟨rfl, hwe⟩
        have hwe' := hwe.symm
        subst hwe'
        clear hwe cdd
        cases b
        · by_cases h5 : j < len5
          · have hcj := Nat.lt_of_lt_of_le h5 (row_cap Cb.out.rowk.1)
            have hcn : ¬ cap5 = j := by omega
            obtain ⟨b5, o5, z5, ha5, -, -, -, -⟩ := row_at Cb.out.rowk.1 h5
            subst ha5
            have RK : LowRow w.heap.size wb (some ⟨b5, o5 + j, none⟩) (len5 - j) (cap5 - j) (zs5.drop j) := LowRow.drop Cb.out.rowk h5
            obtain ⟨S2', D2, L2, A2, K2⟩ := HRan.out
            have ccr := Crash_any q S2' (20 + 464 * j + 464) (some ⟨b5, o5 + j, none⟩) (len5 - j) (cap5 - j) (zs5.drop j) wb D2 L2.sound.sane L2.ok (by omega) RK
            have HL2 : Hid (Live (Allow K M Bn (textB K M Bn s) (runB (textB K M Bn s)) (datas ps)) draftB S2' (20 + 464 * j + 464) ∧ AllDirs S2' (fun D => HasK planB D ∨ OnlyD D) ∧ When true (AllDirs S2' (HasK countsB))) := ⟨L2, A2, K2⟩
            clear HRan D2 L2 A2 K2 RK
            go_wp2_with fail
            refine ccr.mono ?_
            rintro e wf ⟨rfl, S3, D3, X3, kf⟩
            have Cf := Cb.out.kept kf
            have HR3 : Hid (Ready (Allow K M Bn (textB K M Bn s) (runB (textB K M Bn s)) (datas ps)) S3 (20 + 464 * j + 464) ∧ S3.life = -1 ∧ S3.dead = false ∧ When true (HasK countsB S3.now)) := by
              have hr := crash_ready HL2.out.1 HL2.out.2.1 X3 (by omega)
              exact ⟨hr, X3.fine.life, alive (by rw [X3.fine.life]; decide), fun h => (dirs_crash (HL2.out.2.2 h) X3).now hr.live.sound.sane⟩
            have cco := Copy_any q S3 (20 + 464 * j + 464) wf D3 HR3.out.1.live.ok (by omega)
            clear ccr kf Cb X3 D3 HL2
            go_wp2_with fail
            refine cco.mono ?_
            rintro e wg ⟨q3, rfl, D4, bg⟩
            have Cg := Cf.below bg
            have HD4 : Hid (Disk w.heap.size wg q3 S3) := D4
            clear cco bg Cf D4
            by_cases hc : HasK countsB S3.now
            · have hl := has_look HR3.out.1.live draft_counts hc
              obtain ⟨f, hl, hA⟩ := hl
              obtain ⟨e2, hfe, ht2⟩ := allow_counts hA
              rw [hfe] at hl
              have he2 : e2 = es := tally_same HT.out ht2 (List.Perm.refl _)
              rw [he2] at hl ht2
              have cop := Open_l q3 K S3 (20 + 464 * j + 464) (datas ps) (runB (textB K M Bn s)) es a bb aE wg Cg.gl HD4.out (by omega) HR3.out.1.live.ok HR3.out.2.2.1 hl ht2 hK1 hK2 hwl.out (run_size _) (run_hex _)
              clear hl hA hfe ht2 he2 e2 hc f
              go_wp2_with fail
              refine cop.mono ?_
              rintro e wh ⟨qb, ev, rfl, B5, n5⟩
              have Ch := Cg.to n5.new
              have D5 := n5.disk HD4.out
              have csc := Scan_any qb K _ ev es _ ⟨#[]⟩ 20000 wh B5 (by omega)
              clear cop n5 Cg HD4
              go_wp2_with fail
              refine csc.mono ?_
              rintro e wi ⟨v6, i6, f6, rfl, hf6, own6, b6⟩
              have hi6 := found_nil hf6
              subst hi6
              rw [List.drop_zero, List.take_of_length_le (by omega)] at own6
              obtain ⟨a6, c6, hv6⟩ := own_slice own6
              subst hv6
              have Ci := Ch.below b6
              have D6 := D5.below b6
              have cse := sameEntries_any (.slice a6 es.length c6) (.slice aV5 es.length cV5) es wi (ERow.of_own own6) Ci.one.row (by omega)
              clear csc own6 b6 hf6 Ch D5 B5
              go_wp2_with fail
              refine cse.mono ?_
              rintro e wz ⟨rfl, b7⟩
              have HCz : Hid (Cth aF w wz a bb aE qo K M Bn (some ⟨b4, o4, none⟩) len4 cap4 zs4 (some ⟨b5, o5, none⟩) len5 cap5 zs5 (.slice aV5 es.length cV5) es) := Ci.below b7
              have HDz : Hid (Stands w.heap.size wz q3 (20 + 464 * (j + 1)) K M Bn s (datas ps) true) := ⟨S3, D6.below b7, by rw [show 20 + 464 * (j + 1) = 20 + 464 * j + 464 by omega]; exact HR3.out.1, HR3.out.2.1, HR3.out.2.2.2⟩
              clear cse b7 Ci D6 HR3
              go_wp2
              go_roundw
              case rel => exact ⟨j + 1, q3, true, by omega, by omega, rfl, rfl, by go_num, HCz, HDz⟩
              case measure => simp [intOf]; omega
            · exact absurd (HR3.out.2.2.2 rfl) hc
          · have RK : LowRow w.heap.size wb none 0 0 [] := LowRow.nil _ _
            obtain ⟨S2', D2, L2, A2, K2⟩ := HRan.out
            have ccr := Crash_any q S2' (20 + 464 * j + 464) none 0 0 [] wb D2 L2.sound.sane L2.ok (by omega) RK
            have HL2 : Hid (Live (Allow K M Bn (textB K M Bn s) (runB (textB K M Bn s)) (datas ps)) draftB S2' (20 + 464 * j + 464) ∧ AllDirs S2' (fun D => HasK planB D ∨ OnlyD D) ∧ When true (AllDirs S2' (HasK countsB))) := ⟨L2, A2, K2⟩
            clear HRan D2 L2 A2 K2 RK
            go_wp2_with fail
            refine ccr.mono ?_
            rintro e wf ⟨rfl, S3, D3, X3, kf⟩
            have Cf := Cb.out.kept kf
            have HR3 : Hid (Ready (Allow K M Bn (textB K M Bn s) (runB (textB K M Bn s)) (datas ps)) S3 (20 + 464 * j + 464) ∧ S3.life = -1 ∧ S3.dead = false ∧ When true (HasK countsB S3.now)) := by
              have hr := crash_ready HL2.out.1 HL2.out.2.1 X3 (by omega)
              exact ⟨hr, X3.fine.life, alive (by rw [X3.fine.life]; decide), fun h => (dirs_crash (HL2.out.2.2 h) X3).now hr.live.sound.sane⟩
            have cco := Copy_any q S3 (20 + 464 * j + 464) wf D3 HR3.out.1.live.ok (by omega)
            clear ccr kf Cb X3 D3 HL2
            go_wp2_with fail
            refine cco.mono ?_
            rintro e wg ⟨q3, rfl, D4, bg⟩
            have Cg := Cf.below bg
            have HD4 : Hid (Disk w.heap.size wg q3 S3) := D4
            clear cco bg Cf D4
            by_cases hc : HasK countsB S3.now
            · have hl := has_look HR3.out.1.live draft_counts hc
              obtain ⟨f, hl, hA⟩ := hl
              obtain ⟨e2, hfe, ht2⟩ := allow_counts hA
              rw [hfe] at hl
              have he2 : e2 = es := tally_same HT.out ht2 (List.Perm.refl _)
              rw [he2] at hl ht2
              have cop := Open_l q3 K S3 (20 + 464 * j + 464) (datas ps) (runB (textB K M Bn s)) es a bb aE wg Cg.gl HD4.out (by omega) HR3.out.1.live.ok HR3.out.2.2.1 hl ht2 hK1 hK2 hwl.out (run_size _) (run_hex _)
              clear hl hA hfe ht2 he2 e2 hc f
              go_wp2_with fail
              refine cop.mono ?_
              rintro e wh ⟨qb, ev, rfl, B5, n5⟩
              have Ch := Cg.to n5.new
              have D5 := n5.disk HD4.out
              have csc := Scan_any qb K _ ev es _ ⟨#[]⟩ 20000 wh B5 (by omega)
              clear cop n5 Cg HD4
              go_wp2_with fail
              refine csc.mono ?_
              rintro e wi ⟨v6, i6, f6, rfl, hf6, own6, b6⟩
              have hi6 := found_nil hf6
              subst hi6
              rw [List.drop_zero, List.take_of_length_le (by omega)] at own6
              obtain ⟨a6, c6, hv6⟩ := own_slice own6
              subst hv6
              have Ci := Ch.below b6
              have D6 := D5.below b6
              have cse := sameEntries_any (.slice a6 es.length c6) (.slice aV5 es.length cV5) es wi (ERow.of_own own6) Ci.one.row (by omega)
              clear csc own6 b6 hf6 Ch D5 B5
              go_wp2_with fail
              refine cse.mono ?_
              rintro e wz ⟨rfl, b7⟩
              have HCz : Hid (Cth aF w wz a bb aE qo K M Bn (some ⟨b4, o4, none⟩) len4 cap4 zs4 a5 len5 cap5 zs5 (.slice aV5 es.length cV5) es) := Ci.below b7
              have HDz : Hid (Stands w.heap.size wz q3 (20 + 464 * (j + 1)) K M Bn s (datas ps) true) := ⟨S3, D6.below b7, by rw [show 20 + 464 * (j + 1) = 20 + 464 * j + 464 by omega]; exact HR3.out.1, HR3.out.2.1, HR3.out.2.2.2⟩
              clear cse b7 Ci D6 HR3
              go_wp2
              go_roundw
              case rel => exact ⟨j + 1, q3, true, by omega, by omega, rfl, rfl, by go_num, HCz, HDz⟩
              case measure => simp [intOf]; omega
            · exact absurd (HR3.out.2.2.2 rfl) hc
        · by_cases h5 : j < len5
          · have hcj := Nat.lt_of_lt_of_le h5 (row_cap Cb.out.rowk.1)
            have hcn : ¬ cap5 = j := by omega
            obtain ⟨b5, o5, z5, ha5, -, -, -, -⟩ := row_at Cb.out.rowk.1 h5
            subst ha5
            have RK : LowRow w.heap.size wb (some ⟨b5, o5 + j, none⟩) (len5 - j) (cap5 - j) (zs5.drop j) := LowRow.drop Cb.out.rowk h5
            obtain ⟨S2', D2, L2, A2, K2⟩ := HRan.out
            have ccr := Crash_any q S2' (20 + 464 * j + 464) (some ⟨b5, o5 + j, none⟩) (len5 - j) (cap5 - j) (zs5.drop j) wb D2 L2.sound.sane L2.ok (by omega) RK
            have HL2 : Hid (Live (Allow K M Bn (textB K M Bn s) (runB (textB K M Bn s)) (datas ps)) draftB S2' (20 + 464 * j + 464) ∧ AllDirs S2' (fun D => HasK planB D ∨ OnlyD D) ∧ When true (AllDirs S2' (HasK countsB))) := ⟨L2, A2, K2⟩
            clear HRan D2 L2 A2 K2 RK
            go_wp2_with fail
            refine ccr.mono ?_
            rintro e wf ⟨rfl, S3, D3, X3, kf⟩
            have Cf := Cb.out.kept kf
            have HR3 : Hid (Ready (Allow K M Bn (textB K M Bn s) (runB (textB K M Bn s)) (datas ps)) S3 (20 + 464 * j + 464) ∧ S3.life = -1 ∧ S3.dead = false ∧ When true (HasK countsB S3.now)) := by
              have hr := crash_ready HL2.out.1 HL2.out.2.1 X3 (by omega)
              exact ⟨hr, X3.fine.life, alive (by rw [X3.fine.life]; decide), fun h => (dirs_crash (HL2.out.2.2 h) X3).now hr.live.sound.sane⟩
            have cco := Copy_any q S3 (20 + 464 * j + 464) wf D3 HR3.out.1.live.ok (by omega)
            clear ccr kf Cb X3 D3 HL2
            go_wp2_with fail
            refine cco.mono ?_
            rintro e wg ⟨q3, rfl, D4, bg⟩
            have Cg := Cf.below bg
            have HD4 : Hid (Disk w.heap.size wg q3 S3) := D4
            clear cco bg Cf D4
            by_cases hc : HasK countsB S3.now
            · have hl := has_look HR3.out.1.live draft_counts hc
              obtain ⟨f, hl, hA⟩ := hl
              obtain ⟨e2, hfe, ht2⟩ := allow_counts hA
              rw [hfe] at hl
              have he2 : e2 = es := tally_same HT.out ht2 (List.Perm.refl _)
              rw [he2] at hl ht2
              have cop := Open_l q3 K S3 (20 + 464 * j + 464) (datas ps) (runB (textB K M Bn s)) es a bb aE wg Cg.gl HD4.out (by omega) HR3.out.1.live.ok HR3.out.2.2.1 hl ht2 hK1 hK2 hwl.out (run_size _) (run_hex _)
              clear hl hA hfe ht2 he2 e2 hc f
              go_wp2_with fail
              refine cop.mono ?_
              rintro e wh ⟨qb, ev, rfl, B5, n5⟩
              have Ch := Cg.to n5.new
              have D5 := n5.disk HD4.out
              have csc := Scan_any qb K _ ev es _ ⟨#[]⟩ 20000 wh B5 (by omega)
              clear cop n5 Cg HD4
              go_wp2_with fail
              refine csc.mono ?_
              rintro e wi ⟨v6, i6, f6, rfl, hf6, own6, b6⟩
              have hi6 := found_nil hf6
              subst hi6
              rw [List.drop_zero, List.take_of_length_le (by omega)] at own6
              obtain ⟨a6, c6, hv6⟩ := own_slice own6
              subst hv6
              have Ci := Ch.below b6
              have D6 := D5.below b6
              have cse := sameEntries_any (.slice a6 es.length c6) (.slice aV5 es.length cV5) es wi (ERow.of_own own6) Ci.one.row (by omega)
              clear csc own6 b6 hf6 Ch D5 B5
              go_wp2_with fail
              refine cse.mono ?_
              rintro e wz ⟨rfl, b7⟩
              have HCz : Hid (Cth aF w wz a bb aE qo K M Bn (some ⟨b4, o4, none⟩) len4 cap4 zs4 (some ⟨b5, o5, none⟩) len5 cap5 zs5 (.slice aV5 es.length cV5) es) := Ci.below b7
              have HDz : Hid (Stands w.heap.size wz q3 (20 + 464 * (j + 1)) K M Bn s (datas ps) true) := ⟨S3, D6.below b7, by rw [show 20 + 464 * (j + 1) = 20 + 464 * j + 464 by omega]; exact HR3.out.1, HR3.out.2.1, HR3.out.2.2.2⟩
              clear cse b7 Ci D6 HR3
              go_wp2
              go_roundw
              case rel => exact ⟨j + 1, q3, true, by omega, by omega, rfl, rfl, by go_num, HCz, HDz⟩
              case measure => simp [intOf]; omega
            · exact absurd (HR3.out.2.2.2 rfl) hc
          · have RK : LowRow w.heap.size wb none 0 0 [] := LowRow.nil _ _
            obtain ⟨S2', D2, L2, A2, K2⟩ := HRan.out
            have ccr := Crash_any q S2' (20 + 464 * j + 464) none 0 0 [] wb D2 L2.sound.sane L2.ok (by omega) RK
            have HL2 : Hid (Live (Allow K M Bn (textB K M Bn s) (runB (textB K M Bn s)) (datas ps)) draftB S2' (20 + 464 * j + 464) ∧ AllDirs S2' (fun D => HasK planB D ∨ OnlyD D) ∧ When true (AllDirs S2' (HasK countsB))) := ⟨L2, A2, K2⟩
            clear HRan D2 L2 A2 K2 RK
            go_wp2_with fail
            refine ccr.mono ?_
            rintro e wf ⟨rfl, S3, D3, X3, kf⟩
            have Cf := Cb.out.kept kf
            have HR3 : Hid (Ready (Allow K M Bn (textB K M Bn s) (runB (textB K M Bn s)) (datas ps)) S3 (20 + 464 * j + 464) ∧ S3.life = -1 ∧ S3.dead = false ∧ When true (HasK countsB S3.now)) := by
              have hr := crash_ready HL2.out.1 HL2.out.2.1 X3 (by omega)
              exact ⟨hr, X3.fine.life, alive (by rw [X3.fine.life]; decide), fun h => (dirs_crash (HL2.out.2.2 h) X3).now hr.live.sound.sane⟩
            have cco := Copy_any q S3 (20 + 464 * j + 464) wf D3 HR3.out.1.live.ok (by omega)
            clear ccr kf Cb X3 D3 HL2
            go_wp2_with fail
            refine cco.mono ?_
            rintro e wg ⟨q3, rfl, D4, bg⟩
            have Cg := Cf.below bg
            have HD4 : Hid (Disk w.heap.size wg q3 S3) := D4
            clear cco bg Cf D4
            by_cases hc : HasK countsB S3.now
            · have hl := has_look HR3.out.1.live draft_counts hc
              obtain ⟨f, hl, hA⟩ := hl
              obtain ⟨e2, hfe, ht2⟩ := allow_counts hA
              rw [hfe] at hl
              have he2 : e2 = es := tally_same HT.out ht2 (List.Perm.refl _)
              rw [he2] at hl ht2
              have cop := Open_l q3 K S3 (20 + 464 * j + 464) (datas ps) (runB (textB K M Bn s)) es a bb aE wg Cg.gl HD4.out (by omega) HR3.out.1.live.ok HR3.out.2.2.1 hl ht2 hK1 hK2 hwl.out (run_size _) (run_hex _)
              clear hl hA hfe ht2 he2 e2 hc f
              go_wp2_with fail
              refine cop.mono ?_
              rintro e wh ⟨qb, ev, rfl, B5, n5⟩
              have Ch := Cg.to n5.new
              have D5 := n5.disk HD4.out
              have csc := Scan_any qb K _ ev es _ ⟨#[]⟩ 20000 wh B5 (by omega)
              clear cop n5 Cg HD4
              go_wp2_with fail
              refine csc.mono ?_
              rintro e wi ⟨v6, i6, f6, rfl, hf6, own6, b6⟩
              have hi6 := found_nil hf6
              subst hi6
              rw [List.drop_zero, List.take_of_length_le (by omega)] at own6
              obtain ⟨a6, c6, hv6⟩ := own_slice own6
              subst hv6
              have Ci := Ch.below b6
              have D6 := D5.below b6
              have cse := sameEntries_any (.slice a6 es.length c6) (.slice aV5 es.length cV5) es wi (ERow.of_own own6) Ci.one.row (by omega)
              clear csc own6 b6 hf6 Ch D5 B5
              go_wp2_with fail
              refine cse.mono ?_
              rintro e wz ⟨rfl, b7⟩
              have HCz : Hid (Cth aF w wz a bb aE qo K M Bn (some ⟨b4, o4, none⟩) len4 cap4 zs4 a5 len5 cap5 zs5 (.slice aV5 es.length cV5) es) := Ci.below b7
              have HDz : Hid (Stands w.heap.size wz q3 (20 + 464 * (j + 1)) K M Bn s (datas ps) true) := ⟨S3, D6.below b7, by rw [show 20 + 464 * (j + 1) = 20 + 464 * j + 464 by omega]; exact HR3.out.1, HR3.out.2.1, HR3.out.2.2.2⟩
              clear cse b7 Ci D6 HR3
              go_wp2
              go_roundw
              case rel => exact ⟨j + 1, q3, true, by omega, by omega, rfl, rfl, by go_num, HCz, HDz⟩
              case measure => simp [intOf]; omega
            · exact absurd (HR3.out.2.2.2 rfl) hc
      · have HRan : Hid (Ran w.heap.size wb q (20 + 464 * j + 464) K M Bn s (datas ps) b) := ⟨S2, HDb.out, hn.live, hn.dirs, fun hb => hn.counts (HR1.out.2 hb)⟩
        have hdd : S2.dead = true := by unfold DS.dead; rw [hn.dead]; rfl
        rw [hdd] at cdd
        clear hn HDb HR1 hdd
        go_wp2_with fail
        refine cdd.mono ?_
        rintro e we ⟨rfl, hwe⟩
        have hwe' := hwe.symm
        subst hwe'
        clear hwe cdd
        cases b
        · by_cases h5 : j < len5
          · have hcj := Nat.lt_of_lt_of_le h5 (row_cap Cb.out.rowk.1)
            have hcn : ¬ cap5 = j := by omega
            obtain ⟨b5, o5, z5, ha5, -, -, -, -⟩ := row_at Cb.out.rowk.1 h5
            subst ha5
            have RK : LowRow w.heap.size wb (some ⟨b5, o5 + j, none⟩) (len5 - j) (cap5 - j) (zs5.drop j) := LowRow.drop Cb.out.rowk h5
            obtain ⟨S2', D2, L2, A2, K2⟩ := HRan.out
            have ccr := Crash_any q S2' (20 + 464 * j + 464) (some ⟨b5, o5 + j, none⟩) (len5 - j) (cap5 - j) (zs5.drop j) wb D2 L2.sound.sane L2.ok (by omega) RK
            have HL2 : Hid (Live (Allow K M Bn (textB K M Bn s) (runB (textB K M Bn s)) (datas ps)) draftB S2' (20 + 464 * j + 464) ∧ AllDirs S2' (fun D => HasK planB D ∨ OnlyD D) ∧ When false (AllDirs S2' (HasK countsB))) := ⟨L2, A2, K2⟩
            clear HRan D2 L2 A2 K2 RK
            go_wp2_with fail
            refine ccr.mono ?_
            rintro e wf ⟨rfl, S3, D3, X3, kf⟩
            have Cf := Cb.out.kept kf
            have HR3 : Hid (Ready (Allow K M Bn (textB K M Bn s) (runB (textB K M Bn s)) (datas ps)) S3 (20 + 464 * j + 464) ∧ S3.life = -1 ∧ S3.dead = false ∧ When false (HasK countsB S3.now)) := by
              have hr := crash_ready HL2.out.1 HL2.out.2.1 X3 (by omega)
              exact ⟨hr, X3.fine.life, alive (by rw [X3.fine.life]; decide), fun h => (dirs_crash (HL2.out.2.2 h) X3).now hr.live.sound.sane⟩
            have cco := Copy_any q S3 (20 + 464 * j + 464) wf D3 HR3.out.1.live.ok (by omega)
            clear ccr kf Cb X3 D3 HL2
            go_wp2_with fail
            refine cco.mono ?_
            rintro e wg ⟨q3, rfl, D4, bg⟩
            have Cg := Cf.below bg
            have HD4 : Hid (Disk w.heap.size wg q3 S3) := D4
            clear cco bg Cf D4
            by_cases hc : HasK countsB S3.now
            · have hl := has_look HR3.out.1.live draft_counts hc
              obtain ⟨f, hl, hA⟩ := hl
              obtain ⟨e2, hfe, ht2⟩ := allow_counts hA
              rw [hfe] at hl
              have he2 : e2 = es := tally_same HT.out ht2 (List.Perm.refl _)
              rw [he2] at hl ht2
              have cop := Open_l q3 K S3 (20 + 464 * j + 464) (datas ps) (runB (textB K M Bn s)) es a bb aE wg Cg.gl HD4.out (by omega) HR3.out.1.live.ok HR3.out.2.2.1 hl ht2 hK1 hK2 hwl.out (run_size _) (run_hex _)
              clear hl hA hfe ht2 he2 e2 hc f
              go_wp2_with fail
              refine cop.mono ?_
              rintro e wh ⟨qb, ev, rfl, B5, n5⟩
              have Ch := Cg.to n5.new
              have D5 := n5.disk HD4.out
              have csc := Scan_any qb K _ ev es _ ⟨#[]⟩ 20000 wh B5 (by omega)
              clear cop n5 Cg HD4
              go_wp2_with fail
              refine csc.mono ?_
              rintro e wi ⟨v6, i6, f6, rfl, hf6, own6, b6⟩
              have hi6 := found_nil hf6
              subst hi6
              rw [List.drop_zero, List.take_of_length_le (by omega)] at own6
              obtain ⟨a6, c6, hv6⟩ := own_slice own6
              subst hv6
              have Ci := Ch.below b6
              have D6 := D5.below b6
              have cse := sameEntries_any (.slice a6 es.length c6) (.slice aV5 es.length cV5) es wi (ERow.of_own own6) Ci.one.row (by omega)
              clear csc own6 b6 hf6 Ch D5 B5
              go_wp2_with fail
              refine cse.mono ?_
              rintro e wz ⟨rfl, b7⟩
              have HCz : Hid (Cth aF w wz a bb aE qo K M Bn (some ⟨b4, o4, none⟩) len4 cap4 zs4 (some ⟨b5, o5, none⟩) len5 cap5 zs5 (.slice aV5 es.length cV5) es) := Ci.below b7
              have HDz : Hid (Stands w.heap.size wz q3 (20 + 464 * (j + 1)) K M Bn s (datas ps) false) := ⟨S3, D6.below b7, by rw [show 20 + 464 * (j + 1) = 20 + 464 * j + 464 by omega]; exact HR3.out.1, HR3.out.2.1, HR3.out.2.2.2⟩
              clear cse b7 Ci D6 HR3
              go_wp2
              go_roundw
              case rel => exact ⟨j + 1, q3, false, by omega, by omega, rfl, rfl, by go_num, HCz, HDz⟩
              case measure => simp [intOf]; omega
            · have hl : S3.look countsB = none := by
                cases h : S3.look countsB with
                | none => rfl
                | some f => exact absurd (look_has HR3.out.1.live h) hc
              have cop := Open_absent q3 S3 (20 + 464 * j + 464) a bb wg HD4.out HR3.out.1.live.ok (by omega) HR3.out.2.2.1 Cg.gl.gs Cg.gx.gm.type.cell (Nat.lt_of_lt_of_le (by decide) Cg.gl.many) hl
              have HCg : Hid (Cth aF w wg a bb aE qo K M Bn (some ⟨b4, o4, none⟩) len4 cap4 zs4 (some ⟨b5, o5, none⟩) len5 cap5 zs5 (.slice aV5 es.length cV5) es) := Cg
              clear hc hl Cg
              go_wp2_with fail
              refine cop.mono ?_
              rintro e wz ⟨rfl, b7⟩
              have HCz : Hid (Cth aF w wz a bb aE qo K M Bn (some ⟨b4, o4, none⟩) len4 cap4 zs4 (some ⟨b5, o5, none⟩) len5 cap5 zs5 (.slice aV5 es.length cV5) es) := HCg.out.below b7
              have HDz : Hid (Stands w.heap.size wz q3 (20 + 464 * (j + 1)) K M Bn s (datas ps) false) := ⟨S3, HD4.out.below b7, by rw [show 20 + 464 * (j + 1) = 20 + 464 * j + 464 by omega]; exact HR3.out.1, HR3.out.2.1, HR3.out.2.2.2⟩
              clear cop b7 HCg HD4 HR3
              go_wp2
              go_roundw
              case rel => exact ⟨j + 1, q3, false, by omega, by omega, rfl, rfl, by go_num, HCz, HDz⟩
              case measure => simp [intOf]; omega
          · have RK : LowRow w.heap.size wb none 0 0 [] := LowRow.nil _ _
            obtain ⟨S2', D2, L2, A2, K2⟩ := HRan.out
            have ccr := Crash_any q S2' (20 + 464 * j + 464) none 0 0 [] wb D2 L2.sound.sane L2.ok (by omega) RK
            have HL2 : Hid (Live (Allow K M Bn (textB K M Bn s) (runB (textB K M Bn s)) (datas ps)) draftB S2' (20 + 464 * j + 464) ∧ AllDirs S2' (fun D => HasK planB D ∨ OnlyD D) ∧ When false (AllDirs S2' (HasK countsB))) := ⟨L2, A2, K2⟩
            clear HRan D2 L2 A2 K2 RK
            go_wp2_with fail
            refine ccr.mono ?_
            rintro e wf ⟨rfl, S3, D3, X3, kf⟩
            have Cf := Cb.out.kept kf
            have HR3 : Hid (Ready (Allow K M Bn (textB K M Bn s) (runB (textB K M Bn s)) (datas ps)) S3 (20 + 464 * j + 464) ∧ S3.life = -1 ∧ S3.dead = false ∧ When false (HasK countsB S3.now)) := by
              have hr := crash_ready HL2.out.1 HL2.out.2.1 X3 (by omega)
              exact ⟨hr, X3.fine.life, alive (by rw [X3.fine.life]; decide), fun h => (dirs_crash (HL2.out.2.2 h) X3).now hr.live.sound.sane⟩
            have cco := Copy_any q S3 (20 + 464 * j + 464) wf D3 HR3.out.1.live.ok (by omega)
            clear ccr kf Cb X3 D3 HL2
            go_wp2_with fail
            refine cco.mono ?_
            rintro e wg ⟨q3, rfl, D4, bg⟩
            have Cg := Cf.below bg
            have HD4 : Hid (Disk w.heap.size wg q3 S3) := D4
            clear cco bg Cf D4
            by_cases hc : HasK countsB S3.now
            · have hl := has_look HR3.out.1.live draft_counts hc
              obtain ⟨f, hl, hA⟩ := hl
              obtain ⟨e2, hfe, ht2⟩ := allow_counts hA
              rw [hfe] at hl
              have he2 : e2 = es := tally_same HT.out ht2 (List.Perm.refl _)
              rw [he2] at hl ht2
              have cop := Open_l q3 K S3 (20 + 464 * j + 464) (datas ps) (runB (textB K M Bn s)) es a bb aE wg Cg.gl HD4.out (by omega) HR3.out.1.live.ok HR3.out.2.2.1 hl ht2 hK1 hK2 hwl.out (run_size _) (run_hex _)
              clear hl hA hfe ht2 he2 e2 hc f
              go_wp2_with fail
              refine cop.mono ?_
              rintro e wh ⟨qb, ev, rfl, B5, n5⟩
              have Ch := Cg.to n5.new
              have D5 := n5.disk HD4.out
              have csc := Scan_any qb K _ ev es _ ⟨#[]⟩ 20000 wh B5 (by omega)
              clear cop n5 Cg HD4
              go_wp2_with fail
              refine csc.mono ?_
              rintro e wi ⟨v6, i6, f6, rfl, hf6, own6, b6⟩
              have hi6 := found_nil hf6
              subst hi6
              rw [List.drop_zero, List.take_of_length_le (by omega)] at own6
              obtain ⟨a6, c6, hv6⟩ := own_slice own6
              subst hv6
              have Ci := Ch.below b6
              have D6 := D5.below b6
              have cse := sameEntries_any (.slice a6 es.length c6) (.slice aV5 es.length cV5) es wi (ERow.of_own own6) Ci.one.row (by omega)
              clear csc own6 b6 hf6 Ch D5 B5
              go_wp2_with fail
              refine cse.mono ?_
              rintro e wz ⟨rfl, b7⟩
              have HCz : Hid (Cth aF w wz a bb aE qo K M Bn (some ⟨b4, o4, none⟩) len4 cap4 zs4 a5 len5 cap5 zs5 (.slice aV5 es.length cV5) es) := Ci.below b7
              have HDz : Hid (Stands w.heap.size wz q3 (20 + 464 * (j + 1)) K M Bn s (datas ps) false) := ⟨S3, D6.below b7, by rw [show 20 + 464 * (j + 1) = 20 + 464 * j + 464 by omega]; exact HR3.out.1, HR3.out.2.1, HR3.out.2.2.2⟩
              clear cse b7 Ci D6 HR3
              go_wp2
              go_roundw
              case rel => exact ⟨j + 1, q3, false, by omega, by omega, rfl, rfl, by go_num, HCz, HDz⟩
              case measure => simp [intOf]; omega
            · have hl : S3.look countsB = none := by
                cases h : S3.look countsB with
                | none => rfl
                | some f => exact absurd (look_has HR3.out.1.live h) hc
              have cop := Open_absent q3 S3 (20 + 464 * j + 464) a bb wg HD4.out HR3.out.1.live.ok (by omega) HR3.out.2.2.1 Cg.gl.gs Cg.gx.gm.type.cell (Nat.lt_of_lt_of_le (by decide) Cg.gl.many) hl
              have HCg : Hid (Cth aF w wg a bb aE qo K M Bn (some ⟨b4, o4, none⟩) len4 cap4 zs4 a5 len5 cap5 zs5 (.slice aV5 es.length cV5) es) := Cg
              clear hc hl Cg
              go_wp2_with fail
              refine cop.mono ?_
              rintro e wz ⟨rfl, b7⟩
              have HCz : Hid (Cth aF w wz a bb aE qo K M Bn (some ⟨b4, o4, none⟩) len4 cap4 zs4 a5 len5 cap5 zs5 (.slice aV5 es.length cV5) es) := HCg.out.below b7
              have HDz : Hid (Stands w.heap.size wz q3 (20 + 464 * (j + 1)) K M Bn s (datas ps) false) := ⟨S3, HD4.out.below b7, by rw [show 20 + 464 * (j + 1) = 20 + 464 * j + 464 by omega]; exact HR3.out.1, HR3.out.2.1, HR3.out.2.2.2⟩
              clear cop b7 HCg HD4 HR3
              go_wp2
              go_roundw
              case rel => exact ⟨j + 1, q3, false, by omega, by omega, rfl, rfl, by go_num, HCz, HDz⟩
              case measure => simp [intOf]; omega
        · by_cases h5 : j < len5
          · have hcj := Nat.lt_of_lt_of_le h5 (row_cap Cb.out.rowk.1)
            have hcn : ¬ cap5 = j := by omega
            obtain ⟨b5, o5, z5, ha5, -, -, -, -⟩ := row_at Cb.out.rowk.1 h5
            subst ha5
            have RK : LowRow w.heap.size wb (some ⟨b5, o5 + j, none⟩) (len5 - j) (cap5 - j) (zs5.drop j) := LowRow.drop Cb.out.rowk h5
            obtain ⟨S2', D2, L2, A2, K2⟩ := HRan.out
            have ccr := Crash_any q S2' (20 + 464 * j + 464) (some ⟨b5, o5 + j, none⟩) (len5 - j) (cap5 - j) (zs5.drop j) wb D2 L2.sound.sane L2.ok (by omega) RK
            have HL2 : Hid (Live (Allow K M Bn (textB K M Bn s) (runB (textB K M Bn s)) (datas ps)) draftB S2' (20 + 464 * j + 464) ∧ AllDirs S2' (fun D => HasK planB D ∨ OnlyD D) ∧ When true (AllDirs S2' (HasK countsB))) := ⟨L2, A2, K2⟩
            clear HRan D2 L2 A2 K2 RK
            go_wp2_with fail
            refine ccr.mono ?_
            rintro e wf ⟨rfl, S3, D3, X3, kf⟩
            have Cf := Cb.out.kept kf
            have HR3 : Hid (Ready (Allow K M Bn (textB K M Bn s) (runB (textB K M Bn s)) (datas ps)) S3 (20 + 464 * j + 464) ∧ S3.life = -1 ∧ S3.dead = false ∧ When true (HasK countsB S3.now)) := by
              have hr := crash_ready HL2.out.1 HL2.out.2.1 X3 (by omega)
              exact ⟨hr, X3.fine.life, alive (by rw [X3.fine.life]; decide), fun h => (dirs_crash (HL2.out.2.2 h) X3).now hr.live.sound.sane⟩
            have cco := Copy_any q S3 (20 + 464 * j + 464) wf D3 HR3.out.1.live.ok (by omega)
            clear ccr kf Cb X3 D3 HL2
            go_wp2_with fail
            refine cco.mono ?_
            rintro e wg ⟨q3, rfl, D4, bg⟩
            have Cg := Cf.below bg
            have HD4 : Hid (Disk w.heap.size wg q3 S3) := D4
            clear cco bg Cf D4
            by_cases hc : HasK countsB S3.now
            · have hl := has_look HR3.out.1.live draft_counts hc
              obtain ⟨f, hl, hA⟩ := hl
              obtain ⟨e2, hfe, ht2⟩ := allow_counts hA
              rw [hfe] at hl
              have he2 : e2 = es := tally_same HT.out ht2 (List.Perm.refl _)
              rw [he2] at hl ht2
              have cop := Open_l q3 K S3 (20 + 464 * j + 464) (datas ps) (runB (textB K M Bn s)) es a bb aE wg Cg.gl HD4.out (by omega) HR3.out.1.live.ok HR3.out.2.2.1 hl ht2 hK1 hK2 hwl.out (run_size _) (run_hex _)
              clear hl hA hfe ht2 he2 e2 hc f
              go_wp2_with fail
              refine cop.mono ?_
              rintro e wh ⟨qb, ev, rfl, B5, n5⟩
              have Ch := Cg.to n5.new
              have D5 := n5.disk HD4.out
              have csc := Scan_any qb K _ ev es _ ⟨#[]⟩ 20000 wh B5 (by omega)
              clear cop n5 Cg HD4
              go_wp2_with fail
              refine csc.mono ?_
              rintro e wi ⟨v6, i6, f6, rfl, hf6, own6, b6⟩
              have hi6 := found_nil hf6
              subst hi6
              rw [List.drop_zero, List.take_of_length_le (by omega)] at own6
              obtain ⟨a6, c6, hv6⟩ := own_slice own6
              subst hv6
              have Ci := Ch.below b6
              have D6 := D5.below b6
              have cse := sameEntries_any (.slice a6 es.length c6) (.slice aV5 es.length cV5) es wi (ERow.of_own own6) Ci.one.row (by omega)
              clear csc own6 b6 hf6 Ch D5 B5
              go_wp2_with fail
              refine cse.mono ?_
              rintro e wz ⟨rfl, b7⟩
              have HCz : Hid (Cth aF w wz a bb aE qo K M Bn (some ⟨b4, o4, none⟩) len4 cap4 zs4 (some ⟨b5, o5, none⟩) len5 cap5 zs5 (.slice aV5 es.length cV5) es) := Ci.below b7
              have HDz : Hid (Stands w.heap.size wz q3 (20 + 464 * (j + 1)) K M Bn s (datas ps) true) := ⟨S3, D6.below b7, by rw [show 20 + 464 * (j + 1) = 20 + 464 * j + 464 by omega]; exact HR3.out.1, HR3.out.2.1, HR3.out.2.2.2⟩
              clear cse b7 Ci D6 HR3
              go_wp2
              go_roundw
              case rel => exact ⟨j + 1, q3, true, by omega, by omega, rfl, rfl, by go_num, HCz, HDz⟩
              case measure => simp [intOf]; omega
            · exact absurd (HR3.out.2.2.2 rfl) hc
          · have RK : LowRow w.heap.size wb none 0 0 [] := LowRow.nil _ _
            obtain ⟨S2', D2, L2, A2, K2⟩ := HRan.out
            have ccr := Crash_any q S2' (20 + 464 * j + 464) none 0 0 [] wb D2 L2.sound.sane L2.ok (by omega) RK
            have HL2 : Hid (Live (Allow K M Bn (textB K M Bn s) (runB (textB K M Bn s)) (datas ps)) draftB S2' (20 + 464 * j + 464) ∧ AllDirs S2' (fun D => HasK planB D ∨ OnlyD D) ∧ When true (AllDirs S2' (HasK countsB))) := ⟨L2, A2, K2⟩
            clear HRan D2 L2 A2 K2 RK
            go_wp2_with fail
            refine ccr.mono ?_
            rintro e wf ⟨rfl, S3, D3, X3, kf⟩
            have Cf := Cb.out.kept kf
            have HR3 : Hid (Ready (Allow K M Bn (textB K M Bn s) (runB (textB K M Bn s)) (datas ps)) S3 (20 + 464 * j + 464) ∧ S3.life = -1 ∧ S3.dead = false ∧ When true (HasK countsB S3.now)) := by
              have hr := crash_ready HL2.out.1 HL2.out.2.1 X3 (by omega)
              exact ⟨hr, X3.fine.life, alive (by rw [X3.fine.life]; decide), fun h => (dirs_crash (HL2.out.2.2 h) X3).now hr.live.sound.sane⟩
            have cco := Copy_any q S3 (20 + 464 * j + 464) wf D3 HR3.out.1.live.ok (by omega)
            clear ccr kf Cb X3 D3 HL2
            go_wp2_with fail
            refine cco.mono ?_
            rintro e wg ⟨q3, rfl, D4, bg⟩
            have Cg := Cf.below bg
            have HD4 : Hid (Disk w.heap.size wg q3 S3) := D4
            clear cco bg Cf D4
            by_cases hc : HasK countsB S3.now
            · have hl := has_look HR3.out.1.live draft_counts hc
              obtain ⟨f, hl, hA⟩ := hl
              obtain ⟨e2, hfe, ht2⟩ := allow_counts hA
              rw [hfe] at hl
              have he2 : e2 = es := tally_same HT.out ht2 (List.Perm.refl _)
              rw [he2] at hl ht2
              have cop := Open_l q3 K S3 (20 + 464 * j + 464) (datas ps) (runB (textB K M Bn s)) es a bb aE wg Cg.gl HD4.out (by omega) HR3.out.1.live.ok HR3.out.2.2.1 hl ht2 hK1 hK2 hwl.out (run_size _) (run_hex _)
              clear hl hA hfe ht2 he2 e2 hc f
              go_wp2_with fail
              refine cop.mono ?_
              rintro e wh ⟨qb, ev, rfl, B5, n5⟩
              have Ch := Cg.to n5.new
              have D5 := n5.disk HD4.out
              have csc := Scan_any qb K _ ev es _ ⟨#[]⟩ 20000 wh B5 (by omega)
              clear cop n5 Cg HD4
              go_wp2_with fail
              refine csc.mono ?_
              rintro e wi ⟨v6, i6, f6, rfl, hf6, own6, b6⟩
              have hi6 := found_nil hf6
              subst hi6
              rw [List.drop_zero, List.take_of_length_le (by omega)] at own6
              obtain ⟨a6, c6, hv6⟩ := own_slice own6
              subst hv6
              have Ci := Ch.below b6
              have D6 := D5.below b6
              have cse := sameEntries_any (.slice a6 es.length c6) (.slice aV5 es.length cV5) es wi (ERow.of_own own6) Ci.one.row (by omega)
              clear csc own6 b6 hf6 Ch D5 B5
              go_wp2_with fail
              refine cse.mono ?_
              rintro e wz ⟨rfl, b7⟩
              have HCz : Hid (Cth aF w wz a bb aE qo K M Bn (some ⟨b4, o4, none⟩) len4 cap4 zs4 a5 len5 cap5 zs5 (.slice aV5 es.length cV5) es) := Ci.below b7
              have HDz : Hid (Stands w.heap.size wz q3 (20 + 464 * (j + 1)) K M Bn s (datas ps) true) := ⟨S3, D6.below b7, by rw [show 20 + 464 * (j + 1) = 20 + 464 * j + 464 by omega]; exact HR3.out.1, HR3.out.2.1, HR3.out.2.2.2⟩
              clear cse b7 Ci D6 HR3
              go_wp2
              go_roundw
              case rel => exact ⟨j + 1, q3, true, by omega, by omega, rfl, rfl, by go_num, HCz, HDz⟩
              case measure => simp [intOf]; omega
            · exact absurd (HR3.out.2.2.2 rfl) hc
    · by_cases h1 : j < len4
      all_goals
        obtain ⟨S, D0, R0, L0, K0⟩ := hD.out
        obtain ⟨x0, x1, x2⟩ := hC.out.opt.cells
        have cr := Run_m q K M Bn s (datas ps) S (20 + 464 * j) a bb aE wr hC.out.gl hC.out.gx D0 R0 (by omega) HF.out
        have HLI : Hid (S.life = -1) := L0
        clear D0 R0 L0 K0 hD
        go_wp2_with fail
        refine cr.mono ?_
        rintro e wb ⟨n, S2, rfl, hn, Db, nb⟩
        have Cb := hC.out.to nb
        have hn0 : n = 0 := by
          rcases hn with ⟨h, _⟩ | ⟨_, h⟩
          · exact h
          · exact (well_not_cut h HLI.out).elim
        subst hn0
        have HW : Hid (WellR (Allow K M Bn (textB K M Bn s) (runB (textB K M Bn s)) (datas ps)) S S2 (20 + 464 * j + 464)) := by
          rcases hn with ⟨_, h⟩ | ⟨h, _⟩
          · exact h
          · exact absurd h (by decide)
        have ccr := Crash_any q S2 (20 + 464 * j + 464) a5 len5 cap5 zs5 wb Db HW.out.live.sound.sane HW.out.live.ok (by omega) Cb.rowk
        clear cr nb hC x0 x1 x2 Db hn
        go_wp2_with fail
        refine ccr.mono ?_
        rintro e wf ⟨rfl, S3, D3, X3, kf⟩
        have Cf := Cb.kept kf
        have HR3 : Hid (Ready (Allow K M Bn (textB K M Bn s) (runB (textB K M Bn s)) (datas ps)) S3 (20 + 464 * j + 464) ∧ S3.dead = false ∧ HasK countsB S3.now) := by
          have hr := crash_ready HW.out.live (HW.out.plan.mono (fun D h => .inl h)) X3 (by omega)
          exact ⟨hr, alive (by rw [X3.fine.life]; decide), (dirs_crash HW.out.counts X3).now hr.live.sound.sane⟩
        have cco := Copy_any q S3 (20 + 464 * j + 464) wf D3 HR3.out.1.live.ok (by omega)
        clear ccr kf Cb X3 D3 HW
        go_wp2_with fail
        refine cco.mono ?_
        rintro e wg ⟨q3, rfl, D4, bg⟩
        have Cg := Cf.below bg
        obtain ⟨f, hl, hA⟩ := has_look HR3.out.1.live draft_counts HR3.out.2.2
        obtain ⟨e2, hfe, ht2⟩ := allow_counts hA
        rw [hfe] at hl
        have he2 : e2 = es := tally_same HT.out ht2 (List.Perm.refl _)
        rw [he2] at hl ht2
        have cop := Open_l q3 K S3 (20 + 464 * j + 464) (datas ps) (runB (textB K M Bn s)) es a bb aE wg Cg.gl D4 (by omega) HR3.out.1.live.ok HR3.out.2.1 hl ht2 hK1 hK2 hwl.out (run_size _) (run_hex _)
        clear hl hA hfe ht2 he2 e2 f cco bg Cf D4 HR3
        go_wp2_with fail
        refine cop.mono ?_
        rintro e wh ⟨qb, ev, rfl, B5, n5⟩
        have Ch := Cg.to n5.new
        have csc := Scan_any qb K _ ev es _ ⟨#[]⟩ 20000 wh B5 (by omega)
        clear cop n5 Cg
        go_wp2_with fail
        refine csc.mono ?_
        rintro e wi ⟨v6, i6, f6, rfl, hf6, own6, b6⟩
        have hi6 := found_nil hf6
        subst hi6
        rw [List.drop_zero, List.take_of_length_le (by omega)] at own6
        obtain ⟨a6, c6, hv6⟩ := own_slice own6
        subst hv6
        have Ci := Ch.below b6
        have cse := sameEntries_any (.slice a6 es.length c6) (.slice aV5 es.length cV5) es wi (ERow.of_own own6) Ci.one.row (by omega)
        have HCi : Hid (New w.heap.size w wi) := Ci.new
        clear csc own6 b6 hf6 Ch B5 Ci
        go_wp2_with fail
        refine cse.mono ?_
        rintro e wz ⟨rfl, b7⟩
        have HB : Hid (Below w.heap.size w wz) := keep.New.to (New.below HCi.out b7)
        clear cse b7
        go_wp2
        go_ret
        exact ⟨rfl, HB.out⟩
end Go.Proofs.YtbjgpfhbdmcbbaaGreatDoor.held
