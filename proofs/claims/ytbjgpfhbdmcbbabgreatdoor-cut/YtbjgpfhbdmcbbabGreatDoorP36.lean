import Derived.Test.YtbjgpfhbdmcbbabGreatDoorP35

/-
  CONTRACTS of package quern on a disk that may die: finish.
-/
namespace Go.Proofs.YtbjgpfhbdmcbbabGreatDoor.jobs
open Go.RowKit dnamath dna diskm disk keep hex pieces files parse words kinds
set_option linter.unusedVariables false

theorem left_RL : ∀ n ∈ leftL 16, n = draftB ∨ RL n.toList := by
  intro n hn
  unfold leftL at hn
  rw [List.mem_cons] at hn
  rcases hn with rfl | hn
  · exact .inl rfl
  · obtain ⟨i, _, rfl⟩ := List.mem_map.1 hn
    exact .inr ⟨i, rfl⟩
theorem counts_RL : ¬ RL countsB.toList := fun ⟨i, e⟩ => nameB_counts i e
theorem plan_RL : ¬ RL planB.toList := fun ⟨i, e⟩ => nameB_plan i e
theorem dirs_look {A : List UInt8 → DFile → Prop} {S : DS} {N : Nat} {n : ByteArray} {f : DFile} (h : Live A draftB S N) (h1 : S.safe = S.now) (h2 : S.steps = []) (hl : S.look n = some f) : AllDirs S (fun D => ∃ x ∈ D, key x = n.toList) := by
  obtain ⟨x, hx, e, _⟩ := (look_iff h.sound.sane.cur.1).1 hl
  exact dirs_sync (S := S) h1 h2 ⟨x, hx, e⟩

set_option maxHeartbeats 4000000 in
set_option maxRecDepth 100000 in
theorem finish_m {aF : Addr} {Bo : Nat} (j p K M Bn : Nat) (text run : ByteArray) (rv : Value) (rs : List ByteArray) (S : DS) (N : Nat) (a bb : Addr) (w : World) (hJ : JobAt Bo w j p K M Bn text run) (hg : Gs w a bb) (hse : SenF w a bb aF) (hfa : FailIs aF w) (hD : Disk Bo w p S) (hL : Live (Allow K M Bn text run (datas rs)) draftB S N) (hN : N ≤ 8300) (hst : S.safe = S.now ∧ S.steps = [])
    (hr : w.ownsRow 0 9 1 rv rs.length (scells rs))
    (hmay : ∀ r ∈ rs, May r K M ∧ r.size ≤ 100000) (hrl : rs.length ≤ 1000) (hw : (wordsOf K (datas rs)).length ≤ 1440) (hK1 : 1 ≤ K) (hK : K ≤ 31) (hM1 : 1 ≤ M) (hM : M ≤ K) (hB1 : 1 ≤ Bn) (hB : Bn ≤ 16) (hrs : run.size ≤ 17) (hNG : 27 ≤ w.heap.size) :
    Calls Tryz.prog 40 #[.pointer (some ⟨j, 0, none⟩), rv] w fun e w' => ((∃ S', e = .returned .nilIface ∧ Disk Bo w' p S' ∧ Flow (Allow K M Bn text run (datas rs)) S S' (N + 400) ∧ AllDirs S' (fun D => ∃ x ∈ D, key x = countsB.toList)) ∨ (∃ v S', e = .returned v ∧ DiskErr aF w' v ∧ Disk Bo w' p S' ∧ Flow (Allow K M Bn text run (datas rs)) S S' (N + 400) ∧ S'.life = 0)) ∧ New Bo w w' := by
  have hi := itoa_size K (by omega)
  have cco : ∀ W, Gs W a bb → Calls Tryz.prog 58 #[.pointer (some ⟨p, 0, none⟩), .string run, .int .i64 (K : Int)] W fun e w' => e = .returned (newList p countsB (headB countsB run K) K) ∧ Below W.heap.size W w' := fun W hW => countsOf_any p run K a bb W hW (by omega) (by omega) (by omega)
  obtain ⟨hd, hhd⟩ : ∃ hd, hd = headB countsB run K := ⟨_, rfl⟩
  simp only [← hhd] at cco
  have HHD : Hid (hd = headB countsB run K) := hhd
  have CC : Hid (∀ W, Gs W a bb → Calls Tryz.prog 58 #[.pointer (some ⟨p, 0, none⟩), .string run, .int .i64 (K : Int)] W fun e w' => e = .returned (newList p countsB hd K) ∧ Below W.heap.size W w') := cco
  obtain ⟨z0, z1, _, _, _, z11⟩ := hJ.cells
  have HH : Hid (JobAt Bo w j p K M Bn text run ∧ Gs w a bb ∧ SenF w a bb aF ∧ Disk Bo w p S ∧ Live (Allow K M Bn text run (datas rs)) draftB S N ∧ w.ownsRow 0 9 1 rv rs.length (scells rs) ∧ FailIs aF w ∧ True ∧ S.safe = S.now ∧ S.steps = []) := ⟨hJ, hg, hse, hD, hL, hr, hfa, trivial, hst.1, hst.2⟩
  have HM : Hid ((∀ r ∈ rs, May r K M ∧ r.size ≤ 100000) ∧ (wordsOf K (datas rs)).length ≤ 1440) := ⟨hmay, hw⟩
  obtain ⟨ar, cr, hrv⟩ := own_slice hr
  subst hrv
  clear hJ hg hse hD hL hr hfa hst hmay hw hhd hi cco
  go_enter Tryz.func40, Tryz.ntmps40
  go_upto_region 1 with fail
  obtain ⟨w1, hw1⟩ : ∃ w1, w1 = w.alloc (.cells #[.pointer none, .string ⟨#[]⟩, .string ⟨#[]⟩, .int .u64 0, .int .i64 0, .slice none 0 0, .int .i64 0, .slice none 0 0] 105) := ⟨_, rfl⟩
  have hq1 : w1.heap[w.heap.size]? = some (.cells #[.pointer none, .string ⟨#[]⟩, .string ⟨#[]⟩, .int .u64 0, .int .i64 0, .slice none 0 0, .int .i64 0, .slice none 0 0] 105 (0, 0)) := by rw [hw1]; exact heap_alloc_new _ _
  have B1 : Below w.heap.size w w1 := by rw [hw1]; exact (Below.refl _ w).alloc (Nat.le_refl _) _
  have G1 : Gs w.drew a bb := HH.out.2.1.kept (Kept.drew (Bo := 0) _)
  have G2 : Gs w1.drew a bb := (HH.out.2.1.below B1).kept (Kept.drew (Bo := 0) _)
  rw [hw1] at G2
  have AB : Hid (∀ W, Below w.heap.size w W → W.cell? ⟨j, 0, none⟩ = some (.pointer (some ⟨p, 0, none⟩)) ∧ W.cell? ⟨j, 1, none⟩ = some (.int .i64 (K : Int)) ∧ W.cell? ⟨j, 11, none⟩ = some (.string run)) := fun W hW => by
    obtain ⟨x0, x1, _, _, _, x11⟩ := (HH.out.1.below hW).cells
    exact ⟨x0, x1, x11⟩
  have BD : Below w.heap.size w w.drew := (⟨rfl, rfl, rfl, rfl, Nat.le_add_right _ _⟩ : Still w w.drew).below _
  have BD1 : Below w.heap.size w (w.alloc (.cells #[.pointer none, .string ⟨#[]⟩, .string ⟨#[]⟩, .int .u64 0, .int .i64 0, .slice none 0 0, .int .i64 0, .slice none 0 0] 105)).drew := by
    rw [← hw1]
    exact B1.trans ((⟨rfl, rfl, rfl, rfl, Nat.le_add_right _ _⟩ : Still w1 w1.drew).below _)
  have HC : Hid (∀ w3, Below w.heap.size w w3 → Below w.heap.size w ((((((((w3.setCell ⟨w.heap.size, 0, none⟩ (.pointer (some ⟨p, 0, none⟩))).setCell ⟨w.heap.size, 1, none⟩ (.string countsB)).setCell ⟨w.heap.size, 2, none⟩ (.string hd)).setCell ⟨w.heap.size, 3, none⟩ (.int .u64 0)).setCell ⟨w.heap.size, 4, none⟩ (.int .i64 0)).setCell ⟨w.heap.size, 5, none⟩ (.slice none 0 0)).setCell ⟨w.heap.size, 6, none⟩ (.int .i64 (K : Int))).setCell ⟨w.heap.size, 7, none⟩ (.slice none 0 0))) := fun w3 B3 => (((((((B3.setCell (by exact Nat.le_refl _) _).setCell (by exact Nat.le_refl _) _).setCell (by exact Nat.le_refl _) _).setCell (by exact Nat.le_refl _) _).setCell (by exact Nat.le_refl _) _).setCell (by exact Nat.le_refl _) _).setCell (by exact Nat.le_refl _) _).setCell (by exact Nat.le_refl _) _
  clear z0 z1 z11
  go_region_held3 (fun w' => w'.cell? ⟨j, 0, none⟩ = some (.pointer (some ⟨p, 0, none⟩)) ∧ w'.cell? ⟨j, 1, none⟩ = some (.int .i64 (K : Int)) ∧ w'.cell? ⟨j, 11, none⟩ = some (.string run)) (first | (with_reducible exact AB.out _ BD) | (with_reducible exact AB.out _ BD1) | (with_reducible exact AB.out _ B3) | (with_reducible exact AB.out _ (B3.alloc B3.size _)) | (with_reducible exact AB.out _ (HC.out w3 B3))) (first | (go_at_call 58; refine (CC.out _ ?_).mono ?_; (with_reducible exact G1); rintro e w3 ⟨rfl, b3⟩; have B3 : Below w.heap.size w w3 := ⟨b3.os, b3.tape, b3.output, b3.size, fun k hk => b3.block k hk⟩) | (go_at_call 58; refine (CC.out _ ?_).mono ?_; (with_reducible exact G2); rintro e w3 ⟨rfl, b3⟩; rw [← hw1] at b3; have B3 : Below w.heap.size w w3 := ⟨b3.os.trans B1.os, b3.tape.trans B1.tape, b3.output.trans B1.output, Nat.le_trans B1.size b3.size, fun k hk => (b3.block k (Nat.lt_of_lt_of_le hk B1.size)).trans (B1.block k hk)⟩; have hq3 := (b3.block w.heap.size (lt_of_block hq1)).trans hq1; have c0 := st_cell hq3 0; have c1 := st_cell hq3 1; have c2 := st_cell hq3 2; have c3 := st_cell hq3 3; have c4 := st_cell hq3 4; have c5 := st_cell hq3 5; have c6 := st_cell hq3 6; have c7 := st_cell hq3 7; have f0 := st_frozen hq3 0; have f1 := st_frozen hq3 1; have f2 := st_frozen hq3 2; have f3 := st_frozen hq3 3; have f4 := st_frozen hq3 4; have f5 := st_frozen hq3 5; have f6 := st_frozen hq3 6; have f7 := st_frozen hq3 7; simp at c0 c1 c2 c3 c4 c5 c6 c7))
  all_goals
    first
    | (obtain ⟨W, hW⟩ : ∃ W, W = w3.alloc (.cells (listC p countsB hd K) 105) := ⟨_, rfl⟩
       obtain ⟨c, hc⟩ : ∃ c, c = w3.heap.size := ⟨_, rfl⟩
       have FC : FileAt Bo W c 0 (listC p countsB hd K) 105 p countsB hd 0 0 (.slice none 0 0) [] := by rw [hW, hc]; exact listC_at w3 p countsB hd K (Nat.le_trans HH.out.2.2.2.1.low B3.size)
       have BW : Below w.heap.size w W := by rw [hW]; exact B3.alloc B3.size _
       have NW : New Bo w W := (New.refl w).below BW
       have DW : Disk Bo W p S := HH.out.2.2.2.1.below BW
       have hcw : w.heap.size ≤ c := by rw [hc]; exact B3.size
       rw [show w3.alloc (.cells #[.pointer (some ⟨p, 0, none⟩), .string countsB, .string hd, .int .u64 0, .int .i64 0, .slice none 0 0, .int .i64 (K : Int), .slice none 0 0] 105) = W from hW.symm, ← hc]
       clear hW hc B3 BW b3)
    | (obtain ⟨W, hW⟩ : ∃ W, W = (((((((w3.setCell ⟨w.heap.size, 0, none⟩ (.pointer (some ⟨p, 0, none⟩))).setCell ⟨w.heap.size, 1, none⟩ (.string countsB)).setCell ⟨w.heap.size, 2, none⟩ (.string hd)).setCell ⟨w.heap.size, 3, none⟩ (.int .u64 0)).setCell ⟨w.heap.size, 4, none⟩ (.int .i64 0)).setCell ⟨w.heap.size, 5, none⟩ (.slice none 0 0)).setCell ⟨w.heap.size, 6, none⟩ (.int .i64 (K : Int))).setCell ⟨w.heap.size, 7, none⟩ (.slice none 0 0) := ⟨_, rfl⟩
       obtain ⟨c, hc⟩ : ∃ c, c = w.heap.size := ⟨_, rfl⟩
       have KW : WK Bo w.heap.size w3 W := by rw [hW]; exact (WK.set _).trans ((WK.set _).trans ((WK.set _).trans ((WK.set _).trans ((WK.set _).trans ((WK.set _).trans ((WK.set _).trans (WK.set _)))))))
       have qW : W.heap[w.heap.size]? = some (.cells (listC p countsB hd K) 105 (0, 0)) := by
         rw [hW]
         exact store8 w3 w.heap.size p K hd hq3
       have FC : FileAt Bo W c 0 (listC p countsB hd K) 105 p countsB hd 0 0 (.slice none 0 0) [] := by rw [hc]; exact ⟨qW, by decide, rfl, rfl, rfl, rfl, rfl, rfl, World.ownsRow_nil _ _ _ _, Nat.le_trans HH.out.2.2.2.1.low (Nat.le_trans B3.size KW.size)⟩
       have NW : New Bo w W := ((New.refl w).below B3).wk KW (Nat.le_refl _)
       have DW : Disk Bo W p S := KW.disk (HH.out.2.2.2.1.below B3) (by rintro ⟨cs', T', fz', e, hd'⟩; rw [hq3] at e; cases e; rcases hd' with h | h | h | h <;> exact absurd h (by decide))
       have hcw : w.heap.size ≤ c := by rw [hc]; exact Nat.le_refl _
       rw [← hW, ← hc]
       clear hW hc B3 KW qW b3 hq3 c0 c1 c2 c3 c4 c5 c6 c7 f0 f1 f2 f3 f4 f5 f6 f7)
    have hzc : W.cell? ⟨c, 0, none⟩ = some (.pointer (some ⟨p, 0, none⟩)) := (st_cell FC.blk _).trans FC.c0
    have hzn : W.cell? ⟨c, 1, none⟩ = some (.string countsB) := (st_cell FC.blk _).trans FC.c1
    have hgW := NW.gs HH.out.2.1 hNG
    have HW2 : Hid (FileAt Bo W c 0 (listC p countsB hd K) 105 p countsB hd 0 0 (.slice none 0 0) [] ∧ New Bo w W ∧ Disk Bo W p S) := ⟨FC, NW, DW⟩
    have hok := HH.out.2.2.2.2.1.ok
    by_cases hdd : S.life = 0
    case' pos =>
      have cl := load_dead c p S N countsB W DW hok (by omega) HH.out.2.2.2.2.1.sound.sane hdd (failIs_new HH.out.2.2.2.2.2.2.1 NW) hzc hzn
      have HDE : Hid (S.life = 0) := hdd
      clear FC NW DW hgW hzc hzn G1 G2 hq1 B1 hw1 AB BD BD1 hok hdd
      go_wp2_with fail
      refine cl.mono ?_
      rintro e w4 ⟨v4, rfl, hv4, b4⟩
      have N4 : New Bo w w4 := HW2.out.2.1.below b4
      have ci := isGone_failed a bb aF v4 w4 (N4.gs HH.out.2.1 hNG) (senF_new HH.out.2.2.1 N4) hv4
      obtain ⟨eb, s, ax, hve, hvb2⟩ := hv4
      subst hve
      have HE : Hid (w4.heap[eb]? = some (.cells #[.int .i64 8, .string s, .iface 254 (.pointer (some ax.1))] 89 (0, 0)) ∧ Disk Bo w4 p S ∧ New Bo w w4) := ⟨hvb2, HW2.out.2.2.below b4, N4⟩
      clear hvb2 b4 N4 cl
      go_wp2_with fail
      refine ci.mono ?_
      rintro e w5 ⟨rfl, hw5⟩
      have hw5' := hw5.symm
      subst hw5'
      clear hw5 ci
      go_wp2
      go_ret
      exact ⟨.inr ⟨_, S, rfl, ⟨eb, s, ax, rfl, HE.out.1⟩, HE.out.2.1, (Flow.start HH.out.2.2.2.2.1).mono (by omega), HDE.out⟩, HE.out.2.2⟩
    have hF := alive hdd
    clear hdd
    cases hlk : S.look countsB with
    | none =>
      have cl := load_absent_l c p S N countsB a bb W DW hok (by omega) hF hgW hzc hzn hlk
      clear FC NW DW hgW hzc hzn G1 G2 hq1 B1 hw1 AB BD BD1 hok hF hlk
      go_wp2_with fail
      refine cl.mono ?_
      rintro e w4 ⟨v4, rfl, hG4, b4⟩
      have N4 : New Bo w w4 := HW2.out.2.1.below b4
      have G4 := N4.gs HH.out.2.1 hNG
      have ci := isGone_gone a bb v4 w4 G4 hG4
      have F4 := HW2.out.1.kept (.ofBelow b4)
      rw [HHD.out] at F4
      have cco := count_m j p K M Bn text run (.slice ar rs.length cr) rs c _ 0 0 S N a bb w4 (N4.job HH.out.1) G4 (senF_new HH.out.2.2.1 N4) (failIs_new HH.out.2.2.2.2.2.2.1 N4) (HW2.out.2.2.below b4) HH.out.2.2.2.2.1 (by omega) (N4.own HH.out.2.2.2.2.2.1 not_ours_s) F4 ⟨_, rfl⟩ HM.out.1 hrl HM.out.2 hK1 hK hM1 hM hB1 hB hrs (Nat.le_trans hNG N4.size) (by omega)
      have HN4 : Hid (New Bo w w4) := N4
      clear hG4 b4 N4 G4 F4 cl
      go_wp2_with fail
      refine ci.mono ?_
      rintro e w5 ⟨rfl, hw5⟩
      have hw5' := hw5.symm
      subst hw5'
      clear hw5
      go_wp2_with fail
      refine cco.mono ?_
      rintro e w6 ⟨⟨S6, es, rfl, d6, r6, l6, s6, t6⟩ | ⟨v, S6, rfl, hv, d6, r6, l6⟩, n6⟩
      · have HF : Hid (Disk Bo w6 p S6 ∧ Flow (Allow K M Bn text run (datas rs)) S S6 (N + 18 * Bn + 9) ∧ AllDirs S6 (fun D => ∃ x ∈ D, key x = countsB.toList) ∧ New Bo w w6) := ⟨d6, r6, dirs_look r6.live s6 t6 l6, n6 w HN4.out hcw⟩
        clear d6 r6 l6 s6 t6 n6 cco ci
        have J6 := HF.out.2.2.2.job HH.out.1
        have G6 := HF.out.2.2.2.gs HH.out.2.1 hNG
        have hc0 : w6.drew.cell? ⟨j, 0, none⟩ = some (.pointer (some ⟨p, 0, none⟩)) := J6.cells.1
        have AJ : Hid (∀ W, Kept Bo w6.drew W → W.cell? ⟨j, 0, none⟩ = some (.pointer (some ⟨p, 0, none⟩))) := fun W hW => ((J6.kept (Kept.drew _)).kept hW).cells.1
        have clo := leftovers_any a bb w6.drew (G6.kept (Kept.drew (Bo := 0) _))
        have HD6 : Hid (Disk Bo w6.drew p S6) := HF.out.1.still (⟨rfl, rfl, rfl, rfl, Nat.le_add_right _ _⟩ : Still w6 w6.drew)
        have hll : (leftL 16).length ≤ 17 := by rw [leftL_len]; omega
        have hf6 : FailIs aF w6.drew := failIs_new HH.out.2.2.2.2.2.2.1 (HF.out.2.2.2.kept (Kept.drew _))
        have crm : ∀ W v, Below w6.drew.heap.size w6.drew W → W.ownsRow 0 9 1 v (leftL 16).length (scells (leftL 16)) → Calls Tryz.prog 45 #[.pointer (some ⟨p, 0, none⟩), v] W fun e w' => ∃ u S1, e = .returned u ∧ ((u = .nilIface ∧ Disk Bo w' p S1 ∧ Flow (Allow K M Bn text run (datas rs)) S S1 (N + 18 * Bn + 9 + 3 * (leftL 16).length + 1) ∧ AllDirs S1 (fun D => ∃ x ∈ D, key x = countsB.toList)) ∨ (DiskErr aF w' u ∧ Disk Bo w' p S1 ∧ Flow (Allow K M Bn text run (datas rs)) S S1 (N + 18 * Bn + 9 + 3 * (leftL 16).length + 1) ∧ S1.life = 0)) ∧ Kept Bo W w' := fun W v hW hr => by
          refine (RemoveAll_w (Allow K M Bn text run (datas rs)) RL (fun _ => True) p S6 (N + 18 * Bn + 9) v (leftL 16) W (HD6.out.below hW) HF.out.2.1.live left_RL (by omega) hr (hf6.below hW) (fun _ _ => trivial) (fun _ _ _ _ _ _ _ => trivial)).mono ?_
          rintro e w' ⟨⟨rfl, S1, d1, r1, _⟩ | ⟨u, S1, rfl, hu, d1, c1, _⟩, k1⟩
          · exact ⟨_, S1, rfl, .inl ⟨rfl, d1, ⟨r1.live, HF.out.2.1.went.trans (r1.went PL)⟩, (r1.went PL).dirs _ (closed_has (by rw [Lib.toList_data]; decide) draft_counts counts_RL) HF.out.2.2.1⟩, k1⟩
          · exact ⟨u, S1, rfl, .inr ⟨hu, d1, ⟨(c1 PL).live, HF.out.2.1.went.trans (c1 PL).went⟩, (c1 PL).dead⟩, k1⟩
        clear J6 G6 hf6 HD6
        go_upto_region 7 with fail
        go_region_held3 (fun w' => w'.cell? ⟨j, 0, none⟩ = some (.pointer (some ⟨p, 0, none⟩))) (first | exact hc0 | exact AJ.out _ (Kept.ofBelow b7) | exact AJ.out _ ((Kept.ofBelow b7).trans k8)) (first | (go_at_call 61; refine clo.mono ?_; rintro e w7 ⟨v7, rfl, own7, b7⟩) | (go_at_call 45; refine (crm _ _ ?_ ?_).mono ?_; (exact b7); (exact own_lower own7 (Nat.zero_le _)); rintro e w8 ⟨u8, S8, rfl, h8, k8⟩))
        all_goals
          have H8 : Hid (New Bo w w8) := ((HF.out.2.2.2.kept (Kept.drew _)).below b7).kept k8
          have hl17 : (leftL 16).length = 17 := leftL_len 16
          clear k8 own7 b7 crm clo AJ hc0
          rcases h8 with ⟨rfl, h8⟩ | ⟨hv, h8⟩
          · have HE : Hid (Disk Bo w8 p S8 ∧ Flow (Allow K M Bn text run (datas rs)) S S8 (N + 400) ∧ AllDirs S8 (fun D => ∃ x ∈ D, key x = countsB.toList)) := ⟨h8.1, h8.2.1.mono (by rw [hl17]; omega), h8.2.2⟩
            clear h8 hl17
            go_wp2
            go_ret
            exact ⟨.inl ⟨S8, rfl, HE.out.1, HE.out.2.1, HE.out.2.2⟩, H8.out⟩
          · obtain ⟨eb, s, ax, hve, hvb2⟩ := hv
            subst hve
            have HE : Hid (w8.heap[eb]? = some (.cells #[.int .i64 8, .string s, .iface 254 (.pointer (some ax.1))] 89 (0, 0)) ∧ Disk Bo w8 p S8 ∧ Flow (Allow K M Bn text run (datas rs)) S S8 (N + 400) ∧ S8.life = 0) := ⟨hvb2, h8.1, h8.2.1.mono (by rw [hl17]; omega), h8.2.2⟩
            clear h8 hl17 hvb2
            go_wp2
            go_ret
            exact ⟨.inr ⟨_, S8, rfl, ⟨eb, s, ax, rfl, HE.out.1⟩, HE.out.2.1, HE.out.2.2.1, HE.out.2.2.2⟩, H8.out⟩
      · obtain ⟨eb, s, ax, hve, hvb2⟩ := hv
        subst hve
        have HE : Hid (w6.heap[eb]? = some (.cells #[.int .i64 8, .string s, .iface 254 (.pointer (some ax.1))] 89 (0, 0)) ∧ Disk Bo w6 p S6 ∧ Flow (Allow K M Bn text run (datas rs)) S S6 (N + 400) ∧ S6.life = 0 ∧ New Bo w w6) := ⟨hvb2, d6, r6.mono (by omega), l6, n6 w HN4.out hcw⟩
        clear hvb2 d6 r6 l6 n6 cco ci
        go_wp2
        go_ret
        exact ⟨.inr ⟨_, S6, rfl, ⟨eb, s, ax, rfl, HE.out.1⟩, HE.out.2.1, HE.out.2.2.1, HE.out.2.2.2.1⟩, HE.out.2.2.2.2⟩
    | some f =>
      obtain ⟨es, rfl, htl⟩ := allow_counts (live_look HH.out.2.2.2.2.1 hlk draft_counts)
      have hsm := tally_small htl (words_words _) HM.out.2
      have htx := text_small hsm.each (by omega)
      have hmul : es.length * (K + 10) ≤ 1440 * 41 := Nat.mul_le_mul hsm.len (by omega)
      have hhs := head_size countsB run K (by decide) hrs (by omega)
      have hel := hsm.len
      have cl := load_ok_l c _ p countsB hd 0 0 S N a bb K es W FC hgW DW hok (by omega) hF (by rw [HHD.out]; exact hlk) (by rw [HHD.out]; exact ends_head _ _ _) (by rw [List.length_append, len_size, HHD.out]; omega) (by omega) rfl ⟨_, rfl⟩ (fun x hx => ⟨(hsm.each x hx).1, (hsm.each x hx).2.1, by have := (hsm.each x hx).2.2.2; omega⟩) hK1 (by omega) (by omega)
      have HLD : Hid (AllDirs S (fun D => ∃ x ∈ D, key x = countsB.toList)) := dirs_look HH.out.2.2.2.2.1 HH.out.2.2.2.2.2.2.2.2.1 HH.out.2.2.2.2.2.2.2.2.2 hlk
      clear FC NW DW hgW hzc hzn G1 G2 hq1 B1 hw1 AB BD BD1 hok hF hlk hsm htx hmul hhs hel htl
      go_wp2_with fail
      refine cl.mono ?_
      rintro e w6 ⟨ev, s6, r6, rfl, F6, own6, k6⟩
      have N6 : New Bo w w6 := HW2.out.2.1.wk k6 hcw
      have ci := isGone_nil a bb w6 (N6.gs HH.out.2.1 hNG)
      have HF : Hid (Disk Bo w6 p S ∧ Flow (Allow K M Bn text run (datas rs)) S S N ∧ AllDirs S (fun D => ∃ x ∈ D, key x = countsB.toList) ∧ New Bo w w6) := ⟨k6.disk HW2.out.2.2 HW2.out.1.notDisk, Flow.start HH.out.2.2.2.2.1, HLD.out, N6⟩
      clear F6 own6 k6 N6 cl
      go_wp2_with fail
      refine ci.mono ?_
      rintro e w5 ⟨rfl, hw5⟩
      have hw5' := hw5.symm
      subst hw5'
      clear hw5 ci
      have J6 := HF.out.2.2.2.job HH.out.1
      have G6 := HF.out.2.2.2.gs HH.out.2.1 hNG
      have hc0 : w6.drew.cell? ⟨j, 0, none⟩ = some (.pointer (some ⟨p, 0, none⟩)) := J6.cells.1
      have AJ : Hid (∀ W, Kept Bo w6.drew W → W.cell? ⟨j, 0, none⟩ = some (.pointer (some ⟨p, 0, none⟩))) := fun W hW => ((J6.kept (Kept.drew _)).kept hW).cells.1
      have clo := leftovers_any a bb w6.drew (G6.kept (Kept.drew (Bo := 0) _))
      have HD6 : Hid (Disk Bo w6.drew p S) := HF.out.1.still (⟨rfl, rfl, rfl, rfl, Nat.le_add_right _ _⟩ : Still w6 w6.drew)
      have hll : (leftL 16).length ≤ 17 := by rw [leftL_len]; omega
      have hf6 : FailIs aF w6.drew := failIs_new HH.out.2.2.2.2.2.2.1 (HF.out.2.2.2.kept (Kept.drew _))
      have crm : ∀ W v, Below w6.drew.heap.size w6.drew W → W.ownsRow 0 9 1 v (leftL 16).length (scells (leftL 16)) → Calls Tryz.prog 45 #[.pointer (some ⟨p, 0, none⟩), v] W fun e w' => ∃ u S1, e = .returned u ∧ ((u = .nilIface ∧ Disk Bo w' p S1 ∧ Flow (Allow K M Bn text run (datas rs)) S S1 (N + 3 * (leftL 16).length + 1) ∧ AllDirs S1 (fun D => ∃ x ∈ D, key x = countsB.toList)) ∨ (DiskErr aF w' u ∧ Disk Bo w' p S1 ∧ Flow (Allow K M Bn text run (datas rs)) S S1 (N + 3 * (leftL 16).length + 1) ∧ S1.life = 0)) ∧ Kept Bo W w' := fun W v hW hr => by
        refine (RemoveAll_w (Allow K M Bn text run (datas rs)) RL (fun _ => True) p S (N) v (leftL 16) W (HD6.out.below hW) HF.out.2.1.live left_RL (by omega) hr (hf6.below hW) (fun _ _ => trivial) (fun _ _ _ _ _ _ _ => trivial)).mono ?_
        rintro e w' ⟨⟨rfl, S1, d1, r1, _⟩ | ⟨u, S1, rfl, hu, d1, c1, _⟩, k1⟩
        · exact ⟨_, S1, rfl, .inl ⟨rfl, d1, ⟨r1.live, HF.out.2.1.went.trans (r1.went PL)⟩, (r1.went PL).dirs _ (closed_has (by rw [Lib.toList_data]; decide) draft_counts counts_RL) HF.out.2.2.1⟩, k1⟩
        · exact ⟨u, S1, rfl, .inr ⟨hu, d1, ⟨(c1 PL).live, HF.out.2.1.went.trans (c1 PL).went⟩, (c1 PL).dead⟩, k1⟩
      clear J6 G6 hf6 HD6
      go_upto_region 7 with fail
      go_region_held3 (fun w' => w'.cell? ⟨j, 0, none⟩ = some (.pointer (some ⟨p, 0, none⟩))) (first | exact hc0 | exact AJ.out _ (Kept.ofBelow b7) | exact AJ.out _ ((Kept.ofBelow b7).trans k8)) (first | (go_at_call 61; refine clo.mono ?_; rintro e w7 ⟨v7, rfl, own7, b7⟩) | (go_at_call 45; refine (crm _ _ ?_ ?_).mono ?_; (exact b7); (exact own_lower own7 (Nat.zero_le _)); rintro e w8 ⟨u8, S8, rfl, h8, k8⟩))
      all_goals
        have H8 : Hid (New Bo w w8) := ((HF.out.2.2.2.kept (Kept.drew _)).below b7).kept k8
        have hl17 : (leftL 16).length = 17 := leftL_len 16
        clear k8 own7 b7 crm clo AJ hc0
        rcases h8 with ⟨rfl, h8⟩ | ⟨hv, h8⟩
        · have HE : Hid (Disk Bo w8 p S8 ∧ Flow (Allow K M Bn text run (datas rs)) S S8 (N + 400) ∧ AllDirs S8 (fun D => ∃ x ∈ D, key x = countsB.toList)) := ⟨h8.1, h8.2.1.mono (by rw [hl17]; omega), h8.2.2⟩
          clear h8 hl17
          go_wp2
          go_ret
          exact ⟨.inl ⟨S8, rfl, HE.out.1, HE.out.2.1, HE.out.2.2⟩, H8.out⟩
        · obtain ⟨eb, s, ax, hve, hvb2⟩ := hv
          subst hve
          have HE : Hid (w8.heap[eb]? = some (.cells #[.int .i64 8, .string s, .iface 254 (.pointer (some ax.1))] 89 (0, 0)) ∧ Disk Bo w8 p S8 ∧ Flow (Allow K M Bn text run (datas rs)) S S8 (N + 400) ∧ S8.life = 0) := ⟨hvb2, h8.1, h8.2.1.mono (by rw [hl17]; omega), h8.2.2⟩
          clear h8 hl17 hvb2
          go_wp2
          go_ret
          exact ⟨.inr ⟨_, S8, rfl, ⟨eb, s, ax, rfl, HE.out.1⟩, HE.out.2.1, HE.out.2.2.1, HE.out.2.2.2⟩, H8.out⟩
end Go.Proofs.YtbjgpfhbdmcbbabGreatDoor.jobs
