import Derived.Test.YtbjgpfhbdmcbbabGreatDoorP23
import Derived.Test.YtbjgpfhbdmcbbabGreatDoorP13

/-
  CONTRACTS of package quern: finish.
-/
namespace Go.Proofs.YtbjgpfhbdmcbbabGreatDoor.jobs
open Go.RowKit dnamath dna diskm disk keep hex pieces files parse words kinds
set_option linter.unusedVariables false

theorem left_counts : ∀ n ∈ leftL 16, countsB.toList ≠ n.toList := by
  intro n hn
  unfold leftL at hn
  rw [List.mem_cons] at hn
  rcases hn with rfl | hn
  · rw [Lib.toList_data, Lib.toList_data]; decide
  · obtain ⟨i, _, rfl⟩ := List.mem_map.1 hn
    exact nameB_counts i

theorem left_plan : ∀ n ∈ leftL 16, planB.toList ≠ n.toList := by
  intro n hn
  unfold leftL at hn
  rw [List.mem_cons] at hn
  rcases hn with rfl | hn
  · rw [Lib.toList_data, Lib.toList_data]; decide
  · obtain ⟨i, _, rfl⟩ := List.mem_map.1 hn
    exact nameB_plan i
theorem store8 (w3 : World) (c p K : Nat) (hd : ByteArray) (hq3 : w3.heap[c]? = some (.cells #[.pointer none, .string ⟨#[]⟩, .string ⟨#[]⟩, .int .u64 0, .int .i64 0, .slice none 0 0, .int .i64 0, .slice none 0 0] 105 (0, 0))) :
    ((((((((w3.setCell ⟨c, 0, none⟩ (.pointer (some ⟨p, 0, none⟩))).setCell ⟨c, 1, none⟩ (.string countsB)).setCell ⟨c, 2, none⟩ (.string hd)).setCell ⟨c, 3, none⟩ (.int .u64 0)).setCell ⟨c, 4, none⟩ (.int .i64 0)).setCell ⟨c, 5, none⟩ (.slice none 0 0)).setCell ⟨c, 6, none⟩ (.int .i64 (K : Int))).setCell ⟨c, 7, none⟩ (.slice none 0 0)).heap[c]? = some (.cells (listC p countsB hd K) 105 (0, 0)) := by
  have h0 := heap_setCell_same w3 c 0 _ _ (.pointer (some ⟨p, 0, none⟩)) hq3
  have h1 := heap_setCell_same _ c 1 _ _ (.string countsB) h0
  have h2 := heap_setCell_same _ c 2 _ _ (.string hd) h1
  have h3 := heap_setCell_same _ c 3 _ _ (.int .u64 0) h2
  have h4 := heap_setCell_same _ c 4 _ _ (.int .i64 0) h3
  have h5 := heap_setCell_same _ c 5 _ _ (.slice none 0 0) h4
  have h6 := heap_setCell_same _ c 6 _ _ (.int .i64 (K : Int)) h5
  have h7 := heap_setCell_same _ c 7 _ _ (.slice none 0 0) h6
  rw [h7]
  simp

set_option maxHeartbeats 4000000 in
set_option maxRecDepth 100000 in
theorem finish_any {Bo : Nat} (j p K M Bn : Nat) (text run : ByteArray) (rv : Value) (rs : List ByteArray) (S : DS) (N : Nat) (a bb : Addr) (w : World) (hJ : JobAt Bo w j p K M Bn text run) (hg : Gs w a bb) (hse : Sen w a bb) (hD : Disk Bo w p S) (hS : RoomB S N) (hN : N ≤ 3400)
    (hr : w.ownsRow 0 9 1 rv rs.length (scells rs)) (hno : ∀ i, i < 16 → S.look (nameB i) = none) (hnc : S.look countsB = none)
    (hmay : ∀ r ∈ rs, May r K M ∧ r.size ≤ 100000) (hrl : rs.length ≤ 1000) (hw : (wordsOf K (datas rs)).length ≤ 1440) (hK1 : 1 ≤ K) (hK : K ≤ 31) (hM1 : 1 ≤ M) (hM : M ≤ K) (hB1 : 1 ≤ Bn) (hB : Bn ≤ 16) (hrs : run.size ≤ 17) (hNG : 27 ≤ w.heap.size) :
    Calls Tryz.prog 40 #[.pointer (some ⟨j, 0, none⟩), rv] w fun e w' => ∃ S' es, e = .returned .nilIface ∧ Disk Bo w' p S' ∧ RoomB S' (N + 100) ∧ (S'.look countsB = some (wholeF (countsZ run K es)) ∧ S'.look planB = S.look planB) ∧ TallyOf (wordsOf K (datas rs)) (es.map cv) ∧ New Bo w w' := by
  have hi := itoa_size K (by omega)
  have cco : ∀ W, Gs W a bb → Calls Tryz.prog 58 #[.pointer (some ⟨p, 0, none⟩), .string run, .int .i64 (K : Int)] W fun e w' => e = .returned (newList p countsB (headB countsB run K) K) ∧ Below W.heap.size W w' := fun W hW => countsOf_any p run K a bb W hW (by omega) (by omega) (by omega)
  obtain ⟨hd, hhd⟩ : ∃ hd, hd = headB countsB run K := ⟨_, rfl⟩
  simp only [← hhd] at cco
  have HHD : Hid (hd = headB countsB run K) := hhd
  have CC : Hid (∀ W, Gs W a bb → Calls Tryz.prog 58 #[.pointer (some ⟨p, 0, none⟩), .string run, .int .i64 (K : Int)] W fun e w' => e = .returned (newList p countsB hd K) ∧ Below W.heap.size W w') := cco
  obtain ⟨z0, z1, _, _, _, z11⟩ := hJ.cells
  have HH : Hid (JobAt Bo w j p K M Bn text run ∧ Gs w a bb ∧ Sen w a bb ∧ Disk Bo w p S ∧ RoomB S N ∧ w.ownsRow 0 9 1 rv rs.length (scells rs) ∧ (∀ i, i < 16 → S.look (nameB i) = none) ∧ S.look countsB = none) := ⟨hJ, hg, hse, hD, hS, hr, hno, hnc⟩
  have HM : Hid ((∀ r ∈ rs, May r K M ∧ r.size ≤ 100000) ∧ (wordsOf K (datas rs)).length ≤ 1440) := ⟨hmay, hw⟩
  obtain ⟨ar, cr, hrv⟩ := own_slice hr
  subst hrv
  clear hJ hg hse hD hS hr hno hnc hmay hw hhd hi cco
  go_enter Tryz.func40, Tryz.ntmps40
  go_upto_region 1 with fail
  obtain ⟨w1, hw1⟩ : ∃ w1, w1 = w.alloc (.cells #[.pointer none, .string ⟨#[]⟩, .string ⟨#[]⟩, .int .u64 0, .int .i64 0, .slice none 0 0, .int .i64 0, .slice none 0 0] 105) := ⟨_, rfl⟩
  have hq1 : w1.heap[w.heap.size]? = some (.cells #[.pointer none, .string ⟨#[]⟩, .string ⟨#[]⟩, .int .u64 0, .int .i64 0, .slice none 0 0, .int .i64 0, .slice none 0 0] 105 (0, 0)) := by rw [hw1]; exact heap_alloc_new _ _
  have B1 : Below w.heap.size w w1 := by rw [hw1]; exact (Below.refl _ w).alloc (Nat.le_refl _) _
  have G1 : Gs w.drew a bb := HH.out.2.1.kept (Kept.drew (Bo := 0) _)
  have G2 : Gs w1.drew a bb := (HH.out.2.1.below B1).kept (Kept.drew (Bo := 0) _)
  rw [hw1] at G2
  have AB : Hid (∀ W, Below w.heap.size w W → W.cell? ⟨j, 0, none⟩ = some (.pointer (some ⟨p, 0, none⟩)) ∧ W.cell? ⟨j, 1, none⟩ = some (.int .i64 (K : Int)) ∧ W.cell? ⟨j, 11, none⟩ = some (.string run)) := fun W hW => by
    obtain ⟨x0, x1, _, _, _, x11⟩ := (HH.out.1.below hW).cells
    exact ⟨x0, x1, x11⟩
  have BD : Below w.heap.size w w.drew := (⟨rfl, rfl, rfl, rfl, Nat.le_add_right _ _⟩ : Still w w.drew).below _
  have BD1 : Below w.heap.size w (w.alloc (.cells #[.pointer none, .string ⟨#[]⟩, .string ⟨#[]⟩, .int .u64 0, .int .i64 0, .slice none 0 0, .int .i64 0, .slice none 0 0] 105)).drew := by
    rw [← hw1]
    exact B1.trans ((⟨rfl, rfl, rfl, rfl, Nat.le_add_right _ _⟩ : Still w1 w1.drew).below _)
  have HC : Hid (∀ w3, Below w.heap.size w w3 → Below w.heap.size w ((((((((w3.setCell ⟨w.heap.size, 0, none⟩ (.pointer (some ⟨p, 0, none⟩))).setCell ⟨w.heap.size, 1, none⟩ (.string countsB)).setCell ⟨w.heap.size, 2, none⟩ (.string hd)).setCell ⟨w.heap.size, 3, none⟩ (.int .u64 0)).setCell ⟨w.heap.size, 4, none⟩ (.int .i64 0)).setCell ⟨w.heap.size, 5, none⟩ (.slice none 0 0)).setCell ⟨w.heap.size, 6, none⟩ (.int .i64 (K : Int))).setCell ⟨w.heap.size, 7, none⟩ (.slice none 0 0))) := fun w3 B3 => (((((((B3.setCell (by exact Nat.le_refl _) _).setCell (by exact Nat.le_refl _) _).setCell (by exact Nat.le_refl _) _).setCell (by exact Nat.le_refl _) _).setCell (by exact Nat.le_refl _) _).setCell (by exact Nat.le_refl _) _).setCell (by exact Nat.le_refl _) _).setCell (by exact Nat.le_refl _) _
  clear z0 z1 z11
  go_region_held3 (fun w' => w'.cell? ⟨j, 0, none⟩ = some (.pointer (some ⟨p, 0, none⟩)) ∧ w'.cell? ⟨j, 1, none⟩ = some (.int .i64 (K : Int)) ∧ w'.cell? ⟨j, 11, none⟩ = some (.string run)) (first | (with_reducible exact AB.out _ BD) | (with_reducible exact AB.out _ BD1) | (with_reducible exact AB.out _ B3) | (with_reducible exact AB.out _ (B3.alloc B3.size _)) | (with_reducible exact AB.out _ (HC.out w3 B3))) (first | (go_at_call 58; refine (CC.out _ ?_).mono ?_; (with_reducible exact G1); rintro e w3 ⟨rfl, b3⟩; have B3 : Below w.heap.size w w3 := ⟨b3.os, b3.tape, b3.output, b3.size, fun k hk => b3.block k hk⟩) | (go_at_call 58; refine (CC.out _ ?_).mono ?_; (with_reducible exact G2); rintro e w3 ⟨rfl, b3⟩; rw [← hw1] at b3; have B3 : Below w.heap.size w w3 := ⟨b3.os.trans B1.os, b3.tape.trans B1.tape, b3.output.trans B1.output, Nat.le_trans B1.size b3.size, fun k hk => (b3.block k (Nat.lt_of_lt_of_le hk B1.size)).trans (B1.block k hk)⟩; have hq3 := (b3.block w.heap.size (lt_of_block hq1)).trans hq1; have c0 := st_cell hq3 0; have c1 := st_cell hq3 1; have c2 := st_cell hq3 2; have c3 := st_cell hq3 3; have c4 := st_cell hq3 4; have c5 := st_cell hq3 5; have c6 := st_cell hq3 6; have c7 := st_cell hq3 7; have f0 := st_frozen hq3 0; have f1 := st_frozen hq3 1; have f2 := st_frozen hq3 2; have f3 := st_frozen hq3 3; have f4 := st_frozen hq3 4; have f5 := st_frozen hq3 5; have f6 := st_frozen hq3 6; have f7 := st_frozen hq3 7; simp at c0 c1 c2 c3 c4 c5 c6 c7))
  all_goals
    first
    | (obtain ⟨W, hW⟩ : ∃ W, W = w3.alloc (.cells (listC p countsB hd K) 105) := ⟨_, rfl⟩
       obtain ⟨c, hc⟩ : ∃ c, c = w3.heap.size := ⟨_, rfl⟩
       have FC : FileAt Bo W c 0 (listC p countsB hd K) 105 p countsB hd 0 0 (.slice none 0 0) [] := by rw [hW, hc]; exact listC_at w3 p countsB hd K (Nat.le_trans HH.out.2.2.2.1.low B3.size)
       have BW : Below w.heap.size w W := by rw [hW]; exact B3.alloc B3.size _
       have NW : New Bo w W := (New.refl w).below BW
       have DW : Disk Bo W p S := HH.out.2.2.2.1.below BW
       have hcw : w.heap.size ≤ c := by rw [hc]; exact B3.size
       rw [show w3.alloc (.cells #[.pointer (some ⟨p, 0, none⟩), .string countsB, .string hd, .int .u64 0, .int .i64 0, .slice none 0 0, .int .i64 (K : Int), .slice none 0 0] 105) = W from hW.symm, ← hc]
       clear hW hc B3 BW b3)
    | (obtain ⟨W, hW⟩ : ∃ W, W = (((((((w3.setCell ⟨w.heap.size, 0, none⟩ (.pointer (some ⟨p, 0, none⟩))).setCell ⟨w.heap.size, 1, none⟩ (.string countsB)).setCell ⟨w.heap.size, 2, none⟩ (.string hd)).setCell ⟨w.heap.size, 3, none⟩ (.int .u64 0)).setCell ⟨w.heap.size, 4, none⟩ (.int .i64 0)).setCell ⟨w.heap.size, 5, none⟩ (.slice none 0 0)).setCell ⟨w.heap.size, 6, none⟩ (.int .i64 (K : Int))).setCell ⟨w.heap.size, 7, none⟩ (.slice none 0 0) := ⟨_, rfl⟩
       obtain ⟨c, hc⟩ : ∃ c, c = w.heap.size := ⟨_, rfl⟩
       have KW : WK Bo w.heap.size w3 W := by rw [hW]; exact (WK.set _).trans ((WK.set _).trans ((WK.set _).trans ((WK.set _).trans ((WK.set _).trans ((WK.set _).trans ((WK.set _).trans (WK.set _)))))))
       have qW : W.heap[w.heap.size]? = some (.cells (listC p countsB hd K) 105 (0, 0)) := by
         rw [hW]
         exact store8 w3 w.heap.size p K hd hq3
       have FC : FileAt Bo W c 0 (listC p countsB hd K) 105 p countsB hd 0 0 (.slice none 0 0) [] := by rw [hc]; exact ⟨qW, by decide, rfl, rfl, rfl, rfl, rfl, rfl, World.ownsRow_nil _ _ _ _, Nat.le_trans HH.out.2.2.2.1.low (Nat.le_trans B3.size KW.size)⟩
       have NW : New Bo w W := ((New.refl w).below B3).wk KW (Nat.le_refl _)
       have DW : Disk Bo W p S := KW.disk (HH.out.2.2.2.1.below B3) (by rintro ⟨cs', T', fz', e, hd'⟩; rw [hq3] at e; cases e; rcases hd' with h | h | h | h <;> exact absurd h (by decide))
       have hcw : w.heap.size ≤ c := by rw [hc]; exact Nat.le_refl _
       rw [← hW, ← hc]
       clear hW hc B3 KW qW b3 hq3 c0 c1 c2 c3 c4 c5 c6 c7 f0 f1 f2 f3 f4 f5 f6 f7)
    have hzc : W.cell? ⟨c, 0, none⟩ = some (.pointer (some ⟨p, 0, none⟩)) := (st_cell FC.blk _).trans FC.c0
    have hzn : W.cell? ⟨c, 1, none⟩ = some (.string countsB) := (st_cell FC.blk _).trans FC.c1
    have hgW := NW.gs HH.out.2.1 hNG
    have cl := load_absent c p S N countsB a bb W DW HH.out.2.2.2.2.1.good.ok (by omega) HH.out.2.2.2.2.1.good.fine hgW hzc hzn HH.out.2.2.2.2.2.2.2
    have HW2 : Hid (FileAt Bo W c 0 (listC p countsB hd K) 105 p countsB hd 0 0 (.slice none 0 0) [] ∧ New Bo w W ∧ Disk Bo W p S) := ⟨FC, NW, DW⟩
    clear FC NW DW hgW hzc hzn G1 G2 hq1 B1 hw1 AB BD BD1
    go_wp2_with fail
    refine cl.mono ?_
    rintro e w4 ⟨v4, rfl, hG4, b4⟩
    have N4 : New Bo w w4 := HW2.out.2.1.below b4
    have G4 := N4.gs HH.out.2.1 hNG
    have ci := isGone_gone a bb v4 w4 G4 hG4
    have F4 := HW2.out.1.kept (.ofBelow b4)
    rw [HHD.out] at F4
    have cco := count_any j p K M Bn text run (.slice ar rs.length cr) rs c _ 0 0 S N a bb w4 (N4.job HH.out.1) G4 (N4.sen HH.out.2.2.1) (HW2.out.2.2.below b4) HH.out.2.2.2.2.1 (by omega) (N4.own HH.out.2.2.2.2.2.1 not_ours_s) F4 ⟨_, rfl⟩ HH.out.2.2.2.2.2.2.1 HM.out.1 hrl HM.out.2 hK1 hK hM1 hM hB1 hB hrs (Nat.le_trans hNG N4.size) (by omega)
    have HN4 : Hid (New Bo w w4) := N4
    clear hG4 b4 N4 G4 F4 cl
    go_wp2_with fail
    refine ci.mono ?_
    rintro e w5 ⟨rfl, hw5⟩
    have hw5' := hw5.symm
    subst hw5'
    go_wp2_with fail
    refine cco.mono ?_
    rintro e w6 ⟨S6, es, rfl, d6, r6, l6, t6, n6⟩
    have N6 : New Bo w w6 := n6 w HN4.out hcw
    have HF : Hid (Disk Bo w6 p S6 ∧ RoomB S6 (N + 4 * Bn + 2) ∧ (S6.look countsB = some (wholeF (countsZ run K es)) ∧ S6.look planB = S.look planB) ∧ TallyOf (wordsOf K (datas rs)) (es.map cv) ∧ New Bo w w6) := ⟨d6, r6, l6, t6, N6⟩
    have J6 := N6.job HH.out.1
    have G6 := N6.gs HH.out.2.1 hNG
    have hc0 : w6.drew.cell? ⟨j, 0, none⟩ = some (.pointer (some ⟨p, 0, none⟩)) := J6.cells.1
    have AJ : Hid (∀ W, Kept Bo w6.drew W → W.cell? ⟨j, 0, none⟩ = some (.pointer (some ⟨p, 0, none⟩))) := fun W hW => ((J6.kept (Kept.drew _)).kept hW).cells.1
    have clo := leftovers_any a bb w6.drew (G6.kept (Kept.drew (Bo := 0) _))
    have HD6 : Hid (Disk Bo w6.drew p S6) := d6.still (⟨rfl, rfl, rfl, rfl, Nat.le_add_right _ _⟩ : Still w6 w6.drew)
    have hll : (leftL 16).length ≤ 17 := by rw [leftL_len]; omega
    have crm : ∀ W v, Disk Bo W p S6 → W.ownsRow 0 9 1 v (leftL 16).length (scells (leftL 16)) → Calls Tryz.prog 45 #[.pointer (some ⟨p, 0, none⟩), v] W fun e w' => ∃ S1, e = .returned .nilIface ∧ Disk Bo w' p S1 ∧ Less S6 S1 (N + 4 * Bn + 2 + (leftL 16).length) (leftL 16) ∧ Kept Bo W w' := fun W v hW hr => RemoveAll_any p S6 (N + 4 * Bn + 2) v (leftL 16) W hW r6.good (by omega) hr
    clear d6 r6 l6 t6 n6 N6 J6 G6 cco ci
    go_upto_region 7 with fail
    go_region_held3 (fun w' => w'.cell? ⟨j, 0, none⟩ = some (.pointer (some ⟨p, 0, none⟩))) (first | exact hc0 | exact AJ.out _ (Kept.ofBelow b7) | exact AJ.out _ ((Kept.ofBelow b7).trans k8)) (first | (go_at_call 61; refine clo.mono ?_; rintro e w7 ⟨v7, rfl, own7, b7⟩) | (go_at_call 45; refine (crm _ _ ?_ ?_).mono ?_; (exact HD6.out.below b7); (exact own_lower own7 (Nat.zero_le _)); rintro e w8 ⟨S8, rfl, d8, l8, k8⟩))
    all_goals
      have HE : Hid (Disk Bo w8 p S8 ∧ RoomB S8 (N + 100) ∧ (S8.look countsB = some (wholeF (countsZ run K es)) ∧ S8.look planB = S.look planB) ∧ New Bo w w8) := by
        have hl17 : (leftL 16).length = 17 := leftL_len 16
        refine ⟨d8, (HF.out.2.1.less l8 (by omega)).mono (by omega), ?_, ((HF.out.2.2.2.2.kept (Kept.drew _)).below b7).kept k8⟩
        rw [Less.look l8 HF.out.2.1.good countsB left_counts, Less.look l8 HF.out.2.1.good planB left_plan]
        exact HF.out.2.2.1
      clear d8 l8 k8 own7 b7 crm clo AJ hc0
      go_wp2
      go_ret
      exact ⟨S8, es, rfl, HE.out.1, HE.out.2.1, HE.out.2.2.1, HF.out.2.2.2.1, HE.out.2.2.2⟩
end Go.Proofs.YtbjgpfhbdmcbbabGreatDoor.jobs

/-
  CONTRACTS of package quern: Run on a disk that tells of no run.
-/
namespace Go.Proofs.YtbjgpfhbdmcbbabGreatDoor.jobs
open Go.RowKit dnamath dna diskm disk keep hex pieces files parse words kinds
set_option linter.unusedVariables false

/-- what the program reads of its packages' variables, and where it lies -/
structure Gl (w : World) (a b aE : Addr) : Prop where
  gs : Gs w a b
  sen : Sen w a b
  fin : ∃ cs T fz, w.heap[8]? = some (.cells cs T fz) ∧ T = 66 ∧ cs[0]? = some (.iface 254 (.pointer (some aE)))
  many : 27 ≤ w.heap.size
theorem Gl.new {Bo : Nat} {w w' : World} {a b aE : Addr} (h : Gl w a b aE) (hk : New Bo w w') : Gl w' a b aE := by
  refine ⟨hk.gs h.gs h.many, hk.sen h.sen, ?_, Nat.le_trans h.many hk.size⟩
  obtain ⟨cs, T, fz, h1, h2, h3⟩ := h.fin
  refine ⟨cs, T, fz, (hk.block _ (lt_of_block h1) (Nat.ne_of_lt (lt_of_block h1)) (fun ⟨cs', fz', e⟩ => by rw [h1] at e; cases e; exact absurd h2 (by decide)) (by
    rintro ⟨cs', T', fz', e, hd⟩
    rw [h1] at e
    cases e
    subst h2
    rcases hd with h | h | h | h <;> exact absurd h (by decide))).trans h1, h2, h3⟩
theorem Gl.below {w w' : World} {a b aE : Addr} (h : Gl w a b aE) (hk : Below w.heap.size w w') : Gl w' a b aE := h.new ((New.refl (Bo := 0) w).below hk)
theorem Gl.ends {w : World} {a b aE : Addr} (h : Gl w a b aE) : EndIs w aE := by
  obtain ⟨cs, T, fz, h1, h2, h3⟩ := h.fin
  unfold EndIs
  rw [g_cell h1]
  exact h3

set_option maxHeartbeats 2000000 in
set_option maxRecDepth 100000 in
theorem mayBe_yes (K M Bn : Nat) (w : World) (hK1 : 1 ≤ K) (hK : K ≤ 31) (ho : K % 2 = 1) (hM1 : 1 ≤ M) (hM : M ≤ K) (hM2 : M ≤ 11) (hB1 : 1 ≤ Bn) (hB : Bn ≤ 16) :
    Calls Tryz.prog 35 #[optV K M Bn] w fun e w' => e = .returned (.bool true) ∧ Below w.heap.size w w' := by
  have h1 : ((K : Int)).tmod 2 = 1 := by
    have : ((K : Int)).tmod 2 = ((K % 2 : Nat) : Int) := rfl
    rw [this, ho]; rfl
  have d1 : decide ((1 : Int) ≤ (K : Int)) = true := by simp; omega
  have d2 : decide ((K : Int) ≤ 31) = true := by simp; omega
  have d3 : decide ((1 : Int) ≤ (M : Int)) = true := by simp; omega
  have d4 : decide ((M : Int) ≤ min (K : Int) 11) = true := by simp; omega
  have d5 : decide ((1 : Int) ≤ (Bn : Int)) = true := by simp; omega
  have d6 : decide ((Bn : Int) ≤ 16) = true := by simp; omega
  have hmin : (M : Int) ≤ min (K : Int) 11 := by omega
  go_enter Tryz.func35, Tryz.ntmps35
  go_wp2
  go_ret
  exact ⟨rfl, (Below.refl _ w).alloc (Nat.le_refl _) _⟩

set_option maxRecDepth 100000 in
theorem Number_nil (w : World) : Calls Tryz.prog 24 #[.nilIface] w fun e w' => e = .returned (.int .i64 0) ∧ w' = w := by
  go_enter Tryz.func24, Tryz.ntmps24
  go_wp2
  go_ret
  exact ⟨rfl, rfl⟩
end Go.Proofs.YtbjgpfhbdmcbbabGreatDoor.jobs
