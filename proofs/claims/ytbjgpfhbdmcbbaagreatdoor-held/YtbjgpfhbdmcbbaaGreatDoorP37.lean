import Derived.Test.YtbjgpfhbdmcbbaaGreatDoorP36
import Derived.Test.YtbjgpfhbdmcbbaaGreatDoorP33

/-
  CONTRACTS of package quern on a disk that may die: begin.
-/
namespace Go.Proofs.YtbjgpfhbdmcbbaaGreatDoor.jobs
open Go.RowKit dnamath dna diskm disk keep hex pieces files parse words kinds
set_option linter.unusedVariables false

/-- names that a new run takes away, and the one it gives -/
def RB (n : List UInt8) : Prop := RL n ∨ n = countsB.toList
def PB (n : List UInt8) : Prop := n = planB.toList
theorem left_RB : ∀ n ∈ leftL 16 ++ [countsB], n = draftB ∨ RB n.toList := by
  intro n hn
  rw [List.mem_append, List.mem_singleton] at hn
  rcases hn with hn | rfl
  · exact (left_RL n hn).imp id .inl
  · exact .inr (.inr rfl)

set_option maxHeartbeats 2000000 in
set_option maxRecDepth 100000 in
theorem isBegun_plan_l {Bo : Nat} (j p K M Bn : Nat) (text run text0 : ByteArray) (S : DS) (N : Nat) (a bb : Addr) (w : World) (hJ : JobAt Bo w j p K M Bn text run) (hg : Gs w a bb) (hD : Disk Bo w p S) (ho : S.Ok N) (hN : N ≤ 1000000) (hF : S.dead = false) (hl : S.look planB = some (wholeF (planHB.data.toList ++ text0.data.toList))) (hE : kinds.Ends text0.data.toList) (hsz : text0.size ≤ 100000) (hj : 27 ≤ j) :
    Calls Tryz.prog 98 #[.pointer (some ⟨j, 0, none⟩)] w fun e w' => e = .returned (.tuple #[.bool (text0.toList == text.toList), .nilIface]) ∧ JobAt Bo w' j p K M Bn text run ∧ WK Bo j w w' := by
  obtain ⟨cs, sum, wr, hf, r0, r1, r2, r3, r10, r11⟩ := hJ.ex
  have cl := Load_whole_l j 4 cs 176 p planB planHB sum wr (.slice none 0 0) [] S N a bb _ text0.data.toList w hf hg hD ho hN hF hl rfl (by obtain ⟨Z0, h0⟩ := hE; exact ⟨planHB.data.toList ++ Z0, by rw [h0, List.append_assoc]⟩) (by rw [List.length_append, len_size, len_size]; have : planHB.size = 5 := rfl; omega) hj
  have HR : Hid (cs[0]? = some (.pointer (some ⟨p, 0, none⟩)) ∧ cs[1]? = some (.int .i64 (K : Int)) ∧ cs[2]? = some (.int .i64 (M : Int)) ∧ cs[3]? = some (.int .i64 (Bn : Int)) ∧ cs[10]? = some (.string text) ∧ cs[11]? = some (.string run)) := ⟨r0, r1, r2, r3, r10, r11⟩
  have HG : Hid (Gs w a bb) := hg
  clear hf r0 r1 r2 r3 r10 r11 hJ hD ho hF hg hl hE hsz
  go_enter Tryz.func98, Tryz.ntmps98
  go_wp2_with fail
  refine cl.mono ?_
  rintro e w1 ⟨B, s', r', rfl, hB, h1, k1⟩
  have hBt : B = text0 := kinds.bytes_eq hB
  subst hBt
  have J1 : JobAt Bo w1 j p K M Bn text run := by
    refine ⟨_, s', r', h1, ?_, ?_, ?_, ?_, ?_, ?_⟩
    · rw [fset_ne _ _ _ _ _ _ (by omega)]; exact HR.out.1
    · rw [fset_ne _ _ _ _ _ _ (by omega)]; exact HR.out.2.1
    · rw [fset_ne _ _ _ _ _ _ (by omega)]; exact HR.out.2.2.1
    · rw [fset_ne _ _ _ _ _ _ (by omega)]; exact HR.out.2.2.2.1
    · rw [fset_ne _ _ _ _ _ _ (by omega)]; exact HR.out.2.2.2.2.1
    · rw [fset_ne _ _ _ _ _ _ (by omega)]; exact HR.out.2.2.2.2.2
  have ci := isGone_nil a bb w1 (k1.gs HG.out hj)
  obtain ⟨_, _, _, _, z10, _⟩ := J1.cells
  have HJ1 : Hid (JobAt Bo w1 j p K M Bn text run ∧ WK Bo j w w1) := ⟨J1, k1⟩
  clear cl hB h1 k1 J1
  go_wp2_with fail
  refine ci.mono ?_
  rintro e w2 ⟨rfl, hw2⟩
  have hw2' := hw2.symm
  subst hw2'
  clear ci hw2
  go_wp2
  go_ret2
  exact ⟨rfl, HJ1.out.1, HJ1.out.2⟩

set_option maxHeartbeats 2000000 in
set_option maxRecDepth 100000 in
theorem begin_same {Bo : Nat} (j p K M Bn : Nat) (text run : ByteArray) (S : DS) (N : Nat) (a bb : Addr) (w : World) (hJ : JobAt Bo w j p K M Bn text run) (hg : Gs w a bb) (hD : Disk Bo w p S) (ho : S.Ok N) (hN : N ≤ 1000000) (hF : S.dead = false) (hl : S.look planB = some (wholeF (planHB.data.toList ++ text.data.toList))) (hE : kinds.Ends text.data.toList) (hsz : text.size ≤ 100000) (hj : 27 ≤ j) :
    Calls Tryz.prog 61 #[.pointer (some ⟨j, 0, none⟩)] w fun e w' => e = .returned .nilIface ∧ JobAt Bo w' j p K M Bn text run ∧ WK Bo j w w' := by
  have c1 := isBegun_plan_l j p K M Bn text run text S N a bb w hJ hg hD ho hN hF hl hE hsz hj
  rw [beq_self_eq_true] at c1
  have HH : Hid (Gs w a bb) := hg
  clear hJ hg hD ho hF hl hE hsz
  go_enter Tryz.func61, Tryz.ntmps61
  go_wp2_with fail
  refine c1.mono ?_
  rintro e w1 ⟨rfl, hJ1, k1⟩
  have ci := isGone_nil a bb w1 (k1.gs HH.out hj)
  have HE : Hid (JobAt Bo w1 j p K M Bn text run ∧ WK Bo j w w1) := ⟨hJ1, k1⟩
  clear c1 hJ1 k1
  go_wp2_with fail
  refine ci.mono ?_
  rintro e w2 ⟨rfl, hw2⟩
  have hw2' := hw2.symm
  subst hw2'
  clear ci hw2
  go_wp2
  go_ret
  exact ⟨rfl, HE.out.1, HE.out.2⟩

set_option maxHeartbeats 2000000 in
set_option maxRecDepth 100000 in
theorem isBegun_none_l {Bo : Nat} (j p K M Bn : Nat) (text run : ByteArray) (S : DS) (N : Nat) (a bb : Addr) (w : World) (hJ : JobAt Bo w j p K M Bn text run) (hg : Gs w a bb) (hD : Disk Bo w p S) (ho : S.Ok N) (hF : S.dead = false) (hN : N ≤ 9000) (hl1 : S.look planB = none) (hl2 : S.look countsB = none) :
    Calls Tryz.prog 98 #[.pointer (some ⟨j, 0, none⟩)] w fun e w' => ∃ x v, e = .returned (.tuple #[.bool x, v]) ∧ Gone w' a v ∧ Below w.heap.size w w' := by
  obtain ⟨cs, sum, wr, hf, r0, r1, r2, r3, r10, r11⟩ := hJ.ex
  have cl := Load_absent_l j 4 p S N planB planHB a bb w hD ho (by omega) hF hg ((st_cell hf.blk _).trans hf.c0) ((st_cell hf.blk _).trans hf.c1) hl1
  have HJ : Hid (JobAt Bo w j p K M Bn text run) := hJ
  have HD : Hid (Disk Bo w p S ∧ (S.Ok N ∧ S.dead = false) ∧ Gs w a bb ∧ S.look countsB = none) := ⟨hD, ⟨ho, hF⟩, hg, hl2⟩
  clear hf r0 r1 r2 r3 r10 r11 hJ hD ho hF hg hl1 hl2
  go_enter Tryz.func98, Tryz.ntmps98
  go_wp2_with fail
  refine cl.mono ?_
  rintro e w1 ⟨v, rfl, hG1, b1⟩
  have HG1 : Hid (Gone w1 a v) := hG1
  have ci := isGone_gone a bb v w1 (HD.out.2.2.1.below b1) hG1
  clear hG1
  go_wp2_with fail
  refine ci.mono ?_
  rintro e w2 ⟨rfl, hw2⟩
  have hw2' := hw2.symm
  subst hw2'
  obtain ⟨z0, _, _, _, _, z11⟩ := (HJ.out.below b1).cells
  have co := openCounts_absent_l p S N a bb w1 (HD.out.1.below b1) HD.out.2.1.1 (by omega) HD.out.2.1.2 (HD.out.2.2.1.below b1) HD.out.2.2.2
  go_upto_region 5 with (go_at_call 63; go_must (refine co.mono ?_; rintro e w3 ⟨v3, rfl, hG3, b3⟩))
  obtain ⟨_, _, _, _, _, y11⟩ := ((HJ.out.below b1).below b3).cells
  have HG3 : Hid (Gone w3 a v3) := hG3
  clear hG3
  go_wp2
  go_ret2
  exact ⟨_, v3, rfl, HG3.out, b1.trans (b3.mono b1.size)⟩

set_option maxHeartbeats 4000000 in
set_option maxRecDepth 100000 in
theorem beginAnew_m {aF : Addr} {Bo : Nat} (j p K M Bn : Nat) (text run : ByteArray) (rs : List (List UInt8)) (S : DS) (N : Nat) (a bb : Addr) (w : World) (hJ : JobAt Bo w j p K M Bn text run) (hg : Gs w a bb) (hD : Disk Bo w p S) (hL : Live (Allow K M Bn text run rs) draftB S N) (hN : N ≤ 8600) (hfa : FailIs aF w) (ht : text.size ≤ 50000) (hj : 27 ≤ j) :
    Calls Tryz.prog 100 #[.pointer (some ⟨j, 0, none⟩)] w fun e w' => (∃ S2, e = .returned .nilIface ∧ JobAt Bo w' j p K M Bn text run ∧ Disk Bo w' p S2 ∧ (Live (Allow K M Bn text run rs) draftB S2 (N + 64) ∧ Went RB PB draftB S S2 ∧ S2.look planB = some (wholeF (planHB.data.toList ++ text.data.toList)) ∧ S2.safe = S2.now ∧ S2.steps = []) ∧ FK Bo j w w') ∨ (∃ v S2, e = .returned v ∧ DiskErr aF w' v ∧ Disk Bo w' p S2 ∧ Cutt (Allow K M Bn text run rs) RB PB draftB S S2 (N + 64) ∧ FK Bo j w w') := by
  obtain ⟨i0, hi, hz0, hz1, hz2⟩ := info_parts infoS
  have cl := fun W hW => leftovers_any a bb W hW
  have ec : (⟨#[99, 111, 117, 110, 116, 115]⟩ : ByteArray) = countsB := rfl
  have hll : (leftL 16).length = 17 := leftL_len 16
  obtain ⟨LL, hLL⟩ : ∃ LL, LL = leftL 16 := ⟨_, rfl⟩
  simp only [← hLL] at cl hll ⊢
  have hRB : ∀ n ∈ LL ++ [countsB], n = draftB ∨ RB n.toList := by rw [hLL]; exact left_RB
  have crm : ∀ W v, Disk Bo W p S → FailIs aF W → W.ownsRow 0 9 1 v (LL ++ [countsB]).length (scells (LL ++ [countsB])) → Calls Tryz.prog 70 #[.pointer (some ⟨p, 0, none⟩), v] W fun e w' => ∃ u S1, e = .returned u ∧ ((u = .nilIface ∧ Live (Allow K M Bn text run rs) draftB S1 (N + 55) ∧ Went RB PB draftB S S1) ∨ (DiskErr aF w' u ∧ Cutt (Allow K M Bn text run rs) RB PB draftB S S1 (N + 55))) ∧ Disk Bo w' p S1 ∧ Kept Bo W w' := fun W v hW hfW hr => by
    have h18 : (LL ++ [countsB]).length = 18 := by rw [List.length_append, hll]; rfl
    refine (RemoveAll_w (Allow K M Bn text run rs) RB (fun _ => True) p S N v (LL ++ [countsB]) W hW hL hRB (by rw [h18]; omega) hr hfW (fun _ _ => trivial) (fun _ _ _ _ _ _ _ => trivial)).mono ?_
    rw [h18]
    rintro e w' ⟨⟨rfl, S1, d1, r1, _⟩ | ⟨u, S1, rfl, hu, d1, c1, _⟩, k1⟩
    · exact ⟨_, S1, rfl, .inl ⟨rfl, r1.live, r1.went PB⟩, d1, k1⟩
    · exact ⟨u, S1, rfl, .inr ⟨hu, c1 PB⟩, d1, k1⟩
  have hlm : LL.length ≤ 17 := by omega
  have HJ : Hid (JobAt Bo w j p K M Bn text run) := hJ
  have HG : Hid (Gs w a bb) := hg
  have HD : Hid (Disk Bo w p S) := hD
  have HFA : Hid (FailIs aF w ∧ FailIs aF w.drew) := ⟨hfa, hfa.below ((⟨rfl, rfl, rfl, rfl, Nat.le_add_right _ _⟩ : Still w w.drew).below _)⟩
  have HDd : Hid (Disk Bo w.drew p S) := hD.still (⟨rfl, rfl, rfl, rfl, Nat.le_add_right _ _⟩ : Still w w.drew)
  have hc0 : w.drew.cell? ⟨j, 0, none⟩ = some (.pointer (some ⟨p, 0, none⟩)) := hJ.cells.1
  have AJ : Hid (∀ W, Kept Bo w.drew W → W.cell? ⟨j, 0, none⟩ = some (.pointer (some ⟨p, 0, none⟩))) := fun W hW => ((HJ.out.kept (Kept.drew _)).kept hW).cells.1
  have HLS : Hid (scells LL ++ [.string countsB] = scells (LL ++ [countsB])) := by show _ = _; simp [scells]
  clear hJ hg hD hL hfa hLL hll hRB
  go_enter Tryz.func100, Tryz.ntmps100
  go_upto_region 1 with fail
  have hq1 : (w.alloc (.cells #[.string countsB] 9)).heap[w.heap.size]? = some (.cells #[.string countsB] 9 (0, 0)) := heap_alloc_new _ _
  obtain ⟨w1, hw1⟩ : ∃ w1, w1 = w.alloc (.cells #[.string countsB] 9) := ⟨_, rfl⟩
  have B1 : Below w.heap.size w w1 := by rw [hw1]; exact (Below.refl _ w).alloc (Nat.le_refl _) _
  have HG1 : Hid (Gs (w.alloc (.cells #[.string countsB] 9)).drew a bb) := by show Gs _ _ _; rw [← hw1]; exact (HG.out.below B1).kept (Kept.drew (Bo := 0) _)
  have hc1 : (w.alloc (.cells #[.string countsB] 9)).drew.cell? ⟨j, 0, none⟩ = some (.pointer (some ⟨p, 0, none⟩)) := by rw [← hw1]; exact ((HJ.out.below B1).kept (Kept.drew _)).cells.1
  have HB3 : Hid (∀ w3, Below (w.alloc (.cells #[.string countsB] 9)).drew.heap.size (w.alloc (.cells #[.string countsB] 9)).drew w3 → Below w.drew.heap.size w.drew w3) := fun w3 h => by
    rw [← hw1] at h
    exact ⟨h.os.trans B1.os, h.tape.trans B1.tape, h.output.trans B1.output, Nat.le_trans B1.size h.size, fun k hk => (h.block k (Nat.lt_of_lt_of_le hk B1.size)).trans (B1.block k hk)⟩
  clear hw1
  go_region_held3 (fun w' => w'.cell? ⟨j, 0, none⟩ = some (.pointer (some ⟨p, 0, none⟩))) (first | exact hc0 | exact hc1 | exact AJ.out _ (Kept.ofBelow b3) | exact AJ.out _ (Kept.ofBelow (b3.alloc b3.size _)) | exact AJ.out _ (Kept.ofBelow b4) | exact AJ.out _ ((Kept.ofBelow b4).trans k5)) (first | (go_at_call 105; refine (cl _ ?_).mono ?_; (exact HG.out.kept (Kept.drew (Bo := 0) _)); rintro e w3 ⟨v3, rfl, own3, b3⟩; obtain ⟨aN, cN, hnv⟩ := own_slice own3; subst hnv) | (go_at_call 105; refine (cl _ ?_).mono ?_; (exact HG1.out); rintro e w3 ⟨v3, rfl, own3', b3'⟩; obtain ⟨aN, cN, hnv⟩ := own_slice own3'; subst hnv; have own3 := own_lower own3' (show w.drew.heap.size ≤ _ from by simp); have b3 := HB3.out _ b3'; have hq3 := (b3'.block w.heap.size (by simp)).trans hq1) | (refine step_append_own rfl (.tmp 8) (.tmp 9) 26 rfl w.drew.heap.size 9 i0 (.string ByteArray.empty) 1 16 Tryz.underlying26 hi hz0 hz1 hz2 rfl (by decide) (.slice aN LL.length cN) LL.length (scells LL) rfl (own3.alloc _) _ 1 1 [.string countsB] rfl rfl (pieces.cell_one _ _ _) (one_str countsB) (by unfold maxLen; omega) (by omega) (by have := b3.size; simp at this ⊢; omega) ?_; intro v4 w4 own4 g4 _; have b4 : Below w.drew.heap.size w.drew w4 := (push_str (c := countsB) own3 b3 b3.size own4 g4).2) | (refine step_append_own rfl (.tmp 8) (.tmp 9) 26 rfl w.drew.heap.size 9 i0 (.string ByteArray.empty) 1 16 Tryz.underlying26 hi hz0 hz1 hz2 rfl (by decide) (.slice aN LL.length cN) LL.length (scells LL) rfl own3 ⟨w.heap.size, 0, none⟩ 1 1 [.string countsB] rfl rfl (fun j u hu => by have hj0 : j = 0 := (by have := (List.getElem?_eq_some_iff.1 hu).1; simp at this; exact this); subst hj0; simp at hu; subst hu; exact st_cell hq3 0) (one_str countsB) (by unfold maxLen; omega) (by omega) b3.size ?_; intro v4 w4 own4 g4 _; have b4 : Below w.drew.heap.size w.drew w4 := b3.grown g4 b3.size (fun k hk => (own3.lt k hk).1)) | (go_at_call 70; refine (crm _ _ ?_ ?_ ?_).mono ?_; (exact HDd.out.below b4); (exact HFA.out.2.below b4); (rw [← HLS.out, List.length_append]; exact own_lower own4 (Nat.zero_le _)); rintro e w5 ⟨u5, S1, rfl, h5, d5, k5⟩))
  all_goals
    have K5 : Kept Bo w w5 := (Kept.drew w).trans ((Kept.ofBelow b4).trans k5)
    have J5 := HJ.out.kept K5
    have G5 := HG.out.kept K5
    obtain ⟨cs, sum, wr, hf, r0, r1, r2, r3, r10, r11⟩ := J5.ex
    have hpz : planHB.size = 5 := rfl
    have HK5 : Hid (FK Bo j w w5) := FK.ofKept K5
    have hfa5 : FailIs aF w5 := HFA.out.1.kept K5
    have HR : Hid (cs[0]? = some (.pointer (some ⟨p, 0, none⟩)) ∧ cs[1]? = some (.int .i64 (K : Int)) ∧ cs[2]? = some (.int .i64 (M : Int)) ∧ cs[3]? = some (.int .i64 (Bn : Int)) ∧ cs[10]? = some (.string text) ∧ cs[11]? = some (.string run)) := ⟨r0, r1, r2, r3, r10, r11⟩
    rcases h5 with ⟨rfl, hl5, hw5⟩ | ⟨hv, hc5⟩
    · have cps := planSave_m (Allow K M Bn text run rs) j 4 cs _ p planB planHB sum wr _ _ S1 (N + 55) a bb text w5 hf G5 hj d5 hl5 (by omega) hfa5 (.inl ⟨rfl, rfl⟩) r10 (by omega) (by decide) plan_draft
      have HW5 : Hid (Went RB PB draftB S S1) := hw5
      clear J5 G5 hf r0 r1 r2 r3 r10 r11 own4 g4 own3 d5 b3 b4 k5 crm cl AJ hc0 hc1 hq1 hl5 hw5 hfa5 K5
      go_wp2_with fail
      refine cps.mono ?_
      rintro e w6 (⟨S2, s', r', rfl, h6, d6, v6, k6⟩ | ⟨v, S2, rfl, hv, d6, c6, k6⟩)
      · have HE : Hid (JobAt Bo w6 j p K M Bn text run ∧ Disk Bo w6 p S2 ∧ (Live (Allow K M Bn text run rs) draftB S2 (N + 64) ∧ Went RB PB draftB S S2 ∧ S2.look planB = some (wholeF (planHB.data.toList ++ text.data.toList)) ∧ S2.safe = S2.now ∧ S2.steps = []) ∧ FK Bo j w w6) := by
          refine ⟨⟨_, s', r', h6, ?_, ?_, ?_, ?_, ?_, ?_⟩, d6, ⟨v6.live, HW5.out.trans (v6.went RB PB rfl), v6.look, v6.safe, v6.steps⟩, HK5.out.trans k6⟩
          · rw [fset_ne _ _ _ _ _ _ (by omega)]; exact HR.out.1
          · rw [fset_ne _ _ _ _ _ _ (by omega)]; exact HR.out.2.1
          · rw [fset_ne _ _ _ _ _ _ (by omega)]; exact HR.out.2.2.1
          · rw [fset_ne _ _ _ _ _ _ (by omega)]; exact HR.out.2.2.2.1
          · rw [fset_ne _ _ _ _ _ _ (by omega)]; exact HR.out.2.2.2.2.1
          · rw [fset_ne _ _ _ _ _ _ (by omega)]; exact HR.out.2.2.2.2.2
        clear h6 d6 v6 k6 cps
        go_wp2
        go_ret
        exact .inl ⟨S2, rfl, HE.out.1, HE.out.2.1, HE.out.2.2.1, HE.out.2.2.2⟩
      · obtain ⟨eb, s, ax, hve, hvb2⟩ := hv
        subst hve
        have HE : Hid (w6.heap[eb]? = some (.cells #[.int .i64 8, .string s, .iface 296 (.pointer (some ax.1))] 118 (0, 0)) ∧ Disk Bo w6 p S2 ∧ Cutt (Allow K M Bn text run rs) RB PB draftB S S2 (N + 64) ∧ FK Bo j w w6) := ⟨hvb2, d6, (c6 RB PB rfl).after HW5.out, HK5.out.trans k6⟩
        clear hvb2 d6 c6 k6 cps
        go_wp2
        go_ret
        exact .inr ⟨_, S2, rfl, ⟨eb, s, ax, rfl, HE.out.1⟩, HE.out.2.1, HE.out.2.2.1, HE.out.2.2.2⟩
    · obtain ⟨eb, s, ax, hve, hvb2⟩ := hv
      subst hve
      have HE : Hid (w5.heap[eb]? = some (.cells #[.int .i64 8, .string s, .iface 296 (.pointer (some ax.1))] 118 (0, 0)) ∧ Disk Bo w5 p S1 ∧ Cutt (Allow K M Bn text run rs) RB PB draftB S S1 (N + 55)) := ⟨hvb2, d5, hc5⟩
      clear J5 G5 hf r0 r1 r2 r3 r10 r11 own4 g4 own3 d5 b3 b4 k5 crm cl AJ hc0 hc1 hq1 hc5 hvb2 hfa5 K5
      go_wp2
      go_ret
      exact .inr ⟨_, S1, rfl, ⟨eb, s, ax, rfl, HE.out.1⟩, HE.out.2.1, HE.out.2.2.more (fun _ h => h) (fun _ h => h) (by omega), HK5.out⟩

set_option maxHeartbeats 2000000 in
set_option maxRecDepth 100000 in
theorem begin_none_m {aF : Addr} {Bo : Nat} (j p K M Bn : Nat) (text run : ByteArray) (rs : List (List UInt8)) (S : DS) (N : Nat) (a bb : Addr) (w : World) (hJ : JobAt Bo w j p K M Bn text run) (hg : Gs w a bb) (hD : Disk Bo w p S) (hL : Live (Allow K M Bn text run rs) draftB S N) (hF : S.dead = false) (hN : N ≤ 8600) (hfa : FailIs aF w) (hl1 : S.look planB = none) (hl2 : S.look countsB = none) (ht : text.size ≤ 50000) (hj : 27 ≤ j) :
    Calls Tryz.prog 61 #[.pointer (some ⟨j, 0, none⟩)] w fun e w' => (∃ S2, e = .returned .nilIface ∧ JobAt Bo w' j p K M Bn text run ∧ Disk Bo w' p S2 ∧ (Live (Allow K M Bn text run rs) draftB S2 (N + 64) ∧ Went RB PB draftB S S2 ∧ S2.look planB = some (wholeF (planHB.data.toList ++ text.data.toList)) ∧ S2.safe = S2.now ∧ S2.steps = []) ∧ FK Bo j w w') ∨ (∃ v S2, e = .returned v ∧ DiskErr aF w' v ∧ Disk Bo w' p S2 ∧ Cutt (Allow K M Bn text run rs) RB PB draftB S S2 (N + 64) ∧ FK Bo j w w') := by
  have c1 := isBegun_none_l j p K M Bn text run S N a bb w hJ hg hD hL.ok hF (by omega) hl1 hl2
  have c3 : ∀ W, Below w.heap.size w W → _ := fun W hW => beginAnew_m (aF := aF) j p K M Bn text run rs S N a bb W (hJ.below hW) (hg.below hW) (hD.below hW) hL hN (hfa.below hW) ht hj
  have HG : Hid (Gs w a bb) := hg
  clear hJ hg hD hL hF hfa hl1 hl2
  go_enter Tryz.func61, Tryz.ntmps61
  go_wp2_with fail
  refine c1.mono ?_
  rintro e w1 ⟨x, v, rfl, hG1, b1⟩
  have ci := isGone_gone a bb v w1 (HG.out.below b1) hG1
  clear hG1
  go_wp2_with fail
  refine ci.mono ?_
  rintro e w2 ⟨rfl, hw2⟩
  have hw2' := hw2.symm
  subst hw2'
  go_wp2_with fail
  refine (c3 _ b1).mono ?_
  rintro e w3 (⟨S2, rfl, hJ3, d3, v3, k3⟩ | ⟨v3, S2, rfl, hv, d3, c3', k3⟩)
  · have HH : Hid (JobAt Bo w3 j p K M Bn text run ∧ Disk Bo w3 p S2 ∧ (Live (Allow K M Bn text run rs) draftB S2 (N + 64) ∧ Went RB PB draftB S S2 ∧ S2.look planB = some (wholeF (planHB.data.toList ++ text.data.toList)) ∧ S2.safe = S2.now ∧ S2.steps = []) ∧ FK Bo j w w3) := ⟨hJ3, d3, v3, (FK.ofKept (.ofBelow b1)).trans k3⟩
    clear hJ3 d3 v3 k3
    go_wp2
    go_ret
    exact .inl ⟨S2, rfl, HH.out.1, HH.out.2.1, HH.out.2.2.1, HH.out.2.2.2⟩
  · obtain ⟨eb, s, ax, hve, hvb2⟩ := hv
    subst hve
    have HE : Hid (w3.heap[eb]? = some (.cells #[.int .i64 8, .string s, .iface 296 (.pointer (some ax.1))] 118 (0, 0)) ∧ Disk Bo w3 p S2 ∧ Cutt (Allow K M Bn text run rs) RB PB draftB S S2 (N + 64) ∧ FK Bo j w w3) := ⟨hvb2, d3, c3', (FK.ofKept (.ofBelow b1)).trans k3⟩
    clear hvb2 d3 c3' k3
    go_wp2
    go_ret
    exact .inr ⟨_, S2, rfl, ⟨eb, s, ax, rfl, HE.out.1⟩, HE.out.2.1, HE.out.2.2.1, HE.out.2.2.2⟩
end Go.Proofs.YtbjgpfhbdmcbbaaGreatDoor.jobs

/-
  CONTRACTS of package quern: Run where another run is begun, whole; Reset of a disk in order.
-/
namespace Go.Proofs.YtbjgpfhbdmcbbaaGreatDoor.jobs
open Go.RowKit dnamath dna diskm disk keep hex pieces files parse words kinds
set_option linter.unusedVariables false

theorem NumErr.below {w w' : World} {n : Int} {v : Value} (h : NumErr w n v) (hb : Below w.heap.size w w') : NumErr w' n v := by
  obtain ⟨eb, s, a, h1, h2⟩ := h
  exact ⟨eb, s, a, h1, (hb.block _ (lt_of_block h2)).trans h2⟩

end Go.Proofs.YtbjgpfhbdmcbbaaGreatDoor.jobs

/-
  CONTRACTS of package quern: find.
-/
namespace Go.Proofs.YtbjgpfhbdmcbbaaGreatDoor.base
open Go.RowKit dnamath dna diskm disk keep hex pieces files parse words kinds jobs
set_option linter.unusedVariables false

def cmpI (a b : List UInt8) : Int := if a < b then -1 else if b < a then 1 else 0

set_option maxHeartbeats 1000000 in
set_option maxRecDepth 100000 in
theorem isNaN_any (a : ByteArray) (w : World) : Calls Tryz.prog 112 #[.string a] w fun e w' => e = .returned (.bool false) ∧ w' = w := by
  have hne : (a.toList != a.toList) = false := by simp
  go_enter Tryz.func112, Tryz.ntmps112
  go_wp2
  go_ret
  exact ⟨by simp, rfl⟩

set_option maxHeartbeats 1000000 in
set_option maxRecDepth 100000 in
theorem Compare_any (a b : ByteArray) (w : World) : Calls Tryz.prog 66 #[.string a, .string b] w fun e w' => e = .returned (.int .i64 (cmpI a.data.toList b.data.toList)) ∧ w' = w := by
  by_cases h1 : a.data.toList < b.data.toList
  · have hv : cmpI a.data.toList b.data.toList = -1 := by unfold cmpI; rw [if_pos h1]
    have hb : Op.bytesLess a.toList b.toList = true := (strLt_iff a b).2 (by rw [Lib.toList_data, Lib.toList_data]; exact h1)
    rw [hv]
    clear hv h1
    go_enter Tryz.func66, Tryz.ntmps66
    go_wp2_with (go_at_call 112; go_must (refine (isNaN_any _ _).mono ?_; rintro e w' ⟨rfl, hw'⟩; have hw2 := hw'.symm; subst hw2))
    go_ret
    exact ⟨rfl, rfl⟩
  · have hb : Op.bytesLess a.toList b.toList = false := (strLt_not a b).2 (by rw [Lib.toList_data, Lib.toList_data]; exact h1)
    by_cases h2 : b.data.toList < a.data.toList
    · have hv : cmpI a.data.toList b.data.toList = 1 := by unfold cmpI; rw [if_neg h1, if_pos h2]
      have hb2 : (a.toList == b.toList) = false := by rw [beq_eq_false_iff_ne, Lib.toList_data, Lib.toList_data]; intro e; rw [e] at h2; exact List.lt_irrefl _ h2
      rw [hv]
      clear hv h1 h2
      go_enter Tryz.func66, Tryz.ntmps66
      go_wp2_with (go_at_call 112; go_must (refine (isNaN_any _ _).mono ?_; rintro e w' ⟨rfl, hw'⟩; have hw2 := hw'.symm; subst hw2))
      go_ret
      exact ⟨rfl, rfl⟩
    · have hv : cmpI a.data.toList b.data.toList = 0 := by unfold cmpI; rw [if_neg h1, if_neg h2]
      have hb2 : (a.toList == b.toList) = true := by rw [beq_iff_eq, Lib.toList_data, Lib.toList_data]; exact List.le_antisymm (List.not_lt.1 h2) (List.not_lt.1 h1)
      rw [hv]
      clear hv h1 h2
      go_enter Tryz.func66, Tryz.ntmps66
      go_wp2_with (go_at_call 112; go_must (refine (isNaN_any _ _).mono ?_; rintro e w' ⟨rfl, hw'⟩; have hw2 := hw'.symm; subst hw2))
      go_ret
      exact ⟨rfl, rfl⟩

set_option maxHeartbeats 1000000 in
set_option maxRecDepth 100000 in
theorem less_any (x t : ByteArray) (n : Int) (w : World) : Calls Tryz.prog 65 #[.agg #[.string x, .int .i64 n], .string t] w fun e w' => e = .returned (.int .i64 (cmpI x.data.toList t.data.toList)) ∧ Below w.heap.size w w' := by
  obtain ⟨r, hr⟩ : ∃ r, r = cmpI x.data.toList t.data.toList := ⟨_, rfl⟩
  have cc := fun W => Compare_any x t W
  simp only [← hr] at cc ⊢
  clear hr
  go_enter Tryz.func65, Tryz.ntmps65
  go_wp2_with (go_at_call 66; go_must (refine (cc _).mono ?_; rintro e w' ⟨rfl, hw'⟩; have hw2 := hw'.symm; subst hw2))
  go_ret
  exact ⟨rfl, (Below.refl _ w).alloc (Nat.le_refl _) _⟩

/-- where a text stands among entries -/
structure FoundAt (es : List Ent) (t : List UInt8) (i : Nat) (f : Bool) : Prop where
  le : i ≤ es.length
  less : ∀ (k : Nat) (x : Ent), k < i → es[k]? = some x → x.1.data.toList < t
  more : ∀ (k : Nat) (x : Ent), i ≤ k → es[k]? = some x → ¬ x.1.data.toList < t
  yes : f = true → ∃ n : Nat, es[i]? = some (⟨t.toArray⟩, n)
  no : f = false → ∀ (k : Nat) (x : Ent), es[k]? = some x → x.1.data.toList ≠ t

theorem sorted_get {es : List Ent} (hs : ((es.map cv).map Prod.fst).Pairwise (· < ·)) {a b : Nat} {x y : Ent} (hab : a < b) (hx : es[a]? = some x) (hy : es[b]? = some y) : x.1.data.toList < y.1.data.toList := by
  have hb := (List.getElem?_eq_some_iff.1 hy).1
  have h1 : ((es.map cv).map Prod.fst)[a]? = some x.1.data.toList := by simp [hx, cv]
  have h2 : ((es.map cv).map Prod.fst)[b]? = some y.1.data.toList := by simp [hy, cv]
  obtain ⟨l1, e1⟩ := List.getElem?_eq_some_iff.1 h1
  obtain ⟨l2, e2⟩ := List.getElem?_eq_some_iff.1 h2
  have := List.pairwise_iff_getElem.1 hs a b l1 l2 hab
  rw [e1, e2] at this
  exact this
theorem cmp_neg (a b : List UInt8) : cmpI a b < 0 ↔ a < b := by
  unfold cmpI
  by_cases h : a < b
  · rw [if_pos h]; exact ⟨fun _ => h, fun _ => by decide⟩
  · rw [if_neg h]
    refine ⟨fun h2 => ?_, fun h2 => absurd h2 h⟩
    split at h2 <;> omega
theorem cmp_zero (a b : List UInt8) : cmpI a b = 0 ↔ a = b := by
  unfold cmpI
  by_cases h : a < b
  · rw [if_pos h]
    exact ⟨fun h2 => by omega, fun h2 => by subst h2; exact absurd h (List.lt_irrefl _)⟩
  · rw [if_neg h]
    by_cases h2 : b < a
    · rw [if_pos h2]
      exact ⟨fun h3 => by omega, fun h3 => by subst h3; exact absurd h2 (List.lt_irrefl _)⟩
    · rw [if_neg h2]
      exact ⟨fun _ => List.le_antisymm (List.not_lt.1 h2) (List.not_lt.1 h), fun _ => rfl⟩

set_option maxHeartbeats 4000000 in
set_option maxRecDepth 100000 in
theorem search_any (ev : Value) (es : List Ent) (t : ByteArray) (base : Nat) (w : World) (hr : w.ownsRow base 43 2 ev es.length (ecells es)) (hs : ((es.map cv).map Prod.fst).Pairwise (· < ·)) (hl : es.length ≤ 100000) :
    Calls Tryz.prog 64 #[ev, .string t, .func (.func 65) #[] #[]] w fun e w' => ∃ i f, e = .returned (.tuple #[.int .i64 ((i : Nat) : Int), .bool f]) ∧ FoundAt es t.data.toList i f ∧ Below w.heap.size w w' := by
  obtain ⟨aE, cE, hev⟩ := own_slice hr
  subst hev
  have HS : Hid (((es.map cv).map Prod.fst).Pairwise (· < ·)) := hs
  have HR : Hid (w.ownsRow base 43 2 (.slice aE es.length cE) es.length (ecells es)) := hr
  clear hs hr
  go_enter Tryz.func64, Tryz.ntmps64
  go_wp2
  go_loopw [9, 10] (fun i j wr => ∃ (lo hi : Nat), i = .int .i64 (lo : Int) ∧ j = .int .i64 (hi : Int) ∧ lo ≤ hi ∧ hi ≤ es.length ∧ Hid ((∀ (k : Nat) (x : Ent), k < lo → es[k]? = some x → x.1.data.toList < t.data.toList) ∧ (∀ (k : Nat) (x : Ent), hi ≤ k → es[k]? = some x → ¬ x.1.data.toList < t.data.toList)) ∧ Hid (Below w.heap.size w wr)) (fun i j _ => (intOf j).toNat - (intOf i).toNat)
  case atStart => exact ⟨0, es.length, rfl, rfl, Nat.zero_le _, Nat.le_refl _, ⟨(fun k x h => by omega), (fun k x h hx => by have := (List.getElem?_eq_some_iff.1 hx).1; omega)⟩, Below.refl _ _⟩
  case round =>
    obtain ⟨lo, hi, rfl, rfl, hlh, hhl, hI, hB⟩ := hrel
    rename World => wr
    by_cases hlt : lo < hi
    · obtain ⟨x, hx⟩ : ∃ x, es[(lo + hi) / 2]? = some x := ⟨_, List.getElem?_eq_getElem (by omega)⟩
      rcases HR.out.2 with ⟨_, e0⟩ | ⟨g, cap, cur, e1, _, hg, _⟩
      · omega
      cases e1
      have hgl := lt_of_block hg
      have c0 : wr.cell? ⟨g, (lo + hi) / 2 * 2, none⟩ = some (.string x.1) := by
        rw [hB.out.cell (p := ⟨g, (lo + hi) / 2 * 2, none⟩) hgl, HR.out.cellAt (g := g) _ (by omega)]; exact ecells_at0 _ _ _ hx
      have c1 : wr.cell? ⟨g, (lo + hi) / 2 * 2 + 1, none⟩ = some (.int .i64 (x.2 : Int)) := by
        rw [hB.out.cell (p := ⟨g, (lo + hi) / 2 * 2 + 1, none⟩) hgl, HR.out.cellAt (g := g) _ (by omega)]; exact ecells_at1 _ _ _ hx
      have cl := less_any x.1 t (x.2 : Int) wr
      obtain ⟨r, hr⟩ : ∃ r, r = cmpI x.1.data.toList t.data.toList := ⟨_, rfl⟩
      rw [← hr] at cl
      by_cases hneg : r < 0
      · have HI : Hid ((∀ (k : Nat) (y : Ent), k < (lo + hi) / 2 + 1 → es[k]? = some y → y.1.data.toList < t.data.toList) ∧ (∀ (k : Nat) (y : Ent), hi ≤ k → es[k]? = some y → ¬ y.1.data.toList < t.data.toList)) := by
          refine ⟨fun k y hk hy => ?_, hI.out.2⟩
          rw [hr, cmp_neg] at hneg
          rcases Nat.lt_or_ge k ((lo + hi) / 2) with h | h
          · exact List.lt_trans (sorted_get HS.out h hy hx) hneg
          · have : k = (lo + hi) / 2 := by omega
            subst this
            rw [hx] at hy; cases hy; exact hneg
        have hd : decide (r < 0) = true := by simpa using hneg
        clear hr hx hI hg hgl
        go_wp2_with (go_at_call 65; go_must (refine cl.mono ?_; rintro e w2 ⟨rfl, b2⟩))
        have HB2 : Hid (Below w.heap.size w w2) := hB.out.trans (b2.mono hB.out.size)
        go_roundw
        case rel => exact ⟨(lo + hi) / 2 + 1, hi, by rw [show ((lo : Int) + (hi : Int)) / 2 + 1 = (((lo + hi) / 2 + 1 : Nat) : Int) by omega], rfl, by omega, hhl, HI, HB2⟩
        case measure => simp [intOf]; omega
      · have HI : Hid ((∀ (k : Nat) (y : Ent), k < lo → es[k]? = some y → y.1.data.toList < t.data.toList) ∧ (∀ (k : Nat) (y : Ent), (lo + hi) / 2 ≤ k → es[k]? = some y → ¬ y.1.data.toList < t.data.toList)) := by
          refine ⟨hI.out.1, fun k y hk hy hc => ?_⟩
          rw [hr, cmp_neg] at hneg
          rcases Nat.lt_or_ge ((lo + hi) / 2) k with h | h
          · exact hneg (List.lt_trans (sorted_get HS.out h hx hy) hc)
          · have : k = (lo + hi) / 2 := by omega
            subst this
            rw [hx] at hy; cases hy; exact hneg hc
        have hd : decide (r < 0) = false := by simpa using hneg
        clear hr hx hI hg hgl
        go_wp2_with (go_at_call 65; go_must (refine cl.mono ?_; rintro e w2 ⟨rfl, b2⟩))
        have HB2 : Hid (Below w.heap.size w w2) := hB.out.trans (b2.mono hB.out.size)
        go_roundw
        case rel => exact ⟨lo, (lo + hi) / 2, rfl, by rw [show ((lo : Int) + (hi : Int)) / 2 = (((lo + hi) / 2 : Nat) : Int) by omega], by omega, by omega, HI, HB2⟩
        case measure => simp [intOf]; omega
    · have hle : lo = hi := by omega
      subst hle
      by_cases hend : lo < es.length
      · obtain ⟨x, hx⟩ : ∃ x, es[lo]? = some x := ⟨_, List.getElem?_eq_getElem hend⟩
        rcases HR.out.2 with ⟨_, e0⟩ | ⟨g, cap, cur, e1, _, hg, _⟩
        · omega
        cases e1
        have hgl := lt_of_block hg
        have c0 : wr.cell? ⟨g, lo * 2, none⟩ = some (.string x.1) := by
          rw [hB.out.cell (p := ⟨g, lo * 2, none⟩) hgl, HR.out.cellAt (g := g) _ (by omega)]; exact ecells_at0 _ _ _ hx
        have c1 : wr.cell? ⟨g, lo * 2 + 1, none⟩ = some (.int .i64 (x.2 : Int)) := by
          rw [hB.out.cell (p := ⟨g, lo * 2 + 1, none⟩) hgl, HR.out.cellAt (g := g) _ (by omega)]; exact ecells_at1 _ _ _ hx
        have cl := less_any x.1 t (x.2 : Int) wr
        obtain ⟨r, hr⟩ : ∃ r, r = cmpI x.1.data.toList t.data.toList := ⟨_, rfl⟩
        rw [← hr] at cl
        have HFD : Hid (FoundAt es t.data.toList lo (decide (r = 0))) := by
          refine ⟨by omega, hI.out.1, hI.out.2, fun h => ?_, fun h k y hy e => ?_⟩
          · have h0 : r = 0 := by simpa using h
            rw [hr, cmp_zero] at h0
            refine ⟨x.2, ?_⟩
            rw [hx]
            have : x.1 = ⟨t.data.toList.toArray⟩ := kinds.bytes_eq (by rw [h0])
            rw [← this]
          · have h0 : ¬ r = 0 := by simpa using h
            rw [hr, cmp_zero] at h0
            have hkl : ¬ k < lo := fun hc => by
              have := hI.out.1 k y hc hy
              rw [e] at this; exact List.lt_irrefl _ this
            rcases Nat.lt_or_ge lo k with h1 | h1
            · have := sorted_get HS.out h1 hx hy
              rw [e] at this
              exact hI.out.2 lo x (Nat.le_refl _) hx this
            · have : k = lo := by omega
              subst this
              rw [hx] at hy; cases hy; exact h0 e
        clear hr hx hI hg hgl
        go_wp2_with (go_at_call 65; go_must (refine cl.mono ?_; rintro e w2 ⟨rfl, b2⟩))
        go_ret2
        refine ⟨lo, decide (r = 0), ?_, HFD.out, hB.out.trans (b2.mono hB.out.size)⟩
        simp
        by_cases h0 : r = 0 <;> simp [h0]
      · have hle2 : lo = es.length := by omega
        have HFD : Hid (FoundAt es t.data.toList lo false) := by
          refine ⟨by omega, hI.out.1, hI.out.2, (fun h => by cases h), fun _ k y hy e => ?_⟩
          have hk := (List.getElem?_eq_some_iff.1 hy).1
          have := hI.out.1 k y (by omega) hy
          rw [e] at this
          exact List.lt_irrefl _ this
        clear hI hle2
        go_wp2
        go_ret2
        exact ⟨lo, false, rfl, HFD.out, hB.out⟩

/-- counts that were opened -/
structure BaseAt (w : World) (q K base : Nat) (ev : Value) (es : List Ent) (tot : Nat) : Prop where
  blk : w.heap[q]? = some (.cells #[.int .i64 (K : Int), ev, .int .i64 (tot : Int)] 95 (0, 0))
  row : w.ownsRow base 43 2 ev es.length (ecells es)
  sorted : ((es.map cv).map Prod.fst).Pairwise (· < ·)
  few : es.length ≤ 100000
theorem BaseAt.new {Bo : Nat} {w w' : World} {q K base : Nat} {ev : Value} {es : List Ent} {tot : Nat} (h : BaseAt w q K base ev es tot) (hk : New Bo w w') : BaseAt w' q K base ev es tot := by
  refine ⟨(hk.block q (lt_of_block h.blk) (Nat.ne_of_lt (lt_of_block h.blk)) (fun ⟨cs', fz', e⟩ => by rw [h.blk] at e; cases e) (by
    rintro ⟨cs', T', fz', e, hd⟩
    rw [h.blk] at e
    cases e
    rcases hd with h | h | h | h <;> exact absurd h (by decide))).trans h.blk, hk.own h.row not_ours_e, h.sorted, h.few⟩
theorem BaseAt.below {w w' : World} {q K base : Nat} {ev : Value} {es : List Ent} {tot : Nat} (h : BaseAt w q K base ev es tot) (hk : Below w.heap.size w w') : BaseAt w' q K base ev es tot := h.new ((New.refl (Bo := 0) w).below hk)

set_option maxHeartbeats 1000000 in
set_option maxRecDepth 100000 in
theorem find_any (q K base : Nat) (ev : Value) (es : List Ent) (tot : Nat) (t : ByteArray) (w : World) (hB : BaseAt w q K base ev es tot) :
    Calls Tryz.prog 40 #[.pointer (some ⟨q, 0, none⟩), .string t] w fun e w' => ∃ i f, e = .returned (.tuple #[.int .i64 ((i : Nat) : Int), .bool f]) ∧ FoundAt es t.data.toList i f ∧ Below w.heap.size w w' := by
  have cs := search_any ev es t base w hB.row hB.sorted hB.few
  have c1 : w.cell? ⟨q, 1, none⟩ = some ev := st_cell hB.blk 1
  clear hB
  go_enter Tryz.func40, Tryz.ntmps40
  go_wp2_with (go_at_call 64; go_must (refine cs.mono ?_; rintro e w1 ⟨i, f, rfl, hf, b1⟩))
  go_ret2
  exact ⟨i, f, rfl, hf, b1⟩

set_option maxHeartbeats 1000000 in
set_option maxRecDepth 100000 in
theorem Sums_any (q K base : Nat) (ev : Value) (es : List Ent) (tot : Nat) (w : World) (hB : BaseAt w q K base ev es tot) :
    Calls Tryz.prog 22 #[.pointer (some ⟨q, 0, none⟩)] w fun e w' => e = .returned (.tuple #[.int .i64 (es.length : Int), .int .i64 (tot : Int)]) ∧ Still w w' := by
  obtain ⟨aE, cE, hev⟩ := own_slice hB.row
  subst hev
  have c1 : w.cell? ⟨q, 1, none⟩ = some (.slice aE es.length cE) := st_cell hB.blk 1
  have c2 : w.cell? ⟨q, 2, none⟩ = some (.int .i64 (tot : Int)) := st_cell hB.blk 2
  clear hB
  go_enter Tryz.func22, Tryz.ntmps22
  go_wp2
  go_quiet (fail)
  obtain ⟨W1, hW1⟩ : ∃ W, W = w.drewN nq := ⟨_, rfl⟩
  have S1 : Still w W1 := by rw [hW1]; exact Still.drewN _ _
  rw [← hW1]
  go_wp2
  go_ret2
  exact ⟨rfl, S1⟩
end Go.Proofs.YtbjgpfhbdmcbbaaGreatDoor.base
