import Derived.Test.YtbjgpfhbdmcbbabGreatDoorP36
import Derived.Test.YtbjgpfhbdmcbbabGreatDoorP33

/-
  CONTRACTS of package quern on a disk that may die: begin.
-/
namespace Go.Proofs.YtbjgpfhbdmcbbabGreatDoor.jobs
open Go.RowKit dnamath dna diskm disk keep hex pieces files parse words kinds
set_option linter.unusedVariables false

/-- names that a new run takes away, and the one it gives -/
def RB (n : List UInt8) : Prop := RL n ∨ n = countsB.toList
def PB (n : List UInt8) : Prop := n = planB.toList
theorem left_RB : ∀ n ∈ leftL 16 ++ [countsB], n = draftB ∨ RB n.toList := by
  intro n hn
  rw [List.mem_append, List.mem_singleton] at hn
  rcases hn with hn | rfl
  · exact (left_RL n hn).imp id .inl
  · exact .inr (.inr rfl)

set_option maxHeartbeats 2000000 in
set_option maxRecDepth 100000 in
theorem isBegun_plan_l {Bo : Nat} (j p K M Bn : Nat) (text run text0 : ByteArray) (S : DS) (N : Nat) (a bb : Addr) (w : World) (hJ : JobAt Bo w j p K M Bn text run) (hg : Gs w a bb) (hD : Disk Bo w p S) (ho : S.Ok N) (hN : N ≤ 1000000) (hF : S.dead = false) (hl : S.look planB = some (wholeF (planHB.data.toList ++ text0.data.toList))) (hE : kinds.Ends text0.data.toList) (hsz : text0.size ≤ 100000) (hj : 27 ≤ j) :
    Calls Tryz.prog 54 #[.pointer (some ⟨j, 0, none⟩)] w fun e w' => e = .returned (.tuple #[.bool (text0.toList == text.toList), .nilIface]) ∧ JobAt Bo w' j p K M Bn text run ∧ WK Bo j w w' := by
  obtain ⟨cs, sum, wr, hf, r0, r1, r2, r3, r10, r11⟩ := hJ.ex
  have cl := Load_whole_l j 4 cs 130 p planB planHB sum wr (.slice none 0 0) [] S N a bb _ text0.data.toList w hf hg hD ho hN hF hl rfl (by obtain ⟨Z0, h0⟩ := hE; exact ⟨planHB.data.toList ++ Z0, by rw [h0, List.append_assoc]⟩) (by rw [List.length_append, len_size, len_size]; have : planHB.size = 5 := rfl; omega) hj
  have HR : Hid (cs[0]? = some (.pointer (some ⟨p, 0, none⟩)) ∧ cs[1]? = some (.int .i64 (K : Int)) ∧ cs[2]? = some (.int .i64 (M : Int)) ∧ cs[3]? = some (.int .i64 (Bn : Int)) ∧ cs[10]? = some (.string text) ∧ cs[11]? = some (.string run)) := ⟨r0, r1, r2, r3, r10, r11⟩
  have HG : Hid (Gs w a bb) := hg
  clear hf r0 r1 r2 r3 r10 r11 hJ hD ho hF hg hl hE hsz
  go_enter Tryz.func54, Tryz.ntmps54
  go_wp2_with fail
  refine cl.mono ?_
  rintro e w1 ⟨B, s', r', rfl, hB, h1, k1⟩
  have hBt : B = text0 := kinds.bytes_eq hB
  subst hBt
  have J1 : JobAt Bo w1 j p K M Bn text run := by
    refine ⟨_, s', r', h1, ?_, ?_, ?_, ?_, ?_, ?_⟩
    · rw [fset_ne _ _ _ _ _ _ (by omega)]; exact HR.out.1
    · rw [fset_ne _ _ _ _ _ _ (by omega)]; exact HR.out.2.1
    · rw [fset_ne _ _ _ _ _ _ (by omega)]; exact HR.out.2.2.1
    · rw [fset_ne _ _ _ _ _ _ (by omega)]; exact HR.out.2.2.2.1
    · rw [fset_ne _ _ _ _ _ _ (by omega)]; exact HR.out.2.2.2.2.1
    · rw [fset_ne _ _ _ _ _ _ (by omega)]; exact HR.out.2.2.2.2.2
  have ci := isGone_nil a bb w1 (k1.gs HG.out hj)
  obtain ⟨_, _, _, _, z10, _⟩ := J1.cells
  have HJ1 : Hid (JobAt Bo w1 j p K M Bn text run ∧ WK Bo j w w1) := ⟨J1, k1⟩
  clear cl hB h1 k1 J1
  go_wp2_with fail
  refine ci.mono ?_
  rintro e w2 ⟨rfl, hw2⟩
  have hw2' := hw2.symm
  subst hw2'
  clear ci hw2
  go_wp2
  go_ret2
  exact ⟨rfl, HJ1.out.1, HJ1.out.2⟩

set_option maxHeartbeats 2000000 in
set_option maxRecDepth 100000 in
theorem begin_same {Bo : Nat} (j p K M Bn : Nat) (text run : ByteArray) (S : DS) (N : Nat) (a bb : Addr) (w : World) (hJ : JobAt Bo w j p K M Bn text run) (hg : Gs w a bb) (hD : Disk Bo w p S) (ho : S.Ok N) (hN : N ≤ 1000000) (hF : S.dead = false) (hl : S.look planB = some (wholeF (planHB.data.toList ++ text.data.toList))) (hE : kinds.Ends text.data.toList) (hsz : text.size ≤ 100000) (hj : 27 ≤ j) :
    Calls Tryz.prog 39 #[.pointer (some ⟨j, 0, none⟩)] w fun e w' => e = .returned .nilIface ∧ JobAt Bo w' j p K M Bn text run ∧ WK Bo j w w' := by
  have c1 := isBegun_plan_l j p K M Bn text run text S N a bb w hJ hg hD ho hN hF hl hE hsz hj
  rw [beq_self_eq_true] at c1
  have HH : Hid (Gs w a bb) := hg
  clear hJ hg hD ho hF hl hE hsz
  go_enter Tryz.func39, Tryz.ntmps39
  go_wp2_with fail
  refine c1.mono ?_
  rintro e w1 ⟨rfl, hJ1, k1⟩
  have ci := isGone_nil a bb w1 (k1.gs HH.out hj)
  have HE : Hid (JobAt Bo w1 j p K M Bn text run ∧ WK Bo j w w1) := ⟨hJ1, k1⟩
  clear c1 hJ1 k1
  go_wp2_with fail
  refine ci.mono ?_
  rintro e w2 ⟨rfl, hw2⟩
  have hw2' := hw2.symm
  subst hw2'
  clear ci hw2
  go_wp2
  go_ret
  exact ⟨rfl, HE.out.1, HE.out.2⟩

set_option maxHeartbeats 2000000 in
set_option maxRecDepth 100000 in
theorem isBegun_none_l {Bo : Nat} (j p K M Bn : Nat) (text run : ByteArray) (S : DS) (N : Nat) (a bb : Addr) (w : World) (hJ : JobAt Bo w j p K M Bn text run) (hg : Gs w a bb) (hD : Disk Bo w p S) (ho : S.Ok N) (hF : S.dead = false) (hN : N ≤ 9000) (hl1 : S.look planB = none) (hl2 : S.look countsB = none) :
    Calls Tryz.prog 54 #[.pointer (some ⟨j, 0, none⟩)] w fun e w' => ∃ x v, e = .returned (.tuple #[.bool x, v]) ∧ Gone w' a v ∧ Below w.heap.size w w' := by
  obtain ⟨cs, sum, wr, hf, r0, r1, r2, r3, r10, r11⟩ := hJ.ex
  have cl := Load_absent_l j 4 p S N planB planHB a bb w hD ho (by omega) hF hg ((st_cell hf.blk _).trans hf.c0) ((st_cell hf.blk _).trans hf.c1) hl1
  have HJ : Hid (JobAt Bo w j p K M Bn text run) := hJ
  have HD : Hid (Disk Bo w p S ∧ (S.Ok N ∧ S.dead = false) ∧ Gs w a bb ∧ S.look countsB = none) := ⟨hD, ⟨ho, hF⟩, hg, hl2⟩
  clear hf r0 r1 r2 r3 r10 r11 hJ hD ho hF hg hl1 hl2
  go_enter Tryz.func54, Tryz.ntmps54
  go_wp2_with fail
  refine cl.mono ?_
  rintro e w1 ⟨v, rfl, hG1, b1⟩
  have HG1 : Hid (Gone w1 a v) := hG1
  have ci := isGone_gone a bb v w1 (HD.out.2.2.1.below b1) hG1
  clear hG1
  go_wp2_with fail
  refine ci.mono ?_
  rintro e w2 ⟨rfl, hw2⟩
  have hw2' := hw2.symm
  subst hw2'
  obtain ⟨z0, _, _, _, _, z11⟩ := (HJ.out.below b1).cells
  have co := openCounts_absent_l p S N a bb w1 (HD.out.1.below b1) HD.out.2.1.1 (by omega) HD.out.2.1.2 (HD.out.2.2.1.below b1) HD.out.2.2.2
  go_upto_region 5 with (go_at_call 41; go_must (refine co.mono ?_; rintro e w3 ⟨v3, rfl, hG3, b3⟩))
  obtain ⟨_, _, _, _, _, y11⟩ := ((HJ.out.below b1).below b3).cells
  have HG3 : Hid (Gone w3 a v3) := hG3
  clear hG3
  go_wp2
  go_ret2
  exact ⟨_, v3, rfl, HG3.out, b1.trans (b3.mono b1.size)⟩

set_option maxHeartbeats 4000000 in
set_option maxRecDepth 100000 in
theorem beginAnew_m {aF : Addr} {Bo : Nat} (j p K M Bn : Nat) (text run : ByteArray) (rs : List (List UInt8)) (S : DS) (N : Nat) (a bb : Addr) (w : World) (hJ : JobAt Bo w j p K M Bn text run) (hg : Gs w a bb) (hD : Disk Bo w p S) (hL : Live (Allow K M Bn text run rs) draftB S N) (hN : N ≤ 8600) (hfa : FailIs aF w) (ht : text.size ≤ 50000) (hj : 27 ≤ j) :
    Calls Tryz.prog 56 #[.pointer (some ⟨j, 0, none⟩)] w fun e w' => (∃ S2, e = .returned .nilIface ∧ JobAt Bo w' j p K M Bn text run ∧ Disk Bo w' p S2 ∧ (Live (Allow K M Bn text run rs) draftB S2 (N + 64) ∧ Went RB PB draftB S S2 ∧ S2.look planB = some (wholeF (planHB.data.toList ++ text.data.toList)) ∧ S2.safe = S2.now ∧ S2.steps = []) ∧ FK Bo j w w') ∨ (∃ v S2, e = .returned v ∧ DiskErr aF w' v ∧ Disk Bo w' p S2 ∧ Cutt (Allow K M Bn text run rs) RB PB draftB S S2 (N + 64) ∧ FK Bo j w w') := by
  obtain ⟨i0, hi, hz0, hz1, hz2⟩ := info_parts infoS
  have cl := fun W hW => leftovers_any a bb W hW
  have ec : (⟨#[99, 111, 117, 110, 116, 115]⟩ : ByteArray) = countsB := rfl
  have hll : (leftL 16).length = 17 := leftL_len 16
  obtain ⟨LL, hLL⟩ : ∃ LL, LL = leftL 16 := ⟨_, rfl⟩
  simp only [← hLL] at cl hll ⊢
  have hRB : ∀ n ∈ LL ++ [countsB], n = draftB ∨ RB n.toList := by rw [hLL]; exact left_RB
  have crm : ∀ W v, Disk Bo W p S → FailIs aF W → W.ownsRow 0 9 1 v (LL ++ [countsB]).length (scells (LL ++ [countsB])) → Calls Tryz.prog 45 #[.pointer (some ⟨p, 0, none⟩), v] W fun e w' => ∃ u S1, e = .returned u ∧ ((u = .nilIface ∧ Live (Allow K M Bn text run rs) draftB S1 (N + 55) ∧ Went RB PB draftB S S1) ∨ (DiskErr aF w' u ∧ Cutt (Allow K M Bn text run rs) RB PB draftB S S1 (N + 55))) ∧ Disk Bo w' p S1 ∧ Kept Bo W w' := fun W v hW hfW hr => by
    have h18 : (LL ++ [countsB]).length = 18 := by rw [List.length_append, hll]; rfl
    refine (RemoveAll_w (Allow K M Bn text run rs) RB (fun _ => True) p S N v (LL ++ [countsB]) W hW hL hRB (by rw [h18]; omega) hr hfW (fun _ _ => trivial) (fun _ _ _ _ _ _ _ => trivial)).mono ?_
    rw [h18]
    rintro e w' ⟨⟨rfl, S1, d1, r1, _⟩ | ⟨u, S1, rfl, hu, d1, c1, _⟩, k1⟩
    · exact ⟨_, S1, rfl, .inl ⟨rfl, r1.live, r1.went PB⟩, d1, k1⟩
    · exact ⟨u, S1, rfl, .inr ⟨hu, c1 PB⟩, d1, k1⟩
  have hlm : LL.length ≤ 17 := by omega
  have HJ : Hid (JobAt Bo w j p K M Bn text run) := hJ
  have HG : Hid (Gs w a bb) := hg
  have HD : Hid (Disk Bo w p S) := hD
  have HFA : Hid (FailIs aF w ∧ FailIs aF w.drew) := ⟨hfa, hfa.below ((⟨rfl, rfl, rfl, rfl, Nat.le_add_right _ _⟩ : Still w w.drew).below _)⟩
  have HDd : Hid (Disk Bo w.drew p S) := hD.still (⟨rfl, rfl, rfl, rfl, Nat.le_add_right _ _⟩ : Still w w.drew)
  have hc0 : w.drew.cell? ⟨j, 0, none⟩ = some (.pointer (some ⟨p, 0, none⟩)) := hJ.cells.1
  have AJ : Hid (∀ W, Kept Bo w.drew W → W.cell? ⟨j, 0, none⟩ = some (.pointer (some ⟨p, 0, none⟩))) := fun W hW => ((HJ.out.kept (Kept.drew _)).kept hW).cells.1
  have HLS : Hid (scells LL ++ [.string countsB] = scells (LL ++ [countsB])) := by show _ = _; simp [scells]
  clear hJ hg hD hL hfa hLL hll hRB
  go_enter Tryz.func56, Tryz.ntmps56
  go_upto_region 1 with fail
  have hq1 : (w.alloc (.cells #[.string countsB] 9)).heap[w.heap.size]? = some (.cells #[.string countsB] 9 (0, 0)) := heap_alloc_new _ _
  obtain ⟨w1, hw1⟩ : ∃ w1, w1 = w.alloc (.cells #[.string countsB] 9) := ⟨_, rfl⟩
  have B1 : Below w.heap.size w w1 := by rw [hw1]; exact (Below.refl _ w).alloc (Nat.le_refl _) _
  have HG1 : Hid (Gs (w.alloc (.cells #[.string countsB] 9)).drew a bb) := by show Gs _ _ _; rw [← hw1]; exact (HG.out.below B1).kept (Kept.drew (Bo := 0) _)
  have hc1 : (w.alloc (.cells #[.string countsB] 9)).drew.cell? ⟨j, 0, none⟩ = some (.pointer (some ⟨p, 0, none⟩)) := by rw [← hw1]; exact ((HJ.out.below B1).kept (Kept.drew _)).cells.1
  have HB3 : Hid (∀ w3, Below (w.alloc (.cells #[.string countsB] 9)).drew.heap.size (w.alloc (.cells #[.string countsB] 9)).drew w3 → Below w.drew.heap.size w.drew w3) := fun w3 h => by
    rw [← hw1] at h
    exact ⟨h.os.trans B1.os, h.tape.trans B1.tape, h.output.trans B1.output, Nat.le_trans B1.size h.size, fun k hk => (h.block k (Nat.lt_of_lt_of_le hk B1.size)).trans (B1.block k hk)⟩
  clear hw1
  go_region_held3 (fun w' => w'.cell? ⟨j, 0, none⟩ = some (.pointer (some ⟨p, 0, none⟩))) (first | exact hc0 | exact hc1 | exact AJ.out _ (Kept.ofBelow b3) | exact AJ.out _ (Kept.ofBelow (b3.alloc b3.size _)) | exact AJ.out _ (Kept.ofBelow b4) | exact AJ.out _ ((Kept.ofBelow b4).trans k5)) (first | (go_at_call 61; refine (cl _ ?_).mono ?_; (exact HG.out.kept (Kept.drew (Bo := 0) _)); rintro e w3 ⟨v3, rfl, own3, b3⟩; obtain ⟨aN, cN, hnv⟩ := own_slice own3; subst hnv) | (go_at_call 61; refine (cl _ ?_).mono ?_; (exact HG1.out); rintro e w3 ⟨v3, rfl, own3', b3'⟩; obtain ⟨aN, cN, hnv⟩ := own_slice own3'; subst hnv; have own3 := own_lower own3' (show w.drew.heap.size ≤ _ from by simp); have b3 := HB3.out _ b3'; have hq3 := (b3'.block w.heap.size (by simp)).trans hq1) | (refine step_append_own rfl (.tmp 8) (.tmp 9) 28 rfl w.drew.heap.size 9 i0 (.string ByteArray.empty) 1 16 Tryz.underlying28 hi hz0 hz1 hz2 rfl (by decide) (.slice aN LL.length cN) LL.length (scells LL) rfl (own3.alloc _) _ 1 1 [.string countsB] rfl rfl (pieces.cell_one _ _ _) (one_str countsB) (by unfold maxLen; omega) (by omega) (by have := b3.size; simp at this ⊢; omega) ?_; intro v4 w4 own4 g4 _; have b4 : Below w.drew.heap.size w.drew w4 := (push_str (c := countsB) own3 b3 b3.size own4 g4).2) | (refine step_append_own rfl (.tmp 8) (.tmp 9) 28 rfl w.drew.heap.size 9 i0 (.string ByteArray.empty) 1 16 Tryz.underlying28 hi hz0 hz1 hz2 rfl (by decide) (.slice aN LL.length cN) LL.length (scells LL) rfl own3 ⟨w.heap.size, 0, none⟩ 1 1 [.string countsB] rfl rfl (fun j u hu => by have hj0 : j = 0 := (by have := (List.getElem?_eq_some_iff.1 hu).1; simp at this; exact this); subst hj0; simp at hu; subst hu; exact st_cell hq3 0) (one_str countsB) (by unfold maxLen; omega) (by omega) b3.size ?_; intro v4 w4 own4 g4 _; have b4 : Below w.drew.heap.size w.drew w4 := b3.grown g4 b3.size (fun k hk => (own3.lt k hk).1)) | (go_at_call 45; refine (crm _ _ ?_ ?_ ?_).mono ?_; (exact HDd.out.below b4); (exact HFA.out.2.below b4); (rw [← HLS.out, List.length_append]; exact own_lower own4 (Nat.zero_le _)); rintro e w5 ⟨u5, S1, rfl, h5, d5, k5⟩))
  all_goals
    have K5 : Kept Bo w w5 := (Kept.drew w).trans ((Kept.ofBelow b4).trans k5)
    have J5 := HJ.out.kept K5
    have G5 := HG.out.kept K5
    obtain ⟨cs, sum, wr, hf, r0, r1, r2, r3, r10, r11⟩ := J5.ex
    have hpz : planHB.size = 5 := rfl
    have HK5 : Hid (FK Bo j w w5) := FK.ofKept K5
    have hfa5 : FailIs aF w5 := HFA.out.1.kept K5
    have HR : Hid (cs[0]? = some (.pointer (some ⟨p, 0, none⟩)) ∧ cs[1]? = some (.int .i64 (K : Int)) ∧ cs[2]? = some (.int .i64 (M : Int)) ∧ cs[3]? = some (.int .i64 (Bn : Int)) ∧ cs[10]? = some (.string text) ∧ cs[11]? = some (.string run)) := ⟨r0, r1, r2, r3, r10, r11⟩
    rcases h5 with ⟨rfl, hl5, hw5⟩ | ⟨hv, hc5⟩
    · have cps := planSave_m (Allow K M Bn text run rs) j 4 cs _ p planB planHB sum wr _ _ S1 (N + 55) a bb text w5 hf G5 hj d5 hl5 (by omega) hfa5 (.inl ⟨rfl, rfl⟩) r10 (by omega) (by decide) plan_draft
      have HW5 : Hid (Went RB PB draftB S S1) := hw5
      clear J5 G5 hf r0 r1 r2 r3 r10 r11 own4 g4 own3 d5 b3 b4 k5 crm cl AJ hc0 hc1 hq1 hl5 hw5 hfa5 K5
      go_wp2_with fail
      refine cps.mono ?_
      rintro e w6 (⟨S2, s', r', rfl, h6, d6, v6, k6⟩ | ⟨v, S2, rfl, hv, d6, c6, k6⟩)
      · have HE : Hid (JobAt Bo w6 j p K M Bn text run ∧ Disk Bo w6 p S2 ∧ (Live (Allow K M Bn text run rs) draftB S2 (N + 64) ∧ Went RB PB draftB S S2 ∧ S2.look planB = some (wholeF (planHB.data.toList ++ text.data.toList)) ∧ S2.safe = S2.now ∧ S2.steps = []) ∧ FK Bo j w w6) := by
          refine ⟨⟨_, s', r', h6, ?_, ?_, ?_, ?_, ?_, ?_⟩, d6, ⟨v6.live, HW5.out.trans (v6.went RB PB rfl), v6.look, v6.safe, v6.steps⟩, HK5.out.trans k6⟩
          · rw [fset_ne _ _ _ _ _ _ (by omega)]; exact HR.out.1
          · rw [fset_ne _ _ _ _ _ _ (by omega)]; exact HR.out.2.1
          · rw [fset_ne _ _ _ _ _ _ (by omega)]; exact HR.out.2.2.1
          · rw [fset_ne _ _ _ _ _ _ (by omega)]; exact HR.out.2.2.2.1
          · rw [fset_ne _ _ _ _ _ _ (by omega)]; exact HR.out.2.2.2.2.1
          · rw [fset_ne _ _ _ _ _ _ (by omega)]; exact HR.out.2.2.2.2.2
        clear h6 d6 v6 k6 cps
        go_wp2
        go_ret
        exact .inl ⟨S2, rfl, HE.out.1, HE.out.2.1, HE.out.2.2.1, HE.out.2.2.2⟩
      · obtain ⟨eb, s, ax, hve, hvb2⟩ := hv
        subst hve
        have HE : Hid (w6.heap[eb]? = some (.cells #[.int .i64 8, .string s, .iface 254 (.pointer (some ax.1))] 89 (0, 0)) ∧ Disk Bo w6 p S2 ∧ Cutt (Allow K M Bn text run rs) RB PB draftB S S2 (N + 64) ∧ FK Bo j w w6) := ⟨hvb2, d6, (c6 RB PB rfl).after HW5.out, HK5.out.trans k6⟩
        clear hvb2 d6 c6 k6 cps
        go_wp2
        go_ret
        exact .inr ⟨_, S2, rfl, ⟨eb, s, ax, rfl, HE.out.1⟩, HE.out.2.1, HE.out.2.2.1, HE.out.2.2.2⟩
    · obtain ⟨eb, s, ax, hve, hvb2⟩ := hv
      subst hve
      have HE : Hid (w5.heap[eb]? = some (.cells #[.int .i64 8, .string s, .iface 254 (.pointer (some ax.1))] 89 (0, 0)) ∧ Disk Bo w5 p S1 ∧ Cutt (Allow K M Bn text run rs) RB PB draftB S S1 (N + 55)) := ⟨hvb2, d5, hc5⟩
      clear J5 G5 hf r0 r1 r2 r3 r10 r11 own4 g4 own3 d5 b3 b4 k5 crm cl AJ hc0 hc1 hq1 hc5 hvb2 hfa5 K5
      go_wp2
      go_ret
      exact .inr ⟨_, S1, rfl, ⟨eb, s, ax, rfl, HE.out.1⟩, HE.out.2.1, HE.out.2.2.more (fun _ h => h) (fun _ h => h) (by omega), HK5.out⟩

set_option maxHeartbeats 2000000 in
set_option maxRecDepth 100000 in
theorem begin_none_m {aF : Addr} {Bo : Nat} (j p K M Bn : Nat) (text run : ByteArray) (rs : List (List UInt8)) (S : DS) (N : Nat) (a bb : Addr) (w : World) (hJ : JobAt Bo w j p K M Bn text run) (hg : Gs w a bb) (hD : Disk Bo w p S) (hL : Live (Allow K M Bn text run rs) draftB S N) (hF : S.dead = false) (hN : N ≤ 8600) (hfa : FailIs aF w) (hl1 : S.look planB = none) (hl2 : S.look countsB = none) (ht : text.size ≤ 50000) (hj : 27 ≤ j) :
    Calls Tryz.prog 39 #[.pointer (some ⟨j, 0, none⟩)] w fun e w' => (∃ S2, e = .returned .nilIface ∧ JobAt Bo w' j p K M Bn text run ∧ Disk Bo w' p S2 ∧ (Live (Allow K M Bn text run rs) draftB S2 (N + 64) ∧ Went RB PB draftB S S2 ∧ S2.look planB = some (wholeF (planHB.data.toList ++ text.data.toList)) ∧ S2.safe = S2.now ∧ S2.steps = []) ∧ FK Bo j w w') ∨ (∃ v S2, e = .returned v ∧ DiskErr aF w' v ∧ Disk Bo w' p S2 ∧ Cutt (Allow K M Bn text run rs) RB PB draftB S S2 (N + 64) ∧ FK Bo j w w') := by
  have c1 := isBegun_none_l j p K M Bn text run S N a bb w hJ hg hD hL.ok hF (by omega) hl1 hl2
  have c3 : ∀ W, Below w.heap.size w W → _ := fun W hW => beginAnew_m (aF := aF) j p K M Bn text run rs S N a bb W (hJ.below hW) (hg.below hW) (hD.below hW) hL hN (hfa.below hW) ht hj
  have HG : Hid (Gs w a bb) := hg
  clear hJ hg hD hL hF hfa hl1 hl2
  go_enter Tryz.func39, Tryz.ntmps39
  go_wp2_with fail
  refine c1.mono ?_
  rintro e w1 ⟨x, v, rfl, hG1, b1⟩
  have ci := isGone_gone a bb v w1 (HG.out.below b1) hG1
  clear hG1
  go_wp2_with fail
  refine ci.mono ?_
  rintro e w2 ⟨rfl, hw2⟩
  have hw2' := hw2.symm
  subst hw2'
  go_wp2_with fail
  refine (c3 _ b1).mono ?_
  rintro e w3 (⟨S2, rfl, hJ3, d3, v3, k3⟩ | ⟨v3, S2, rfl, hv, d3, c3', k3⟩)
  · have HH : Hid (JobAt Bo w3 j p K M Bn text run ∧ Disk Bo w3 p S2 ∧ (Live (Allow K M Bn text run rs) draftB S2 (N + 64) ∧ Went RB PB draftB S S2 ∧ S2.look planB = some (wholeF (planHB.data.toList ++ text.data.toList)) ∧ S2.safe = S2.now ∧ S2.steps = []) ∧ FK Bo j w w3) := ⟨hJ3, d3, v3, (FK.ofKept (.ofBelow b1)).trans k3⟩
    clear hJ3 d3 v3 k3
    go_wp2
    go_ret
    exact .inl ⟨S2, rfl, HH.out.1, HH.out.2.1, HH.out.2.2.1, HH.out.2.2.2⟩
  · obtain ⟨eb, s, ax, hve, hvb2⟩ := hv
    subst hve
    have HE : Hid (w3.heap[eb]? = some (.cells #[.int .i64 8, .string s, .iface 254 (.pointer (some ax.1))] 89 (0, 0)) ∧ Disk Bo w3 p S2 ∧ Cutt (Allow K M Bn text run rs) RB PB draftB S S2 (N + 64) ∧ FK Bo j w w3) := ⟨hvb2, d3, c3', (FK.ofKept (.ofBelow b1)).trans k3⟩
    clear hvb2 d3 c3' k3
    go_wp2
    go_ret
    exact .inr ⟨_, S2, rfl, ⟨eb, s, ax, rfl, HE.out.1⟩, HE.out.2.1, HE.out.2.2.1, HE.out.2.2.2⟩
end Go.Proofs.YtbjgpfhbdmcbbabGreatDoor.jobs

/-
  CONTRACTS of package quern: Run where another run is begun, whole; Reset of a disk in order.
-/
namespace Go.Proofs.YtbjgpfhbdmcbbabGreatDoor.jobs
open Go.RowKit dnamath dna diskm disk keep hex pieces files parse words kinds
set_option linter.unusedVariables false

theorem NumErr.below {w w' : World} {n : Int} {v : Value} (h : NumErr w n v) (hb : Below w.heap.size w w') : NumErr w' n v := by
  obtain ⟨eb, s, a, h1, h2⟩ := h
  exact ⟨eb, s, a, h1, (hb.block _ (lt_of_block h2)).trans h2⟩

set_option maxHeartbeats 4000000 in
set_option maxRecDepth 100000 in
theorem run_other {aF : Addr} {Bo : Nat} (p K M Bn : Nat) (input text0 : ByteArray) (rs : List (List UInt8)) (S : DS) (N : Nat) (a bb aE : Addr) (w : World) (hG : Gl w a bb aE) (hm : Gm aF w) (hD : Disk Bo w p S) (ho : S.Ok N) (hN : N ≤ 1000000) (hFi : S.Fine) (hF : Fit K M Bn input rs) (hl : S.look planB = some (wholeF (planHB.data.toList ++ text0.data.toList))) (hE : kinds.Ends text0.data.toList) (hsz : text0.size ≤ 100000) (hne : text0 ≠ textB K M Bn input) :
    Calls Tryz.prog 25 #[.pointer (some ⟨p, 0, none⟩), .string input, optV K M Bn] w fun e w' => ∃ v, e = .returned v ∧ NumErr w' 4 v ∧ Disk Bo w' p (DS.sure S) ∧ New Bo w w' := by
  have cm := fun W => mayBe_yes K M Bn W hF.k1 hF.k2 hF.odd hF.m1 hF.m2 hF.m3 hF.b1 hF.b2
  have HF : Hid (Fit K M Bn input rs) := hF
  have HH : Hid (Gl w a bb aE ∧ Gm aF w ∧ Disk Bo w p S ∧ S.Ok N ∧ S.Fine) := ⟨hG, hm, hD, ho, hFi⟩
  have HP : Hid (S.look planB = some (wholeF (planHB.data.toList ++ text0.data.toList)) ∧ kinds.Ends text0.data.toList) := ⟨hl, hE⟩
  have hdead : S.dead = false := by unfold DS.dead; rw [hFi.life]; rfl
  have cdd : ∀ W, New Bo w W → Disk Bo W p S → Calls Tryz.prog 37 #[.pointer (some ⟨p, 0, none⟩)] W fun e w' => e = .returned (.bool false) ∧ w' = W := fun W _ hW => by
    obtain ⟨vF, vN, vS, vT, h⟩ := hW
    have := Dead_any p S vF vN vS vT W h
    rw [hdead] at this
    exact this
  have cjo : ∀ W, Gs W a bb → Bo ≤ W.heap.size → _ := fun W hW hBW => jobOf_any (Bo := Bo) p K M Bn input a bb W hBW hW (by have := hF.k2; omega) (by have := hF.m3; omega) (by have := hF.b2; omega) (by have := hF.inp; omega)
  obtain ⟨T, hT⟩ : ∃ T, T = textB K M Bn input := ⟨_, rfl⟩
  obtain ⟨R, hR⟩ : ∃ R, R = runB T := ⟨_, rfl⟩
  simp only [← hT, ← hR] at cjo hne ⊢
  have HNE : Hid (text0 ≠ T) := hne
  clear hT hR hG hm hD ho hFi hF hl hE hdead hne
  go_enter Tryz.func25, Tryz.ntmps25
  go_wp2_with fail
  obtain ⟨W1, hW1⟩ : ∃ W1, W1 = w.alloc (.cells #[.int .i64 (K : Int), .int .i64 (M : Int), .int .i64 (Bn : Int)] 25) := ⟨_, rfl⟩
  have hq1 : W1.heap[w.heap.size]? = some (.cells #[.int .i64 (K : Int), .int .i64 (M : Int), .int .i64 (Bn : Int)] 25 (0, 0)) := by rw [hW1]; exact heap_alloc_new _ _
  have B1 : Below w.heap.size w W1 := by rw [hW1]; exact (Below.refl _ w).alloc (Nat.le_refl _) _
  rw [← hW1]
  clear hW1
  refine (cm _).mono ?_
  rintro e w2 ⟨rfl, b2⟩
  have cpa := Parse_any input aE rs w2 HF.out.inp ((HH.out.1.below B1).below b2).ends HF.out.form
  go_wp2_with fail
  refine cpa.mono ?_
  rintro e w3 ⟨v, ps, rfl, own3, hd3, b3⟩
  obtain ⟨aP, cP, hvp⟩ := own_slice own3
  subst hvp
  have B3 : Below W1.heap.size W1 w3 := b2.trans (b3.mono b2.size)
  have BW3 : Below w.heap.size w w3 := B1.trans (B3.mono B1.size)
  have N3 : New Bo w w3 := (New.refl w).below BW3
  have hq3 := (B3.block _ (lt_of_block hq1)).trans hq1
  have x0 : w3.cell? ⟨w.heap.size, 0, none⟩ = some (.int .i64 (K : Int)) := st_cell hq3 0
  have x1 : w3.cell? ⟨w.heap.size, 1, none⟩ = some (.int .i64 (M : Int)) := st_cell hq3 1
  have x2 : w3.cell? ⟨w.heap.size, 2, none⟩ = some (.int .i64 (Bn : Int)) := st_cell hq3 2
  have G3 := HH.out.1.new N3
  have D3 := HH.out.2.2.1.below BW3
  have cd3 := cdd w3 N3 D3
  have cj3 := cjo w3 G3.gs D3.low
  have H3 : Hid (New Bo w w3 ∧ Gl w3 a bb aE ∧ Gm aF w3 ∧ Disk Bo w3 p S) := ⟨N3, G3, HH.out.2.1.new N3, D3⟩
  clear cpa own3 hd3 b3 B3 BW3 N3 hq3 hq1 G3 D3 cdd cjo cm b2 B1
  go_wp2_with fail
  refine cd3.mono ?_
  rintro e w4 ⟨rfl, hw4⟩
  have hw4' := hw4.symm
  subst hw4'
  go_wp2_with fail
  refine cj3.mono ?_
  rintro e w5 ⟨j, rfl, hJ5, hj5, b5⟩
  have N5 : New Bo w3 w5 := (New.refl _).below b5
  have cbe := begin_other j p K M Bn T R text0 S N a bb w5 hJ5 (H3.out.2.1.gs.below b5) (H3.out.2.2.1.below b5) (H3.out.2.2.2.below b5) HH.out.2.2.2.1 hN HH.out.2.2.2.2 HP.out.1 HP.out.2 hsz (Nat.le_trans H3.out.2.1.many hj5) HNE.out
  have H5 : Hid (New Bo w3 w5 ∧ w3.heap.size ≤ j) := ⟨N5, hj5⟩
  clear hJ5 hj5 b5 N5 cj3 cd3 x0 x1 x2
  go_wp2_with fail
  refine cbe.mono ?_
  rintro e w6 ⟨v, rfl, hv, d6, k6⟩
  obtain ⟨eb, s, aO, hve, hvb⟩ := hv
  subst hve
  have HE : Hid (w6.heap[eb]? = some (.cells #[.int .i64 4, .string s, .iface 254 (.pointer (some aO))] 89 (0, 0)) ∧ Disk Bo w6 p (DS.sure S) ∧ New Bo w w6) := by
    have N6 : New Bo w3 w6 := H5.out.1.fk k6 H5.out.2
    exact ⟨hvb, d6, H3.out.1.fk (q := w3.heap.size) N6 H3.out.1.size⟩
  clear cbe hvb d6 k6
  go_wp2
  go_ret
  exact ⟨_, rfl, ⟨eb, s, aO, rfl, HE.out.1⟩, HE.out.2.1, HE.out.2.2⟩

set_option maxHeartbeats 1000000 in
set_option maxRecDepth 100000 in
theorem Run_other {aF : Addr} {Bo : Nat} (p K M Bn : Nat) (input text0 : ByteArray) (rs : List (List UInt8)) (S : DS) (N : Nat) (a bb aE : Addr) (w : World) (hG : Gl w a bb aE) (hm : Gm aF w) (hD : Disk Bo w p S) (ho : S.Ok N) (hN : N ≤ 1000000) (hFi : S.Fine) (hF : Fit K M Bn input rs) (hl : S.look planB = some (wholeF (planHB.data.toList ++ text0.data.toList))) (hE : kinds.Ends text0.data.toList) (hsz : text0.size ≤ 100000) (hne : text0 ≠ textB K M Bn input) :
    Calls Tryz.prog 11 #[.pointer (some ⟨p, 0, none⟩), .string input, optV K M Bn] w fun e w' => e = .returned (.int .i64 4) ∧ Disk Bo w' p (DS.sure S) ∧ New Bo w w' := by
  have cr : ∀ W, Below w.heap.size w W → _ := fun W hW => run_other p K M Bn input text0 rs S N a bb aE W (hG.below hW) (hm.below hW) (hD.below hW) ho hN hFi hF hl hE hsz hne
  have B1 : Below w.heap.size w (w.alloc (.cells #[.int .i64 (K : Int), .int .i64 (M : Int), .int .i64 (Bn : Int)] 25)) := (Below.refl _ w).alloc (Nat.le_refl _) _
  have c1 := cr _ B1
  have HB : Hid (Below w.heap.size w (w.alloc (.cells #[.int .i64 (K : Int), .int .i64 (M : Int), .int .i64 (Bn : Int)] 25))) := B1
  have HM : Hid (Gm aF w) := hm
  clear cr hG hm hD ho hFi hF hl hE hne B1
  go_enter Tryz.func11, Tryz.ntmps11
  go_wp2_with fail
  refine c1.mono ?_
  rintro e w2 ⟨v, rfl, hv, d2, n2⟩
  obtain ⟨eb, s, aO, hve, hvb⟩ := hv
  subst hve
  have n02 : New Bo w w2 := ((New.refl w).below HB.out).fk n2 HB.out.size
  have cn := Number_any eb 4 w2 (HM.out.new n02).type.cell (st_cell hvb 0)
  have HE : Hid (Disk Bo w2 p (DS.sure S) ∧ New Bo w w2) := ⟨d2, n02⟩
  clear d2 n2 c1 hvb n02
  go_wp2_with fail
  refine cn.mono ?_
  rintro e w3 ⟨rfl, b3⟩
  have HE3 : Hid (Disk Bo w3 p (DS.sure S) ∧ New Bo w w3) := ⟨HE.out.1.below b3, HE.out.2.below b3⟩
  clear cn b3
  go_wp2
  go_ret
  exact ⟨rfl, HE3.out.1, HE3.out.2⟩

end Go.Proofs.YtbjgpfhbdmcbbabGreatDoor.jobs
