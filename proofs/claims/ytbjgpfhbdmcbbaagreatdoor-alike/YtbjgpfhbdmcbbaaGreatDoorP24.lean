import Derived.Test.YtbjgpfhbdmcbbaaGreatDoorP23

/-
  CONTRACTS of package quern: jobOf, leftovers, isBegun and begin on a disk that tells of no run.
-/
namespace Go.Proofs.YtbjgpfhbdmcbbaaGreatDoor.jobs
open Go.RowKit Go.Proofs.YtbjgpfhbdmcbbaaGreatDoor.dnamath Go.Proofs.YtbjgpfhbdmcbbaaGreatDoor.dna Go.Proofs.YtbjgpfhbdmcbbaaGreatDoor.diskm Go.Proofs.YtbjgpfhbdmcbbaaGreatDoor.disk Go.Proofs.YtbjgpfhbdmcbbaaGreatDoor.keep Go.Proofs.YtbjgpfhbdmcbbaaGreatDoor.hex Go.Proofs.YtbjgpfhbdmcbbaaGreatDoor.pieces Go.Proofs.YtbjgpfhbdmcbbaaGreatDoor.files Go.Proofs.YtbjgpfhbdmcbbaaGreatDoor.parse Go.Proofs.YtbjgpfhbdmcbbaaGreatDoor.words Go.Proofs.YtbjgpfhbdmcbbaaGreatDoor.kinds
set_option linter.unusedVariables false

abbrev jobC (p K M Bn : Nat) (text run : ByteArray) : Array Value := #[.pointer (some ⟨p, 0, none⟩), .int .i64 (K : Int), .int .i64 (M : Int), .int .i64 (Bn : Int), .pointer (some ⟨p, 0, none⟩), .string planB, .string planHB, .int .u64 0, .int .i64 0, .slice none 0 0, .string text, .string run]
theorem jobC_at {Bo : Nat} (w : World) (p K M Bn : Nat) (text run : ByteArray) (hB : Bo ≤ w.heap.size) : JobAt Bo (w.alloc (.cells (jobC p K M Bn text run) 176)) w.heap.size p K M Bn text run :=
  ⟨_, 0, 0, ⟨heap_alloc_new _ _, by decide, rfl, rfl, rfl, rfl, rfl, rfl, World.ownsRow_nil _ _ _ _, Nat.le_trans hB (by simp)⟩, rfl, rfl, rfl, rfl, rfl, rfl⟩

set_option maxHeartbeats 4000000 in
set_option maxRecDepth 100000 in
theorem jobOf_any {Bo : Nat} (p K M Bn : Nat) (input : ByteArray) (a bb : Addr) (w : World) (hB : Bo ≤ w.heap.size) (hg : Gs w a bb) (hK : K ≤ 1000) (hM : M ≤ 1000) (hBn : Bn ≤ 1000) (hin : input.size ≤ 1000000) :
    Calls Tryz.prog 60 #[.pointer (some ⟨p, 0, none⟩), .string input, optV K M Bn] w fun e w' => ∃ j, e = .returned (.pointer (some ⟨j, 0, none⟩)) ∧ JobAt Bo w' j p K M Bn (textB K M Bn input) (runB (textB K M Bn input)) ∧ w.heap.size ≤ j ∧ Below w.heap.size w w' := by
  have cp := fun W hW => planOf_any p K M Bn input a bb W hW hK hM hBn hin
  obtain ⟨T, hT⟩ : ∃ T, T = textB K M Bn input := ⟨_, rfl⟩
  obtain ⟨R, hR⟩ : ∃ R, R = runB T := ⟨_, rfl⟩
  simp only [← hT, ← hR] at cp ⊢
  clear hT hR
  have HG : Hid (Gs w a bb) := hg
  have HBB : Hid (Bo ≤ w.heap.size) := hB
  clear hg hB
  go_enter Tryz.func60, Tryz.ntmps60
  go_upto_region 1 with fail
  obtain ⟨W1, hW1⟩ : ∃ W1, W1 = w.alloc (.cells #[.int .i64 (K : Int), .int .i64 (M : Int), .int .i64 (Bn : Int)] 29) := ⟨_, rfl⟩
  have hq0 : W1.heap[w.heap.size]? = some (.cells #[.int .i64 (K : Int), .int .i64 (M : Int), .int .i64 (Bn : Int)] 29 (0, 0)) := by rw [hW1]; exact heap_alloc_new _ _
  have B1 : Below w.heap.size w W1 := by rw [hW1]; exact (Below.refl _ w).alloc (Nat.le_refl _) _
  have cp1 := cp W1.drew ((HG.out.below B1).kept (Kept.drew (Bo := 0) _))
  have x0 : W1.cell? ⟨w.heap.size, 0, none⟩ = some (.int .i64 (K : Int)) := st_cell hq0 0
  have x1 : W1.cell? ⟨w.heap.size, 1, none⟩ = some (.int .i64 (M : Int)) := st_cell hq0 1
  have x2 : W1.cell? ⟨w.heap.size, 2, none⟩ = some (.int .i64 (Bn : Int)) := st_cell hq0 2
  rw [← hW1]
  clear hW1 cp
  go_region_with (go_at_call 97; go_must (refine cp1.mono ?_; rintro e w3 ⟨rfl, b3⟩; have hq3 := (b3.block w.heap.size (lt_of_block hq0)).trans hq0; have y0 : w3.cell? ⟨w.heap.size, 0, none⟩ = some (.int .i64 (K : Int)) := st_cell hq3 0; have y1 : w3.cell? ⟨w.heap.size, 1, none⟩ = some (.int .i64 (M : Int)) := st_cell hq3 1; have y2 : w3.cell? ⟨w.heap.size, 2, none⟩ = some (.int .i64 (Bn : Int)) := st_cell hq3 2; clear hq3))
  all_goals
    have B3 : Below w.heap.size w w3 := B1.trans ((((⟨rfl, rfl, rfl, rfl, Nat.le_add_right _ _⟩ : Still W1 W1.drew).below _).trans b3).mono B1.size)
    go_wp2
    go_ret
    exact ⟨_, rfl, jobC_at w3 p K M Bn T R (Nat.le_trans HBB.out B3.size), B3.size, B3.alloc B3.size _⟩

/-- the names that a run needs only on its way: the draft and the first k bins -/
def leftL (k : Nat) : List ByteArray := draftB :: (List.range k).map nameB
theorem leftL_succ (k : Nat) : leftL (k + 1) = leftL k ++ [nameB k] := by simp [leftL, List.range_succ]
theorem leftL_len (k : Nat) : (leftL k).length = k + 1 := by simp [leftL]

set_option maxHeartbeats 4000000 in
set_option maxRecDepth 100000 in
theorem leftovers_any (a bb : Addr) (w : World) (hg : Gs w a bb) :
    Calls Tryz.prog 105 #[] w fun e w' => ∃ v, e = .returned v ∧ w'.ownsRow w.heap.size 9 1 v (leftL 16).length (scells (leftL 16)) ∧ Below w.heap.size w w' := by
  obtain ⟨i0, hi, hz0, hz1, hz2⟩ := info_parts infoS
  have HG : Hid (Gs w a bb) := hg
  have ed : (⟨#[100, 114, 97, 102, 116]⟩ : ByteArray) = draftB := rfl
  clear hg
  go_enter Tryz.func105, Tryz.ntmps105
  go_wp2_with fail
  have own0 : (w.alloc (.cells #[.string draftB] 9)).ownsRow w.heap.size 9 1 (.slice (some ⟨w.heap.size, 0, none⟩) 1 1) (leftL 0).length (scells (leftL 0)) := World.ownsRow_lit w #[.string draftB] 1 (Nat.le_refl _) (by unfold maxLen; omega) (by simp)
  have B0 : Below w.heap.size w (w.alloc (.cells #[.string draftB] 9)) := (Below.refl _ w).alloc (Nat.le_refl _) _
  go_loopw [1, 4] (fun nv i wr => ∃ (k : Nat), i = .int .i64 (k : Int) ∧ k ≤ 16 ∧ Hid (wr.ownsRow w.heap.size 9 1 nv (leftL k).length (scells (leftL k))) ∧ Hid (Below w.heap.size w wr)) (fun _ i _ => 16 - (intOf i).toNat)
  case atStart => exact ⟨0, rfl, Nat.zero_le _, own0, B0⟩
  case round =>
    obtain ⟨k, rfl, hk, hown, hbl⟩ := hrel
    clear own0 B0
    rename World => wr
    by_cases hlt : k < 16
    · have hi8 := itoa_size k (by omega)
      have cn := nameOf_any k a bb wr (HG.out.below hbl.out) (by omega) (by omega)
      have HLS : Hid (leftL (k + 1) = leftL k ++ [nameB k]) := leftL_succ k
      have hll : (leftL k).length ≤ 17 := by rw [leftL_len]; omega
      obtain ⟨nm, hnm⟩ : ∃ nm, nm = nameB k := ⟨_, rfl⟩
      rw [← hnm] at cn HLS
      obtain ⟨LL, hLL⟩ : ∃ LL, LL = leftL k := ⟨_, rfl⟩
      rw [← hLL] at hll hown HLS
      obtain ⟨aN, cN, hnv⟩ := own_slice hown.out
      subst hnv
      clear hnm hLL hi8
      go_wp2_with (first | (go_at_call 145; go_must (refine cn.mono ?_; rintro e w3 ⟨rfl, b3⟩; have own3 := own_later hown.out b3)) | (at_builtin; go_must (refine wpList_append_own _ rfl (.tmp 7) (.tmp 10) 26 rfl w.heap.size 9 i0 (.string ByteArray.empty) 1 16 Tryz.underlying26 hi hz0 hz1 hz2 rfl (by decide) (.slice aN LL.length cN) LL.length (scells LL) rfl (own3.alloc _) _ 1 1 [.string nm] rfl rfl (pieces.cell_one _ _ _) (one_str nm) (by unfold maxLen; omega) (by omega) (by have := hbl.out.size; have := b3.size; simp; omega) ?_; intro v4 w4 own4 g4 _)))
      obtain ⟨R1, R2⟩ := push_str (c := nm) own3 (hbl.out.trans (b3.mono hbl.out.size)) (Nat.le_trans hbl.out.size b3.size) own4 g4
      have H1 : Hid (w4.ownsRow w.heap.size 9 1 v4 (leftL (k + 1)).length (scells (leftL (k + 1)))) := by show World.ownsRow _ _ _ _ _ _ _; rw [HLS.out]; exact R1
      have H2 : Hid (Below w.heap.size w w4) := R2
      clear R1 R2 own4 g4 own3 b3 cn hll
      go_roundw
      case rel => exact ⟨k + 1, by go_num, by omega, H1, H2⟩
      case measure => simp [intOf]; omega
    · have hke : k = 16 := by omega
      subst hke
      go_wp2
      go_ret
      exact ⟨_, rfl, hown.out, hbl.out⟩
end Go.Proofs.YtbjgpfhbdmcbbaaGreatDoor.jobs

/-
  CONTRACTS of package quern: begin on a disk that tells of no run.
-/
namespace Go.Proofs.YtbjgpfhbdmcbbaaGreatDoor.jobs
open Go.RowKit Go.Proofs.YtbjgpfhbdmcbbaaGreatDoor.dnamath Go.Proofs.YtbjgpfhbdmcbbaaGreatDoor.dna Go.Proofs.YtbjgpfhbdmcbbaaGreatDoor.diskm Go.Proofs.YtbjgpfhbdmcbbaaGreatDoor.disk Go.Proofs.YtbjgpfhbdmcbbaaGreatDoor.keep Go.Proofs.YtbjgpfhbdmcbbaaGreatDoor.hex Go.Proofs.YtbjgpfhbdmcbbaaGreatDoor.pieces Go.Proofs.YtbjgpfhbdmcbbaaGreatDoor.files Go.Proofs.YtbjgpfhbdmcbbaaGreatDoor.parse Go.Proofs.YtbjgpfhbdmcbbaaGreatDoor.words Go.Proofs.YtbjgpfhbdmcbbaaGreatDoor.kinds
set_option linter.unusedVariables false

/-- a disk with room, in order; its bytes are few -/
structure RoomB (S : DS) (N : Nat) : Prop where
  good : files.Good S N
  cap : S.cap = 1152921504606846976
  bytes : S.bytes ≤ 100000 * N
  draft : findIs draftB S.now = false
theorem RoomB.roomy {S : DS} {N : Nat} (h : RoomB S N) (hN : N ≤ 5000) : kinds.Roomy S N := ⟨h.good, h.cap, by have := h.bytes; omega, h.draft⟩
theorem RoomB.saved {S S' : DS} {N : Nat} {n X : ByteArray} (hS : RoomB S N) (h : Saved S S' N draftB n X) (hX : X.size ≤ 100000) (hnd : strEq draftB n = false) (hN : N ≤ 5000) : RoomB S' (N + 2) := by
  have hb := hS.bytes
  have h1 := saved_roomy h (hS.roomy hN) hX hnd (by omega)
  exact ⟨h1.good, h1.cap, by have := h.bytes_le hS.good.ok; omega, h1.draft⟩
theorem RoomB.less {S T : DS} {N : Nat} {ns : List ByteArray} (hS : RoomB S N) {N' : Nat} (h : Less S T N' ns) (hN : N ≤ N') : RoomB T N' := by
  refine ⟨h.good, by rw [h.cap]; exact hS.cap, ?_, ?_⟩
  · have h1 : T.bytes ≤ S.bytes := by
      rw [diskm.bytes_eq, diskm.bytes_eq, h.files]
      exact sum_sub (g := fsize S.files) _ _ (sorted_nodup h.good.sorted) (fun x hx => ((h.mem x).1 hx).1)
    have := hS.bytes
    have : 100000 * N ≤ 100000 * N' := Nat.mul_le_mul_left _ hN
    omega
  · cases hf : findIs draftB T.now with
    | false => rfl
    | true =>
      obtain ⟨x, hx, e⟩ := (find_iff h.good.sorted).1 hf
      have := (find_iff (n := draftB) hS.good.sorted).2 ⟨x, ((h.mem x).1 hx).1, e⟩
      rw [hS.draft] at this; cases this
theorem Less.look {S T : DS} {N N' : Nat} {ns : List ByteArray} (h : Less S T N' ns) (hs : files.Good S N) (m : ByteArray) (hm : ∀ n ∈ ns, m.toList ≠ n.toList) : T.look m = S.look m := by
  have key : ∀ f, T.look m = some f ↔ S.look m = some f := fun f => by
    rw [look_iff h.good.sorted, look_iff hs.sorted]
    constructor
    · rintro ⟨x, hx, e, hf⟩
      exact ⟨x, ((h.mem x).1 hx).1, e, by rw [h.files] at hf; exact hf⟩
    · rintro ⟨x, hx, e, hf⟩
      exact ⟨x, (h.mem x).2 ⟨hx, fun n hn => by rw [e]; exact hm n hn⟩, e, by rw [h.files]; exact hf⟩
  cases h1 : T.look m with
  | some f => exact ((key f).1 h1).symm
  | none =>
    cases h2 : S.look m with
    | none => rfl
    | some f => rw [(key f).2 h2] at h1; cases h1
theorem Less.gone {S T : DS} {N' : Nat} {ns : List ByteArray} (h : Less S T N' ns) {m : ByteArray} (hm : m ∈ ns) : T.look m = none := by
  cases h1 : T.look m with
  | none => rfl
  | some f =>
    obtain ⟨x, hx, e, _⟩ := (look_iff h.good.sorted).1 h1
    exact absurd e (((h.mem x).1 hx).2 m hm)

theorem nameB_list (n : Nat) : (nameB n).toList = 98 :: 105 :: 110 :: Lib.itoa (n : Int) := by
  rw [Lib.toList_data]
  unfold nameB binB itoaB
  simp [ByteArray.data_append]
theorem nameB_inj {i j : Nat} (h : (nameB i).toList = (nameB j).toList) : i = j := by
  rw [nameB_list, nameB_list] at h
  simp only [List.cons.injEq, true_and] at h
  have := congrArg Lib.atoi h
  rw [atoi_itoa, atoi_itoa] at this
  exact Int.ofNat_inj.1 (Option.some.inj this)
theorem nameB_draft (n : Nat) : strEq draftB (nameB n) = false := by
  rw [strEq_not, nameB_list, Lib.toList_data]
  intro h
  simp at h
theorem nameB_counts (n : Nat) : countsB.toList ≠ (nameB n).toList := by
  rw [nameB_list, Lib.toList_data]
  intro h
  simp [countsB] at h
theorem nameB_plan (n : Nat) : planB.toList ≠ (nameB n).toList := by
  rw [nameB_list, Lib.toList_data]
  intro h
  simp [planB] at h
theorem nameB_ne (n : Nat) : (nameB n).size ≠ 0 := by
  intro h
  rw [Lib.size_eq, ← Lib.toList_data, nameB_list] at h
  simp at h
theorem plan_draft : strEq draftB planB = false := by rw [strEq_not, Lib.toList_data, Lib.toList_data]; decide
theorem counts_draft : strEq draftB countsB = false := by rw [strEq_not, Lib.toList_data, Lib.toList_data]; decide

set_option maxHeartbeats 4000000 in
set_option maxRecDepth 100000 in
theorem beginAnew_any {Bo : Nat} (j p K M Bn : Nat) (text run : ByteArray) (S : DS) (N : Nat) (a bb : Addr) (w : World) (hJ : JobAt Bo w j p K M Bn text run) (hg : Gs w a bb) (hD : Disk Bo w p S) (hS : RoomB S N) (hN : N ≤ 1000) (ht : text.size ≤ 50000) (hj : 27 ≤ j) :
    Calls Tryz.prog 100 #[.pointer (some ⟨j, 0, none⟩)] w fun e w' => ∃ S1 S2, e = .returned .nilIface ∧ JobAt Bo w' j p K M Bn text run ∧ Disk Bo w' p S2 ∧ Less S S1 (N + 18) (leftL 16 ++ [countsB]) ∧ Saved S1 S2 (N + 18) draftB planB (whole (planHB.data.toList ++ text.data.toList)) ∧ FK Bo j w w' := by
  obtain ⟨i0, hi, hz0, hz1, hz2⟩ := info_parts infoS
  have cl := fun W hW => leftovers_any a bb W hW
  have ec : (⟨#[99, 111, 117, 110, 116, 115]⟩ : ByteArray) = countsB := rfl
  have hll : (leftL 16).length = 17 := leftL_len 16
  obtain ⟨LL, hLL⟩ : ∃ LL, LL = leftL 16 := ⟨_, rfl⟩
  simp only [← hLL] at cl hll ⊢
  have crm : ∀ W v, Disk Bo W p S → W.ownsRow 0 9 1 v (LL ++ [countsB]).length (scells (LL ++ [countsB])) → Calls Tryz.prog 70 #[.pointer (some ⟨p, 0, none⟩), v] W fun e w' => ∃ S1, e = .returned .nilIface ∧ Disk Bo w' p S1 ∧ Less S S1 (N + 18) (LL ++ [countsB]) ∧ Kept Bo W w' := fun W v hW hr => by
    have := RemoveAll_any p S N v (LL ++ [countsB]) W hW hS.good (by rw [List.length_append, hll]; simp; omega) hr
    rw [show (LL ++ [countsB]).length = 18 by rw [List.length_append, hll]; rfl] at this
    exact this
  have hlm : LL.length ≤ 17 := by omega
  have HJ : Hid (JobAt Bo w j p K M Bn text run) := hJ
  have HG : Hid (Gs w a bb) := hg
  have HD : Hid (Disk Bo w p S) := hD
  have HS : Hid (RoomB S N) := hS
  have HDd : Hid (Disk Bo w.drew p S) := hD.still (⟨rfl, rfl, rfl, rfl, Nat.le_add_right _ _⟩ : Still w w.drew)
  have hc0 : w.drew.cell? ⟨j, 0, none⟩ = some (.pointer (some ⟨p, 0, none⟩)) := hJ.cells.1
  have AJ : Hid (∀ W, Kept Bo w.drew W → W.cell? ⟨j, 0, none⟩ = some (.pointer (some ⟨p, 0, none⟩))) := fun W hW => ((HJ.out.kept (Kept.drew _)).kept hW).cells.1
  have HLS : Hid (scells LL ++ [.string countsB] = scells (LL ++ [countsB])) := by show _ = _; simp [scells]
  clear hJ hg hD hS hLL hll
  go_enter Tryz.func100, Tryz.ntmps100
  go_upto_region 1 with fail
  have hq1 : (w.alloc (.cells #[.string countsB] 9)).heap[w.heap.size]? = some (.cells #[.string countsB] 9 (0, 0)) := heap_alloc_new _ _
  obtain ⟨w1, hw1⟩ : ∃ w1, w1 = w.alloc (.cells #[.string countsB] 9) := ⟨_, rfl⟩
  have B1 : Below w.heap.size w w1 := by rw [hw1]; exact (Below.refl _ w).alloc (Nat.le_refl _) _
  have HG1 : Hid (Gs (w.alloc (.cells #[.string countsB] 9)).drew a bb) := by show Gs _ _ _; rw [← hw1]; exact (HG.out.below B1).kept (Kept.drew (Bo := 0) _)
  have hc1 : (w.alloc (.cells #[.string countsB] 9)).drew.cell? ⟨j, 0, none⟩ = some (.pointer (some ⟨p, 0, none⟩)) := by rw [← hw1]; exact ((HJ.out.below B1).kept (Kept.drew _)).cells.1
  have HB3 : Hid (∀ w3, Below (w.alloc (.cells #[.string countsB] 9)).drew.heap.size (w.alloc (.cells #[.string countsB] 9)).drew w3 → Below w.drew.heap.size w.drew w3) := fun w3 h => by
    rw [← hw1] at h
    exact ⟨h.os.trans B1.os, h.tape.trans B1.tape, h.output.trans B1.output, Nat.le_trans B1.size h.size, fun k hk => (h.block k (Nat.lt_of_lt_of_le hk B1.size)).trans (B1.block k hk)⟩
  clear hw1
  go_region_held3 (fun w' => w'.cell? ⟨j, 0, none⟩ = some (.pointer (some ⟨p, 0, none⟩))) (first | exact hc0 | exact hc1 | exact AJ.out _ (Kept.ofBelow b3) | exact AJ.out _ (Kept.ofBelow (b3.alloc b3.size _)) | exact AJ.out _ (Kept.ofBelow b4) | exact AJ.out _ ((Kept.ofBelow b4).trans k5)) (first | (go_at_call 105; refine (cl _ ?_).mono ?_; (exact HG.out.kept (Kept.drew (Bo := 0) _)); rintro e w3 ⟨v3, rfl, own3, b3⟩; obtain ⟨aN, cN, hnv⟩ := own_slice own3; subst hnv) | (go_at_call 105; refine (cl _ ?_).mono ?_; (exact HG1.out); rintro e w3 ⟨v3, rfl, own3', b3'⟩; obtain ⟨aN, cN, hnv⟩ := own_slice own3'; subst hnv; have own3 := own_lower own3' (show w.drew.heap.size ≤ _ from by simp); have b3 := HB3.out _ b3'; have hq3 := (b3'.block w.heap.size (by simp)).trans hq1) | (refine step_append_own rfl (.tmp 8) (.tmp 9) 26 rfl w.drew.heap.size 9 i0 (.string ByteArray.empty) 1 16 Tryz.underlying26 hi hz0 hz1 hz2 rfl (by decide) (.slice aN LL.length cN) LL.length (scells LL) rfl (own3.alloc _) _ 1 1 [.string countsB] rfl rfl (pieces.cell_one _ _ _) (one_str countsB) (by unfold maxLen; omega) (by omega) (by have := b3.size; simp at this ⊢; omega) ?_; intro v4 w4 own4 g4 _; have b4 : Below w.drew.heap.size w.drew w4 := (push_str (c := countsB) own3 b3 b3.size own4 g4).2) | (refine step_append_own rfl (.tmp 8) (.tmp 9) 26 rfl w.drew.heap.size 9 i0 (.string ByteArray.empty) 1 16 Tryz.underlying26 hi hz0 hz1 hz2 rfl (by decide) (.slice aN LL.length cN) LL.length (scells LL) rfl own3 ⟨w.heap.size, 0, none⟩ 1 1 [.string countsB] rfl rfl (fun j u hu => by have hj0 : j = 0 := (by have := (List.getElem?_eq_some_iff.1 hu).1; simp at this; exact this); subst hj0; simp at hu; subst hu; exact st_cell hq3 0) (one_str countsB) (by unfold maxLen; omega) (by omega) b3.size ?_; intro v4 w4 own4 g4 _; have b4 : Below w.drew.heap.size w.drew w4 := b3.grown g4 b3.size (fun k hk => (own3.lt k hk).1)) | (go_at_call 70; refine (crm _ _ ?_ ?_).mono ?_; (exact HDd.out.below b4); (rw [← HLS.out, List.length_append]; exact own_lower own4 (Nat.zero_le _)); rintro e w5 ⟨S1, rfl, d5, l5, k5⟩))
  all_goals
    have K5 : Kept Bo w w5 := (Kept.drew w).trans ((Kept.ofBelow b4).trans k5)
    have J5 := HJ.out.kept K5
    have G5 := HG.out.kept K5
    obtain ⟨cs, sum, wr, hf, r0, r1, r2, r3, r10, r11⟩ := J5.ex
    have R5 := HS.out.less l5 (by omega)
    have hpz : planHB.size = 5 := rfl
    have cps := planSave j 4 cs _ p planB planHB sum wr _ _ S1 (N + 18) a bb text w5 hf G5 hj d5 (R5.roomy (by omega)) (by omega) r10 (by omega) (by decide) plan_draft
    have HR : Hid (cs[0]? = some (.pointer (some ⟨p, 0, none⟩)) ∧ cs[1]? = some (.int .i64 (K : Int)) ∧ cs[2]? = some (.int .i64 (M : Int)) ∧ cs[3]? = some (.int .i64 (Bn : Int)) ∧ cs[10]? = some (.string text) ∧ cs[11]? = some (.string run)) := ⟨r0, r1, r2, r3, r10, r11⟩
    clear J5 G5 hf r0 r1 r2 r3 r10 r11 R5 own4 g4 own3 d5 b3 b4 k5 crm cl AJ hc0 hc1 hq1
    go_wp2_with (go_at_call 138; go_must (refine cps.mono ?_; rintro e w6 ⟨S2, s', r', rfl, h6, d6, v6, k6⟩))
    go_ret
    refine ⟨S1, S2, rfl, ⟨_, s', r', h6, ?_, ?_, ?_, ?_, ?_, ?_⟩, d6, l5, v6, (FK.ofKept K5).trans k6⟩
    · rw [fset_ne _ _ _ _ _ _ (by omega)]; exact HR.out.1
    · rw [fset_ne _ _ _ _ _ _ (by omega)]; exact HR.out.2.1
    · rw [fset_ne _ _ _ _ _ _ (by omega)]; exact HR.out.2.2.1
    · rw [fset_ne _ _ _ _ _ _ (by omega)]; exact HR.out.2.2.2.1
    · rw [fset_ne _ _ _ _ _ _ (by omega)]; exact HR.out.2.2.2.2.1
    · rw [fset_ne _ _ _ _ _ _ (by omega)]; exact HR.out.2.2.2.2.2
end Go.Proofs.YtbjgpfhbdmcbbaaGreatDoor.jobs

/-
  CONTRACTS of package quern: begin on a disk that tells of no run.
-/
namespace Go.Proofs.YtbjgpfhbdmcbbaaGreatDoor.jobs
open Go.RowKit Go.Proofs.YtbjgpfhbdmcbbaaGreatDoor.dnamath Go.Proofs.YtbjgpfhbdmcbbaaGreatDoor.dna Go.Proofs.YtbjgpfhbdmcbbaaGreatDoor.diskm Go.Proofs.YtbjgpfhbdmcbbaaGreatDoor.disk Go.Proofs.YtbjgpfhbdmcbbaaGreatDoor.keep Go.Proofs.YtbjgpfhbdmcbbaaGreatDoor.hex Go.Proofs.YtbjgpfhbdmcbbaaGreatDoor.pieces Go.Proofs.YtbjgpfhbdmcbbaaGreatDoor.files Go.Proofs.YtbjgpfhbdmcbbaaGreatDoor.parse Go.Proofs.YtbjgpfhbdmcbbaaGreatDoor.words Go.Proofs.YtbjgpfhbdmcbbaaGreatDoor.kinds
set_option linter.unusedVariables false

set_option maxHeartbeats 2000000 in
set_option maxRecDepth 100000 in
theorem isBegun_none {Bo : Nat} (j p K M Bn : Nat) (text run : ByteArray) (S : DS) (N : Nat) (a bb : Addr) (w : World) (hJ : JobAt Bo w j p K M Bn text run) (hg : Gs w a bb) (hD : Disk Bo w p S) (hS : RoomB S N) (hN : N ≤ 1000) (hl1 : S.look planB = none) (hl2 : S.look countsB = none) :
    Calls Tryz.prog 98 #[.pointer (some ⟨j, 0, none⟩)] w fun e w' => ∃ x v, e = .returned (.tuple #[.bool x, v]) ∧ Gone w' a v ∧ Below w.heap.size w w' := by
  obtain ⟨cs, sum, wr, hf, r0, r1, r2, r3, r10, r11⟩ := hJ.ex
  have cl := Load_absent j 4 p S N planB planHB a bb w hD hS.good.ok (by omega) hS.good.fine hg ((st_cell hf.blk _).trans hf.c0) ((st_cell hf.blk _).trans hf.c1) hl1
  have HJ : Hid (JobAt Bo w j p K M Bn text run) := hJ
  have HD : Hid (Disk Bo w p S ∧ RoomB S N ∧ Gs w a bb ∧ S.look countsB = none) := ⟨hD, hS, hg, hl2⟩
  clear hf r0 r1 r2 r3 r10 r11 hJ hD hS hg hl1 hl2
  go_enter Tryz.func98, Tryz.ntmps98
  go_wp2_with fail
  refine cl.mono ?_
  rintro e w1 ⟨v, rfl, hG1, b1⟩
  have HG1 : Hid (Gone w1 a v) := hG1
  have ci := isGone_gone a bb v w1 (HD.out.2.2.1.below b1) hG1
  clear hG1
  go_wp2_with fail
  refine ci.mono ?_
  rintro e w2 ⟨rfl, hw2⟩
  have hw2' := hw2.symm
  subst hw2'
  obtain ⟨z0, _, _, _, _, z11⟩ := (HJ.out.below b1).cells
  have co := openCounts_absent p S N a bb w1 (HD.out.1.below b1) HD.out.2.1.good.ok (by omega) HD.out.2.1.good.fine (HD.out.2.2.1.below b1) HD.out.2.2.2
  go_upto_region 5 with (go_at_call 63; go_must (refine co.mono ?_; rintro e w3 ⟨v3, rfl, hG3, b3⟩))
  obtain ⟨_, _, _, _, _, y11⟩ := ((HJ.out.below b1).below b3).cells
  have HG3 : Hid (Gone w3 a v3) := hG3
  clear hG3
  go_wp2
  go_ret2
  exact ⟨_, v3, rfl, HG3.out, b1.trans (b3.mono b1.size)⟩

set_option maxHeartbeats 2000000 in
set_option maxRecDepth 100000 in
theorem begin_none {Bo : Nat} (j p K M Bn : Nat) (text run : ByteArray) (S : DS) (N : Nat) (a bb : Addr) (w : World) (hJ : JobAt Bo w j p K M Bn text run) (hg : Gs w a bb) (hD : Disk Bo w p S) (hS : RoomB S N) (hN : N ≤ 1000) (hl1 : S.look planB = none) (hl2 : S.look countsB = none) (ht : text.size ≤ 50000) (hj : 27 ≤ j) :
    Calls Tryz.prog 61 #[.pointer (some ⟨j, 0, none⟩)] w fun e w' => ∃ S1 S2, e = .returned .nilIface ∧ JobAt Bo w' j p K M Bn text run ∧ Disk Bo w' p S2 ∧ Less S S1 (N + 18) (leftL 16 ++ [countsB]) ∧ Saved S1 S2 (N + 18) draftB planB (whole (planHB.data.toList ++ text.data.toList)) ∧ FK Bo j w w' := by
  have c1 := isBegun_none j p K M Bn text run S N a bb w hJ hg hD hS hN hl1 hl2
  have c3 : ∀ W, Below w.heap.size w W → _ := fun W hW => beginAnew_any j p K M Bn text run S N a bb W (hJ.below hW) (hg.below hW) (hD.below hW) hS hN ht hj
  have HG : Hid (Gs w a bb) := hg
  clear hJ hg hD hS hl1 hl2
  go_enter Tryz.func61, Tryz.ntmps61
  go_wp2_with fail
  refine c1.mono ?_
  rintro e w1 ⟨x, v, rfl, hG1, b1⟩
  have ci := isGone_gone a bb v w1 (HG.out.below b1) hG1
  clear hG1
  go_wp2_with fail
  refine ci.mono ?_
  rintro e w2 ⟨rfl, hw2⟩
  have hw2' := hw2.symm
  subst hw2'
  go_wp2_with fail
  refine (c3 _ b1).mono ?_
  rintro e w3 ⟨S1, S2, rfl, hJ3, d3, l3, v3, k3⟩
  have HH : Hid (JobAt Bo w3 j p K M Bn text run ∧ Disk Bo w3 p S2 ∧ Less S S1 (N + 18) (leftL 16 ++ [countsB]) ∧ Saved S1 S2 (N + 18) draftB planB (whole (planHB.data.toList ++ text.data.toList)) ∧ FK Bo j w w3) := ⟨hJ3, d3, l3, v3, (FK.ofKept (.ofBelow b1)).trans k3⟩
  clear hJ3 d3 l3 v3 k3
  go_wp2
  go_ret
  exact ⟨S1, S2, rfl, HH.out.1, HH.out.2.1, HH.out.2.2.1, HH.out.2.2.2.1, HH.out.2.2.2.2⟩
end Go.Proofs.YtbjgpfhbdmcbbaaGreatDoor.jobs
