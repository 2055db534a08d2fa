import Derived.Test.YtbjgpfhbdmcbbabGreatDoorP20

/-
  CONTRACTS of package quern: the job's struct; planOf, jobOf, tally, part.
-/
namespace Go.Proofs.YtbjgpfhbdmcbbabGreatDoor.jobs
open Go.RowKit dnamath dna diskm disk keep hex pieces files parse words kinds
set_option linter.unusedVariables false

def planB : ByteArray := ⟨#[112, 108, 97, 110]⟩
def planHB : ByteArray := ⟨#[112, 108, 97, 110, 32]⟩
def optB (K M Bn : Nat) : ByteArray := itoaB K ++ spB ++ itoaB M ++ spB ++ itoaB Bn
def textB (K M Bn : Nat) (input : ByteArray) : ByteArray := optB K M Bn ++ nlB ++ input ++ nlB
def runB (text : ByteArray) : ByteArray := ⟨(hexL (sumL 14695981039346656037 text.data.toList)).toArray⟩
abbrev optV (K M Bn : Nat) : Value := .agg #[.int .i64 (K : Int), .int .i64 (M : Int), .int .i64 (Bn : Int)]

/-- a job's struct: its plan's file lies from place 4 on -/
structure JobAt (Bo : Nat) (w : World) (j p K M Bn : Nat) (text run : ByteArray) : Prop where
  ex : ∃ cs sum wr, FileAt Bo w j 4 cs 130 p planB planHB sum wr (.slice none 0 0) [] ∧ cs[0]? = some (.pointer (some ⟨p, 0, none⟩)) ∧ cs[1]? = some (.int .i64 (K : Int)) ∧ cs[2]? = some (.int .i64 (M : Int)) ∧ cs[3]? = some (.int .i64 (Bn : Int)) ∧ cs[10]? = some (.string text) ∧ cs[11]? = some (.string run)

theorem FileAt.fk {Bo : Nat} {w w' : World} {b o q : Nat} {cs : Array Value} {T : TypeId} {p : Nat} {n h : ByteArray} {sum wr : Nat} (H : FileAt Bo w b o cs T p n h sum wr (.slice none 0 0) []) (hk : FK Bo q w w') (hq : b ≠ q) : FileAt Bo w' b o cs T p n h sum wr (.slice none 0 0) [] :=
  ⟨(hk.block b (lt_of_block H.blk) hq (fun ⟨cs', fz', e⟩ => by rw [H.blk] at e; cases e; exact H.ty.2.2.2.2 rfl) (by
      rintro ⟨cs', T', fz', e, hd⟩
      rw [H.blk] at e
      cases e
      rcases hd with h | h | h | h
      · exact H.ty.1 h
      · exact H.ty.2.1 h
      · exact H.ty.2.2.1 h
      · exact H.ty.2.2.2.1 h)).trans H.blk, H.ty, H.c0, H.c1, H.c2, H.c3, H.c4, H.c5, World.ownsRow_nil _ _ _ _, Nat.le_trans H.big hk.size⟩
theorem JobAt.fk {Bo : Nat} {w w' : World} {j p K M Bn q : Nat} {text run : ByteArray} (h : JobAt Bo w j p K M Bn text run) (hk : FK Bo q w w') (hq : j ≠ q) : JobAt Bo w' j p K M Bn text run := by
  obtain ⟨cs, sum, wr, H, r⟩ := h.ex
  exact ⟨cs, sum, wr, FileAt.fk H hk hq, r⟩
theorem JobAt.lt {Bo : Nat} {w : World} {j p K M Bn : Nat} {text run : ByteArray} (h : JobAt Bo w j p K M Bn text run) : j < w.heap.size := by
  obtain ⟨cs, sum, wr, H, r⟩ := h.ex
  exact lt_of_block H.blk
theorem JobAt.kept {Bo : Nat} {w w' : World} {j p K M Bn : Nat} {text run : ByteArray} (h : JobAt Bo w j p K M Bn text run) (hk : Kept Bo w w') : JobAt Bo w' j p K M Bn text run :=
  h.fk (q := w.heap.size) (FK.ofKept hk) (Nat.ne_of_lt h.lt)
theorem JobAt.below {Bo : Nat} {w w' : World} {j p K M Bn : Nat} {text run : ByteArray} (h : JobAt Bo w j p K M Bn text run) (hk : Below w.heap.size w w') : JobAt Bo w' j p K M Bn text run := h.kept (.ofBelow hk)
theorem JobAt.still {Bo : Nat} {w w' : World} {j p K M Bn : Nat} {text run : ByteArray} (h : JobAt Bo w j p K M Bn text run) (hk : Still w w') : JobAt Bo w' j p K M Bn text run := h.kept (.ofStill hk)
theorem JobAt.cells {Bo : Nat} {w : World} {j p K M Bn : Nat} {text run : ByteArray} (h : JobAt Bo w j p K M Bn text run) :
    w.cell? ⟨j, 0, none⟩ = some (.pointer (some ⟨p, 0, none⟩)) ∧ w.cell? ⟨j, 1, none⟩ = some (.int .i64 (K : Int)) ∧ w.cell? ⟨j, 2, none⟩ = some (.int .i64 (M : Int)) ∧ w.cell? ⟨j, 3, none⟩ = some (.int .i64 (Bn : Int)) ∧ w.cell? ⟨j, 10, none⟩ = some (.string text) ∧ w.cell? ⟨j, 11, none⟩ = some (.string run) := by
  obtain ⟨cs, sum, wr, H, h0, h1, h2, h3, h10, h11⟩ := h.ex
  exact ⟨(st_cell H.blk _).trans h0, (st_cell H.blk _).trans h1, (st_cell H.blk _).trans h2, (st_cell H.blk _).trans h3, (st_cell H.blk _).trans h10, (st_cell H.blk _).trans h11⟩

set_option maxHeartbeats 2000000 in
set_option maxRecDepth 100000 in
theorem part_any {Bo : Nat} (j p K M Bn : Nat) (text run : ByteArray) (n : Nat) (a bb : Addr) (w : World) (hJ : JobAt Bo w j p K M Bn text run) (hg : Gs w a bb) (h2 : run.size ≤ 1000) (hn : n ≤ 1000000) :
    Calls Tryz.prog 118 #[.pointer (some ⟨j, 0, none⟩), .int .i64 (n : Int)] w fun e w' => e = .returned (newFile p (nameB n) (headB partB run n)) ∧ Below w.heap.size w w' := by
  have hi := itoa_size n hn
  have cp : ∀ W, Gs W a bb → Calls Tryz.prog 147 #[.pointer (some ⟨p, 0, none⟩), .string run, .int .i64 (n : Int)] W fun e w' => e = .returned (newFile p (nameB n) (headB partB run n)) ∧ Below W.heap.size W w' := fun W hW => partOf_any p run n a bb W hW h2 hn (by omega)
  obtain ⟨nm, hnm⟩ : ∃ nm, nm = nameB n := ⟨_, rfl⟩
  obtain ⟨hd, hhd⟩ : ∃ hd, hd = headB partB run n := ⟨_, rfl⟩
  simp only [← hnm, ← hhd] at cp ⊢
  clear hnm hhd hi
  have HJ : Hid (JobAt Bo w j p K M Bn text run) := hJ
  have HG : Hid (Gs w a bb) := hg
  clear hJ hg
  go_enter Tryz.func118, Tryz.ntmps118
  go_upto_region 1 with fail
  obtain ⟨W1, hW1⟩ : ∃ W1, W1 = w.alloc (.cells #[.pointer none, .string ⟨#[]⟩, .string ⟨#[]⟩, .int .u64 0, .int .i64 0, .slice none 0 0] 214) := ⟨_, rfl⟩
  have hq1 : W1.heap[w.heap.size]? = some (.cells #[.pointer none, .string ⟨#[]⟩, .string ⟨#[]⟩, .int .u64 0, .int .i64 0, .slice none 0 0] 214 (0, 0)) := by rw [hW1]; exact heap_alloc_new _ _
  have B1 : Below w.heap.size w W1 := by rw [hW1]; exact (Below.refl _ w).alloc (Nat.le_refl _) _
  obtain ⟨z0, z1, _, _, _, z11⟩ := (HJ.out.below B1).cells
  have cp1 := cp W1.drew ((HG.out.below B1).kept (Kept.drew (Bo := 0) _))
  rw [← hW1]
  clear hW1 cp
  go_region_with (go_at_call 147; go_must (refine cp1.mono ?_; rintro e w3 ⟨rfl, b3⟩; have hq3 := (b3.block w.heap.size (lt_of_block hq1)).trans hq1; have c0 := st_cell hq3 0; have c1 := st_cell hq3 1; have c2 := st_cell hq3 2; have c3 := st_cell hq3 3; have c4 := st_cell hq3 4; have c5 := st_cell hq3 5; have f0 := st_frozen hq3 0; have f1 := st_frozen hq3 1; have f2 := st_frozen hq3 2; have f3 := st_frozen hq3 3; have f4 := st_frozen hq3 4; have f5 := st_frozen hq3 5; simp at c0 c1 c2 c3 c4 c5; clear hq3))
  all_goals
    have B3 : Below w.heap.size w w3 := B1.trans ((((⟨rfl, rfl, rfl, rfl, Nat.le_add_right _ _⟩ : Still W1 W1.drew).below _).trans b3).mono B1.size)
    go_wp2
    exact bodyPost_ret (v := newFile p nm hd) (by simp [results, Tryz.results118, go_sem, c0, c1, c2, c3, c4, c5]) rfl ⟨rfl, (((((B3.setCell (by exact Nat.le_refl _) _).setCell (by exact Nat.le_refl _) _).setCell (by exact Nat.le_refl _) _).setCell (by exact Nat.le_refl _) _).setCell (by exact Nat.le_refl _) _).setCell (by exact Nat.le_refl _) _⟩

set_option maxHeartbeats 2000000 in
set_option maxRecDepth 100000 in
theorem tally_any {Bo : Nat} (j p K M Bn : Nat) (text run : ByteArray) (n : Nat) (a bb : Addr) (w : World) (hJ : JobAt Bo w j p K M Bn text run) (hg : Gs w a bb) (h2 : run.size ≤ 1000) (hn : n ≤ 1000000) :
    Calls Tryz.prog 117 #[.pointer (some ⟨j, 0, none⟩), .int .i64 (n : Int)] w fun e w' => e = .returned (newList p (nameB n) (headB tallyB run n) K) ∧ Below w.heap.size w w' := by
  have hi := itoa_size n hn
  have cp : ∀ W, Gs W a bb → Calls Tryz.prog 146 #[.pointer (some ⟨p, 0, none⟩), .string run, .int .i64 (n : Int), .int .i64 (K : Int)] W fun e w' => e = .returned (newList p (nameB n) (headB tallyB run n) K) ∧ Below W.heap.size W w' := fun W hW => tallyOf_any p run n K a bb W hW h2 hn (by omega)
  obtain ⟨nm, hnm⟩ : ∃ nm, nm = nameB n := ⟨_, rfl⟩
  obtain ⟨hd, hhd⟩ : ∃ hd, hd = headB tallyB run n := ⟨_, rfl⟩
  simp only [← hnm, ← hhd] at cp ⊢
  clear hnm hhd hi
  have HJ : Hid (JobAt Bo w j p K M Bn text run) := hJ
  have HG : Hid (Gs w a bb) := hg
  clear hJ hg
  go_enter Tryz.func117, Tryz.ntmps117
  go_upto_region 1 with fail
  obtain ⟨W1, hW1⟩ : ∃ W1, W1 = w.alloc (.cells #[.pointer none, .string ⟨#[]⟩, .string ⟨#[]⟩, .int .u64 0, .int .i64 0, .slice none 0 0, .int .i64 0, .slice none 0 0] 105) := ⟨_, rfl⟩
  have hq1 : W1.heap[w.heap.size]? = some (.cells #[.pointer none, .string ⟨#[]⟩, .string ⟨#[]⟩, .int .u64 0, .int .i64 0, .slice none 0 0, .int .i64 0, .slice none 0 0] 105 (0, 0)) := by rw [hW1]; exact heap_alloc_new _ _
  have B1 : Below w.heap.size w W1 := by rw [hW1]; exact (Below.refl _ w).alloc (Nat.le_refl _) _
  obtain ⟨z0, z1, _, _, _, z11⟩ := (HJ.out.below B1).cells
  have cp1 := cp W1.drew ((HG.out.below B1).kept (Kept.drew (Bo := 0) _))
  rw [← hW1]
  clear hW1 cp
  go_region_with (go_at_call 146; go_must (refine cp1.mono ?_; rintro e w3 ⟨rfl, b3⟩; have hq3 := (b3.block w.heap.size (lt_of_block hq1)).trans hq1; have c0 := st_cell hq3 0; have c1 := st_cell hq3 1; have c2 := st_cell hq3 2; have c3 := st_cell hq3 3; have c4 := st_cell hq3 4; have c5 := st_cell hq3 5; have c6 := st_cell hq3 6; have c7 := st_cell hq3 7; have f0 := st_frozen hq3 0; have f1 := st_frozen hq3 1; have f2 := st_frozen hq3 2; have f3 := st_frozen hq3 3; have f4 := st_frozen hq3 4; have f5 := st_frozen hq3 5; have f6 := st_frozen hq3 6; have f7 := st_frozen hq3 7; simp at c0 c1 c2 c3 c4 c5 c6 c7; clear hq3))
  all_goals
    have B3 : Below w.heap.size w w3 := B1.trans ((((⟨rfl, rfl, rfl, rfl, Nat.le_add_right _ _⟩ : Still W1 W1.drew).below _).trans b3).mono B1.size)
    go_wp2
    exact bodyPost_ret (v := newList p nm hd K) (by simp [results, Tryz.results117, go_sem, c0, c1, c2, c3, c4, c5, c6, c7]) rfl ⟨rfl, (((((((B3.setCell (by exact Nat.le_refl _) _).setCell (by exact Nat.le_refl _) _).setCell (by exact Nat.le_refl _) _).setCell (by exact Nat.le_refl _) _).setCell (by exact Nat.le_refl _) _).setCell (by exact Nat.le_refl _) _).setCell (by exact Nat.le_refl _) _).setCell (by exact Nat.le_refl _) _⟩
end Go.Proofs.YtbjgpfhbdmcbbabGreatDoor.jobs

/-
  CONTRACTS of package quern: planOf, jobOf.
-/
namespace Go.Proofs.YtbjgpfhbdmcbbabGreatDoor.jobs
open Go.RowKit dnamath dna diskm disk keep hex pieces files parse words kinds
set_option linter.unusedVariables false

/-- a plan as planOf makes it -/
abbrev newPlan (p : Nat) (text run : ByteArray) : Value := .agg #[.pointer (some ⟨p, 0, none⟩), .string planB, .string planHB, .int .u64 0, .int .i64 0, .slice none 0 0, .string text, .string run]

theorem text_size (K M Bn : Nat) (input : ByteArray) (hK : K ≤ 1000) (hM : M ≤ 1000) (hBn : Bn ≤ 1000) : (textB K M Bn input).size ≤ input.size + 40 := by
  have h1 := itoa_size K (by omega)
  have h2 := itoa_size M (by omega)
  have h3 := itoa_size Bn (by omega)
  have z1 : spB.size = 1 := rfl
  have z2 : nlB.size = 1 := rfl
  unfold textB optB
  simp only [ByteArray.size_append]
  omega
theorem run_size (text : ByteArray) : (runB text).size ≤ 17 := by
  rw [Lib.size_eq]
  exact hexL_len _
theorem run_hex (text : ByteArray) : ∀ d ∈ (runB text).data.toList, (48 ≤ d.toNat ∧ d.toNat ≤ 57) ∨ (97 ≤ d.toNat ∧ d.toNat ≤ 102) := hexL_hex _ (sumL_lt _ (by decide) _)

set_option maxHeartbeats 4000000 in
set_option maxRecDepth 100000 in
theorem planOf_any (p K M Bn : Nat) (input : ByteArray) (a bb : Addr) (w : World) (hg : Gs w a bb) (hK : K ≤ 1000) (hM : M ≤ 1000) (hBn : Bn ≤ 1000) (hin : input.size ≤ 1000000) :
    Calls Tryz.prog 53 #[.pointer (some ⟨p, 0, none⟩), .string input, optV K M Bn] w fun e w' => e = .returned (newPlan p (textB K M Bn input) (runB (textB K M Bn input))) ∧ Below w.heap.size w w' := by
  have hts := text_size K M Bn input hK hM hBn
  have h1 := itoa_size K (by omega)
  have h2 := itoa_size M (by omega)
  have h3 := itoa_size Bn (by omega)
  have ciK := fun W hW => itoa_call K (by omega) a bb W hW
  have ciM := fun W hW => itoa_call M (by omega) a bb W hW
  have ciB := fun W hW => itoa_call Bn (by omega) a bb W hW
  have csu := fun W => SumOf_any (textB K M Bn input) W (by omega)
  have cfm : ∀ W, Gs W a bb → Calls Tryz.prog 82 #[.int .u64 (sumL 14695981039346656037 (textB K M Bn input).data.toList : Int), .int .i64 16] W fun e w' => e = .returned (.string (runB (textB K M Bn input))) ∧ Below W.heap.size W w' := fun W hW => FormatUint_16 _ W (sumL_lt _ (by decide) _) hW.bruC
  have co := fun W => Of_any p planB planHB W
  have HTE : Hid (textB K M Bn input = itoaB K ++ spB ++ itoaB M ++ spB ++ itoaB Bn ++ nlB ++ input ++ nlB) := rfl
  obtain ⟨IK, hIK⟩ : ∃ I, I = itoaB K := ⟨_, rfl⟩
  obtain ⟨IM, hIM⟩ : ∃ I, I = itoaB M := ⟨_, rfl⟩
  obtain ⟨IB, hIB⟩ : ∃ I, I = itoaB Bn := ⟨_, rfl⟩
  obtain ⟨R, hR⟩ : ∃ R, R = runB (textB K M Bn input) := ⟨_, rfl⟩
  rw [← hIK] at h1 HTE
  rw [← hIM] at h2 HTE
  rw [← hIB] at h3 HTE
  simp only [← hIK] at ciK
  simp only [← hIM] at ciM
  simp only [← hIB] at ciB
  simp only [← hR] at cfm ⊢
  clear hIK hIM hIB hR
  obtain ⟨T, hT⟩ : ∃ T, T = textB K M Bn input := ⟨_, rfl⟩
  simp only [← hT] at cfm csu hts HTE ⊢
  obtain ⟨s, hs⟩ : ∃ s, s = sumL 14695981039346656037 T.data.toList := ⟨_, rfl⟩
  simp only [← hs] at cfm csu
  clear hT hs
  have z1 : spB.size = 1 := rfl
  have z2 : nlB.size = 1 := rfl
  have a1 : ∀ W' : World, (Op.stringOp .add IK spB).run Tryz.prog W' = .ok (.string (IK ++ spB)) W' := fun W' => run_string_add_sum W' _ _ (by omega)
  have a2 : ∀ W' : World, (Op.stringOp .add (IK ++ spB) IM).run Tryz.prog W' = .ok (.string (IK ++ spB ++ IM)) W' := fun W' => run_string_add_sum W' _ _ (by simp only [ByteArray.size_append]; omega)
  have a3 : ∀ W' : World, (Op.stringOp .add (IK ++ spB ++ IM) spB).run Tryz.prog W' = .ok (.string (IK ++ spB ++ IM ++ spB)) W' := fun W' => run_string_add_sum W' _ _ (by simp only [ByteArray.size_append]; omega)
  have a4 : ∀ W' : World, (Op.stringOp .add (IK ++ spB ++ IM ++ spB) IB).run Tryz.prog W' = .ok (.string (IK ++ spB ++ IM ++ spB ++ IB)) W' := fun W' => run_string_add_sum W' _ _ (by simp only [ByteArray.size_append]; omega)
  have a5 : ∀ W' : World, (Op.stringOp .add (IK ++ spB ++ IM ++ spB ++ IB) nlB).run Tryz.prog W' = .ok (.string (IK ++ spB ++ IM ++ spB ++ IB ++ nlB)) W' := fun W' => run_string_add_sum W' _ _ (by simp only [ByteArray.size_append]; omega)
  have a6 : ∀ W' : World, (Op.stringOp .add (IK ++ spB ++ IM ++ spB ++ IB ++ nlB) input).run Tryz.prog W' = .ok (.string (IK ++ spB ++ IM ++ spB ++ IB ++ nlB ++ input)) W' := fun W' => run_string_add_sum W' _ _ (by simp only [ByteArray.size_append]; omega)
  have a7 : ∀ W' : World, (Op.stringOp .add (IK ++ spB ++ IM ++ spB ++ IB ++ nlB ++ input) nlB).run Tryz.prog W' = .ok (.string T) W' := fun W' => by rw [HTE.out]; exact run_string_add_sum W' _ _ (by simp only [ByteArray.size_append]; omega)
  have es : (⟨#[32]⟩ : ByteArray) = spB := rfl
  have en : (⟨#[10]⟩ : ByteArray) = nlB := rfl
  have ep : (⟨#[112, 108, 97, 110]⟩ : ByteArray) = planB := rfl
  have eh : (⟨#[112, 108, 97, 110, 32]⟩ : ByteArray) = planHB := rfl
  have HG : Hid (Gs w a bb) := hg
  clear hg
  go_enter Tryz.func53, Tryz.ntmps53
  go_upto_region 1 with fail
  obtain ⟨W1, hW1⟩ : ∃ W1, W1 = (w.alloc (.cells #[.int .i64 (K : Int), .int .i64 (M : Int), .int .i64 (Bn : Int)] 25)).alloc (.cells #[.pointer none, .string ⟨#[]⟩, .string ⟨#[]⟩, .int .u64 0, .int .i64 0, .slice none 0 0, .string ⟨#[]⟩, .string ⟨#[]⟩] 127) := ⟨_, rfl⟩
  have hsz : (w.alloc (.cells #[.int .i64 (K : Int), .int .i64 (M : Int), .int .i64 (Bn : Int)] 25)).heap.size = w.heap.size + 1 := by simp
  have hq0 : W1.heap[w.heap.size]? = some (.cells #[.int .i64 (K : Int), .int .i64 (M : Int), .int .i64 (Bn : Int)] 25 (0, 0)) := by rw [hW1, Below.heap_alloc _ _ _ (by omega)]; exact heap_alloc_new _ _
  have hq1 : W1.heap[w.heap.size + 1]? = some (.cells #[.pointer none, .string ⟨#[]⟩, .string ⟨#[]⟩, .int .u64 0, .int .i64 0, .slice none 0 0, .string ⟨#[]⟩, .string ⟨#[]⟩] 127 (0, 0)) := by rw [hW1, ← hsz]; exact heap_alloc_new _ _
  have B1 : Below w.heap.size w W1 := by rw [hW1]; exact ((Below.refl _ w).alloc (Nat.le_refl _) _).alloc (by omega) _
  have G1 : Gs W1.drew a bb := (HG.out.below B1).kept (Kept.drew (Bo := 0) _)
  have AB : Hid (∀ W : World, Below W1.drew.heap.size W1.drew W → W.cell? ⟨w.heap.size, 0, none⟩ = some (.int .i64 (K : Int)) ∧ W.cell? ⟨w.heap.size, 1, none⟩ = some (.int .i64 (M : Int)) ∧ W.cell? ⟨w.heap.size, 2, none⟩ = some (.int .i64 (Bn : Int))) := fun W hW => by
    have e := (hW.block w.heap.size (lt_of_block hq0)).trans hq0
    exact ⟨st_cell e 0, st_cell e 1, st_cell e 2⟩
  have c1 := AB.out W1.drew (Below.refl _ _)
  rw [← hW1]
  clear hW1
  go_region_held3 (fun w' => w'.cell? ⟨w.heap.size, 0, none⟩ = some (.int .i64 (K : Int)) ∧ w'.cell? ⟨w.heap.size, 1, none⟩ = some (.int .i64 (M : Int)) ∧ w'.cell? ⟨w.heap.size, 2, none⟩ = some (.int .i64 (Bn : Int))) (first | exact c1 | exact AB.out _ b6 | exact AB.out _ (b6.trans (b7.mono b6.size)) | exact AB.out _ (b6.trans ((b7.trans (b8.mono b7.size)).mono b6.size))) (first | (go_at_call 21; refine (ciK _ ?_).mono ?_; (exact G1); rintro e w6 ⟨rfl, b6⟩) | (go_at_call 21; refine (ciM _ ?_).mono ?_; (exact G1.below b6); rintro e w7 ⟨rfl, b7⟩) | (go_at_call 21; refine (ciB _ ?_).mono ?_; (exact (G1.below b6).below b7); rintro e w8 ⟨rfl, b8⟩))
  all_goals
    have b18 : Below W1.drew.heap.size W1.drew w8 := b6.trans ((b7.trans (b8.mono b7.size)).mono b6.size)
    have G8 := G1.below b18
    go_wp2_with fail
    refine (co _).mono ?_
    rintro e w9 ⟨rfl, b9⟩
    go_wp2_with fail
    refine (csu _).mono ?_
    rintro e w10 ⟨rfl, hw10⟩
    have hw10' := hw10.symm
    subst hw10'
    go_wp2_with fail
    refine (cfm _ (G8.below b9)).mono ?_
    rintro e w11 ⟨rfl, b11⟩
    have BB : Below W1.heap.size W1 w11 := ((⟨rfl, rfl, rfl, rfl, Nat.le_add_right _ _⟩ : Still W1 W1.drew).below _).trans (b18.trans ((b9.trans (b11.mono b9.size)).mono b18.size))
    have hq3 := (BB.block _ (lt_of_block hq1)).trans hq1
    have B3 : Below w.heap.size w w11 := B1.trans (BB.mono B1.size)
    have c0 : w11.cell? ⟨w.heap.size + 1, 0, none⟩ = some (.pointer none) := st_cell hq3 0
    have c1 : w11.cell? ⟨w.heap.size + 1, 1, none⟩ = some (.string ⟨#[]⟩) := st_cell hq3 1
    have c2 : w11.cell? ⟨w.heap.size + 1, 2, none⟩ = some (.string ⟨#[]⟩) := st_cell hq3 2
    have c3 : w11.cell? ⟨w.heap.size + 1, 3, none⟩ = some (.int .u64 0) := st_cell hq3 3
    have c4 : w11.cell? ⟨w.heap.size + 1, 4, none⟩ = some (.int .i64 0) := st_cell hq3 4
    have c5 : w11.cell? ⟨w.heap.size + 1, 5, none⟩ = some (.slice none 0 0) := st_cell hq3 5
    have c6 : w11.cell? ⟨w.heap.size + 1, 6, none⟩ = some (.string ⟨#[]⟩) := st_cell hq3 6
    have c7 : w11.cell? ⟨w.heap.size + 1, 7, none⟩ = some (.string ⟨#[]⟩) := st_cell hq3 7
    have f0 := st_frozen hq3 0
    have f1 := st_frozen hq3 1
    have f2 := st_frozen hq3 2
    have f3 := st_frozen hq3 3
    have f4 := st_frozen hq3 4
    have f5 := st_frozen hq3 5
    have f6 := st_frozen hq3 6
    have f7 := st_frozen hq3 7
    clear BB hq3 hq1 hq0 b11 b9 b18 G8 AB G1 B1
    go_wp2
    exact bodyPost_ret (v := newPlan p T R) (by simp [results, Tryz.results53, go_sem, c0, c1, c2, c3, c4, c5, c6, c7]) rfl ⟨rfl, (((((((B3.setCell (by simp) _).setCell (by simp) _).setCell (by simp) _).setCell (by simp) _).setCell (by simp) _).setCell (by simp) _).setCell (by simp) _).setCell (by simp) _⟩
end Go.Proofs.YtbjgpfhbdmcbbabGreatDoor.jobs

/-
  CONTRACTS of package quern: jobOf, leftovers, isBegun and begin on a disk that tells of no run.
-/
namespace Go.Proofs.YtbjgpfhbdmcbbabGreatDoor.jobs
open Go.RowKit dnamath dna diskm disk keep hex pieces files parse words kinds
set_option linter.unusedVariables false

abbrev jobC (p K M Bn : Nat) (text run : ByteArray) : Array Value := #[.pointer (some ⟨p, 0, none⟩), .int .i64 (K : Int), .int .i64 (M : Int), .int .i64 (Bn : Int), .pointer (some ⟨p, 0, none⟩), .string planB, .string planHB, .int .u64 0, .int .i64 0, .slice none 0 0, .string text, .string run]
theorem jobC_at {Bo : Nat} (w : World) (p K M Bn : Nat) (text run : ByteArray) (hB : Bo ≤ w.heap.size) : JobAt Bo (w.alloc (.cells (jobC p K M Bn text run) 130)) w.heap.size p K M Bn text run :=
  ⟨_, 0, 0, ⟨heap_alloc_new _ _, by decide, rfl, rfl, rfl, rfl, rfl, rfl, World.ownsRow_nil _ _ _ _, Nat.le_trans hB (by simp)⟩, rfl, rfl, rfl, rfl, rfl, rfl⟩

set_option maxHeartbeats 4000000 in
set_option maxRecDepth 100000 in
theorem jobOf_any {Bo : Nat} (p K M Bn : Nat) (input : ByteArray) (a bb : Addr) (w : World) (hB : Bo ≤ w.heap.size) (hg : Gs w a bb) (hK : K ≤ 1000) (hM : M ≤ 1000) (hBn : Bn ≤ 1000) (hin : input.size ≤ 1000000) :
    Calls Tryz.prog 38 #[.pointer (some ⟨p, 0, none⟩), .string input, optV K M Bn] w fun e w' => ∃ j, e = .returned (.pointer (some ⟨j, 0, none⟩)) ∧ JobAt Bo w' j p K M Bn (textB K M Bn input) (runB (textB K M Bn input)) ∧ w.heap.size ≤ j ∧ Below w.heap.size w w' := by
  have cp := fun W hW => planOf_any p K M Bn input a bb W hW hK hM hBn hin
  obtain ⟨T, hT⟩ : ∃ T, T = textB K M Bn input := ⟨_, rfl⟩
  obtain ⟨R, hR⟩ : ∃ R, R = runB T := ⟨_, rfl⟩
  simp only [← hT, ← hR] at cp ⊢
  clear hT hR
  have HG : Hid (Gs w a bb) := hg
  have HBB : Hid (Bo ≤ w.heap.size) := hB
  clear hg hB
  go_enter Tryz.func38, Tryz.ntmps38
  go_upto_region 1 with fail
  obtain ⟨W1, hW1⟩ : ∃ W1, W1 = w.alloc (.cells #[.int .i64 (K : Int), .int .i64 (M : Int), .int .i64 (Bn : Int)] 25) := ⟨_, rfl⟩
  have hq0 : W1.heap[w.heap.size]? = some (.cells #[.int .i64 (K : Int), .int .i64 (M : Int), .int .i64 (Bn : Int)] 25 (0, 0)) := by rw [hW1]; exact heap_alloc_new _ _
  have B1 : Below w.heap.size w W1 := by rw [hW1]; exact (Below.refl _ w).alloc (Nat.le_refl _) _
  have cp1 := cp W1.drew ((HG.out.below B1).kept (Kept.drew (Bo := 0) _))
  have x0 : W1.cell? ⟨w.heap.size, 0, none⟩ = some (.int .i64 (K : Int)) := st_cell hq0 0
  have x1 : W1.cell? ⟨w.heap.size, 1, none⟩ = some (.int .i64 (M : Int)) := st_cell hq0 1
  have x2 : W1.cell? ⟨w.heap.size, 2, none⟩ = some (.int .i64 (Bn : Int)) := st_cell hq0 2
  rw [← hW1]
  clear hW1 cp
  go_region_with (go_at_call 53; go_must (refine cp1.mono ?_; rintro e w3 ⟨rfl, b3⟩; have hq3 := (b3.block w.heap.size (lt_of_block hq0)).trans hq0; have y0 : w3.cell? ⟨w.heap.size, 0, none⟩ = some (.int .i64 (K : Int)) := st_cell hq3 0; have y1 : w3.cell? ⟨w.heap.size, 1, none⟩ = some (.int .i64 (M : Int)) := st_cell hq3 1; have y2 : w3.cell? ⟨w.heap.size, 2, none⟩ = some (.int .i64 (Bn : Int)) := st_cell hq3 2; clear hq3))
  all_goals
    have B3 : Below w.heap.size w w3 := B1.trans ((((⟨rfl, rfl, rfl, rfl, Nat.le_add_right _ _⟩ : Still W1 W1.drew).below _).trans b3).mono B1.size)
    go_wp2
    go_ret
    exact ⟨_, rfl, jobC_at w3 p K M Bn T R (Nat.le_trans HBB.out B3.size), B3.size, B3.alloc B3.size _⟩

/-- the names that a run needs only on its way: the draft and the first k bins -/
def leftL (k : Nat) : List ByteArray := draftB :: (List.range k).map nameB
theorem leftL_succ (k : Nat) : leftL (k + 1) = leftL k ++ [nameB k] := by simp [leftL, List.range_succ]
theorem leftL_len (k : Nat) : (leftL k).length = k + 1 := by simp [leftL]

set_option maxHeartbeats 4000000 in
set_option maxRecDepth 100000 in
theorem leftovers_any (a bb : Addr) (w : World) (hg : Gs w a bb) :
    Calls Tryz.prog 61 #[] w fun e w' => ∃ v, e = .returned v ∧ w'.ownsRow w.heap.size 9 1 v (leftL 16).length (scells (leftL 16)) ∧ Below w.heap.size w w' := by
  obtain ⟨i0, hi, hz0, hz1, hz2⟩ := info_parts infoS
  have HG : Hid (Gs w a bb) := hg
  have ed : (⟨#[100, 114, 97, 102, 116]⟩ : ByteArray) = draftB := rfl
  clear hg
  go_enter Tryz.func61, Tryz.ntmps61
  go_wp2_with fail
  have own0 : (w.alloc (.cells #[.string draftB] 9)).ownsRow w.heap.size 9 1 (.slice (some ⟨w.heap.size, 0, none⟩) 1 1) (leftL 0).length (scells (leftL 0)) := World.ownsRow_lit w #[.string draftB] 1 (Nat.le_refl _) (by unfold maxLen; omega) (by simp)
  have B0 : Below w.heap.size w (w.alloc (.cells #[.string draftB] 9)) := (Below.refl _ w).alloc (Nat.le_refl _) _
  go_loopw [1, 4] (fun nv i wr => ∃ (k : Nat), i = .int .i64 (k : Int) ∧ k ≤ 16 ∧ Hid (wr.ownsRow w.heap.size 9 1 nv (leftL k).length (scells (leftL k))) ∧ Hid (Below w.heap.size w wr)) (fun _ i _ => 16 - (intOf i).toNat)
  case atStart => exact ⟨0, rfl, Nat.zero_le _, own0, B0⟩
  case round =>
    obtain ⟨k, rfl, hk, hown, hbl⟩ := hrel
    clear own0 B0
    rename World => wr
    by_cases hlt : k < 16
    · have hi8 := itoa_size k (by omega)
      have cn := nameOf_any k a bb wr (HG.out.below hbl.out) (by omega) (by omega)
      have HLS : Hid (leftL (k + 1) = leftL k ++ [nameB k]) := leftL_succ k
      have hll : (leftL k).length ≤ 17 := by rw [leftL_len]; omega
      obtain ⟨nm, hnm⟩ : ∃ nm, nm = nameB k := ⟨_, rfl⟩
      rw [← hnm] at cn HLS
      obtain ⟨LL, hLL⟩ : ∃ LL, LL = leftL k := ⟨_, rfl⟩
      rw [← hLL] at hll hown HLS
      obtain ⟨aN, cN, hnv⟩ := own_slice hown.out
      subst hnv
      clear hnm hLL hi8
      go_wp2_with (first | (go_at_call 91; go_must (refine cn.mono ?_; rintro e w3 ⟨rfl, b3⟩; have own3 := own_later hown.out b3)) | (at_builtin; go_must (refine wpList_append_own _ rfl (.tmp 7) (.tmp 10) 28 rfl w.heap.size 9 i0 (.string ByteArray.empty) 1 16 Tryz.underlying28 hi hz0 hz1 hz2 rfl (by decide) (.slice aN LL.length cN) LL.length (scells LL) rfl (own3.alloc _) _ 1 1 [.string nm] rfl rfl (pieces.cell_one _ _ _) (one_str nm) (by unfold maxLen; omega) (by omega) (by have := hbl.out.size; have := b3.size; simp; omega) ?_; intro v4 w4 own4 g4 _)))
      obtain ⟨R1, R2⟩ := push_str (c := nm) own3 (hbl.out.trans (b3.mono hbl.out.size)) (Nat.le_trans hbl.out.size b3.size) own4 g4
      have H1 : Hid (w4.ownsRow w.heap.size 9 1 v4 (leftL (k + 1)).length (scells (leftL (k + 1)))) := by show World.ownsRow _ _ _ _ _ _ _; rw [HLS.out]; exact R1
      have H2 : Hid (Below w.heap.size w w4) := R2
      clear R1 R2 own4 g4 own3 b3 cn hll
      go_roundw
      case rel => exact ⟨k + 1, by go_num, by omega, H1, H2⟩
      case measure => simp [intOf]; omega
    · have hke : k = 16 := by omega
      subst hke
      go_wp2
      go_ret
      exact ⟨_, rfl, hown.out, hbl.out⟩
end Go.Proofs.YtbjgpfhbdmcbbabGreatDoor.jobs

/-
  CONTRACTS of package quern: begin on a disk that tells of no run.
-/
namespace Go.Proofs.YtbjgpfhbdmcbbabGreatDoor.jobs
open Go.RowKit dnamath dna diskm disk keep hex pieces files parse words kinds
set_option linter.unusedVariables false

/-- a disk with room, in order; its bytes are few -/
structure RoomB (S : DS) (N : Nat) : Prop where
  good : files.Good S N
  cap : S.cap = 1152921504606846976
  bytes : S.bytes ≤ 100000 * N
  draft : findIs draftB S.now = false
theorem RoomB.roomy {S : DS} {N : Nat} (h : RoomB S N) (hN : N ≤ 5000) : kinds.Roomy S N := ⟨h.good, h.cap, by have := h.bytes; omega, h.draft⟩
theorem RoomB.saved {S S' : DS} {N : Nat} {n X : ByteArray} (hS : RoomB S N) (h : Saved S S' N draftB n X) (hX : X.size ≤ 100000) (hnd : strEq draftB n = false) (hN : N ≤ 5000) : RoomB S' (N + 2) := by
  have hb := hS.bytes
  have h1 := saved_roomy h (hS.roomy hN) hX hnd (by omega)
  exact ⟨h1.good, h1.cap, by have := h.bytes_le hS.good.ok; omega, h1.draft⟩
theorem RoomB.less {S T : DS} {N : Nat} {ns : List ByteArray} (hS : RoomB S N) {N' : Nat} (h : Less S T N' ns) (hN : N ≤ N') : RoomB T N' := by
  refine ⟨h.good, by rw [h.cap]; exact hS.cap, ?_, ?_⟩
  · have h1 : T.bytes ≤ S.bytes := by
      rw [diskm.bytes_eq, diskm.bytes_eq, h.files]
      exact sum_sub (g := fsize S.files) _ _ (sorted_nodup h.good.sorted) (fun x hx => ((h.mem x).1 hx).1)
    have := hS.bytes
    have : 100000 * N ≤ 100000 * N' := Nat.mul_le_mul_left _ hN
    omega
  · cases hf : findIs draftB T.now with
    | false => rfl
    | true =>
      obtain ⟨x, hx, e⟩ := (find_iff h.good.sorted).1 hf
      have := (find_iff (n := draftB) hS.good.sorted).2 ⟨x, ((h.mem x).1 hx).1, e⟩
      rw [hS.draft] at this; cases this
theorem Less.look {S T : DS} {N N' : Nat} {ns : List ByteArray} (h : Less S T N' ns) (hs : files.Good S N) (m : ByteArray) (hm : ∀ n ∈ ns, m.toList ≠ n.toList) : T.look m = S.look m := by
  have key : ∀ f, T.look m = some f ↔ S.look m = some f := fun f => by
    rw [look_iff h.good.sorted, look_iff hs.sorted]
    constructor
    · rintro ⟨x, hx, e, hf⟩
      exact ⟨x, ((h.mem x).1 hx).1, e, by rw [h.files] at hf; exact hf⟩
    · rintro ⟨x, hx, e, hf⟩
      exact ⟨x, (h.mem x).2 ⟨hx, fun n hn => by rw [e]; exact hm n hn⟩, e, by rw [h.files]; exact hf⟩
  cases h1 : T.look m with
  | some f => exact ((key f).1 h1).symm
  | none =>
    cases h2 : S.look m with
    | none => rfl
    | some f => rw [(key f).2 h2] at h1; cases h1
theorem Less.gone {S T : DS} {N' : Nat} {ns : List ByteArray} (h : Less S T N' ns) {m : ByteArray} (hm : m ∈ ns) : T.look m = none := by
  cases h1 : T.look m with
  | none => rfl
  | some f =>
    obtain ⟨x, hx, e, _⟩ := (look_iff h.good.sorted).1 h1
    exact absurd e (((h.mem x).1 hx).2 m hm)

theorem nameB_list (n : Nat) : (nameB n).toList = 98 :: 105 :: 110 :: Lib.itoa (n : Int) := by
  rw [Lib.toList_data]
  unfold nameB binB itoaB
  simp [ByteArray.data_append]
theorem nameB_inj {i j : Nat} (h : (nameB i).toList = (nameB j).toList) : i = j := by
  rw [nameB_list, nameB_list] at h
  simp only [List.cons.injEq, true_and] at h
  have := congrArg Lib.atoi h
  rw [atoi_itoa, atoi_itoa] at this
  exact Int.ofNat_inj.1 (Option.some.inj this)
theorem nameB_draft (n : Nat) : strEq draftB (nameB n) = false := by
  rw [strEq_not, nameB_list, Lib.toList_data]
  intro h
  simp at h
theorem nameB_counts (n : Nat) : countsB.toList ≠ (nameB n).toList := by
  rw [nameB_list, Lib.toList_data]
  intro h
  simp [countsB] at h
theorem nameB_plan (n : Nat) : planB.toList ≠ (nameB n).toList := by
  rw [nameB_list, Lib.toList_data]
  intro h
  simp [planB] at h
theorem nameB_ne (n : Nat) : (nameB n).size ≠ 0 := by
  intro h
  rw [Lib.size_eq, ← Lib.toList_data, nameB_list] at h
  simp at h
theorem plan_draft : strEq draftB planB = false := by rw [strEq_not, Lib.toList_data, Lib.toList_data]; decide
theorem counts_draft : strEq draftB countsB = false := by rw [strEq_not, Lib.toList_data, Lib.toList_data]; decide

set_option maxHeartbeats 4000000 in
set_option maxRecDepth 100000 in
theorem beginAnew_any {Bo : Nat} (j p K M Bn : Nat) (text run : ByteArray) (S : DS) (N : Nat) (a bb : Addr) (w : World) (hJ : JobAt Bo w j p K M Bn text run) (hg : Gs w a bb) (hD : Disk Bo w p S) (hS : RoomB S N) (hN : N ≤ 3500) (ht : text.size ≤ 50000) (hj : 27 ≤ j) :
    Calls Tryz.prog 56 #[.pointer (some ⟨j, 0, none⟩)] w fun e w' => ∃ S1 S2, e = .returned .nilIface ∧ JobAt Bo w' j p K M Bn text run ∧ Disk Bo w' p S2 ∧ Less S S1 (N + 18) (leftL 16 ++ [countsB]) ∧ Saved S1 S2 (N + 18) draftB planB (whole (planHB.data.toList ++ text.data.toList)) ∧ FK Bo j w w' := by
  obtain ⟨i0, hi, hz0, hz1, hz2⟩ := info_parts infoS
  have cl := fun W hW => leftovers_any a bb W hW
  have ec : (⟨#[99, 111, 117, 110, 116, 115]⟩ : ByteArray) = countsB := rfl
  have hll : (leftL 16).length = 17 := leftL_len 16
  obtain ⟨LL, hLL⟩ : ∃ LL, LL = leftL 16 := ⟨_, rfl⟩
  simp only [← hLL] at cl hll ⊢
  have crm : ∀ W v, Disk Bo W p S → W.ownsRow 0 9 1 v (LL ++ [countsB]).length (scells (LL ++ [countsB])) → Calls Tryz.prog 45 #[.pointer (some ⟨p, 0, none⟩), v] W fun e w' => ∃ S1, e = .returned .nilIface ∧ Disk Bo w' p S1 ∧ Less S S1 (N + 18) (LL ++ [countsB]) ∧ Kept Bo W w' := fun W v hW hr => by
    have := RemoveAll_any p S N v (LL ++ [countsB]) W hW hS.good (by rw [List.length_append, hll]; simp; omega) hr
    rw [show (LL ++ [countsB]).length = 18 by rw [List.length_append, hll]; rfl] at this
    exact this
  have hlm : LL.length ≤ 17 := by omega
  have HJ : Hid (JobAt Bo w j p K M Bn text run) := hJ
  have HG : Hid (Gs w a bb) := hg
  have HD : Hid (Disk Bo w p S) := hD
  have HS : Hid (RoomB S N) := hS
  have HDd : Hid (Disk Bo w.drew p S) := hD.still (⟨rfl, rfl, rfl, rfl, Nat.le_add_right _ _⟩ : Still w w.drew)
  have hc0 : w.drew.cell? ⟨j, 0, none⟩ = some (.pointer (some ⟨p, 0, none⟩)) := hJ.cells.1
  have AJ : Hid (∀ W, Kept Bo w.drew W → W.cell? ⟨j, 0, none⟩ = some (.pointer (some ⟨p, 0, none⟩))) := fun W hW => ((HJ.out.kept (Kept.drew _)).kept hW).cells.1
  have HLS : Hid (scells LL ++ [.string countsB] = scells (LL ++ [countsB])) := by show _ = _; simp [scells]
  clear hJ hg hD hS hLL hll
  go_enter Tryz.func56, Tryz.ntmps56
  go_upto_region 1 with fail
  have hq1 : (w.alloc (.cells #[.string countsB] 9)).heap[w.heap.size]? = some (.cells #[.string countsB] 9 (0, 0)) := heap_alloc_new _ _
  obtain ⟨w1, hw1⟩ : ∃ w1, w1 = w.alloc (.cells #[.string countsB] 9) := ⟨_, rfl⟩
  have B1 : Below w.heap.size w w1 := by rw [hw1]; exact (Below.refl _ w).alloc (Nat.le_refl _) _
  have HG1 : Hid (Gs (w.alloc (.cells #[.string countsB] 9)).drew a bb) := by show Gs _ _ _; rw [← hw1]; exact (HG.out.below B1).kept (Kept.drew (Bo := 0) _)
  have hc1 : (w.alloc (.cells #[.string countsB] 9)).drew.cell? ⟨j, 0, none⟩ = some (.pointer (some ⟨p, 0, none⟩)) := by rw [← hw1]; exact ((HJ.out.below B1).kept (Kept.drew _)).cells.1
  have HB3 : Hid (∀ w3, Below (w.alloc (.cells #[.string countsB] 9)).drew.heap.size (w.alloc (.cells #[.string countsB] 9)).drew w3 → Below w.drew.heap.size w.drew w3) := fun w3 h => by
    rw [← hw1] at h
    exact ⟨h.os.trans B1.os, h.tape.trans B1.tape, h.output.trans B1.output, Nat.le_trans B1.size h.size, fun k hk => (h.block k (Nat.lt_of_lt_of_le hk B1.size)).trans (B1.block k hk)⟩
  clear hw1
  go_region_held3 (fun w' => w'.cell? ⟨j, 0, none⟩ = some (.pointer (some ⟨p, 0, none⟩))) (first | exact hc0 | exact hc1 | exact AJ.out _ (Kept.ofBelow b3) | exact AJ.out _ (Kept.ofBelow (b3.alloc b3.size _)) | exact AJ.out _ (Kept.ofBelow b4) | exact AJ.out _ ((Kept.ofBelow b4).trans k5)) (first | (go_at_call 61; refine (cl _ ?_).mono ?_; (exact HG.out.kept (Kept.drew (Bo := 0) _)); rintro e w3 ⟨v3, rfl, own3, b3⟩; obtain ⟨aN, cN, hnv⟩ := own_slice own3; subst hnv) | (go_at_call 61; refine (cl _ ?_).mono ?_; (exact HG1.out); rintro e w3 ⟨v3, rfl, own3', b3'⟩; obtain ⟨aN, cN, hnv⟩ := own_slice own3'; subst hnv; have own3 := own_lower own3' (show w.drew.heap.size ≤ _ from by simp); have b3 := HB3.out _ b3'; have hq3 := (b3'.block w.heap.size (by simp)).trans hq1) | (refine step_append_own rfl (.tmp 8) (.tmp 9) 28 rfl w.drew.heap.size 9 i0 (.string ByteArray.empty) 1 16 Tryz.underlying28 hi hz0 hz1 hz2 rfl (by decide) (.slice aN LL.length cN) LL.length (scells LL) rfl (own3.alloc _) _ 1 1 [.string countsB] rfl rfl (pieces.cell_one _ _ _) (one_str countsB) (by unfold maxLen; omega) (by omega) (by have := b3.size; simp at this ⊢; omega) ?_; intro v4 w4 own4 g4 _; have b4 : Below w.drew.heap.size w.drew w4 := (push_str (c := countsB) own3 b3 b3.size own4 g4).2) | (refine step_append_own rfl (.tmp 8) (.tmp 9) 28 rfl w.drew.heap.size 9 i0 (.string ByteArray.empty) 1 16 Tryz.underlying28 hi hz0 hz1 hz2 rfl (by decide) (.slice aN LL.length cN) LL.length (scells LL) rfl own3 ⟨w.heap.size, 0, none⟩ 1 1 [.string countsB] rfl rfl (fun j u hu => by have hj0 : j = 0 := (by have := (List.getElem?_eq_some_iff.1 hu).1; simp at this; exact this); subst hj0; simp at hu; subst hu; exact st_cell hq3 0) (one_str countsB) (by unfold maxLen; omega) (by omega) b3.size ?_; intro v4 w4 own4 g4 _; have b4 : Below w.drew.heap.size w.drew w4 := b3.grown g4 b3.size (fun k hk => (own3.lt k hk).1)) | (go_at_call 45; refine (crm _ _ ?_ ?_).mono ?_; (exact HDd.out.below b4); (rw [← HLS.out, List.length_append]; exact own_lower own4 (Nat.zero_le _)); rintro e w5 ⟨S1, rfl, d5, l5, k5⟩))
  all_goals
    have K5 : Kept Bo w w5 := (Kept.drew w).trans ((Kept.ofBelow b4).trans k5)
    have J5 := HJ.out.kept K5
    have G5 := HG.out.kept K5
    obtain ⟨cs, sum, wr, hf, r0, r1, r2, r3, r10, r11⟩ := J5.ex
    have R5 := HS.out.less l5 (by omega)
    have hpz : planHB.size = 5 := rfl
    have cps := planSave j 4 cs _ p planB planHB sum wr _ _ S1 (N + 18) a bb text w5 hf G5 hj d5 (R5.roomy (by omega)) (by omega) r10 (by omega) (by decide) plan_draft
    have HR : Hid (cs[0]? = some (.pointer (some ⟨p, 0, none⟩)) ∧ cs[1]? = some (.int .i64 (K : Int)) ∧ cs[2]? = some (.int .i64 (M : Int)) ∧ cs[3]? = some (.int .i64 (Bn : Int)) ∧ cs[10]? = some (.string text) ∧ cs[11]? = some (.string run)) := ⟨r0, r1, r2, r3, r10, r11⟩
    clear J5 G5 hf r0 r1 r2 r3 r10 r11 R5 own4 g4 own3 d5 b3 b4 k5 crm cl AJ hc0 hc1 hq1
    go_wp2_with (go_at_call 84; go_must (refine cps.mono ?_; rintro e w6 ⟨S2, s', r', rfl, h6, d6, v6, k6⟩))
    go_ret
    refine ⟨S1, S2, rfl, ⟨_, s', r', h6, ?_, ?_, ?_, ?_, ?_, ?_⟩, d6, l5, v6, (FK.ofKept K5).trans k6⟩
    · rw [fset_ne _ _ _ _ _ _ (by omega)]; exact HR.out.1
    · rw [fset_ne _ _ _ _ _ _ (by omega)]; exact HR.out.2.1
    · rw [fset_ne _ _ _ _ _ _ (by omega)]; exact HR.out.2.2.1
    · rw [fset_ne _ _ _ _ _ _ (by omega)]; exact HR.out.2.2.2.1
    · rw [fset_ne _ _ _ _ _ _ (by omega)]; exact HR.out.2.2.2.2.1
    · rw [fset_ne _ _ _ _ _ _ (by omega)]; exact HR.out.2.2.2.2.2
end Go.Proofs.YtbjgpfhbdmcbbabGreatDoor.jobs
