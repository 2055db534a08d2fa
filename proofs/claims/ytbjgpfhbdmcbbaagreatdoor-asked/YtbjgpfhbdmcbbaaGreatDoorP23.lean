import Derived.Test.YtbjgpfhbdmcbbaaGreatDoorP22

/-
  CONTRACTS of package quern: openCounts.
-/
namespace Go.Proofs.YtbjgpfhbdmcbbaaGreatDoor.kinds
open Go.RowKit Go.Proofs.YtbjgpfhbdmcbbaaGreatDoor.dnamath Go.Proofs.YtbjgpfhbdmcbbaaGreatDoor.dna Go.Proofs.YtbjgpfhbdmcbbaaGreatDoor.diskm Go.Proofs.YtbjgpfhbdmcbbaaGreatDoor.disk Go.Proofs.YtbjgpfhbdmcbbaaGreatDoor.keep Go.Proofs.YtbjgpfhbdmcbbaaGreatDoor.hex Go.Proofs.YtbjgpfhbdmcbbaaGreatDoor.pieces Go.Proofs.YtbjgpfhbdmcbbaaGreatDoor.files Go.Proofs.YtbjgpfhbdmcbbaaGreatDoor.parse Go.Proofs.YtbjgpfhbdmcbbaaGreatDoor.words
set_option linter.unusedVariables false

def countsHB : ByteArray := ⟨#[99, 111, 117, 110, 116, 115, 32]⟩

/-- a list as it is made, in its cells -/
abbrev listC (p : Nat) (n h : ByteArray) (k : Nat) : Array Value := #[.pointer (some ⟨p, 0, none⟩), .string n, .string h, .int .u64 0, .int .i64 0, .slice none 0 0, .int .i64 (k : Int), .slice none 0 0]
abbrev partC (p : Nat) (n h : ByteArray) : Array Value := #[.pointer (some ⟨p, 0, none⟩), .string n, .string h, .int .u64 0, .int .i64 0, .slice none 0 0]
theorem listC_at {Bo : Nat} (w : World) (p : Nat) (n h : ByteArray) (k : Nat) (hB : Bo ≤ w.heap.size) : FileAt Bo (w.alloc (.cells (listC p n h k) 134)) w.heap.size 0 (listC p n h k) 134 p n h 0 0 (.slice none 0 0) [] :=
  ⟨heap_alloc_new _ _, by decide, rfl, rfl, rfl, rfl, rfl, rfl, World.ownsRow_nil _ _ _ _, Nat.le_trans hB (by simp)⟩
theorem partC_at {Bo : Nat} (w : World) (p : Nat) (n h : ByteArray) (hB : Bo ≤ w.heap.size) : FileAt Bo (w.alloc (.cells (partC p n h) 264)) w.heap.size 0 (partC p n h) 264 p n h 0 0 (.slice none 0 0) [] :=
  ⟨heap_alloc_new _ _, by decide, rfl, rfl, rfl, rfl, rfl, rfl, World.ownsRow_nil _ _ _ _, Nat.le_trans hB (by simp)⟩

set_option maxHeartbeats 1000000 in
set_option maxRecDepth 100000 in
theorem openCounts_absent {Bo : Nat} (p : Nat) (S : DS) (N : Nat) (a bb : Addr) (w : World) (hD : Disk Bo w p S) (ho : S.Ok N) (hN : N ≤ 1000000) (hF : S.Fine) (hg : Gs w a bb) (hl : S.look countsB = none) :
    Calls Tryz.prog 63 #[.pointer (some ⟨p, 0, none⟩)] w fun e w' => ∃ v, e = .returned (.tuple #[.string ⟨#[]⟩, .pointer none, v]) ∧ Gone w' a v ∧ Below w.heap.size w w' := by
  have co := Of_any p countsB countsHB w
  have es : (⟨#[99, 111, 117, 110, 116, 115]⟩ : ByteArray) = countsB := rfl
  have es2 : (⟨#[99, 111, 117, 110, 116, 115, 32]⟩ : ByteArray) = countsHB := rfl
  have HA : Hid (Disk Bo w p S ∧ S.Ok N ∧ S.Fine ∧ Gs w a bb ∧ S.look countsB = none) := ⟨hD, ho, hF, hg, hl⟩
  clear hD ho hF hg hl
  go_enter Tryz.func63, Tryz.ntmps63
  go_upto_region 2 with (go_at_call 106; go_must (refine co.mono ?_; rintro e w1 ⟨rfl, b1⟩))
  have HF := listC_at w1 p countsB countsHB 0 (Nat.le_trans HA.out.1.low b1.size)
  obtain ⟨W2, hW2⟩ : ∃ W2, W2 = w1.alloc (.cells (listC p countsB countsHB 0) 134) := ⟨_, rfl⟩
  have B2 : Below w.heap.size w W2 := by rw [hW2]; exact b1.alloc b1.size _
  rw [← hW2] at HF
  obtain ⟨hD, ho, hF, hg, hl⟩ := HA.out
  have cl := Load_absent w1.heap.size 0 p S N countsB countsHB a bb W2 (hD.below B2) ho hN hF (hg.below B2) ((st_cell HF.blk _).trans HF.c0) ((st_cell HF.blk _).trans HF.c1) hl
  rw [show w1.alloc (.cells #[.pointer (some ⟨p, 0, none⟩), .string countsB, .string countsHB, .int .u64 0, .int .i64 0, .slice none 0 0, .int .i64 0, .slice none 0 0] 134) = W2 from hW2.symm]
  clear hD ho hF hg hl HF hW2 es es2 co HA b1
  go_wp2_with (go_at_call 107; go_must (refine cl.mono ?_; rintro e w3 ⟨v, rfl, hG, hb⟩; obtain ⟨eb, m, s, hv, hG⟩ := hG; subst hv))
  exact bodyPost_ret (v := .tuple #[.string ⟨#[]⟩, .pointer none, .iface 114 (.pointer (some ⟨eb, 0, none⟩))]) (by simp [results, Tryz.results63, go_sem]) rfl ⟨_, rfl, ⟨eb, m, s, rfl, hG⟩, B2.trans (hb.mono B2.size)⟩

theorem hex_no (c : UInt8) (l : List UInt8) (h : ∀ d ∈ l, (48 ≤ d.toNat ∧ d.toNat ≤ 57) ∨ (97 ≤ d.toNat ∧ d.toNat ≤ 102)) (hc : c.toNat < 48) : ∀ d ∈ l, d ≠ c := by
  intro d hd e
  subst e
  have := h d hd
  omega

set_option maxHeartbeats 2000000 in
set_option maxRecDepth 100000 in
theorem openCounts_ok {Bo : Nat} (p : Nat) (S : DS) (N : Nat) (a bb : Addr) (run : ByteArray) (k : Nat) (es : List Ent) (w : World) (hD : Disk Bo w p S) (ho : S.Ok N) (hN : N ≤ 1000000) (hF : S.Fine) (hg : Gs w a bb) (hl : S.look countsB = some (wholeF ((headB countsB run k).data.toList ++ textE es))) (hNG : 27 ≤ w.heap.size)
    (hrun : ∀ d ∈ run.data.toList, (48 ≤ d.toNat ∧ d.toNat ≤ 57) ∨ (97 ≤ d.toNat ∧ d.toNat ≤ 102)) (hrs : run.size ≤ 1000) (hes : ∀ x ∈ es, x.1.data.toList.all isB = true ∧ x.1.size = k ∧ x.2 ≤ 1000000) (hk1 : 1 ≤ k) (hk2 : k ≤ 1000) (hel : es.length ≤ 100000) (htl : (textE es).length ≤ 900000) :
    Calls Tryz.prog 63 #[.pointer (some ⟨p, 0, none⟩)] w fun e w' => ∃ (q : Nat) (cs : Array Value) (ev : Value), e = .returned (.tuple #[.string run, .pointer (some ⟨q, 0, none⟩), .nilIface]) ∧ w.heap.size ≤ q ∧ w'.heap[q]? = some (.cells cs 134 (0, 0)) ∧ cs[6]? = some (.int .i64 (k : Int)) ∧ cs[7]? = some ev ∧ w'.ownsRow w.heap.size 43 2 ev es.length (ecells es) ∧ WK Bo q w w' := by
  have co := Of_any p countsB countsHB w
  have es1 : (⟨#[99, 111, 117, 110, 116, 115]⟩ : ByteArray) = countsB := rfl
  have es2 : (⟨#[99, 111, 117, 110, 116, 115, 32]⟩ : ByteArray) = countsHB := rfl
  have hil := itoa_size k (by omega)
  have hid : (itoaB k).data.toList = Lib.itoa (k : Int) := rfl
  have hhd : (headB countsB run k).data.toList = countsHB.data.toList ++ (run.data.toList ++ 32 :: (Lib.itoa (k : Int) ++ [10])) := by
    unfold headB
    simp [ByteArray.data_append, hid, spB, nlB, countsB, countsHB]
  have hhl : (headB countsB run k).data.toList.length ≤ 2000 := by
    rw [hhd]
    have e1 : run.data.toList.length = run.size := (Lib.size_eq _).symm
    have e2 : (Lib.itoa (k : Int)).length = (itoaB k).size := by rw [Lib.size_eq, hid]
    have e3 : countsHB.data.toList.length = 7 := rfl
    simp only [List.length_append, List.length_cons, List.length_nil]
    omega
  obtain ⟨body, hbd⟩ : ∃ body, body = (run.data.toList ++ 32 :: Lib.itoa (k : Int)) ++ 10 :: textE es := ⟨_, rfl⟩
  have hZ : (headB countsB run k).data.toList ++ textE es = countsHB.data.toList ++ body := by rw [hhd, hbd]; simp
  have hEnd : Ends ((headB countsB run k).data.toList ++ textE es) := ends_append (ends_head _ _ _) (by rw [textE_lines]; exact ends_unlines _)
  have hno10 : ∀ d ∈ run.data.toList ++ 32 :: Lib.itoa (k : Int), d ≠ 10 := by
    intro d hd
    rw [List.mem_append, List.mem_cons] at hd
    rcases hd with hd | rfl | hd
    · exact hex_no 10 _ hrun (by decide) d hd
    · decide
    · rw [itoa_nat] at hd
      exact hex_no 10 _ (fun e he => .inl (dec_digit _ e he)) (by decide) d hd
  have hbl : body.length ≤ 1000000 := by
    have := congrArg List.length hZ
    simp only [List.length_append] at this
    omega
  have HA : Hid (Disk Bo w p S ∧ S.Ok N ∧ S.Fine ∧ Gs w a bb) := ⟨hD, ho, hF, hg⟩
  have HLQ : Hid (linesQ (textE es) = es.map line0) := linesQ_textE (fun x hx => (hes x hx).1)
  have HES : Hid (∀ x ∈ es, x.1.data.toList.all isB = true ∧ x.1.size = k ∧ x.2 ≤ 1000000) := hes
  clear hD ho hF hg hes
  go_enter Tryz.func63, Tryz.ntmps63
  go_upto_region 2 with (go_at_call 106; go_must (refine co.mono ?_; rintro e w1 ⟨rfl, b1⟩))
  have HF := listC_at w1 p countsB countsHB 0 (Nat.le_trans HA.out.1.low b1.size)
  obtain ⟨W2, hW2⟩ : ∃ W2, W2 = w1.alloc (.cells (listC p countsB countsHB 0) 134) := ⟨_, rfl⟩
  obtain ⟨q, hq⟩ : ∃ q, q = w1.heap.size := ⟨_, rfl⟩
  have B2 : Below w.heap.size w W2 := by rw [hW2]; exact b1.alloc b1.size _
  have hqw : w.heap.size ≤ q := by rw [hq]; exact b1.size
  rw [← hW2, ← hq] at HF
  obtain ⟨hD, ho, hF, hg⟩ := HA.out
  have cl := Load_whole q 0 _ _ p countsB countsHB 0 0 _ _ S N a bb _ body W2 HF (hg.below B2) (hD.below B2) ho hN hF hl hZ hEnd (by rw [List.length_append]; omega) (by omega)
  rw [show w1.alloc (.cells #[.pointer (some ⟨p, 0, none⟩), .string countsB, .string countsHB, .int .u64 0, .int .i64 0, .slice none 0 0, .int .i64 0, .slice none 0 0] 134) = W2 from hW2.symm, ← hq]
  have HB2 : Hid (Below w.heap.size w W2) := B2
  clear hD ho hF hg hl HF hW2 hq es1 es2 co HA b1 hZ hEnd B2
  go_wp2_with fail
  refine cl.mono ?_
  rintro e w3 ⟨B, s', r', rfl, hB, hf3, k3⟩
  go_wp2_with fail
  refine (Cut_one B 10 (run.data.toList ++ 32 :: Lib.itoa (k : Int)) (textE es) w3 (by rw [hB, hbd]) hno10 (by rw [Lib.size_eq, hB]; omega)).mono ?_
  rintro e w4 ⟨A4, T4, rfl, hA4, hT4, s4⟩
  go_wp2_with fail
  refine (Cut_one A4 32 run.data.toList (Lib.itoa (k : Int)) w4 hA4 (hex_no 32 _ hrun (by decide)) (by rw [Lib.size_eq, hA4]; have := congrArg List.length hbd; simp only [List.length_append, List.length_cons] at this ⊢; omega)).mono ?_
  rintro e w5 ⟨R5, I5, rfl, hR5, hI5, s5⟩
  have hre : R5 = run := bytes_eq hR5
  subst hre
  go_wp2_with fail
  refine (Tryz.strconv_Atoi I5 (k : Int) (by rw [Lib.size_eq, hI5, ← hid, ← Lib.size_eq]; omega) (by rw [hI5]; exact atoi_itoa k) w5).mono ?_
  rintro e w6 ⟨rfl, t6, hw6⟩
  have b6 : Below w5.heap.size w5 w6 := by rw [hw6]; exact Lib.bytesWorld_below _ _ _
  have hs4 := (s4.below 0).size
  have BB : Below w3.heap.size w3 w6 := (s4.below _).trans (((s5.below _)).trans (b6.mono (Nat.le_trans hs4 (s5.below 0).size)))
  have hf6 := hf3.kept (.ofBelow BB)
  have q6 := hf6.blk
  have c6 : w6.cell? ⟨q, 6, none⟩ = some (.int .i64 0) := (st_cell q6 _).trans ((fset_ne _ _ _ _ _ _ (by omega)).trans rfl)
  have f6 := st_frozen q6 6
  obtain ⟨cs6, hcs6⟩ : ∃ cs6, cs6 = (fset (listC p countsB countsHB 0) 0 s' r' (.slice none 0 0)).setIfInBounds 6 (.int .i64 (k : Int)) := ⟨_, rfl⟩
  have q7 : (w6.setCell ⟨q, 6, none⟩ (.int .i64 (k : Int))).heap[q]? = some (.cells cs6 134 (0, 0)) := by rw [hcs6]; exact heap_setCell_same w6 q 6 _ _ _ q6
  have hl6 : 6 < (fset (listC p countsB countsHB 0) 0 s' r' (.slice none 0 0)).size := by
    rcases Nat.lt_or_ge 6 (fset (listC p countsB countsHB 0) 0 s' r' (.slice none 0 0)).size with h | h
    · exact h
    · have := fset_ne (listC p countsB countsHB 0) 0 s' r' (.slice none 0 0) 6 (by omega)
      rw [Array.getElem?_eq_none h] at this
      cases this
  have g6 : cs6[6]? = some (.int .i64 (k : Int)) := by rw [hcs6]; exact Array.getElem?_setIfInBounds_self_of_lt hl6
  have g7 : cs6[7]? = some (.slice none 0 0) := by rw [hcs6, Array.getElem?_setIfInBounds_ne (by decide)]; exact (fset_ne _ _ _ _ _ _ (by omega)).trans rfl
  obtain ⟨W7, hW7⟩ : ∃ W7, W7 = w6.setCell ⟨q, 6, none⟩ (.int .i64 (k : Int)) := ⟨_, rfl⟩
  rw [← hW7] at q7
  have K7 : Hid (WK Bo q w W7) := by
    show WK Bo _ _ _
    rw [hW7]
    exact (WK.ofBelow (HB2.out.mono (Nat.le_refl _))).trans (k3.trans ((WK.ofBelow BB).trans (WK.set _)))
  have ct := take_any (Bo := Bo) q cs6 T4 k es W7 q7 g6 ⟨_, g7⟩ (by rw [Lib.size_eq, hT4]; omega) (by rw [hT4]; exact HLQ.out) HES.out hk1 hk2 hel
  have G6 : Hid (cs6[6]? = some (.int .i64 (k : Int))) := g6
  have hl7 : 7 < cs6.size := by
    rcases Nat.lt_or_ge 7 cs6.size with h | h
    · exact h
    · rw [Array.getElem?_eq_none h] at g7; cases g7
  clear g6 g7 q6 q7 hf6 hf3 BB hcs6 hl6 b6 hw6
  go_upto_region 11 with fail
  rw [← hW7]
  clear hW7
  go_wp2_with (go_at_call 111; go_must (refine ct.mono ?_; rintro e w8 ⟨ev, rfl, q8, own8, k8⟩))
  exact bodyPost_ret (v := .tuple #[.string R5, .pointer (some ⟨q, 0, none⟩), .nilIface]) (by simp [results, Tryz.results63, go_sem]) rfl ⟨q, _, ev, rfl, hqw, q8, by rw [Array.getElem?_setIfInBounds_ne (by decide)]; exact G6.out, Array.getElem?_setIfInBounds_self_of_lt hl7, own_lower own8 K7.out.size, K7.out.trans k8⟩
end Go.Proofs.YtbjgpfhbdmcbbaaGreatDoor.kinds

/-
  CONTRACTS of package quern: the job's struct; planOf, jobOf, tally, part.
-/
namespace Go.Proofs.YtbjgpfhbdmcbbaaGreatDoor.jobs
open Go.RowKit Go.Proofs.YtbjgpfhbdmcbbaaGreatDoor.dnamath Go.Proofs.YtbjgpfhbdmcbbaaGreatDoor.dna Go.Proofs.YtbjgpfhbdmcbbaaGreatDoor.diskm Go.Proofs.YtbjgpfhbdmcbbaaGreatDoor.disk Go.Proofs.YtbjgpfhbdmcbbaaGreatDoor.keep Go.Proofs.YtbjgpfhbdmcbbaaGreatDoor.hex Go.Proofs.YtbjgpfhbdmcbbaaGreatDoor.pieces Go.Proofs.YtbjgpfhbdmcbbaaGreatDoor.files Go.Proofs.YtbjgpfhbdmcbbaaGreatDoor.parse Go.Proofs.YtbjgpfhbdmcbbaaGreatDoor.words Go.Proofs.YtbjgpfhbdmcbbaaGreatDoor.kinds
set_option linter.unusedVariables false

def planB : ByteArray := ⟨#[112, 108, 97, 110]⟩
def planHB : ByteArray := ⟨#[112, 108, 97, 110, 32]⟩
def optB (K M Bn : Nat) : ByteArray := itoaB K ++ spB ++ itoaB M ++ spB ++ itoaB Bn
def textB (K M Bn : Nat) (input : ByteArray) : ByteArray := optB K M Bn ++ nlB ++ input ++ nlB
def runB (text : ByteArray) : ByteArray := ⟨(hexL (sumL 14695981039346656037 text.data.toList)).toArray⟩
abbrev optV (K M Bn : Nat) : Value := .agg #[.int .i64 (K : Int), .int .i64 (M : Int), .int .i64 (Bn : Int)]

/-- a job's struct: its plan's file lies from place 4 on -/
structure JobAt (Bo : Nat) (w : World) (j p K M Bn : Nat) (text run : ByteArray) : Prop where
  ex : ∃ cs sum wr, FileAt Bo w j 4 cs 176 p planB planHB sum wr (.slice none 0 0) [] ∧ cs[0]? = some (.pointer (some ⟨p, 0, none⟩)) ∧ cs[1]? = some (.int .i64 (K : Int)) ∧ cs[2]? = some (.int .i64 (M : Int)) ∧ cs[3]? = some (.int .i64 (Bn : Int)) ∧ cs[10]? = some (.string text) ∧ cs[11]? = some (.string run)

theorem FileAt.fk {Bo : Nat} {w w' : World} {b o q : Nat} {cs : Array Value} {T : TypeId} {p : Nat} {n h : ByteArray} {sum wr : Nat} (H : FileAt Bo w b o cs T p n h sum wr (.slice none 0 0) []) (hk : FK Bo q w w') (hq : b ≠ q) : FileAt Bo w' b o cs T p n h sum wr (.slice none 0 0) [] :=
  ⟨(hk.block b (lt_of_block H.blk) hq (fun ⟨cs', fz', e⟩ => by rw [H.blk] at e; cases e; exact H.ty.2.2.2.2 rfl) (by
      rintro ⟨cs', T', fz', e, hd⟩
      rw [H.blk] at e
      cases e
      rcases hd with h | h | h | h
      · exact H.ty.1 h
      · exact H.ty.2.1 h
      · exact H.ty.2.2.1 h
      · exact H.ty.2.2.2.1 h)).trans H.blk, H.ty, H.c0, H.c1, H.c2, H.c3, H.c4, H.c5, World.ownsRow_nil _ _ _ _, Nat.le_trans H.big hk.size⟩
theorem JobAt.fk {Bo : Nat} {w w' : World} {j p K M Bn q : Nat} {text run : ByteArray} (h : JobAt Bo w j p K M Bn text run) (hk : FK Bo q w w') (hq : j ≠ q) : JobAt Bo w' j p K M Bn text run := by
  obtain ⟨cs, sum, wr, H, r⟩ := h.ex
  exact ⟨cs, sum, wr, FileAt.fk H hk hq, r⟩
theorem JobAt.lt {Bo : Nat} {w : World} {j p K M Bn : Nat} {text run : ByteArray} (h : JobAt Bo w j p K M Bn text run) : j < w.heap.size := by
  obtain ⟨cs, sum, wr, H, r⟩ := h.ex
  exact lt_of_block H.blk
theorem JobAt.kept {Bo : Nat} {w w' : World} {j p K M Bn : Nat} {text run : ByteArray} (h : JobAt Bo w j p K M Bn text run) (hk : Kept Bo w w') : JobAt Bo w' j p K M Bn text run :=
  h.fk (q := w.heap.size) (FK.ofKept hk) (Nat.ne_of_lt h.lt)
theorem JobAt.below {Bo : Nat} {w w' : World} {j p K M Bn : Nat} {text run : ByteArray} (h : JobAt Bo w j p K M Bn text run) (hk : Below w.heap.size w w') : JobAt Bo w' j p K M Bn text run := h.kept (.ofBelow hk)
theorem JobAt.still {Bo : Nat} {w w' : World} {j p K M Bn : Nat} {text run : ByteArray} (h : JobAt Bo w j p K M Bn text run) (hk : Still w w') : JobAt Bo w' j p K M Bn text run := h.kept (.ofStill hk)
theorem JobAt.cells {Bo : Nat} {w : World} {j p K M Bn : Nat} {text run : ByteArray} (h : JobAt Bo w j p K M Bn text run) :
    w.cell? ⟨j, 0, none⟩ = some (.pointer (some ⟨p, 0, none⟩)) ∧ w.cell? ⟨j, 1, none⟩ = some (.int .i64 (K : Int)) ∧ w.cell? ⟨j, 2, none⟩ = some (.int .i64 (M : Int)) ∧ w.cell? ⟨j, 3, none⟩ = some (.int .i64 (Bn : Int)) ∧ w.cell? ⟨j, 10, none⟩ = some (.string text) ∧ w.cell? ⟨j, 11, none⟩ = some (.string run) := by
  obtain ⟨cs, sum, wr, H, h0, h1, h2, h3, h10, h11⟩ := h.ex
  exact ⟨(st_cell H.blk _).trans h0, (st_cell H.blk _).trans h1, (st_cell H.blk _).trans h2, (st_cell H.blk _).trans h3, (st_cell H.blk _).trans h10, (st_cell H.blk _).trans h11⟩

set_option maxHeartbeats 2000000 in
set_option maxRecDepth 100000 in
theorem part_any {Bo : Nat} (j p K M Bn : Nat) (text run : ByteArray) (n : Nat) (a bb : Addr) (w : World) (hJ : JobAt Bo w j p K M Bn text run) (hg : Gs w a bb) (h2 : run.size ≤ 1000) (hn : n ≤ 1000000) :
    Calls Tryz.prog 176 #[.pointer (some ⟨j, 0, none⟩), .int .i64 (n : Int)] w fun e w' => e = .returned (newFile p (nameB n) (headB partB run n)) ∧ Below w.heap.size w w' := by
  have hi := itoa_size n hn
  have cp : ∀ W, Gs W a bb → Calls Tryz.prog 203 #[.pointer (some ⟨p, 0, none⟩), .string run, .int .i64 (n : Int)] W fun e w' => e = .returned (newFile p (nameB n) (headB partB run n)) ∧ Below W.heap.size W w' := fun W hW => partOf_any p run n a bb W hW h2 hn (by omega)
  obtain ⟨nm, hnm⟩ : ∃ nm, nm = nameB n := ⟨_, rfl⟩
  obtain ⟨hd, hhd⟩ : ∃ hd, hd = headB partB run n := ⟨_, rfl⟩
  simp only [← hnm, ← hhd] at cp ⊢
  clear hnm hhd hi
  have HJ : Hid (JobAt Bo w j p K M Bn text run) := hJ
  have HG : Hid (Gs w a bb) := hg
  clear hJ hg
  go_enter Tryz.func176, Tryz.ntmps176
  go_upto_region 1 with fail
  obtain ⟨W1, hW1⟩ : ∃ W1, W1 = w.alloc (.cells #[.pointer none, .string ⟨#[]⟩, .string ⟨#[]⟩, .int .u64 0, .int .i64 0, .slice none 0 0] 264) := ⟨_, rfl⟩
  have hq1 : W1.heap[w.heap.size]? = some (.cells #[.pointer none, .string ⟨#[]⟩, .string ⟨#[]⟩, .int .u64 0, .int .i64 0, .slice none 0 0] 264 (0, 0)) := by rw [hW1]; exact heap_alloc_new _ _
  have B1 : Below w.heap.size w W1 := by rw [hW1]; exact (Below.refl _ w).alloc (Nat.le_refl _) _
  obtain ⟨z0, z1, _, _, _, z11⟩ := (HJ.out.below B1).cells
  have cp1 := cp W1.drew ((HG.out.below B1).kept (Kept.drew (Bo := 0) _))
  rw [← hW1]
  clear hW1 cp
  go_region_with (go_at_call 203; go_must (refine cp1.mono ?_; rintro e w3 ⟨rfl, b3⟩; have hq3 := (b3.block w.heap.size (lt_of_block hq1)).trans hq1; have c0 := st_cell hq3 0; have c1 := st_cell hq3 1; have c2 := st_cell hq3 2; have c3 := st_cell hq3 3; have c4 := st_cell hq3 4; have c5 := st_cell hq3 5; have f0 := st_frozen hq3 0; have f1 := st_frozen hq3 1; have f2 := st_frozen hq3 2; have f3 := st_frozen hq3 3; have f4 := st_frozen hq3 4; have f5 := st_frozen hq3 5; simp at c0 c1 c2 c3 c4 c5; clear hq3))
  all_goals
    have B3 : Below w.heap.size w w3 := B1.trans ((((⟨rfl, rfl, rfl, rfl, Nat.le_add_right _ _⟩ : Still W1 W1.drew).below _).trans b3).mono B1.size)
    go_wp2
    exact bodyPost_ret (v := newFile p nm hd) (by simp [results, Tryz.results176, go_sem, c0, c1, c2, c3, c4, c5]) rfl ⟨rfl, (((((B3.setCell (by exact Nat.le_refl _) _).setCell (by exact Nat.le_refl _) _).setCell (by exact Nat.le_refl _) _).setCell (by exact Nat.le_refl _) _).setCell (by exact Nat.le_refl _) _).setCell (by exact Nat.le_refl _) _⟩

set_option maxHeartbeats 2000000 in
set_option maxRecDepth 100000 in
theorem tally_any {Bo : Nat} (j p K M Bn : Nat) (text run : ByteArray) (n : Nat) (a bb : Addr) (w : World) (hJ : JobAt Bo w j p K M Bn text run) (hg : Gs w a bb) (h2 : run.size ≤ 1000) (hn : n ≤ 1000000) :
    Calls Tryz.prog 175 #[.pointer (some ⟨j, 0, none⟩), .int .i64 (n : Int)] w fun e w' => e = .returned (newList p (nameB n) (headB tallyB run n) K) ∧ Below w.heap.size w w' := by
  have hi := itoa_size n hn
  have cp : ∀ W, Gs W a bb → Calls Tryz.prog 202 #[.pointer (some ⟨p, 0, none⟩), .string run, .int .i64 (n : Int), .int .i64 (K : Int)] W fun e w' => e = .returned (newList p (nameB n) (headB tallyB run n) K) ∧ Below W.heap.size W w' := fun W hW => tallyOf_any p run n K a bb W hW h2 hn (by omega)
  obtain ⟨nm, hnm⟩ : ∃ nm, nm = nameB n := ⟨_, rfl⟩
  obtain ⟨hd, hhd⟩ : ∃ hd, hd = headB tallyB run n := ⟨_, rfl⟩
  simp only [← hnm, ← hhd] at cp ⊢
  clear hnm hhd hi
  have HJ : Hid (JobAt Bo w j p K M Bn text run) := hJ
  have HG : Hid (Gs w a bb) := hg
  clear hJ hg
  go_enter Tryz.func175, Tryz.ntmps175
  go_upto_region 1 with fail
  obtain ⟨W1, hW1⟩ : ∃ W1, W1 = w.alloc (.cells #[.pointer none, .string ⟨#[]⟩, .string ⟨#[]⟩, .int .u64 0, .int .i64 0, .slice none 0 0, .int .i64 0, .slice none 0 0] 134) := ⟨_, rfl⟩
  have hq1 : W1.heap[w.heap.size]? = some (.cells #[.pointer none, .string ⟨#[]⟩, .string ⟨#[]⟩, .int .u64 0, .int .i64 0, .slice none 0 0, .int .i64 0, .slice none 0 0] 134 (0, 0)) := by rw [hW1]; exact heap_alloc_new _ _
  have B1 : Below w.heap.size w W1 := by rw [hW1]; exact (Below.refl _ w).alloc (Nat.le_refl _) _
  obtain ⟨z0, z1, _, _, _, z11⟩ := (HJ.out.below B1).cells
  have cp1 := cp W1.drew ((HG.out.below B1).kept (Kept.drew (Bo := 0) _))
  rw [← hW1]
  clear hW1 cp
  go_region_with (go_at_call 202; go_must (refine cp1.mono ?_; rintro e w3 ⟨rfl, b3⟩; have hq3 := (b3.block w.heap.size (lt_of_block hq1)).trans hq1; have c0 := st_cell hq3 0; have c1 := st_cell hq3 1; have c2 := st_cell hq3 2; have c3 := st_cell hq3 3; have c4 := st_cell hq3 4; have c5 := st_cell hq3 5; have c6 := st_cell hq3 6; have c7 := st_cell hq3 7; have f0 := st_frozen hq3 0; have f1 := st_frozen hq3 1; have f2 := st_frozen hq3 2; have f3 := st_frozen hq3 3; have f4 := st_frozen hq3 4; have f5 := st_frozen hq3 5; have f6 := st_frozen hq3 6; have f7 := st_frozen hq3 7; simp at c0 c1 c2 c3 c4 c5 c6 c7; clear hq3))
  all_goals
    have B3 : Below w.heap.size w w3 := B1.trans ((((⟨rfl, rfl, rfl, rfl, Nat.le_add_right _ _⟩ : Still W1 W1.drew).below _).trans b3).mono B1.size)
    go_wp2
    exact bodyPost_ret (v := newList p nm hd K) (by simp [results, Tryz.results175, go_sem, c0, c1, c2, c3, c4, c5, c6, c7]) rfl ⟨rfl, (((((((B3.setCell (by exact Nat.le_refl _) _).setCell (by exact Nat.le_refl _) _).setCell (by exact Nat.le_refl _) _).setCell (by exact Nat.le_refl _) _).setCell (by exact Nat.le_refl _) _).setCell (by exact Nat.le_refl _) _).setCell (by exact Nat.le_refl _) _).setCell (by exact Nat.le_refl _) _⟩
end Go.Proofs.YtbjgpfhbdmcbbaaGreatDoor.jobs

/-
  CONTRACTS of package quern: planOf, jobOf.
-/
namespace Go.Proofs.YtbjgpfhbdmcbbaaGreatDoor.jobs
open Go.RowKit Go.Proofs.YtbjgpfhbdmcbbaaGreatDoor.dnamath Go.Proofs.YtbjgpfhbdmcbbaaGreatDoor.dna Go.Proofs.YtbjgpfhbdmcbbaaGreatDoor.diskm Go.Proofs.YtbjgpfhbdmcbbaaGreatDoor.disk Go.Proofs.YtbjgpfhbdmcbbaaGreatDoor.keep Go.Proofs.YtbjgpfhbdmcbbaaGreatDoor.hex Go.Proofs.YtbjgpfhbdmcbbaaGreatDoor.pieces Go.Proofs.YtbjgpfhbdmcbbaaGreatDoor.files Go.Proofs.YtbjgpfhbdmcbbaaGreatDoor.parse Go.Proofs.YtbjgpfhbdmcbbaaGreatDoor.words Go.Proofs.YtbjgpfhbdmcbbaaGreatDoor.kinds
set_option linter.unusedVariables false

/-- a plan as planOf makes it -/
abbrev newPlan (p : Nat) (text run : ByteArray) : Value := .agg #[.pointer (some ⟨p, 0, none⟩), .string planB, .string planHB, .int .u64 0, .int .i64 0, .slice none 0 0, .string text, .string run]

theorem text_size (K M Bn : Nat) (input : ByteArray) (hK : K ≤ 1000) (hM : M ≤ 1000) (hBn : Bn ≤ 1000) : (textB K M Bn input).size ≤ input.size + 40 := by
  have h1 := itoa_size K (by omega)
  have h2 := itoa_size M (by omega)
  have h3 := itoa_size Bn (by omega)
  have z1 : spB.size = 1 := rfl
  have z2 : nlB.size = 1 := rfl
  unfold textB optB
  simp only [ByteArray.size_append]
  omega
theorem run_size (text : ByteArray) : (runB text).size ≤ 17 := by
  rw [Lib.size_eq]
  exact hexL_len _
theorem run_hex (text : ByteArray) : ∀ d ∈ (runB text).data.toList, (48 ≤ d.toNat ∧ d.toNat ≤ 57) ∨ (97 ≤ d.toNat ∧ d.toNat ≤ 102) := hexL_hex _ (sumL_lt _ (by decide) _)

set_option maxHeartbeats 4000000 in
set_option maxRecDepth 100000 in
theorem planOf_any (p K M Bn : Nat) (input : ByteArray) (a bb : Addr) (w : World) (hg : Gs w a bb) (hK : K ≤ 1000) (hM : M ≤ 1000) (hBn : Bn ≤ 1000) (hin : input.size ≤ 1000000) :
    Calls Tryz.prog 97 #[.pointer (some ⟨p, 0, none⟩), .string input, optV K M Bn] w fun e w' => e = .returned (newPlan p (textB K M Bn input) (runB (textB K M Bn input))) ∧ Below w.heap.size w w' := by
  have hts := text_size K M Bn input hK hM hBn
  have h1 := itoa_size K (by omega)
  have h2 := itoa_size M (by omega)
  have h3 := itoa_size Bn (by omega)
  have ciK := fun W hW => itoa_call K (by omega) a bb W hW
  have ciM := fun W hW => itoa_call M (by omega) a bb W hW
  have ciB := fun W hW => itoa_call Bn (by omega) a bb W hW
  have csu := fun W => SumOf_any (textB K M Bn input) W (by omega)
  have cfm : ∀ W, Gs W a bb → Calls Tryz.prog 136 #[.int .u64 (sumL 14695981039346656037 (textB K M Bn input).data.toList : Int), .int .i64 16] W fun e w' => e = .returned (.string (runB (textB K M Bn input))) ∧ Below W.heap.size W w' := fun W hW => FormatUint_16 _ W (sumL_lt _ (by decide) _) hW.bruC
  have co := fun W => Of_any p planB planHB W
  have HTE : Hid (textB K M Bn input = itoaB K ++ spB ++ itoaB M ++ spB ++ itoaB Bn ++ nlB ++ input ++ nlB) := rfl
  obtain ⟨IK, hIK⟩ : ∃ I, I = itoaB K := ⟨_, rfl⟩
  obtain ⟨IM, hIM⟩ : ∃ I, I = itoaB M := ⟨_, rfl⟩
  obtain ⟨IB, hIB⟩ : ∃ I, I = itoaB Bn := ⟨_, rfl⟩
  obtain ⟨R, hR⟩ : ∃ R, R = runB (textB K M Bn input) := ⟨_, rfl⟩
  rw [← hIK] at h1 HTE
  rw [← hIM] at h2 HTE
  rw [← hIB] at h3 HTE
  simp only [← hIK] at ciK
  simp only [← hIM] at ciM
  simp only [← hIB] at ciB
  simp only [← hR] at cfm ⊢
  clear hIK hIM hIB hR
  obtain ⟨T, hT⟩ : ∃ T, T = textB K M Bn input := ⟨_, rfl⟩
  simp only [← hT] at cfm csu hts HTE ⊢
  obtain ⟨s, hs⟩ : ∃ s, s = sumL 14695981039346656037 T.data.toList := ⟨_, rfl⟩
  simp only [← hs] at cfm csu
  clear hT hs
  have z1 : spB.size = 1 := rfl
  have z2 : nlB.size = 1 := rfl
  have a1 : ∀ W' : World, (Op.stringOp .add IK spB).run Tryz.prog W' = .ok (.string (IK ++ spB)) W' := fun W' => run_string_add_sum W' _ _ (by omega)
  have a2 : ∀ W' : World, (Op.stringOp .add (IK ++ spB) IM).run Tryz.prog W' = .ok (.string (IK ++ spB ++ IM)) W' := fun W' => run_string_add_sum W' _ _ (by simp only [ByteArray.size_append]; omega)
  have a3 : ∀ W' : World, (Op.stringOp .add (IK ++ spB ++ IM) spB).run Tryz.prog W' = .ok (.string (IK ++ spB ++ IM ++ spB)) W' := fun W' => run_string_add_sum W' _ _ (by simp only [ByteArray.size_append]; omega)
  have a4 : ∀ W' : World, (Op.stringOp .add (IK ++ spB ++ IM ++ spB) IB).run Tryz.prog W' = .ok (.string (IK ++ spB ++ IM ++ spB ++ IB)) W' := fun W' => run_string_add_sum W' _ _ (by simp only [ByteArray.size_append]; omega)
  have a5 : ∀ W' : World, (Op.stringOp .add (IK ++ spB ++ IM ++ spB ++ IB) nlB).run Tryz.prog W' = .ok (.string (IK ++ spB ++ IM ++ spB ++ IB ++ nlB)) W' := fun W' => run_string_add_sum W' _ _ (by simp only [ByteArray.size_append]; omega)
  have a6 : ∀ W' : World, (Op.stringOp .add (IK ++ spB ++ IM ++ spB ++ IB ++ nlB) input).run Tryz.prog W' = .ok (.string (IK ++ spB ++ IM ++ spB ++ IB ++ nlB ++ input)) W' := fun W' => run_string_add_sum W' _ _ (by simp only [ByteArray.size_append]; omega)
  have a7 : ∀ W' : World, (Op.stringOp .add (IK ++ spB ++ IM ++ spB ++ IB ++ nlB ++ input) nlB).run Tryz.prog W' = .ok (.string T) W' := fun W' => by rw [HTE.out]; exact run_string_add_sum W' _ _ (by simp only [ByteArray.size_append]; omega)
  have es : (⟨#[32]⟩ : ByteArray) = spB := rfl
  have en : (⟨#[10]⟩ : ByteArray) = nlB := rfl
  have ep : (⟨#[112, 108, 97, 110]⟩ : ByteArray) = planB := rfl
  have eh : (⟨#[112, 108, 97, 110, 32]⟩ : ByteArray) = planHB := rfl
  have HG : Hid (Gs w a bb) := hg
  clear hg
  go_enter Tryz.func97, Tryz.ntmps97
  go_upto_region 1 with fail
  obtain ⟨W1, hW1⟩ : ∃ W1, W1 = (w.alloc (.cells #[.int .i64 (K : Int), .int .i64 (M : Int), .int .i64 (Bn : Int)] 29)).alloc (.cells #[.pointer none, .string ⟨#[]⟩, .string ⟨#[]⟩, .int .u64 0, .int .i64 0, .slice none 0 0, .string ⟨#[]⟩, .string ⟨#[]⟩] 173) := ⟨_, rfl⟩
  have hsz : (w.alloc (.cells #[.int .i64 (K : Int), .int .i64 (M : Int), .int .i64 (Bn : Int)] 29)).heap.size = w.heap.size + 1 := by simp
  have hq0 : W1.heap[w.heap.size]? = some (.cells #[.int .i64 (K : Int), .int .i64 (M : Int), .int .i64 (Bn : Int)] 29 (0, 0)) := by rw [hW1, Below.heap_alloc _ _ _ (by omega)]; exact heap_alloc_new _ _
  have hq1 : W1.heap[w.heap.size + 1]? = some (.cells #[.pointer none, .string ⟨#[]⟩, .string ⟨#[]⟩, .int .u64 0, .int .i64 0, .slice none 0 0, .string ⟨#[]⟩, .string ⟨#[]⟩] 173 (0, 0)) := by rw [hW1, ← hsz]; exact heap_alloc_new _ _
  have B1 : Below w.heap.size w W1 := by rw [hW1]; exact ((Below.refl _ w).alloc (Nat.le_refl _) _).alloc (by omega) _
  have G1 : Gs W1.drew a bb := (HG.out.below B1).kept (Kept.drew (Bo := 0) _)
  have AB : Hid (∀ W : World, Below W1.drew.heap.size W1.drew W → W.cell? ⟨w.heap.size, 0, none⟩ = some (.int .i64 (K : Int)) ∧ W.cell? ⟨w.heap.size, 1, none⟩ = some (.int .i64 (M : Int)) ∧ W.cell? ⟨w.heap.size, 2, none⟩ = some (.int .i64 (Bn : Int))) := fun W hW => by
    have e := (hW.block w.heap.size (lt_of_block hq0)).trans hq0
    exact ⟨st_cell e 0, st_cell e 1, st_cell e 2⟩
  have c1 := AB.out W1.drew (Below.refl _ _)
  rw [← hW1]
  clear hW1
  go_region_held3 (fun w' => w'.cell? ⟨w.heap.size, 0, none⟩ = some (.int .i64 (K : Int)) ∧ w'.cell? ⟨w.heap.size, 1, none⟩ = some (.int .i64 (M : Int)) ∧ w'.cell? ⟨w.heap.size, 2, none⟩ = some (.int .i64 (Bn : Int))) (first | exact c1 | exact AB.out _ b6 | exact AB.out _ (b6.trans (b7.mono b6.size)) | exact AB.out _ (b6.trans ((b7.trans (b8.mono b7.size)).mono b6.size))) (first | (go_at_call 36; refine (ciK _ ?_).mono ?_; (exact G1); rintro e w6 ⟨rfl, b6⟩) | (go_at_call 36; refine (ciM _ ?_).mono ?_; (exact G1.below b6); rintro e w7 ⟨rfl, b7⟩) | (go_at_call 36; refine (ciB _ ?_).mono ?_; (exact (G1.below b6).below b7); rintro e w8 ⟨rfl, b8⟩))
  all_goals
    have b18 : Below W1.drew.heap.size W1.drew w8 := b6.trans ((b7.trans (b8.mono b7.size)).mono b6.size)
    have G8 := G1.below b18
    go_wp2_with fail
    refine (co _).mono ?_
    rintro e w9 ⟨rfl, b9⟩
    go_wp2_with fail
    refine (csu _).mono ?_
    rintro e w10 ⟨rfl, hw10⟩
    have hw10' := hw10.symm
    subst hw10'
    go_wp2_with fail
    refine (cfm _ (G8.below b9)).mono ?_
    rintro e w11 ⟨rfl, b11⟩
    have BB : Below W1.heap.size W1 w11 := ((⟨rfl, rfl, rfl, rfl, Nat.le_add_right _ _⟩ : Still W1 W1.drew).below _).trans (b18.trans ((b9.trans (b11.mono b9.size)).mono b18.size))
    have hq3 := (BB.block _ (lt_of_block hq1)).trans hq1
    have B3 : Below w.heap.size w w11 := B1.trans (BB.mono B1.size)
    have c0 : w11.cell? ⟨w.heap.size + 1, 0, none⟩ = some (.pointer none) := st_cell hq3 0
    have c1 : w11.cell? ⟨w.heap.size + 1, 1, none⟩ = some (.string ⟨#[]⟩) := st_cell hq3 1
    have c2 : w11.cell? ⟨w.heap.size + 1, 2, none⟩ = some (.string ⟨#[]⟩) := st_cell hq3 2
    have c3 : w11.cell? ⟨w.heap.size + 1, 3, none⟩ = some (.int .u64 0) := st_cell hq3 3
    have c4 : w11.cell? ⟨w.heap.size + 1, 4, none⟩ = some (.int .i64 0) := st_cell hq3 4
    have c5 : w11.cell? ⟨w.heap.size + 1, 5, none⟩ = some (.slice none 0 0) := st_cell hq3 5
    have c6 : w11.cell? ⟨w.heap.size + 1, 6, none⟩ = some (.string ⟨#[]⟩) := st_cell hq3 6
    have c7 : w11.cell? ⟨w.heap.size + 1, 7, none⟩ = some (.string ⟨#[]⟩) := st_cell hq3 7
    have f0 := st_frozen hq3 0
    have f1 := st_frozen hq3 1
    have f2 := st_frozen hq3 2
    have f3 := st_frozen hq3 3
    have f4 := st_frozen hq3 4
    have f5 := st_frozen hq3 5
    have f6 := st_frozen hq3 6
    have f7 := st_frozen hq3 7
    clear BB hq3 hq1 hq0 b11 b9 b18 G8 AB G1 B1
    go_wp2
    exact bodyPost_ret (v := newPlan p T R) (by simp [results, Tryz.results97, go_sem, c0, c1, c2, c3, c4, c5, c6, c7]) rfl ⟨rfl, (((((((B3.setCell (by simp) _).setCell (by simp) _).setCell (by simp) _).setCell (by simp) _).setCell (by simp) _).setCell (by simp) _).setCell (by simp) _).setCell (by simp) _⟩
end Go.Proofs.YtbjgpfhbdmcbbaaGreatDoor.jobs
