import Derived.Test.YtbjgpfhbdmcbbabGreatDoorP16
import Derived.Test.YtbjgpfhbdmcbbabGreatDoorP06
import Derived.Lib.AtoiErrMem
import Derived.Test.YtbjgpfhbdmcbbabGreatDoorP11
import Derived.Test.YtbjgpfhbdmcbbabGreatDoorP13
import Derived.Deep.RegionHeld3
import Derived.Test.YtbjgpfhbdmcbbabGreatDoorP04

/-
  CONTRACTS of package quern: entryOf.
-/
namespace Go.Proofs.YtbjgpfhbdmcbbabGreatDoor.kinds
open Go.RowKit dnamath dna diskm disk keep hex pieces files parse words
set_option linter.unusedVariables false

theorem bytes_eq {a b : ByteArray} (h : a.data.toList = b.data.toList) : a = b := by
  apply ByteArray.ext
  exact Array.toList_inj.1 h

set_option maxHeartbeats 2000000 in
set_option maxRecDepth 100000 in
theorem entryOf_any (line x : ByteArray) (n k : Nat) (w : World) (hl : line.data.toList = x.data.toList ++ 32 :: Lib.itoa (n : Int)) (hx : x.data.toList.all isB = true) (hk : x.size = k) (hk1 : 1 ≤ k) (hk2 : k ≤ 1000) (hn : n ≤ 1000000) :
    Calls Tryz.prog 101 #[.string line, .int .i64 (k : Int)] w fun e w' => e = .returned (.tuple #[.agg #[.string x, .int .i64 (n : Int)], .bool true]) ∧ Below w.heap.size w w' := by
  have hil := itoa_short n hn
  have hls : line.size = x.size + 1 + (Lib.itoa (n : Int)).length := by rw [Lib.size_eq, hl, Lib.size_eq]; simp; omega
  have ccu : ∀ W, Calls Tryz.prog 64 #[.string line, .string ⟨#[32]⟩] W fun e w' => ∃ b : ByteArray, e = .returned (.tuple #[.string x, .string b, .bool true]) ∧ b.data.toList = Lib.itoa (n : Int) ∧ Still W w' := fun W => by
    refine (Cut_one line 32 x.data.toList (Lib.itoa (n : Int)) W hl (fun d hd => no_of_B (List.all_eq_true.1 hx d hd) (by decide)) (by omega)).mono ?_
    rintro e w' ⟨a, b, rfl, h1, h2, h3⟩
    have : a = x := bytes_eq h1
    subst this
    exact ⟨b, rfl, h2, h3⟩
  have cat : ∀ (b : ByteArray) W, b.data.toList = Lib.itoa (n : Int) → Calls Tryz.prog 65 #[.string b] W fun e w' => e = .returned (.tuple #[.int .i64 (n : Int), .nilIface]) ∧ Below W.heap.size W w' := fun b W hb => by
    refine (Tryz.strconv_Atoi b (n : Int) (by rw [Lib.size_eq, hb]; omega) (by rw [hb]; exact atoi_itoa n) W).mono ?_
    rintro e w' ⟨rfl, t, rfl⟩
    exact ⟨rfl, Lib.bytesWorld_below _ _ _⟩
  have cca : ∀ W, Calls Tryz.prog 134 #[.string x] W fun e w' => ∃ r : ByteArray, e = .returned (.tuple #[.string r, .int .i64 0]) ∧ Below W.heap.size W w' := fun W => by
    refine (Canon_any x W (by omega)).mono ?_
    rintro e w' ⟨r, m, rfl, h1, h2⟩
    have := canon_word h1 hx (by omega)
    rw [this.1]
    exact ⟨r, rfl, h2⟩
  have hks : (x.size : Int) = (k : Int) := by omega
  clear hl hx hls hil hk
  go_enter Tryz.func101, Tryz.ntmps101
  go_wp2_with fail
  obtain ⟨W0, hW0⟩ : ∃ W0, W0 = w.alloc (.cells #[.string ⟨#[]⟩, .int .i64 0] 58) := ⟨_, rfl⟩
  have hq0 : W0.heap[w.heap.size]? = some (.cells #[.string ⟨#[]⟩, .int .i64 0] 58 (0, 0)) := by rw [hW0]; exact heap_alloc_new _ _
  have hB0 : Below w.heap.size w W0 := by rw [hW0]; exact (Below.refl _ w).alloc (Nat.le_refl _) _
  rw [← hW0]
  clear hW0
  refine (ccu _).mono ?_
  rintro e w1 ⟨b, rfl, hb, s1⟩
  go_wp2_with fail
  refine (cat b _ hb).mono ?_
  rintro e w2 ⟨rfl, b2⟩
  go_wp2_with fail
  refine (cca _).mono ?_
  rintro e w3 ⟨r, rfl, b3⟩
  have hs1 := (s1.below 0).size
  have BB : Below W0.heap.size W0 w3 := (s1.below _).trans ((b2.mono hs1).trans (b3.mono (Nat.le_trans hs1 b2.size)))
  have hq3 := (BB.block w.heap.size (lt_of_block hq0)).trans hq0
  have B3 : Below w.heap.size w w3 := hB0.trans (BB.mono hB0.size)
  have c0 : w3.cell? ⟨w.heap.size, 0, none⟩ = some (.string ⟨#[]⟩) := st_cell hq3 0
  have c1 : w3.cell? ⟨w.heap.size, 1, none⟩ = some (.int .i64 0) := st_cell hq3 1
  have f0 := st_frozen hq3 0
  have f1 := st_frozen hq3 1
  clear BB hq3 hq0 hB0 s1 b2 b3 ccu cat cca hb
  go_wp2
  exact bodyPost_ret (v := .tuple #[.agg #[.string x, .int .i64 (n : Int)], .bool true]) (by simp [results, Tryz.results101, go_sem, c0, c1]) rfl ⟨rfl, (B3.setCell (by exact Nat.le_refl _) _).setCell (by exact Nat.le_refl _) _⟩
end Go.Proofs.YtbjgpfhbdmcbbabGreatDoor.kinds

/-
  CONTRACTS of package files: Load of a file that is whole.
-/
namespace Go.Proofs.YtbjgpfhbdmcbbabGreatDoor.files
open Go.RowKit dnamath dna diskm disk keep hex
set_option linter.unusedVariables false

theorem all_some {S : DS} {n : ByteArray} {f : DFile} (hF : S.Fine) (h : S.look n = some f) : DS.all S n = (f.data, true) := by
  unfold DS.all; rw [h]
  have : S.dead = false := by unfold DS.dead; rw [hF.life]; rfl
  simp [this]

/-- written and sum are put, one after the other -/
theorem FileAt.sets2 {Bo : Nat} {w : World} {b o : Nat} {cs : Array Value} {T : TypeId} {p : Nat} {n h : ByteArray} {sum wr : Nat} {wv : Value} {W : List UInt8} (H : FileAt Bo w b o cs T p n h sum wr wv W) (s r : Nat) :
    FileAt Bo ((w.setCell ⟨b, o + 4, none⟩ (.int .i64 (r : Int))).setCell ⟨b, o + 3, none⟩ (.int .u64 (s : Int))) b o (fset cs o s r wv) T p n h s r wv W ∧
    WK Bo b w ((w.setCell ⟨b, o + 4, none⟩ (.int .i64 (r : Int))).setCell ⟨b, o + 3, none⟩ (.int .u64 (s : Int))) := by
  have hi5 : o + 5 < cs.size := by
    rcases Nat.lt_or_ge (o + 5) cs.size with h | h
    · exact h
    · have := H.c5; rw [Array.getElem?_eq_none h] at this; cases this
  have q1 := heap_setCell_same w b (o + 4) _ _ (.int .i64 (r : Int)) H.blk
  have q2 := heap_setCell_same _ b (o + 3) _ _ (.int .u64 (s : Int)) q1
  have e : (cs.setIfInBounds (o + 4) (.int .i64 (r : Int))).setIfInBounds (o + 3) (.int .u64 (s : Int)) = fset cs o s r wv := by
    apply Array.ext_getElem?
    intro j
    by_cases h3 : j < o + 3 ∨ o + 6 ≤ j
    · rw [fset_ne _ _ _ _ _ _ h3, Array.getElem?_setIfInBounds_ne (by omega), Array.getElem?_setIfInBounds_ne (by omega)]
    · rcases (show j = o + 3 ∨ j = o + 4 ∨ j = o + 5 by omega) with rfl | rfl | rfl
      · rw [fset_3 _ _ _ _ _ hi5, Array.getElem?_setIfInBounds_self_of_lt (by rw [Array.size_setIfInBounds]; omega)]
      · rw [fset_4 _ _ _ _ _ hi5, Array.getElem?_setIfInBounds_ne (by omega), Array.getElem?_setIfInBounds_self_of_lt (by omega)]
      · rw [fset_5 _ _ _ _ _ hi5, Array.getElem?_setIfInBounds_ne (by omega), Array.getElem?_setIfInBounds_ne (by omega)]; exact H.c5
  rw [e] at q2
  refine ⟨⟨q2, H.ty, (fset_ne _ _ _ _ _ _ (by omega)).trans H.c0, (fset_ne _ _ _ _ _ _ (by omega)).trans H.c1, (fset_ne _ _ _ _ _ _ (by omega)).trans H.c2, fset_3 _ _ _ _ _ hi5, fset_4 _ _ _ _ _ hi5, fset_5 _ _ _ _ _ hi5, ?_, Nat.le_trans H.big ((WK.set (Bo := Bo) _).trans (WK.set _)).size⟩, (WK.set _).trans (WK.set _)⟩
  exact own_set (own_set H.own H.bytesNe) (fun ⟨cs', fz', e'⟩ => by rw [q1] at e'; cases e'; exact H.ty.2.2.2.2 rfl)

set_option maxHeartbeats 2000000 in
set_option maxRecDepth 100000 in
theorem Load_ok {Bo : Nat} (b o : Nat) (cs : Array Value) (T : TypeId) (p : Nat) (n h : ByteArray) (sum wr : Nat) (wv : Value) (W : List UInt8) (S : DS) (N : Nat) (a bb : Addr) (f : DFile) (Z0 body : List UInt8) (w : World) (H : FileAt Bo w b o cs T p n h sum wr wv W)
    (hg : Gs w a bb) (hD : Disk Bo w p S) (ho : S.Ok N) (hN : N ≤ 1000000) (hF : S.Fine) (hl : S.look n = some f) (hfd : f.data.data.toList = Z0 ++ [10] ++ sealL (Z0.length + 1) (sumL 14695981039346656037 (Z0 ++ [10]))) (hZ : Z0 ++ [10] = h.data.toList ++ body) (hZl : Z0.length ≤ 1000000) (hb0 : 27 ≤ b) :
    Calls Tryz.prog 63 #[.pointer (some ⟨b, o, none⟩)] w fun e w' => ∃ (B : ByteArray) (s' r' : Nat), e = .returned (.tuple #[.string B, .nilIface]) ∧ B.data.toList = body ∧ FileAt Bo w' b o (fset cs o s' r' wv) T p n h s' r' wv W ∧ WK Bo b w w' := by
  have h0 : w.cell? ⟨b, o, none⟩ = some (.pointer (some ⟨p, 0, none⟩)) := (st_cell H.blk _).trans H.c0
  have h1 : w.cell? ⟨b, o + 1, none⟩ = some (.string n) := (st_cell H.blk _).trans H.c1
  obtain ⟨vF, vN, vS, vT, hDA⟩ := hD
  have hslt : sumL 14695981039346656037 (Z0 ++ [10]) < 18446744073709551616 := sumL_lt _ (by decide) _
  have hsq := seal_len (Z0.length + 1) (sumL 14695981039346656037 (Z0 ++ [10])) (by omega)
  have hts : f.data.size = Z0.length + 1 + (sealL (Z0.length + 1) (sumL 14695981039346656037 (Z0 ++ [10]))).length := by rw [Lib.size_eq, hfd]; simp only [List.length_append, List.length_singleton]
  have csz : ∀ W, Still w W → Calls Tryz.prog 69 #[.pointer (some ⟨p, 0, none⟩), .string n] W fun e w' => e = .returned (.tuple #[.int .i64 (f.data.size : Int), .bool true]) ∧ Still W w' := fun W hW => by
    have := Size_any p S N vF vN vS vT n W (hDA.still hW) ho hN
    rw [size_some hF hl] at this
    exact this
  have crd : ∀ W, Still w W → Calls Tryz.prog 92 #[.pointer (some ⟨p, 0, none⟩), .string n, .int .i64 0, .int .i64 (f.data.size : Int)] W fun e w' => e = .returned (.tuple #[.string f.data, .bool true]) ∧ Still W w' := fun W hW => by
    have := Read_any p S N n W ⟨_, _, _, _, hDA.still hW⟩ ho hN (fun g hg' => by rw [hl] at hg'; cases hg'; omega)
    rw [size_some hF hl, all_some hF hl] at this
    exact this
  have hnd : S.dead = false := by unfold DS.dead; rw [hF.life]; rfl
  have cdd : ∀ W, Still w W → Calls Tryz.prog 37 #[.pointer (some ⟨p, 0, none⟩)] W fun e w' => e = .returned (.bool false) ∧ w' = W := fun W hW => by
    have := Dead_any p S vF vN vS vT W (hDA.still hW)
    rw [hnd] at this
    exact this
  have cli : ∀ W, Calls Tryz.prog 94 #[.string f.data, .string ⟨#[10, 61]⟩] W fun e w' => e = .returned (.int .i64 (Z0.length : Int)) ∧ w' = W := fun W => by
    have := Tryz.strings_LastIndex f.data ⟨#[10, 61]⟩ (by omega) W
    rw [hfd, show (⟨#[10, 61]⟩ : ByteArray).data.toList = [10, 61] from rfl, last_seal _ _ _ hslt] at this
    exact this
  obtain ⟨k, hk⟩ : ∃ k, k = Z0.length + 1 := ⟨_, rfl⟩
  obtain ⟨X1, hX1⟩ : ∃ X1 : ByteArray, X1 = f.data.extract 0 k := ⟨_, rfl⟩
  obtain ⟨X2, hX2⟩ : ∃ X2 : ByteArray, X2 = f.data.extract k f.data.size := ⟨_, rfl⟩
  have d1 : X1.data.toList = Z0 ++ [10] := by rw [hX1, Lib.extract_data, hfd, List.drop_zero, Nat.sub_zero, hk, List.take_left' (by simp)]
  have d2 : X2.data.toList = sealL k (sumL 14695981039346656037 (Z0 ++ [10])) := by rw [hX2, Lib.extract_to_end, hfd, List.drop_left' (by simp; omega), hk]
  have hk2 : k ≤ f.data.size := by omega
  have sl1 : ∀ W : World, (Instr.slice 9 (.string f.data) none (some (.int .i64 (k : Int))) none).run Tryz.prog W = .ok (.string X1) W := fun W => by
    have := run_slice_string_h (P := Tryz.prog) W 9 f.data Tryz.underlying9 .i64 (k : Int) (by omega) (by omega)
    rw [this, hX1, Int.toNat_natCast]
  have sl2 : ∀ W : World, (Instr.slice 9 (.string f.data) (some (.int .i64 (k : Int))) none none).run Tryz.prog W = .ok (.string X2) W := fun W => by
    have := run_slice_string_l (P := Tryz.prog) W 9 f.data Tryz.underlying9 .i64 (k : Int) (by omega) (by omega)
    rw [this, hX2, Int.toNat_natCast]
  have csu : ∀ W, Calls Tryz.prog 83 #[.string X1] W fun e w' => e = .returned (.int .u64 (sumL 14695981039346656037 (Z0 ++ [10]) : Int)) ∧ w' = W := fun W => by
    have := SumOf_any X1 W (by rw [Lib.size_eq, d1]; simp; omega)
    rw [d1] at this
    exact this
  have hpre : Lib.hasPrefix (h.data.toList ++ body) h.data.toList = true := by unfold Lib.hasPrefix; rw [List.isPrefixOf_iff_prefix]; exact List.prefix_append _ _
  have htrm : Lib.trimPrefix (h.data.toList ++ body) h.data.toList = body := by unfold Lib.trimPrefix; rw [if_pos hpre, List.drop_left]
  obtain ⟨B, hB⟩ : ∃ B : ByteArray, B = ⟨body.toArray⟩ := ⟨_, rfl⟩
  have HB : Hid (B.data.toList = body) := by show _ = _; rw [hB]
  have ccp : ∀ W, Calls Tryz.prog 95 #[.string X1, .string h] W fun e w' => e = .returned (.tuple #[.string B, .bool true]) ∧ w' = W := fun W => by
    have := Tryz.strings_CutPrefix X1 h W
    rw [d1, hZ, hpre, htrm, ← hB] at this
    exact this
  obtain ⟨s, hs⟩ : ∃ s, s = sumL 14695981039346656037 (Z0 ++ [10]) := ⟨_, rfl⟩
  rw [← hs] at csu d2 hslt
  have cse : ∀ W', Gs W' a bb → Calls Tryz.prog 96 #[.int .i64 (k : Int), .int .u64 (s : Int)] W' fun e w' => e = .returned (.string X2) ∧ Below W'.heap.size W' w' := fun W' hg' => by
    refine (sealOf_any k s a bb W' (by omega) hslt hg' (by have := seal_len k s (by omega); omega)).mono ?_
    rintro e w' ⟨q, rfl, hq, hb⟩
    refine ⟨?_, hb⟩
    have : q = X2 := by
      apply ByteArray.ext
      apply Array.toList_inj.1
      rw [hq, d2]
    rw [this]
  have cli2 : ∀ W, Calls Tryz.prog 94 #[.string f.data, .string ⟨#[10, 61]⟩] W fun e w' => e = .returned (.int .i64 ((k : Int) - 1)) ∧ w' = W := fun W => by
    have := cli W
    rw [show (Z0.length : Int) = (k : Int) - 1 by omega] at this
    exact this
  obtain ⟨D, hDd⟩ : ∃ D, D = f.data := ⟨_, rfl⟩
  rw [← hDd] at csz crd cli2 sl1 sl2 hk2
  have hDs : D.size ≤ 2000000 := by rw [hDd, hts]; omega
  have hkk : 1 ≤ k := by omega
  have hkm : k ≤ 1000001 := by omega
  have HH : Hid (FileAt Bo w b o cs T p n h sum wr wv W) := H
  have HG : Hid (Gs w a bb) := hg
  have f3 := st_frozen H.blk (o + 3)
  have f4 := st_frozen H.blk (o + 4)
  have e3 : w.cell? ⟨b, o + 3, none⟩ = some (.int .u64 (sum : Int)) := (st_cell H.blk _).trans H.c3
  have e4 : w.cell? ⟨b, o + 4, none⟩ = some (.int .i64 (wr : Int)) := (st_cell H.blk _).trans H.c4
  have e2 : w.cell? ⟨b, o + 2, none⟩ = some (.string h) := (st_cell H.blk _).trans H.c2
  clear hDd hs hk hX1 hX2 d1 d2 hB hpre htrm cli hts hsq hfd hZ hZl hnd hl hF ho hDA H hg
  go_enter Tryz.func63, Tryz.ntmps63
  go_wp2
  go_quiet ((go_at_call 69; exact Still.quiet (csz _ (Still.drewN _ _))))
  obtain ⟨W1, hW1⟩ : ∃ W, W = w.drewN nq := ⟨_, rfl⟩
  have S1 : Still w W1 := by rw [hW1]; exact Still.drewN _ _
  rw [← S1.cell] at h0 h1
  rw [← hW1]
  clear hW1
  go_wp2
  go_quiet ((go_at_call 92; exact Still.quiet (crd _ (S1.trans (Still.drewN _ _)))))
  obtain ⟨W2, hW2⟩ : ∃ W, W = W1.drewN nq := ⟨_, rfl⟩
  have S2 : Still w W2 := by rw [hW2]; exact S1.trans (Still.drewN _ _)
  rw [S1.cell, ← S2.cell] at h0 h1
  rw [← S2.cell] at e2 e3 e4
  have f3' : W2.frozen? ⟨b, o + 3, none⟩ = false := st_frozen ((HH.out.still S2).blk) _
  have f4' : W2.frozen? ⟨b, o + 4, none⟩ = false := st_frozen ((HH.out.still S2).blk) _
  rw [← hW2]
  clear hW2 f3 f4
  go_upto_region 9 with (first | (go_at_call 37; go_must (refine (cdd _ S2).mono ?_; rintro e w3 ⟨rfl, hw3⟩; have hw4 := hw3.symm; subst hw4)) | (go_at_call 94; go_must (refine (cli2 _).mono ?_; rintro e w3 ⟨rfl, hw3⟩; have hw4 := hw3.symm; subst hw4)) | (go_at_call 83; go_must (refine (csu _).mono ?_; rintro e w3 ⟨rfl, hw3⟩; have hw4 := hw3.symm; subst hw4)))
  obtain ⟨H3, K3⟩ := (HH.out.still S2).sets2 s k
  obtain ⟨W3, hW3⟩ : ∃ W3, W3 = (W2.setCell ⟨b, o + 4, none⟩ (.int .i64 (k : Int))).setCell ⟨b, o + 3, none⟩ (.int .u64 (s : Int)) := ⟨_, rfl⟩
  rw [← hW3] at H3 K3 ⊢
  have G3 : Gs W3 a bb := K3.gs (HG.out.kept (Kept.ofStill (Bo := 0) S2)) hb0
  have KW : Hid (WK Bo b w W3) := (WK.ofBelow (S2.below _)).trans K3
  have z2 : W3.cell? ⟨b, o + 2, none⟩ = some (.string h) := (st_cell H3.blk _).trans H3.c2
  have z3 : W3.cell? ⟨b, o + 3, none⟩ = some (.int .u64 (s : Int)) := (st_cell H3.blk _).trans H3.c3
  have z4 : W3.cell? ⟨b, o + 4, none⟩ = some (.int .i64 (k : Int)) := (st_cell H3.blk _).trans H3.c4
  have HH3 : Hid (FileAt Bo W3 b o (fset cs o s k wv) T p n h s k wv W) := H3
  clear hW3 H3 K3 e2 e3 e4 f3' f4' h0 h1 S1 csz crd cdd cli2 csu HH
  go_quiet ((go_at_call 95; exact Calls.quiet_of_same (ccp _)))
  obtain ⟨W4, hW4⟩ : ∃ W, W = W3.drewN nq := ⟨_, rfl⟩
  have S4 : Still W3 W4 := by rw [hW4]; exact Still.drewN _ _
  rw [← hW4]
  clear hW4
  rw [← S4.cell] at z3 z4
  have G4 : Gs W4 a bb := G3.kept (Kept.ofStill (Bo := 0) S4)
  have AK : Hid (∀ W1 : World, Below W4.heap.size W4 W1 → W1.cell? ⟨b, o + 3, none⟩ = some (.int .u64 (s : Int)) ∧ W1.cell? ⟨b, o + 4, none⟩ = some (.int .i64 (k : Int))) := fun W1 hk => by
    have H1 := (HH3.out.still S4).kept (.ofBelow hk)
    exact ⟨(st_cell H1.blk _).trans H1.c3, (st_cell H1.blk _).trans H1.c4⟩
  have hee : (X2.toList != X2.toList) = false := by simp
  clear z2
  go_wp2
  go_region_held3 (fun w' => w'.cell? ⟨b, o + 3, none⟩ = some (.int .u64 (s : Int)) ∧ w'.cell? ⟨b, o + 4, none⟩ = some (.int .i64 (k : Int))) (first | exact AK.out _ ((⟨rfl, rfl, rfl, rfl, Nat.le_add_right _ _⟩ : Still W4 W4.drew).below _) | exact AK.out _ (((⟨rfl, rfl, rfl, rfl, Nat.le_add_right _ _⟩ : Still W4 W4.drew).below _).trans b5)) (first | (go_at_call 96; refine (cse _ ?_).mono ?_; (exact G4.kept (Kept.drew (Bo := 0) _)); rintro e w5 ⟨rfl, b5⟩))
  all_goals
    have hb5 : Below W4.heap.size W4 w5 := ((⟨rfl, rfl, rfl, rfl, Nat.le_add_right _ _⟩ : Still W4 W4.drew).below _).trans b5
    go_wp2
    go_ret2
    exact ⟨B, s, k, rfl, HB.out, (HH3.out.still S4).kept (.ofBelow hb5), KW.out.trans ((WK.ofBelow (S4.below _)).trans (WK.ofBelow hb5))⟩
end Go.Proofs.YtbjgpfhbdmcbbabGreatDoor.files

/-
  CONTRACTS of package files: Load of a file that is whole, but begins otherwise; isGone of what it answers.
-/
namespace Go.Proofs.YtbjgpfhbdmcbbabGreatDoor.files
open Go.RowKit dnamath dna diskm disk keep hex
set_option linter.unusedVariables false

/-- a type whose blocks this program's calls may change -/
def ours (t : TypeId) : Prop := t = 63 ∨ t = 82 ∨ t = 84 ∨ t = 79 ∨ t = 5
/-- where the two errors lie -/
structure Sen (w : World) (a b : Addr) : Prop where
  ne : b ≠ a
  blkA : ∃ cs t, w.heap[a.block]? = some (.cells cs t (0, 0)) ∧ ¬ ours t
  blkB : ∃ cs t, w.heap[b.block]? = some (.cells cs t (0, 0)) ∧ ¬ ours t
theorem Sen.lt {w : World} {a b : Addr} (h : Sen w a b) : a.block < w.heap.size ∧ b.block < w.heap.size := by
  obtain ⟨_, ⟨_, _, h1, _⟩, ⟨_, _, h2, _⟩⟩ := h
  exact ⟨lt_of_block h1, lt_of_block h2⟩
theorem Sen.fk {Bo : Nat} {w w' : World} {a b : Addr} {q : Nat} (h : Sen w a b) (hk : FK Bo q w w') (ha : a.block ≠ q) (hb : b.block ≠ q) : Sen w' a b := by
  have key : ∀ k, k ≠ q → (∃ cs t, w.heap[k]? = some (.cells cs t (0, 0)) ∧ ¬ ours t) → ∃ cs t, w'.heap[k]? = some (.cells cs t (0, 0)) ∧ ¬ ours t := by
    rintro k hkq ⟨cs, t, h1, h2⟩
    refine ⟨cs, t, (hk.block k (lt_of_block h1) hkq ?_ ?_).trans h1, h2⟩
    · rintro ⟨cs', fz', e'⟩
      rw [h1] at e'; cases e'; exact h2 (.inr (.inr (.inr (.inr rfl))))
    · rintro ⟨cs', T', fz', e', hd⟩
      rw [h1] at e'; cases e'
      rcases hd with e | e | e | e
      · exact h2 (.inl e)
      · exact h2 (.inr (.inl e))
      · exact h2 (.inr (.inr (.inl e)))
      · exact h2 (.inr (.inr (.inr (.inl e))))
  exact ⟨h.ne, key _ ha h.blkA, key _ hb h.blkB⟩
theorem Sen.kept {Bo : Nat} {w w' : World} {a b : Addr} (h : Sen w a b) (hk : Kept Bo w w') : Sen w' a b := by
  have hl := h.lt
  exact h.fk (q := w.heap.size) (FK.ofKept hk) (by omega) (by omega)
theorem Sen.below {w w' : World} {a b : Addr} (h : Sen w a b) (hk : Below w.heap.size w w') : Sen w' a b := h.kept (Kept.ofBelow (Bo := 0) hk)
theorem Sen.wk {Bo : Nat} {w w' : World} {a b : Addr} {q : Nat} (h : Sen w a b) (hk : WK Bo q w w') (ha : a.block ≠ q) (hb : b.block ≠ q) : Sen w' a b := h.fk (FK.ofWK hk) ha hb

set_option maxHeartbeats 400000 in
set_option maxRecDepth 100000 in
theorem isGone_broken (a b : Addr) (v : Value) (w : World) (hg : Gs w a b) (hs : Sen w a b) (h : Gone w b v) :
    Calls Tryz.prog 55 #[v] w fun e w' => e = .returned (.bool true) ∧ w' = w := by
  obtain ⟨eb, n, s, rfl, h⟩ := h
  have ha := hg.absentC
  have hb := hg.brokenC
  have hc : w.cell? ⟨eb, 2, none⟩ = some (.iface 254 (.pointer (some b))) := st_cell h 2
  obtain ⟨ca, ta, hA, _⟩ := hs.blkA
  obtain ⟨cb, tb, hB, _⟩ := hs.blkB
  have c1 := errs.is_wrap_other eb a b w hc hs.ne hA hB
  have c2 := errs.is_wrap eb b w hc
  clear hg hc h hA hB hs
  go_enter Tryz.func55, Tryz.ntmps55
  go_wp2_with fail
  refine c1.mono ?_
  rintro e w' ⟨rfl, hw'⟩
  have hw2 := hw'.symm
  subst hw2
  go_wp2_with fail
  refine c2.mono ?_
  rintro e w' ⟨rfl, hw'⟩
  have hw2 := hw'.symm
  subst hw2
  go_wp2
  go_ret
  exact ⟨rfl, rfl⟩

set_option maxHeartbeats 400000 in
set_option maxRecDepth 100000 in
theorem Broken_any (b o : Nat) (n : ByteArray) (T : TypeId) (v : Value) (w : World) (h1 : w.cell? ⟨b, o + 1, none⟩ = some (.string n)) :
    Calls Tryz.prog 66 #[.pointer (some ⟨b, o, none⟩), .iface T v] w fun e w' => e = .returned (.iface 85 (.pointer (some ⟨w.heap.size, 0, none⟩))) ∧ w' = w.alloc (.cells #[.int .i64 6, .string n, .iface T v] 89) := by
  have cn := New_any 6 n T v w
  go_enter Tryz.func66, Tryz.ntmps66
  go_wp2_with (go_at_call 34; go_must (refine cn.mono ?_; rintro e w1 ⟨rfl, rfl⟩))
  go_ret
  exact ⟨rfl, rfl⟩

set_option maxHeartbeats 2000000 in
set_option maxRecDepth 100000 in
theorem Load_broken {Bo : Nat} (b o : Nat) (cs : Array Value) (T : TypeId) (p : Nat) (n h : ByteArray) (sum wr : Nat) (wv : Value) (W : List UInt8) (S : DS) (N : Nat) (a bb : Addr) (f : DFile) (Z0 : List UInt8) (w : World) (H : FileAt Bo w b o cs T p n h sum wr wv W)
    (hg : Gs w a bb) (hD : Disk Bo w p S) (ho : S.Ok N) (hN : N ≤ 1000000) (hF : S.Fine) (hl : S.look n = some f) (hfd : f.data.data.toList = Z0 ++ [10] ++ sealL (Z0.length + 1) (sumL 14695981039346656037 (Z0 ++ [10]))) (hpre : Lib.hasPrefix (Z0 ++ [10]) h.data.toList = false) (hZl : Z0.length ≤ 1000000) (hb0 : 27 ≤ b) :
    Calls Tryz.prog 63 #[.pointer (some ⟨b, o, none⟩)] w fun e w' => ∃ (v : Value) (s' r' : Nat), e = .returned (.tuple #[.string ⟨#[]⟩, v]) ∧ Gone w' bb v ∧ FileAt Bo w' b o (fset cs o s' r' wv) T p n h s' r' wv W ∧ WK Bo b w w' := by
  have h0 : w.cell? ⟨b, o, none⟩ = some (.pointer (some ⟨p, 0, none⟩)) := (st_cell H.blk _).trans H.c0
  have h1 : w.cell? ⟨b, o + 1, none⟩ = some (.string n) := (st_cell H.blk _).trans H.c1
  obtain ⟨vF, vN, vS, vT, hDA⟩ := hD
  have hslt : sumL 14695981039346656037 (Z0 ++ [10]) < 18446744073709551616 := sumL_lt _ (by decide) _
  have hsq := seal_len (Z0.length + 1) (sumL 14695981039346656037 (Z0 ++ [10])) (by omega)
  have hts : f.data.size = Z0.length + 1 + (sealL (Z0.length + 1) (sumL 14695981039346656037 (Z0 ++ [10]))).length := by rw [Lib.size_eq, hfd]; simp only [List.length_append, List.length_singleton]
  have csz : ∀ W, Still w W → Calls Tryz.prog 69 #[.pointer (some ⟨p, 0, none⟩), .string n] W fun e w' => e = .returned (.tuple #[.int .i64 (f.data.size : Int), .bool true]) ∧ Still W w' := fun W hW => by
    have := Size_any p S N vF vN vS vT n W (hDA.still hW) ho hN
    rw [size_some hF hl] at this
    exact this
  have crd : ∀ W, Still w W → Calls Tryz.prog 92 #[.pointer (some ⟨p, 0, none⟩), .string n, .int .i64 0, .int .i64 (f.data.size : Int)] W fun e w' => e = .returned (.tuple #[.string f.data, .bool true]) ∧ Still W w' := fun W hW => by
    have := Read_any p S N n W ⟨_, _, _, _, hDA.still hW⟩ ho hN (fun g hg' => by rw [hl] at hg'; cases hg'; omega)
    rw [size_some hF hl, all_some hF hl] at this
    exact this
  have hnd : S.dead = false := by unfold DS.dead; rw [hF.life]; rfl
  have cdd : ∀ W, Still w W → Calls Tryz.prog 37 #[.pointer (some ⟨p, 0, none⟩)] W fun e w' => e = .returned (.bool false) ∧ w' = W := fun W hW => by
    have := Dead_any p S vF vN vS vT W (hDA.still hW)
    rw [hnd] at this
    exact this
  have cli : ∀ W, Calls Tryz.prog 94 #[.string f.data, .string ⟨#[10, 61]⟩] W fun e w' => e = .returned (.int .i64 (Z0.length : Int)) ∧ w' = W := fun W => by
    have := Tryz.strings_LastIndex f.data ⟨#[10, 61]⟩ (by omega) W
    rw [hfd, show (⟨#[10, 61]⟩ : ByteArray).data.toList = [10, 61] from rfl, last_seal _ _ _ hslt] at this
    exact this
  obtain ⟨k, hk⟩ : ∃ k, k = Z0.length + 1 := ⟨_, rfl⟩
  obtain ⟨X1, hX1⟩ : ∃ X1 : ByteArray, X1 = f.data.extract 0 k := ⟨_, rfl⟩
  have d1 : X1.data.toList = Z0 ++ [10] := by rw [hX1, Lib.extract_data, hfd, List.drop_zero, Nat.sub_zero, hk, List.take_left' (by simp)]
  have hk2 : k ≤ f.data.size := by omega
  have sl1 : ∀ W : World, (Instr.slice 9 (.string f.data) none (some (.int .i64 (k : Int))) none).run Tryz.prog W = .ok (.string X1) W := fun W => by
    have := run_slice_string_h (P := Tryz.prog) W 9 f.data Tryz.underlying9 .i64 (k : Int) (by omega) (by omega)
    rw [this, hX1, Int.toNat_natCast]
  have csu : ∀ W, Calls Tryz.prog 83 #[.string X1] W fun e w' => e = .returned (.int .u64 (sumL 14695981039346656037 (Z0 ++ [10]) : Int)) ∧ w' = W := fun W => by
    have := SumOf_any X1 W (by rw [Lib.size_eq, d1]; simp; omega)
    rw [d1] at this
    exact this
  obtain ⟨B, hB⟩ : ∃ B : ByteArray, B = ⟨(Lib.trimPrefix (Z0 ++ [10]) h.data.toList).toArray⟩ := ⟨_, rfl⟩
  have ccp : ∀ W, Calls Tryz.prog 95 #[.string X1, .string h] W fun e w' => e = .returned (.tuple #[.string B, .bool false]) ∧ w' = W := fun W => by
    have := Tryz.strings_CutPrefix X1 h W
    rw [d1, hpre, ← hB] at this
    exact this
  obtain ⟨s, hs⟩ : ∃ s, s = sumL 14695981039346656037 (Z0 ++ [10]) := ⟨_, rfl⟩
  rw [← hs] at csu hslt
  have cli2 : ∀ W, Calls Tryz.prog 94 #[.string f.data, .string ⟨#[10, 61]⟩] W fun e w' => e = .returned (.int .i64 ((k : Int) - 1)) ∧ w' = W := fun W => by
    have := cli W
    rw [show (Z0.length : Int) = (k : Int) - 1 by omega] at this
    exact this
  obtain ⟨D, hDd⟩ : ∃ D, D = f.data := ⟨_, rfl⟩
  rw [← hDd] at csz crd cli2 sl1 hk2
  have hDs : D.size ≤ 2000000 := by rw [hDd, hts]; omega
  have hkk : 1 ≤ k := by omega
  have hkm : k ≤ 1000001 := by omega
  have HH : Hid (FileAt Bo w b o cs T p n h sum wr wv W) := H
  have HG : Hid (Gs w a bb) := hg
  have f3 := st_frozen H.blk (o + 3)
  have f4 := st_frozen H.blk (o + 4)
  have e3 : w.cell? ⟨b, o + 3, none⟩ = some (.int .u64 (sum : Int)) := (st_cell H.blk _).trans H.c3
  have e4 : w.cell? ⟨b, o + 4, none⟩ = some (.int .i64 (wr : Int)) := (st_cell H.blk _).trans H.c4
  have e2 : w.cell? ⟨b, o + 2, none⟩ = some (.string h) := (st_cell H.blk _).trans H.c2
  clear hDd hs hk hX1 d1 hB hpre cli hts hsq hfd hZl hnd hl hF ho hDA H hg
  go_enter Tryz.func63, Tryz.ntmps63
  go_wp2
  go_quiet ((go_at_call 69; exact Still.quiet (csz _ (Still.drewN _ _))))
  obtain ⟨W1, hW1⟩ : ∃ W, W = w.drewN nq := ⟨_, rfl⟩
  have S1 : Still w W1 := by rw [hW1]; exact Still.drewN _ _
  rw [← S1.cell] at h0 h1
  rw [← hW1]
  clear hW1
  go_wp2
  go_quiet ((go_at_call 92; exact Still.quiet (crd _ (S1.trans (Still.drewN _ _)))))
  obtain ⟨W2, hW2⟩ : ∃ W, W = W1.drewN nq := ⟨_, rfl⟩
  have S2 : Still w W2 := by rw [hW2]; exact S1.trans (Still.drewN _ _)
  rw [S1.cell, ← S2.cell] at h0 h1
  rw [← S2.cell] at e2 e3 e4
  have f3' : W2.frozen? ⟨b, o + 3, none⟩ = false := st_frozen ((HH.out.still S2).blk) _
  have f4' : W2.frozen? ⟨b, o + 4, none⟩ = false := st_frozen ((HH.out.still S2).blk) _
  rw [← hW2]
  clear hW2 f3 f4
  go_upto_region 9 with (first | (go_at_call 37; go_must (refine (cdd _ S2).mono ?_; rintro e w3 ⟨rfl, hw3⟩; have hw4 := hw3.symm; subst hw4)) | (go_at_call 94; go_must (refine (cli2 _).mono ?_; rintro e w3 ⟨rfl, hw3⟩; have hw4 := hw3.symm; subst hw4)) | (go_at_call 83; go_must (refine (csu _).mono ?_; rintro e w3 ⟨rfl, hw3⟩; have hw4 := hw3.symm; subst hw4)))
  obtain ⟨H3, K3⟩ := (HH.out.still S2).sets2 s k
  obtain ⟨W3, hW3⟩ : ∃ W3, W3 = (W2.setCell ⟨b, o + 4, none⟩ (.int .i64 (k : Int))).setCell ⟨b, o + 3, none⟩ (.int .u64 (s : Int)) := ⟨_, rfl⟩
  rw [← hW3] at H3 K3 ⊢
  have G3 : Gs W3 a bb := K3.gs (HG.out.kept (Kept.ofStill (Bo := 0) S2)) hb0
  have KW : Hid (WK Bo b w W3) := (WK.ofBelow (S2.below _)).trans K3
  have z2 : W3.cell? ⟨b, o + 2, none⟩ = some (.string h) := (st_cell H3.blk _).trans H3.c2
  have z4 : W3.cell? ⟨b, o + 4, none⟩ = some (.int .i64 (k : Int)) := (st_cell H3.blk _).trans H3.c4
  have HH3 : Hid (FileAt Bo W3 b o (fset cs o s k wv) T p n h s k wv W) := H3
  clear hW3 H3 K3 e2 e3 e4 f3' f4' h0 h1 S1 csz crd cdd cli2 csu HH
  go_quiet ((go_at_call 95; exact Calls.quiet_of_same (ccp _)))
  obtain ⟨W4, hW4⟩ : ∃ W, W = W3.drewN nq := ⟨_, rfl⟩
  have S4 : Still W3 W4 := by rw [hW4]; exact Still.drewN _ _
  rw [← hW4]
  clear hW4 z2 z4
  go_wp2
  go_quiet (fail)
  obtain ⟨W5, hW5⟩ : ∃ W, W = W4.drewN nq := ⟨_, rfl⟩
  have S5 : Still W3 W5 := by rw [hW5]; exact S4.trans (Still.drewN _ _)
  rw [← hW5]
  clear hW5 S4
  have H5 := HH3.out.still S5
  have G5 : Gs W5 a bb := G3.kept (Kept.ofStill (Bo := 0) S5)
  have g5 := G5.brokenC
  have h15 : W5.cell? ⟨b, o + 1, none⟩ = some (.string n) := (st_cell H5.blk _).trans H5.c1
  have cb := Broken_any b o n 254 (.pointer (some bb)) W5 h15
  have HH5 : Hid (FileAt Bo W5 b o (fset cs o s k wv) T p n h s k wv W) := H5
  clear H5 h15 G3 G5
  go_wp2_with (go_at_call 66; go_must (refine cb.mono ?_; rintro e w6 ⟨rfl, hw6⟩))
  go_ret2
  have hb6 : Below W5.heap.size W5 w6 := by rw [hw6]; exact (Below.refl _ _).alloc (Nat.le_refl _) _
  rw [← hw6]
  refine ⟨_, s, k, rfl, ⟨_, 6, n, rfl, by rw [hw6]; exact heap_alloc_new _ _⟩, HH5.out.kept (.ofBelow hb6), KW.out.trans ((WK.ofBelow (S5.below _)).trans (WK.ofBelow hb6))⟩
end Go.Proofs.YtbjgpfhbdmcbbabGreatDoor.files

/-
  CONTRACTS of package disk: New, Copy.
-/
namespace Go.Proofs.YtbjgpfhbdmcbbabGreatDoor.disk
open Go.RowKit dnamath dna diskm
set_option linter.unusedVariables false

def newDisk (c : Int) : DS := ⟨c, [], [], [], [], -1, -1, 0⟩

set_option maxHeartbeats 400000 in
set_option maxRecDepth 100000 in
theorem New_any {Bo : Nat} (c : Int) (w : World) (hB : Bo ≤ w.heap.size) :
    Calls Tryz.prog 10 #[.int .i64 c] w fun e w' => ∃ p, e = .returned (.pointer (some ⟨p, 0, none⟩)) ∧ Disk Bo w' p (newDisk c) ∧ Below w.heap.size w w' := by
  go_enter Tryz.func10, Tryz.ntmps10
  go_wp2
  go_ret
  exact ⟨_, rfl, ⟨.slice none 0 0, .slice none 0 0, .slice none 0 0, .slice none 0 0, heap_alloc_new _ _, World.ownsRow_nil _ _ _ _, World.ownsRow_nil _ _ _ _, World.ownsRow_nil _ _ _ _, World.ownsRow_nil _ _ _ _, hB⟩, (Below.refl _ w).alloc (Nat.le_refl _) _⟩

theorem own_news {w : World} {bs : Nat} {e : TypeId} {s n : Nat} {ad : Addr} {c : Nat} {xs : List Value} (h : w.ownsRow bs e s (.slice (some ad) n c) n xs) : ∀ j u, xs[j]? = some u → w.cell? (ad.add j) = some u := by
  rcases h.2 with ⟨h1, _⟩ | ⟨g, cap, cur, h1, _⟩
  · cases h1
  · cases h1; exact h.cells rfl
theorem one_ncells (l : List DName) : ∀ u ∈ ncells l, u.oneCell' = true := by
  intro u hu
  simp only [ncells, List.mem_flatMap, ncell] at hu
  obtain ⟨x, _, hu⟩ := hu
  simp at hu
  rcases hu with rfl | rfl <;> rfl
theorem one_fcells (l : List DFile) : ∀ u ∈ fcells l, u.oneCell' = true := by
  intro u hu
  simp only [fcells, List.mem_flatMap, fcell] at hu
  obtain ⟨x, _, hu⟩ := hu
  simp at hu
  rcases hu with rfl | rfl <;> rfl
theorem one_tcells (l : List DStep) : ∀ u ∈ tcells l, u.oneCell' = true := by
  intro u hu
  simp only [tcells, List.mem_flatMap, tcell] at hu
  obtain ⟨x, _, hu⟩ := hu
  simp at hu
  rcases hu with rfl | rfl | rfl | rfl <;> rfl
end Go.Proofs.YtbjgpfhbdmcbbabGreatDoor.disk
