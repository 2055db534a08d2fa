import Derived.Test.YtbjgpfhbdmcbbabGreatDoorP17
import Derived.Test.YtbjgpfhbdmcbbabGreatDoorP11
import Derived.Test.YtbjgpfhbdmcbbabGreatDoorP20

/-
  CONTRACTS that only read, on a disk that is not dead: Load.
-/
namespace Go.Proofs.YtbjgpfhbdmcbbabGreatDoor.files
open Go.RowKit dnamath dna diskm disk keep hex
set_option linter.unusedVariables false

theorem size_some_l {S : DS} {n : ByteArray} {f : DFile} (hF : S.dead = false) (h : S.look n = some f) : S.size n = ((f.data.size : Int), true) := by
  unfold DS.size; rw [h]
  have : S.dead = false := hF
  simp [this]

theorem all_some_l {S : DS} {n : ByteArray} {f : DFile} (hF : S.dead = false) (h : S.look n = some f) : DS.all S n = (f.data, true) := by
  unfold DS.all; rw [h]
  have : S.dead = false := hF
  simp [this]

set_option maxHeartbeats 1000000 in
set_option maxRecDepth 100000 in
theorem Load_absent_l {Bo : Nat} (b o p : Nat) (S : DS) (N : Nat) (n h : ByteArray) (a bb : Addr) (w : World) (hD : Disk Bo w p S) (ho : S.Ok N) (hN : N ≤ 1000000) (hF : S.dead = false) (hg : Gs w a bb)
    (h0 : w.cell? ⟨b, o, none⟩ = some (.pointer (some ⟨p, 0, none⟩))) (h1 : w.cell? ⟨b, o + 1, none⟩ = some (.string n)) (hl : S.look n = none) :
    Calls Tryz.prog 63 #[.pointer (some ⟨b, o, none⟩)] w fun e w' => ∃ v, e = .returned (.tuple #[.string ⟨#[]⟩, v]) ∧ Gone w' a v ∧ Below w.heap.size w w' := by
  have hs0 := size_none hl
  have ha0 := all_none hl
  obtain ⟨vF, vN, vS, vT, hDA⟩ := hD
  have csz : ∀ W, Still w W → Calls Tryz.prog 69 #[.pointer (some ⟨p, 0, none⟩), .string n] W fun e w' => e = .returned (.tuple #[.int .i64 0, .bool false]) ∧ Still W w' := fun W hW => by
    have := Size_any p S N vF vN vS vT n W (hDA.still hW) ho hN
    rw [hs0] at this
    exact this
  have crd : ∀ W, Still w W → Calls Tryz.prog 92 #[.pointer (some ⟨p, 0, none⟩), .string n, .int .i64 0, .int .i64 0] W fun e w' => e = .returned (.tuple #[.string ⟨#[]⟩, .bool false]) ∧ Still W w' := fun W hW => by
    have := Read_any p S N n W ⟨_, _, _, _, hDA.still hW⟩ ho hN (fun f hf => by rw [hl] at hf; cases hf)
    rw [hs0, ha0] at this
    exact this
  have hnd : S.dead = false := hF
  have cdd : ∀ W, Still w W → Calls Tryz.prog 37 #[.pointer (some ⟨p, 0, none⟩)] W fun e w' => e = .returned (.bool false) ∧ w' = W := fun W hW => by
    have := Dead_any p S vF vN vS vT W (hDA.still hW)
    rw [hnd] at this
    exact this
  have hab := hg.absentC
  clear hs0 ha0 hnd hl hF ho hDA hg
  go_enter Tryz.func63, Tryz.ntmps63
  go_wp2
  go_quiet ((go_at_call 69; exact Still.quiet (csz _ (Still.drewN _ _))))
  obtain ⟨W1, hW1⟩ : ∃ W, W = w.drewN nq := ⟨_, rfl⟩
  have S1 : Still w W1 := by rw [hW1]; exact Still.drewN _ _
  rw [← S1.cell] at h0 h1 hab
  rw [← hW1]
  clear hW1
  go_wp2
  go_quiet ((go_at_call 92; exact Still.quiet (crd _ (S1.trans (Still.drewN _ _)))))
  obtain ⟨W2, hW2⟩ : ∃ W, W = W1.drewN nq := ⟨_, rfl⟩
  have S2 : Still w W2 := by rw [hW2]; exact S1.trans (Still.drewN _ _)
  rw [S1.cell, ← S2.cell] at h0 h1 hab
  rw [← hW2]
  clear hW2
  go_wp2_with (go_at_call 37; go_must (refine (cdd _ S2).mono ?_; rintro e w3 ⟨rfl, hw3⟩; have hw4 := hw3.symm; subst hw4))
  go_region_with (go_at_call 34; go_must (refine (New_any _ _ _ _ _).mono ?_; rintro e w4 ⟨rfl, rfl⟩))
  all_goals
    go_wp2
    go_ret2
    refine ⟨_, rfl, ⟨_, _, _, rfl, heap_alloc_new _ _⟩, ?_⟩
    exact (S2.below _).trans (((⟨rfl, rfl, rfl, rfl, Nat.le_add_right _ _⟩ : Still W2 W2.drew).below _).trans ((Below.refl _ _).alloc (by rw [show W2.drew.heap = W2.heap from rfl, S2.heap]; exact Nat.le_refl _) _))

set_option maxHeartbeats 2000000 in
set_option maxRecDepth 100000 in
theorem Load_ok_l {Bo : Nat} (b o : Nat) (cs : Array Value) (T : TypeId) (p : Nat) (n h : ByteArray) (sum wr : Nat) (wv : Value) (W : List UInt8) (S : DS) (N : Nat) (a bb : Addr) (f : DFile) (Z0 body : List UInt8) (w : World) (H : FileAt Bo w b o cs T p n h sum wr wv W)
    (hg : Gs w a bb) (hD : Disk Bo w p S) (ho : S.Ok N) (hN : N ≤ 1000000) (hF : S.dead = false) (hl : S.look n = some f) (hfd : f.data.data.toList = Z0 ++ [10] ++ sealL (Z0.length + 1) (sumL 14695981039346656037 (Z0 ++ [10]))) (hZ : Z0 ++ [10] = h.data.toList ++ body) (hZl : Z0.length ≤ 1000000) (hb0 : 27 ≤ b) :
    Calls Tryz.prog 63 #[.pointer (some ⟨b, o, none⟩)] w fun e w' => ∃ (B : ByteArray) (s' r' : Nat), e = .returned (.tuple #[.string B, .nilIface]) ∧ B.data.toList = body ∧ FileAt Bo w' b o (fset cs o s' r' wv) T p n h s' r' wv W ∧ WK Bo b w w' := by
  have h0 : w.cell? ⟨b, o, none⟩ = some (.pointer (some ⟨p, 0, none⟩)) := (st_cell H.blk _).trans H.c0
  have h1 : w.cell? ⟨b, o + 1, none⟩ = some (.string n) := (st_cell H.blk _).trans H.c1
  obtain ⟨vF, vN, vS, vT, hDA⟩ := hD
  have hslt : sumL 14695981039346656037 (Z0 ++ [10]) < 18446744073709551616 := sumL_lt _ (by decide) _
  have hsq := seal_len (Z0.length + 1) (sumL 14695981039346656037 (Z0 ++ [10])) (by omega)
  have hts : f.data.size = Z0.length + 1 + (sealL (Z0.length + 1) (sumL 14695981039346656037 (Z0 ++ [10]))).length := by rw [Lib.size_eq, hfd]; simp only [List.length_append, List.length_singleton]
  have csz : ∀ W, Still w W → Calls Tryz.prog 69 #[.pointer (some ⟨p, 0, none⟩), .string n] W fun e w' => e = .returned (.tuple #[.int .i64 (f.data.size : Int), .bool true]) ∧ Still W w' := fun W hW => by
    have := Size_any p S N vF vN vS vT n W (hDA.still hW) ho hN
    rw [size_some_l hF hl] at this
    exact this
  have crd : ∀ W, Still w W → Calls Tryz.prog 92 #[.pointer (some ⟨p, 0, none⟩), .string n, .int .i64 0, .int .i64 (f.data.size : Int)] W fun e w' => e = .returned (.tuple #[.string f.data, .bool true]) ∧ Still W w' := fun W hW => by
    have := Read_any p S N n W ⟨_, _, _, _, hDA.still hW⟩ ho hN (fun g hg' => by rw [hl] at hg'; cases hg'; omega)
    rw [size_some_l hF hl, all_some_l hF hl] at this
    exact this
  have hnd : S.dead = false := hF
  have cdd : ∀ W, Still w W → Calls Tryz.prog 37 #[.pointer (some ⟨p, 0, none⟩)] W fun e w' => e = .returned (.bool false) ∧ w' = W := fun W hW => by
    have := Dead_any p S vF vN vS vT W (hDA.still hW)
    rw [hnd] at this
    exact this
  have cli : ∀ W, Calls Tryz.prog 94 #[.string f.data, .string ⟨#[10, 61]⟩] W fun e w' => e = .returned (.int .i64 (Z0.length : Int)) ∧ w' = W := fun W => by
    have := Tryz.strings_LastIndex f.data ⟨#[10, 61]⟩ (by omega) W
    rw [hfd, show (⟨#[10, 61]⟩ : ByteArray).data.toList = [10, 61] from rfl, last_seal _ _ _ hslt] at this
    exact this
  obtain ⟨k, hk⟩ : ∃ k, k = Z0.length + 1 := ⟨_, rfl⟩
  obtain ⟨X1, hX1⟩ : ∃ X1 : ByteArray, X1 = f.data.extract 0 k := ⟨_, rfl⟩
  obtain ⟨X2, hX2⟩ : ∃ X2 : ByteArray, X2 = f.data.extract k f.data.size := ⟨_, rfl⟩
  have d1 : X1.data.toList = Z0 ++ [10] := by rw [hX1, Lib.extract_data, hfd, List.drop_zero, Nat.sub_zero, hk, List.take_left' (by simp)]
  have d2 : X2.data.toList = sealL k (sumL 14695981039346656037 (Z0 ++ [10])) := by rw [hX2, Lib.extract_to_end, hfd, List.drop_left' (by simp; omega), hk]
  have hk2 : k ≤ f.data.size := by omega
  have sl1 : ∀ W : World, (Instr.slice 9 (.string f.data) none (some (.int .i64 (k : Int))) none).run Tryz.prog W = .ok (.string X1) W := fun W => by
    have := run_slice_string_h (P := Tryz.prog) W 9 f.data Tryz.underlying9 .i64 (k : Int) (by omega) (by omega)
    rw [this, hX1, Int.toNat_natCast]
  have sl2 : ∀ W : World, (Instr.slice 9 (.string f.data) (some (.int .i64 (k : Int))) none none).run Tryz.prog W = .ok (.string X2) W := fun W => by
    have := run_slice_string_l (P := Tryz.prog) W 9 f.data Tryz.underlying9 .i64 (k : Int) (by omega) (by omega)
    rw [this, hX2, Int.toNat_natCast]
  have csu : ∀ W, Calls Tryz.prog 83 #[.string X1] W fun e w' => e = .returned (.int .u64 (sumL 14695981039346656037 (Z0 ++ [10]) : Int)) ∧ w' = W := fun W => by
    have := SumOf_any X1 W (by rw [Lib.size_eq, d1]; simp; omega)
    rw [d1] at this
    exact this
  have hpre : Lib.hasPrefix (h.data.toList ++ body) h.data.toList = true := by unfold Lib.hasPrefix; rw [List.isPrefixOf_iff_prefix]; exact List.prefix_append _ _
  have htrm : Lib.trimPrefix (h.data.toList ++ body) h.data.toList = body := by unfold Lib.trimPrefix; rw [if_pos hpre, List.drop_left]
  obtain ⟨B, hB⟩ : ∃ B : ByteArray, B = ⟨body.toArray⟩ := ⟨_, rfl⟩
  have HB : Hid (B.data.toList = body) := by show _ = _; rw [hB]
  have ccp : ∀ W, Calls Tryz.prog 95 #[.string X1, .string h] W fun e w' => e = .returned (.tuple #[.string B, .bool true]) ∧ w' = W := fun W => by
    have := Tryz.strings_CutPrefix X1 h W
    rw [d1, hZ, hpre, htrm, ← hB] at this
    exact this
  obtain ⟨s, hs⟩ : ∃ s, s = sumL 14695981039346656037 (Z0 ++ [10]) := ⟨_, rfl⟩
  rw [← hs] at csu d2 hslt
  have cse : ∀ W', Gs W' a bb → Calls Tryz.prog 96 #[.int .i64 (k : Int), .int .u64 (s : Int)] W' fun e w' => e = .returned (.string X2) ∧ Below W'.heap.size W' w' := fun W' hg' => by
    refine (sealOf_any k s a bb W' (by omega) hslt hg' (by have := seal_len k s (by omega); omega)).mono ?_
    rintro e w' ⟨q, rfl, hq, hb⟩
    refine ⟨?_, hb⟩
    have : q = X2 := by
      apply ByteArray.ext
      apply Array.toList_inj.1
      rw [hq, d2]
    rw [this]
  have cli2 : ∀ W, Calls Tryz.prog 94 #[.string f.data, .string ⟨#[10, 61]⟩] W fun e w' => e = .returned (.int .i64 ((k : Int) - 1)) ∧ w' = W := fun W => by
    have := cli W
    rw [show (Z0.length : Int) = (k : Int) - 1 by omega] at this
    exact this
  obtain ⟨D, hDd⟩ : ∃ D, D = f.data := ⟨_, rfl⟩
  rw [← hDd] at csz crd cli2 sl1 sl2 hk2
  have hDs : D.size ≤ 2000000 := by rw [hDd, hts]; omega
  have hkk : 1 ≤ k := by omega
  have hkm : k ≤ 1000001 := by omega
  have HH : Hid (FileAt Bo w b o cs T p n h sum wr wv W) := H
  have HG : Hid (Gs w a bb) := hg
  have f3 := st_frozen H.blk (o + 3)
  have f4 := st_frozen H.blk (o + 4)
  have e3 : w.cell? ⟨b, o + 3, none⟩ = some (.int .u64 (sum : Int)) := (st_cell H.blk _).trans H.c3
  have e4 : w.cell? ⟨b, o + 4, none⟩ = some (.int .i64 (wr : Int)) := (st_cell H.blk _).trans H.c4
  have e2 : w.cell? ⟨b, o + 2, none⟩ = some (.string h) := (st_cell H.blk _).trans H.c2
  clear hDd hs hk hX1 hX2 d1 d2 hB hpre htrm cli hts hsq hfd hZ hZl hnd hl hF ho hDA H hg
  go_enter Tryz.func63, Tryz.ntmps63
  go_wp2
  go_quiet ((go_at_call 69; exact Still.quiet (csz _ (Still.drewN _ _))))
  obtain ⟨W1, hW1⟩ : ∃ W, W = w.drewN nq := ⟨_, rfl⟩
  have S1 : Still w W1 := by rw [hW1]; exact Still.drewN _ _
  rw [← S1.cell] at h0 h1
  rw [← hW1]
  clear hW1
  go_wp2
  go_quiet ((go_at_call 92; exact Still.quiet (crd _ (S1.trans (Still.drewN _ _)))))
  obtain ⟨W2, hW2⟩ : ∃ W, W = W1.drewN nq := ⟨_, rfl⟩
  have S2 : Still w W2 := by rw [hW2]; exact S1.trans (Still.drewN _ _)
  rw [S1.cell, ← S2.cell] at h0 h1
  rw [← S2.cell] at e2 e3 e4
  have f3' : W2.frozen? ⟨b, o + 3, none⟩ = false := st_frozen ((HH.out.still S2).blk) _
  have f4' : W2.frozen? ⟨b, o + 4, none⟩ = false := st_frozen ((HH.out.still S2).blk) _
  rw [← hW2]
  clear hW2 f3 f4
  go_upto_region 9 with (first | (go_at_call 37; go_must (refine (cdd _ S2).mono ?_; rintro e w3 ⟨rfl, hw3⟩; have hw4 := hw3.symm; subst hw4)) | (go_at_call 94; go_must (refine (cli2 _).mono ?_; rintro e w3 ⟨rfl, hw3⟩; have hw4 := hw3.symm; subst hw4)) | (go_at_call 83; go_must (refine (csu _).mono ?_; rintro e w3 ⟨rfl, hw3⟩; have hw4 := hw3.symm; subst hw4)))
  obtain ⟨H3, K3⟩ := (HH.out.still S2).sets2 s k
  obtain ⟨W3, hW3⟩ : ∃ W3, W3 = (W2.setCell ⟨b, o + 4, none⟩ (.int .i64 (k : Int))).setCell ⟨b, o + 3, none⟩ (.int .u64 (s : Int)) := ⟨_, rfl⟩
  rw [← hW3] at H3 K3 ⊢
  have G3 : Gs W3 a bb := K3.gs (HG.out.kept (Kept.ofStill (Bo := 0) S2)) hb0
  have KW : Hid (WK Bo b w W3) := (WK.ofBelow (S2.below _)).trans K3
  have z2 : W3.cell? ⟨b, o + 2, none⟩ = some (.string h) := (st_cell H3.blk _).trans H3.c2
  have z3 : W3.cell? ⟨b, o + 3, none⟩ = some (.int .u64 (s : Int)) := (st_cell H3.blk _).trans H3.c3
  have z4 : W3.cell? ⟨b, o + 4, none⟩ = some (.int .i64 (k : Int)) := (st_cell H3.blk _).trans H3.c4
  have HH3 : Hid (FileAt Bo W3 b o (fset cs o s k wv) T p n h s k wv W) := H3
  clear hW3 H3 K3 e2 e3 e4 f3' f4' h0 h1 S1 csz crd cdd cli2 csu HH
  go_quiet ((go_at_call 95; exact Calls.quiet_of_same (ccp _)))
  obtain ⟨W4, hW4⟩ : ∃ W, W = W3.drewN nq := ⟨_, rfl⟩
  have S4 : Still W3 W4 := by rw [hW4]; exact Still.drewN _ _
  rw [← hW4]
  clear hW4
  rw [← S4.cell] at z3 z4
  have G4 : Gs W4 a bb := G3.kept (Kept.ofStill (Bo := 0) S4)
  have AK : Hid (∀ W1 : World, Below W4.heap.size W4 W1 → W1.cell? ⟨b, o + 3, none⟩ = some (.int .u64 (s : Int)) ∧ W1.cell? ⟨b, o + 4, none⟩ = some (.int .i64 (k : Int))) := fun W1 hk => by
    have H1 := (HH3.out.still S4).kept (.ofBelow hk)
    exact ⟨(st_cell H1.blk _).trans H1.c3, (st_cell H1.blk _).trans H1.c4⟩
  have hee : (X2.toList != X2.toList) = false := by simp
  clear z2
  go_wp2
  go_region_held3 (fun w' => w'.cell? ⟨b, o + 3, none⟩ = some (.int .u64 (s : Int)) ∧ w'.cell? ⟨b, o + 4, none⟩ = some (.int .i64 (k : Int))) (first | exact AK.out _ ((⟨rfl, rfl, rfl, rfl, Nat.le_add_right _ _⟩ : Still W4 W4.drew).below _) | exact AK.out _ (((⟨rfl, rfl, rfl, rfl, Nat.le_add_right _ _⟩ : Still W4 W4.drew).below _).trans b5)) (first | (go_at_call 96; refine (cse _ ?_).mono ?_; (exact G4.kept (Kept.drew (Bo := 0) _)); rintro e w5 ⟨rfl, b5⟩))
  all_goals
    have hb5 : Below W4.heap.size W4 w5 := ((⟨rfl, rfl, rfl, rfl, Nat.le_add_right _ _⟩ : Still W4 W4.drew).below _).trans b5
    go_wp2
    go_ret2
    exact ⟨B, s, k, rfl, HB.out, (HH3.out.still S4).kept (.ofBelow hb5), KW.out.trans ((WK.ofBelow (S4.below _)).trans (WK.ofBelow hb5))⟩

set_option maxHeartbeats 2000000 in
set_option maxRecDepth 100000 in
theorem Load_broken_l {Bo : Nat} (b o : Nat) (cs : Array Value) (T : TypeId) (p : Nat) (n h : ByteArray) (sum wr : Nat) (wv : Value) (W : List UInt8) (S : DS) (N : Nat) (a bb : Addr) (f : DFile) (Z0 : List UInt8) (w : World) (H : FileAt Bo w b o cs T p n h sum wr wv W)
    (hg : Gs w a bb) (hD : Disk Bo w p S) (ho : S.Ok N) (hN : N ≤ 1000000) (hF : S.dead = false) (hl : S.look n = some f) (hfd : f.data.data.toList = Z0 ++ [10] ++ sealL (Z0.length + 1) (sumL 14695981039346656037 (Z0 ++ [10]))) (hpre : Lib.hasPrefix (Z0 ++ [10]) h.data.toList = false) (hZl : Z0.length ≤ 1000000) (hb0 : 27 ≤ b) :
    Calls Tryz.prog 63 #[.pointer (some ⟨b, o, none⟩)] w fun e w' => ∃ (v : Value) (s' r' : Nat), e = .returned (.tuple #[.string ⟨#[]⟩, v]) ∧ Gone w' bb v ∧ FileAt Bo w' b o (fset cs o s' r' wv) T p n h s' r' wv W ∧ WK Bo b w w' := by
  have h0 : w.cell? ⟨b, o, none⟩ = some (.pointer (some ⟨p, 0, none⟩)) := (st_cell H.blk _).trans H.c0
  have h1 : w.cell? ⟨b, o + 1, none⟩ = some (.string n) := (st_cell H.blk _).trans H.c1
  obtain ⟨vF, vN, vS, vT, hDA⟩ := hD
  have hslt : sumL 14695981039346656037 (Z0 ++ [10]) < 18446744073709551616 := sumL_lt _ (by decide) _
  have hsq := seal_len (Z0.length + 1) (sumL 14695981039346656037 (Z0 ++ [10])) (by omega)
  have hts : f.data.size = Z0.length + 1 + (sealL (Z0.length + 1) (sumL 14695981039346656037 (Z0 ++ [10]))).length := by rw [Lib.size_eq, hfd]; simp only [List.length_append, List.length_singleton]
  have csz : ∀ W, Still w W → Calls Tryz.prog 69 #[.pointer (some ⟨p, 0, none⟩), .string n] W fun e w' => e = .returned (.tuple #[.int .i64 (f.data.size : Int), .bool true]) ∧ Still W w' := fun W hW => by
    have := Size_any p S N vF vN vS vT n W (hDA.still hW) ho hN
    rw [size_some_l hF hl] at this
    exact this
  have crd : ∀ W, Still w W → Calls Tryz.prog 92 #[.pointer (some ⟨p, 0, none⟩), .string n, .int .i64 0, .int .i64 (f.data.size : Int)] W fun e w' => e = .returned (.tuple #[.string f.data, .bool true]) ∧ Still W w' := fun W hW => by
    have := Read_any p S N n W ⟨_, _, _, _, hDA.still hW⟩ ho hN (fun g hg' => by rw [hl] at hg'; cases hg'; omega)
    rw [size_some_l hF hl, all_some_l hF hl] at this
    exact this
  have hnd : S.dead = false := hF
  have cdd : ∀ W, Still w W → Calls Tryz.prog 37 #[.pointer (some ⟨p, 0, none⟩)] W fun e w' => e = .returned (.bool false) ∧ w' = W := fun W hW => by
    have := Dead_any p S vF vN vS vT W (hDA.still hW)
    rw [hnd] at this
    exact this
  have cli : ∀ W, Calls Tryz.prog 94 #[.string f.data, .string ⟨#[10, 61]⟩] W fun e w' => e = .returned (.int .i64 (Z0.length : Int)) ∧ w' = W := fun W => by
    have := Tryz.strings_LastIndex f.data ⟨#[10, 61]⟩ (by omega) W
    rw [hfd, show (⟨#[10, 61]⟩ : ByteArray).data.toList = [10, 61] from rfl, last_seal _ _ _ hslt] at this
    exact this
  obtain ⟨k, hk⟩ : ∃ k, k = Z0.length + 1 := ⟨_, rfl⟩
  obtain ⟨X1, hX1⟩ : ∃ X1 : ByteArray, X1 = f.data.extract 0 k := ⟨_, rfl⟩
  have d1 : X1.data.toList = Z0 ++ [10] := by rw [hX1, Lib.extract_data, hfd, List.drop_zero, Nat.sub_zero, hk, List.take_left' (by simp)]
  have hk2 : k ≤ f.data.size := by omega
  have sl1 : ∀ W : World, (Instr.slice 9 (.string f.data) none (some (.int .i64 (k : Int))) none).run Tryz.prog W = .ok (.string X1) W := fun W => by
    have := run_slice_string_h (P := Tryz.prog) W 9 f.data Tryz.underlying9 .i64 (k : Int) (by omega) (by omega)
    rw [this, hX1, Int.toNat_natCast]
  have csu : ∀ W, Calls Tryz.prog 83 #[.string X1] W fun e w' => e = .returned (.int .u64 (sumL 14695981039346656037 (Z0 ++ [10]) : Int)) ∧ w' = W := fun W => by
    have := SumOf_any X1 W (by rw [Lib.size_eq, d1]; simp; omega)
    rw [d1] at this
    exact this
  obtain ⟨B, hB⟩ : ∃ B : ByteArray, B = ⟨(Lib.trimPrefix (Z0 ++ [10]) h.data.toList).toArray⟩ := ⟨_, rfl⟩
  have ccp : ∀ W, Calls Tryz.prog 95 #[.string X1, .string h] W fun e w' => e = .returned (.tuple #[.string B, .bool false]) ∧ w' = W := fun W => by
    have := Tryz.strings_CutPrefix X1 h W
    rw [d1, hpre, ← hB] at this
    exact this
  obtain ⟨s, hs⟩ : ∃ s, s = sumL 14695981039346656037 (Z0 ++ [10]) := ⟨_, rfl⟩
  rw [← hs] at csu hslt
  have cli2 : ∀ W, Calls Tryz.prog 94 #[.string f.data, .string ⟨#[10, 61]⟩] W fun e w' => e = .returned (.int .i64 ((k : Int) - 1)) ∧ w' = W := fun W => by
    have := cli W
    rw [show (Z0.length : Int) = (k : Int) - 1 by omega] at this
    exact this
  obtain ⟨D, hDd⟩ : ∃ D, D = f.data := ⟨_, rfl⟩
  rw [← hDd] at csz crd cli2 sl1 hk2
  have hDs : D.size ≤ 2000000 := by rw [hDd, hts]; omega
  have hkk : 1 ≤ k := by omega
  have hkm : k ≤ 1000001 := by omega
  have HH : Hid (FileAt Bo w b o cs T p n h sum wr wv W) := H
  have HG : Hid (Gs w a bb) := hg
  have f3 := st_frozen H.blk (o + 3)
  have f4 := st_frozen H.blk (o + 4)
  have e3 : w.cell? ⟨b, o + 3, none⟩ = some (.int .u64 (sum : Int)) := (st_cell H.blk _).trans H.c3
  have e4 : w.cell? ⟨b, o + 4, none⟩ = some (.int .i64 (wr : Int)) := (st_cell H.blk _).trans H.c4
  have e2 : w.cell? ⟨b, o + 2, none⟩ = some (.string h) := (st_cell H.blk _).trans H.c2
  clear hDd hs hk hX1 d1 hB hpre cli hts hsq hfd hZl hnd hl hF ho hDA H hg
  go_enter Tryz.func63, Tryz.ntmps63
  go_wp2
  go_quiet ((go_at_call 69; exact Still.quiet (csz _ (Still.drewN _ _))))
  obtain ⟨W1, hW1⟩ : ∃ W, W = w.drewN nq := ⟨_, rfl⟩
  have S1 : Still w W1 := by rw [hW1]; exact Still.drewN _ _
  rw [← S1.cell] at h0 h1
  rw [← hW1]
  clear hW1
  go_wp2
  go_quiet ((go_at_call 92; exact Still.quiet (crd _ (S1.trans (Still.drewN _ _)))))
  obtain ⟨W2, hW2⟩ : ∃ W, W = W1.drewN nq := ⟨_, rfl⟩
  have S2 : Still w W2 := by rw [hW2]; exact S1.trans (Still.drewN _ _)
  rw [S1.cell, ← S2.cell] at h0 h1
  rw [← S2.cell] at e2 e3 e4
  have f3' : W2.frozen? ⟨b, o + 3, none⟩ = false := st_frozen ((HH.out.still S2).blk) _
  have f4' : W2.frozen? ⟨b, o + 4, none⟩ = false := st_frozen ((HH.out.still S2).blk) _
  rw [← hW2]
  clear hW2 f3 f4
  go_upto_region 9 with (first | (go_at_call 37; go_must (refine (cdd _ S2).mono ?_; rintro e w3 ⟨rfl, hw3⟩; have hw4 := hw3.symm; subst hw4)) | (go_at_call 94; go_must (refine (cli2 _).mono ?_; rintro e w3 ⟨rfl, hw3⟩; have hw4 := hw3.symm; subst hw4)) | (go_at_call 83; go_must (refine (csu _).mono ?_; rintro e w3 ⟨rfl, hw3⟩; have hw4 := hw3.symm; subst hw4)))
  obtain ⟨H3, K3⟩ := (HH.out.still S2).sets2 s k
  obtain ⟨W3, hW3⟩ : ∃ W3, W3 = (W2.setCell ⟨b, o + 4, none⟩ (.int .i64 (k : Int))).setCell ⟨b, o + 3, none⟩ (.int .u64 (s : Int)) := ⟨_, rfl⟩
  rw [← hW3] at H3 K3 ⊢
  have G3 : Gs W3 a bb := K3.gs (HG.out.kept (Kept.ofStill (Bo := 0) S2)) hb0
  have KW : Hid (WK Bo b w W3) := (WK.ofBelow (S2.below _)).trans K3
  have z2 : W3.cell? ⟨b, o + 2, none⟩ = some (.string h) := (st_cell H3.blk _).trans H3.c2
  have z4 : W3.cell? ⟨b, o + 4, none⟩ = some (.int .i64 (k : Int)) := (st_cell H3.blk _).trans H3.c4
  have HH3 : Hid (FileAt Bo W3 b o (fset cs o s k wv) T p n h s k wv W) := H3
  clear hW3 H3 K3 e2 e3 e4 f3' f4' h0 h1 S1 csz crd cdd cli2 csu HH
  go_quiet ((go_at_call 95; exact Calls.quiet_of_same (ccp _)))
  obtain ⟨W4, hW4⟩ : ∃ W, W = W3.drewN nq := ⟨_, rfl⟩
  have S4 : Still W3 W4 := by rw [hW4]; exact Still.drewN _ _
  rw [← hW4]
  clear hW4 z2 z4
  go_wp2
  go_quiet (fail)
  obtain ⟨W5, hW5⟩ : ∃ W, W = W4.drewN nq := ⟨_, rfl⟩
  have S5 : Still W3 W5 := by rw [hW5]; exact S4.trans (Still.drewN _ _)
  rw [← hW5]
  clear hW5 S4
  have H5 := HH3.out.still S5
  have G5 : Gs W5 a bb := G3.kept (Kept.ofStill (Bo := 0) S5)
  have g5 := G5.brokenC
  have h15 : W5.cell? ⟨b, o + 1, none⟩ = some (.string n) := (st_cell H5.blk _).trans H5.c1
  have cb := Broken_any b o n 254 (.pointer (some bb)) W5 h15
  have HH5 : Hid (FileAt Bo W5 b o (fset cs o s k wv) T p n h s k wv W) := H5
  clear H5 h15 G3 G5
  go_wp2_with (go_at_call 66; go_must (refine cb.mono ?_; rintro e w6 ⟨rfl, hw6⟩))
  go_ret2
  have hb6 : Below W5.heap.size W5 w6 := by rw [hw6]; exact (Below.refl _ _).alloc (Nat.le_refl _) _
  rw [← hw6]
  refine ⟨_, s, k, rfl, ⟨_, 6, n, rfl, by rw [hw6]; exact heap_alloc_new _ _⟩, HH5.out.kept (.ofBelow hb6), KW.out.trans ((WK.ofBelow (S5.below _)).trans (WK.ofBelow hb6))⟩

end Go.Proofs.YtbjgpfhbdmcbbabGreatDoor.files

/-
  CONTRACTS that only read, on a disk that is not dead: load, pieces.
-/
namespace Go.Proofs.YtbjgpfhbdmcbbabGreatDoor.kinds
open Go.RowKit dnamath dna diskm disk keep hex pieces files parse words
set_option linter.unusedVariables false

theorem Load_whole_l {Bo : Nat} (b o : Nat) (cs : Array Value) (T : TypeId) (p : Nat) (n h : ByteArray) (sum wr : Nat) (wv : Value) (W : List UInt8) (S : DS) (N : Nat) (a bb : Addr) (Z body : List UInt8) (w : World) (H : FileAt Bo w b o cs T p n h sum wr wv W)
    (hg : Gs w a bb) (hD : Disk Bo w p S) (ho : S.Ok N) (hN : N ≤ 1000000) (hF : S.dead = false) (hl : S.look n = some (wholeF Z)) (hZ : Z = h.data.toList ++ body) (hE : Ends Z) (hZl : Z.length ≤ 1000000) (hb0 : 27 ≤ b) :
    Calls Tryz.prog 63 #[.pointer (some ⟨b, o, none⟩)] w fun e w' => ∃ (B : ByteArray) (s' r' : Nat), e = .returned (.tuple #[.string B, .nilIface]) ∧ B.data.toList = body ∧ FileAt Bo w' b o (fset cs o s' r' wv) T p n h s' r' wv W ∧ WK Bo b w w' := by
  obtain ⟨Z0, rfl⟩ := hE
  rw [List.length_append] at hZl
  exact Load_ok_l b o cs T p n h sum wr wv W S N a bb _ Z0 body w H hg hD ho hN hF hl (by show (whole (Z0 ++ [10])).data.toList = _; unfold whole; simp [sum0]) hZ (by omega) hb0

theorem Load_other_l {Bo : Nat} (b o : Nat) (cs : Array Value) (T : TypeId) (p : Nat) (n h : ByteArray) (sum wr : Nat) (wv : Value) (W : List UInt8) (S : DS) (N : Nat) (a bb : Addr) (Z : List UInt8) (w : World) (H : FileAt Bo w b o cs T p n h sum wr wv W)
    (hg : Gs w a bb) (hD : Disk Bo w p S) (ho : S.Ok N) (hN : N ≤ 1000000) (hF : S.dead = false) (hl : S.look n = some (wholeF Z)) (hpre : Lib.hasPrefix Z h.data.toList = false) (hE : Ends Z) (hZl : Z.length ≤ 1000000) (hb0 : 27 ≤ b) :
    Calls Tryz.prog 63 #[.pointer (some ⟨b, o, none⟩)] w fun e w' => ∃ (v : Value) (s' r' : Nat), e = .returned (.tuple #[.string ⟨#[]⟩, v]) ∧ Gone w' bb v ∧ FileAt Bo w' b o (fset cs o s' r' wv) T p n h s' r' wv W ∧ WK Bo b w w' := by
  obtain ⟨Z0, rfl⟩ := hE
  rw [List.length_append] at hZl
  exact Load_broken_l b o cs T p n h sum wr wv W S N a bb _ Z0 w H hg hD ho hN hF hl (by show (whole (Z0 ++ [10])).data.toList = _; unfold whole; simp [sum0]) hpre (by omega) hb0

set_option maxHeartbeats 1000000 in
set_option maxRecDepth 100000 in
theorem load_absent_l {Bo : Nat} (b p : Nat) (S : DS) (N : Nat) (n : ByteArray) (a bb : Addr) (w : World) (hD : Disk Bo w p S) (ho : S.Ok N) (hN : N ≤ 1000000) (hF : S.dead = false) (hg : Gs w a bb)
    (h0 : w.cell? ⟨b, 0, none⟩ = some (.pointer (some ⟨p, 0, none⟩))) (h1 : w.cell? ⟨b, 1, none⟩ = some (.string n)) (hl : S.look n = none) :
    Calls Tryz.prog 59 #[.pointer (some ⟨b, 0, none⟩)] w fun e w' => ∃ v, e = .returned v ∧ Gone w' a v ∧ Below w.heap.size w w' := by
  have cl := Load_absent_l b 0 p S N n n a bb w hD ho hN hF hg h0 (by rw [Nat.zero_add]; exact h1) hl
  clear hD ho hF hg h0 h1 hl
  go_enter Tryz.func59, Tryz.ntmps59
  go_wp2_with (go_at_call 63; go_must (refine cl.mono ?_; rintro e w1 ⟨v, rfl, hG, hb⟩; obtain ⟨eb, m, s, hv, hG⟩ := hG; subst hv))
  go_ret
  exact ⟨_, rfl, ⟨eb, m, s, rfl, hG⟩, hb⟩

set_option maxHeartbeats 1000000 in
set_option maxRecDepth 100000 in
theorem load_other_l {Bo : Nat} (b : Nat) (cs : Array Value) (T : TypeId) (p : Nat) (n h : ByteArray) (sum wr : Nat) (wv : Value) (W : List UInt8) (S : DS) (N : Nat) (a bb : Addr) (Z : List UInt8) (w : World) (H : FileAt Bo w b 0 cs T p n h sum wr wv W)
    (hg : Gs w a bb) (hD : Disk Bo w p S) (ho : S.Ok N) (hN : N ≤ 1000000) (hF : S.dead = false) (hl : S.look n = some (wholeF Z)) (hpre : Lib.hasPrefix Z h.data.toList = false) (hE : Ends Z) (hZl : Z.length ≤ 1000000) (hb0 : 27 ≤ b) :
    Calls Tryz.prog 59 #[.pointer (some ⟨b, 0, none⟩)] w fun e w' => ∃ (v : Value) (s' r' : Nat), e = .returned v ∧ Gone w' bb v ∧ FileAt Bo w' b 0 (fset cs 0 s' r' wv) T p n h s' r' wv W ∧ WK Bo b w w' := by
  have cl := Load_other_l b 0 cs T p n h sum wr wv W S N a bb Z w H hg hD ho hN hF hl hpre hE hZl hb0
  clear H hD ho hF hg hl hpre hE
  go_enter Tryz.func59, Tryz.ntmps59
  go_wp2_with (go_at_call 63; go_must (refine cl.mono ?_; rintro e w1 ⟨v, s', r', rfl, hG, hf, hk⟩; obtain ⟨eb, m, s, hv, hG⟩ := hG; subst hv))
  go_ret
  exact ⟨_, s', r', rfl, ⟨eb, m, s, rfl, hG⟩, hf, hk⟩

set_option maxHeartbeats 1000000 in
set_option maxRecDepth 100000 in
theorem pieces_absent_l {Bo : Nat} (b p : Nat) (S : DS) (N : Nat) (n : ByteArray) (a bb : Addr) (w : World) (hD : Disk Bo w p S) (ho : S.Ok N) (hN : N ≤ 1000000) (hF : S.dead = false) (hg : Gs w a bb)
    (h0 : w.cell? ⟨b, 0, none⟩ = some (.pointer (some ⟨p, 0, none⟩))) (h1 : w.cell? ⟨b, 1, none⟩ = some (.string n)) (hl : S.look n = none) :
    Calls Tryz.prog 119 #[.pointer (some ⟨b, 0, none⟩)] w fun e w' => ∃ v, e = .returned (.tuple #[.slice none 0 0, v]) ∧ Gone w' a v ∧ Below w.heap.size w w' := by
  have cl := Load_absent_l b 0 p S N n n a bb w hD ho hN hF hg h0 (by rw [Nat.zero_add]; exact h1) hl
  clear hD ho hF hg h0 h1 hl
  go_enter Tryz.func119, Tryz.ntmps119
  go_wp2_with (go_at_call 63; go_must (refine cl.mono ?_; rintro e w1 ⟨v, rfl, hG, hb⟩; obtain ⟨eb, m, s, hv, hG⟩ := hG; subst hv))
  go_ret2
  exact ⟨_, rfl, ⟨eb, m, s, rfl, hG⟩, hb⟩

set_option maxHeartbeats 1000000 in
set_option maxRecDepth 100000 in
theorem pieces_ok_l {Bo : Nat} (b : Nat) (cs : Array Value) (T : TypeId) (p : Nat) (n h : ByteArray) (sum wr : Nat) (wv : Value) (W : List UInt8) (S : DS) (N : Nat) (a bb : Addr) (L : List (List UInt8)) (w : World) (H : FileAt Bo w b 0 cs T p n h sum wr wv W)
    (hg : Gs w a bb) (hD : Disk Bo w p S) (ho : S.Ok N) (hN : N ≤ 1000000) (hF : S.dead = false) (hl : S.look n = some (wholeF (h.data.toList ++ unlines L))) (hE : Ends h.data.toList) (hZl : (h.data.toList ++ unlines L).length ≤ 1000000) (hb0 : 27 ≤ b) (hL : ∀ x ∈ L, clean x) :
    Calls Tryz.prog 119 #[.pointer (some ⟨b, 0, none⟩)] w fun e w' => ∃ (v : Value) (ts : List ByteArray) (s' r' : Nat), e = .returned (.tuple #[v, .nilIface]) ∧ w'.ownsRow w.heap.size 9 1 v ts.length (scells ts) ∧ datas ts = L ∧ FileAt Bo w' b 0 (fset cs 0 s' r' wv) T p n h s' r' wv W ∧ WK Bo b w w' := by
  have cl := Load_whole_l b 0 cs T p n h sum wr wv W S N a bb _ (unlines L) w H hg hD ho hN hF hl rfl (ends_append hE (ends_unlines L)) hZl hb0
  have hul : (unlines L).length ≤ 1000000 := by rw [List.length_append] at hZl; omega
  have HLQ : Hid (linesQ (unlines L) = L) := linesQ_unlines hL
  clear H hD ho hF hg hl hE hZl hL
  go_enter Tryz.func119, Tryz.ntmps119
  go_wp2_with (first | (go_at_call 63; go_must (refine cl.mono ?_; rintro e w1 ⟨B, s', r', rfl, hB, hf, hk⟩)) | (go_at_call 100; go_must (refine (linesOf_q B w1 (by rw [Lib.size_eq, hB]; exact hul)).mono ?_; rintro e w2 ⟨v, ts, rfl, own2, hd2, hl2, b2⟩; obtain ⟨aL, cL, hlv⟩ := own_slice own2; subst hlv)))
  go_ret2
  refine ⟨_, ts, s', r', rfl, own_lower own2 hk.size, ?_, hf.kept (.ofBelow b2), hk.trans (WK.ofBelow b2)⟩
  rw [hd2, hB]
  exact HLQ.out

end Go.Proofs.YtbjgpfhbdmcbbabGreatDoor.kinds

/-
  CONTRACTS that only read, on a disk that is not dead: openCounts.
-/
namespace Go.Proofs.YtbjgpfhbdmcbbabGreatDoor.kinds
open Go.RowKit dnamath dna diskm disk keep hex pieces files parse words
set_option linter.unusedVariables false

set_option maxHeartbeats 1000000 in
set_option maxRecDepth 100000 in
theorem openCounts_absent_l {Bo : Nat} (p : Nat) (S : DS) (N : Nat) (a bb : Addr) (w : World) (hD : Disk Bo w p S) (ho : S.Ok N) (hN : N ≤ 1000000) (hF : S.dead = false) (hg : Gs w a bb) (hl : S.look countsB = none) :
    Calls Tryz.prog 41 #[.pointer (some ⟨p, 0, none⟩)] w fun e w' => ∃ v, e = .returned (.tuple #[.string ⟨#[]⟩, .pointer none, v]) ∧ Gone w' a v ∧ Below w.heap.size w w' := by
  have co := Of_any p countsB countsHB w
  have es : (⟨#[99, 111, 117, 110, 116, 115]⟩ : ByteArray) = countsB := rfl
  have es2 : (⟨#[99, 111, 117, 110, 116, 115, 32]⟩ : ByteArray) = countsHB := rfl
  have HA : Hid (Disk Bo w p S ∧ S.Ok N ∧ S.dead = false ∧ Gs w a bb ∧ S.look countsB = none) := ⟨hD, ho, hF, hg, hl⟩
  clear hD ho hF hg hl
  go_enter Tryz.func41, Tryz.ntmps41
  go_upto_region 2 with (go_at_call 62; go_must (refine co.mono ?_; rintro e w1 ⟨rfl, b1⟩))
  have HF := listC_at w1 p countsB countsHB 0 (Nat.le_trans HA.out.1.low b1.size)
  obtain ⟨W2, hW2⟩ : ∃ W2, W2 = w1.alloc (.cells (listC p countsB countsHB 0) 105) := ⟨_, rfl⟩
  have B2 : Below w.heap.size w W2 := by rw [hW2]; exact b1.alloc b1.size _
  rw [← hW2] at HF
  obtain ⟨hD, ho, hF, hg, hl⟩ := HA.out
  have cl := Load_absent_l w1.heap.size 0 p S N countsB countsHB a bb W2 (hD.below B2) ho hN hF (hg.below B2) ((st_cell HF.blk _).trans HF.c0) ((st_cell HF.blk _).trans HF.c1) hl
  rw [show w1.alloc (.cells #[.pointer (some ⟨p, 0, none⟩), .string countsB, .string countsHB, .int .u64 0, .int .i64 0, .slice none 0 0, .int .i64 0, .slice none 0 0] 105) = W2 from hW2.symm]
  clear hD ho hF hg hl HF hW2 es es2 co HA b1
  go_wp2_with (go_at_call 63; go_must (refine cl.mono ?_; rintro e w3 ⟨v, rfl, hG, hb⟩; obtain ⟨eb, m, s, hv, hG⟩ := hG; subst hv))
  exact bodyPost_ret (v := .tuple #[.string ⟨#[]⟩, .pointer none, .iface 85 (.pointer (some ⟨eb, 0, none⟩))]) (by simp [results, Tryz.results41, go_sem]) rfl ⟨_, rfl, ⟨eb, m, s, rfl, hG⟩, B2.trans (hb.mono B2.size)⟩

set_option maxHeartbeats 2000000 in
set_option maxRecDepth 100000 in
theorem openCounts_ok_l {Bo : Nat} (p : Nat) (S : DS) (N : Nat) (a bb : Addr) (run : ByteArray) (k : Nat) (es : List Ent) (w : World) (hD : Disk Bo w p S) (ho : S.Ok N) (hN : N ≤ 1000000) (hF : S.dead = false) (hg : Gs w a bb) (hl : S.look countsB = some (wholeF ((headB countsB run k).data.toList ++ textE es))) (hNG : 27 ≤ w.heap.size)
    (hrun : ∀ d ∈ run.data.toList, (48 ≤ d.toNat ∧ d.toNat ≤ 57) ∨ (97 ≤ d.toNat ∧ d.toNat ≤ 102)) (hrs : run.size ≤ 1000) (hes : ∀ x ∈ es, x.1.data.toList.all isB = true ∧ x.1.size = k ∧ x.2 ≤ 1000000) (hk1 : 1 ≤ k) (hk2 : k ≤ 1000) (hel : es.length ≤ 100000) (htl : (textE es).length ≤ 900000) :
    Calls Tryz.prog 41 #[.pointer (some ⟨p, 0, none⟩)] w fun e w' => ∃ (q : Nat) (cs : Array Value) (ev : Value), e = .returned (.tuple #[.string run, .pointer (some ⟨q, 0, none⟩), .nilIface]) ∧ w.heap.size ≤ q ∧ w'.heap[q]? = some (.cells cs 105 (0, 0)) ∧ cs[6]? = some (.int .i64 (k : Int)) ∧ cs[7]? = some ev ∧ w'.ownsRow w.heap.size 58 2 ev es.length (ecells es) ∧ WK Bo q w w' := by
  have co := Of_any p countsB countsHB w
  have es1 : (⟨#[99, 111, 117, 110, 116, 115]⟩ : ByteArray) = countsB := rfl
  have es2 : (⟨#[99, 111, 117, 110, 116, 115, 32]⟩ : ByteArray) = countsHB := rfl
  have hil := itoa_size k (by omega)
  have hid : (itoaB k).data.toList = Lib.itoa (k : Int) := rfl
  have hhd : (headB countsB run k).data.toList = countsHB.data.toList ++ (run.data.toList ++ 32 :: (Lib.itoa (k : Int) ++ [10])) := by
    unfold headB
    simp [ByteArray.data_append, hid, spB, nlB, countsB, countsHB]
  have hhl : (headB countsB run k).data.toList.length ≤ 2000 := by
    rw [hhd]
    have e1 : run.data.toList.length = run.size := (Lib.size_eq _).symm
    have e2 : (Lib.itoa (k : Int)).length = (itoaB k).size := by rw [Lib.size_eq, hid]
    have e3 : countsHB.data.toList.length = 7 := rfl
    simp only [List.length_append, List.length_cons, List.length_nil]
    omega
  obtain ⟨body, hbd⟩ : ∃ body, body = (run.data.toList ++ 32 :: Lib.itoa (k : Int)) ++ 10 :: textE es := ⟨_, rfl⟩
  have hZ : (headB countsB run k).data.toList ++ textE es = countsHB.data.toList ++ body := by rw [hhd, hbd]; simp
  have hEnd : Ends ((headB countsB run k).data.toList ++ textE es) := ends_append (ends_head _ _ _) (by rw [textE_lines]; exact ends_unlines _)
  have hno10 : ∀ d ∈ run.data.toList ++ 32 :: Lib.itoa (k : Int), d ≠ 10 := by
    intro d hd
    rw [List.mem_append, List.mem_cons] at hd
    rcases hd with hd | rfl | hd
    · exact hex_no 10 _ hrun (by decide) d hd
    · decide
    · rw [itoa_nat] at hd
      exact hex_no 10 _ (fun e he => .inl (dec_digit _ e he)) (by decide) d hd
  have hbl : body.length ≤ 1000000 := by
    have := congrArg List.length hZ
    simp only [List.length_append] at this
    omega
  have HA : Hid (Disk Bo w p S ∧ S.Ok N ∧ S.dead = false ∧ Gs w a bb) := ⟨hD, ho, hF, hg⟩
  have HLQ : Hid (linesQ (textE es) = es.map line0) := linesQ_textE (fun x hx => (hes x hx).1)
  have HES : Hid (∀ x ∈ es, x.1.data.toList.all isB = true ∧ x.1.size = k ∧ x.2 ≤ 1000000) := hes
  clear hD ho hF hg hes
  go_enter Tryz.func41, Tryz.ntmps41
  go_upto_region 2 with (go_at_call 62; go_must (refine co.mono ?_; rintro e w1 ⟨rfl, b1⟩))
  have HF := listC_at w1 p countsB countsHB 0 (Nat.le_trans HA.out.1.low b1.size)
  obtain ⟨W2, hW2⟩ : ∃ W2, W2 = w1.alloc (.cells (listC p countsB countsHB 0) 105) := ⟨_, rfl⟩
  obtain ⟨q, hq⟩ : ∃ q, q = w1.heap.size := ⟨_, rfl⟩
  have B2 : Below w.heap.size w W2 := by rw [hW2]; exact b1.alloc b1.size _
  have hqw : w.heap.size ≤ q := by rw [hq]; exact b1.size
  rw [← hW2, ← hq] at HF
  obtain ⟨hD, ho, hF, hg⟩ := HA.out
  have cl := Load_whole_l q 0 _ _ p countsB countsHB 0 0 _ _ S N a bb _ body W2 HF (hg.below B2) (hD.below B2) ho hN hF hl hZ hEnd (by rw [List.length_append]; omega) (by omega)
  rw [show w1.alloc (.cells #[.pointer (some ⟨p, 0, none⟩), .string countsB, .string countsHB, .int .u64 0, .int .i64 0, .slice none 0 0, .int .i64 0, .slice none 0 0] 105) = W2 from hW2.symm, ← hq]
  have HB2 : Hid (Below w.heap.size w W2) := B2
  clear hD ho hF hg hl HF hW2 hq es1 es2 co HA b1 hZ hEnd B2
  go_wp2_with fail
  refine cl.mono ?_
  rintro e w3 ⟨B, s', r', rfl, hB, hf3, k3⟩
  go_wp2_with fail
  refine (Cut_one B 10 (run.data.toList ++ 32 :: Lib.itoa (k : Int)) (textE es) w3 (by rw [hB, hbd]) hno10 (by rw [Lib.size_eq, hB]; omega)).mono ?_
  rintro e w4 ⟨A4, T4, rfl, hA4, hT4, s4⟩
  go_wp2_with fail
  refine (Cut_one A4 32 run.data.toList (Lib.itoa (k : Int)) w4 hA4 (hex_no 32 _ hrun (by decide)) (by rw [Lib.size_eq, hA4]; have := congrArg List.length hbd; simp only [List.length_append, List.length_cons] at this ⊢; omega)).mono ?_
  rintro e w5 ⟨R5, I5, rfl, hR5, hI5, s5⟩
  have hre : R5 = run := bytes_eq hR5
  subst hre
  go_wp2_with fail
  refine (Tryz.strconv_Atoi I5 (k : Int) (by rw [Lib.size_eq, hI5, ← hid, ← Lib.size_eq]; omega) (by rw [hI5]; exact atoi_itoa k) w5).mono ?_
  rintro e w6 ⟨rfl, t6, hw6⟩
  have b6 : Below w5.heap.size w5 w6 := by rw [hw6]; exact Lib.bytesWorld_below _ _ _
  have hs4 := (s4.below 0).size
  have BB : Below w3.heap.size w3 w6 := (s4.below _).trans (((s5.below _)).trans (b6.mono (Nat.le_trans hs4 (s5.below 0).size)))
  have hf6 := hf3.kept (.ofBelow BB)
  have q6 := hf6.blk
  have c6 : w6.cell? ⟨q, 6, none⟩ = some (.int .i64 0) := (st_cell q6 _).trans ((fset_ne _ _ _ _ _ _ (by omega)).trans rfl)
  have f6 := st_frozen q6 6
  obtain ⟨cs6, hcs6⟩ : ∃ cs6, cs6 = (fset (listC p countsB countsHB 0) 0 s' r' (.slice none 0 0)).setIfInBounds 6 (.int .i64 (k : Int)) := ⟨_, rfl⟩
  have q7 : (w6.setCell ⟨q, 6, none⟩ (.int .i64 (k : Int))).heap[q]? = some (.cells cs6 105 (0, 0)) := by rw [hcs6]; exact heap_setCell_same w6 q 6 _ _ _ q6
  have hl6 : 6 < (fset (listC p countsB countsHB 0) 0 s' r' (.slice none 0 0)).size := by
    rcases Nat.lt_or_ge 6 (fset (listC p countsB countsHB 0) 0 s' r' (.slice none 0 0)).size with h | h
    · exact h
    · have := fset_ne (listC p countsB countsHB 0) 0 s' r' (.slice none 0 0) 6 (by omega)
      rw [Array.getElem?_eq_none h] at this
      cases this
  have g6 : cs6[6]? = some (.int .i64 (k : Int)) := by rw [hcs6]; exact Array.getElem?_setIfInBounds_self_of_lt hl6
  have g7 : cs6[7]? = some (.slice none 0 0) := by rw [hcs6, Array.getElem?_setIfInBounds_ne (by decide)]; exact (fset_ne _ _ _ _ _ _ (by omega)).trans rfl
  obtain ⟨W7, hW7⟩ : ∃ W7, W7 = w6.setCell ⟨q, 6, none⟩ (.int .i64 (k : Int)) := ⟨_, rfl⟩
  rw [← hW7] at q7
  have K7 : Hid (WK Bo q w W7) := by
    show WK Bo _ _ _
    rw [hW7]
    exact (WK.ofBelow (HB2.out.mono (Nat.le_refl _))).trans (k3.trans ((WK.ofBelow BB).trans (WK.set _)))
  have ct := take_any (Bo := Bo) q cs6 T4 k es W7 q7 g6 ⟨_, g7⟩ (by rw [Lib.size_eq, hT4]; omega) (by rw [hT4]; exact HLQ.out) HES.out hk1 hk2 hel
  have G6 : Hid (cs6[6]? = some (.int .i64 (k : Int))) := g6
  have hl7 : 7 < cs6.size := by
    rcases Nat.lt_or_ge 7 cs6.size with h | h
    · exact h
    · rw [Array.getElem?_eq_none h] at g7; cases g7
  clear g6 g7 q6 q7 hf6 hf3 BB hcs6 hl6 b6 hw6
  go_upto_region 11 with fail
  rw [← hW7]
  clear hW7
  go_wp2_with (go_at_call 67; go_must (refine ct.mono ?_; rintro e w8 ⟨ev, rfl, q8, own8, k8⟩))
  exact bodyPost_ret (v := .tuple #[.string R5, .pointer (some ⟨q, 0, none⟩), .nilIface]) (by simp [results, Tryz.results41, go_sem]) rfl ⟨q, _, ev, rfl, hqw, q8, by rw [Array.getElem?_setIfInBounds_ne (by decide)]; exact G6.out, Array.getElem?_setIfInBounds_self_of_lt hl7, own_lower own8 K7.out.size, K7.out.trans k8⟩

end Go.Proofs.YtbjgpfhbdmcbbabGreatDoor.kinds
