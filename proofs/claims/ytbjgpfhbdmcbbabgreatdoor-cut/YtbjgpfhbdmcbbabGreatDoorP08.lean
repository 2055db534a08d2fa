import Derived.Test.YtbjgpfhbdmcbbabGreatDoorP07
import Derived.Deep.RegionHeld3

/-
  CONTRACTS of package files: SyncNames, Begin.
-/
namespace Go.Proofs.YtbjgpfhbdmcbbabGreatDoor.files
open Go.RowKit dnamath dna diskm disk keep hex
set_option linter.unusedVariables false

abbrev draftB : ByteArray := ⟨#[100, 114, 97, 102, 116]⟩

/-- only block b, rows of bytes and what belongs to disks may have changed -/
structure FK (Bo : Nat) (b : Nat) (w w' : World) : Prop where
  os : w'.os = w.os
  tape : w'.tape = w.tape
  output : w'.output = w.output
  size : w.heap.size ≤ w'.heap.size
  block : ∀ k, k < w.heap.size → k ≠ b → ¬ isBytes w k → ¬ isDisk w k → w'.heap[k]? = w.heap[k]?
  low : ∀ k, k < w.heap.size → k < Bo → k ≠ b → w'.heap[k]? = w.heap[k]?
theorem isBytes_of {w w' : World} {k : Nat} (h : w'.heap[k]? = w.heap[k]?) : isBytes w' k ↔ isBytes w k := by unfold isBytes; rw [h]
theorem FK.refl {Bo : Nat} (b : Nat) (w : World) : FK Bo b w w := ⟨rfl, rfl, rfl, Nat.le_refl _, fun _ _ _ _ _ => rfl, fun _ _ _ _ => rfl⟩
theorem FK.trans {Bo : Nat} {b : Nat} {u v w : World} (h : FK Bo b u v) (k : FK Bo b v w) : FK Bo b u w :=
  ⟨k.os.trans h.os, k.tape.trans h.tape, k.output.trans h.output, Nat.le_trans h.size k.size, fun i hi hb hn hd => by
    have h1 := h.block i hi hb hn hd
    exact (k.block i (Nat.lt_of_lt_of_le hi h.size) hb (fun e => hn ((isBytes_of h1).1 e)) (fun e => hd ((isDisk_of h1).1 e))).trans h1, fun i hi hl hb => (k.low i (Nat.lt_of_lt_of_le hi h.size) hl hb).trans (h.low i hi hl hb)⟩
theorem FK.ofWK {Bo : Nat} {b : Nat} {w w' : World} (h : WK Bo b w w') : FK Bo b w w' := ⟨h.os, h.tape, h.output, h.size, fun k hk hb hn _ => h.block k hk hb hn, h.low⟩
theorem FK.ofKept {Bo : Nat} {b : Nat} {w w' : World} (h : Kept Bo w w') : FK Bo b w w' := ⟨h.os, h.tape, h.output, h.size, fun k hk _ _ hd => h.block k hk hd, fun k hk hl _ => h.low k hk hl⟩
theorem FK.gs {Bo : Nat} {b : Nat} {w w' : World} {a c : Addr} (h : FK Bo b w w') (hg : Gs w a c) (hb : 27 ≤ b) : Gs w' a c := by
  have key : ∀ (g : Nat) (cs : Array Value) (T : TypeId) (fz : Nat × Nat), g < 27 → T ≠ 5 ∧ T ≠ 63 ∧ T ≠ 82 ∧ T ≠ 84 ∧ T ≠ 79 → w.heap[g]? = some (.cells cs T fz) → w'.heap[g]? = some (.cells cs T fz) := fun g cs T fz hlt hT e =>
    (h.block g (lt_of_block e) (by omega) (fun ⟨cs', fz', e'⟩ => by rw [e] at e'; cases e'; exact hT.1 rfl) (by
      rintro ⟨cs', T', fz', e', hd⟩
      rw [e] at e'
      cases e'
      rcases hd with h | h | h | h
      · exact hT.2.1 h
      · exact hT.2.2.1 h
      · exact hT.2.2.2.1 h
      · exact hT.2.2.2.2 h)).trans e
  obtain ⟨⟨c1, T1, f1, h1, t1, e1⟩, ⟨c2, T2, f2, h2, t2, e2⟩, ⟨c3, T3, f3, h3, t3, e3⟩, ⟨c4, T4, f4, h4, t4, e4⟩⟩ := hg
  exact ⟨⟨c1, T1, f1, key _ _ _ _ (by decide) (by subst t1; decide) h1, t1, e1⟩, ⟨c2, T2, f2, key _ _ _ _ (by decide) (by subst t2; decide) h2, t2, e2⟩, ⟨c3, T3, f3, key _ _ _ _ (by decide) (by subst t3; decide) h3, t3, e3⟩, ⟨c4, T4, f4, key _ _ _ _ (by decide) (by subst t4; decide) h4, t4, e4⟩⟩

theorem FileAt.kept {Bo : Nat} {w w' : World} {b o : Nat} {cs : Array Value} {T : TypeId} {p : Nat} {n h : ByteArray} {sum wr : Nat} {wv : Value} {W : List UInt8} (H : FileAt Bo w b o cs T p n h sum wr wv W) (hk : Kept Bo w w') : FileAt Bo w' b o cs T p n h sum wr wv W :=
  ⟨g_keep hk H.blk ⟨H.ty.1, H.ty.2.1, H.ty.2.2.1, H.ty.2.2.2.1⟩, H.ty, H.c0, H.c1, H.c2, H.c3, H.c4, H.c5, row_keep H.own (fun k cs fz e => (g_keep hk e (by decide)).trans e.symm), Nat.le_trans H.big hk.size⟩
theorem FileAt.still {Bo : Nat} {w w' : World} {b o : Nat} {cs : Array Value} {T : TypeId} {p : Nat} {n h : ByteArray} {sum wr : Nat} {wv : Value} {W : List UInt8} (H : FileAt Bo w b o cs T p n h sum wr wv W) (hk : Still w w') : FileAt Bo w' b o cs T p n h sum wr wv W := H.kept (.ofStill hk)

theorem FileAt.sets {Bo : Nat} {w : World} {b o : Nat} {cs : Array Value} {T : TypeId} {p : Nat} {n h : ByteArray} {sum wr : Nat} {wv : Value} {W : List UInt8} (H : FileAt Bo w b o cs T p n h sum wr wv W) (s r : Nat) :
    FileAt Bo (((w.setCell ⟨b, o + 3, none⟩ (.int .u64 (s : Int))).setCell ⟨b, o + 4, none⟩ (.int .i64 (r : Int))).setCell ⟨b, o + 5, none⟩ (.slice none 0 0)) b o (fset cs o s r (.slice none 0 0)) T p n h s r (.slice none 0 0) [] ∧
    WK Bo b w (((w.setCell ⟨b, o + 3, none⟩ (.int .u64 (s : Int))).setCell ⟨b, o + 4, none⟩ (.int .i64 (r : Int))).setCell ⟨b, o + 5, none⟩ (.slice none 0 0)) := by
  have hi5 : o + 5 < cs.size := by
    rcases Nat.lt_or_ge (o + 5) cs.size with h | h
    · exact h
    · have := H.c5; rw [Array.getElem?_eq_none h] at this; cases this
  have q1 := heap_setCell_same w b (o + 3) _ _ (.int .u64 (s : Int)) H.blk
  have q2 := heap_setCell_same _ b (o + 4) _ _ (.int .i64 (r : Int)) q1
  have q3 := heap_setCell_same _ b (o + 5) _ _ (.slice none 0 0) q2
  refine ⟨⟨q3, H.ty, ?_, ?_, ?_, fset_3 _ _ _ _ _ hi5, fset_4 _ _ _ _ _ hi5, fset_5 _ _ _ _ _ hi5, World.ownsRow_nil _ _ _ _, Nat.le_trans H.big ((WK.set (Bo := Bo) _).trans ((WK.set _).trans (WK.set _))).size⟩, (WK.set _).trans ((WK.set _).trans (WK.set _))⟩
  · exact (fset_ne _ _ _ _ _ _ (by omega)).trans H.c0
  · exact (fset_ne _ _ _ _ _ _ (by omega)).trans H.c1
  · exact (fset_ne _ _ _ _ _ _ (by omega)).trans H.c2

set_option maxHeartbeats 400000 in
set_option maxRecDepth 100000 in
theorem SyncNames_fine {Bo : Nat} (p : Nat) (S : DS) (N : Nat) (w : World) (hD : Disk Bo w p S) (ho : S.Ok N) (hN : N ≤ 1000000) (hF : S.Fine) :
    Calls Tryz.prog 57 #[.pointer (some ⟨p, 0, none⟩)] w fun e w' => e = .returned .nilIface ∧ Disk Bo w' p { S with safe := S.now, steps := [] } ∧ Kept Bo w w' := by
  obtain ⟨vF, vN, vS, vT, h⟩ := hD
  have ct := SyncDir_any p S N vF vN vS vT w h ho hN
  have e : S.syncDir = (true, { S with safe := S.now, steps := [] }) := by unfold DS.syncDir; rw [changes_fine hF]; rfl
  rw [e] at ct
  clear e h ho hF
  go_enter Tryz.func57, Tryz.ntmps57
  go_wp2_with (go_at_call 72; go_must (refine ct.mono ?_; rintro e w1 ⟨rfl, ⟨vS', vT', h1⟩, k1⟩))
  go_ret
  exact ⟨rfl, ⟨_, _, _, _, h1⟩, k1⟩

set_option maxHeartbeats 1000000 in
set_option maxRecDepth 100000 in
theorem Begin_any {Bo : Nat} (b o : Nat) (cs : Array Value) (T : TypeId) (p : Nat) (n h : ByteArray) (sum wr : Nat) (wv : Value) (W : List UInt8) (S : DS) (N : Nat) (w : World) (H : FileAt Bo w b o cs T p n h sum wr wv W)
    (hD : Disk Bo w p S) (ho : S.Ok N) (hN : N ≤ 10000) (hF : S.Fine) (hl : S.look draftB = none) (hf : findIs draftB S.now = false) (hh : h.size ≤ 60000) :
    Calls Tryz.prog 112 #[.pointer (some ⟨b, o, none⟩)] w fun e w' => ∃ wv', e = .returned .nilIface ∧ FileAt Bo w' b o (fset cs o (sumL 14695981039346656037 h.data.toList) h.size wv') T p n h (sumL 14695981039346656037 h.data.toList) h.size wv' h.data.toList ∧ Disk Bo w' p (S.create draftB).2 ∧ FK Bo b w w' := by
  have h0 : w.cell? ⟨b, o, none⟩ = some (.pointer (some ⟨p, 0, none⟩)) := (st_cell H.blk _).trans H.c0
  have cr : Calls Tryz.prog 69 #[.pointer (some ⟨p, 0, none⟩), .string draftB] w fun e w' => e = .returned (.tuple #[.int .i64 0, .bool false]) ∧ Still w w' := by
    obtain ⟨vF, vN, vS, vT, hDA⟩ := hD
    have csz := Size_any p S N vF vN vS vT draftB w hDA ho (by omega)
    rw [size_none hl] at csz
    exact csz
  have cc : ∀ W, Still w W → Calls Tryz.prog 137 #[.pointer (some ⟨p, 0, none⟩), .string draftB] W fun e w' => e = .returned (.bool true) ∧ Disk Bo w' p (S.create draftB).2 ∧ Kept Bo W w' := fun W hW => by
    have := Create_any p S N draftB W (hD.still hW) ho (by omega) (by decide) hf
    have e1 : (S.create draftB).1 = true := by rw [create_yes (changes_fine hF) hf (by decide)]
    rw [e1] at this
    exact this
  have hi5 : o + 5 < cs.size := by
    rcases Nat.lt_or_ge (o + 5) cs.size with h | h
    · exact h
    · have := H.c5; rw [Array.getElem?_eq_none h] at this; cases this
  have HH : Hid (FileAt Bo w b o cs T p n h sum wr wv W) := H
  clear hD ho hF hl hf H
  go_enter Tryz.func112, Tryz.ntmps112
  go_upto_region 6 with (first | (go_at_call 69; go_must (refine cr.mono ?_; rintro e w1 ⟨rfl, s1⟩; rw [← s1.cell] at h0)) | (go_at_call 137; go_must (refine (cc _ s1).mono ?_; rintro e w2 ⟨rfl, d2, k2⟩)))
  have H2 := (HH.out.still s1).kept k2
  have K2 : Hid (FK Bo b w w2) := (FK.ofKept (.ofStill s1)).trans (FK.ofKept k2)
  have f3 := st_frozen H2.blk (o + 3)
  have f4 := st_frozen H2.blk (o + 4)
  have f5 := st_frozen H2.blk (o + 5)
  have e3 : w2.cell? ⟨b, o + 3, none⟩ = some (.int .u64 (sum : Int)) := (st_cell H2.blk _).trans H2.c3
  have e4 : w2.cell? ⟨b, o + 4, none⟩ = some (.int .i64 (wr : Int)) := (st_cell H2.blk _).trans H2.c4
  have e5 : w2.cell? ⟨b, o + 5, none⟩ = some wv := (st_cell H2.blk _).trans H2.c5
  have e2 : w2.cell? ⟨b, o + 2, none⟩ = some (.string h) := (st_cell H2.blk _).trans H2.c2
  have HH2 : Hid (FileAt Bo w2 b o cs T p n h sum wr wv W) := H2
  clear H2 h0 s1 k2 cc cr
  go_upto_region 7 with fail
  obtain ⟨H3, K3⟩ := HH2.out.sets 14695981039346656037 0
  rw [show (((14695981039346656037 : Nat) : Int)) = 14695981039346656037 from rfl, show (((0 : Nat) : Int)) = 0 from rfl] at H3 K3
  obtain ⟨W3, hW3⟩ : ∃ W, W = (((w2.setCell ⟨b, o + 3, none⟩ (.int .u64 14695981039346656037)).setCell ⟨b, o + 4, none⟩ (.int .i64 0)).setCell ⟨b, o + 5, none⟩ (.slice none 0 0)) := ⟨_, rfl⟩
  rw [← hW3] at H3 K3 ⊢
  clear hW3 e2 e3 e4 e5 f3 f4 f5
  have D3 := K3.disk d2 HH2.out.notDisk
  have cw := Write_any b o _ T p n h _ _ _ _ h W3 H3 (by decide) (by decide) (by simp; omega)
  have e2 : W3.cell? ⟨b, o + 2, none⟩ = some (.string h) := (st_cell H3.blk _).trans H3.c2
  have KW : Hid (FK Bo b w W3) := K2.out.trans (FK.ofWK K3)
  have HH3 := H3.notDisk
  clear H3 K3 d2 HH2 HH hh
  go_wp2_with (go_at_call 113; go_must (refine cw.mono ?_; rintro e w4 ⟨wv4, rfl, h4, k4⟩))
  go_ret
  rw [fset_fset, Nat.zero_add, List.nil_append] at h4
  exact ⟨wv4, rfl, h4, k4.disk D3 HH3, KW.out.trans (FK.ofWK k4)⟩
end Go.Proofs.YtbjgpfhbdmcbbabGreatDoor.files

/-
  CONTRACTS of package files: flush, Seal.
-/
namespace Go.Proofs.YtbjgpfhbdmcbbabGreatDoor.files
open Go.RowKit dnamath dna diskm disk keep hex
set_option linter.unusedVariables false

theorem FileAt.set5 {Bo : Nat} {w : World} {b o : Nat} {cs : Array Value} {T : TypeId} {p : Nat} {n h : ByteArray} {sum wr : Nat} {wv : Value} {W : List UInt8} (H : FileAt Bo w b o cs T p n h sum wr wv W) :
    FileAt Bo (w.setCell ⟨b, o + 5, none⟩ (.slice none 0 0)) b o (fset cs o sum wr (.slice none 0 0)) T p n h sum wr (.slice none 0 0) [] ∧ WK Bo b w (w.setCell ⟨b, o + 5, none⟩ (.slice none 0 0)) := by
  have hi5 : o + 5 < cs.size := by
    rcases Nat.lt_or_ge (o + 5) cs.size with h | h
    · exact h
    · have := H.c5; rw [Array.getElem?_eq_none h] at this; cases this
  have q3 := heap_setCell_same w b (o + 5) _ _ (.slice none 0 0) H.blk
  have e : cs.setIfInBounds (o + 5) (.slice none 0 0) = fset cs o sum wr (.slice none 0 0) := by
    have e1 : cs.setIfInBounds (o + 3) (.int .u64 (sum : Int)) = cs := by
      apply Array.ext_getElem?; intro j
      by_cases h : j = o + 3
      · subst h; rw [Array.getElem?_setIfInBounds_self_of_lt (by omega)]; exact H.c3.symm
      · rw [Array.getElem?_setIfInBounds_ne (by omega)]
    have e2 : cs.setIfInBounds (o + 4) (.int .i64 (wr : Int)) = cs := by
      apply Array.ext_getElem?; intro j
      by_cases h : j = o + 4
      · subst h; rw [Array.getElem?_setIfInBounds_self_of_lt (by omega)]; exact H.c4.symm
      · rw [Array.getElem?_setIfInBounds_ne (by omega)]
    unfold fset; rw [e1, e2]
  rw [e] at q3
  refine ⟨⟨q3, H.ty, ?_, ?_, ?_, fset_3 _ _ _ _ _ hi5, fset_4 _ _ _ _ _ hi5, fset_5 _ _ _ _ _ hi5, World.ownsRow_nil _ _ _ _, Nat.le_trans H.big (WK.set (Bo := Bo) _).size⟩, WK.set _⟩
  · exact (fset_ne _ _ _ _ _ _ (by omega)).trans H.c0
  · exact (fset_ne _ _ _ _ _ _ (by omega)).trans H.c1
  · exact (fset_ne _ _ _ _ _ _ (by omega)).trans H.c2

set_option maxHeartbeats 1000000 in
set_option maxRecDepth 100000 in
theorem flush_any {Bo : Nat} (b o : Nat) (cs : Array Value) (T : TypeId) (p : Nat) (n h : ByteArray) (sum wr : Nat) (wv : Value) (W : List UInt8) (S : DS) (N : Nat) (w : World) (H : FileAt Bo w b o cs T p n h sum wr wv W)
    (hD : Disk Bo w p S) (ho : S.Ok N) (hN : N ≤ 10000) (hF : S.Fine) (hf : findIs draftB S.now = true) (hW : 0 < W.length) (hW2 : W.length ≤ 1000000) (hB : S.bytes ≤ 1000000000000) (hC : S.cap = 1152921504606846976) (hfo : (S.fileOf draftB).data.size ≤ 1000000) :
    Calls Tryz.prog 138 #[.pointer (some ⟨b, o, none⟩)] w fun e w' => e = .returned .nilIface ∧ FileAt Bo w' b o (fset cs o sum wr (.slice none 0 0)) T p n h sum wr (.slice none 0 0) [] ∧ Disk Bo w' p (S.append draftB ⟨W.toArray⟩).2 ∧ FK Bo b w w' := by
  have h0 : w.cell? ⟨b, o, none⟩ = some (.pointer (some ⟨p, 0, none⟩)) := (st_cell H.blk _).trans H.c0
  have e5 : w.cell? ⟨b, o + 5, none⟩ = some wv := (st_cell H.blk _).trans H.c5
  have hsz : (⟨W.toArray⟩ : ByteArray).size = W.length := by rw [Lib.size_eq]
  have ca : ∀ W', Still w W' → Calls Tryz.prog 161 #[.pointer (some ⟨p, 0, none⟩), .string draftB, .string ⟨W.toArray⟩] W' fun e w' => e = .returned (.bool true) ∧ Disk Bo w' p (S.append draftB ⟨W.toArray⟩).2 ∧ Kept Bo W' w' := fun W' hW' => by
    have := Append_any p S N draftB ⟨W.toArray⟩ W' (hD.still hW') ho (by omega) hf (by omega) (by omega) (by rw [hsz]; omega) (by omega)
    have e1 : (S.append draftB ⟨W.toArray⟩).1 = true := by rw [append_yes (changes_fine hF) hf (by rw [hsz, hC]; omega)]
    rw [e1] at this
    exact this
  obtain ⟨aW, cW, rfl⟩ := own_slice H.own
  have hcv : ∀ W' : World, Still w W' → (convert 53 9 (.slice aW W.length cW)).run Tryz.prog W' = .ok (.string ⟨W.toArray⟩) W' := fun W' hW' => conv_own (hW'.owns H.own)
  have hcv2 := hcv w.drew ⟨rfl, rfl, rfl, rfl, Nat.le_add_right _ _⟩
  have hcvK : ∀ W1 : World, Kept Bo w.drew W1 → (convert 53 9 (.slice aW W.length cW)).run Tryz.prog W1 = .ok (.string ⟨W.toArray⟩) W1 := fun W1 hk => conv_own ((H.still (⟨rfl, rfl, rfl, rfl, Nat.le_add_right _ _⟩ : Still w w.drew)).kept hk).own
  have h0K : ∀ W1 : World, Kept Bo w.drew W1 → W1.cell? ⟨b, o, none⟩ = some (.pointer (some ⟨p, 0, none⟩)) := fun W1 hk => by
    have H1 := (H.still (⟨rfl, rfl, rfl, rfl, Nat.le_add_right _ _⟩ : Still w w.drew)).kept hk
    exact (st_cell H1.blk _).trans H1.c0
  have e5K : ∀ W1 : World, Kept Bo w.drew W1 → W1.cell? ⟨b, o + 5, none⟩ = some (.slice aW W.length cW) := fun W1 hk => by
    have H1 := (H.still (⟨rfl, rfl, rfl, rfl, Nat.le_add_right _ _⟩ : Still w w.drew)).kept hk
    exact (st_cell H1.blk _).trans H1.c5
  have hne : ((W.length : Int) == 0) = false := beq_eq_false_iff_ne.2 (by omega)
  obtain ⟨m, hm⟩ : ∃ m, m = W.length := ⟨_, rfl⟩
  have HH : Hid (FileAt Bo w b o cs T p n h sum wr (.slice aW W.length cW) W) := H
  obtain ⟨X, hX⟩ : ∃ X : ByteArray, X = ⟨W.toArray⟩ := ⟨_, rfl⟩
  rw [← hX] at ca hcv2 ⊢
  simp only [← hX] at hcvK
  rw [← hm] at hne hcv2 e5
  simp only [← hm] at hcvK e5K
  clear hD ho hF hf H hB hC hfo hcv hsz hm hX hW hW2
  go_enter Tryz.func138, Tryz.ntmps138
  go_wp2
  have AK : Hid (∀ W1 : World, Kept Bo w.drew W1 → W1.cell? ⟨b, o, none⟩ = some (.pointer (some ⟨p, 0, none⟩)) ∧ W1.cell? ⟨b, o + 5, none⟩ = some (.slice aW m cW) ∧ (convert 53 9 (.slice aW m cW)).run Tryz.prog W1 = .ok (.string X) W1) := fun W1 hk => ⟨h0K W1 hk, e5K W1 hk, hcvK W1 hk⟩
  clear h0K e5K hcvK
  go_region_held3 (fun w' => w'.cell? ⟨b, o, none⟩ = some (.pointer (some ⟨p, 0, none⟩)) ∧ w'.cell? ⟨b, o + 5, none⟩ = some (.slice aW m cW) ∧ (convert 53 9 (.slice aW m cW)).run Tryz.prog w' = .ok (.string X) w') (first | exact ⟨h0, e5, hcv2⟩ | exact AK.out _ (by assumption)) (first | (go_at_call 161; refine (ca _ ?_).mono ?_; (exact ⟨rfl, rfl, rfl, rfl, Nat.le_add_right _ _⟩); rintro e w1 ⟨rfl, d1, k1⟩))
  all_goals
    have H1 := (HH.out.still (⟨rfl, rfl, rfl, rfl, Nat.le_add_right _ _⟩ : Still w w.drew)).kept k1
    have e5 := (st_cell H1.blk (o + 5)).trans H1.c5
    have f5 := st_frozen H1.blk (o + 5)
    obtain ⟨H2, K2⟩ := H1.set5
    have kk : Hid (FK Bo b w w1) := (FK.ofKept (Kept.drew w)).trans (FK.ofKept k1)
    have HN1 := H1.notDisk
    clear H1 k1 HH
    go_wp2
    go_ret
    exact ⟨rfl, H2, K2.disk d1 HN1, kk.out.trans (FK.ofWK K2)⟩
end Go.Proofs.YtbjgpfhbdmcbbabGreatDoor.files

/-
  PLAIN MATHEMATICS: the calls of a disk on which nothing goes wrong. It imports nothing of the program.
-/
namespace Go.Proofs.YtbjgpfhbdmcbbabGreatDoor.diskm
set_option linter.unusedVariables false

theorem set_ok {S : DS} {N i : Nat} {f : DFile} (h : S.Ok N) : ({ S with files := S.files.set i f } : DS).Ok N :=
  ⟨fun x hx => by rw [List.length_set]; exact h.ref x hx, h.nl, by rw [List.length_set]; exact h.fl, h.tl, h.sl, h.fa, h.w0, h.w1, h.l0, h.l1⟩
theorem append_fine {S : DS} (hF : S.Fine) {n X : ByteArray} (hf : findIs n S.now = true) (hr : (X.size : Int) ≤ S.cap - S.bytes) :
    S.append n X = (true, { S with files := S.files.set (S.fileNo n) ⟨(S.fileOf n).data ++ X, (S.fileOf n).synced⟩ }) := by
  unfold DS.append; rw [changes_fine hF]; simp only; rw [if_neg]
  rintro (h | h | h)
  · cases h
  · rw [hf] at h; cases h
  · omega
theorem sync_fine {S : DS} (hF : S.Fine) {n : ByteArray} (hf : findIs n S.now = true) :
    S.sync n = (true, { S with files := S.files.set (S.fileNo n) ⟨(S.fileOf n).data, (S.fileOf n).data.size⟩ }) := by
  unfold DS.sync; rw [changes_fine hF]; simp only; rw [if_neg]
  rintro (h | h)
  · cases h
  · rw [hf] at h; cases h
theorem rename_fine {S : DS} (hF : S.Fine) {a b : ByteArray} (hf : findIs a S.now = true) (hab : strEq a b = false) (hb : b.size ≠ 0) :
    S.rename a b = (true, { S with steps := S.steps ++ [⟨2, a, b, S.fileNo a⟩], now := doL S.now ⟨2, a, b, S.fileNo a⟩ }) := by
  unfold DS.rename; rw [changes_fine hF]; simp only; rw [if_neg]
  rintro (h | h | h | h)
  · cases h
  · rw [hf] at h; cases h
  · rw [hab] at h; cases h
  · exact hb h
theorem create_fine {S : DS} (hF : S.Fine) {n : ByteArray} (hf : findIs n S.now = false) (hn : n.size ≠ 0) :
    S.create n = (true, { S with files := S.files ++ [⟨ByteArray.empty, 0⟩], steps := S.steps ++ [⟨1, ByteArray.empty, n, S.files.length⟩], now := doL S.now ⟨1, ByteArray.empty, n, S.files.length⟩ }) := by
  unfold DS.create; rw [changes_fine hF]; simp only; rw [if_neg]
  rintro (h | h | h)
  · cases h
  · rw [hf] at h; cases h
  · exact hn h
theorem syncDir_fine {S : DS} (hF : S.Fine) : S.syncDir = (true, { S with safe := S.now, steps := [] }) := by
  unfold DS.syncDir; rw [changes_fine hF]; rfl

theorem fileNo_lt {S : DS} {N : Nat} (h : S.Ok N) {n : ByteArray} (hf : findIs n S.now = true) : S.fileNo n < S.files.length := by
  obtain ⟨x, f, hx, _, _, hr, _⟩ := h.get hf
  rw [fileNo_get hx]; exact hr
theorem fileOf_set {S : DS} {N : Nat} (h : S.Ok N) {n : ByteArray} (hf : findIs n S.now = true) (g : DFile) : ({ S with files := S.files.set (S.fileNo n) g } : DS).fileOf n = g := by
  show ((S.files.set (S.fileNo n) g)[S.fileNo n]?).getD _ = g
  rw [List.getElem?_set_self (fileNo_lt h hf)]; rfl
theorem doL_len (l : List DName) (s : DStep) : (doL l s).length ≤ l.length + 1 := by
  by_cases h3 : s.kind = 3
  · rw [doL_rm_eq h3]; exact Nat.le_succ_of_le (List.length_filter_le _ _)
  · rw [doL_put_eq h3, List.length_append, List.length_append]
    have h1 := List.length_filter_le (stays s) (l.take (findIx s.dst l))
    have h2 := List.length_filter_le (stays s) (l.drop (findIx s.dst l))
    rw [List.length_take] at h1
    rw [List.length_drop] at h2
    simp only [List.length_singleton]
    omega
theorem doL_ref {l : List DName} {s : DStep} {m : Nat} (hs : Sorted l) (hl : ∀ x ∈ l, x.file < m) (hf : s.file < m) : ∀ x ∈ doL l s, x.file < m := by
  intro x hx
  by_cases h3 : s.kind = 3
  · exact hl x (((doL_rm hs h3).2 x).1 hx).1
  · rcases ((doL_put hs h3).2 x).1 hx with rfl | ⟨h, _⟩
    · exact hf
    · exact hl x h
theorem rename_ok {S : DS} {N : Nat} (h : S.Ok N) (hs : Sorted S.now) {a b : ByteArray} {i : Nat} (hi : i < S.files.length) : ({ S with steps := S.steps ++ [⟨2, a, b, i⟩], now := doL S.now ⟨2, a, b, i⟩ } : DS).Ok (N + 1) :=
  ⟨doL_ref hs h.ref hi, Nat.le_trans (doL_len _ _) (Nat.succ_le_succ h.nl), Nat.le_succ_of_le h.fl, by show (S.steps ++ _).length ≤ _; rw [List.length_append]; exact Nat.succ_le_succ h.tl, Nat.le_succ_of_le h.sl, Nat.le_succ_of_le h.fa, h.w0, h.w1, h.l0, h.l1⟩

/-- what Seal does: what waits goes to the draft; it is made sure; it gets its name; the names are made sure -/
def sealed (S : DS) (d n X : ByteArray) : DS := ((((S.append d X).2.sync d).2.rename d n).2.syncDir).2
end Go.Proofs.YtbjgpfhbdmcbbabGreatDoor.diskm

/-
  CONTRACTS of package files: Seal.
-/
namespace Go.Proofs.YtbjgpfhbdmcbbabGreatDoor.files
open Go.RowKit dnamath dna diskm disk keep hex
set_option linter.unusedVariables false

set_option maxHeartbeats 2000000 in
set_option maxRecDepth 100000 in
theorem Seal_any {Bo : Nat} (b o : Nat) (cs : Array Value) (T : TypeId) (p : Nat) (n h : ByteArray) (sum wr : Nat) (wv : Value) (W : List UInt8) (S : DS) (N : Nat) (a bb : Addr) (w : World) (H : FileAt Bo w b o cs T p n h sum wr wv W)
    (hg : Gs w a bb) (hD : Disk Bo w p S) (ho : S.Ok N) (hN : N ≤ 10000) (hF : S.Fine) (hso : Sorted S.now) (hf : findIs draftB S.now = true) (hs : sum < 18446744073709551616) (hwr : wr ≤ 60000) (hW2 : W.length ≤ 60000) (hB : S.bytes ≤ 1000000000000) (hC : S.cap = 1152921504606846976) (hfo : (S.fileOf draftB).data.size ≤ 1000) (hn : n.size ≠ 0) (hnd : strEq draftB n = false) (hsl : (sealL wr sum).length ≤ 100) :
    Calls Tryz.prog 114 #[.pointer (some ⟨b, o, none⟩)] w fun e w' => ∃ s' r', e = .returned .nilIface ∧ FileAt Bo w' b o (fset cs o s' r' (.slice none 0 0)) T p n h s' r' (.slice none 0 0) [] ∧ Disk Bo w' p (sealed S draftB n ⟨(W ++ sealL wr sum).toArray⟩) ∧ FK Bo b w w' := by
  have e3 : w.cell? ⟨b, o + 3, none⟩ = some (.int .u64 (sum : Int)) := (st_cell H.blk _).trans H.c3
  have e4 : w.cell? ⟨b, o + 4, none⟩ = some (.int .i64 (wr : Int)) := (st_cell H.blk _).trans H.c4
  have HSL : Hid ((sealL wr sum).length ≤ 100) := hsl
  have cse : ∀ W', Still w W' → Calls Tryz.prog 96 #[.int .i64 (wr : Int), .int .u64 (sum : Int)] W' fun e w' => ∃ q : ByteArray, e = .returned (.string q) ∧ q.data.toList = sealL wr sum ∧ Below W'.heap.size W' w' := fun W' hW' => sealOf_any wr sum a bb W' (by omega) hs (hg.kept (Kept.ofStill (Bo := 0) hW')) (by omega)
  have cwr : ∀ (W' : World) (q : ByteArray), Below w.heap.size w W' → q.data.toList = sealL wr sum → Calls Tryz.prog 113 #[.pointer (some ⟨b, o, none⟩), .string q] W' fun e w' => ∃ wv', e = .returned .nilIface ∧ FileAt Bo w' b o (fset cs o (sumL sum q.data.toList) (wr + q.size) wv') T p n h (sumL sum q.data.toList) (wr + q.size) wv' (W ++ q.data.toList) ∧ WK Bo b W' w' := fun W' q hW' hq =>
    Write_any b o cs T p n h sum wr wv W q W' (H.kept (.ofBelow hW')) hs (by omega) (by have h9 : q.size = (sealL wr sum).length := (by rw [Lib.size_eq, hq]); omega)
  have HH : Hid (FileAt Bo w b o cs T p n h sum wr wv W) := H
  clear H
  have hsl1 : 1 ≤ (sealL wr sum).length := by unfold sealL; simp
  obtain ⟨Q, hQ⟩ : ∃ Q, Q = sealL wr sum := ⟨_, rfl⟩
  simp only [← hQ] at cse cwr hsl HSL hsl1 ⊢
  obtain ⟨W2, hW2e⟩ : ∃ W2, W2 = W ++ Q := ⟨_, rfl⟩
  have hWl : W2.length = W.length + Q.length := by rw [hW2e, List.length_append]
  have hXs : (⟨W2.toArray⟩ : ByteArray).size = W2.length := by rw [Lib.size_eq]
  rw [← hW2e]
  obtain ⟨X, hX⟩ : ∃ X : ByteArray, X = ⟨W2.toArray⟩ := ⟨_, rfl⟩
  rw [← hX] at hXs ⊢
  have hap := append_fine hF hf (X := X) (by rw [hXs, hC]; omega)
  obtain ⟨S2, hS2⟩ : ∃ S2, S2 = (S.append draftB X).2 := ⟨_, rfl⟩
  have hS2e : S2 = { S with files := S.files.set (S.fileNo draftB) ⟨(S.fileOf draftB).data ++ X, (S.fileOf draftB).synced⟩ } := by rw [hS2, hap]
  have ok2 : S2.Ok N := by rw [hS2e]; exact set_ok ho
  have fi2 : S2.Fine := by rw [hS2e]; exact ⟨hF.wait, hF.life⟩
  have nw2 : S2.now = S.now := by rw [hS2e]
  have fd2 : findIs draftB S2.now = true := by rw [nw2]; exact hf
  have fo2 : S2.fileOf draftB = ⟨(S.fileOf draftB).data ++ X, (S.fileOf draftB).synced⟩ := by rw [hS2e]; exact fileOf_set ho hf _
  have fz2 : (S2.fileOf draftB).data.size ≤ 1000000000000 := by rw [fo2]; simp; omega
  have hsy := sync_fine fi2 fd2
  obtain ⟨S3, hS3⟩ : ∃ S3, S3 = (S2.sync draftB).2 := ⟨_, rfl⟩
  have hS3e : S3 = { S2 with files := S2.files.set (S2.fileNo draftB) ⟨(S2.fileOf draftB).data, (S2.fileOf draftB).data.size⟩ } := by rw [hS3, hsy]
  have ok3 : S3.Ok N := by rw [hS3e]; exact set_ok ok2
  have fi3 : S3.Fine := by rw [hS3e]; exact ⟨fi2.wait, fi2.life⟩
  have nw3 : S3.now = S.now := by rw [hS3e]; exact nw2
  have fd3 : findIs draftB S3.now = true := by rw [nw3]; exact hf
  have hrn := rename_fine fi3 fd3 hnd hn
  obtain ⟨S4, hS4⟩ : ∃ S4, S4 = (S3.rename draftB n).2 := ⟨_, rfl⟩
  have hS4e : S4 = { S3 with steps := S3.steps ++ [⟨2, draftB, n, S3.fileNo draftB⟩], now := doL S3.now ⟨2, draftB, n, S3.fileNo draftB⟩ } := by rw [hS4, hrn]
  have ok4 : S4.Ok (N + 1) := by rw [hS4e]; exact rename_ok ok3 (by rw [nw3]; exact hso) (fileNo_lt ok3 fd3)
  have fi4 : S4.Fine := by rw [hS4e]; exact ⟨fi3.wait, fi3.life⟩
  have hfin : sealed S draftB n X = { S4 with safe := S4.now, steps := [] } := by
    unfold sealed
    rw [← hS2, ← hS3, ← hS4, syncDir_fine fi4]
  have csy : ∀ W', Disk Bo W' p S2 → Calls Tryz.prog 139 #[.pointer (some ⟨p, 0, none⟩), .string draftB] W' fun e w' => e = .returned (.bool true) ∧ Disk Bo w' p S3 ∧ Kept Bo W' w' := fun W' hW' => by
    have := Sync_any p S2 N draftB W' hW' ok2 (by omega) fd2 fz2
    rw [hsy, ← hS3e] at this
    exact this
  have crn : ∀ W', Disk Bo W' p S3 → Calls Tryz.prog 140 #[.pointer (some ⟨p, 0, none⟩), .string draftB, .string n] W' fun e w' => e = .returned (.bool true) ∧ Disk Bo w' p S4 ∧ Kept Bo W' w' := fun W' hW' => by
    have := Rename_any p S3 N draftB n W' hW' ok3 (by omega) fd3 hnd hn
    rw [hrn, ← hS4e] at this
    exact this
  have csn : ∀ W', Disk Bo W' p S4 → Calls Tryz.prog 57 #[.pointer (some ⟨p, 0, none⟩)] W' fun e w' => e = .returned .nilIface ∧ Disk Bo w' p { S4 with safe := S4.now, steps := [] } ∧ Kept Bo W' w' := fun W' hW' => SyncNames_fine p S4 (N + 1) W' hW' ok4 (by omega) fi4
  have cfl : ∀ (w2 : World) (cs2 : Array Value) (s2 r2 : Nat) (wv2 : Value), FileAt Bo w2 b o cs2 T p n h s2 r2 wv2 W2 → Disk Bo w2 p S → Calls Tryz.prog 138 #[.pointer (some ⟨b, o, none⟩)] w2 fun e w' => e = .returned .nilIface ∧ FileAt Bo w' b o (fset cs2 o s2 r2 (.slice none 0 0)) T p n h s2 r2 (.slice none 0 0) [] ∧ Disk Bo w' p S2 ∧ FK Bo b w2 w' := fun w2 cs2 s2 r2 wv2 h2 d2 => by
    have := flush_any b o cs2 T p n h s2 r2 wv2 W2 S N w2 h2 d2 ho hN hF hf (by omega) (by omega) hB hC (by omega)
    rw [← hX, ← hS2] at this
    exact this
  rw [hfin]
  have HW2 : Hid (W2 = W ++ Q) := hW2e
  clear hap hS2 hS2e nw2 fd2 fo2 fz2 hsy hS3 hS3e nw3 fd3 hrn hS4 hS4e hfin ok2 ok3 ok4 fi2 fi3 fi4 hX hWl hXs hW2e ho hF hf hso hB hC hfo hn hnd hg hQ
  go_enter Tryz.func114, Tryz.ntmps114
  go_wp2
  go_region_with (first | (go_at_call 96; go_must (refine (cse w.drew ⟨rfl, rfl, rfl, rfl, Nat.le_add_right _ _⟩).mono ?_; rintro e w1 ⟨q, rfl, hq, hb1⟩; have hb1' : Below w.heap.size w w1 := ((⟨rfl, rfl, rfl, rfl, Nat.le_add_right _ _⟩ : Still w w.drew).below _).trans hb1)) | (go_at_call 113; go_must (refine (cwr w1 q hb1' hq).mono ?_; rintro e w2 ⟨wv2, rfl, h2, k2⟩)))
  all_goals
    have K2 : Hid (FK Bo b w w2) := (FK.ofKept (.ofBelow hb1')).trans (FK.ofWK k2)
    have d2 := k2.disk (hD.below hb1') (HH.out.kept (.ofBelow hb1')).notDisk
    obtain ⟨s2, hs2⟩ : ∃ s2, s2 = sumL sum q.data.toList := ⟨_, rfl⟩
    obtain ⟨r2, hr2⟩ : ∃ r2, r2 = wr + q.size := ⟨_, rfl⟩
    rw [← hs2, ← hr2, hq, ← HW2.out] at h2
    have cf2 := cfl w2 _ s2 r2 wv2 h2 d2
    rw [fset_fset] at cf2
    clear hr2 hs2 h2 d2 k2 hb1 hb1' hq hD cse cwr e3 e4 cfl
    go_upto_region 7 with (go_at_call 138; go_must (refine cf2.mono ?_; rintro e w3 ⟨rfl, h3, d3, k3⟩))
    have AK : Hid (∀ W1 : World, Kept Bo w3 W1 → W1.cell? ⟨b, o, none⟩ = some (.pointer (some ⟨p, 0, none⟩)) ∧ W1.cell? ⟨b, o + 1, none⟩ = some (.string n)) := fun W1 hk => by
      have H1 := h3.kept hk
      exact ⟨(st_cell H1.blk _).trans H1.c0, (st_cell H1.blk _).trans H1.c1⟩
    go_region_held3 (fun w' => w'.cell? ⟨b, o, none⟩ = some (.pointer (some ⟨p, 0, none⟩)) ∧ w'.cell? ⟨b, o + 1, none⟩ = some (.string n)) (first | exact AK.out _ (Kept.drew _) | exact AK.out _ ((Kept.drew _).trans k4) | exact AK.out _ ((Kept.drew _).trans (k4.trans k5))) (first | (go_at_call 139; refine (csy _ ?_).mono ?_; (exact d3.still ⟨rfl, rfl, rfl, rfl, Nat.le_add_right _ _⟩); rintro e w4 ⟨rfl, d4, k4⟩) | (go_at_call 140; refine (crn _ ?_).mono ?_; (exact d4); rintro e w5 ⟨rfl, d5, k5⟩))
    all_goals
      have kk := (Kept.drew w3).trans (k4.trans k5)
      have hc0 := (AK.out _ kk).1
      have KF : Hid (FK Bo b w w5) := K2.out.trans (k3.trans (FK.ofKept kk))
      have H5 := h3.kept kk
      clear AK h3 k3 k4 k5 kk d3 d4
      go_wp2_with (go_at_call 57; go_must (refine (csn _ d5).mono ?_; rintro e w6 ⟨rfl, d6, k6⟩))
      go_ret
      exact ⟨s2, r2, rfl, H5.kept k6, d6, KF.out.trans (FK.ofKept k6)⟩
end Go.Proofs.YtbjgpfhbdmcbbabGreatDoor.files

/-
  CONTRACTS of package disk: Remove.
-/
namespace Go.Proofs.YtbjgpfhbdmcbbabGreatDoor.disk
open Go.RowKit dnamath dna diskm
set_option linter.unusedVariables false

set_option maxHeartbeats 2000000 in
set_option maxRecDepth 100000 in
theorem Remove_any {Bo : Nat} (p : Nat) (S : DS) (N : Nat) (n : ByteArray) (w : World) (hD : Disk Bo w p S) (ho : S.Ok N) (hN : N ≤ 100000) (hfr : findIs n S.now = true) :
    Calls Tryz.prog 70 #[.pointer (some ⟨p, 0, none⟩), .string n] w fun e w' => e = .returned (.bool (S.remove n).1) ∧ Disk Bo w' p (S.remove n).2 ∧ Kept Bo w w' := by
  obtain ⟨vF, vN, vS, vT, h⟩ := hD
  obtain ⟨j0, hj, hy0, hy1, hy2⟩ := info_parts infoT
  obtain ⟨ok, T, hT⟩ : ∃ ok T, S.changes = (ok, T) := ⟨_, _, rfl⟩
  have ct := changes_any p S N vF vN vS vT w h ho (by omega)
  have hd : Hid (isDisk w p ∧ Bo ≤ p) := ⟨⟨_, _, _, h.st, .inl rfl⟩, h.p0⟩
  have hs := changes_same S
  have hok := changes_ok ho
  rw [hT] at ct hs hok
  have s1 : T.now = S.now := hs.1
  have HT : Hid (S.changes = (ok, T)) := hT
  have hfT : findIs n T.now = true := by rw [s1]; exact hfr
  have hnl : T.now.length ≤ 100001 := Nat.le_trans hok.nl (by omega)
  have hfl : T.files.length ≤ 100001 := Nat.le_trans hok.fl (by omega)
  have htl : T.steps.length ≤ 100001 := Nat.le_trans hok.tl (by omega)
  obtain ⟨k0, hk0⟩ : ∃ k, k = findIx n T.now := ⟨_, rfl⟩
  have cf : ∀ W : World, Names W vN T.now → Calls Tryz.prog 46 #[vN, .string n] W fun e w' => e = .returned (.tuple #[.int .i64 (k0 : Int), .bool true]) ∧ Still W w' := fun W hW => by
    have := find_any vN T.now n W hW (by omega)
    rw [hfT, ← hk0] at this
    exact this
  have HF : Hid (findIs n S.now = true) := hfr
  obtain ⟨x, f, hx, hi, hf2, hr, hlook⟩ := hok.get hfT
  have HX : Hid (S.fileNo n = x.file) := by have hx' := hx; rw [s1] at hx'; exact fileNo_get hx'
  rw [← hk0] at hx hi
  have hr : x.file < T.files.length := hr
  have hxf : x.file ≤ 100001 := by omega
  clear hT h s1 hs hok hfT hk0 hfr ho hlook
  cases ok with
  | false =>
    go_enter Tryz.func70, Tryz.ntmps70
    go_wp2_with (first | (go_at_call 102; go_must (refine ct.mono ?_; rintro e w1 ⟨rfl, h1, g1⟩; have hc2 := st_cell h1.st 2; change w1.cell? ⟨p, 2, none⟩ = some vN at hc2)) | (go_at_call 46; go_must (refine (cf _ h1.now).mono ?_; rintro e w2 ⟨rfl, hst⟩)))
    go_ret
    rw [remove_no HT.out (.inl rfl)]
    exact ⟨rfl, ⟨_, _, _, _, h1.still hst⟩, (Kept.ofGrown g1 (fun k hk => by cases hk; exact hd.out)).trans (.ofStill hst)⟩
  | true =>
    go_enter Tryz.func70, Tryz.ntmps70
    go_wp2_with (first | (go_at_call 102; go_must (refine ct.mono ?_; rintro e w1 ⟨rfl, h1, g1⟩; have hc2 := st_cell h1.st 2; change w1.cell? ⟨p, 2, none⟩ = some vN at hc2)) | (go_at_call 46; go_must (refine (cf _ h1.now).mono ?_; rintro e w2 ⟨rfl, hst⟩; have h2 := h1.still hst; obtain ⟨gF, gN, cF, cN, hA1, hA2, hA3, hA4, hA5, hA6, hA7, hA8, hA9, hA10, hA11, hA12, hA13⟩ := at2 h2 hx hi hf2 hr; have hmx : (maxLen : Nat) = 9223372036854775807 := rfl; rw [hmx] at hA12 hA13; have hc2 : w2.cell? ⟨p, 2, none⟩ = some (.slice (some ⟨gN, 0, none⟩) T.now.length cN) := by rw [← hA2]; exact st_cell h2.st 2)))
    obtain ⟨W5, hW5⟩ : ∃ W, W = (w2.alloc (.cells #[.int .i64 3, .string n, .string ⟨#[]⟩, .int .i64 0] 79)) := ⟨_, rfl⟩
    obtain ⟨q, hq⟩ : ∃ q, q = w2.heap.size := ⟨_, rfl⟩
    have hB5 : Below w2.heap.size w2 W5 := by rw [hW5]; exact (Below.refl _ _).alloc (Nat.le_refl _) _
    have h5 : DiskAt Bo W5.drew p T vF vN vS vT := (h2.below hB5).still ⟨rfl, rfl, rfl, rfl, Nat.le_add_right _ _⟩
    have k5 : Kept Bo w W5 := ((Kept.ofGrown g1 (fun k hk => by cases hk; exact hd.out)).trans (.ofStill hst)).trans (.ofBelow hB5)
    have hbx : W5.heap[q]? = some (.cells #[.int .i64 3, .string n, .string ⟨#[]⟩, .int .i64 0] 79 (0, 0)) := by rw [hW5, hq]; exact heap_alloc_new _ _
    have b0 : W5.cell? ⟨q, 0, none⟩ = some (.int .i64 3) := st_cell hbx 0
    have b1 : W5.cell? ⟨q, 1, none⟩ = some (.string n) := st_cell hbx 1
    have b2 : W5.cell? ⟨q, 2, none⟩ = some (.string ⟨#[]⟩) := st_cell hbx 2
    have b3 : W5.cell? ⟨q, 3, none⟩ = some (.int .i64 0) := st_cell hbx 3
    have hc4 : W5.cell? ⟨p, 4, none⟩ = _ := st_cell h5.st 4
    change W5.cell? ⟨p, 4, none⟩ = some vT at hc4
    have hql : q < W5.heap.size := lt_of_block hbx
    have hpl : p < W5.heap.size := lt_of_block h5.st
    have hal : ∀ o, (W5.drew.alloc o).cell? ⟨p, 4, none⟩ = some vT := fun o => (World.cell?_alloc_old _ _ _ (Nat.ne_of_lt hpl)).trans hc4
    have hvq : vT.ownBlock ≠ some q := fun e => by have := (h2.steps.lt q e).2; omega
    have hpq : p ≠ q := fun e => by rw [← e] at hbx; have := h5.st; rw [show W5.drew.heap[p]? = W5.heap[p]? from rfl, hbx] at this; simp only [Option.some.injEq, Obj.cells.injEq] at this; exact absurd this.2.1 (by decide)
    rw [← hW5, ← hq]
    clear hq hW5 hB5 h2 h1 hc2 g1 hst hA1 hA2 hA3 hA4 hA5 hA6 hA7 hA8 hA9 hA10 hA11 hA12 hA13 hmx
    go_region_law (first | (refine step_append_own rfl (.tmp 32) (.tmp 34) 61 rfl Bo 79 j0 (.agg #[.int .i64 0, .string ByteArray.empty, .string ByteArray.empty, .int .i64 0]) 4 48 Tryz.underlying61 hj hy0 hy1 hy2 rfl (by decide) _ _ _ rfl (h5.steps.alloc _) _ 1 1 [.int .i64 3, .string n, .string ⟨#[]⟩, .int .i64 0] rfl rfl (cell_four _ _ _ _ _ _) (one_step _ _ _ _) (by unfold maxLen; omega) (by omega) (by have q0 := h5.p0; have q1 := lt_of_block h5.st; simp at q1 ⊢; omega) ?_; intro vT1 w6 hown' hgrow _; obtain ⟨aT, cT, rfl⟩ := own_slice hown'; obtain ⟨h7, k7, p6⟩ := put_steps (f := ⟨3, n, ByteArray.empty, 0⟩) h5 hown' hgrow; have hd4 := st_cell p6 4; change w6.cell? ⟨p, 4, none⟩ = some vT at hd4; have hf4 := st_frozen p6 4; have hq6 := (hgrow.block q (by simp; omega) (fun e => hvq e.symm)).trans ((Below.heap_alloc _ _ _ hql).trans hbx); clear hown' hgrow))
    all_goals
      have hc2 : (w6.setCell ⟨p, 4, none⟩ (.slice aT (T.steps.length + 1) cT)).cell? ⟨p, 2, none⟩ = _ := st_cell h7.st 2
      change _ = some vN at hc2
      obtain ⟨W7, hW7⟩ : ∃ W, W = (w6.setCell ⟨p, 4, none⟩ (.slice aT (T.steps.length + 1) cT)) := ⟨_, rfl⟩
      rw [← hW7] at h7 k7 hc2 ⊢
      have hq7 : W7.heap[q]? = some (.cells #[.int .i64 3, .string n, .string ⟨#[]⟩, .int .i64 0] 79 (0, 0)) := by rw [hW7, Below.heap_setCell _ _ _ _ (by exact fun e => hpq e.symm)]; exact hq6
      have d0 : W7.cell? ⟨q, 0, none⟩ = some (.int .i64 3) := st_cell hq7 0
      have d1 : W7.cell? ⟨q, 1, none⟩ = some (.string n) := st_cell hq7 1
      have d2 : W7.cell? ⟨q, 2, none⟩ = some (.string ⟨#[]⟩) := st_cell hq7 2
      have d3 : W7.cell? ⟨q, 3, none⟩ = some (.int .i64 0) := st_cell hq7 3
      clear hW7 p6 hd4 hf4 hq6 b0 b1 b2 b3 hc4
      have h7d : DiskAt Bo W7.drew p { T with steps := T.steps ++ [⟨3, n, ByteArray.empty, 0⟩] } vF vN vS (.slice aT (T.steps.length + 1) cT) := h7.still ⟨rfl, rfl, rfl, rfl, Nat.le_add_right _ _⟩
      have hn7 : Names W7.drew vN T.now := h7d.now
      have cd := do_rm vN T.now ⟨3, n, ByteArray.empty, 0⟩ W7.drew hn7 (by omega) rfl (by show (0 : Nat) ≤ _; omega)
      go_wp2
      go_region_with (go_at_call 31; go_must (refine cd.mono ?_; rintro e w8 ⟨vN1, rfl, hn8, hb8⟩; obtain ⟨aN, cN, rfl⟩ := own_slice hn8; have h8 := h7d.below hb8; obtain ⟨h9, k9⟩ := put_now h8 hn8; have he2 := st_cell h8.st 2; change w8.cell? ⟨p, 2, none⟩ = some vN at he2; have hf2 := st_frozen h8.st 2))
      all_goals
        go_wp2
        go_ret
        rw [remove_yes HT.out HF.out]
        exact ⟨rfl, ⟨_, _, _, _, h9⟩, k5.trans ((Kept.drew W5).trans (k7.trans ((Kept.drew W7).trans ((Kept.ofBelow hb8).trans k9))))⟩

end Go.Proofs.YtbjgpfhbdmcbbabGreatDoor.disk
