import Derived.Test.YtbjgpfhbdmcbbabGreatDoorP06
import Derived.Lib.AppendStr
import Derived.Test.YtbjgpfhbdmcbbabGreatDoorP04
import Derived.Test.YtbjgpfhbdmcbbabGreatDoorP01

/-
  CONTRACTS of package files: Write (nothing goes to the disk yet), sealOf, SyncNames.
-/
namespace Go.Proofs.YtbjgpfhbdmcbbabGreatDoor.files
open Go.RowKit dnamath dna diskm disk keep hex
set_option linter.unusedVariables false

theorem infoU : (Tryz.prog.info? 5).map (fun i => (i.zero, i.size, i.bytes)) = some (some (.int .u8 0), 1, 1) := by kernel_rfl
def isBytes (w : World) (k : Nat) : Prop := ∃ cs fz, w.heap[k]? = some (.cells cs 5 fz)
/-- only block b and rows of bytes may have changed -/
structure WK (Bo : Nat) (b : Nat) (w w' : World) : Prop where
  os : w'.os = w.os
  tape : w'.tape = w.tape
  output : w'.output = w.output
  size : w.heap.size ≤ w'.heap.size
  block : ∀ k, k < w.heap.size → k ≠ b → ¬ isBytes w k → w'.heap[k]? = w.heap[k]?
  low : ∀ k, k < w.heap.size → k < Bo → k ≠ b → w'.heap[k]? = w.heap[k]?
theorem WK.refl {Bo : Nat} (b : Nat) (w : World) : WK Bo b w w := ⟨rfl, rfl, rfl, Nat.le_refl _, fun _ _ _ _ => rfl, fun _ _ _ _ => rfl⟩
theorem WK.trans {Bo : Nat} {b : Nat} {u v w : World} (h : WK Bo b u v) (k : WK Bo b v w) : WK Bo b u w :=
  ⟨k.os.trans h.os, k.tape.trans h.tape, k.output.trans h.output, Nat.le_trans h.size k.size, fun i hi hb hn => by
    have h1 := h.block i hi hb hn
    exact (k.block i (Nat.lt_of_lt_of_le hi h.size) hb (fun ⟨cs, fz, e⟩ => hn ⟨cs, fz, by rw [← h1]; exact e⟩)).trans h1, fun i hi hl hb => (k.low i (Nat.lt_of_lt_of_le hi h.size) hl hb).trans (h.low i hi hl hb)⟩
theorem WK.ofBelow {Bo : Nat} {b : Nat} {w w' : World} (h : Below w.heap.size w w') : WK Bo b w w' := ⟨h.os, h.tape, h.output, h.size, fun k hk _ _ => h.block k hk, fun k hk _ _ => h.block k hk⟩
theorem WK.set {Bo : Nat} {b j : Nat} {w : World} (v : Value) : WK Bo b w (w.setCell ⟨b, j, none⟩ v) := ⟨rfl, rfl, rfl, by simp [World.setCell], fun k hk hne _ => Below.heap_setCell _ _ _ _ hne, fun k hk _ hne => Below.heap_setCell _ _ _ _ hne⟩
theorem WK.grown {Bo : Nat} {b : Nat} {w w' : World} {r : Option Nat} (h : w.grownBy w' r) (hr : ∀ k, r = some k → isBytes w k ∧ Bo ≤ k) : WK Bo b w w' := ⟨h.os, h.tape, h.output, h.size, fun k hk _ hn => h.block k hk (fun e => hn (hr k e.symm).1), fun k hk hl _ => h.block k hk (fun e => by have := (hr k e.symm).2; omega)⟩
theorem WK.disk {Bo : Nat} {b p : Nat} {w w' : World} {S : DS} (h : WK Bo b w w') (hD : Disk Bo w p S) (hb : ¬ isDisk w b) : Disk Bo w' p S :=
  hD.keep fun k hk => h.block k (isDisk_lt hk) (fun e => by subst e; exact hb hk) (fun ⟨cs, fz, e⟩ => by
    obtain ⟨cs', T', fz', e', hd⟩ := hk
    rw [e] at e'
    cases e'
    rcases hd with h | h | h | h <;> exact absurd h (by decide))
theorem WK.gs {Bo : Nat} {b : Nat} {w w' : World} {a c : Addr} (h : WK Bo b w w') (hg : Gs w a c) (hb : 27 ≤ b) : Gs w' a c := by
  have key : ∀ (g : Nat) (cs : Array Value) (T : TypeId) (fz : Nat × Nat), g < 27 → T ≠ 5 → w.heap[g]? = some (.cells cs T fz) → w'.heap[g]? = some (.cells cs T fz) := fun g cs T fz hlt hT e =>
    (h.block g (lt_of_block e) (by omega) (fun ⟨cs', fz', e'⟩ => by rw [e] at e'; cases e'; exact hT rfl)).trans e
  obtain ⟨⟨c1, T1, f1, h1, t1, e1⟩, ⟨c2, T2, f2, h2, t2, e2⟩, ⟨c3, T3, f3, h3, t3, e3⟩, ⟨c4, T4, f4, h4, t4, e4⟩⟩ := hg
  exact ⟨⟨c1, T1, f1, key _ _ _ _ (by decide) (by subst t1; decide) h1, t1, e1⟩, ⟨c2, T2, f2, key _ _ _ _ (by decide) (by subst t2; decide) h2, t2, e2⟩, ⟨c3, T3, f3, key _ _ _ _ (by decide) (by subst t3; decide) h3, t3, e3⟩, ⟨c4, T4, f4, key _ _ _ _ (by decide) (by subst t4; decide) h4, t4, e4⟩⟩

def fset (cs : Array Value) (o : Nat) (s r : Nat) (v : Value) : Array Value := ((cs.setIfInBounds (o + 3) (.int .u64 (s : Int))).setIfInBounds (o + 4) (.int .i64 (r : Int))).setIfInBounds (o + 5) v

theorem fset_ne (cs : Array Value) (o s r : Nat) (v : Value) (j : Nat) (h : j < o + 3 ∨ o + 6 ≤ j) : (fset cs o s r v)[j]? = cs[j]? := by
  unfold fset
  rw [Array.getElem?_setIfInBounds_ne (by omega), Array.getElem?_setIfInBounds_ne (by omega), Array.getElem?_setIfInBounds_ne (by omega)]
theorem fset_3 (cs : Array Value) (o s r : Nat) (v : Value) (h : o + 5 < cs.size) : (fset cs o s r v)[o + 3]? = some (.int .u64 (s : Int)) := by
  unfold fset
  rw [Array.getElem?_setIfInBounds_ne (by omega), Array.getElem?_setIfInBounds_ne (by omega), Array.getElem?_setIfInBounds_self_of_lt (by omega)]
theorem fset_4 (cs : Array Value) (o s r : Nat) (v : Value) (h : o + 5 < cs.size) : (fset cs o s r v)[o + 4]? = some (.int .i64 (r : Int)) := by
  unfold fset
  rw [Array.getElem?_setIfInBounds_ne (by omega), Array.getElem?_setIfInBounds_self_of_lt (by rw [Array.size_setIfInBounds]; omega)]
theorem fset_5 (cs : Array Value) (o s r : Nat) (v : Value) (h : o + 5 < cs.size) : (fset cs o s r v)[o + 5]? = some v := by
  unfold fset
  rw [Array.getElem?_setIfInBounds_self_of_lt (by rw [Array.size_setIfInBounds, Array.size_setIfInBounds]; omega)]
theorem fset_fset (cs : Array Value) (o s r s' r' : Nat) (v v' : Value) : fset (fset cs o s r v) o s' r' v' = fset cs o s' r' v' := by
  apply Array.ext_getElem?
  intro j
  by_cases h3 : j < o + 3 ∨ o + 6 ≤ j
  · rw [fset_ne _ _ _ _ _ _ h3, fset_ne _ _ _ _ _ _ h3, fset_ne _ _ _ _ _ _ h3]
  · unfold fset
    simp only [Array.getElem?_setIfInBounds, Array.size_setIfInBounds]
    repeat' split
    all_goals first | rfl | omega
theorem FileAt.notDisk {Bo : Nat} {w : World} {b o : Nat} {cs : Array Value} {T : TypeId} {p : Nat} {n h : ByteArray} {sum wr : Nat} {wv : Value} {W : List UInt8} (H : FileAt Bo w b o cs T p n h sum wr wv W) : ¬ isDisk w b := by
  rintro ⟨cs', T', fz', e, hd⟩
  rw [H.blk] at e
  cases e
  rcases hd with h | h | h | h
  · exact H.ty.1 h
  · exact H.ty.2.1 h
  · exact H.ty.2.2.1 h
  · exact H.ty.2.2.2.1 h
theorem FileAt.bytesNe {Bo : Nat} {w : World} {b o : Nat} {cs : Array Value} {T : TypeId} {p : Nat} {n h : ByteArray} {sum wr : Nat} {wv : Value} {W : List UInt8} (H : FileAt Bo w b o cs T p n h sum wr wv W) : ¬ isBytes w b := by
  rintro ⟨cs', fz', e⟩
  rw [H.blk] at e
  cases e
  exact H.ty.2.2.2.2 rfl

theorem own_set {w : World} {bs b j : Nat} {u v : Value} {xs : List Value} {n : Nat} (h : w.ownsRow bs 5 1 v n xs) (hb : ¬ isBytes w b) : (w.setCell ⟨b, j, none⟩ u).ownsRow bs 5 1 v n xs :=
  row_keep h (fun k cs fz e => Below.heap_setCell _ _ _ _ (fun e2 => by subst e2; exact hb ⟨_, _, e⟩))

set_option maxHeartbeats 1000000 in
set_option maxRecDepth 100000 in
theorem Write_any {Bo : Nat} (b o : Nat) (cs : Array Value) (T : TypeId) (p : Nat) (n h : ByteArray) (sum wr : Nat) (wv : Value) (W : List UInt8) (t : ByteArray) (w : World) (H : FileAt Bo w b o cs T p n h sum wr wv W)
    (hs : sum < 18446744073709551616) (hr : wr ≤ 1000000000) (ht : W.length + t.size < 65536) :
    Calls Tryz.prog 113 #[.pointer (some ⟨b, o, none⟩), .string t] w fun e w' => ∃ wv', e = .returned .nilIface ∧ FileAt Bo w' b o (fset cs o (sumL sum t.data.toList) (wr + t.size) wv') T p n h (sumL sum t.data.toList) (wr + t.size) wv' (W ++ t.data.toList) ∧ WK Bo b w w' := by
  obtain ⟨i0, hi, hz0, hz1, hz2⟩ := info_parts infoU
  have e3 : w.cell? ⟨b, o + 3, none⟩ = some (.int .u64 (sum : Int)) := (st_cell H.blk _).trans H.c3
  have e4 : w.cell? ⟨b, o + 4, none⟩ = some (.int .i64 (wr : Int)) := (st_cell H.blk _).trans H.c4
  have e5 : w.cell? ⟨b, o + 5, none⟩ = some wv := (st_cell H.blk _).trans H.c5
  have f3 := st_frozen H.blk (o + 3)
  have f4 := st_frozen H.blk (o + 4)
  have f5 := st_frozen H.blk (o + 5)
  have ct := sumOn_any sum t w hs (by omega)
  have hlt := sumL_lt sum hs t.data.toList
  obtain ⟨s', hs'⟩ : ∃ s', s' = sumL sum t.data.toList := ⟨_, rfl⟩
  rw [← hs'] at ct hlt ⊢
  clear hs'
  obtain ⟨aW, cW, rfl⟩ := own_slice H.own
  have hW1 : W.length ≤ 65535 := by omega
  have ht1 : t.size ≤ 65535 := by omega
  have q1 := heap_setCell_same w b (o + 3) _ _ (.int .u64 (s' : Int)) H.blk
  have q2 := heap_setCell_same _ b (o + 4) _ _ (.int .i64 ((wr : Int) + (t.size : Int))) q1
  have o2 := own_set (j := o + 4) (u := .int .i64 ((wr : Int) + (t.size : Int))) (own_set (j := o + 3) (u := .int .u64 (s' : Int)) H.own H.bytesNe) (by
    rintro ⟨cs', fz', e⟩
    rw [q1] at e
    cases e
    exact H.ty.2.2.2.2 rfl)
  have Q2 : Hid (((w.setCell ⟨b, o + 3, none⟩ (.int .u64 (s' : Int))).setCell ⟨b, o + 4, none⟩ (.int .i64 ((wr : Int) + (t.size : Int)))).heap[b]? = some (.cells ((cs.setIfInBounds (o + 3) (.int .u64 (s' : Int))).setIfInBounds (o + 4) (.int .i64 ((wr : Int) + (t.size : Int)))) T (0, 0))) := q2
  have HH : Hid (FileAt Bo w b o cs T p n h sum wr (.slice aW W.length cW) W) := H
  clear q1 q2 H
  go_enter Tryz.func113, Tryz.ntmps113
  have hi5 : o + 5 < cs.size := by
    rcases Nat.lt_or_ge (o + 5) cs.size with h | h
    · exact h
    · have := HH.out.c5; rw [Array.getElem?_eq_none h] at this; cases this
  have BN : Hid ((Value.slice aW W.length cW).ownBlock ≠ some b) := fun hk => by
    obtain ⟨c1, f1, h1⟩ := own_kind HH.out.own b hk
    exact HH.out.bytesNe ⟨c1, f1, h1⟩
  have K2 : Hid (WK Bo b w ((w.setCell ⟨b, o + 3, none⟩ (.int .u64 (s' : Int))).setCell ⟨b, o + 4, none⟩ (.int .i64 ((wr : Int) + (t.size : Int))))) := (WK.set _).trans (WK.set _)
  go_upto_region 3 with (go_at_call 111; refine ct.mono ?_; rintro e w1 ⟨rfl, rfl⟩)
  rename World => w
  obtain ⟨W2, hW2⟩ : ∃ W2, W2 = ((w.setCell ⟨b, o + 3, none⟩ (.int .u64 (s' : Int))).setCell ⟨b, o + 4, none⟩ (.int .i64 ((wr : Int) + (t.size : Int)))) := ⟨_, rfl⟩
  rw [← hW2] at o2 Q2 K2 ⊢
  clear hW2 e3 e4 f3 f4 e5 f5
  obtain ⟨c2, hc2⟩ : ∃ c2, c2 = ((cs.setIfInBounds (o + 3) (.int .u64 (s' : Int))).setIfInBounds (o + 4) (.int .i64 ((wr : Int) + (t.size : Int)))) := ⟨_, rfl⟩
  rw [← hc2] at Q2
  have hc5 : c2[o + 5]? = some (.slice aW W.length cW) := by rw [hc2]; simp; exact HH.out.c5
  have e5 : W2.cell? ⟨b, o + 5, none⟩ = some (.slice aW W.length cW) := (st_cell Q2.out _).trans hc5
  have BK : Hid (∀ k, (Value.slice aW W.length cW).ownBlock = some k → isBytes W2 k ∧ Bo ≤ k) := fun k hk => by
    obtain ⟨c1, f1, h1⟩ := own_kind o2 k hk
    exact ⟨⟨c1, f1, h1⟩, (o2.lt k hk).1⟩
  have HBG : Hid (Bo ≤ W2.heap.size) := Nat.le_trans HH.out.big K2.out.size
  have hbl : Hid (b < W2.heap.size) := lt_of_block Q2.out
  have HC2 : Hid (c2 = ((cs.setIfInBounds (o + 3) (.int .u64 (s' : Int))).setIfInBounds (o + 4) (.int .i64 ((wr : Int) + (t.size : Int))))) := hc2
  clear hc2
  go_upto_region 4 with (at_builtin; refine Lib.wpList_append_own_string W2 rfl (.tmp 27) (.tmp 28) 53 9 rfl Bo 5 i0 Tryz.underlying53 Tryz.underlying9 hi hz0 hz1 hz2 _ _ _ rfl o2 t rfl (by unfold maxLen; omega) (by omega) HBG.out ?_; intro wv1 w3 own3 g3 _; obtain ⟨aV, cV, rfl⟩ := own_slice own3; have q3 : Hid (w3.heap[b]? = some (.cells c2 T (0, 0))) := (g3.block b hbl.out (fun e => BN.out e.symm)).trans Q2.out; have z5 : w3.cell? ⟨b, o + 5, none⟩ = some (.slice aW W.length cW) := (st_cell q3.out _).trans hc5; have y5 := st_frozen q3.out (o + 5); have G3 : Hid (WK Bo b W2 w3) := WK.grown g3 BK.out; have OW3 : Hid (w3.ownsRow Bo 5 1 (.slice aV (W.length + t.size) cV) (W.length + t.size) (ucells W ++ Lib.strCells t)) := own3; clear own3 g3)
  obtain ⟨m, hm⟩ : ∃ m, m = W.length + t.size := ⟨_, rfl⟩
  have hmI : (m : Int) < 65536 := by omega
  have hmd : decide ((m : Int) < 65536) = true := decide_eq_true hmI
  have HM : Hid (m = W.length + t.size) := hm
  rw [← hm] at OW3 ⊢
  clear hm ht hW1 ht1
  go_wp2
  go_ret
  have ec : c2 = (cs.setIfInBounds (o + 3) (.int .u64 (s' : Int))).setIfInBounds (o + 4) (.int .i64 ((wr + t.size : Nat) : Int)) := by rw [HC2.out, Int.natCast_add]
  have hf : c2.setIfInBounds (o + 5) (.slice aV m cV) = fset cs o s' (wr + t.size) (.slice aV m cV) := by rw [ec]; rfl
  have q4 := heap_setCell_same w3 b (o + 5) _ _ (.slice aV m cV) q3.out
  rw [hf] at q4
  refine ⟨.slice aV m cV, rfl, ?_, K2.out.trans (G3.out.trans (WK.set _))⟩
  have H := HH.out
  refine ⟨q4, H.ty, ?_, ?_, ?_, ?_, ?_, ?_, ?_, Nat.le_trans H.big (K2.out.trans (G3.out.trans (WK.set _))).size⟩
  · rw [fset_ne _ _ _ _ _ _ (by omega)]; exact H.c0
  · rw [fset_ne _ _ _ _ _ _ (by omega)]; exact H.c1
  · rw [fset_ne _ _ _ _ _ _ (by omega)]; exact H.c2
  · exact fset_3 _ _ _ _ _ hi5
  · exact fset_4 _ _ _ _ _ hi5
  · exact fset_5 _ _ _ _ _ hi5
  · have hl : (W ++ t.data.toList).length = m := by rw [List.length_append, HM.out, ← Lib.size_eq]
    have hu : ucells (W ++ t.data.toList) = ucells W ++ Lib.strCells t := by simp [ucells, Lib.strCells]
    rw [hl, hu]
    exact own_set OW3.out (fun ⟨cs', fz', e⟩ => by rw [q3.out] at e; cases e; exact H.ty.2.2.2.2 rfl)
end Go.Proofs.YtbjgpfhbdmcbbabGreatDoor.files

/-
  CONTRACTS of package disk: Rename, Remove.
-/
namespace Go.Proofs.YtbjgpfhbdmcbbabGreatDoor.disk
open Go.RowKit dnamath dna diskm
set_option linter.unusedVariables false

theorem rename_no {S T : DS} {n b : ByteArray} {ok : Bool} (hT : S.changes = (ok, T)) (h : ok = false ∨ findIs n S.now = false ∨ strEq n b = true ∨ b.size = 0) : S.rename n b = (false, T) := by
  unfold DS.rename; rw [hT]; simp only; rw [if_pos h]
theorem rename_yes {S T : DS} {n b : ByteArray} {i : Nat} (hT : S.changes = (true, T)) (h1 : findIs n S.now = true) (h2 : strEq n b = false) (h3 : b.size ≠ 0) (hi : S.fileNo n = i) :
    S.rename n b = (true, { T with steps := T.steps ++ [⟨2, n, b, i⟩], now := doL T.now ⟨2, n, b, i⟩ }) := by
  subst hi
  unfold DS.rename; rw [hT]; simp only; rw [if_neg]
  rintro (h | h | h | h)
  · cases h
  · rw [h1] at h; cases h
  · rw [h2] at h; cases h
  · exact h3 h
theorem remove_no {S T : DS} {n : ByteArray} {ok : Bool} (hT : S.changes = (ok, T)) (h : ok = false ∨ findIs n S.now = false) : S.remove n = (false, T) := by
  unfold DS.remove; rw [hT]; simp only; rw [if_pos h]
theorem remove_yes {S T : DS} {n : ByteArray} (hT : S.changes = (true, T)) (h1 : findIs n S.now = true) :
    S.remove n = (true, { T with steps := T.steps ++ [⟨3, n, ByteArray.empty, 0⟩], now := doL T.now ⟨3, n, ByteArray.empty, 0⟩ }) := by
  unfold DS.remove; rw [hT]; simp only; rw [if_neg]
  rintro (h | h)
  · cases h
  · rw [h1] at h; cases h

set_option maxHeartbeats 2000000 in
set_option maxRecDepth 100000 in
theorem Rename_any {Bo : Nat} (p : Nat) (S : DS) (N : Nat) (n b : ByteArray) (w : World) (hD : Disk Bo w p S) (ho : S.Ok N) (hN : N ≤ 100000) (hfr : findIs n S.now = true) (hnb : strEq n b = false) (hne : b.size ≠ 0) :
    Calls Tryz.prog 140 #[.pointer (some ⟨p, 0, none⟩), .string n, .string b] w fun e w' => e = .returned (.bool (S.rename n b).1) ∧ Disk Bo w' p (S.rename n b).2 ∧ Kept Bo w w' := by
  obtain ⟨vF, vN, vS, vT, h⟩ := hD
  obtain ⟨j0, hj, hy0, hy1, hy2⟩ := info_parts infoT
  obtain ⟨ok, T, hT⟩ : ∃ ok T, S.changes = (ok, T) := ⟨_, _, rfl⟩
  have ct := changes_any p S N vF vN vS vT w h ho (by omega)
  have hd : Hid (isDisk w p ∧ Bo ≤ p) := ⟨⟨_, _, _, h.st, .inl rfl⟩, h.p0⟩
  have hs := changes_same S
  have hok := changes_ok ho
  rw [hT] at ct hs hok
  have s1 : T.now = S.now := hs.1
  have HT : Hid (S.changes = (ok, T)) := hT
  have HNE : Hid (b.size ≠ 0) := hne
  have hne2 := nonempty_list hne
  have HNB : Hid (strEq n b = false) := hnb
  have hnb2 : (n.toList == b.toList) = false := hnb
  have hfT : findIs n T.now = true := by rw [s1]; exact hfr
  have hnl : T.now.length ≤ 100001 := Nat.le_trans hok.nl (by omega)
  have hfl : T.files.length ≤ 100001 := Nat.le_trans hok.fl (by omega)
  have htl : T.steps.length ≤ 100001 := Nat.le_trans hok.tl (by omega)
  obtain ⟨k0, hk0⟩ : ∃ k, k = findIx n T.now := ⟨_, rfl⟩
  have cf : ∀ W : World, Names W vN T.now → Calls Tryz.prog 46 #[vN, .string n] W fun e w' => e = .returned (.tuple #[.int .i64 (k0 : Int), .bool true]) ∧ Still W w' := fun W hW => by
    have := find_any vN T.now n W hW (by omega)
    rw [hfT, ← hk0] at this
    exact this
  have HF : Hid (findIs n S.now = true) := hfr
  obtain ⟨x, f, hx, hi, hf2, hr, hlook⟩ := hok.get hfT
  have HX : Hid (S.fileNo n = x.file) := by have hx' := hx; rw [s1] at hx'; exact fileNo_get hx'
  rw [← hk0] at hx hi
  have hr : x.file < T.files.length := hr
  have hxf : x.file ≤ 100001 := by omega
  clear hT h s1 hs hok hfT hk0 hfr ho hlook hne hnb
  cases ok with
  | false =>
    go_enter Tryz.func140, Tryz.ntmps140
    go_wp2_with (first | (go_at_call 102; go_must (refine ct.mono ?_; rintro e w1 ⟨rfl, h1, g1⟩; have hc2 := st_cell h1.st 2; change w1.cell? ⟨p, 2, none⟩ = some vN at hc2)) | (go_at_call 46; go_must (refine (cf _ h1.now).mono ?_; rintro e w2 ⟨rfl, hst⟩)))
    go_ret
    rw [rename_no HT.out (.inl rfl)]
    exact ⟨rfl, ⟨_, _, _, _, h1.still hst⟩, (Kept.ofGrown g1 (fun k hk => by cases hk; exact hd.out)).trans (.ofStill hst)⟩
  | true =>
    go_enter Tryz.func140, Tryz.ntmps140
    go_wp2_with (first | (go_at_call 102; go_must (refine ct.mono ?_; rintro e w1 ⟨rfl, h1, g1⟩; have hc2 := st_cell h1.st 2; change w1.cell? ⟨p, 2, none⟩ = some vN at hc2)) | (go_at_call 46; go_must (refine (cf _ h1.now).mono ?_; rintro e w2 ⟨rfl, hst⟩; have h2 := h1.still hst; obtain ⟨gF, gN, cF, cN, hA1, hA2, hA3, hA4, hA5, hA6, hA7, hA8, hA9, hA10, hA11, hA12, hA13⟩ := at2 h2 hx hi hf2 hr; have hmx : (maxLen : Nat) = 9223372036854775807 := rfl; rw [hmx] at hA12 hA13; have hc2 : w2.cell? ⟨p, 2, none⟩ = some (.slice (some ⟨gN, 0, none⟩) T.now.length cN) := by rw [← hA2]; exact st_cell h2.st 2)))
    obtain ⟨W5, hW5⟩ : ∃ W, W = (w2.alloc (.cells #[.int .i64 2, .string n, .string b, .int .i64 (x.file : Int)] 79)) := ⟨_, rfl⟩
    obtain ⟨q, hq⟩ : ∃ q, q = w2.heap.size := ⟨_, rfl⟩
    have hB5 : Below w2.heap.size w2 W5 := by rw [hW5]; exact (Below.refl _ _).alloc (Nat.le_refl _) _
    have h5 : DiskAt Bo W5.drew p T vF vN vS vT := (h2.below hB5).still ⟨rfl, rfl, rfl, rfl, Nat.le_add_right _ _⟩
    have k5 : Kept Bo w W5 := ((Kept.ofGrown g1 (fun k hk => by cases hk; exact hd.out)).trans (.ofStill hst)).trans (.ofBelow hB5)
    have hbx : W5.heap[q]? = some (.cells #[.int .i64 2, .string n, .string b, .int .i64 (x.file : Int)] 79 (0, 0)) := by rw [hW5, hq]; exact heap_alloc_new _ _
    have b0 : W5.cell? ⟨q, 0, none⟩ = some (.int .i64 2) := st_cell hbx 0
    have b1 : W5.cell? ⟨q, 1, none⟩ = some (.string n) := st_cell hbx 1
    have b2 : W5.cell? ⟨q, 2, none⟩ = some (.string b) := st_cell hbx 2
    have b3 : W5.cell? ⟨q, 3, none⟩ = some (.int .i64 (x.file : Int)) := st_cell hbx 3
    have hc4 : W5.cell? ⟨p, 4, none⟩ = _ := st_cell h5.st 4
    change W5.cell? ⟨p, 4, none⟩ = some vT at hc4
    have hql : q < W5.heap.size := lt_of_block hbx
    have hpl : p < W5.heap.size := lt_of_block h5.st
    have hal : ∀ o, (W5.drew.alloc o).cell? ⟨p, 4, none⟩ = some vT := fun o => (World.cell?_alloc_old _ _ _ (Nat.ne_of_lt hpl)).trans hc4
    have hvq : vT.ownBlock ≠ some q := fun e => by have := (h2.steps.lt q e).2; omega
    have hpq : p ≠ q := fun e => by rw [← e] at hbx; have := h5.st; rw [show W5.drew.heap[p]? = W5.heap[p]? from rfl, hbx] at this; simp only [Option.some.injEq, Obj.cells.injEq] at this; exact absurd this.2.1 (by decide)
    rw [← hW5, ← hq]
    clear hq hW5 hB5 h2 h1 hc2 g1 hst hA1 hA2 hA3 hA4 hA5 hA6 hA7 hA8 hA9 hA10 hA11 hA12 hA13 hmx
    go_region_law (first | (refine step_append_own rfl (.tmp 52) (.tmp 54) 61 rfl Bo 79 j0 (.agg #[.int .i64 0, .string ByteArray.empty, .string ByteArray.empty, .int .i64 0]) 4 48 Tryz.underlying61 hj hy0 hy1 hy2 rfl (by decide) _ _ _ rfl (h5.steps.alloc _) _ 1 1 [.int .i64 2, .string n, .string b, .int .i64 (x.file : Int)] rfl rfl (cell_four _ _ _ _ _ _) (one_step _ _ _ _) (by unfold maxLen; omega) (by omega) (by have q0 := h5.p0; have q1 := lt_of_block h5.st; simp at q1 ⊢; omega) ?_; intro vT1 w6 hown' hgrow _; obtain ⟨aT, cT, rfl⟩ := own_slice hown'; obtain ⟨h7, k7, p6⟩ := put_steps (f := ⟨2, n, b, x.file⟩) h5 hown' hgrow; have hd4 := st_cell p6 4; change w6.cell? ⟨p, 4, none⟩ = some vT at hd4; have hf4 := st_frozen p6 4; have hq6 := (hgrow.block q (by simp; omega) (fun e => hvq e.symm)).trans ((Below.heap_alloc _ _ _ hql).trans hbx); clear hown' hgrow))
    all_goals
      have hc2 : (w6.setCell ⟨p, 4, none⟩ (.slice aT (T.steps.length + 1) cT)).cell? ⟨p, 2, none⟩ = _ := st_cell h7.st 2
      change _ = some vN at hc2
      obtain ⟨W7, hW7⟩ : ∃ W, W = (w6.setCell ⟨p, 4, none⟩ (.slice aT (T.steps.length + 1) cT)) := ⟨_, rfl⟩
      rw [← hW7] at h7 k7 hc2 ⊢
      have hq7 : W7.heap[q]? = some (.cells #[.int .i64 2, .string n, .string b, .int .i64 (x.file : Int)] 79 (0, 0)) := by rw [hW7, Below.heap_setCell _ _ _ _ (by exact fun e => hpq e.symm)]; exact hq6
      have d0 : W7.cell? ⟨q, 0, none⟩ = some (.int .i64 2) := st_cell hq7 0
      have d1 : W7.cell? ⟨q, 1, none⟩ = some (.string n) := st_cell hq7 1
      have d2 : W7.cell? ⟨q, 2, none⟩ = some (.string b) := st_cell hq7 2
      have d3 : W7.cell? ⟨q, 3, none⟩ = some (.int .i64 (x.file : Int)) := st_cell hq7 3
      clear hW7 p6 hd4 hf4 hq6 b0 b1 b2 b3 hc4
      have h7d : DiskAt Bo W7.drew p { T with steps := T.steps ++ [⟨2, n, b, x.file⟩] } vF vN vS (.slice aT (T.steps.length + 1) cT) := h7.still ⟨rfl, rfl, rfl, rfl, Nat.le_add_right _ _⟩
      have hn7 : Names W7.drew vN T.now := h7d.now
      have cd := do_put vN T.now ⟨2, n, b, x.file⟩ W7.drew hn7 (by omega) (show ¬ (2 : Nat) = 3 by decide) (show (2 : Nat) < 10 by decide) (by show x.file ≤ _; omega)
      go_wp2
      go_region_with (go_at_call 31; go_must (refine cd.mono ?_; rintro e w8 ⟨vN1, rfl, hn8, hb8⟩; obtain ⟨aN, cN, rfl⟩ := own_slice hn8; have h8 := h7d.below hb8; obtain ⟨h9, k9⟩ := put_now h8 hn8; have he2 := st_cell h8.st 2; change w8.cell? ⟨p, 2, none⟩ = some vN at he2; have hf2 := st_frozen h8.st 2))
      all_goals
        go_wp2
        go_ret
        rw [rename_yes HT.out HF.out HNB.out HNE.out HX.out]
        exact ⟨rfl, ⟨_, _, _, _, h9⟩, k5.trans ((Kept.drew W5).trans (k7.trans ((Kept.drew W7).trans ((Kept.ofBelow hb8).trans k9))))⟩

end Go.Proofs.YtbjgpfhbdmcbbabGreatDoor.disk

/-
  PLAIN MATHEMATICS: names in order; a file that is written whole. It imports nothing of the program.
-/
namespace Go.Proofs.YtbjgpfhbdmcbbabGreatDoor.diskm
set_option linter.unusedVariables false

def key (x : DName) : List UInt8 := x.name.toList
def Sorted (l : List DName) : Prop := (l.map key).Pairwise (· < ·)

theorem strLt_iff (a b : ByteArray) : strLt a b = true ↔ a.toList < b.toList := by
  show Op.bytesLess a.toList b.toList = true ↔ _
  rw [Proofs.bytesLess_eq]; exact decide_eq_true_iff
theorem strLt_not (a b : ByteArray) : strLt a b = false ↔ ¬ a.toList < b.toList := by
  rw [← strLt_iff]; cases strLt a b <;> simp
theorem strEq_iff (a b : ByteArray) : strEq a b = true ↔ a.toList = b.toList := by show (a.toList == b.toList) = true ↔ _; simp
theorem strEq_not (a b : ByteArray) : strEq a b = false ↔ ¬ a.toList = b.toList := by rw [← strEq_iff]; cases strEq a b <;> simp
theorem toList_inj {a b : ByteArray} (h : a.toList = b.toList) : a = b := by
  rw [Lib.toList_data, Lib.toList_data] at h
  exact ByteArray.ext (Array.toList_inj.1 h)

theorem find_cons_lt {n : ByteArray} {y : DName} {r : List DName} (h : key y < n.toList) : findIx n (y :: r) = findIx n r + 1 ∧ findIs n (y :: r) = findIs n r := by
  have h1 : findIx n (y :: r) = findIx n r + 1 := by show (if strLt y.name n then findIx n r + 1 else 0) = _; rw [if_pos ((strLt_iff _ _).2 h)]
  refine ⟨h1, ?_⟩
  unfold findIs
  rw [h1]; rfl
theorem find_cons_ge {n : ByteArray} {y : DName} {r : List DName} (h : ¬ key y < n.toList) : findIx n (y :: r) = 0 ∧ findIs n (y :: r) = strEq y.name n := by
  have h1 : findIx n (y :: r) = 0 := by show (if strLt y.name n then findIx n r + 1 else 0) = _; rw [if_neg (by rw [(strLt_not _ _).2 h]; simp)]
  refine ⟨h1, ?_⟩
  unfold findIs
  rw [h1]; rfl

theorem sorted_cons {y : DName} {r : List DName} (h : Sorted (y :: r)) : (∀ x ∈ r, key y < key x) ∧ Sorted r := by
  unfold Sorted at h
  rw [List.map_cons, List.pairwise_cons] at h
  exact ⟨fun x hx => h.1 _ (List.mem_map.2 ⟨x, hx, rfl⟩), h.2⟩

theorem find_iff {n : ByteArray} : ∀ {l : List DName}, Sorted l → (findIs n l = true ↔ ∃ x ∈ l, key x = n.toList)
  | [], _ => by simp [findIs]
  | y :: r, hs => by
    obtain ⟨h1, h2⟩ := sorted_cons hs
    by_cases h : key y < n.toList
    · rw [(find_cons_lt h).2, find_iff h2]
      constructor
      · rintro ⟨x, hx, e⟩; exact ⟨x, List.mem_cons_of_mem _ hx, e⟩
      · rintro ⟨x, hx, e⟩
        rw [List.mem_cons] at hx
        rcases hx with rfl | hx
        · rw [e] at h; exact absurd h (List.lt_irrefl _)
        · exact ⟨x, hx, e⟩
    · rw [(find_cons_ge h).2, strEq_iff]
      constructor
      · intro e; exact ⟨y, List.mem_cons_self .., e⟩
      · rintro ⟨x, hx, e⟩
        rw [List.mem_cons] at hx
        rcases hx with rfl | hx
        · exact e
        · have := h1 x hx
          rw [e] at this
          exact absurd this h

theorem find_at {n : ByteArray} : ∀ {l : List DName} {x : DName}, Sorted l → x ∈ l → key x = n.toList → l[findIx n l]? = some x
  | [], _, _, h, _ => by cases h
  | y :: r, x, hs, hx, e => by
    obtain ⟨h1, h2⟩ := sorted_cons hs
    rw [List.mem_cons] at hx
    by_cases h : key y < n.toList
    · rcases hx with rfl | hx
      · rw [e] at h; exact absurd h (List.lt_irrefl _)
      rw [(find_cons_lt h).1, List.getElem?_cons_succ]
      exact find_at h2 hx e
    · rcases hx with rfl | hx
      · rw [(find_cons_ge h).1]; rfl
      · have := h1 x hx
        rw [e] at this
        exact absurd this h

theorem find_take {n : ByteArray} : ∀ {l : List DName}, Sorted l → (∀ x ∈ l.take (findIx n l), key x < n.toList) ∧ (∀ x ∈ l.drop (findIx n l), ¬ key x < n.toList)
  | [], _ => by simp
  | y :: r, hs => by
    obtain ⟨h1, h2⟩ := sorted_cons hs
    by_cases h : key y < n.toList
    · rw [(find_cons_lt h).1, List.take_succ_cons, List.drop_succ_cons]
      obtain ⟨h3, h4⟩ := find_take (n := n) h2
      refine ⟨fun x hx => ?_, h4⟩
      rw [List.mem_cons] at hx
      rcases hx with rfl | hx
      · exact h
      · exact h3 x hx
    · rw [(find_cons_ge h).1]
      refine ⟨fun x hx => by simp at hx, fun x hx => ?_⟩
      rw [List.drop_zero, List.mem_cons] at hx
      rcases hx with rfl | hx
      · exact h
      · exact fun h5 => h (List.lt_trans (h1 x hx) h5)

/-- a name stays -/
def stays (s : DStep) (x : DName) : Bool := (strEq x.name s.src == false) && (s.kind == 3 || strEq x.name s.dst == false)
theorem stays_iff (s : DStep) (x : DName) : stays s x = true ↔ (strEq x.name s.src = false ∧ (s.kind = 3 ∨ strEq x.name s.dst = false)) := by
  unfold stays; simp
theorem keep_one (s : DStep) (x : DName) : (if strEq x.name s.src = false ∧ (s.kind = 3 ∨ strEq x.name s.dst = false) then [x] else []) = if stays s x then [x] else [] := by
  by_cases h : stays s x = true
  · rw [if_pos ((stays_iff s x).1 h), if_pos h]
  · rw [if_neg (fun e => h ((stays_iff s x).2 e)), if_neg h]
theorem filter_one {p : DName → Bool} (x : DName) (r : List DName) : (if p x then [x] else []) ++ r.filter p = (x :: r).filter p := by
  rw [List.filter_cons]; cases p x <;> simp

theorem doFrom_gt (a : Nat) (s : DStep) : ∀ (l : List DName) (i : Nat), a < i → doFrom a s i l = l.filter (stays s)
  | [], _, _ => rfl
  | x :: r, i, h => by
    rw [doFrom, doFrom_gt a s r (i + 1) (by omega), if_neg (fun e => by omega), List.nil_append, keep_one, filter_one]
theorem doFrom_rm (a : Nat) (s : DStep) (h3 : s.kind = 3) : ∀ (l : List DName) (i : Nat), doFrom a s i l = l.filter (stays s)
  | [], _ => rfl
  | x :: r, i => by
    rw [doFrom, doFrom_rm a s h3 r (i + 1), if_neg (fun e => e.2 h3), List.nil_append, keep_one, filter_one]
theorem doFrom_le (a : Nat) (s : DStep) (h3 : ¬ s.kind = 3) : ∀ (l : List DName) (i : Nat), i ≤ a → a ≤ i + l.length →
    doFrom a s i l ++ (if a = i + l.length then [⟨s.dst, s.file⟩] else []) = (l.take (a - i)).filter (stays s) ++ [⟨s.dst, s.file⟩] ++ (l.drop (a - i)).filter (stays s)
  | [], i, h1, h2 => by
    have : a = i := by simp at h2; omega
    subst this
    simp [doFrom]
  | x :: r, i, h1, h2 => by
    rw [doFrom, keep_one]
    by_cases e : i = a
    · subst e
      have e9 : ¬ i = i + (x :: r).length := by simp
      rw [if_pos ⟨rfl, h3⟩, if_neg e9, List.append_nil, doFrom_gt i s r (i + 1) (by omega), Nat.sub_self, List.append_assoc, filter_one]
      simp
    · rw [if_neg (fun h => e h.1), List.nil_append]
      have ih := doFrom_le a s h3 r (i + 1) (by omega) (by simp at h2; omega)
      have e1 : i + (x :: r).length = i + 1 + r.length := by simp; omega
      rw [e1]
      have e2 : a - i = (a - (i + 1)) + 1 := by omega
      rw [List.append_assoc, ih, e2, List.take_succ_cons, List.drop_succ_cons, ← filter_one]
      simp only [List.append_assoc]

theorem doL_put_eq {l : List DName} {s : DStep} (h3 : ¬ s.kind = 3) : doL l s = (l.take (findIx s.dst l)).filter (stays s) ++ [⟨s.dst, s.file⟩] ++ (l.drop (findIx s.dst l)).filter (stays s) := by
  have := doFrom_le (findIx s.dst l) s h3 l 0 (Nat.zero_le _) (by rw [Nat.zero_add]; exact findIx_le _ _)
  rw [Nat.zero_add, Nat.sub_zero] at this
  rw [← this]
  unfold doL
  congr 1
  by_cases h : findIx s.dst l = l.length
  · rw [if_pos ⟨h, h3⟩, if_pos h]
  · rw [if_neg (fun e => h e.1), if_neg h]
theorem doL_rm_eq {l : List DName} {s : DStep} (h3 : s.kind = 3) : doL l s = l.filter (stays s) := by
  unfold doL
  rw [doFrom_rm _ s h3, if_neg (fun e => e.2 h3), List.append_nil]

theorem sorted_filter {l : List DName} (h : Sorted l) (p : DName → Bool) : Sorted (l.filter p) := List.Pairwise.sublist (List.filter_sublist.map key) h
theorem stays_put {s : DStep} (h3 : ¬ s.kind = 3) (x : DName) : stays s x = true ↔ key x ≠ s.src.toList ∧ key x ≠ s.dst.toList := by
  rw [stays_iff, strEq_not, strEq_not]
  constructor
  · rintro ⟨h1, h2 | h2⟩
    · exact absurd h2 h3
    · exact ⟨h1, h2⟩
  · rintro ⟨h1, h2⟩; exact ⟨h1, .inr h2⟩

theorem doL_put {l : List DName} {s : DStep} (hs : Sorted l) (h3 : ¬ s.kind = 3) : Sorted (doL l s) ∧ ∀ x, x ∈ doL l s ↔ x = ⟨s.dst, s.file⟩ ∨ (x ∈ l ∧ key x ≠ s.src.toList ∧ key x ≠ s.dst.toList) := by
  obtain ⟨f1, f2⟩ := find_take (n := s.dst) hs
  have hsp := hs
  unfold Sorted at hsp
  rw [← List.take_append_drop (findIx s.dst l) l, List.map_append, List.pairwise_append] at hsp
  rw [doL_put_eq h3]
  refine ⟨?_, ?_⟩
  · unfold Sorted
    rw [List.map_append, List.map_append, List.pairwise_append, List.pairwise_append]
    refine ⟨⟨sorted_filter hsp.1 _, by simp, ?_⟩, sorted_filter hsp.2.1 _, ?_⟩
    · intro a ha b hb
      simp only [List.map_cons, List.map_nil, List.mem_singleton] at hb
      subst hb
      rw [List.mem_map] at ha
      obtain ⟨x, hx, rfl⟩ := ha
      exact f1 x ((List.mem_filter.1 hx).1)
    · intro a ha b hb
      rw [List.mem_map] at hb
      obtain ⟨y, hy, rfl⟩ := hb
      rw [List.mem_filter] at hy
      have hy2 := f2 y hy.1
      have hy3 := ((stays_put h3 y).1 hy.2).2
      have hlt : s.dst.toList < key y := by
        rcases List.le_iff_lt_or_eq.1 (List.not_lt.1 hy2) with h | h
        · exact h
        · exact absurd h.symm hy3
      rw [List.mem_append] at ha
      rcases ha with ha | ha
      · rw [List.mem_map] at ha
        obtain ⟨x, hx, rfl⟩ := ha
        exact List.lt_trans (f1 x ((List.mem_filter.1 hx).1)) hlt
      · simp only [List.map_cons, List.map_nil, List.mem_singleton] at ha
        subst ha
        exact hlt
  · intro x
    rw [List.mem_append, List.mem_append, List.mem_singleton, List.mem_filter, List.mem_filter, stays_put h3]
    have hm : x ∈ l ↔ x ∈ l.take (findIx s.dst l) ∨ x ∈ l.drop (findIx s.dst l) := by rw [← List.mem_append, List.take_append_drop]
    rw [hm]
    constructor
    · rintro ((⟨h1, h2⟩ | h1) | ⟨h1, h2⟩)
      · exact .inr ⟨.inl h1, h2⟩
      · exact .inl h1
      · exact .inr ⟨.inr h1, h2⟩
    · rintro (h1 | ⟨h1 | h1, h2⟩)
      · exact .inl (.inr h1)
      · exact .inl (.inl ⟨h1, h2⟩)
      · exact .inr ⟨h1, h2⟩
theorem doL_rm {l : List DName} {s : DStep} (hs : Sorted l) (h3 : s.kind = 3) : Sorted (doL l s) ∧ ∀ x, x ∈ doL l s ↔ x ∈ l ∧ key x ≠ s.src.toList := by
  rw [doL_rm_eq h3]
  refine ⟨sorted_filter hs _, fun x => ?_⟩
  rw [List.mem_filter, stays_iff, strEq_not]
  constructor
  · rintro ⟨h1, h2, _⟩; exact ⟨h1, h2⟩
  · rintro ⟨h1, h2⟩; exact ⟨h1, h2, .inl h3⟩

/-- what a name stands for -/
theorem look_iff {S : DS} {n : ByteArray} {f : DFile} (hs : Sorted S.now) : S.look n = some f ↔ ∃ x ∈ S.now, key x = n.toList ∧ S.files[x.file]? = some f := by
  unfold DS.look
  constructor
  · intro h
    cases hf : findIs n S.now with
    | false => rw [hf] at h; simp at h
    | true =>
      rw [hf, if_pos rfl] at h
      obtain ⟨x, hx, e⟩ := (find_iff hs).1 hf
      rw [find_at hs hx e] at h
      exact ⟨x, hx, e, h⟩
  · rintro ⟨x, hx, e, h⟩
    rw [(find_iff hs).2 ⟨x, hx, e⟩, if_pos rfl, find_at hs hx e]
    exact h
end Go.Proofs.YtbjgpfhbdmcbbabGreatDoor.diskm

/-
  CONTRACTS of package files: sealOf, SyncNames, remove, Begin.
-/
namespace Go.Proofs.YtbjgpfhbdmcbbabGreatDoor.files
open Go.RowKit dnamath dna diskm disk keep hex
set_option linter.unusedVariables false

def sealL (r s : Nat) : List UInt8 := [61] ++ Lib.itoa (r : Int) ++ [32] ++ hexL s ++ [10]

theorem grow_below (w : World) (k : Nat) (os : Array Obj) : Below w.heap.size w (Sort.grow (w.drewN k) os) := by
  refine ⟨rfl, rfl, rfl, ?_, fun i hi => ?_⟩
  · show w.heap.size ≤ (w.heap ++ os).size
    simp
  · show (w.heap ++ os)[i]? = _
    exact Array.getElem?_append_left hi

set_option maxHeartbeats 800000 in
set_option maxRecDepth 100000 in
theorem sealOf_any (r s : Nat) (a b : Addr) (w : World) (hr : r ≤ 1000000000) (hs : s < 18446744073709551616) (hg : Gs w a b) (hlen : (sealL r s).length ≤ 1000) :
    Calls Tryz.prog 96 #[.int .i64 (r : Int), .int .u64 (s : Int)] w fun e w' => ∃ q : ByteArray, e = .returned (.string q) ∧ q.data.toList = sealL r s ∧ Below w.heap.size w w' := by
  have ci := Tryz.strconv_Itoa (r : Int) (by omega) (by omega) w hg.powC
  have hil : (Lib.itoa (r : Int)).length ≤ 1000 := by unfold sealL at hlen; simp at hlen; omega
  have hhl : (hexL s).length ≤ 1000 := by unfold sealL at hlen; simp at hlen; omega
  obtain ⟨I, hI⟩ : ∃ I : ByteArray, I = ⟨(Lib.itoa (r : Int)).toArray⟩ := ⟨_, rfl⟩
  obtain ⟨X, hX⟩ : ∃ X : ByteArray, X = ⟨(hexL s).toArray⟩ := ⟨_, rfl⟩
  have hIs : I.size ≤ 1000 := by rw [hI, Lib.size_eq]; simpa using hil
  have hXs : X.size ≤ 1000 := by rw [hX, Lib.size_eq]; simpa using hhl
  have HI : Hid (I.data.toList = Lib.itoa (r : Int)) := by show _ = _; rw [hI]
  have HX : Hid (X.data.toList = hexL s) := by show _ = _; rw [hX]
  rw [← hI] at ci
  have cx : ∀ W, Below w.heap.size w W → Calls Tryz.prog 82 #[.int .u64 (s : Int), .int .i64 16] W fun e w' => e = .returned (.string X) ∧ Below W.heap.size W w' := fun W hW => by
    rw [hX]; exact FormatUint_16 s W hs (hg.below hW).bruC
  clear hI hX hlen hil hhl hg
  go_enter Tryz.func96, Tryz.ntmps96
  go_wp2_with (first | (go_at_call 21; go_must (refine ci.mono ?_; rintro e w1 ⟨rfl, k, os, hw1⟩; have hb1 : Below w.heap.size w w1 := (by rw [hw1]; exact grow_below _ _ _); clear hw1)) | (go_at_call 82; go_must (refine (cx _ hb1).mono ?_; rintro e w2 ⟨rfl, hb2⟩)))
  go_ret
  refine ⟨_, rfl, ?_, hb1.trans (hb2.mono hb1.size)⟩
  unfold sealL
  simp [ByteArray.data_append, HI.out, HX.out]
end Go.Proofs.YtbjgpfhbdmcbbabGreatDoor.files
