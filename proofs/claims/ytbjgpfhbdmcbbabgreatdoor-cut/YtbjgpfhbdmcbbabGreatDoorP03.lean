import Derived.Test.YtbjgpfhbdmcbbabGreatDoorP02
import Derived.Deep.RegionLaw
import Derived.Deep.RegionWith
import Derived.Laws.AppendOwn

/-
  CONTRACTS of package disk: a disk in memory; changes, Dead, SyncDir.
-/
namespace Go.Proofs.YtbjgpfhbdmcbbabGreatDoor.disk
open Go.RowKit dnamath dna diskm
set_option linter.unusedVariables false

def fcell (x : DFile) : List Value := [.string x.data, .int .i64 (x.synced : Int)]
def fcells (l : List DFile) : List Value := l.flatMap fcell
def tcell (x : DStep) : List Value := [.int .i64 (x.kind : Int), .string x.src, .string x.dst, .int .i64 (x.file : Int)]
def tcells (l : List DStep) : List Value := l.flatMap tcell
theorem fcells_append (a b : List DFile) : fcells (a ++ b) = fcells a ++ fcells b := by simp [fcells]
theorem tcells_append (a b : List DStep) : tcells (a ++ b) = tcells a ++ tcells b := by simp [tcells]
theorem fcells_at0 : ∀ (l : List DFile) (i : Nat) (x : DFile), l[i]? = some x → (fcells l)[i * 2]? = some (.string x.data)
  | [], _, _, h => by simp at h
  | y :: l, 0, x, h => by simp at h; subst h; rfl
  | y :: l, i + 1, x, h => by
    have := fcells_at0 l i x (by simpa using h)
    rw [fcells, List.flatMap_cons, show (i + 1) * 2 = i * 2 + 2 by omega]
    simpa [fcell, fcells] using this
theorem fcells_at1 : ∀ (l : List DFile) (i : Nat) (x : DFile), l[i]? = some x → (fcells l)[i * 2 + 1]? = some (.int .i64 (x.synced : Int))
  | [], _, _, h => by simp at h
  | y :: l, 0, x, h => by simp at h; subst h; rfl
  | y :: l, i + 1, x, h => by
    have := fcells_at1 l i x (by simpa using h)
    rw [fcells, List.flatMap_cons, show (i + 1) * 2 + 1 = i * 2 + 1 + 2 by omega]
    simpa [fcell, fcells] using this

def dcells (S : DS) (vF vN vS vT : Value) : Array Value := #[.int .i64 S.cap, vF, vN, vS, vT, .int .i64 S.wait, .int .i64 S.life, .int .i64 (S.failed : Int)]

structure DiskAt (Bo : Nat) (w : World) (p : Nat) (S : DS) (vF vN vS vT : Value) : Prop where
  st : w.heap[p]? = some (.cells (dcells S vF vN vS vT) 63 (0, 0))
  files : w.ownsRow Bo 82 2 vF S.files.length (fcells S.files)
  now : Names w vN S.now
  safe : Names w vS S.safe
  steps : w.ownsRow Bo 79 4 vT S.steps.length (tcells S.steps)
  p0 : Bo ≤ p

def isDisk (w : World) (k : Nat) : Prop := ∃ cs T fz, w.heap[k]? = some (.cells cs T fz) ∧ (T = 63 ∨ T = 82 ∨ T = 84 ∨ T = 79)
/-- only what belongs to disks may have changed -/
structure Kept (Bo : Nat) (w w' : World) : Prop where
  os : w'.os = w.os
  tape : w'.tape = w.tape
  output : w'.output = w.output
  size : w.heap.size ≤ w'.heap.size
  block : ∀ k, k < w.heap.size → ¬ isDisk w k → w'.heap[k]? = w.heap[k]?
  low : ∀ k, k < w.heap.size → k < Bo → w'.heap[k]? = w.heap[k]?
theorem isDisk_of {w w' : World} {k : Nat} (h : w'.heap[k]? = w.heap[k]?) : isDisk w' k ↔ isDisk w k := by unfold isDisk; rw [h]
theorem Kept.refl {Bo : Nat} (w : World) : Kept Bo w w := ⟨rfl, rfl, rfl, Nat.le_refl _, fun _ _ _ => rfl, fun _ _ _ => rfl⟩
theorem Kept.trans {Bo : Nat} {a b c : World} (h : Kept Bo a b) (k : Kept Bo b c) : Kept Bo a c :=
  ⟨k.os.trans h.os, k.tape.trans h.tape, k.output.trans h.output, Nat.le_trans h.size k.size, fun i hi hn => by
    have h1 := h.block i hi hn
    exact (k.block i (Nat.lt_of_lt_of_le hi h.size) (fun hd => hn ((isDisk_of h1).1 hd))).trans h1, fun i hi hl => (k.low i (Nat.lt_of_lt_of_le hi h.size) hl).trans (h.low i hi hl)⟩
theorem Kept.ofBelow {Bo : Nat} {w w' : World} (h : Below w.heap.size w w') : Kept Bo w w' := ⟨h.os, h.tape, h.output, h.size, fun k hk _ => h.block k hk, fun k hk _ => h.block k hk⟩
theorem Kept.ofStill {Bo : Nat} {w w' : World} (h : Still w w') : Kept Bo w w' := .ofBelow (h.below _)
theorem Kept.ofGrown {Bo : Nat} {w w' : World} {r : Option Nat} (h : w.grownBy w' r) (hr : ∀ k, r = some k → isDisk w k ∧ Bo ≤ k) : Kept Bo w w' :=
  ⟨h.os, h.tape, h.output, h.size, fun k hk hn => h.block k hk (fun e => hn (hr k e.symm).1), fun k hk hl => h.block k hk (fun e => by have := (hr k e.symm).2; omega)⟩

theorem row_keep {w w' : World} {bs : Nat} {e : TypeId} {s n : Nat} {v : Value} {xs : List Value} (h : w.ownsRow bs e s v n xs) (hb : ∀ (k : Nat) (cs : Array Value) (fz : Nat × Nat), w.heap[k]? = some (.cells cs e fz) → w'.heap[k]? = w.heap[k]?) : w'.ownsRow bs e s v n xs := by
  refine ⟨h.1, ?_⟩
  rcases h.2 with h2 | ⟨g, cap, cur, h1, h0, h3, h4⟩
  · exact .inl h2
  · exact .inr ⟨g, cap, cur, h1, h0, by rw [hb g _ _ h3]; exact h3, h4⟩

theorem DiskAt.keep {Bo : Nat} {w w' : World} {p : Nat} {S : DS} {vF vN vS vT : Value} (h : DiskAt Bo w p S vF vN vS vT) (hk : ∀ k, isDisk w k → w'.heap[k]? = w.heap[k]?) : DiskAt Bo w' p S vF vN vS vT :=
  ⟨by rw [hk p ⟨_, _, _, h.st, .inl rfl⟩]; exact h.st, row_keep h.files (fun k cs fz e => hk k ⟨_, _, _, e, .inr (.inl rfl)⟩), row_keep h.now (fun k cs fz e => hk k ⟨_, _, _, e, .inr (.inr (.inl rfl))⟩), row_keep h.safe (fun k cs fz e => hk k ⟨_, _, _, e, .inr (.inr (.inl rfl))⟩), row_keep h.steps (fun k cs fz e => hk k ⟨_, _, _, e, .inr (.inr (.inr rfl))⟩), h.p0⟩
theorem isDisk_lt {w : World} {k : Nat} (h : isDisk w k) : k < w.heap.size := by
  obtain ⟨cs, T, fz, h, _⟩ := h
  exact lt_of_block h
theorem DiskAt.below {Bo : Nat} {w w' : World} {p : Nat} {S : DS} {vF vN vS vT : Value} (h : DiskAt Bo w p S vF vN vS vT) (hb : Below w.heap.size w w') : DiskAt Bo w' p S vF vN vS vT :=
  h.keep fun k hk => hb.block k (isDisk_lt hk)
theorem DiskAt.still {Bo : Nat} {w w' : World} {p : Nat} {S : DS} {vF vN vS vT : Value} (h : DiskAt Bo w p S vF vN vS vT) (hb : Still w w') : DiskAt Bo w' p S vF vN vS vT := h.below (hb.below _)

/-- the struct alone has changed -/
theorem DiskAt.put {Bo : Nat} {w w' : World} {p : Nat} {S S' : DS} {vF vN vS vT : Value} (h : DiskAt Bo w p S vF vN vS vT) (hg : w.grownBy w' (some p)) (hs : w'.heap[p]? = some (.cells (dcells S' vF vN vS vT) 63 (0, 0)))
    (h1 : S'.files = S.files) (h2 : S'.now = S.now) (h3 : S'.safe = S.safe) (h4 : S'.steps = S.steps) : DiskAt Bo w' p S' vF vN vS vT := by
  have hb : ∀ e : TypeId, e ≠ 63 → ∀ (k : Nat) (cs : Array Value) (fz : Nat × Nat), w.heap[k]? = some (.cells cs e fz) → w'.heap[k]? = w.heap[k]? := fun e he k cs fz hk =>
    hg.block k (lt_of_block hk) (fun e2 => by cases e2; rw [h.st] at hk; cases hk; exact he rfl)
  refine ⟨hs, ?_, ?_, ?_, ?_, h.p0⟩
  · rw [h1]; exact row_keep h.files (hb _ (by decide))
  · rw [h2]; exact row_keep h.now (hb _ (by decide))
  · rw [h3]; exact row_keep h.safe (hb _ (by decide))
  · rw [h4]; exact row_keep h.steps (hb _ (by decide))

theorem st_cell {w : World} {p : Nat} {cs : Array Value} {T : TypeId} (h : w.heap[p]? = some (.cells cs T (0, 0))) (j : Nat) : w.cell? ⟨p, j, none⟩ = cs[j]? := by
  unfold World.cell?; rw [h]; rfl
theorem st_frozen {w : World} {p : Nat} {cs : Array Value} {T : TypeId} (h : w.heap[p]? = some (.cells cs T (0, 0))) (j : Nat) : w.frozen? ⟨p, j, none⟩ = false := by
  simp [World.frozen?, h]
theorem grown_set {w : World} {b j : Nat} (v : Value) : w.grownBy (w.setCell ⟨b, j, none⟩ v) (some b) :=
  ⟨rfl, rfl, rfl, by simp [World.setCell], fun k hk hne => Below.heap_setCell _ _ _ _ (fun e => hne (by rw [e]))⟩
theorem grown_trans {a b c : World} {row : Option Nat} (h : a.grownBy b row) (k : b.grownBy c row) : a.grownBy c row :=
  ⟨k.os.trans h.os, k.tape.trans h.tape, k.output.trans h.output, Nat.le_trans h.size k.size, fun i hi hne => (k.block i (Nat.lt_of_lt_of_le hi h.size) hne).trans (h.block i hi hne)⟩
theorem grown_refl (w : World) (r : Option Nat) : w.grownBy w r := ⟨rfl, rfl, rfl, Nat.le_refl _, fun _ _ _ => rfl⟩

set_option maxHeartbeats 1000000 in
set_option maxRecDepth 100000 in
theorem changes_any {Bo : Nat} (p : Nat) (S : DS) (N : Nat) (vF vN vS vT : Value) (w : World) (h : DiskAt Bo w p S vF vN vS vT) (ho : S.Ok N) (hN : N ≤ 1000000) :
    Calls Tryz.prog 102 #[.pointer (some ⟨p, 0, none⟩)] w fun e w' => e = .returned (.bool S.changes.1) ∧ DiskAt Bo w' p S.changes.2 vF vN vS vT ∧ w.grownBy w' (some p) := by
  have hst := h.st
  have hc5 := st_cell hst 5
  have hc6 := st_cell hst 6
  have hc7 := st_cell hst 7
  have hf5 := st_frozen hst 5
  have hf6 := st_frozen hst 6
  have hf7 := st_frozen hst 7
  have HST : Hid (w.heap[p]? = some (.cells (dcells S vF vN vS vT) 63 (0, 0))) := hst
  have H : Hid (DiskAt Bo w p S vF vN vS vT) := h
  obtain ⟨o1, o2, o3, o4, o5, o6, o7, o8, o9, o10⟩ := ho
  clear o1 hst h
  obtain ⟨C, files, now, safe, steps, W, L, X⟩ := S
  change w.cell? ⟨p, 5, none⟩ = some (.int .i64 W) at hc5
  change w.cell? ⟨p, 6, none⟩ = some (.int .i64 L) at hc6
  change w.cell? ⟨p, 7, none⟩ = some (.int .i64 (X : Int)) at hc7
  have o6 : X ≤ N := o6
  have o7 : -1 ≤ W := o7
  have o8 : W ≤ 1000000000 := o8
  have o9 : -1 ≤ L := o9
  have o10 : L ≤ 1000000000 := o10
  by_cases hL : L = 0
  · subst hL
    have hch : (DS.mk C files now safe steps W 0 X).changes = (false, ⟨C, files, now, safe, steps, W, 0, X + 1⟩) := by simp [DS.changes]
    rw [hch]
    go_enter Tryz.func102, Tryz.ntmps102
    go_wp2
    go_ret
    exact ⟨rfl, H.out.put (grown_set _) (by rw [heap_setCell_same w p 7 _ _ _ HST.out]; rfl) rfl rfl rfl rfl, grown_set _⟩
  · have hL2 : (L == 0) = false := by simpa using hL
    have hL3 : (L != 0) = true := by simpa using hL
    by_cases hW : W = 0
    · subst hW
      have hch : (DS.mk C files now safe steps 0 L X).changes = (false, ⟨C, files, now, safe, steps, -1, L, X + 1⟩) := by simp [DS.changes, hL]
      rw [hch]
      go_enter Tryz.func102, Tryz.ntmps102
      go_wp2
      go_ret
      have h1 := heap_setCell_same w p 7 _ _ (.int .i64 ((X : Int) + 1)) HST.out
      have h2 := heap_setCell_same _ p 5 _ _ (.int .i64 (-1)) h1
      exact ⟨rfl, H.out.put (grown_trans (grown_set _) (grown_set _)) (by rw [h2]; rfl) rfl rfl rfl rfl, grown_trans (grown_set _) (grown_set _)⟩
    · have hW2 : (W == 0) = false := by simpa using hW
      have hch : (DS.mk C files now safe steps W L X).changes = (true, ⟨C, files, now, safe, steps, if W > 0 then W - 1 else W, if L > 0 then L - 1 else L, X⟩) := by simp [DS.changes, hL, hW]
      rw [hch]
      by_cases hW3 : 0 < W
      · rw [if_pos hW3]
        by_cases hL4 : 0 < L
        · rw [if_pos hL4]
          go_enter Tryz.func102, Tryz.ntmps102
          go_wp2
          go_ret
          have h1 := heap_setCell_same w p 5 _ _ (.int .i64 (W - 1)) HST.out
          have h2 := heap_setCell_same _ p 6 _ _ (.int .i64 (L - 1)) h1
          exact ⟨rfl, H.out.put (grown_trans (grown_set _) (grown_set _)) (by rw [h2]; rfl) rfl rfl rfl rfl, grown_trans (grown_set _) (grown_set _)⟩
        · rw [if_neg hL4]
          go_enter Tryz.func102, Tryz.ntmps102
          go_wp2
          go_ret
          exact ⟨rfl, H.out.put (grown_set _) (by rw [heap_setCell_same w p 5 _ _ _ HST.out]; rfl) rfl rfl rfl rfl, grown_set _⟩
      · rw [if_neg hW3]
        by_cases hL4 : 0 < L
        · rw [if_pos hL4]
          go_enter Tryz.func102, Tryz.ntmps102
          go_wp2
          go_ret
          exact ⟨rfl, H.out.put (grown_set _) (by rw [heap_setCell_same w p 6 _ _ _ HST.out]; rfl) rfl rfl rfl rfl, grown_set _⟩
        · rw [if_neg hL4]
          go_enter Tryz.func102, Tryz.ntmps102
          go_wp2
          go_ret
          exact ⟨rfl, H.out, grown_refl _ _⟩
end Go.Proofs.YtbjgpfhbdmcbbabGreatDoor.disk

/-
  CONTRACTS of package disk: Dead, SyncDir, Size, Bytes, Left.
-/
namespace Go.Proofs.YtbjgpfhbdmcbbabGreatDoor.disk
open Go.RowKit dnamath dna diskm
set_option linter.unusedVariables false

theorem own_slice {w : World} {base : Nat} {e : TypeId} {s : Nat} {v : Value} {n : Nat} {xs : List Value} (h : w.ownsRow base e s v n xs) : ∃ a c, v = .slice a n c := by
  rcases h.2 with ⟨h1, h2⟩ | ⟨g, cap, cur, h1, _⟩
  · exact ⟨none, 0, by rw [h1, h2]⟩
  · exact ⟨_, _, h1⟩
theorem Still.drewN (w : World) (n : Nat) : Still w (w.drewN n) := ⟨rfl, rfl, rfl, rfl, Nat.le_add_right _ _⟩

set_option maxHeartbeats 400000 in
set_option maxRecDepth 100000 in
theorem Dead_any {Bo : Nat} (p : Nat) (S : DS) (vF vN vS vT : Value) (w : World) (h : DiskAt Bo w p S vF vN vS vT) :
    Calls Tryz.prog 37 #[.pointer (some ⟨p, 0, none⟩)] w fun e w' => e = .returned (.bool S.dead) ∧ w' = w := by
  have hc6 := st_cell h.st 6
  change w.cell? ⟨p, 6, none⟩ = some (.int .i64 S.life) at hc6
  clear h
  go_enter Tryz.func37, Tryz.ntmps37
  go_wp2
  go_ret
  exact ⟨rfl, rfl⟩

set_option maxHeartbeats 800000 in
set_option maxRecDepth 100000 in
theorem SyncDir_any {Bo : Nat} (p : Nat) (S : DS) (N : Nat) (vF vN vS vT : Value) (w : World) (h : DiskAt Bo w p S vF vN vS vT) (ho : S.Ok N) (hN : N ≤ 1000000) :
    Calls Tryz.prog 72 #[.pointer (some ⟨p, 0, none⟩)] w fun e w' => e = .returned (.bool S.syncDir.1) ∧ (∃ vS' vT', DiskAt Bo w' p S.syncDir.2 vF vN vS' vT') ∧ Kept Bo w w' := by
  obtain ⟨ok, T, hT⟩ : ∃ ok T, S.changes = (ok, T) := ⟨_, _, rfl⟩
  have ct := changes_any p S N vF vN vS vT w h ho hN
  have hd : Hid (isDisk w p ∧ Bo ≤ p) := ⟨⟨_, _, _, h.st, .inl rfl⟩, h.p0⟩
  obtain ⟨aN, cN, rfl⟩ := own_slice h.now
  obtain ⟨nN, hnN⟩ : ∃ n, n = S.now.length := ⟨_, rfl⟩
  rw [← hnN] at ct ⊢
  clear hnN
  rw [hT] at ct
  have HT : Hid (S.changes = (ok, T)) := hT
  clear hT h
  cases ok with
  | false =>
    go_enter Tryz.func72, Tryz.ntmps72
    go_wp2_with (go_at_call 102; go_must (refine ct.mono ?_; rintro e w1 ⟨rfl, h1, g1⟩))
    go_ret
    have e : S.syncDir = (false, T) := by unfold DS.syncDir; rw [HT.out]; rfl
    rw [e]
    exact ⟨rfl, ⟨_, _, h1⟩, .ofGrown g1 (fun k hk => by cases hk; exact hd.out)⟩
  | true =>
    go_enter Tryz.func72, Tryz.ntmps72
    go_wp2_with (go_at_call 102; go_must (refine ct.mono ?_; rintro e w1 ⟨rfl, h1, g1⟩; have hc2 := st_cell h1.st 2; have hf3 := st_frozen h1.st 3; have hf4 := st_frozen h1.st 4; have hc3 := st_cell h1.st 3; have hc4 := st_cell h1.st 4; change w1.cell? ⟨p, 2, none⟩ = some (.slice aN nN cN) at hc2; change w1.cell? ⟨p, 3, none⟩ = some vS at hc3; change w1.cell? ⟨p, 4, none⟩ = some vT at hc4))
    go_ret
    have e : S.syncDir = (true, { T with safe := T.now, steps := [] }) := by unfold DS.syncDir; rw [HT.out]; rfl
    rw [e]
    have k1 := heap_setCell_same w1 p 3 _ _ (.slice aN nN cN) h1.st
    have k2 := heap_setCell_same _ p 4 _ _ (.slice none 0 0) k1
    have gg : w1.grownBy ((w1.setCell ⟨p, 3, none⟩ (.slice aN nN cN)).setCell ⟨p, 4, none⟩ (.slice none 0 0)) (some p) := grown_trans (grown_set _) (grown_set _)
    refine ⟨rfl, ⟨.slice aN nN cN, .slice none 0 0, ?_⟩, (Kept.ofGrown g1 (fun k hk => by cases hk; exact hd.out)).trans (.ofGrown gg (fun k hk => by cases hk; exact ⟨⟨_, _, _, h1.st, .inl rfl⟩, h1.p0⟩))⟩
    have hb : ∀ e : TypeId, e ≠ 63 → ∀ (k : Nat) (cs : Array Value) (fz : Nat × Nat), w1.heap[k]? = some (.cells cs e fz) → ((w1.setCell ⟨p, 3, none⟩ (.slice aN nN cN)).setCell ⟨p, 4, none⟩ (.slice none 0 0)).heap[k]? = w1.heap[k]? := fun e he k cs fz hk =>
      gg.block k (lt_of_block hk) (fun e2 => by cases e2; rw [h1.st] at hk; cases hk; exact he rfl)
    refine ⟨?_, row_keep h1.files (hb _ (by decide)), row_keep h1.now (hb _ (by decide)), row_keep h1.now (hb _ (by decide)), World.ownsRow_nil _ _ _ _, h1.p0⟩
    rw [k2]; rfl

/-- what is to be known of a name's file -/
structure At2 (w : World) (p : Nat) (vF vN : Value) (i : Nat) (x : DName) (f : DFile) (gF gN nF cF nN cN : Nat) : Prop where
  eF : vF = .slice (some ⟨gF, 0, none⟩) nF cF
  eN : vN = .slice (some ⟨gN, 0, none⟩) nN cN
  c1 : w.cell? ⟨gN, i * 2 + 1, none⟩ = some (.int .i64 (x.file : Int))
  d0 : w.cell? ⟨gF, x.file * 2, none⟩ = some (.string f.data)
  d1 : w.cell? ⟨gF, x.file * 2 + 1, none⟩ = some (.int .i64 (f.synced : Int))
  fr0 : w.frozen? ⟨gF, x.file * 2, none⟩ = false
  fr1 : w.frozen? ⟨gF, x.file * 2 + 1, none⟩ = false
  lN : i < nN
  lF : x.file < nF
  bN : nN ≤ cN
  bF : nF ≤ cF
  mN : cN ≤ maxLen
  mF : cF ≤ maxLen

theorem at2 {Bo : Nat} {w : World} {p : Nat} {S : DS} {vF vN vS vT : Value} (h : DiskAt Bo w p S vF vN vS vT) {i : Nat} {x : DName} {f : DFile} (hx : S.now[i]? = some x) (hi : i < S.now.length) (hf : S.files[x.file]? = some f) (hr : x.file < S.files.length) :
    ∃ gF gN cF cN, At2 w p vF vN i x f gF gN S.files.length cF S.now.length cN := by
  have hF := h.files
  have hN := h.now
  rcases hF.2 with ⟨_, h0⟩ | ⟨gF, cF, cuF, rfl, _, hF1, hF2, hF3, _⟩
  · omega
  rcases hN.2 with ⟨_, h0⟩ | ⟨gN, cN, cuN, rfl, _, hN1, hN2, hN3, _⟩
  · omega
  refine ⟨gF, gN, cF, cN, rfl, rfl, ?_, ?_, ?_, hF.frozenAt _, hF.frozenAt _, hi, hr, hN2, hF2, hN3, hF3⟩
  · rw [hN.cellAt (g := gN) (i * 2 + 1) (by omega)]; exact ncells_at1 _ _ _ hx
  · rw [hF.cellAt (g := gF) (x.file * 2) (by omega)]; exact fcells_at0 _ _ _ hf
  · rw [hF.cellAt (g := gF) (x.file * 2 + 1) (by omega)]; exact fcells_at1 _ _ _ hf

set_option maxHeartbeats 800000 in
set_option maxRecDepth 100000 in
theorem Size_any {Bo : Nat} (p : Nat) (S : DS) (N : Nat) (vF vN vS vT : Value) (n : ByteArray) (w : World) (h : DiskAt Bo w p S vF vN vS vT) (ho : S.Ok N) (hN : N ≤ 1000000) :
    Calls Tryz.prog 69 #[.pointer (some ⟨p, 0, none⟩), .string n] w fun e w' => e = .returned (.tuple #[.int .i64 (S.size n).1, .bool (S.size n).2]) ∧ Still w w' := by
  have ct := find_any vN S.now n w h.now (Nat.le_trans ho.nl hN)
  obtain ⟨q, hq⟩ : ∃ q, q = S.size n := ⟨_, rfl⟩
  rw [← hq]
  have HQ : Hid (q = S.size n) := hq
  clear hq
  cases hf : findIs n S.now with
  | false =>
    rw [hf] at ct
    obtain ⟨k, hk⟩ : ∃ k, k = findIx n S.now := ⟨_, rfl⟩
    rw [← hk] at ct
    have hs : q = (0, false) := by rw [HQ.out]; unfold DS.size; rw [DS.look_none hf]
    rw [hs]
    have hc2 := st_cell h.st 2
    change w.cell? ⟨p, 2, none⟩ = some vN at hc2
    clear hs hk hf h
    go_enter Tryz.func69, Tryz.ntmps69
    go_wp2_with (go_at_call 46; go_must (refine ct.mono ?_; rintro e w1 ⟨rfl, hst⟩))
    go_ret2
    exact ⟨rfl, hst⟩
  | true =>
    rw [hf] at ct
    obtain ⟨x, f, hx, hi, hf2, hr, hlook⟩ := ho.get hf
    have hsz : q = if S.dead then (0, false) else ((f.data.size : Int), true) := by rw [HQ.out]; unfold DS.size; rw [hlook]
    obtain ⟨gF, gN, cF, cN, A⟩ := at2 h hx hi hf2 hr
    have hc2 := st_cell h.st 2
    change w.cell? ⟨p, 2, none⟩ = some vN at hc2
    have hc1 := st_cell h.st 1
    change w.cell? ⟨p, 1, none⟩ = some vF at hc1
    have hc6 := st_cell h.st 6
    change w.cell? ⟨p, 6, none⟩ = some (.int .i64 S.life) at hc6
    obtain ⟨i, hI⟩ : ∃ i, i = findIx n S.now := ⟨_, rfl⟩
    rw [← hI] at ct A
    obtain ⟨hA1, hA2, hA3, hA4, hA5, hA6, hA7, hA8, hA9, hA10, hA11, hA12, hA13⟩ := A
    rw [hA1] at hc1
    rw [hA2] at hc2 ct
    have hmx : (maxLen : Nat) = 9223372036854775807 := rfl
    rw [hmx] at hA12 hA13
    have hnl := ho.nl
    have hfl := ho.fl
    clear hI hx hf2 hr hlook hf h hA1 hA2 hmx hi
    cases hd : S.dead with
    | true =>
      rw [hd, if_pos rfl] at hsz
      rw [hsz]
      have hl0 : S.life = 0 := by simpa [DS.dead] using hd
      rw [hl0] at hc6
      clear hsz hd hl0
      go_enter Tryz.func69, Tryz.ntmps69
      go_wp2_with (go_at_call 46; go_must (refine ct.mono ?_; rintro e w1 ⟨rfl, hst⟩; rw [← hst.cell] at hc6))
      go_ret2
      exact ⟨rfl, hst⟩
    | false =>
      rw [hd, if_neg (by simp)] at hsz
      rw [hsz]
      have hl0 : (S.life == 0) = false := hd
      clear hsz hd
      go_enter Tryz.func69, Tryz.ntmps69
      go_wp2_with (go_at_call 46; go_must (refine ct.mono ?_; rintro e w1 ⟨rfl, hst⟩; rw [← hst.cell] at hc6 hc1 hc2 hA3 hA4))
      go_quiet (fail)
      go_wp2
      go_ret2
      exact ⟨rfl, hst.trans (Still.drewN _ _)⟩
end Go.Proofs.YtbjgpfhbdmcbbabGreatDoor.disk

/-
  CONTRACTS of package disk: Create.
-/
namespace Go.Proofs.YtbjgpfhbdmcbbabGreatDoor.disk
open Go.RowKit dnamath dna diskm
set_option linter.unusedVariables false

theorem infoF : (Tryz.prog.info? 82).map (fun i => (i.zero, i.size, i.bytes)) = some (some (.agg #[.string ByteArray.empty, .int .i64 0]), 2, 24) := by kernel_rfl
theorem infoT : (Tryz.prog.info? 79).map (fun i => (i.zero, i.size, i.bytes)) = some (some (.agg #[.int .i64 0, .string ByteArray.empty, .string ByteArray.empty, .int .i64 0]), 4, 48) := by kernel_rfl

theorem step_append_own {P : Program} {ops : Array Oper} {o : Oper} {a : Act} {w : World} {K : Act → World → Prop} {Q : Exit → Act → World → Prop} {E : Prop}
    (hg : o.guard = none) (s x : Operand) (t : TypeId) (hop : o.op = Op.call { callee := Callee.builtin Builtin.append, args := #[s, x], argTypes := #[t, t] })
    (base : Nat) (e : TypeId) (i : TypeInfo) (z : Value) (size bytes : Nat) (ht : P.underlying t = some (.slice e)) (hi : P.info? e = some i) (hz : i.zero = some z)
    (hsize : i.size = size) (hby : i.bytes = bytes) (hzs : z.cells.size = size) (hsz : 0 < size)
    (v : Value) (n : Nat) (xs : List Value) (hs : a.eval s = v) (hown : w.ownsRow base e size v n xs)
    (ad : Addr) (m c : Nat) (news : List Value) (hx : a.eval x = .slice (some ad) m c) (hl : news.length = m * size) (hnews : ∀ j u, news[j]? = some u → w.cell? (ad.add j) = some u) (h1 : ∀ u ∈ news, u.oneCell' = true)
    (h63 : n + m ≤ maxLen) (hbytes : (n + m) * bytes ≤ 140737488355328) (hbase : base ≤ w.heap.size)
    (hK : ∀ v' w', w'.ownsRow base e size v' (n + m) (xs ++ news) → w.grownBy w' v.ownBlock → (v' = .slice none 0 0 ↔ v = .slice none 0 0 ∧ m = 0) → K (a.put o.dst v') w') :
    if Region.wanted o (yielded ops a.tmps) = true then Oper.wp P o a w K Q else E := by
  have hw : Region.wanted o (yielded ops a.tmps) = true := by simp [Region.wanted, hg]
  rw [if_pos hw]
  exact wp_append_own w s x t hop base e i z size bytes ht hi hz hsize hby hzs hsz v n xs hs hown ad m c news hx hl hnews h1 h63 hbytes hbase hK

/-- blocks of one type are as they were -/
def TK (e : TypeId) (w w' : World) : Prop := ∀ (k : Nat) (cs : Array Value) (fz : Nat × Nat), w.heap[k]? = some (.cells cs e fz) → w'.heap[k]? = w.heap[k]?
theorem TK.trans {e : TypeId} {a b c : World} (h : TK e a b) (k : TK e b c) : TK e a c := fun i cs fz hi => by
  have h1 := h i cs fz hi
  exact (k i cs fz (h1.trans hi)).trans h1
theorem TK.below {e : TypeId} {w w' : World} (h : Below w.heap.size w w') : TK e w w' := fun k cs fz hk => h.block k (lt_of_block hk)
theorem TK.alloc {e : TypeId} {w : World} (o : Obj) : TK e w (w.alloc o) := fun k cs fz hk => Below.heap_alloc _ _ _ (lt_of_block hk)
theorem TK.grown {e e' : TypeId} {w w' : World} {r : Option Nat} (h : w.grownBy w' r) (hr : ∀ g, r = some g → ∃ cs fz, w.heap[g]? = some (.cells cs e' fz)) (hne : e' ≠ e) : TK e w w' := fun k cs fz hk =>
  h.block k (lt_of_block hk) (fun e2 => by
    obtain ⟨cs', fz', h'⟩ := hr k e2.symm
    rw [h'] at hk
    cases hk
    exact hne rfl)
theorem own_kind {w : World} {b : Nat} {e : TypeId} {s : Nat} {v : Value} {n : Nat} {xs : List Value} (h : w.ownsRow b e s v n xs) : ∀ g, v.ownBlock = some g → ∃ cs fz, w.heap[g]? = some (.cells cs e fz) := by
  intro g hg
  rcases h.2 with ⟨rfl, _⟩ | ⟨g', cap, cur, rfl, _, h3, _⟩
  · cases hg
  · cases hg; exact ⟨_, _, h3⟩
theorem own_kind_alloc {w : World} {b : Nat} {e : TypeId} {s : Nat} {v : Value} {n : Nat} {xs : List Value} (h : w.ownsRow b e s v n xs) (o : Obj) : ∀ g, v.ownBlock = some g → ∃ cs fz, (w.alloc o).heap[g]? = some (.cells cs e fz) := own_kind (h.alloc o)
theorem TK.set {e e' : TypeId} {w : World} {p j : Nat} {v : Value} {cs : Array Value} {fz : Nat × Nat} (hp : w.heap[p]? = some (.cells cs e' fz)) (hne : e' ≠ e) : TK e w (w.setCell ⟨p, j, none⟩ v) :=
  TK.grown (grown_set v) (fun g hg => by cases hg; exact ⟨_, _, hp⟩) hne

/-- a list of the struct has been appended to, and put back -/
structure Grown1 (w w3 w4 : World) (p j : Nat) (e : TypeId) (v' : Value) : Prop where
  eq : w4 = w3.setCell ⟨p, j, none⟩ v'
  p3 : w3.heap[p]? = w.heap[p]?
  tk : ∀ e', e' ≠ e → TK e' w w3

theorem row_set {w3 : World} {bs p j : Nat} {e : TypeId} {s n : Nat} {v v' : Value} {xs : List Value} {cs : Array Value} {fz : Nat × Nat} (h : w3.ownsRow bs e s v n xs) (hp : w3.heap[p]? = some (.cells cs 63 fz)) (hne : 63 ≠ e) : (w3.setCell ⟨p, j, none⟩ v').ownsRow bs e s v n xs :=
  row_keep h (TK.set hp hne)

theorem put_files {Bo : Nat} {w w3 : World} {p : Nat} {S : DS} {vF vN vS vT vF' : Value} {o : Obj} {f : DFile} (h : DiskAt Bo w p S vF vN vS vT) (hown : w3.ownsRow Bo 82 2 vF' (S.files.length + 1) (fcells S.files ++ fcell f)) (hg : (w.alloc o).grownBy w3 vF.ownBlock) :
    DiskAt Bo (w3.setCell ⟨p, 1, none⟩ vF') p { S with files := S.files ++ [f] } vF' vN vS vT ∧ Kept Bo w (w3.setCell ⟨p, 1, none⟩ vF') ∧ w3.heap[p]? = some (.cells (dcells S vF vN vS vT) 63 (0, 0)) := by
  have hk := own_kind_alloc h.files o
  have tk : ∀ e', 82 ≠ e' → TK e' w w3 := fun e' he => (TK.alloc o).trans (TK.grown hg hk he)
  have hp3 : w3.heap[p]? = some (.cells (dcells S vF vN vS vT) 63 (0, 0)) := (tk _ (by decide) p _ _ h.st).trans h.st
  have hst := heap_setCell_same w3 p 1 _ _ vF' hp3
  refine ⟨⟨by rw [hst]; rfl, ?_, row_keep h.now ((tk _ (by decide)).trans (TK.set hp3 (by decide))), row_keep h.safe ((tk _ (by decide)).trans (TK.set hp3 (by decide))), row_keep h.steps ((tk _ (by decide)).trans (TK.set hp3 (by decide))), h.p0⟩, ?_, hp3⟩
  · show World.ownsRow _ _ _ _ _ (S.files ++ [f]).length (fcells (S.files ++ [f]))
    rw [fcells_append, List.length_append]
    have e1 : fcells [f] = fcell f := by simp [fcells]
    rw [e1]
    exact row_set hown hp3 (by decide)
  · refine (Kept.ofBelow ((Below.refl _ w).alloc (Nat.le_refl _) o)).trans ((Kept.ofGrown hg (fun k hk2 => ?_)).trans (Kept.ofGrown (grown_set _) (fun k hk2 => by cases hk2; exact ⟨⟨_, _, _, hp3, .inl rfl⟩, h.p0⟩)))
    obtain ⟨cs, fz, h2⟩ := hk k hk2
    exact ⟨⟨_, _, _, h2, .inr (.inl rfl)⟩, (h.files.lt k hk2).1⟩

theorem put_steps {Bo : Nat} {w w3 : World} {p : Nat} {S : DS} {vF vN vS vT vT' : Value} {o : Obj} {f : DStep} (h : DiskAt Bo w p S vF vN vS vT) (hown : w3.ownsRow Bo 79 4 vT' (S.steps.length + 1) (tcells S.steps ++ tcell f)) (hg : (w.alloc o).grownBy w3 vT.ownBlock) :
    DiskAt Bo (w3.setCell ⟨p, 4, none⟩ vT') p { S with steps := S.steps ++ [f] } vF vN vS vT' ∧ Kept Bo w (w3.setCell ⟨p, 4, none⟩ vT') ∧ w3.heap[p]? = some (.cells (dcells S vF vN vS vT) 63 (0, 0)) := by
  have hk := own_kind_alloc h.steps o
  have tk : ∀ e', 79 ≠ e' → TK e' w w3 := fun e' he => (TK.alloc o).trans (TK.grown hg hk he)
  have hp3 : w3.heap[p]? = some (.cells (dcells S vF vN vS vT) 63 (0, 0)) := (tk _ (by decide) p _ _ h.st).trans h.st
  have hst := heap_setCell_same w3 p 4 _ _ vT' hp3
  refine ⟨⟨by rw [hst]; rfl, row_keep h.files ((tk _ (by decide)).trans (TK.set hp3 (by decide))), row_keep h.now ((tk _ (by decide)).trans (TK.set hp3 (by decide))), row_keep h.safe ((tk _ (by decide)).trans (TK.set hp3 (by decide))), ?_, h.p0⟩, ?_, hp3⟩
  · show World.ownsRow _ _ _ _ _ (S.steps ++ [f]).length (tcells (S.steps ++ [f]))
    rw [tcells_append, List.length_append]
    have e1 : tcells [f] = tcell f := by simp [tcells]
    rw [e1]
    exact row_set hown hp3 (by decide)
  · refine (Kept.ofBelow ((Below.refl _ w).alloc (Nat.le_refl _) o)).trans ((Kept.ofGrown hg (fun k hk2 => ?_)).trans (Kept.ofGrown (grown_set _) (fun k hk2 => by cases hk2; exact ⟨⟨_, _, _, hp3, .inl rfl⟩, h.p0⟩)))
    obtain ⟨cs, fz, h2⟩ := hk k hk2
    exact ⟨⟨_, _, _, h2, .inr (.inr (.inr rfl))⟩, (h.steps.lt k hk2).1⟩

theorem put_now {Bo : Nat} {w : World} {p : Nat} {S : DS} {vF vN vS vT vN' : Value} {L : List DName} (h : DiskAt Bo w p S vF vN vS vT) (hown : Names w vN' L) :
    DiskAt Bo (w.setCell ⟨p, 2, none⟩ vN') p { S with now := L } vF vN' vS vT ∧ Kept Bo w (w.setCell ⟨p, 2, none⟩ vN') := by
  have hst := heap_setCell_same w p 2 _ _ vN' h.st
  exact ⟨⟨by rw [hst]; rfl, row_set h.files h.st (by decide), row_set hown h.st (by decide), row_set h.safe h.st (by decide), row_set h.steps h.st (by decide), h.p0⟩, Kept.ofGrown (grown_set _) (fun k hk2 => by cases hk2; exact ⟨⟨_, _, _, h.st, .inl rfl⟩, h.p0⟩)⟩

theorem cell_four (w : World) (a b c d : Value) (t : TypeId) : ∀ j u, [a, b, c, d][j]? = some u → (w.alloc (.cells #[a, b, c, d] t)).cell? ((⟨w.heap.size, 0, none⟩ : Addr).add j) = some u := by
  intro j u hj
  have hA : (⟨w.heap.size, 0, none⟩ : Addr).add j = ⟨w.heap.size, j, none⟩ := by simp [Addr.add]; omega
  rw [hA]
  unfold World.cell?
  rw [heap_alloc_new]
  match j, hj with
  | 0, hj => exact hj
  | 1, hj => exact hj
  | 2, hj => exact hj
  | 3, hj => exact hj
theorem one_step (x y : ByteArray) (n m : Int) : ∀ u ∈ [Value.int .i64 n, Value.string x, Value.string y, Value.int .i64 m], u.oneCell' = true := by
  intro u hu; simp at hu; rcases hu with rfl | rfl | rfl | rfl <;> rfl
end Go.Proofs.YtbjgpfhbdmcbbabGreatDoor.disk
