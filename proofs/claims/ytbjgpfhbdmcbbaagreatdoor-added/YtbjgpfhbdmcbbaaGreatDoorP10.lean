import Derived.Test.YtbjgpfhbdmcbbaaGreatDoorP08
import Derived.Test.YtbjgpfhbdmcbbaaGreatDoorP09
import Derived.Shelf.Strings.Builder1
import Derived.Shelf.Small.Strs
import Derived.Shelf.Small.Wraps
import Derived.Shelf.Strings.BuilderF
import Derived.Shelf.Strings.BuilderK
import Derived.Shelf.Strconv.Atoi
import Derived.Shelf.Strconv.Itoa0
import Derived.Shelf.Strconv.Itoa1
import Derived.Shelf.LaysM
import Derived.Shelf.Strconv.Itoa2
import Derived.Shelf.Strconv.Itoa3
import Derived.Shelf.Strings.Search1
import Derived.Shelf.Strings.Search2
import Derived.Shelf.Strings.Search3
import Derived.Shelf.Strings.Cut
import Derived.Shelf.Strings.Count
import Derived.Shelf.Strings.Shaped
import Derived.Shelf.Sort.Plain
import Derived.Shelf.Strings.LastIndex
import Derived.Shelf.Strings.LastIndexAll
import Derived.Shelf.Strings.Prefix
import Derived.Shelf.Strings.Split
import Derived.Shelf.Strings.SplitShaped
import Derived.Shelf.Unicode.DecodeSlow
import Derived.Shelf.Slices.In.SortNone
import Derived.Test.YtbjgpfhbdmcbbaaGreatDoorProg
import Derived.Shelf.Strings.SplitCore

/-
  CONTRACTS of package disk: Remove.
-/
namespace Go.Proofs.YtbjgpfhbdmcbbaaGreatDoor.disk
open Go.RowKit Go.Proofs.YtbjgpfhbdmcbbaaGreatDoor.dnamath Go.Proofs.YtbjgpfhbdmcbbaaGreatDoor.dna Go.Proofs.YtbjgpfhbdmcbbaaGreatDoor.diskm
set_option linter.unusedVariables false

set_option maxHeartbeats 2000000 in
set_option maxRecDepth 100000 in
theorem Remove_any {Bo : Nat} (p : Nat) (S : DS) (N : Nat) (n : ByteArray) (w : World) (hD : Disk Bo w p S) (ho : S.Ok N) (hN : N ≤ 100000) (hfr : findIs n S.now = true) :
    Calls Tryz.prog 114 #[.pointer (some ⟨p, 0, none⟩), .string n] w fun e w' => e = .returned (.bool (S.remove n).1) ∧ Disk Bo w' p (S.remove n).2 ∧ Kept Bo w w' := by
  obtain ⟨vF, vN, vS, vT, h⟩ := hD
  obtain ⟨j0, hj, hy0, hy1, hy2⟩ := info_parts infoT
  obtain ⟨ok, T, hT⟩ : ∃ ok T, S.changes = (ok, T) := ⟨_, _, rfl⟩
  have ct := changes_any p S N vF vN vS vT w h ho (by omega)
  have hd : Hid (isDisk w p ∧ Bo ≤ p) := ⟨⟨_, _, _, h.st, .inl rfl⟩, h.p0⟩
  have hs := changes_same S
  have hok := changes_ok ho
  rw [hT] at ct hs hok
  have s1 : T.now = S.now := hs.1
  have HT : Hid (S.changes = (ok, T)) := hT
  have hfT : findIs n T.now = true := by rw [s1]; exact hfr
  have hnl : T.now.length ≤ 100001 := Nat.le_trans hok.nl (by omega)
  have hfl : T.files.length ≤ 100001 := Nat.le_trans hok.fl (by omega)
  have htl : T.steps.length ≤ 100001 := Nat.le_trans hok.tl (by omega)
  obtain ⟨k0, hk0⟩ : ∃ k, k = findIx n T.now := ⟨_, rfl⟩
  have cf : ∀ W : World, Names W vN T.now → Calls Tryz.prog 69 #[vN, .string n] W fun e w' => e = .returned (.tuple #[.int .i64 (k0 : Int), .bool true]) ∧ Still W w' := fun W hW => by
    have := find_any vN T.now n W hW (by omega)
    rw [hfT, ← hk0] at this
    exact this
  have HF : Hid (findIs n S.now = true) := hfr
  obtain ⟨x, f, hx, hi, hf2, hr, hlook⟩ := hok.get hfT
  have HX : Hid (S.fileNo n = x.file) := by have hx' := hx; rw [s1] at hx'; exact fileNo_get hx'
  rw [← hk0] at hx hi
  have hr : x.file < T.files.length := hr
  have hxf : x.file ≤ 100001 := by omega
  clear hT h s1 hs hok hfT hk0 hfr ho hlook
  cases ok with
  | false =>
    go_enter Tryz.func114, Tryz.ntmps114
    go_wp2_with (first | (go_at_call 156; go_must (refine ct.mono ?_; rintro e w1 ⟨rfl, h1, g1⟩; have hc2 := st_cell h1.st 2; change w1.cell? ⟨p, 2, none⟩ = some vN at hc2)) | (go_at_call 69; go_must (refine (cf _ h1.now).mono ?_; rintro e w2 ⟨rfl, hst⟩)))
    go_ret
    rw [remove_no HT.out (.inl rfl)]
    exact ⟨rfl, ⟨_, _, _, _, h1.still hst⟩, (Kept.ofGrown g1 (fun k hk => by cases hk; exact hd.out)).trans (.ofStill hst)⟩
  | true =>
    go_enter Tryz.func114, Tryz.ntmps114
    go_wp2_with (first | (go_at_call 156; go_must (refine ct.mono ?_; rintro e w1 ⟨rfl, h1, g1⟩; have hc2 := st_cell h1.st 2; change w1.cell? ⟨p, 2, none⟩ = some vN at hc2)) | (go_at_call 69; go_must (refine (cf _ h1.now).mono ?_; rintro e w2 ⟨rfl, hst⟩; have h2 := h1.still hst; obtain ⟨gF, gN, cF, cN, hA1, hA2, hA3, hA4, hA5, hA6, hA7, hA8, hA9, hA10, hA11, hA12, hA13⟩ := at2 h2 hx hi hf2 hr; have hmx : (maxLen : Nat) = 9223372036854775807 := rfl; rw [hmx] at hA12 hA13; have hc2 : w2.cell? ⟨p, 2, none⟩ = some (.slice (some ⟨gN, 0, none⟩) T.now.length cN) := by rw [← hA2]; exact st_cell h2.st 2)))
    obtain ⟨W5, hW5⟩ : ∃ W, W = (w2.alloc (.cells #[.int .i64 3, .string n, .string ⟨#[]⟩, .int .i64 0] 102)) := ⟨_, rfl⟩
    obtain ⟨q, hq⟩ : ∃ q, q = w2.heap.size := ⟨_, rfl⟩
    have hB5 : Below w2.heap.size w2 W5 := by rw [hW5]; exact (Below.refl _ _).alloc (Nat.le_refl _) _
    have h5 : DiskAt Bo W5.drew p T vF vN vS vT := (h2.below hB5).still ⟨rfl, rfl, rfl, rfl, Nat.le_add_right _ _⟩
    have k5 : Kept Bo w W5 := ((Kept.ofGrown g1 (fun k hk => by cases hk; exact hd.out)).trans (.ofStill hst)).trans (.ofBelow hB5)
    have hbx : W5.heap[q]? = some (.cells #[.int .i64 3, .string n, .string ⟨#[]⟩, .int .i64 0] 102 (0, 0)) := by rw [hW5, hq]; exact heap_alloc_new _ _
    have b0 : W5.cell? ⟨q, 0, none⟩ = some (.int .i64 3) := st_cell hbx 0
    have b1 : W5.cell? ⟨q, 1, none⟩ = some (.string n) := st_cell hbx 1
    have b2 : W5.cell? ⟨q, 2, none⟩ = some (.string ⟨#[]⟩) := st_cell hbx 2
    have b3 : W5.cell? ⟨q, 3, none⟩ = some (.int .i64 0) := st_cell hbx 3
    have hc4 : W5.cell? ⟨p, 4, none⟩ = _ := st_cell h5.st 4
    change W5.cell? ⟨p, 4, none⟩ = some vT at hc4
    have hql : q < W5.heap.size := lt_of_block hbx
    have hpl : p < W5.heap.size := lt_of_block h5.st
    have hal : ∀ o, (W5.drew.alloc o).cell? ⟨p, 4, none⟩ = some vT := fun o => (World.cell?_alloc_old _ _ _ (Nat.ne_of_lt hpl)).trans hc4
    have hvq : vT.ownBlock ≠ some q := fun e => by have := (h2.steps.lt q e).2; omega
    have hpq : p ≠ q := fun e => by rw [← e] at hbx; have := h5.st; rw [show W5.drew.heap[p]? = W5.heap[p]? from rfl, hbx] at this; simp only [Option.some.injEq, Obj.cells.injEq] at this; exact absurd this.2.1 (by decide)
    rw [← hW5, ← hq]
    clear hq hW5 hB5 h2 h1 hc2 g1 hst hA1 hA2 hA3 hA4 hA5 hA6 hA7 hA8 hA9 hA10 hA11 hA12 hA13 hmx
    go_region_law (first | (refine step_append_own rfl (.tmp 32) (.tmp 34) 85 rfl Bo 102 j0 (.agg #[.int .i64 0, .string ByteArray.empty, .string ByteArray.empty, .int .i64 0]) 4 48 Tryz.underlying85 hj hy0 hy1 hy2 rfl (by decide) _ _ _ rfl (h5.steps.alloc _) _ 1 1 [.int .i64 3, .string n, .string ⟨#[]⟩, .int .i64 0] rfl rfl (cell_four _ _ _ _ _ _) (one_step _ _ _ _) (by unfold maxLen; omega) (by omega) (by have q0 := h5.p0; have q1 := lt_of_block h5.st; simp at q1 ⊢; omega) ?_; intro vT1 w6 hown' hgrow _; obtain ⟨aT, cT, rfl⟩ := own_slice hown'; obtain ⟨h7, k7, p6⟩ := put_steps (f := ⟨3, n, ByteArray.empty, 0⟩) h5 hown' hgrow; have hd4 := st_cell p6 4; change w6.cell? ⟨p, 4, none⟩ = some vT at hd4; have hf4 := st_frozen p6 4; have hq6 := (hgrow.block q (by simp; omega) (fun e => hvq e.symm)).trans ((Below.heap_alloc _ _ _ hql).trans hbx); clear hown' hgrow))
    all_goals
      have hc2 : (w6.setCell ⟨p, 4, none⟩ (.slice aT (T.steps.length + 1) cT)).cell? ⟨p, 2, none⟩ = _ := st_cell h7.st 2
      change _ = some vN at hc2
      obtain ⟨W7, hW7⟩ : ∃ W, W = (w6.setCell ⟨p, 4, none⟩ (.slice aT (T.steps.length + 1) cT)) := ⟨_, rfl⟩
      rw [← hW7] at h7 k7 hc2 ⊢
      have hq7 : W7.heap[q]? = some (.cells #[.int .i64 3, .string n, .string ⟨#[]⟩, .int .i64 0] 102 (0, 0)) := by rw [hW7, Below.heap_setCell _ _ _ _ (by exact fun e => hpq e.symm)]; exact hq6
      have d0 : W7.cell? ⟨q, 0, none⟩ = some (.int .i64 3) := st_cell hq7 0
      have d1 : W7.cell? ⟨q, 1, none⟩ = some (.string n) := st_cell hq7 1
      have d2 : W7.cell? ⟨q, 2, none⟩ = some (.string ⟨#[]⟩) := st_cell hq7 2
      have d3 : W7.cell? ⟨q, 3, none⟩ = some (.int .i64 0) := st_cell hq7 3
      clear hW7 p6 hd4 hf4 hq6 b0 b1 b2 b3 hc4
      have h7d : DiskAt Bo W7.drew p { T with steps := T.steps ++ [⟨3, n, ByteArray.empty, 0⟩] } vF vN vS (.slice aT (T.steps.length + 1) cT) := h7.still ⟨rfl, rfl, rfl, rfl, Nat.le_add_right _ _⟩
      have hn7 : Names W7.drew vN T.now := h7d.now
      have cd := do_rm vN T.now ⟨3, n, ByteArray.empty, 0⟩ W7.drew hn7 (by omega) rfl (by show (0 : Nat) ≤ _; omega)
      go_wp2
      go_region_with (go_at_call 44; go_must (refine cd.mono ?_; rintro e w8 ⟨vN1, rfl, hn8, hb8⟩; obtain ⟨aN, cN, rfl⟩ := own_slice hn8; have h8 := h7d.below hb8; obtain ⟨h9, k9⟩ := put_now h8 hn8; have he2 := st_cell h8.st 2; change w8.cell? ⟨p, 2, none⟩ = some vN at he2; have hf2 := st_frozen h8.st 2))
      all_goals
        go_wp2
        go_ret
        rw [remove_yes HT.out HF.out]
        exact ⟨rfl, ⟨_, _, _, _, h9⟩, k5.trans ((Kept.drew W5).trans (k7.trans ((Kept.drew W7).trans ((Kept.ofBelow hb8).trans k9))))⟩

end Go.Proofs.YtbjgpfhbdmcbbaaGreatDoor.disk

/-
  PLAIN MATHEMATICS: a file that is written whole. It imports nothing of the program.
-/
namespace Go.Proofs.YtbjgpfhbdmcbbaaGreatDoor.diskm
set_option linter.unusedVariables false

def fsize (F : List DFile) (x : DName) : Nat := ((F[x.file]?).map (fun f => f.data.size)).getD 0
def bsum (F : List DFile) (l : List DName) : Nat := (l.map (fsize F)).sum
theorem bytesTo_eq (S : DS) : ∀ k, k ≤ S.now.length → S.bytesTo k = bsum S.files (S.now.take k)
  | 0, _ => by simp [DS.bytesTo, bsum]
  | k + 1, h => by
    have hk : k < S.now.length := by omega
    obtain ⟨x, hx⟩ : ∃ x, S.now[k]? = some x := ⟨_, List.getElem?_eq_getElem hk⟩
    rw [DS.bytesTo, bytesTo_eq S k (by omega), hx]
    rw [List.take_add_one, hx]
    simp [bsum, fsize]
theorem bytes_eq (S : DS) : S.bytes = bsum S.files S.now := by
  unfold DS.bytes; rw [bytesTo_eq S _ (Nat.le_refl _), List.take_length]
theorem sum_sub {g : DName → Nat} : ∀ (l l' : List DName), l.Nodup → (∀ x ∈ l, x ∈ l') → (l.map g).sum ≤ (l'.map g).sum
  | [], _, _, _ => by simp
  | x :: l, l', hn, hs => by
    rw [List.nodup_cons] at hn
    obtain ⟨A, B, rfl⟩ := List.append_of_mem (hs x (List.mem_cons_self ..))
    have ih := sum_sub (g := g) l (A ++ B) hn.2 (fun y hy => by
      have := hs y (List.mem_cons_of_mem _ hy)
      rw [List.mem_append, List.mem_cons] at this
      rw [List.mem_append]
      rcases this with h | h | h
      · exact .inl h
      · subst h; exact absurd hy hn.1
      · exact .inr h)
    simp only [List.map_cons, List.sum_cons, List.map_append, List.sum_append] at ih ⊢
    omega
theorem sorted_nodup {l : List DName} (h : Sorted l) : l.Nodup := by
  unfold Sorted at h
  rw [List.pairwise_map] at h
  exact h.imp (fun {a b} h => (show a ≠ b from fun e => by subst e; exact List.lt_irrefl _ h))

/-- no name is empty -/
def Named (l : List DName) : Prop := ∀ x ∈ l, key x ≠ []

structure Saved (S S' : DS) (N : Nat) (d n X : ByteArray) : Prop where
  fine : S'.Fine
  ok : S'.Ok (N + 2)
  sorted : Sorted S'.now
  named : Named S'.now
  cap : S'.cap = S.cap
  files : S'.files = S.files ++ [⟨X, X.size⟩]
  mem : ∀ x, x ∈ S'.now ↔ x = ⟨n, S.files.length⟩ ∨ (x ∈ S.now ∧ key x ≠ n.toList)
  safe : S'.safe = S'.now
  steps : S'.steps = []

theorem toList_nil {n : ByteArray} (h : n.toList = []) : n.size = 0 := by
  rw [Lib.size_eq, ← Lib.toList_data, h]; rfl

theorem saved_of {S : DS} {N : Nat} {d n X : ByteArray} (hF : S.Fine) (ho : S.Ok N) (hs : Sorted S.now) (hnm : Named S.now) (hd : findIs d S.now = false) (hdz : d.size ≠ 0) (hn : n.size ≠ 0) (hnd : strEq d n = false) (hr : (X.size : Int) ≤ S.cap - S.bytes) :
    Saved S (sealed (S.create d).2 d n X) N d n X ∧ (S.create d).2.Fine ∧ (S.create d).2.Ok (N + 1) ∧ Sorted (S.create d).2.now ∧ findIs d (S.create d).2.now = true ∧ (S.create d).2.bytes = S.bytes ∧ (S.create d).2.cap = S.cap ∧ ((S.create d).2.fileOf d).data.size = 0 := by
  have hdn : ∀ x ∈ S.now, key x ≠ d.toList := fun x hx e => by
    have := (find_iff (n := d) hs).2 ⟨x, hx, e⟩
    rw [hd] at this; cases this
  have hc := create_fine hF hd hdz
  obtain ⟨S1, hS1⟩ : ∃ S1, S1 = (S.create d).2 := ⟨_, rfl⟩
  rw [← hS1]
  have e1 : S1 = { S with files := S.files ++ [⟨ByteArray.empty, 0⟩], steps := S.steps ++ [⟨1, ByteArray.empty, d, S.files.length⟩], now := doL S.now ⟨1, ByteArray.empty, d, S.files.length⟩ } := by rw [hS1, hc]
  have fi1 : S1.Fine := by rw [e1]; exact ⟨hF.wait, hF.life⟩
  have cap1 : S1.cap = S.cap := by rw [e1]
  have fl1 : S1.files = S.files ++ [⟨ByteArray.empty, 0⟩] := by rw [e1]
  have nw1 : S1.now = doL S.now ⟨1, ByteArray.empty, d, S.files.length⟩ := by rw [e1]
  have dp := doL_put (s := ⟨1, ByteArray.empty, d, S.files.length⟩) hs (show ¬ (1 : Nat) = 3 by decide)
  have so1 : Sorted S1.now := by rw [nw1]; exact dp.1
  have em : (ByteArray.empty).toList = [] := by rw [Lib.toList_data]; rfl
  have mm1 : ∀ x, x ∈ S1.now ↔ x = ⟨d, S.files.length⟩ ∨ x ∈ S.now := fun x => by
    rw [nw1, dp.2 x]
    constructor
    · rintro (h | h)
      · exact .inl h
      · exact .inr h.1
    · rintro (h | h)
      · exact .inl h
      · exact .inr ⟨h, by rw [em]; exact hnm x h, hdn x h⟩
  have ok1 : S1.Ok (N + 1) := by
    rw [e1]
    refine ⟨?_, Nat.le_trans (doL_len _ _) (Nat.succ_le_succ ho.nl), by show (S.files ++ _).length ≤ _; rw [List.length_append]; exact Nat.succ_le_succ ho.fl, by show (S.steps ++ _).length ≤ _; rw [List.length_append]; exact Nat.succ_le_succ ho.tl, Nat.le_succ_of_le ho.sl, Nat.le_succ_of_le ho.fa, ho.w0, ho.w1, ho.l0, ho.l1⟩
    intro x hx
    show x.file < (S.files ++ _).length
    rw [List.length_append]
    rcases (mm1 x).1 (by rw [nw1]; exact hx) with rfl | h
    · simp
    · have := ho.ref x h; simp; omega
  have hin : (⟨d, S.files.length⟩ : DName) ∈ S1.now := (mm1 _).2 (.inl rfl)
  have fd1 : findIs d S1.now = true := (find_iff so1).2 ⟨_, hin, rfl⟩
  have at1 : S1.now[findIx d S1.now]? = some ⟨d, S.files.length⟩ := find_at so1 hin rfl
  have no1 : S1.fileNo d = S.files.length := fileNo_get at1
  have of1 : S1.fileOf d = ⟨ByteArray.empty, 0⟩ := fileOf_get at1 (by rw [fl1]; simp)
  have by1 : S1.bytes = S.bytes := by
    rw [bytes_eq, bytes_eq]
    apply Nat.le_antisymm
    · refine Nat.le_trans (sum_sub _ (⟨d, S.files.length⟩ :: S.now) (sorted_nodup so1) (fun x hx => ?_)) ?_
      · rcases (mm1 x).1 hx with h | h
        · rw [h]; exact List.mem_cons_self ..
        · exact List.mem_cons_of_mem _ h
      · rw [List.map_cons, List.sum_cons]
        have : fsize S1.files ⟨d, S.files.length⟩ = 0 := by unfold fsize; rw [fl1]; simp
        rw [this, Nat.zero_add]
        apply Nat.le_of_eq
        unfold bsum
        congr 1
        apply List.map_congr_left
        intro x hx
        unfold fsize
        rw [fl1, List.getElem?_append_left (ho.ref x hx)]
    · refine Nat.le_trans (Nat.le_of_eq ?_) (sum_sub (g := fsize S1.files) S.now S1.now (sorted_nodup hs) (fun x hx => (mm1 x).2 (.inr hx)))
      unfold bsum
      congr 1
      apply List.map_congr_left
      intro x hx
      unfold fsize
      rw [fl1, List.getElem?_append_left (ho.ref x hx)]
  refine ⟨?_, fi1, ok1, so1, fd1, by1, cap1, by rw [of1]; rfl⟩
  have hap := append_fine fi1 fd1 (X := X) (by rw [cap1, by1]; exact hr)
  rw [no1, of1] at hap
  have eX : ByteArray.empty ++ X = X := by simp
  have hap2 : S1.append d X = (true, { S1 with files := S.files ++ [⟨X, 0⟩] }) := by
    rw [hap]
    congr 2
    rw [fl1, List.set_append_right _ _ (Nat.le_refl _), Nat.sub_self]
    show S.files ++ [⟨ByteArray.empty ++ X, 0⟩] = _
    rw [eX]
  obtain ⟨S2, hS2⟩ : ∃ S2 : DS, S2 = { S1 with files := S.files ++ [⟨X, 0⟩] } := ⟨_, rfl⟩
  rw [← hS2] at hap2
  have nw2 : S2.now = S1.now := by rw [hS2]
  have fl2 : S2.files = S.files ++ [⟨X, 0⟩] := by rw [hS2]
  have fi2 : S2.Fine := by rw [hS2]; exact ⟨fi1.wait, fi1.life⟩
  have fd2 : findIs d S2.now = true := by rw [nw2]; exact fd1
  have at2 : S2.now[findIx d S2.now]? = some ⟨d, S.files.length⟩ := by rw [nw2]; exact at1
  have no2 : S2.fileNo d = S.files.length := fileNo_get at2
  have of2 : S2.fileOf d = ⟨X, 0⟩ := fileOf_get at2 (by rw [fl2]; simp)
  have hsy := sync_fine fi2 fd2
  rw [no2, of2] at hsy
  have hsy2 : S2.sync d = (true, { S2 with files := S.files ++ [⟨X, X.size⟩] }) := by
    rw [hsy]
    congr 2
    rw [fl2, List.set_append_right _ _ (Nat.le_refl _), Nat.sub_self]
    rfl
  obtain ⟨S3, hS3⟩ : ∃ S3 : DS, S3 = { S2 with files := S.files ++ [⟨X, X.size⟩] } := ⟨_, rfl⟩
  rw [← hS3] at hsy2
  have nw3 : S3.now = S1.now := by rw [hS3]; exact nw2
  have fi3 : S3.Fine := by rw [hS3]; exact ⟨fi2.wait, fi2.life⟩
  have fd3 : findIs d S3.now = true := by rw [nw3]; exact fd1
  have no3 : S3.fileNo d = S.files.length := fileNo_get (x := ⟨d, S.files.length⟩) (by rw [nw3]; exact at1)
  have hrn := rename_fine fi3 fd3 hnd hn
  rw [no3] at hrn
  obtain ⟨S4, hS4⟩ : ∃ S4 : DS, S4 = { S3 with steps := S3.steps ++ [⟨2, d, n, S.files.length⟩], now := doL S3.now ⟨2, d, n, S.files.length⟩ } := ⟨_, rfl⟩
  rw [← hS4] at hrn
  have fi4 : S4.Fine := by rw [hS4]; exact ⟨fi3.wait, fi3.life⟩
  have hse : sealed S1 d n X = { S4 with safe := S4.now, steps := [] } := by
    unfold sealed
    rw [hap2, hsy2, hrn, syncDir_fine fi4]
  rw [hse]
  have dp4 := doL_put (s := ⟨2, d, n, S.files.length⟩) so1 (show ¬ (2 : Nat) = 3 by decide)
  have nw4 : S4.now = doL S1.now ⟨2, d, n, S.files.length⟩ := by rw [hS4, nw3]
  have fl4 : S4.files = S.files ++ [⟨X, X.size⟩] := by rw [hS4, hS3]
  have mm4 : ∀ x, x ∈ S4.now ↔ x = ⟨n, S.files.length⟩ ∨ (x ∈ S.now ∧ key x ≠ n.toList) := fun x => by
    rw [nw4, dp4.2 x]
    constructor
    · rintro (h | ⟨h1, h2, h3⟩)
      · exact .inl h
      · rcases (mm1 x).1 h1 with rfl | h
        · exact absurd rfl h2
        · exact .inr ⟨h, h3⟩
    · rintro (h | ⟨h1, h2⟩)
      · exact .inl h
      · exact .inr ⟨(mm1 x).2 (.inr h1), hdn x h1, h2⟩
  have so4 : Sorted S4.now := by rw [nw4]; exact dp4.1
  refine ⟨⟨fi4.wait, fi4.life⟩, ?_, so4, ?_, ?_, fl4, mm4, rfl, rfl⟩
  · have hl4 : S4.now.length ≤ N + 2 := by
      rw [nw4]
      have h1 := doL_len S1.now ⟨2, d, n, S.files.length⟩
      have h2 := ok1.nl
      omega
    refine ⟨?_, hl4, ?_, Nat.zero_le _, hl4, ?_, ?_, ?_, ?_, ?_⟩
    · intro x hx
      show x.file < S4.files.length
      rw [fl4, List.length_append]
      rcases (mm4 x).1 hx with rfl | h
      · simp
      · have := ho.ref x h.1; simp; omega
    · show S4.files.length ≤ _
      rw [fl4, List.length_append]
      have := ho.fl
      simp; omega
    · show S4.failed ≤ _
      rw [hS4, hS3, hS2, e1]; have := ho.fa; show S.failed ≤ _; omega
    · show -1 ≤ S4.wait; rw [fi4.wait]; decide
    · show S4.wait ≤ _; rw [fi4.wait]; decide
    · show -1 ≤ S4.life; rw [fi4.life]; decide
    · show S4.life ≤ _; rw [fi4.life]; decide
  · intro x hx
    rcases (mm4 x).1 hx with rfl | h
    · intro e; exact hn (toList_nil e)
    · exact hnm x h.1
  · show S4.cap = S.cap
    rw [hS4, hS3, hS2, e1]

theorem Saved.look_new {S S' : DS} {N : Nat} {d n X : ByteArray} (h : Saved S S' N d n X) : S'.look n = some ⟨X, X.size⟩ := by
  rw [look_iff h.sorted]
  exact ⟨_, (h.mem _).2 (.inl rfl), rfl, by rw [h.files]; simp⟩
theorem Saved.look_old {S S' : DS} {N M : Nat} {d n X m : ByteArray} (h : Saved S S' N d n X) (ho : S.Ok M) (hs : Sorted S.now) (hm : m.toList ≠ n.toList) : S'.look m = S.look m := by
  have key : ∀ f, S'.look m = some f ↔ S.look m = some f := fun f => by
    rw [look_iff h.sorted, look_iff hs]
    constructor
    · rintro ⟨x, hx, e, hf⟩
      rcases (h.mem x).1 hx with rfl | ⟨h1, _⟩
      · exact absurd e.symm hm
      · exact ⟨x, h1, e, by rw [h.files, List.getElem?_append_left (ho.ref x h1)] at hf; exact hf⟩
    · rintro ⟨x, hx, e, hf⟩
      exact ⟨x, (h.mem x).2 (.inr ⟨hx, by rw [e]; exact hm⟩), e, by rw [h.files, List.getElem?_append_left (ho.ref x hx)]; exact hf⟩
  cases h1 : S'.look m with
  | some f => exact ((key f).1 h1).symm
  | none =>
    cases h2 : S.look m with
    | none => rfl
    | some f => rw [(key f).2 h2] at h1; cases h1
theorem Saved.bytes_le {S S' : DS} {N M : Nat} {d n X : ByteArray} (h : Saved S S' N d n X) (ho : S.Ok M) : S'.bytes ≤ S.bytes + X.size := by
  rw [bytes_eq, bytes_eq]
  refine Nat.le_trans (sum_sub (g := fsize S'.files) _ (⟨n, S.files.length⟩ :: S.now) (sorted_nodup h.sorted) (fun x hx => ?_)) ?_
  · rcases (h.mem x).1 hx with e | e
    · rw [e]; exact List.mem_cons_self ..
    · exact List.mem_cons_of_mem _ e.1
  · rw [List.map_cons, List.sum_cons]
    have h1 : fsize S'.files ⟨n, S.files.length⟩ = X.size := by unfold fsize; rw [h.files]; simp
    have h2 : (S.now.map (fsize S'.files)).sum = bsum S.files S.now := by
      unfold bsum
      congr 1
      apply List.map_congr_left
      intro x hx
      unfold fsize
      rw [h.files, List.getElem?_append_left (ho.ref x hx)]
    rw [h1, h2]; omega
end Go.Proofs.YtbjgpfhbdmcbbaaGreatDoor.diskm

/-
  Contracts of the library's shelf at this program, laid by the kit's own command in plain words; the ones that are used.
-/
namespace Go.Proofs
open Go.Shelf
def Tryz.lays143_ren : Go.Shelf.Ren := ⟨fun | 143 => 223 | 219 => 184 | 217 => 126 | 225 => 207 | 224 => 208 | 267 => 209 | 266 => 160 | 314 => 218 | n => n, fun | 9 => 9 | 3 => 3 | 4 => 4 | 5 => 5 | 46 => 191 | 146 => 285 | 51 => 244 | n => n, fun | 1 => 13 | n => n⟩
theorem Tryz.lays143 : Go.Proofs.Lays.n143 Tryz.prog Tryz.lays143_ren := {
  mixed := by kernel_rfl
  f143 := Tryz.func223.trans (congrArg some (by kernel_rfl))
  f217 := Tryz.func126.trans (congrArg some (by kernel_rfl))
  f219 := Tryz.func184.trans (congrArg some (by kernel_rfl))
  f224 := Tryz.func208.trans (congrArg some (by kernel_rfl))
  f225 := Tryz.func207.trans (congrArg some (by kernel_rfl))
  f266 := Tryz.func160.trans (congrArg some (by kernel_rfl))
  f267 := Tryz.func209.trans (congrArg some (by kernel_rfl))
  f314 := Tryz.func218.trans (congrArg some (by kernel_rfl))
  t3 := Tryz.underlying3
  a3 := Tryz.isAgg3
  z3 := Tryz.sizeOf3
  v3 := Tryz.zeroValue3
  t4 := Tryz.underlying4
  a4 := Tryz.isAgg4
  z4 := Tryz.sizeOf4
  v4 := Tryz.zeroValue4
  t5 := Tryz.underlying5
  a5 := Tryz.isAgg5
  z5 := Tryz.sizeOf5
  v5 := Tryz.zeroValue5
  t9 := Tryz.underlying9
  a9 := Tryz.isAgg9
  z9 := Tryz.sizeOf9
  v9 := Tryz.zeroValue9
  t46 := Tryz.underlying191
  a46 := Tryz.isAgg191
  z46 := Tryz.sizeOf191
  v46 := Tryz.zeroValue191
  t51 := Tryz.underlying244
  a51 := Tryz.isAgg244
  z51 := Tryz.sizeOf244
  v51 := Tryz.zeroValue244
  t146 := Tryz.underlying285
  a146 := Tryz.isAgg285
  z146 := Tryz.sizeOf285
  v146 := Tryz.zeroValue285
  g1 := by kernel_rfl }
open Go.RowKit Go.Lib in
theorem Tryz.strings_Index_one (s : ByteArray) (c : UInt8) (w : World) :
    Calls Tryz.prog 223 #[.string s, .string ⟨#[c]⟩] w fun e w' => e = .returned (.int .i64 (Lib.indexByte s.data.toList c)) ∧ w' = w := Any.strings_Index_one Tryz.lays143 s c w
def Tryz.lays138_ren : Go.Shelf.Ren := ⟨fun | 138 => 222 | 195 => 227 | 218 => 229 | 143 => 223 | 219 => 184 | 217 => 126 | 225 => 207 | 224 => 208 | 267 => 209 | 266 => 160 | 314 => 218 | n => n, fun | 9 => 9 | 3 => 3 | 4 => 4 | 5 => 5 | 0 => 0 | 46 => 191 | 146 => 285 | 51 => 244 | n => n, fun | 1 => 13 | n => n⟩
theorem Tryz.lays138 : Go.Proofs.Lays.n138 Tryz.prog Tryz.lays138_ren := {
  mixed := by kernel_rfl
  f138 := Tryz.func222.trans (congrArg some (by kernel_rfl))
  f143 := Tryz.func223.trans (congrArg some (by kernel_rfl))
  f195 := Tryz.func227.trans (congrArg some (by kernel_rfl))
  f217 := Tryz.func126.trans (congrArg some (by kernel_rfl))
  f218 := Tryz.func229.trans (congrArg some (by kernel_rfl))
  f219 := Tryz.func184.trans (congrArg some (by kernel_rfl))
  f224 := Tryz.func208.trans (congrArg some (by kernel_rfl))
  f225 := Tryz.func207.trans (congrArg some (by kernel_rfl))
  f266 := Tryz.func160.trans (congrArg some (by kernel_rfl))
  f267 := Tryz.func209.trans (congrArg some (by kernel_rfl))
  f314 := Tryz.func218.trans (congrArg some (by kernel_rfl))
  t0 := Tryz.underlying0
  a0 := Tryz.isAgg0
  z0 := Tryz.sizeOf0
  v0 := Tryz.zeroValue0
  t3 := Tryz.underlying3
  a3 := Tryz.isAgg3
  z3 := Tryz.sizeOf3
  v3 := Tryz.zeroValue3
  t4 := Tryz.underlying4
  a4 := Tryz.isAgg4
  z4 := Tryz.sizeOf4
  v4 := Tryz.zeroValue4
  t5 := Tryz.underlying5
  a5 := Tryz.isAgg5
  z5 := Tryz.sizeOf5
  v5 := Tryz.zeroValue5
  t9 := Tryz.underlying9
  a9 := Tryz.isAgg9
  z9 := Tryz.sizeOf9
  v9 := Tryz.zeroValue9
  t46 := Tryz.underlying191
  a46 := Tryz.isAgg191
  z46 := Tryz.sizeOf191
  v46 := Tryz.zeroValue191
  t51 := Tryz.underlying244
  a51 := Tryz.isAgg244
  z51 := Tryz.sizeOf244
  v51 := Tryz.zeroValue244
  t146 := Tryz.underlying285
  a146 := Tryz.isAgg285
  z146 := Tryz.sizeOf285
  v146 := Tryz.zeroValue285
  g1 := by kernel_rfl }
open Go.RowKit Go.Lib in
theorem Tryz.strings_Count_one (s : ByteArray) (c : UInt8) (w : World) :
    Calls Tryz.prog 222 #[.string s, .string ⟨#[c]⟩] w fun e w' => e = .returned (.int .i64 (Lib.countByte s.data.toList c)) ∧ w' = w := Any.strings_Count_one Tryz.lays138 s c w
def Tryz.lays221_ren : Go.Shelf.Ren := ⟨fun | 221 => 212 | 268 => 221 | 138 => 222 | 143 => 223 | 195 => 227 | 197 => 228 | 218 => 229 | 219 => 184 | 260 => 240 | 217 => 126 | 225 => 207 | 224 => 208 | 267 => 209 | 266 => 160 | 314 => 218 | n => n, fun | 9 => 9 | 3 => 3 | 31 => 26 | 4 => 4 | 0 => 0 | 105 => 302 | 21 => 21 | 5 => 5 | 46 => 191 | 119 => 317 | 139 => 320 | 138 => 319 | 146 => 285 | 51 => 244 | n => n, fun | 1 => 13 | 3 => 19 | 4 => 20 | n => n⟩
theorem Tryz.lays221 : Go.Proofs.Lays.n221 Tryz.prog Tryz.lays221_ren := {
  mixed := by kernel_rfl
  f138 := Tryz.func222.trans (congrArg some (by kernel_rfl))
  f143 := Tryz.func223.trans (congrArg some (by kernel_rfl))
  f195 := Tryz.func227.trans (congrArg some (by kernel_rfl))
  f197 := Tryz.func228.trans (congrArg some (by kernel_rfl))
  f217 := Tryz.func126.trans (congrArg some (by kernel_rfl))
  f218 := Tryz.func229.trans (congrArg some (by kernel_rfl))
  f219 := Tryz.func184.trans (congrArg some (by kernel_rfl))
  f221 := Tryz.func212.trans (congrArg some (by kernel_rfl))
  f224 := Tryz.func208.trans (congrArg some (by kernel_rfl))
  f225 := Tryz.func207.trans (congrArg some (by kernel_rfl))
  f260 := Tryz.func240.trans (congrArg some (by kernel_rfl))
  f266 := Tryz.func160.trans (congrArg some (by kernel_rfl))
  f267 := Tryz.func209.trans (congrArg some (by kernel_rfl))
  f268 := Tryz.func221.trans (congrArg some (by kernel_rfl))
  f314 := Tryz.func218.trans (congrArg some (by kernel_rfl))
  t0 := Tryz.underlying0
  a0 := Tryz.isAgg0
  z0 := Tryz.sizeOf0
  v0 := Tryz.zeroValue0
  t3 := Tryz.underlying3
  a3 := Tryz.isAgg3
  z3 := Tryz.sizeOf3
  v3 := Tryz.zeroValue3
  t4 := Tryz.underlying4
  a4 := Tryz.isAgg4
  z4 := Tryz.sizeOf4
  v4 := Tryz.zeroValue4
  t5 := Tryz.underlying5
  a5 := Tryz.isAgg5
  z5 := Tryz.sizeOf5
  v5 := Tryz.zeroValue5
  t9 := Tryz.underlying9
  a9 := Tryz.isAgg9
  z9 := Tryz.sizeOf9
  v9 := Tryz.zeroValue9
  t21 := Tryz.underlying21
  a21 := Tryz.isAgg21
  z21 := Tryz.sizeOf21
  v21 := Tryz.zeroValue21
  t31 := Tryz.underlying26
  a31 := Tryz.isAgg26
  z31 := Tryz.sizeOf26
  v31 := Tryz.zeroValue26
  t46 := Tryz.underlying191
  a46 := Tryz.isAgg191
  z46 := Tryz.sizeOf191
  v46 := Tryz.zeroValue191
  t51 := Tryz.underlying244
  a51 := Tryz.isAgg244
  z51 := Tryz.sizeOf244
  v51 := Tryz.zeroValue244
  t105 := Tryz.underlying302
  a105 := Tryz.isAgg302
  z105 := Tryz.sizeOf302
  v105 := Tryz.zeroValue302
  t119 := Tryz.underlying317
  a119 := Tryz.isAgg317
  z119 := Tryz.sizeOf317
  t138 := Tryz.underlying319
  a138 := Tryz.isAgg319
  z138 := Tryz.sizeOf319
  v138 := Tryz.zeroValue319
  t139 := Tryz.underlying320
  a139 := Tryz.isAgg320
  z139 := Tryz.sizeOf320
  v139 := Tryz.zeroValue320
  t146 := Tryz.underlying285
  a146 := Tryz.isAgg285
  z146 := Tryz.sizeOf285
  v146 := Tryz.zeroValue285
  g1 := by kernel_rfl
  g3 := by kernel_rfl
  g4 := by kernel_rfl }
end Go.Proofs
