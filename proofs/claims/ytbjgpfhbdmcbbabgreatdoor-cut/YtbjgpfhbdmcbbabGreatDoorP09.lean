import Derived.Test.YtbjgpfhbdmcbbabGreatDoorP08
import Derived.Shelf.Strings.Builder1
import Derived.Shelf.Small.Strs
import Derived.Shelf.Small.Wraps
import Derived.Shelf.Strings.BuilderF
import Derived.Shelf.Strings.BuilderK
import Derived.Shelf.Strconv.Atoi
import Derived.Shelf.Strconv.Itoa0
import Derived.Shelf.Strconv.Itoa1
import Derived.Shelf.LaysM
import Derived.Shelf.Strconv.Itoa2
import Derived.Shelf.Strconv.Itoa3
import Derived.Shelf.Strings.Search1
import Derived.Shelf.Strings.Search2
import Derived.Shelf.Strings.Search3
import Derived.Shelf.Strings.Cut
import Derived.Shelf.Strings.Count
import Derived.Shelf.Strings.Shaped
import Derived.Shelf.Sort.Plain
import Derived.Shelf.Strings.LastIndex
import Derived.Shelf.Strings.LastIndexAll
import Derived.Shelf.Strings.Prefix
import Derived.Shelf.Strings.Split
import Derived.Shelf.Strings.SplitShaped
import Derived.Shelf.Unicode.DecodeSlow
import Derived.Shelf.Slices.In.SortNone
import Derived.Test.YtbjgpfhbdmcbbabGreatDoorProg
import Derived.Shelf.Strings.SplitCore

/-
  PLAIN MATHEMATICS: a file that is written whole. It imports nothing of the program.
-/
namespace Go.Proofs.YtbjgpfhbdmcbbabGreatDoor.diskm
set_option linter.unusedVariables false

def fsize (F : List DFile) (x : DName) : Nat := ((F[x.file]?).map (fun f => f.data.size)).getD 0
def bsum (F : List DFile) (l : List DName) : Nat := (l.map (fsize F)).sum
theorem bytesTo_eq (S : DS) : ∀ k, k ≤ S.now.length → S.bytesTo k = bsum S.files (S.now.take k)
  | 0, _ => by simp [DS.bytesTo, bsum]
  | k + 1, h => by
    have hk : k < S.now.length := by omega
    obtain ⟨x, hx⟩ : ∃ x, S.now[k]? = some x := ⟨_, List.getElem?_eq_getElem hk⟩
    rw [DS.bytesTo, bytesTo_eq S k (by omega), hx]
    rw [List.take_add_one, hx]
    simp [bsum, fsize]
theorem bytes_eq (S : DS) : S.bytes = bsum S.files S.now := by
  unfold DS.bytes; rw [bytesTo_eq S _ (Nat.le_refl _), List.take_length]
theorem sum_sub {g : DName → Nat} : ∀ (l l' : List DName), l.Nodup → (∀ x ∈ l, x ∈ l') → (l.map g).sum ≤ (l'.map g).sum
  | [], _, _, _ => by simp
  | x :: l, l', hn, hs => by
    rw [List.nodup_cons] at hn
    obtain ⟨A, B, rfl⟩ := List.append_of_mem (hs x (List.mem_cons_self ..))
    have ih := sum_sub (g := g) l (A ++ B) hn.2 (fun y hy => by
      have := hs y (List.mem_cons_of_mem _ hy)
      rw [List.mem_append, List.mem_cons] at this
      rw [List.mem_append]
      rcases this with h | h | h
      · exact .inl h
      · subst h; exact absurd hy hn.1
      · exact .inr h)
    simp only [List.map_cons, List.sum_cons, List.map_append, List.sum_append] at ih ⊢
    omega
theorem sorted_nodup {l : List DName} (h : Sorted l) : l.Nodup := by
  unfold Sorted at h
  rw [List.pairwise_map] at h
  exact h.imp (fun {a b} h => (show a ≠ b from fun e => by subst e; exact List.lt_irrefl _ h))

/-- no name is empty -/
def Named (l : List DName) : Prop := ∀ x ∈ l, key x ≠ []

structure Saved (S S' : DS) (N : Nat) (d n X : ByteArray) : Prop where
  fine : S'.Fine
  ok : S'.Ok (N + 2)
  sorted : Sorted S'.now
  named : Named S'.now
  cap : S'.cap = S.cap
  files : S'.files = S.files ++ [⟨X, X.size⟩]
  mem : ∀ x, x ∈ S'.now ↔ x = ⟨n, S.files.length⟩ ∨ (x ∈ S.now ∧ key x ≠ n.toList)
  safe : S'.safe = S'.now
  steps : S'.steps = []

theorem toList_nil {n : ByteArray} (h : n.toList = []) : n.size = 0 := by
  rw [Lib.size_eq, ← Lib.toList_data, h]; rfl

theorem saved_of {S : DS} {N : Nat} {d n X : ByteArray} (hF : S.Fine) (ho : S.Ok N) (hs : Sorted S.now) (hnm : Named S.now) (hd : findIs d S.now = false) (hdz : d.size ≠ 0) (hn : n.size ≠ 0) (hnd : strEq d n = false) (hr : (X.size : Int) ≤ S.cap - S.bytes) :
    Saved S (sealed (S.create d).2 d n X) N d n X ∧ (S.create d).2.Fine ∧ (S.create d).2.Ok (N + 1) ∧ Sorted (S.create d).2.now ∧ findIs d (S.create d).2.now = true ∧ (S.create d).2.bytes = S.bytes ∧ (S.create d).2.cap = S.cap ∧ ((S.create d).2.fileOf d).data.size = 0 := by
  have hdn : ∀ x ∈ S.now, key x ≠ d.toList := fun x hx e => by
    have := (find_iff (n := d) hs).2 ⟨x, hx, e⟩
    rw [hd] at this; cases this
  have hc := create_fine hF hd hdz
  obtain ⟨S1, hS1⟩ : ∃ S1, S1 = (S.create d).2 := ⟨_, rfl⟩
  rw [← hS1]
  have e1 : S1 = { S with files := S.files ++ [⟨ByteArray.empty, 0⟩], steps := S.steps ++ [⟨1, ByteArray.empty, d, S.files.length⟩], now := doL S.now ⟨1, ByteArray.empty, d, S.files.length⟩ } := by rw [hS1, hc]
  have fi1 : S1.Fine := by rw [e1]; exact ⟨hF.wait, hF.life⟩
  have cap1 : S1.cap = S.cap := by rw [e1]
  have fl1 : S1.files = S.files ++ [⟨ByteArray.empty, 0⟩] := by rw [e1]
  have nw1 : S1.now = doL S.now ⟨1, ByteArray.empty, d, S.files.length⟩ := by rw [e1]
  have dp := doL_put (s := ⟨1, ByteArray.empty, d, S.files.length⟩) hs (show ¬ (1 : Nat) = 3 by decide)
  have so1 : Sorted S1.now := by rw [nw1]; exact dp.1
  have em : (ByteArray.empty).toList = [] := by rw [Lib.toList_data]; rfl
  have mm1 : ∀ x, x ∈ S1.now ↔ x = ⟨d, S.files.length⟩ ∨ x ∈ S.now := fun x => by
    rw [nw1, dp.2 x]
    constructor
    · rintro (h | h)
      · exact .inl h
      · exact .inr h.1
    · rintro (h | h)
      · exact .inl h
      · exact .inr ⟨h, by rw [em]; exact hnm x h, hdn x h⟩
  have ok1 : S1.Ok (N + 1) := by
    rw [e1]
    refine ⟨?_, Nat.le_trans (doL_len _ _) (Nat.succ_le_succ ho.nl), by show (S.files ++ _).length ≤ _; rw [List.length_append]; exact Nat.succ_le_succ ho.fl, by show (S.steps ++ _).length ≤ _; rw [List.length_append]; exact Nat.succ_le_succ ho.tl, Nat.le_succ_of_le ho.sl, Nat.le_succ_of_le ho.fa, ho.w0, ho.w1, ho.l0, ho.l1⟩
    intro x hx
    show x.file < (S.files ++ _).length
    rw [List.length_append]
    rcases (mm1 x).1 (by rw [nw1]; exact hx) with rfl | h
    · simp
    · have := ho.ref x h; simp; omega
  have hin : (⟨d, S.files.length⟩ : DName) ∈ S1.now := (mm1 _).2 (.inl rfl)
  have fd1 : findIs d S1.now = true := (find_iff so1).2 ⟨_, hin, rfl⟩
  have at1 : S1.now[findIx d S1.now]? = some ⟨d, S.files.length⟩ := find_at so1 hin rfl
  have no1 : S1.fileNo d = S.files.length := fileNo_get at1
  have of1 : S1.fileOf d = ⟨ByteArray.empty, 0⟩ := fileOf_get at1 (by rw [fl1]; simp)
  have by1 : S1.bytes = S.bytes := by
    rw [bytes_eq, bytes_eq]
    apply Nat.le_antisymm
    · refine Nat.le_trans (sum_sub _ (⟨d, S.files.length⟩ :: S.now) (sorted_nodup so1) (fun x hx => ?_)) ?_
      · rcases (mm1 x).1 hx with h | h
        · rw [h]; exact List.mem_cons_self ..
        · exact List.mem_cons_of_mem _ h
      · rw [List.map_cons, List.sum_cons]
        have : fsize S1.files ⟨d, S.files.length⟩ = 0 := by unfold fsize; rw [fl1]; simp
        rw [this, Nat.zero_add]
        apply Nat.le_of_eq
        unfold bsum
        congr 1
        apply List.map_congr_left
        intro x hx
        unfold fsize
        rw [fl1, List.getElem?_append_left (ho.ref x hx)]
    · refine Nat.le_trans (Nat.le_of_eq ?_) (sum_sub (g := fsize S1.files) S.now S1.now (sorted_nodup hs) (fun x hx => (mm1 x).2 (.inr hx)))
      unfold bsum
      congr 1
      apply List.map_congr_left
      intro x hx
      unfold fsize
      rw [fl1, List.getElem?_append_left (ho.ref x hx)]
  refine ⟨?_, fi1, ok1, so1, fd1, by1, cap1, by rw [of1]; rfl⟩
  have hap := append_fine fi1 fd1 (X := X) (by rw [cap1, by1]; exact hr)
  rw [no1, of1] at hap
  have eX : ByteArray.empty ++ X = X := by simp
  have hap2 : S1.append d X = (true, { S1 with files := S.files ++ [⟨X, 0⟩] }) := by
    rw [hap]
    congr 2
    rw [fl1, List.set_append_right _ _ (Nat.le_refl _), Nat.sub_self]
    show S.files ++ [⟨ByteArray.empty ++ X, 0⟩] = _
    rw [eX]
  obtain ⟨S2, hS2⟩ : ∃ S2 : DS, S2 = { S1 with files := S.files ++ [⟨X, 0⟩] } := ⟨_, rfl⟩
  rw [← hS2] at hap2
  have nw2 : S2.now = S1.now := by rw [hS2]
  have fl2 : S2.files = S.files ++ [⟨X, 0⟩] := by rw [hS2]
  have fi2 : S2.Fine := by rw [hS2]; exact ⟨fi1.wait, fi1.life⟩
  have fd2 : findIs d S2.now = true := by rw [nw2]; exact fd1
  have at2 : S2.now[findIx d S2.now]? = some ⟨d, S.files.length⟩ := by rw [nw2]; exact at1
  have no2 : S2.fileNo d = S.files.length := fileNo_get at2
  have of2 : S2.fileOf d = ⟨X, 0⟩ := fileOf_get at2 (by rw [fl2]; simp)
  have hsy := sync_fine fi2 fd2
  rw [no2, of2] at hsy
  have hsy2 : S2.sync d = (true, { S2 with files := S.files ++ [⟨X, X.size⟩] }) := by
    rw [hsy]
    congr 2
    rw [fl2, List.set_append_right _ _ (Nat.le_refl _), Nat.sub_self]
    rfl
  obtain ⟨S3, hS3⟩ : ∃ S3 : DS, S3 = { S2 with files := S.files ++ [⟨X, X.size⟩] } := ⟨_, rfl⟩
  rw [← hS3] at hsy2
  have nw3 : S3.now = S1.now := by rw [hS3]; exact nw2
  have fi3 : S3.Fine := by rw [hS3]; exact ⟨fi2.wait, fi2.life⟩
  have fd3 : findIs d S3.now = true := by rw [nw3]; exact fd1
  have no3 : S3.fileNo d = S.files.length := fileNo_get (x := ⟨d, S.files.length⟩) (by rw [nw3]; exact at1)
  have hrn := rename_fine fi3 fd3 hnd hn
  rw [no3] at hrn
  obtain ⟨S4, hS4⟩ : ∃ S4 : DS, S4 = { S3 with steps := S3.steps ++ [⟨2, d, n, S.files.length⟩], now := doL S3.now ⟨2, d, n, S.files.length⟩ } := ⟨_, rfl⟩
  rw [← hS4] at hrn
  have fi4 : S4.Fine := by rw [hS4]; exact ⟨fi3.wait, fi3.life⟩
  have hse : sealed S1 d n X = { S4 with safe := S4.now, steps := [] } := by
    unfold sealed
    rw [hap2, hsy2, hrn, syncDir_fine fi4]
  rw [hse]
  have dp4 := doL_put (s := ⟨2, d, n, S.files.length⟩) so1 (show ¬ (2 : Nat) = 3 by decide)
  have nw4 : S4.now = doL S1.now ⟨2, d, n, S.files.length⟩ := by rw [hS4, nw3]
  have fl4 : S4.files = S.files ++ [⟨X, X.size⟩] := by rw [hS4, hS3]
  have mm4 : ∀ x, x ∈ S4.now ↔ x = ⟨n, S.files.length⟩ ∨ (x ∈ S.now ∧ key x ≠ n.toList) := fun x => by
    rw [nw4, dp4.2 x]
    constructor
    · rintro (h | ⟨h1, h2, h3⟩)
      · exact .inl h
      · rcases (mm1 x).1 h1 with rfl | h
        · exact absurd rfl h2
        · exact .inr ⟨h, h3⟩
    · rintro (h | ⟨h1, h2⟩)
      · exact .inl h
      · exact .inr ⟨(mm1 x).2 (.inr h1), hdn x h1, h2⟩
  have so4 : Sorted S4.now := by rw [nw4]; exact dp4.1
  refine ⟨⟨fi4.wait, fi4.life⟩, ?_, so4, ?_, ?_, fl4, mm4, rfl, rfl⟩
  · have hl4 : S4.now.length ≤ N + 2 := by
      rw [nw4]
      have h1 := doL_len S1.now ⟨2, d, n, S.files.length⟩
      have h2 := ok1.nl
      omega
    refine ⟨?_, hl4, ?_, Nat.zero_le _, hl4, ?_, ?_, ?_, ?_, ?_⟩
    · intro x hx
      show x.file < S4.files.length
      rw [fl4, List.length_append]
      rcases (mm4 x).1 hx with rfl | h
      · simp
      · have := ho.ref x h.1; simp; omega
    · show S4.files.length ≤ _
      rw [fl4, List.length_append]
      have := ho.fl
      simp; omega
    · show S4.failed ≤ _
      rw [hS4, hS3, hS2, e1]; have := ho.fa; show S.failed ≤ _; omega
    · show -1 ≤ S4.wait; rw [fi4.wait]; decide
    · show S4.wait ≤ _; rw [fi4.wait]; decide
    · show -1 ≤ S4.life; rw [fi4.life]; decide
    · show S4.life ≤ _; rw [fi4.life]; decide
  · intro x hx
    rcases (mm4 x).1 hx with rfl | h
    · intro e; exact hn (toList_nil e)
    · exact hnm x h.1
  · show S4.cap = S.cap
    rw [hS4, hS3, hS2, e1]

theorem Saved.look_new {S S' : DS} {N : Nat} {d n X : ByteArray} (h : Saved S S' N d n X) : S'.look n = some ⟨X, X.size⟩ := by
  rw [look_iff h.sorted]
  exact ⟨_, (h.mem _).2 (.inl rfl), rfl, by rw [h.files]; simp⟩
theorem Saved.look_old {S S' : DS} {N M : Nat} {d n X m : ByteArray} (h : Saved S S' N d n X) (ho : S.Ok M) (hs : Sorted S.now) (hm : m.toList ≠ n.toList) : S'.look m = S.look m := by
  have key : ∀ f, S'.look m = some f ↔ S.look m = some f := fun f => by
    rw [look_iff h.sorted, look_iff hs]
    constructor
    · rintro ⟨x, hx, e, hf⟩
      rcases (h.mem x).1 hx with rfl | ⟨h1, _⟩
      · exact absurd e.symm hm
      · exact ⟨x, h1, e, by rw [h.files, List.getElem?_append_left (ho.ref x h1)] at hf; exact hf⟩
    · rintro ⟨x, hx, e, hf⟩
      exact ⟨x, (h.mem x).2 (.inr ⟨hx, by rw [e]; exact hm⟩), e, by rw [h.files, List.getElem?_append_left (ho.ref x hx)]; exact hf⟩
  cases h1 : S'.look m with
  | some f => exact ((key f).1 h1).symm
  | none =>
    cases h2 : S.look m with
    | none => rfl
    | some f => rw [(key f).2 h2] at h1; cases h1
theorem Saved.bytes_le {S S' : DS} {N M : Nat} {d n X : ByteArray} (h : Saved S S' N d n X) (ho : S.Ok M) : S'.bytes ≤ S.bytes + X.size := by
  rw [bytes_eq, bytes_eq]
  refine Nat.le_trans (sum_sub (g := fsize S'.files) _ (⟨n, S.files.length⟩ :: S.now) (sorted_nodup h.sorted) (fun x hx => ?_)) ?_
  · rcases (h.mem x).1 hx with e | e
    · rw [e]; exact List.mem_cons_self ..
    · exact List.mem_cons_of_mem _ e.1
  · rw [List.map_cons, List.sum_cons]
    have h1 : fsize S'.files ⟨n, S.files.length⟩ = X.size := by unfold fsize; rw [h.files]; simp
    have h2 : (S.now.map (fsize S'.files)).sum = bsum S.files S.now := by
      unfold bsum
      congr 1
      apply List.map_congr_left
      intro x hx
      unfold fsize
      rw [h.files, List.getElem?_append_left (ho.ref x hx)]
    rw [h1, h2]; omega
end Go.Proofs.YtbjgpfhbdmcbbabGreatDoor.diskm

/-
  PLAIN MATHEMATICS: what is on a disk that may die; a crash. It imports nothing of the program.
-/
namespace Go.Proofs.YtbjgpfhbdmcbbabGreatDoor.diskm
set_option linter.unusedVariables false

theorem fold_dir {F : Nat} : ∀ (ts : List DStep) (l : List DName), Sorted l → Named l → (∀ x ∈ l, x.file < F) → (∀ s ∈ ts, s.kind = 3 ∨ (s.file < F ∧ s.dst.size ≠ 0)) →
    Sorted (ts.foldl doL l) ∧ Named (ts.foldl doL l) ∧ (∀ x ∈ ts.foldl doL l, x.file < F) ∧ (ts.foldl doL l).length ≤ l.length + ts.length
  | [], l, h1, h2, h3, _ => ⟨h1, h2, h3, by simp⟩
  | s :: ts, l, h1, h2, h3, h4 => by
    have hs := h4 s (List.mem_cons_self ..)
    have hd : Sorted (doL l s) ∧ Named (doL l s) ∧ (∀ x ∈ doL l s, x.file < F) := by
      by_cases hk : s.kind = 3
      · have dr := doL_rm h1 hk
        exact ⟨dr.1, fun x hx => h2 x ((dr.2 x).1 hx).1, fun x hx => h3 x ((dr.2 x).1 hx).1⟩
      · have dp := doL_put h1 hk
        rcases hs with hs | hs
        · exact absurd hs hk
        refine ⟨dp.1, fun x hx => ?_, fun x hx => ?_⟩
        · rcases (dp.2 x).1 hx with rfl | h
          · intro e; exact hs.2 (toList_nil e)
          · exact h2 x h.1
        · rcases (dp.2 x).1 hx with rfl | h
          · exact hs.1
          · exact h3 x h.1
    have ih := fold_dir ts (doL l s) hd.1 hd.2.1 hd.2.2 (fun t ht => h4 t (List.mem_cons_of_mem _ ht))
    rw [List.foldl_cons]
    refine ⟨ih.1, ih.2.1, ih.2.2.1, ?_⟩
    have := doL_len l s
    have := ih.2.2.2
    rw [List.length_cons]
    omega

/-- what is on a disk can be -/
structure Sane (S : DS) : Prop where
  now : S.now = S.steps.foldl doL S.safe
  sorted : Sorted S.safe
  named : Named S.safe
  refS : ∀ x ∈ S.safe, x.file < S.files.length
  refT : ∀ s ∈ S.steps, s.kind = 3 ∨ (s.file < S.files.length ∧ s.dst.size ≠ 0)
  kinds : ∀ s ∈ S.steps, s.kind < 10 ∧ s.file ≤ 1000000
  sync : ∀ f ∈ S.files, f.synced ≤ f.data.size
  small : ∀ f ∈ S.files, f.data.size ≤ 1000000
theorem Sane.dir {S : DS} (h : Sane S) (n : Nat) : Sorted ((S.steps.take n).foldl doL S.safe) ∧ Named ((S.steps.take n).foldl doL S.safe) ∧ (∀ x ∈ (S.steps.take n).foldl doL S.safe, x.file < S.files.length) ∧ ((S.steps.take n).foldl doL S.safe).length ≤ S.safe.length + (S.steps.take n).length :=
  fold_dir _ _ h.sorted h.named h.refS (fun s hs => h.refT s (List.mem_of_mem_take hs))
theorem Sane.cur {S : DS} (h : Sane S) : Sorted S.now ∧ Named S.now ∧ (∀ x ∈ S.now, x.file < S.files.length) := by
  have := h.dir S.steps.length
  rw [List.take_length, ← h.now] at this
  exact ⟨this.1, this.2.1, this.2.2.1⟩

theorem sane_changes {S : DS} (h : Sane S) : Sane S.changes.2 := by
  obtain ⟨e1, e2, e3, e4, e5⟩ := changes_same S
  exact ⟨by rw [e1, e3, e4]; exact h.now, by rw [e3]; exact h.sorted, by rw [e3]; exact h.named, by rw [e3, e2]; exact h.refS, by rw [e4, e2]; exact h.refT, by rw [e4]; exact h.kinds, by rw [e2]; exact h.sync, by rw [e2]; exact h.small⟩
theorem fold_snoc (ts : List DStep) (s : DStep) (l : List DName) : (ts ++ [s]).foldl doL l = doL (ts.foldl doL l) s := by simp

/-- what a call that takes a name away leaves -/
structure Took (S T : DS) (N : Nat) : Prop where
  sane : Sane T
  ok : T.Ok N
  cap : T.cap = S.cap
  files : T.files = S.files
theorem took_start {S : DS} {N : Nat} (h : Sane S) (ho : S.Ok N) : Took S S N := ⟨h, ho, rfl, rfl⟩
theorem took_changes {S T : DS} {N : Nat} (h : Took S T N) : Took S T.changes.2 (N + 1) := by
  obtain ⟨e1, e2, e3, e4, e5⟩ := changes_same T
  exact ⟨sane_changes h.sane, changes_ok h.ok, by rw [e5]; exact h.cap, by rw [e2]; exact h.files⟩
theorem Took.mono {S T : DS} {N M : Nat} (h : Took S T N) (hm : N ≤ M) : Took S T M :=
  ⟨h.sane, ⟨h.ok.ref, Nat.le_trans h.ok.nl hm, Nat.le_trans h.ok.fl hm, Nat.le_trans h.ok.tl hm, Nat.le_trans h.ok.sl hm, Nat.le_trans h.ok.fa hm, h.ok.w0, h.ok.w1, h.ok.l0, h.ok.l1⟩, h.cap, h.files⟩
theorem took_remove {S T : DS} {N : Nat} {n : ByteArray} (h : Took S T N) : Took S (T.remove n).2 (N + 2) := by
  have hc := took_changes h
  unfold DS.remove
  cases hch : T.changes with
  | mk ok U =>
    rw [hch] at hc
    have hc : Took S U (N + 1) := hc
    show Took S (if ok = false ∨ findIs n T.now = false then (false, U) else (true, { U with steps := U.steps ++ [⟨3, n, ByteArray.empty, 0⟩], now := doL U.now ⟨3, n, ByteArray.empty, 0⟩ })).2 (N + 2)
    split
    · exact hc.mono (Nat.le_succ _)
    · have hs := hc.sane
      have hk := hc.ok
      have dr := doL_rm (s := ⟨3, n, ByteArray.empty, 0⟩) hs.cur.1 rfl
      refine ⟨⟨?_, hs.sorted, hs.named, hs.refS, ?_, ?_, hs.sync, hs.small⟩, ⟨fun x hx => hk.ref x ((dr.2 x).1 hx).1, Nat.le_trans (doL_len _ _) (Nat.succ_le_succ hk.nl), Nat.le_succ_of_le hk.fl, by show (U.steps ++ _).length ≤ _; rw [List.length_append]; exact Nat.succ_le_succ hk.tl, Nat.le_succ_of_le hk.sl, Nat.le_succ_of_le hk.fa, hk.w0, hk.w1, hk.l0, hk.l1⟩, hc.cap, hc.files⟩
      · show doL U.now _ = (U.steps ++ [_]).foldl doL U.safe
        rw [fold_snoc, ← hs.now]
      · intro s hs2
        have hs2 : s ∈ U.steps ++ [⟨3, n, ByteArray.empty, 0⟩] := hs2
        rw [List.mem_append, List.mem_singleton] at hs2
        rcases hs2 with h2 | rfl
        · exact hs.refT s h2
        · exact .inl rfl
      · intro s hs2
        have hs2 : s ∈ U.steps ++ [⟨3, n, ByteArray.empty, 0⟩] := hs2
        rw [List.mem_append, List.mem_singleton] at hs2
        rcases hs2 with h2 | rfl
        · exact hs.kinds s h2
        · exact ⟨by show 3 < 10; decide, by show 0 ≤ 1000000; decide⟩
theorem Saved.sane {S S' : DS} {N : Nat} {d n X : ByteArray} (h : Saved S S' N d n X) (hs : Sane S) (hX : X.size ≤ 1000000) : Sane S' := by
  refine ⟨by rw [h.steps, h.safe]; rfl, by rw [h.safe]; exact h.sorted, by rw [h.safe]; exact h.named, by rw [h.safe]; exact h.ok.ref, (fun s hx => by rw [h.steps] at hx; cases hx), (fun s hx => by rw [h.steps] at hx; cases hx), ?_, ?_⟩
  · intro f hf
    rw [h.files, List.mem_append, List.mem_singleton] at hf
    rcases hf with hf | rfl
    · exact hs.sync f hf
    · exact Nat.le_refl _
  · intro f hf
    rw [h.files, List.mem_append, List.mem_singleton] at hf
    rcases hf with hf | rfl
    · exact hs.small f hf
    · exact hX

/-- what a crash makes of a file -/
def Torn (f g : DFile) : Prop := g = f ∨ ∃ k, f.synced ≤ k ∧ k ≤ f.data.size ∧ g = ⟨f.data.extract 0 k, k⟩
theorem torn_again {f g : DFile} {k : Nat} (h : Torn f g) (h1 : g.synced ≤ k) (h2 : k ≤ g.data.size) : Torn f ⟨g.data.extract 0 k, k⟩ := by
  rcases h with rfl | ⟨j, j1, j2, rfl⟩
  · exact .inr ⟨k, h1, h2, rfl⟩
  · have hj : (f.data.extract 0 j).size = j := by rw [ByteArray.size_extract]; omega
    have hk : k = j := by
      have h1 : j ≤ k := h1
      have h2 : k ≤ (f.data.extract 0 j).size := h2
      omega
    subst hk
    refine .inr ⟨k, j1, j2, ?_⟩
    congr 1
    apply ByteArray.ext
    apply Array.toList_inj.1
    rw [Lib.extract_data, Lib.extract_data]
    simp [List.take_take]
theorem torn_sure {f g : DFile} (h : Torn f g) (hs : f.synced = f.data.size) : g = f := by
  rcases h with rfl | ⟨k, k1, k2, rfl⟩
  · rfl
  · have hk : k = f.data.size := by omega
    subst hk
    obtain ⟨d, s⟩ := f
    have hs : s = d.size := hs
    subst hs
    show (⟨d.extract 0 d.size, d.size⟩ : DFile) = ⟨d, d.size⟩
    congr 1
    apply ByteArray.ext
    apply Array.toList_inj.1
    rw [Lib.extract_data, List.drop_zero, Nat.sub_zero, Lib.size_eq, List.take_length]
theorem torn_size {f g : DFile} (h : Torn f g) (hs : f.synced ≤ f.data.size) : g.synced ≤ g.data.size ∧ g.data.size ≤ f.data.size := by
  rcases h with rfl | ⟨k, k1, k2, rfl⟩
  · exact ⟨hs, Nat.le_refl _⟩
  · have : (f.data.extract 0 k).size = k := by rw [ByteArray.size_extract]; omega
    exact ⟨by show k ≤ (f.data.extract 0 k).size; omega, by show (f.data.extract 0 k).size ≤ _; omega⟩

/-- what a crash leaves -/
structure Crashed (S T : DS) : Prop where
  dir : ∃ n, n ≤ S.steps.length ∧ T.now = (S.steps.take n).foldl doL S.safe
  safe : T.safe = T.now
  steps : T.steps = []
  cap : T.cap = S.cap
  fine : T.Fine
  failed : T.failed = S.failed
  len : T.files.length = S.files.length
  file : ∀ (i : Nat) (f : DFile), S.files[i]? = some f → ∃ g, T.files[i]? = some g ∧ Torn f g
theorem Crashed.sane {S T : DS} {N : Nat} (h : Crashed S T) (hs : Sane S) (ho : S.Ok N) : Sane T ∧ T.Ok (N + N) := by
  obtain ⟨n, hn, e⟩ := h.dir
  have hd := hs.dir n
  rw [← e] at hd
  have hl : T.now.length ≤ N + N := by
    have h1 := hd.2.2.2
    rw [List.length_take] at h1
    have := ho.sl
    have := ho.tl
    omega
  have hf : ∀ g ∈ T.files, g.synced ≤ g.data.size ∧ g.data.size ≤ 1000000 := by
    intro g hg
    obtain ⟨i, hi⟩ := List.getElem?_of_mem hg
    have hil := (List.getElem?_eq_some_iff.1 hi).1
    obtain ⟨f, hf⟩ : ∃ f, S.files[i]? = some f := ⟨_, List.getElem?_eq_getElem (by rw [← h.len]; exact hil)⟩
    obtain ⟨g', h1, h2⟩ := h.file i f hf
    rw [hi] at h1
    cases h1
    have hm := List.mem_of_getElem? hf
    have h3 := torn_size h2 (hs.sync f hm)
    have := hs.small f hm
    exact ⟨h3.1, by omega⟩
  have hw := h.fine.wait
  have hlf := h.fine.life
  have h9 := ho.fl
  have h8 := ho.fa
  exact ⟨⟨by rw [h.steps, h.safe]; rfl, by rw [h.safe]; exact hd.1, by rw [h.safe]; exact hd.2.1, by rw [h.safe, h.len]; exact hd.2.2.1, (fun s hx => by rw [h.steps] at hx; cases hx), (fun s hx => by rw [h.steps] at hx; cases hx), (fun g hg => (hf g hg).1), (fun g hg => (hf g hg).2)⟩,
    ⟨by rw [h.len]; exact hd.2.2.1, hl, by rw [h.len]; omega, by rw [h.steps]; exact Nat.zero_le _, by rw [h.safe]; exact hl, by rw [h.failed]; omega, by rw [hw]; decide, by rw [hw]; decide, by rw [hlf]; decide, by rw [hlf]; decide⟩⟩
end Go.Proofs.YtbjgpfhbdmcbbabGreatDoor.diskm

/-
  Contracts of the library's shelf at this program, laid by the kit's own command in plain words; the ones that are used.
-/
namespace Go.Proofs
open Go.Shelf
def Tryz.lays143_ren : Go.Shelf.Ren := ⟨fun | 143 => 174 | 219 => 126 | 217 => 151 | 225 => 152 | 224 => 153 | 267 => 154 | 266 => 168 | 314 => 169 | n => n, fun | 9 => 9 | 3 => 3 | 4 => 4 | 5 => 5 | 46 => 145 | 146 => 240 | 51 => 192 | n => n, fun | 1 => 13 | n => n⟩
theorem Tryz.lays143 : Go.Proofs.Lays.n143 Tryz.prog Tryz.lays143_ren := {
  mixed := by kernel_rfl
  f143 := Tryz.func174.trans (congrArg some (by kernel_rfl))
  f217 := Tryz.func151.trans (congrArg some (by kernel_rfl))
  f219 := Tryz.func126.trans (congrArg some (by kernel_rfl))
  f224 := Tryz.func153.trans (congrArg some (by kernel_rfl))
  f225 := Tryz.func152.trans (congrArg some (by kernel_rfl))
  f266 := Tryz.func168.trans (congrArg some (by kernel_rfl))
  f267 := Tryz.func154.trans (congrArg some (by kernel_rfl))
  f314 := Tryz.func169.trans (congrArg some (by kernel_rfl))
  t3 := Tryz.underlying3
  a3 := Tryz.isAgg3
  z3 := Tryz.sizeOf3
  v3 := Tryz.zeroValue3
  t4 := Tryz.underlying4
  a4 := Tryz.isAgg4
  z4 := Tryz.sizeOf4
  v4 := Tryz.zeroValue4
  t5 := Tryz.underlying5
  a5 := Tryz.isAgg5
  z5 := Tryz.sizeOf5
  v5 := Tryz.zeroValue5
  t9 := Tryz.underlying9
  a9 := Tryz.isAgg9
  z9 := Tryz.sizeOf9
  v9 := Tryz.zeroValue9
  t46 := Tryz.underlying145
  a46 := Tryz.isAgg145
  z46 := Tryz.sizeOf145
  v46 := Tryz.zeroValue145
  t51 := Tryz.underlying192
  a51 := Tryz.isAgg192
  z51 := Tryz.sizeOf192
  v51 := Tryz.zeroValue192
  t146 := Tryz.underlying240
  a146 := Tryz.isAgg240
  z146 := Tryz.sizeOf240
  v146 := Tryz.zeroValue240
  g1 := by kernel_rfl }
open Go.RowKit Go.Lib in
theorem Tryz.strings_Index_one (s : ByteArray) (c : UInt8) (w : World) :
    Calls Tryz.prog 174 #[.string s, .string ⟨#[c]⟩] w fun e w' => e = .returned (.int .i64 (Lib.indexByte s.data.toList c)) ∧ w' = w := Any.strings_Index_one Tryz.lays143 s c w
def Tryz.lays138_ren : Go.Shelf.Ren := ⟨fun | 138 => 173 | 195 => 181 | 218 => 183 | 143 => 174 | 219 => 126 | 217 => 151 | 225 => 152 | 224 => 153 | 267 => 154 | 266 => 168 | 314 => 169 | n => n, fun | 9 => 9 | 3 => 3 | 4 => 4 | 5 => 5 | 0 => 0 | 46 => 145 | 146 => 240 | 51 => 192 | n => n, fun | 1 => 13 | n => n⟩
theorem Tryz.lays138 : Go.Proofs.Lays.n138 Tryz.prog Tryz.lays138_ren := {
  mixed := by kernel_rfl
  f138 := Tryz.func173.trans (congrArg some (by kernel_rfl))
  f143 := Tryz.func174.trans (congrArg some (by kernel_rfl))
  f195 := Tryz.func181.trans (congrArg some (by kernel_rfl))
  f217 := Tryz.func151.trans (congrArg some (by kernel_rfl))
  f218 := Tryz.func183.trans (congrArg some (by kernel_rfl))
  f219 := Tryz.func126.trans (congrArg some (by kernel_rfl))
  f224 := Tryz.func153.trans (congrArg some (by kernel_rfl))
  f225 := Tryz.func152.trans (congrArg some (by kernel_rfl))
  f266 := Tryz.func168.trans (congrArg some (by kernel_rfl))
  f267 := Tryz.func154.trans (congrArg some (by kernel_rfl))
  f314 := Tryz.func169.trans (congrArg some (by kernel_rfl))
  t0 := Tryz.underlying0
  a0 := Tryz.isAgg0
  z0 := Tryz.sizeOf0
  v0 := Tryz.zeroValue0
  t3 := Tryz.underlying3
  a3 := Tryz.isAgg3
  z3 := Tryz.sizeOf3
  v3 := Tryz.zeroValue3
  t4 := Tryz.underlying4
  a4 := Tryz.isAgg4
  z4 := Tryz.sizeOf4
  v4 := Tryz.zeroValue4
  t5 := Tryz.underlying5
  a5 := Tryz.isAgg5
  z5 := Tryz.sizeOf5
  v5 := Tryz.zeroValue5
  t9 := Tryz.underlying9
  a9 := Tryz.isAgg9
  z9 := Tryz.sizeOf9
  v9 := Tryz.zeroValue9
  t46 := Tryz.underlying145
  a46 := Tryz.isAgg145
  z46 := Tryz.sizeOf145
  v46 := Tryz.zeroValue145
  t51 := Tryz.underlying192
  a51 := Tryz.isAgg192
  z51 := Tryz.sizeOf192
  v51 := Tryz.zeroValue192
  t146 := Tryz.underlying240
  a146 := Tryz.isAgg240
  z146 := Tryz.sizeOf240
  v146 := Tryz.zeroValue240
  g1 := by kernel_rfl }
open Go.RowKit Go.Lib in
theorem Tryz.strings_Count_one (s : ByteArray) (c : UInt8) (w : World) :
    Calls Tryz.prog 173 #[.string s, .string ⟨#[c]⟩] w fun e w' => e = .returned (.int .i64 (Lib.countByte s.data.toList c)) ∧ w' = w := Any.strings_Count_one Tryz.lays138 s c w
def Tryz.lays221_ren : Go.Shelf.Ren := ⟨fun | 221 => 158 | 268 => 172 | 138 => 173 | 143 => 174 | 195 => 181 | 197 => 182 | 218 => 183 | 219 => 126 | 260 => 194 | 217 => 151 | 225 => 152 | 224 => 153 | 267 => 154 | 266 => 168 | 314 => 169 | n => n, fun | 9 => 9 | 3 => 3 | 31 => 28 | 4 => 4 | 0 => 0 | 105 => 260 | 21 => 21 | 5 => 5 | 46 => 145 | 119 => 275 | 139 => 278 | 138 => 277 | 146 => 240 | 51 => 192 | n => n, fun | 1 => 13 | 3 => 19 | 4 => 20 | n => n⟩
theorem Tryz.lays221 : Go.Proofs.Lays.n221 Tryz.prog Tryz.lays221_ren := {
  mixed := by kernel_rfl
  f138 := Tryz.func173.trans (congrArg some (by kernel_rfl))
  f143 := Tryz.func174.trans (congrArg some (by kernel_rfl))
  f195 := Tryz.func181.trans (congrArg some (by kernel_rfl))
  f197 := Tryz.func182.trans (congrArg some (by kernel_rfl))
  f217 := Tryz.func151.trans (congrArg some (by kernel_rfl))
  f218 := Tryz.func183.trans (congrArg some (by kernel_rfl))
  f219 := Tryz.func126.trans (congrArg some (by kernel_rfl))
  f221 := Tryz.func158.trans (congrArg some (by kernel_rfl))
  f224 := Tryz.func153.trans (congrArg some (by kernel_rfl))
  f225 := Tryz.func152.trans (congrArg some (by kernel_rfl))
  f260 := Tryz.func194.trans (congrArg some (by kernel_rfl))
  f266 := Tryz.func168.trans (congrArg some (by kernel_rfl))
  f267 := Tryz.func154.trans (congrArg some (by kernel_rfl))
  f268 := Tryz.func172.trans (congrArg some (by kernel_rfl))
  f314 := Tryz.func169.trans (congrArg some (by kernel_rfl))
  t0 := Tryz.underlying0
  a0 := Tryz.isAgg0
  z0 := Tryz.sizeOf0
  v0 := Tryz.zeroValue0
  t3 := Tryz.underlying3
  a3 := Tryz.isAgg3
  z3 := Tryz.sizeOf3
  v3 := Tryz.zeroValue3
  t4 := Tryz.underlying4
  a4 := Tryz.isAgg4
  z4 := Tryz.sizeOf4
  v4 := Tryz.zeroValue4
  t5 := Tryz.underlying5
  a5 := Tryz.isAgg5
  z5 := Tryz.sizeOf5
  v5 := Tryz.zeroValue5
  t9 := Tryz.underlying9
  a9 := Tryz.isAgg9
  z9 := Tryz.sizeOf9
  v9 := Tryz.zeroValue9
  t21 := Tryz.underlying21
  a21 := Tryz.isAgg21
  z21 := Tryz.sizeOf21
  v21 := Tryz.zeroValue21
  t31 := Tryz.underlying28
  a31 := Tryz.isAgg28
  z31 := Tryz.sizeOf28
  v31 := Tryz.zeroValue28
  t46 := Tryz.underlying145
  a46 := Tryz.isAgg145
  z46 := Tryz.sizeOf145
  v46 := Tryz.zeroValue145
  t51 := Tryz.underlying192
  a51 := Tryz.isAgg192
  z51 := Tryz.sizeOf192
  v51 := Tryz.zeroValue192
  t105 := Tryz.underlying260
  a105 := Tryz.isAgg260
  z105 := Tryz.sizeOf260
  v105 := Tryz.zeroValue260
  t119 := Tryz.underlying275
  a119 := Tryz.isAgg275
  z119 := Tryz.sizeOf275
  t138 := Tryz.underlying277
  a138 := Tryz.isAgg277
  z138 := Tryz.sizeOf277
  v138 := Tryz.zeroValue277
  t139 := Tryz.underlying278
  a139 := Tryz.isAgg278
  z139 := Tryz.sizeOf278
  v139 := Tryz.zeroValue278
  t146 := Tryz.underlying240
  a146 := Tryz.isAgg240
  z146 := Tryz.sizeOf240
  v146 := Tryz.zeroValue240
  g1 := by kernel_rfl
  g3 := by kernel_rfl
  g4 := by kernel_rfl }
end Go.Proofs
