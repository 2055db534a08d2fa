import Derived.Test.YtbjgpfhbdmcbbabGreatDoorP09

/-
  PLAIN MATHEMATICS: what stays on a disk that may die. It imports nothing of the program.
-/
namespace Go.Proofs.YtbjgpfhbdmcbbabGreatDoor.diskm
set_option linter.unusedVariables false

/-- whatever a crash now may leave of the names -/
def AllDirs (S : DS) (P : List DName → Prop) : Prop := ∀ n, n ≤ S.steps.length → P ((S.steps.take n).foldl doL S.safe)
theorem AllDirs.now {S : DS} {P : List DName → Prop} (h : AllDirs S P) (hs : Sane S) : P S.now := by
  have := h S.steps.length (Nat.le_refl _)
  rw [List.take_length, ← hs.now] at this
  exact this
theorem AllDirs.mono {S : DS} {P Q : List DName → Prop} (h : AllDirs S P) (hi : ∀ D, P D → Q D) : AllDirs S Q := fun n hn => hi _ (h n hn)
theorem AllDirs.and {S : DS} {P Q : List DName → Prop} (h : AllDirs S P) (k : AllDirs S Q) : AllDirs S (fun D => P D ∧ Q D) := fun n hn => ⟨h n hn, k n hn⟩
theorem AllDirs.to {S T : DS} {P : List DName → Prop} (h : AllDirs S P) (h1 : T.safe = S.safe) (h2 : T.steps = S.steps) : AllDirs T P := fun n hn => by rw [h1, h2]; exact h n (by rw [← h2]; exact hn)
theorem dirs_step {S T : DS} {s : DStep} {P : List DName → Prop} (h : AllDirs S P) (hs : Sane S) (h1 : T.safe = S.safe) (h2 : T.steps = S.steps ++ [s]) (hp : P (doL S.now s)) : AllDirs T P := by
  intro n hn
  rw [h1, h2]
  rw [h2, List.length_append, List.length_singleton] at hn
  rcases Nat.lt_or_ge S.steps.length n with hl | hl
  · have hn2 : n = S.steps.length + 1 := by omega
    subst hn2
    rw [List.take_of_length_le (by rw [List.length_append, List.length_singleton]; exact Nat.le_refl _), fold_snoc, ← hs.now]
    exact hp
  · rw [List.take_append_of_le_length hl]
    exact h n hl
theorem dirs_sync {S T : DS} {P : List DName → Prop} (h1 : T.safe = S.now) (h2 : T.steps = []) (hp : P S.now) : AllDirs T P := by
  intro n hn
  rw [h2, List.take_nil, List.foldl_nil, h1]
  exact hp
/-- all that holds of every name list that can be -/
theorem dirs_can {S : DS} (hs : Sane S) : AllDirs S (fun D => Sorted D ∧ Named D ∧ ∀ x ∈ D, x.file < S.files.length) := fun n hn => ⟨(hs.dir n).1, (hs.dir n).2.1, (hs.dir n).2.2.1⟩

/-- a step of a run: the draft is made, gets a name, is taken away; names are taken away -/
def Perm1 (R P : List UInt8 → Prop) (d : ByteArray) (s : DStep) : Prop := (s.kind = 1 ∧ s.src.toList = [] ∧ s.dst = d) ∨ (s.kind = 2 ∧ s.src = d ∧ P s.dst.toList) ∨ (s.kind = 3 ∧ (s.src = d ∨ R s.src.toList))
def Closed (R P : List UInt8 → Prop) (d : ByteArray) (Q : List DName → Prop) : Prop := ∀ (D : List DName) (s : DStep), Sorted D → Named D → Perm1 R P d s → Q D → Q (doL D s)
theorem closed_has {R P : List UInt8 → Prop} {d : ByteArray} {k : List UInt8} (h0 : k ≠ []) (hd : k ≠ d.toList) (hR : ¬ R k) : Closed R P d (fun D => ∃ x ∈ D, key x = k) := by
  rintro D s hs hn hp ⟨x, hx, hk⟩
  rcases hp with ⟨h1, h2, h3⟩ | ⟨h1, h2, h3⟩ | ⟨h1, h2⟩
  · refine ⟨x, ((doL_put hs (by rw [h1]; decide)).2 x).2 (.inr ⟨hx, by rw [hk, h2]; exact h0, by rw [hk, h3]; exact hd⟩), hk⟩
  · by_cases e : s.dst.toList = k
    · exact ⟨_, ((doL_put hs (by rw [h1]; decide)).2 _).2 (.inl rfl), e⟩
    · exact ⟨x, ((doL_put hs (by rw [h1]; decide)).2 x).2 (.inr ⟨hx, by rw [hk, h2]; exact hd, by rw [hk]; exact fun e2 => e e2.symm⟩), hk⟩
  · refine ⟨x, ((doL_rm hs h1).2 x).2 ⟨hx, ?_⟩, hk⟩
    rw [hk]
    rintro rfl
    rcases h2 with h2 | h2
    · exact hd (by rw [h2])
    · exact hR h2
theorem closed_only {R P N : List UInt8 → Prop} {d : ByteArray} (hd : N d.toList) (hP : ∀ n, P n → N n) : Closed R P d (fun D => ∀ x ∈ D, N (key x)) := by
  intro D s hs hn hp hq x hx
  rcases hp with ⟨h1, h2, h3⟩ | ⟨h1, h2, h3⟩ | ⟨h1, h2⟩
  · rcases ((doL_put hs (by rw [h1]; decide)).2 x).1 hx with rfl | h
    · show N s.dst.toList; rw [h3]; exact hd
    · exact hq x h.1
  · rcases ((doL_put hs (by rw [h1]; decide)).2 x).1 hx with rfl | h
    · exact hP _ h3
    · exact hq x h.1
  · exact hq x (((doL_rm hs h1).2 x).1 hx).1

/-- what a run that may be cut makes of a disk's names -/
structure Went (R P : List UInt8 → Prop) (d : ByteArray) (S T : DS) : Prop where
  dirs : ∀ Q, Closed R P d Q → AllDirs S Q → AllDirs T Q
  cap : T.cap = S.cap
  mort : 0 ≤ T.life → 0 ≤ S.life
theorem Went.refl {R P : List UInt8 → Prop} {d : ByteArray} (S : DS) : Went R P d S S := ⟨fun _ _ h => h, rfl, id⟩
theorem Went.trans {R P : List UInt8 → Prop} {d : ByteArray} {S T U : DS} (h : Went R P d S T) (k : Went R P d T U) : Went R P d S U := ⟨fun Q hQ hS => k.dirs Q hQ (h.dirs Q hQ hS), k.cap.trans h.cap, fun hl => h.mort (k.mort hl)⟩
theorem Went.more {R P R' P' : List UInt8 → Prop} {d : ByteArray} {S T : DS} (h : Went R P d S T) (hR : ∀ n, R n → R' n) (hP : ∀ n, P n → P' n) : Went R' P' d S T :=
  ⟨fun Q hQ hS => h.dirs Q (fun D s hs hn hp => hQ D s hs hn (by
    rcases hp with h | h | ⟨h1, h2⟩
    · exact .inl h
    · exact .inr (.inl ⟨h.1, h.2.1, hP _ h.2.2⟩)
    · exact .inr (.inr ⟨h1, h2.imp id (hR _)⟩))) hS, h.cap, h.mort⟩
theorem went_step {R P : List UInt8 → Prop} {d : ByteArray} {S T : DS} {s : DStep} (hs : Sane S) (hp : Perm1 R P d s) (h1 : T.safe = S.safe) (h2 : T.steps = S.steps ++ [s]) (hc : T.cap = S.cap) (hl : T.life = S.life) : Went R P d S T :=
  ⟨fun Q hQ hS => dirs_step hS hs h1 h2 (hQ _ _ hs.cur.1 hs.cur.2.1 hp (hS.now hs)), hc, fun h => by rw [← hl]; exact h⟩
theorem went_sync {R P : List UInt8 → Prop} {d : ByteArray} {S T : DS} (hs : Sane S) (h1 : T.safe = S.now) (h2 : T.steps = []) (hc : T.cap = S.cap) (hl : T.life = S.life) : Went R P d S T :=
  ⟨fun Q hQ hS => dirs_sync h1 h2 (hS.now hs), hc, fun h => by rw [← hl]; exact h⟩
theorem went_same {R P : List UInt8 → Prop} {d : ByteArray} {S T : DS} (h1 : T.safe = S.safe) (h2 : T.steps = S.steps) (hc : T.cap = S.cap) (hl : 0 ≤ T.life → 0 ≤ S.life) : Went R P d S T := ⟨fun Q _ hS => hS.to h1 h2, hc, hl⟩

/-- each name but the draft stands for a file that may be -/
def Okay (A : List UInt8 → DFile → Prop) (d : ByteArray) (F : List DFile) (D : List DName) : Prop := ∀ x ∈ D, key x = d.toList ∨ ∃ f, A (key x) f ∧ F[x.file]? = some f
structure Sound (A : List UInt8 → DFile → Prop) (d : ByteArray) (S : DS) : Prop where
  sane : Sane S
  okay : AllDirs S (Okay A d S.files)
/-- no name but the draft stands for the file -/
def NoRef (d : ByteArray) (S : DS) (i : Nat) : Prop := AllDirs S (fun D => ∀ x ∈ D, x.file = i → key x = d.toList)

theorem sound_changes {A : List UInt8 → DFile → Prop} {d : ByteArray} {S : DS} (h : Sound A d S) : Sound A d S.changes.2 := by
  obtain ⟨e1, e2, e3, e4, e5⟩ := changes_same S
  exact ⟨sane_changes h.sane, by rw [e2]; exact h.okay.to e3 e4⟩
theorem changes_mort (S : DS) (h : 0 ≤ S.changes.2.life) : 0 ≤ S.life := by
  unfold DS.changes at h
  split at h
  · exact h
  · have h : 0 ≤ (if S.life > 0 then S.life - 1 else S.life) := h
    split at h <;> omega
theorem went_changes {R P : List UInt8 → Prop} {d : ByteArray} (S : DS) : Went R P d S S.changes.2 := by
  obtain ⟨e1, e2, e3, e4, e5⟩ := changes_same S
  exact went_same e3 e4 e5 (changes_mort S)

theorem sound_rm {A : List UInt8 → DFile → Prop} {d n : ByteArray} {U : DS} (h : Sound A d U) : Sound A d { U with steps := U.steps ++ [⟨3, n, ByteArray.empty, 0⟩], now := doL U.now ⟨3, n, ByteArray.empty, 0⟩ } := by
  have hs := h.sane
  have dr := doL_rm (s := ⟨3, n, ByteArray.empty, 0⟩) hs.cur.1 rfl
  refine ⟨⟨?_, hs.sorted, hs.named, hs.refS, ?_, ?_, hs.sync, hs.small⟩, dirs_step h.okay hs rfl rfl (fun x hx => h.okay.now hs x ((dr.2 x).1 hx).1)⟩
  · show doL U.now _ = (U.steps ++ [_]).foldl doL U.safe
    rw [fold_snoc, ← hs.now]
  · intro s hs2
    have hs2 : s ∈ U.steps ++ [⟨3, n, ByteArray.empty, 0⟩] := hs2
    rw [List.mem_append, List.mem_singleton] at hs2
    rcases hs2 with h2 | rfl
    · exact hs.refT s h2
    · exact .inl rfl
  · intro s hs2
    have hs2 : s ∈ U.steps ++ [⟨3, n, ByteArray.empty, 0⟩] := hs2
    rw [List.mem_append, List.mem_singleton] at hs2
    rcases hs2 with h2 | rfl
    · exact hs.kinds s h2
    · exact ⟨by show 3 < 10; decide, by show 0 ≤ 1000000; decide⟩
theorem sound_sync {A : List UInt8 → DFile → Prop} {d : ByteArray} {U : DS} (h : Sound A d U) : Sound A d { U with safe := U.now, steps := [] } := by
  have hs := h.sane
  exact ⟨⟨rfl, hs.cur.1, hs.cur.2.1, hs.cur.2.2, (fun s h => by cases h), (fun s h => by cases h), hs.sync, hs.small⟩, dirs_sync (S := U) rfl rfl (h.okay.now hs)⟩
theorem okay_grow {A : List UInt8 → DFile → Prop} {d : ByteArray} {F : List DFile} {D : List DName} (f : DFile) (h : Okay A d F D) : Okay A d (F ++ [f]) D := fun x hx => by
  rcases h x hx with h1 | ⟨g, h1, h2⟩
  · exact .inl h1
  · exact .inr ⟨g, h1, by rw [List.getElem?_append_left (List.getElem?_eq_some_iff.1 h2).1]; exact h2⟩
theorem toList_empty : ByteArray.empty.toList = [] := by rw [Lib.toList_data]; rfl
theorem sound_new {A : List UInt8 → DFile → Prop} {d : ByteArray} {U : DS} (h : Sound A d U) (hd : d.size ≠ 0) (hl : U.files.length ≤ 1000000) :
    Sound A d { U with files := U.files ++ [⟨ByteArray.empty, 0⟩], steps := U.steps ++ [⟨1, ByteArray.empty, d, U.files.length⟩], now := doL U.now ⟨1, ByteArray.empty, d, U.files.length⟩ } ∧
    NoRef d { U with files := U.files ++ [⟨ByteArray.empty, 0⟩], steps := U.steps ++ [⟨1, ByteArray.empty, d, U.files.length⟩], now := doL U.now ⟨1, ByteArray.empty, d, U.files.length⟩ } U.files.length := by
  have hs := h.sane
  have dp := doL_put (s := ⟨1, ByteArray.empty, d, U.files.length⟩) hs.cur.1 (show ¬ (1 : Nat) = 3 by decide)
  refine ⟨⟨⟨?_, hs.sorted, hs.named, ?_, ?_, ?_, ?_, ?_⟩, ?_⟩, ?_⟩
  · show doL U.now _ = (U.steps ++ [_]).foldl doL U.safe
    rw [fold_snoc, ← hs.now]
  · intro x hx
    show x.file < (U.files ++ _).length
    rw [List.length_append]
    exact Nat.lt_of_lt_of_le (hs.refS x hx) (Nat.le_add_right _ _)
  · intro s hs2
    have hs2 : s ∈ U.steps ++ [⟨1, ByteArray.empty, d, U.files.length⟩] := hs2
    show _ ∨ (s.file < (U.files ++ _).length ∧ _)
    rw [List.length_append]
    rw [List.mem_append, List.mem_singleton] at hs2
    rcases hs2 with h2 | rfl
    · rcases hs.refT s h2 with h3 | h3
      · exact .inl h3
      · exact .inr ⟨Nat.lt_of_lt_of_le h3.1 (Nat.le_add_right _ _), h3.2⟩
    · exact .inr ⟨by simp, hd⟩
  · intro s hs2
    have hs2 : s ∈ U.steps ++ [⟨1, ByteArray.empty, d, U.files.length⟩] := hs2
    rw [List.mem_append, List.mem_singleton] at hs2
    rcases hs2 with h2 | rfl
    · exact hs.kinds s h2
    · exact ⟨by show 1 < 10; decide, hl⟩
  · intro f hf
    have hf : f ∈ U.files ++ [⟨ByteArray.empty, 0⟩] := hf
    rw [List.mem_append, List.mem_singleton] at hf
    rcases hf with h2 | rfl
    · exact hs.sync f h2
    · exact Nat.zero_le _
  · intro f hf
    have hf : f ∈ U.files ++ [⟨ByteArray.empty, 0⟩] := hf
    rw [List.mem_append, List.mem_singleton] at hf
    rcases hf with h2 | rfl
    · exact hs.small f h2
    · show ByteArray.empty.size ≤ _; exact Nat.zero_le _
  · refine dirs_step (h.okay.mono (fun D hD => okay_grow _ hD)) hs rfl rfl (fun x hx => ?_)
    rcases (dp.2 x).1 hx with rfl | h2
    · exact .inl rfl
    · exact okay_grow _ (h.okay.now hs) x h2.1
  · refine dirs_step (S := U) ((dirs_can hs).mono (fun D hD x hx e => absurd (hD.2.2 x hx) (by rw [e]; exact Nat.lt_irrefl _))) hs rfl rfl (fun x hx e => ?_)
    rcases (dp.2 x).1 hx with rfl | h2
    · rfl
    · exact absurd (hs.cur.2.2 x h2.1) (by rw [e]; exact Nat.lt_irrefl _)
theorem sound_set {A : List UInt8 → DFile → Prop} {d : ByteArray} {U : DS} {i : Nat} {f : DFile} (h : Sound A d U) (hn : NoRef d U i) (h1 : f.synced ≤ f.data.size) (h2 : f.data.size ≤ 1000000) : Sound A d { U with files := U.files.set i f } ∧ NoRef d { U with files := U.files.set i f } i := by
  have hs := h.sane
  refine ⟨⟨⟨hs.now, hs.sorted, hs.named, ?_, ?_, hs.kinds, ?_, ?_⟩, ?_⟩, hn.to rfl rfl⟩
  · intro x hx; show x.file < (U.files.set i f).length; rw [List.length_set]; exact hs.refS x hx
  · intro s hs2; show _ ∨ (s.file < (U.files.set i f).length ∧ _); rw [List.length_set]; exact hs.refT s hs2
  · intro g hg
    rcases List.mem_or_eq_of_mem_set hg with h3 | rfl
    · exact hs.sync g h3
    · exact h1
  · intro g hg
    rcases List.mem_or_eq_of_mem_set hg with h3 | rfl
    · exact hs.small g h3
    · exact h2
  · refine ((h.okay.and hn).mono (fun D hD x hx => ?_)).to rfl rfl
    rcases hD.1 x hx with h3 | ⟨g, h3, h4⟩
    · exact .inl h3
    · by_cases e : x.file = i
      · exact .inl (hD.2 x hx e)
      · exact .inr ⟨g, h3, by show (U.files.set i f)[x.file]? = _; rw [List.getElem?_set_ne (fun e2 => e e2.symm)]; exact h4⟩
theorem sound_name {A : List UInt8 → DFile → Prop} {d n : ByteArray} {U : DS} {i : Nat} {f : DFile} (h : Sound A d U) (hn : n.size ≠ 0) (hf : U.files[i]? = some f) (hA : A n.toList f) (hl : U.files.length ≤ 1000000) : Sound A d { U with steps := U.steps ++ [⟨2, d, n, i⟩], now := doL U.now ⟨2, d, n, i⟩ } := by
  have hs := h.sane
  have hil := (List.getElem?_eq_some_iff.1 hf).1
  have dp := doL_put (s := ⟨2, d, n, i⟩) hs.cur.1 (show ¬ (2 : Nat) = 3 by decide)
  refine ⟨⟨?_, hs.sorted, hs.named, hs.refS, ?_, ?_, hs.sync, hs.small⟩, dirs_step h.okay hs rfl rfl (fun x hx => ?_)⟩
  · show doL U.now _ = (U.steps ++ [_]).foldl doL U.safe
    rw [fold_snoc, ← hs.now]
  · intro s hs2
    have hs2 : s ∈ U.steps ++ [⟨2, d, n, i⟩] := hs2
    rw [List.mem_append, List.mem_singleton] at hs2
    rcases hs2 with h2 | rfl
    · exact hs.refT s h2
    · exact .inr ⟨hil, hn⟩
  · intro s hs2
    have hs2 : s ∈ U.steps ++ [⟨2, d, n, i⟩] := hs2
    rw [List.mem_append, List.mem_singleton] at hs2
    rcases hs2 with h2 | rfl
    · exact hs.kinds s h2
    · exact ⟨by show 2 < 10; decide, by show i ≤ 1000000; omega⟩
  · rcases (dp.2 x).1 hx with rfl | h2
    · exact .inr ⟨f, hA, hf⟩
    · exact h.okay.now hs x h2.1
theorem sound_crash {A : List UInt8 → DFile → Prop} {d : ByteArray} {S T : DS} {N : Nat} (h : Sound A d S) (hc : Crashed S T) (ho : S.Ok N) (hA : ∀ k f, A k f → f.synced = f.data.size) : Sound A d T := by
  refine ⟨(hc.sane h.sane ho).1, ?_⟩
  obtain ⟨n, hn, e⟩ := hc.dir
  intro m hm
  rw [hc.steps, List.take_nil, List.foldl_nil, hc.safe, e]
  intro x hx
  rcases h.okay n hn x hx with h1 | ⟨f, h1, h2⟩
  · exact .inl h1
  · obtain ⟨g, h3, h4⟩ := hc.file _ _ h2
    rw [torn_sure h4 (hA _ _ h1)] at h3
    exact .inr ⟨f, h1, h3⟩
theorem dirs_crash {S T : DS} {Q : List DName → Prop} (h : AllDirs S Q) (hc : Crashed S T) : AllDirs T Q := by
  obtain ⟨n, hn, e⟩ := hc.dir
  intro m hm
  rw [hc.steps, List.take_nil, List.foldl_nil, hc.safe, e]
  exact h n hn
end Go.Proofs.YtbjgpfhbdmcbbabGreatDoor.diskm

/-
  PLAIN MATHEMATICS: calls on a disk that may die. It imports nothing of the program.
-/
namespace Go.Proofs.YtbjgpfhbdmcbbabGreatDoor.diskm
set_option linter.unusedVariables false

/-- a changing call was counted -/
def tick (S : DS) : DS := { S with life := if S.life > 0 then S.life - 1 else S.life }
theorem changes_alive {S : DS} (hw : S.wait = -1) (hl : S.life ≠ 0) : S.changes = (true, tick S) := by
  unfold DS.changes tick
  rw [if_neg (by rw [hw]; rintro (h | h); exact hl h; cases h), hw]
  cases S
  simp_all
theorem changes_dead {S : DS} (hl : S.life = 0) : S.changes.1 = false ∧ S.changes.2.life = 0 := by
  unfold DS.changes
  rw [if_pos (.inl hl)]
  exact ⟨rfl, hl⟩
theorem changes_wait {S : DS} (hw : S.wait = -1) : S.changes.2.wait = -1 := by
  unfold DS.changes
  split
  · show (if S.life ≠ 0 then -1 else S.wait) = -1
    rw [hw]; split <;> rfl
  · show (if S.wait > 0 then S.wait - 1 else S.wait) = -1
    rw [hw]; rfl
theorem changes_no {S : DS} (hw : S.wait = -1) (h : S.changes.1 = false) : S.life = 0 := by
  rcases Decidable.em (S.life = 0) with h0 | h0
  · exact h0
  · rw [changes_alive hw h0] at h; cases h

theorem bytes_small {S : DS} {N : Nat} (hs : Sane S) (ho : S.Ok N) : S.bytes ≤ N * 1000000 := by
  rw [bytes_eq]
  have h1 : ∀ l : List DName, bsum S.files l ≤ l.length * 1000000 := by
    intro l
    induction l with
    | nil => simp [bsum]
    | cons x l ih =>
      have hx : fsize S.files x ≤ 1000000 := by
        unfold fsize
        cases hf : S.files[x.file]? with
        | none => simp
        | some f => exact hs.small f (List.mem_of_getElem? hf)
      have e : bsum S.files (x :: l) = fsize S.files x + bsum S.files l := by simp [bsum]
      rw [e, List.length_cons, Nat.add_mul, Nat.one_mul]
      omega
  have h2 := h1 S.now
  have h3 := Nat.mul_le_mul ho.nl (Nat.le_refl 1000000)
  exact Nat.le_trans h2 h3

/-- a disk that may die, in order -/
structure Live (A : List UInt8 → DFile → Prop) (d : ByteArray) (S : DS) (N : Nat) : Prop where
  sound : Sound A d S
  ok : S.Ok N
  wait : S.wait = -1
  cap : S.cap = 1152921504606846976
theorem Live.mono {A : List UInt8 → DFile → Prop} {d : ByteArray} {S : DS} {N M : Nat} (h : Live A d S N) (hm : N ≤ M) : Live A d S M :=
  ⟨h.sound, ⟨h.ok.ref, Nat.le_trans h.ok.nl hm, Nat.le_trans h.ok.fl hm, Nat.le_trans h.ok.tl hm, Nat.le_trans h.ok.sl hm, Nat.le_trans h.ok.fa hm, h.ok.w0, h.ok.w1, h.ok.l0, h.ok.l1⟩, h.wait, h.cap⟩
theorem live_changes {A : List UInt8 → DFile → Prop} {d : ByteArray} {S : DS} {N : Nat} (h : Live A d S N) : Live A d S.changes.2 (N + 1) :=
  ⟨sound_changes h.sound, changes_ok h.ok, changes_wait h.wait, by rw [(changes_same S).2.2.2.2]; exact h.cap⟩
/-- a run was cut: the disk is dead -/
structure Cutt (A : List UInt8 → DFile → Prop) (R P : List UInt8 → Prop) (d : ByteArray) (S T : DS) (N : Nat) : Prop where
  live : Live A d T N
  went : Went R P d S T
  dead : T.life = 0
theorem Cutt.more {A : List UInt8 → DFile → Prop} {R P R' P' : List UInt8 → Prop} {d : ByteArray} {S T : DS} {N M : Nat} (h : Cutt A R P d S T N) (hR : ∀ n, R n → R' n) (hP : ∀ n, P n → P' n) (hm : N ≤ M) : Cutt A R' P' d S T M := ⟨h.live.mono hm, h.went.more hR hP, h.dead⟩
theorem Cutt.after {A : List UInt8 → DFile → Prop} {R P : List UInt8 → Prop} {d : ByteArray} {S T U : DS} {N : Nat} (h : Cutt A R P d T U N) (k : Went R P d S T) : Cutt A R P d S U N := ⟨h.live, k.trans h.went, h.dead⟩
theorem cut_changes {A : List UInt8 → DFile → Prop} {R P : List UInt8 → Prop} {d : ByteArray} {S : DS} {N : Nat} (h : Live A d S N) (hc : S.changes.1 = false) : Cutt A R P d S S.changes.2 (N + 1) :=
  ⟨live_changes h, went_changes S, (changes_dead (changes_no h.wait hc)).2⟩

theorem live_look {A : List UInt8 → DFile → Prop} {d : ByteArray} {S : DS} {N : Nat} (h : Live A d S N) {n : ByteArray} {f : DFile} (hl : S.look n = some f) (hn : n.toList ≠ d.toList) : A n.toList f := by
  obtain ⟨x, hx, e, hf⟩ := (look_iff h.sound.sane.cur.1).1 hl
  rcases h.sound.okay.now h.sound.sane x hx with h1 | ⟨g, h1, h2⟩
  · rw [e] at h1; exact absurd h1 hn
  · rw [hf] at h2; cases h2
    rw [e] at h1
    exact h1

/-- the names but those stay as they are -/
def Stay (S T : DS) (ns : List UInt8 → Prop) : Prop := ∀ m : ByteArray, ¬ ns m.toList → T.look m = S.look m
theorem stay_of {S T : DS} {ns : List UInt8 → Prop} (hs : Sorted S.now) (ht : Sorted T.now) (h : ∀ x : DName, ¬ ns (key x) → (x ∈ T.now ↔ x ∈ S.now)) (hf : ∀ x ∈ S.now, ¬ ns (key x) → T.files[x.file]? = S.files[x.file]?) : Stay S T ns := by
  intro m hm
  have hk : ∀ f, T.look m = some f ↔ S.look m = some f := fun f => by
    rw [look_iff ht, look_iff hs]
    constructor
    · rintro ⟨x, hx, e, h1⟩
      have hx2 := (h x (by rw [e]; exact hm)).1 hx
      exact ⟨x, hx2, e, by rw [← hf x hx2 (by rw [e]; exact hm)]; exact h1⟩
    · rintro ⟨x, hx, e, h1⟩
      exact ⟨x, (h x (by rw [e]; exact hm)).2 hx, e, by rw [hf x hx (by rw [e]; exact hm)]; exact h1⟩
  cases h1 : T.look m with
  | some f => exact ((hk f).1 h1).symm
  | none =>
    cases h2 : S.look m with
    | none => rfl
    | some f => rw [(hk f).2 h2] at h1; cases h1
theorem look_congr {S T : DS} (h1 : T.now = S.now) (h2 : T.files = S.files) (m : ByteArray) : T.look m = S.look m := by unfold DS.look; rw [h1, h2]

/-! taking a name away -/
theorem rm_cases {A : List UInt8 → DFile → Prop} {R P : List UInt8 → Prop} {d n : ByteArray} {S : DS} {N : Nat} (h : Live A d S N) (hp : n = d ∨ R n.toList) (hf : findIs n S.now = true) :
    ((S.remove n).1 = true ∧ Live A d (S.remove n).2 (N + 2) ∧ Went R P d S (S.remove n).2 ∧ (S.remove n).2.look n = none ∧ findIs n (S.remove n).2.now = false ∧ Stay S (S.remove n).2 (· = n.toList)) ∨ ((S.remove n).1 = false ∧ Cutt A R P d S (S.remove n).2 (N + 2)) := by
  unfold DS.remove
  cases hch : S.changes with
  | mk ok U =>
    have hc := live_changes h
    have hs := changes_same S
    have hw := went_changes (R := R) (P := P) (d := d) S
    rw [hch] at hc hs hw
    have hc : Live A d U (N + 1) := hc
    have e1 : U.now = S.now := hs.1
    have e2 : U.files = S.files := hs.2.1
    cases ok with
    | false =>
      right
      have h2 := cut_changes (R := R) (P := P) h (by rw [hch])
      rw [hch] at h2
      exact ⟨by simp, (by simpa using h2.more (fun _ h => h) (fun _ h => h) (Nat.le_succ _))⟩
    | true =>
      left
      have e : (if true = false ∨ findIs n S.now = false then (false, U) else (true, { U with steps := U.steps ++ [⟨3, n, ByteArray.empty, 0⟩], now := doL U.now ⟨3, n, ByteArray.empty, 0⟩ })) = (true, { U with steps := U.steps ++ [⟨3, n, ByteArray.empty, 0⟩], now := doL U.now ⟨3, n, ByteArray.empty, 0⟩ }) := by
        rw [if_neg]; rintro (h | h); cases h; rw [hf] at h; cases h
      show _ ∧ _
      simp only [e]
      have hsa := hc.sound.sane
      have hk := hc.ok
      have dr := doL_rm (s := ⟨3, n, ByteArray.empty, 0⟩) hsa.cur.1 rfl
      have hnf : findIs n (doL U.now ⟨3, n, ByteArray.empty, 0⟩) = false := by
        cases hx : findIs n (doL U.now ⟨3, n, ByteArray.empty, 0⟩) with
        | false => rfl
        | true =>
          obtain ⟨x, h1, h2⟩ := (find_iff dr.1).1 hx
          exact absurd h2 ((dr.2 x).1 h1).2
      refine ⟨trivial, ⟨sound_rm hc.sound, ⟨fun x hx => hk.ref x ((dr.2 x).1 hx).1, Nat.le_trans (doL_len _ _) (Nat.succ_le_succ hk.nl), Nat.le_succ_of_le hk.fl, by show (U.steps ++ _).length ≤ _; rw [List.length_append]; exact Nat.succ_le_succ hk.tl, Nat.le_succ_of_le hk.sl, Nat.le_succ_of_le hk.fa, hk.w0, hk.w1, hk.l0, hk.l1⟩, hc.wait, hc.cap⟩, hw.trans (went_step hsa (.inr (.inr ⟨rfl, hp⟩)) rfl rfl rfl rfl), DS.look_none hnf, hnf, ?_⟩
      intro m hm
      rw [← look_congr e1 e2 m]
      refine stay_of (S := U) (T := { U with steps := U.steps ++ [⟨3, n, ByteArray.empty, 0⟩], now := doL U.now ⟨3, n, ByteArray.empty, 0⟩ }) (ns := (· = n.toList)) hsa.cur.1 dr.1 (fun x hx => ?_) (fun x _ _ => rfl) m hm
      rw [dr.2 x]
      exact ⟨fun h => h.1, fun h => ⟨h, hx⟩⟩
theorem sync_cases {A : List UInt8 → DFile → Prop} {R P : List UInt8 → Prop} {d : ByteArray} {S : DS} {N : Nat} (h : Live A d S N) :
    (S.syncDir.1 = true ∧ Live A d S.syncDir.2 (N + 1) ∧ Went R P d S S.syncDir.2 ∧ (∀ m, S.syncDir.2.look m = S.look m) ∧ S.syncDir.2.safe = S.syncDir.2.now ∧ S.syncDir.2.steps = [] ∧ S.syncDir.2.now = S.now) ∨ (S.syncDir.1 = false ∧ Cutt A R P d S S.syncDir.2 (N + 1)) := by
  unfold DS.syncDir
  cases hch : S.changes with
  | mk ok U =>
    have hc := live_changes h
    have hs := changes_same S
    have hw := went_changes (R := R) (P := P) (d := d) S
    rw [hch] at hc hs hw
    have hc : Live A d U (N + 1) := hc
    have e1 : U.now = S.now := hs.1
    have e2 : U.files = S.files := hs.2.1
    cases ok with
    | false =>
      right
      have h2 := cut_changes (R := R) (P := P) h (by rw [hch])
      rw [hch] at h2
      exact ⟨by simp, (by simpa using h2)⟩
    | true =>
      left
      have hk := hc.ok
      refine ⟨by simp, ?_, ?_, ?_, by simp, by simp, by simpa using e1⟩
      · simp only [Bool.true_eq_false, if_false]
        exact ⟨sound_sync hc.sound, ⟨hk.ref, hk.nl, hk.fl, Nat.zero_le _, hk.nl, hk.fa, hk.w0, hk.w1, hk.l0, hk.l1⟩, hc.wait, hc.cap⟩
      · simp only [Bool.true_eq_false, if_false]
        exact hw.trans (went_sync hc.sound.sane rfl rfl rfl rfl)
      · simp only [Bool.true_eq_false, if_false]
        intro m
        exact look_congr (S := S) (T := { U with safe := U.now, steps := [] }) e1 e2 m
theorem rm_dirs {S : DS} {n : ByteArray} {Q : List DName → Prop} (hs : Sane S) (h : AllDirs S Q) (hq : Q (doL S.now ⟨3, n, ByteArray.empty, 0⟩)) : AllDirs (S.remove n).2 Q := by
  unfold DS.remove
  have e := changes_same S
  have hc := sane_changes hs
  cases hch : S.changes with
  | mk ok U =>
    rw [hch] at e hc
    have e1 : U.now = S.now := e.1
    have hU : AllDirs U Q := h.to e.2.2.1 e.2.2.2.1
    have hc : Sane U := hc
    show AllDirs (if ok = false ∨ findIs n S.now = false then (false, U) else (true, { U with steps := U.steps ++ [⟨3, n, ByteArray.empty, 0⟩], now := doL U.now ⟨3, n, ByteArray.empty, 0⟩ })).2 Q
    split
    · exact hU
    · exact dirs_step hU hc rfl rfl (by rw [e1]; exact hq)
theorem sync_dirs {S : DS} {Q : List DName → Prop} (hs : Sane S) (h : AllDirs S Q) : AllDirs S.syncDir.2 Q := by
  unfold DS.syncDir
  have e := changes_same S
  have hc := sane_changes hs
  cases hch : S.changes with
  | mk ok U =>
    rw [hch] at e hc
    have hU : AllDirs U Q := h.to e.2.2.1 e.2.2.2.1
    have hc : Sane U := hc
    cases ok
    · simpa using hU
    · simp only [Bool.true_eq_false, if_false]
      exact dirs_sync (S := U) rfl rfl (hU.now hc)
end Go.Proofs.YtbjgpfhbdmcbbabGreatDoor.diskm

/-
  PLAIN MATHEMATICS: the draft on a disk that may die. It imports nothing of the program.
-/
namespace Go.Proofs.YtbjgpfhbdmcbbabGreatDoor.diskm
set_option linter.unusedVariables false

/-- the draft is being written -/
structure Draft (A : List UInt8 → DFile → Prop) (d : ByteArray) (S T : DS) (i : Nat) (f : DFile) (N : Nat) : Prop where
  live : Live A d T N
  went : ∀ R P, Went R P d S T
  noref : NoRef d T i
  mem : (⟨d, i⟩ : DName) ∈ T.now
  file : T.files[i]? = some f
  stay : Stay S T (· = d.toList)
theorem Draft.find {A : List UInt8 → DFile → Prop} {d : ByteArray} {S T : DS} {i N : Nat} {f : DFile} (h : Draft A d S T i f N) : findIs d T.now = true ∧ T.fileNo d = i ∧ T.fileOf d = f ∧ T.look d = some f := by
  have hs := h.live.sound.sane.cur.1
  have ha := find_at hs h.mem (n := d) rfl
  exact ⟨(find_iff hs).2 ⟨_, h.mem, rfl⟩, fileNo_get ha, fileOf_get ha h.file, (look_iff hs).2 ⟨_, h.mem, rfl, h.file⟩⟩

theorem mk_cases {A : List UInt8 → DFile → Prop} {d : ByteArray} {S : DS} {N : Nat} (h : Live A d S N) (hd : d.size ≠ 0) (hf : findIs d S.now = false) (hN : N ≤ 100000) :
    ((S.create d).1 = true ∧ Draft A d S (S.create d).2 S.files.length ⟨ByteArray.empty, 0⟩ (N + 2)) ∨ ((S.create d).1 = false ∧ ∀ R P, Cutt A R P d S (S.create d).2 (N + 2)) := by
  unfold DS.create
  cases hch : S.changes with
  | mk ok U =>
    have hc := live_changes h
    have hs := changes_same S
    have hw : ∀ R P, Went R P d S S.changes.2 := fun R P => went_changes S
    rw [hch] at hc hs hw
    have hc : Live A d U (N + 1) := hc
    have e1 : U.now = S.now := hs.1
    have e2 : U.files = S.files := hs.2.1
    cases ok with
    | false =>
      right
      refine ⟨by simp, fun R P => ?_⟩
      have h2 := cut_changes (R := R) (P := P) h (by rw [hch])
      rw [hch] at h2
      simpa using h2.more (fun _ h => h) (fun _ h => h) (Nat.le_succ _)
    | true =>
      left
      have e : (if true = false ∨ findIs d S.now = true ∨ d.size = 0 then (false, U) else (true, { U with files := U.files ++ [⟨ByteArray.empty, 0⟩], steps := U.steps ++ [⟨1, ByteArray.empty, d, U.files.length⟩], now := doL U.now ⟨1, ByteArray.empty, d, U.files.length⟩ })) = (true, { U with files := U.files ++ [⟨ByteArray.empty, 0⟩], steps := U.steps ++ [⟨1, ByteArray.empty, d, U.files.length⟩], now := doL U.now ⟨1, ByteArray.empty, d, U.files.length⟩ }) := by
        rw [if_neg]; rintro (h | h | h); cases h; rw [hf] at h; cases h; exact hd h
      show _ ∧ _
      simp only [e]
      have hsa := hc.sound.sane
      have hk := hc.ok
      have hfl : U.files.length ≤ 1000000 := Nat.le_trans hk.fl (by omega)
      have dp := doL_put (s := ⟨1, ByteArray.empty, d, U.files.length⟩) hsa.cur.1 (show ¬ (1 : Nat) = 3 by decide)
      have sn := sound_new hc.sound hd hfl
      refine ⟨trivial, ⟨⟨sn.1, ⟨?_, Nat.le_trans (doL_len _ _) (Nat.succ_le_succ hk.nl), by show (U.files ++ _).length ≤ _; rw [List.length_append]; exact Nat.succ_le_succ hk.fl, by show (U.steps ++ _).length ≤ _; rw [List.length_append]; exact Nat.succ_le_succ hk.tl, Nat.le_succ_of_le hk.sl, Nat.le_succ_of_le hk.fa, hk.w0, hk.w1, hk.l0, hk.l1⟩, hc.wait, hc.cap⟩, fun R P => (hw R P).trans (went_step hsa (.inl ⟨rfl, toList_empty, rfl⟩) rfl rfl rfl rfl), ?_, ?_, ?_, ?_⟩⟩
      · exact sn.1.sane.cur.2.2
      · rw [← e2]; exact sn.2
      · rw [← e2]; exact (dp.2 _).2 (.inl rfl)
      · rw [← e2]; show (U.files ++ _)[U.files.length]? = _; simp
      · intro m hm
        rw [← look_congr e1 e2 m]
        refine stay_of (S := U) (T := { U with files := U.files ++ [⟨ByteArray.empty, 0⟩], steps := U.steps ++ [⟨1, ByteArray.empty, d, U.files.length⟩], now := doL U.now ⟨1, ByteArray.empty, d, U.files.length⟩ }) (ns := (· = d.toList)) hsa.cur.1 dp.1 (fun x hx => ?_) (fun x hx _ => ?_) m hm
        · rw [dp.2 x]
          constructor
          · rintro (rfl | h)
            · exact absurd rfl hx
            · exact h.1
          · intro h
            exact .inr ⟨h, by rw [toList_empty]; exact hsa.cur.2.1 x h, hx⟩
        · show (U.files ++ _)[x.file]? = _
          rw [List.getElem?_append_left (hsa.cur.2.2 x hx)]

theorem Draft.set {A : List UInt8 → DFile → Prop} {d : ByteArray} {S T : DS} {i N : Nat} {f g : DFile} (h : Draft A d S T i f N) {U : DS} (hch : T.changes = (true, U)) (h1 : g.synced ≤ g.data.size) (h2 : g.data.size ≤ 1000000) : Draft A d S { U with files := U.files.set i g } i g (N + 1) := by
  have hc := live_changes h.live
  have hs := changes_same T
  have hw : ∀ R P, Went R P d T T.changes.2 := fun R P => went_changes T
  rw [hch] at hc hs hw
  have hc : Live A d U (N + 1) := hc
  have e1 : U.now = T.now := hs.1
  have e2 : U.files = T.files := hs.2.1
  have e3 : U.safe = T.safe := hs.2.2.1
  have e4 : U.steps = T.steps := hs.2.2.2.1
  have hn : NoRef d U i := h.noref.to e3 e4
  have ss := sound_set hc.sound hn h1 h2
  have hk := hc.ok
  have hil : i < U.files.length := by rw [e2]; exact (List.getElem?_eq_some_iff.1 h.file).1
  refine ⟨⟨ss.1, ⟨by show ∀ x ∈ U.now, x.file < (U.files.set i g).length; rw [List.length_set]; exact hk.ref, hk.nl, by show (U.files.set i g).length ≤ _; rw [List.length_set]; exact hk.fl, hk.tl, hk.sl, hk.fa, hk.w0, hk.w1, hk.l0, hk.l1⟩, hc.wait, hc.cap⟩, fun R P => ((h.went R P).trans (hw R P)).trans (went_same rfl rfl rfl id), ss.2, by show _ ∈ U.now; rw [e1]; exact h.mem, List.getElem?_set_self hil, ?_⟩
  intro m hm
  rw [← h.stay m hm, ← look_congr e1 e2 m]
  have hsa := hc.sound.sane
  refine stay_of (S := U) (T := { U with files := U.files.set i g }) (ns := (· = d.toList)) hsa.cur.1 hsa.cur.1 (fun x hx => Iff.rfl) (fun x hx hx2 => ?_) m hm
  show (U.files.set i g)[x.file]? = _
  refine List.getElem?_set_ne (fun e => hx2 ?_)
  exact hn.now hsa x hx e.symm
theorem Draft.dead {A : List UInt8 → DFile → Prop} {d : ByteArray} {S T : DS} {i N : Nat} {f : DFile} (h : Draft A d S T i f N) (hc : T.changes.1 = false) (R P : List UInt8 → Prop) : Cutt A R P d S T.changes.2 (N + 1) := (cut_changes h.live hc).after (h.went R P)

theorem app_cases {A : List UInt8 → DFile → Prop} {d : ByteArray} {S T : DS} {i N : Nat} {f : DFile} (h : Draft A d S T i f N) (X : ByteArray) (hX : f.data.size + X.size ≤ 1000000) (hN : N ≤ 100000) :
    ((T.append d X).1 = true ∧ Draft A d S (T.append d X).2 i ⟨f.data ++ X, f.synced⟩ (N + 1)) ∨ ((T.append d X).1 = false ∧ ∀ R P, Cutt A R P d S (T.append d X).2 (N + 1)) := by
  obtain ⟨h1, h2, h3, _⟩ := h.find
  have hbs := bytes_small h.live.sound.sane h.live.ok
  have hbm : N * 1000000 ≤ 100000 * 1000000 := Nat.mul_le_mul hN (Nat.le_refl _)
  have hroom : (X.size : Int) ≤ T.cap - T.bytes := by rw [h.live.cap]; omega
  have hsy := h.live.sound.sane.sync f (List.mem_of_getElem? h.file)
  cases hch : T.changes with
  | mk ok U =>
    cases ok with
    | false =>
      right
      have e : T.append d X = (false, U) := by unfold DS.append; rw [hch]; simp
      rw [e]
      refine ⟨rfl, fun R P => ?_⟩
      have := h.dead (by rw [hch]) R P
      rw [hch] at this
      exact this
    | true =>
      left
      have e : T.append d X = (true, { U with files := U.files.set i ⟨f.data ++ X, f.synced⟩ }) := by
        unfold DS.append
        rw [hch]
        simp only
        rw [if_neg, h2, h3]
        rintro (h | h | h)
        · cases h
        · rw [h1] at h; cases h
        · omega
      rw [e]
      have hsz : (f.data ++ X).size = f.data.size + X.size := by simp
      exact ⟨rfl, h.set hch (by show f.synced ≤ (f.data ++ X).size; omega) (by show (f.data ++ X).size ≤ _; omega)⟩
theorem syn_cases {A : List UInt8 → DFile → Prop} {d : ByteArray} {S T : DS} {i N : Nat} {f : DFile} (h : Draft A d S T i f N) :
    ((T.sync d).1 = true ∧ Draft A d S (T.sync d).2 i ⟨f.data, f.data.size⟩ (N + 1)) ∨ ((T.sync d).1 = false ∧ ∀ R P, Cutt A R P d S (T.sync d).2 (N + 1)) := by
  obtain ⟨h1, h2, h3, _⟩ := h.find
  have hsm := h.live.sound.sane.small f (List.mem_of_getElem? h.file)
  cases hch : T.changes with
  | mk ok U =>
    cases ok with
    | false =>
      right
      have e : T.sync d = (false, U) := by unfold DS.sync; rw [hch]; simp
      rw [e]
      refine ⟨rfl, fun R P => ?_⟩
      have := h.dead (by rw [hch]) R P
      rw [hch] at this
      exact this
    | true =>
      left
      have e : T.sync d = (true, { U with files := U.files.set i ⟨f.data, f.data.size⟩ }) := by
        unfold DS.sync
        rw [hch]
        simp only
        rw [if_neg, h2, h3]
        rintro (h | h)
        · cases h
        · rw [h1] at h; cases h
      rw [e]
      exact ⟨rfl, h.set hch (Nat.le_refl _) hsm⟩
theorem nam_cases {A : List UInt8 → DFile → Prop} {d n : ByteArray} {S T : DS} {i N : Nat} {f : DFile} (h : Draft A d S T i f N) (hn : n.size ≠ 0) (hdn : strEq d n = false) (hA : A n.toList f) (hN : N ≤ 100000) :
    ((T.rename d n).1 = true ∧ Live A d (T.rename d n).2 (N + 2) ∧ (∀ R P : List UInt8 → Prop, P n.toList → Went R P d S (T.rename d n).2) ∧ (T.rename d n).2.look n = some f ∧ findIs d (T.rename d n).2.now = false ∧ Stay S (T.rename d n).2 (fun k => k = d.toList ∨ k = n.toList)) ∨ ((T.rename d n).1 = false ∧ ∀ R P, Cutt A R P d S (T.rename d n).2 (N + 2)) := by
  obtain ⟨h1, h2, h3, _⟩ := h.find
  have hne : d.toList ≠ n.toList := (strEq_not d n).1 hdn
  cases hch : T.changes with
  | mk ok U =>
    cases ok with
    | false =>
      right
      have e : T.rename d n = (false, U) := by unfold DS.rename; rw [hch]; simp
      rw [e]
      refine ⟨rfl, fun R P => ?_⟩
      have := h.dead (by rw [hch]) R P
      rw [hch] at this
      exact this.more (fun _ h => h) (fun _ h => h) (Nat.le_succ _)
    | true =>
      left
      have e : T.rename d n = (true, { U with steps := U.steps ++ [⟨2, d, n, i⟩], now := doL U.now ⟨2, d, n, i⟩ }) := by
        unfold DS.rename
        rw [hch]
        simp only
        rw [if_neg, h2]
        rintro (h | h | h | h)
        · cases h
        · rw [h1] at h; cases h
        · rw [hdn] at h; cases h
        · exact hn h
      rw [e]
      have hc := live_changes h.live
      have hs := changes_same T
      have hw : ∀ R P, Went R P d T T.changes.2 := fun R P => went_changes T
      rw [hch] at hc hs hw
      have hc : Live A d U (N + 1) := hc
      have e1 : U.now = T.now := hs.1
      have e2 : U.files = T.files := hs.2.1
      have hsa := hc.sound.sane
      have hk := hc.ok
      have hfU : U.files[i]? = some f := by rw [e2]; exact h.file
      have hfl : U.files.length ≤ 1000000 := Nat.le_trans hk.fl (by omega)
      have dp := doL_put (s := ⟨2, d, n, i⟩) hsa.cur.1 (show ¬ (2 : Nat) = 3 by decide)
      have sn := sound_name (n := n) hc.sound hn hfU hA hfl
      refine ⟨rfl, ⟨sn, ⟨sn.sane.cur.2.2, Nat.le_trans (doL_len _ _) (Nat.succ_le_succ hk.nl), Nat.le_succ_of_le hk.fl, by show (U.steps ++ _).length ≤ _; rw [List.length_append]; exact Nat.succ_le_succ hk.tl, Nat.le_succ_of_le hk.sl, Nat.le_succ_of_le hk.fa, hk.w0, hk.w1, hk.l0, hk.l1⟩, hc.wait, hc.cap⟩, fun R P hp => ((h.went R P).trans (hw R P)).trans (went_step hsa (.inr (.inl ⟨rfl, rfl, hp⟩)) rfl rfl rfl rfl), (look_iff dp.1).2 ⟨_, (dp.2 _).2 (.inl rfl), rfl, hfU⟩, ?_, ?_⟩
      · cases hx : findIs d (doL U.now ⟨2, d, n, i⟩) with
        | false => rfl
        | true =>
          obtain ⟨x, h5, h6⟩ := (find_iff dp.1).1 hx
          rcases (dp.2 x).1 h5 with rfl | h7
          · exact absurd h6.symm hne
          · exact absurd h6 h7.2.1
      · intro m hm
        rw [← h.stay m (fun e => hm (.inl e)), ← look_congr e1 e2 m]
        refine stay_of (S := U) (T := { U with steps := U.steps ++ [⟨2, d, n, i⟩], now := doL U.now ⟨2, d, n, i⟩ }) (ns := fun k => k = d.toList ∨ k = n.toList) hsa.cur.1 dp.1 (fun x hx => ?_) (fun x hx _ => rfl) m hm
        rw [dp.2 x]
        constructor
        · rintro (rfl | h)
          · exact absurd (.inr rfl) hx
          · exact h.1
        · intro h
          exact .inr ⟨h, fun e => hx (.inl e), fun e => hx (.inr e)⟩
end Go.Proofs.YtbjgpfhbdmcbbabGreatDoor.diskm
