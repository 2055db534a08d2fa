import Derived.Test.YtbjgpfhbdmcbbabGreatDoorP09
import Derived.Test.YtbjgpfhbdmcbbabGreatDoorP18
import Derived.Test.YtbjgpfhbdmcbbabGreatDoorP05
import Derived.Deep.RegionHeld3
import Derived.Deep.Cut
import Derived.Test.YtbjgpfhbdmcbbabGreatDoorP10
import Derived.Test.YtbjgpfhbdmcbbabGreatDoorP04

/-
  CONTRACTS of package disk: pick, Die, Crash.
-/
namespace Go.Proofs.YtbjgpfhbdmcbbabGreatDoor.disk
open Go.RowKit dnamath dna diskm keep
set_option linter.unusedVariables false

theorem row_at {w : World} {a : Option Addr} {len cap k : Nat} {zs : List Int} (h : IsRow w a len cap zs) (hk : k < len) : ∃ b off z, a = some ⟨b, off, none⟩ ∧ w.cell? ⟨b, off + k, none⟩ = some (.int .i64 z) ∧ -9223372036854775808 ≤ z ∧ z ≤ 9223372036854775807 ∧ z = zs.getD k 0 := by
  rcases h with ⟨_, rfl, _⟩ | ⟨⟨b, off, spot⟩, rfl, h2, h3, h4, h5, h6⟩
  · omega
  have hc := h5 k (by omega)
  have hspot : spot = none := by
    have := World.cell?_spot hc
    unfold Addr.add at this
    split at this
    · exact this
    · rename_i h; have h5' := World.cell?_spot (h5 0 (by omega)); simpa [Addr.add] using h5'
  subst hspot
  have e : (⟨b, off, none⟩ : Addr).add k = ⟨b, off + k, none⟩ := by unfold Addr.add; split <;> simp_all
  rw [e] at hc
  have hb : -9223372036854775808 ≤ zs.getD k 0 ∧ zs.getD k 0 ≤ 9223372036854775807 := by simpa using range_i64 h6 k
  exact ⟨b, off, _, rfl, hc, hb.1, hb.2, rfl⟩
theorem row_len {w : World} {a : Option Addr} {len cap : Nat} {zs : List Int} (h : IsRow w a len cap zs) : len ≤ 9223372036854775807 := by
  rcases h with ⟨_, rfl, _⟩ | ⟨x, _, h2, h3, _⟩
  · omega
  · unfold maxLen at h3; omega
/-- a row that lies below what disks may change -/
def LowRow (Bo : Nat) (w : World) (a : Option Addr) (len cap : Nat) (zs : List Int) : Prop := IsRow w a len cap zs ∧ ∀ x, a = some x → 0 < cap → x.block < Bo
theorem LowRow.kept {Bo : Nat} {w w' : World} {a : Option Addr} {len cap : Nat} {zs : List Int} (h : LowRow Bo w a len cap zs) (hk : Kept Bo w w') : LowRow Bo w' a len cap zs := by
  obtain ⟨h, hl⟩ := h
  refine ⟨?_, hl⟩
  rcases h with h | ⟨x, h1, h2, h3, h4, h5, h6⟩
  · exact .inl h
  · refine .inr ⟨x, h1, h2, h3, h4, fun i hi => ?_, h6⟩
    have hc := h5 i hi
    have hb : (x.add i).block = x.block := by unfold Addr.add; split <;> rfl
    have hlt := World.block_lt_of_cell? _ _ hc
    rw [← hc]
    unfold World.cell?
    rw [hk.low _ hlt (by rw [hb]; exact hl x h1 (by omega))]

theorem lowRow_of {w : World} {a : Option Addr} {len cap : Nat} {zs : List Int} (h : IsRow w a len cap zs) : LowRow w.heap.size w a len cap zs := by
  refine ⟨h, fun x hx hc => ?_⟩
  rcases h with ⟨h1, _⟩ | ⟨y, h1, h2, h3, h4, h5, h6⟩
  · rw [h1] at hx; cases hx
  · rw [h1] at hx; cases hx
    have := World.block_lt_of_cell? _ _ (h5 0 (by omega))
    have hb : (x.add 0).block = x.block := by unfold Addr.add; split <;> rfl
    rw [hb] at this
    exact this

/-- what pick speaks of -/
def dpv (zs : List Int) (len k n : Nat) : Nat := if k < len then ((if zs.getD k 0 < 0 then -(zs.getD k 0 + 1) else zs.getD k 0) % (n : Int)).toNat else n - 1
theorem dpv_lt (zs : List Int) (len k n : Nat) (hn : 1 ≤ n) : dpv zs len k n < n := by
  unfold dpv
  split
  · have hl := Int.emod_lt_of_pos (if zs.getD k 0 < 0 then -(zs.getD k 0 + 1) else zs.getD k 0) (show 0 < (n : Int) by omega)
    have hm := Int.emod_nonneg (if zs.getD k 0 < 0 then -(zs.getD k 0 + 1) else zs.getD k 0) (show (n : Int) ≠ 0 by omega)
    omega
  · omega
set_option maxHeartbeats 400000 in
set_option maxRecDepth 100000 in
theorem dpick_any (a0 : Option Addr) (len cap : Nat) (zs : List Int) (k n : Nat) (w : World) (hrow : IsRow w a0 len cap zs) (hk : k ≤ 1000000000) (hn : 1 ≤ n) (hn2 : n ≤ 1000000000) :
    Calls Tryz.prog 30 #[.slice a0 len cap, .int .i64 (k : Int), .int .i64 (n : Int)] w fun e w' => (e = .returned (.int .i64 (dpv zs len k n : Int)) ∧ w' = w) ∧ dpv zs len k n < n := by
  have hlen := row_len hrow
  have hn0 : ((n : Int) == 0) = false := by simp; omega
  by_cases hkl : k < len
  · obtain ⟨b, off, c, rfl, hc, hc1, hc2, hce⟩ := row_at hrow hkl
    have HCE : Hid (dpv zs len k n = ((if c < 0 then -(c + 1) else c) % (n : Int)).toNat) := by show _ = _; unfold dpv; rw [if_pos hkl, ← hce]
    clear hrow hce
    by_cases h0 : c < 0
    · have hm := Int.emod_nonneg (-(c + 1)) (show (n : Int) ≠ 0 by omega)
      have hl := Int.emod_lt_of_pos (-(c + 1)) (show 0 < (n : Int) by omega)
      obtain ⟨p, hp⟩ : ∃ p : Nat, (-(c + 1)) % (n : Int) = (p : Int) := ⟨((-(c + 1)) % (n : Int)).toNat, by omega⟩
      have HP : Hid ((-(c + 1)) % (n : Int) = (p : Int)) := hp
      have HL : Hid ((-(c + 1)) % (n : Int) < n) := hl
      clear hm hl hp
      go_enter Tryz.func30, Tryz.ntmps30
      go_wp2
      go_ret
      have HE : dpv zs len k n = p := by rw [HCE.out, if_pos h0, HP.out]; rfl
      rw [HE]
      refine ⟨⟨?_, rfl⟩, by have := HP.out; have := HL.out; omega⟩
      rw [← HP.out, ← Int.tmod_eq_emod_of_nonneg (by omega), Int.neg_tmod]; rfl
    · have hm := Int.emod_nonneg c (show (n : Int) ≠ 0 by omega)
      have hl := Int.emod_lt_of_pos c (show 0 < (n : Int) by omega)
      obtain ⟨p, hp⟩ : ∃ p : Nat, c % (n : Int) = (p : Int) := ⟨(c % (n : Int)).toNat, by omega⟩
      have HP : Hid (c % (n : Int) = (p : Int)) := hp
      have HL : Hid (c % (n : Int) < n) := hl
      clear hm hl hp
      go_enter Tryz.func30, Tryz.ntmps30
      go_wp2
      go_ret
      have HE : dpv zs len k n = p := by rw [HCE.out, if_neg (by omega), HP.out]; rfl
      rw [HE]
      refine ⟨⟨?_, rfl⟩, by have := HP.out; have := HL.out; omega⟩
      rw [← HP.out]; first | rfl | (rw [← Int.tmod_eq_emod_of_nonneg (by omega)]; rfl)
  · clear hrow
    go_enter Tryz.func30, Tryz.ntmps30
    go_wp2
    go_ret
    have HE : dpv zs len k n = n - 1 := by unfold dpv; rw [if_neg hkl]
    rw [HE]
    exact ⟨⟨by go_num, rfl⟩, by omega⟩

def DS.die (S : DS) (n : Nat) : DS := { S with life := (n : Int) }
set_option maxHeartbeats 400000 in
set_option maxRecDepth 100000 in
theorem Die_any {Bo : Nat} (p n : Nat) (S : DS) (w : World) (hD : Disk Bo w p S) (hn : n ≤ 1000000) :
    Calls Tryz.prog 16 #[.pointer (some ⟨p, 0, none⟩), .int .i64 (n : Int)] w fun e w' => e = .returned (.tuple #[]) ∧ Disk Bo w' p (DS.die S n) ∧ Kept Bo w w' := by
  obtain ⟨vF, vN, vS, vT, h⟩ := hD
  have hc6 := st_cell h.st 6
  change w.cell? ⟨p, 6, none⟩ = some (.int .i64 S.life) at hc6
  have hf6 := st_frozen h.st 6
  have H : Hid (DiskAt Bo w p S vF vN vS vT) := h
  have hmx : max (n : Int) 0 = (n : Int) := by omega
  clear h
  go_enter Tryz.func16, Tryz.ntmps16
  go_wp2
  go_end0
  have hg : w.grownBy (w.setCell ⟨p, 6, none⟩ (.int .i64 (n : Int))) (some p) := grown_set _
  refine ⟨rfl, ⟨vF, vN, vS, vT, H.out.put hg ?_ rfl rfl rfl rfl⟩, .ofGrown hg (fun k hk => by cases hk; exact ⟨⟨_, _, _, H.out.st, .inl rfl⟩, H.out.p0⟩)⟩
  rw [heap_setCell_same w p 6 _ _ _ H.out.st]
  rfl
end Go.Proofs.YtbjgpfhbdmcbbabGreatDoor.disk

/-
  CONTRACTS of package disk: Crash.
-/
namespace Go.Proofs.YtbjgpfhbdmcbbabGreatDoor.disk
open Go.RowKit dnamath dna diskm keep
set_option linter.unusedVariables false

theorem tcells_at : ∀ (l : List DStep) (i : Nat) (x : DStep), l[i]? = some x → (tcells l)[i * 4]? = some (.int .i64 (x.kind : Int)) ∧ (tcells l)[i * 4 + 1]? = some (.string x.src) ∧ (tcells l)[i * 4 + 2]? = some (.string x.dst) ∧ (tcells l)[i * 4 + 3]? = some (.int .i64 (x.file : Int))
  | [], _, _, h => by simp at h
  | y :: l, 0, x, h => by simp at h; subst h; exact ⟨rfl, rfl, rfl, rfl⟩
  | y :: l, i + 1, x, h => by
    have := tcells_at l i x (by simpa using h)
    rw [tcells, List.flatMap_cons, show (i + 1) * 4 = i * 4 + 4 by omega, show i * 4 + 4 + 1 = i * 4 + 1 + 4 by omega, show i * 4 + 4 + 2 = i * 4 + 2 + 4 by omega, show i * 4 + 4 + 3 = i * 4 + 3 + 4 by omega]
    simpa [tcell, tcells] using this

theorem DiskAt.put2 {Bo : Nat} {w w' : World} {p : Nat} {S S' : DS} {vF vN vS vT vF' vN' vS' vT' : Value} (h : DiskAt Bo w p S vF vN vS vT) (hg : w.grownBy w' (some p)) (hs : w'.heap[p]? = some (.cells (dcells S' vF' vN' vS' vT') 63 (0, 0)))
    (h1 : w.ownsRow Bo 82 2 vF' S'.files.length (fcells S'.files)) (h2 : Names w vN' S'.now) (h3 : Names w vS' S'.safe) (h4 : w.ownsRow Bo 79 4 vT' S'.steps.length (tcells S'.steps)) : DiskAt Bo w' p S' vF' vN' vS' vT' := by
  have hb : ∀ e : TypeId, e ≠ 63 → ∀ (k : Nat) (cs : Array Value) (fz : Nat × Nat), w.heap[k]? = some (.cells cs e fz) → w'.heap[k]? = w.heap[k]? := fun e he k cs fz hk =>
    hg.block k (lt_of_block hk) (fun e2 => by cases e2; rw [h.st] at hk; cases hk; exact he rfl)
  exact ⟨hs, row_keep h1 (hb _ (by decide)), row_keep h2 (hb _ (by decide)), row_keep h3 (hb _ (by decide)), row_keep h4 (hb _ (by decide)), h.p0⟩
theorem put_safe {Bo : Nat} {w : World} {p : Nat} {S : DS} {vF vN vS vT vS' : Value} {L : List DName} (h : DiskAt Bo w p S vF vN vS vT) (hown : Names w vS' L) :
    DiskAt Bo (w.setCell ⟨p, 3, none⟩ vS') p { S with safe := L } vF vN vS' vT ∧ Kept Bo w (w.setCell ⟨p, 3, none⟩ vS') := by
  have hst := heap_setCell_same w p 3 _ _ vS' h.st
  exact ⟨h.put2 (grown_set _) (by rw [hst]; rfl) h.files h.now hown h.steps, Kept.ofGrown (grown_set _) (fun k hk2 => by cases hk2; exact ⟨⟨_, _, _, h.st, .inl rfl⟩, h.p0⟩)⟩

theorem do_any (v : Value) (l : List DName) (s : DStep) (w : World) (h : Names w v l) (hl : l.length ≤ 1000000) (hki : s.kind < 10) (hfi : s.file ≤ 1000000000) :
    Calls Tryz.prog 31 #[v, stepV s] w fun e w' => ∃ v', e = .returned v' ∧ Names w' v' (doL l s) ∧ Below w.heap.size w w' := by
  by_cases h3 : s.kind = 3
  · exact do_rm v l s w h hl h3 hfi
  · exact do_put v l s w h hl h3 hki hfi

/-- what the first rounds of a crash have made of the files -/
structure TornAll (S : DS) (F : List DFile) : Prop where
  len : F.length = S.files.length
  each : ∀ (i : Nat) (f : DFile), S.files[i]? = some f → ∃ g, F[i]? = some g ∧ Torn f g
theorem torn_start (S : DS) : TornAll S S.files := ⟨rfl, fun i f h => ⟨f, h, .inl rfl⟩⟩
theorem TornAll.step {S : DS} {F : List DFile} {j k : Nat} {g : DFile} (h : TornAll S F) (hg : F[j]? = some g) (h1 : g.synced ≤ k) (h2 : k ≤ g.data.size) : TornAll S (F.set j ⟨g.data.extract 0 k, k⟩) := by
  refine ⟨by rw [List.length_set]; exact h.len, fun i f hf => ?_⟩
  obtain ⟨g', h3, h4⟩ := h.each i f hf
  by_cases e : i = j
  · subst e
    rw [hg] at h3
    cases h3
    exact ⟨_, List.getElem?_set_self (List.getElem?_eq_some_iff.1 hg).1, torn_again h4 h1 h2⟩
  · exact ⟨g', by rw [List.getElem?_set_ne (fun h => e h.symm)]; exact h3, h4⟩
theorem TornAll.sync {S : DS} {F : List DFile} (h : TornAll S F) (hs : Sane S) {i : Nat} {g : DFile} (hg : F[i]? = some g) : g.synced ≤ g.data.size ∧ g.data.size ≤ 1000000 := by
  have hil := (List.getElem?_eq_some_iff.1 hg).1
  obtain ⟨f, hf⟩ : ∃ f, S.files[i]? = some f := ⟨_, List.getElem?_eq_getElem (by rw [← h.len]; exact hil)⟩
  obtain ⟨g', h1, h2⟩ := h.each i f hf
  rw [hg] at h1
  cases h1
  have hm := List.mem_of_getElem? hf
  have h3 := torn_size h2 (hs.sync f hm)
  have := hs.small f hm
  exact ⟨h3.1, by omega⟩

theorem put_fileA {Bo : Nat} {w : World} {p gF cF j n : Nat} {S : DS} {vN vS vT u : Value} {F : List DFile} (h : DiskAt Bo w p S (.slice (some ⟨gF, 0, none⟩) n cF) vN vS vT) (hn : n = S.files.length) (he : (fcells S.files).set j u = fcells F) (hl : F.length = S.files.length) :
    DiskAt Bo (w.setCell ⟨gF, j, none⟩ u) p { S with files := F } (.slice (some ⟨gF, 0, none⟩) n cF) vN vS vT ∧ Kept Bo w (w.setCell ⟨gF, j, none⟩ u) := by
  subst hn
  obtain ⟨cs, fz, hgF⟩ := own_kind h.files gF rfl
  have hst := h.files.stored j u
  have tk : ∀ e', 82 ≠ e' → TK e' w (w.setCell ⟨gF, j, none⟩ u) := fun e' he => TK.set hgF he
  refine ⟨⟨?_, ?_, row_keep h.now (tk _ (by decide)), row_keep h.safe (tk _ (by decide)), row_keep h.steps (tk _ (by decide)), h.p0⟩, Kept.ofGrown (grown_set _) (fun k hk2 => by cases hk2; exact ⟨⟨_, _, _, hgF, .inr (.inl rfl)⟩, (h.files.lt gF rfl).1⟩)⟩
  · exact (tk _ (by decide) p _ _ h.st).trans h.st
  · have := hst.1
    rw [he] at this
    show World.ownsRow _ _ _ _ _ F.length (fcells F)
    rw [hl]
    exact this
theorem put_file2 {Bo : Nat} {w : World} {p gF cF j n : Nat} {S : DS} {vN vS vT : Value} {f : DFile} (h : DiskAt Bo w p S (.slice (some ⟨gF, 0, none⟩) n cF) vN vS vT) (hn : n = S.files.length) (hf : S.files[j]? = some f) (d : ByteArray) :
    DiskAt Bo ((w.setCell ⟨gF, j * 2, none⟩ (.string d)).setCell ⟨gF, j * 2 + 1, none⟩ (.int .i64 (d.size : Int))) p { S with files := S.files.set j ⟨d, d.size⟩ } (.slice (some ⟨gF, 0, none⟩) n cF) vN vS vT ∧ Kept Bo w ((w.setCell ⟨gF, j * 2, none⟩ (.string d)).setCell ⟨gF, j * 2 + 1, none⟩ (.int .i64 (d.size : Int))) := by
  have h1 := put_fileA (u := .string d) h hn (fcells_set0 _ _ _ _ hf) (by simp)
  have hj := (List.getElem?_eq_some_iff.1 hf).1
  have h2 := put_fileA (u := .int .i64 (d.size : Int)) h1.1 (by rw [hn]; simp) (fcells_set1 _ j ⟨d, f.synced⟩ d.size (List.getElem?_set_self hj)) (by simp)
  refine ⟨?_, h1.2.trans h2.2⟩
  have e : (S.files.set j ⟨d, f.synced⟩).set j ⟨d, d.size⟩ = S.files.set j ⟨d, d.size⟩ := by rw [List.set_set]
  have := h2.1
  rw [e] at this
  exact this

set_option maxHeartbeats 4000000 in
set_option maxRecDepth 100000 in
theorem Crash_any {Bo : Nat} (p : Nat) (S : DS) (N : Nat) (a0 : Option Addr) (len cap : Nat) (zs : List Int) (w : World) (hD : Disk Bo w p S) (hs : Sane S) (ho : S.Ok N) (hN : N ≤ 100000) (hrow : LowRow Bo w a0 len cap zs) :
    Calls Tryz.prog 19 #[.pointer (some ⟨p, 0, none⟩), .slice a0 len cap] w fun e w' => e = .returned (.tuple #[]) ∧ ∃ S', Disk Bo w' p S' ∧ Crashed S S' ∧ Kept Bo w w' := by
  obtain ⟨vF, vN, vS, vT, h⟩ := hD
  obtain ⟨aT, cT, rfl⟩ := own_slice h.steps
  have htl := ho.tl
  have hsl := ho.sl
  have hfl := ho.fl
  have cp := dpick_any a0 len cap zs 0 (S.steps.length + 1) w hrow.1 (by omega) (by omega) (by omega)
  have hc4 := st_cell h.st 4
  change w.cell? ⟨p, 4, none⟩ = some (.slice aT S.steps.length cT) at hc4
  have HS : Hid (Sane S) := hs
  have HR : Hid (LowRow Bo w a0 len cap zs) := hrow
  have HD : Hid (DiskAt Bo w p S vF vN vS (.slice aT S.steps.length cT)) := h
  clear hs hrow h ho
  go_enter Tryz.func19, Tryz.ntmps19
  go_wp2_with fail
  refine cp.mono ?_
  rintro e w1 ⟨⟨rfl, hw1⟩, hlt⟩
  have hw1' := hw1.symm
  subst hw1'
  obtain ⟨n, hn⟩ : ∃ n, n = dpv zs len 0 (S.steps.length + 1) := ⟨_, rfl⟩
  rw [← hn] at hlt ⊢
  clear hw1 cp hn hc4
  go_wp2_with fail
  go_loopw [5] (fun i wr => ∃ k : Nat, k ≤ n ∧ i = .int .i64 (k : Int) ∧ Hid (∃ vS', DiskAt Bo wr p { S with safe := (S.steps.take k).foldl doL S.safe } vF vN vS' (.slice aT S.steps.length cT)) ∧ Hid (Kept Bo w wr)) (fun i _ => n - (intOf i).toNat)
  case atStart => exact ⟨0, Nat.zero_le _, rfl, ⟨vS, HD.out⟩, Kept.refl _⟩
  case round =>
    obtain ⟨k, hk, rfl, HK, HW⟩ := hrel
    rename World => wr
    obtain ⟨vS', hA⟩ := HK.out
    obtain ⟨L, hL⟩ : ∃ L, L = (S.steps.take k).foldl doL S.safe := ⟨_, rfl⟩
    rw [← hL] at hA
    have hdir := HS.out.dir k
    rw [← hL] at hdir
    have hLl : L.length ≤ 200000 := by have := hdir.2.2.2; rw [List.length_take] at this; omega
    have HL : Hid (L = (S.steps.take k).foldl doL S.safe) := hL
    clear HK
    by_cases hkn : k < n
    · obtain ⟨s, hs⟩ : ∃ s, S.steps[k]? = some s := ⟨_, List.getElem?_eq_getElem (by omega)⟩
      have hsm := HS.out.kinds s (List.mem_of_getElem? hs)
      rcases hA.steps.2 with ⟨_, e0⟩ | ⟨gT, capT, cur, e1, _⟩
      · have e0 : S.steps.length = 0 := e0
        omega
      cases e1
      have hrowT := hA.steps
      have tc := tcells_at S.steps k s hs
      have t0 : wr.cell? ⟨gT, k * 4, none⟩ = some (.int .i64 (s.kind : Int)) := by rw [hrowT.cellAt (g := gT) _ (by show _ < S.steps.length * 4; omega)]; exact tc.1
      have t1 : wr.cell? ⟨gT, k * 4 + 1, none⟩ = some (.string s.src) := by rw [hrowT.cellAt (g := gT) _ (by show _ < S.steps.length * 4; omega)]; exact tc.2.1
      have t2 : wr.cell? ⟨gT, k * 4 + 2, none⟩ = some (.string s.dst) := by rw [hrowT.cellAt (g := gT) _ (by show _ < S.steps.length * 4; omega)]; exact tc.2.2.1
      have t3 : wr.cell? ⟨gT, k * 4 + 3, none⟩ = some (.int .i64 (s.file : Int)) := by rw [hrowT.cellAt (g := gT) _ (by show _ < S.steps.length * 4; omega)]; exact tc.2.2.2
      have c3 := st_cell hA.st 3
      change wr.cell? ⟨p, 3, none⟩ = some vS' at c3
      have c4 := st_cell hA.st 4
      change wr.cell? ⟨p, 4, none⟩ = some (.slice (some ⟨gT, 0, none⟩) S.steps.length cT) at c4
      have hAd : DiskAt Bo wr.drew p { S with safe := L } vF vN vS' (.slice (some ⟨gT, 0, none⟩) S.steps.length cT) := hA.still ⟨rfl, rfl, rfl, rfl, Nat.le_add_right _ _⟩
      have cd := do_any vS' L s wr.drew hAd.safe (by omega) hsm.1 (by omega)
      have hkt : k < S.steps.length := by omega
      have HSK : Hid (S.steps[k]? = some s) := hs
      have hsV : stepV s = .agg #[.int .i64 (s.kind : Int), .string s.src, .string s.dst, .int .i64 (s.file : Int)] := rfl
      rw [hsV] at cd
      clear hsV tc hrowT hA hs hdir hL
      go_upto_region 4 with fail
      go_region_with (go_at_call 31; go_must (refine cd.mono ?_; rintro e w8 ⟨vN1, rfl, hn8, hb8⟩; obtain ⟨aN, cN, rfl⟩ := own_slice hn8; have h8 := hAd.below hb8; obtain ⟨h9, k9⟩ := put_safe h8 hn8; have he3 := st_cell h8.st 3; change w8.cell? ⟨p, 3, none⟩ = some vS' at he3; have hf3 := st_frozen h8.st 3))
      all_goals
        have HN : Hid ((∃ vS', DiskAt Bo (w8.setCell ⟨p, 3, none⟩ (.slice aN (doL L s).length cN)) p { S with safe := (S.steps.take (k + 1)).foldl doL S.safe } vF vN vS' (.slice (some ⟨gT, 0, none⟩) S.steps.length cT)) ∧ Kept Bo w (w8.setCell ⟨p, 3, none⟩ (.slice aN (doL L s).length cN))) := by
          refine ⟨⟨.slice aN (doL L s).length cN, ?_⟩, HW.out.trans ((Kept.drew wr).trans ((Kept.ofBelow hb8).trans k9))⟩
          have e9 : (S.steps.take (k + 1)).foldl doL S.safe = doL L s := by rw [List.take_add_one, HSK.out, HL.out]; simp
          rw [e9]
          exact h9
        clear h9 k9 hb8 hn8 h8
        go_wp2
        go_roundw
        case rel => exact ⟨k + 1, by omega, by go_num, HN.out.1, HN.out.2⟩
        case measure => simp [intOf]; omega
    · have hke : k = n := by omega
      subst hke
      obtain ⟨aL, cL, rfl⟩ := own_slice hA.safe
      have c3 := st_cell hA.st 3
      change wr.cell? ⟨p, 3, none⟩ = some (.slice aL L.length cL) at c3
      have c2 := st_cell hA.st 2
      change wr.cell? ⟨p, 2, none⟩ = some vN at c2
      have c4 := st_cell hA.st 4
      change wr.cell? ⟨p, 4, none⟩ = some (.slice aT S.steps.length cT) at c4
      have f2 := st_frozen hA.st 2
      have f4 := st_frozen hA.st 4
      have HA : Hid (DiskAt Bo wr p { S with safe := L } vF vN (.slice aL L.length cL) (.slice aT S.steps.length cT)) := hA
      have HDI : Hid (Sorted L ∧ Named L ∧ (∀ x ∈ L, x.file < S.files.length)) := ⟨hdir.1, hdir.2.1, hdir.2.2.1⟩
      clear hA hdir hL
      go_wp2_with fail
      obtain ⟨W2, hW2⟩ : ∃ W2, W2 = (wr.setCell ⟨p, 2, none⟩ (.slice aL L.length cL)).setCell ⟨p, 4, none⟩ (.slice none 0 0) := ⟨_, rfl⟩
      have HA2 : Hid (DiskAt Bo W2 p { S with safe := L, now := L, steps := [] } vF (.slice aL L.length cL) (.slice aL L.length cL) (.slice none 0 0) ∧ Kept Bo w W2) := by
        rw [hW2]
        have k1 := heap_setCell_same wr p 2 _ _ (.slice aL L.length cL) HA.out.st
        have k2 := heap_setCell_same _ p 4 _ _ (.slice none 0 0) k1
        have gg : wr.grownBy ((wr.setCell ⟨p, 2, none⟩ (.slice aL L.length cL)).setCell ⟨p, 4, none⟩ (.slice none 0 0)) (some p) := grown_trans (grown_set _) (grown_set _)
        exact ⟨HA.out.put2 gg (by rw [k2]; rfl) HA.out.files HA.out.safe HA.out.safe (World.ownsRow_nil _ _ _ _), HW.out.trans (.ofGrown gg (fun k hk => by cases hk; exact ⟨⟨_, _, _, HA.out.st, .inl rfl⟩, HA.out.p0⟩))⟩
      rw [← hW2]
      clear hW2 HA c2 c3 c4 f2 f4
      go_loopw [6] (fun i wr => ∃ k : Nat, k ≤ L.length ∧ i = .int .i64 (k : Int) ∧ Hid (∃ F, Disk Bo wr p { S with safe := L, now := L, steps := [], files := F } ∧ TornAll S F) ∧ Hid (Kept Bo w wr)) (fun i _ => L.length - (intOf i).toNat)
      case atStart => exact ⟨0, Nat.zero_le _, rfl, ⟨S.files, ⟨_, _, _, _, HA2.out.1⟩, torn_start S⟩, HA2.out.2⟩
      case round =>
        obtain ⟨i, hi, rfl, HK2, HW2⟩ := hrel
        rename World => w3
        obtain ⟨F, ⟨vF', vN', vS', vT', hB⟩, hT⟩ := HK2.out
        obtain ⟨aN, cN, rfl⟩ := own_slice hB.now
        have c2 := st_cell hB.st 2
        change w3.cell? ⟨p, 2, none⟩ = some (.slice aN L.length cN) at c2
        clear HK2 HA2
        by_cases hiL : i < L.length
        · obtain ⟨x, hx⟩ : ∃ x, L[i]? = some x := ⟨_, List.getElem?_eq_getElem hiL⟩
          have hxF : x.file < F.length := by rw [hT.len]; exact HDI.out.2.2 x (List.mem_of_getElem? hx)
          obtain ⟨f, hf⟩ : ∃ f, F[x.file]? = some f := ⟨_, List.getElem?_eq_getElem hxF⟩
          have hfs := hT.sync HS.out hf
          have hFl : F.length ≤ 100000 := by rw [hT.len]; omega
          obtain ⟨gF, gN, cF, cN', e1, e2, hA3, hA4, hA5, hA6, hA7, hA8, hA9, hA10, hA11, hA12, hA13⟩ := at2 hB (S := { S with safe := L, now := L, steps := [], files := F }) hx hiL hf hxF
          subst e1
          cases e2
          have c1 := st_cell hB.st 1
          change w3.cell? ⟨p, 1, none⟩ = some (.slice (some ⟨gF, 0, none⟩) F.length cF) at c1
          change i < L.length at hA8
          change x.file < F.length at hA9
          change L.length ≤ _ at hA10
          change F.length ≤ _ at hA11
          have hmx : (maxLen : Nat) = 9223372036854775807 := rfl
          rw [hmx] at hA12 hA13
          obtain ⟨k2, hk2⟩ : ∃ k2, k2 = dpv zs len (i + 1) (f.data.size - f.synced + 1) := ⟨_, rfl⟩
          have hk3 : k2 ≤ f.data.size - f.synced := by
            have hz : ∀ W : World, True := fun _ => trivial
            have h9 : dpv zs len (i + 1) (f.data.size - f.synced + 1) < f.data.size - f.synced + 1 := dpv_lt _ _ _ _ (by omega)
            omega
          have cp : ∀ W, Still w3 W → Calls Tryz.prog 30 #[.slice a0 len cap, .int .i64 ((i : Int) + 1), .int .i64 ((f.data.size : Int) - (f.synced : Int) + 1)] W fun e w' => e = .returned (.int .i64 (k2 : Int)) ∧ w' = W := fun W hW => by
            have h8 := dpick_any a0 len cap zs (i + 1) (f.data.size - f.synced + 1) W ((HR.out.kept HW2.out).kept (Kept.ofStill hW)).1 (by omega) (by omega) (by omega)
            rw [← hk2, show (((i + 1 : Nat)) : Int) = (i : Int) + 1 by omega, show (((f.data.size - f.synced + 1 : Nat)) : Int) = (f.data.size : Int) - (f.synced : Int) + 1 by omega] at h8
            exact h8.mono fun e w' h => h.1
          have hsl : ∀ W : World, (Instr.slice 9 (.string f.data) none (some (.int .i64 ((f.synced : Int) + (k2 : Int)))) none).run Tryz.prog W = .ok (.string (f.data.extract 0 (f.synced + k2))) W := fun W => by
            have := pieces.slice_to f.data (f.synced + k2) (by omega) W
            rw [show (((f.synced + k2 : Nat)) : Int) = (f.synced : Int) + (k2 : Int) by omega] at this
            exact this
          have hds : (f.data.extract 0 (f.synced + k2)).size = f.synced + k2 := by rw [ByteArray.size_extract]; omega
          have HB : Hid (DiskAt Bo w3 p { S with safe := L, now := L, steps := [], files := F } (.slice (some ⟨gF, 0, none⟩) F.length cF) (.slice (some ⟨gN, 0, none⟩) L.length cN) vS' vT' ∧ TornAll S F ∧ F[x.file]? = some f) := ⟨hB, hT, hf⟩
          have hf1 := hfs.1
          have hf2 := hfs.2
          clear hk2 hB hT hf hfs hx
          go_wp2
          go_quiet (fail)
          obtain ⟨w4, hw4⟩ : ∃ w4, w4 = w3.drewN nq := ⟨_, rfl⟩
          have s4 : Still w3 w4 := by rw [hw4]; exact Still.drewN _ _
          have d0 : w4.cell? ⟨gF, x.file * 2, none⟩ = some (.string f.data) := by rw [hw4]; exact hA4
          have d1 : w4.cell? ⟨gF, x.file * 2 + 1, none⟩ = some (.int .i64 (f.synced : Int)) := by rw [hw4]; exact hA5
          have cp4 : ∀ W, Still w4 W → Calls Tryz.prog 30 #[.slice a0 len cap, .int .i64 ((i : Int) + 1), .int .i64 ((f.data.size : Int) - (f.synced : Int) + 1)] W fun e w' => e = .returned (.int .i64 (k2 : Int)) ∧ w' = W := fun W hW => cp W (s4.trans hW)
          rw [← hw4]
          clear hw4 cp
          go_wp2
          go_quiet ((go_at_call 30; exact Calls.quiet_of_same (cp4 _ (Still.drewN _ _))))
          obtain ⟨w5, hw5⟩ : ∃ w5, w5 = w4.drewN nq := ⟨_, rfl⟩
          have s5 : Still w3 w5 := by rw [hw5]; exact s4.trans (Still.drewN _ _)
          have e0 : w5.cell? ⟨gF, x.file * 2, none⟩ = some (.string f.data) := by rw [hw5]; exact d0
          have e1 : w5.cell? ⟨gF, x.file * 2 + 1, none⟩ = some (.int .i64 (f.synced : Int)) := by rw [hw5]; exact d1
          have g0 : w5.frozen? ⟨gF, x.file * 2, none⟩ = false := by have h := hA6; unfold World.frozen? at h ⊢; rw [s5.heap]; exact h
          have g1 : w5.frozen? ⟨gF, x.file * 2 + 1, none⟩ = false := by have h := hA7; unfold World.frozen? at h ⊢; rw [s5.heap]; exact h
          rw [← hw5]
          have hpf := put_file2 (HB.out.1.still (s5.trans (⟨rfl, rfl, rfl, rfl, Nat.le_add_right _ _⟩ : Still w5 w5.drew))) rfl HB.out.2.2 (f.data.extract 0 (f.synced + k2))
          rw [hds] at hpf
          have HPF : Hid (Disk Bo ((w5.drew.setCell ⟨gF, x.file * 2, none⟩ (.string (f.data.extract 0 (f.synced + k2)))).setCell ⟨gF, x.file * 2 + 1, none⟩ (.int .i64 ((f.synced + k2 : Nat) : Int))) p { S with safe := L, now := L, steps := [], files := F.set x.file ⟨f.data.extract 0 (f.synced + k2), f.synced + k2⟩ } ∧ TornAll S (F.set x.file ⟨f.data.extract 0 (f.synced + k2), f.synced + k2⟩) ∧ Kept Bo w ((w5.drew.setCell ⟨gF, x.file * 2, none⟩ (.string (f.data.extract 0 (f.synced + k2)))).setCell ⟨gF, x.file * 2 + 1, none⟩ (.int .i64 ((f.synced + k2 : Nat) : Int)))) :=
            ⟨⟨_, _, _, _, hpf.1⟩, HB.out.2.1.step HB.out.2.2 (by omega) (by omega), HW2.out.trans ((Kept.ofStill s5).trans ((Kept.drew w5).trans hpf.2))⟩
          clear hw5 hpf s4 s5 d0 d1 cp4 hA3 hA4 hA5 hA6 hA7 c1 c2 HB
          go_wp2
          go_region
          all_goals
            go_wp2
            go_roundw
            case rel => exact ⟨i + 1, by omega, by go_num, ⟨_, HPF.out.1, HPF.out.2.1⟩, HPF.out.2.2⟩
            case measure => simp [intOf]; omega
        · have hie : i = L.length := by omega
          subst hie
          have c5 := st_cell hB.st 5
          change w3.cell? ⟨p, 5, none⟩ = some (.int .i64 S.wait) at c5
          have c6 := st_cell hB.st 6
          change w3.cell? ⟨p, 6, none⟩ = some (.int .i64 S.life) at c6
          have f5 := st_frozen hB.st 5
          have f6 := st_frozen hB.st 6
          have HB : Hid (DiskAt Bo w3 p { S with safe := L, now := L, steps := [], files := F } vF' (.slice aN L.length cN) vS' vT' ∧ TornAll S F) := ⟨hB, hT⟩
          clear hB hT
          go_wp2
          go_end0
          have k1 := heap_setCell_same w3 p 5 _ _ (.int .i64 (-1)) HB.out.1.st
          have k2 := heap_setCell_same _ p 6 _ _ (.int .i64 (-1)) k1
          have gg : w3.grownBy ((w3.setCell ⟨p, 5, none⟩ (.int .i64 (-1))).setCell ⟨p, 6, none⟩ (.int .i64 (-1))) (some p) := grown_trans (grown_set _) (grown_set _)
          refine ⟨rfl, { S with safe := L, now := L, steps := [], files := F, wait := -1, life := -1 }, ⟨_, _, _, _, HB.out.1.put2 gg (by rw [k2]; rfl) HB.out.1.files HB.out.1.now HB.out.1.safe HB.out.1.steps⟩, ?_, HW2.out.trans (.ofGrown gg (fun k hk => by cases hk; exact ⟨⟨_, _, _, HB.out.1.st, .inl rfl⟩, HB.out.1.p0⟩))⟩
          exact ⟨⟨k, by omega, HL.out⟩, rfl, rfl, rfl, ⟨rfl, rfl⟩, rfl, HB.out.2.len, HB.out.2.each⟩
end Go.Proofs.YtbjgpfhbdmcbbabGreatDoor.disk
