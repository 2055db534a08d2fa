import Derived.Test.YtbjgpfhbdmcbbabGreatDoorP03
import Derived.Test.YtbjgpfhbdmcbbabGreatDoorProg
import Derived.WalkKit
import Derived.LaidEql
import Derived.Stop.Asserts

/-
  CONTRACTS of package disk: Create.
-/
namespace Go.Proofs.YtbjgpfhbdmcbbabGreatDoor.disk
open Go.RowKit dnamath dna diskm
set_option linter.unusedVariables false

theorem create_no {S T : DS} {n : ByteArray} {ok : Bool} (hT : S.changes = (ok, T)) (h : ok = false ∨ findIs n S.now = true ∨ n.size = 0) : S.create n = (false, T) := by
  unfold DS.create; rw [hT]; simp only; rw [if_pos h]
theorem create_yes {S T : DS} {n : ByteArray} (hT : S.changes = (true, T)) (h1 : findIs n S.now = false) (h2 : n.size ≠ 0) :
    S.create n = (true, { T with files := T.files ++ [⟨ByteArray.empty, 0⟩], steps := T.steps ++ [⟨1, ByteArray.empty, n, T.files.length⟩], now := doL T.now ⟨1, ByteArray.empty, n, T.files.length⟩ }) := by
  unfold DS.create; rw [hT]; simp only; rw [if_neg]
  rintro (h | h | h)
  · cases h
  · rw [h1] at h; cases h
  · exact h2 h
theorem nonempty_list {n : ByteArray} (h : n.size ≠ 0) : n.toList.isEmpty = false := by
  rw [Lib.toList_data]; cases hl : n.data.toList with
  | nil => rw [Lib.size_eq, hl] at h; simp at h
  | cons a l => rfl

theorem Kept.drew {Bo : Nat} (w : World) : Kept Bo w w.drew := ⟨rfl, rfl, rfl, Nat.le_refl _, fun _ _ _ => rfl, fun _ _ _ => rfl⟩

/-- a disk, whatever its lists' values -/
def Disk (Bo : Nat) (w : World) (p : Nat) (S : DS) : Prop := ∃ vF vN vS vT, DiskAt Bo w p S vF vN vS vT
theorem Disk.keep {Bo : Nat} {w w' : World} {p : Nat} {S : DS} (h : Disk Bo w p S) (hk : ∀ k, isDisk w k → w'.heap[k]? = w.heap[k]?) : Disk Bo w' p S := by
  obtain ⟨a, b, c, d, h⟩ := h; exact ⟨a, b, c, d, h.keep hk⟩
theorem Disk.below {Bo : Nat} {w w' : World} {p : Nat} {S : DS} (h : Disk Bo w p S) (hb : Below w.heap.size w w') : Disk Bo w' p S := h.keep fun k hk => hb.block k (isDisk_lt hk)
theorem Disk.still {Bo : Nat} {w w' : World} {p : Nat} {S : DS} (h : Disk Bo w p S) (hb : Still w w') : Disk Bo w' p S := h.below (hb.below _)
theorem Disk.low {Bo : Nat} {w : World} {p : Nat} {S : DS} (h : Disk Bo w p S) : Bo ≤ w.heap.size := by
  obtain ⟨a, b, c, d, h⟩ := h; exact Nat.le_trans h.p0 (Nat.le_of_lt (lt_of_block h.st))
theorem Disk.isDisk {Bo : Nat} {w : World} {p : Nat} {S : DS} (h : Disk Bo w p S) : isDisk w p := by
  obtain ⟨a, b, c, d, h⟩ := h; exact ⟨_, _, _, h.st, .inl rfl⟩

set_option maxHeartbeats 2000000 in
set_option maxRecDepth 100000 in
theorem Create_any {Bo : Nat} (p : Nat) (S : DS) (N : Nat) (n : ByteArray) (w : World) (hD : Disk Bo w p S) (ho : S.Ok N) (hN : N ≤ 100000) (hne : n.size ≠ 0) (hfr : findIs n S.now = false) :
    Calls Tryz.prog 137 #[.pointer (some ⟨p, 0, none⟩), .string n] w fun e w' => e = .returned (.bool (S.create n).1) ∧ Disk Bo w' p (S.create n).2 ∧ Kept Bo w w' := by
  obtain ⟨vF, vN, vS, vT, h⟩ := hD
  obtain ⟨i0, hi, hz0, hz1, hz2⟩ := info_parts infoF
  obtain ⟨j0, hj, hy0, hy1, hy2⟩ := info_parts infoT
  obtain ⟨ok, T, hT⟩ : ∃ ok T, S.changes = (ok, T) := ⟨_, _, rfl⟩
  have ct := changes_any p S N vF vN vS vT w h ho (by omega)
  have hd : Hid (isDisk w p ∧ Bo ≤ p) := ⟨⟨_, _, _, h.st, .inl rfl⟩, h.p0⟩
  have hs := changes_same S
  have hok := changes_ok ho
  rw [hT] at ct hs hok
  have s1 : T.now = S.now := hs.1
  have HT : Hid (S.changes = (ok, T)) := hT
  have HNE : Hid (n.size ≠ 0) := hne
  have hne2 := nonempty_list hne
  have hfT : findIs n T.now = false := by rw [s1]; exact hfr
  have hnl : T.now.length ≤ 100001 := Nat.le_trans hok.nl (by omega)
  have hfl : T.files.length ≤ 100001 := Nat.le_trans hok.fl (by omega)
  have htl : T.steps.length ≤ 100001 := Nat.le_trans hok.tl (by omega)
  obtain ⟨k0, hk0⟩ : ∃ k, k = findIx n T.now := ⟨_, rfl⟩
  have cf : ∀ W : World, Names W vN T.now → Calls Tryz.prog 46 #[vN, .string n] W fun e w' => e = .returned (.tuple #[.int .i64 (k0 : Int), .bool false]) ∧ Still W w' := fun W hW => by
    have := find_any vN T.now n W hW (by omega)
    rw [hfT, ← hk0] at this
    exact this
  have HF : Hid (findIs n S.now = false) := hfr
  clear hT h s1 hs hok hfT hk0 hne hfr ho
  cases ok with
  | false =>
    go_enter Tryz.func137, Tryz.ntmps137
    go_wp2_with (first | (go_at_call 102; go_must (refine ct.mono ?_; rintro e w1 ⟨rfl, h1, g1⟩; have hc2 := st_cell h1.st 2; change w1.cell? ⟨p, 2, none⟩ = some vN at hc2)) | (go_at_call 46; go_must (refine (cf _ h1.now).mono ?_; rintro e w2 ⟨rfl, hst⟩)))
    go_ret
    rw [create_no HT.out (.inl rfl)]
    exact ⟨rfl, ⟨_, _, _, _, h1.still hst⟩, (Kept.ofGrown g1 (fun k hk => by cases hk; exact hd.out)).trans (.ofStill hst)⟩
  | true =>
    go_enter Tryz.func137, Tryz.ntmps137
    go_wp2_with (first | (go_at_call 102; go_must (refine ct.mono ?_; rintro e w1 ⟨rfl, h1, g1⟩; have hc2 := st_cell h1.st 2; change w1.cell? ⟨p, 2, none⟩ = some vN at hc2)) | (go_at_call 46; go_must (refine (cf _ h1.now).mono ?_; rintro e w2 ⟨rfl, hst⟩; have h2 := h1.still hst; have hc1 := st_cell h2.st 1; change w2.cell? ⟨p, 1, none⟩ = some vF at hc1)) | (at_builtin; go_must (refine wpList_append_own _ rfl (.tmp 33) (.tmp 35) 59 rfl Bo 82 i0 (.agg #[.string ByteArray.empty, .int .i64 0]) 2 24 Tryz.underlying59 hi hz0 hz1 hz2 rfl (by decide) _ _ _ rfl (h2.files.alloc _) _ 1 1 [.string ByteArray.empty, .int .i64 0] rfl rfl (cell_pair _ _ _ _) (one_name _ _) (by unfold maxLen; omega) (by omega) (by have q0 := h2.p0; have q1 := lt_of_block h2.st; simp at q1 ⊢; omega) ?_; intro vF1 w3 hown' hgrow _; obtain ⟨aF, cF, rfl⟩ := own_slice hown'; obtain ⟨h4, k4, p3⟩ := put_files (f := ⟨ByteArray.empty, 0⟩) h2 hown' hgrow; have hd1 := st_cell p3 1; change w3.cell? ⟨p, 1, none⟩ = some vF at hd1; have hf1 := st_frozen p3 1; clear hown' hgrow)))
    obtain ⟨W5, hW5⟩ : ∃ W, W = ((w3.setCell ⟨p, 1, none⟩ (.slice aF (T.files.length + 1) cF)).alloc (.cells #[.int .i64 1, .string ⟨#[]⟩, .string n, .int .i64 (T.files.length : Int)] 79)) := ⟨_, rfl⟩
    obtain ⟨q, hq⟩ : ∃ q, q = w3.heap.size := ⟨_, rfl⟩
    have hB5 : Below (w3.setCell ⟨p, 1, none⟩ (.slice aF (T.files.length + 1) cF)).heap.size (w3.setCell ⟨p, 1, none⟩ (.slice aF (T.files.length + 1) cF)) W5 := by rw [hW5]; exact (Below.refl _ _).alloc (Nat.le_refl _) _
    have h5 : DiskAt Bo W5.drew p { T with files := T.files ++ [⟨ByteArray.empty, 0⟩] } (.slice aF (T.files.length + 1) cF) vN vS vT := (h4.below hB5).still ⟨rfl, rfl, rfl, rfl, Nat.le_add_right _ _⟩
    obtain ⟨S5, hS5⟩ : ∃ S5 : DS, S5 = { T with files := T.files ++ [⟨ByteArray.empty, 0⟩] } := ⟨_, rfl⟩
    rw [← hS5] at h5
    have HS5 : Hid (S5 = { T with files := T.files ++ [⟨ByteArray.empty, 0⟩] }) := hS5
    have hsn : Hid (S5.now = T.now) := by show S5.now = T.now; rw [hS5]
    have hst5 : S5.steps.length ≤ 100001 := by rw [hS5]; exact htl
    clear hS5
    have k5 : Kept Bo w W5 := ((Kept.ofGrown g1 (fun k hk => by cases hk; exact hd.out)).trans (.ofStill hst)).trans (k4.trans (.ofBelow hB5))
    have hbx : W5.heap[q]? = some (.cells #[.int .i64 1, .string ⟨#[]⟩, .string n, .int .i64 (T.files.length : Int)] 79 (0, 0)) := by rw [hW5, hq]; have := heap_alloc_new (w3.setCell ⟨p, 1, none⟩ (.slice aF (T.files.length + 1) cF)) (.cells #[.int .i64 1, .string ⟨#[]⟩, .string n, .int .i64 (T.files.length : Int)] 79); simpa using this
    obtain ⟨b0, b1, b2, b3⟩ := box_of (base := q + 1) (K := 1) hbx (Below.refl _ _) (Nat.lt_succ_self _)
    have hc4 : W5.cell? ⟨p, 4, none⟩ = _ := st_cell h5.st 4
    change W5.cell? ⟨p, 4, none⟩ = some vT at hc4
    have hgr : ∀ a, W5.drew.cell? a = W5.cell? a := fun _ => rfl
    have hql : q < W5.heap.size := lt_of_block hbx
    have hpl : p < W5.heap.size := lt_of_block h5.st
    have hal : ∀ o, (W5.drew.alloc o).cell? ⟨p, 4, none⟩ = some vT := fun o => (World.cell?_alloc_old _ _ _ (Nat.ne_of_lt hpl)).trans hc4
    have hvq : vT.ownBlock ≠ some q := fun e => by have := (h4.steps.lt q e).2; rw [hq] at this; simp at this
    have hpq : p ≠ q := fun e => by rw [← e] at hbx; have := h5.st; rw [show W5.drew.heap[p]? = W5.heap[p]? from rfl, hbx] at this; simp only [Option.some.injEq, Obj.cells.injEq] at this; exact absurd this.2.1 (by decide)
    rw [← hW5, ← hq]
    clear hq hW5 hB5 h4 k4 p3 hd1 hf1 h2 hc1 h1 hc2 g1 hst
    go_region_law (first | (refine step_append_own rfl (.tmp 51) (.tmp 53) 61 rfl Bo 79 j0 (.agg #[.int .i64 0, .string ByteArray.empty, .string ByteArray.empty, .int .i64 0]) 4 48 Tryz.underlying61 hj hy0 hy1 hy2 rfl (by decide) _ _ _ rfl (h5.steps.alloc _) _ 1 1 [.int .i64 1, .string ⟨#[]⟩, .string n, .int .i64 (T.files.length : Int)] rfl rfl (cell_four _ _ _ _ _ _) (one_step _ _ _ _) (by unfold maxLen; omega) (by omega) (by have q0 := h5.p0; have q1 := lt_of_block h5.st; simp at q1 ⊢; omega) ?_; intro vT1 w6 hown' hgrow _; obtain ⟨aT, cT, rfl⟩ := own_slice hown'; obtain ⟨h7, k7, p6⟩ := put_steps (f := ⟨1, ByteArray.empty, n, T.files.length⟩) h5 hown' hgrow; have hd4 := st_cell p6 4; change w6.cell? ⟨p, 4, none⟩ = some vT at hd4; have hf4 := st_frozen p6 4; have hq6 := (hgrow.block q (by simp; omega) (fun e => hvq e.symm)).trans ((Below.heap_alloc _ _ _ hql).trans hbx); clear hown' hgrow))
    all_goals
      have hc2 : (w6.setCell ⟨p, 4, none⟩ (.slice aT (S5.steps.length + 1) cT)).cell? ⟨p, 2, none⟩ = _ := st_cell h7.st 2
      change _ = some vN at hc2
      obtain ⟨W7, hW7⟩ : ∃ W, W = (w6.setCell ⟨p, 4, none⟩ (.slice aT (S5.steps.length + 1) cT)) := ⟨_, rfl⟩
      rw [← hW7] at h7 k7 hc2 ⊢
      have hq7 : W7.heap[q]? = some (.cells #[.int .i64 1, .string ⟨#[]⟩, .string n, .int .i64 (T.files.length : Int)] 79 (0, 0)) := by rw [hW7, Below.heap_setCell _ _ _ _ (by exact fun e => hpq e.symm)]; exact hq6
      obtain ⟨d0, d1, d2, d3⟩ := box_of (base := q + 1) (K := 1) hq7 (Below.refl _ _) (Nat.lt_succ_self _)
      clear hW7 p6 hd4 hf4 hq6 b0 b1 b2 b3 hc4 hgr
      have h7d : DiskAt Bo W7.drew p { S5 with steps := S5.steps ++ [⟨1, ByteArray.empty, n, T.files.length⟩] } (.slice aF (T.files.length + 1) cF) vN vS (.slice aT (S5.steps.length + 1) cT) := h7.still ⟨rfl, rfl, rfl, rfl, Nat.le_add_right _ _⟩
      have hn7 : Names W7.drew vN S5.now := h7d.now
      have cd := do_put vN S5.now ⟨1, ByteArray.empty, n, T.files.length⟩ W7.drew hn7 (by rw [hsn.out]; omega) (show ¬ (1 : Nat) = 3 by decide) (show (1 : Nat) < 10 by decide) (by show T.files.length ≤ _; omega)
      go_wp2
      go_region_with (go_at_call 31; go_must (refine cd.mono ?_; rintro e w8 ⟨vN1, rfl, hn8, hb8⟩; obtain ⟨aN, cN, rfl⟩ := own_slice hn8; have h8 := h7d.below hb8; obtain ⟨h9, k9⟩ := put_now h8 hn8; have he2 := st_cell h8.st 2; change w8.cell? ⟨p, 2, none⟩ = some vN at he2; have hf2 := st_frozen h8.st 2))
      all_goals
        go_wp2
        go_ret
        rw [create_yes HT.out HF.out HNE.out]
        refine ⟨rfl, ?_, k5.trans ((Kept.drew W5).trans (k7.trans ((Kept.drew W7).trans ((Kept.ofBelow hb8).trans k9))))⟩
        have e9 : ({ T with files := T.files ++ [⟨ByteArray.empty, 0⟩], steps := T.steps ++ [⟨1, ByteArray.empty, n, T.files.length⟩], now := doL T.now ⟨1, ByteArray.empty, n, T.files.length⟩ } : DS) = { ({ S5 with steps := S5.steps ++ [⟨1, ByteArray.empty, n, T.files.length⟩] } : DS) with now := doL S5.now ⟨1, ByteArray.empty, n, T.files.length⟩ } := by rw [HS5.out]
        rw [e9]
        exact ⟨_, _, _, _, h9⟩
end Go.Proofs.YtbjgpfhbdmcbbabGreatDoor.disk

/-
  CONTRACTS of package disk: Bytes, Left, Append, Sync, Read.
-/
namespace Go.Proofs.YtbjgpfhbdmcbbabGreatDoor.disk
open Go.RowKit dnamath dna diskm
set_option linter.unusedVariables false

set_option maxHeartbeats 1000000 in
set_option maxRecDepth 100000 in
theorem Bytes_any {Bo : Nat} (p : Nat) (S : DS) (N : Nat) (w : World) (hD : Disk Bo w p S) (ho : S.Ok N) (hN : N ≤ 1000000) (hB : S.bytes ≤ 1000000000000000000) :
    Calls Tryz.prog 176 #[.pointer (some ⟨p, 0, none⟩)] w fun e w' => e = .returned (.int .i64 (S.bytes : Int)) ∧ Still w w' := by
  obtain ⟨vF, vN, vS, vT, h⟩ := hD
  have hc2 := st_cell h.st 2
  change w.cell? ⟨p, 2, none⟩ = some vN at hc2
  have hc1 := st_cell h.st 1
  change w.cell? ⟨p, 1, none⟩ = some vF at hc1
  have hnl := Nat.le_trans ho.nl hN
  have hfl := Nat.le_trans ho.fl hN
  obtain ⟨aN, cN, hvN⟩ := own_slice h.now
  rw [hvN] at hc2
  go_enter Tryz.func176, Tryz.ntmps176
  go_wp2
  go_loopw [3, 4] (fun n i wr => ∃ k : Nat, i = .int .i64 k ∧ n = .int .i64 (S.bytesTo k : Int) ∧ k ≤ S.now.length ∧ Hid (Still w wr)) (fun _ i _ => S.now.length - (intOf i).toNat)
  case atStart => exact ⟨0, rfl, rfl, Nat.zero_le _, Still.refl _⟩
  case round =>
    obtain ⟨k, rfl, rfl, hk, hst⟩ := hrel
    rename World => wr
    rw [← hst.out.cell] at hc1 hc2
    by_cases hlt : k < S.now.length
    · obtain ⟨x, hx⟩ : ∃ x, S.now[k]? = some x := ⟨_, List.getElem?_eq_getElem hlt⟩
      have hr := ho.ref x (List.mem_of_getElem? hx)
      obtain ⟨f, hf⟩ : ∃ f, S.files[x.file]? = some f := ⟨_, List.getElem?_eq_getElem hr⟩
      obtain ⟨gF, gN, cF, cN2, hA1, hA2, hA3, hA4, hA5, hA6, hA7, hA8, hA9, hA10, hA11, hA12, hA13⟩ := at2 h hx hlt hf hr
      rw [hvN] at hA2
      cases hA2
      rw [hA1] at hc1
      rw [← hst.out.cell] at hA3 hA4
      have hmx : (maxLen : Nat) = 9223372036854775807 := rfl
      rw [hmx] at hA12 hA13
      have hb1 : S.bytesTo (k + 1) = S.bytesTo k + f.data.size := by show S.bytesTo k + _ = _; rw [hx]; show _ + (Option.map _ (S.files[x.file]?)).getD 0 = _; rw [hf]; rfl
      have hb2 : S.bytesTo (k + 1) ≤ S.bytes := bytesTo_le S hlt
      have hbb : S.bytesTo k + f.data.size ≤ 1000000000000000000 := by omega
      have HB1 : Hid (S.bytesTo (k + 1) = S.bytesTo k + f.data.size) := hb1
      clear hb1 hb2 hf hx hA5 hA6 hA7 h
      go_wp2
      go_quiet (fail)
      go_wp2
      go_roundw
      case rel => exact ⟨k + 1, by go_num, by rw [HB1.out]; go_num, by omega, hst.out.trans (Still.drewN _ _)⟩
      case measure => simp [intOf]; omega
    · have hke : k = S.now.length := by omega
      subst hke
      go_wp2
      go_ret
      exact ⟨rfl, hst.out⟩

set_option maxHeartbeats 1000000 in
set_option maxRecDepth 100000 in
theorem Left_any {Bo : Nat} (p : Nat) (S : DS) (N : Nat) (w : World) (hD : Disk Bo w p S) (ho : S.Ok N) (hN : N ≤ 1000000) (hB : S.bytes ≤ 1000000000000000000) (hC : 0 ≤ S.cap ∧ S.cap ≤ 1152921504606846976) :
    Calls Tryz.prog 162 #[.pointer (some ⟨p, 0, none⟩)] w fun e w' => e = .returned (.int .i64 (S.cap - S.bytes)) ∧ Still w w' := by
  have cb : ∀ W, Still w W → _ := fun W hW => Bytes_any p S N W (hD.still hW) ho hN hB
  obtain ⟨vF, vN, vS, vT, h⟩ := hD
  have hc0 := st_cell h.st 0
  change w.cell? ⟨p, 0, none⟩ = some (.int .i64 S.cap) at hc0
  obtain ⟨hC1, hC2⟩ := hC
  obtain ⟨B, hBe⟩ : ∃ B, B = S.bytes := ⟨_, rfl⟩
  rw [← hBe] at cb hB ⊢
  clear hBe h
  go_enter Tryz.func162, Tryz.ntmps162
  go_wp2
  go_region_with (go_at_call 176; go_must (refine (cb w.drew ⟨rfl, rfl, rfl, rfl, Nat.le_add_right _ _⟩).mono ?_; rintro e w2 ⟨rfl, hst⟩; have hc0' : w2.cell? ⟨p, 0, none⟩ = some (.int .i64 S.cap) := (hst.cell _).trans hc0))
  all_goals
    go_wp2
    go_ret
    refine ⟨?_, (⟨rfl, rfl, rfl, rfl, Nat.le_add_right _ _⟩ : Still w w.drew).trans hst⟩
    simp [Act.put]
    rw [IntKind.wrap_i64]
    omega
end Go.Proofs.YtbjgpfhbdmcbbabGreatDoor.disk

/-
  CONTRACTS of package disk: Append, Sync, Read.
-/
namespace Go.Proofs.YtbjgpfhbdmcbbabGreatDoor.disk
open Go.RowKit dnamath dna diskm
set_option linter.unusedVariables false

theorem fcells_set0 : ∀ (l : List DFile) (i : Nat) (f : DFile) (d : ByteArray), l[i]? = some f → (fcells l).set (i * 2) (.string d) = fcells (l.set i ⟨d, f.synced⟩)
  | [], _, _, _, h => by simp at h
  | y :: l, 0, f, d, h => by simp at h; subst h; rfl
  | y :: l, i + 1, f, d, h => by
    have := fcells_set0 l i f d (by simpa using h)
    rw [List.set_cons_succ, show (i + 1) * 2 = i * 2 + 2 by omega]
    simp only [fcells, List.flatMap_cons, fcell] at this ⊢
    simpa using this
theorem fcells_set1 : ∀ (l : List DFile) (i : Nat) (f : DFile) (d : Nat), l[i]? = some f → (fcells l).set (i * 2 + 1) (.int .i64 (d : Int)) = fcells (l.set i ⟨f.data, d⟩)
  | [], _, _, _, h => by simp at h
  | y :: l, 0, f, d, h => by simp at h; subst h; rfl
  | y :: l, i + 1, f, d, h => by
    have := fcells_set1 l i f d (by simpa using h)
    rw [List.set_cons_succ, show (i + 1) * 2 + 1 = i * 2 + 1 + 2 by omega]
    simp only [fcells, List.flatMap_cons, fcell] at this ⊢
    simpa using this

theorem put_file {Bo : Nat} {w : World} {p gF cF j : Nat} {S : DS} {vN vS vT u : Value} {F : List DFile} (h : DiskAt Bo w p S (.slice (some ⟨gF, 0, none⟩) S.files.length cF) vN vS vT) (he : (fcells S.files).set j u = fcells F) (hl : F.length = S.files.length) :
    Disk Bo (w.setCell ⟨gF, j, none⟩ u) p { S with files := F } ∧ Kept Bo w (w.setCell ⟨gF, j, none⟩ u) := by
  obtain ⟨cs, fz, hgF⟩ := own_kind h.files gF rfl
  have hst := h.files.stored j u
  have tk : ∀ e', 82 ≠ e' → TK e' w (w.setCell ⟨gF, j, none⟩ u) := fun e' he => TK.set hgF he
  refine ⟨⟨.slice (some ⟨gF, 0, none⟩) S.files.length cF, vN, vS, vT, ?_, ?_, row_keep h.now (tk _ (by decide)), row_keep h.safe (tk _ (by decide)), row_keep h.steps (tk _ (by decide)), h.p0⟩, Kept.ofGrown (grown_set _) (fun k hk2 => by cases hk2; exact ⟨⟨_, _, _, hgF, .inr (.inl rfl)⟩, (h.files.lt gF rfl).1⟩)⟩
  · exact (tk _ (by decide) p _ _ h.st).trans h.st
  · have := hst.1
    rw [he] at this
    show World.ownsRow _ _ _ _ _ F.length (fcells F)
    rw [hl]
    exact this

theorem append_no {S T : DS} {n data : ByteArray} {ok : Bool} (hT : S.changes = (ok, T)) (h : ok = false ∨ findIs n S.now = false ∨ (data.size : Int) > S.cap - S.bytes) : S.append n data = (false, T) := by
  unfold DS.append; rw [hT]; simp only; rw [if_pos h]
theorem append_yes {S T : DS} {n data : ByteArray} (hT : S.changes = (true, T)) (h1 : findIs n S.now = true) (h2 : (data.size : Int) ≤ S.cap - S.bytes) :
    S.append n data = (true, { T with files := T.files.set (S.fileNo n) ⟨(S.fileOf n).data ++ data, (S.fileOf n).synced⟩ }) := by
  unfold DS.append; rw [hT]; simp only; rw [if_neg]
  rintro (h | h | h)
  · cases h
  · rw [h1] at h; cases h
  · omega
theorem sync_no {S T : DS} {n : ByteArray} {ok : Bool} (hT : S.changes = (ok, T)) (h : ok = false ∨ findIs n S.now = false) : S.sync n = (false, T) := by
  unfold DS.sync; rw [hT]; simp only; rw [if_pos h]
theorem sync_yes {S T : DS} {n : ByteArray} (hT : S.changes = (true, T)) (h1 : findIs n S.now = true) :
    S.sync n = (true, { T with files := T.files.set (S.fileNo n) ⟨(S.fileOf n).data, (S.fileOf n).data.size⟩ }) := by
  unfold DS.sync; rw [hT]; simp only; rw [if_neg]
  rintro (h | h)
  · cases h
  · rw [h1] at h; cases h

set_option maxHeartbeats 2000000 in
set_option maxRecDepth 100000 in
theorem Append_any {Bo : Nat} (p : Nat) (S : DS) (N : Nat) (n data : ByteArray) (w : World) (hD : Disk Bo w p S) (ho : S.Ok N) (hN : N ≤ 100000) (hfr : findIs n S.now = true) (hB : S.bytes ≤ 1000000000000000) (hC : 0 ≤ S.cap ∧ S.cap ≤ 1152921504606846976) (hds : data.size ≤ 1000000000000) (hdf : (S.fileOf n).data.size ≤ 1000000000000) :
    Calls Tryz.prog 161 #[.pointer (some ⟨p, 0, none⟩), .string n, .string data] w fun e w' => e = .returned (.bool (S.append n data).1) ∧ Disk Bo w' p (S.append n data).2 ∧ Kept Bo w w' := by
  obtain ⟨vF, vN, vS, vT, h⟩ := hD
  obtain ⟨ok, T, hT⟩ : ∃ ok T, S.changes = (ok, T) := ⟨_, _, rfl⟩
  have ct := changes_any p S N vF vN vS vT w h ho (by omega)
  have hd : Hid (isDisk w p ∧ Bo ≤ p) := ⟨⟨_, _, _, h.st, .inl rfl⟩, h.p0⟩
  have hs := changes_same S
  have hok := changes_ok ho
  rw [hT] at ct hs hok
  have s1 : T.now = S.now := hs.1
  have s2 : T.files = S.files := hs.2.1
  have s5 : T.cap = S.cap := hs.2.2.2.2
  have sb : T.bytes = S.bytes := bytes_congr s1 s2
  have HT : Hid (S.changes = (ok, T)) := hT
  have hfT : findIs n T.now = true := by rw [s1]; exact hfr
  have hnl : T.now.length ≤ 100001 := Nat.le_trans hok.nl (by omega)
  have hfl : T.files.length ≤ 100001 := Nat.le_trans hok.fl (by omega)
  have cf : ∀ W : World, Names W vN T.now → Calls Tryz.prog 46 #[vN, .string n] W fun e w' => e = .returned (.tuple #[.int .i64 (findIx n T.now : Int), .bool true]) ∧ Still W w' := fun W hW => by
    have := find_any vN T.now n W hW (by omega)
    rw [hfT] at this
    exact this
  have cl : ∀ W : World, Disk Bo W p T → Calls Tryz.prog 162 #[.pointer (some ⟨p, 0, none⟩)] W fun e w' => e = .returned (.int .i64 (S.cap - S.bytes)) ∧ Still W w' := fun W hW => by
    have := Left_any p T (N + 1) W hW hok (by omega) (by rw [sb]; omega) (by rw [s5]; exact hC)
    rw [sb, s5] at this
    exact this
  have HF : Hid (findIs n S.now = true) := hfr
  obtain ⟨L, hL⟩ : ∃ L, L = S.cap - (S.bytes : Int) := ⟨_, rfl⟩
  rw [← hL] at cl
  have HL : Hid (L = S.cap - (S.bytes : Int)) := hL
  have hL1 : -9000000000000000000 ≤ L ∧ L ≤ 9000000000000000000 := by rw [hL]; omega
  obtain ⟨hL2, hL3⟩ := hL1
  obtain ⟨x, f, hx, hi, hf2, hr, hlook⟩ := hok.get hfT
  have HX : Hid (S.fileNo n = x.file ∧ S.fileOf n = f) := by
    have hx' := hx
    rw [s1] at hx'
    rw [s2] at hf2
    exact ⟨fileNo_get hx', fileOf_get hx' hf2⟩
  have hfd : f.data.size ≤ 1000000000000 := by rw [HX.out.2] at hdf; exact hdf
  obtain ⟨i, hI⟩ : ∃ i, i = findIx n T.now := ⟨_, rfl⟩
  rw [← hI] at cf hx hi
  clear hT h s1 hs hfT hfr ho hL hI hC hdf hB s2 s5 sb hlook
  cases ok with
  | false =>
    go_enter Tryz.func161, Tryz.ntmps161
    go_wp2_with (first | (go_at_call 102; go_must (refine ct.mono ?_; rintro e w1 ⟨rfl, h1, g1⟩; have hc2 := st_cell h1.st 2; change w1.cell? ⟨p, 2, none⟩ = some vN at hc2)) | (go_at_call 46; go_must (refine (cf _ h1.now).mono ?_; rintro e w2 ⟨rfl, hst⟩)))
    go_ret
    rw [append_no HT.out (.inl rfl)]
    exact ⟨rfl, ⟨_, _, _, _, h1.still hst⟩, (Kept.ofGrown g1 (fun k hk => by cases hk; exact hd.out)).trans (.ofStill hst)⟩
  | true =>
    by_cases hroom : (data.size : Int) ≤ L
    · go_enter Tryz.func161, Tryz.ntmps161
      go_wp2_with (first | (go_at_call 102; go_must (refine ct.mono ?_; rintro e w1 ⟨rfl, h1, g1⟩; have hc2 := st_cell h1.st 2; change w1.cell? ⟨p, 2, none⟩ = some vN at hc2)) | (go_at_call 46; go_must (refine (cf _ h1.now).mono ?_; rintro e w2 ⟨rfl, hst⟩; have h2 := h1.still hst)) | (go_at_call 162; go_must (refine (cl _ ⟨_, _, _, _, h2⟩).mono ?_; rintro e w3 ⟨rfl, hst3⟩; have h3 := h2.still hst3)))
      clear hc2
      have hc2 := st_cell h3.st 2
      change w3.cell? ⟨p, 2, none⟩ = some vN at hc2
      have hc1 := st_cell h3.st 1
      change w3.cell? ⟨p, 1, none⟩ = some vF at hc1
      obtain ⟨gF, gN, cF, cN, rfl, rfl, hA3, hA4, hA5, hA6, hA7, hA8, hA9, hA10, hA11, hA12, hA13⟩ := at2 h3 hx hi hf2 hr
      have hmx : (maxLen : Nat) = 9223372036854775807 := rfl
      rw [hmx] at hA12 hA13
      have hpf := put_file (u := .string (f.data ++ data)) h3 (fcells_set0 _ _ _ _ hf2) (by simp)
      have kk := ((Kept.ofGrown g1 (fun k hk => by cases hk; exact hd.out)).trans (.ofStill hst)).trans (.ofStill hst3)
      have hss : (f.data ++ data).size = f.data.size + data.size := by simp
      clear h3 h2 h1 g1 hst hst3 ct cf cl hx hf2
      go_quiet (fail)
      go_wp2
      go_ret
      have e : S.append n data = (true, { T with files := T.files.set x.file ⟨f.data ++ data, f.synced⟩ }) := by
        rw [append_yes HT.out HF.out (by rw [← HL.out]; exact hroom), HX.out.1, HX.out.2]
      rw [e]
      exact ⟨rfl, hpf.1.still ⟨rfl, rfl, rfl, rfl, Nat.le_add_right _ _⟩, kk.trans (hpf.2.trans (.ofStill ⟨rfl, rfl, rfl, rfl, Nat.le_add_right _ _⟩))⟩
    · go_enter Tryz.func161, Tryz.ntmps161
      go_wp2_with (first | (go_at_call 102; go_must (refine ct.mono ?_; rintro e w1 ⟨rfl, h1, g1⟩; have hc2 := st_cell h1.st 2; change w1.cell? ⟨p, 2, none⟩ = some vN at hc2)) | (go_at_call 46; go_must (refine (cf _ h1.now).mono ?_; rintro e w2 ⟨rfl, hst⟩; have h2 := h1.still hst)) | (go_at_call 162; go_must (refine (cl _ ⟨_, _, _, _, h2⟩).mono ?_; rintro e w3 ⟨rfl, hst3⟩; have h3 := h2.still hst3)))
      go_ret
      rw [append_no HT.out (.inr (.inr (by rw [← HL.out]; omega)))]
      exact ⟨rfl, ⟨_, _, _, _, h3⟩, ((Kept.ofGrown g1 (fun k hk => by cases hk; exact hd.out)).trans (.ofStill hst)).trans (.ofStill hst3)⟩
end Go.Proofs.YtbjgpfhbdmcbbabGreatDoor.disk

/-
  CONTRACTS of package disk: Sync, Read.
-/
namespace Go.Proofs.YtbjgpfhbdmcbbabGreatDoor.disk
open Go.RowKit dnamath dna diskm
set_option linter.unusedVariables false

set_option maxHeartbeats 2000000 in
set_option maxRecDepth 100000 in
theorem Sync_any {Bo : Nat} (p : Nat) (S : DS) (N : Nat) (n : ByteArray) (w : World) (hD : Disk Bo w p S) (ho : S.Ok N) (hN : N ≤ 100000) (hfr : findIs n S.now = true) (hdf : (S.fileOf n).data.size ≤ 1000000000000) :
    Calls Tryz.prog 139 #[.pointer (some ⟨p, 0, none⟩), .string n] w fun e w' => e = .returned (.bool (S.sync n).1) ∧ Disk Bo w' p (S.sync n).2 ∧ Kept Bo w w' := by
  obtain ⟨vF, vN, vS, vT, h⟩ := hD
  obtain ⟨ok, T, hT⟩ : ∃ ok T, S.changes = (ok, T) := ⟨_, _, rfl⟩
  have ct := changes_any p S N vF vN vS vT w h ho (by omega)
  have hd : Hid (isDisk w p ∧ Bo ≤ p) := ⟨⟨_, _, _, h.st, .inl rfl⟩, h.p0⟩
  have hs := changes_same S
  have hok := changes_ok ho
  rw [hT] at ct hs hok
  have s1 : T.now = S.now := hs.1
  have s2 : T.files = S.files := hs.2.1
  have HT : Hid (S.changes = (ok, T)) := hT
  have hfT : findIs n T.now = true := by rw [s1]; exact hfr
  have hnl : T.now.length ≤ 100001 := Nat.le_trans hok.nl (by omega)
  have hfl : T.files.length ≤ 100001 := Nat.le_trans hok.fl (by omega)
  have cf : ∀ W : World, Names W vN T.now → Calls Tryz.prog 46 #[vN, .string n] W fun e w' => e = .returned (.tuple #[.int .i64 (findIx n T.now : Int), .bool true]) ∧ Still W w' := fun W hW => by
    have := find_any vN T.now n W hW (by omega)
    rw [hfT] at this
    exact this
  have HF : Hid (findIs n S.now = true) := hfr
  obtain ⟨x, f, hx, hi, hf2, hr, hlook⟩ := hok.get hfT
  have HX : Hid (S.fileNo n = x.file ∧ S.fileOf n = f) := by
    have hx' := hx
    rw [s1] at hx'
    rw [s2] at hf2
    exact ⟨fileNo_get hx', fileOf_get hx' hf2⟩
  have hfd : f.data.size ≤ 1000000000000 := by rw [HX.out.2] at hdf; exact hdf
  obtain ⟨i, hI⟩ : ∃ i, i = findIx n T.now := ⟨_, rfl⟩
  rw [← hI] at cf hx hi
  clear hT h s1 hs hfT hfr ho hI hdf s2 hlook
  cases ok with
  | false =>
    go_enter Tryz.func139, Tryz.ntmps139
    go_wp2_with (first | (go_at_call 102; go_must (refine ct.mono ?_; rintro e w1 ⟨rfl, h1, g1⟩; have hc2 := st_cell h1.st 2; change w1.cell? ⟨p, 2, none⟩ = some vN at hc2)) | (go_at_call 46; go_must (refine (cf _ h1.now).mono ?_; rintro e w2 ⟨rfl, hst⟩)))
    go_ret
    rw [sync_no HT.out (.inl rfl)]
    exact ⟨rfl, ⟨_, _, _, _, h1.still hst⟩, (Kept.ofGrown g1 (fun k hk => by cases hk; exact hd.out)).trans (.ofStill hst)⟩
  | true =>
    go_enter Tryz.func139, Tryz.ntmps139
    go_wp2_with (first | (go_at_call 102; go_must (refine ct.mono ?_; rintro e w1 ⟨rfl, h1, g1⟩; have hc2 := st_cell h1.st 2; change w1.cell? ⟨p, 2, none⟩ = some vN at hc2)) | (go_at_call 46; go_must (refine (cf _ h1.now).mono ?_; rintro e w2 ⟨rfl, hst⟩; have h2 := h1.still hst)))
    clear hc2
    have hc2 := st_cell h2.st 2
    change w2.cell? ⟨p, 2, none⟩ = some vN at hc2
    have hc1 := st_cell h2.st 1
    change w2.cell? ⟨p, 1, none⟩ = some vF at hc1
    obtain ⟨gF, gN, cF, cN, rfl, rfl, hA3, hA4, hA5, hA6, hA7, hA8, hA9, hA10, hA11, hA12, hA13⟩ := at2 h2 hx hi hf2 hr
    have hmx : (maxLen : Nat) = 9223372036854775807 := rfl
    rw [hmx] at hA12 hA13
    have hpf := put_file (u := .int .i64 (f.data.size : Int)) h2 (fcells_set1 _ _ _ _ hf2) (by simp)
    have kk := (Kept.ofGrown g1 (fun k hk => by cases hk; exact hd.out)).trans (.ofStill hst)
    clear h2 h1 g1 hst ct cf hx hf2
    go_quiet (fail)
    go_wp2
    go_ret
    have e : S.sync n = (true, { T with files := T.files.set x.file ⟨f.data, f.data.size⟩ }) := by
      rw [sync_yes HT.out HF.out, HX.out.1, HX.out.2]
    rw [e]
    exact ⟨rfl, hpf.1.still ⟨rfl, rfl, rfl, rfl, Nat.le_add_right _ _⟩, kk.trans (hpf.2.trans (.ofStill ⟨rfl, rfl, rfl, rfl, Nat.le_add_right _ _⟩))⟩

/-- all bytes of a file -/
def DS.all (S : DS) (n : ByteArray) : ByteArray × Bool :=
  match S.look n with
  | some f => if S.dead then (⟨#[]⟩, false) else (f.data, true)
  | none => (⟨#[]⟩, false)
theorem extract_all (s : ByteArray) : s.extract 0 s.size = s := by
  apply ByteArray.ext
  rw [ByteArray.data_extract]
  simp

set_option maxHeartbeats 1000000 in
set_option maxRecDepth 100000 in
theorem Read_any {Bo : Nat} (p : Nat) (S : DS) (N : Nat) (n : ByteArray) (w : World) (hD : Disk Bo w p S) (ho : S.Ok N) (hN : N ≤ 1000000) (hb : ∀ f, S.look n = some f → f.data.size ≤ 1000000000000) :
    Calls Tryz.prog 92 #[.pointer (some ⟨p, 0, none⟩), .string n, .int .i64 0, .int .i64 (S.size n).1] w fun e w' => e = .returned (.tuple #[.string (DS.all S n).1, .bool (DS.all S n).2]) ∧ Still w w' := by
  obtain ⟨vF, vN, vS, vT, h⟩ := hD
  have ct := find_any vN S.now n w h.now (Nat.le_trans ho.nl hN)
  obtain ⟨q, hq⟩ : ∃ q, q = DS.all S n := ⟨_, rfl⟩
  rw [← hq]
  have HQ : Hid (q = DS.all S n) := hq
  obtain ⟨z, hz⟩ : ∃ z, z = (S.size n).1 := ⟨_, rfl⟩
  rw [← hz]
  clear hq
  cases hf : findIs n S.now with
  | false =>
    rw [hf] at ct
    obtain ⟨k, hk⟩ : ∃ k, k = findIx n S.now := ⟨_, rfl⟩
    rw [← hk] at ct
    have hs : q = (⟨#[]⟩, false) := by rw [HQ.out]; unfold DS.all; rw [DS.look_none hf]
    rw [hs]
    have hc2 := st_cell h.st 2
    change w.cell? ⟨p, 2, none⟩ = some vN at hc2
    clear hs hk hf h hz hb
    go_enter Tryz.func92, Tryz.ntmps92
    go_wp2_with (go_at_call 46; go_must (refine ct.mono ?_; rintro e w1 ⟨rfl, hst⟩))
    go_ret2
    exact ⟨rfl, hst⟩
  | true =>
    rw [hf] at ct
    obtain ⟨x, f, hx, hi, hf2, hr, hlook⟩ := ho.get hf
    have hsz : q = if S.dead then (⟨#[]⟩, false) else (f.data, true) := by rw [HQ.out]; unfold DS.all; rw [hlook]
    have hzz : z = if S.dead then (0 : Int) else (f.data.size : Int) := by rw [hz]; unfold DS.size; rw [hlook]; simp only; split <;> rfl
    have hfd := hb f hlook
    obtain ⟨gF, gN, cF, cN, A⟩ := at2 h hx hi hf2 hr
    have hc2 := st_cell h.st 2
    change w.cell? ⟨p, 2, none⟩ = some vN at hc2
    have hc1 := st_cell h.st 1
    change w.cell? ⟨p, 1, none⟩ = some vF at hc1
    have hc6 := st_cell h.st 6
    change w.cell? ⟨p, 6, none⟩ = some (.int .i64 S.life) at hc6
    obtain ⟨i, hI⟩ : ∃ i, i = findIx n S.now := ⟨_, rfl⟩
    rw [← hI] at ct A
    obtain ⟨hA1, hA2, hA3, hA4, hA5, hA6, hA7, hA8, hA9, hA10, hA11, hA12, hA13⟩ := A
    rw [hA1] at hc1
    rw [hA2] at hc2 ct
    have hmx : (maxLen : Nat) = 9223372036854775807 := rfl
    rw [hmx] at hA12 hA13
    have hnl := ho.nl
    have hfl := ho.fl
    clear hI hx hf2 hr hlook hf h hA1 hA2 hmx hi hz hb
    cases hd : S.dead with
    | true =>
      rw [hd, if_pos rfl] at hsz hzz
      rw [hsz, hzz]
      have hl0 : S.life = 0 := by simpa [DS.dead] using hd
      rw [hl0] at hc6
      clear hsz hd hl0 hzz
      go_enter Tryz.func92, Tryz.ntmps92
      go_wp2_with (go_at_call 46; go_must (refine ct.mono ?_; rintro e w1 ⟨rfl, hst⟩; rw [← hst.cell] at hc6))
      go_ret2
      exact ⟨rfl, hst⟩
    | false =>
      rw [hd, if_neg (by simp)] at hsz hzz
      rw [hsz, hzz]
      have hl0 : (S.life == 0) = false := hd
      have hsl : ∀ W : World, (Instr.slice 9 (.string f.data) (some (.int .i64 0)) (some (.int .i64 (f.data.size : Int))) none).run Tryz.prog W = .ok (.string f.data) W := fun W => by
        have := run_slice_string (P := Tryz.prog) (w := W) 9 f.data .i64 .i64 0 (f.data.size : Int) Tryz.underlying9 (by omega) (by omega) (by omega)
        rw [this, Int.toNat_natCast, show (0 : Int).toNat = 0 from rfl, extract_all]
      clear hsz hd hzz
      go_enter Tryz.func92, Tryz.ntmps92
      go_wp2_with (go_at_call 46; go_must (refine ct.mono ?_; rintro e w1 ⟨rfl, hst⟩; rw [← hst.cell] at hc6 hc1 hc2 hA3 hA4))
      go_quiet (fail)
      go_wp2
      go_ret2
      exact ⟨rfl, hst.trans (Still.drewN _ _)⟩
end Go.Proofs.YtbjgpfhbdmcbbabGreatDoor.disk

/-
  errors.Is against a sentinel: the sentinel itself, and nil.
-/
namespace Go.Proofs.YtbjgpfhbdmcbbabGreatDoor.errs
open Go.RowKit Go.Extern.Stop Go.Stop Go.Extern
set_option linter.unusedVariables false

theorem isTypeOf (v : Value) (w : World) : (Extern.ReflectliteType.typeOf #[.iface 254 v]).run Tryz.prog w = .ok (.iface 153 (.agg #[.pointer (some ⟨27, 254, none⟩)])) w := by kernel_rfl
theorem isComparable (w : World) : (callFunc 226 #[.agg #[.pointer (some ⟨27, 254, none⟩)]]).run Tryz.prog w = .ok (Next.value (.bool true)) w := by kernel_rfl
theorem isMethodComparable (v : Value) (w : World) : (Go.method 414 153 v "Comparable").run Tryz.prog w = .ok (226, v) w := by kernel_rfl
theorem isComp : (Tryz.prog.info? 254).map (·.comparable) = some true := by kernel_rfl
theorem isSize : (Tryz.prog.info? 256).map (·.size) = some 1 := by kernel_rfl

set_option maxHeartbeats 2000000 in
set_option maxRecDepth 100000 in
theorem is_same (a : Addr) (w : World) :
    Calls Tryz.prog 81 #[.iface 254 (.pointer (some a)), .iface 254 (.pointer (some a))] w fun e w' => e = .returned (.bool true) ∧ w' = w := by
  obtain ⟨i, hi, hcmp⟩ := Option.map_eq_some_iff.1 isComp
  obtain ⟨j, hj, hjs⟩ := Option.map_eq_some_iff.1 isSize
  have h8 := @run_callFunc_extern Tryz.prog 77 _ Extern.ReflectliteType.typeOf Tryz.func77 (by kernel_rfl) (by kernel_rfl) (by kernel_rfl) (by kernel_rfl)
  have tT := isTypeOf
  have cT := isComparable
  have mR := isMethodComparable
  have heq := run_eql_iface_ptr_same (P := Tryz.prog) w a Tryz.underlying66 Tryz.underlying254 hi hcmp hj
  go_enter Tryz.func81, Tryz.ntmps81
  go_wp2
  refine wp_loop_rounds 1 ?_
  rw [rounds_succ]
  go_wp2
  go_ret
  exact ⟨rfl, rfl⟩

set_option maxRecDepth 100000 in
theorem is_nil (b : Addr) (w : World) :
    Calls Tryz.prog 81 #[.nilIface, .iface 254 (.pointer (some b))] w fun e w' => e = .returned (.bool false) ∧ w' = w := by
  have hn := run_eql_iface_nil_left (P := Tryz.prog) w 254 (.pointer (some b)) Tryz.underlying66
  go_enter Tryz.func81, Tryz.ntmps81
  go_wp2
  go_ret
  exact ⟨rfl, rfl⟩
end Go.Proofs.YtbjgpfhbdmcbbabGreatDoor.errs

/-
  errors.Is at a fault that wraps a sentinel: that sentinel, and another one; isGone.
-/
namespace Go.Proofs.YtbjgpfhbdmcbbabGreatDoor.errs
open Go.RowKit Go.Extern.Stop Go.Stop Go.Extern
set_option linter.unusedVariables false

theorem noIsW (v : Value) (xT : TypeId) (w : World) : (Instr.typeAssert (.iface 85 v) xT 231 true).run Tryz.prog w = .ok (.tuple #[.nilIface, .bool false]) w := run_typeAssert_lacksB Tryz.underlying231 (by kernel_rfl) (by kernel_rfl) v xT w
theorem hasUnwrapW (v : Value) (xT : TypeId) (w : World) : (Instr.typeAssert (.iface 85 v) xT 161 true).run Tryz.prog w = .ok (.tuple #[.iface 85 v, .bool true]) w := run_typeAssert_hasB Tryz.underlying161 (by kernel_rfl) v xT w
theorem noIsE (v : Value) (xT : TypeId) (w : World) : (Instr.typeAssert (.iface 254 v) xT 231 true).run Tryz.prog w = .ok (.tuple #[.nilIface, .bool false]) w := run_typeAssert_lacksB Tryz.underlying231 (by kernel_rfl) (by kernel_rfl) v xT w
theorem noUnwrapE (v : Value) (xT : TypeId) (w : World) : (Instr.typeAssert (.iface 254 v) xT 161 true).run Tryz.prog w = .ok (.tuple #[.nilIface, .bool false]) w := run_typeAssert_lacksB Tryz.underlying161 (by kernel_rfl) (by kernel_rfl) v xT w
theorem noUnwrapsE (v : Value) (xT : TypeId) (w : World) : (Instr.typeAssert (.iface 254 v) xT 162 true).run Tryz.prog w = .ok (.tuple #[.nilIface, .bool false]) w := run_typeAssert_lacksB Tryz.underlying162 (by kernel_rfl) (by kernel_rfl) v xT w
theorem methodUnwrap (v : Value) (w : World) : (Go.method 414 85 v "Unwrap").run Tryz.prog w = .ok (220, v) w := by kernel_rfl

set_option maxHeartbeats 2000000 in
set_option maxRecDepth 100000 in
theorem is_wrap (eb : Nat) (a : Addr) (w : World) (hc : w.cell? ⟨eb, 2, none⟩ = some (.iface 254 (.pointer (some a)))) :
    Calls Tryz.prog 81 #[.iface 85 (.pointer (some ⟨eb, 0, none⟩)), .iface 254 (.pointer (some a))] w fun e w' => e = .returned (.bool true) ∧ w' = w := by
  obtain ⟨i, hi, hcmp⟩ := Option.map_eq_some_iff.1 isComp
  obtain ⟨j, hj, hjs⟩ := Option.map_eq_some_iff.1 isSize
  have h8 := @run_callFunc_extern Tryz.prog 77 _ Extern.ReflectliteType.typeOf Tryz.func77 (by kernel_rfl) (by kernel_rfl) (by kernel_rfl) (by kernel_rfl)
  have tT := isTypeOf
  have cT := isComparable
  have mR := isMethodComparable
  have heq := run_eql_iface_ptr_same (P := Tryz.prog) w a Tryz.underlying66 Tryz.underlying254 hi hcmp hj
  have hne := run_eql_iface_types (P := Tryz.prog) 85 254 (.pointer (some ⟨eb, 0, none⟩)) (.pointer (some a)) Tryz.underlying66 (by decide) w
  have a1 := noIsW
  have a2 := hasUnwrapW
  have a3 := methodUnwrap
  go_enter Tryz.func81, Tryz.ntmps81
  go_wp2
  refine wp_loop_rounds 2 ?_
  rw [rounds_succ]
  go_wp2
  rw [rounds_succ]
  go_wp2
  go_ret
  exact ⟨rfl, rfl⟩
set_option maxHeartbeats 2000000 in
set_option maxRecDepth 100000 in
/-- .. and another one -/
theorem is_wrap_other (eb : Nat) (a b : Addr) (w : World) (hc : w.cell? ⟨eb, 2, none⟩ = some (.iface 254 (.pointer (some b)))) {ca cb : Array Value} {ta tb : TypeId} (hne : b ≠ a) (ha : w.heap[a.block]? = some (.cells ca ta (0, 0))) (hb : w.heap[b.block]? = some (.cells cb tb (0, 0))) :
    Calls Tryz.prog 81 #[.iface 85 (.pointer (some ⟨eb, 0, none⟩)), .iface 254 (.pointer (some a))] w fun e w' => e = .returned (.bool false) ∧ w' = w := by
  obtain ⟨i, hi, hcmp⟩ := Option.map_eq_some_iff.1 isComp
  obtain ⟨j, hj, hjs⟩ := Option.map_eq_some_iff.1 isSize
  have h8 := @run_callFunc_extern Tryz.prog 77 _ Extern.ReflectliteType.typeOf Tryz.func77 (by kernel_rfl) (by kernel_rfl) (by kernel_rfl) (by kernel_rfl)
  have tT := isTypeOf
  have cT := isComparable
  have mR := isMethodComparable
  have heq := run_eql_iface_ptr_other (P := Tryz.prog) w (a := b) (b := a) Tryz.underlying66 Tryz.underlying254 hi hcmp hj (by rw [hjs]; decide) hne hb ha
  have hne2 := run_eql_iface_types (P := Tryz.prog) 85 254 (.pointer (some ⟨eb, 0, none⟩)) (.pointer (some a)) Tryz.underlying66 (by decide) w
  have a1 := noIsW
  have a2 := hasUnwrapW
  have a3 := methodUnwrap
  have a4 := noIsE
  have a5 := noUnwrapE
  have a6 := noUnwrapsE
  clear ha hb hne
  go_enter Tryz.func81, Tryz.ntmps81
  go_wp2
  refine wp_loop_rounds 2 ?_
  rw [rounds_succ]
  go_wp2
  rw [rounds_succ]
  go_wp2
  go_ret
  exact ⟨rfl, rfl⟩
end Go.Proofs.YtbjgpfhbdmcbbabGreatDoor.errs
