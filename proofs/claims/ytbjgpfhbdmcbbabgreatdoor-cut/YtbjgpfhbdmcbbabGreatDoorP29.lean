import Derived.Test.YtbjgpfhbdmcbbabGreatDoorP28

/-
  CONTRACTS of package files on a disk that may die: flush, Seal.
-/
namespace Go.Proofs.YtbjgpfhbdmcbbabGreatDoor.files
open Go.RowKit dnamath dna diskm disk keep hex
set_option linter.unusedVariables false

set_option maxHeartbeats 1000000 in
set_option maxRecDepth 100000 in
theorem flush_m {aF : Addr} {Bo : Nat} (b o : Nat) (cs : Array Value) (T : TypeId) (p : Nat) (n h : ByteArray) (sum wr : Nat) (wv : Value) (W : List UInt8) (S : DS) (N : Nat) (w : World) (H : FileAt Bo w b o cs T p n h sum wr wv W)
    (hD : Disk Bo w p S) (ho : S.Ok N) (hN : N ≤ 10000) (hfa : FailIs aF w) (hdd : (S.append draftB ⟨W.toArray⟩).1 = false → (S.append draftB ⟨W.toArray⟩).2.life = 0) (hf : findIs draftB S.now = true) (hW : 0 < W.length) (hW2 : W.length ≤ 1000000) (hB : S.bytes ≤ 1000000000000) (hC : S.cap = 1152921504606846976) (hfo : (S.fileOf draftB).data.size ≤ 1000000) :
    Calls Tryz.prog 138 #[.pointer (some ⟨b, o, none⟩)] w fun e w' => (((S.append draftB ⟨W.toArray⟩).1 = true ∧ e = .returned .nilIface ∧ FileAt Bo w' b o (fset cs o sum wr (.slice none 0 0)) T p n h sum wr (.slice none 0 0) []) ∨ ((S.append draftB ⟨W.toArray⟩).1 = false ∧ ∃ v, e = .returned v ∧ DiskErr aF w' v)) ∧ Disk Bo w' p (S.append draftB ⟨W.toArray⟩).2 ∧ FK Bo b w w' := by
  have h0 : w.cell? ⟨b, o, none⟩ = some (.pointer (some ⟨p, 0, none⟩)) := (st_cell H.blk _).trans H.c0
  have e5 : w.cell? ⟨b, o + 5, none⟩ = some wv := (st_cell H.blk _).trans H.c5
  have hsz : (⟨W.toArray⟩ : ByteArray).size = W.length := by rw [Lib.size_eq]
  have ca : ∀ W', Still w W' → Calls Tryz.prog 161 #[.pointer (some ⟨p, 0, none⟩), .string draftB, .string ⟨W.toArray⟩] W' fun e w' => e = .returned (.bool (S.append draftB ⟨W.toArray⟩).1) ∧ Disk Bo w' p (S.append draftB ⟨W.toArray⟩).2 ∧ Kept Bo W' w' := fun W' hW' => by
    have := Append_any p S N draftB ⟨W.toArray⟩ W' (hD.still hW') ho (by omega) hf (by omega) (by omega) (by rw [hsz]; omega) (by omega)
    exact this
  obtain ⟨aW, cW, rfl⟩ := own_slice H.own
  have hcv : ∀ W' : World, Still w W' → (convert 53 9 (.slice aW W.length cW)).run Tryz.prog W' = .ok (.string ⟨W.toArray⟩) W' := fun W' hW' => conv_own (hW'.owns H.own)
  have hcv2 := hcv w.drew ⟨rfl, rfl, rfl, rfl, Nat.le_add_right _ _⟩
  have hcvK : ∀ W1 : World, Kept Bo w.drew W1 → (convert 53 9 (.slice aW W.length cW)).run Tryz.prog W1 = .ok (.string ⟨W.toArray⟩) W1 := fun W1 hk => conv_own ((H.still (⟨rfl, rfl, rfl, rfl, Nat.le_add_right _ _⟩ : Still w w.drew)).kept hk).own
  have h0K : ∀ W1 : World, Kept Bo w.drew W1 → W1.cell? ⟨b, o, none⟩ = some (.pointer (some ⟨p, 0, none⟩)) := fun W1 hk => by
    have H1 := (H.still (⟨rfl, rfl, rfl, rfl, Nat.le_add_right _ _⟩ : Still w w.drew)).kept hk
    exact (st_cell H1.blk _).trans H1.c0
  have e5K : ∀ W1 : World, Kept Bo w.drew W1 → W1.cell? ⟨b, o + 5, none⟩ = some (.slice aW W.length cW) := fun W1 hk => by
    have H1 := (H.still (⟨rfl, rfl, rfl, rfl, Nat.le_add_right _ _⟩ : Still w w.drew)).kept hk
    exact (st_cell H1.blk _).trans H1.c5
  have hne : ((W.length : Int) == 0) = false := beq_eq_false_iff_ne.2 (by omega)
  obtain ⟨m, hm⟩ : ∃ m, m = W.length := ⟨_, rfl⟩
  have HH : Hid (FileAt Bo w b o cs T p n h sum wr (.slice aW W.length cW) W) := H
  obtain ⟨X, hX⟩ : ∃ X : ByteArray, X = ⟨W.toArray⟩ := ⟨_, rfl⟩
  rw [← hX] at ca hcv2 hdd ⊢
  simp only [← hX] at hcvK
  rw [← hm] at hne hcv2 e5
  simp only [← hm] at hcvK e5K
  have HFA : Hid (FailIs aF w) := hfa
  obtain ⟨ok, S2, hS2⟩ : ∃ ok S2, S.append draftB X = (ok, S2) := ⟨_, _, rfl⟩
  simp only [hS2] at ca hdd ⊢
  have HDD : Hid (ok = false → S2.life = 0) := hdd
  clear hD ho hf H hB hC hfo hcv hsz hm hX hW hW2 hfa hdd hS2
  cases ok with
  | true =>
    go_enter Tryz.func138, Tryz.ntmps138
    go_wp2
    have AK : Hid (∀ W1 : World, Kept Bo w.drew W1 → W1.cell? ⟨b, o, none⟩ = some (.pointer (some ⟨p, 0, none⟩)) ∧ W1.cell? ⟨b, o + 5, none⟩ = some (.slice aW m cW) ∧ (convert 53 9 (.slice aW m cW)).run Tryz.prog W1 = .ok (.string X) W1) := fun W1 hk => ⟨h0K W1 hk, e5K W1 hk, hcvK W1 hk⟩
    clear h0K e5K hcvK
    go_region_held3 (fun w' => w'.cell? ⟨b, o, none⟩ = some (.pointer (some ⟨p, 0, none⟩)) ∧ w'.cell? ⟨b, o + 5, none⟩ = some (.slice aW m cW) ∧ (convert 53 9 (.slice aW m cW)).run Tryz.prog w' = .ok (.string X) w') (first | exact ⟨h0, e5, hcv2⟩ | exact AK.out _ (by assumption)) (first | (go_at_call 161; refine (ca _ ?_).mono ?_; (exact ⟨rfl, rfl, rfl, rfl, Nat.le_add_right _ _⟩); rintro e w1 ⟨rfl, d1, k1⟩))
    all_goals
      have H1 := (HH.out.still (⟨rfl, rfl, rfl, rfl, Nat.le_add_right _ _⟩ : Still w w.drew)).kept k1
      have e5 := (st_cell H1.blk (o + 5)).trans H1.c5
      have f5 := st_frozen H1.blk (o + 5)
      obtain ⟨H2, K2⟩ := H1.set5
      have kk : Hid (FK Bo b w w1) := (FK.ofKept (Kept.drew w)).trans (FK.ofKept k1)
      have HN1 := H1.notDisk
      clear H1 k1 HH
      go_wp2
      go_ret
      exact ⟨.inl ⟨by simp, rfl, H2⟩, K2.disk d1 HN1, kk.out.trans (FK.ofWK K2)⟩
  | false =>
    go_enter Tryz.func138, Tryz.ntmps138
    go_wp2
    have AK : Hid (∀ W1 : World, Kept Bo w.drew W1 → W1.cell? ⟨b, o, none⟩ = some (.pointer (some ⟨p, 0, none⟩)) ∧ W1.cell? ⟨b, o + 5, none⟩ = some (.slice aW m cW) ∧ (convert 53 9 (.slice aW m cW)).run Tryz.prog W1 = .ok (.string X) W1) := fun W1 hk => ⟨h0K W1 hk, e5K W1 hk, hcvK W1 hk⟩
    clear h0K e5K hcvK
    go_region_held3 (fun w' => w'.cell? ⟨b, o, none⟩ = some (.pointer (some ⟨p, 0, none⟩)) ∧ w'.cell? ⟨b, o + 5, none⟩ = some (.slice aW m cW) ∧ (convert 53 9 (.slice aW m cW)).run Tryz.prog w' = .ok (.string X) w') (first | exact ⟨h0, e5, hcv2⟩ | exact AK.out _ (by assumption)) (first | (go_at_call 161; refine (ca _ ?_).mono ?_; (exact ⟨rfl, rfl, rfl, rfl, Nat.le_add_right _ _⟩); rintro e w1 ⟨rfl, d1, k1⟩))
    all_goals
      have H1 := (HH.out.still (⟨rfl, rfl, rfl, rfl, Nat.le_add_right _ _⟩ : Still w w.drew)).kept k1
      have KK : Kept Bo w w1 := (Kept.drew w).trans k1
      have x0 : w1.cell? ⟨b, o, none⟩ = some (.pointer (some ⟨p, 0, none⟩)) := (st_cell H1.blk _).trans H1.c0
      have hd2 : S2.dead = true := by unfold DS.dead; rw [HDD.out (by simp)]; rfl
      have cdd : Calls Tryz.prog 37 #[.pointer (some ⟨p, 0, none⟩)] w1 fun e w' => e = .returned (.bool true) ∧ w' = w1 := by
        obtain ⟨vF, vN, vS, vT, h⟩ := d1
        have := Dead_any p S2 vF vN vS vT w1 h
        rw [hd2] at this
        exact this
      have cf := File_failed (Bo := Bo) b o n w1 ((st_cell H1.blk _).trans H1.c1) (HFA.out.kept KK)
      clear H1 k1 HH ca hd2 AK
      go_wp2_with fail
      refine cdd.mono ?_
      rintro e w2 ⟨rfl, hw2⟩
      have hw2' := hw2.symm
      subst hw2'
      clear hw2 cdd
      go_wp2_with fail
      refine cf.mono ?_
      rintro e w3 ⟨v, rfl, hv, b3⟩
      obtain ⟨eb, s, a, hve, hvb⟩ := hv
      subst hve
      go_wp2
      go_ret
      exact ⟨.inr ⟨by simp, _, rfl, eb, s, a, rfl, hvb⟩, d1.below b3, FK.ofKept (KK.trans (.ofBelow b3))⟩
end Go.Proofs.YtbjgpfhbdmcbbabGreatDoor.files

/-
  CONTRACTS of package files on a disk that may die: Seal.
-/
namespace Go.Proofs.YtbjgpfhbdmcbbabGreatDoor.files
open Go.RowKit dnamath dna diskm disk keep hex
set_option linter.unusedVariables false
set_option linter.unusedSimpArgs false

set_option maxHeartbeats 4000000 in
set_option maxRecDepth 100000 in
theorem Seal_m {aF : Addr} {Bo : Nat} (A : List UInt8 → DFile → Prop) (b o : Nat) (cs : Array Value) (T : TypeId) (p : Nat) (n h : ByteArray) (sum wr : Nat) (wv : Value) (W : List UInt8) (S0 S : DS) (i N : Nat) (a bb : Addr) (w : World) (H : FileAt Bo w b o cs T p n h sum wr wv W)
    (hg : Gs w a bb) (hfa : FailIs aF w) (hD : Disk Bo w p S) (hDr : Draft A draftB S0 S i ⟨ByteArray.empty, 0⟩ N) (hN : N ≤ 9000) (hs : sum < 18446744073709551616) (hwr : wr ≤ 60000) (hW2 : W.length ≤ 60000) (hb0 : 27 ≤ b) (hn : n.size ≠ 0) (hnd : strEq draftB n = false) (hsl : (sealL wr sum).length ≤ 100) (hA : A n.toList ⟨⟨(W ++ sealL wr sum).toArray⟩, (W ++ sealL wr sum).length⟩) :
    Calls Tryz.prog 114 #[.pointer (some ⟨b, o, none⟩)] w fun e w' => ((∃ s' r', e = .returned .nilIface ∧ FileAt Bo w' b o (fset cs o s' r' (.slice none 0 0)) T p n h s' r' (.slice none 0 0) []) ∧ ∃ S', Disk Bo w' p S' ∧ Live A draftB S' (N + 5) ∧ (∀ R P : List UInt8 → Prop, P n.toList → Went R P draftB S0 S') ∧ S'.look n = some ⟨⟨(W ++ sealL wr sum).toArray⟩, (W ++ sealL wr sum).length⟩ ∧ findIs draftB S'.now = false ∧ Stay S0 S' (fun k => k = draftB.toList ∨ k = n.toList) ∧ S'.safe = S'.now ∧ S'.steps = [] ∧ FK Bo b w w') ∨ (∃ v S', e = .returned v ∧ DiskErr aF w' v ∧ Disk Bo w' p S' ∧ (∀ R P : List UInt8 → Prop, P n.toList → Cutt A R P draftB S0 S' (N + 5)) ∧ FK Bo b w w') := by
  have e3 : w.cell? ⟨b, o + 3, none⟩ = some (.int .u64 (sum : Int)) := (st_cell H.blk _).trans H.c3
  have e4 : w.cell? ⟨b, o + 4, none⟩ = some (.int .i64 (wr : Int)) := (st_cell H.blk _).trans H.c4
  have cse : ∀ W', Still w W' → Calls Tryz.prog 96 #[.int .i64 (wr : Int), .int .u64 (sum : Int)] W' fun e w' => ∃ q : ByteArray, e = .returned (.string q) ∧ q.data.toList = sealL wr sum ∧ Below W'.heap.size W' w' := fun W' hW' => sealOf_any wr sum a bb W' (by omega) hs (hg.kept (Kept.ofStill (Bo := 0) hW')) (by omega)
  have cwr : ∀ (W' : World) (q : ByteArray), Below w.heap.size w W' → q.data.toList = sealL wr sum → Calls Tryz.prog 113 #[.pointer (some ⟨b, o, none⟩), .string q] W' fun e w' => ∃ wv', e = .returned .nilIface ∧ FileAt Bo w' b o (fset cs o (sumL sum q.data.toList) (wr + q.size) wv') T p n h (sumL sum q.data.toList) (wr + q.size) wv' (W ++ q.data.toList) ∧ WK Bo b W' w' := fun W' q hW' hq =>
    Write_any b o cs T p n h sum wr wv W q W' (H.kept (.ofBelow hW')) hs (by omega) (by have h9 : q.size = (sealL wr sum).length := (by rw [Lib.size_eq, hq]); omega)
  have HH : Hid (FileAt Bo w b o cs T p n h sum wr wv W ∧ FailIs aF w) := ⟨H, hfa⟩
  clear H
  have hsl1 : 1 ≤ (sealL wr sum).length := by unfold sealL; simp
  obtain ⟨Q, hQ⟩ : ∃ Q, Q = sealL wr sum := ⟨_, rfl⟩
  simp only [← hQ] at cse cwr hsl hsl1 hA ⊢
  obtain ⟨W2, hW2e⟩ : ∃ W2, W2 = W ++ Q := ⟨_, rfl⟩
  have hWl : W2.length = W.length + Q.length := by rw [hW2e, List.length_append]
  have hXs : (⟨W2.toArray⟩ : ByteArray).size = W2.length := by rw [Lib.size_eq]
  rw [← hW2e] at hA ⊢
  obtain ⟨hf1, hf2, hf3, _⟩ := hDr.find
  have hbm : N * 1000000 ≤ 9000 * 1000000 := Nat.mul_le_mul hN (Nat.le_refl _)
  have hbs := bytes_small hDr.live.sound.sane hDr.live.ok
  have hemp : (ByteArray.empty ++ (⟨W2.toArray⟩ : ByteArray)) = ⟨W2.toArray⟩ := by simp
  have hac := app_cases hDr ⟨W2.toArray⟩ (by show ByteArray.empty.size + _ ≤ _; rw [hXs]; have : ByteArray.empty.size = 0 := rfl; omega) (by omega)
  have cfl : ∀ (w2 : World) (cs2 : Array Value) (s2 r2 : Nat) (wv2 : Value), FileAt Bo w2 b o cs2 T p n h s2 r2 wv2 W2 → Disk Bo w2 p S → FailIs aF w2 → _ := fun w2 cs2 s2 r2 wv2 h2 d2 f2 =>
    flush_m b o cs2 T p n h s2 r2 wv2 W2 S N w2 h2 d2 hDr.live.ok (by omega) f2 (fun h0 => by
      rcases hac with h9 | h9
      · rw [h9.1] at h0; cases h0
      · exact (h9.2 (fun _ => False) (fun _ => False)).dead) hf1 (by omega) (by omega) (by omega) hDr.live.cap (by rw [hf3]; exact Nat.zero_le _)
  have HAC : Hid (((S.append draftB ⟨W2.toArray⟩).1 = true ∧ Draft A draftB S0 (S.append draftB ⟨W2.toArray⟩).2 i ⟨⟨W2.toArray⟩, 0⟩ (N + 1)) ∨ ((S.append draftB ⟨W2.toArray⟩).1 = false ∧ ∀ R P, Cutt A R P draftB S0 (S.append draftB ⟨W2.toArray⟩).2 (N + 1))) := by
    rcases hac with h9 | h9
    · left
      have := h9.2
      rw [show (ByteArray.empty ++ (⟨W2.toArray⟩ : ByteArray)) = ⟨W2.toArray⟩ from hemp] at this
      exact ⟨h9.1, this⟩
    · exact .inr h9
  obtain ⟨X, hX⟩ : ∃ X : ByteArray, X = ⟨W2.toArray⟩ := ⟨_, rfl⟩
  simp only [← hX] at hXs cfl HAC hA ⊢
  obtain ⟨ok2, S2, hS2⟩ : ∃ ok S2, S.append draftB X = (ok, S2) := ⟨_, _, rfl⟩
  simp only [hS2] at cfl HAC
  rw [← hXs] at hA ⊢
  have HA : Hid (A n.toList ⟨X, X.size⟩) := hA
  have HW2 : Hid (W2 = W ++ Q) := hW2e
  have hXm : X.size ≤ 70000 := by omega
  clear hac hf1 hf2 hf3 hbm hbs hemp hS2 hX hWl hXs hW2e hg hfa hQ hA
  go_enter Tryz.func114, Tryz.ntmps114
  go_wp2
  go_region_with (first | (go_at_call 96; go_must (refine (cse w.drew ⟨rfl, rfl, rfl, rfl, Nat.le_add_right _ _⟩).mono ?_; rintro e w1 ⟨q, rfl, hq, hb1⟩; have hb1' : Below w.heap.size w w1 := ((⟨rfl, rfl, rfl, rfl, Nat.le_add_right _ _⟩ : Still w w.drew).below _).trans hb1)) | (go_at_call 113; go_must (refine (cwr w1 q hb1' hq).mono ?_; rintro e w2 ⟨wv2, rfl, h2, k2⟩)))
  all_goals
    have K2 : Hid (FK Bo b w w2) := (FK.ofKept (.ofBelow hb1')).trans (FK.ofWK k2)
    have d2 := k2.disk (hD.below hb1') (HH.out.1.kept (.ofBelow hb1')).notDisk
    have f2 : FailIs aF w2 := by
      obtain ⟨csf, Tf, fzf, af, hf1, hf2, hf3⟩ := HH.out.2.below hb1'
      have hnb : 10 ≠ b := Nat.ne_of_lt (Nat.lt_of_lt_of_le (by decide) hb0)
      exact ⟨csf, Tf, fzf, af, (k2.block _ (lt_of_block hf1) hnb (fun ⟨cs', fz', e⟩ => by rw [hf1] at e; cases e; exact absurd hf2 (by decide))).trans hf1, hf2, hf3⟩
    obtain ⟨s2, hs2⟩ : ∃ s2, s2 = sumL sum q.data.toList := ⟨_, rfl⟩
    obtain ⟨r2, hr2⟩ : ∃ r2, r2 = wr + q.size := ⟨_, rfl⟩
    rw [← hs2, ← hr2, hq, ← HW2.out] at h2
    have cf2 := cfl w2 _ s2 r2 wv2 h2 d2 f2
    rw [fset_fset] at cf2
    have HF2 : Hid (FailIs aF w2) := f2
    clear hr2 hs2 h2 d2 k2 hb1 hb1' hq hD cse cwr e3 e4 cfl f2
    cases ok2 with
    | false =>
      go_wp2_with fail
      refine cf2.mono ?_
      rintro e w3 ⟨hr3, d3, k3⟩
      obtain ⟨v, rfl, hv⟩ := (hr3.resolve_left (fun h => absurd h.1 (by decide))).2
      obtain ⟨eb, s, a, hve, hvb⟩ := hv
      subst hve
      have HE : Hid (w3.heap[eb]? = some (.cells #[.int .i64 8, .string s, .iface 254 (.pointer (some a))] 89 (0, 0)) ∧ Disk Bo w3 p S2 ∧ FK Bo b w w3) := ⟨hvb, d3, K2.out.trans k3⟩
      clear hr3 d3 k3 cf2 hvb
      go_wp2
      go_ret
      exact .inr ⟨_, S2, rfl, ⟨eb, s, a, rfl, HE.out.1⟩, HE.out.2.1, fun R P _ => ((HAC.out.resolve_left (fun h => absurd h.1 (by decide))).2 R P).more (fun _ h => h) (fun _ h => h) (by omega), HE.out.2.2⟩
    | true =>
      have D2 := (HAC.out.resolve_right (fun h => absurd h.1 (by decide))).2
      obtain ⟨hf1, hf2, hf3, _⟩ := D2.find
      have hsc := syn_cases D2
      have csy : ∀ W', Disk Bo W' p S2 → Calls Tryz.prog 139 #[.pointer (some ⟨p, 0, none⟩), .string draftB] W' fun e w' => e = .returned (.bool (S2.sync draftB).1) ∧ Disk Bo w' p (S2.sync draftB).2 ∧ Kept Bo W' w' := fun W' hW' => Sync_any p S2 (N + 1) draftB W' hW' D2.live.ok (by omega) hf1 (by rw [hf3]; show X.size ≤ _; omega)
      obtain ⟨ok3, S3, hS3⟩ : ∃ ok S3, S2.sync draftB = (ok, S3) := ⟨_, _, rfl⟩
      simp only [hS3] at hsc csy
      have HSC : Hid ((ok3 = true ∧ Draft A draftB S0 S3 i ⟨X, X.size⟩ (N + 1 + 1)) ∨ (ok3 = false ∧ ∀ R P, Cutt A R P draftB S0 S3 (N + 1 + 1))) := hsc
      clear hsc hS3 D2 hf1 hf2 hf3
      go_upto_region 7 with (go_at_call 138; go_must (refine cf2.mono ?_; rintro e w3 ⟨hr3, d3, k3⟩; obtain ⟨rfl, h3⟩ := (hr3.resolve_right (fun h => absurd h.1 (by decide))).2))
      have AK : Hid (∀ W1 : World, Kept Bo w3 W1 → W1.cell? ⟨b, o, none⟩ = some (.pointer (some ⟨p, 0, none⟩)) ∧ W1.cell? ⟨b, o + 1, none⟩ = some (.string n)) := fun W1 hk => by
        have H1 := h3.kept hk
        exact ⟨(st_cell H1.blk _).trans H1.c0, (st_cell H1.blk _).trans H1.c1⟩
      have F3 : Hid (FailIs aF w3 ∧ FK Bo b w w3) := by
        refine ⟨?_, K2.out.trans k3⟩
        obtain ⟨csf, Tf, fzf, af, hf1, hf2, hf3⟩ := HF2.out
        have hnb : 10 ≠ b := Nat.ne_of_lt (Nat.lt_of_lt_of_le (by decide) hb0)
        exact ⟨csf, Tf, fzf, af, (k3.block _ (lt_of_block hf1) hnb (fun ⟨cs', fz', e⟩ => by rw [hf1] at e; cases e; exact absurd hf2 (by decide)) (by
          rintro ⟨cs', T', fz', e, hd⟩
          rw [hf1] at e
          cases e
          rcases hd with h | h | h | h <;> (rw [hf2] at h; exact absurd h (by decide)))).trans hf1, hf2, hf3⟩
      clear hr3 cf2
      cases ok3 with
      | false =>
        refine wp_region_held_drew (S := fun w' => w'.cell? ⟨b, o, none⟩ = some (.pointer (some ⟨p, 0, none⟩))) (by kernel_rfl) ((AK.out _ (Kept.drew _)).1) (fun hHeld => ?_)
        refine' wpAnyH_take (i := 0) (oi := _) (v := _) ?_ (by kernel_rfl) (by kernel_rfl) (by kernel_rfl) ?_ (Or.inl ⟨?_, ?_⟩) (by assumption) ?_
        rotate_left 2
        · (simp only [List.getElem?_toArray, List.getElem?_cons_succ, List.getElem?_cons_zero]; first | done | rfl)
        · exact fun _ _ _ h => h
        · rfl
        · (intro w hSw; (try dsimp only at hSw); go_simp; first | done | with_reducible rfl)
        simp only [Act.put, List.setIfInBounds_toArray, List.set_cons_zero, List.set_cons_succ]
        refine' wpAnyH_take (i := 1) (oi := _) (v := _) ?_ (by kernel_rfl) (by kernel_rfl) (by kernel_rfl) ?_ (Or.inl ⟨?_, ?_⟩) (by assumption) ?_
        rotate_left 2
        · (simp only [List.getElem?_toArray, List.getElem?_cons_succ, List.getElem?_cons_zero]; first | done | rfl)
        · exact fun _ _ _ h => h
        · rfl
        · (intro w hSw; (try dsimp only at hSw); go_simp; first | done | with_reducible rfl)
        simp only [Act.put, List.setIfInBounds_toArray, List.set_cons_zero, List.set_cons_succ]
        refine' wpAnyH_take (i := 2) (oi := _) (v := _) ?_ (by kernel_rfl) (by kernel_rfl) (by kernel_rfl) ?_ (Or.inl ⟨?_, ?_⟩) (by assumption) ?_
        rotate_left 2
        · (simp only [List.getElem?_toArray, List.getElem?_cons_succ, List.getElem?_cons_zero]; first | done | rfl)
        · exact fun _ _ _ h => h
        · rfl
        · (intro w hSw; (try dsimp only at hSw); go_simp; first | done | with_reducible rfl)
        simp only [Act.put, List.setIfInBounds_toArray, List.set_cons_zero, List.set_cons_succ]
        refine' wpAnyH_take (i := 3) (oi := _) (v := _) ?_ (by kernel_rfl) (by kernel_rfl) (by kernel_rfl) ?_ (Or.inl ⟨?_, ?_⟩) (by assumption) ?_
        rotate_left 2
        · (simp only [List.getElem?_toArray, List.getElem?_cons_succ, List.getElem?_cons_zero]; first | done | rfl)
        · exact fun _ _ _ h => h
        · rfl
        · (intro w hSw; (try dsimp only at hSw); go_simp; first | done | with_reducible rfl)
        simp only [Act.put, List.setIfInBounds_toArray, List.set_cons_zero, List.set_cons_succ]
        refine wpAnyH_ready (rs := [4]) (by kernel_rfl) (by simp) ?_
        refine AllReadyH.cons rfl (fun K hK => ?_) AllReadyH.nil
        go_simp
        refine (csy w3.drew (d3.still ⟨rfl, rfl, rfl, rfl, Nat.le_add_right _ _⟩)).mono ?_
        rintro e w4 ⟨rfl, d4, k4⟩
        go_wp2_with fail
        refine hK.out _ _ ((AK.out _ ((Kept.drew _).trans k4)).1) (fun hHeld2 => ?_)
        clear hK K hHeld
        try simp only [Act.put, List.setIfInBounds_toArray, List.set_cons_zero, List.set_cons_succ]
        refine' wpAnyH_take (i := 5) (oi := _) (v := _) ?_ (by kernel_rfl) (by kernel_rfl) (by kernel_rfl) ?_ (Or.inl ⟨?_, ?_⟩) (by assumption) ?_
        rotate_left 2
        · (simp only [List.getElem?_toArray, List.getElem?_cons_succ, List.getElem?_cons_zero]; first | done | rfl)
        · exact fun _ _ _ h => h
        · rfl
        · (intro w hSw; (try dsimp only at hSw); go_simp; first | done | with_reducible rfl)
        simp only [Act.put, List.setIfInBounds_toArray, List.set_cons_zero, List.set_cons_succ]
        refine' wpAnyH_take (i := 6) (oi := _) (v := _) ?_ (by kernel_rfl) (by kernel_rfl) (by kernel_rfl) ?_ (Or.inl ⟨?_, ?_⟩) (by assumption) ?_
        rotate_left 2
        · (simp only [List.getElem?_toArray, List.getElem?_cons_succ, List.getElem?_cons_zero]; first | done | rfl)
        · exact fun _ _ _ h => h
        · rfl
        · (intro w hSw; (try dsimp only at hSw); go_simp; first | done | with_reducible rfl)
        simp only [Act.put, List.setIfInBounds_toArray, List.set_cons_zero, List.set_cons_succ]
        refine' wpAnyH_take (i := 7) (oi := _) (v := undef) ?_ (by kernel_rfl) (by kernel_rfl) (by kernel_rfl) ?_ (Or.inr ⟨?_, rfl⟩) (by assumption) ?_
        rotate_left 1
        · (simp only [List.getElem?_toArray, List.getElem?_cons_succ, List.getElem?_cons_zero]; first | done | rfl)
        · exact fun _ _ _ h => h
        · rfl
        simp only [Act.put, List.setIfInBounds_toArray, List.set_cons_zero, List.set_cons_succ]
        refine' wpAnyH_take (i := 8) (oi := _) (v := undef) ?_ (by kernel_rfl) (by kernel_rfl) (by kernel_rfl) ?_ (Or.inr ⟨?_, rfl⟩) (by assumption) ?_
        rotate_left 1
        · (simp only [List.getElem?_toArray, List.getElem?_cons_succ, List.getElem?_cons_zero]; first | done | rfl)
        · exact fun _ _ _ h => h
        · rfl
        simp only [Act.put, List.setIfInBounds_toArray, List.set_cons_zero, List.set_cons_succ]
        refine' wpAnyH_take (i := 9) (oi := _) (v := undef) ?_ (by kernel_rfl) (by kernel_rfl) (by kernel_rfl) ?_ (Or.inr ⟨?_, rfl⟩) (by assumption) ?_
        rotate_left 1
        · (simp only [List.getElem?_toArray, List.getElem?_cons_succ, List.getElem?_cons_zero]; first | done | rfl)
        · exact fun _ _ _ h => h
        · rfl
        simp only [Act.put, List.setIfInBounds_toArray, List.set_cons_zero, List.set_cons_succ]
        refine' wpAnyH_take (i := 10) (oi := _) (v := undef) ?_ (by kernel_rfl) (by kernel_rfl) (by kernel_rfl) ?_ (Or.inr ⟨?_, rfl⟩) (by assumption) ?_
        rotate_left 1
        · (simp only [List.getElem?_toArray, List.getElem?_cons_succ, List.getElem?_cons_zero]; first | done | rfl)
        · exact fun _ _ _ h => h
        · rfl
        simp only [Act.put, List.setIfInBounds_toArray, List.set_cons_zero, List.set_cons_succ]
        refine' wpAnyH_take (i := 11) (oi := _) (v := undef) ?_ (by kernel_rfl) (by kernel_rfl) (by kernel_rfl) ?_ (Or.inr ⟨?_, rfl⟩) (by assumption) ?_
        rotate_left 1
        · (simp only [List.getElem?_toArray, List.getElem?_cons_succ, List.getElem?_cons_zero]; first | done | rfl)
        · exact fun _ _ _ h => h
        · rfl
        simp only [Act.put, List.setIfInBounds_toArray, List.set_cons_zero, List.set_cons_succ]
        refine' wpAnyH_take (i := 12) (oi := _) (v := undef) ?_ (by kernel_rfl) (by kernel_rfl) (by kernel_rfl) ?_ (Or.inr ⟨?_, rfl⟩) (by assumption) ?_
        rotate_left 1
        · (simp only [List.getElem?_toArray, List.getElem?_cons_succ, List.getElem?_cons_zero]; first | done | rfl)
        · exact fun _ _ _ h => h
        · rfl
        simp only [Act.put, List.setIfInBounds_toArray, List.set_cons_zero, List.set_cons_succ]
        refine' wpAnyH_take (i := 13) (oi := _) (v := undef) ?_ (by kernel_rfl) (by kernel_rfl) (by kernel_rfl) ?_ (Or.inr ⟨?_, rfl⟩) (by assumption) ?_
        rotate_left 1
        · (simp only [List.getElem?_toArray, List.getElem?_cons_succ, List.getElem?_cons_zero]; first | done | rfl)
        · exact fun _ _ _ h => h
        · rfl
        simp only [Act.put, List.setIfInBounds_toArray, List.set_cons_zero, List.set_cons_succ]
        refine' wpAnyH_take (i := 14) (oi := _) (v := undef) ?_ (by kernel_rfl) (by kernel_rfl) (by kernel_rfl) ?_ (Or.inr ⟨?_, rfl⟩) (by assumption) ?_
        rotate_left 1
        · (simp only [List.getElem?_toArray, List.getElem?_cons_succ, List.getElem?_cons_zero]; first | done | rfl)
        · exact fun _ _ _ h => h
        · rfl
        simp only [Act.put, List.setIfInBounds_toArray, List.set_cons_zero, List.set_cons_succ]
        refine' wpAnyH_take (i := 15) (oi := _) (v := undef) ?_ (by kernel_rfl) (by kernel_rfl) (by kernel_rfl) ?_ (Or.inr ⟨?_, rfl⟩) (by assumption) ?_
        rotate_left 1
        · (simp only [List.getElem?_toArray, List.getElem?_cons_succ, List.getElem?_cons_zero]; first | done | rfl)
        · exact fun _ _ _ h => h
        · rfl
        simp only [Act.put, List.setIfInBounds_toArray, List.set_cons_zero, List.set_cons_succ]
        refine' wpAnyH_take (i := 16) (oi := _) (v := undef) ?_ (by kernel_rfl) (by kernel_rfl) (by kernel_rfl) ?_ (Or.inr ⟨?_, rfl⟩) (by assumption) ?_
        rotate_left 1
        · (simp only [List.getElem?_toArray, List.getElem?_cons_succ, List.getElem?_cons_zero]; first | done | rfl)
        · exact fun _ _ _ h => h
        · rfl
        simp only [Act.put, List.setIfInBounds_toArray, List.set_cons_zero, List.set_cons_succ]
        refine' wpAnyH_take (i := 17) (oi := _) (v := _) ?_ (by kernel_rfl) (by kernel_rfl) (by kernel_rfl) ?_ (Or.inl ⟨?_, ?_⟩) (by assumption) ?_
        rotate_left 2
        · (simp only [List.getElem?_toArray, List.getElem?_cons_succ, List.getElem?_cons_zero]; first | done | rfl)
        · exact fun _ _ _ h => h
        · rfl
        · (intro w hSw; (try dsimp only at hSw); go_simp; first | done | with_reducible rfl)
        simp only [Act.put, List.setIfInBounds_toArray, List.set_cons_zero, List.set_cons_succ]
        refine wpAnyH_done (by kernel_rfl) ?_ _
        all_goals
          have kk := (Kept.drew w3).trans k4
          have hc1 := (AK.out _ kk).2
          have cf := File_failed (Bo := Bo) b o n w4 hc1 (F3.out.1.kept kk)
          have KF : Hid (FK Bo b w w4) := F3.out.2.trans (FK.ofKept kk)
          clear AK h3 k3 k4 kk d3 csy
          go_wp2_with fail
          refine cf.mono ?_
          rintro e w5 ⟨v, rfl, hv, b5⟩
          obtain ⟨eb, s, a, hve, hvb⟩ := hv
          subst hve
          go_wp2
          go_ret
          exact .inr ⟨_, S3, rfl, ⟨eb, s, a, rfl, hvb⟩, d4.below b5, fun R P _ => ((HSC.out.resolve_left (fun h => absurd h.1 (by decide))).2 R P).more (fun _ h => h) (fun _ h => h) (by omega), KF.out.trans (FK.ofKept (.ofBelow b5))⟩
      | true =>
        have D3 := (HSC.out.resolve_right (fun h => absurd h.1 (by decide))).2
        have hnc := nam_cases D3 hn hnd HA.out (by omega)
        have hf1 := D3.find.1
        have crn : ∀ W', Disk Bo W' p S3 → Calls Tryz.prog 140 #[.pointer (some ⟨p, 0, none⟩), .string draftB, .string n] W' fun e w' => e = .returned (.bool (S3.rename draftB n).1) ∧ Disk Bo w' p (S3.rename draftB n).2 ∧ Kept Bo W' w' := fun W' hW' => Rename_any p S3 (N + 1 + 1) draftB n W' hW' D3.live.ok (by omega) hf1 hnd hn
        obtain ⟨ok4, S4, hS4⟩ : ∃ ok S4, S3.rename draftB n = (ok, S4) := ⟨_, _, rfl⟩
        simp only [hS4] at hnc crn
        have HNC : Hid (_) := hnc
        clear hnc hS4 D3 hf1 HSC
        cases ok4 with
        | false =>
          go_region_held3 (fun w' => w'.cell? ⟨b, o, none⟩ = some (.pointer (some ⟨p, 0, none⟩)) ∧ w'.cell? ⟨b, o + 1, none⟩ = some (.string n)) (first | exact AK.out _ (Kept.drew _) | exact AK.out _ ((Kept.drew _).trans k4) | exact AK.out _ ((Kept.drew _).trans (k4.trans k5))) (first | (go_at_call 139; refine (csy _ ?_).mono ?_; (exact d3.still ⟨rfl, rfl, rfl, rfl, Nat.le_add_right _ _⟩); rintro e w4 ⟨rfl, d4, k4⟩) | (go_at_call 140; refine (crn _ ?_).mono ?_; (exact d4); rintro e w5 ⟨rfl, d5, k5⟩))
          all_goals
            have kk := (Kept.drew w3).trans (k4.trans k5)
            have hc1 := (AK.out _ kk).2
            have cf := File_failed (Bo := Bo) b o n w5 hc1 (F3.out.1.kept kk)
            have KF : Hid (FK Bo b w w5) := F3.out.2.trans (FK.ofKept kk)
            clear AK h3 k3 k4 k5 kk d3 d4 csy crn
            go_wp2_with fail
            refine cf.mono ?_
            rintro e w6 ⟨v, rfl, hv, b6⟩
            obtain ⟨eb, s, a, hve, hvb⟩ := hv
            subst hve
            go_wp2
            go_ret
            exact .inr ⟨_, S4, rfl, ⟨eb, s, a, rfl, hvb⟩, d5.below b6, fun R P _ => ((HNC.out.resolve_left (fun h => absurd h.1 (by decide))).2 R P).more (fun _ h => h) (fun _ h => h) (by omega), KF.out.trans (FK.ofKept (.ofBelow b6))⟩
        | true =>
          have hl4 := HNC.out.resolve_right (fun h => absurd h.1 (by decide))
          have csn : ∀ W', Disk Bo W' p S4 → FailIs aF W' → _ := fun W' hW' hF' => SyncNames_m p S4 (N + 1 + 1 + 2) W' hW' hl4.2.1.ok (by omega) hF'
          have hsd : ∀ R P, _ := fun R P => sync_cases (R := R) (P := P) hl4.2.1
          obtain ⟨ok5, S5, hS5⟩ : ∃ ok S5, S4.syncDir = (ok, S5) := ⟨_, _, rfl⟩
          simp only [hS5] at csn hsd
          have HSD : Hid (∀ R P, _) := hsd
          have HL4 : Hid (_) := hl4
          clear hS5 hsd hl4 HNC
          go_region_held3 (fun w' => w'.cell? ⟨b, o, none⟩ = some (.pointer (some ⟨p, 0, none⟩)) ∧ w'.cell? ⟨b, o + 1, none⟩ = some (.string n)) (first | exact AK.out _ (Kept.drew _) | exact AK.out _ ((Kept.drew _).trans k4) | exact AK.out _ ((Kept.drew _).trans (k4.trans k5))) (first | (go_at_call 139; refine (csy _ ?_).mono ?_; (exact d3.still ⟨rfl, rfl, rfl, rfl, Nat.le_add_right _ _⟩); rintro e w4 ⟨rfl, d4, k4⟩) | (go_at_call 140; refine (crn _ ?_).mono ?_; (exact d4); rintro e w5 ⟨rfl, d5, k5⟩))
          all_goals
            have kk := (Kept.drew w3).trans (k4.trans k5)
            have hc0 := (AK.out _ kk).1
            have KF : Hid (FK Bo b w w5) := F3.out.2.trans (FK.ofKept kk)
            have H5 := h3.kept kk
            have cs5 := csn w5 d5 (F3.out.1.kept kk)
            clear AK h3 k3 k4 k5 kk d3 d4 csy crn csn
            cases ok5 with
            | true =>
              go_wp2_with fail
              refine cs5.mono ?_
              rintro e w6 ⟨v, rfl, hv, d6, k6⟩
              obtain ⟨_, rfl⟩ := hv.resolve_right (fun h => absurd h.1 (by decide))
              go_wp2
              go_ret
              have h9 : ∀ R P, _ := fun R P => (HSD.out R P).resolve_right (fun h => absurd h.1 (by decide))
              have h8 := h9 (fun _ => False) (fun _ => False)
              have h7 := HL4.out
              refine .inl ⟨⟨s2, r2, rfl, H5.kept k6⟩, S5, d6, h8.2.1.mono (by omega), fun R P hp => (h7.2.2.1 R P hp).trans (h9 R P).2.2.1, by rw [h8.2.2.2.1]; exact h7.2.2.2.1, by rw [h8.2.2.2.2.2.2]; exact h7.2.2.2.2.1, fun m hm => by rw [h8.2.2.2.1]; exact h7.2.2.2.2.2 m hm, h8.2.2.2.2.1, h8.2.2.2.2.2.1, KF.out.trans (FK.ofKept k6)⟩
            | false =>
              go_wp2_with fail
              refine cs5.mono ?_
              rintro e w6 ⟨v, rfl, hv, d6, k6⟩
              have hv := (hv.resolve_left (fun h => absurd h.1 (by decide))).2
              obtain ⟨eb, s, a, hve, hvb⟩ := hv
              subst hve
              go_wp2
              go_ret
              exact .inr ⟨_, S5, rfl, ⟨eb, s, a, rfl, hvb⟩, d6, fun R P hp => (((HSD.out R P).resolve_left (fun h => absurd h.1 (by decide))).2.more (fun _ h => h) (fun _ h => h) (by omega)).after (HL4.out.2.2.1 R P hp), KF.out.trans (FK.ofKept k6)⟩
end Go.Proofs.YtbjgpfhbdmcbbabGreatDoor.files
