import Derived.Test.YtbjgpfhbdmcbbabGreatDoorP31
import Derived.Test.YtbjgpfhbdmcbbabGreatDoorP28
import Derived.Test.YtbjgpfhbdmcbbabGreatDoorP24
import Derived.Test.YtbjgpfhbdmcbbabGreatDoorP18
import Derived.Test.YtbjgpfhbdmcbbabGreatDoorP23

/-
  CONTRACTS on a disk that may die: Load of a dead disk; isGone of a disk that has failed; load that goes well.
-/
namespace Go.Proofs.YtbjgpfhbdmcbbabGreatDoor.files
open Go.RowKit dnamath dna diskm disk keep hex
set_option linter.unusedVariables false

theorem size_dead {S : DS} (n : ByteArray) (h : S.life = 0) : S.size n = (0, false) := by
  unfold DS.size
  have hd : S.dead = true := by unfold DS.dead; rw [h]; rfl
  rw [hd]
  cases S.look n <;> rfl
theorem all_dead {S : DS} (n : ByteArray) (h : S.life = 0) : DS.all S n = (⟨#[]⟩, false) := by
  unfold DS.all
  have hd : S.dead = true := by unfold DS.dead; rw [h]; rfl
  rw [hd]
  cases S.look n <;> rfl

set_option maxHeartbeats 1000000 in
set_option maxRecDepth 100000 in
theorem Load_dead {aF : Addr} {Bo : Nat} (b o p : Nat) (S : DS) (N : Nat) (n : ByteArray) (w : World) (hD : Disk Bo w p S) (ho : S.Ok N) (hN : N ≤ 1000000) (hs : Sane S) (hF : S.life = 0) (hf : FailIs aF w)
    (h0 : w.cell? ⟨b, o, none⟩ = some (.pointer (some ⟨p, 0, none⟩))) (h1 : w.cell? ⟨b, o + 1, none⟩ = some (.string n)) :
    Calls Tryz.prog 63 #[.pointer (some ⟨b, o, none⟩)] w fun e w' => ∃ v, e = .returned (.tuple #[.string ⟨#[]⟩, v]) ∧ DiskErr aF w' v ∧ Below w.heap.size w w' := by
  have hs0 := size_dead n hF
  have ha0 := all_dead n hF
  obtain ⟨vF, vN, vS, vT, hDA⟩ := hD
  have csz : ∀ W, Still w W → Calls Tryz.prog 69 #[.pointer (some ⟨p, 0, none⟩), .string n] W fun e w' => e = .returned (.tuple #[.int .i64 0, .bool false]) ∧ Still W w' := fun W hW => by
    have := Size_any p S N vF vN vS vT n W (hDA.still hW) ho hN
    rw [hs0] at this
    exact this
  have crd : ∀ W, Still w W → Calls Tryz.prog 92 #[.pointer (some ⟨p, 0, none⟩), .string n, .int .i64 0, .int .i64 0] W fun e w' => e = .returned (.tuple #[.string ⟨#[]⟩, .bool false]) ∧ Still W w' := fun W hW => by
    have := Read_any p S N n W ⟨_, _, _, _, hDA.still hW⟩ ho hN (fun f hf => by
      obtain ⟨x, hx, e, h9⟩ := (look_iff hs.cur.1).1 hf
      have := hs.small f (List.mem_of_getElem? h9)
      omega)
    rw [hs0, ha0] at this
    exact this
  have hnd : S.dead = true := by unfold DS.dead; rw [hF]; rfl
  have cdd : ∀ W, Still w W → Calls Tryz.prog 37 #[.pointer (some ⟨p, 0, none⟩)] W fun e w' => e = .returned (.bool true) ∧ w' = W := fun W hW => by
    have := Dead_any p S vF vN vS vT W (hDA.still hW)
    rw [hnd] at this
    exact this
  have HFI : Hid (FailIs aF w) := hf
  clear hs0 ha0 hnd hF ho hDA hs hf
  go_enter Tryz.func63, Tryz.ntmps63
  go_wp2
  go_quiet ((go_at_call 69; exact Still.quiet (csz _ (Still.drewN _ _))))
  obtain ⟨W1, hW1⟩ : ∃ W, W = w.drewN nq := ⟨_, rfl⟩
  have S1 : Still w W1 := by rw [hW1]; exact Still.drewN _ _
  rw [← S1.cell] at h0 h1
  rw [← hW1]
  clear hW1
  go_wp2
  go_quiet ((go_at_call 92; exact Still.quiet (crd _ (S1.trans (Still.drewN _ _)))))
  obtain ⟨W2, hW2⟩ : ∃ W, W = W1.drewN nq := ⟨_, rfl⟩
  have S2 : Still w W2 := by rw [hW2]; exact S1.trans (Still.drewN _ _)
  rw [S1.cell, ← S2.cell] at h0 h1
  rw [← hW2]
  clear hW2
  have cf := File_failed (Bo := Bo) b o n W2 h1 (HFI.out.below (S2.below _))
  go_wp2_with fail
  refine (cdd _ S2).mono ?_
  rintro e w3 ⟨rfl, hw3⟩
  have hw3' := hw3.symm
  subst hw3'
  clear hw3 cdd csz crd
  go_wp2_with fail
  refine cf.mono ?_
  rintro e w4 ⟨v, rfl, hv, b4⟩
  obtain ⟨eb, s, a, hve, hvb⟩ := hv
  subst hve
  go_wp2
  go_ret2
  exact ⟨_, rfl, ⟨eb, s, a, rfl, hvb⟩, (S2.below _).trans (b4.mono (S2.below 0).size)⟩

/-- errFailed is another sentinel than ErrAbsent and ErrBroken -/
structure SenF (w : World) (a b aF : Addr) : Prop where
  sen : Sen w a b
  neA : aF ≠ a
  neB : aF ≠ b
  blk : ∃ cs t, w.heap[aF.block]? = some (.cells cs t (0, 0)) ∧ ¬ ours t

set_option maxHeartbeats 400000 in
set_option maxRecDepth 100000 in
theorem isGone_failed (a b aF : Addr) (v : Value) (w : World) (hg : Gs w a b) (hs : SenF w a b aF) (h : DiskErr aF w v) :
    Calls Tryz.prog 55 #[v] w fun e w' => e = .returned (.bool false) ∧ w' = w := by
  obtain ⟨eb, s, ⟨x, hx⟩, rfl, h⟩ := h
  subst hx
  have ha := hg.absentC
  have hb := hg.brokenC
  have hc : w.cell? ⟨eb, 2, none⟩ = some (.iface 254 (.pointer (some x))) := st_cell h 2
  obtain ⟨ca, ta, hA, _⟩ := hs.sen.blkA
  obtain ⟨cb, tb, hB, _⟩ := hs.sen.blkB
  obtain ⟨cc, tc, hC, _⟩ := hs.blk
  have c1 := errs.is_wrap_other eb a x w hc hs.neA hA hC
  have c2 := errs.is_wrap_other eb b x w hc hs.neB hB hC
  clear hg hc h hA hB hC hs
  go_enter Tryz.func55, Tryz.ntmps55
  go_wp2_with fail
  refine c1.mono ?_
  rintro e w1 ⟨rfl, hw1⟩
  have hw1' := hw1.symm
  subst hw1'
  clear hw1
  go_wp2_with fail
  refine c2.mono ?_
  rintro e w2 ⟨rfl, hw2⟩
  have hw2' := hw2.symm
  subst hw2'
  clear hw2
  go_wp2
  go_ret
  exact ⟨rfl, rfl⟩
end Go.Proofs.YtbjgpfhbdmcbbabGreatDoor.files

/-
  CONTRACTS on a disk that may die: load, pieces.
-/
namespace Go.Proofs.YtbjgpfhbdmcbbabGreatDoor.kinds
open Go.RowKit dnamath dna diskm disk keep hex pieces files parse words
set_option linter.unusedVariables false

set_option maxHeartbeats 1000000 in
set_option maxRecDepth 100000 in
theorem load_dead {aF : Addr} {Bo : Nat} (b p : Nat) (S : DS) (N : Nat) (n : ByteArray) (w : World) (hD : Disk Bo w p S) (ho : S.Ok N) (hN : N ≤ 1000000) (hs : Sane S) (hF : S.life = 0) (hf : FailIs aF w)
    (h0 : w.cell? ⟨b, 0, none⟩ = some (.pointer (some ⟨p, 0, none⟩))) (h1 : w.cell? ⟨b, 1, none⟩ = some (.string n)) :
    Calls Tryz.prog 59 #[.pointer (some ⟨b, 0, none⟩)] w fun e w' => ∃ v, e = .returned v ∧ DiskErr aF w' v ∧ Below w.heap.size w w' := by
  have cl := Load_dead b 0 p S N n w hD ho hN hs hF hf h0 (by rw [Nat.zero_add]; exact h1)
  clear hD ho hs hF hf h0 h1
  go_enter Tryz.func59, Tryz.ntmps59
  go_wp2_with fail
  refine cl.mono ?_
  rintro e w1 ⟨v, rfl, hv, b1⟩
  obtain ⟨eb, s, a, hve, hvb⟩ := hv
  subst hve
  go_wp2
  go_ret
  exact ⟨_, rfl, ⟨eb, s, a, rfl, hvb⟩, b1⟩

set_option maxHeartbeats 1000000 in
set_option maxRecDepth 100000 in
theorem load_ok_l {Bo : Nat} (b : Nat) (cs : Array Value) (p : Nat) (n h : ByteArray) (sum wr : Nat) (S : DS) (N : Nat) (a bb : Addr) (k : Nat) (es : List Ent) (w : World) (H : FileAt Bo w b 0 cs 105 p n h sum wr (.slice none 0 0) [])
    (hg : Gs w a bb) (hD : Disk Bo w p S) (ho : S.Ok N) (hN : N ≤ 1000000) (hF : S.dead = false) (hl : S.look n = some (wholeF (h.data.toList ++ textE es))) (hE : Ends h.data.toList) (hZl : (h.data.toList ++ textE es).length ≤ 900000) (hb0 : 27 ≤ b)
    (h6 : cs[6]? = some (.int .i64 (k : Int))) (h7 : ∃ v7, cs[7]? = some v7) (hes : ∀ x ∈ es, x.1.data.toList.all isB = true ∧ x.1.size = k ∧ x.2 ≤ 1000000) (hk1 : 1 ≤ k) (hk2 : k ≤ 1000) (hel : es.length ≤ 100000) :
    Calls Tryz.prog 59 #[.pointer (some ⟨b, 0, none⟩)] w fun e w' => ∃ (ev : Value) (s' r' : Nat), e = .returned .nilIface ∧ FileAt Bo w' b 0 ((fset cs 0 s' r' (.slice none 0 0)).setIfInBounds 7 ev) 105 p n h s' r' (.slice none 0 0) [] ∧ w'.ownsRow w.heap.size 58 2 ev es.length (ecells es) ∧ WK Bo b w w' := by
  have cl := Load_whole_l b 0 cs 105 p n h sum wr (.slice none 0 0) [] S N a bb _ (textE es) w H hg hD ho hN hF hl rfl (ends_append hE (by rw [textE_lines]; exact ends_unlines _)) (by omega) hb0
  have HLQ : Hid (linesQ (textE es) = es.map line0) := linesQ_textE (fun x hx => (hes x hx).1)
  have HES : Hid (∀ x ∈ es, x.1.data.toList.all isB = true ∧ x.1.size = k ∧ x.2 ≤ 1000000) := hes
  have H67 : Hid (cs[6]? = some (.int .i64 (k : Int)) ∧ ∃ v7, cs[7]? = some v7) := ⟨h6, h7⟩
  have htl : (textE es).length ≤ 900000 := by rw [List.length_append] at hZl; omega
  clear H hg hD ho hF hl hE hZl hes h6 h7
  go_enter Tryz.func59, Tryz.ntmps59
  go_wp2_with fail
  refine cl.mono ?_
  rintro e w1 ⟨B, s', r', rfl, hB, hf1, k1⟩
  have g6 : (fset cs 0 s' r' (.slice none 0 0))[6]? = some (.int .i64 (k : Int)) := (fset_ne _ _ _ _ _ _ (by omega)).trans H67.out.1
  have g7 : ∃ v7, (fset cs 0 s' r' (.slice none 0 0))[7]? = some v7 := by
    obtain ⟨v7, h7⟩ := H67.out.2
    exact ⟨v7, (fset_ne _ _ _ _ _ _ (by omega)).trans h7⟩
  have ct := take_any (Bo := Bo) b (fset cs 0 s' r' (.slice none 0 0)) B k es w1 hf1.blk g6 g7 (by rw [Lib.size_eq, hB]; omega) (by rw [hB]; exact HLQ.out) HES.out hk1 hk2 hel
  have HF1 : Hid (FileAt Bo w1 b 0 (fset cs 0 s' r' (.slice none 0 0)) 105 p n h s' r' (.slice none 0 0) [] ∧ WK Bo b w w1) := ⟨hf1, k1⟩
  clear cl hB hf1 k1 g6 g7
  go_wp2_with fail
  refine ct.mono ?_
  rintro e w2 ⟨ev, rfl, hb2, own2, k2⟩
  have F2 : FileAt Bo w2 b 0 ((fset cs 0 s' r' (.slice none 0 0)).setIfInBounds 7 ev) 105 p n h s' r' (.slice none 0 0) [] := by
    have F := HF1.out.1
    refine ⟨hb2, F.ty, ?_, ?_, ?_, ?_, ?_, ?_, World.ownsRow_nil _ _ _ _, Nat.le_trans F.big k2.size⟩
    · rw [Array.getElem?_setIfInBounds_ne (by omega)]; exact F.c0
    · rw [Array.getElem?_setIfInBounds_ne (by omega)]; exact F.c1
    · rw [Array.getElem?_setIfInBounds_ne (by omega)]; exact F.c2
    · rw [Array.getElem?_setIfInBounds_ne (by omega)]; exact F.c3
    · rw [Array.getElem?_setIfInBounds_ne (by omega)]; exact F.c4
    · rw [Array.getElem?_setIfInBounds_ne (by omega)]; exact F.c5
  have HE : Hid (FileAt Bo w2 b 0 ((fset cs 0 s' r' (.slice none 0 0)).setIfInBounds 7 ev) 105 p n h s' r' (.slice none 0 0) [] ∧ w2.ownsRow w.heap.size 58 2 ev es.length (ecells es) ∧ WK Bo b w w2) := ⟨F2, own_lower own2 HF1.out.2.size, HF1.out.2.trans k2⟩
  clear ct hb2 own2 k2 F2
  go_wp2
  go_ret
  exact ⟨ev, s', r', rfl, HE.out.1, HE.out.2.1, HE.out.2.2⟩
end Go.Proofs.YtbjgpfhbdmcbbabGreatDoor.kinds

/-
  CONTRACTS on a disk that may die: RemoveAll, with what stays.
-/
namespace Go.Proofs.YtbjgpfhbdmcbbabGreatDoor.files
open Go.RowKit dnamath dna diskm disk keep hex pieces parse
set_option linter.unusedVariables false

/-- some names were taken away (of a dead disk none need be) -/
structure Rem (A : List UInt8 → DFile → Prop) (R : List UInt8 → Prop) (S T : DS) (ns : List ByteArray) (N : Nat) : Prop where
  live : Live A draftB T N
  went : ∀ P, Went R P draftB S T
  stay : Stay S T (fun k => ∃ n ∈ ns, k = n.toList)
  gone : ∀ n ∈ ns, T.life = 0 ∨ T.look n = none
theorem rem_start {A : List UInt8 → DFile → Prop} {R : List UInt8 → Prop} {S : DS} {N : Nat} (h : Live A draftB S N) : Rem A R S S [] N := ⟨h, fun P => Went.refl S, fun m _ => rfl, fun n hn => by cases hn⟩
theorem Rem.mono {A : List UInt8 → DFile → Prop} {R : List UInt8 → Prop} {S T : DS} {ns : List ByteArray} {N M : Nat} (h : Rem A R S T ns N) (hm : N ≤ M) : Rem A R S T ns M := ⟨h.live.mono hm, h.went, h.stay, h.gone⟩
theorem Rem.skip {A : List UInt8 → DFile → Prop} {R : List UInt8 → Prop} {S T : DS} {ns : List ByteArray} {n : ByteArray} {N : Nat} (h : Rem A R S T ns N) (hs : T.life = 0 ∨ findIs n T.now = false) : Rem A R S T (ns ++ [n]) N := by
  refine ⟨h.live, h.went, fun m hm => h.stay m (fun ⟨x, hx, e⟩ => hm ⟨x, List.mem_append_left _ hx, e⟩), fun m hm => ?_⟩
  rw [List.mem_append, List.mem_singleton] at hm
  rcases hm with hm | rfl
  · exact h.gone m hm
  · exact hs.imp id DS.look_none
theorem remove_life {T : DS} {n : ByteArray} (h : T.life = 0) : (T.remove n).1 = false := by
  unfold DS.remove
  have hc := (changes_dead h).1
  cases hch : T.changes with
  | mk ok U =>
    rw [hch] at hc
    have hc : ok = false := hc
    subst hc
    simp
theorem sync_life {T : DS} (h : T.life = 0) : T.syncDir.1 = false := by
  unfold DS.syncDir
  have hc := (changes_dead h).1
  cases hch : T.changes with
  | mk ok U =>
    rw [hch] at hc
    have hc : ok = false := hc
    subst hc
    simp
theorem Rem.rm {A : List UInt8 → DFile → Prop} {R : List UInt8 → Prop} {S T T2 : DS} {ns : List ByteArray} {n : ByteArray} {N : Nat} (h : Rem A R S T ns N) (hl : T.life ≠ 0) (hr : ∀ P, (true = true ∧ Live A draftB T2 (N + 2) ∧ Went R P draftB T T2 ∧ T2.look n = none ∧ findIs n T2.now = false ∧ Stay T T2 (· = n.toList))) : Rem A R S T2 (ns ++ [n]) (N + 2) := by
  have h8 := hr (fun _ => False)
  refine ⟨h8.2.1, fun P => (h.went P).trans (hr P).2.2.1, fun m hm => ?_, fun m hm => ?_⟩
  · rw [h8.2.2.2.2.2 m (fun e => hm ⟨n, by simp, e⟩)]
    exact h.stay m (fun ⟨x, hx, e⟩ => hm ⟨x, List.mem_append_left _ hx, e⟩)
  · rw [List.mem_append, List.mem_singleton] at hm
    rcases hm with hm | rfl
    · right
      by_cases e : m.toList = n.toList
      · rw [diskm.toList_inj e]; exact h8.2.2.2.1
      · rw [h8.2.2.2.2.2 m e]
        exact (h.gone m hm).resolve_left hl
    · exact .inr h8.2.2.2.1
theorem Rem.sync {A : List UInt8 → DFile → Prop} {R : List UInt8 → Prop} {S T T3 : DS} {ns : List ByteArray} {N : Nat} (h : Rem A R S T ns N) (hl : ∀ n ∈ ns, T.look n = none) (hr : ∀ P, (true = true ∧ Live A draftB T3 (N + 1) ∧ Went R P draftB T T3 ∧ (∀ m, T3.look m = T.look m) ∧ T3.safe = T3.now ∧ T3.steps = [] ∧ T3.now = T.now)) : Rem A R S T3 ns (N + 1) := by
  have h8 := hr (fun _ => False)
  exact ⟨h8.2.1, fun P => (h.went P).trans (hr P).2.2.1, fun m hm => by rw [h8.2.2.2.1]; exact h.stay m hm, fun m hm => .inr (by rw [h8.2.2.2.1]; exact hl m hm)⟩

theorem look_key {T : DS} {N : Nat} (ho : T.Ok N) (hs : Sane T) {m : ByteArray} (h : T.look m = none) : ∀ x ∈ T.now, key x ≠ m.toList := by
  intro x hx e
  have hf : findIs m T.now = true := (find_iff hs.cur.1).2 ⟨x, hx, e⟩
  obtain ⟨y, f, _, _, _, _, hlk⟩ := ho.get hf
  rw [hlk] at h
  cases h
set_option maxHeartbeats 2000000 in
set_option maxRecDepth 100000 in
theorem RemoveAll_w {aF : Addr} {Bo : Nat} (A : List UInt8 → DFile → Prop) (R : List UInt8 → Prop) (Q : List DName → Prop) (p : Nat) (S : DS) (N : Nat) (v : Value) (ns : List ByteArray) (w : World) (hD : Disk Bo w p S) (hL : Live A draftB S N) (hR : ∀ n ∈ ns, n = draftB ∨ R n.toList) (hN : N + 3 * ns.length ≤ 90000) (hr : w.ownsRow 0 9 1 v ns.length (scells ns)) (hf : FailIs aF w) (hQ0 : AllDirs S Q) (hQ : ∀ (k : Nat) (n : ByteArray), ns[k]? = some n → ∀ D : List DName, Sorted D → (∀ m ∈ ns.take k, ∀ x ∈ D, key x ≠ m.toList) → Q D → Q (doL D ⟨3, n, ByteArray.empty, 0⟩)) :
    Calls Tryz.prog 45 #[.pointer (some ⟨p, 0, none⟩), v] w fun e w' => ((e = .returned .nilIface ∧ ∃ S', Disk Bo w' p S' ∧ Rem A R S S' ns (N + 3 * ns.length + 1) ∧ S'.safe = S'.now ∧ S'.steps = [] ∧ AllDirs S' Q) ∨ (∃ u S', e = .returned u ∧ DiskErr aF w' u ∧ Disk Bo w' p S' ∧ (∀ P, Cutt A R P draftB S S' (N + 3 * ns.length + 1)) ∧ AllDirs S' Q)) ∧ Kept Bo w w' := by
  have csn : ∀ W' T, Disk Bo W' p T → Rem A R S T ns (N + 3 * ns.length) → AllDirs T Q → Kept Bo w W' → Calls Tryz.prog 57 #[.pointer (some ⟨p, 0, none⟩)] W' fun e w' => ((e = .returned .nilIface ∧ ∃ S', Disk Bo w' p S' ∧ Rem A R S S' ns (N + 3 * ns.length + 1) ∧ S'.safe = S'.now ∧ S'.steps = [] ∧ AllDirs S' Q) ∨ (∃ u S', e = .returned u ∧ DiskErr aF w' u ∧ Disk Bo w' p S' ∧ (∀ P, Cutt A R P draftB S S' (N + 3 * ns.length + 1)) ∧ AllDirs S' Q)) ∧ Kept Bo w w' := fun W' T d g q k => by
    refine (SyncNames_m p T (N + 3 * ns.length) W' d g.live.ok (by omega) (hf.kept k)).mono ?_
    rintro e w' ⟨u, rfl, hu, d2, k2⟩
    refine ⟨?_, k.trans k2⟩
    rcases hu with h | h
    · left
      have h9 : ∀ P, _ := fun P => (sync_cases (R := R) (P := P) g.live).resolve_right (fun h8 => by rw [h.1] at h8; exact absurd h8.1 (by decide))
      have h8 := h9 (fun _ => False)
      exact ⟨by rw [h.2], _, d2, ⟨h8.2.1, fun P => (g.went P).trans (h9 P).2.2.1, fun m hm => by rw [h8.2.2.2.1]; exact g.stay m hm, fun n hn => .inr (by rw [h8.2.2.2.1]; exact (g.gone n hn).resolve_left (fun e0 => by rw [sync_life e0] at h; exact absurd h.1 (by decide)))⟩, h8.2.2.2.2.1, h8.2.2.2.2.2.1, sync_dirs g.live.sound.sane q⟩
    · right
      have h9 : ∀ P, _ := fun P => (sync_cases (R := R) (P := P) g.live).resolve_left (fun h8 => by rw [h.1] at h8; exact absurd h8.1 (by decide))
      exact ⟨u, _, rfl, h.2, d2, fun P => (h9 P).2.after (g.went P), sync_dirs g.live.sound.sane q⟩
  have hll : ns.length ≤ 30000 := by omega
  have HF : Hid (FailIs aF w) := hf
  rcases hr.2 with ⟨rfl, h0⟩ | ⟨g, cap, cur, rfl, hg, hh, hrr⟩
  · have hl0 : ns = [] := List.eq_nil_of_length_eq_zero h0
    subst hl0
    have c1 := csn w S hD (rem_start hL) hQ0 (Kept.refl _)
    clear csn hr h0 hQ hQ0
    go_enter Tryz.func45, Tryz.ntmps45
    go_wp2
    refine wp_loop_rounds 1 ?_
    rw [rounds_succ]
    go_wp2_with fail
    refine c1.mono ?_
    rintro e w5 ⟨h5, k5⟩
    have H5 : Hid (Kept Bo w w5) := k5
    rcases h5 with ⟨rfl, S', d5, r5, s5, t5, q5⟩ | ⟨u, S', rfl, hu, d5, c5, q5⟩
    · go_wp2
      go_ret
      exact ⟨.inl ⟨rfl, S', d5, r5, s5, t5, q5⟩, H5.out⟩
    · obtain ⟨eb, s, a, hve, hvb⟩ := hu
      subst hve
      go_wp2
      go_ret
      exact ⟨.inr ⟨_, S', rfl, ⟨eb, s, a, rfl, hvb⟩, d5, c5, q5⟩, H5.out⟩
  · clear hh hrr
    go_enter Tryz.func45, Tryz.ntmps45
    go_wp2
    go_loopw [5, 12] (fun r i wr => ∃ k m : Nat, i = .int .i64 (k : Int) ∧ r = .int .i64 (m : Int) ∧ m ≤ k ∧ k ≤ ns.length ∧ Hid (∃ T, Disk Bo wr p T ∧ Rem A R S T (ns.take k) (N + 3 * k) ∧ AllDirs T Q) ∧ Hid (Kept Bo w wr)) (fun _ i _ => ns.length - (intOf i).toNat)
    case atStart => exact ⟨0, 0, rfl, rfl, Nat.le_refl _, Nat.zero_le _, ⟨S, hD, rem_start hL, hQ0⟩, Kept.refl _⟩
    case round =>
      obtain ⟨k, m, rfl, rfl, hm, hk, hDr, hKr⟩ := hrel
      rename World => wr
      by_cases hlt : k < ns.length
      · obtain ⟨n, hn⟩ : ∃ n, ns[k]? = some n := ⟨_, List.getElem?_eq_getElem hlt⟩
        have hrow : wr.ownsRow 0 9 1 (.slice (some ⟨g, 0, none⟩) ns.length cap) ns.length (scells ns) := row_keep hr (fun k cs fz e => (g_keep hKr.out e (by decide)).trans e.symm)
        have hc : wr.cell? ⟨g, k, none⟩ = some (.string n) := by
          rw [hrow.cellAt (g := g) k (by omega)]
          simp [scells, hn]
        obtain ⟨T, hDT, hGT, hQT⟩ := hDr.out
        have HQT : Hid (AllDirs T Q) := hQT
        have HQ1 : Hid (T.life ≠ 0 → Q (doL T.now ⟨3, n, ByteArray.empty, 0⟩)) := fun hl => hQ k n hn T.now hGT.live.sound.sane.cur.1 (fun m hm => look_key hGT.live.ok hGT.live.sound.sane ((hGT.gone m hm).resolve_left hl)) (hQT.now hGT.live.sound.sane)
        clear hQT hQ
        have HGT : Hid (Rem A R S T (ns.take k) (N + 3 * k)) := hGT
        have HNT : Hid (ns.take (k + 1) = ns.take k ++ [n] ∧ (n = draftB ∨ R n.toList)) := ⟨by rw [List.take_add_one, hn]; rfl, hR n (List.mem_of_getElem? hn)⟩
        have HDT : Hid (Disk Bo wr p T) := hDT
        clear hrow hr hD hDr hn csn hL hR hQ0
        obtain ⟨vF, vN, vS, vT, hDA⟩ := hDT
        have csz := Size_any p T (N + 3 * k) vF vN vS vT n wr hDA hGT.live.ok (by omega)
        clear hDA
        obtain ⟨sz, there, hsz⟩ : ∃ sz there, T.size n = (sz, there) := ⟨_, _, rfl⟩
        rw [hsz] at csz
        cases there with
        | false =>
          have HSZ : Hid (T.life = 0 ∨ findIs n T.now = false) := size_cases hGT.live.ok hsz
          clear hsz hGT
          go_wp2_with fail
          refine csz.mono ?_
          rintro e w1 ⟨rfl, s1⟩
          clear csz
          go_wp2
          go_roundw
          case rel => exact ⟨k + 1, m, by go_num, rfl, by omega, by omega, ⟨T, HDT.out.still s1, by rw [HNT.out.1]; exact (HGT.out.skip HSZ.out).mono (by omega), HQT.out⟩, hKr.out.trans (.ofStill s1)⟩
          case measure => simp [intOf]; omega
        | true =>
          have hfi : findIs n T.now = true := by
            unfold DS.size at hsz
            cases hl : T.look n with
            | none => rw [hl] at hsz; cases hsz
            | some f => exact remove_ok_find hl
          have crm : ∀ W', Still wr W' → Calls Tryz.prog 70 #[.pointer (some ⟨p, 0, none⟩), .string n] W' fun e w' => e = .returned (.bool (T.remove n).1) ∧ Disk Bo w' p (T.remove n).2 ∧ Kept Bo W' w' := fun W' hW' => Remove_any p T (N + 3 * k) n W' (HDT.out.still hW') hGT.live.ok (by omega) hfi
          have hrc : ∀ P, _ := fun P => rm_cases (R := R) (P := P) hGT.live HNT.out.2 hfi
          obtain ⟨ok, T2, hrm⟩ : ∃ ok T2, T.remove n = (ok, T2) := ⟨_, _, rfl⟩
          simp only [hrm] at crm hrc
          have HRC : Hid (∀ P, _) := hrc
          have HQ2 : Hid (AllDirs T2 Q) := by
            by_cases hl : T.life = 0
            · have e9 : T.remove n = (false, T.changes.2) := by
                unfold DS.remove
                have hc := (changes_dead hl).1
                cases hch : T.changes with
                | mk okk U =>
                  rw [hch] at hc
                  have hc : okk = false := hc
                  subst hc
                  simp
              rw [e9] at hrm
              cases hrm
              have e8 := changes_same T
              exact HQT.out.to e8.2.2.1 e8.2.2.2.1
            · have := rm_dirs (n := n) hGT.live.sound.sane HQT.out (HQ1.out hl)
              rw [hrm] at this
              exact this
          have HLV : Hid (ok = true → T.life ≠ 0) := fun e0 e1 => by have := remove_life (n := n) e1; rw [hrm, e0] at this; exact Bool.noConfusion this
          clear hrm hrc hGT hsz hfi
          cases ok with
          | false =>
            go_wp2_with fail
            refine csz.mono ?_
            rintro e w1 ⟨rfl, s1⟩
            clear csz
            go_wp2_with fail
            refine (crm _ s1).mono ?_
            rintro e w2 ⟨rfl, d2, k2⟩
            have K2 := hKr.out.trans ((Kept.ofStill s1).trans k2)
            have cf := failed_any n w2 (HF.out.kept K2)
            clear crm
            go_wp2_with fail
            refine cf.mono ?_
            rintro e w3 ⟨u, rfl, hu, b3⟩
            obtain ⟨eb, s, a, hve, hvb⟩ := hu
            subst hve
            go_wp2
            go_ret
            exact ⟨.inr ⟨_, T2, rfl, ⟨eb, s, a, rfl, hvb⟩, d2.below b3, fun P => (((HRC.out P).resolve_left (fun h => absurd h.1 (by decide))).2.after (HGT.out.went P)).more (fun _ h => h) (fun _ h => h) (by omega), HQ2.out⟩, K2.trans (.ofBelow b3)⟩
          | true =>
            have HR : Hid (Rem A R S T2 (ns.take k ++ [n]) (N + 3 * k + 2)) := HGT.out.rm (HLV.out rfl) (fun P => (HRC.out P).resolve_right (fun h => absurd h.1 (by decide)))
            have cdir : ∀ W', Disk Bo W' p T2 → Calls Tryz.prog 72 #[.pointer (some ⟨p, 0, none⟩)] W' fun e w' => e = .returned (.bool T2.syncDir.1) ∧ Disk Bo w' p T2.syncDir.2 ∧ Kept Bo W' w' := fun W' d => by
              obtain ⟨uF, uN, uS, uT, hU⟩ := d
              refine (SyncDir_any p T2 (N + 3 * k + 2) uF uN uS uT W' hU HR.out.live.ok (by omega)).mono ?_
              rintro e w' ⟨rfl, ⟨vS', vT', h1⟩, k1⟩
              exact ⟨rfl, ⟨_, _, _, _, h1⟩, k1⟩
            have hm1 : ((m : Int) + 1).tmod 4 = (((m + 1) % 4 : Nat) : Int) := rfl
            by_cases h4 : (m + 1) % 4 = 0
            · have hm2 : ((m : Int) + 1).tmod 4 = 0 := by rw [hm1, h4]; rfl
              clear hm1 h4
              have hsc : ∀ P, _ := fun P => sync_cases (R := R) (P := P) HR.out.live
              obtain ⟨ok3, T3, hsd⟩ : ∃ ok T3, T2.syncDir = (ok, T3) := ⟨_, _, rfl⟩
              simp only [hsd] at cdir hsc
              have HSC : Hid (∀ P, _) := hsc
              have HQ3 : Hid (AllDirs T3 Q) := by
                have := sync_dirs HR.out.live.sound.sane HQ2.out
                rw [hsd] at this
                exact this
              have HLS : Hid (ok3 = true → ∀ x ∈ ns.take k ++ [n], T2.look x = none) := fun e0 x hx => (HR.out.gone x hx).resolve_left (fun e1 => by have := sync_life e1; rw [hsd, e0] at this; exact Bool.noConfusion this)
              clear hsd hsc
              cases ok3 with
              | true =>
                have HR3 : Hid (Rem A R S T3 (ns.take k ++ [n]) (N + 3 * k + 2 + 1)) := HR.out.sync (HLS.out rfl) (fun P => (HSC.out P).resolve_right (fun h => absurd h.1 (by decide)))
                clear HSC HLS
                go_wp2_with fail
                refine csz.mono ?_
                rintro e w1 ⟨rfl, s1⟩
                clear csz
                go_wp2_with fail
                refine (crm _ s1).mono ?_
                rintro e w2 ⟨rfl, d2, k2⟩
                clear crm
                go_wp2_with fail
                refine (cdir _ d2).mono ?_
                rintro e w3 ⟨rfl, d3, k3⟩
                clear cdir
                go_wp2
                go_roundw
                case rel => exact ⟨k + 1, m + 1, by go_num, by go_num, by omega, by omega, ⟨_, d3, by rw [HNT.out.1]; exact HR3.out, HQ3.out⟩, hKr.out.trans ((Kept.ofStill s1).trans (k2.trans k3))⟩
                case measure => simp [intOf]; omega
              | false =>
                go_wp2_with fail
                refine csz.mono ?_
                rintro e w1 ⟨rfl, s1⟩
                clear csz
                go_wp2_with fail
                refine (crm _ s1).mono ?_
                rintro e w2 ⟨rfl, d2, k2⟩
                clear crm
                go_wp2_with fail
                refine (cdir _ d2).mono ?_
                rintro e w3 ⟨rfl, d3, k3⟩
                have K3 := hKr.out.trans ((Kept.ofStill s1).trans (k2.trans k3))
                have cf := failed_any n w3 (HF.out.kept K3)
                clear cdir
                go_wp2_with fail
                refine cf.mono ?_
                rintro e w4 ⟨u, rfl, hu, b4⟩
                obtain ⟨eb, s, a, hve, hvb⟩ := hu
                subst hve
                go_wp2
                go_ret
                exact ⟨.inr ⟨_, T3, rfl, ⟨eb, s, a, rfl, hvb⟩, d3.below b4, fun P => (((HSC.out P).resolve_left (fun h => absurd h.1 (by decide))).2.after (HR.out.went P)).more (fun _ h => h) (fun _ h => h) (by omega), HQ3.out⟩, K3.trans (.ofBelow b4)⟩
            · have hm2 : ¬ ((m : Int) + 1).tmod 4 = 0 := by rw [hm1]; omega
              clear hm1 h4 cdir
              go_wp2_with fail
              refine csz.mono ?_
              rintro e w1 ⟨rfl, s1⟩
              clear csz
              go_wp2_with fail
              refine (crm _ s1).mono ?_
              rintro e w2 ⟨rfl, d2, k2⟩
              clear crm
              go_wp2
              go_roundw
              case rel => exact ⟨k + 1, m + 1, by go_num, by go_num, by omega, by omega, ⟨_, d2, by rw [HNT.out.1]; exact HR.out.mono (by omega), HQ2.out⟩, hKr.out.trans ((Kept.ofStill s1).trans k2)⟩
              case measure => simp [intOf]; omega
      · have hke : k = ns.length := by omega
        subst hke
        obtain ⟨T, hDT, hGT, hQT⟩ := hDr.out
        rw [List.take_length] at hGT
        have c1 := csn wr T hDT hGT hQT hKr.out
        clear csn hDT hGT hDr hr hD hL hR hQT hQ hQ0
        go_wp2_with fail
        refine c1.mono ?_
        rintro e w5 ⟨h5, k5⟩
        have H5 : Hid (Kept Bo w w5) := k5
        rcases h5 with ⟨rfl, S', d5, r5, s5, t5, q5⟩ | ⟨u, S', rfl, hu, d5, c5, q5⟩
        · go_wp2
          go_ret
          exact ⟨.inl ⟨rfl, S', d5, r5, s5, t5, q5⟩, H5.out⟩
        · obtain ⟨eb, s, a, hve, hvb⟩ := hu
          subst hve
          go_wp2
          go_ret
          exact ⟨.inr ⟨_, S', rfl, ⟨eb, s, a, rfl, hvb⟩, d5, c5, q5⟩, H5.out⟩
end Go.Proofs.YtbjgpfhbdmcbbabGreatDoor.files

/-
  CONTRACTS over a disk that may die: List, Reset.
-/
namespace Go.Proofs.YtbjgpfhbdmcbbabGreatDoor.files
open Go.RowKit dnamath dna diskm disk keep hex pieces parse
set_option linter.unusedVariables false

def listOf (S : DS) : List ByteArray := if S.life = 0 then [] else S.now.map DName.name

set_option maxHeartbeats 1000000 in
set_option maxRecDepth 100000 in
theorem List_any {Bo : Nat} (p : Nat) (S : DS) (N : Nat) (w : World) (hD : Disk Bo w p S) (ho : S.Ok N) (hN : N ≤ 100000) :
    Calls Tryz.prog 20 #[.pointer (some ⟨p, 0, none⟩)] w fun e w' => ∃ v, e = .returned v ∧ w'.ownsRow w.heap.size 9 1 v (listOf S).length (scells (listOf S)) ∧ Below w.heap.size w w' := by
  obtain ⟨i0, hi, hz0, hz1, hz2⟩ := info_parts infoS
  obtain ⟨vF, vN, vS, vT, h⟩ := hD
  have c6 := st_cell h.st 6
  change w.cell? ⟨p, 6, none⟩ = some (.int .i64 S.life) at c6
  by_cases hl : S.life = 0
  · have HE : Hid (listOf S = []) := by show _ = _; unfold listOf; rw [if_pos hl]
    rw [hl] at c6
    clear h hl
    go_enter Tryz.func20, Tryz.ntmps20
    go_wp2
    go_ret
    rw [HE.out]
    exact ⟨_, rfl, World.ownsRow_nil _ _ _ _, Below.refl _ _⟩
  · have HE : Hid (listOf S = S.now.map DName.name) := by show _ = _; unfold listOf; rw [if_neg hl]
    have hlz : (S.life == 0) = false := beq_eq_false_iff_ne.2 hl
    have hnl : S.now.length ≤ 100000 := Nat.le_trans ho.nl hN
    obtain ⟨aN, cN, rfl⟩ := own_slice h.now
    have c2 := st_cell h.st 2
    change w.cell? ⟨p, 2, none⟩ = some (.slice aN S.now.length cN) at c2
    have hpl := lt_of_block h.st
    have HN : Hid (Names w (.slice aN S.now.length cN) S.now) := h.now
    clear h ho
    go_enter Tryz.func20, Tryz.ntmps20
    go_wp2_with fail
    go_loopw [3, 4] (fun v i wr => ∃ k : Nat, k ≤ S.now.length ∧ i = .int .i64 (k : Int) ∧ Hid (wr.ownsRow w.heap.size 9 1 v ((S.now.take k).map DName.name).length (scells ((S.now.take k).map DName.name)) ∧ Below w.heap.size w wr)) (fun _ i _ => S.now.length - (intOf i).toNat)
    case atStart => exact ⟨0, Nat.zero_le _, rfl, World.ownsRow_nil _ _ _ _, Below.refl _ _⟩
    case round =>
      obtain ⟨k, hk, rfl, HB⟩ := hrel
      rename World => wr
      have d2 : wr.cell? ⟨p, 2, none⟩ = some (.slice aN S.now.length cN) := (HB.out.2.cell (by exact hpl)).trans c2
      by_cases hlt : k < S.now.length
      · obtain ⟨x, hx⟩ : ∃ x, S.now[k]? = some x := ⟨_, List.getElem?_eq_getElem hlt⟩
        have hrow := HN.out
        rcases hrow.2 with ⟨_, e0⟩ | ⟨g, capN, cur, e1, _, hgb, hcap1, hcap2, _⟩
        · omega
        cases e1
        have hgl := lt_of_block hgb
        have dn : wr.cell? ⟨g, k * 2, none⟩ = some (.string x.name) := by
          rw [HB.out.2.cell (p := ⟨g, k * 2, none⟩) hgl, hrow.cellAt (g := g) _ (by omega)]
          exact ncells_at0 _ _ _ hx
        have hll : ((S.now.take k).map DName.name).length = k := by rw [List.length_map, List.length_take]; omega
        have HX : Hid ((S.now.take (k + 1)).map DName.name = (S.now.take k).map DName.name ++ [x.name]) := by show _ = _; rw [List.take_add_one, hx]; simp
        obtain ⟨ls, hls⟩ : ∃ ls, ls = (S.now.take k).map DName.name := ⟨_, rfl⟩
        rw [← hls] at HX HB hll
        have hownA := HB.out.1
        have hbA := HB.out.2
        have hbsA := hbA.size
        have hmx : ls.length + 1 ≤ maxLen := by unfold maxLen; omega
        have hby : (ls.length + 1) * 16 ≤ 140737488355328 := by omega
        clear hrow hx hgb hls hll
        go_wp2_with (at_builtin; refine wpList_append_own _ rfl (.tmp 20) (.tmp 29) 28 rfl w.heap.size 9 i0 (.string ByteArray.empty) 1 16 Tryz.underlying28 hi hz0 hz1 hz2 rfl (by decide) _ _ _ rfl (hownA.alloc _) ⟨wr.heap.size, 0, none⟩ 1 1 [.string x.name] rfl rfl (pieces.cell_one _ _ _) (one_str _) hmx hby (by simp; omega) ?_; intro v' w3 hown' hgrow _)
        obtain ⟨R1, R2⟩ := push_str (c := x.name) hownA hbA hbsA hown' hgrow
        have HN2 : Hid (w3.ownsRow w.heap.size 9 1 v' ((S.now.take (k + 1)).map DName.name).length (scells ((S.now.take (k + 1)).map DName.name)) ∧ Below w.heap.size w w3) := by rw [HX.out]; exact ⟨R1, R2⟩
        clear hown' hgrow R1 R2 hownA hbA
        go_wp2
        go_roundw
        case rel => exact ⟨k + 1, by omega, by go_num, HN2⟩
        case measure => simp [intOf]; omega
      · have hke : k = S.now.length := by omega
        subst hke
        have hB := HB.out
        rw [List.take_length] at hB
        obtain ⟨aV, cV, hv⟩ := own_slice hB.1
        subst hv
        have HB2 : Hid (wr.ownsRow w.heap.size 9 1 (.slice aV (S.now.map DName.name).length cV) (S.now.map DName.name).length (scells (S.now.map DName.name)) ∧ Below w.heap.size w wr) := hB
        clear HB hB
        go_wp2
        go_ret
        rw [HE.out]
        exact ⟨_, rfl, HB2.out.1, HB2.out.2⟩

theorem list_len (S : DS) : (listOf S).length ≤ S.now.length := by
  unfold listOf
  split
  · exact Nat.zero_le _
  · rw [List.length_map]; exact Nat.le_refl _

end Go.Proofs.YtbjgpfhbdmcbbabGreatDoor.files
