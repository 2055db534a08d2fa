import Derived.Test.YtbjgpfhbdmcbbabGreatDoorP21

/-
  CONTRACTS of package quern: begin on a disk that tells of no run.
-/
namespace Go.Proofs.YtbjgpfhbdmcbbabGreatDoor.jobs
open Go.RowKit dnamath dna diskm disk keep hex pieces files parse words kinds
set_option linter.unusedVariables false

set_option maxHeartbeats 2000000 in
set_option maxRecDepth 100000 in
theorem isBegun_none {Bo : Nat} (j p K M Bn : Nat) (text run : ByteArray) (S : DS) (N : Nat) (a bb : Addr) (w : World) (hJ : JobAt Bo w j p K M Bn text run) (hg : Gs w a bb) (hD : Disk Bo w p S) (hS : RoomB S N) (hN : N ≤ 3500) (hl1 : S.look planB = none) (hl2 : S.look countsB = none) :
    Calls Tryz.prog 54 #[.pointer (some ⟨j, 0, none⟩)] w fun e w' => ∃ x v, e = .returned (.tuple #[.bool x, v]) ∧ Gone w' a v ∧ Below w.heap.size w w' := by
  obtain ⟨cs, sum, wr, hf, r0, r1, r2, r3, r10, r11⟩ := hJ.ex
  have cl := Load_absent j 4 p S N planB planHB a bb w hD hS.good.ok (by omega) hS.good.fine hg ((st_cell hf.blk _).trans hf.c0) ((st_cell hf.blk _).trans hf.c1) hl1
  have HJ : Hid (JobAt Bo w j p K M Bn text run) := hJ
  have HD : Hid (Disk Bo w p S ∧ RoomB S N ∧ Gs w a bb ∧ S.look countsB = none) := ⟨hD, hS, hg, hl2⟩
  clear hf r0 r1 r2 r3 r10 r11 hJ hD hS hg hl1 hl2
  go_enter Tryz.func54, Tryz.ntmps54
  go_wp2_with fail
  refine cl.mono ?_
  rintro e w1 ⟨v, rfl, hG1, b1⟩
  have HG1 : Hid (Gone w1 a v) := hG1
  have ci := isGone_gone a bb v w1 (HD.out.2.2.1.below b1) hG1
  clear hG1
  go_wp2_with fail
  refine ci.mono ?_
  rintro e w2 ⟨rfl, hw2⟩
  have hw2' := hw2.symm
  subst hw2'
  obtain ⟨z0, _, _, _, _, z11⟩ := (HJ.out.below b1).cells
  have co := openCounts_absent p S N a bb w1 (HD.out.1.below b1) HD.out.2.1.good.ok (by omega) HD.out.2.1.good.fine (HD.out.2.2.1.below b1) HD.out.2.2.2
  go_upto_region 5 with (go_at_call 41; go_must (refine co.mono ?_; rintro e w3 ⟨v3, rfl, hG3, b3⟩))
  obtain ⟨_, _, _, _, _, y11⟩ := ((HJ.out.below b1).below b3).cells
  have HG3 : Hid (Gone w3 a v3) := hG3
  clear hG3
  go_wp2
  go_ret2
  exact ⟨_, v3, rfl, HG3.out, b1.trans (b3.mono b1.size)⟩

set_option maxHeartbeats 2000000 in
set_option maxRecDepth 100000 in
theorem begin_none {Bo : Nat} (j p K M Bn : Nat) (text run : ByteArray) (S : DS) (N : Nat) (a bb : Addr) (w : World) (hJ : JobAt Bo w j p K M Bn text run) (hg : Gs w a bb) (hD : Disk Bo w p S) (hS : RoomB S N) (hN : N ≤ 3500) (hl1 : S.look planB = none) (hl2 : S.look countsB = none) (ht : text.size ≤ 50000) (hj : 27 ≤ j) :
    Calls Tryz.prog 39 #[.pointer (some ⟨j, 0, none⟩)] w fun e w' => ∃ S1 S2, e = .returned .nilIface ∧ JobAt Bo w' j p K M Bn text run ∧ Disk Bo w' p S2 ∧ Less S S1 (N + 18) (leftL 16 ++ [countsB]) ∧ Saved S1 S2 (N + 18) draftB planB (whole (planHB.data.toList ++ text.data.toList)) ∧ FK Bo j w w' := by
  have c1 := isBegun_none j p K M Bn text run S N a bb w hJ hg hD hS hN hl1 hl2
  have c3 : ∀ W, Below w.heap.size w W → _ := fun W hW => beginAnew_any j p K M Bn text run S N a bb W (hJ.below hW) (hg.below hW) (hD.below hW) hS hN ht hj
  have HG : Hid (Gs w a bb) := hg
  clear hJ hg hD hS hl1 hl2
  go_enter Tryz.func39, Tryz.ntmps39
  go_wp2_with fail
  refine c1.mono ?_
  rintro e w1 ⟨x, v, rfl, hG1, b1⟩
  have ci := isGone_gone a bb v w1 (HG.out.below b1) hG1
  clear hG1
  go_wp2_with fail
  refine ci.mono ?_
  rintro e w2 ⟨rfl, hw2⟩
  have hw2' := hw2.symm
  subst hw2'
  go_wp2_with fail
  refine (c3 _ b1).mono ?_
  rintro e w3 ⟨S1, S2, rfl, hJ3, d3, l3, v3, k3⟩
  have HH : Hid (JobAt Bo w3 j p K M Bn text run ∧ Disk Bo w3 p S2 ∧ Less S S1 (N + 18) (leftL 16 ++ [countsB]) ∧ Saved S1 S2 (N + 18) draftB planB (whole (planHB.data.toList ++ text.data.toList)) ∧ FK Bo j w w3) := ⟨hJ3, d3, l3, v3, (FK.ofKept (.ofBelow b1)).trans k3⟩
  clear hJ3 d3 l3 v3 k3
  go_wp2
  go_ret
  exact ⟨S1, S2, rfl, HH.out.1, HH.out.2.1, HH.out.2.2.1, HH.out.2.2.2.1, HH.out.2.2.2.2⟩
end Go.Proofs.YtbjgpfhbdmcbbabGreatDoor.jobs

/-
  CONTRACTS of package quern: saveParts.
-/
namespace Go.Proofs.YtbjgpfhbdmcbbabGreatDoor.jobs
open Go.RowKit dnamath dna diskm disk keep hex pieces files parse words kinds
set_option linter.unusedVariables false

/-- what was there is as it was, disks and bytes aside -/
abbrev New (Bo : Nat) (w w' : World) : Prop := FK Bo w.heap.size w w'
theorem New.refl {Bo : Nat} (w : World) : New Bo w w := FK.refl _ _
theorem New.fk {Bo : Nat} {w w1 w2 : World} {q : Nat} (h : New Bo w w1) (k : FK Bo q w1 w2) (hq : w.heap.size ≤ q) : New Bo w w2 :=
  ⟨k.os.trans h.os, k.tape.trans h.tape, k.output.trans h.output, Nat.le_trans h.size k.size, fun i hi hb hn hd => by
    have h1 := h.block i hi hb hn hd
    exact (k.block i (Nat.lt_of_lt_of_le hi h.size) (by omega) (fun e => hn ((isBytes_of h1).1 e)) (fun e => hd ((isDisk_of h1).1 e))).trans h1, fun i hi hl hb => (k.low i (Nat.lt_of_lt_of_le hi h.size) hl (by omega)).trans (h.low i hi hl hb)⟩
theorem New.kept {Bo : Nat} {w w1 w2 : World} (h : New Bo w w1) (k : Kept Bo w1 w2) : New Bo w w2 := h.fk (FK.ofKept (b := w.heap.size) k) (Nat.le_refl _)
theorem New.below {Bo : Nat} {w w1 w2 : World} (h : New Bo w w1) (k : Below w1.heap.size w1 w2) : New Bo w w2 := h.kept (.ofBelow k)
theorem New.wk {Bo : Nat} {w w1 w2 : World} {q : Nat} (h : New Bo w w1) (k : WK Bo q w1 w2) (hq : w.heap.size ≤ q) : New Bo w w2 := h.fk (FK.ofWK k) hq
theorem New.own {Bo : Nat} {w w' : World} {base : Nat} {e : TypeId} {s n : Nat} {v : Value} {xs : List Value} (hk : New Bo w w') (h : w.ownsRow base e s v n xs) (he : ¬ ours e) : w'.ownsRow base e s v n xs :=
  row_keepB h (fun k cs fz hb => hk.block k (lt_of_block hb) (Nat.ne_of_lt (lt_of_block hb)) (fun ⟨cs', fz', e'⟩ => by rw [hb] at e'; cases e'; exact he (.inr (.inr (.inr (.inr rfl))))) (by
    rintro ⟨cs', T', fz', e', hd⟩
    rw [hb] at e'
    cases e'
    rcases hd with h | h | h | h
    · exact he (.inl h)
    · exact he (.inr (.inl h))
    · exact he (.inr (.inr (.inl h)))
    · exact he (.inr (.inr (.inr (.inl h))))))
theorem not_ours_s : ¬ ours 9 := by unfold ours; decide
theorem not_ours_r : ¬ ours 28 := by unfold ours; decide
theorem not_ours_e : ¬ ours 58 := by unfold ours; decide
theorem not_ours_es : ¬ ours 30 := by unfold ours; decide
theorem New.rows {Bo : Nat} {w w' : World} {base : Nat} {bv : Value} {vs : List Value} {B : List (List ByteArray)} (hk : New Bo w w') (h : RowsAt w base bv vs B) : RowsAt w' base bv vs B :=
  ⟨hk.own h.row not_ours_r, h.len, fun i v b h1 h2 => hk.own (h.each i v b h1 h2) not_ours_s, h.apart⟩
theorem New.job {Bo : Nat} {w w' : World} {j p K M Bn : Nat} {text run : ByteArray} (hk : New Bo w w') (h : JobAt Bo w j p K M Bn text run) : JobAt Bo w' j p K M Bn text run := h.fk hk (Nat.ne_of_lt h.lt)
theorem New.gs {Bo : Nat} {w w' : World} {a b : Addr} (hk : New Bo w w') (h : Gs w a b) (hn : 27 ≤ w.heap.size) : Gs w' a b := FK.gs hk h hn
theorem New.sen {Bo : Nat} {w w' : World} {a b : Addr} (hk : New Bo w w') (h : Sen w a b) : Sen w' a b := by
  have := h.lt
  exact h.fk hk (by omega) (by omega)

theorem RoomB.mono {S : DS} {N M : Nat} (h : RoomB S N) (hm : N ≤ M) : RoomB S M :=
  ⟨h.good.mono hm, h.cap, Nat.le_trans h.bytes (Nat.mul_le_mul_left _ hm), h.draft⟩

/-- what stands in a part -/
def partZ (run : ByteArray) (i : Nat) (bl : List ByteArray) : List UInt8 := (headB partB run i).data.toList ++ unlines (datas bl)
/-- the parts below k are saved -/
structure PartsK (S T : DS) (N k : Nat) (run : ByteArray) (B : List (List ByteArray)) : Prop where
  room : RoomB T (N + 2 * k)
  parts : ∀ (i : Nat) (bl : List ByteArray), i < k → B[i]? = some bl → bl ≠ [] → T.look (nameB i) = some (wholeF (partZ run i bl))
  rest : ∀ m : ByteArray, (∀ i, i < k → m.toList ≠ (nameB i).toList) → T.look m = S.look m
theorem parts_start {S : DS} {N : Nat} (run : ByteArray) (B : List (List ByteArray)) (h : RoomB S N) : PartsK S S N 0 run B := ⟨h, (fun i bl h => by omega), fun m _ => rfl⟩
theorem PartsK.skip {S T : DS} {N k : Nat} {run : ByteArray} {B : List (List ByteArray)} (h : PartsK S T N k run B) (hk : B[k]? = some []) : PartsK S T N (k + 1) run B := by
  refine ⟨h.room.mono (by omega), fun i bl hi hb hne => ?_, fun m hm => h.rest m (fun i hi => hm i (by omega))⟩
  rcases Nat.lt_succ_iff_lt_or_eq.1 hi with h1 | rfl
  · exact h.parts i bl h1 hb hne
  · rw [hk] at hb; cases hb; exact absurd rfl hne
theorem PartsK.save {S T T' : DS} {N k : Nat} {run : ByteArray} {B : List (List ByteArray)} {bl : List ByteArray} (h : PartsK S T N k run B) (hk : B[k]? = some bl) (hs : Saved T T' (N + 2 * k) draftB (nameB k) (whole (partZ run k bl))) (hX : (whole (partZ run k bl)).size ≤ 100000) (hN : N + 2 * k ≤ 5000) : PartsK S T' N (k + 1) run B := by
  refine ⟨(h.room.saved hs hX (nameB_draft k) hN).mono (by omega), fun i b hi hb hne => ?_, fun m hm => ?_⟩
  · rcases Nat.lt_succ_iff_lt_or_eq.1 hi with h1 | rfl
    · rw [hs.look_old h.room.good.ok h.room.good.sorted (fun e => by have := nameB_inj e; omega)]
      exact h.parts i b h1 hb hne
    · rw [hk] at hb; cases hb; exact hs.look_new
  · rw [hs.look_old h.room.good.ok h.room.good.sorted (hm k (Nat.lt_succ_self _))]
    exact h.rest m (fun i hi => hm i (by omega))

theorem head_size (kind run : ByteArray) (n : Nat) (h1 : kind.size ≤ 10) (h2 : run.size ≤ 17) (hn : n ≤ 1000000) : (headB kind run n).size ≤ 40 := by
  have := itoa_size n hn
  have z1 : spB.size = 1 := rfl
  have z2 : nlB.size = 1 := rfl
  unfold headB
  simp only [ByteArray.size_append]
  omega
theorem len_size (x : ByteArray) : x.data.toList.length = x.size := (Lib.size_eq x).symm

set_option maxHeartbeats 4000000 in
set_option maxRecDepth 100000 in
theorem saveParts_any {Bo : Nat} (j p K M Bn : Nat) (text run : ByteArray) (bv : Value) (vs : List Value) (B : List (List ByteArray)) (base : Nat) (S : DS) (N : Nat) (a bb : Addr) (w : World) (hJ : JobAt Bo w j p K M Bn text run) (hg : Gs w a bb) (hD : Disk Bo w p S) (hS : RoomB S N) (hN : N ≤ 3900) (hr : RowsAt w base bv vs B) (hvl : vs.length ≤ 16) (hs : run.size ≤ 17) (hNG : 27 ≤ w.heap.size)
    (hno : ∀ i, i < 16 → S.look (nameB i) = none) (hsz : ∀ (i : Nat) (bl : List ByteArray), B[i]? = some bl → (unlines (datas bl)).length ≤ 50000 ∧ bl.length ≤ 50000) :
    Calls Tryz.prog 87 #[.pointer (some ⟨j, 0, none⟩), bv] w fun e w' => ∃ S', e = .returned .nilIface ∧ Disk Bo w' p S' ∧ PartsK S S' N vs.length run B ∧ New Bo w w' := by
  obtain ⟨ab, cb, hbv⟩ := own_slice hr.row
  subst hbv
  have HH : Hid (JobAt Bo w j p K M Bn text run ∧ Gs w a bb ∧ RowsAt w base (.slice ab vs.length cb) vs B ∧ ∀ i, i < 16 → S.look (nameB i) = none) := ⟨hJ, hg, hr, hno⟩
  have HSZ : Hid (∀ (i : Nat) (bl : List ByteArray), B[i]? = some bl → (unlines (datas bl)).length ≤ 50000 ∧ bl.length ≤ 50000) := hsz
  have H0 : Hid (∃ T, Disk Bo w p T ∧ PartsK S T N 0 run B ∧ New Bo w w) := ⟨S, hD, parts_start run B hS, New.refl _⟩
  clear hJ hg hr hD hS hno hsz
  go_enter Tryz.func87, Tryz.ntmps87
  go_wp2_with fail
  go_loopw [12] (fun i wr => ∃ (k : Nat), i = .int .i64 (k : Int) ∧ k ≤ vs.length ∧ Hid (∃ T, Disk Bo wr p T ∧ PartsK S T N k run B ∧ New Bo w wr)) (fun i _ => vs.length - (intOf i).toNat)
  case atStart => exact ⟨0, rfl, Nat.zero_le _, H0⟩
  case round =>
    obtain ⟨k, rfl, hk, hT⟩ := hrel
    clear H0
    rename World => wr
    obtain ⟨T, hDT, hPT, hNw⟩ := hT.out
    by_cases hlt : k < vs.length
    · have hJr := hNw.job HH.out.1
      have hgr := hNw.gs HH.out.2.1 hNG
      have hrr := hNw.rows HH.out.2.2.1
      obtain ⟨v, hv⟩ : ∃ v, vs[k]? = some v := ⟨_, List.getElem?_eq_getElem hlt⟩
      obtain ⟨bl, hbl⟩ : ∃ bl, B[k]? = some bl := ⟨_, List.getElem?_eq_getElem (by rw [hrr.len]; exact hlt)⟩
      have hvo := hrr.each k v bl hv hbl
      obtain ⟨av, cv2, hve⟩ := own_slice hvo
      subst hve
      rcases hrr.row.2 with ⟨_, e0⟩ | ⟨g, cap, cur, e1, _⟩
      · omega
      cases e1
      have hc : wr.cell? ⟨g, k, none⟩ = some (.slice av bl.length cv2) := by rw [hrr.row.cellAt (g := g) k (by omega)]; exact hv
      by_cases hbe : bl = []
      · have HP : Hid (PartsK S T N (k + 1) run B ∧ Disk Bo wr p T ∧ New Bo w wr) := ⟨hPT.skip (by rw [hbl, hbe]), hDT, hNw⟩
        subst hbe
        clear hJr hgr hrr hvo hv hbl hT hDT hPT hNw
        go_wp2
        go_roundw
        case rel => exact ⟨k + 1, by go_num, by omega, ⟨T, HP.out.2.1, HP.out.1, HP.out.2.2⟩⟩
        case measure => simp [intOf]; omega
      · have hbp : 0 < bl.length := List.length_pos_iff.2 hbe
        have hz : ((bl.length : Int) == 0) = false := by simp; omega
        have hsz := HSZ.out k bl hbl
        have ct := tally_any j p K M Bn text run k a bb wr hJr hgr (by omega) (by omega)
        have cp : ∀ W, Below wr.heap.size wr W → _ := fun W hW => part_any j p K M Bn text run k a bb W (hJr.below hW) (hgr.below hW) (by omega) (by omega)
        have HB : Hid (B[k]? = some bl ∧ Disk Bo wr p T ∧ PartsK S T N k run B ∧ New Bo w wr ∧ Gs wr a bb ∧ wr.ownsRow base 9 1 (.slice av bl.length cv2) bl.length (scells bl)) := ⟨hbl, hDT, hPT, hNw, hgr, hvo⟩
        clear hJr hgr hrr hvo hv hbl hT hDT hPT hNw
        go_upto_region 6 with (first | (go_at_call 117; go_must (refine ct.mono ?_; rintro e w3 ⟨rfl, b3⟩)) | (go_at_call 118; go_must (refine (cp _ b3).mono ?_; rintro e w4 ⟨rfl, b4⟩)))
        obtain ⟨hbl, hDT, hPT, hNw, hgr, hvo⟩ := HB.out
        obtain ⟨W5, hW5⟩ : ∃ W5, W5 = (w4.alloc (.cells (listC p (nameB k) (headB tallyB run k) K) 105)).alloc (.cells (partC p (nameB k) (headB partB run k)) 214) := ⟨_, rfl⟩
        obtain ⟨q1, hq1⟩ : ∃ q1, q1 = w4.heap.size := ⟨_, rfl⟩
        have hsz4 : (w4.alloc (.cells (listC p (nameB k) (headB tallyB run k) K) 105)).heap.size = q1 + 1 := by rw [hq1]; simp
        have B4 : Below wr.heap.size wr w4 := b3.trans (b4.mono b3.size)
        have B5 : Below w4.heap.size w4 W5 := by rw [hW5]; exact ((Below.refl _ _).alloc (Nat.le_refl _) _).alloc (by rw [hsz4]; omega) _
        have BR : Below wr.heap.size wr W5 := B4.trans (B5.mono B4.size)
        have F1 : FileAt Bo W5 q1 0 (listC p (nameB k) (headB tallyB run k) K) 105 p (nameB k) (headB tallyB run k) 0 0 (.slice none 0 0) [] := by
          have h0 := listC_at w4 p (nameB k) (headB tallyB run k) K (Nat.le_trans hDT.low B4.size)
          rw [← hq1] at h0
          rw [hW5]
          exact h0.kept (.ofBelow ((Below.refl _ _).alloc (Nat.le_refl _) _))
        have F2 : FileAt Bo W5 (q1 + 1) 0 (partC p (nameB k) (headB partB run k)) 214 p (nameB k) (headB partB run k) 0 0 (.slice none 0 0) [] := by
          have h0 := partC_at (w4.alloc (.cells (listC p (nameB k) (headB tallyB run k) K) 105)) p (nameB k) (headB partB run k) (Nat.le_trans hDT.low (Nat.le_trans B4.size (by simp)))
          rw [hsz4] at h0
          rw [hW5]
          exact h0
        have hqw : w.heap.size ≤ q1 := by rw [hq1]; exact Nat.le_trans hNw.size B4.size
        have hln : T.look (nameB k) = none := by rw [hPT.rest (nameB k) (fun i hi e => by have := nameB_inj e; omega)]; exact HH.out.2.2.2 k (by omega)
        have hG5 := hgr.below BR
        have cl := load_absent q1 p T (N + 2 * k) (nameB k) a bb W5 (hDT.below BR) hPT.room.good.ok (by omega) hPT.room.good.fine hG5 ((st_cell F1.blk _).trans F1.c0) ((st_cell F1.blk _).trans F1.c1) hln
        have HK : Hid (True ∧ Below wr.heap.size wr W5 ∧ FileAt Bo W5 (q1 + 1) 0 (partC p (nameB k) (headB partB run k)) 214 p (nameB k) (headB partB run k) 0 0 (.slice none 0 0) [] ∧ T.look (nameB k) = none) := ⟨trivial, BR, F2, hln⟩
        rw [show (w4.alloc (.cells #[.pointer (some ⟨p, 0, none⟩), .string (nameB k), .string (headB tallyB run k), .int .u64 0, .int .i64 0, .slice none 0 0, .int .i64 (K : Int), .slice none 0 0] 105)).alloc (.cells #[.pointer (some ⟨p, 0, none⟩), .string (nameB k), .string (headB partB run k), .int .u64 0, .int .i64 0, .slice none 0 0] 214) = W5 from hW5.symm, ← hq1]
        clear ct cp b3 b4 B4 B5 BR F1 F2 hln hG5 hW5 hq1 hsz4 hDT hPT hNw hgr hvo hbl hc
        go_wp2_with fail
        refine cl.mono ?_
        rintro e w6 ⟨v6, rfl, hG6, b6⟩
        have ci6 := isGone_gone a bb v6 w6 ((HB.out.2.2.2.2.1.below HK.out.2.1).below b6) hG6
        clear hG6
        go_wp2_with fail
        refine ci6.mono ?_
        rintro e w7 ⟨rfl, hw7⟩
        have hw7' := hw7.symm
        subst hw7'
        have F6 := HK.out.2.2.1.kept (.ofBelow b6)
        have cpi := pieces_absent (q1 + 1) p T (N + 2 * k) (nameB k) a bb w6 ((HB.out.2.1.below HK.out.2.1).below b6) HB.out.2.2.1.room.good.ok (by omega) HB.out.2.2.1.room.good.fine ((HB.out.2.2.2.2.1.below HK.out.2.1).below b6) ((st_cell F6.blk _).trans F6.c0) ((st_cell F6.blk _).trans F6.c1) HK.out.2.2.2
        clear F6
        go_wp2_with fail
        refine cpi.mono ?_
        rintro e w8 ⟨v8, rfl, hG8, b8⟩
        have ci8 := isGone_gone a bb v8 w8 (((HB.out.2.2.2.2.1.below HK.out.2.1).below b6).below b8) hG8
        clear hG8
        go_wp2_with fail
        refine ci8.mono ?_
        rintro e w9 ⟨rfl, hw9⟩
        have hw9' := hw9.symm
        subst hw9'
        have hhs := head_size partB run k (by decide) hs (by omega)
        have BX : Below wr.heap.size wr w8 := HK.out.2.1.trans ((b6.trans (b8.mono b6.size)).mono HK.out.2.1.size)
        have F8 := (HK.out.2.2.1.kept (.ofBelow b6)).kept (.ofBelow b8)
        have cps := partSave (q1 + 1) 0 _ 214 p (nameB k) (headB partB run k) 0 0 (.slice none 0 0) [] T (N + 2 * k) a bb (.slice av bl.length cv2) bl w8 F8 (by decide) (HB.out.2.2.2.2.1.below BX) (by omega) (HB.out.2.1.below BX) (HB.out.2.2.1.room.roomy (by omega)) (by omega) (own_lower (row_keepB HB.out.2.2.2.2.2 (TK.below BX)) (Nat.zero_le _)) (by have h9 := hsz.1; show _ + (unlines (datas bl)).length ≤ _; omega) (nameB_ne k) (nameB_draft k) (by omega)
        have HBX : Hid (Below wr.heap.size wr w8) := BX
        clear F8 BX cl ci6 ci8 cpi
        go_wp2_with fail
        refine cps.mono ?_
        rintro e w10 ⟨S', s', r', rfl, h10, d10, v10, k10⟩
        have HN10 : Hid (Disk Bo w10 p S' ∧ PartsK S S' N (k + 1) run B ∧ New Bo w w10) := by
          refine ⟨d10, HB.out.2.2.1.save HB.out.1 v10 ?_ (by omega), (HB.out.2.2.2.1.below HBX.out).fk k10 (by omega)⟩
          refine Nat.le_trans (whole_size _ ?_) ?_
          · unfold partZ; rw [List.length_append, len_size]; have h9 := hsz.1; omega
          · unfold partZ; rw [List.length_append, len_size]; have h9 := hsz.1; omega
        clear h10 d10 v10 k10 cps
        go_wp2
        go_roundw
        case rel => exact ⟨k + 1, by go_num, by omega, ⟨S', HN10.out.1, HN10.out.2.1, HN10.out.2.2⟩⟩
        case measure => simp [intOf]; omega
    · have hke : k = vs.length := by omega
      subst hke
      have HP : Hid (Disk Bo wr p T ∧ PartsK S T N vs.length run B ∧ New Bo w wr) := ⟨hDT, hPT, hNw⟩
      clear hDT hPT hNw hT
      go_wp2
      go_ret
      exact ⟨T, rfl, HP.out.1, HP.out.2.1, HP.out.2.2⟩
end Go.Proofs.YtbjgpfhbdmcbbabGreatDoor.jobs

/-
  CONTRACTS of package quern: saveTally.
-/
namespace Go.Proofs.YtbjgpfhbdmcbbabGreatDoor.jobs
open Go.RowKit dnamath dna diskm disk keep hex pieces files parse words kinds
set_option linter.unusedVariables false

theorem nodup_len {α : Type} : ∀ (l l' : List α), l.Nodup → (∀ x ∈ l, x ∈ l') → l.length ≤ l'.length
  | [], _, _, _ => by simp
  | x :: l, l', hn, hs => by
    rw [List.nodup_cons] at hn
    obtain ⟨A, C, rfl⟩ := List.append_of_mem (hs x (List.mem_cons_self ..))
    have ih := nodup_len l (A ++ C) hn.2 (fun y hy => by
      have := hs y (List.mem_cons_of_mem _ hy)
      rw [List.mem_append, List.mem_cons] at this
      rw [List.mem_append]
      rcases this with h | h | h
      · exact .inl h
      · subst h; exact absurd hy hn.1
      · exact .inr h)
    simp only [List.length_cons, List.length_append] at ih ⊢
    omega

/-- the words of pieces are words -/
theorem allW_words {k : Nat} {ps : List ByteArray} (hB : ∀ p ∈ ps, p.data.toList.all isB = true) : ∀ x ∈ allW k ps, x.length = k ∧ x.all isB = true := by
  intro x hx
  unfold allW at hx
  rw [List.mem_map] at hx
  obtain ⟨y, hy, rfl⟩ := hx
  rw [List.mem_flatMap] at hy
  obtain ⟨p, hp, hy⟩ := hy
  unfold datas at hp
  rw [List.mem_map] at hp
  obtain ⟨p', hp', rfl⟩ := hp
  unfold winP at hy
  rw [List.mem_map] at hy
  obtain ⟨i, hi, rfl⟩ := hy
  rw [List.mem_range] at hi
  have h2 := all_part (hB p' hp') i k
  exact ⟨by rw [canonL_len]; unfold cut; rw [List.length_take, List.length_drop]; omega, canonL_all h2⟩

structure Small (k L : Nat) (es : List Ent) : Prop where
  len : es.length ≤ L
  each : ∀ x ∈ es, x.1.data.toList.all isB = true ∧ x.1.size = k ∧ 1 ≤ x.2 ∧ x.2 ≤ L
theorem tally_small {ws : List (List UInt8)} {es : List Ent} {k L : Nat} (h : TallyOf ws (es.map cv)) (hw : ∀ x ∈ ws, x.length = k ∧ x.all isB = true) (hl : ws.length ≤ L) : Small k L es := by
  refine ⟨?_, fun x hx => ?_⟩
  · have h1 : ((es.map cv).map Prod.fst).Nodup := h.sorted.imp (fun {a b} hab => (show a ≠ b from fun e => by subst e; exact List.lt_irrefl _ hab))
    have h2 := nodup_len _ ws h1 (fun x hx => (tally_key h x).1 hx)
    rw [List.length_map, List.length_map] at h2
    omega
  · have hc := h.count (cv x) (List.mem_map.2 ⟨x, hx, rfl⟩)
    have hm := (tally_key h (cv x).1).1 (List.mem_map.2 ⟨cv x, List.mem_map.2 ⟨x, hx, rfl⟩, rfl⟩)
    have hz := hw _ hm
    refine ⟨hz.2, by rw [Lib.size_eq]; exact hz.1, hc.2, ?_⟩
    have h3 : x.2 = ws.count (cv x).1 := hc.1
    have h4 := List.count_le_length (a := (cv x).1) (l := ws)
    omega
theorem text_small {k L : Nat} : ∀ {es : List Ent}, (∀ x ∈ es, x.1.data.toList.all isB = true ∧ x.1.size = k ∧ 1 ≤ x.2 ∧ x.2 ≤ L) → L ≤ 1000000 → (textE es).length ≤ es.length * (k + 10)
  | [], _, _ => by simp [textE]
  | x :: es, h, hL => by
    have ih := text_small (k := k) (es := es) (fun y hy => h y (List.mem_cons_of_mem _ hy)) hL
    have hx := h x (List.mem_cons_self ..)
    have hi := itoa_short x.2 (by omega)
    have e : textE (x :: es) = lineE x ++ textE es := by simp [textE]
    rw [e, List.length_append]
    have hl : (lineE x).length = x.1.size + 1 + (Lib.itoa (x.2 : Int)).length + 1 := by
      unfold lineE
      simp only [List.length_append, List.length_singleton, len_size]
    rw [hl, List.length_cons, Nat.add_mul, Nat.one_mul]
    omega

theorem entries_fk' {Bo : Nat} {b base : Nat} {w w' : World} {v : Value} {l : List Ent} (hk : FK Bo b w w') (h : w.ownsRow base 58 2 v l.length (ecells l)) (hb : ∀ cs fz, w.heap[b]? ≠ some (.cells cs 58 fz)) : w'.ownsRow base 58 2 v l.length (ecells l) :=
  row_keepB h (fun k cs fz e => hk.block k (lt_of_block e) (fun e2 => by subst e2; exact hb _ _ e) (fun ⟨cs', fz', e'⟩ => by rw [e] at e'; cases e') (by
    rintro ⟨cs', T', fz', e', hd⟩
    rw [e] at e'
    cases e'
    rcases hd with h | h | h | h <;> exact absurd h (by decide)))

/-- what stands in a tally -/
def tallyZ (run : ByteArray) (i : Nat) (es : List Ent) : List UInt8 := (headB tallyB run i).data.toList ++ textE es

set_option maxHeartbeats 4000000 in
set_option maxRecDepth 100000 in
theorem saveTally_any {Bo : Nat} (j p K M Bn : Nat) (text run : ByteArray) (t q i : Nat) (csT csP : Array Value) (sT rT sP rP : Nat) (bl : List ByteArray) (T : DS) (N : Nat) (a bb : Addr) (w : World) (hJ : JobAt Bo w j p K M Bn text run) (hg : Gs w a bb) (hD : Disk Bo w p T) (hS : RoomB T N) (hN : N ≤ 4000)
    (FT : FileAt Bo w t 0 csT 105 p (nameB i) (headB tallyB run i) sT rT (.slice none 0 0) []) (h7 : ∃ v7, csT[7]? = some v7) (FP : FileAt Bo w q 0 csP 214 p (nameB i) (headB partB run i) sP rP (.slice none 0 0) []) (hl : T.look (nameB i) = some (wholeF (partZ run i bl)))
    (hB : ∀ x ∈ bl, x.data.toList.all isB = true ∧ x.size ≤ 2000) (hbz : (unlines (datas bl)).length ≤ 50000) (hbl : bl.length ≤ 50000) (hal : (allW K bl).length ≤ 1440) (hK1 : 1 ≤ K) (hK : K ≤ 31) (hi : i ≤ 16) (hrs : run.size ≤ 17) (htN : 27 ≤ t) (hqN : 27 ≤ q) (hjt : j ≠ t) (hjq : j ≠ q) :
    Calls Tryz.prog 121 #[.pointer (some ⟨j, 0, none⟩), .pointer (some ⟨t, 0, none⟩), .pointer (some ⟨q, 0, none⟩)] w fun e w' => ∃ S' ev es, e = .returned .nilIface ∧ w'.cell? ⟨t, 7, none⟩ = some ev ∧ w'.ownsRow w.heap.size 58 2 ev es.length (ecells es) ∧ TallyOf (allW K bl) (es.map cv) ∧ Disk Bo w' p S' ∧ Saved T S' N draftB (nameB i) (whole (tallyZ run i es)) ∧ ∀ u, New Bo u w → u.heap.size ≤ t → u.heap.size ≤ q → New Bo u w' := by
  have htq : t ≠ q := fun e => by
    have h1 := FT.blk
    rw [e, FP.blk] at h1
    simp only [Option.some.injEq, Obj.cells.injEq] at h1
    exact absurd h1.2.1 (by decide)
  obtain ⟨v7, h7⟩ := h7
  have hclean : ∀ x ∈ datas bl, clean x := fun x hx => by
    unfold datas at hx
    rw [List.mem_map] at hx
    obtain ⟨y, hy, rfl⟩ := hx
    intro c hc
    exact no_of_B (List.all_eq_true.1 (hB y hy).1 c hc) (by decide)
  have hhs := head_size partB run i (by decide) hrs (by omega)
  have hhs2 := head_size tallyB run i (by decide) hrs (by omega)
  have cp := pieces_ok q csP 214 p (nameB i) (headB partB run i) sP rP (.slice none 0 0) [] T N a bb (datas bl) w FP hg hD hS.good.ok (by omega) hS.good.fine hl (ends_head _ _ _) (by rw [List.length_append, len_size]; omega) hqN hclean
  have HH : Hid (JobAt Bo w j p K M Bn text run ∧ Gs w a bb ∧ Disk Bo w p T ∧ RoomB T N ∧ FileAt Bo w t 0 csT 105 p (nameB i) (headB tallyB run i) sT rT (.slice none 0 0) [] ∧ FileAt Bo w q 0 csP 214 p (nameB i) (headB partB run i) sP rP (.slice none 0 0) []) := ⟨hJ, hg, hD, hS, FT, FP⟩
  have HB : Hid (∀ x ∈ bl, x.data.toList.all isB = true ∧ x.size ≤ 2000) := hB
  have H7 : Hid (csT[7]? = some v7) := h7
  have HAL : Hid ((allW K bl).length ≤ 1440) := hal
  clear hJ hg hD hS FT FP hB h7 hl hclean hal
  go_enter Tryz.func121, Tryz.ntmps121
  go_wp2_with fail
  refine cp.mono ?_
  rintro e w1 ⟨v, ts, s1, r1, rfl, own1, hd1, FP1, k1⟩
  obtain ⟨aP, cP, hvp⟩ := own_slice own1
  subst hvp
  have htsE : ts = bl := by
    have e1 : ∀ (x y : List ByteArray), datas x = datas y → x = y := by
      intro x
      induction x with
      | nil => intro y h; cases y with | nil => rfl | cons b y => simp [datas] at h
      | cons a x ih =>
        intro y h
        cases y with
        | nil => simp [datas] at h
        | cons b y =>
          simp only [datas, List.map_cons, List.cons.injEq] at h
          rw [kinds.bytes_eq h.1, ih y h.2]
    exact e1 _ _ hd1
  subst htsE
  have K1 : FK Bo q w w1 := FK.ofWK k1
  have J1 := HH.out.1.fk K1 hjq
  obtain ⟨_, z1, _, _, _, _⟩ := J1.cells
  have cc := countWords_any (.slice aP ts.length cP) ts K w1 (own_lower own1 (Nat.zero_le _)) hK1 hK (fun x hx => (HB.out x hx).1) (by omega) (fun x hx => Nat.le_trans (HB.out x hx).2 (by omega)) (by have := HAL.out; omega)
  have HK1 : Hid (WK Bo q w w1 ∧ JobAt Bo w1 j p K M Bn text run) := ⟨k1, J1⟩
  clear cp own1 hd1 FP1 k1 K1 J1
  go_wp2_with fail
  refine cc.mono ?_
  rintro e w2 ⟨ev, es, rfl, own2, ht2, b2⟩
  obtain ⟨aE, cE, hve⟩ := own_slice own2
  subst hve
  have FT2 := (FileAt.fk HH.out.2.2.2.2.1 (FK.ofWK HK1.out.1) htq).kept (.ofBelow b2)
  have hl7 : 7 < csT.size := by
    rcases Nat.lt_or_ge 7 csT.size with h | h
    · exact h
    · have := H7.out; rw [Array.getElem?_eq_none h] at this; cases this
  have c7 : w2.cell? ⟨t, 7, none⟩ = some v7 := (st_cell FT2.blk _).trans H7.out
  have f7 := st_frozen FT2.blk 7
  obtain ⟨cs3, hcs3⟩ : ∃ cs3, cs3 = csT.setIfInBounds 7 (.slice aE es.length cE) := ⟨_, rfl⟩
  obtain ⟨W3, hW3⟩ : ∃ W3, W3 = w2.setCell ⟨t, 7, none⟩ (.slice aE es.length cE) := ⟨_, rfl⟩
  have q3 : W3.heap[t]? = some (.cells cs3 105 (0, 0)) := by rw [hW3, hcs3]; exact heap_setCell_same w2 t 7 _ _ _ FT2.blk
  have FT3 : FileAt Bo W3 t 0 cs3 105 p (nameB i) (headB tallyB run i) sT rT (.slice none 0 0) [] := by
    refine ⟨q3, FT2.ty, ?_, ?_, ?_, ?_, ?_, ?_, World.ownsRow_nil _ _ _ _, Nat.le_trans FT2.big (by rw [hW3]; simp [World.setCell])⟩
    · rw [hcs3, Array.getElem?_setIfInBounds_ne (by omega)]; exact FT2.c0
    · rw [hcs3, Array.getElem?_setIfInBounds_ne (by omega)]; exact FT2.c1
    · rw [hcs3, Array.getElem?_setIfInBounds_ne (by omega)]; exact FT2.c2
    · rw [hcs3, Array.getElem?_setIfInBounds_ne (by omega)]; exact FT2.c3
    · rw [hcs3, Array.getElem?_setIfInBounds_ne (by omega)]; exact FT2.c4
    · rw [hcs3, Array.getElem?_setIfInBounds_ne (by omega)]; exact FT2.c5
  have g7 : cs3[0 + 7]? = some (.slice aE es.length cE) := by rw [hcs3]; exact Array.getElem?_setIfInBounds_self_of_lt hl7
  have own3 : W3.ownsRow w.heap.size 58 2 (.slice aE es.length cE) es.length (ecells es) := by rw [hW3]; exact own_lower (row_keepB own2 (TK.set FT2.blk (by decide))) HK1.out.1.size
  have K3 : WK Bo t w2 W3 := by rw [hW3]; exact WK.set _
  have G3 : Gs W3 a bb := K3.gs ((HK1.out.1.gs HH.out.2.1 hqN).below b2) htN
  have D3 : Disk Bo W3 p T := K3.disk ((HK1.out.1.disk HH.out.2.2.1 (FileAt.notDisk HH.out.2.2.2.2.2)).below b2) FT2.notDisk
  have hsm := tally_small ht2 (allW_words (fun x hx => (HB.out x hx).1)) HAL.out
  have htx := text_small hsm.each (by omega)
  have hel := hsm.len
  have hmul : es.length * (K + 10) ≤ 1440 * 41 := Nat.mul_le_mul hel (by omega)
  have cls := listSave t 0 cs3 105 p (nameB i) (headB tallyB run i) sT rT (.slice none 0 0) [] T N a bb (.slice aE es.length cE) es W3 FT3 (by decide) G3 htN D3 (HH.out.2.2.2.1.roomy (by omega)) (by omega) g7 (own_lower own3 (Nat.zero_le _)) (by omega) (nameB_ne i) (nameB_draft i) (by omega) (fun x hx => by have := (hsm.each x hx).2.2.2; omega)
  have HX : Hid (W3.ownsRow w.heap.size 58 2 (.slice aE es.length cE) es.length (ecells es) ∧ TallyOf (allW K ts) (es.map cv) ∧ Below w1.heap.size w1 w2 ∧ WK Bo t w2 W3 ∧ cs3[7]? = some (.slice aE es.length cE) ∧ FileAt Bo W3 t 0 cs3 105 p (nameB i) (headB tallyB run i) sT rT (.slice none 0 0) []) := ⟨own3, ht2, b2, K3, g7, FT3⟩
  clear own2 own3 ht2 b2 FT2 FT3 q3 g7 K3 G3 D3 hsm htx hel hmul cc hcs3 hl7
  go_upto_region 5 with fail
  rw [← hW3]
  clear hW3 c7 f7
  go_wp2_with fail
  refine cls.mono ?_
  rintro e w4 ⟨S', s', r', rfl, h4, d4, v4, k4⟩
  have HY : Hid (w4.cell? ⟨t, 7, none⟩ = some (.slice aE es.length cE) ∧ Disk Bo w4 p S' ∧ Saved T S' N draftB (nameB i) (whole (tallyZ run i es)) ∧ FK Bo t W3 w4) := by
    refine ⟨(st_cell h4.blk _).trans ?_, d4, v4, k4⟩
    rw [fset_ne _ _ _ _ _ _ (by omega)]; exact HX.out.2.2.2.2.1
  clear h4 d4 v4 k4 cls
  go_wp2
  go_ret
  refine ⟨S', _, es, rfl, HY.out.1, ?_, HX.out.2.1, HY.out.2.1, HY.out.2.2.1, fun u hu h1 h2 => ?_⟩
  · exact entries_fk' HY.out.2.2.2 HX.out.1 (fun cs fz e => by rw [HX.out.2.2.2.2.2.blk] at e; simp only [Option.some.injEq, Obj.cells.injEq] at e; exact absurd e.2.1 (by decide))
  · exact (((hu.wk HK1.out.1 h2).below HX.out.2.2.1).wk HX.out.2.2.2.1 h1).fk HY.out.2.2.2 h1
end Go.Proofs.YtbjgpfhbdmcbbabGreatDoor.jobs
