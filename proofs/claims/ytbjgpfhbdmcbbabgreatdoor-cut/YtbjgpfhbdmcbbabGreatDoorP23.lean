import Derived.Test.YtbjgpfhbdmcbbabGreatDoorP22

/-
  CONTRACTS of package quern: saveTallies.
-/
namespace Go.Proofs.YtbjgpfhbdmcbbabGreatDoor.jobs
open Go.RowKit dnamath dna diskm disk keep hex pieces files parse words kinds
set_option linter.unusedVariables false

/-- is there something in a bin? -/
def full (B : List (List ByteArray)) (i : Nat) : Bool := match B[i]? with
  | some (_ :: _) => true
  | _ => false
theorem full_yes {B : List (List ByteArray)} {i : Nat} {bl : List ByteArray} (h : B[i]? = some bl) (hn : bl ≠ []) : full B i = true := by
  unfold full; rw [h]
  cases bl with
  | nil => exact absurd rfl hn
  | cons a l => rfl
theorem full_no {B : List (List ByteArray)} {i : Nat} (h : B[i]? = some []) : full B i = false := by unfold full; rw [h]
/-- the bins below k in which there is something -/
def fulls (B : List (List ByteArray)) (k : Nat) : List Nat := (List.range k).filter (full B)
theorem fulls_succ (B : List (List ByteArray)) (k : Nat) : fulls B (k + 1) = fulls B k ++ (if full B k then [k] else []) := by
  unfold fulls
  rw [List.range_succ, List.filter_append]
  congr 1
  cases h : full B k <;> simp [h]

/-- the tallies of bins, in a row -/
structure TalliesAt (w : World) (base : Nat) (tv : Value) (us : List Value) (Ts : List (List Ent)) (bs : List Nat) (K : Nat) (B : List (List ByteArray)) : Prop where
  row : w.ownsRow base 30 1 tv us.length us
  len : Ts.length = us.length
  blen : bs.length = us.length
  each : ∀ (i : Nat) (v : Value) (T : List Ent), us[i]? = some v → Ts[i]? = some T → w.ownsRow 0 58 2 v T.length (ecells T)
  tally : ∀ (i b : Nat) (T : List Ent), bs[i]? = some b → Ts[i]? = some T → ∃ bl, B[b]? = some bl ∧ TallyOf (allW K bl) (T.map cv)
theorem TalliesAt.new {Bo : Nat} {w w' : World} {base : Nat} {tv : Value} {us : List Value} {Ts : List (List Ent)} {bs : List Nat} {K : Nat} {B : List (List ByteArray)} (h : TalliesAt w base tv us Ts bs K B) (hk : New Bo w w') : TalliesAt w' base tv us Ts bs K B :=
  ⟨hk.own h.row not_ours_es, h.len, h.blen, fun i v T h1 h2 => hk.own (h.each i v T h1 h2) not_ours_e, h.tally⟩
theorem snoc_get {α : Type} {l : List α} {x y : α} {i : Nat} (h : (l ++ [x])[i]? = some y) : (i < l.length ∧ l[i]? = some y) ∨ (i = l.length ∧ y = x) := by
  rcases Nat.lt_trichotomy i l.length with h1 | h1 | h1
  · rw [List.getElem?_append_left h1] at h; exact .inl ⟨h1, h⟩
  · subst h1; simp at h; exact .inr ⟨rfl, h.symm⟩
  · rw [List.getElem?_eq_none (by simp; omega)] at h; cases h
theorem TalliesAt.push {wr w4 : World} {base : Nat} {tv tv4 ev : Value} {us : List Value} {Ts : List (List Ent)} {bs : List Nat} {K k : Nat} {B : List (List ByteArray)} {es : List Ent} {bl : List ByteArray} {o : Obj} (h : TalliesAt wr base tv us Ts bs K B)
    (hev : wr.ownsRow 0 58 2 ev es.length (ecells es)) (hb : B[k]? = some bl) (ht : TallyOf (allW K bl) (es.map cv)) (own4 : w4.ownsRow base 30 1 tv4 (us.length + 1) (us ++ [ev])) (g4 : (wr.alloc o).grownBy w4 tv.ownBlock) :
    TalliesAt w4 base tv4 (us ++ [ev]) (Ts ++ [es]) (bs ++ [k]) K B := by
  have tk : TK 58 wr w4 := (TK.alloc o).trans (TK.grown g4 (own_kind_alloc h.row o) (by decide))
  refine ⟨by rw [List.length_append]; exact own4, by simp [h.len], by simp [h.blen], fun i v T h1 h2 => ?_, fun i b T h1 h2 => ?_⟩
  · rcases snoc_get h1 with ⟨l1, h1'⟩ | ⟨e1, rfl⟩
    · rcases snoc_get h2 with ⟨l2, h2'⟩ | ⟨e2, rfl⟩
      · exact row_keepB (h.each i v T h1' h2') tk
      · rw [h.len] at e2; omega
    · rcases snoc_get h2 with ⟨l2, h2'⟩ | ⟨e2, rfl⟩
      · rw [h.len] at l2; omega
      · exact row_keepB hev tk
  · rcases snoc_get h1 with ⟨l1, h1'⟩ | ⟨e1, rfl⟩
    · rcases snoc_get h2 with ⟨l2, h2'⟩ | ⟨e2, rfl⟩
      · exact h.tally i b T h1' h2'
      · rw [h.len] at e2; rw [h.blen] at l1; omega
    · rcases snoc_get h2 with ⟨l2, h2'⟩ | ⟨e2, rfl⟩
      · rw [h.len] at l2; rw [h.blen] at e1; omega
      · exact ⟨bl, hb, ht⟩

/-- a push onto a row of rows of entries changes no disk, and nothing old -/
theorem below_disk {wr w4 : World} {base : Nat} {tv : Value} {n : Nat} {xs : List Value} {o : Obj} {q : Nat} (hq : isDisk wr q) (g4 : (wr.alloc o).grownBy w4 tv.ownBlock) (h : wr.ownsRow base 30 1 tv n xs) : w4.heap[q]? = wr.heap[q]? := by
  obtain ⟨cs, T, fz, hb, hd⟩ := hq
  have hl := lt_of_block hb
  refine (g4.block q (by simp; omega) (fun e => ?_)).trans (Below.heap_alloc _ _ _ hl)
  obtain ⟨cs', fz', h'⟩ := own_kind h q e.symm
  rw [hb] at h'
  cases h'
  rcases hd with h | h | h | h <;> exact absurd h (by decide)
theorem New.push {Bo : Nat} {w wr w4 : World} {tv : Value} {n : Nat} {xs : List Value} {o : Obj} (hN : New Bo w wr) (h : wr.ownsRow w.heap.size 30 1 tv n xs) (g4 : (wr.alloc o).grownBy w4 tv.ownBlock) : New Bo w w4 :=
  ⟨g4.os.trans hN.os, g4.tape.trans hN.tape, g4.output.trans hN.output, by have h1 := g4.size; have h2 := hN.size; simp at h1; omega, fun k hk hb hn hd => by
    have hs := hN.size
    refine ((g4.block k (by simp; omega) (fun e => ?_)).trans (Below.heap_alloc _ _ _ (by omega))).trans (hN.block k hk hb hn hd)
    have := (h.lt k e.symm).1
    omega, fun k hk hl hb => by
    have hs := hN.size
    refine ((g4.block k (by simp; omega) (fun e => ?_)).trans (Below.heap_alloc _ _ _ (by omega))).trans (hN.low k hk hl hb)
    have := (h.lt k e.symm).1
    omega⟩

/-- the bins below k are counted: of those from k on the parts are still there -/
structure CountK (S T : DS) (N k : Nat) (run : ByteArray) (B : List (List ByteArray)) : Prop where
  room : RoomB T (N + 2 * k)
  parts : ∀ (i : Nat) (bl : List ByteArray), k ≤ i → B[i]? = some bl → bl ≠ [] → T.look (nameB i) = some (wholeF (partZ run i bl))
  rest : ∀ m : ByteArray, (∀ i, i < k → m.toList ≠ (nameB i).toList) → T.look m = S.look m
theorem CountK.skip {S T : DS} {N k : Nat} {run : ByteArray} {B : List (List ByteArray)} (h : CountK S T N k run B) : CountK S T N (k + 1) run B :=
  ⟨h.room.mono (by omega), fun i bl hi hb hne => h.parts i bl (by omega) hb hne, fun m hm => h.rest m (fun i hi => hm i (by omega))⟩
theorem CountK.save {S T T' : DS} {N k : Nat} {run : ByteArray} {B : List (List ByteArray)} {X : ByteArray} (h : CountK S T N k run B) (hs : Saved T T' (N + 2 * k) draftB (nameB k) X) (hX : X.size ≤ 100000) (hN : N + 2 * k ≤ 5000) : CountK S T' N (k + 1) run B := by
  refine ⟨(h.room.saved hs hX (nameB_draft k) hN).mono (by omega), fun i b hi hb hne => ?_, fun m hm => ?_⟩
  · rw [hs.look_old h.room.good.ok h.room.good.sorted (fun e => by have := nameB_inj e; omega)]
    exact h.parts i b (by omega) hb hne
  · rw [hs.look_old h.room.good.ok h.room.good.sorted (hm k (Nat.lt_succ_self _))]
    exact h.rest m (fun i hi => hm i (by omega))

theorem part_not_tally (run : ByteArray) (i : Nat) (bl : List ByteArray) : Lib.hasPrefix (partZ run i bl) (headB tallyB run i).data.toList = false := by
  cases h : Lib.hasPrefix (partZ run i bl) (headB tallyB run i).data.toList with
  | false => rfl
  | true =>
    unfold Lib.hasPrefix at h
    rw [List.isPrefixOf_iff_prefix] at h
    obtain ⟨r, hr⟩ := h
    have e1 : (headB tallyB run i).data.toList = 116 :: (97 :: 108 :: 108 :: 121 :: (spB ++ run ++ spB ++ itoaB i ++ nlB).data.toList) := by
      unfold headB tallyB; simp [ByteArray.data_append]
    have e2 : (headB partB run i).data.toList = 112 :: (97 :: 114 :: 116 :: (spB ++ run ++ spB ++ itoaB i ++ nlB).data.toList) := by
      unfold headB partB; simp [ByteArray.data_append]
    unfold partZ at hr
    rw [e1, e2] at hr
    simp at hr
theorem part_ends (run : ByteArray) (i : Nat) (bl : List ByteArray) : kinds.Ends (partZ run i bl) := ends_append (ends_head _ _ _) (ends_unlines _)

set_option maxHeartbeats 4000000 in
set_option maxRecDepth 100000 in
theorem saveTallies_any {Bo : Nat} (j p K M Bn : Nat) (text run : ByteArray) (bv : Value) (vs : List Value) (B : List (List ByteArray)) (base : Nat) (S : DS) (N : Nat) (a bb : Addr) (w : World) (hJ : JobAt Bo w j p K M Bn text run) (hg : Gs w a bb) (hse : Sen w a bb) (hD : Disk Bo w p S) (hS : RoomB S N) (hN : N ≤ 3900) (hr : RowsAt w base bv vs B) (hvl : vs.length ≤ 16) (hs : run.size ≤ 17) (hNG : 27 ≤ w.heap.size)
    (hpt : ∀ (i : Nat) (bl : List ByteArray), B[i]? = some bl → bl ≠ [] → S.look (nameB i) = some (wholeF (partZ run i bl))) (hsz : ∀ (i : Nat) (bl : List ByteArray), B[i]? = some bl → (unlines (datas bl)).length ≤ 50000 ∧ bl.length ≤ 50000 ∧ (allW K bl).length ≤ 1440 ∧ ∀ x ∈ bl, x.data.toList.all isB = true ∧ x.size ≤ 2000) (hK1 : 1 ≤ K) (hK : K ≤ 31) :
    Calls Tryz.prog 88 #[.pointer (some ⟨j, 0, none⟩), bv] w fun e w' => ∃ S' tv us Ts, e = .returned (.tuple #[tv, .nilIface]) ∧ Disk Bo w' p S' ∧ CountK S S' N vs.length run B ∧ TalliesAt w' w.heap.size tv us Ts (fulls B vs.length) K B ∧ us.length ≤ 16 ∧ New Bo w w' := by
  obtain ⟨j0, hj0, hy0, hy1, hy2⟩ := info_parts infoEs
  obtain ⟨ab, cb, hbv⟩ := own_slice hr.row
  subst hbv
  have HH : Hid (JobAt Bo w j p K M Bn text run ∧ Gs w a bb ∧ RowsAt w base (.slice ab vs.length cb) vs B ∧ Sen w a bb) := ⟨hJ, hg, hr, hse⟩
  have HSZ : Hid (∀ (i : Nat) (bl : List ByteArray), B[i]? = some bl → (unlines (datas bl)).length ≤ 50000 ∧ bl.length ≤ 50000 ∧ (allW K bl).length ≤ 1440 ∧ ∀ x ∈ bl, x.data.toList.all isB = true ∧ x.size ≤ 2000) := hsz
  have H0 : Hid (∃ T us Ts, Disk Bo w p T ∧ CountK S T N 0 run B ∧ New Bo w w ∧ us.length ≤ 0 ∧ TalliesAt w w.heap.size (.slice none 0 0) us Ts (fulls B 0) K B) := ⟨S, [], [], hD, ⟨hS, fun i bl _ h1 h2 => hpt i bl h1 h2, fun m _ => rfl⟩, New.refl _, Nat.le_refl _, ⟨World.ownsRow_nil _ _ _ _, rfl, rfl, (fun i v T h => by simp at h), (fun i b T h => by simp [fulls] at h)⟩⟩
  have hjl := hJ.lt
  clear hJ hg hr hD hS hpt hsz hse
  go_enter Tryz.func88, Tryz.ntmps88
  go_wp2_with fail
  go_loopw [6, 14] (fun tv i wr => ∃ (k : Nat), i = .int .i64 (k : Int) ∧ k ≤ vs.length ∧ Hid (∃ T us Ts, Disk Bo wr p T ∧ CountK S T N k run B ∧ New Bo w wr ∧ us.length ≤ k ∧ TalliesAt wr w.heap.size tv us Ts (fulls B k) K B)) (fun _ i _ => vs.length - (intOf i).toNat)
  case atStart => exact ⟨0, rfl, Nat.zero_le _, H0⟩
  case round =>
    rename Value => tv
    obtain ⟨k, rfl, hk, hT⟩ := hrel
    clear H0
    rename World => wr
    obtain ⟨T, us, Ts, hDT, hCT, hNw, hul, hTA⟩ := hT.out
    obtain ⟨aT, cT, htv⟩ := own_slice hTA.row
    subst htv
    by_cases hlt : k < vs.length
    · have hJr := hNw.job HH.out.1
      have hgr := hNw.gs HH.out.2.1 hNG
      have hrr := hNw.rows HH.out.2.2.1
      obtain ⟨v, hv⟩ : ∃ v, vs[k]? = some v := ⟨_, List.getElem?_eq_getElem hlt⟩
      obtain ⟨bl, hbl⟩ : ∃ bl, B[k]? = some bl := ⟨_, List.getElem?_eq_getElem (by rw [hrr.len]; exact hlt)⟩
      have hvo := hrr.each k v bl hv hbl
      obtain ⟨av, cv2, hve⟩ := own_slice hvo
      subst hve
      rcases hrr.row.2 with ⟨_, e0⟩ | ⟨g, cap, cur, e1, _⟩
      · omega
      cases e1
      have hc : wr.cell? ⟨g, k, none⟩ = some (.slice av bl.length cv2) := by rw [hrr.row.cellAt (g := g) k (by omega)]; exact hv
      by_cases hbe : bl = []
      · have HP : Hid (∃ T us' Ts, Disk Bo wr p T ∧ CountK S T N (k + 1) run B ∧ New Bo w wr ∧ us'.length ≤ k + 1 ∧ TalliesAt wr w.heap.size (.slice aT us.length cT) us' Ts (fulls B (k + 1)) K B) := by
          refine ⟨T, us, Ts, hDT, hCT.skip, hNw, by omega, ?_⟩
          rw [fulls_succ, full_no (by rw [hbl, hbe])]
          simpa using hTA
        subst hbe
        clear hJr hgr hrr hvo hv hbl hT hDT hCT hNw hTA
        go_wp2
        go_roundw
        case rel => exact ⟨k + 1, by go_num, by omega, HP⟩
        case measure => simp [intOf]; omega
      · have hbp : 0 < bl.length := List.length_pos_iff.2 hbe
        have hz : ((bl.length : Int) == 0) = false := by simp; omega
        have hsz := HSZ.out k bl hbl
        have ct := tally_any j p K M Bn text run k a bb wr hJr hgr (by omega) (by omega)
        have cp : ∀ W, Below wr.heap.size wr W → _ := fun W hW => part_any j p K M Bn text run k a bb W (hJr.below hW) (hgr.below hW) (by omega) (by omega)
        have HB : Hid (B[k]? = some bl ∧ Disk Bo wr p T ∧ CountK S T N k run B ∧ New Bo w wr ∧ Gs wr a bb ∧ Sen wr a bb ∧ TalliesAt wr w.heap.size (.slice aT us.length cT) us Ts (fulls B k) K B ∧ bl ≠ [] ∧ JobAt Bo wr j p K M Bn text run) := ⟨hbl, hDT, hCT, hNw, hgr, hNw.sen HH.out.2.2.2, hTA, hbe, hJr⟩
        have HZ : Hid ((unlines (datas bl)).length ≤ 50000 ∧ bl.length ≤ 50000 ∧ (allW K bl).length ≤ 1440 ∧ ∀ x ∈ bl, x.data.toList.all isB = true ∧ x.size ≤ 2000) := hsz
        clear hJr hgr hrr hvo hv hbl hT hDT hCT hNw hTA hsz hbe
        go_upto_region 7 with (first | (go_at_call 117; go_must (refine ct.mono ?_; rintro e w3 ⟨rfl, b3⟩)) | (go_at_call 118; go_must (refine (cp _ b3).mono ?_; rintro e w4 ⟨rfl, b4⟩)))
        obtain ⟨hbl, hDT, hCT, hNw, hgr, hsr, hTA, hbe, hJr⟩ := HB.out
        obtain ⟨W5, hW5⟩ : ∃ W5, W5 = (w4.alloc (.cells (listC p (nameB k) (headB tallyB run k) K) 105)).alloc (.cells (partC p (nameB k) (headB partB run k)) 214) := ⟨_, rfl⟩
        obtain ⟨q1, hq1⟩ : ∃ q1, q1 = w4.heap.size := ⟨_, rfl⟩
        have hsz4 : (w4.alloc (.cells (listC p (nameB k) (headB tallyB run k) K) 105)).heap.size = q1 + 1 := by rw [hq1]; simp
        have B4 : Below wr.heap.size wr w4 := b3.trans (b4.mono b3.size)
        have B5 : Below w4.heap.size w4 W5 := by rw [hW5]; exact ((Below.refl _ _).alloc (Nat.le_refl _) _).alloc (by rw [hsz4]; omega) _
        have BR : Below wr.heap.size wr W5 := B4.trans (B5.mono B4.size)
        have F1 : FileAt Bo W5 q1 0 (listC p (nameB k) (headB tallyB run k) K) 105 p (nameB k) (headB tallyB run k) 0 0 (.slice none 0 0) [] := by
          have h0 := listC_at w4 p (nameB k) (headB tallyB run k) K (Nat.le_trans hDT.low B4.size)
          rw [← hq1] at h0
          rw [hW5]
          exact h0.kept (.ofBelow ((Below.refl _ _).alloc (Nat.le_refl _) _))
        have F2 : FileAt Bo W5 (q1 + 1) 0 (partC p (nameB k) (headB partB run k)) 214 p (nameB k) (headB partB run k) 0 0 (.slice none 0 0) [] := by
          have h0 := partC_at (w4.alloc (.cells (listC p (nameB k) (headB tallyB run k) K) 105)) p (nameB k) (headB partB run k) (Nat.le_trans hDT.low (Nat.le_trans B4.size (by simp)))
          rw [hsz4] at h0
          rw [hW5]
          exact h0
        have hqr : wr.heap.size ≤ q1 := by rw [hq1]; exact B4.size
        have hqw : w.heap.size ≤ q1 := Nat.le_trans hNw.size hqr
        have hln := hCT.parts k bl (Nat.le_refl _) hbl hbe
        have hhs := head_size partB run k (by decide) hs (by omega)
        have hpl : (partZ run k bl).length ≤ 1000000 := by unfold partZ; rw [List.length_append, len_size]; have := HZ.out.1; omega
        have cl := load_other q1 _ 105 p (nameB k) (headB tallyB run k) 0 0 (.slice none 0 0) [] T (N + 2 * k) a bb _ W5 F1 (hgr.below BR) (hDT.below BR) hCT.room.good.ok (by omega) hCT.room.good.fine hln (part_not_tally run k bl) (part_ends run k bl) hpl (by omega)
        have HK : Hid (Below wr.heap.size wr W5 ∧ FileAt Bo W5 q1 0 (listC p (nameB k) (headB tallyB run k) K) 105 p (nameB k) (headB tallyB run k) 0 0 (.slice none 0 0) [] ∧ FileAt Bo W5 (q1 + 1) 0 (partC p (nameB k) (headB partB run k)) 214 p (nameB k) (headB partB run k) 0 0 (.slice none 0 0) [] ∧ T.look (nameB k) = some (wholeF (partZ run k bl))) := ⟨BR, F1, F2, hln⟩
        rw [show (w4.alloc (.cells #[.pointer (some ⟨p, 0, none⟩), .string (nameB k), .string (headB tallyB run k), .int .u64 0, .int .i64 0, .slice none 0 0, .int .i64 (K : Int), .slice none 0 0] 105)).alloc (.cells #[.pointer (some ⟨p, 0, none⟩), .string (nameB k), .string (headB partB run k), .int .u64 0, .int .i64 0, .slice none 0 0] 214) = W5 from hW5.symm, ← hq1]
        clear ct cp b3 b4 B4 B5 BR F1 F2 hln hW5 hq1 hsz4 hDT hCT hNw hgr hsr hTA hbe hJr hbl hc
        go_wp2_with fail
        refine cl.mono ?_
        rintro e w6 ⟨v6, s6, r6, rfl, hG6, F6, k6⟩
        have hNr : New Bo wr W5 := (New.refl _).below HK.out.1
        have hN6 : New Bo wr w6 := hNr.wk k6 hqr
        have hg6 := hN6.gs HB.out.2.2.2.2.1 (Nat.le_trans hNG HB.out.2.2.2.1.size)
        have ci6 := isGone_broken a bb v6 w6 hg6 (hN6.sen HB.out.2.2.2.2.2.1) hG6
        have P6 := FileAt.fk HK.out.2.2.1 (FK.ofWK k6) (by omega)
        have d6 : Disk Bo w6 p T := k6.disk (HB.out.2.1.below HK.out.1) HK.out.2.1.notDisk
        have J6 := hN6.job HB.out.2.2.2.2.2.2.2.2
        have hjr : j < wr.heap.size := Nat.lt_of_lt_of_le hjl HB.out.2.2.2.1.size
        have cst := saveTally_any j p K M Bn text run q1 (q1 + 1) k _ _ s6 r6 0 0 bl T (N + 2 * k) a bb w6 J6 hg6 d6 HB.out.2.2.1.room (by omega) F6 ⟨.slice none 0 0, by rw [fset_ne _ _ _ _ _ _ (by omega)]; rfl⟩ P6 HK.out.2.2.2 HZ.out.2.2.2 HZ.out.1 HZ.out.2.1 HZ.out.2.2.1 hK1 hK (by omega) hs (by omega) (by omega) (by omega) (by omega)
        have HN6 : Hid (New Bo wr w6) := hN6
        clear hG6 F6 k6 hNr hN6 hg6 P6 d6 J6 cl
        go_wp2_with fail
        refine ci6.mono ?_
        rintro e w7 ⟨rfl, hw7⟩
        have hw7' := hw7.symm
        subst hw7'
        go_wp2_with fail
        refine cst.mono ?_
        rintro e w8 ⟨S', ev, es, rfl, hc8, own8, ht8, d8, v8, n8⟩
        obtain ⟨aE, cE, hve⟩ := own_slice own8
        subst hve
        have N8 : New Bo wr w8 := n8 wr HN6.out hqr (by omega)
        have T8 := HB.out.2.2.2.2.2.2.1.new N8
        have hwz : w.heap.size ≤ w8.heap.size := Nat.le_trans HB.out.2.2.2.1.size N8.size
        have HY : Hid (TalliesAt w8 w.heap.size (.slice aT us.length cT) us Ts (fulls B k) K B ∧ w8.ownsRow 0 58 2 (.slice aE es.length cE) es.length (ecells es) ∧ TallyOf (allW K bl) (es.map cv) ∧ Disk Bo w8 p S' ∧ CountK S S' N (k + 1) run B ∧ New Bo w w8) := by
          refine ⟨T8, own_lower own8 (Nat.zero_le _), ht8, d8, HB.out.2.2.1.save v8 ?_ (by omega), HB.out.2.2.2.1.fk (q := wr.heap.size) N8 HB.out.2.2.2.1.size⟩
          have hsm := tally_small ht8 (allW_words (fun x hx => (HZ.out.2.2.2 x hx).1)) HZ.out.2.2.1
          have htx := text_small hsm.each (by omega)
          have hmul : es.length * (K + 10) ≤ 1440 * 41 := Nat.mul_le_mul hsm.len (by omega)
          have hh2 := head_size tallyB run k (by decide) hs (by omega)
          refine Nat.le_trans (whole_size _ ?_) ?_
          · unfold tallyZ; rw [List.length_append, len_size]; omega
          · unfold tallyZ; rw [List.length_append, len_size]; omega
        have hul2 : us.length ≤ 16 := by omega
        clear own8 ht8 d8 v8 n8 N8 T8 cst ci6
        go_wp2_with (at_builtin; go_must (refine wpList_append_own _ rfl (.tmp 36) (.tmp 39) 176 rfl w.heap.size 30 j0 (.slice none 0 0) 1 24 Tryz.underlying176 hj0 hy0 hy1 hy2 rfl (by decide) (.slice aT us.length cT) us.length us rfl (HY.out.1.row.alloc _) _ 1 1 [.slice aE es.length cE] rfl rfl (pieces.cell_one _ _ _) (fun u hu => by simp at hu; subst hu; rfl) (by unfold maxLen; omega) (by omega) (by simp; omega) ?_; intro tv9 w9 own9 g9 _; have HT9 : Hid (TalliesAt w9 w.heap.size tv9 (us ++ [.slice aE es.length cE]) (Ts ++ [es]) (fulls B k ++ [k]) K B) := HY.out.1.push HY.out.2.1 HB.out.1 HY.out.2.2.1 own9 g9; have HD9 : Hid (Disk Bo w9 p S' ∧ New Bo w w9) := ⟨HY.out.2.2.2.1.keep (fun q hq => below_disk hq g9 HY.out.1.row), HY.out.2.2.2.2.2.push HY.out.1.row g9⟩; clear own9 g9))
        have HF : Hid (∃ T us' Ts, Disk Bo w9 p T ∧ CountK S T N (k + 1) run B ∧ New Bo w w9 ∧ us'.length ≤ k + 1 ∧ TalliesAt w9 w.heap.size tv9 us' Ts (fulls B (k + 1)) K B) := by
          refine ⟨S', us ++ [.slice aE es.length cE], Ts ++ [es], HD9.out.1, HY.out.2.2.2.2.1, HD9.out.2, ?_, ?_⟩
          · show (us ++ [Value.slice aE es.length cE]).length ≤ k + 1
            rw [List.length_append]; simp; omega
          · rw [fulls_succ, full_yes HB.out.1 HB.out.2.2.2.2.2.2.2.1]
            simpa using HT9.out
        go_roundw
        case rel => exact ⟨k + 1, by go_num, by omega, HF⟩
        case measure => simp [intOf]; omega
    · have hke : k = vs.length := by omega
      subst hke
      have HP : Hid (Disk Bo wr p T ∧ CountK S T N vs.length run B ∧ TalliesAt wr w.heap.size (.slice aT us.length cT) us Ts (fulls B vs.length) K B ∧ New Bo w wr) := ⟨hDT, hCT, hTA, hNw⟩
      clear hDT hCT hNw hTA hT
      go_wp2
      go_ret2
      exact ⟨T, _, us, Ts, rfl, HP.out.1, HP.out.2.1, HP.out.2.2.1, by omega, HP.out.2.2.2⟩
end Go.Proofs.YtbjgpfhbdmcbbabGreatDoor.jobs

/-
  PLAIN MATHEMATICS: the bins, their sizes, their tallies together.
-/
namespace Go.Proofs.YtbjgpfhbdmcbbabGreatDoor.jobs
open dnamath dna diskm disk keep hex pieces files parse words kinds
set_option linter.unusedVariables false

theorem piece_all {l : List UInt8} {k m : Nat} (hk : 1 ≤ k) {p : List UInt8} (hp : p ∈ piecesL l k m) : k ≤ p.length ∧ p.all isB = true := by
  have hl := (pieces_marked hk p hp).1
  refine ⟨hl, ?_⟩
  rw [List.all_eq_true]
  intro c hc
  obtain ⟨t, ht, rfl⟩ := List.mem_iff_getElem.1 hc
  have hw : cut p (min t (p.length - k)) k ∈ winL k l := by
    rw [← pieces_wins (m := m) hk]
    rw [List.mem_flatMap]
    refine ⟨p, hp, ?_⟩
    unfold winP
    rw [List.mem_map]
    exact ⟨min t (p.length - k), by rw [List.mem_range]; omega, rfl⟩
  have hv := (winTo_valid _ _ hw).2
  rw [List.all_eq_true] at hv
  apply hv
  unfold cut
  rw [List.mem_iff_getElem?]
  refine ⟨t - min t (p.length - k), ?_⟩
  rw [List.getElem?_take_of_lt (by omega), List.getElem?_drop, show min t (p.length - k) + (t - min t (p.length - k)) = t by omega]
  exact List.getElem?_eq_getElem ht

theorem binned {Bn K M : Nat} {B : List (List ByteArray)} {rs : List (List UInt8)} (hd : Dealt Bn K M B (rs.flatMap (fun l => piecesL l K M))) (hK : 1 ≤ K) (hM : M ≤ K) {b : Nat} {bl : List ByteArray} (h : B[b]? = some bl) :
    allW K bl = (wordsOf K rs).filter (fun x => bn Bn (markL M x) == b) := by
  unfold allW
  rw [hd b bl h]
  exact words_bin (bn Bn) hK hM b rs
theorem bin_pieces {Bn K M : Nat} {B : List (List ByteArray)} {rs : List (List UInt8)} (hd : Dealt Bn K M B (rs.flatMap (fun l => piecesL l K M))) (hK : 1 ≤ K) {b : Nat} {bl : List ByteArray} (h : B[b]? = some bl) : ∀ p ∈ datas bl, K ≤ p.length ∧ p.all isB = true := by
  intro p hp
  rw [hd b bl h, List.mem_filter] at hp
  obtain ⟨l, _, hp⟩ := List.mem_flatMap.1 hp.1
  exact piece_all hK hp
theorem wins_sizes {K : Nat} : ∀ (ps : List (List UInt8)), (∀ p ∈ ps, K ≤ p.length) → ps.length ≤ (ps.flatMap (winP K)).length ∧ (unlines ps).length ≤ (ps.flatMap (winP K)).length * (K + 1) ∧ ∀ p ∈ ps, p.length ≤ (ps.flatMap (winP K)).length + K
  | [], _ => ⟨by simp, by simp [unlines], (fun p h => by cases h)⟩
  | q :: ps, h => by
    obtain ⟨h1, h2, h3⟩ := wins_sizes ps (fun p hp => h p (List.mem_cons_of_mem _ hp))
    have hq := h q (List.mem_cons_self ..)
    have hw : (winP K q).length = q.length + 1 - K := by simp [winP]
    have e : ((q :: ps).flatMap (winP K)).length = (q.length + 1 - K) + (ps.flatMap (winP K)).length := by rw [List.flatMap_cons, List.length_append, hw]
    rw [e]
    refine ⟨by simp only [List.length_cons]; omega, ?_, fun p hp => ?_⟩
    · have eu : unlines (q :: ps) = q ++ [10] ++ unlines ps := by simp [unlines]
      rw [eu, List.length_append, List.length_append, List.length_singleton, Nat.add_mul]
      obtain ⟨d, hd⟩ : ∃ d, q.length + 1 - K = d + 1 := ⟨q.length - K, by omega⟩
      rw [hd, Nat.add_mul, Nat.one_mul]
      have : d ≤ d * (K + 1) := Nat.le_mul_of_pos_right _ (by omega)
      omega
    · rw [List.mem_cons] at hp
      rcases hp with rfl | hp
      · omega
      · have := h3 p hp; omega

theorem bins_small {Bn K M : Nat} {B : List (List ByteArray)} {rs : List (List UInt8)} (hd : Dealt Bn K M B (rs.flatMap (fun l => piecesL l K M))) (hK : 1 ≤ K) (hK2 : K ≤ 31) (hM : M ≤ K) (hw : (wordsOf K rs).length ≤ 1440) (b : Nat) (bl : List ByteArray) (h : B[b]? = some bl) :
    (unlines (datas bl)).length ≤ 50000 ∧ bl.length ≤ 50000 ∧ (allW K bl).length ≤ 1440 ∧ ∀ x ∈ bl, x.data.toList.all isB = true ∧ x.size ≤ 2000 := by
  have hp := bin_pieces hd hK h
  obtain ⟨h1, h2, h3⟩ := wins_sizes (K := K) (datas bl) (fun p hp' => (hp p hp').1)
  have hal : (allW K bl).length ≤ 1440 := by
    rw [binned hd hK hM h]
    exact Nat.le_trans (List.length_filter_le _ _) hw
  have hfl : ((datas bl).flatMap (winP K)).length = (allW K bl).length := by unfold allW; rw [List.length_map]
  rw [hfl] at h1 h2 h3
  have hm : (allW K bl).length * (K + 1) ≤ 1440 * 32 := Nat.mul_le_mul hal (by omega)
  rw [datas_length] at h1
  refine ⟨by omega, by omega, hal, fun x hx => ?_⟩
  have hx' : x.data.toList ∈ datas bl := List.mem_map.2 ⟨x, hx, rfl⟩
  exact ⟨(hp _ hx').2, by rw [Lib.size_eq]; have := h3 _ hx'; omega⟩

theorem fun_of : ∀ (bs : List Nat) (Ls : List Ents), bs.Nodup → bs.length = Ls.length → ∃ Tf : Nat → Ents, Ls = bs.map Tf
  | [], [], _, _ => ⟨fun _ => [], rfl⟩
  | [], _ :: _, _, h => by simp at h
  | _ :: _, [], _, h => by simp at h
  | b :: bs, L :: Ls, hn, h => by
    rw [List.nodup_cons] at hn
    obtain ⟨Tf, hT⟩ := fun_of bs Ls hn.2 (by simpa using h)
    refine ⟨fun x => if x = b then L else Tf x, ?_⟩
    rw [List.map_cons, if_pos rfl, hT]
    congr 1
    apply List.map_congr_left
    intro x hx
    rw [if_neg (fun e => by subst e; exact hn.1 hx)]

theorem fulls_nodup (B : List (List ByteArray)) (k : Nat) : (fulls B k).Nodup := List.Pairwise.sublist List.filter_sublist List.nodup_range

/-- the tallies of the bins, together -/
theorem tallies_join {Bn K M : Nat} {B : List (List ByteArray)} {rs : List (List UInt8)} {Ts : List (List Ent)} (hd : Dealt Bn K M B (rs.flatMap (fun l => piecesL l K M))) (hK : 1 ≤ K) (hM : M ≤ K) (hBn : 1 ≤ Bn) (hBl : B.length = Bn) (hl : Ts.length = (fulls B Bn).length)
    (ht : ∀ (i b : Nat) (T : List Ent), (fulls B Bn)[i]? = some b → Ts[i]? = some T → ∃ bl, B[b]? = some bl ∧ TallyOf (allW K bl) (T.map cv)) :
    (∀ T ∈ Ts, ((T.map cv).map Prod.fst).Pairwise (· < ·)) ∧ (((Ts.map (List.map cv)).flatten).map Prod.fst).Nodup ∧ ∀ es : Ents, (es.map Prod.fst).Pairwise (· < ·) → es.Perm (Ts.map (List.map cv)).flatten → TallyOf (wordsOf K rs) es := by
  obtain ⟨Tf, hTf⟩ := fun_of (fulls B Bn) (Ts.map (List.map cv)) (fulls_nodup _ _) (by rw [List.length_map, hl])
  have hb : ∀ b ∈ fulls B Bn, TallyOf ((wordsOf K rs).filter (fun x => (fun y => bn Bn (markL M y)) x == b)) (Tf b) := by
    intro b hbm
    obtain ⟨i, hi⟩ := List.getElem?_of_mem hbm
    have hil := (List.getElem?_eq_some_iff.1 hi).1
    obtain ⟨T, hT⟩ : ∃ T, Ts[i]? = some T := ⟨_, List.getElem?_eq_getElem (by rw [hl]; exact hil)⟩
    obtain ⟨bl, h1, h2⟩ := ht i b T hi hT
    rw [binned hd hK hM h1] at h2
    have e : T.map cv = Tf b := by
      have h3 : (Ts.map (List.map cv))[i]? = some (T.map cv) := by rw [List.getElem?_map, hT]; rfl
      rw [hTf, List.getElem?_map, hi] at h3
      simpa using h3.symm
    rw [← e]
    exact h2
  have hin : ∀ x ∈ wordsOf K rs, (fun y => bn Bn (markL M y)) x ∈ fulls B Bn := by
    intro x hx
    have hlt : bn Bn (markL M x) < Bn := by unfold bn; exact Nat.mod_lt _ (by omega)
    obtain ⟨bl, hbl⟩ : ∃ bl, B[bn Bn (markL M x)]? = some bl := ⟨_, List.getElem?_eq_getElem (by rw [hBl]; exact hlt)⟩
    have hne : bl ≠ [] := fun e => by
      have h1 := binned hd hK hM hbl
      rw [e] at h1
      have h2 : x ∈ (wordsOf K rs).filter (fun y => bn Bn (markL M y) == bn Bn (markL M x)) := List.mem_filter.2 ⟨hx, by simp⟩
      rw [← h1] at h2
      simp [allW, datas] at h2
    unfold fulls
    rw [List.mem_filter, List.mem_range]
    exact ⟨hlt, full_yes hbl hne⟩
  refine ⟨fun T hT => ?_, ?_, fun es h1 h2 => ?_⟩
  · obtain ⟨i, hi⟩ := List.getElem?_of_mem hT
    have hil := (List.getElem?_eq_some_iff.1 hi).1
    obtain ⟨b, hb'⟩ : ∃ b, (fulls B Bn)[i]? = some b := ⟨_, List.getElem?_eq_getElem (by rw [← hl]; exact hil)⟩
    obtain ⟨bl, _, h2⟩ := ht i b T hb' hi
    exact h2.sorted
  · rw [hTf]
    exact tally_apart (ws := wordsOf K rs) (bn := fun y => bn Bn (markL M y)) _ (fulls_nodup _ _) hb
  · rw [hTf] at h2
    exact tally_parts h1 h2 hb hin
theorem words_words {k : Nat} (rs : List (List UInt8)) : ∀ x ∈ wordsOf k rs, x.length = k ∧ x.all isB = true := by
  intro x hx
  unfold wordsOf at hx
  rw [List.mem_map] at hx
  obtain ⟨y, hy, rfl⟩ := hx
  obtain ⟨l, _, hy⟩ := List.mem_flatMap.1 hy
  obtain ⟨h1, h2⟩ := winTo_valid _ y hy
  exact ⟨by rw [canonL_len]; exact h1, canonL_all h2⟩
end Go.Proofs.YtbjgpfhbdmcbbabGreatDoor.jobs

/-
  CONTRACTS of package quern: count, finish.
-/
namespace Go.Proofs.YtbjgpfhbdmcbbabGreatDoor.jobs
open Go.RowKit dnamath dna diskm disk keep hex pieces files parse words kinds
set_option linter.unusedVariables false

/-- what stands in the counts -/
def countsZ (run : ByteArray) (K : Nat) (es : List Ent) : List UInt8 := (headB countsB run K).data.toList ++ textE es

theorem pieces_few {rs : List (List UInt8)} {K M : Nat} (hK : 1 ≤ K) : (rs.flatMap (fun l => piecesL l K M)).length ≤ (wordsOf K rs).length := by
  have h1 := (wins_sizes (K := K) (rs.flatMap (fun l => piecesL l K M)) (fun p hp => by
    obtain ⟨l, _, hp⟩ := List.mem_flatMap.1 hp
    exact (piece_all hK hp).1)).1
  have e : (rs.flatMap (fun l => piecesL l K M)).flatMap (winP K) = rs.flatMap (winL K) := by
    rw [List.flatMap_assoc]
    congr 1
    funext l
    exact pieces_wins hK
  rw [e] at h1
  unfold wordsOf
  rw [List.length_map]
  exact h1

set_option maxHeartbeats 4000000 in
set_option maxRecDepth 100000 in
theorem count_any {Bo : Nat} (j p K M Bn : Nat) (text run : ByteArray) (rv : Value) (rs : List ByteArray) (c : Nat) (csC : Array Value) (sC rC : Nat) (S : DS) (N : Nat) (a bb : Addr) (w : World) (hJ : JobAt Bo w j p K M Bn text run) (hg : Gs w a bb) (hse : Sen w a bb) (hD : Disk Bo w p S) (hS : RoomB S N) (hN : N ≤ 3500)
    (hr : w.ownsRow 0 9 1 rv rs.length (scells rs)) (FC : FileAt Bo w c 0 csC 105 p countsB (headB countsB run K) sC rC (.slice none 0 0) []) (h7 : ∃ v7, csC[7]? = some v7) (hno : ∀ i, i < 16 → S.look (nameB i) = none)
    (hmay : ∀ r ∈ rs, May r K M ∧ r.size ≤ 100000) (hrl : rs.length ≤ 1000) (hw : (wordsOf K (datas rs)).length ≤ 1440) (hK1 : 1 ≤ K) (hK : K ≤ 31) (hM1 : 1 ≤ M) (hM : M ≤ K) (hB1 : 1 ≤ Bn) (hB : Bn ≤ 16) (hrs : run.size ≤ 17) (hNG : 27 ≤ w.heap.size) (hcN : 27 ≤ c) :
    Calls Tryz.prog 60 #[.pointer (some ⟨j, 0, none⟩), rv, .pointer (some ⟨c, 0, none⟩)] w fun e w' => ∃ S' es, e = .returned .nilIface ∧ Disk Bo w' p S' ∧ RoomB S' (N + 4 * Bn + 2) ∧ (S'.look countsB = some (wholeF (countsZ run K es)) ∧ S'.look planB = S.look planB) ∧ TallyOf (wordsOf K (datas rs)) (es.map cv) ∧ ∀ u, New Bo u w → u.heap.size ≤ c → New Bo u w' := by
  obtain ⟨v7, h7⟩ := h7
  obtain ⟨z0, z1, z2, z3, _, _⟩ := hJ.cells
  have cd := deal_any rv rs K M Bn w hr hB1 (by omega) hmay (by omega) (by have := pieces_few (rs := datas rs) (K := K) (M := M) hK1; omega)
  have hcl := lt_of_block FC.blk
  have HH : Hid (JobAt Bo w j p K M Bn text run ∧ Gs w a bb ∧ Sen w a bb ∧ Disk Bo w p S ∧ RoomB S N ∧ FileAt Bo w c 0 csC 105 p countsB (headB countsB run K) sC rC (.slice none 0 0) [] ∧ ∀ i, i < 16 → S.look (nameB i) = none) := ⟨hJ, hg, hse, hD, hS, FC, hno⟩
  have H7 : Hid (csC[7]? = some v7) := h7
  have HW : Hid ((wordsOf K (datas rs)).length ≤ 1440) := hw
  have HM : Hid (∀ r ∈ rs, May r K M ∧ r.size ≤ 100000) := hmay
  clear hJ hg hse hD hS FC hno h7 hr hw hmay
  go_enter Tryz.func60, Tryz.ntmps60
  go_wp2_with fail
  refine cd.mono ?_
  rintro e w1 ⟨bv, vs, B, rfl, hR1, hvl, hdl, b1⟩
  have hN1 : New Bo w w1 := (New.refl w).below b1
  have hbs : ∀ (i : Nat) (bl : List ByteArray), B[i]? = some bl → _ := bins_small hdl hK1 hK hM HW.out
  have csp := saveParts_any j p K M Bn text run bv vs B w.heap.size S N a bb w1 (HH.out.1.below b1) (HH.out.2.1.below b1) (HH.out.2.2.2.1.below b1) HH.out.2.2.2.2.1 (by omega) hR1 (by omega) hrs (Nat.le_trans hNG b1.size) HH.out.2.2.2.2.2.2 (fun i bl h => ⟨(hbs i bl h).1, (hbs i bl h).2.1⟩)
  have HD : Hid (RowsAt w1 w.heap.size bv vs B ∧ vs.length = Bn ∧ Dealt Bn K M B ((datas rs).flatMap (fun l => piecesL l K M)) ∧ Below w.heap.size w w1) := ⟨hR1, hvl, hdl, b1⟩
  have HBS : Hid (∀ (i : Nat) (bl : List ByteArray), B[i]? = some bl → (unlines (datas bl)).length ≤ 50000 ∧ bl.length ≤ 50000 ∧ (allW K bl).length ≤ 1440 ∧ ∀ x ∈ bl, x.data.toList.all isB = true ∧ x.size ≤ 2000) := hbs
  obtain ⟨ab, cb, hbv⟩ := own_slice hR1.row
  subst hbv
  have HBl : Hid (B.length = Bn) := by show _ = _; rw [hR1.len, hvl]
  clear cd hR1 hdl hbs hN1 b1 hvl
  go_wp2_with fail
  go_at_call 87
  go_must (refine csp.mono ?_)
  rintro e w2 ⟨S1, rfl, d2, p2, n2⟩
  have hvb := HD.out.2.1
  have hN2 : New Bo w w2 := ((New.refl w).below HD.out.2.2.2).fk n2 HD.out.2.2.2.size
  rw [hvb] at p2
  have cst := saveTallies_any j p K M Bn text run (.slice ab vs.length cb) vs B w.heap.size S1 (N + 2 * Bn) a bb w2 (hN2.job HH.out.1) (hN2.gs HH.out.2.1 hNG) (hN2.sen HH.out.2.2.1) d2 p2.room (by omega) (n2.rows HD.out.1) (by omega) hrs (Nat.le_trans hNG hN2.size) (fun i bl h1 h2 => p2.parts i bl (by have := (List.getElem?_eq_some_iff.1 h1).1; have := HBl.out; omega) h1 h2) HBS.out hK1 hK
  rw [hvb] at cst
  have H2 : Hid (PartsK S S1 N Bn run B ∧ New Bo w w2) := ⟨p2, hN2⟩
  clear csp d2 p2 n2 hN2 hvb
  rw [HD.out.2.1]
  go_wp2_with fail
  refine cst.mono ?_
  rintro e w3 ⟨S2, tv, us, Ts, rfl, d3, c3, t3, hul, n3⟩
  obtain ⟨aT, cT, htv⟩ := own_slice t3.row
  subst htv
  obtain ⟨j1, j2, j3⟩ := tallies_join HD.out.2.2.1 hK1 hM hB1 HBl.out (by rw [t3.len, ← t3.blen]) t3.tally
  have hlen : ((Ts.map (List.map cv)).flatten).length ≤ 100000 := by
    have hsub := nodup_len _ (wordsOf K (datas rs)) j2 (fun x hx => by
      obtain ⟨e, he, rfl⟩ := List.mem_map.1 hx
      obtain ⟨L, hL, heL⟩ := List.mem_flatten.1 he
      obtain ⟨T, hT, rfl⟩ := List.mem_map.1 hL
      obtain ⟨i, hi⟩ := List.getElem?_of_mem hT
      have hil := (List.getElem?_eq_some_iff.1 hi).1
      obtain ⟨b, hb'⟩ : ∃ b, (fulls B Bn)[i]? = some b := ⟨_, List.getElem?_eq_getElem (by rw [t3.blen, ← t3.len]; exact hil)⟩
      obtain ⟨bl, hbl, htl⟩ := t3.tally i b T hb' hi
      have := (tally_key htl e.1).1 (List.mem_map.2 ⟨e, heL, rfl⟩)
      rw [binned HD.out.2.2.1 hK1 hM hbl, List.mem_filter] at this
      exact this.1)
    rw [List.length_map] at hsub
    have := HW.out
    omega
  have cm := merge_any (.slice aT us.length cT) us Ts w3 (own_lower t3.row (Nat.zero_le _)) t3.len t3.each j1 j2 (by omega) hlen
  have hN3 : New Bo w w3 := H2.out.2.fk n3 H2.out.2.size
  have H3 : Hid (Disk Bo w3 p S2 ∧ CountK S1 S2 (N + 2 * Bn) Bn run B ∧ New Bo w w3 ∧ ∀ es : Ents, (es.map Prod.fst).Pairwise (· < ·) → es.Perm (Ts.map (List.map cv)).flatten → TallyOf (wordsOf K (datas rs)) es) := ⟨d3, c3, hN3, j3⟩
  clear cst d3 c3 t3 n3 j1 j2 j3 hlen hN3
  go_wp2_with fail
  refine cm.mono ?_
  rintro e w4 ⟨v, es, rfl, own4, hs4, hp4, b4⟩
  obtain ⟨aE, cE, hve⟩ := own_slice own4
  subst hve
  have htl := H3.out.2.2.2 _ hs4 hp4
  have hN4 : New Bo w w4 := H3.out.2.2.1.below b4
  have F4 := FileAt.fk HH.out.2.2.2.2.2.1 hN4 (Nat.ne_of_lt hcl)
  have c7 : w4.cell? ⟨c, 7, none⟩ = some v7 := (st_cell F4.blk _).trans H7.out
  have f7 := st_frozen F4.blk 7
  have hl7 : 7 < csC.size := by
    rcases Nat.lt_or_ge 7 csC.size with h | h
    · exact h
    · have := H7.out; rw [Array.getElem?_eq_none h] at this; cases this
  obtain ⟨cs5, hcs5⟩ : ∃ cs5, cs5 = csC.setIfInBounds 7 (.slice aE es.length cE) := ⟨_, rfl⟩
  obtain ⟨W5, hW5⟩ : ∃ W5, W5 = w4.setCell ⟨c, 7, none⟩ (.slice aE es.length cE) := ⟨_, rfl⟩
  have F5 : FileAt Bo W5 c 0 cs5 105 p countsB (headB countsB run K) sC rC (.slice none 0 0) [] := by
    refine ⟨by rw [hW5, hcs5]; exact heap_setCell_same w4 c 7 _ _ _ F4.blk, F4.ty, ?_, ?_, ?_, ?_, ?_, ?_, World.ownsRow_nil _ _ _ _, Nat.le_trans F4.big (by rw [hW5]; simp [World.setCell])⟩
    · rw [hcs5, Array.getElem?_setIfInBounds_ne (by omega)]; exact F4.c0
    · rw [hcs5, Array.getElem?_setIfInBounds_ne (by omega)]; exact F4.c1
    · rw [hcs5, Array.getElem?_setIfInBounds_ne (by omega)]; exact F4.c2
    · rw [hcs5, Array.getElem?_setIfInBounds_ne (by omega)]; exact F4.c3
    · rw [hcs5, Array.getElem?_setIfInBounds_ne (by omega)]; exact F4.c4
    · rw [hcs5, Array.getElem?_setIfInBounds_ne (by omega)]; exact F4.c5
  have g7 : cs5[0 + 7]? = some (.slice aE es.length cE) := by rw [hcs5]; exact Array.getElem?_setIfInBounds_self_of_lt hl7
  have K5 : WK Bo c w4 W5 := by rw [hW5]; exact WK.set _
  have own5 : W5.ownsRow 0 58 2 (.slice aE es.length cE) es.length (ecells es) := by rw [hW5]; exact own_lower (row_keepB own4 (TK.set F4.blk (by decide))) (Nat.zero_le _)
  have D5 : Disk Bo W5 p S2 := K5.disk (H3.out.1.below b4) F4.notDisk
  have G5 : Gs W5 a bb := K5.gs (hN4.gs HH.out.2.1 hNG) hcN
  have hsm := tally_small htl (words_words _) HW.out
  have htx := text_small hsm.each (by omega)
  have hel := hsm.len
  have hmul : es.length * (K + 10) ≤ 1440 * 41 := Nat.mul_le_mul hel (by omega)
  have hhs := head_size countsB run K (by decide) hrs (by omega)
  have rm2 := H3.out.2.1.room
  have cls := listSave c 0 cs5 105 p countsB (headB countsB run K) sC rC (.slice none 0 0) [] S2 (N + 2 * Bn + 2 * Bn) a bb (.slice aE es.length cE) es W5 F5 (by decide) G5 hcN D5 (rm2.roomy (by omega)) (by omega) g7 own5 (by omega) (by decide) counts_draft (by omega) (fun x hx => by have := (hsm.each x hx).2.2.2; omega)
  have hcz : (countsZ run K es).length ≤ 60000 := by unfold countsZ; rw [List.length_append, len_size]; omega
  have H5 : Hid (TallyOf (wordsOf K (datas rs)) (es.map cv) ∧ (∀ u, New Bo u w → u.heap.size ≤ c → New Bo u W5) ∧ RoomB S2 (N + 2 * Bn + 2 * Bn) ∧ S2.look planB = S.look planB) := by
    refine ⟨htl, fun u hu hc => ?_, rm2, by rw [H3.out.2.1.rest planB (fun i _ => nameB_plan i), H2.out.1.rest planB (fun i _ => nameB_plan i)]⟩
    have h1 : New Bo u w4 := hu.fk (q := w.heap.size) hN4 hu.size
    exact h1.wk K5 hc
  clear cm own4 hs4 hp4 b4 hN4 F4 F5 g7 K5 own5 D5 G5 hsm htx hel hmul hhs rm2 hcs5 hl7 htl
  go_upto_region 9 with fail
  rw [← hW5]
  clear hW5 c7 f7
  go_wp2_with fail
  refine cls.mono ?_
  rintro e w6 ⟨S', s', r', rfl, h6, d6, v6, k6⟩
  have HF : Hid (Disk Bo w6 p S' ∧ RoomB S' (N + 4 * Bn + 2) ∧ (S'.look countsB = some (wholeF (countsZ run K es)) ∧ S'.look planB = S.look planB) ∧ FK Bo c W5 w6) := by
    have hwz : (whole (countsZ run K es)).size ≤ 100000 := Nat.le_trans (whole_size _ (by omega)) (by omega)
    have h1 := H5.out.2.2.1.saved v6 hwz counts_draft (by omega)
    rw [show N + 2 * Bn + 2 * Bn + 2 = N + 4 * Bn + 2 by omega] at h1
    exact ⟨d6, h1, ⟨v6.look_new, by rw [v6.look_old H5.out.2.2.1.good.ok H5.out.2.2.1.good.sorted (by rw [Lib.toList_data, Lib.toList_data]; decide)]; exact H5.out.2.2.2⟩, k6⟩
  clear h6 d6 v6 k6 cls
  go_wp2
  go_ret
  exact ⟨S', es, rfl, HF.out.1, HF.out.2.1, HF.out.2.2.1, H5.out.1, fun u hu hc => (H5.out.2.1 u hu hc).fk HF.out.2.2.2 hc⟩
end Go.Proofs.YtbjgpfhbdmcbbabGreatDoor.jobs
