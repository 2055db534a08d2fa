import Derived.Test.YtbjgpfhbdmcbbabGreatDoorP08
import Derived.Test.YtbjgpfhbdmcbbabGreatDoorP09
import Derived.Test.YtbjgpfhbdmcbbabGreatDoorP10
import Derived.Shelf.Strings.Builder1
import Derived.Shelf.Small.Strs
import Derived.Shelf.Small.Wraps
import Derived.Shelf.Strings.BuilderF
import Derived.Shelf.Strings.BuilderK
import Derived.Shelf.Strconv.Atoi
import Derived.Shelf.Strconv.Itoa0
import Derived.Shelf.Strconv.Itoa1
import Derived.Shelf.LaysM
import Derived.Shelf.Strconv.Itoa2
import Derived.Shelf.Strconv.Itoa3
import Derived.Shelf.Strings.Search1
import Derived.Shelf.Strings.Search2
import Derived.Shelf.Strings.Search3
import Derived.Shelf.Strings.Cut
import Derived.Shelf.Strings.Count
import Derived.Shelf.Strings.Shaped
import Derived.Shelf.Sort.Plain
import Derived.Shelf.Strings.LastIndex
import Derived.Shelf.Strings.LastIndexAll
import Derived.Shelf.Strings.Prefix
import Derived.Shelf.Strings.Split
import Derived.Shelf.Strings.SplitShaped
import Derived.Shelf.Unicode.DecodeSlow
import Derived.Shelf.Slices.In.SortNone
import Derived.Test.YtbjgpfhbdmcbbabGreatDoorProg
import Derived.Shelf.Strings.SplitCore
import Derived.RegionTactic
import Derived.BigQuiet
import Derived.Deep.QuietTactic

/-
  CONTRACTS of package files: Of, RemoveAll.
-/
namespace Go.Proofs.YtbjgpfhbdmcbbabGreatDoor.files
open Go.RowKit dnamath dna diskm disk keep hex pieces
set_option linter.unusedVariables false

set_option maxHeartbeats 400000 in
set_option maxRecDepth 100000 in
theorem Of_any (p : Nat) (n h : ByteArray) (w : World) :
    Calls Tryz.prog 62 #[.pointer (some ⟨p, 0, none⟩), .string n, .string h] w fun e w' => e = .returned (.agg #[.pointer (some ⟨p, 0, none⟩), .string n, .string h, .int .u64 0, .int .i64 0, .slice none 0 0]) ∧ Below w.heap.size w w' := by
  go_enter Tryz.func62, Tryz.ntmps62
  go_wp2
  exact bodyPost_ret (v := .agg #[.pointer (some ⟨p, 0, none⟩), .string n, .string h, .int .u64 0, .int .i64 0, .slice none 0 0]) (by simp [results, Tryz.results62, go_sem]) rfl ⟨rfl, (Below.refl _ w).alloc (Nat.le_refl _) _⟩

theorem remove_fine {S : DS} (hF : S.Fine) {n : ByteArray} (hf : findIs n S.now = true) :
    S.remove n = (true, { S with steps := S.steps ++ [⟨3, n, ByteArray.empty, 0⟩], now := doL S.now ⟨3, n, ByteArray.empty, 0⟩ }) := by
  unfold DS.remove; rw [changes_fine hF]; simp only; rw [if_neg]
  rintro (h | h)
  · cases h
  · rw [hf] at h; cases h
theorem size_some {S : DS} {n : ByteArray} {f : DFile} (hF : S.Fine) (h : S.look n = some f) : S.size n = ((f.data.size : Int), true) := by
  unfold DS.size; rw [h]
  have : S.dead = false := by unfold DS.dead; rw [hF.life]; rfl
  simp [this]

/-- a disk in order -/
structure Good (S : DS) (N : Nat) : Prop where
  fine : S.Fine
  ok : S.Ok N
  sorted : Sorted S.now
  named : Named S.now
  sane : Sane S
theorem ok_mono {S : DS} {N M : Nat} (h : S.Ok N) (hm : N ≤ M) : S.Ok M :=
  ⟨h.ref, Nat.le_trans h.nl hm, Nat.le_trans h.fl hm, Nat.le_trans h.tl hm, Nat.le_trans h.sl hm, Nat.le_trans h.fa hm, h.w0, h.w1, h.l0, h.l1⟩
theorem Good.mono {S : DS} {N M : Nat} (h : Good S N) (hm : N ≤ M) : Good S M := ⟨h.fine, ok_mono h.ok hm, h.sorted, h.named, h.sane⟩

/-- T is S without some names -/
structure Less (S T : DS) (N : Nat) (ns : List ByteArray) : Prop where
  good : Good T N
  cap : T.cap = S.cap
  files : T.files = S.files
  mem : ∀ x, x ∈ T.now ↔ x ∈ S.now ∧ ∀ n ∈ ns, key x ≠ n.toList
theorem less_start {S : DS} {N : Nat} (h : Good S N) : Less S S N [] := ⟨h, rfl, rfl, fun x => by simp⟩
theorem Less.skip {S T : DS} {N : Nat} {ns : List ByteArray} {n : ByteArray} (h : Less S T N ns) (hf : findIs n T.now = false) : Less S T (N + 1) (ns ++ [n]) := by
  refine ⟨h.good.mono (Nat.le_succ _), h.cap, h.files, fun x => ?_⟩
  rw [h.mem x]
  constructor
  · rintro ⟨h1, h2⟩
    refine ⟨h1, fun m hm => ?_⟩
    rw [List.mem_append, List.mem_singleton] at hm
    rcases hm with hm | rfl
    · exact h2 m hm
    · intro e
      have := (find_iff (n := m) h.good.sorted).2 ⟨x, (h.mem x).2 ⟨h1, h2⟩, e⟩
      rw [hf] at this; cases this
  · rintro ⟨h1, h2⟩
    exact ⟨h1, fun m hm => h2 m (List.mem_append_left _ hm)⟩
theorem Less.rm {S T : DS} {N : Nat} {ns : List ByteArray} {n : ByteArray} (h : Less S T N ns) (hf : findIs n T.now = true) : Less S (T.remove n).2 (N + 1) (ns ++ [n]) := by
  have hsn := (took_remove (n := n) (took_start h.good.sane h.good.ok)).sane
  rw [remove_fine h.good.fine hf] at hsn ⊢
  have dr := doL_rm (s := ⟨3, n, ByteArray.empty, 0⟩) h.good.sorted rfl
  have hk := h.good.ok
  refine ⟨⟨⟨h.good.fine.wait, h.good.fine.life⟩, ⟨fun x hx => hk.ref x ((dr.2 x).1 hx).1, Nat.le_trans (doL_len _ _) (Nat.succ_le_succ hk.nl), Nat.le_succ_of_le hk.fl, by show (T.steps ++ _).length ≤ _; rw [List.length_append]; exact Nat.succ_le_succ hk.tl, Nat.le_succ_of_le hk.sl, Nat.le_succ_of_le hk.fa, hk.w0, hk.w1, hk.l0, hk.l1⟩, dr.1, (fun x hx => h.good.named x ((dr.2 x).1 hx).1), hsn⟩, h.cap, h.files, fun x => ?_⟩
  rw [dr.2 x, h.mem x]
  constructor
  · rintro ⟨⟨h1, h2⟩, h3⟩
    refine ⟨h1, fun m hm => ?_⟩
    rw [List.mem_append, List.mem_singleton] at hm
    rcases hm with hm | rfl
    · exact h2 m hm
    · exact h3
  · rintro ⟨h1, h2⟩
    exact ⟨⟨h1, fun m hm => h2 m (List.mem_append_left _ hm)⟩, h2 n (by simp)⟩
theorem Less.sync {S T : DS} {N : Nat} {ns : List ByteArray} (h : Less S T N ns) : Less S { T with safe := T.now, steps := [] } N ns := by
  have hk := h.good.ok
  exact ⟨⟨⟨h.good.fine.wait, h.good.fine.life⟩, ⟨hk.ref, hk.nl, hk.fl, Nat.zero_le _, hk.nl, hk.fa, hk.w0, hk.w1, hk.l0, hk.l1⟩, h.good.sorted, h.good.named, ⟨rfl, h.good.sane.cur.1, h.good.sane.cur.2.1, h.good.sane.cur.2.2, (fun s hx => by cases hx), (fun s hx => by cases hx), h.good.sane.sync, h.good.sane.small⟩⟩, h.cap, h.files, h.mem⟩

set_option maxHeartbeats 2000000 in
set_option maxRecDepth 100000 in
theorem RemoveAll_any {Bo : Nat} (p : Nat) (S : DS) (N : Nat) (v : Value) (ns : List ByteArray) (w : World) (hD : Disk Bo w p S) (hG : Good S N) (hN : N + ns.length ≤ 10000) (hr : w.ownsRow 0 9 1 v ns.length (scells ns)) :
    Calls Tryz.prog 45 #[.pointer (some ⟨p, 0, none⟩), v] w fun e w' => ∃ S', e = .returned .nilIface ∧ Disk Bo w' p S' ∧ Less S S' (N + ns.length) ns ∧ Kept Bo w w' := by
  have csn : ∀ W' T, Disk Bo W' p T → Less S T (N + ns.length) ns → Calls Tryz.prog 57 #[.pointer (some ⟨p, 0, none⟩)] W' fun e w' => e = .returned .nilIface ∧ Disk Bo w' p { T with safe := T.now, steps := [] } ∧ Kept Bo W' w' := fun W' T d g => SyncNames_fine p T (N + ns.length) W' d g.good.ok (by omega) g.good.fine
  have hll : ns.length ≤ 10000 := by omega
  rcases hr.2 with ⟨rfl, h0⟩ | ⟨g, cap, cur, rfl, hg, hh, hrr⟩
  · have hl0 : ns = [] := List.eq_nil_of_length_eq_zero h0
    subst hl0
    have c1 := csn w S hD (less_start hG)
    clear csn hr h0
    go_enter Tryz.func45, Tryz.ntmps45
    go_wp2
    refine wp_loop_rounds 1 ?_
    rw [rounds_succ]
    go_wp2_with (go_at_call 57; go_must (refine c1.mono ?_; rintro e w5 ⟨rfl, d5, k5⟩))
    go_ret
    exact ⟨_, rfl, d5, (less_start hG).sync, k5⟩
  · clear hh hrr
    go_enter Tryz.func45, Tryz.ntmps45
    go_wp2
    go_loopw [5, 12] (fun r i wr => ∃ k m : Nat, i = .int .i64 (k : Int) ∧ r = .int .i64 (m : Int) ∧ m ≤ k ∧ k ≤ ns.length ∧ Hid (∃ T, Disk Bo wr p T ∧ Less S T (N + k) (ns.take k)) ∧ Hid (Kept Bo w wr)) (fun _ i _ => ns.length - (intOf i).toNat)
    case atStart => exact ⟨0, 0, rfl, rfl, Nat.le_refl _, Nat.zero_le _, ⟨S, hD, less_start hG⟩, Kept.refl _⟩
    case round =>
      obtain ⟨k, m, rfl, rfl, hm, hk, hDr, hKr⟩ := hrel
      rename World => wr
      by_cases hlt : k < ns.length
      · obtain ⟨n, hn⟩ : ∃ n, ns[k]? = some n := ⟨_, List.getElem?_eq_getElem hlt⟩
        have hrow : wr.ownsRow 0 9 1 (.slice (some ⟨g, 0, none⟩) ns.length cap) ns.length (scells ns) := row_keep hr (fun k cs fz e => (g_keep hKr.out e (by decide)).trans e.symm)
        have hc : wr.cell? ⟨g, k, none⟩ = some (.string n) := by
          rw [hrow.cellAt (g := g) k (by omega)]
          simp [scells, hn]
        obtain ⟨T, hDT, hGT⟩ := hDr.out
        have HST : Hid (ns.take (k + 1) = ns.take k ++ [n]) := by show _ = _; rw [List.take_add_one, hn]; rfl
        have HGT : Hid (Less S T (N + k) (ns.take k)) := hGT
        have HDT : Hid (Disk Bo wr p T) := hDT
        clear hrow hr hD hDr hn csn
        obtain ⟨vF, vN, vS, vT, hDA⟩ := hDT
        have csz := Size_any p T (N + k) vF vN vS vT n wr hDA hGT.good.ok (by omega)
        clear hDA
        cases hf : findIs n T.now with
        | false =>
          have hl : T.look n = none := DS.look_none hf
          have HF : Hid (findIs n T.now = false) := hf
          rw [size_none hl] at csz
          clear hf hl hGT
          go_wp2_with (go_at_call 69; go_must (refine csz.mono ?_; rintro e w1 ⟨rfl, s1⟩))
          go_roundw
          case rel => exact ⟨k + 1, m, by go_num, rfl, by omega, by omega, ⟨T, HDT.out.still s1, by rw [HST.out]; exact HGT.out.skip HF.out⟩, hKr.out.trans (.ofStill s1)⟩
          case measure => simp [intOf]; omega
        | true =>
          obtain ⟨x, f, _, _, _, _, hl⟩ := hGT.good.ok.get hf
          rw [size_some hGT.good.fine hl] at csz
          have hR := hGT.rm hf
          have crm : ∀ W', Still wr W' → Calls Tryz.prog 70 #[.pointer (some ⟨p, 0, none⟩), .string n] W' fun e w' => e = .returned (.bool true) ∧ Disk Bo w' p (T.remove n).2 ∧ Kept Bo W' w' := fun W' hW' => by
            have := Remove_any p T (N + k) n W' (HDT.out.still hW') hGT.good.ok (by omega) hf
            have e1 : (T.remove n).1 = true := by rw [remove_fine hGT.good.fine hf]
            rw [e1] at this
            exact this
          obtain ⟨T2, hT2⟩ : ∃ T2, T2 = (T.remove n).2 := ⟨_, rfl⟩
          rw [← hT2] at crm hR
          have cdir : ∀ W', Disk Bo W' p T2 → Calls Tryz.prog 72 #[.pointer (some ⟨p, 0, none⟩)] W' fun e w' => e = .returned (.bool true) ∧ Disk Bo w' p { T2 with safe := T2.now, steps := [] } ∧ Kept Bo W' w' := fun W' d => by
            obtain ⟨uF, uN, uS, uT, hU⟩ := d
            have ct := SyncDir_any p T2 (N + k + 1) uF uN uS uT W' hU hR.good.ok (by omega)
            rw [syncDir_fine hR.good.fine] at ct
            refine ct.mono ?_
            rintro e w' ⟨rfl, ⟨vS', vT', h1⟩, k1⟩
            exact ⟨rfl, ⟨_, _, _, _, h1⟩, k1⟩
          have HR : Hid (Less S T2 (N + k + 1) (ns.take k ++ [n])) := hR
          clear hT2 hR hGT hf hl
          have hm1 : ((m : Int) + 1).tmod 4 = (((m + 1) % 4 : Nat) : Int) := rfl
          by_cases h4 : (m + 1) % 4 = 0
          · have hm2 : ((m : Int) + 1).tmod 4 = 0 := by rw [hm1, h4]; rfl
            clear hm1 h4
            go_wp2_with (first | (go_at_call 69; go_must (refine csz.mono ?_; rintro e w1 ⟨rfl, s1⟩)) | (go_at_call 70; go_must (refine (crm _ s1).mono ?_; rintro e w4 ⟨rfl, d4, k4⟩)) | (go_at_call 72; go_must (refine (cdir _ d4).mono ?_; rintro e w5 ⟨rfl, d5, k5⟩)))
            go_roundw
            case rel => exact ⟨k + 1, m + 1, by go_num, by go_num, by omega, by omega, ⟨_, d5, by rw [HST.out]; exact HR.out.sync⟩, hKr.out.trans ((Kept.ofStill s1).trans (k4.trans k5))⟩
            case measure => simp [intOf]; omega
          · have hm2 : ¬ ((m : Int) + 1).tmod 4 = 0 := by rw [hm1]; omega
            clear hm1 h4
            go_wp2_with (first | (go_at_call 69; go_must (refine csz.mono ?_; rintro e w1 ⟨rfl, s1⟩)) | (go_at_call 70; go_must (refine (crm _ s1).mono ?_; rintro e w4 ⟨rfl, d4, k4⟩)))
            go_roundw
            case rel => exact ⟨k + 1, m + 1, by go_num, by go_num, by omega, by omega, ⟨_, d4, by rw [HST.out]; exact HR.out⟩, hKr.out.trans ((Kept.ofStill s1).trans k4)⟩
            case measure => simp [intOf]; omega
      · have hke : k = ns.length := by omega
        subst hke
        rw [List.take_length] at hDr
        obtain ⟨T, hDT, hGT⟩ := hDr.out
        have c1 := csn wr T hDT hGT
        have HGT : Hid (Less S T (N + ns.length) ns) := hGT
        clear csn hDT hGT hDr hr hD
        go_wp2_with (go_at_call 57; go_must (refine c1.mono ?_; rintro e w5 ⟨rfl, d5, k5⟩))
        go_ret
        exact ⟨_, rfl, d5, HGT.out.sync, hKr.out.trans k5⟩
end Go.Proofs.YtbjgpfhbdmcbbabGreatDoor.files

/-
  CONTRACTS of package dna: piecesOf, isRead, Pieces.
-/
namespace Go.Proofs.YtbjgpfhbdmcbbabGreatDoor.pieces
open Go.RowKit dnamath dna
set_option linter.unusedVariables false

theorem str_cell (w : World) (ts : List ByteArray) (t : TypeId) (j : Nat) (h : j < ts.length) : (w.alloc (.cells (ts.map Value.string).toArray t)).cell? ⟨w.heap.size, j, none⟩ = some (.string ts[j]) := by
  rw [World.cell?_alloc_mark]
  simp [h]

set_option maxHeartbeats 1000000 in
set_option maxRecDepth 100000 in
theorem piecesOf_any (s : ByteArray) (k m : Nat) (w : World) (hk1 : 1 ≤ k) (hk : k ≤ 31) (hm1 : 1 ≤ m) (hm : m ≤ k) (hl : s.size ≤ 4000000) (hN : s.data.toList.all isBN = true) :
    Calls Tryz.prog 142 #[.string s, .int .i64 (k : Int), .int .i64 (m : Int)] w fun e w' =>
      ∃ v ps, e = .returned v ∧ w'.ownsRow (w.heap.size + 1) 9 1 v ps.length (scells ps) ∧ datas ps = piecesL s.data.toList k m ∧ Below w.heap.size w w' := by
  have hoffs := offs_all hN
  have HLL : s.data.toList.length ≤ 4000000 := by rw [← Lib.size_eq]; exact hl
  go_enter Tryz.func142, Tryz.ntmps142
  go_wp2_with fail
  refine (split.split_one s 78 w (by omega)).mono ?_
  rintro e w1 ⟨ts, rfl, rfl, hts, htl⟩
  have HO : Hid (Offs s.data.toList 0 (datas ts)) := by
    have e : datas ts = Lib.splitK [78] 0 (Lib.count s.data.toList [78]) s.data.toList := hts
    show Offs _ _ _
    rw [e]; exact hoffs
  clear hts hoffs
  obtain ⟨l, hl0⟩ : ∃ l, l = s.data.toList := ⟨_, rfl⟩
  rw [← hl0] at HO HLL
  have HLE : Hid (l = s.data.toList) := hl0
  clear hl0 hN
  go_wp2
  go_loopw [7, 9, 13] (fun v _ i wr => ∃ (j off : Nat) (ps : List ByteArray), i = .int .i64 j ∧ j ≤ ts.length ∧ wr.ownsRow (w.heap.size + 1) 9 1 v ps.length (scells ps) ∧ Hid (datas ps = (R l k m off).out) ∧ Hid (Fresh l k m off) ∧ Hid (Offs l off (datas (ts.drop j))) ∧
      Below (w.heap.size + 1) (w.alloc (.cells (ts.map Value.string).toArray 9)) wr ∧ w.heap.size + 1 ≤ wr.heap.size) (fun _ _ i _ => ts.length - (intOf i).toNat)
  case atStart =>
    exact ⟨0, 0, [], rfl, Nat.zero_le _, World.ownsRow_nil _ _ _ _, rfl, by intro h; have h2 : (-2 : Int) = ((0 : Nat) : Int) - 1 := h; omega, HO.out, Below.refl _ _, by simp⟩
  case round =>
    obtain ⟨j, off, ps, rfl, hj, hown, HP, HF, HOj, hbel, hbs⟩ := hrel
    by_cases hlt : j < ts.length
    · have hcell : wr.cell? ⟨w.heap.size, j, none⟩ = some (.string ts[j]) := (hbel.cell (by show w.heap.size < w.heap.size + 1; omega)).trans (str_cell w ts _ j hlt)
      obtain ⟨t, ht⟩ : ∃ t, t = ts[j] := ⟨_, rfl⟩
      rw [← ht] at hcell
      have HD : Hid (datas (ts.drop j) = t.data.toList :: datas (ts.drop (j + 1))) := by
        show datas _ = _
        rw [List.drop_eq_getElem_cons hlt, ← ht]; rfl
      have hO2 := HOj.out
      rw [HD.out] at hO2
      obtain ⟨hst, hrest⟩ := hO2
      have HRest : Hid (Offs l (off + t.size + 1) (datas (ts.drop (j + 1)))) := by rw [Lib.size_eq]; exact hrest
      have hst' : Hid (Stretch l off t.data.toList) := hst
      clear ht HD HOj hrest hst
      go_wp2_with fail
      refine (appendPieces_any (w.heap.size + 1) l off _ ps t k m _ hk1 hk hm1 hm HLL hown hbs hst'.out HF.out HP.out).mono ?_
      rintro e w2 ⟨v2, ps2, rfl, hown2, hp2, hf2, hb2⟩
      have HP2 : Hid (datas ps2 = (R l k m (off + t.size + 1)).out) := hp2
      have HF2 : Hid (Fresh l k m (off + t.size + 1)) := hf2
      have hbel2 := hbel.trans hb2
      have hbs2 := Nat.le_trans hbs hb2.size
      clear hp2 hf2 hown hbel hb2 hbs hcell
      go_wp2
      go_roundw
      case rel => exact ⟨j + 1, off + t.size + 1, ps2, by go_num, by omega, hown2, HP2.out, HF2.out, HRest.out, hbel2, hbs2⟩
      case measure => simp [intOf]; omega
    · go_wp2
      go_ret
      have e : j = ts.length := by omega
      have hO2 := HOj.out
      rw [e, List.drop_length] at hO2
      have hoff : off = l.length + 1 := hO2
      refine ⟨_, ps, rfl, hown, ?_, ?_⟩
      · rw [HP.out, hoff, ← HLE.out]; rfl
      · exact ((Below.refl _ w).alloc (Nat.le_refl _) _).trans (hbel.mono (by omega))

theorem inB_acgtn (c : UInt8) : inB [65, 67, 71, 84, 78] c = isBN c := by
  simp only [inB, isBN, isB, Lib.indexByte]
  by_cases h0 : c = 65
  · subst h0; decide
  by_cases h1 : c = 67
  · subst h1; decide
  by_cases h2 : c = 71
  · subst h2; decide
  by_cases h3 : c = 84
  · subst h3; decide
  by_cases h4 : c = 78
  · subst h4; decide
  have e0 : (c == 65) = false := by simpa using h0
  have f0 : ((65 : UInt8) == c) = false := by rw [beq_eq_false_iff_ne]; exact fun h => h0 h.symm
  have e1 : (c == 67) = false := by simpa using h1
  have f1 : ((67 : UInt8) == c) = false := by rw [beq_eq_false_iff_ne]; exact fun h => h1 h.symm
  have e2 : (c == 71) = false := by simpa using h2
  have f2 : ((71 : UInt8) == c) = false := by rw [beq_eq_false_iff_ne]; exact fun h => h2 h.symm
  have e3 : (c == 84) = false := by simpa using h3
  have f3 : ((84 : UInt8) == c) = false := by rw [beq_eq_false_iff_ne]; exact fun h => h3 h.symm
  have e4 : (c == 78) = false := by simpa using h4
  have f4 : ((78 : UInt8) == c) = false := by rw [beq_eq_false_iff_ne]; exact fun h => h4 h.symm
  simp [e0, e1, e2, e3, e4, f0, f1, f2, f3, f4]
theorem only_acgtn (l : List UInt8) : only [65, 67, 71, 84, 78] l = l.all isBN := by
  unfold only
  congr 1
  funext c
  exact inB_acgtn c

def readB (l : List UInt8) : Bool := l.all isBN

set_option maxHeartbeats 400000 in
set_option maxRecDepth 100000 in
theorem isRead_any (s : ByteArray) (w : World) (hs : s.size ≤ maxLen) :
    Calls Tryz.prog 141 #[.string s] w fun e w' => e = .returned (.bool (readB s.data.toList)) ∧ w' = w := by
  have e : readB s.data.toList = only [65, 67, 71, 84, 78] s.data.toList := (only_acgtn _).symm
  rw [e]
  clear e
  go_enter Tryz.func141, Tryz.ntmps141
  go_wp2_with (go_at_call 163; refine (hasOnly_any _ _ _ hs).mono ?_; rintro e w' ⟨rfl, rfl⟩)
  go_ret
  exact ⟨rfl, rfl⟩

/-- may these be asked? -/
def May (s : ByteArray) (k m : Int) : Prop := 1 ≤ k ∧ k ≤ 31 ∧ 1 ≤ m ∧ m ≤ k ∧ readB s.data.toList = true

/-- what Pieces answers -/
def PiecesIs (base : Nat) (s : ByteArray) (k m : Int) (w : World) (v : Value) (n : Int) : Prop :=
  (May s k m ∧ n = 0 ∧ ∃ ps, w.ownsRow base 9 1 v ps.length (scells ps) ∧ datas ps = piecesL s.data.toList k.toNat m.toNat) ∨ (¬ May s k m ∧ n = 1 ∧ v = .slice none 0 0)

set_option maxHeartbeats 1000000 in
set_option maxRecDepth 100000 in
theorem Pieces_no (s : ByteArray) (k m : Int) (w : World) (hl : s.size ≤ 4000000) (hno : ¬ May s k m) :
    Calls Tryz.prog 115 #[.string s, .int .i64 k, .int .i64 m] w fun e w' => e = .returned (.tuple #[.slice none 0 0, .int .i64 1]) ∧ w' = w := by
  have hs' : s.size ≤ maxLen := by unfold maxLen; omega
  by_cases h1 : k < 1
  · have hd : decide (k < 1) = true := by simpa using h1
    clear hno
    go_enter Tryz.func115, Tryz.ntmps115
    go_wp2
    go_ret2
    exact ⟨rfl, rfl⟩
  by_cases h2 : 31 < k
  · have hd : decide (31 < k) = true := by simpa using h2
    clear hno
    go_enter Tryz.func115, Tryz.ntmps115
    go_wp2
    go_ret2
    exact ⟨rfl, rfl⟩
  by_cases h3 : m < 1
  · have hd : decide (m < 1) = true := by simpa using h3
    clear hno
    go_enter Tryz.func115, Tryz.ntmps115
    go_wp2
    go_ret2
    exact ⟨rfl, rfl⟩
  by_cases h4 : k < m
  · have hd : decide (k < m) = true := by simpa using h4
    clear hno
    go_enter Tryz.func115, Tryz.ntmps115
    go_wp2
    go_ret2
    exact ⟨rfl, rfl⟩
  have h5 : readB s.data.toList = false := by
    cases h : readB s.data.toList with
    | false => rfl
    | true => exact absurd ⟨by omega, by omega, by omega, by omega, h⟩ hno
  have H5 : Hid (readB s.data.toList = false) := h5
  clear hno h5
  go_enter Tryz.func115, Tryz.ntmps115
  go_wp2_with (go_at_call 141; refine (isRead_any _ _ hs').mono ?_; rintro e w' ⟨rfl, rfl⟩; rw [H5.out])
  go_ret2
  exact ⟨rfl, rfl⟩

set_option maxHeartbeats 1000000 in
set_option maxRecDepth 100000 in
theorem Pieces_yes (s : ByteArray) (k m : Nat) (w : World) (hl : s.size ≤ 4000000) (hyes : May s k m) :
    Calls Tryz.prog 115 #[.string s, .int .i64 (k : Int), .int .i64 (m : Int)] w fun e w' => ∃ v ps, e = .returned (.tuple #[v, .int .i64 0]) ∧ w'.ownsRow (w.heap.size + 1) 9 1 v ps.length (scells ps) ∧ datas ps = piecesL s.data.toList k m ∧ Below w.heap.size w w' := by
  have hs' : s.size ≤ maxLen := by unfold maxLen; omega
  obtain ⟨h1, h2, h3, h4, h5⟩ := hyes
  have H5 : Hid (readB s.data.toList = true) := h5
  clear h5
  go_enter Tryz.func115, Tryz.ntmps115
  go_wp2_with (go_at_call 141; refine (isRead_any _ _ hs').mono ?_; rintro e w' ⟨rfl, rfl⟩; rw [H5.out])
  refine (piecesOf_any s k m _ (by omega) (by omega) (by omega) (by omega) hl H5.out).mono ?_
  rintro e w2 ⟨v, ps, rfl, hown, hp, hb⟩
  have HP : Hid (datas ps = piecesL s.data.toList k m) := hp
  clear hp
  go_wp2
  go_ret2
  exact ⟨v, ps, rfl, hown, HP.out, hb⟩

end Go.Proofs.YtbjgpfhbdmcbbabGreatDoor.pieces

/-
  Contracts of the library's shelf at this program, laid by the kit's own command in plain words; the ones that are used.
-/
namespace Go.Proofs
open Go.Shelf
def Tryz.lays169_ren : Go.Shelf.Ren := ⟨fun | 169 => 242 | n => n, fun | 70 => 298 | 9 => 9 | 0 => 0 | 72 => 300 | 37 => 53 | 127 => 253 | 3 => 3 | 5 => 5 | n => n, fun | n => n⟩
theorem Tryz.lays169 : Go.Proofs.Lays.n169 Tryz.prog Tryz.lays169_ren := {
  mixed := by kernel_rfl
  f169 := Tryz.func242.trans (congrArg some (by kernel_rfl))
  t0 := Tryz.underlying0
  a0 := Tryz.isAgg0
  z0 := Tryz.sizeOf0
  v0 := Tryz.zeroValue0
  t3 := Tryz.underlying3
  a3 := Tryz.isAgg3
  z3 := Tryz.sizeOf3
  v3 := Tryz.zeroValue3
  t9 := Tryz.underlying9
  a9 := Tryz.isAgg9
  z9 := Tryz.sizeOf9
  v9 := Tryz.zeroValue9
  t37 := Tryz.underlying53
  a37 := Tryz.isAgg53
  z37 := Tryz.sizeOf53
  v37 := Tryz.zeroValue53
  t70 := Tryz.underlying298
  a70 := Tryz.isAgg298
  z70 := Tryz.sizeOf298
  v70 := Tryz.zeroValue298
  t72 := Tryz.underlying300
  a72 := Tryz.isAgg300
  z72 := Tryz.sizeOf300
  v72 := Tryz.zeroValue300
  t127 := Tryz.underlying253
  a127 := Tryz.isAgg253
  z127 := Tryz.sizeOf253
  v127 := Tryz.zeroValue253 }
theorem Tryz.Builder_Extra_169 : Builder.Extra Tryz.prog Tryz.lays169_ren := {
  sizeBuilder := by kernel_rfl
  liesBuilder := by kernel_rfl
  t5 := Tryz.underlying5
  a5 := Tryz.isAgg5
  z5 := Tryz.sizeOf5
  v5 := Tryz.zeroValue5
  infoByte := by kernel_rfl
  cellsByte := by kernel_rfl
  sizeByte := by kernel_rfl
  neB5 := by decide }
open Go.RowKit in
theorem Tryz.Builder_String_any (B b : Nat) (l : List UInt8) (w : World) (h : Lib.IsBuilder 300 5 B b (Lib.byteCells l) w) (hBw : B ≤ w.heap.size) :
    Calls Tryz.prog 242 #[.pointer (some ⟨b, 0, none⟩)] w fun e w' => e = .returned (.string ⟨l.toArray⟩) ∧ Below B w w' := Any.Builder_String_any Tryz.lays169 Tryz.Builder_Extra_169 B b l w h hBw
def Tryz.lays171_ren : Go.Shelf.Ren := ⟨fun | 171 => 21 | 243 => 32 | 246 => 47 | 283 => 73 | 284 => 74 | 285 => 75 | 286 => 76 | 129 => 104 | 317 => 103 | 318 => 105 | 319 => 106 | 320 => 107 | 337 => 135 | 338 => 136 | n => n, fun | 3 => 3 | 9 => 9 | 2 => 2 | 4 => 4 | 171 => 147 | 0 => 0 | 53 => 101 | 37 => 53 | 5 => 5 | 173 => 150 | 212 => 191 | 51 => 192 | 20 => 20 | 213 => 193 | 46 => 145 | 232 => 247 | 233 => 248 | n => n, fun | 17 => 11 | 18 => 16 | 19 => 17 | n => n⟩
theorem Tryz.lays171 : Go.Proofs.Lays.n171 Tryz.prog Tryz.lays171_ren := {
  mixed := by kernel_rfl
  f129 := Tryz.func104.trans (congrArg some (by kernel_rfl))
  f171 := Tryz.func21.trans (congrArg some (by kernel_rfl))
  f243 := Tryz.func32.trans (congrArg some (by kernel_rfl))
  f246 := Tryz.func47.trans (congrArg some (by kernel_rfl))
  f283 := Tryz.func73.trans (congrArg some (by kernel_rfl))
  f284 := Tryz.func74.trans (congrArg some (by kernel_rfl))
  f285 := Tryz.func75.trans (congrArg some (by kernel_rfl))
  f286 := Tryz.func76.trans (congrArg some (by kernel_rfl))
  f317 := Tryz.func103.trans (congrArg some (by kernel_rfl))
  f318 := Tryz.func105.trans (congrArg some (by kernel_rfl))
  f319 := Tryz.func106.trans (congrArg some (by kernel_rfl))
  f320 := Tryz.func107.trans (congrArg some (by kernel_rfl))
  f337 := Tryz.func135.trans (congrArg some (by kernel_rfl))
  f338 := Tryz.func136.trans (congrArg some (by kernel_rfl))
  t0 := Tryz.underlying0
  a0 := Tryz.isAgg0
  z0 := Tryz.sizeOf0
  v0 := Tryz.zeroValue0
  t2 := Tryz.underlying2
  a2 := Tryz.isAgg2
  z2 := Tryz.sizeOf2
  v2 := Tryz.zeroValue2
  t3 := Tryz.underlying3
  a3 := Tryz.isAgg3
  z3 := Tryz.sizeOf3
  v3 := Tryz.zeroValue3
  t4 := Tryz.underlying4
  a4 := Tryz.isAgg4
  z4 := Tryz.sizeOf4
  v4 := Tryz.zeroValue4
  t5 := Tryz.underlying5
  a5 := Tryz.isAgg5
  z5 := Tryz.sizeOf5
  v5 := Tryz.zeroValue5
  t9 := Tryz.underlying9
  a9 := Tryz.isAgg9
  z9 := Tryz.sizeOf9
  v9 := Tryz.zeroValue9
  t20 := Tryz.underlying20
  a20 := Tryz.isAgg20
  z20 := Tryz.sizeOf20
  v20 := Tryz.zeroValue20
  t37 := Tryz.underlying53
  a37 := Tryz.isAgg53
  z37 := Tryz.sizeOf53
  v37 := Tryz.zeroValue53
  t46 := Tryz.underlying145
  a46 := Tryz.isAgg145
  z46 := Tryz.sizeOf145
  v46 := Tryz.zeroValue145
  t51 := Tryz.underlying192
  a51 := Tryz.isAgg192
  z51 := Tryz.sizeOf192
  v51 := Tryz.zeroValue192
  t53 := Tryz.underlying101
  a53 := Tryz.isAgg101
  z53 := Tryz.sizeOf101
  v53 := Tryz.zeroValue101
  t171 := Tryz.underlying147
  a171 := Tryz.isAgg147
  z171 := Tryz.sizeOf147
  v171 := Tryz.zeroValue147
  t173 := Tryz.underlying150
  a173 := Tryz.isAgg150
  z173 := Tryz.sizeOf150
  v173 := Tryz.zeroValue150
  t212 := Tryz.underlying191
  a212 := Tryz.isAgg191
  z212 := Tryz.sizeOf191
  v212 := Tryz.zeroValue191
  t213 := Tryz.underlying193
  a213 := Tryz.isAgg193
  z213 := Tryz.sizeOf193
  t232 := Tryz.underlying247
  a232 := Tryz.isAgg247
  z232 := Tryz.sizeOf247
  v232 := Tryz.zeroValue247
  t233 := Tryz.underlying248
  a233 := Tryz.isAgg248
  z233 := Tryz.sizeOf248
  v233 := Tryz.zeroValue248
  g17 := by kernel_rfl
  g18 := by kernel_rfl
  g19 := by kernel_rfl }
open Go.RowKit Go.Sort Go.Lib in
theorem Tryz.strconv_Itoa_small (i : Nat) (hi : i < 100) (w : World) :
    Calls Tryz.prog 21 #[.int .i64 i] w fun e w' => e = .returned (.string ⟨(Lib.decDigits i).toArray⟩) ∧ w' = w := Any.strconv_Itoa_small Tryz.lays171 i hi w
def Tryz.lays99_ren : Go.Shelf.Ren := ⟨fun | 99 => 244 | 206 => 150 | n => n, fun | 9 => 9 | 4 => 4 | 3 => 3 | n => n, fun | n => n⟩
theorem Tryz.lays99 : Go.Proofs.Lays.n99 Tryz.prog Tryz.lays99_ren := {
  mixed := by kernel_rfl
  f99 := Tryz.func244.trans (congrArg some (by kernel_rfl))
  f206 := Tryz.func150.trans (congrArg some (by kernel_rfl))
  t3 := Tryz.underlying3
  a3 := Tryz.isAgg3
  z3 := Tryz.sizeOf3
  v3 := Tryz.zeroValue3
  t4 := Tryz.underlying4
  a4 := Tryz.isAgg4
  z4 := Tryz.sizeOf4
  v4 := Tryz.zeroValue4
  t9 := Tryz.underlying9
  a9 := Tryz.isAgg9
  z9 := Tryz.sizeOf9
  v9 := Tryz.zeroValue9 }
open Go.RowKit Go.Lib in
theorem Tryz.strings_HasPrefix (s p : ByteArray) (w : World) :
    Calls Tryz.prog 244 #[.string s, .string p] w fun e w' => e = .returned (.bool (Lib.hasPrefix s.data.toList p.data.toList)) ∧ w' = w := Any.strings_HasPrefix Tryz.lays99 s p w
def Tryz.lays102_ren : Go.Shelf.Ren := ⟨fun | 102 => 133 | 209 => 159 | 207 => 175 | n => n, fun | 9 => 9 | 4 => 4 | 3 => 3 | n => n, fun | n => n⟩
theorem Tryz.lays102 : Go.Proofs.Lays.n102 Tryz.prog Tryz.lays102_ren := {
  mixed := by kernel_rfl
  f102 := Tryz.func133.trans (congrArg some (by kernel_rfl))
  f207 := Tryz.func175.trans (congrArg some (by kernel_rfl))
  f209 := Tryz.func159.trans (congrArg some (by kernel_rfl))
  t3 := Tryz.underlying3
  a3 := Tryz.isAgg3
  z3 := Tryz.sizeOf3
  v3 := Tryz.zeroValue3
  t4 := Tryz.underlying4
  a4 := Tryz.isAgg4
  z4 := Tryz.sizeOf4
  v4 := Tryz.zeroValue4
  t9 := Tryz.underlying9
  a9 := Tryz.isAgg9
  z9 := Tryz.sizeOf9
  v9 := Tryz.zeroValue9 }
open Go.RowKit Go.Lib in
theorem Tryz.strings_TrimSuffix (s p : ByteArray) (w : World) (hs : s.size ≤ 9223372036854775807) :
    Calls Tryz.prog 133 #[.string s, .string p] w fun e w' => e = .returned (.string ⟨(Lib.trimSuffix s.data.toList p.data.toList).toArray⟩) ∧ w' = w := Any.strings_TrimSuffix Tryz.lays102 s p w hs
end Go.Proofs

/-
  strings.Builder's WriteString at this program: laid by hand (the kit's command leaves it out), and String, HasPrefix, TrimSuffix's use.
-/
namespace Go.Proofs
open Go.Shelf
def Tryz.lays166_ren : Go.Shelf.Ren := ⟨fun | 166 => 240 | 240 => 247 | 276 => 248 | n => n, fun | 70 => 298 | 72 => 300 | 37 => 53 | 75 => 66 | 80 => 281 | 164 => 112 | 20 => 20 | n => n, fun | n => n⟩
theorem Tryz.lays166 : Go.Proofs.Lays.n166 Tryz.prog Tryz.lays166_ren := {
  mixed := by kernel_rfl
  f166 := Tryz.func240.trans (congrArg some (by kernel_rfl))
  f240 := Tryz.func247.trans (congrArg some (by kernel_rfl))
  f276 := Tryz.func248.trans (congrArg some (by kernel_rfl))
  t0 := Tryz.underlying0
  a0 := Tryz.isAgg0
  z0 := Tryz.sizeOf0
  v0 := Tryz.zeroValue0
  t3 := Tryz.underlying3
  a3 := Tryz.isAgg3
  z3 := Tryz.sizeOf3
  v3 := Tryz.zeroValue3
  t4 := Tryz.underlying4
  a4 := Tryz.isAgg4
  z4 := Tryz.sizeOf4
  v4 := Tryz.zeroValue4
  t9 := Tryz.underlying9
  a9 := Tryz.isAgg9
  z9 := Tryz.sizeOf9
  v9 := Tryz.zeroValue9
  t20 := Tryz.underlying20
  a20 := Tryz.isAgg20
  z20 := Tryz.sizeOf20
  v20 := Tryz.zeroValue20
  t37 := Tryz.underlying53
  a37 := Tryz.isAgg53
  z37 := Tryz.sizeOf53
  v37 := Tryz.zeroValue53
  t70 := Tryz.underlying298
  a70 := Tryz.isAgg298
  z70 := Tryz.sizeOf298
  v70 := Tryz.zeroValue298
  t72 := Tryz.underlying300
  a72 := Tryz.isAgg300
  z72 := Tryz.sizeOf300
  v72 := Tryz.zeroValue300
  t75 := Tryz.underlying66
  a75 := Tryz.isAgg66
  z75 := Tryz.sizeOf66
  v75 := Tryz.zeroValue66
  t164 := Tryz.underlying112
  a164 := Tryz.isAgg112
  z164 := Tryz.sizeOf112
  v164 := Tryz.zeroValue112
}
theorem Tryz.builder_X : Builder.Extra Tryz.prog Tryz.lays166_ren := {
  sizeBuilder := by kernel_rfl
  liesBuilder := by kernel_rfl
  t5 := Tryz.underlying5
  a5 := Tryz.isAgg5
  z5 := Tryz.sizeOf5
  v5 := Tryz.zeroValue5
  infoByte := by kernel_rfl
  cellsByte := by kernel_rfl
  sizeByte := by kernel_rfl
  neB5 := by decide
}
open Go.RowKit in
theorem Tryz.builder_WriteString (B b : Nat) (bs : List Value) (s : ByteArray) (w : World) (h : Lib.IsBuilder 300 5 B b bs w) (hlen : bs.length + s.size ≤ 140737488355328) (hBw : B ≤ w.heap.size) :
    Calls Tryz.prog 240 #[.pointer (some ⟨b, 0, none⟩), .string s] w fun e w' => e = .returned (.tuple #[.int .i64 s.size, .nilIface]) ∧ (Lib.BuilderAt 300 5 B b (.pointer (some ⟨b, 0, none⟩)) (bs ++ Lib.strCells s) w' ∧ Below B w w') :=
  Any.Builder_WriteString Tryz.lays166 Tryz.builder_X B b bs s w h hlen hBw
end Go.Proofs

/-
  CONTRACTS of package dna: the lines of an input.
-/
namespace Go.Proofs.YtbjgpfhbdmcbbabGreatDoor.lines
open Go.RowKit dnamath dna pieces
set_option linter.unusedVariables false

/-- the lines that are not read yet: ts from place k on; they lie in block g, the struct in block b -/
structure LS (w : World) (b g k : Nat) (ts : List ByteArray) : Prop where
  le : k ≤ ts.length
  ne : b ≠ g
  row : w.heap[g]? = some (.cells (ts.map Value.string).toArray 9 (0, 0))
  st : ∃ (ao : Option Addr) (t : Nat) (T : TypeId), w.heap[b]? = some (.cells #[.slice ao (ts.length - k) (ts.length - k), .int .i64 (t : Int)] T (0, 0)) ∧ t ≤ k ∧ (k < ts.length → ao = some ⟨g, k, none⟩)

theorem two_cell0 {w : World} {b : Nat} {x y : Value} {T : TypeId} (h : w.heap[b]? = some (.cells #[x, y] T (0, 0))) : w.cell? ⟨b, 0, none⟩ = some x := by simp [World.cell?, h]
theorem two_cell1 {w : World} {b : Nat} {x y : Value} {T : TypeId} (h : w.heap[b]? = some (.cells #[x, y] T (0, 0))) : w.cell? ⟨b, 1, none⟩ = some y := by simp [World.cell?, h]
theorem row_at {w : World} {g : Nat} {ts : List ByteArray} {T : TypeId} (h : w.heap[g]? = some (.cells (ts.map Value.string).toArray T (0, 0))) (k : Nat) (hk : k < ts.length) : w.cell? ⟨g, k, none⟩ = some (.string ts[k]) := by
  simp [World.cell?, h, hk]

set_option maxHeartbeats 400000 in
set_option maxRecDepth 100000 in
theorem ended_any (b g k : Nat) (ts : List ByteArray) (w : World) (h : LS w b g k ts) (hl : ts.length ≤ 1000000) :
    Calls Tryz.prog 236 #[.pointer (some ⟨b, 0, none⟩)] w fun e w' => e = .returned (.bool (decide (k = ts.length))) ∧ w' = w := by
  obtain ⟨ao, t, T, hst, ht, hao⟩ := h.st
  have hle := h.le
  have hc0 := two_cell0 hst
  by_cases hk : k = ts.length
  · have e : ts.length - k = 0 := by omega
    rw [e] at hc0
    rw [decide_eq_true hk]
    clear hst hao
    go_enter Tryz.func236, Tryz.ntmps236
    go_wp2
    go_ret
    exact ⟨rfl, rfl⟩
  · have hne : (((ts.length - k : Nat) : Int) == 0) = false := by simp; omega
    rw [decide_eq_false hk]
    obtain ⟨n, hn⟩ : ∃ n, n = ts.length - k := ⟨_, rfl⟩
    rw [← hn] at hc0 hne
    clear hst hao hn
    go_enter Tryz.func236, Tryz.ntmps236
    go_wp2
    go_ret
    exact ⟨rfl, rfl⟩

theorem grown_set {w : World} {b j : Nat} (v : Value) : w.grownBy (w.setCell ⟨b, j, none⟩ v) (some b) :=
  ⟨rfl, rfl, rfl, by simp [World.setCell], fun k hk hne => Below.heap_setCell _ _ _ _ (fun e => hne (by rw [e]))⟩
theorem grown_trans {a b c : World} {row : Option Nat} (h : a.grownBy b row) (k : b.grownBy c row) : a.grownBy c row :=
  ⟨k.os.trans h.os, k.tape.trans h.tape, k.output.trans h.output, Nat.le_trans h.size k.size, fun i hi hne => (k.block i (Nat.lt_of_lt_of_le hi h.size) hne).trans (h.block i hi hne)⟩

theorem ls_take {w : World} {b g k t : Nat} {ts : List ByteArray} {s0 v : Value} {T : TypeId} (h : LS w b g k ts) (hst : w.heap[b]? = some (.cells #[s0, .int .i64 (t : Int)] T (0, 0))) (ht : t ≤ k) (hk : k < ts.length)
    (hv : ∃ ao', v = .slice ao' (ts.length - (k + 1)) (ts.length - (k + 1)) ∧ (k + 1 < ts.length → ao' = some ⟨g, k + 1, none⟩)) :
    LS ((w.setCell ⟨b, 0, none⟩ v).setCell ⟨b, 1, none⟩ (.int .i64 ((t : Int) + 1))) b g (k + 1) ts ∧ w.grownBy ((w.setCell ⟨b, 0, none⟩ v).setCell ⟨b, 1, none⟩ (.int .i64 ((t : Int) + 1))) (some b) := by
  obtain ⟨ao', rfl, hao⟩ := hv
  have h1 := heap_setCell_same w b 0 _ T (.slice ao' (ts.length - (k + 1)) (ts.length - (k + 1))) hst
  have h2 := heap_setCell_same _ b 1 _ T (.int .i64 ((t : Int) + 1)) h1
  have hg : w.grownBy ((w.setCell ⟨b, 0, none⟩ (.slice ao' (ts.length - (k + 1)) (ts.length - (k + 1)))).setCell ⟨b, 1, none⟩ (.int .i64 ((t : Int) + 1))) (some b) := grown_trans (grown_set _) (grown_set _)
  refine ⟨⟨by omega, h.ne, (hg.block g (lt_of_block h.row) (by simpa using fun e => h.ne e.symm)).trans h.row, ao', t + 1, T, ?_, by omega, hao⟩, hg⟩
  rw [h2]
  simp

set_option maxHeartbeats 800000 in
set_option maxRecDepth 100000 in
theorem take_any (b g k : Nat) (ts : List ByteArray) (w : World) (h : LS w b g k ts) (hl : ts.length ≤ 1000000) (hk : k < ts.length) :
    Calls Tryz.prog 243 #[.pointer (some ⟨b, 0, none⟩)] w fun e w' => e = .returned (.tuple #[.string ts[k], .nilIface]) ∧ LS w' b g (k + 1) ts ∧ w.grownBy w' (some b) := by
  have HK : Hid (decide (k = ts.length) = false) := decide_eq_false (by omega)
  obtain ⟨ao, t, T, hst, ht, hao⟩ := h.st
  have hao := hao hk
  subst hao
  have hc0 := two_cell0 hst
  have hc1 := two_cell1 hst
  have hcx := row_at h.row k hk
  obtain ⟨x, hx⟩ : ∃ x, x = ts[k] := ⟨_, rfl⟩
  rw [← hx] at hcx ⊢
  have hf0 : w.frozen? ⟨b, 0, none⟩ = false := by simp [World.frozen?, hst]
  have hf1 : w.frozen? ⟨b, 1, none⟩ = false := by simp [World.frozen?, hst]
  obtain ⟨n, hn⟩ : ∃ n, n = ts.length - k := ⟨_, rfl⟩
  rw [← hn] at hc0
  have hn1 : 1 ≤ n := by omega
  have hn2 : n ≤ 1000000 := by omega
  have ht2 : t ≤ 1000000 := by omega
  have hbg := h.ne
  have HST : Hid (w.heap[b]? = some (.cells #[.slice (some ⟨g, k, none⟩) (ts.length - k) (ts.length - k), .int .i64 (t : Int)] T (0, 0))) := hst
  have HN : Hid (n = ts.length - k) := hn
  have H := h
  clear hst hn hx hao
  go_enter Tryz.func243, Tryz.ntmps243
  go_wp2_with (go_at_call 236; refine (ended_any b g k ts _ h hl).mono ?_; rintro e w' ⟨rfl, rfl⟩; rw [HK.out])
  · have hn := HN.out
    go_ret2
    exact ⟨rfl, ls_take H HST.out ht hk ⟨some ⟨g, k, none⟩, by rw [show ts.length - (k + 1) = 0 by omega], fun h => by omega⟩⟩
  · have hn := HN.out
    go_ret2
    exact ⟨rfl, ls_take H HST.out ht hk ⟨some ⟨g, k + 1, none⟩, by rw [show ts.length - (k + 1) = n - 1 by omega], fun h => rfl⟩⟩

set_option maxHeartbeats 800000 in
set_option maxRecDepth 100000 in
theorem takeHead_any (b g k : Nat) (ts : List ByteArray) (c : ByteArray) (w : World) (h : LS w b g k ts) (hl : ts.length ≤ 1000000) (hk : k < ts.length) (hp : Lib.hasPrefix ts[k].data.toList c.data.toList = true) :
    Calls Tryz.prog 238 #[.pointer (some ⟨b, 0, none⟩), .string c] w fun e w' => e = .returned .nilIface ∧ LS w' b g (k + 1) ts ∧ w.grownBy w' (some b) := by
  have HP : Hid (Lib.hasPrefix ts[k].data.toList c.data.toList = true) := hp
  clear hp
  go_enter Tryz.func238, Tryz.ntmps238
  go_wp2_with (first | (go_at_call 243; refine (take_any b g k ts _ h hl hk).mono ?_; rintro e w1 ⟨rfl, h1, g1⟩) | (go_at_call 244; refine (Tryz.strings_HasPrefix _ _ _).mono ?_; rintro e w' ⟨rfl, rfl⟩; rw [HP.out]))
  go_ret
  exact ⟨rfl, h1, g1⟩

set_option maxHeartbeats 800000 in
set_option maxRecDepth 100000 in
theorem atHead_any (b g k : Nat) (ts : List ByteArray) (c : ByteArray) (w : World) (h : LS w b g k ts) (hl : ts.length ≤ 1000000) (hk : k < ts.length) :
    Calls Tryz.prog 241 #[.pointer (some ⟨b, 0, none⟩), .string c] w fun e w' => e = .returned (.bool (Lib.hasPrefix ts[k].data.toList c.data.toList)) ∧ w' = w := by
  have HK : Hid (decide (k = ts.length) = false) := decide_eq_false (by omega)
  obtain ⟨ao, t, T, hst, ht, hao⟩ := h.st
  have hao := hao hk
  subst hao
  have hc0 := two_cell0 hst
  have hcx := row_at h.row k hk
  obtain ⟨x, hx⟩ : ∃ x, x = ts[k] := ⟨_, rfl⟩
  rw [← hx] at hcx ⊢
  obtain ⟨n, hn⟩ : ∃ n, n = ts.length - k := ⟨_, rfl⟩
  rw [← hn] at hc0
  have hn1 : 1 ≤ n := by omega
  have hn2 : n ≤ 1000000 := by omega
  clear hst hn hx hao
  obtain ⟨q, hq⟩ : ∃ q, q = Lib.hasPrefix x.data.toList c.data.toList := ⟨_, rfl⟩
  rw [← hq]
  have HQ : Hid (q = Lib.hasPrefix x.data.toList c.data.toList) := hq
  clear hq
  go_enter Tryz.func241, Tryz.ntmps241
  go_wp2_with (first | (go_at_call 236; refine (ended_any b g k ts _ h hl).mono ?_; rintro e w' ⟨rfl, rfl⟩; rw [HK.out]) | (go_at_call 244; refine (Tryz.strings_HasPrefix _ _ _).mono ?_; rintro e w' ⟨rfl, rfl⟩; rw [← HQ.out]))
  go_ret
  exact ⟨rfl, rfl⟩
end Go.Proofs.YtbjgpfhbdmcbbabGreatDoor.lines
