/-
  CONTRACTS of package dna: piecesOf, isRead, Pieces.
-/
import Derived.Test.YtbjgpfhbdmcbbaaDoorPc1
namespace Go.Proofs.YtbjgpfhbdmcbbaaDoor.pieces
open Go.RowKit Go.Proofs.YtbjgpfhbdmcbbaaDoor.dnamath Go.Proofs.YtbjgpfhbdmcbbaaDoor.dna
set_option linter.unusedVariables false

theorem str_cell (w : World) (ts : List ByteArray) (t : TypeId) (j : Nat) (h : j < ts.length) : (w.alloc (.cells (ts.map Value.string).toArray t)).cell? ⟨w.heap.size, j, none⟩ = some (.string ts[j]) := by
  rw [World.cell?_alloc_mark]
  simp [h]

set_option maxHeartbeats 1000000 in
set_option maxRecDepth 100000 in
theorem piecesOf_any (s : ByteArray) (k m : Nat) (w : World) (hk1 : 1 ≤ k) (hk : k ≤ 31) (hm1 : 1 ≤ m) (hm : m ≤ k) (hl : s.size ≤ 4000000) (hN : s.data.toList.all isBN = true) :
    Calls Tryd.prog 28 #[.string s, .int .i64 (k : Int), .int .i64 (m : Int)] w fun e w' =>
      ∃ v ps, e = .returned v ∧ w'.ownsRow (w.heap.size + 1) 9 1 v ps.length (scells ps) ∧ datas ps = piecesL s.data.toList k m ∧ Below w.heap.size w w' := by
  have hoffs := offs_all hN
  have HLL : s.data.toList.length ≤ 4000000 := by rw [← Lib.size_eq]; exact hl
  go_enter Tryd.func28, Tryd.ntmps28
  go_wp2_with fail
  refine (split.split_one s 78 w (by omega)).mono ?_
  rintro e w1 ⟨ts, rfl, rfl, hts, htl⟩
  have HO : Hid (Offs s.data.toList 0 (datas ts)) := by
    have e : datas ts = Lib.splitK [78] 0 (Lib.count s.data.toList [78]) s.data.toList := hts
    show Offs _ _ _
    rw [e]; exact hoffs
  clear hts hoffs
  obtain ⟨l, hl0⟩ : ∃ l, l = s.data.toList := ⟨_, rfl⟩
  rw [← hl0] at HO HLL
  have HLE : Hid (l = s.data.toList) := hl0
  clear hl0 hN
  go_wp2
  go_loopw [7, 9, 13] (fun v _ i wr => ∃ (j off : Nat) (ps : List ByteArray), i = .int .i64 j ∧ j ≤ ts.length ∧ wr.ownsRow (w.heap.size + 1) 9 1 v ps.length (scells ps) ∧ Hid (datas ps = (R l k m off).out) ∧ Hid (Fresh l k m off) ∧ Hid (Offs l off (datas (ts.drop j))) ∧
      Below (w.heap.size + 1) (w.alloc (.cells (ts.map Value.string).toArray 9)) wr ∧ w.heap.size + 1 ≤ wr.heap.size) (fun _ _ i _ => ts.length - (intOf i).toNat)
  case atStart =>
    exact ⟨0, 0, [], rfl, Nat.zero_le _, World.ownsRow_nil _ _ _ _, rfl, by intro h; have h2 : (-2 : Int) = ((0 : Nat) : Int) - 1 := h; omega, HO.out, Below.refl _ _, by simp⟩
  case round =>
    obtain ⟨j, off, ps, rfl, hj, hown, HP, HF, HOj, hbel, hbs⟩ := hrel
    by_cases hlt : j < ts.length
    · have hcell : wr.cell? ⟨w.heap.size, j, none⟩ = some (.string ts[j]) := (hbel.cell (by show w.heap.size < w.heap.size + 1; omega)).trans (str_cell w ts _ j hlt)
      obtain ⟨t, ht⟩ : ∃ t, t = ts[j] := ⟨_, rfl⟩
      rw [← ht] at hcell
      have HD : Hid (datas (ts.drop j) = t.data.toList :: datas (ts.drop (j + 1))) := by
        show datas _ = _
        rw [List.drop_eq_getElem_cons hlt, ← ht]; rfl
      have hO2 := HOj.out
      rw [HD.out] at hO2
      obtain ⟨hst, hrest⟩ := hO2
      have HRest : Hid (Offs l (off + t.size + 1) (datas (ts.drop (j + 1)))) := by rw [Lib.size_eq]; exact hrest
      have hst' : Hid (Stretch l off t.data.toList) := hst
      clear ht HD HOj hrest hst
      go_wp2_with fail
      refine (appendPieces_any (w.heap.size + 1) l off _ ps t k m _ hk1 hk hm1 hm HLL hown hbs hst'.out HF.out HP.out).mono ?_
      rintro e w2 ⟨v2, ps2, rfl, hown2, hp2, hf2, hb2⟩
      have HP2 : Hid (datas ps2 = (R l k m (off + t.size + 1)).out) := hp2
      have HF2 : Hid (Fresh l k m (off + t.size + 1)) := hf2
      have hbel2 := hbel.trans hb2
      have hbs2 := Nat.le_trans hbs hb2.size
      clear hp2 hf2 hown hbel hb2 hbs hcell
      go_wp2
      go_roundw
      case rel => exact ⟨j + 1, off + t.size + 1, ps2, by go_num, by omega, hown2, HP2.out, HF2.out, HRest.out, hbel2, hbs2⟩
      case measure => simp [intOf]; omega
    · go_wp2
      go_ret
      have e : j = ts.length := by omega
      have hO2 := HOj.out
      rw [e, List.drop_length] at hO2
      have hoff : off = l.length + 1 := hO2
      refine ⟨_, ps, rfl, hown, ?_, ?_⟩
      · rw [HP.out, hoff, ← HLE.out]; rfl
      · exact ((Below.refl _ w).alloc (Nat.le_refl _) _).trans (hbel.mono (by omega))

theorem inB_acgtn (c : UInt8) : inB [65, 67, 71, 84, 78] c = isBN c := by
  simp only [inB, isBN, isB, Lib.indexByte]
  by_cases h0 : c = 65
  · subst h0; decide
  by_cases h1 : c = 67
  · subst h1; decide
  by_cases h2 : c = 71
  · subst h2; decide
  by_cases h3 : c = 84
  · subst h3; decide
  by_cases h4 : c = 78
  · subst h4; decide
  have e0 : (c == 65) = false := by simpa using h0
  have f0 : ((65 : UInt8) == c) = false := by rw [beq_eq_false_iff_ne]; exact fun h => h0 h.symm
  have e1 : (c == 67) = false := by simpa using h1
  have f1 : ((67 : UInt8) == c) = false := by rw [beq_eq_false_iff_ne]; exact fun h => h1 h.symm
  have e2 : (c == 71) = false := by simpa using h2
  have f2 : ((71 : UInt8) == c) = false := by rw [beq_eq_false_iff_ne]; exact fun h => h2 h.symm
  have e3 : (c == 84) = false := by simpa using h3
  have f3 : ((84 : UInt8) == c) = false := by rw [beq_eq_false_iff_ne]; exact fun h => h3 h.symm
  have e4 : (c == 78) = false := by simpa using h4
  have f4 : ((78 : UInt8) == c) = false := by rw [beq_eq_false_iff_ne]; exact fun h => h4 h.symm
  simp [e0, e1, e2, e3, e4, f0, f1, f2, f3, f4]
theorem only_acgtn (l : List UInt8) : only [65, 67, 71, 84, 78] l = l.all isBN := by
  unfold only
  congr 1
  funext c
  exact inB_acgtn c

def readB (l : List UInt8) : Bool := l.all isBN

set_option maxHeartbeats 400000 in
set_option maxRecDepth 100000 in
theorem isRead_any (s : ByteArray) (w : World) (hs : s.size ≤ maxLen) :
    Calls Tryd.prog 27 #[.string s] w fun e w' => e = .returned (.bool (readB s.data.toList)) ∧ w' = w := by
  have e : readB s.data.toList = only [65, 67, 71, 84, 78] s.data.toList := (only_acgtn _).symm
  rw [e]
  clear e
  go_enter Tryd.func27, Tryd.ntmps27
  go_wp2_with (go_at_call 40; refine (hasOnly_any _ _ _ hs).mono ?_; rintro e w' ⟨rfl, rfl⟩)
  go_ret
  exact ⟨rfl, rfl⟩

/-- may these be asked? -/
def May (s : ByteArray) (k m : Int) : Prop := 1 ≤ k ∧ k ≤ 31 ∧ 1 ≤ m ∧ m ≤ k ∧ readB s.data.toList = true

/-- what Pieces answers -/
def PiecesIs (base : Nat) (s : ByteArray) (k m : Int) (w : World) (v : Value) (n : Int) : Prop :=
  (May s k m ∧ n = 0 ∧ ∃ ps, w.ownsRow base 9 1 v ps.length (scells ps) ∧ datas ps = piecesL s.data.toList k.toNat m.toNat) ∨ (¬ May s k m ∧ n = 1 ∧ v = .slice none 0 0)

set_option maxHeartbeats 1000000 in
set_option maxRecDepth 100000 in
theorem Pieces_no (s : ByteArray) (k m : Int) (w : World) (hl : s.size ≤ 4000000) (hno : ¬ May s k m) :
    Calls Tryd.prog 13 #[.string s, .int .i64 k, .int .i64 m] w fun e w' => e = .returned (.tuple #[.slice none 0 0, .int .i64 1]) ∧ w' = w := by
  have hs' : s.size ≤ maxLen := by unfold maxLen; omega
  by_cases h1 : k < 1
  · have hd : decide (k < 1) = true := by simpa using h1
    clear hno
    go_enter Tryd.func13, Tryd.ntmps13
    go_wp2
    go_ret2
    exact ⟨rfl, rfl⟩
  by_cases h2 : 31 < k
  · have hd : decide (31 < k) = true := by simpa using h2
    clear hno
    go_enter Tryd.func13, Tryd.ntmps13
    go_wp2
    go_ret2
    exact ⟨rfl, rfl⟩
  by_cases h3 : m < 1
  · have hd : decide (m < 1) = true := by simpa using h3
    clear hno
    go_enter Tryd.func13, Tryd.ntmps13
    go_wp2
    go_ret2
    exact ⟨rfl, rfl⟩
  by_cases h4 : k < m
  · have hd : decide (k < m) = true := by simpa using h4
    clear hno
    go_enter Tryd.func13, Tryd.ntmps13
    go_wp2
    go_ret2
    exact ⟨rfl, rfl⟩
  have h5 : readB s.data.toList = false := by
    cases h : readB s.data.toList with
    | false => rfl
    | true => exact absurd ⟨by omega, by omega, by omega, by omega, h⟩ hno
  have H5 : Hid (readB s.data.toList = false) := h5
  clear hno h5
  go_enter Tryd.func13, Tryd.ntmps13
  go_wp2_with (go_at_call 27; refine (isRead_any _ _ hs').mono ?_; rintro e w' ⟨rfl, rfl⟩; rw [H5.out])
  go_ret2
  exact ⟨rfl, rfl⟩

set_option maxHeartbeats 1000000 in
set_option maxRecDepth 100000 in
theorem Pieces_yes (s : ByteArray) (k m : Nat) (w : World) (hl : s.size ≤ 4000000) (hyes : May s k m) :
    Calls Tryd.prog 13 #[.string s, .int .i64 (k : Int), .int .i64 (m : Int)] w fun e w' => ∃ v ps, e = .returned (.tuple #[v, .int .i64 0]) ∧ w'.ownsRow (w.heap.size + 1) 9 1 v ps.length (scells ps) ∧ datas ps = piecesL s.data.toList k m ∧ Below w.heap.size w w' := by
  have hs' : s.size ≤ maxLen := by unfold maxLen; omega
  obtain ⟨h1, h2, h3, h4, h5⟩ := hyes
  have H5 : Hid (readB s.data.toList = true) := h5
  clear h5
  go_enter Tryd.func13, Tryd.ntmps13
  go_wp2_with (go_at_call 27; refine (isRead_any _ _ hs').mono ?_; rintro e w' ⟨rfl, rfl⟩; rw [H5.out])
  refine (piecesOf_any s k m _ (by omega) (by omega) (by omega) (by omega) hl H5.out).mono ?_
  rintro e w2 ⟨v, ps, rfl, hown, hp, hb⟩
  have HP : Hid (datas ps = piecesL s.data.toList k m) := hp
  clear hp
  go_wp2
  go_ret2
  exact ⟨v, ps, rfl, hown, HP.out, hb⟩

theorem Pieces_any (s : ByteArray) (k m : Int) (w : World) (hl : s.size ≤ 4000000) :
    Calls Tryd.prog 13 #[.string s, .int .i64 k, .int .i64 m] w fun e w' => ∃ v n, e = .returned (.tuple #[v, .int .i64 n]) ∧ PiecesIs (w.heap.size + 1) s k m w' v n ∧ Below w.heap.size w w' := by
  by_cases h : May s k m
  · obtain ⟨k', rfl⟩ : ∃ k' : Nat, k = (k' : Int) := ⟨k.toNat, by have := h.1; omega⟩
    obtain ⟨m', rfl⟩ : ∃ m' : Nat, m = (m' : Int) := ⟨m.toNat, by have := h.2.2.1; omega⟩
    refine (Pieces_yes s k' m' w hl h).mono fun e w' ⟨v, ps, he, hown, hp, hb⟩ => ⟨v, 0, he, .inl ⟨h, rfl, ps, hown, by simpa using hp⟩, hb⟩
  · refine (Pieces_no s k m w hl h).mono fun e w' ⟨he, hw⟩ => ⟨_, 1, he, .inr ⟨h, rfl, rfl⟩, by subst hw; exact Below.refl _ _⟩
end Go.Proofs.YtbjgpfhbdmcbbaaDoor.pieces
