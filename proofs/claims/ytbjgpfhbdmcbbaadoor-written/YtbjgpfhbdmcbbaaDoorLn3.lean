/-
  CONTRACTS of package dna: next of the fasta form, where it succeeds.
-/
import Derived.Test.YtbjgpfhbdmcbbaaDoorLn2
namespace Go.Proofs.YtbjgpfhbdmcbbaaDoor.lines
open Go.RowKit Go.Proofs.YtbjgpfhbdmcbbaaDoor.dnamath Go.Proofs.YtbjgpfhbdmcbbaaDoor.dna Go.Proofs.YtbjgpfhbdmcbbaaDoor.pieces
set_option linter.unusedVariables false

/-- a line of letters -/
def goodL (x : ByteArray) : Prop := 0 < x.size ∧ x.size ≤ 1000000 ∧ readB (great x.data.toList) = true
/-- what the lines from i on, up to j, give -/
def accL (ts : List ByteArray) (i j : Nat) : List UInt8 := (((ts.take j).drop i).map fun x => great x.data.toList).flatten

theorem accL_self (ts : List ByteArray) (i : Nat) : accL ts i i = [] := by
  unfold accL; rw [List.drop_of_length_le (by rw [List.length_take]; omega)]; rfl
theorem accL_succ {ts : List ByteArray} {i j : Nat} (h : i ≤ j) (hj : j < ts.length) : accL ts i (j + 1) = accL ts i j ++ great ts[j].data.toList := by
  unfold accL
  rw [List.take_succ_eq_append_getElem hj, List.drop_append_of_le_length (by rw [List.length_take]; omega)]
  simp

/-- a record of the fasta form from line k up to line e -/
structure RecF (ts : List ByteArray) (k e : Nat) : Prop where
  lt : k + 1 < e
  le : e ≤ ts.length
  head : ∀ h : k < ts.length, Lib.hasPrefix ts[k].data.toList [62] = true
  good : ∀ j (h : j < ts.length), k < j → j < e → goodL ts[j]
  stop : ∀ h : e < ts.length, Lib.hasPrefix ts[e].data.toList [62] = true
  small : ∀ j, j ≤ e → (accL ts (k + 1) j).length ≤ 1000000
theorem good_nohead {x : ByteArray} (h : goodL x) : Lib.hasPrefix x.data.toList [62] = false := by
  obtain ⟨h1, h2, h3⟩ := h
  cases hl : x.data.toList with
  | nil => rw [Lib.size_eq, hl] at h1; simp at h1
  | cons c l =>
    rw [hl] at h3
    have hc : isBN (greatL c) = true := List.all_eq_true.1 h3 _ (by simp [great])
    cases hp : Lib.hasPrefix (c :: l) [62] with
    | false => rfl
    | true =>
      exfalso
      have : c = 62 := by
        simp [Lib.hasPrefix] at hp
        exact hp.symm
      subst this
      revert hc
      decide

/-- how many lines are left, read off the struct -/
def lenOf : Value → Nat | .slice _ n _ => n | _ => 0
def leftOf (w : World) (b : Nat) : Nat := lenOf ((w.cell? ⟨b, 0, none⟩).getD (.bool false))
theorem leftOf_LS {w : World} {b g k : Nat} {ts : List ByteArray} (h : LS w b g k ts) : leftOf w b = ts.length - k := by
  obtain ⟨ao, t, T, hst, _⟩ := h.st
  simp [leftOf, two_cell0 hst, lenOf]

theorem LS.kept {w w' : World} {b g k B : Nat} {ts : List ByteArray} (h : LS w b g k ts) (hb : Below B w w') (h1 : b < B) (h2 : g < B) : LS w' b g k ts := by
  obtain ⟨ao, t, T, hst, hr⟩ := h.st
  exact ⟨h.le, h.ne, (hb.block g h2).trans h.row, ao, t, T, (hb.block b h1).trans hst, hr⟩

theorem isb_grown {T e : TypeId} {B bb b : Nat} {bs : List Value} {w w' : World} (h : Lib.IsBuilder T e B bb bs w) (hg : w.grownBy w' (some b)) (hb : b < B) : Lib.IsBuilder T e B bb bs w' := by
  have key : ∀ p, Lib.BuilderAt T e B bb p bs w → Lib.BuilderAt T e B bb p bs w' := by
    rintro p ⟨h1, v, h2, h3, h4⟩
    refine ⟨h1, v, (hg.block bb (lt_of_block h2) (by simp; omega)).trans h2, ⟨h3.1, ?_⟩, h4⟩
    rcases h3.2 with h | ⟨g, cap, cur, e1, e2, e3, e4⟩
    · exact .inl h
    · exact .inr ⟨g, cap, cur, e1, e2, (hg.block g (lt_of_block e3) (by simp; omega)).trans e3, e4⟩
  rcases h with h | h
  · exact .inl (key _ h)
  · exact .inr (key _ h)

theorem isb_new (w : World) : Lib.IsBuilder 168 5 w.heap.size w.heap.size [] (w.alloc (.cells #[.pointer none, .slice none 0 0] 168)) :=
  .inl ⟨Nat.le_refl _, .slice none 0 0, heap_alloc_new w _, World.ownsRow_nil _ _ _ _, by simp [Value.ownBlock]⟩

theorem grown_below {a b c : World} {B : Nat} {row : Option Nat} (h : a.grownBy b row) (k : Below B b c) (hB : a.heap.size ≤ B) : a.grownBy c row :=
  ⟨k.os.trans h.os, k.tape.trans h.tape, k.output.trans h.output, Nat.le_trans h.size k.size, fun i hi hne => (k.block i (Nat.lt_of_lt_of_le hi hB)).trans (h.block i hi hne)⟩
theorem grown_of_below {w w' : World} {B : Nat} {row : Option Nat} (h : Below B w w') (hB : w.heap.size ≤ B) : w.grownBy w' row :=
  ⟨h.os, h.tape, h.output, h.size, fun k hk _ => h.block k (Nat.lt_of_lt_of_le hk hB)⟩

set_option maxHeartbeats 2000000 in
set_option maxRecDepth 100000 in
theorem fastaNext_any (b g k e : Nat) (ts : List ByteArray) (w : World) (h : LS w b g k ts) (hl : ts.length ≤ 1000000) (hr : RecF ts k e) :
    Calls Tryd.prog 111 #[.pointer (some ⟨b, 0, none⟩)] w fun en w' => ∃ r : ByteArray, en = .returned (.tuple #[.string r, .nilIface]) ∧ r.data.toList = accL ts (k + 1) e ∧ LS w' b g e ts ∧ w.grownBy w' (some b) := by
  have hlt := hr.lt
  have hle := hr.le
  have hkl : k < ts.length := by omega
  have HK : Hid (decide (k = ts.length) = false) := decide_eq_false (by omega)
  have HP : Hid (Lib.hasPrefix ts[k].data.toList (⟨#[62]⟩ : ByteArray).data.toList = true) := hr.head hkl
  have hbw : b < w.heap.size := by obtain ⟨ao, t, T, hst, _⟩ := h.st; exact lt_of_block hst
  have hgw : g < w.heap.size := lt_of_block h.row
  have HR : Hid (RecF ts k e) := hr
  clear hr
  go_enter Tryd.func111, Tryd.ntmps111
  go_wp2_with (first | (go_at_call 110; refine (ended_any b g k ts _ h hl).mono ?_; rintro en w' ⟨rfl, hw'⟩; have hw2 := hw'.symm; subst hw2; rw [HK.out]))
  refine (takeHead_any b g k ts ⟨#[62]⟩ _ h hl hkl HP.out).mono ?_
  rintro en w1 ⟨rfl, h1, g1⟩
  go_wp2
  have H1 : Hid (LS w1 b g (k + 1) ts) := h1
  have hbb : b < w1.heap.size := Nat.lt_of_lt_of_le hbw g1.size
  have hgb : g < w1.heap.size := Nat.lt_of_lt_of_le hgw g1.size
  have G1 : Hid (w.grownBy w1 (some b)) := g1
  clear h1 g1 h
  go_loopw [6, 7] (fun _ _ wr => ∃ j : Nat, k + 1 ≤ j ∧ j < e ∧ Hid (LS wr b g j ts) ∧ Hid (Lib.IsBuilder 168 5 w1.heap.size w1.heap.size (Lib.byteCells (accL ts (k + 1) j)) wr) ∧ Hid (w1.grownBy wr (some b)) ∧ w1.heap.size ≤ wr.heap.size) (fun _ _ wr => leftOf wr b)
  case atStart =>
    refine ⟨k + 1, by omega, by omega, ?_, ?_, ?_, by simp⟩
    · exact H1.out.kept ((Below.refl w1.heap.size _).alloc (Nat.le_refl _) _) hbb hgb
    · rw [accL_self]; exact isb_new w1
    · exact grown_of_below ((Below.refl w1.heap.size _).alloc (Nat.le_refl _) _) (Nat.le_refl _)
  case round =>
    obtain ⟨j, hj1, hj2, HL, HB, HG, hsz⟩ := hrel
    have hjl : j < ts.length := by omega
    have hgd := HR.out.good j hjl (by omega) hj2
    have HGD : Hid (goodL ts[j]) := hgd
    have hsm := HR.out.small (j + 1) (by omega)
    have HSM : Hid ((accL ts (k + 1) (j + 1)).length ≤ 1000000) := hsm
    have HLO : Hid (leftOf wr b = ts.length - j) := leftOf_LS HL.out
    clear hgd hsm H1
    go_wp2_with fail
    refine (takeLetters_any b g j ts _ HL.out hl hjl HGD.out.1 HGD.out.2.1 HGD.out.2.2).mono ?_
    rintro en w2 ⟨r, rfl, hr2, hL2, hg2⟩
    have HB2 : Hid (Lib.IsBuilder 168 5 w1.heap.size w1.heap.size (Lib.byteCells (accL ts (k + 1) j)) w2) := isb_grown HB.out hg2 hbb
    have HG2 : Hid (w1.grownBy w2 (some b)) := grown_trans HG.out hg2
    have hsz2 : w1.heap.size ≤ w2.heap.size := Nat.le_trans hsz hg2.size
    have HL2 : Hid (LS w2 b g (j + 1) ts) := hL2
    have HA : Hid (accL ts (k + 1) (j + 1) = accL ts (k + 1) j ++ r.data.toList) := by show accL _ _ _ = _; rw [accL_succ (by omega) hjl, hr2]
    have hlen : (Lib.byteCells (accL ts (k + 1) j)).length + r.size ≤ 140737488355328 := by
      have h9 := HSM.out
      rw [HA.out, List.length_append, ← Lib.size_eq] at h9
      rw [Lib.byteCells_length]; omega
    clear hL2 hg2 hr2
    go_wp2_with fail
    refine (Tryd.builder_WriteString w1.heap.size w1.heap.size (Lib.byteCells (accL ts (k + 1) j)) r _ HB2.out hlen hsz2).mono ?_
    rintro en w3 ⟨rfl, hB3, hb3⟩
    have HB3 : Hid (Lib.IsBuilder 168 5 w1.heap.size w1.heap.size (Lib.byteCells (accL ts (k + 1) (j + 1))) w3) := by
      show Lib.IsBuilder _ _ _ _ _ _
      rw [HA.out, Lib.byteCells_append]; exact .inr hB3
    have HL3 : Hid (LS w3 b g (j + 1) ts) := HL2.out.kept hb3 hbb hgb
    have HG3 : Hid (w1.grownBy w3 (some b)) := grown_below HG2.out hb3 (Nat.le_refl _)
    have hsz3 : w1.heap.size ≤ w3.heap.size := Nat.le_trans hsz2 hb3.size
    clear hB3 hb3 hlen
    by_cases hend : j + 1 = ts.length
    · have HE : Hid (j + 1 = e) := by show j + 1 = e; omega
      have HD : Hid (decide (j + 1 = ts.length) = true) := decide_eq_true hend
      go_wp2_with (go_at_call 110; refine (ended_any b g (j + 1) ts _ HL3.out hl).mono ?_; rintro en w' ⟨rfl, hw'⟩; have hw2 := hw'.symm; subst hw2; rw [HD.out])
      refine (Tryd.Builder_String_any w1.heap.size w1.heap.size (accL ts (k + 1) (j + 1)) _ HB3.out hsz3).mono ?_
      rintro en w4 ⟨rfl, hb4⟩
      have hs4 : (⟨(accL ts (k + 1) (j + 1)).toArray⟩ : ByteArray).data.toList = accL ts (k + 1) (j + 1) := rfl
      obtain ⟨r4, hr4⟩ : ∃ r4 : ByteArray, r4 = ⟨(accL ts (k + 1) (j + 1)).toArray⟩ := ⟨_, rfl⟩
      rw [← hr4] at hs4 ⊢
      have HS4 : Hid (r4.data.toList = accL ts (k + 1) (j + 1)) := hs4
      clear hs4 hr4
      go_wp2
      go_ret2
      exact ⟨r4, rfl, by rw [HS4.out, HE.out], by rw [← HE.out]; exact HL3.out.kept hb4 hbb hgb, grown_trans G1.out (grown_below HG3.out hb4 (Nat.le_refl _)) ⟩
    · have hjl2 : j + 1 < ts.length := by omega
      have HD : Hid (decide (j + 1 = ts.length) = false) := decide_eq_false hend
      by_cases hje : j + 1 = e
      · have HE : Hid (j + 1 = e) := hje
        have HP2 : Hid (Lib.hasPrefix ts[j + 1].data.toList (⟨#[62]⟩ : ByteArray).data.toList = true) := by
          subst hje; exact HR.out.stop hjl2
        clear hje
        go_wp2_with (first | (go_at_call 110; refine (ended_any b g (j + 1) ts _ HL3.out hl).mono ?_; rintro en w' ⟨rfl, hw'⟩; have hw2 := hw'.symm; subst hw2; rw [HD.out]) | (go_at_call 115; refine (atHead_any b g (j + 1) ts _ _ HL3.out hl hjl2).mono ?_; rintro en w' ⟨rfl, hw'⟩; have hw2 := hw'.symm; subst hw2; rw [HP2.out]))
        refine (Tryd.Builder_String_any w1.heap.size w1.heap.size (accL ts (k + 1) (j + 1)) _ HB3.out hsz3).mono ?_
        rintro en w4 ⟨rfl, hb4⟩
        have hs4 : (⟨(accL ts (k + 1) (j + 1)).toArray⟩ : ByteArray).data.toList = accL ts (k + 1) (j + 1) := rfl
        obtain ⟨r4, hr4⟩ : ∃ r4 : ByteArray, r4 = ⟨(accL ts (k + 1) (j + 1)).toArray⟩ := ⟨_, rfl⟩
        rw [← hr4] at hs4 ⊢
        have HS4 : Hid (r4.data.toList = accL ts (k + 1) (j + 1)) := hs4
        clear hs4 hr4
        go_wp2
        go_ret2
        exact ⟨r4, rfl, by rw [HS4.out, HE.out], by rw [← HE.out]; exact HL3.out.kept hb4 hbb hgb, grown_trans G1.out (grown_below HG3.out hb4 (Nat.le_refl _)) ⟩
      · have HP2 : Hid (Lib.hasPrefix ts[j + 1].data.toList (⟨#[62]⟩ : ByteArray).data.toList = false) := good_nohead (HR.out.good (j + 1) hjl2 (by omega) (by omega))
        have HLO2 : Hid (leftOf w3 b = ts.length - (j + 1)) := leftOf_LS HL3.out
        go_wp2_with (first | (go_at_call 110; refine (ended_any b g (j + 1) ts _ HL3.out hl).mono ?_; rintro en w' ⟨rfl, hw'⟩; have hw2 := hw'.symm; subst hw2; rw [HD.out]) | (go_at_call 115; refine (atHead_any b g (j + 1) ts _ _ HL3.out hl hjl2).mono ?_; rintro en w' ⟨rfl, hw'⟩; have hw2 := hw'.symm; subst hw2; rw [HP2.out]))
        go_roundw
        case rel => exact ⟨j + 1, by omega, by omega, HL3.out, HB3.out, HG3.out, hsz3⟩
        case measure => rw [HLO.out, HLO2.out]; omega
end Go.Proofs.YtbjgpfhbdmcbbaaDoor.lines
