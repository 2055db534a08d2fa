import Derived.Test.YtbjgpfhbdmcbbabGreatDoorP11
import Derived.Test.YtbjgpfhbdmcbbabGreatDoorP04

/-
  CONTRACTS of package dna: letters of a line.
-/
namespace Go.Proofs.YtbjgpfhbdmcbbabGreatDoor.lines
open Go.RowKit dnamath dna pieces
set_option linter.unusedVariables false

def greatL (c : UInt8) : UInt8 := if c = 97 then 65 else if c = 99 then 67 else if c = 103 then 71 else if c = 116 then 84 else if c = 110 then 78 else c
def greatI (n : Int) : Int := if n = 97 then 65 else if n = 99 then 67 else if n = 103 then 71 else if n = 116 then 84 else if n = 110 then 78 else n
theorem greatI_eq (c : UInt8) : greatI (c.toNat : Int) = ((greatL c).toNat : Int) := by
  unfold greatI greatL
  have e : ∀ d : UInt8, ¬ c = d → ¬ (c.toNat : Int) = (d.toNat : Int) := fun d h e => h (UInt8.toNat_inj.1 (by omega))
  by_cases h1 : c = 97
  · subst h1; decide
  by_cases h2 : c = 99
  · subst h2; decide
  by_cases h3 : c = 103
  · subst h3; decide
  by_cases h4 : c = 116
  · subst h4; decide
  by_cases h5 : c = 110
  · subst h5; decide
  have g1 : ¬ (c.toNat : Int) = 97 := e 97 h1
  have g2 : ¬ (c.toNat : Int) = 99 := e 99 h2
  have g3 : ¬ (c.toNat : Int) = 103 := e 103 h3
  have g4 : ¬ (c.toNat : Int) = 116 := e 116 h4
  have g5 : ¬ (c.toNat : Int) = 110 := e 110 h5
  rw [if_neg g1, if_neg g2, if_neg g3, if_neg g4, if_neg g5, if_neg h1, if_neg h2, if_neg h3, if_neg h4, if_neg h5]

set_option maxHeartbeats 800000 in
set_option maxRecDepth 100000 in
theorem greatOf_any (n : Int) (w : World) (hn : 0 ≤ n ∧ n ≤ 255) :
    Calls Tryz.prog 246 #[.int .u8 n] w fun e w' => e = .returned (.int .u8 (greatI n)) ∧ w' = w := by
  unfold greatI
  by_cases h1 : n = 97
  · subst h1
    go_enter Tryz.func246, Tryz.ntmps246
    go_wp2
    go_ret
    exact ⟨rfl, rfl⟩
  by_cases h2 : n = 99
  · subst h2
    go_enter Tryz.func246, Tryz.ntmps246
    go_wp2
    go_ret
    exact ⟨rfl, rfl⟩
  by_cases h3 : n = 103
  · subst h3
    go_enter Tryz.func246, Tryz.ntmps246
    go_wp2
    go_ret
    exact ⟨rfl, rfl⟩
  by_cases h4 : n = 116
  · subst h4
    go_enter Tryz.func246, Tryz.ntmps246
    go_wp2
    go_ret
    exact ⟨rfl, rfl⟩
  by_cases h5 : n = 110
  · subst h5
    go_enter Tryz.func246, Tryz.ntmps246
    go_wp2
    go_ret
    exact ⟨rfl, rfl⟩
  have e1 : (n == 97) = false := by simpa using h1
  have e2 : (n == 99) = false := by simpa using h2
  have e3 : (n == 103) = false := by simpa using h3
  have e4 : (n == 116) = false := by simpa using h4
  have e5 : (n == 110) = false := by simpa using h5
  rw [if_neg h1, if_neg h2, if_neg h3, if_neg h4, if_neg h5]
  clear h1 h2 h3 h4 h5
  go_enter Tryz.func246, Tryz.ntmps246
  go_wp2
  go_ret
  exact ⟨rfl, rfl⟩

def great (l : List UInt8) : List UInt8 := l.map greatL
def rowU (l : List UInt8) (k : Nat) : List UInt8 := great (l.take k) ++ List.replicate (l.length - k) 0
theorem rowU_length (l : List UInt8) (k : Nat) (h : k ≤ l.length) : (rowU l k).length = l.length := by simp [rowU, great]; omega
theorem rowU_zero (l : List UInt8) : rowU l 0 = List.replicate l.length 0 := by simp [rowU, great]
theorem rowU_all (l : List UInt8) : rowU l l.length = great l := by simp [rowU]
theorem rowU_set (s : ByteArray) (k : Nat) (h : k < s.size) : (rowU s.data.toList k).set k (greatL s[k]) = rowU s.data.toList (k + 1) := by
  have hl : s.data.toList.length = s.size := (Lib.size_eq s).symm
  have htl : (great (s.data.toList.take k)).length = k := by simp [great]; omega
  unfold rowU
  rw [List.set_append_right _ _ (by omega), htl, Nat.sub_self]
  have e : s.data.toList.length - k = (s.data.toList.length - (k + 1)) + 1 := by omega
  rw [e, List.replicate_succ, take_snoc s k h]
  simp [great]

set_option maxHeartbeats 2000000 in
set_option maxRecDepth 100000 in
theorem takeLetters_any (b g k : Nat) (ts : List ByteArray) (w : World) (h : LS w b g k ts) (hl : ts.length ≤ 1000000) (hk : k < ts.length) (hz : 0 < ts[k].size) (hz2 : ts[k].size ≤ 1000000) (hu : readB (great ts[k].data.toList) = true) :
    Calls Tryz.prog 239 #[.pointer (some ⟨b, 0, none⟩)] w fun e w' => ∃ r : ByteArray, e = .returned (.tuple #[.string r, .nilIface]) ∧ r.data.toList = great ts[k].data.toList ∧ LS w' b g (k + 1) ts ∧ w.grownBy w' (some b) := by
  obtain ⟨s, hs⟩ : ∃ s, s = ts[k] := ⟨_, rfl⟩
  have ct := take_any b g k ts w h hl hk
  rw [← hs] at hz hz2 hu ct ⊢
  have HU : Hid (readB (great s.data.toList) = true) := hu
  have hne : s.toList.isEmpty = false := by
    rw [Lib.toList_data]; cases hl : s.data.toList with
    | nil => rw [Lib.size_eq, hl] at hz; simp at hz
    | cons a l => rfl
  clear hu hs h
  obtain ⟨i0, hi, hz0, hz1, hzb⟩ := info_parts infoB
  have hmk : ∀ W : World, (Instr.makeSlice 53 (.int .i64 (s.size : Int)) (.int .i64 (s.size : Int))).run Tryz.prog W = .ok (.slice (some ⟨W.heap.size, 0, none⟩) s.size s.size) (W.alloc (.cells (bcells (List.replicate s.size 0)) 5)) := fun W => by
    have h := run_make (P := Tryz.prog) W 53 5 i0 (.int .u8 0) Tryz.underlying53 hi hz0 .i64 .i64 (s.size : Int) (s.size : Int) (by omega) (by omega) (by rw [hzb]; omega) (by omega)
    rw [hz1, Int.toNat_natCast, made_eq] at h
    exact h
  go_enter Tryz.func239, Tryz.ntmps239
  go_wp2_with (go_at_call 243; refine ct.mono ?_; rintro e w1 ⟨rfl, h1, g1⟩)
  have hcv : ∀ W : World, W = w1.alloc (.cells (bcells (great s.data.toList)) 5) → (convert 53 9 (.slice (some ⟨w1.heap.size, 0, none⟩) s.size s.size)).run Tryz.prog W = .ok (.string ⟨(great s.data.toList).toArray⟩) W := fun W hW => by
    subst hW
    have h := run_convert_bytes_back (P := Tryz.prog) (w1.alloc (.cells (bcells (great s.data.toList)) 5)) 53 9 5 ⟨w1.heap.size, 0, none⟩ s.size (great s.data.toList) Tryz.underlying53 Tryz.underlying5 Tryz.underlying9
      (fun j hj => by rw [show (⟨w1.heap.size, 0, none⟩ : Addr).add j = ⟨w1.heap.size, j, none⟩ by simp [Addr.add]; omega]; exact row_cell w1 _ _ j hj)
    have e : (great s.data.toList).length = s.size := by rw [great, List.length_map, ← Lib.size_eq]
    rw [e] at h
    exact h
  go_loopw [27] (fun i wr => ∃ j : Nat, j ≤ s.size ∧ i = .int .i64 j ∧ wr = w1.alloc (.cells (bcells (rowU s.data.toList j)) 5)) (fun i _ => s.size - (intOf i).toNat)
  case atStart => exact ⟨0, Nat.zero_le _, rfl, by rw [rowU_zero, ← Lib.size_eq]⟩
  case round =>
    obtain ⟨j, hj, rfl, rfl⟩ := hrel
    by_cases hlt : j < s.size
    · obtain ⟨v, hv⟩ : ∃ v, (bcells (rowU s.data.toList j))[j]? = some v := ⟨_, bcells_at _ _ (by rw [rowU_length _ _ (by rw [← Lib.size_eq]; omega), ← Lib.size_eq]; omega)⟩
      go_wp2_with (go_at_call 246; refine (greatOf_any _ _ (by have := s[j].toNat_lt; omega)).mono ?_; rintro e w' ⟨rfl, rfl⟩; rw [greatI_eq])
      go_roundw
      case rel =>
        refine ⟨j + 1, by omega, by go_num, ?_⟩
        rw [bcells_set, rowU_set s j hlt]
      case measure => simp [intOf]; omega
    · have e : j = s.size := by omega
      subst e
      have hr : rowU s.data.toList s.size = great s.data.toList := by rw [Lib.size_eq, rowU_all]
      rw [hr]
      have hcv' := hcv _ rfl
      have hrs : (⟨(great s.data.toList).toArray⟩ : ByteArray).size ≤ maxLen := by
        rw [Lib.size_eq]; simp only [great, List.length_map]; rw [← Lib.size_eq]; unfold maxLen; omega
      obtain ⟨r, hr2⟩ : ∃ r : ByteArray, r = ⟨(great s.data.toList).toArray⟩ := ⟨_, rfl⟩
      rw [← hr2] at hcv' hrs
      have HR : Hid (r.data.toList = great s.data.toList) := by show r.data.toList = _; rw [hr2]
      have HRB : Hid (readB r.data.toList = true) := by rw [HR.out]; exact HU.out
      clear hcv hmk hr2 hr
      go_wp2_with (go_at_call 141; refine (isRead_any _ _ hrs).mono ?_; rintro e w' ⟨rfl, rfl⟩; rw [HRB.out])
      go_ret2
      refine ⟨r, rfl, HR.out, ⟨h1.le, h1.ne, ?_, ?_⟩, ?_⟩
      · rw [Below.heap_alloc _ _ _ (lt_of_block h1.row)]; exact h1.row
      · obtain ⟨ao, t, T, hst, ht, hao⟩ := h1.st
        exact ⟨ao, t, T, by rw [Below.heap_alloc _ _ _ (lt_of_block hst)]; exact hst, ht, hao⟩
      · exact grown_trans g1 ⟨rfl, rfl, rfl, by simp, fun i hi _ => Below.heap_alloc _ _ _ hi⟩
end Go.Proofs.YtbjgpfhbdmcbbabGreatDoor.lines

/-
  CONTRACTS of package dna: next of the fasta form, where it succeeds.
-/
namespace Go.Proofs.YtbjgpfhbdmcbbabGreatDoor.lines
open Go.RowKit dnamath dna pieces
set_option linter.unusedVariables false

/-- a line of letters -/
def goodL (x : ByteArray) : Prop := 0 < x.size ∧ x.size ≤ 1000000 ∧ readB (great x.data.toList) = true
/-- what the lines from i on, up to j, give -/
def accL (ts : List ByteArray) (i j : Nat) : List UInt8 := (((ts.take j).drop i).map fun x => great x.data.toList).flatten

theorem accL_self (ts : List ByteArray) (i : Nat) : accL ts i i = [] := by
  unfold accL; rw [List.drop_of_length_le (by rw [List.length_take]; omega)]; rfl
theorem accL_succ {ts : List ByteArray} {i j : Nat} (h : i ≤ j) (hj : j < ts.length) : accL ts i (j + 1) = accL ts i j ++ great ts[j].data.toList := by
  unfold accL
  rw [List.take_succ_eq_append_getElem hj, List.drop_append_of_le_length (by rw [List.length_take]; omega)]
  simp

/-- a record of the fasta form from line k up to line e -/
structure RecF (ts : List ByteArray) (k e : Nat) : Prop where
  lt : k + 1 < e
  le : e ≤ ts.length
  head : ∀ h : k < ts.length, Lib.hasPrefix ts[k].data.toList [62] = true
  good : ∀ j (h : j < ts.length), k < j → j < e → goodL ts[j]
  stop : ∀ h : e < ts.length, Lib.hasPrefix ts[e].data.toList [62] = true
  small : ∀ j, j ≤ e → (accL ts (k + 1) j).length ≤ 1000000
theorem good_nohead {x : ByteArray} (h : goodL x) : Lib.hasPrefix x.data.toList [62] = false := by
  obtain ⟨h1, h2, h3⟩ := h
  cases hl : x.data.toList with
  | nil => rw [Lib.size_eq, hl] at h1; simp at h1
  | cons c l =>
    rw [hl] at h3
    have hc : isBN (greatL c) = true := List.all_eq_true.1 h3 _ (by simp [great])
    cases hp : Lib.hasPrefix (c :: l) [62] with
    | false => rfl
    | true =>
      exfalso
      have : c = 62 := by
        simp [Lib.hasPrefix] at hp
        exact hp.symm
      subst this
      revert hc
      decide

/-- how many lines are left, read off the struct -/
def lenOf : Value → Nat | .slice _ n _ => n | _ => 0
def leftOf (w : World) (b : Nat) : Nat := lenOf ((w.cell? ⟨b, 0, none⟩).getD (.bool false))
theorem leftOf_LS {w : World} {b g k : Nat} {ts : List ByteArray} (h : LS w b g k ts) : leftOf w b = ts.length - k := by
  obtain ⟨ao, t, T, hst, _⟩ := h.st
  simp [leftOf, two_cell0 hst, lenOf]

theorem LS.kept {w w' : World} {b g k B : Nat} {ts : List ByteArray} (h : LS w b g k ts) (hb : Below B w w') (h1 : b < B) (h2 : g < B) : LS w' b g k ts := by
  obtain ⟨ao, t, T, hst, hr⟩ := h.st
  exact ⟨h.le, h.ne, (hb.block g h2).trans h.row, ao, t, T, (hb.block b h1).trans hst, hr⟩

theorem isb_grown {T e : TypeId} {B bb b : Nat} {bs : List Value} {w w' : World} (h : Lib.IsBuilder T e B bb bs w) (hg : w.grownBy w' (some b)) (hb : b < B) : Lib.IsBuilder T e B bb bs w' := by
  have key : ∀ p, Lib.BuilderAt T e B bb p bs w → Lib.BuilderAt T e B bb p bs w' := by
    rintro p ⟨h1, v, h2, h3, h4⟩
    refine ⟨h1, v, (hg.block bb (lt_of_block h2) (by simp; omega)).trans h2, ⟨h3.1, ?_⟩, h4⟩
    rcases h3.2 with h | ⟨g, cap, cur, e1, e2, e3, e4⟩
    · exact .inl h
    · exact .inr ⟨g, cap, cur, e1, e2, (hg.block g (lt_of_block e3) (by simp; omega)).trans e3, e4⟩
  rcases h with h | h
  · exact .inl (key _ h)
  · exact .inr (key _ h)

theorem isb_new (w : World) : Lib.IsBuilder 300 5 w.heap.size w.heap.size [] (w.alloc (.cells #[.pointer none, .slice none 0 0] 300)) :=
  .inl ⟨Nat.le_refl _, .slice none 0 0, heap_alloc_new w _, World.ownsRow_nil _ _ _ _, by simp [Value.ownBlock]⟩

theorem grown_below {a b c : World} {B : Nat} {row : Option Nat} (h : a.grownBy b row) (k : Below B b c) (hB : a.heap.size ≤ B) : a.grownBy c row :=
  ⟨k.os.trans h.os, k.tape.trans h.tape, k.output.trans h.output, Nat.le_trans h.size k.size, fun i hi hne => (k.block i (Nat.lt_of_lt_of_le hi hB)).trans (h.block i hi hne)⟩
theorem grown_of_below {w w' : World} {B : Nat} {row : Option Nat} (h : Below B w w') (hB : w.heap.size ≤ B) : w.grownBy w' row :=
  ⟨h.os, h.tape, h.output, h.size, fun k hk _ => h.block k (Nat.lt_of_lt_of_le hk hB)⟩

set_option maxHeartbeats 2000000 in
set_option maxRecDepth 100000 in
theorem fastaNext_any (b g k e : Nat) (ts : List ByteArray) (w : World) (h : LS w b g k ts) (hl : ts.length ≤ 1000000) (hr : RecF ts k e) :
    Calls Tryz.prog 237 #[.pointer (some ⟨b, 0, none⟩)] w fun en w' => ∃ r : ByteArray, en = .returned (.tuple #[.string r, .nilIface]) ∧ r.data.toList = accL ts (k + 1) e ∧ LS w' b g e ts ∧ w.grownBy w' (some b) := by
  have hlt := hr.lt
  have hle := hr.le
  have hkl : k < ts.length := by omega
  have HK : Hid (decide (k = ts.length) = false) := decide_eq_false (by omega)
  have HP : Hid (Lib.hasPrefix ts[k].data.toList (⟨#[62]⟩ : ByteArray).data.toList = true) := hr.head hkl
  have hbw : b < w.heap.size := by obtain ⟨ao, t, T, hst, _⟩ := h.st; exact lt_of_block hst
  have hgw : g < w.heap.size := lt_of_block h.row
  have HR : Hid (RecF ts k e) := hr
  clear hr
  go_enter Tryz.func237, Tryz.ntmps237
  go_wp2_with (first | (go_at_call 236; refine (ended_any b g k ts _ h hl).mono ?_; rintro en w' ⟨rfl, hw'⟩; have hw2 := hw'.symm; subst hw2; rw [HK.out]))
  refine (takeHead_any b g k ts ⟨#[62]⟩ _ h hl hkl HP.out).mono ?_
  rintro en w1 ⟨rfl, h1, g1⟩
  go_wp2
  have H1 : Hid (LS w1 b g (k + 1) ts) := h1
  have hbb : b < w1.heap.size := Nat.lt_of_lt_of_le hbw g1.size
  have hgb : g < w1.heap.size := Nat.lt_of_lt_of_le hgw g1.size
  have G1 : Hid (w.grownBy w1 (some b)) := g1
  clear h1 g1 h
  go_loopw [6, 7] (fun _ _ wr => ∃ j : Nat, k + 1 ≤ j ∧ j < e ∧ Hid (LS wr b g j ts) ∧ Hid (Lib.IsBuilder 300 5 w1.heap.size w1.heap.size (Lib.byteCells (accL ts (k + 1) j)) wr) ∧ Hid (w1.grownBy wr (some b)) ∧ w1.heap.size ≤ wr.heap.size) (fun _ _ wr => leftOf wr b)
  case atStart =>
    refine ⟨k + 1, by omega, by omega, ?_, ?_, ?_, by simp⟩
    · exact H1.out.kept ((Below.refl w1.heap.size _).alloc (Nat.le_refl _) _) hbb hgb
    · rw [accL_self]; exact isb_new w1
    · exact grown_of_below ((Below.refl w1.heap.size _).alloc (Nat.le_refl _) _) (Nat.le_refl _)
  case round =>
    obtain ⟨j, hj1, hj2, HL, HB, HG, hsz⟩ := hrel
    have hjl : j < ts.length := by omega
    have hgd := HR.out.good j hjl (by omega) hj2
    have HGD : Hid (goodL ts[j]) := hgd
    have hsm := HR.out.small (j + 1) (by omega)
    have HSM : Hid ((accL ts (k + 1) (j + 1)).length ≤ 1000000) := hsm
    have HLO : Hid (leftOf wr b = ts.length - j) := leftOf_LS HL.out
    clear hgd hsm H1
    go_wp2_with fail
    refine (takeLetters_any b g j ts _ HL.out hl hjl HGD.out.1 HGD.out.2.1 HGD.out.2.2).mono ?_
    rintro en w2 ⟨r, rfl, hr2, hL2, hg2⟩
    have HB2 : Hid (Lib.IsBuilder 300 5 w1.heap.size w1.heap.size (Lib.byteCells (accL ts (k + 1) j)) w2) := isb_grown HB.out hg2 hbb
    have HG2 : Hid (w1.grownBy w2 (some b)) := grown_trans HG.out hg2
    have hsz2 : w1.heap.size ≤ w2.heap.size := Nat.le_trans hsz hg2.size
    have HL2 : Hid (LS w2 b g (j + 1) ts) := hL2
    have HA : Hid (accL ts (k + 1) (j + 1) = accL ts (k + 1) j ++ r.data.toList) := by show accL _ _ _ = _; rw [accL_succ (by omega) hjl, hr2]
    have hlen : (Lib.byteCells (accL ts (k + 1) j)).length + r.size ≤ 140737488355328 := by
      have h9 := HSM.out
      rw [HA.out, List.length_append, ← Lib.size_eq] at h9
      rw [Lib.byteCells_length]; omega
    clear hL2 hg2 hr2
    go_wp2_with fail
    refine (Tryz.builder_WriteString w1.heap.size w1.heap.size (Lib.byteCells (accL ts (k + 1) j)) r _ HB2.out hlen hsz2).mono ?_
    rintro en w3 ⟨rfl, hB3, hb3⟩
    have HB3 : Hid (Lib.IsBuilder 300 5 w1.heap.size w1.heap.size (Lib.byteCells (accL ts (k + 1) (j + 1))) w3) := by
      show Lib.IsBuilder _ _ _ _ _ _
      rw [HA.out, Lib.byteCells_append]; exact .inr hB3
    have HL3 : Hid (LS w3 b g (j + 1) ts) := HL2.out.kept hb3 hbb hgb
    have HG3 : Hid (w1.grownBy w3 (some b)) := grown_below HG2.out hb3 (Nat.le_refl _)
    have hsz3 : w1.heap.size ≤ w3.heap.size := Nat.le_trans hsz2 hb3.size
    clear hB3 hb3 hlen
    by_cases hend : j + 1 = ts.length
    · have HE : Hid (j + 1 = e) := by show j + 1 = e; omega
      have HD : Hid (decide (j + 1 = ts.length) = true) := decide_eq_true hend
      go_wp2_with (go_at_call 236; refine (ended_any b g (j + 1) ts _ HL3.out hl).mono ?_; rintro en w' ⟨rfl, hw'⟩; have hw2 := hw'.symm; subst hw2; rw [HD.out])
      refine (Tryz.Builder_String_any w1.heap.size w1.heap.size (accL ts (k + 1) (j + 1)) _ HB3.out hsz3).mono ?_
      rintro en w4 ⟨rfl, hb4⟩
      have hs4 : (⟨(accL ts (k + 1) (j + 1)).toArray⟩ : ByteArray).data.toList = accL ts (k + 1) (j + 1) := rfl
      obtain ⟨r4, hr4⟩ : ∃ r4 : ByteArray, r4 = ⟨(accL ts (k + 1) (j + 1)).toArray⟩ := ⟨_, rfl⟩
      rw [← hr4] at hs4 ⊢
      have HS4 : Hid (r4.data.toList = accL ts (k + 1) (j + 1)) := hs4
      clear hs4 hr4
      go_wp2
      go_ret2
      exact ⟨r4, rfl, by rw [HS4.out, HE.out], by rw [← HE.out]; exact HL3.out.kept hb4 hbb hgb, grown_trans G1.out (grown_below HG3.out hb4 (Nat.le_refl _)) ⟩
    · have hjl2 : j + 1 < ts.length := by omega
      have HD : Hid (decide (j + 1 = ts.length) = false) := decide_eq_false hend
      by_cases hje : j + 1 = e
      · have HE : Hid (j + 1 = e) := hje
        have HP2 : Hid (Lib.hasPrefix ts[j + 1].data.toList (⟨#[62]⟩ : ByteArray).data.toList = true) := by
          subst hje; exact HR.out.stop hjl2
        clear hje
        go_wp2_with (first | (go_at_call 236; refine (ended_any b g (j + 1) ts _ HL3.out hl).mono ?_; rintro en w' ⟨rfl, hw'⟩; have hw2 := hw'.symm; subst hw2; rw [HD.out]) | (go_at_call 241; refine (atHead_any b g (j + 1) ts _ _ HL3.out hl hjl2).mono ?_; rintro en w' ⟨rfl, hw'⟩; have hw2 := hw'.symm; subst hw2; rw [HP2.out]))
        refine (Tryz.Builder_String_any w1.heap.size w1.heap.size (accL ts (k + 1) (j + 1)) _ HB3.out hsz3).mono ?_
        rintro en w4 ⟨rfl, hb4⟩
        have hs4 : (⟨(accL ts (k + 1) (j + 1)).toArray⟩ : ByteArray).data.toList = accL ts (k + 1) (j + 1) := rfl
        obtain ⟨r4, hr4⟩ : ∃ r4 : ByteArray, r4 = ⟨(accL ts (k + 1) (j + 1)).toArray⟩ := ⟨_, rfl⟩
        rw [← hr4] at hs4 ⊢
        have HS4 : Hid (r4.data.toList = accL ts (k + 1) (j + 1)) := hs4
        clear hs4 hr4
        go_wp2
        go_ret2
        exact ⟨r4, rfl, by rw [HS4.out, HE.out], by rw [← HE.out]; exact HL3.out.kept hb4 hbb hgb, grown_trans G1.out (grown_below HG3.out hb4 (Nat.le_refl _)) ⟩
      · have HP2 : Hid (Lib.hasPrefix ts[j + 1].data.toList (⟨#[62]⟩ : ByteArray).data.toList = false) := good_nohead (HR.out.good (j + 1) hjl2 (by omega) (by omega))
        have HLO2 : Hid (leftOf w3 b = ts.length - (j + 1)) := leftOf_LS HL3.out
        go_wp2_with (first | (go_at_call 236; refine (ended_any b g (j + 1) ts _ HL3.out hl).mono ?_; rintro en w' ⟨rfl, hw'⟩; have hw2 := hw'.symm; subst hw2; rw [HD.out]) | (go_at_call 241; refine (atHead_any b g (j + 1) ts _ _ HL3.out hl hjl2).mono ?_; rintro en w' ⟨rfl, hw'⟩; have hw2 := hw'.symm; subst hw2; rw [HP2.out]))
        go_roundw
        case rel => exact ⟨j + 1, by omega, by omega, HL3.out, HB3.out, HG3.out, hsz3⟩
        case measure => rw [HLO.out, HLO2.out]; omega
end Go.Proofs.YtbjgpfhbdmcbbabGreatDoor.lines

/-
  CONTRACTS of package dna: grades; next of the fastq form, where it succeeds.
-/
namespace Go.Proofs.YtbjgpfhbdmcbbabGreatDoor.lines
open Go.RowKit dnamath dna pieces
set_option linter.unusedVariables false

def gradesL (x : ByteArray) : Prop := ∀ j (h : j < x.size), 33 ≤ (x[j].toNat : Int) ∧ (x[j].toNat : Int) ≤ 126

set_option maxHeartbeats 1000000 in
set_option maxRecDepth 100000 in
theorem takeGrades_any (b g k : Nat) (ts : List ByteArray) (m : Nat) (w : World) (h : LS w b g k ts) (hl : ts.length ≤ 1000000) (hk : k < ts.length) (hz : ts[k].size = m) (hz2 : ts[k].size ≤ 1000000) (hg : gradesL ts[k]) :
    Calls Tryz.prog 250 #[.pointer (some ⟨b, 0, none⟩), .int .i64 (m : Int)] w fun e w' => e = .returned .nilIface ∧ LS w' b g (k + 1) ts ∧ w.grownBy w' (some b) := by
  have ct := take_any b g k ts w h hl hk
  obtain ⟨s, hs⟩ : ∃ s, s = ts[k] := ⟨_, rfl⟩
  rw [← hs] at ct hz hz2 hg
  subst hz
  have HG : Hid (gradesL s) := hg
  clear hs h hg
  go_enter Tryz.func250, Tryz.ntmps250
  go_wp2_with (go_at_call 243; refine ct.mono ?_; rintro e w1 ⟨rfl, h1, g1⟩)
  have H1 : Hid (LS w1 b g (k + 1) ts) := h1
  have G1 : Hid (w.grownBy w1 (some b)) := g1
  clear h1 g1 ct
  go_loop [25] (fun i => ∃ j : Nat, j ≤ s.size ∧ i = .int .i64 j) (fun i => s.size - (intOf i).toNat)
  case atStart => exact ⟨0, Nat.zero_le _, rfl⟩
  case round =>
    obtain ⟨j, hj, rfl⟩ := hrel
    by_cases hlt : j < s.size
    · obtain ⟨q1, q2⟩ := HG.out j hlt
      go_wp2
      go_round
      case rel => exact ⟨j + 1, by omega, by go_num⟩
      case measure => simp [intOf]; omega
    · go_wp2
      go_ret
      exact ⟨rfl, H1.out, G1.out⟩

/-- a record of the fastq form at line k -/
structure RecQ (ts : List ByteArray) (k : Nat) : Prop where
  le : k + 4 ≤ ts.length
  head : ∀ h : k < ts.length, Lib.hasPrefix ts[k].data.toList [64] = true
  good : ∀ h : k + 1 < ts.length, goodL ts[k + 1]
  plus : ∀ h : k + 2 < ts.length, Lib.hasPrefix ts[k + 2].data.toList [43] = true
  grades : ∀ (h : k + 3 < ts.length) (h1 : k + 1 < ts.length), ts[k + 3].size = ts[k + 1].size ∧ gradesL ts[k + 3]

set_option maxHeartbeats 1000000 in
set_option maxRecDepth 100000 in
theorem fastqNext_any (b g k : Nat) (ts : List ByteArray) (w : World) (h : LS w b g k ts) (hl : ts.length ≤ 1000000) (hr : RecQ ts k) :
    Calls Tryz.prog 249 #[.pointer (some ⟨b, 0, none⟩)] w fun en w' => ∃ r : ByteArray, en = .returned (.tuple #[.string r, .nilIface]) ∧ r.data.toList = accL ts (k + 1) (k + 2) ∧ LS w' b g (k + 4) ts ∧ w.grownBy w' (some b) := by
  have hle := hr.le
  have hk0 : k < ts.length := by omega
  have hk1 : k + 1 < ts.length := by omega
  have hk2 : k + 1 + 1 < ts.length := by omega
  have hk3 : k + 1 + 1 + 1 < ts.length := by omega
  have HK : Hid (decide (k = ts.length) = false) := decide_eq_false (by omega)
  have HR : Hid (RecQ ts k) := hr
  clear hr
  go_enter Tryz.func249, Tryz.ntmps249
  go_wp2_with (first | (go_at_call 236; refine (ended_any b g k ts _ h hl).mono ?_; rintro en w' ⟨rfl, hw'⟩; have hw2 := hw'.symm; subst hw2; rw [HK.out]))
  refine (takeHead_any b g k ts ⟨#[64]⟩ _ h hl hk0 (HR.out.head hk0)).mono ?_
  rintro en w1 ⟨rfl, h1, g1⟩
  clear h
  go_wp2_with fail
  refine (takeLetters_any b g (k + 1) ts _ h1 hl hk1 (HR.out.good hk1).1 (HR.out.good hk1).2.1 (HR.out.good hk1).2.2).mono ?_
  rintro en w2 ⟨r, rfl, hr2, h2, g2⟩
  have HR2 : Hid (r.data.toList = great ts[k + 1].data.toList) := hr2
  have hrz : r.size = ts[k + 1].size := by rw [Lib.size_eq, hr2, great, List.length_map, ← Lib.size_eq]
  have HRZ : Hid (r.size = ts[k + 1].size) := hrz
  clear h1 hr2 hrz
  go_wp2_with fail
  refine (takeHead_any b g (k + 1 + 1) ts ⟨#[43]⟩ _ h2 hl hk2 (HR.out.plus hk2)).mono ?_
  rintro en w3 ⟨rfl, h3, g3⟩
  clear h2
  go_wp2_with fail
  refine (takeGrades_any b g (k + 1 + 1 + 1) ts r.size _ h3 hl hk3 (by rw [HRZ.out]; exact (HR.out.grades hk3 hk1).1) (by rw [(HR.out.grades hk3 hk1).1]; exact (HR.out.good hk1).2.1) (HR.out.grades hk3 hk1).2).mono ?_
  rintro en w4 ⟨rfl, h4, g4⟩
  clear h3
  have H4 : Hid (LS w4 b g (k + 4) ts) := h4
  have G : Hid (w.grownBy w4 (some b)) := grown_trans g1 (grown_trans g2 (grown_trans g3 g4))
  clear h4 g1 g2 g3 g4
  go_wp2
  go_ret2
  refine ⟨r, rfl, ?_, H4.out, G.out⟩
  rw [accL_succ (i := k + 1) (j := k + 1) (Nat.le_refl _) hk1, accL_self, List.nil_append]
  exact HR2.out
end Go.Proofs.YtbjgpfhbdmcbbabGreatDoor.lines

/-
  CONTRACTS of package dna: linesOf, recordsOf, where an input has a form.
-/
namespace Go.Proofs.YtbjgpfhbdmcbbabGreatDoor.parse
open Go.RowKit dnamath dna pieces lines
set_option linter.unusedVariables false

/-- the lines of a text -/
def linesL (l : List UInt8) : List (List UInt8) := Lib.splitK [10] 0 (Lib.count (Lib.trimSuffix l [10]) [10]) (Lib.trimSuffix l [10])

theorem alloc_two (w : World) (o1 o2 : Obj) : ((w.alloc o1).alloc o2).heap[w.heap.size + 1]? = some o2 := by
  have h := heap_alloc_new (w.alloc o1) o2
  have e : (w.alloc o1).heap.size = w.heap.size + 1 := by simp
  rw [e] at h; exact h

set_option maxHeartbeats 1000000 in
set_option maxRecDepth 100000 in
theorem linesOf_any (s : ByteArray) (w : World) (hs : s.size ≤ 1000000) :
    Calls Tryz.prog 108 #[.string s] w fun e w' => ∃ (ts : List ByteArray) (g : Nat), e = .returned (.agg #[.slice (some ⟨g, 0, none⟩) ts.length ts.length, .int .i64 0]) ∧ w.heap.size ≤ g ∧ w'.heap[g]? = some (.cells (ts.map Value.string).toArray 9 (0, 0)) ∧ datas ts = linesL s.data.toList ∧ ts.length ≤ s.size + 1 ∧ Below w.heap.size w w' := by
  have htl := Lib.trimSuffix_le s.data.toList [10]
  obtain ⟨x, hx⟩ : ∃ x : ByteArray, x = ⟨(Lib.trimSuffix s.data.toList [10]).toArray⟩ := ⟨_, rfl⟩
  have hxd : x.data.toList = Lib.trimSuffix s.data.toList [10] := by rw [hx]
  have hxz : x.size ≤ s.size := by rw [Lib.size_eq, hxd, Lib.size_eq]; exact htl
  have HX : Hid (x = ⟨(Lib.trimSuffix s.data.toList (⟨#[10]⟩ : ByteArray).data.toList).toArray⟩) := hx
  have HXD : Hid (x.data.toList = Lib.trimSuffix s.data.toList [10]) := hxd
  clear hx hxd htl
  go_enter Tryz.func108, Tryz.ntmps108
  go_wp2_with (first | (go_at_call 133; refine (Tryz.strings_TrimSuffix _ _ _ (by omega)).mono ?_; rintro e w' ⟨rfl, hw'⟩; have hw2 := hw'.symm; subst hw2; rw [← HX.out]))
  refine (split.split_one x 10 _ (by omega)).mono ?_
  rintro e w1 ⟨ts, rfl, rfl, hts, htl⟩
  have HT : Hid (datas ts = linesL s.data.toList) := by
    show datas ts = _
    have e : datas ts = Lib.splitK [10] 0 (Lib.count x.data.toList [10]) x.data.toList := hts
    rw [e, HXD.out]; rfl
  clear hts
  go_wp2
  refine bodyPost_ret (v := .agg #[.slice (some ⟨w.heap.size + 1, 0, none⟩) ts.length ts.length, .int .i64 0]) (by simp [results, Tryz.results108, go_sem]) rfl ⟨ts, w.heap.size + 1, rfl, by omega, ?_, HT.out, by omega, ?_⟩
  · exact alloc_two _ _ _
  · exact ((Below.refl _ w).alloc (Nat.le_refl _) _).alloc (by simp) _

theorem ls_new {w : World} {g : Nat} {ts : List ByteArray} (hg : g < w.heap.size) (hrow : w.heap[g]? = some (.cells (ts.map Value.string).toArray 9 (0, 0))) (T : TypeId) :
    LS (w.alloc (.cells #[.slice (some ⟨g, 0, none⟩) ts.length ts.length, .int .i64 0] T)) w.heap.size g 0 ts where
  le := Nat.zero_le _
  ne := by omega
  row := by rw [Below.heap_alloc _ _ _ hg]; exact hrow
  st := ⟨some ⟨g, 0, none⟩, 0, T, by rw [heap_alloc_new]; simp, Nat.le_refl _, fun _ => rfl⟩

/-- the two forms that have lines: their pointer type -/
def FormT (c : UInt8) (T : TypeId) : Prop := (c = 62 ∧ T = 198) ∨ (c = 64 ∧ T = 204)

set_option maxHeartbeats 1000000 in
set_option maxRecDepth 100000 in
theorem recordsOf_any (s : ByteArray) (w : World) (hs : s.size ≤ 1000000) (h0 : 0 < s.size) (T : TypeId) (hT : FormT s[0] T) :
    Calls Tryz.prog 80 #[.string s] w fun e w' => ∃ (ts : List ByteArray) (g b : Nat), e = .returned (.tuple #[.iface T (.pointer (some ⟨b, 0, none⟩)), .nilIface]) ∧ LS w' b g 0 ts ∧ datas ts = linesL s.data.toList ∧ ts.length ≤ s.size + 1 ∧ w.heap.size ≤ g ∧ g < b ∧ b + 1 = w'.heap.size ∧ Below w.heap.size w w' := by
  have hne : s.toList.isEmpty = false := by
    rw [Lib.toList_data]; cases hl : s.data.toList with
    | nil => rw [Lib.size_eq, hl] at h0; simp at h0
    | cons a l => rfl
  rcases hT with ⟨hc, rfl⟩ | ⟨hc, rfl⟩
  · have hn : (s[0].toNat : Int) = 62 := by rw [hc]; rfl
    clear hc
    go_enter Tryz.func80, Tryz.ntmps80
    go_wp2_with fail
    refine (linesOf_any s _ hs).mono ?_
    rintro e w1 ⟨ts, g, rfl, hg, hrow, hts, htl, hb⟩
    have HTS : Hid (datas ts = linesL s.data.toList) := hts
    have HROW : Hid (w1.heap[g]? = some (.cells (ts.map Value.string).toArray 9 (0, 0))) := hrow
    clear hts hrow
    go_wp2
    go_ret2
    exact ⟨ts, g, w1.heap.size, rfl, ls_new (lt_of_block HROW.out) HROW.out _, HTS.out, htl, hg, lt_of_block HROW.out, by simp, hb.alloc hb.size _⟩
  · have hn : (s[0].toNat : Int) = 64 := by rw [hc]; rfl
    clear hc
    go_enter Tryz.func80, Tryz.ntmps80
    go_wp2_with fail
    refine (linesOf_any s _ hs).mono ?_
    rintro e w1 ⟨ts, g, rfl, hg, hrow, hts, htl, hb⟩
    have HTS : Hid (datas ts = linesL s.data.toList) := hts
    have HROW : Hid (w1.heap[g]? = some (.cells (ts.map Value.string).toArray 9 (0, 0))) := hrow
    clear hts hrow
    go_wp2
    go_ret2
    exact ⟨ts, g, w1.heap.size, rfl, ls_new (lt_of_block HROW.out) HROW.out _, HTS.out, htl, hg, lt_of_block HROW.out, by simp, hb.alloc hb.size _⟩
end Go.Proofs.YtbjgpfhbdmcbbabGreatDoor.parse

/-
  CONTRACTS of package dna: readsOf and Parse, where an input is of a form.
-/
namespace Go.Proofs.YtbjgpfhbdmcbbabGreatDoor.parse
open Go.RowKit dnamath dna pieces lines
set_option linter.unusedVariables false

/-- the variable errEnd holds an error of its own -/
def EndIs (w : World) (a : Addr) : Prop := w.cell? ⟨8, 0, none⟩ = some (.iface 254 (.pointer (some a)))

set_option maxHeartbeats 1000000 in
set_option maxRecDepth 100000 in
theorem fastaNext_end (b g : Nat) (ts : List ByteArray) (a : Addr) (w : World) (h : LS w b g ts.length ts) (hl : ts.length ≤ 1000000) (hE : EndIs w a) :
    Calls Tryz.prog 237 #[.pointer (some ⟨b, 0, none⟩)] w fun en w' => en = .returned (.tuple #[.string ⟨#[]⟩, .iface 254 (.pointer (some a))]) ∧ Below w.heap.size w w' := by
  have HK : Hid (decide (ts.length = ts.length) = true) := decide_eq_true rfl
  unfold EndIs at hE
  go_enter Tryz.func237, Tryz.ntmps237
  go_wp2_with (first | (go_at_call 236; refine (ended_any b g ts.length ts _ h hl).mono ?_; rintro en w' ⟨rfl, hw'⟩; have hw2 := hw'.symm; subst hw2; rw [HK.out]))
  go_quiet (fail)
  go_wp2
  go_ret2
  exact ⟨rfl, (Below.refl _ w).trans ⟨rfl, rfl, rfl, Nat.le_refl _, fun _ _ => rfl⟩⟩

set_option maxHeartbeats 1000000 in
set_option maxRecDepth 100000 in
theorem fastqNext_end (b g : Nat) (ts : List ByteArray) (a : Addr) (w : World) (h : LS w b g ts.length ts) (hl : ts.length ≤ 1000000) (hE : EndIs w a) :
    Calls Tryz.prog 249 #[.pointer (some ⟨b, 0, none⟩)] w fun en w' => en = .returned (.tuple #[.string ⟨#[]⟩, .iface 254 (.pointer (some a))]) ∧ Below w.heap.size w w' := by
  have HK : Hid (decide (ts.length = ts.length) = true) := decide_eq_true rfl
  unfold EndIs at hE
  go_enter Tryz.func249, Tryz.ntmps249
  go_wp2_with (first | (go_at_call 236; refine (ended_any b g ts.length ts _ h hl).mono ?_; rintro en w' ⟨rfl, hw'⟩; have hw2 := hw'.symm; subst hw2; rw [HK.out]))
  go_quiet (fail)
  go_wp2
  go_ret2
  exact ⟨rfl, (Below.refl _ w).trans ⟨rfl, rfl, rfl, Nat.le_refl _, fun _ _ => rfl⟩⟩

set_option maxHeartbeats 1000000 in
set_option maxRecDepth 100000 in
theorem noneNext (a : Addr) (w : World) (hE : EndIs w a) :
    Calls Tryz.prog 235 #[.agg #[]] w fun en w' => en = .returned (.tuple #[.string ⟨#[]⟩, .iface 254 (.pointer (some a))]) ∧ Below w.heap.size w w' := by
  unfold EndIs at hE
  have hlt := World.block_lt_of_cell? _ _ hE
  have hE2 : ∀ o, (w.alloc o).cell? ⟨8, 0, none⟩ = some (.iface 254 (.pointer (some a))) := fun o => (World.cell?_alloc_old _ _ _ (Nat.ne_of_lt hlt)).trans hE
  go_enter Tryz.func235, Tryz.ntmps235
  go_wp2
  go_quiet (fail)
  go_wp2
  go_ret2
  exact ⟨rfl, ((Below.refl _ w).alloc (Nat.le_refl _) _).trans ⟨rfl, rfl, rfl, by simp, fun _ _ => rfl⟩⟩

/-- records of a form, from line k on -/
def Recs (q : Bool) (ts : List ByteArray) : Nat → List (List UInt8) → Prop
  | k, [] => k = ts.length
  | k, r :: rs => ∃ e, ((q = false ∧ RecF ts k e ∧ r = accL ts (k + 1) e) ∨ (q = true ∧ RecQ ts k ∧ e = k + 4 ∧ r = accL ts (k + 1) (k + 2))) ∧ Recs q ts e rs

theorem methodF (v : Value) (w : World) : (Go.method 414 198 v "quern/dna.next").run Tryz.prog w = .ok (237, v) w := by kernel_rfl
theorem methodQ (v : Value) (w : World) : (Go.method 414 204 v "quern/dna.next").run Tryz.prog w = .ok (249, v) w := by kernel_rfl
theorem methodN (v : Value) (w : World) : (Go.method 414 197 v "quern/dna.next").run Tryz.prog w = .ok (235, v) w := by kernel_rfl
end Go.Proofs.YtbjgpfhbdmcbbabGreatDoor.parse
