/-
  CONTRACTS of package dna: letters of a line.
-/
import Derived.Test.YtbjgpfhbdmcbbaaDoorLn1
namespace Go.Proofs.YtbjgpfhbdmcbbaaDoor.lines
open Go.RowKit Go.Proofs.YtbjgpfhbdmcbbaaDoor.dnamath Go.Proofs.YtbjgpfhbdmcbbaaDoor.dna Go.Proofs.YtbjgpfhbdmcbbaaDoor.pieces
set_option linter.unusedVariables false

def greatL (c : UInt8) : UInt8 := if c = 97 then 65 else if c = 99 then 67 else if c = 103 then 71 else if c = 116 then 84 else if c = 110 then 78 else c
def greatI (n : Int) : Int := if n = 97 then 65 else if n = 99 then 67 else if n = 103 then 71 else if n = 116 then 84 else if n = 110 then 78 else n
theorem greatI_eq (c : UInt8) : greatI (c.toNat : Int) = ((greatL c).toNat : Int) := by
  unfold greatI greatL
  have e : ∀ d : UInt8, ¬ c = d → ¬ (c.toNat : Int) = (d.toNat : Int) := fun d h e => h (UInt8.toNat_inj.1 (by omega))
  by_cases h1 : c = 97
  · subst h1; decide
  by_cases h2 : c = 99
  · subst h2; decide
  by_cases h3 : c = 103
  · subst h3; decide
  by_cases h4 : c = 116
  · subst h4; decide
  by_cases h5 : c = 110
  · subst h5; decide
  have g1 : ¬ (c.toNat : Int) = 97 := e 97 h1
  have g2 : ¬ (c.toNat : Int) = 99 := e 99 h2
  have g3 : ¬ (c.toNat : Int) = 103 := e 103 h3
  have g4 : ¬ (c.toNat : Int) = 116 := e 116 h4
  have g5 : ¬ (c.toNat : Int) = 110 := e 110 h5
  rw [if_neg g1, if_neg g2, if_neg g3, if_neg g4, if_neg g5, if_neg h1, if_neg h2, if_neg h3, if_neg h4, if_neg h5]

set_option maxHeartbeats 800000 in
set_option maxRecDepth 100000 in
theorem greatOf_any (n : Int) (w : World) (hn : 0 ≤ n ∧ n ≤ 255) :
    Calls Tryd.prog 120 #[.int .u8 n] w fun e w' => e = .returned (.int .u8 (greatI n)) ∧ w' = w := by
  unfold greatI
  by_cases h1 : n = 97
  · subst h1
    go_enter Tryd.func120, Tryd.ntmps120
    go_wp2
    go_ret
    exact ⟨rfl, rfl⟩
  by_cases h2 : n = 99
  · subst h2
    go_enter Tryd.func120, Tryd.ntmps120
    go_wp2
    go_ret
    exact ⟨rfl, rfl⟩
  by_cases h3 : n = 103
  · subst h3
    go_enter Tryd.func120, Tryd.ntmps120
    go_wp2
    go_ret
    exact ⟨rfl, rfl⟩
  by_cases h4 : n = 116
  · subst h4
    go_enter Tryd.func120, Tryd.ntmps120
    go_wp2
    go_ret
    exact ⟨rfl, rfl⟩
  by_cases h5 : n = 110
  · subst h5
    go_enter Tryd.func120, Tryd.ntmps120
    go_wp2
    go_ret
    exact ⟨rfl, rfl⟩
  have e1 : (n == 97) = false := by simpa using h1
  have e2 : (n == 99) = false := by simpa using h2
  have e3 : (n == 103) = false := by simpa using h3
  have e4 : (n == 116) = false := by simpa using h4
  have e5 : (n == 110) = false := by simpa using h5
  rw [if_neg h1, if_neg h2, if_neg h3, if_neg h4, if_neg h5]
  clear h1 h2 h3 h4 h5
  go_enter Tryd.func120, Tryd.ntmps120
  go_wp2
  go_ret
  exact ⟨rfl, rfl⟩

def great (l : List UInt8) : List UInt8 := l.map greatL
def rowU (l : List UInt8) (k : Nat) : List UInt8 := great (l.take k) ++ List.replicate (l.length - k) 0
theorem rowU_length (l : List UInt8) (k : Nat) (h : k ≤ l.length) : (rowU l k).length = l.length := by simp [rowU, great]; omega
theorem rowU_zero (l : List UInt8) : rowU l 0 = List.replicate l.length 0 := by simp [rowU, great]
theorem rowU_all (l : List UInt8) : rowU l l.length = great l := by simp [rowU]
theorem rowU_set (s : ByteArray) (k : Nat) (h : k < s.size) : (rowU s.data.toList k).set k (greatL s[k]) = rowU s.data.toList (k + 1) := by
  have hl : s.data.toList.length = s.size := (Lib.size_eq s).symm
  have htl : (great (s.data.toList.take k)).length = k := by simp [great]; omega
  unfold rowU
  rw [List.set_append_right _ _ (by omega), htl, Nat.sub_self]
  have e : s.data.toList.length - k = (s.data.toList.length - (k + 1)) + 1 := by omega
  rw [e, List.replicate_succ, take_snoc s k h]
  simp [great]

set_option maxHeartbeats 2000000 in
set_option maxRecDepth 100000 in
theorem takeLetters_any (b g k : Nat) (ts : List ByteArray) (w : World) (h : LS w b g k ts) (hl : ts.length ≤ 1000000) (hk : k < ts.length) (hz : 0 < ts[k].size) (hz2 : ts[k].size ≤ 1000000) (hu : readB (great ts[k].data.toList) = true) :
    Calls Tryd.prog 113 #[.pointer (some ⟨b, 0, none⟩)] w fun e w' => ∃ r : ByteArray, e = .returned (.tuple #[.string r, .nilIface]) ∧ r.data.toList = great ts[k].data.toList ∧ LS w' b g (k + 1) ts ∧ w.grownBy w' (some b) := by
  obtain ⟨s, hs⟩ : ∃ s, s = ts[k] := ⟨_, rfl⟩
  have ct := take_any b g k ts w h hl hk
  rw [← hs] at hz hz2 hu ct ⊢
  have HU : Hid (readB (great s.data.toList) = true) := hu
  have hne : s.toList.isEmpty = false := by
    rw [Lib.toList_data]; cases hl : s.data.toList with
    | nil => rw [Lib.size_eq, hl] at hz; simp at hz
    | cons a l => rfl
  clear hu hs h
  obtain ⟨i0, hi, hz0, hz1, hzb⟩ := info_parts infoB
  have hmk : ∀ W : World, (Instr.makeSlice 54 (.int .i64 (s.size : Int)) (.int .i64 (s.size : Int))).run Tryd.prog W = .ok (.slice (some ⟨W.heap.size, 0, none⟩) s.size s.size) (W.alloc (.cells (bcells (List.replicate s.size 0)) 5)) := fun W => by
    have h := run_make (P := Tryd.prog) W 54 5 i0 (.int .u8 0) Tryd.underlying54 hi hz0 .i64 .i64 (s.size : Int) (s.size : Int) (by omega) (by omega) (by rw [hzb]; omega) (by omega)
    rw [hz1, Int.toNat_natCast, made_eq] at h
    exact h
  go_enter Tryd.func113, Tryd.ntmps113
  go_wp2_with (go_at_call 117; refine ct.mono ?_; rintro e w1 ⟨rfl, h1, g1⟩)
  have hcv : ∀ W : World, W = w1.alloc (.cells (bcells (great s.data.toList)) 5) → (convert 54 9 (.slice (some ⟨w1.heap.size, 0, none⟩) s.size s.size)).run Tryd.prog W = .ok (.string ⟨(great s.data.toList).toArray⟩) W := fun W hW => by
    subst hW
    have h := run_convert_bytes_back (P := Tryd.prog) (w1.alloc (.cells (bcells (great s.data.toList)) 5)) 54 9 5 ⟨w1.heap.size, 0, none⟩ s.size (great s.data.toList) Tryd.underlying54 Tryd.underlying5 Tryd.underlying9
      (fun j hj => by rw [show (⟨w1.heap.size, 0, none⟩ : Addr).add j = ⟨w1.heap.size, j, none⟩ by simp [Addr.add]; omega]; exact row_cell w1 _ _ j hj)
    have e : (great s.data.toList).length = s.size := by rw [great, List.length_map, ← Lib.size_eq]
    rw [e] at h
    exact h
  go_loopw [27] (fun i wr => ∃ j : Nat, j ≤ s.size ∧ i = .int .i64 j ∧ wr = w1.alloc (.cells (bcells (rowU s.data.toList j)) 5)) (fun i _ => s.size - (intOf i).toNat)
  case atStart => exact ⟨0, Nat.zero_le _, rfl, by rw [rowU_zero, ← Lib.size_eq]⟩
  case round =>
    obtain ⟨j, hj, rfl, rfl⟩ := hrel
    by_cases hlt : j < s.size
    · obtain ⟨v, hv⟩ : ∃ v, (bcells (rowU s.data.toList j))[j]? = some v := ⟨_, bcells_at _ _ (by rw [rowU_length _ _ (by rw [← Lib.size_eq]; omega), ← Lib.size_eq]; omega)⟩
      go_wp2_with (go_at_call 120; refine (greatOf_any _ _ (by have := s[j].toNat_lt; omega)).mono ?_; rintro e w' ⟨rfl, rfl⟩; rw [greatI_eq])
      go_roundw
      case rel =>
        refine ⟨j + 1, by omega, by go_num, ?_⟩
        rw [bcells_set, rowU_set s j hlt]
      case measure => simp [intOf]; omega
    · have e : j = s.size := by omega
      subst e
      have hr : rowU s.data.toList s.size = great s.data.toList := by rw [Lib.size_eq, rowU_all]
      rw [hr]
      have hcv' := hcv _ rfl
      have hrs : (⟨(great s.data.toList).toArray⟩ : ByteArray).size ≤ maxLen := by
        rw [Lib.size_eq]; simp only [great, List.length_map]; rw [← Lib.size_eq]; unfold maxLen; omega
      obtain ⟨r, hr2⟩ : ∃ r : ByteArray, r = ⟨(great s.data.toList).toArray⟩ := ⟨_, rfl⟩
      rw [← hr2] at hcv' hrs
      have HR : Hid (r.data.toList = great s.data.toList) := by show r.data.toList = _; rw [hr2]
      have HRB : Hid (readB r.data.toList = true) := by rw [HR.out]; exact HU.out
      clear hcv hmk hr2 hr
      go_wp2_with (go_at_call 27; refine (isRead_any _ _ hrs).mono ?_; rintro e w' ⟨rfl, rfl⟩; rw [HRB.out])
      go_ret2
      refine ⟨r, rfl, HR.out, ⟨h1.le, h1.ne, ?_, ?_⟩, ?_⟩
      · rw [Below.heap_alloc _ _ _ (lt_of_block h1.row)]; exact h1.row
      · obtain ⟨ao, t, T, hst, ht, hao⟩ := h1.st
        exact ⟨ao, t, T, by rw [Below.heap_alloc _ _ _ (lt_of_block hst)]; exact hst, ht, hao⟩
      · exact grown_trans g1 ⟨rfl, rfl, rfl, by simp, fun i hi _ => Below.heap_alloc _ _ _ hi⟩
end Go.Proofs.YtbjgpfhbdmcbbaaDoor.lines
