/-
  CONTRACTS of package dna: linesOf, recordsOf, where an input has a form.
-/
import Derived.Test.YtbjgpfhbdmcbbaaDoorLn4
import Derived.Test.YtbjgpfhbdmcbbaaDoorIs1
namespace Go.Proofs.YtbjgpfhbdmcbbaaDoor.parse
open Go.RowKit Go.Proofs.YtbjgpfhbdmcbbaaDoor.dnamath Go.Proofs.YtbjgpfhbdmcbbaaDoor.dna Go.Proofs.YtbjgpfhbdmcbbaaDoor.pieces Go.Proofs.YtbjgpfhbdmcbbaaDoor.lines
set_option linter.unusedVariables false

/-- the lines of a text -/
def linesL (l : List UInt8) : List (List UInt8) := Lib.splitK [10] 0 (Lib.count (Lib.trimSuffix l [10]) [10]) (Lib.trimSuffix l [10])

theorem alloc_two (w : World) (o1 o2 : Obj) : ((w.alloc o1).alloc o2).heap[w.heap.size + 1]? = some o2 := by
  have h := heap_alloc_new (w.alloc o1) o2
  have e : (w.alloc o1).heap.size = w.heap.size + 1 := by simp
  rw [e] at h; exact h

set_option maxHeartbeats 1000000 in
set_option maxRecDepth 100000 in
theorem linesOf_any (s : ByteArray) (w : World) (hs : s.size ≤ 1000000) :
    Calls Tryd.prog 48 #[.string s] w fun e w' => ∃ (ts : List ByteArray) (g : Nat), e = .returned (.agg #[.slice (some ⟨g, 0, none⟩) ts.length ts.length, .int .i64 0]) ∧ w.heap.size ≤ g ∧ w'.heap[g]? = some (.cells (ts.map Value.string).toArray 9 (0, 0)) ∧ datas ts = linesL s.data.toList ∧ ts.length ≤ s.size + 1 ∧ Below w.heap.size w w' := by
  have htl := Lib.trimSuffix_le s.data.toList [10]
  obtain ⟨x, hx⟩ : ∃ x : ByteArray, x = ⟨(Lib.trimSuffix s.data.toList [10]).toArray⟩ := ⟨_, rfl⟩
  have hxd : x.data.toList = Lib.trimSuffix s.data.toList [10] := by rw [hx]
  have hxz : x.size ≤ s.size := by rw [Lib.size_eq, hxd, Lib.size_eq]; exact htl
  have HX : Hid (x = ⟨(Lib.trimSuffix s.data.toList (⟨#[10]⟩ : ByteArray).data.toList).toArray⟩) := hx
  have HXD : Hid (x.data.toList = Lib.trimSuffix s.data.toList [10]) := hxd
  clear hx hxd htl
  go_enter Tryd.func48, Tryd.ntmps48
  go_wp2_with (first | (go_at_call 60; refine (Tryd.strings_TrimSuffix _ _ _ (by omega)).mono ?_; rintro e w' ⟨rfl, hw'⟩; have hw2 := hw'.symm; subst hw2; rw [← HX.out]))
  refine (split.split_one x 10 _ (by omega)).mono ?_
  rintro e w1 ⟨ts, rfl, rfl, hts, htl⟩
  have HT : Hid (datas ts = linesL s.data.toList) := by
    show datas ts = _
    have e : datas ts = Lib.splitK [10] 0 (Lib.count x.data.toList [10]) x.data.toList := hts
    rw [e, HXD.out]; rfl
  clear hts
  go_wp2
  refine bodyPost_ret (v := .agg #[.slice (some ⟨w.heap.size + 1, 0, none⟩) ts.length ts.length, .int .i64 0]) (by simp [results, Tryd.results48, go_sem]) rfl ⟨ts, w.heap.size + 1, rfl, by omega, ?_, HT.out, by omega, ?_⟩
  · exact alloc_two _ _ _
  · exact ((Below.refl _ w).alloc (Nat.le_refl _) _).alloc (by simp) _

theorem ls_new {w : World} {g : Nat} {ts : List ByteArray} (hg : g < w.heap.size) (hrow : w.heap[g]? = some (.cells (ts.map Value.string).toArray 9 (0, 0))) (T : TypeId) :
    LS (w.alloc (.cells #[.slice (some ⟨g, 0, none⟩) ts.length ts.length, .int .i64 0] T)) w.heap.size g 0 ts where
  le := Nat.zero_le _
  ne := by omega
  row := by rw [Below.heap_alloc _ _ _ hg]; exact hrow
  st := ⟨some ⟨g, 0, none⟩, 0, T, by rw [heap_alloc_new]; simp, Nat.le_refl _, fun _ => rfl⟩

/-- the two forms that have lines: their pointer type -/
def FormT (c : UInt8) (T : TypeId) : Prop := (c = 62 ∧ T = 78) ∨ (c = 64 ∧ T = 84)

set_option maxHeartbeats 1000000 in
set_option maxRecDepth 100000 in
theorem recordsOf_any (s : ByteArray) (w : World) (hs : s.size ≤ 1000000) (h0 : 0 < s.size) (T : TypeId) (hT : FormT s[0] T) :
    Calls Tryd.prog 36 #[.string s] w fun e w' => ∃ (ts : List ByteArray) (g b : Nat), e = .returned (.tuple #[.iface T (.pointer (some ⟨b, 0, none⟩)), .nilIface]) ∧ LS w' b g 0 ts ∧ datas ts = linesL s.data.toList ∧ ts.length ≤ s.size + 1 ∧ w.heap.size ≤ g ∧ g < b ∧ b + 1 = w'.heap.size ∧ Below w.heap.size w w' := by
  have hne : s.toList.isEmpty = false := by
    rw [Lib.toList_data]; cases hl : s.data.toList with
    | nil => rw [Lib.size_eq, hl] at h0; simp at h0
    | cons a l => rfl
  rcases hT with ⟨hc, rfl⟩ | ⟨hc, rfl⟩
  · have hn : (s[0].toNat : Int) = 62 := by rw [hc]; rfl
    clear hc
    go_enter Tryd.func36, Tryd.ntmps36
    go_wp2_with fail
    refine (linesOf_any s _ hs).mono ?_
    rintro e w1 ⟨ts, g, rfl, hg, hrow, hts, htl, hb⟩
    have HTS : Hid (datas ts = linesL s.data.toList) := hts
    have HROW : Hid (w1.heap[g]? = some (.cells (ts.map Value.string).toArray 9 (0, 0))) := hrow
    clear hts hrow
    go_wp2
    go_ret2
    exact ⟨ts, g, w1.heap.size, rfl, ls_new (lt_of_block HROW.out) HROW.out _, HTS.out, htl, hg, lt_of_block HROW.out, by simp, hb.alloc hb.size _⟩
  · have hn : (s[0].toNat : Int) = 64 := by rw [hc]; rfl
    clear hc
    go_enter Tryd.func36, Tryd.ntmps36
    go_wp2_with fail
    refine (linesOf_any s _ hs).mono ?_
    rintro e w1 ⟨ts, g, rfl, hg, hrow, hts, htl, hb⟩
    have HTS : Hid (datas ts = linesL s.data.toList) := hts
    have HROW : Hid (w1.heap[g]? = some (.cells (ts.map Value.string).toArray 9 (0, 0))) := hrow
    clear hts hrow
    go_wp2
    go_ret2
    exact ⟨ts, g, w1.heap.size, rfl, ls_new (lt_of_block HROW.out) HROW.out _, HTS.out, htl, hg, lt_of_block HROW.out, by simp, hb.alloc hb.size _⟩
end Go.Proofs.YtbjgpfhbdmcbbaaDoor.parse
