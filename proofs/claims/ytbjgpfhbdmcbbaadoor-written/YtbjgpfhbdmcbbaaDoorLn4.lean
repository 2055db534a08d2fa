/-
  CONTRACTS of package dna: grades; next of the fastq form, where it succeeds.
-/
import Derived.Test.YtbjgpfhbdmcbbaaDoorLn3
namespace Go.Proofs.YtbjgpfhbdmcbbaaDoor.lines
open Go.RowKit Go.Proofs.YtbjgpfhbdmcbbaaDoor.dnamath Go.Proofs.YtbjgpfhbdmcbbaaDoor.dna Go.Proofs.YtbjgpfhbdmcbbaaDoor.pieces
set_option linter.unusedVariables false

def gradesL (x : ByteArray) : Prop := ∀ j (h : j < x.size), 33 ≤ (x[j].toNat : Int) ∧ (x[j].toNat : Int) ≤ 126

set_option maxHeartbeats 1000000 in
set_option maxRecDepth 100000 in
theorem takeGrades_any (b g k : Nat) (ts : List ByteArray) (m : Nat) (w : World) (h : LS w b g k ts) (hl : ts.length ≤ 1000000) (hk : k < ts.length) (hz : ts[k].size = m) (hz2 : ts[k].size ≤ 1000000) (hg : gradesL ts[k]) :
    Calls Tryd.prog 125 #[.pointer (some ⟨b, 0, none⟩), .int .i64 (m : Int)] w fun e w' => e = .returned .nilIface ∧ LS w' b g (k + 1) ts ∧ w.grownBy w' (some b) := by
  have ct := take_any b g k ts w h hl hk
  obtain ⟨s, hs⟩ : ∃ s, s = ts[k] := ⟨_, rfl⟩
  rw [← hs] at ct hz hz2 hg
  subst hz
  have HG : Hid (gradesL s) := hg
  clear hs h hg
  go_enter Tryd.func125, Tryd.ntmps125
  go_wp2_with (go_at_call 117; refine ct.mono ?_; rintro e w1 ⟨rfl, h1, g1⟩)
  have H1 : Hid (LS w1 b g (k + 1) ts) := h1
  have G1 : Hid (w.grownBy w1 (some b)) := g1
  clear h1 g1 ct
  go_loop [25] (fun i => ∃ j : Nat, j ≤ s.size ∧ i = .int .i64 j) (fun i => s.size - (intOf i).toNat)
  case atStart => exact ⟨0, Nat.zero_le _, rfl⟩
  case round =>
    obtain ⟨j, hj, rfl⟩ := hrel
    by_cases hlt : j < s.size
    · obtain ⟨q1, q2⟩ := HG.out j hlt
      go_wp2
      go_round
      case rel => exact ⟨j + 1, by omega, by go_num⟩
      case measure => simp [intOf]; omega
    · go_wp2
      go_ret
      exact ⟨rfl, H1.out, G1.out⟩

/-- a record of the fastq form at line k -/
structure RecQ (ts : List ByteArray) (k : Nat) : Prop where
  le : k + 4 ≤ ts.length
  head : ∀ h : k < ts.length, Lib.hasPrefix ts[k].data.toList [64] = true
  good : ∀ h : k + 1 < ts.length, goodL ts[k + 1]
  plus : ∀ h : k + 2 < ts.length, Lib.hasPrefix ts[k + 2].data.toList [43] = true
  grades : ∀ (h : k + 3 < ts.length) (h1 : k + 1 < ts.length), ts[k + 3].size = ts[k + 1].size ∧ gradesL ts[k + 3]

set_option maxHeartbeats 1000000 in
set_option maxRecDepth 100000 in
theorem fastqNext_any (b g k : Nat) (ts : List ByteArray) (w : World) (h : LS w b g k ts) (hl : ts.length ≤ 1000000) (hr : RecQ ts k) :
    Calls Tryd.prog 124 #[.pointer (some ⟨b, 0, none⟩)] w fun en w' => ∃ r : ByteArray, en = .returned (.tuple #[.string r, .nilIface]) ∧ r.data.toList = accL ts (k + 1) (k + 2) ∧ LS w' b g (k + 4) ts ∧ w.grownBy w' (some b) := by
  have hle := hr.le
  have hk0 : k < ts.length := by omega
  have hk1 : k + 1 < ts.length := by omega
  have hk2 : k + 1 + 1 < ts.length := by omega
  have hk3 : k + 1 + 1 + 1 < ts.length := by omega
  have HK : Hid (decide (k = ts.length) = false) := decide_eq_false (by omega)
  have HR : Hid (RecQ ts k) := hr
  clear hr
  go_enter Tryd.func124, Tryd.ntmps124
  go_wp2_with (first | (go_at_call 110; refine (ended_any b g k ts _ h hl).mono ?_; rintro en w' ⟨rfl, hw'⟩; have hw2 := hw'.symm; subst hw2; rw [HK.out]))
  refine (takeHead_any b g k ts ⟨#[64]⟩ _ h hl hk0 (HR.out.head hk0)).mono ?_
  rintro en w1 ⟨rfl, h1, g1⟩
  clear h
  go_wp2_with fail
  refine (takeLetters_any b g (k + 1) ts _ h1 hl hk1 (HR.out.good hk1).1 (HR.out.good hk1).2.1 (HR.out.good hk1).2.2).mono ?_
  rintro en w2 ⟨r, rfl, hr2, h2, g2⟩
  have HR2 : Hid (r.data.toList = great ts[k + 1].data.toList) := hr2
  have hrz : r.size = ts[k + 1].size := by rw [Lib.size_eq, hr2, great, List.length_map, ← Lib.size_eq]
  have HRZ : Hid (r.size = ts[k + 1].size) := hrz
  clear h1 hr2 hrz
  go_wp2_with fail
  refine (takeHead_any b g (k + 1 + 1) ts ⟨#[43]⟩ _ h2 hl hk2 (HR.out.plus hk2)).mono ?_
  rintro en w3 ⟨rfl, h3, g3⟩
  clear h2
  go_wp2_with fail
  refine (takeGrades_any b g (k + 1 + 1 + 1) ts r.size _ h3 hl hk3 (by rw [HRZ.out]; exact (HR.out.grades hk3 hk1).1) (by rw [(HR.out.grades hk3 hk1).1]; exact (HR.out.good hk1).2.1) (HR.out.grades hk3 hk1).2).mono ?_
  rintro en w4 ⟨rfl, h4, g4⟩
  clear h3
  have H4 : Hid (LS w4 b g (k + 4) ts) := h4
  have G : Hid (w.grownBy w4 (some b)) := grown_trans g1 (grown_trans g2 (grown_trans g3 g4))
  clear h4 g1 g2 g3 g4
  go_wp2
  go_ret2
  refine ⟨r, rfl, ?_, H4.out, G.out⟩
  rw [accL_succ (i := k + 1) (j := k + 1) (Nat.le_refl _) hk1, accL_self, List.nil_append]
  exact HR2.out
end Go.Proofs.YtbjgpfhbdmcbbaaDoor.lines
