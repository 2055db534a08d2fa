import Derived.Test.YtbjgpfhbdmcbbabGreatDoorP10
import Derived.RegionTactic
import Derived.Deep.QuietTactic
import Derived.BigQuiet
import Derived.ArgAppend
import Derived.Test.YtbjgpfhbdmcbbabGreatDoorP05
import Derived.Test.YtbjgpfhbdmcbbabGreatDoorP13

/-
  CONTRACTS of quernlaw: sameTexts, fill, filled.
-/
namespace Go.Proofs.YtbjgpfhbdmcbbabGreatDoor.fill
open Go.RowKit dnamath dna pieces
set_option linter.unusedVariables false

/-- a list of texts, as it reads -/
def SRow (w : World) (v : Value) (ps : List ByteArray) : Prop :=
  (v = .slice none 0 0 ∧ ps = []) ∨ ∃ g cap, v = .slice (some ⟨g, 0, none⟩) ps.length cap ∧ g < w.heap.size ∧ ∀ (j : Nat) (hj : j < ps.length), w.cell? ⟨g, j, none⟩ = some (.string ps[j])

theorem SRow.later {w w' : World} {v : Value} {ps : List ByteArray} (h : SRow w v ps) (hb : Below w.heap.size w w') : SRow w' v ps := by
  rcases h with h | ⟨g, cap, h1, h2, h3⟩
  · exact .inl h
  · exact .inr ⟨g, cap, h1, Nat.lt_of_lt_of_le h2 hb.size, fun j hj => (hb.cell (by exact h2)).trans (h3 j hj)⟩
theorem SRow.below {B : Nat} {w w' : World} {v : Value} {ps : List ByteArray} (h : SRow w v ps) (hB : w.heap.size ≤ B) {w0 : World} (hb : Below B w0 w') (he : Below w.heap.size w w0) : SRow w' v ps :=
  h.later (he.trans (hb.mono hB))
theorem srow_of_own {w : World} {base : Nat} {v : Value} {ps : List ByteArray} (h : w.ownsRow base 9 1 v ps.length (scells ps)) : SRow w v ps := by
  rcases h.2 with ⟨rfl, h0⟩ | ⟨g, cap, cur, rfl, hg, hh, hr⟩
  · exact .inl ⟨rfl, List.eq_nil_of_length_eq_zero h0⟩
  · refine .inr ⟨g, cap, rfl, lt_of_block hh, fun j hj => ?_⟩
    rw [h.cellAt j (by omega)]
    simp [scells, hj]
end Go.Proofs.YtbjgpfhbdmcbbabGreatDoor.fill

/-
  CONTRACTS of quernkeep: pick as a number, reads, sameTexts.
-/
namespace Go.Proofs.YtbjgpfhbdmcbbabGreatDoor.keep
open Go.RowKit dnamath dna pieces fill
open parse (greatB)
set_option linter.unusedVariables false

/-- what pick answers -/
def pickI (c n : Int) : Int := (if c < 0 then -(c + 1) else c) % n
theorem pickI_lt (c n : Int) (hn : 1 ≤ n) : 0 ≤ pickI c n ∧ pickI c n < n := ⟨Int.emod_nonneg _ (by omega), Int.emod_lt_of_pos _ (by omega)⟩

set_option maxHeartbeats 400000 in
set_option maxRecDepth 100000 in
theorem pick_is (c n : Int) (w : World) (hc : -9223372036854775808 ≤ c ∧ c ≤ 9223372036854775807) (hn : 1 ≤ n) (hn2 : n ≤ 9223372036854775807) :
    Calls Tryz.prog 17 #[.int .i64 c, .int .i64 n] w fun e w' => e = .returned (.int .i64 (pickI c n)) ∧ w' = w := by
  obtain ⟨hc1, hc2⟩ := hc
  have hn0 : (n == 0) = false := by simp; omega
  by_cases h0 : c < 0
  · have HP : Hid (pickI c n = (-(c + 1)) % n) := by show pickI c n = _; unfold pickI; rw [if_pos h0]
    go_enter Tryz.func17, Tryz.ntmps17
    go_wp2
    go_ret
    refine ⟨?_, rfl⟩
    rw [HP.out, ← Int.tmod_eq_emod_of_nonneg (by omega), Int.neg_tmod]; rfl
  · have HP : Hid (pickI c n = c % n) := by show pickI c n = _; unfold pickI; rw [if_neg h0]
    go_enter Tryz.func17, Tryz.ntmps17
    go_wp2
    go_ret
    refine ⟨?_, rfl⟩
    rw [HP.out]; first | rfl | (rw [← Int.tmod_eq_emod_of_nonneg (by omega)]; rfl)

/-- a slice of slices of integers that came in -/
def IsRows (w : World) (a : Option Addr) (len : Nat) : Prop :=
  len ≤ maxLen ∧ (len = 0 ∨ ∃ b off, a = some ⟨b, off, none⟩ ∧ ∀ i, i < len → ∃ ai li ci zs, w.cell? ⟨b, off + i, none⟩ = some (.slice ai li ci) ∧ IsRow w ai li ci zs)

/-- what reads makes -/
def ReadsIs (ps : List ByteArray) : Prop := ps.length ≤ 24 ∧ ∀ p ∈ ps, 0 < p.size ∧ p.size ≤ 60 ∧ greatB p.data.toList

set_option maxHeartbeats 1600000 in
set_option maxRecDepth 100000 in
theorem reads_12 (a0 : Option Addr) (len cap : Nat) (w : World) (hrow : IsRows w a0 len) :
    Calls Tryz.prog 7 #[.slice a0 len cap] w fun e w' => ∃ v ps, e = .returned v ∧ w'.ownsRow w.heap.size 9 1 v ps.length (scells ps) ∧ ReadsIs ps ∧ ps.length ≤ 12 ∧ Below w.heap.size w w' := by
  obtain ⟨i0, hi, hz0, hz1, hz2⟩ := info_parts infoS
  obtain ⟨hlen0, hrow⟩ := hrow
  have hlen : len ≤ 9223372036854775807 := by unfold maxLen at hlen0; omega
  clear hlen0
  go_enter Tryz.func7, Tryz.ntmps7
  go_wp2
  go_loopw [3, 4] (fun v i wr => ∃ (k : Nat) (ps : List ByteArray), k ≤ len ∧ k ≤ 12 ∧ i = .int .i64 k ∧ ps.length ≤ k ∧ (∀ p ∈ ps, 0 < p.size ∧ p.size ≤ 60 ∧ greatB p.data.toList) ∧ wr.ownsRow w.heap.size 9 1 v ps.length (scells ps) ∧ Below w.heap.size w wr) (fun _ i _ => len - (intOf i).toNat)
  case atStart => exact ⟨0, [], Nat.zero_le _, Nat.zero_le _, rfl, Nat.le_refl _, fun p hp => by simp at hp, World.ownsRow_nil _ _ _ _, Below.refl _ _⟩
  case round =>
    obtain ⟨k, ps, hk, hk12, rfl, hl, hok, hown, hb⟩ := hrel
    have HO : Hid (∀ p ∈ ps, 0 < p.size ∧ p.size ≤ 60 ∧ greatB p.data.toList) := hok
    have hbs : w.heap.size ≤ wr.heap.size := hb.size
    clear hok
    by_cases hlt : k < len ∧ k < 12
    · obtain ⟨hlt, hlt12⟩ := hlt
      rcases hrow with rfl | ⟨b, off, rfl, h5⟩
      · omega
      obtain ⟨ai, li, ci, zs, hc, hz⟩ := h5 k hlt
      have hcell : wr.cell? ⟨b, off + k, none⟩ = some (.slice ai li ci) := (hb.cell (World.block_lt_of_cell? _ _ hc)).trans hc
      have hz' : IsRow wr ai li ci zs := by
        rcases hz with h | ⟨x, q1, q2, q3, q4, q5, q6⟩
        · exact .inl h
        · exact .inr ⟨x, q1, q2, q3, q4, fun i hi => (hb.cell (World.block_lt_of_cell? _ _ (q5 i hi))).trans (q5 i hi), q6⟩
      clear hz h5 hc
      go_wp2_with (go_at_call 22; fail)
      refine (letters_any ai li ci zs true wr hz').mono ?_
      rintro e w2 ⟨r, rfl, hr60, hrok, hb2⟩
      have HR : Hid (greatB r.data.toList) := hrok.1
      have hown2 := own_later hown hb2
      have hb3 : Below w.heap.size w w2 := hb.trans (hb2.mono hbs)
      have hbs2 : w.heap.size ≤ w2.heap.size := hb3.size
      clear hrok hcell hz' hown hb hb2
      by_cases hr0 : r.size = 0
      · have hre : r = ⟨#[]⟩ := by apply ByteArray.ext; exact Array.eq_empty_of_size_eq_zero hr0
        subst hre
        go_wp2
        go_roundw
        case rel => exact ⟨k + 1, ps, by omega, by omega, by go_num, by omega, HO.out, hown2, hb3⟩
        case measure => simp [intOf]; omega
      · have hne : (r.toList == []) = false := by
          rw [Lib.toList_data, beq_eq_false_iff_ne]
          intro h
          apply hr0; rw [Lib.size_eq, h]; rfl
        have hmx : ps.length + 1 ≤ maxLen := by unfold maxLen; omega
        have hby : (ps.length + 1) * 16 ≤ 140737488355328 := by omega
        go_wp2_with (at_builtin; refine wpList_append_own _ rfl (.tmp 23) (.tmp 25) 28 rfl w.heap.size 9 i0 (.string ByteArray.empty) 1 16 Tryz.underlying28 hi hz0 hz1 hz2 rfl (by decide) _ _ _ rfl (hown2.alloc _) ⟨w2.heap.size, 0, none⟩ 1 1 [.string r] rfl rfl (pieces.cell_one _ _ _) (one_str _) hmx hby (by simp; omega) ?_; intro v' w3 hown' hgrow _)
        obtain ⟨R1, R2⟩ := push_str (c := r) hown2 hb3 hbs2 hown' hgrow
        clear hown' hgrow hown2 hb3
        go_wp2
        go_roundw
        case rel =>
          refine ⟨k + 1, ps ++ [r], by omega, by omega, by go_num, by rw [List.length_append]; simp; omega, ?_, R1, R2⟩
          intro p hp
          rcases List.mem_append.1 hp with hp | hp
          · exact HO.out p hp
          · rw [List.mem_singleton] at hp; subst hp; exact ⟨by omega, hr60, HR.out⟩
        case measure => simp [intOf]; omega
    · by_cases h1 : k < len
      all_goals
        go_wp2
        go_ret
        exact ⟨_, ps, rfl, hown, ⟨by omega, HO.out⟩, by omega, hb⟩

end Go.Proofs.YtbjgpfhbdmcbbabGreatDoor.keep
