/-
  CONTRACTS of quernkeep: pick as a number, reads, sameTexts.
-/
import Derived.Test.YtbjgpfhbdmcbbaaDoorKeep1
import Derived.Test.YtbjgpfhbdmcbbaaDoorFill1
import Derived.Test.YtbjgpfhbdmcbbaaDoorMath4
namespace Go.Proofs.YtbjgpfhbdmcbbaaDoor.keep
open Go.RowKit Go.Proofs.YtbjgpfhbdmcbbaaDoor.dnamath Go.Proofs.YtbjgpfhbdmcbbaaDoor.dna Go.Proofs.YtbjgpfhbdmcbbaaDoor.pieces Go.Proofs.YtbjgpfhbdmcbbaaDoor.fill
open Go.Proofs.YtbjgpfhbdmcbbaaDoor.parse (greatB)
set_option linter.unusedVariables false

/-- what pick answers -/
def pickI (c n : Int) : Int := (if c < 0 then -(c + 1) else c) % n
theorem pickI_lt (c n : Int) (hn : 1 ≤ n) : 0 ≤ pickI c n ∧ pickI c n < n := ⟨Int.emod_nonneg _ (by omega), Int.emod_lt_of_pos _ (by omega)⟩

set_option maxHeartbeats 400000 in
set_option maxRecDepth 100000 in
theorem pick_is (c n : Int) (w : World) (hc : -9223372036854775808 ≤ c ∧ c ≤ 9223372036854775807) (hn : 1 ≤ n) (hn2 : n ≤ 9223372036854775807) :
    Calls Tryd.prog 18 #[.int .i64 c, .int .i64 n] w fun e w' => e = .returned (.int .i64 (pickI c n)) ∧ w' = w := by
  obtain ⟨hc1, hc2⟩ := hc
  have hn0 : (n == 0) = false := by simp; omega
  by_cases h0 : c < 0
  · have HP : Hid (pickI c n = (-(c + 1)) % n) := by show pickI c n = _; unfold pickI; rw [if_pos h0]
    go_enter Tryd.func18, Tryd.ntmps18
    go_wp2
    go_ret
    refine ⟨?_, rfl⟩
    rw [HP.out, ← Int.tmod_eq_emod_of_nonneg (by omega), Int.neg_tmod]; rfl
  · have HP : Hid (pickI c n = c % n) := by show pickI c n = _; unfold pickI; rw [if_neg h0]
    go_enter Tryd.func18, Tryd.ntmps18
    go_wp2
    go_ret
    refine ⟨?_, rfl⟩
    rw [HP.out]; first | rfl | (rw [← Int.tmod_eq_emod_of_nonneg (by omega)]; rfl)

/-- a slice of slices of integers that came in -/
def IsRows (w : World) (a : Option Addr) (len : Nat) : Prop :=
  len ≤ maxLen ∧ (len = 0 ∨ ∃ b off, a = some ⟨b, off, none⟩ ∧ ∀ i, i < len → ∃ ai li ci zs, w.cell? ⟨b, off + i, none⟩ = some (.slice ai li ci) ∧ IsRow w ai li ci zs)

/-- what reads makes -/
def ReadsIs (ps : List ByteArray) : Prop := ps.length ≤ 12 ∧ ∀ p ∈ ps, 0 < p.size ∧ p.size ≤ 60 ∧ greatB p.data.toList

set_option maxHeartbeats 1600000 in
set_option maxRecDepth 100000 in
theorem reads_any (a0 : Option Addr) (len cap : Nat) (w : World) (hrow : IsRows w a0 len) :
    Calls Tryd.prog 14 #[.slice a0 len cap] w fun e w' => ∃ v ps, e = .returned v ∧ w'.ownsRow w.heap.size 9 1 v ps.length (scells ps) ∧ ReadsIs ps ∧ Below w.heap.size w w' := by
  obtain ⟨i0, hi, hz0, hz1, hz2⟩ := info_parts infoS
  obtain ⟨hlen0, hrow⟩ := hrow
  have hlen : len ≤ 9223372036854775807 := by unfold maxLen at hlen0; omega
  clear hlen0
  go_enter Tryd.func14, Tryd.ntmps14
  go_wp2
  go_loopw [3, 4] (fun v i wr => ∃ (k : Nat) (ps : List ByteArray), k ≤ len ∧ k ≤ 12 ∧ i = .int .i64 k ∧ ps.length ≤ k ∧ (∀ p ∈ ps, 0 < p.size ∧ p.size ≤ 60 ∧ greatB p.data.toList) ∧ wr.ownsRow w.heap.size 9 1 v ps.length (scells ps) ∧ Below w.heap.size w wr) (fun _ i _ => len - (intOf i).toNat)
  case atStart => exact ⟨0, [], Nat.zero_le _, Nat.zero_le _, rfl, Nat.le_refl _, fun p hp => by simp at hp, World.ownsRow_nil _ _ _ _, Below.refl _ _⟩
  case round =>
    obtain ⟨k, ps, hk, hk12, rfl, hl, hok, hown, hb⟩ := hrel
    have HO : Hid (∀ p ∈ ps, 0 < p.size ∧ p.size ≤ 60 ∧ greatB p.data.toList) := hok
    have hbs : w.heap.size ≤ wr.heap.size := hb.size
    clear hok
    by_cases hlt : k < len ∧ k < 12
    · obtain ⟨hlt, hlt12⟩ := hlt
      rcases hrow with rfl | ⟨b, off, rfl, h5⟩
      · omega
      obtain ⟨ai, li, ci, zs, hc, hz⟩ := h5 k hlt
      have hcell : wr.cell? ⟨b, off + k, none⟩ = some (.slice ai li ci) := (hb.cell (World.block_lt_of_cell? _ _ hc)).trans hc
      have hz' : IsRow wr ai li ci zs := by
        rcases hz with h | ⟨x, q1, q2, q3, q4, q5, q6⟩
        · exact .inl h
        · exact .inr ⟨x, q1, q2, q3, q4, fun i hi => (hb.cell (World.block_lt_of_cell? _ _ (q5 i hi))).trans (q5 i hi), q6⟩
      clear hz h5 hc
      go_wp2_with (go_at_call 17; fail)
      refine (letters_any ai li ci zs true wr hz').mono ?_
      rintro e w2 ⟨r, rfl, hr60, hrok, hb2⟩
      have HR : Hid (greatB r.data.toList) := hrok.1
      have hown2 := own_later hown hb2
      have hb3 : Below w.heap.size w w2 := hb.trans (hb2.mono hbs)
      have hbs2 : w.heap.size ≤ w2.heap.size := hb3.size
      clear hrok hcell hz' hown hb hb2
      by_cases hr0 : r.size = 0
      · have hre : r = ⟨#[]⟩ := by apply ByteArray.ext; exact Array.eq_empty_of_size_eq_zero hr0
        subst hre
        go_wp2
        go_roundw
        case rel => exact ⟨k + 1, ps, by omega, by omega, by go_num, by omega, HO.out, hown2, hb3⟩
        case measure => simp [intOf]; omega
      · have hne : (r.toList == []) = false := by
          rw [Lib.toList_data, beq_eq_false_iff_ne]
          intro h
          apply hr0; rw [Lib.size_eq, h]; rfl
        have hmx : ps.length + 1 ≤ maxLen := by unfold maxLen; omega
        have hby : (ps.length + 1) * 16 ≤ 140737488355328 := by omega
        go_wp2_with (at_builtin; refine wpList_append_own _ rfl (.tmp 23) (.tmp 25) 22 rfl w.heap.size 9 i0 (.string ByteArray.empty) 1 16 Tryd.underlying22 hi hz0 hz1 hz2 rfl (by decide) _ _ _ rfl (hown2.alloc _) ⟨w2.heap.size, 0, none⟩ 1 1 [.string r] rfl rfl (pieces.cell_one _ _ _) (one_str _) hmx hby (by simp; omega) ?_; intro v' w3 hown' hgrow _)
        obtain ⟨R1, R2⟩ := push_str (c := r) hown2 hb3 hbs2 hown' hgrow
        clear hown' hgrow hown2 hb3
        go_wp2
        go_roundw
        case rel =>
          refine ⟨k + 1, ps ++ [r], by omega, by omega, by go_num, by rw [List.length_append]; simp; omega, ?_, R1, R2⟩
          intro p hp
          rcases List.mem_append.1 hp with hp | hp
          · exact HO.out p hp
          · rw [List.mem_singleton] at hp; subst hp; exact ⟨by omega, hr60, HR.out⟩
        case measure => simp [intOf]; omega
    · by_cases h1 : k < len
      all_goals
        go_wp2
        go_ret
        exact ⟨_, ps, rfl, hown, ⟨by omega, HO.out⟩, hb⟩

set_option maxHeartbeats 1000000 in
set_option maxRecDepth 100000 in
theorem sameTexts_any (va vb : Value) (ps : List ByteArray) (w : World) (ha : SRow w va ps) (hb : SRow w vb ps) (hl : ps.length ≤ 140737488351232) :
    Calls Tryd.prog 16 #[va, vb] w fun e w' => e = .returned (.bool true) ∧ Below w.heap.size w w' := by
  by_cases h0 : ps = []
  · subst h0
    rcases ha with ⟨rfl, _⟩ | ⟨g, cap, rfl, hg, hc⟩
    all_goals
      rcases hb with ⟨rfl, _⟩ | ⟨g', cap', rfl, hg', hc'⟩
      all_goals
        go_enter Tryd.func16, Tryd.ntmps16
        go_wp2
        refine wp_loop_rounds 1 ?_
        rw [rounds_succ]
        go_wp2
        go_ret
        exact ⟨rfl, Below.refl _ _⟩
  · rcases ha with ⟨_, h⟩ | ⟨g, cap, rfl, hg, hc⟩
    · exact absurd h h0
    rcases hb with ⟨_, h⟩ | ⟨g', cap', rfl, hg', hc'⟩
    · exact absurd h h0
    have HC : Hid (∀ (j : Nat) (hj : j < ps.length), w.cell? ⟨g, j, none⟩ = some (.string ps[j])) := hc
    have HC' : Hid (∀ (j : Nat) (hj : j < ps.length), w.cell? ⟨g', j, none⟩ = some (.string ps[j])) := hc'
    clear hc hc' h0
    go_enter Tryd.func16, Tryd.ntmps16
    go_wp2
    go_loopw [5] (fun i wr => ∃ k : Nat, k ≤ ps.length ∧ i = .int .i64 k ∧ Below w.heap.size w wr) (fun i _ => ps.length - (intOf i).toNat)
    case atStart => exact ⟨0, Nat.zero_le _, rfl, Below.refl _ _⟩
    case round =>
      obtain ⟨k, hk, rfl, hbel⟩ := hrel
      by_cases hlt : k < ps.length
      · have c1 : wr.cell? ⟨g, k, none⟩ = some (.string ps[k]) := (hbel.cell (by exact hg)).trans (HC.out k hlt)
        have c2 : wr.cell? ⟨g', k, none⟩ = some (.string ps[k]) := (hbel.cell (by exact hg')).trans (HC'.out k hlt)
        obtain ⟨x, hx⟩ : ∃ x, x = ps[k] := ⟨_, rfl⟩
        rw [← hx] at c1 c2
        have hI : (k : Int) < (ps.length : Int) := by omega
        clear hx
        go_wp2
        go_quiet (fail)
        go_wp2
        go_roundw
        case rel => exact ⟨k + 1, by omega, by go_num, hbel.trans ⟨rfl, rfl, rfl, Nat.le_refl _, fun _ _ => rfl⟩⟩
        case measure => simp [intOf]; omega
      · go_wp2
        go_ret
        exact ⟨rfl, hbel⟩
end Go.Proofs.YtbjgpfhbdmcbbaaDoor.keep
