/-
  CONTRACTS of quernkeep: pick, letters.
-/
import Derived.Test.YtbjgpfhbdmcbbaaDoorDna3
import Derived.OpenShut
import Derived.Laws.BytesArg
namespace Go.Proofs.YtbjgpfhbdmcbbaaDoor.keep
open Go.RowKit Go.Proofs.YtbjgpfhbdmcbbaaDoor.dnamath Go.Proofs.YtbjgpfhbdmcbbaaDoor.dna
set_option linter.unusedVariables false

set_option maxHeartbeats 400000 in
set_option maxRecDepth 100000 in
theorem pick_any (c n : Int) (w : World) (hc : -9223372036854775808 ≤ c ∧ c ≤ 9223372036854775807) (hn : 1 ≤ n) (hn2 : n ≤ 9223372036854775807) :
    Calls Tryd.prog 18 #[.int .i64 c, .int .i64 n] w fun e w' => ∃ p : Nat, e = .returned (.int .i64 (p : Int)) ∧ (p : Int) < n ∧ w' = w := by
  obtain ⟨hc1, hc2⟩ := hc
  have hn0 : (n == 0) = false := by simp; omega
  by_cases h0 : c < 0
  · have hm := Int.emod_nonneg (-(c + 1)) (show n ≠ 0 by omega)
    have hl := Int.emod_lt_of_pos (-(c + 1)) (show 0 < n by omega)
    obtain ⟨p, hp⟩ : ∃ p : Nat, (-(c + 1)) % n = (p : Int) := ⟨((-(c + 1)) % n).toNat, by omega⟩
    have HP : Hid ((-(c + 1)) % n = (p : Int)) := hp
    have HL : Hid ((-(c + 1)) % n < n) := hl
    clear hm hl hp
    go_enter Tryd.func18, Tryd.ntmps18
    go_wp2
    go_ret
    refine ⟨p, ?_, by have := HP.out; have := HL.out; omega, rfl⟩
    rw [← HP.out, ← Int.tmod_eq_emod_of_nonneg (by omega), Int.neg_tmod]; rfl
  · have hm := Int.emod_nonneg c (show n ≠ 0 by omega)
    have hl := Int.emod_lt_of_pos c (show 0 < n by omega)
    obtain ⟨p, hp⟩ : ∃ p : Nat, c % n = (p : Int) := ⟨(c % n).toNat, by omega⟩
    have HP : Hid (c % n = (p : Int)) := hp
    have HL : Hid (c % n < n) := hl
    clear hm hl hp
    go_enter Tryd.func18, Tryd.ntmps18
    go_wp2
    go_ret
    refine ⟨p, ?_, by have := HP.out; have := HL.out; omega, rfl⟩
    rw [← HP.out]; first | rfl | (rw [← Int.tmod_eq_emod_of_nonneg (by omega)]; rfl)

/-- a slice of integers that came in -/
def IsRow (w : World) (a : Option Addr) (len cap : Nat) (zs : List Int) : Prop :=
  (a = none ∧ len = 0 ∧ cap = 0 ∧ zs = []) ∨
  ∃ x, a = some x ∧ len ≤ cap ∧ cap ≤ maxLen ∧ zs.length = cap ∧ (∀ i, i < zs.length → w.cell? (x.add i) = some (.int .i64 (zs.getD i 0))) ∧ ∀ n ∈ zs, (Lit.int .i64 n).wf = true

theorem IsRow.later {w w' : World} {a : Option Addr} {len cap : Nat} {zs : List Int} (h : IsRow w a len cap zs) (hb : Below w.heap.size w w') : IsRow w' a len cap zs := by
  rcases h with h | ⟨x, h1, h2, h3, h4, h5, h6⟩
  · exact .inl h
  · exact .inr ⟨x, h1, h2, h3, h4, fun i hi => (hb.cell (World.block_lt_of_cell? _ _ (h5 i hi))).trans (h5 i hi), h6⟩

def ucells (l : List UInt8) : List Value := l.map fun b => Value.int .u8 (b.toNat : Int)

theorem conv_own {w : World} {base : Nat} {v : Value} {l : List UInt8} (h : w.ownsRow base 5 1 v l.length (ucells l)) :
    (convert 54 9 v).run Tryd.prog w = .ok (.string ⟨l.toArray⟩) w := by
  rcases h.2 with ⟨rfl, h0⟩ | ⟨g, cap, cur, rfl, hg, hh, hle, hm, hs, ht⟩
  · have : l = [] := List.eq_nil_of_length_eq_zero h0
    subst this
    rw [run_convert_bytes_nil w 54 5 Tryd.underlying54 Tryd.underlying5 0 0 9 Tryd.underlying9]
    rfl
  · refine run_convert_bytes_back (P := Tryd.prog) w 54 9 5 ⟨g, 0, none⟩ cap l Tryd.underlying54 Tryd.underlying5 Tryd.underlying9 ?_
    intro j hj
    rw [show (⟨g, 0, none⟩ : Addr).add j = ⟨g, j, none⟩ by simp [Addr.add]; omega, h.cellAt j (by omega)]
    simp [ucells, hj]

def okL (free : Bool) (l : List UInt8) : Prop := l.all isBN = true ∧ (free = false → l.all isB = true)
def acgt (p : Nat) : UInt8 := if p % 4 = 0 then 65 else if p % 4 = 1 then 67 else if p % 4 = 2 then 71 else 84
theorem acgt_isB (p : Nat) : isB (acgt p) = true := by
  unfold acgt; repeat (split; decide)
  decide
theorem okL_snoc {free : Bool} {l : List UInt8} (h : okL free l) (p : Nat) : okL free (l ++ [acgt p]) := by
  refine ⟨?_, fun e => ?_⟩
  · rw [List.all_append, h.1]; simp [isBN, acgt_isB]
  · rw [List.all_append, h.2 e]; simp [acgt_isB]
theorem okL_N {l : List UInt8} (h : okL true l) : okL true (l ++ [78]) := by
  refine ⟨?_, fun e => by cases e⟩
  rw [List.all_append, h.1]; decide

theorem infoB1 : (Tryd.prog.info? 5).map (fun i => (i.zero, i.size, i.bytes)) = some (some (.int .u8 0), 1, 1) := by kernel_rfl

theorem cell_one (w : World) (x : Value) (t : TypeId) : ∀ j u, [x][j]? = some u → (w.alloc (.cells #[x] t)).cell? ((⟨w.heap.size, 0, none⟩ : Addr).add j) = some u := by
  intro j u hj
  match j, hj with
  | 0, hj => simp at hj; subst hj; simp [Addr.add]
theorem one_u8 (n : Int) : ∀ u ∈ [Value.int .u8 n], u.oneCell' = true := by
  intro u hu; simp at hu; subst hu; rfl
theorem push_byte {base : Nat} {w wr w1 : World} {v v' : Value} {l : List UInt8} {c : UInt8} {o : Obj} (hown : wr.ownsRow base 5 1 v l.length (ucells l)) (hb : Below base w wr) (hbase : base ≤ wr.heap.size)
    (hown' : w1.ownsRow base 5 1 v' (l.length + 1) (ucells l ++ [.int .u8 (c.toNat : Int)])) (hgrow : (wr.alloc o).grownBy w1 v.ownBlock) :
    w1.ownsRow base 5 1 v' (l ++ [c]).length (ucells (l ++ [c])) ∧ Below base w w1 := by
  refine ⟨?_, (hb.alloc hbase o).grown hgrow (by simp; omega) (fun j hj => (hown.lt j hj).1)⟩
  have e : ucells (l ++ [c]) = ucells l ++ [.int .u8 (c.toNat : Int)] := by simp [ucells]
  rw [e, List.length_append]
  exact hown'

theorem acgt_mod {p : Nat} {r : Nat} {c : UInt8} (h : ((p : Int) % 4) = (r : Int)) (hc : acgt r = c) (hr : r < 4) : c = acgt p := by
  have : p % 4 = r := by omega
  rw [← hc]; unfold acgt
  have e : r % 4 = p % 4 := by omega
  rw [e]

set_option maxHeartbeats 1600000 in
set_option maxRecDepth 100000 in
theorem letters_any (a0 : Option Addr) (len cap : Nat) (zs : List Int) (free : Bool) (w : World) (hrow : IsRow w a0 len cap zs) :
    Calls Tryd.prog 17 #[.slice a0 len cap, .bool free] w fun e w' => ∃ r : ByteArray, e = .returned (.string r) ∧ r.size ≤ 60 ∧ okL free r.data.toList ∧ Below w.heap.size w w' := by
  obtain ⟨i0, hi, hz0, hz1, hz2⟩ := info_parts infoB1
  have hlen : len ≤ 9223372036854775807 := by
    rcases hrow with ⟨_, rfl, _⟩ | ⟨x, _, h2, h3, _⟩
    · omega
    · unfold maxLen at h3; omega
  go_enter Tryd.func17, Tryd.ntmps17
  go_wp2
  go_loopw [5, 6] (fun v i wr => ∃ (k : Nat) (l : List UInt8), k ≤ len ∧ k ≤ 60 ∧ i = .int .i64 k ∧ l.length = k ∧ okL free l ∧ wr.ownsRow w.heap.size 5 1 v l.length (ucells l) ∧ Below w.heap.size w wr) (fun _ i _ => len - (intOf i).toNat)
  case atStart => exact ⟨0, [], Nat.zero_le _, Nat.zero_le _, rfl, rfl, ⟨rfl, fun _ => rfl⟩, World.ownsRow_nil _ _ _ _, Below.refl _ _⟩
  case round =>
    obtain ⟨k, l, hk, hk60, rfl, hl, hok, hown, hb⟩ := hrel
    by_cases hlt : k < len ∧ k < 60
    · obtain ⟨hlt, hlt60⟩ := hlt
      rcases hrow with ⟨_, rfl, _⟩ | ⟨⟨b, off, spot⟩, rfl, h2, h3, h4, h5, h6⟩
      · omega
      have hc := h5 k (by omega)
      have hspot : spot = none := by
        have := World.cell?_spot hc
        unfold Addr.add at this
        split at this
        · exact this
        · rename_i h; have h5' := World.cell?_spot (h5 0 (by omega)); simpa [Addr.add] using h5'
      subst hspot
      have hcell : wr.cell? ⟨b, off + k, none⟩ = some (.int .i64 (zs.getD k 0)) := by
        have := (hb.cell (World.block_lt_of_cell? _ _ hc)).trans hc
        have e : (⟨b, off, none⟩ : Addr).add k = ⟨b, off + k, none⟩ := by unfold Addr.add; split <;> simp_all
        rw [e] at this
        exact this
      obtain ⟨z, hz⟩ : ∃ z, z = zs.getD k 0 := ⟨_, rfl⟩
      have hzb : -9223372036854775808 ≤ z ∧ z ≤ 9223372036854775807 := by
        rw [hz]; simpa using range_i64 h6 k
      rw [← hz] at hcell
      clear hz h5 h6 hc
      have HO : Hid (okL free l) := hok
      have HL : Hid (l.length = k) := hl
      have hbs : w.heap.size ≤ wr.heap.size := hb.size
      clear hok hl
      go_wp2_with (go_at_call 18; fail)
      refine (pick_any _ _ _ hzb (by omega) (by omega)).mono ?_
      rintro e w' ⟨p, rfl, hp, rfl⟩
      have hmx : l.length + 1 ≤ maxLen := by have := HL.out; unfold maxLen; omega
      have hby : (l.length + 1) * 1 ≤ 140737488355328 := by have := HL.out; omega
      by_cases hN : ((p : Int) == 39) = true ∧ free = true
      · obtain ⟨hp39, rfl⟩ := hN
        go_wp2_with (at_builtin; refine wpList_append_own _ rfl (.tmp 28) (.tmp 29) 54 rfl w.heap.size 5 i0 (.int .u8 0) 1 1 Tryd.underlying54 hi hz0 hz1 hz2 rfl (by decide) _ _ _ rfl (hown.alloc _) ⟨w'.heap.size, 0, none⟩ 1 1 [.int .u8 ((78 : UInt8).toNat : Int)] rfl rfl (cell_one _ _ _) (one_u8 _) hmx hby (by simp; omega) ?_; intro v' w1 hown' hgrow _)
        obtain ⟨R1, R2⟩ := push_byte (c := 78) hown hb hbs hown' hgrow
        clear hown' hgrow hown hb hcell
        go_wp2
        go_roundw
        case rel => exact ⟨k + 1, l ++ [78], by omega, by omega, by go_num, by rw [List.length_append, HL.out]; rfl, okL_N HO.out, R1, R2⟩
        case measure => simp [intOf]; omega
      · have h4 : ((p : Int) % 4 = ((0 : Nat) : Int)) ∨ ((p : Int) % 4 = ((1 : Nat) : Int)) ∨ ((p : Int) % 4 = ((2 : Nat) : Int)) ∨ ((p : Int) % 4 = ((3 : Nat) : Int)) := by omega
        have hg : ((p : Int) == 39) = false ∨ (((p : Int) == 39) = true ∧ free = false) := by
          cases hx : ((p : Int) == 39) with
          | false => exact .inl rfl
          | true => cases hf : free with
            | false => exact .inr ⟨rfl, rfl⟩
            | true => exact absurd ⟨hx, hf⟩ hN
        clear hN
        rcases h4 with hr | hr | hr | hr
        · have HA : Hid ((65 : UInt8) = acgt p) := acgt_mod (r := 0) hr rfl (by omega)
          have hr' : (p : Int) % 4 = 0 := hr
          clear hr
          rcases hg with hg | ⟨hg, rfl⟩
          all_goals
            go_wp2_with (at_builtin; refine wpList_append_own _ rfl (.tmp 31) (.tmp 35) 54 rfl w.heap.size 5 i0 (.int .u8 0) 1 1 Tryd.underlying54 hi hz0 hz1 hz2 rfl (by decide) _ _ _ rfl (hown.alloc _) ⟨w'.heap.size, 0, none⟩ 1 1 [.int .u8 ((65 : UInt8).toNat : Int)] rfl rfl (cell_one _ _ _) (one_u8 _) hmx hby (by simp; omega) ?_; intro v' w1 hown' hgrow _)
            obtain ⟨R1, R2⟩ := push_byte (c := 65) hown hb hbs hown' hgrow
            clear hown' hgrow hown hb hcell
            go_wp2
            go_roundw
            case rel => exact ⟨k + 1, l ++ [65], by omega, by omega, by go_num, by rw [List.length_append, HL.out]; rfl, by rw [HA.out]; exact okL_snoc HO.out p, R1, R2⟩
            case measure => simp [intOf]; omega
        · have HA : Hid ((67 : UInt8) = acgt p) := acgt_mod (r := 1) hr rfl (by omega)
          have hr' : (p : Int) % 4 = 1 := hr
          clear hr
          rcases hg with hg | ⟨hg, rfl⟩
          all_goals
            go_wp2_with (at_builtin; refine wpList_append_own _ rfl (.tmp 31) (.tmp 35) 54 rfl w.heap.size 5 i0 (.int .u8 0) 1 1 Tryd.underlying54 hi hz0 hz1 hz2 rfl (by decide) _ _ _ rfl (hown.alloc _) ⟨w'.heap.size, 0, none⟩ 1 1 [.int .u8 ((67 : UInt8).toNat : Int)] rfl rfl (cell_one _ _ _) (one_u8 _) hmx hby (by simp; omega) ?_; intro v' w1 hown' hgrow _)
            obtain ⟨R1, R2⟩ := push_byte (c := 67) hown hb hbs hown' hgrow
            clear hown' hgrow hown hb hcell
            go_wp2
            go_roundw
            case rel => exact ⟨k + 1, l ++ [67], by omega, by omega, by go_num, by rw [List.length_append, HL.out]; rfl, by rw [HA.out]; exact okL_snoc HO.out p, R1, R2⟩
            case measure => simp [intOf]; omega
        · have HA : Hid ((71 : UInt8) = acgt p) := acgt_mod (r := 2) hr rfl (by omega)
          have hr' : (p : Int) % 4 = 2 := hr
          clear hr
          rcases hg with hg | ⟨hg, rfl⟩
          all_goals
            go_wp2_with (at_builtin; refine wpList_append_own _ rfl (.tmp 31) (.tmp 35) 54 rfl w.heap.size 5 i0 (.int .u8 0) 1 1 Tryd.underlying54 hi hz0 hz1 hz2 rfl (by decide) _ _ _ rfl (hown.alloc _) ⟨w'.heap.size, 0, none⟩ 1 1 [.int .u8 ((71 : UInt8).toNat : Int)] rfl rfl (cell_one _ _ _) (one_u8 _) hmx hby (by simp; omega) ?_; intro v' w1 hown' hgrow _)
            obtain ⟨R1, R2⟩ := push_byte (c := 71) hown hb hbs hown' hgrow
            clear hown' hgrow hown hb hcell
            go_wp2
            go_roundw
            case rel => exact ⟨k + 1, l ++ [71], by omega, by omega, by go_num, by rw [List.length_append, HL.out]; rfl, by rw [HA.out]; exact okL_snoc HO.out p, R1, R2⟩
            case measure => simp [intOf]; omega
        · have HA : Hid ((84 : UInt8) = acgt p) := acgt_mod (r := 3) hr rfl (by omega)
          have hr' : (p : Int) % 4 = 3 := hr
          clear hr
          rcases hg with hg | ⟨hg, rfl⟩
          all_goals
            go_wp2_with (at_builtin; refine wpList_append_own _ rfl (.tmp 31) (.tmp 35) 54 rfl w.heap.size 5 i0 (.int .u8 0) 1 1 Tryd.underlying54 hi hz0 hz1 hz2 rfl (by decide) _ _ _ rfl (hown.alloc _) ⟨w'.heap.size, 0, none⟩ 1 1 [.int .u8 ((84 : UInt8).toNat : Int)] rfl rfl (cell_one _ _ _) (one_u8 _) hmx hby (by simp; omega) ?_; intro v' w1 hown' hgrow _)
            obtain ⟨R1, R2⟩ := push_byte (c := 84) hown hb hbs hown' hgrow
            clear hown' hgrow hown hb hcell
            go_wp2
            go_roundw
            case rel => exact ⟨k + 1, l ++ [84], by omega, by omega, by go_num, by rw [List.length_append, HL.out]; rfl, by rw [HA.out]; exact okL_snoc HO.out p, R1, R2⟩
            case measure => simp [intOf]; omega
    · have hcv := conv_own hown
      by_cases h1 : k < len
      all_goals
        go_wp2
        go_ret
        refine ⟨⟨l.toArray⟩, rfl, ?_, by simpa using hok, hb⟩
        simp [ByteArray.size]; omega
end Go.Proofs.YtbjgpfhbdmcbbaaDoor.keep
