import Derived.Test.YtbjgpfhbdmcbbaaGreatDoorP05
import Derived.OpenShut
import Derived.Laws.BytesArg
import Derived.Test.YtbjgpfhbdmcbbaaGreatDoorProg
import Derived.Test.YtbjgpfhbdmcbbaaGreatDoorP01
import Derived.Laws.Bits64b

/-
  CONTRACTS of quernkeep: pick, letters.
-/
namespace Go.Proofs.YtbjgpfhbdmcbbaaGreatDoor.keep
open Go.RowKit Go.Proofs.YtbjgpfhbdmcbbaaGreatDoor.dnamath Go.Proofs.YtbjgpfhbdmcbbaaGreatDoor.dna
set_option linter.unusedVariables false

set_option maxHeartbeats 400000 in
set_option maxRecDepth 100000 in
theorem pick_any (c n : Int) (w : World) (hc : -9223372036854775808 ≤ c ∧ c ≤ 9223372036854775807) (hn : 1 ≤ n) (hn2 : n ≤ 9223372036854775807) :
    Calls Tryz.prog 12 #[.int .i64 c, .int .i64 n] w fun e w' => ∃ p : Nat, e = .returned (.int .i64 (p : Int)) ∧ (p : Int) < n ∧ w' = w := by
  obtain ⟨hc1, hc2⟩ := hc
  have hn0 : (n == 0) = false := by simp; omega
  by_cases h0 : c < 0
  · have hm := Int.emod_nonneg (-(c + 1)) (show n ≠ 0 by omega)
    have hl := Int.emod_lt_of_pos (-(c + 1)) (show 0 < n by omega)
    obtain ⟨p, hp⟩ : ∃ p : Nat, (-(c + 1)) % n = (p : Int) := ⟨((-(c + 1)) % n).toNat, by omega⟩
    have HP : Hid ((-(c + 1)) % n = (p : Int)) := hp
    have HL : Hid ((-(c + 1)) % n < n) := hl
    clear hm hl hp
    go_enter Tryz.func12, Tryz.ntmps12
    go_wp2
    go_ret
    refine ⟨p, ?_, by have := HP.out; have := HL.out; omega, rfl⟩
    rw [← HP.out, ← Int.tmod_eq_emod_of_nonneg (by omega), Int.neg_tmod]; rfl
  · have hm := Int.emod_nonneg c (show n ≠ 0 by omega)
    have hl := Int.emod_lt_of_pos c (show 0 < n by omega)
    obtain ⟨p, hp⟩ : ∃ p : Nat, c % n = (p : Int) := ⟨(c % n).toNat, by omega⟩
    have HP : Hid (c % n = (p : Int)) := hp
    have HL : Hid (c % n < n) := hl
    clear hm hl hp
    go_enter Tryz.func12, Tryz.ntmps12
    go_wp2
    go_ret
    refine ⟨p, ?_, by have := HP.out; have := HL.out; omega, rfl⟩
    rw [← HP.out]; first | rfl | (rw [← Int.tmod_eq_emod_of_nonneg (by omega)]; rfl)

/-- a slice of integers that came in -/
def IsRow (w : World) (a : Option Addr) (len cap : Nat) (zs : List Int) : Prop :=
  (a = none ∧ len = 0 ∧ cap = 0 ∧ zs = []) ∨
  ∃ x, a = some x ∧ len ≤ cap ∧ cap ≤ maxLen ∧ zs.length = cap ∧ (∀ i, i < zs.length → w.cell? (x.add i) = some (.int .i64 (zs.getD i 0))) ∧ ∀ n ∈ zs, (Lit.int .i64 n).wf = true

theorem IsRow.later {w w' : World} {a : Option Addr} {len cap : Nat} {zs : List Int} (h : IsRow w a len cap zs) (hb : Below w.heap.size w w') : IsRow w' a len cap zs := by
  rcases h with h | ⟨x, h1, h2, h3, h4, h5, h6⟩
  · exact .inl h
  · exact .inr ⟨x, h1, h2, h3, h4, fun i hi => (hb.cell (World.block_lt_of_cell? _ _ (h5 i hi))).trans (h5 i hi), h6⟩

def ucells (l : List UInt8) : List Value := l.map fun b => Value.int .u8 (b.toNat : Int)

theorem conv_own {w : World} {base : Nat} {v : Value} {l : List UInt8} (h : w.ownsRow base 5 1 v l.length (ucells l)) :
    (convert 82 9 v).run Tryz.prog w = .ok (.string ⟨l.toArray⟩) w := by
  rcases h.2 with ⟨rfl, h0⟩ | ⟨g, cap, cur, rfl, hg, hh, hle, hm, hs, ht⟩
  · have : l = [] := List.eq_nil_of_length_eq_zero h0
    subst this
    rw [run_convert_bytes_nil w 82 5 Tryz.underlying82 Tryz.underlying5 0 0 9 Tryz.underlying9]
    rfl
  · refine run_convert_bytes_back (P := Tryz.prog) w 82 9 5 ⟨g, 0, none⟩ cap l Tryz.underlying82 Tryz.underlying5 Tryz.underlying9 ?_
    intro j hj
    rw [show (⟨g, 0, none⟩ : Addr).add j = ⟨g, j, none⟩ by simp [Addr.add]; omega, h.cellAt j (by omega)]
    simp [ucells, hj]

def okL (free : Bool) (l : List UInt8) : Prop := l.all isBN = true ∧ (free = false → l.all isB = true)
def acgt (p : Nat) : UInt8 := if p % 4 = 0 then 65 else if p % 4 = 1 then 67 else if p % 4 = 2 then 71 else 84
theorem acgt_isB (p : Nat) : isB (acgt p) = true := by
  unfold acgt; repeat (split; decide)
  decide
theorem okL_snoc {free : Bool} {l : List UInt8} (h : okL free l) (p : Nat) : okL free (l ++ [acgt p]) := by
  refine ⟨?_, fun e => ?_⟩
  · rw [List.all_append, h.1]; simp [isBN, acgt_isB]
  · rw [List.all_append, h.2 e]; simp [acgt_isB]
theorem okL_N {l : List UInt8} (h : okL true l) : okL true (l ++ [78]) := by
  refine ⟨?_, fun e => by cases e⟩
  rw [List.all_append, h.1]; decide

theorem infoB1 : (Tryz.prog.info? 5).map (fun i => (i.zero, i.size, i.bytes)) = some (some (.int .u8 0), 1, 1) := by kernel_rfl

theorem cell_one (w : World) (x : Value) (t : TypeId) : ∀ j u, [x][j]? = some u → (w.alloc (.cells #[x] t)).cell? ((⟨w.heap.size, 0, none⟩ : Addr).add j) = some u := by
  intro j u hj
  match j, hj with
  | 0, hj => simp at hj; subst hj; simp [Addr.add]
theorem one_u8 (n : Int) : ∀ u ∈ [Value.int .u8 n], u.oneCell' = true := by
  intro u hu; simp at hu; subst hu; rfl
theorem push_byte {base : Nat} {w wr w1 : World} {v v' : Value} {l : List UInt8} {c : UInt8} {o : Obj} (hown : wr.ownsRow base 5 1 v l.length (ucells l)) (hb : Below base w wr) (hbase : base ≤ wr.heap.size)
    (hown' : w1.ownsRow base 5 1 v' (l.length + 1) (ucells l ++ [.int .u8 (c.toNat : Int)])) (hgrow : (wr.alloc o).grownBy w1 v.ownBlock) :
    w1.ownsRow base 5 1 v' (l ++ [c]).length (ucells (l ++ [c])) ∧ Below base w w1 := by
  refine ⟨?_, (hb.alloc hbase o).grown hgrow (by simp; omega) (fun j hj => (hown.lt j hj).1)⟩
  have e : ucells (l ++ [c]) = ucells l ++ [.int .u8 (c.toNat : Int)] := by simp [ucells]
  rw [e, List.length_append]
  exact hown'

theorem acgt_mod {p : Nat} {r : Nat} {c : UInt8} (h : ((p : Int) % 4) = (r : Int)) (hc : acgt r = c) (hr : r < 4) : c = acgt p := by
  have : p % 4 = r := by omega
  rw [← hc]; unfold acgt
  have e : r % 4 = p % 4 := by omega
  rw [e]

set_option maxHeartbeats 1600000 in
set_option maxRecDepth 100000 in
theorem letters_any (a0 : Option Addr) (len cap : Nat) (zs : List Int) (free : Bool) (w : World) (hrow : IsRow w a0 len cap zs) :
    Calls Tryz.prog 33 #[.slice a0 len cap, .bool free] w fun e w' => ∃ r : ByteArray, e = .returned (.string r) ∧ r.size ≤ 60 ∧ okL free r.data.toList ∧ Below w.heap.size w w' := by
  obtain ⟨i0, hi, hz0, hz1, hz2⟩ := info_parts infoB1
  have hlen : len ≤ 9223372036854775807 := by
    rcases hrow with ⟨_, rfl, _⟩ | ⟨x, _, h2, h3, _⟩
    · omega
    · unfold maxLen at h3; omega
  go_enter Tryz.func33, Tryz.ntmps33
  go_wp2
  go_loopw [5, 6] (fun v i wr => ∃ (k : Nat) (l : List UInt8), k ≤ len ∧ k ≤ 60 ∧ i = .int .i64 k ∧ l.length = k ∧ okL free l ∧ wr.ownsRow w.heap.size 5 1 v l.length (ucells l) ∧ Below w.heap.size w wr) (fun _ i _ => len - (intOf i).toNat)
  case atStart => exact ⟨0, [], Nat.zero_le _, Nat.zero_le _, rfl, rfl, ⟨rfl, fun _ => rfl⟩, World.ownsRow_nil _ _ _ _, Below.refl _ _⟩
  case round =>
    obtain ⟨k, l, hk, hk60, rfl, hl, hok, hown, hb⟩ := hrel
    by_cases hlt : k < len ∧ k < 60
    · obtain ⟨hlt, hlt60⟩ := hlt
      rcases hrow with ⟨_, rfl, _⟩ | ⟨⟨b, off, spot⟩, rfl, h2, h3, h4, h5, h6⟩
      · omega
      have hc := h5 k (by omega)
      have hspot : spot = none := by
        have := World.cell?_spot hc
        unfold Addr.add at this
        split at this
        · exact this
        · rename_i h; have h5' := World.cell?_spot (h5 0 (by omega)); simpa [Addr.add] using h5'
      subst hspot
      have hcell : wr.cell? ⟨b, off + k, none⟩ = some (.int .i64 (zs.getD k 0)) := by
        have := (hb.cell (World.block_lt_of_cell? _ _ hc)).trans hc
        have e : (⟨b, off, none⟩ : Addr).add k = ⟨b, off + k, none⟩ := by unfold Addr.add; split <;> simp_all
        rw [e] at this
        exact this
      obtain ⟨z, hz⟩ : ∃ z, z = zs.getD k 0 := ⟨_, rfl⟩
      have hzb : -9223372036854775808 ≤ z ∧ z ≤ 9223372036854775807 := by
        rw [hz]; simpa using range_i64 h6 k
      rw [← hz] at hcell
      clear hz h5 h6 hc
      have HO : Hid (okL free l) := hok
      have HL : Hid (l.length = k) := hl
      have hbs : w.heap.size ≤ wr.heap.size := hb.size
      clear hok hl
      go_wp2_with (go_at_call 12; fail)
      refine (pick_any _ _ _ hzb (by omega) (by omega)).mono ?_
      rintro e w' ⟨p, rfl, hp, rfl⟩
      have hmx : l.length + 1 ≤ maxLen := by have := HL.out; unfold maxLen; omega
      have hby : (l.length + 1) * 1 ≤ 140737488355328 := by have := HL.out; omega
      by_cases hN : ((p : Int) == 39) = true ∧ free = true
      · obtain ⟨hp39, rfl⟩ := hN
        go_wp2_with (at_builtin; refine wpList_append_own _ rfl (.tmp 28) (.tmp 29) 82 rfl w.heap.size 5 i0 (.int .u8 0) 1 1 Tryz.underlying82 hi hz0 hz1 hz2 rfl (by decide) _ _ _ rfl (hown.alloc _) ⟨w'.heap.size, 0, none⟩ 1 1 [.int .u8 ((78 : UInt8).toNat : Int)] rfl rfl (cell_one _ _ _) (one_u8 _) hmx hby (by simp; omega) ?_; intro v' w1 hown' hgrow _)
        obtain ⟨R1, R2⟩ := push_byte (c := 78) hown hb hbs hown' hgrow
        clear hown' hgrow hown hb hcell
        go_wp2
        go_roundw
        case rel => exact ⟨k + 1, l ++ [78], by omega, by omega, by go_num, by rw [List.length_append, HL.out]; rfl, okL_N HO.out, R1, R2⟩
        case measure => simp [intOf]; omega
      · have h4 : ((p : Int) % 4 = ((0 : Nat) : Int)) ∨ ((p : Int) % 4 = ((1 : Nat) : Int)) ∨ ((p : Int) % 4 = ((2 : Nat) : Int)) ∨ ((p : Int) % 4 = ((3 : Nat) : Int)) := by omega
        have hg : ((p : Int) == 39) = false ∨ (((p : Int) == 39) = true ∧ free = false) := by
          cases hx : ((p : Int) == 39) with
          | false => exact .inl rfl
          | true => cases hf : free with
            | false => exact .inr ⟨rfl, rfl⟩
            | true => exact absurd ⟨hx, hf⟩ hN
        clear hN
        rcases h4 with hr | hr | hr | hr
        · have HA : Hid ((65 : UInt8) = acgt p) := acgt_mod (r := 0) hr rfl (by omega)
          have hr' : (p : Int) % 4 = 0 := hr
          clear hr
          rcases hg with hg | ⟨hg, rfl⟩
          all_goals
            go_wp2_with (at_builtin; refine wpList_append_own _ rfl (.tmp 31) (.tmp 35) 82 rfl w.heap.size 5 i0 (.int .u8 0) 1 1 Tryz.underlying82 hi hz0 hz1 hz2 rfl (by decide) _ _ _ rfl (hown.alloc _) ⟨w'.heap.size, 0, none⟩ 1 1 [.int .u8 ((65 : UInt8).toNat : Int)] rfl rfl (cell_one _ _ _) (one_u8 _) hmx hby (by simp; omega) ?_; intro v' w1 hown' hgrow _)
            obtain ⟨R1, R2⟩ := push_byte (c := 65) hown hb hbs hown' hgrow
            clear hown' hgrow hown hb hcell
            go_wp2
            go_roundw
            case rel => exact ⟨k + 1, l ++ [65], by omega, by omega, by go_num, by rw [List.length_append, HL.out]; rfl, by rw [HA.out]; exact okL_snoc HO.out p, R1, R2⟩
            case measure => simp [intOf]; omega
        · have HA : Hid ((67 : UInt8) = acgt p) := acgt_mod (r := 1) hr rfl (by omega)
          have hr' : (p : Int) % 4 = 1 := hr
          clear hr
          rcases hg with hg | ⟨hg, rfl⟩
          all_goals
            go_wp2_with (at_builtin; refine wpList_append_own _ rfl (.tmp 31) (.tmp 35) 82 rfl w.heap.size 5 i0 (.int .u8 0) 1 1 Tryz.underlying82 hi hz0 hz1 hz2 rfl (by decide) _ _ _ rfl (hown.alloc _) ⟨w'.heap.size, 0, none⟩ 1 1 [.int .u8 ((67 : UInt8).toNat : Int)] rfl rfl (cell_one _ _ _) (one_u8 _) hmx hby (by simp; omega) ?_; intro v' w1 hown' hgrow _)
            obtain ⟨R1, R2⟩ := push_byte (c := 67) hown hb hbs hown' hgrow
            clear hown' hgrow hown hb hcell
            go_wp2
            go_roundw
            case rel => exact ⟨k + 1, l ++ [67], by omega, by omega, by go_num, by rw [List.length_append, HL.out]; rfl, by rw [HA.out]; exact okL_snoc HO.out p, R1, R2⟩
            case measure => simp [intOf]; omega
        · have HA : Hid ((71 : UInt8) = acgt p) := acgt_mod (r := 2) hr rfl (by omega)
          have hr' : (p : Int) % 4 = 2 := hr
          clear hr
          rcases hg with hg | ⟨hg, rfl⟩
          all_goals
            go_wp2_with (at_builtin; refine wpList_append_own _ rfl (.tmp 31) (.tmp 35) 82 rfl w.heap.size 5 i0 (.int .u8 0) 1 1 Tryz.underlying82 hi hz0 hz1 hz2 rfl (by decide) _ _ _ rfl (hown.alloc _) ⟨w'.heap.size, 0, none⟩ 1 1 [.int .u8 ((71 : UInt8).toNat : Int)] rfl rfl (cell_one _ _ _) (one_u8 _) hmx hby (by simp; omega) ?_; intro v' w1 hown' hgrow _)
            obtain ⟨R1, R2⟩ := push_byte (c := 71) hown hb hbs hown' hgrow
            clear hown' hgrow hown hb hcell
            go_wp2
            go_roundw
            case rel => exact ⟨k + 1, l ++ [71], by omega, by omega, by go_num, by rw [List.length_append, HL.out]; rfl, by rw [HA.out]; exact okL_snoc HO.out p, R1, R2⟩
            case measure => simp [intOf]; omega
        · have HA : Hid ((84 : UInt8) = acgt p) := acgt_mod (r := 3) hr rfl (by omega)
          have hr' : (p : Int) % 4 = 3 := hr
          clear hr
          rcases hg with hg | ⟨hg, rfl⟩
          all_goals
            go_wp2_with (at_builtin; refine wpList_append_own _ rfl (.tmp 31) (.tmp 35) 82 rfl w.heap.size 5 i0 (.int .u8 0) 1 1 Tryz.underlying82 hi hz0 hz1 hz2 rfl (by decide) _ _ _ rfl (hown.alloc _) ⟨w'.heap.size, 0, none⟩ 1 1 [.int .u8 ((84 : UInt8).toNat : Int)] rfl rfl (cell_one _ _ _) (one_u8 _) hmx hby (by simp; omega) ?_; intro v' w1 hown' hgrow _)
            obtain ⟨R1, R2⟩ := push_byte (c := 84) hown hb hbs hown' hgrow
            clear hown' hgrow hown hb hcell
            go_wp2
            go_roundw
            case rel => exact ⟨k + 1, l ++ [84], by omega, by omega, by go_num, by rw [List.length_append, HL.out]; rfl, by rw [HA.out]; exact okL_snoc HO.out p, R1, R2⟩
            case measure => simp [intOf]; omega
    · have hcv := conv_own hown
      by_cases h1 : k < len
      all_goals
        go_wp2
        go_ret
        refine ⟨⟨l.toArray⟩, rfl, ?_, by simpa using hok, hb⟩
        simp [ByteArray.size]; omega
end Go.Proofs.YtbjgpfhbdmcbbaaGreatDoor.keep

/-
  CONTRACT: strconv.FormatUint at base 16.
-/
namespace Go.Proofs.YtbjgpfhbdmcbbaaGreatDoor.hex
open Go.RowKit Go.Proofs.YtbjgpfhbdmcbbaaGreatDoor.dnamath Go.Proofs.YtbjgpfhbdmcbbaaGreatDoor.dna Go.Proofs.YtbjgpfhbdmcbbaaGreatDoor.disk Go.Proofs.YtbjgpfhbdmcbbaaGreatDoor.keep
set_option linter.unusedVariables false

def BruIs (w : World) : Prop := w.cell? ⟨17, 15, none⟩ = some (.int .u8 4)

set_option maxHeartbeats 400000 in
set_option maxRecDepth 100000 in
theorem TrailingZeros_16 (w : World) (h : BruIs w) :
    Calls Tryz.prog 165 #[.int .u64 16] w fun e w' => e = .returned (.int .i64 4) ∧ w' = w := by
  unfold BruIs at h
  have e0 : (IntKind.u64.wrap (bits BinOp.and IntKind.u64 16 (IntKind.u64.wrap (-16)) * 285870213051353865) / 288230376151711744) = 15 := by decide +kernel
  have e1 : (IntKind.u64.wrap (bits BinOp.and IntKind.u64 16 (IntKind.u64.wrap (-16)) * 285870213051353865) / 288230376151711744).toNat = 15 := by rw [e0]; rfl
  go_enter Tryz.func165, Tryz.ntmps165
  go_wp2
  go_ret
  exact ⟨rfl, rfl⟩

set_option maxHeartbeats 400000 in
set_option maxRecDepth 100000 in
theorem isPow_16 (w : World) :
    Calls Tryz.prog 164 #[.int .i64 16] w fun e w' => e = .returned (.bool true) ∧ w' = w := by
  go_enter Tryz.func164, Tryz.ntmps164
  go_wp2
  go_ret
  exact ⟨rfl, rfl⟩

def dig (n : Nat) : UInt8 := if n < 10 then UInt8.ofNat (48 + n) else UInt8.ofNat (87 + n)
def hexF : Nat → Nat → List UInt8
  | 0, n => [dig n]
  | f + 1, n => if n < 16 then [dig n] else hexF f (n / 16) ++ [dig (n % 16)]
def hexL (n : Nat) : List UInt8 := hexF 16 n
theorem hexF_small (f n : Nat) (h : n < 16) : hexF f n = [dig n] := by
  cases f with
  | zero => rfl
  | succ f => simp [hexF, h]
theorem hexF_step (f n : Nat) (h : 16 ≤ n) : hexF (f + 1) n = hexF f (n / 16) ++ [dig (n % 16)] := by
  rw [hexF, if_neg (by omega)]
theorem dig_hex (n : Nat) (h : n < 16) : (48 ≤ (dig n).toNat ∧ (dig n).toNat ≤ 57) ∨ (97 ≤ (dig n).toNat ∧ (dig n).toNat ≤ 102) := by
  have : ∀ k : Fin 16, (48 ≤ (dig k.val).toNat ∧ (dig k.val).toNat ≤ 57) ∨ (97 ≤ (dig k.val).toNat ∧ (dig k.val).toNat ≤ 102) := by decide
  exact this ⟨n, h⟩
theorem hexF_hex : ∀ (f n : Nat), n < 16 ^ (f + 1) → ∀ c ∈ hexF f n, (48 ≤ c.toNat ∧ c.toNat ≤ 57) ∨ (97 ≤ c.toNat ∧ c.toNat ≤ 102)
  | 0, n, hn, c, hc => by
    rw [hexF, List.mem_singleton] at hc
    subst hc
    exact dig_hex n (by simpa using hn)
  | f + 1, n, hn, c, hc => by
    rw [hexF] at hc
    split at hc
    · rename_i h
      rw [List.mem_singleton] at hc
      subst hc
      exact dig_hex n h
    · rw [List.mem_append, List.mem_singleton] at hc
      rcases hc with hc | hc
      · refine hexF_hex f (n / 16) ?_ c hc
        rw [Nat.pow_succ] at hn
        exact Nat.div_lt_of_lt_mul (by rw [Nat.mul_comm]; exact hn)
      · subst hc
        exact dig_hex _ (Nat.mod_lt _ (by omega))
theorem hexF_len : ∀ (f n : Nat), (hexF f n).length ≤ f + 1
  | 0, n => by simp [hexF]
  | f + 1, n => by
    have := hexF_len f (n / 16)
    rw [hexF]
    split
    · simp
    · rw [List.length_append]; simp; omega
abbrev digitsB : ByteArray := ⟨#[48, 49, 50, 51, 52, 53, 54, 55, 56, 57, 97, 98, 99, 100, 101, 102, 103, 104, 105, 106, 107, 108, 109, 110, 111, 112, 113, 114, 115, 116, 117, 118, 119, 120, 121, 122]⟩
theorem digits_at (n : Nat) (h : n < 16) (h2 : n < digitsB.size) : digitsB[n] = dig n := by
  have : ∀ k : Fin 16, digitsB[k.val]'(Nat.lt_of_lt_of_le k.isLt (by decide)) = dig k.val := by decide
  exact this ⟨n, h⟩

/-- digits that are laid from place j on -/
def Tail (cur : Array Value) (j : Nat) (acc : List UInt8) : Prop := cur.size = 65 ∧ acc.length = 65 - j ∧ cur.toList.drop j = ucells acc
theorem tail_push {cur : Array Value} {j : Nat} {acc : List UInt8} {c : UInt8} (h : Tail cur j acc) (h1 : 1 ≤ j) (h2 : j ≤ 65) : Tail (cur.setIfInBounds (j - 1) (.int .u8 (c.toNat : Int))) (j - 1) (c :: acc) := by
  obtain ⟨h3, h4, h5⟩ := h
  refine ⟨by simp [h3], by simp [h4]; omega, ?_⟩
  rw [Array.toList_setIfInBounds]
  have hl : cur.toList.length = 65 := by simpa using h3
  have hj : j - 1 < cur.toList.length := by omega
  rw [List.drop_eq_getElem_cons (by rw [List.length_set]; exact hj)]
  rw [List.getElem_set_self, List.drop_set_of_lt (by omega)]
  rw [show j - 1 + 1 = j by omega, h5]
  rfl
theorem tail_cell {w : World} {cur : Array Value} {T : TypeId} {j : Nat} {acc : List UInt8} (h : Tail cur j acc) (hj : j ≤ 65) : ∀ k (hk : k < acc.length), (w.alloc (.cells cur T)).cell? ((⟨w.heap.size, j, none⟩ : Addr).add k) = some (.int .u8 (acc[k].toNat : Int)) := by
  intro k hk
  obtain ⟨h3, h4, h5⟩ := h
  rw [show (⟨w.heap.size, j, none⟩ : Addr).add k = ⟨w.heap.size, j + k, none⟩ by simp [Addr.add]]
  unfold World.cell?
  rw [heap_alloc_new]
  show cur[j + k]? = _
  have h6 : cur.toList[j + k]? = (ucells acc)[k]? := by rw [← h5, List.getElem?_drop]
  rw [← Array.getElem?_toList, h6]
  simp [ucells, hk]

set_option maxHeartbeats 1000000 in
set_option maxRecDepth 100000 in
theorem formatBits_16 (x : Nat) (w : World) (hx : x < 18446744073709551616) (h : BruIs w) :
    Calls Tryz.prog 130 #[.slice none 0 0, .int .u64 (x : Int), .int .i64 16, .bool false, .bool false] w fun e w' => e = .returned (.tuple #[.slice none 0 0, .string ⟨(hexL x).toArray⟩]) ∧ Below w.heap.size w w' := by
  have hB : ∀ o, BruIs (w.alloc o) := fun o => (World.cell?_alloc_lt _ _ _ (World.block_lt_of_cell? _ _ h)).trans h
  go_enter Tryz.func130, Tryz.ntmps130
  go_wp2_with (first | (go_at_call 164; go_must (refine (isPow_16 _).mono ?_; rintro e w' ⟨rfl, rfl⟩)) | (go_at_call 165; go_must (refine (TrailingZeros_16 _ (hB _)).mono ?_; rintro e w' ⟨rfl, rfl⟩)))
  have hand : ∀ v : Nat, v < 18446744073709551616 → bits BinOp.and IntKind.u64 (v : Int) 15 = ((v % 16 : Nat) : Int) := fun v hv => by
    have := bits_and_u64_nat v 15 hv (by omega)
    rw [show ((15 : Nat) : Int) = 15 from rfl] at this
    rw [this]
    congr 1
    exact Nat.and_two_pow_sub_one_eq_mod v 4
  have h65 : (16 : Nat) ^ (65 - 49) = 18446744073709551616 := by decide
  go_loopw [1, 13] (fun u i wr => ∃ (v j : Nat) (cur : Array Value) (acc : List UInt8), u = .int .u64 (v : Int) ∧ i = .int .i64 (j : Int) ∧ v < 18446744073709551616 ∧ Hid (v < 16 ^ (j - 49)) ∧ 49 ≤ j ∧ j ≤ 65 ∧ wr = w.alloc (.cells cur 245) ∧ Hid (Tail cur j acc) ∧ Hid (hexL x = hexF (j - 49) v ++ acc)) (fun u _ _ => (intOf u).toNat)
  case atStart => exact ⟨x, 65, _, [], rfl, rfl, hx, (by show x < _; rw [h65]; exact hx), by omega, by omega, rfl, (by refine ⟨rfl, rfl, rfl⟩), (by show hexL x = _; rw [List.append_nil]; rfl)⟩
  case round =>
    obtain ⟨v, j, cur, acc, rfl, rfl, hv, hvj, hj1, hj2, rfl, htl, hhx⟩ := hrel
    have hsz := htl.out.1
    by_cases hge : 16 ≤ v
    · have hj3 : 50 ≤ j := by
        rcases Nat.lt_or_ge j 50 with h | h
        · have : j = 49 := by omega
          subst this
          have := hvj.out
          simp at this
          omega
        · exact h
      have hm := hand v hv
      have hm2 : v % 16 < 16 := Nat.mod_lt _ (by omega)
      obtain ⟨c0, hc0⟩ : ∃ c, cur[j - 1]? = some c := ⟨_, Array.getElem?_eq_getElem (by omega)⟩
      have T1 := tail_push (c := dig (v % 16)) htl.out (by omega) hj2
      have HV : Hid (v / 16 < 16 ^ (j - 1 - 49)) := by
        have h1 := hvj.out
        rw [show j - 49 = (j - 1 - 49) + 1 by omega, Nat.pow_succ] at h1
        exact Nat.div_lt_of_lt_mul (by rw [Nat.mul_comm]; exact h1)
      have HH : Hid (hexL x = hexF (j - 1 - 49) (v / 16) ++ (dig (v % 16) :: acc)) := by
        have h1 := hhx.out
        rw [show j - 49 = (j - 1 - 49) + 1 by omega, hexF_step _ _ hge, List.append_assoc] at h1
        exact h1
      clear hand h65
      go_wp2
      go_roundw
      case rel =>
        refine ⟨v / 16, j - 1, _, dig (v % 16) :: acc, by go_num, by go_num, by omega, HV, by omega, by omega, rfl, ?_, HH⟩
        have hdg : digitsB[v % 16]'(Nat.lt_of_lt_of_le hm2 (by decide)) = dig (v % 16) := digits_at _ hm2 _
        show Tail (cur.setIfInBounds (j - 1) (.int .u8 ((digitsB[v % 16]'(Nat.lt_of_lt_of_le hm2 (by decide))).toNat : Int))) (j - 1) (dig (v % 16) :: acc)
        rw [hdg]
        exact T1
      case measure => simp [intOf]; omega
    · have hm2 : v < 16 := by omega
      obtain ⟨c0, hc0⟩ : ∃ c, cur[j - 1]? = some c := ⟨_, Array.getElem?_eq_getElem (by omega)⟩
      have T1 := tail_push (c := dig v) htl.out (by omega) hj2
      have hR : hexL x = dig v :: acc := by rw [hhx.out, hexF_small _ _ hm2]; rfl
      have hln : (hexL x).length = 66 - j := by rw [hR, List.length_cons, htl.out.2.1]; omega
      rw [← hR] at T1
      have HT1 : Hid (Tail (cur.setIfInBounds (j - 1) (.int .u8 ((digitsB[v]'(Nat.lt_of_lt_of_le hm2 (by decide))).toNat : Int))) (j - 1) (hexL x)) := by
        show Tail _ _ _
        rw [digits_at v hm2]; exact T1
      have HLN : Hid ((hexL x).length = 66 - j) := hln
      have hal : Tryz.prog.arrayLen 245 = 65 := by kernel_rfl
      have hel : Tryz.prog.elem 245 = 5 := by kernel_rfl
      have hsl : ∀ W : World, (Instr.sliceAt 245 (.pointer (some ⟨w.heap.size, 0, none⟩)) (some (.int .i64 ((j : Int) - 1))) none none).run Tryz.prog W = .ok (.slice (some ⟨w.heap.size, j - 1, none⟩) (66 - j) (66 - j)) W := fun W => by
        have h1 := run_sliceAt_array_l (P := Tryz.prog) W 245 ⟨w.heap.size, 0, none⟩ (by rw [hal, hel]; exact Tryz.underlying245) .i64 ((j : Int) - 1) (by omega) (by rw [hal]; omega)
        rw [h1, hal, hel]
        have h2 : (sizeOf 5).run Tryz.prog W = .ok 1 W := by kernel_rfl
        rw [h2]
        show Result.ok (slicedAt _ _ _ _ _) W = _
        unfold slicedAt
        rw [show ((j : Int) - 1).toNat = j - 1 by omega, if_neg (by omega), show 65 - (j - 1) = 66 - j by omega]
        simp [Addr.add]
        omega
      clear hand h65 T1 hR hln hhx htl
      have hcv : ∀ W : World, W = w.alloc (.cells (cur.setIfInBounds (j - 1) (.int .u8 ((digitsB[v]'(Nat.lt_of_lt_of_le hm2 (by decide))).toNat : Int))) 245) → (convert 82 9 (.slice (some ⟨w.heap.size, j - 1, none⟩) (66 - j) (66 - j))).run Tryz.prog W = .ok (.string ⟨(hexL x).toArray⟩) W := fun W hW => by
        subst hW
        have h := run_convert_bytes_back (P := Tryz.prog) (w.alloc (.cells (cur.setIfInBounds (j - 1) (.int .u8 ((digitsB[v]'(Nat.lt_of_lt_of_le hm2 (by decide))).toNat : Int))) 245)) 82 9 5 ⟨w.heap.size, j - 1, none⟩ (66 - j) (hexL x) Tryz.underlying82 Tryz.underlying5 Tryz.underlying9
          (fun k hk => tail_cell HT1.out (by omega) k hk)
        rw [HLN.out] at h
        exact h
      have hcv2 := hcv _ rfl
      clear hcv
      go_wp2
      go_ret2
      exact ⟨rfl, (Below.refl _ w).alloc (Nat.le_refl _) _⟩

set_option maxHeartbeats 400000 in
set_option maxRecDepth 100000 in
theorem FormatUint_in (x : Nat) (w : World) (hx : x < 18446744073709551616) (h : BruIs w) :
    Calls Tryz.prog 168 #[.int .u64 (x : Int), .int .i64 16] w fun e w' => e = .returned (.string ⟨(hexL x).toArray⟩) ∧ Below w.heap.size w w' := by
  go_enter Tryz.func168, Tryz.ntmps168
  go_wp2_with (go_at_call 130; go_must (refine (formatBits_16 x _ hx h).mono ?_; rintro e w' ⟨rfl, hb⟩))
  go_ret
  exact ⟨rfl, hb⟩

set_option maxHeartbeats 400000 in
set_option maxRecDepth 100000 in
theorem FormatUint_16 (x : Nat) (w : World) (hx : x < 18446744073709551616) (h : BruIs w) :
    Calls Tryz.prog 136 #[.int .u64 (x : Int), .int .i64 16] w fun e w' => e = .returned (.string ⟨(hexL x).toArray⟩) ∧ Below w.heap.size w w' := by
  go_enter Tryz.func136, Tryz.ntmps136
  go_wp2_with (go_at_call 168; go_must (refine (FormatUint_in x _ hx h).mono ?_; rintro e w' ⟨rfl, hb⟩))
  go_ret
  exact ⟨rfl, hb⟩

/-! the sum -/
def sumL (s : Nat) : List UInt8 → Nat
  | [] => s
  | c :: l => sumL (((s ^^^ c.toNat) * 1099511628211) % 18446744073709551616) l
def sumTo (s : Nat) (l : List UInt8) (k : Nat) : Nat := sumL s (l.take k)
theorem sumL_append (s : Nat) (a b : List UInt8) : sumL s (a ++ b) = sumL (sumL s a) b := by
  induction a generalizing s with
  | nil => rfl
  | cons c a ih => exact ih _
theorem sumL_lt (s : Nat) (hs : s < 18446744073709551616) : ∀ l, sumL s l < 18446744073709551616 := by
  intro l
  induction l generalizing s with
  | nil => exact hs
  | cons c l ih => exact ih _ (Nat.mod_lt _ (by omega))

theorem bits_xor_u64_nat (a b : Nat) (ha : a < 18446744073709551616) (hb : b < 18446744073709551616) :
    bits .xor .u64 (a : Int) (b : Int) = ((a ^^^ b : Nat) : Int) := by
  have hx : a ^^^ b < 2 ^ 64 := Nat.xor_lt_two_pow (by omega) (by omega)
  have h1 : (BitVec.ofInt 64 (a : Int)).toNat = a := by
    rw [BitVec.ofInt_natCast, BitVec.toNat_ofNat]; exact Nat.mod_eq_of_lt (by omega)
  have h2 : (BitVec.ofInt 64 (b : Int)).toNat = b := by
    rw [BitVec.ofInt_natCast, BitVec.toNat_ofNat]; exact Nat.mod_eq_of_lt (by omega)
  show IntKind.u64.wrap ((BitVec.ofInt 64 (a : Int) ^^^ BitVec.ofInt 64 (b : Int)).toNat : Int) = _
  rw [BitVec.toNat_xor, h1, h2, IntKind.wrap_u64]
  omega
theorem sum_step (s : Nat) (t : ByteArray) (k : Nat) (hk : k < t.size) (hv : sumTo s t.data.toList k < 18446744073709551616) :
    IntKind.u64.wrap (bits BinOp.xor IntKind.u64 (sumTo s t.data.toList k : Int) (IntKind.u64.wrap (t[k].toNat : Int)) * 1099511628211) = (sumTo s t.data.toList (k + 1) : Int) := by
  have hb := t[k].toNat_lt
  have h1 : IntKind.u64.wrap (t[k].toNat : Int) = (t[k].toNat : Int) := by rw [IntKind.wrap_u64]; omega
  rw [h1, bits_xor_u64_nat _ _ hv (by omega)]
  have h2 : sumTo s t.data.toList (k + 1) = ((sumTo s t.data.toList k ^^^ t[k].toNat) * 1099511628211) % 18446744073709551616 := by
    unfold sumTo
    rw [take_snoc t k hk, sumL_append]
    rfl
  rw [h2, IntKind.wrap_u64]
  omega

set_option maxHeartbeats 800000 in
set_option maxRecDepth 100000 in
theorem sumOn_any (s : Nat) (t : ByteArray) (w : World) (hs : s < 18446744073709551616) (ht : t.size ≤ 1000000000000) :
    Calls Tryz.prog 169 #[.int .u64 (s : Int), .string t] w fun e w' => e = .returned (.int .u64 (sumL s t.data.toList : Int)) ∧ w' = w := by
  go_enter Tryz.func169, Tryz.ntmps169
  go_wp2
  go_loop [0, 8] (fun u i => ∃ (k : Nat), i = .int .i64 (k : Int) ∧ k ≤ t.size ∧ u = .int .u64 (sumTo s t.data.toList k : Int)) (fun _ i => t.size - (intOf i).toNat)
  case atStart => exact ⟨0, rfl, Nat.zero_le _, rfl⟩
  case round =>
    obtain ⟨k, rfl, hk, rfl⟩ := hrel
    by_cases hlt : k < t.size
    · have hv := sumL_lt s hs (t.data.toList.take k)
      obtain ⟨v, hvv⟩ : ∃ v, v = sumTo s t.data.toList k := ⟨_, rfl⟩
      rw [show sumL s (t.data.toList.take k) = v from hvv.symm] at hv
      rw [← hvv]
      have HVV : Hid (v = sumTo s t.data.toList k) := hvv
      clear hvv
      go_wp2
      go_round
      case rel =>
        refine ⟨k + 1, by go_num, by omega, ?_⟩
        have := sum_step s t k hlt (by rw [← HVV.out]; exact hv)
        rw [← HVV.out] at this
        rw [this]
      case measure => simp [intOf]; omega
    · have hke : k = t.size := by omega
      subst hke
      have hall : sumTo s t.data.toList t.size = sumL s t.data.toList := by unfold sumTo; rw [Lib.size_eq, List.take_length]
      rw [hall]
      go_wp2
      go_ret
      exact ⟨rfl, rfl⟩

set_option maxHeartbeats 400000 in
set_option maxRecDepth 100000 in
theorem SumOf_any (t : ByteArray) (w : World) (ht : t.size ≤ 1000000000000) :
    Calls Tryz.prog 137 #[.string t] w fun e w' => e = .returned (.int .u64 (sumL 14695981039346656037 t.data.toList : Int)) ∧ w' = w := by
  have ct := sumOn_any 14695981039346656037 t
  go_enter Tryz.func137, Tryz.ntmps137
  go_wp2_with (go_at_call 169; go_must (refine (ct _ (by omega) ht).mono ?_; rintro e w' ⟨rfl, rfl⟩))
  go_ret
  exact ⟨rfl, rfl⟩
end Go.Proofs.YtbjgpfhbdmcbbaaGreatDoor.hex
