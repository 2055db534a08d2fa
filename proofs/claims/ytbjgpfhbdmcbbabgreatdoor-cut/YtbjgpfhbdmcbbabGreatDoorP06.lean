import Derived.Test.YtbjgpfhbdmcbbabGreatDoorProg
import Derived.Test.YtbjgpfhbdmcbbabGreatDoorP01
import Derived.Test.YtbjgpfhbdmcbbabGreatDoorP05
import Derived.Laws.Bits64b
import Derived.Shelf.Strings.Builder1
import Derived.Shelf.Small.Strs
import Derived.Shelf.Small.Wraps
import Derived.Shelf.Strings.BuilderF
import Derived.Shelf.Strings.BuilderK
import Derived.Shelf.Strconv.Atoi
import Derived.Shelf.Strconv.Itoa0
import Derived.Shelf.Strconv.Itoa1
import Derived.Shelf.LaysM
import Derived.Shelf.Strconv.Itoa2
import Derived.Shelf.Strconv.Itoa3
import Derived.Shelf.Strings.Search1
import Derived.Shelf.Strings.Search2
import Derived.Shelf.Strings.Search3
import Derived.Shelf.Strings.Cut
import Derived.Shelf.Strings.Count
import Derived.Shelf.Strings.Shaped
import Derived.Shelf.Sort.Plain
import Derived.Shelf.Strings.LastIndex
import Derived.Shelf.Strings.LastIndexAll
import Derived.Shelf.Strings.Prefix
import Derived.Shelf.Strings.Split
import Derived.Shelf.Strings.SplitShaped
import Derived.Shelf.Unicode.DecodeSlow
import Derived.Shelf.Slices.In.SortNone
import Derived.Shelf.Strings.SplitCore
import Derived.Test.YtbjgpfhbdmcbbabGreatDoorP04

/-
  CONTRACT: strconv.FormatUint at base 16.
-/
namespace Go.Proofs.YtbjgpfhbdmcbbabGreatDoor.hex
open Go.RowKit dnamath dna disk keep
set_option linter.unusedVariables false

def BruIs (w : World) : Prop := w.cell? ⟨17, 15, none⟩ = some (.int .u8 4)

set_option maxHeartbeats 400000 in
set_option maxRecDepth 100000 in
theorem TrailingZeros_16 (w : World) (h : BruIs w) :
    Calls Tryz.prog 107 #[.int .u64 16] w fun e w' => e = .returned (.int .i64 4) ∧ w' = w := by
  unfold BruIs at h
  have e0 : (IntKind.u64.wrap (bits BinOp.and IntKind.u64 16 (IntKind.u64.wrap (-16)) * 285870213051353865) / 288230376151711744) = 15 := by decide +kernel
  have e1 : (IntKind.u64.wrap (bits BinOp.and IntKind.u64 16 (IntKind.u64.wrap (-16)) * 285870213051353865) / 288230376151711744).toNat = 15 := by rw [e0]; rfl
  go_enter Tryz.func107, Tryz.ntmps107
  go_wp2
  go_ret
  exact ⟨rfl, rfl⟩

set_option maxHeartbeats 400000 in
set_option maxRecDepth 100000 in
theorem isPow_16 (w : World) :
    Calls Tryz.prog 106 #[.int .i64 16] w fun e w' => e = .returned (.bool true) ∧ w' = w := by
  go_enter Tryz.func106, Tryz.ntmps106
  go_wp2
  go_ret
  exact ⟨rfl, rfl⟩

def dig (n : Nat) : UInt8 := if n < 10 then UInt8.ofNat (48 + n) else UInt8.ofNat (87 + n)
def hexF : Nat → Nat → List UInt8
  | 0, n => [dig n]
  | f + 1, n => if n < 16 then [dig n] else hexF f (n / 16) ++ [dig (n % 16)]
def hexL (n : Nat) : List UInt8 := hexF 16 n
theorem hexF_small (f n : Nat) (h : n < 16) : hexF f n = [dig n] := by
  cases f with
  | zero => rfl
  | succ f => simp [hexF, h]
theorem hexF_step (f n : Nat) (h : 16 ≤ n) : hexF (f + 1) n = hexF f (n / 16) ++ [dig (n % 16)] := by
  rw [hexF, if_neg (by omega)]
theorem dig_hex (n : Nat) (h : n < 16) : (48 ≤ (dig n).toNat ∧ (dig n).toNat ≤ 57) ∨ (97 ≤ (dig n).toNat ∧ (dig n).toNat ≤ 102) := by
  have : ∀ k : Fin 16, (48 ≤ (dig k.val).toNat ∧ (dig k.val).toNat ≤ 57) ∨ (97 ≤ (dig k.val).toNat ∧ (dig k.val).toNat ≤ 102) := by decide
  exact this ⟨n, h⟩
theorem hexF_hex : ∀ (f n : Nat), n < 16 ^ (f + 1) → ∀ c ∈ hexF f n, (48 ≤ c.toNat ∧ c.toNat ≤ 57) ∨ (97 ≤ c.toNat ∧ c.toNat ≤ 102)
  | 0, n, hn, c, hc => by
    rw [hexF, List.mem_singleton] at hc
    subst hc
    exact dig_hex n (by simpa using hn)
  | f + 1, n, hn, c, hc => by
    rw [hexF] at hc
    split at hc
    · rename_i h
      rw [List.mem_singleton] at hc
      subst hc
      exact dig_hex n h
    · rw [List.mem_append, List.mem_singleton] at hc
      rcases hc with hc | hc
      · refine hexF_hex f (n / 16) ?_ c hc
        rw [Nat.pow_succ] at hn
        exact Nat.div_lt_of_lt_mul (by rw [Nat.mul_comm]; exact hn)
      · subst hc
        exact dig_hex _ (Nat.mod_lt _ (by omega))
theorem hexF_len : ∀ (f n : Nat), (hexF f n).length ≤ f + 1
  | 0, n => by simp [hexF]
  | f + 1, n => by
    have := hexF_len f (n / 16)
    rw [hexF]
    split
    · simp
    · rw [List.length_append]; simp; omega
abbrev digitsB : ByteArray := ⟨#[48, 49, 50, 51, 52, 53, 54, 55, 56, 57, 97, 98, 99, 100, 101, 102, 103, 104, 105, 106, 107, 108, 109, 110, 111, 112, 113, 114, 115, 116, 117, 118, 119, 120, 121, 122]⟩
theorem digits_at (n : Nat) (h : n < 16) (h2 : n < digitsB.size) : digitsB[n] = dig n := by
  have : ∀ k : Fin 16, digitsB[k.val]'(Nat.lt_of_lt_of_le k.isLt (by decide)) = dig k.val := by decide
  exact this ⟨n, h⟩

/-- digits that are laid from place j on -/
def Tail (cur : Array Value) (j : Nat) (acc : List UInt8) : Prop := cur.size = 65 ∧ acc.length = 65 - j ∧ cur.toList.drop j = ucells acc
theorem tail_push {cur : Array Value} {j : Nat} {acc : List UInt8} {c : UInt8} (h : Tail cur j acc) (h1 : 1 ≤ j) (h2 : j ≤ 65) : Tail (cur.setIfInBounds (j - 1) (.int .u8 (c.toNat : Int))) (j - 1) (c :: acc) := by
  obtain ⟨h3, h4, h5⟩ := h
  refine ⟨by simp [h3], by simp [h4]; omega, ?_⟩
  rw [Array.toList_setIfInBounds]
  have hl : cur.toList.length = 65 := by simpa using h3
  have hj : j - 1 < cur.toList.length := by omega
  rw [List.drop_eq_getElem_cons (by rw [List.length_set]; exact hj)]
  rw [List.getElem_set_self, List.drop_set_of_lt (by omega)]
  rw [show j - 1 + 1 = j by omega, h5]
  rfl
theorem tail_cell {w : World} {cur : Array Value} {T : TypeId} {j : Nat} {acc : List UInt8} (h : Tail cur j acc) (hj : j ≤ 65) : ∀ k (hk : k < acc.length), (w.alloc (.cells cur T)).cell? ((⟨w.heap.size, j, none⟩ : Addr).add k) = some (.int .u8 (acc[k].toNat : Int)) := by
  intro k hk
  obtain ⟨h3, h4, h5⟩ := h
  rw [show (⟨w.heap.size, j, none⟩ : Addr).add k = ⟨w.heap.size, j + k, none⟩ by simp [Addr.add]]
  unfold World.cell?
  rw [heap_alloc_new]
  show cur[j + k]? = _
  have h6 : cur.toList[j + k]? = (ucells acc)[k]? := by rw [← h5, List.getElem?_drop]
  rw [← Array.getElem?_toList, h6]
  simp [ucells, hk]

set_option maxHeartbeats 1000000 in
set_option maxRecDepth 100000 in
theorem formatBits_16 (x : Nat) (w : World) (hx : x < 18446744073709551616) (h : BruIs w) :
    Calls Tryz.prog 76 #[.slice none 0 0, .int .u64 (x : Int), .int .i64 16, .bool false, .bool false] w fun e w' => e = .returned (.tuple #[.slice none 0 0, .string ⟨(hexL x).toArray⟩]) ∧ Below w.heap.size w w' := by
  have hB : ∀ o, BruIs (w.alloc o) := fun o => (World.cell?_alloc_lt _ _ _ (World.block_lt_of_cell? _ _ h)).trans h
  go_enter Tryz.func76, Tryz.ntmps76
  go_wp2_with (first | (go_at_call 106; go_must (refine (isPow_16 _).mono ?_; rintro e w' ⟨rfl, rfl⟩)) | (go_at_call 107; go_must (refine (TrailingZeros_16 _ (hB _)).mono ?_; rintro e w' ⟨rfl, rfl⟩)))
  have hand : ∀ v : Nat, v < 18446744073709551616 → bits BinOp.and IntKind.u64 (v : Int) 15 = ((v % 16 : Nat) : Int) := fun v hv => by
    have := bits_and_u64_nat v 15 hv (by omega)
    rw [show ((15 : Nat) : Int) = 15 from rfl] at this
    rw [this]
    congr 1
    exact Nat.and_two_pow_sub_one_eq_mod v 4
  have h65 : (16 : Nat) ^ (65 - 49) = 18446744073709551616 := by decide
  go_loopw [1, 13] (fun u i wr => ∃ (v j : Nat) (cur : Array Value) (acc : List UInt8), u = .int .u64 (v : Int) ∧ i = .int .i64 (j : Int) ∧ v < 18446744073709551616 ∧ Hid (v < 16 ^ (j - 49)) ∧ 49 ≤ j ∧ j ≤ 65 ∧ wr = w.alloc (.cells cur 193) ∧ Hid (Tail cur j acc) ∧ Hid (hexL x = hexF (j - 49) v ++ acc)) (fun u _ _ => (intOf u).toNat)
  case atStart => exact ⟨x, 65, _, [], rfl, rfl, hx, (by show x < _; rw [h65]; exact hx), by omega, by omega, rfl, (by refine ⟨rfl, rfl, rfl⟩), (by show hexL x = _; rw [List.append_nil]; rfl)⟩
  case round =>
    obtain ⟨v, j, cur, acc, rfl, rfl, hv, hvj, hj1, hj2, rfl, htl, hhx⟩ := hrel
    have hsz := htl.out.1
    by_cases hge : 16 ≤ v
    · have hj3 : 50 ≤ j := by
        rcases Nat.lt_or_ge j 50 with h | h
        · have : j = 49 := by omega
          subst this
          have := hvj.out
          simp at this
          omega
        · exact h
      have hm := hand v hv
      have hm2 : v % 16 < 16 := Nat.mod_lt _ (by omega)
      obtain ⟨c0, hc0⟩ : ∃ c, cur[j - 1]? = some c := ⟨_, Array.getElem?_eq_getElem (by omega)⟩
      have T1 := tail_push (c := dig (v % 16)) htl.out (by omega) hj2
      have HV : Hid (v / 16 < 16 ^ (j - 1 - 49)) := by
        have h1 := hvj.out
        rw [show j - 49 = (j - 1 - 49) + 1 by omega, Nat.pow_succ] at h1
        exact Nat.div_lt_of_lt_mul (by rw [Nat.mul_comm]; exact h1)
      have HH : Hid (hexL x = hexF (j - 1 - 49) (v / 16) ++ (dig (v % 16) :: acc)) := by
        have h1 := hhx.out
        rw [show j - 49 = (j - 1 - 49) + 1 by omega, hexF_step _ _ hge, List.append_assoc] at h1
        exact h1
      clear hand h65
      go_wp2
      go_roundw
      case rel =>
        refine ⟨v / 16, j - 1, _, dig (v % 16) :: acc, by go_num, by go_num, by omega, HV, by omega, by omega, rfl, ?_, HH⟩
        have hdg : digitsB[v % 16]'(Nat.lt_of_lt_of_le hm2 (by decide)) = dig (v % 16) := digits_at _ hm2 _
        show Tail (cur.setIfInBounds (j - 1) (.int .u8 ((digitsB[v % 16]'(Nat.lt_of_lt_of_le hm2 (by decide))).toNat : Int))) (j - 1) (dig (v % 16) :: acc)
        rw [hdg]
        exact T1
      case measure => simp [intOf]; omega
    · have hm2 : v < 16 := by omega
      obtain ⟨c0, hc0⟩ : ∃ c, cur[j - 1]? = some c := ⟨_, Array.getElem?_eq_getElem (by omega)⟩
      have T1 := tail_push (c := dig v) htl.out (by omega) hj2
      have hR : hexL x = dig v :: acc := by rw [hhx.out, hexF_small _ _ hm2]; rfl
      have hln : (hexL x).length = 66 - j := by rw [hR, List.length_cons, htl.out.2.1]; omega
      rw [← hR] at T1
      have HT1 : Hid (Tail (cur.setIfInBounds (j - 1) (.int .u8 ((digitsB[v]'(Nat.lt_of_lt_of_le hm2 (by decide))).toNat : Int))) (j - 1) (hexL x)) := by
        show Tail _ _ _
        rw [digits_at v hm2]; exact T1
      have HLN : Hid ((hexL x).length = 66 - j) := hln
      have hal : Tryz.prog.arrayLen 193 = 65 := by kernel_rfl
      have hel : Tryz.prog.elem 193 = 5 := by kernel_rfl
      have hsl : ∀ W : World, (Instr.sliceAt 193 (.pointer (some ⟨w.heap.size, 0, none⟩)) (some (.int .i64 ((j : Int) - 1))) none none).run Tryz.prog W = .ok (.slice (some ⟨w.heap.size, j - 1, none⟩) (66 - j) (66 - j)) W := fun W => by
        have h1 := run_sliceAt_array_l (P := Tryz.prog) W 193 ⟨w.heap.size, 0, none⟩ (by rw [hal, hel]; exact Tryz.underlying193) .i64 ((j : Int) - 1) (by omega) (by rw [hal]; omega)
        rw [h1, hal, hel]
        have h2 : (sizeOf 5).run Tryz.prog W = .ok 1 W := by kernel_rfl
        rw [h2]
        show Result.ok (slicedAt _ _ _ _ _) W = _
        unfold slicedAt
        rw [show ((j : Int) - 1).toNat = j - 1 by omega, if_neg (by omega), show 65 - (j - 1) = 66 - j by omega]
        simp [Addr.add]
        omega
      clear hand h65 T1 hR hln hhx htl
      have hcv : ∀ W : World, W = w.alloc (.cells (cur.setIfInBounds (j - 1) (.int .u8 ((digitsB[v]'(Nat.lt_of_lt_of_le hm2 (by decide))).toNat : Int))) 193) → (convert 53 9 (.slice (some ⟨w.heap.size, j - 1, none⟩) (66 - j) (66 - j))).run Tryz.prog W = .ok (.string ⟨(hexL x).toArray⟩) W := fun W hW => by
        subst hW
        have h := run_convert_bytes_back (P := Tryz.prog) (w.alloc (.cells (cur.setIfInBounds (j - 1) (.int .u8 ((digitsB[v]'(Nat.lt_of_lt_of_le hm2 (by decide))).toNat : Int))) 193)) 53 9 5 ⟨w.heap.size, j - 1, none⟩ (66 - j) (hexL x) Tryz.underlying53 Tryz.underlying5 Tryz.underlying9
          (fun k hk => tail_cell HT1.out (by omega) k hk)
        rw [HLN.out] at h
        exact h
      have hcv2 := hcv _ rfl
      clear hcv
      go_wp2
      go_ret2
      exact ⟨rfl, (Below.refl _ w).alloc (Nat.le_refl _) _⟩

set_option maxHeartbeats 400000 in
set_option maxRecDepth 100000 in
theorem FormatUint_in (x : Nat) (w : World) (hx : x < 18446744073709551616) (h : BruIs w) :
    Calls Tryz.prog 110 #[.int .u64 (x : Int), .int .i64 16] w fun e w' => e = .returned (.string ⟨(hexL x).toArray⟩) ∧ Below w.heap.size w w' := by
  go_enter Tryz.func110, Tryz.ntmps110
  go_wp2_with (go_at_call 76; go_must (refine (formatBits_16 x _ hx h).mono ?_; rintro e w' ⟨rfl, hb⟩))
  go_ret
  exact ⟨rfl, hb⟩

set_option maxHeartbeats 400000 in
set_option maxRecDepth 100000 in
theorem FormatUint_16 (x : Nat) (w : World) (hx : x < 18446744073709551616) (h : BruIs w) :
    Calls Tryz.prog 82 #[.int .u64 (x : Int), .int .i64 16] w fun e w' => e = .returned (.string ⟨(hexL x).toArray⟩) ∧ Below w.heap.size w w' := by
  go_enter Tryz.func82, Tryz.ntmps82
  go_wp2_with (go_at_call 110; go_must (refine (FormatUint_in x _ hx h).mono ?_; rintro e w' ⟨rfl, hb⟩))
  go_ret
  exact ⟨rfl, hb⟩

/-! the sum -/
def sumL (s : Nat) : List UInt8 → Nat
  | [] => s
  | c :: l => sumL (((s ^^^ c.toNat) * 1099511628211) % 18446744073709551616) l
def sumTo (s : Nat) (l : List UInt8) (k : Nat) : Nat := sumL s (l.take k)
theorem sumL_append (s : Nat) (a b : List UInt8) : sumL s (a ++ b) = sumL (sumL s a) b := by
  induction a generalizing s with
  | nil => rfl
  | cons c a ih => exact ih _
theorem sumL_lt (s : Nat) (hs : s < 18446744073709551616) : ∀ l, sumL s l < 18446744073709551616 := by
  intro l
  induction l generalizing s with
  | nil => exact hs
  | cons c l ih => exact ih _ (Nat.mod_lt _ (by omega))

theorem bits_xor_u64_nat (a b : Nat) (ha : a < 18446744073709551616) (hb : b < 18446744073709551616) :
    bits .xor .u64 (a : Int) (b : Int) = ((a ^^^ b : Nat) : Int) := by
  have hx : a ^^^ b < 2 ^ 64 := Nat.xor_lt_two_pow (by omega) (by omega)
  have h1 : (BitVec.ofInt 64 (a : Int)).toNat = a := by
    rw [BitVec.ofInt_natCast, BitVec.toNat_ofNat]; exact Nat.mod_eq_of_lt (by omega)
  have h2 : (BitVec.ofInt 64 (b : Int)).toNat = b := by
    rw [BitVec.ofInt_natCast, BitVec.toNat_ofNat]; exact Nat.mod_eq_of_lt (by omega)
  show IntKind.u64.wrap ((BitVec.ofInt 64 (a : Int) ^^^ BitVec.ofInt 64 (b : Int)).toNat : Int) = _
  rw [BitVec.toNat_xor, h1, h2, IntKind.wrap_u64]
  omega
theorem sum_step (s : Nat) (t : ByteArray) (k : Nat) (hk : k < t.size) (hv : sumTo s t.data.toList k < 18446744073709551616) :
    IntKind.u64.wrap (bits BinOp.xor IntKind.u64 (sumTo s t.data.toList k : Int) (IntKind.u64.wrap (t[k].toNat : Int)) * 1099511628211) = (sumTo s t.data.toList (k + 1) : Int) := by
  have hb := t[k].toNat_lt
  have h1 : IntKind.u64.wrap (t[k].toNat : Int) = (t[k].toNat : Int) := by rw [IntKind.wrap_u64]; omega
  rw [h1, bits_xor_u64_nat _ _ hv (by omega)]
  have h2 : sumTo s t.data.toList (k + 1) = ((sumTo s t.data.toList k ^^^ t[k].toNat) * 1099511628211) % 18446744073709551616 := by
    unfold sumTo
    rw [take_snoc t k hk, sumL_append]
    rfl
  rw [h2, IntKind.wrap_u64]
  omega

set_option maxHeartbeats 800000 in
set_option maxRecDepth 100000 in
theorem sumOn_any (s : Nat) (t : ByteArray) (w : World) (hs : s < 18446744073709551616) (ht : t.size ≤ 1000000000000) :
    Calls Tryz.prog 111 #[.int .u64 (s : Int), .string t] w fun e w' => e = .returned (.int .u64 (sumL s t.data.toList : Int)) ∧ w' = w := by
  go_enter Tryz.func111, Tryz.ntmps111
  go_wp2
  go_loop [0, 8] (fun u i => ∃ (k : Nat), i = .int .i64 (k : Int) ∧ k ≤ t.size ∧ u = .int .u64 (sumTo s t.data.toList k : Int)) (fun _ i => t.size - (intOf i).toNat)
  case atStart => exact ⟨0, rfl, Nat.zero_le _, rfl⟩
  case round =>
    obtain ⟨k, rfl, hk, rfl⟩ := hrel
    by_cases hlt : k < t.size
    · have hv := sumL_lt s hs (t.data.toList.take k)
      obtain ⟨v, hvv⟩ : ∃ v, v = sumTo s t.data.toList k := ⟨_, rfl⟩
      rw [show sumL s (t.data.toList.take k) = v from hvv.symm] at hv
      rw [← hvv]
      have HVV : Hid (v = sumTo s t.data.toList k) := hvv
      clear hvv
      go_wp2
      go_round
      case rel =>
        refine ⟨k + 1, by go_num, by omega, ?_⟩
        have := sum_step s t k hlt (by rw [← HVV.out]; exact hv)
        rw [← HVV.out] at this
        rw [this]
      case measure => simp [intOf]; omega
    · have hke : k = t.size := by omega
      subst hke
      have hall : sumTo s t.data.toList t.size = sumL s t.data.toList := by unfold sumTo; rw [Lib.size_eq, List.take_length]
      rw [hall]
      go_wp2
      go_ret
      exact ⟨rfl, rfl⟩

set_option maxHeartbeats 400000 in
set_option maxRecDepth 100000 in
theorem SumOf_any (t : ByteArray) (w : World) (ht : t.size ≤ 1000000000000) :
    Calls Tryz.prog 83 #[.string t] w fun e w' => e = .returned (.int .u64 (sumL 14695981039346656037 t.data.toList : Int)) ∧ w' = w := by
  have ct := sumOn_any 14695981039346656037 t
  go_enter Tryz.func83, Tryz.ntmps83
  go_wp2_with (go_at_call 111; go_must (refine (ct _ (by omega) ht).mono ?_; rintro e w' ⟨rfl, rfl⟩))
  go_ret
  exact ⟨rfl, rfl⟩
end Go.Proofs.YtbjgpfhbdmcbbabGreatDoor.hex

/-
  Contracts of the library's shelf at this program, laid by the kit's own command in plain words; the ones that are used.
-/
namespace Go.Proofs
open Go.Shelf
def Tryz.lays103_ren : Go.Shelf.Ren := ⟨fun | 103 => 95 | 210 => 125 | 206 => 150 | n => n, fun | 9 => 9 | 4 => 4 | 24 => 181 | 3 => 3 | n => n, fun | n => n⟩
theorem Tryz.lays103 : Go.Proofs.Lays.n103 Tryz.prog Tryz.lays103_ren := {
  mixed := by kernel_rfl
  f103 := Tryz.func95.trans (congrArg some (by kernel_rfl))
  f206 := Tryz.func150.trans (congrArg some (by kernel_rfl))
  f210 := Tryz.func125.trans (congrArg some (by kernel_rfl))
  t3 := Tryz.underlying3
  a3 := Tryz.isAgg3
  z3 := Tryz.sizeOf3
  v3 := Tryz.zeroValue3
  t4 := Tryz.underlying4
  a4 := Tryz.isAgg4
  z4 := Tryz.sizeOf4
  v4 := Tryz.zeroValue4
  t9 := Tryz.underlying9
  a9 := Tryz.isAgg9
  z9 := Tryz.sizeOf9
  v9 := Tryz.zeroValue9
  t24 := Tryz.underlying181
  a24 := Tryz.isAgg181
  z24 := Tryz.sizeOf181
  v24 := Tryz.zeroValue181 }
open Go.RowKit in
theorem Tryz.strings_CutPrefix (s p : ByteArray) (w : World) :
    Calls Tryz.prog 95 #[.string s, .string p] w fun e w' => e = .returned (.tuple #[.string ⟨(Lib.trimPrefix s.data.toList p.data.toList).toArray⟩, .bool (Lib.hasPrefix s.data.toList p.data.toList)]) ∧ w' = w := Any.strings_CutPrefix Tryz.lays103 s p w
def Tryz.lays172_ren : Go.Shelf.Ren := ⟨fun | 172 => 65 | 244 => 98 | 245 => 99 | 247 => 127 | 279 => 128 | 280 => 129 | 281 => 130 | 282 => 131 | 287 => 155 | 316 => 156 | 171 => 21 | 205 => 157 | 321 => 170 | 322 => 171 | 243 => 32 | 246 => 47 | 283 => 73 | 284 => 74 | 285 => 75 | 286 => 76 | 129 => 104 | 317 => 103 | 318 => 105 | 319 => 106 | 320 => 107 | 337 => 135 | 338 => 136 | n => n, fun | 9 => 9 | 3 => 3 | 75 => 66 | 76 => 141 | 4 => 4 | 5 => 5 | 167 => 221 | 37 => 53 | 0 => 0 | 85 => 222 | 2 => 2 | 168 => 224 | 53 => 101 | 175 => 242 | 46 => 145 | 210 => 245 | 127 => 253 | 145 => 256 | 143 => 254 | 21 => 21 | 171 => 147 | 173 => 150 | 212 => 191 | 51 => 192 | 20 => 20 | 213 => 193 | 232 => 247 | 233 => 248 | 80 => 281 | n => n, fun | 15 => 14 | 16 => 15 | 17 => 11 | 18 => 16 | 19 => 17 | n => n⟩
theorem Tryz.lays172 : Go.Proofs.Lays.n172 Tryz.prog Tryz.lays172_ren := {
  mixed := by kernel_rfl
  f129 := Tryz.func104.trans (congrArg some (by kernel_rfl))
  f171 := Tryz.func21.trans (congrArg some (by kernel_rfl))
  f172 := Tryz.func65.trans (congrArg some (by kernel_rfl))
  f205 := Tryz.func157.trans (congrArg some (by kernel_rfl))
  f243 := Tryz.func32.trans (congrArg some (by kernel_rfl))
  f244 := Tryz.func98.trans (congrArg some (by kernel_rfl))
  f245 := Tryz.func99.trans (congrArg some (by kernel_rfl))
  f246 := Tryz.func47.trans (congrArg some (by kernel_rfl))
  f247 := Tryz.func127.trans (congrArg some (by kernel_rfl))
  f279 := Tryz.func128.trans (congrArg some (by kernel_rfl))
  f280 := Tryz.func129.trans (congrArg some (by kernel_rfl))
  f281 := Tryz.func130.trans (congrArg some (by kernel_rfl))
  f282 := Tryz.func131.trans (congrArg some (by kernel_rfl))
  f283 := Tryz.func73.trans (congrArg some (by kernel_rfl))
  f284 := Tryz.func74.trans (congrArg some (by kernel_rfl))
  f285 := Tryz.func75.trans (congrArg some (by kernel_rfl))
  f286 := Tryz.func76.trans (congrArg some (by kernel_rfl))
  f287 := Tryz.func155.trans (congrArg some (by kernel_rfl))
  f316 := Tryz.func156.trans (congrArg some (by kernel_rfl))
  f317 := Tryz.func103.trans (congrArg some (by kernel_rfl))
  f318 := Tryz.func105.trans (congrArg some (by kernel_rfl))
  f319 := Tryz.func106.trans (congrArg some (by kernel_rfl))
  f320 := Tryz.func107.trans (congrArg some (by kernel_rfl))
  f321 := Tryz.func170.trans (congrArg some (by kernel_rfl))
  f322 := Tryz.func171.trans (congrArg some (by kernel_rfl))
  f337 := Tryz.func135.trans (congrArg some (by kernel_rfl))
  f338 := Tryz.func136.trans (congrArg some (by kernel_rfl))
  t0 := Tryz.underlying0
  a0 := Tryz.isAgg0
  z0 := Tryz.sizeOf0
  v0 := Tryz.zeroValue0
  t2 := Tryz.underlying2
  a2 := Tryz.isAgg2
  z2 := Tryz.sizeOf2
  v2 := Tryz.zeroValue2
  t3 := Tryz.underlying3
  a3 := Tryz.isAgg3
  z3 := Tryz.sizeOf3
  v3 := Tryz.zeroValue3
  t4 := Tryz.underlying4
  a4 := Tryz.isAgg4
  z4 := Tryz.sizeOf4
  v4 := Tryz.zeroValue4
  t5 := Tryz.underlying5
  a5 := Tryz.isAgg5
  z5 := Tryz.sizeOf5
  v5 := Tryz.zeroValue5
  t9 := Tryz.underlying9
  a9 := Tryz.isAgg9
  z9 := Tryz.sizeOf9
  v9 := Tryz.zeroValue9
  t20 := Tryz.underlying20
  a20 := Tryz.isAgg20
  z20 := Tryz.sizeOf20
  v20 := Tryz.zeroValue20
  t21 := Tryz.underlying21
  a21 := Tryz.isAgg21
  z21 := Tryz.sizeOf21
  v21 := Tryz.zeroValue21
  t37 := Tryz.underlying53
  a37 := Tryz.isAgg53
  z37 := Tryz.sizeOf53
  v37 := Tryz.zeroValue53
  t46 := Tryz.underlying145
  a46 := Tryz.isAgg145
  z46 := Tryz.sizeOf145
  v46 := Tryz.zeroValue145
  t51 := Tryz.underlying192
  a51 := Tryz.isAgg192
  z51 := Tryz.sizeOf192
  v51 := Tryz.zeroValue192
  t53 := Tryz.underlying101
  a53 := Tryz.isAgg101
  z53 := Tryz.sizeOf101
  v53 := Tryz.zeroValue101
  t75 := Tryz.underlying66
  a75 := Tryz.isAgg66
  z75 := Tryz.sizeOf66
  v75 := Tryz.zeroValue66
  t76 := Tryz.underlying141
  a76 := Tryz.isAgg141
  z76 := Tryz.sizeOf141
  v76 := Tryz.zeroValue141
  t85 := Tryz.underlying222
  a85 := Tryz.isAgg222
  z85 := Tryz.sizeOf222
  v85 := Tryz.zeroValue222
  t127 := Tryz.underlying253
  a127 := Tryz.isAgg253
  z127 := Tryz.sizeOf253
  v127 := Tryz.zeroValue253
  t143 := Tryz.underlying254
  a143 := Tryz.isAgg254
  z143 := Tryz.sizeOf254
  v143 := Tryz.zeroValue254
  t145 := Tryz.underlying256
  a145 := Tryz.isAgg256
  z145 := Tryz.sizeOf256
  v145 := Tryz.zeroValue256
  t167 := Tryz.underlying221
  a167 := Tryz.isAgg221
  z167 := Tryz.sizeOf221
  v167 := Tryz.zeroValue221
  t168 := Tryz.underlying224
  a168 := Tryz.isAgg224
  z168 := Tryz.sizeOf224
  v168 := Tryz.zeroValue224
  t171 := Tryz.underlying147
  a171 := Tryz.isAgg147
  z171 := Tryz.sizeOf147
  v171 := Tryz.zeroValue147
  t173 := Tryz.underlying150
  a173 := Tryz.isAgg150
  z173 := Tryz.sizeOf150
  v173 := Tryz.zeroValue150
  t175 := Tryz.underlying242
  a175 := Tryz.isAgg242
  z175 := Tryz.sizeOf242
  v175 := Tryz.zeroValue242
  t210 := Tryz.underlying245
  a210 := Tryz.isAgg245
  z210 := Tryz.sizeOf245
  v210 := Tryz.zeroValue245
  t212 := Tryz.underlying191
  a212 := Tryz.isAgg191
  z212 := Tryz.sizeOf191
  v212 := Tryz.zeroValue191
  t213 := Tryz.underlying193
  a213 := Tryz.isAgg193
  z213 := Tryz.sizeOf193
  t232 := Tryz.underlying247
  a232 := Tryz.isAgg247
  z232 := Tryz.sizeOf247
  v232 := Tryz.zeroValue247
  t233 := Tryz.underlying248
  a233 := Tryz.isAgg248
  z233 := Tryz.sizeOf248
  v233 := Tryz.zeroValue248
  g15 := by kernel_rfl
  g16 := by kernel_rfl
  g17 := by kernel_rfl
  g18 := by kernel_rfl
  g19 := by kernel_rfl }
open Go.RowKit in
theorem Tryz.strconv_Atoi (s : ByteArray) (n : Int) (hl : s.size ≤ 18) (h : Lib.atoi s.data.toList = some n) (w : World) :
    Calls Tryz.prog 65 #[.string s] w fun e w' => e = .returned (.tuple #[.int .i64 n, .nilIface]) ∧ ∃ t, w' = Lib.bytesWorld w 5 t := Any.strconv_Atoi Tryz.lays172 s n hl h w
def Tryz.laysM171_ren : Go.Shelf.Ren := ⟨fun | 171 => 21 | 243 => 32 | 246 => 47 | 283 => 73 | 284 => 74 | 285 => 75 | 286 => 76 | 129 => 104 | 317 => 103 | 318 => 105 | 319 => 106 | 320 => 107 | 337 => 135 | 338 => 136 | n => n, fun | 3 => 3 | 9 => 9 | 2 => 2 | 4 => 4 | 171 => 147 | 0 => 0 | 53 => 101 | 37 => 53 | 5 => 5 | 173 => 150 | 212 => 191 | 51 => 192 | 20 => 20 | 213 => 193 | 46 => 145 | 232 => 247 | 233 => 248 | n => n, fun | 17 => 11 | 18 => 16 | 19 => 17 | n => n⟩
theorem Tryz.laysM171 : Go.Proofs.LaysM.n171 Tryz.prog Tryz.laysM171_ren := {
  mixed := by kernel_rfl
  f129 := Tryz.func104.trans (congrArg some (by kernel_rfl))
  f171 := Tryz.func21.trans (congrArg some (by kernel_rfl))
  f243 := Tryz.func32.trans (congrArg some (by kernel_rfl))
  f246 := Tryz.func47.trans (congrArg some (by kernel_rfl))
  f283 := Tryz.func73.trans (congrArg some (by kernel_rfl))
  f284 := Tryz.func74.trans (congrArg some (by kernel_rfl))
  f285 := Tryz.func75.trans (congrArg some (by kernel_rfl))
  f286 := Tryz.func76.trans (congrArg some (by kernel_rfl))
  f317 := Tryz.func103.trans (congrArg some (by kernel_rfl))
  f318 := Tryz.func105.trans (congrArg some (by kernel_rfl))
  f319 := Tryz.func106.trans (congrArg some (by kernel_rfl))
  f320 := Tryz.func107.trans (congrArg some (by kernel_rfl))
  f337 := Tryz.func135.trans (congrArg some (by kernel_rfl))
  f338 := Tryz.func136.trans (congrArg some (by kernel_rfl))
  t0 := Tryz.underlying0
  a0 := Tryz.isAgg0
  z0 := Tryz.sizeOf0
  v0 := Tryz.zeroValue0
  t2 := Tryz.underlying2
  a2 := Tryz.isAgg2
  z2 := Tryz.sizeOf2
  v2 := Tryz.zeroValue2
  t3 := Tryz.underlying3
  a3 := Tryz.isAgg3
  z3 := Tryz.sizeOf3
  v3 := Tryz.zeroValue3
  t4 := Tryz.underlying4
  a4 := Tryz.isAgg4
  z4 := Tryz.sizeOf4
  v4 := Tryz.zeroValue4
  t5 := Tryz.underlying5
  a5 := Tryz.isAgg5
  z5 := Tryz.sizeOf5
  v5 := Tryz.zeroValue5
  t9 := Tryz.underlying9
  a9 := Tryz.isAgg9
  z9 := Tryz.sizeOf9
  v9 := Tryz.zeroValue9
  t20 := Tryz.underlying20
  a20 := Tryz.isAgg20
  z20 := Tryz.sizeOf20
  v20 := Tryz.zeroValue20
  t37 := Tryz.underlying53
  a37 := Tryz.isAgg53
  z37 := Tryz.sizeOf53
  v37 := Tryz.zeroValue53
  t46 := Tryz.underlying145
  a46 := Tryz.isAgg145
  z46 := Tryz.sizeOf145
  v46 := Tryz.zeroValue145
  t51 := Tryz.underlying192
  a51 := Tryz.isAgg192
  z51 := Tryz.sizeOf192
  v51 := Tryz.zeroValue192
  t53 := Tryz.underlying101
  a53 := Tryz.isAgg101
  z53 := Tryz.sizeOf101
  v53 := Tryz.zeroValue101
  t171 := Tryz.underlying147
  a171 := Tryz.isAgg147
  z171 := Tryz.sizeOf147
  v171 := Tryz.zeroValue147
  t173 := Tryz.underlying150
  a173 := Tryz.isAgg150
  z173 := Tryz.sizeOf150
  v173 := Tryz.zeroValue150
  t212 := Tryz.underlying191
  a212 := Tryz.isAgg191
  z212 := Tryz.sizeOf191
  v212 := Tryz.zeroValue191
  t213 := Tryz.underlying193
  a213 := Tryz.isAgg193
  z213 := Tryz.sizeOf193
  t232 := Tryz.underlying247
  a232 := Tryz.isAgg247
  z232 := Tryz.sizeOf247
  v232 := Tryz.zeroValue247
  t233 := Tryz.underlying248
  a233 := Tryz.isAgg248
  z233 := Tryz.sizeOf248
  v233 := Tryz.zeroValue248
  g17 := by kernel_rfl
  g18 := by kernel_rfl
  g19 := by kernel_rfl
  i0 := by kernel_rfl
  i2 := by kernel_rfl
  i3 := by kernel_rfl
  i4 := by kernel_rfl
  i5 := by kernel_rfl
  i9 := by kernel_rfl
  i20 := by kernel_rfl
  i37 := by kernel_rfl
  i46 := by kernel_rfl
  i51 := by kernel_rfl
  i53 := by kernel_rfl
  i171 := by kernel_rfl
  i173 := by kernel_rfl
  i212 := by kernel_rfl
  i232 := by kernel_rfl
  i233 := by kernel_rfl
  m17 := by kernel_rfl
  m18 := by kernel_rfl
  m19 := by kernel_rfl }
open Go.RowKit Go.Sort Go.Lib in
theorem Tryz.strconv_Itoa (n : Int) (h0 : -9223372036854775808 ≤ n) (h1 : n ≤ 9223372036854775807) (w : World) (htab : Lib.TabIs Tryz.prog w "internal/strconv.uint64pow10" .u64 Lib.pow10Tab) :
    Calls Tryz.prog 21 #[.int .i64 n] w fun e w' => e = .returned (.string ⟨(Lib.itoa n).toArray⟩) ∧ ∃ k os, w' = grow (w.drewN k) os := Any.strconv_Itoa Tryz.laysM171 n h0 h1 w htab
def Tryz.lays148_ren : Go.Shelf.Ren := ⟨fun | 148 => 94 | 222 => 123 | 223 => 124 | 269 => 149 | n => n, fun | 9 => 9 | 3 => 3 | 4 => 4 | 5 => 5 | 146 => 240 | 51 => 192 | 46 => 145 | n => n, fun | n => n⟩
theorem Tryz.lays148 : Go.Proofs.Lays.n148 Tryz.prog Tryz.lays148_ren := {
  mixed := by kernel_rfl
  f148 := Tryz.func94.trans (congrArg some (by kernel_rfl))
  f222 := Tryz.func123.trans (congrArg some (by kernel_rfl))
  f223 := Tryz.func124.trans (congrArg some (by kernel_rfl))
  f269 := Tryz.func149.trans (congrArg some (by kernel_rfl))
  t3 := Tryz.underlying3
  a3 := Tryz.isAgg3
  z3 := Tryz.sizeOf3
  v3 := Tryz.zeroValue3
  t4 := Tryz.underlying4
  a4 := Tryz.isAgg4
  z4 := Tryz.sizeOf4
  v4 := Tryz.zeroValue4
  t5 := Tryz.underlying5
  a5 := Tryz.isAgg5
  z5 := Tryz.sizeOf5
  v5 := Tryz.zeroValue5
  t9 := Tryz.underlying9
  a9 := Tryz.isAgg9
  z9 := Tryz.sizeOf9
  v9 := Tryz.zeroValue9
  t46 := Tryz.underlying145
  a46 := Tryz.isAgg145
  z46 := Tryz.sizeOf145
  v46 := Tryz.zeroValue145
  t51 := Tryz.underlying192
  a51 := Tryz.isAgg192
  z51 := Tryz.sizeOf192
  v51 := Tryz.zeroValue192
  t146 := Tryz.underlying240
  a146 := Tryz.isAgg240
  z146 := Tryz.sizeOf240
  v146 := Tryz.zeroValue240 }
open Go.RowKit Go.Lib in
theorem Tryz.strings_LastIndex (s sub : ByteArray) (hs : s.size < 4611686018427387904) (w : World) :
    Calls Tryz.prog 94 #[.string s, .string sub] w fun e w' => e = .returned (.int .i64 (Lib.lastIndex s.data.toList sub.data.toList)) ∧ w' = w := Any.strings_LastIndex Tryz.lays148 s sub hs w
end Go.Proofs

/-
  CONTRACTS: fault.New, isGone; package files: Load of a file that is not there.
-/
namespace Go.Proofs.YtbjgpfhbdmcbbabGreatDoor.files
open Go.RowKit dnamath dna diskm disk keep
set_option linter.unusedVariables false

/-- what the program reads of its package's variables -/
structure Gs (w : World) (a b : Addr) : Prop where
  absent : ∃ cs T fz, w.heap[9]? = some (.cells cs T fz) ∧ T = 66 ∧ cs[0]? = some (.iface 254 (.pointer (some a)))
  broken : ∃ cs T fz, w.heap[6]? = some (.cells cs T fz) ∧ T = 66 ∧ cs[0]? = some (.iface 254 (.pointer (some b)))
  bru : ∃ cs T fz, w.heap[17]? = some (.cells cs T fz) ∧ T = 248 ∧ cs[15]? = some (.int .u8 4)
  pow : ∃ cs T fz, w.heap[11]? = some (.cells cs T fz) ∧ T = 191 ∧ cs = (Lib.pow10Tab.map fun z => Value.int .u64 z).toArray

theorem g_keep {Bo : Nat} {w w' : World} (hk : Kept Bo w w') {g : Nat} {cs : Array Value} {T : TypeId} {fz : Nat × Nat} (h : w.heap[g]? = some (.cells cs T fz)) (hT : T ≠ 63 ∧ T ≠ 82 ∧ T ≠ 84 ∧ T ≠ 79) : w'.heap[g]? = some (.cells cs T fz) := by
  refine (hk.block g (lt_of_block h) ?_).trans h
  rintro ⟨cs', T', fz', h', hd⟩
  rw [h] at h'
  cases h'
  rcases hd with rfl | rfl | rfl | rfl
  · exact hT.1 rfl
  · exact hT.2.1 rfl
  · exact hT.2.2.1 rfl
  · exact hT.2.2.2 rfl
theorem Gs.kept {Bo : Nat} {w w' : World} {a b : Addr} (h : Gs w a b) (hk : Kept Bo w w') : Gs w' a b := by
  obtain ⟨⟨c1, T1, f1, h1, t1, e1⟩, ⟨c2, T2, f2, h2, t2, e2⟩, ⟨c3, T3, f3, h3, t3, e3⟩, ⟨c4, T4, f4, h4, t4, e4⟩⟩ := h
  exact ⟨⟨c1, T1, f1, g_keep hk h1 (by subst t1; decide), t1, e1⟩, ⟨c2, T2, f2, g_keep hk h2 (by subst t2; decide), t2, e2⟩, ⟨c3, T3, f3, g_keep hk h3 (by subst t3; decide), t3, e3⟩, ⟨c4, T4, f4, g_keep hk h4 (by subst t4; decide), t4, e4⟩⟩
theorem Gs.below {w w' : World} {a b : Addr} (h : Gs w a b) (hk : Below w.heap.size w w') : Gs w' a b := h.kept (Kept.ofBelow (Bo := 0) hk)
theorem g_cell {w : World} {g j : Nat} {cs : Array Value} {T : TypeId} {fz : Nat × Nat} (h : w.heap[g]? = some (.cells cs T fz)) : w.cell? ⟨g, j, none⟩ = cs[j]? := by unfold World.cell?; rw [h]; rfl
theorem Gs.absentC {w : World} {a b : Addr} (h : Gs w a b) : w.cell? ⟨9, 0, none⟩ = some (.iface 254 (.pointer (some a))) := by
  obtain ⟨c1, T1, f1, h1, t1, e1⟩ := h.absent; rw [g_cell h1]; exact e1
theorem Gs.brokenC {w : World} {a b : Addr} (h : Gs w a b) : w.cell? ⟨6, 0, none⟩ = some (.iface 254 (.pointer (some b))) := by
  obtain ⟨c1, T1, f1, h1, t1, e1⟩ := h.broken; rw [g_cell h1]; exact e1
theorem Gs.bruC {w : World} {a b : Addr} (h : Gs w a b) : hex.BruIs w := by
  obtain ⟨c1, T1, f1, h1, t1, e1⟩ := h.bru; unfold hex.BruIs; rw [g_cell h1]; exact e1
theorem gPow : Tryz.prog.globalNamed "internal/strconv.uint64pow10" = some 11 := by kernel_rfl
theorem Gs.powC {w : World} {a b : Addr} (h : Gs w a b) : Lib.TabIs Tryz.prog w "internal/strconv.uint64pow10" .u64 Lib.pow10Tab := by
  obtain ⟨c1, T1, f1, h1, t1, e1⟩ := h.pow; unfold Lib.TabIs World.var?; rw [gPow]; simp only [Option.bind_some]; rw [h1, e1]

set_option maxHeartbeats 400000 in
set_option maxRecDepth 100000 in
theorem New_any (n : Int) (s : ByteArray) (T : TypeId) (v : Value) (w : World) :
    Calls Tryz.prog 34 #[.int .i64 n, .string s, .iface T v] w fun e w' => e = .returned (.iface 85 (.pointer (some ⟨w.heap.size, 0, none⟩))) ∧ w' = w.alloc (.cells #[.int .i64 n, .string s, .iface T v] 89) := by
  go_enter Tryz.func34, Tryz.ntmps34
  go_wp2
  go_ret
  exact ⟨rfl, rfl⟩

/-- an error that says that a file is not there -/
def Gone (w : World) (a : Addr) (v : Value) : Prop := ∃ eb n s, v = .iface 85 (.pointer (some ⟨eb, 0, none⟩)) ∧ w.heap[eb]? = some (.cells #[.int .i64 n, .string s, .iface 254 (.pointer (some a))] 89 (0, 0))
theorem Gone.kept {Bo : Nat} {w w' : World} {a : Addr} {v : Value} (h : Gone w a v) (hk : Kept Bo w w') : Gone w' a v := by
  obtain ⟨eb, n, s, rfl, h⟩ := h
  exact ⟨eb, n, s, rfl, g_keep hk h (by decide)⟩
theorem Gone.below {w w' : World} {a : Addr} {v : Value} (h : Gone w a v) (hk : Below w.heap.size w w') : Gone w' a v := h.kept (Kept.ofBelow (Bo := 0) hk)

set_option maxHeartbeats 400000 in
set_option maxRecDepth 100000 in
theorem isGone_gone (a b : Addr) (v : Value) (w : World) (hg : Gs w a b) (h : Gone w a v) :
    Calls Tryz.prog 55 #[v] w fun e w' => e = .returned (.bool true) ∧ w' = w := by
  obtain ⟨eb, n, s, rfl, h⟩ := h
  have ha := hg.absentC
  have hc : w.cell? ⟨eb, 2, none⟩ = some (.iface 254 (.pointer (some a))) := st_cell h 2
  have ct := errs.is_wrap eb a w hc
  clear hg hc h
  go_enter Tryz.func55, Tryz.ntmps55
  go_wp2_with (go_at_call 81; go_must (refine ct.mono ?_; rintro e w' ⟨rfl, rfl⟩))
  go_ret
  exact ⟨rfl, rfl⟩

set_option maxHeartbeats 400000 in
set_option maxRecDepth 100000 in
theorem isGone_nil (a b : Addr) (w : World) (hg : Gs w a b) :
    Calls Tryz.prog 55 #[.nilIface] w fun e w' => e = .returned (.bool false) ∧ w' = w := by
  have ha := hg.absentC
  have hb := hg.brokenC
  clear hg
  go_enter Tryz.func55, Tryz.ntmps55
  go_wp2_with (go_at_call 81; go_must (refine (errs.is_nil _ _).mono ?_; rintro e w' ⟨rfl, hw'⟩; have hw2 := hw'.symm; subst hw2))
  go_ret
  exact ⟨rfl, rfl⟩

/-- a file's struct: it lies in block b from place o on -/
structure FileAt (Bo : Nat) (w : World) (b o : Nat) (cs : Array Value) (T : TypeId) (p : Nat) (n h : ByteArray) (sum wr : Nat) (wv : Value) (W : List UInt8) : Prop where
  blk : w.heap[b]? = some (.cells cs T (0, 0))
  ty : T ≠ 63 ∧ T ≠ 82 ∧ T ≠ 84 ∧ T ≠ 79 ∧ T ≠ 5
  c0 : cs[o]? = some (.pointer (some ⟨p, 0, none⟩))
  c1 : cs[o + 1]? = some (.string n)
  c2 : cs[o + 2]? = some (.string h)
  c3 : cs[o + 3]? = some (.int .u64 (sum : Int))
  c4 : cs[o + 4]? = some (.int .i64 (wr : Int))
  c5 : cs[o + 5]? = some wv
  own : w.ownsRow Bo 5 1 wv W.length (ucells W)
  big : Bo ≤ w.heap.size

theorem size_none {S : DS} {n : ByteArray} (h : S.look n = none) : S.size n = (0, false) := by unfold DS.size; rw [h]
theorem all_none {S : DS} {n : ByteArray} (h : S.look n = none) : DS.all S n = (⟨#[]⟩, false) := by unfold DS.all; rw [h]

set_option maxHeartbeats 1000000 in
set_option maxRecDepth 100000 in
theorem Load_absent {Bo : Nat} (b o p : Nat) (S : DS) (N : Nat) (n h : ByteArray) (a bb : Addr) (w : World) (hD : Disk Bo w p S) (ho : S.Ok N) (hN : N ≤ 1000000) (hF : S.Fine) (hg : Gs w a bb)
    (h0 : w.cell? ⟨b, o, none⟩ = some (.pointer (some ⟨p, 0, none⟩))) (h1 : w.cell? ⟨b, o + 1, none⟩ = some (.string n)) (hl : S.look n = none) :
    Calls Tryz.prog 63 #[.pointer (some ⟨b, o, none⟩)] w fun e w' => ∃ v, e = .returned (.tuple #[.string ⟨#[]⟩, v]) ∧ Gone w' a v ∧ Below w.heap.size w w' := by
  have hs0 := size_none hl
  have ha0 := all_none hl
  obtain ⟨vF, vN, vS, vT, hDA⟩ := hD
  have csz : ∀ W, Still w W → Calls Tryz.prog 69 #[.pointer (some ⟨p, 0, none⟩), .string n] W fun e w' => e = .returned (.tuple #[.int .i64 0, .bool false]) ∧ Still W w' := fun W hW => by
    have := Size_any p S N vF vN vS vT n W (hDA.still hW) ho hN
    rw [hs0] at this
    exact this
  have crd : ∀ W, Still w W → Calls Tryz.prog 92 #[.pointer (some ⟨p, 0, none⟩), .string n, .int .i64 0, .int .i64 0] W fun e w' => e = .returned (.tuple #[.string ⟨#[]⟩, .bool false]) ∧ Still W w' := fun W hW => by
    have := Read_any p S N n W ⟨_, _, _, _, hDA.still hW⟩ ho hN (fun f hf => by rw [hl] at hf; cases hf)
    rw [hs0, ha0] at this
    exact this
  have hnd : S.dead = false := by unfold DS.dead; rw [hF.life]; rfl
  have cdd : ∀ W, Still w W → Calls Tryz.prog 37 #[.pointer (some ⟨p, 0, none⟩)] W fun e w' => e = .returned (.bool false) ∧ w' = W := fun W hW => by
    have := Dead_any p S vF vN vS vT W (hDA.still hW)
    rw [hnd] at this
    exact this
  have hab := hg.absentC
  clear hs0 ha0 hnd hl hF ho hDA hg
  go_enter Tryz.func63, Tryz.ntmps63
  go_wp2
  go_quiet ((go_at_call 69; exact Still.quiet (csz _ (Still.drewN _ _))))
  obtain ⟨W1, hW1⟩ : ∃ W, W = w.drewN nq := ⟨_, rfl⟩
  have S1 : Still w W1 := by rw [hW1]; exact Still.drewN _ _
  rw [← S1.cell] at h0 h1 hab
  rw [← hW1]
  clear hW1
  go_wp2
  go_quiet ((go_at_call 92; exact Still.quiet (crd _ (S1.trans (Still.drewN _ _)))))
  obtain ⟨W2, hW2⟩ : ∃ W, W = W1.drewN nq := ⟨_, rfl⟩
  have S2 : Still w W2 := by rw [hW2]; exact S1.trans (Still.drewN _ _)
  rw [S1.cell, ← S2.cell] at h0 h1 hab
  rw [← hW2]
  clear hW2
  go_wp2_with (go_at_call 37; go_must (refine (cdd _ S2).mono ?_; rintro e w3 ⟨rfl, hw3⟩; have hw4 := hw3.symm; subst hw4))
  go_region_with (go_at_call 34; go_must (refine (New_any _ _ _ _ _).mono ?_; rintro e w4 ⟨rfl, rfl⟩))
  all_goals
    go_wp2
    go_ret2
    refine ⟨_, rfl, ⟨_, _, _, rfl, heap_alloc_new _ _⟩, ?_⟩
    exact (S2.below _).trans (((⟨rfl, rfl, rfl, rfl, Nat.le_add_right _ _⟩ : Still W2 W2.drew).below _).trans ((Below.refl _ _).alloc (by rw [show W2.drew.heap = W2.heap from rfl, S2.heap]; exact Nat.le_refl _) _))
end Go.Proofs.YtbjgpfhbdmcbbabGreatDoor.files
