/-
  THE STATEMENT Sided: the walk, the row, the claim's theorem.
-/
import Derived.Test.YtbjgpfhbdmcbbaaRows
import Derived.Test.YtbjgpfhbdmcbbaaKeep1
import Derived.WalkKit
import Derived.ProofKit
import Derived.OpenShut
import Derived.ShutString
import Derived.ChangeOld
import Derived.Below
namespace Go.Proofs.Ytbjgpfhbdmcbbaa.sided
open Go.ChangeShapes Go.WideShapes Go.ChangeAt Go.RowKit
open Go.ChangeMaps (open_string shut_string)
open Go.Proofs.Ytbjgpfhbdmcbbaa.dnamath Go.Proofs.Ytbjgpfhbdmcbbaa.dna Go.Proofs.Ytbjgpfhbdmcbbaa.keep
set_option linter.unusedVariables false

theorem own : ownKnob Try.prog.godebug = none := by kernel_rfl
theorem laidOut : laidOutB Try.prog = true := by kernel_rfl

theorem bytes_eq {a b : ByteArray} (h : a.data.toList = b.data.toList) : a = b := by
  apply ByteArray.ext; exact Array.toList_inj.1 h

theorem minL_comm (a b : List UInt8) : minL a b = minL b a := by
  have h1 := min_cases a b
  apply List.le_antisymm
  · rcases min_cases b a with h | h
    · rw [h]; exact le_of_min_right a b
    · rw [h]; exact le_of_min_left a b
  · rcases h1 with h | h
    · rw [h]; exact le_of_min_right b a
    · rw [h]; exact le_of_min_left b a

theorem both_turn {l : List UInt8} {m : Nat} (h : l.all isB = true) (x : List UInt8) : Both (turn l) m x ↔ Both l m x := by
  unfold Both
  rw [turn_turn h]
  exact Or.comm

theorem word_of_ok {l : List UInt8} (h : okL false l) (hne : l ≠ []) : wordB l = true := by
  unfold wordB
  rw [h.2 rfl]
  cases l with
  | nil => exact absurd rfl hne
  | cons a l => rfl

/-- what the calls answer about a word -/
structure Answers (s t u a b x y : ByteArray) (n : Nat) : Prop where
  tt : t.data.toList = turn s.data.toList
  ts : t.size = s.size
  u : u = s
  ab : b = a
  am : Lib.minS s t = a
  xy : y = x
  xs : x.size = n
  x : Least (Both s.data.toList n) x.data.toList

theorem less_false {s x : ByteArray} {k n : Nat} {S : List UInt8 → Prop} (hx : ∀ z, S z → x.data.toList ≤ z) (hk : k + n ≤ s.size) (hS : S (cut s.data.toList k n)) : Op.bytesLess (s.extract k (k + n)).toList x.toList = false := by
  rw [bytesLess_eq, Lib.toList_data, Lib.toList_data, cut_extract]
  exact decide_eq_false (List.not_lt.2 (hx _ hS))

def There (l x : List UInt8) (n k : Nat) : Prop := ∃ i, i < k ∧ (cut l i n = x ∨ cut (turn l) i n = x)
theorem there_zero {l x : List UInt8} {n : Nat} : false = true ↔ There l x n 0 := by
  constructor
  · intro h; cases h
  · rintro ⟨i, h, _⟩; omega
theorem there_end {l x : List UInt8} {n k : Nat} (hx : Both l n x) (h : l.length < k + n) : There l x n k := by
  rcases hx with ⟨i, hi, e⟩ | ⟨i, hi, e⟩
  · exact ⟨i, by omega, .inl e.symm⟩
  · exact ⟨i, by rw [turn_length] at hi; omega, .inr e.symm⟩
theorem there_step {s t x : ByteArray} {n k : Nat} {th : Bool} (ht : t.data.toList = turn s.data.toList) (h : th = true ↔ There s.data.toList x.data.toList n k) (b : Bool)
    (hb : b = (th || ((s.extract k (k + n)).toList == x.toList) || ((t.extract k (k + n)).toList == x.toList))) : b = true ↔ There s.data.toList x.data.toList n (k + 1) := by
  rw [hb, Bool.or_eq_true, Bool.or_eq_true, h, beq_iff_eq, beq_iff_eq, Lib.toList_data, Lib.toList_data, Lib.toList_data, cut_extract, cut_extract, ht]
  constructor
  · rintro ((⟨i, hi, e⟩ | e) | e)
    · exact ⟨i, by omega, e⟩
    · exact ⟨k, by omega, .inl e⟩
    · exact ⟨k, by omega, .inr e⟩
  · rintro ⟨i, hi, e⟩
    by_cases hik : i = k
    · subst hik
      rcases e with e | e
      · exact .inl (.inr e)
      · exact .inr e
    · exact .inl (.inl ⟨i, by omega, e⟩)

theorem turned_ok {s r : ByteArray} {n : Int} (h : TurnedIs s r n) (hw : wordB s.data.toList = true) : n = 0 ∧ r.data.toList = turn s.data.toList := by
  rcases h with ⟨_, h1, h2⟩ | ⟨h, _⟩
  · exact ⟨h1, h2⟩
  · rw [hw] at h; cases h
theorem canon_ok {s r : ByteArray} {n : Int} (h : CanonIs s r n) (hw : wordB s.data.toList = true) : n = 0 ∧ r.data.toList = minL s.data.toList (turn s.data.toList) := by
  rcases h with ⟨_, h1, h2⟩ | ⟨h, _⟩
  · exact ⟨h1, h2⟩
  · rw [hw] at h; cases h
theorem mark_ok {s r : ByteArray} {m : Nat} {n : Int} (h : MarkIs s (m : Int) r n) (hw : wordB s.data.toList = true) (h1 : 1 ≤ m) (hm : m ≤ s.size) : n = 0 ∧ Least (Both s.data.toList m) r.data.toList := by
  rcases h with ⟨_, h1, h2⟩ | ⟨h, _⟩
  · exact ⟨h1, by simpa using h2⟩
  · exact absurd ⟨hw, by omega, by omega⟩ h

set_option maxHeartbeats 2000000 in
set_option maxRecDepth 100000 in
theorem walk (a0 : Option Addr) (len0 cap0 : Nat) (z0 : List Int) (m : Int) (w : World) (w0 : IsRow w a0 len0 cap0 z0) (hm : -9223372036854775808 ≤ m ∧ m ≤ 9223372036854775807) :
    Calls Try.prog 4 #[.slice a0 len0 cap0, .int .i64 m] w fun e w' => e = .returned (.bool true) ∧ Below w.heap.size w w' := by
  go_enter Try.func4, Try.ntmps4
  go_wp2_with fail
  refine (letters_any a0 len0 cap0 z0 false w w0).mono ?_
  rintro e w1 ⟨s, rfl, hs60, hok, hb1⟩
  have hs : s.size ≤ 140737488351232 := by omega
  by_cases h0 : s.size = 0
  · have := empty_of h0
    subst this
    clear hok
    go_wp2_with fail
    refine (Turned_any _ _ hs).mono ?_
    rintro e w2 ⟨r2, n2, rfl, h2, hb2⟩
    obtain rfl : n2 = 1 := by rcases h2 with ⟨h, _⟩ | ⟨_, h, _⟩; (simp [wordB] at h); exact h
    clear h2
    go_wp2_with fail
    refine (Canon_any _ _ hs).mono ?_
    rintro e w3 ⟨r3, n3, rfl, h3, hb3⟩
    obtain rfl : n3 = 1 := by rcases h3 with ⟨h, _⟩ | ⟨_, h, _⟩; (simp [wordB] at h); exact h
    clear h3
    go_wp2_with fail
    refine (Mark_any _ _ _ hs).mono ?_
    rintro e w4 ⟨r4, n4, rfl, h4, hb4⟩
    obtain rfl : n4 = 1 := by rcases h4 with ⟨⟨h, _⟩, _⟩ | ⟨_, h, _⟩; (simp [wordB] at h); exact h
    clear h4
    go_wp2
    go_ret
    exact ⟨rfl, hb1.trans ((hb2.mono hb1.size).trans ((hb3.mono (Nat.le_trans hb1.size hb2.size)).trans (hb4.mono (Nat.le_trans hb1.size (Nat.le_trans hb2.size hb3.size)))))⟩
  · have hne : s.toList.isEmpty = false := by
      rw [Lib.toList_data]; cases hl : s.data.toList with
      | nil => exact absurd (by rw [Lib.size_eq, hl]; rfl) h0
      | cons a l => rfl
    have hw : wordB s.data.toList = true := word_of_ok hok (fun e => h0 (by rw [Lib.size_eq, e]; rfl))
    have HW : Hid (wordB s.data.toList = true) := hw
    have HO : Hid (okL false s.data.toList) := hok
    clear hw hok
    go_wp2_with fail
    refine (pick_any m s.size _ hm (by omega) (by omega)).mono ?_
    rintro e w1' ⟨p, rfl, hp, rfl⟩
    obtain ⟨n, hn⟩ : ∃ n : Nat, n = 1 + p := ⟨_, rfl⟩
    have hN : (1 + (p : Int)) = (n : Int) := by omega
    have hn1 : 1 ≤ n := by omega
    have hns : n ≤ s.size := by omega
    clear hn hp
    go_wp2_with fail
    refine (Turned_any s _ hs).mono ?_
    rintro e w2 ⟨t, n2, rfl, h2, hb2⟩
    obtain ⟨rfl, g2⟩ := turned_ok h2 HW.out
    have hts : t.size = s.size := by rw [Lib.size_eq, g2, turn_length, ← Lib.size_eq]
    have HT : Hid (t.data.toList = turn s.data.toList) := g2
    have HWT : Hid (wordB t.data.toList = true) := by rw [g2]; exact turn_word HW.out
    clear h2 g2
    go_wp2_with fail
    refine (Turned_any t _ (by omega)).mono ?_
    rintro e w3 ⟨u, n3, rfl, h3, hb3⟩
    obtain ⟨rfl, g3⟩ := turned_ok h3 HWT.out
    obtain rfl : u = s := bytes_eq (by rw [g3, HT.out, turn_turn (HO.out.2 rfl)])
    clear h3 g3
    go_wp2_with fail
    refine (Canon_any u _ hs).mono ?_
    rintro e w4 ⟨a, n4, rfl, h4, hb4⟩
    obtain ⟨rfl, g4⟩ := canon_ok h4 HW.out
    have HA : Hid (a.data.toList = minL u.data.toList (turn u.data.toList)) := g4
    clear h4 g4
    go_wp2_with fail
    refine (Canon_any t _ (by omega)).mono ?_
    rintro e w5 ⟨b, n5, rfl, h5, hb5⟩
    obtain ⟨rfl, g5⟩ := canon_ok h5 HWT.out
    obtain rfl : b = a := bytes_eq (by rw [g5, HA.out, HT.out, turn_turn (HO.out.2 rfl), minL_comm])
    clear h5 g5
    have hmm : Lib.minS u t = b := bytes_eq (by rw [minS_data, HA.out, HT.out])
    go_wp2_with fail
    refine (Mark_any u n _ hs).mono ?_
    rintro e w6 ⟨x, n6, rfl, h6, hb6⟩
    obtain ⟨rfl, g6⟩ := mark_ok h6 HW.out hn1 hns
    have hxs : (x.size : Int) = (n : Int) := by rw [both_size g6]
    have HX : Hid (Least (Both u.data.toList n) x.data.toList) := g6
    clear h6 g6
    go_wp2_with fail
    refine (Mark_any t n _ (by omega)).mono ?_
    rintro e w7 ⟨y, n7, rfl, h7, hb7⟩
    obtain ⟨rfl, g7⟩ := mark_ok h7 HWT.out hn1 (by omega)
    obtain rfl : y = x := bytes_eq (by
      rw [HT.out] at g7
      exact (g7.congr (both_turn (HO.out.2 rfl))).unique HX.out)
    clear h7 g7
    have hbAll : Below w.heap.size w w7 := hb1.trans ((hb2.mono hb1.size).trans ((hb3.mono (Nat.le_trans hb1.size hb2.size)).trans ((hb4.mono (Nat.le_trans hb1.size (Nat.le_trans hb2.size hb3.size))).trans ((hb5.mono (Nat.le_trans hb1.size (Nat.le_trans hb2.size (Nat.le_trans hb3.size hb4.size)))).trans ((hb6.mono (Nat.le_trans hb1.size (Nat.le_trans hb2.size (Nat.le_trans hb3.size (Nat.le_trans hb4.size hb5.size))))).trans (hb7.mono (Nat.le_trans hb1.size (Nat.le_trans hb2.size (Nat.le_trans hb3.size (Nat.le_trans hb4.size (Nat.le_trans hb5.size hb6.size)))))))))))
    clear hb1 hb2 hb3 hb4 hb5 hb6 hb7
    have hmin := @Lib.run_min_strs Try.prog
    go_wp2
    go_loop [25, 26] (fun th i => ∃ (k : Nat) (q : Bool), k + n ≤ u.size + 1 ∧ i = .int .i64 k ∧ th = .bool q ∧ Hid (q = true ↔ There u.data.toList y.data.toList n k)) (fun _ i => u.size + 1 - (intOf i).toNat)
    case atStart => exact ⟨0, false, by omega, rfl, rfl, there_zero⟩
    case round =>
      obtain ⟨k, q, hk, rfl, rfl, hq⟩ := hrel
      by_cases hlt : k + n ≤ u.size
      · have hsl := slice_km u k n hlt hs
        have hsl2 := slice_km t k n (by omega) (by omega)
        have hl1 := less_false (s := u) (x := y) (k := k) (n := n) HX.out.2 hlt (.inl ⟨k, by rw [← Lib.size_eq]; exact hlt, rfl⟩)
        have hl2 := less_false (s := t) (x := y) (k := k) (n := n) HX.out.2 (by omega) (.inr ⟨k, by rw [← HT.out, ← Lib.size_eq]; omega, by rw [HT.out]⟩)
        cases q with
        | true =>
          go_wp2
          go_round
          case rel => exact ⟨k + 1, true, by omega, by go_num, rfl, there_step HT.out hq.out true (by simp)⟩
          case measure => simp [intOf]; omega
        | false =>
          cases q1 : ((u.extract k (k + n)).toList == y.toList) with
          | true =>
            go_wp2
            go_round
            case rel => exact ⟨k + 1, true, by omega, by go_num, rfl, there_step HT.out hq.out true (by rw [q1]; simp)⟩
            case measure => simp [intOf]; omega
          | false =>
            cases q2 : ((t.extract k (k + n)).toList == y.toList) with
            | true =>
              go_wp2
              go_round
              case rel => exact ⟨k + 1, true, by omega, by go_num, rfl, there_step HT.out hq.out true (by rw [q1, q2]; simp)⟩
              case measure => simp [intOf]; omega
            | false =>
              go_wp2
              go_round
              case rel => exact ⟨k + 1, false, by omega, by go_num, rfl, there_step HT.out hq.out false (by rw [q1, q2]; simp)⟩
              case measure => simp [intOf]; omega
      · go_wp2
        go_ret
        have : q = true := hq.out.2 (there_end HX.out.1 (by rw [← Lib.size_eq]; omega))
        subst this
        exact ⟨rfl, hbAll⟩
/-! ### THE ROW's STEP: WRITTEN OUT: LEAVE IT -/
set_option maxRecDepth 100000 in
theorem lifted (os : Os) (started : os.Started) (H : Type) (enc : TypeId × Value → H) :
    ReturnsInHanded {} Try.checked os 4 .any (Rows.sidedSpec.pre6 enc Try.prog Try.f4 Rows.sidedRow.domain false) (Rows.sidedSpec.post enc Try.prog Try.f4 false true false false) := by
  refine returnsInHanded_of_change (C := Try.checked) own started (by kernel_rfl) Try.func4
    (ChangeSpec.witness6 (enc := enc) (C := Try.checked) false ⟨#[], #[.slice none 0 0, .int .i64 0], []⟩ 8 (by kernel_rfl) (by kernel_rfl) (by kernel_rfl) (by kernel_rfl)) ?_
  intro W base args ds gs before hval0 hW hcnd _
  have hval : ∀ (j : Nat) t v, Try.f4.params[j]? = some t → args[j]? = some v → Value.okWide Try.prog W .any base t v := hval0
  have hW' := hW
  obtain ⟨p, q, hA0, hV, rfl, hfz, hnd⟩ := hW
  have hA : DataW.TrodAll enc Try.prog W 0 (fun _ => true) true Try.f4.params.toList args.toList ds p := hA0
  rw [Try.params4] at hA hval
  obtain ⟨v0, vs0, d0, ds0, p0, q0, hargs, rfl, rfl, h0, r0⟩ := trodAll_cons hA
  obtain ⟨v1, vs1, d1, ds1, p1, q1, rfl, rfl, rfl, h1, r1⟩ := trodAll_cons r0
  obtain ⟨rfl, rfl, rfl⟩ := trodAll_nil r1
  obtain rfl : args = #[v0, v1] := by cases args; simp_all
  obtain ⟨rfl, rfl⟩ := trodVars_none hV
  obtain ⟨a0, len0, cap0, rfl⟩ := okWide_slice Try.underlying27 (hval 0 27 v0 rfl rfl)
  have k0 := h0
  have lt0 : ∀ x ∈ p0, x.block < W.heap.size := by obtain ⟨m, hm⟩ := k0; exact DataW.trod_lt m _ _ _ hm
  obtain ⟨z0, w0⟩ : ∃ zs, IsRow W a0 len0 cap0 zs := by
    obtain ⟨fuel, hf⟩ := h0
    rcases open_ints Try.underlying27 Try.underlying3 (by kernel_rfl) hf with ⟨hcs, _⟩ | ⟨x, l, c, zs, hcs, _, hl, hm, hz, _, hcell, hwz⟩
    · simp [Value.cells] at hcs
      obtain ⟨rfl, rfl, rfl⟩ := hcs
      exact ⟨[], .inl ⟨rfl, rfl, rfl, rfl⟩⟩
    · simp [Value.cells] at hcs
      obtain ⟨rfl, rfl, rfl⟩ := hcs
      exact ⟨zs, .inr ⟨_, rfl, hl, hm, by simpa using hz, hcell, hwz⟩⟩
  obtain ⟨a1, rfl, rfl, rfl, w1⟩ := open_int Try.underlying3 (hval 1 3 v1 rfl rfl) h1
  clear hA0 hval0
  refine (walk a0 len0 cap0 z0 a1 W w0 (bounds_i64 w1)).mono fun e W' ⟨he, bel⟩ => ?_
  subst he
  exact ⟨_, rfl, _, _, _, [], _, [], hW', trodAll_mk1 (shut_bool Try.underlying4 _), (trodAll_cons_mk (Below.trod laidOut (by kernel_rfl) (of_decide_eq_true (by kernel_rfl)) k0 bel lt0) (trodAll_cons_mk (shut_int Try.underlying3 w1) trodAll_mk0)), rfl, bel.frame _, fun h => by cases h⟩

theorem over : Rows.sidedRow.holds Try.pinned (OpenSpec.ofChange Rows.sidedSpec) :=
  OpenClaim.holds_of_wide 4 Try.f4 rfl rfl rfl rfl rfl rfl rfl ⟨rfl, rfl, rfl, rfl, rfl⟩ rfl rfl rfl rfl rfl (by kernel_rfl) Try.func4 (by kernel_rfl)
    (of_decide_eq_true (by kernel_rfl)) (by unfold Func.isWrapper; first | (rw [if_pos (by decide +kernel)]; kernel_rfl) | (rw [if_neg (by decide +kernel)]; exact ⟨rfl, rfl⟩))
    (fun os started H enc _ => lifted os started H enc)

/-- ████ THE STATEMENT ████ -/
theorem proved : Rows.SidedSaid := over


end Go.Proofs.Ytbjgpfhbdmcbbaa.sided
namespace Go.Proofs.Ytbjgpfhbdmcbbaa
theorem sided_holds : Rows.SidedSaid := sided.proved
#print axioms sided_holds
end Go.Proofs.Ytbjgpfhbdmcbbaa
