/-
  THE WALK OF Cuts.
-/
import Derived.Test.YtbjgpfhbdmcbbaaDoorRef2
import Derived.Test.YtbjgpfhbdmcbbaaDoorFill3
namespace Go.Proofs.YtbjgpfhbdmcbbaaDoor.cuts
open Go.RowKit Go.Proofs.YtbjgpfhbdmcbbaaDoor.dnamath Go.Proofs.YtbjgpfhbdmcbbaaDoor.dna Go.Proofs.YtbjgpfhbdmcbbaaDoor.pieces Go.Proofs.YtbjgpfhbdmcbbaaDoor.fill
set_option linter.unusedVariables false

/-- what either side answers -/
def Ans (base : Nat) (s : ByteArray) (k m : Int) (w : World) (v : Value) (n : Int) (ps : List ByteArray) : Prop :=
  w.ownsRow base 9 1 v ps.length (scells ps) ∧ ps.length ≤ 4000000 ∧ ((May s k m ∧ n = 0 ∧ datas ps = piecesL s.data.toList k.toNat m.toNat) ∨ (¬ May s k m ∧ n = 1 ∧ ps = []))

theorem datas_inj : ∀ {a b : List ByteArray}, datas a = datas b → a = b
  | [], [], _ => rfl
  | [], _ :: _, h => by simp [datas] at h
  | _ :: _, [], h => by simp [datas] at h
  | x :: a, y :: b, h => by
    simp only [datas, List.map_cons, List.cons.injEq] at h
    have e1 : x = y := by apply ByteArray.ext; exact Array.toList_inj.1 h.1
    have e2 : a = b := datas_inj h.2
    rw [e1, e2]

theorem ans_unique {base base' : Nat} {s : ByteArray} {k m : Int} {w w' : World} {v v' : Value} {n n' : Int} {ps ps' : List ByteArray} (h : Ans base s k m w v n ps) (h' : Ans base' s k m w' v' n' ps') : ps' = ps ∧ n' = n := by
  obtain ⟨_, _, h⟩ := h
  obtain ⟨_, _, h'⟩ := h'
  rcases h with ⟨a, rfl, b⟩ | ⟨a, rfl, b⟩ <;> rcases h' with ⟨c, rfl, d⟩ | ⟨c, rfl, d⟩
  · exact ⟨datas_inj (by rw [b, d]), rfl⟩
  · exact absurd a c
  · exact absurd c a
  · exact ⟨by rw [b, d], rfl⟩

theorem pieces_len {l : List UInt8} {k m : Nat} {ps : List ByteArray} (h : datas ps = piecesL l k m) (hl : l.length ≤ 3000000) : ps.length ≤ 4000000 := by
  rw [← datas_length, h]
  have h2 : (piecesL l k m).length ≤ l.length + 1 := R_len (l := l) (k := k) (m := m) (l.length + 1)
  omega

theorem dna_ans (s : ByteArray) (k m : Int) (w : World) (hl : s.size ≤ 3000000) :
    Calls Tryd.prog 13 #[.string s, .int .i64 k, .int .i64 m] w fun e w' => ∃ v n ps, e = .returned (.tuple #[v, .int .i64 n]) ∧ Ans w.heap.size s k m w' v n ps ∧ Below w.heap.size w w' := by
  refine (Pieces_any s k m w (by omega)).mono fun e w' ⟨v, n, he, hp, hb⟩ => ?_
  rcases hp with ⟨hm, rfl, ps, hown, hd⟩ | ⟨hm, rfl, rfl⟩
  · exact ⟨v, 0, ps, he, ⟨own_base hown (by omega), pieces_len hd (by rw [← Lib.size_eq]; exact hl), .inl ⟨hm, rfl, hd⟩⟩, hb⟩
  · exact ⟨_, 1, [], he, ⟨World.ownsRow_nil _ _ _ _, by simp, .inr ⟨hm, rfl, rfl⟩⟩, hb⟩

theorem ref_ans (s : ByteArray) (k m : Int) (w : World) (hl : s.size ≤ 3000000) :
    Calls Tryd.prog 12 #[.string s, .int .i64 k, .int .i64 m] w fun e w' => ∃ v n ps, e = .returned (.tuple #[v, .int .i64 n]) ∧ Ans w.heap.size s k m w' v n ps ∧ Below w.heap.size w w' := by
  by_cases h : 1 ≤ k ∧ k ≤ 31 ∧ 1 ≤ m ∧ m ≤ k
  · obtain ⟨k', rfl⟩ : ∃ k' : Nat, k = (k' : Int) := ⟨k.toNat, by omega⟩
    obtain ⟨m', rfl⟩ : ∃ m' : Nat, m = (m' : Int) := ⟨m.toNat, by omega⟩
    refine (ref.Pieces_yes s k' m' w (by omega) (by omega) (by omega) (by omega) (by omega)).mono fun e w' hh => ?_
    rcases hh with ⟨hr, he, hw⟩ | ⟨hr, v, ps, he, hown, hd, hb⟩
    · subst hw
      exact ⟨_, 1, [], he, ⟨World.ownsRow_nil _ _ _ _, by simp, .inr ⟨fun hm => (by have h5 := hm.2.2.2.2; rw [hr] at h5; cases h5), rfl, rfl⟩⟩, Below.refl _ _⟩
    · exact ⟨v, 0, ps, he, ⟨hown, pieces_len hd (by rw [← Lib.size_eq]; exact hl), .inl ⟨⟨by omega, by omega, by omega, by omega, hr⟩, rfl, by simpa using hd⟩⟩, hb⟩
  · refine (ref.Pieces_no s k m w (by omega) h).mono fun e w' ⟨he, hw⟩ => ?_
    subst hw
    exact ⟨_, 1, [], he, ⟨World.ownsRow_nil _ _ _ _, by simp, .inr ⟨fun hm => h ⟨hm.1, hm.2.1, hm.2.2.1, hm.2.2.2.1⟩, rfl, rfl⟩⟩, Below.refl _ _⟩

set_option maxHeartbeats 2000000 in
set_option maxRecDepth 100000 in
theorem walk (s : ByteArray) (k m : Int) (w : World) (hl : s.size ≤ 3000000) :
    Calls Tryd.prog 4 #[.string s, .int .i64 k, .int .i64 m] w fun e w' => e = .returned (.bool true) ∧ Below w.heap.size w w' := by
  go_enter Tryd.func4, Tryd.ntmps4
  go_wp2_with fail
  refine (ref_ans s k m w hl).mono ?_
  rintro e w1 ⟨v, n, ps, rfl, A1, b1⟩
  have S1 : SRow w1 v ps := srow_of_own A1.1
  have HL : ps.length ≤ 4000000 := A1.2.1
  go_wp2_with fail
  refine (dna_ans s k m w1 hl).mono ?_
  rintro e w2 ⟨x, n2, ps2, rfl, A2, b2⟩
  obtain ⟨hps2, hn2⟩ := ans_unique A1 A2
  subst hn2
  have hx : w2.ownsRow w1.heap.size 9 1 x ps.length (scells ps) := by rw [← hps2]; exact A2.1
  have S1' := S1.later b2
  have S2 := srow_of_own hx
  clear A2 hps2
  go_wp2_with fail
  refine (sameTexts_any x v ps w2 S2 S1' (by omega)).mono ?_
  rintro e w3 ⟨rfl, b3⟩
  have hx3 := own_later hx b3
  clear hx S2
  go_wp2_with fail
  refine (fill_any w1.heap.size x ps _ w3 hx3 (Nat.le_trans b2.size b3.size) HL).mono ?_
  rintro e w4 ⟨ov, rfl, F4, b4⟩
  have b14 : Below w1.heap.size w1 w4 := (b2.trans (b3.mono b2.size)).trans b4
  have S4 := S1.later b14
  clear hx3 S1'
  go_wp2_with fail
  refine (dna_ans s k m w4 hl).mono ?_
  rintro e w5 ⟨y, n5, ps5, rfl, A5, b5⟩
  obtain ⟨hps5, hn5⟩ := ans_unique A1 A5
  subst hn5
  have hy : w5.ownsRow w4.heap.size 9 1 y ps.length (scells ps) := by rw [← hps5]; exact A5.1
  have S5 := S4.later b5
  have SY := srow_of_own hy
  clear A5 hps5 A1
  go_wp2_with fail
  refine (sameTexts_any y v ps w5 SY S5 (by omega)).mono ?_
  rintro e w6 ⟨rfl, b6⟩
  have hy6 := own_later hy b6
  clear hy SY
  go_wp2_with fail
  refine (fill_any w4.heap.size y ps _ w6 hy6 (Nat.le_trans b5.size b6.size) HL).mono ?_
  rintro e w7 ⟨ov2, rfl, F7, b7⟩
  have b47 : Below w4.heap.size w4 w7 := (b5.trans (b6.mono b5.size)).trans b7
  have F47 := F4.later b47
  clear hy6 F4
  go_wp2_with fail
  refine (filled_any ov _ w7 F47).mono ?_
  rintro e w8 ⟨rfl, rfl⟩
  go_wp2_with fail
  refine (filled_any ov2 _ _ F7).mono ?_
  rintro e w9 ⟨rfl, rfl⟩
  have bAll := b1.trans ((b14.mono b1.size).trans (b47.mono (Nat.le_trans b1.size b14.size)))
  clear F47 F7 b47 b7 b6 b5 b4 b3 b2 S1 S4 S5
  go_wp2
  go_ret
  exact ⟨rfl, bAll⟩
end Go.Proofs.YtbjgpfhbdmcbbaaDoor.cuts
