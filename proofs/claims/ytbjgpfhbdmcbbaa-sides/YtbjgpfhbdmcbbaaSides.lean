/-
  THE STATEMENT Sides: the walk, the row, the claim's theorem.
-/
import Derived.Test.YtbjgpfhbdmcbbaaRows
import Derived.Test.YtbjgpfhbdmcbbaaRef1
import Derived.WalkKit
import Derived.ProofKit
import Derived.OpenShut
import Derived.ShutString
import Derived.ChangeOld
import Derived.Below
import Derived.SizedLaws
namespace Go.Proofs.Ytbjgpfhbdmcbbaa.sides
open Go.ChangeShapes Go.WideShapes Go.ChangeAt Go.RowKit
open Go.ChangeMaps (open_string shut_string)
open Go.Proofs.Ytbjgpfhbdmcbbaa.dnamath Go.Proofs.Ytbjgpfhbdmcbbaa.dna
set_option linter.unusedVariables false

theorem own : ownKnob Try.prog.godebug = none := by kernel_rfl
theorem laidOut : laidOutB Try.prog = true := by kernel_rfl

theorem bytes_eq {a b : ByteArray} (h : a.data.toList = b.data.toList) : a = b := by
  apply ByteArray.ext; exact Array.toList_inj.1 h
theorem turnedIs_unique {s a b : ByteArray} {e f : Int} (h1 : TurnedIs s a e) (h2 : TurnedIs s b f) : b = a ∧ f = e := by
  rcases h1 with ⟨p, rfl, h1⟩ | ⟨p, rfl, h1⟩ <;> rcases h2 with ⟨q, rfl, h2⟩ | ⟨q, rfl, h2⟩
  · exact ⟨bytes_eq (by rw [h1, h2]), rfl⟩
  · rw [p] at q; cases q
  · rw [p] at q; cases q
  · exact ⟨bytes_eq (by rw [h1, h2]), rfl⟩
theorem canonIs_unique {s a b : ByteArray} {e f : Int} (h1 : CanonIs s a e) (h2 : CanonIs s b f) : b = a ∧ f = e := by
  rcases h1 with ⟨p, rfl, h1⟩ | ⟨p, rfl, h1⟩ <;> rcases h2 with ⟨q, rfl, h2⟩ | ⟨q, rfl, h2⟩
  · exact ⟨bytes_eq (by rw [h1, h2]), rfl⟩
  · rw [p] at q; cases q
  · rw [p] at q; cases q
  · exact ⟨bytes_eq (by rw [h1, h2]), rfl⟩
theorem markIs_unique {s a b : ByteArray} {m e f : Int} (h1 : MarkIs s m a e) (h2 : MarkIs s m b f) : b = a ∧ f = e := by
  rcases h1 with ⟨p, rfl, h1⟩ | ⟨p, rfl, h1⟩ <;> rcases h2 with ⟨q, rfl, h2⟩ | ⟨q, rfl, h2⟩
  · exact ⟨bytes_eq (h2.unique h1), rfl⟩
  · exact absurd p q
  · exact absurd q p
  · exact ⟨bytes_eq (by rw [h1, h2]), rfl⟩

set_option maxHeartbeats 1000000 in
theorem walk (s : ByteArray) (m : Int) (w : World) (hs : s.size ≤ 140737488351232) :
    Calls Try.prog 3 #[.string s, .int .i64 m] w fun e w' => e = .returned (.bool true) ∧ Below w.heap.size w w' := by
  go_enter Try.func3, Try.ntmps3
  go_wp2_with (go_at_call 5; refine (dna.Turned_any s _ hs).mono ?_; rintro e w1 ⟨a, n1, rfl, ha, hb1⟩)
  refine (ref.Turned_any s _ hs).mono ?_
  rintro e w1' ⟨b, n1', rfl, hb, rfl⟩
  obtain ⟨rfl, rfl⟩ := turnedIs_unique ha hb
  clear ha hb
  go_wp2_with (go_at_call 7; refine (dna.Canon_any s _ hs).mono ?_; rintro e w2 ⟨c, n2, rfl, hc, hb2⟩)
  refine (ref.Canon_any s _ hs).mono ?_
  rintro e w2' ⟨d, n2', rfl, hd, rfl⟩
  obtain ⟨rfl, rfl⟩ := canonIs_unique hc hd
  clear hc hd
  go_wp2_with (go_at_call 9; refine (dna.Mark_any s m _ hs).mono ?_; rintro e w3 ⟨x, n3, rfl, hx, hb3⟩)
  refine (ref.Mark_any s m _ hs).mono ?_
  rintro e w3' ⟨y, n3', rfl, hy, rfl⟩
  obtain ⟨rfl, rfl⟩ := markIs_unique hx hy
  clear hx hy
  go_wp2
  go_ret
  exact ⟨rfl, hb1.trans ((hb2.mono hb1.size).trans (hb3.mono (Nat.le_trans hb1.size hb2.size)))⟩

set_option maxRecDepth 100000 in
theorem lifted (os : Os) (started : os.Started) (H : Type) (enc : TypeId × Value → H) :
    ReturnsInHanded {} Try.checked os 3 .any (Rows.sidesSpec.pre6 enc Try.prog Try.f3 Rows.sidesRow.domain false) (Rows.sidesSpec.post enc Try.prog Try.f3 false true false false) := by
  refine returnsInHanded_of_change_sized (C := Try.checked) own started (by kernel_rfl) Try.func3
    (ChangeSpec.witness6 (enc := enc) (C := Try.checked) false ⟨#[], #[.string ByteArray.empty, .int .i64 0], []⟩ 8 (by kernel_rfl) (by kernel_rfl) (by kernel_rfl) (by kernel_rfl)) ?_
  intro W base args ds gs before hval0 hW hcnd hsz0 _
  have hval : ∀ (j : Nat) t v, Try.f3.params[j]? = some t → args[j]? = some v → Value.okWide Try.prog W .any base t v := hval0
  have hsz : (DataW.weightsEach Try.prog (Try.f3.params.toList ++ Rows.sidesSpec.plain.varTypes Try.prog) (ds ++ gs)).all (· ≤ reachBytes) = true := hsz0
  have hW' := hW
  obtain ⟨p, q, hA0, hV, rfl, hfz, hnd⟩ := hW
  have hA : DataW.TrodAll enc Try.prog W 0 (fun _ => true) true Try.f3.params.toList args.toList ds p := hA0
  rw [Try.params3] at hA hval hsz
  obtain ⟨v0, vs0, d0, ds0, p0, q0, hargs, rfl, rfl, h0, r0⟩ := trodAll_cons hA
  obtain ⟨v1, vs1, d1, ds1, p1, q1, rfl, rfl, rfl, h1, r1⟩ := trodAll_cons r0
  obtain ⟨rfl, rfl, rfl⟩ := trodAll_nil r1
  obtain rfl : args = #[v0, v1] := by cases args; simp_all
  obtain ⟨rfl, rfl⟩ := trodVars_none hV
  obtain ⟨a0, rfl, rfl, rfl, w0⟩ := open_string Try.underlying9 (hval 0 9 v0 rfl rfl) h0
  obtain ⟨a1, rfl, rfl, rfl, w1⟩ := open_int Try.underlying3 (hval 1 3 v1 rfl rfl) h1
  have hreach := sized_string hsz (j := 0) (t := 9) rfl rfl
  have hr : a0.size ≤ 140737488351232 := by rw [Lib.size_eq]; simpa [reachBytes] using hreach
  clear hA0 hval0 hsz0 hsz
  simp only [List.append_nil] at hW'
  refine (walk a0 a1 W hr).mono fun e W' ⟨he, bel⟩ => ?_
  subst he
  exact ⟨_, rfl, _, _, _, [], [], [], hW', trodAll_mk1 (shut_bool Try.underlying4 _), (trodAll_cons_mk (shut_string Try.underlying9 w0) (trodAll_cons_mk (shut_int Try.underlying3 w1) trodAll_mk0)), rfl, bel.frame _, fun h => by cases h⟩

theorem over : Rows.sidesRow.holds Try.pinned (OpenSpec.ofChange Rows.sidesSpec) :=
  OpenClaim.holds_of_wide 3 Try.f3 rfl rfl rfl rfl rfl rfl rfl ⟨rfl, rfl, rfl, rfl, rfl⟩ rfl rfl rfl rfl rfl (by kernel_rfl) Try.func3 (by kernel_rfl)
    (of_decide_eq_true (by kernel_rfl)) (by unfold Func.isWrapper; first | (rw [if_pos (by decide +kernel)]; kernel_rfl) | (rw [if_neg (by decide +kernel)]; exact ⟨rfl, rfl⟩))
    (fun os started H enc _ => lifted os started H enc)

theorem proved : Rows.SidesSaid := over
end Go.Proofs.Ytbjgpfhbdmcbbaa.sides
namespace Go.Proofs.Ytbjgpfhbdmcbbaa
theorem sides_holds : Rows.SidesSaid := sides.proved
#print axioms sides_holds
end Go.Proofs.Ytbjgpfhbdmcbbaa
