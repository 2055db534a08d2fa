/-
  THE WALK OF Written.
-/
import Derived.Test.YtbjgpfhbdmcbbaaDoorKeep4
import Derived.Test.YtbjgpfhbdmcbbaaDoorPa5
namespace Go.Proofs.YtbjgpfhbdmcbbaaDoor.written
open Go.RowKit Go.Proofs.YtbjgpfhbdmcbbaaDoor.dnamath Go.Proofs.YtbjgpfhbdmcbbaaDoor.dna Go.Proofs.YtbjgpfhbdmcbbaaDoor.pieces Go.Proofs.YtbjgpfhbdmcbbaaDoor.fill Go.Proofs.YtbjgpfhbdmcbbaaDoor.parse Go.Proofs.YtbjgpfhbdmcbbaaDoor.keep
set_option linter.unusedVariables false

theorem datas_inj : ∀ {a b : List ByteArray}, datas a = datas b → a = b
  | [], [], _ => rfl
  | [], _ :: _, h => by simp [datas] at h
  | _ :: _, [], h => by simp [datas] at h
  | x :: a, y :: b, h => by
    simp only [datas, List.map_cons, List.cons.injEq] at h
    have e1 : x = y := by apply ByteArray.ext; exact Array.toList_inj.1 h.1
    have e2 : a = b := datas_inj h.2
    rw [e1, e2]

theorem cell_later {w w' : World} {a : Addr} {v : Value} (h : w.cell? a = some v) (hb : Below w.heap.size w w') : w'.cell? a = some v := (hb.cell (World.block_lt_of_cell? _ _ h)).trans h

/-- Parse of what was written -/
theorem parse_back (v : Value) (ps : List ByteArray) (s : ByteArray) (a : Addr) (w : World) (hv : SRow w v ps) (hs : s.size ≤ 20000) (hE : EndIs w a) (hf : FormIs s (datas ps)) :
    Calls Tryd.prog 8 #[.string s] w fun e w' => ∃ x, e = .returned (.tuple #[x, .int .i64 0]) ∧ SRow w' x ps ∧ SRow w' v ps ∧ Below w.heap.size w w' := by
  refine (Parse_any s a (datas ps) w hs hE hf).mono fun e w' ⟨x, ps', he, hown, hd, hb⟩ => ?_
  have hps := datas_inj hd
  subst hps
  exact ⟨x, he, srow_of_own hown, hv.later hb, hb⟩

set_option maxHeartbeats 2000000 in
set_option maxRecDepth 100000 in
theorem walk (a0 : Option Addr) (len cap : Nat) (form wide : Int) (a : Addr) (w : World) (hrow : IsRows w a0 len) (hf : -9223372036854775808 ≤ form ∧ form ≤ 9223372036854775807) (hw : -9223372036854775808 ≤ wide ∧ wide ≤ 9223372036854775807)
    (hE : EndIs w a) (hT : TypeIs w) (hF : FormErr w) :
    Calls Tryd.prog 5 #[.slice a0 len cap, .int .i64 form, .int .i64 wide] w fun e w' => e = .returned (.bool true) ∧ Below w.heap.size w w' := by
  have hf' := wide_ok (form + 1)
  obtain ⟨af, hF⟩ := hF
  go_enter Tryd.func5, Tryd.ntmps5
  go_wp2_with fail
  refine (reads_any a0 len cap w hrow).mono ?_
  rintro e w1 ⟨v, ps, rfl, hown, hps, b1⟩
  have S1 : SRow w1 v ps := srow_of_own hown
  have E1 : EndIs w1 a := cell_later hE b1
  have T1 : TypeIs w1 := cell_later hT b1
  have F1 := cell_later hF b1
  clear hown hE hT hF hrow
  go_wp2_with fail
  refine (written_any v ps form wide w1 S1 hps hf hw).mono ?_
  rintro e w2 ⟨s, rfl, hs, hfm, b2⟩
  have S2 := S1.later b2
  have E2 : EndIs w2 a := cell_later E1 b2
  have T2 : TypeIs w2 := cell_later T1 b2
  have F2 := cell_later F1 b2
  clear S1 E1 T1 F1
  go_wp2_with fail
  refine (parse_back v ps s a w2 S2 hs E2 hfm).mono ?_
  rintro e w3 ⟨x, rfl, SX, S3, b3⟩
  have E3 : EndIs w3 a := cell_later E2 b3
  have T3 : TypeIs w3 := cell_later T2 b3
  have F3 := cell_later F2 b3
  clear S2 E2 T2 F2 hfm hs
  go_wp2_with fail
  refine (written_any v ps _ wide w3 S3 hps hf' hw).mono ?_
  rintro e w4 ⟨s2, rfl, hs2, hfm2, b4⟩
  have S4 := S3.later b4
  have SX4 := SX.later b4
  have E4 : EndIs w4 a := cell_later E3 b4
  have T4 : TypeIs w4 := cell_later T3 b4
  have F4 := cell_later F3 b4
  clear S3 SX E3 T3 F3
  go_wp2_with fail
  refine (parse_back v ps s2 a w4 S4 hs2 E4 hfm2).mono ?_
  rintro e w5 ⟨y, rfl, SY, S5, b5⟩
  have SX5 := SX4.later b5
  have T5 : TypeIs w5 := cell_later T4 b5
  have F5 := cell_later F4 b5
  clear S4 SX4 E4 T4 F4 hfm2 hs2
  have hl := hps.1
  go_wp2_with fail
  refine (keep.sameTexts_any x v ps w5 SX5 S5 (by omega)).mono ?_
  rintro e w6 ⟨rfl, b6⟩
  have S6 := S5.later b6
  have SY6 := SY.later b6
  have T6 : TypeIs w6 := cell_later T5 b6
  have F6 := cell_later F5 b6
  clear S5 SY SX5 T5 F5
  go_wp2_with fail
  refine (keep.sameTexts_any y v ps w6 SY6 S6 (by omega)).mono ?_
  rintro e w7 ⟨rfl, b7⟩
  have T7 : TypeIs w7 := cell_later T6 b7
  have F7 := cell_later F6 b7
  clear S6 SY6 T6 F6
  go_wp2_with fail
  refine (Parse_A w7 T7 ⟨_, F7⟩).mono ?_
  rintro e w8 ⟨rfl, b8⟩
  have B12 := b1.trans (b2.mono b1.size)
  have B13 := B12.trans (b3.mono B12.size)
  have B14 := B13.trans (b4.mono B13.size)
  have B15 := B14.trans (b5.mono B14.size)
  have B16 := B15.trans (b6.mono B15.size)
  have B17 := B16.trans (b7.mono B16.size)
  have B18 : Hid (Below w.heap.size w w8) := B17.trans (b8.mono B17.size)
  clear B12 B13 B14 B15 B16 B17 b1 b2 b3 b4 b5 b6 b7 b8 T7 F7 hps
  go_wp2
  go_ret
  exact ⟨rfl, B18.out⟩
end Go.Proofs.YtbjgpfhbdmcbbaaDoor.written
