import Derived.Test.YtbjgpfhbdmcbbabGreatDoorProg
import Derived.WalkKit
import Derived.LaidEql
import Derived.Stop.Asserts
import Derived.RowKitTokens
import Derived.Test.YtbjgpfhbdmcbbabGreatDoorP13
import Derived.Test.YtbjgpfhbdmcbbabGreatDoorP26
import Derived.Test.YtbjgpfhbdmcbbabGreatDoorP11
import Derived.Test.YtbjgpfhbdmcbbabGreatDoorP24

/-
  errors.As at a target of type **fault.Fault, the error's own type being *fault.Fault (after the guide's worked example).
-/
namespace Go.Proofs.YtbjgpfhbdmcbbabGreatDoor.errs
open Go.RowKit Go.Extern.Stop Go.Stop Go.Extern
set_option linter.unusedVariables false

theorem valueOfPP (t : Addr) (w : World) : (ReflectliteValue.unpack (.iface 87 (.pointer (some t)))).run Tryz.prog w
    = .ok (.agg #[.pointer (some ⟨27, 87, none⟩), .pointer (some ⟨w.heap.size, 0, none⟩), .int .u64 150]) (w.alloc (.cells #[.pointer (some t)] 87)) := by kernel_rfl
theorem typePP (a : Addr) (w : World) : (ReflectliteValue.methodAny (ReflectliteValue.valueError "reflectlite.Value.Type" 0) (fun t _ _ _ => ReflectliteType.toType t) #[.agg #[.pointer (some ⟨27, 87, none⟩), .pointer (some a), .int .u64 150]]).run Tryz.prog w
    = .ok (.iface 153 (.agg #[.pointer (some ⟨27, 87, none⟩)])) w := by kernel_rfl
theorem methodKind (h : Value) (w : World) : (Go.method 414 153 (.agg #[h]) "Kind").run Tryz.prog w = .ok (215, h) w := by kernel_rfl
theorem kindPP (w : World) : ((ReflectliteType.abiMethod fun t => (fun a : Nat => Value.int IntKind.u8 (a : Int)) <$> Rtype.kind t) #[.pointer (some ⟨27, 87, none⟩)]).run Tryz.prog w = .ok (.int .u8 22) w := by kernel_rfl
theorem kindP (w : World) : ((ReflectliteType.abiMethod fun t => (fun a : Nat => Value.int IntKind.u8 (a : Int)) <$> Rtype.kind t) #[.pointer (some ⟨27, 85, none⟩)]).run Tryz.prog w = .ok (.int .u8 22) w := by kernel_rfl

theorem rlm (z : Sem Value) (f : TypeId → Addr → Nat → Nat → Sem Value) (v : Value) :
    ReflectliteValue.method z f #[v] = (do match ← ReflectliteValue.parts v with | none => z | some (t, a, fl) => f t a fl (fl % 32)) := rfl
theorem partsPP (a : Addr) (w : World) : (ReflectliteValue.parts (.agg #[.pointer (some ⟨27, 87, none⟩), .pointer (some a), .int .u64 150])).run Tryz.prog w = .ok (some (87, a, 150)) w := by kernel_rfl
theorem isNilPP (a p : Addr) (W : World) (ha : W.cell? a = some (.pointer (some p))) :
    (ReflectliteValue.method (ReflectliteValue.valueError "reflectlite.Value.IsNil" 0) ReflectliteValue.isNil #[.agg #[.pointer (some ⟨27, 87, none⟩), .pointer (some a), .int .u64 150]]).run Tryz.prog W = .ok (.bool false) W := by
  rw [rlm]
  simp only [Sem.run_bind, partsPP, Result.andThen]
  simp [ReflectliteValue.isNil, loadVar, isAgg, underlying, Tryz.underlying87, ha, Result.andThen]

theorem methodElem (h : Value) (w : World) : (Go.method 414 153 (.agg #[h]) "Elem").run Tryz.prog w = .ok (227, .agg #[h]) w := by kernel_rfl
theorem methodImplements (h : Value) (w : World) : (Go.method 414 153 (.agg #[h]) "Implements").run Tryz.prog w = .ok (228, .agg #[h]) w := by kernel_rfl
theorem methodAssignableTo (h : Value) (w : World) : (Go.method 414 153 (.agg #[h]) "AssignableTo").run Tryz.prog w = .ok (225, .agg #[h]) w := by kernel_rfl
theorem elemPP (w : World) : (ReflectliteType.method ReflectliteType.elem #[.agg #[.pointer (some ⟨27, 87, none⟩)]]).run Tryz.prog w = .ok (.iface 153 (.agg #[.pointer (some ⟨27, 85, none⟩)])) w := by kernel_rfl
theorem implementsP (w : World) : (ReflectliteType.relation "Implements" ReflectliteType.implements_ #[.agg #[.pointer (some ⟨27, 85, none⟩)], .iface 153 (.agg #[.pointer (some ⟨27, 66, none⟩)])]).run Tryz.prog w = .ok (.bool true) w := by kernel_rfl
theorem typeOfP (v : Value) (w : World) : (ReflectliteType.typeOf #[.iface 85 v]).run Tryz.prog w = .ok (.iface 153 (.agg #[.pointer (some ⟨27, 85, none⟩)])) w := by kernel_rfl
theorem assignableP (w : World) : (ReflectliteType.relation "AssignableTo" ReflectliteType.assignableTo #[.agg #[.pointer (some ⟨27, 85, none⟩)], .iface 153 (.agg #[.pointer (some ⟨27, 85, none⟩)])]).run Tryz.prog w = .ok (.bool true) w := by kernel_rfl
theorem valueOfP (e : Addr) (w : World) : (ReflectliteValue.unpack (.iface 85 (.pointer (some e)))).run Tryz.prog w
    = .ok (.agg #[.pointer (some ⟨27, 85, none⟩), .pointer (some ⟨w.heap.size, 0, none⟩), .int .u64 150]) (w.alloc (.cells #[.pointer (some e)] 85)) := by kernel_rfl

theorem elemOfPP (w : World) : (Rtype.elem? 87).run Tryz.prog w = .ok (some 85) w := by kernel_rfl
theorem mkP (p : Addr) (w : World) : (ReflectliteValue.mk 85 p ReflectliteValue.flagAddr).run Tryz.prog w = .ok (.agg #[.pointer (some ⟨27, 85, none⟩), .pointer (some p), .int .u64 406]) w := by kernel_rfl
theorem elemVPP (a p : Addr) (W : World) (ha : W.cell? a = some (.pointer (some p))) :
    (ReflectliteValue.method (ReflectliteValue.valueError "reflectlite.Value.Elem" 0) ReflectliteValue.elem #[.agg #[.pointer (some ⟨27, 87, none⟩), .pointer (some a), .int .u64 150]]).run Tryz.prog W
      = .ok (.agg #[.pointer (some ⟨27, 85, none⟩), .pointer (some p), .int .u64 406]) W := by
  rw [rlm]
  simp only [Sem.run_bind, partsPP, Result.andThen]
  simp [ReflectliteValue.elem, loadVar, isAgg, underlying, Tryz.underlying87, ha, Result.andThen, elemOfPP, mkP]
theorem rls (v x : Value) : ReflectliteValue.set #[v, x] = (do
    let (some (dst, a, fl), some (src, b, _)) := (← ReflectliteValue.parts v, ← ReflectliteValue.parts x)
      | unsupported (.noEntry "extern/(internal/reflectlite.Value).Set.zeroValue")
    if fl / ReflectliteValue.flagAddr % 2 == 0 then unsupported (.noEntry "extern/(internal/reflectlite.Value).Set.unaddressable")
    let val ← loadVar src b
    if ← Rtype.directlyAssignable dst src then storeVar dst a val
    else if ← Rtype.implements dst src then
      if (← Rtype.kind src) == 20 then
        match val with
        | .nilIface => unsupported (.noEntry "extern/reflectlite: a nil value of one interface type handed on as a value of another")
        | _ => storeVar dst a val
      else storeVar dst a (.iface src val)
    else panicString ("reflectlite.Set: value of type " ++ (← Rtype.spelt src) ++ " is not assignable to type " ++ (← Rtype.spelt dst))
    pure (.tuple #[])) := rfl
theorem partsPa (a : Addr) (w : World) : (ReflectliteValue.parts (.agg #[.pointer (some ⟨27, 85, none⟩), .pointer (some a), .int .u64 406])).run Tryz.prog w = .ok (some (85, a, 406)) w := by kernel_rfl
theorem partsP (a : Addr) (w : World) : (ReflectliteValue.parts (.agg #[.pointer (some ⟨27, 85, none⟩), .pointer (some a), .int .u64 150])).run Tryz.prog w = .ok (some (85, a, 150)) w := by kernel_rfl
theorem directP (w : World) : (Rtype.directlyAssignable 85 85).run Tryz.prog w = .ok true w := by kernel_rfl
theorem sizeP (w : World) : (sizeOf 85).run Tryz.prog w = .ok 1 w := by kernel_rfl
theorem setP (ta b e : Addr) (old : Value) (W : World) (hb : W.cell? b = some (.pointer (some e))) (ht : W.cell? ta = some old) (hf : W.frozen? ta = false) :
    (ReflectliteValue.set #[.agg #[.pointer (some ⟨27, 85, none⟩), .pointer (some ta), .int .u64 406], .agg #[.pointer (some ⟨27, 85, none⟩), .pointer (some b), .int .u64 150]]).run Tryz.prog W
      = .ok (.tuple #[]) (W.setCell ta (.pointer (some e))) := by
  rw [rls]
  simp only [Sem.run_bind, partsPa, partsP, Result.andThen]
  simp [ReflectliteValue.flagAddr, loadVar, isAgg, underlying, Tryz.underlying85, hb, Result.andThen, directP, storeVar, Value.cells, storeCells, Addr.add]
  rw [run_store Tryz.prog W ta _ _ (by rfl)]
  simp [ht, hf]

set_option maxHeartbeats 8000000 in
set_option maxRecDepth 100000 in
theorem as_hit (e t : Addr) (old : Value) (w : World) (hg : w.cell? ⟨4, 0, none⟩ = some (.iface 153 (.agg #[.pointer (some ⟨27, 66, none⟩)]))) (ht0 : w.cell? t = some old) (hf0 : w.frozen? t = false) :
    Calls Tryz.prog 33 #[.iface 85 (.pointer (some e)), .iface 87 (.pointer (some t))] w fun ev w' => ev = .returned (.bool true) ∧ w' = ((((w.alloc (.cells #[.pointer (some t)] 87)).alloc (.cells #[.pointer (some ⟨27, 87, none⟩), .pointer (some ⟨w.heap.size, 0, none⟩), .int .u64 150] 115)).alloc (.cells #[.pointer (some ⟨27, 87, none⟩), .pointer (some ⟨w.heap.size, 0, none⟩), .int .u64 150] 115)).alloc (.cells #[.pointer (some e)] 85)).setCell t (.pointer (some e)) := by
  have h6 := @run_callFunc_extern Tryz.prog 48 _ (fun args => ReflectliteValue.unpack (args.getD 0 (.tuple #[]))) Tryz.func48 (by kernel_rfl) (by kernel_rfl) (by kernel_rfl) (by kernel_rfl)
  have h7 := @run_callFunc_extern Tryz.prog 49 _ (ReflectliteValue.methodAny (ReflectliteValue.valueError "reflectlite.Value.Type" 0) (fun t _ _ _ => ReflectliteType.toType t)) Tryz.func49 (by kernel_rfl) (by kernel_rfl) (by kernel_rfl) (by kernel_rfl)
  have h8 := @run_callFunc_extern Tryz.prog 50 _ (ReflectliteValue.method (ReflectliteValue.valueError "reflectlite.Value.IsNil" 0) ReflectliteValue.isNil) Tryz.func50 (by kernel_rfl) (by kernel_rfl) (by kernel_rfl) (by kernel_rfl)
  have h27 := @run_callFunc_extern Tryz.prog 215 _ (ReflectliteType.abiMethod fun t => do pure (.int .u8 (← Rtype.kind t))) Tryz.func215 (by kernel_rfl) (by kernel_rfl) (by kernel_rfl) (by kernel_rfl)
  have h37 := @run_callFunc_extern Tryz.prog 227 _ (ReflectliteType.method ReflectliteType.elem) Tryz.func227 (by kernel_rfl) (by kernel_rfl) (by kernel_rfl) (by kernel_rfl)
  have h38 := @run_callFunc_extern Tryz.prog 228 _ (ReflectliteType.relation "Implements" ReflectliteType.implements_) Tryz.func228 (by kernel_rfl) (by kernel_rfl) (by kernel_rfl) (by kernel_rfl)
  have h10 := @run_callFunc_extern Tryz.prog 77 _ ReflectliteType.typeOf Tryz.func77 (by kernel_rfl) (by kernel_rfl) (by kernel_rfl) (by kernel_rfl)
  have h35 := @run_callFunc_extern Tryz.prog 225 _ (ReflectliteType.relation "AssignableTo" ReflectliteType.assignableTo) Tryz.func225 (by kernel_rfl) (by kernel_rfl) (by kernel_rfl) (by kernel_rfl)
  have h11 := @run_callFunc_extern Tryz.prog 78 _ (ReflectliteValue.method (ReflectliteValue.valueError "reflectlite.Value.Elem" 0) ReflectliteValue.elem) Tryz.func78 (by kernel_rfl) (by kernel_rfl) (by kernel_rfl) (by kernel_rfl)
  have h12 := @run_callFunc_extern Tryz.prog 79 _ ReflectliteValue.set Tryz.func79 (by kernel_rfl) (by kernel_rfl) (by kernel_rfl) (by kernel_rfl)
  have tO := typeOfP
  have mA := methodAssignableTo
  have a25 := assignableP
  have v25 := valueOfP
  have f6 := valueOfPP
  have f7 := typePP
  have mK := methodKind
  have mE := methodElem
  have mI := methodImplements
  have k27 := kindPP
  have k25 := kindP
  have e27 := elemPP
  have i25 := implementsP
  have n8 := isNilPP ⟨w.heap.size, 0, none⟩ t ((w.alloc (.cells #[.pointer (some t)] 87)).alloc (.cells #[.pointer (some ⟨27, 87, none⟩), .pointer (some ⟨w.heap.size, 0, none⟩), .int .u64 150] 115)) (by simp)
  have hlt : 4 < w.heap.size := World.block_lt_of_cell? _ _ hg
  have hg2 : ((w.alloc (.cells #[.pointer (some t)] 87)).alloc (.cells #[.pointer (some ⟨27, 87, none⟩), .pointer (some ⟨w.heap.size, 0, none⟩), .int .u64 150] 115)).cell? ⟨4, 0, none⟩ = some (.iface 153 (.agg #[.pointer (some ⟨27, 66, none⟩)])) := by
    rw [World.cell?_alloc_lt _ _ ⟨4, 0, none⟩ (by simp; omega), World.cell?_alloc_lt _ _ ⟨4, 0, none⟩ hlt]; exact hg
  have htl : t.block < w.heap.size := World.block_lt_of_cell? _ _ ht0
  have el := elemVPP ⟨w.heap.size, 0, none⟩ t (((w.alloc (.cells #[.pointer (some t)] 87)).alloc (.cells #[.pointer (some ⟨27, 87, none⟩), .pointer (some ⟨w.heap.size, 0, none⟩), .int .u64 150] 115)).alloc (.cells #[.pointer (some ⟨27, 87, none⟩), .pointer (some ⟨w.heap.size, 0, none⟩), .int .u64 150] 115)) (by rw [World.cell?_alloc_lt _ _ ⟨w.heap.size, 0, none⟩ (by simp; omega)]; simp)
  have st := setP t ⟨w.heap.size + 1 + 1 + 1, 0, none⟩ e old ((((w.alloc (.cells #[.pointer (some t)] 87)).alloc (.cells #[.pointer (some ⟨27, 87, none⟩), .pointer (some ⟨w.heap.size, 0, none⟩), .int .u64 150] 115)).alloc (.cells #[.pointer (some ⟨27, 87, none⟩), .pointer (some ⟨w.heap.size, 0, none⟩), .int .u64 150] 115)).alloc (.cells #[.pointer (some e)] 85))
    (by rw [World.cell?_alloc_at _ _ _ _ (by simp)]; rfl)
    (by rw [World.cell?_alloc_lt _ _ t (by simp; omega), World.cell?_alloc_lt _ _ t (by simp; omega), World.cell?_alloc_lt _ _ t (by simp; omega), World.cell?_alloc_lt _ _ t htl]; exact ht0)
    (by rw [World.frozen?_alloc_old _ _ t (by simp; omega), World.frozen?_alloc_old _ _ t (by simp; omega), World.frozen?_alloc_old _ _ t (by simp; omega), World.frozen?_alloc_old _ _ t (Nat.ne_of_lt htl)]; exact hf0)
  go_enter Tryz.func33, Tryz.ntmps33
  go_wp2
  refine wp_loop_rounds 1 ?_
  rw [rounds_succ]
  go_wp2
  go_ret
  exact ⟨rfl, rfl⟩
end Go.Proofs.YtbjgpfhbdmcbbabGreatDoor.errs

/-
  fault.Number at a fault; Parse of an input of no form.
-/
namespace Go.Proofs.YtbjgpfhbdmcbbabGreatDoor.parse
open Go.RowKit Go.Proofs.YtbjgpfhbdmcbbabGreatDoor.dnamath Go.Proofs.YtbjgpfhbdmcbbabGreatDoor.dna Go.Proofs.YtbjgpfhbdmcbbabGreatDoor.pieces Go.Proofs.YtbjgpfhbdmcbbabGreatDoor.lines
set_option linter.unusedVariables false

/-- the variable errors.errorType holds the type error -/
def TypeIs (w : World) : Prop := w.cell? ⟨4, 0, none⟩ = some (.iface 153 (.agg #[.pointer (some ⟨27, 66, none⟩)]))
/-- the variable errForm holds something of one cell -/
def FormErr (w : World) : Prop := ∃ a, w.cell? ⟨12, 0, none⟩ = some (.iface 254 (.pointer (some a)))

theorem as_hit' (e : Addr) (tb : Nat) (old : Value) (w : World) (hg : TypeIs w) (ht0 : w.cell? ⟨tb, 0, none⟩ = some old) (hf0 : w.frozen? ⟨tb, 0, none⟩ = false) :
    Calls Tryz.prog 33 #[.iface 85 (.pointer (some e)), .iface 87 (.pointer (some ⟨tb, 0, none⟩))] w fun ev w' => ev = .returned (.bool true) ∧ w'.cell? ⟨tb, 0, none⟩ = some (.pointer (some e)) ∧ Below tb w w' := by
  refine (errs.as_hit e ⟨tb, 0, none⟩ old w hg ht0 hf0).mono fun ev w' ⟨he, hw⟩ => ⟨he, ?_, ?_⟩
  · have hlt : tb < w.heap.size := World.block_lt_of_cell? _ _ ht0
    rw [hw]
    refine World.cell?_setCell_same (u := old) _ _ _ ?_
    rw [World.cell?_alloc_lt _ _ ⟨tb, 0, none⟩ (by simp; omega), World.cell?_alloc_lt _ _ ⟨tb, 0, none⟩ (by simp; omega), World.cell?_alloc_lt _ _ ⟨tb, 0, none⟩ (by simp; omega), World.cell?_alloc_lt _ _ ⟨tb, 0, none⟩ hlt]
    exact ht0
  · have hlt : tb < w.heap.size := World.block_lt_of_cell? _ _ ht0
    rw [hw]
    exact (((((Below.refl tb w).alloc (by omega) _).alloc (by simp; omega) _).alloc (by simp; omega) _).alloc (by simp; omega) _).setCell (Nat.le_refl _) _

set_option maxHeartbeats 1000000 in
set_option maxRecDepth 100000 in
theorem Number_any (eb : Nat) (n : Int) (w : World) (hg : TypeIs w) (hc : w.cell? ⟨eb, 0, none⟩ = some (.int .i64 n)) :
    Calls Tryz.prog 24 #[.iface 85 (.pointer (some ⟨eb, 0, none⟩))] w fun e w' => e = .returned (.int .i64 n) ∧ Below w.heap.size w w' := by
  have hlt : eb < w.heap.size := World.block_lt_of_cell? _ _ hc
  have hgl : 4 < w.heap.size := World.block_lt_of_cell? _ _ hg
  have hg1 : TypeIs (w.alloc (.cells #[.pointer none] 85)) := (World.cell?_alloc_lt _ _ ⟨4, 0, none⟩ hgl).trans hg
  have ht1 : (w.alloc (.cells #[.pointer none] 85)).cell? ⟨w.heap.size, 0, none⟩ = some (.pointer none) := by simp
  have hf1 : (w.alloc (.cells #[.pointer none] 85)).frozen? ⟨w.heap.size, 0, none⟩ = false := by simp
  have HG : Hid (TypeIs (w.alloc (.cells #[.pointer none] 85))) := hg1
  have HT : Hid ((w.alloc (.cells #[.pointer none] 85)).cell? ⟨w.heap.size, 0, none⟩ = some (.pointer none)) := ht1
  have HF : Hid ((w.alloc (.cells #[.pointer none] 85)).frozen? ⟨w.heap.size, 0, none⟩ = false) := hf1
  clear hg1 ht1 hf1 hg
  go_enter Tryz.func24, Tryz.ntmps24
  go_wp2_with fail
  refine (as_hit' ⟨eb, 0, none⟩ w.heap.size _ _ HG.out HT.out HF.out).mono ?_
  rintro e w2 ⟨rfl, hc2, hb2⟩
  have hce : w2.cell? ⟨eb, 0, none⟩ = some (.int .i64 n) := (hb2.cell (by exact hlt)).trans ((World.cell?_alloc_lt _ _ ⟨eb, 0, none⟩ hlt).trans hc)
  have HB : Hid (Below w.heap.size w w2) := ((Below.refl _ w).alloc (Nat.le_refl _) _).trans hb2
  clear hb2 hc
  go_wp2
  go_ret
  exact ⟨rfl, HB.out⟩

set_option maxHeartbeats 1000000 in
set_option maxRecDepth 100000 in
theorem Parse_A (w : World) (hg : TypeIs w) (hf : FormErr w) :
    Calls Tryz.prog 36 #[.string ⟨#[65]⟩] w fun e w' => e = .returned (.tuple #[.slice none 0 0, .int .i64 3]) ∧ Below w.heap.size w w' := by
  obtain ⟨a, ha⟩ := hf
  have HG : Hid (TypeIs w) := hg
  have hgl : 4 < w.heap.size := World.block_lt_of_cell? _ _ hg
  clear hg
  go_enter Tryz.func36, Tryz.ntmps36
  have HGA : Hid (∀ o, TypeIs (w.alloc o)) := fun o => (World.cell?_alloc_lt _ _ ⟨4, 0, none⟩ hgl).trans HG.out
  have HCA : Hid (∀ x y : Value, (w.alloc (.cells #[.int .i64 3, x, y] 89)).cell? ⟨w.heap.size, 0, none⟩ = some (.int .i64 3)) := fun x y => by simp
  go_wp2_with (first | (go_at_call 24; refine (Number_any w.heap.size 3 _ (HGA.out _) (HCA.out _ _)).mono ?_; rintro e w2 ⟨rfl, hb2⟩) | go_in)
  go_ret2
  exact ⟨rfl, ((Below.refl _ w).alloc (Nat.le_refl _) _).trans (hb2.mono (by simp))⟩
end Go.Proofs.YtbjgpfhbdmcbbabGreatDoor.parse

/-
  CONTRACTS over a disk that may die: failed, SyncNames, RemoveAll, List, Reset.
-/
namespace Go.Proofs.YtbjgpfhbdmcbbabGreatDoor.files
open Go.RowKit Go.Proofs.YtbjgpfhbdmcbbabGreatDoor.dnamath Go.Proofs.YtbjgpfhbdmcbbabGreatDoor.dna Go.Proofs.YtbjgpfhbdmcbbabGreatDoor.diskm Go.Proofs.YtbjgpfhbdmcbbabGreatDoor.disk Go.Proofs.YtbjgpfhbdmcbbabGreatDoor.keep Go.Proofs.YtbjgpfhbdmcbbabGreatDoor.hex Go.Proofs.YtbjgpfhbdmcbbabGreatDoor.pieces Go.Proofs.YtbjgpfhbdmcbbabGreatDoor.parse
set_option linter.unusedVariables false

/-- the variable errFailed holds a sentinel -/
def FailIs (w : World) : Prop := ∃ cs T fz a, w.heap[10]? = some (.cells cs T fz) ∧ T = 66 ∧ cs[0]? = some (.iface 254 (.pointer (some a)))
theorem FailIs.kept {Bo : Nat} {w w' : World} (h : FailIs w) (hk : Kept Bo w w') : FailIs w' := by
  obtain ⟨cs, T, fz, a, h1, rfl, h2⟩ := h
  exact ⟨cs, _, fz, a, g_keep hk h1 (by decide), rfl, h2⟩
theorem FailIs.below {w w' : World} (h : FailIs w) (hk : Below w.heap.size w w') : FailIs w' := h.kept (Kept.ofBelow (Bo := 0) hk)
/-- an error that says that the disk has failed -/
def DiskErr (w : World) (v : Value) : Prop := ∃ eb s a, v = .iface 85 (.pointer (some ⟨eb, 0, none⟩)) ∧ w.heap[eb]? = some (.cells #[.int .i64 8, .string s, .iface 254 (.pointer (some a))] 89 (0, 0))
theorem DiskErr.kept {Bo : Nat} {w w' : World} {v : Value} (h : DiskErr w v) (hk : Kept Bo w w') : DiskErr w' v := by
  obtain ⟨eb, s, a, rfl, h⟩ := h
  exact ⟨eb, s, a, rfl, g_keep hk h (by decide)⟩

set_option maxHeartbeats 400000 in
set_option maxRecDepth 100000 in
theorem failed_any (s : ByteArray) (w : World) (hf : FailIs w) :
    Calls Tryz.prog 71 #[.string s] w fun e w' => ∃ v, e = .returned v ∧ DiskErr w' v ∧ Below w.heap.size w w' := by
  obtain ⟨cs, T, fz, a, h1, h2, h3⟩ := hf
  have hc : w.cell? ⟨10, 0, none⟩ = some (.iface 254 (.pointer (some a))) := (g_cell h1).trans h3
  clear h1 h2 h3
  go_enter Tryz.func71, Tryz.ntmps71
  go_wp2_with fail
  refine (New_any 8 s 254 (.pointer (some a)) _).mono ?_
  rintro e w' ⟨rfl, rfl⟩
  go_wp2
  go_ret
  exact ⟨_, rfl, ⟨w.heap.size, s, a, rfl, heap_alloc_new _ _⟩, (Below.refl _ w).alloc (Nat.le_refl _) _⟩

/-- nothing, or the error of a disk that has failed -/
def ErrV (w : World) (v : Value) (ok : Bool) : Prop := (ok = true ∧ v = .nilIface) ∨ (ok = false ∧ DiskErr w v)

set_option maxHeartbeats 400000 in
set_option maxRecDepth 100000 in
theorem SyncNames_m {Bo : Nat} (p : Nat) (S : DS) (N : Nat) (w : World) (hD : Disk Bo w p S) (ho : S.Ok N) (hN : N ≤ 1000000) (hf : FailIs w) :
    Calls Tryz.prog 57 #[.pointer (some ⟨p, 0, none⟩)] w fun e w' => ∃ v, e = .returned v ∧ ErrV w' v S.syncDir.1 ∧ Disk Bo w' p S.syncDir.2 ∧ Kept Bo w w' := by
  obtain ⟨vF, vN, vS, vT, h⟩ := hD
  have cs := SyncDir_any p S N vF vN vS vT w h ho hN
  have HF : Hid (FailIs w) := hf
  obtain ⟨ok, T, hT⟩ : ∃ ok T, S.syncDir = (ok, T) := ⟨_, _, rfl⟩
  rw [hT] at cs ⊢
  clear h hf hT
  cases ok with
  | true =>
    go_enter Tryz.func57, Tryz.ntmps57
    go_wp2_with fail
    refine cs.mono ?_
    rintro e w1 ⟨rfl, ⟨vS', vT', h1⟩, k1⟩
    go_wp2
    go_ret
    exact ⟨_, rfl, .inl ⟨rfl, rfl⟩, ⟨_, _, _, _, h1⟩, k1⟩
  | false =>
    go_enter Tryz.func57, Tryz.ntmps57
    go_wp2_with fail
    refine cs.mono ?_
    rintro e w1 ⟨rfl, ⟨vS', vT', h1⟩, k1⟩
    have cf := failed_any ⟨#[116, 104, 101, 32, 110, 97, 109, 101, 115]⟩ w1 (HF.out.kept k1)
    clear cs
    go_wp2_with fail
    refine cf.mono ?_
    rintro e w2 ⟨v, rfl, hv, b2⟩
    obtain ⟨eb, s, a, hve, hvb⟩ := hv
    subst hve
    go_wp2
    go_ret
    exact ⟨_, rfl, .inr ⟨rfl, eb, s, a, rfl, hvb⟩, Disk.below ⟨_, _, _, _, h1⟩ b2, k1.trans (.ofBelow b2)⟩

theorem remove_ok_find {T : DS} {n : ByteArray} {f : DFile} (h : T.look n = some f) : findIs n T.now = true := by
  cases hf : findIs n T.now with
  | true => rfl
  | false => rw [DS.look_none hf] at h; cases h

set_option maxHeartbeats 2000000 in
set_option maxRecDepth 100000 in
theorem RemoveAll_m {Bo : Nat} (p : Nat) (S : DS) (N : Nat) (v : Value) (ns : List ByteArray) (w : World) (hD : Disk Bo w p S) (hs : Sane S) (ho : S.Ok N) (hN : N + 3 * ns.length ≤ 90000) (hr : w.ownsRow 0 9 1 v ns.length (scells ns)) (hf : FailIs w) :
    Calls Tryz.prog 45 #[.pointer (some ⟨p, 0, none⟩), v] w fun e w' => ∃ u S', e = .returned u ∧ (u = .nilIface ∨ DiskErr w' u) ∧ Disk Bo w' p S' ∧ Took S S' (N + 3 * ns.length + 1) ∧ Kept Bo w w' := by
  have csn : ∀ W' T, Disk Bo W' p T → Took S T (N + 3 * ns.length) → Kept Bo w W' → Calls Tryz.prog 57 #[.pointer (some ⟨p, 0, none⟩)] W' fun e w' => ∃ u S', e = .returned u ∧ (u = .nilIface ∨ DiskErr w' u) ∧ Disk Bo w' p S' ∧ Took S S' (N + 3 * ns.length + 1) ∧ Kept Bo w w' := fun W' T d g k => by
    refine (SyncNames_m p T (N + 3 * ns.length) W' d g.ok (by omega) (hf.kept k)).mono ?_
    rintro e w' ⟨u, rfl, hu, d2, k2⟩
    refine ⟨u, _, rfl, ?_, d2, took_sync g, k.trans k2⟩
    rcases hu with h | h
    · exact .inl h.2
    · exact .inr h.2
  have hll : ns.length ≤ 30000 := by omega
  have HF : Hid (FailIs w) := hf
  rcases hr.2 with ⟨rfl, h0⟩ | ⟨g, cap, cur, rfl, hg, hh, hrr⟩
  · have hl0 : ns = [] := List.eq_nil_of_length_eq_zero h0
    subst hl0
    have c1 := csn w S hD (took_start hs ho) (Kept.refl _)
    clear csn hr h0
    go_enter Tryz.func45, Tryz.ntmps45
    go_wp2
    refine wp_loop_rounds 1 ?_
    rw [rounds_succ]
    go_wp2_with fail
    refine c1.mono ?_
    rintro e w5 ⟨u, S', rfl, hu, d5, t5, k5⟩
    go_wp2
    go_ret
    exact ⟨_, _, rfl, hu, d5, t5, k5⟩
  · clear hh hrr
    go_enter Tryz.func45, Tryz.ntmps45
    go_wp2
    go_loopw [5, 12] (fun r i wr => ∃ k m : Nat, i = .int .i64 (k : Int) ∧ r = .int .i64 (m : Int) ∧ m ≤ k ∧ k ≤ ns.length ∧ Hid (∃ T, Disk Bo wr p T ∧ Took S T (N + 3 * k)) ∧ Hid (Kept Bo w wr)) (fun _ i _ => ns.length - (intOf i).toNat)
    case atStart => exact ⟨0, 0, rfl, rfl, Nat.le_refl _, Nat.zero_le _, ⟨S, hD, took_start hs ho⟩, Kept.refl _⟩
    case round =>
      obtain ⟨k, m, rfl, rfl, hm, hk, hDr, hKr⟩ := hrel
      rename World => wr
      by_cases hlt : k < ns.length
      · obtain ⟨n, hn⟩ : ∃ n, ns[k]? = some n := ⟨_, List.getElem?_eq_getElem hlt⟩
        have hrow : wr.ownsRow 0 9 1 (.slice (some ⟨g, 0, none⟩) ns.length cap) ns.length (scells ns) := row_keep hr (fun k cs fz e => (g_keep hKr.out e (by decide)).trans e.symm)
        have hc : wr.cell? ⟨g, k, none⟩ = some (.string n) := by
          rw [hrow.cellAt (g := g) k (by omega)]
          simp [scells, hn]
        obtain ⟨T, hDT, hGT⟩ := hDr.out
        have HGT : Hid (Took S T (N + 3 * k)) := hGT
        have HDT : Hid (Disk Bo wr p T) := hDT
        clear hrow hr hD hDr hn csn hs ho
        obtain ⟨vF, vN, vS, vT, hDA⟩ := hDT
        have csz := Size_any p T (N + 3 * k) vF vN vS vT n wr hDA hGT.ok (by omega)
        clear hDA
        obtain ⟨sz, there, hsz⟩ : ∃ sz there, T.size n = (sz, there) := ⟨_, _, rfl⟩
        rw [hsz] at csz
        cases there with
        | false =>
          clear hsz hGT
          go_wp2_with fail
          refine csz.mono ?_
          rintro e w1 ⟨rfl, s1⟩
          clear csz
          go_wp2
          go_roundw
          case rel => exact ⟨k + 1, m, by go_num, rfl, by omega, by omega, ⟨T, HDT.out.still s1, HGT.out.mono (by omega)⟩, hKr.out.trans (.ofStill s1)⟩
          case measure => simp [intOf]; omega
        | true =>
          have hfi : findIs n T.now = true := by
            unfold DS.size at hsz
            cases hl : T.look n with
            | none => rw [hl] at hsz; cases hsz
            | some f => exact remove_ok_find hl
          have crm : ∀ W', Still wr W' → Calls Tryz.prog 70 #[.pointer (some ⟨p, 0, none⟩), .string n] W' fun e w' => e = .returned (.bool (T.remove n).1) ∧ Disk Bo w' p (T.remove n).2 ∧ Kept Bo W' w' := fun W' hW' => Remove_any p T (N + 3 * k) n W' (HDT.out.still hW') hGT.ok (by omega) hfi
          have hT2 := took_remove (n := n) hGT
          obtain ⟨ok, T2, hrm⟩ : ∃ ok T2, T.remove n = (ok, T2) := ⟨_, _, rfl⟩
          rw [hrm] at hT2
          simp only [hrm] at crm
          have HR : Hid (Took S T2 (N + 3 * k + 2)) := hT2
          clear hrm hT2 hGT hsz hfi
          cases ok with
          | false =>
            go_wp2_with fail
            refine csz.mono ?_
            rintro e w1 ⟨rfl, s1⟩
            clear csz
            go_wp2_with fail
            refine (crm _ s1).mono ?_
            rintro e w2 ⟨rfl, d2, k2⟩
            have K2 := hKr.out.trans ((Kept.ofStill s1).trans k2)
            have cf := failed_any n w2 (HF.out.kept K2)
            clear crm
            go_wp2_with fail
            refine cf.mono ?_
            rintro e w3 ⟨u, rfl, hu, b3⟩
            obtain ⟨eb, s, a, hve, hvb⟩ := hu
            subst hve
            go_wp2
            go_ret
            exact ⟨_, T2, rfl, .inr ⟨eb, s, a, rfl, hvb⟩, d2.below b3, HR.out.mono (by omega), K2.trans (.ofBelow b3)⟩
          | true =>
            have cdir : ∀ W', Disk Bo W' p T2 → Calls Tryz.prog 72 #[.pointer (some ⟨p, 0, none⟩)] W' fun e w' => e = .returned (.bool T2.syncDir.1) ∧ Disk Bo w' p T2.syncDir.2 ∧ Kept Bo W' w' := fun W' d => by
              obtain ⟨uF, uN, uS, uT, hU⟩ := d
              refine (SyncDir_any p T2 (N + 3 * k + 2) uF uN uS uT W' hU HR.out.ok (by omega)).mono ?_
              rintro e w' ⟨rfl, ⟨vS', vT', h1⟩, k1⟩
              exact ⟨rfl, ⟨_, _, _, _, h1⟩, k1⟩
            have hm1 : ((m : Int) + 1).tmod 4 = (((m + 1) % 4 : Nat) : Int) := rfl
            by_cases h4 : (m + 1) % 4 = 0
            · have hm2 : ((m : Int) + 1).tmod 4 = 0 := by rw [hm1, h4]; rfl
              clear hm1 h4
              have hT3 := took_sync HR.out
              obtain ⟨ok3, T3, hsd⟩ : ∃ ok T3, T2.syncDir = (ok, T3) := ⟨_, _, rfl⟩
              rw [hsd] at hT3
              simp only [hsd] at cdir
              have HR3 : Hid (Took S T3 (N + 3 * k + 2 + 1)) := hT3
              clear hsd hT3
              cases ok3 with
              | true =>
                go_wp2_with fail
                refine csz.mono ?_
                rintro e w1 ⟨rfl, s1⟩
                clear csz
                go_wp2_with fail
                refine (crm _ s1).mono ?_
                rintro e w2 ⟨rfl, d2, k2⟩
                clear crm
                go_wp2_with fail
                refine (cdir _ d2).mono ?_
                rintro e w3 ⟨rfl, d3, k3⟩
                clear cdir
                go_wp2
                go_roundw
                case rel => exact ⟨k + 1, m + 1, by go_num, by go_num, by omega, by omega, ⟨_, d3, HR3.out.mono (by omega)⟩, hKr.out.trans ((Kept.ofStill s1).trans (k2.trans k3))⟩
                case measure => simp [intOf]; omega
              | false =>
                go_wp2_with fail
                refine csz.mono ?_
                rintro e w1 ⟨rfl, s1⟩
                clear csz
                go_wp2_with fail
                refine (crm _ s1).mono ?_
                rintro e w2 ⟨rfl, d2, k2⟩
                clear crm
                go_wp2_with fail
                refine (cdir _ d2).mono ?_
                rintro e w3 ⟨rfl, d3, k3⟩
                have K3 := hKr.out.trans ((Kept.ofStill s1).trans (k2.trans k3))
                have cf := failed_any n w3 (HF.out.kept K3)
                clear cdir
                go_wp2_with fail
                refine cf.mono ?_
                rintro e w4 ⟨u, rfl, hu, b4⟩
                obtain ⟨eb, s, a, hve, hvb⟩ := hu
                subst hve
                go_wp2
                go_ret
                exact ⟨_, T3, rfl, .inr ⟨eb, s, a, rfl, hvb⟩, d3.below b4, HR3.out.mono (by omega), K3.trans (.ofBelow b4)⟩
            · have hm2 : ¬ ((m : Int) + 1).tmod 4 = 0 := by rw [hm1]; omega
              clear hm1 h4 cdir
              go_wp2_with fail
              refine csz.mono ?_
              rintro e w1 ⟨rfl, s1⟩
              clear csz
              go_wp2_with fail
              refine (crm _ s1).mono ?_
              rintro e w2 ⟨rfl, d2, k2⟩
              clear crm
              go_wp2
              go_roundw
              case rel => exact ⟨k + 1, m + 1, by go_num, by go_num, by omega, by omega, ⟨_, d2, HR.out.mono (by omega)⟩, hKr.out.trans ((Kept.ofStill s1).trans k2)⟩
              case measure => simp [intOf]; omega
      · have hke : k = ns.length := by omega
        subst hke
        obtain ⟨T, hDT, hGT⟩ := hDr.out
        have c1 := csn wr T hDT hGT hKr.out
        clear csn hDT hGT hDr hr hD hs ho
        go_wp2_with fail
        refine c1.mono ?_
        rintro e w5 ⟨u, S', rfl, hu, d5, t5, k5⟩
        go_wp2
        go_ret
        exact ⟨_, _, rfl, hu, d5, t5, k5⟩
end Go.Proofs.YtbjgpfhbdmcbbabGreatDoor.files

/-
  CONTRACTS over a disk that may die: List, Reset.
-/
namespace Go.Proofs.YtbjgpfhbdmcbbabGreatDoor.files
open Go.RowKit Go.Proofs.YtbjgpfhbdmcbbabGreatDoor.dnamath Go.Proofs.YtbjgpfhbdmcbbabGreatDoor.dna Go.Proofs.YtbjgpfhbdmcbbabGreatDoor.diskm Go.Proofs.YtbjgpfhbdmcbbabGreatDoor.disk Go.Proofs.YtbjgpfhbdmcbbabGreatDoor.keep Go.Proofs.YtbjgpfhbdmcbbabGreatDoor.hex Go.Proofs.YtbjgpfhbdmcbbabGreatDoor.pieces Go.Proofs.YtbjgpfhbdmcbbabGreatDoor.parse
set_option linter.unusedVariables false

def listOf (S : DS) : List ByteArray := if S.life = 0 then [] else S.now.map DName.name

set_option maxHeartbeats 1000000 in
set_option maxRecDepth 100000 in
theorem List_any {Bo : Nat} (p : Nat) (S : DS) (N : Nat) (w : World) (hD : Disk Bo w p S) (ho : S.Ok N) (hN : N ≤ 100000) :
    Calls Tryz.prog 20 #[.pointer (some ⟨p, 0, none⟩)] w fun e w' => ∃ v, e = .returned v ∧ w'.ownsRow w.heap.size 9 1 v (listOf S).length (scells (listOf S)) ∧ Below w.heap.size w w' := by
  obtain ⟨i0, hi, hz0, hz1, hz2⟩ := info_parts infoS
  obtain ⟨vF, vN, vS, vT, h⟩ := hD
  have c6 := st_cell h.st 6
  change w.cell? ⟨p, 6, none⟩ = some (.int .i64 S.life) at c6
  by_cases hl : S.life = 0
  · have HE : Hid (listOf S = []) := by show _ = _; unfold listOf; rw [if_pos hl]
    rw [hl] at c6
    clear h hl
    go_enter Tryz.func20, Tryz.ntmps20
    go_wp2
    go_ret
    rw [HE.out]
    exact ⟨_, rfl, World.ownsRow_nil _ _ _ _, Below.refl _ _⟩
  · have HE : Hid (listOf S = S.now.map DName.name) := by show _ = _; unfold listOf; rw [if_neg hl]
    have hlz : (S.life == 0) = false := beq_eq_false_iff_ne.2 hl
    have hnl : S.now.length ≤ 100000 := Nat.le_trans ho.nl hN
    obtain ⟨aN, cN, rfl⟩ := own_slice h.now
    have c2 := st_cell h.st 2
    change w.cell? ⟨p, 2, none⟩ = some (.slice aN S.now.length cN) at c2
    have hpl := lt_of_block h.st
    have HN : Hid (Names w (.slice aN S.now.length cN) S.now) := h.now
    clear h ho
    go_enter Tryz.func20, Tryz.ntmps20
    go_wp2_with fail
    go_loopw [3, 4] (fun v i wr => ∃ k : Nat, k ≤ S.now.length ∧ i = .int .i64 (k : Int) ∧ Hid (wr.ownsRow w.heap.size 9 1 v ((S.now.take k).map DName.name).length (scells ((S.now.take k).map DName.name)) ∧ Below w.heap.size w wr)) (fun _ i _ => S.now.length - (intOf i).toNat)
    case atStart => exact ⟨0, Nat.zero_le _, rfl, World.ownsRow_nil _ _ _ _, Below.refl _ _⟩
    case round =>
      obtain ⟨k, hk, rfl, HB⟩ := hrel
      rename World => wr
      have d2 : wr.cell? ⟨p, 2, none⟩ = some (.slice aN S.now.length cN) := (HB.out.2.cell (by exact hpl)).trans c2
      by_cases hlt : k < S.now.length
      · obtain ⟨x, hx⟩ : ∃ x, S.now[k]? = some x := ⟨_, List.getElem?_eq_getElem hlt⟩
        have hrow := HN.out
        rcases hrow.2 with ⟨_, e0⟩ | ⟨g, capN, cur, e1, _, hgb, hcap1, hcap2, _⟩
        · omega
        cases e1
        have hgl := lt_of_block hgb
        have dn : wr.cell? ⟨g, k * 2, none⟩ = some (.string x.name) := by
          rw [HB.out.2.cell (p := ⟨g, k * 2, none⟩) hgl, hrow.cellAt (g := g) _ (by omega)]
          exact ncells_at0 _ _ _ hx
        have hll : ((S.now.take k).map DName.name).length = k := by rw [List.length_map, List.length_take]; omega
        have HX : Hid ((S.now.take (k + 1)).map DName.name = (S.now.take k).map DName.name ++ [x.name]) := by show _ = _; rw [List.take_add_one, hx]; simp
        obtain ⟨ls, hls⟩ : ∃ ls, ls = (S.now.take k).map DName.name := ⟨_, rfl⟩
        rw [← hls] at HX HB hll
        have hownA := HB.out.1
        have hbA := HB.out.2
        have hbsA := hbA.size
        have hmx : ls.length + 1 ≤ maxLen := by unfold maxLen; omega
        have hby : (ls.length + 1) * 16 ≤ 140737488355328 := by omega
        clear hrow hx hgb hls hll
        go_wp2_with (at_builtin; refine wpList_append_own _ rfl (.tmp 20) (.tmp 29) 28 rfl w.heap.size 9 i0 (.string ByteArray.empty) 1 16 Tryz.underlying28 hi hz0 hz1 hz2 rfl (by decide) _ _ _ rfl (hownA.alloc _) ⟨wr.heap.size, 0, none⟩ 1 1 [.string x.name] rfl rfl (pieces.cell_one _ _ _) (one_str _) hmx hby (by simp; omega) ?_; intro v' w3 hown' hgrow _)
        obtain ⟨R1, R2⟩ := push_str (c := x.name) hownA hbA hbsA hown' hgrow
        have HN2 : Hid (w3.ownsRow w.heap.size 9 1 v' ((S.now.take (k + 1)).map DName.name).length (scells ((S.now.take (k + 1)).map DName.name)) ∧ Below w.heap.size w w3) := by rw [HX.out]; exact ⟨R1, R2⟩
        clear hown' hgrow R1 R2 hownA hbA
        go_wp2
        go_roundw
        case rel => exact ⟨k + 1, by omega, by go_num, HN2⟩
        case measure => simp [intOf]; omega
      · have hke : k = S.now.length := by omega
        subst hke
        have hB := HB.out
        rw [List.take_length] at hB
        obtain ⟨aV, cV, hv⟩ := own_slice hB.1
        subst hv
        have HB2 : Hid (wr.ownsRow w.heap.size 9 1 (.slice aV (S.now.map DName.name).length cV) (S.now.map DName.name).length (scells (S.now.map DName.name)) ∧ Below w.heap.size w wr) := hB
        clear HB hB
        go_wp2
        go_ret
        rw [HE.out]
        exact ⟨_, rfl, HB2.out.1, HB2.out.2⟩

theorem list_len (S : DS) : (listOf S).length ≤ S.now.length := by
  unfold listOf
  split
  · exact Nat.zero_le _
  · rw [List.length_map]; exact Nat.le_refl _

set_option maxHeartbeats 1000000 in
set_option maxRecDepth 100000 in
theorem Reset_m {Bo : Nat} (p : Nat) (S : DS) (N : Nat) (w : World) (hD : Disk Bo w p S) (hs : Sane S) (ho : S.Ok N) (hN : N ≤ 20000) (hf : FailIs w) (hty : TypeIs w) (hgt : ∃ cs T fz, w.heap[4]? = some (.cells cs T fz) ∧ T ≠ 63 ∧ T ≠ 82 ∧ T ≠ 84 ∧ T ≠ 79) :
    Calls Tryz.prog 18 #[.pointer (some ⟨p, 0, none⟩)] w fun e w' => ∃ n S', e = .returned (.int .i64 n) ∧ Disk Bo w' p S' ∧ Took S S' (4 * N + 1) ∧ Kept Bo w w' := by
  have hnl : (listOf S).length ≤ N := Nat.le_trans (list_len S) ho.nl
  have cr : Calls Tryz.prog 29 #[.pointer (some ⟨p, 0, none⟩)] w fun e w' => ∃ u S', e = .returned u ∧ (u = .nilIface ∨ DiskErr w' u) ∧ Disk Bo w' p S' ∧ Took S S' (4 * N + 1) ∧ Kept Bo w w' := by
    have cl := List_any p S N w hD ho (by omega)
    have HD : Hid (Disk Bo w p S ∧ Sane S ∧ S.Ok N ∧ FailIs w) := ⟨hD, hs, ho, hf⟩
    clear hD hs ho hf hty hgt
    go_enter Tryz.func29, Tryz.ntmps29
    go_wp2_with fail
    refine cl.mono ?_
    rintro e w1 ⟨v, rfl, own1, b1⟩
    obtain ⟨aV, cV, hv⟩ := own_slice own1
    subst hv
    have ca := RemoveAll_m p S N (.slice aV (listOf S).length cV) (listOf S) w1 (HD.out.1.below b1) HD.out.2.1 HD.out.2.2.1 (by omega) (words.own_lower own1 (Nat.zero_le _)) (HD.out.2.2.2.below b1)
    have hk1 : Hid (Kept Bo w w1) := Kept.ofBelow b1
    clear cl own1 b1
    go_wp2_with fail
    refine ca.mono ?_
    rintro e w2 ⟨u, S', rfl, hu, d2, t2, k2⟩
    have HU : Hid (Disk Bo w2 p S' ∧ Took S S' (4 * N + 1) ∧ Kept Bo w w2) := ⟨d2, t2.mono (by omega), hk1.out.trans k2⟩
    clear ca d2 t2 k2
    rcases hu with rfl | ⟨eb, s, a, rfl, hb⟩
    · go_wp2
      go_ret
      exact ⟨_, S', rfl, .inl rfl, HU.out⟩
    · go_wp2
      go_ret
      exact ⟨_, S', rfl, .inr ⟨eb, s, a, rfl, hb⟩, HU.out⟩
  have HT : Hid (TypeIs w ∧ ∃ cs T fz, w.heap[4]? = some (.cells cs T fz) ∧ T ≠ 63 ∧ T ≠ 82 ∧ T ≠ 84 ∧ T ≠ 79) := ⟨hty, hgt⟩
  clear hD hs ho hf hty hgt
  go_enter Tryz.func18, Tryz.ntmps18
  go_wp2_with fail
  refine cr.mono ?_
  rintro e w1 ⟨u, S', rfl, hu, d1, t1, k1⟩
  clear cr
  rcases hu with rfl | ⟨eb, s, a, rfl, hb⟩
  · go_wp2_with fail
    refine (jobs.Number_nil w1).mono ?_
    rintro e w2 ⟨rfl, hw2⟩
    have hw2' := hw2.symm
    subst hw2'
    clear hw2
    go_wp2
    go_ret
    exact ⟨_, S', rfl, d1, t1, k1⟩
  · have hty1 : TypeIs w1 := by
      obtain ⟨cs, T, fz, h1, h2⟩ := HT.out.2
      have h3 := HT.out.1
      unfold TypeIs at h3 ⊢
      rw [← h3]
      unfold World.cell?
      rw [g_keep k1 h1 h2, h1]
    have cn := Number_any eb 8 w1 hty1 (st_cell hb 0)
    clear hty1 hb
    go_wp2_with fail
    refine cn.mono ?_
    rintro e w2 ⟨rfl, b2⟩
    clear cn
    go_wp2
    go_ret
    exact ⟨_, S', rfl, d1.below b2, t1, k1.trans (.ofBelow b2)⟩
end Go.Proofs.YtbjgpfhbdmcbbabGreatDoor.files
