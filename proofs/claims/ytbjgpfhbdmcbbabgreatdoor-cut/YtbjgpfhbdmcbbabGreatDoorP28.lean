import Derived.Test.YtbjgpfhbdmcbbabGreatDoorProg
import Derived.WalkKit
import Derived.LaidEql
import Derived.Stop.Asserts
import Derived.RowKitTokens
import Derived.Test.YtbjgpfhbdmcbbabGreatDoorP13
import Derived.Test.YtbjgpfhbdmcbbabGreatDoorP27
import Derived.Test.YtbjgpfhbdmcbbabGreatDoorP11
import Derived.Test.YtbjgpfhbdmcbbabGreatDoorP24
import Derived.Test.YtbjgpfhbdmcbbabGreatDoorP26
import Derived.Test.YtbjgpfhbdmcbbabGreatDoorP08

/-
  errors.As at a target of type **fault.Fault, the error's own type being *fault.Fault (after the guide's worked example).
-/
namespace Go.Proofs.YtbjgpfhbdmcbbabGreatDoor.errs
open Go.RowKit Go.Extern.Stop Go.Stop Go.Extern
set_option linter.unusedVariables false

theorem valueOfPP (t : Addr) (w : World) : (ReflectliteValue.unpack (.iface 87 (.pointer (some t)))).run Tryz.prog w
    = .ok (.agg #[.pointer (some ⟨27, 87, none⟩), .pointer (some ⟨w.heap.size, 0, none⟩), .int .u64 150]) (w.alloc (.cells #[.pointer (some t)] 87)) := by kernel_rfl
theorem typePP (a : Addr) (w : World) : (ReflectliteValue.methodAny (ReflectliteValue.valueError "reflectlite.Value.Type" 0) (fun t _ _ _ => ReflectliteType.toType t) #[.agg #[.pointer (some ⟨27, 87, none⟩), .pointer (some a), .int .u64 150]]).run Tryz.prog w
    = .ok (.iface 153 (.agg #[.pointer (some ⟨27, 87, none⟩)])) w := by kernel_rfl
theorem methodKind (h : Value) (w : World) : (Go.method 414 153 (.agg #[h]) "Kind").run Tryz.prog w = .ok (215, h) w := by kernel_rfl
theorem kindPP (w : World) : ((ReflectliteType.abiMethod fun t => (fun a : Nat => Value.int IntKind.u8 (a : Int)) <$> Rtype.kind t) #[.pointer (some ⟨27, 87, none⟩)]).run Tryz.prog w = .ok (.int .u8 22) w := by kernel_rfl
theorem kindP (w : World) : ((ReflectliteType.abiMethod fun t => (fun a : Nat => Value.int IntKind.u8 (a : Int)) <$> Rtype.kind t) #[.pointer (some ⟨27, 85, none⟩)]).run Tryz.prog w = .ok (.int .u8 22) w := by kernel_rfl

theorem rlm (z : Sem Value) (f : TypeId → Addr → Nat → Nat → Sem Value) (v : Value) :
    ReflectliteValue.method z f #[v] = (do match ← ReflectliteValue.parts v with | none => z | some (t, a, fl) => f t a fl (fl % 32)) := rfl
theorem partsPP (a : Addr) (w : World) : (ReflectliteValue.parts (.agg #[.pointer (some ⟨27, 87, none⟩), .pointer (some a), .int .u64 150])).run Tryz.prog w = .ok (some (87, a, 150)) w := by kernel_rfl
theorem isNilPP (a p : Addr) (W : World) (ha : W.cell? a = some (.pointer (some p))) :
    (ReflectliteValue.method (ReflectliteValue.valueError "reflectlite.Value.IsNil" 0) ReflectliteValue.isNil #[.agg #[.pointer (some ⟨27, 87, none⟩), .pointer (some a), .int .u64 150]]).run Tryz.prog W = .ok (.bool false) W := by
  rw [rlm]
  simp only [Sem.run_bind, partsPP, Result.andThen]
  simp [ReflectliteValue.isNil, loadVar, isAgg, underlying, Tryz.underlying87, ha, Result.andThen]

theorem methodElem (h : Value) (w : World) : (Go.method 414 153 (.agg #[h]) "Elem").run Tryz.prog w = .ok (227, .agg #[h]) w := by kernel_rfl
theorem methodImplements (h : Value) (w : World) : (Go.method 414 153 (.agg #[h]) "Implements").run Tryz.prog w = .ok (228, .agg #[h]) w := by kernel_rfl
theorem methodAssignableTo (h : Value) (w : World) : (Go.method 414 153 (.agg #[h]) "AssignableTo").run Tryz.prog w = .ok (225, .agg #[h]) w := by kernel_rfl
theorem elemPP (w : World) : (ReflectliteType.method ReflectliteType.elem #[.agg #[.pointer (some ⟨27, 87, none⟩)]]).run Tryz.prog w = .ok (.iface 153 (.agg #[.pointer (some ⟨27, 85, none⟩)])) w := by kernel_rfl
theorem implementsP (w : World) : (ReflectliteType.relation "Implements" ReflectliteType.implements_ #[.agg #[.pointer (some ⟨27, 85, none⟩)], .iface 153 (.agg #[.pointer (some ⟨27, 66, none⟩)])]).run Tryz.prog w = .ok (.bool true) w := by kernel_rfl
theorem typeOfP (v : Value) (w : World) : (ReflectliteType.typeOf #[.iface 85 v]).run Tryz.prog w = .ok (.iface 153 (.agg #[.pointer (some ⟨27, 85, none⟩)])) w := by kernel_rfl
theorem assignableP (w : World) : (ReflectliteType.relation "AssignableTo" ReflectliteType.assignableTo #[.agg #[.pointer (some ⟨27, 85, none⟩)], .iface 153 (.agg #[.pointer (some ⟨27, 85, none⟩)])]).run Tryz.prog w = .ok (.bool true) w := by kernel_rfl
theorem valueOfP (e : Addr) (w : World) : (ReflectliteValue.unpack (.iface 85 (.pointer (some e)))).run Tryz.prog w
    = .ok (.agg #[.pointer (some ⟨27, 85, none⟩), .pointer (some ⟨w.heap.size, 0, none⟩), .int .u64 150]) (w.alloc (.cells #[.pointer (some e)] 85)) := by kernel_rfl

theorem elemOfPP (w : World) : (Rtype.elem? 87).run Tryz.prog w = .ok (some 85) w := by kernel_rfl
theorem mkP (p : Addr) (w : World) : (ReflectliteValue.mk 85 p ReflectliteValue.flagAddr).run Tryz.prog w = .ok (.agg #[.pointer (some ⟨27, 85, none⟩), .pointer (some p), .int .u64 406]) w := by kernel_rfl
theorem elemVPP (a p : Addr) (W : World) (ha : W.cell? a = some (.pointer (some p))) :
    (ReflectliteValue.method (ReflectliteValue.valueError "reflectlite.Value.Elem" 0) ReflectliteValue.elem #[.agg #[.pointer (some ⟨27, 87, none⟩), .pointer (some a), .int .u64 150]]).run Tryz.prog W
      = .ok (.agg #[.pointer (some ⟨27, 85, none⟩), .pointer (some p), .int .u64 406]) W := by
  rw [rlm]
  simp only [Sem.run_bind, partsPP, Result.andThen]
  simp [ReflectliteValue.elem, loadVar, isAgg, underlying, Tryz.underlying87, ha, Result.andThen, elemOfPP, mkP]
theorem rls (v x : Value) : ReflectliteValue.set #[v, x] = (do
    let (some (dst, a, fl), some (src, b, _)) := (← ReflectliteValue.parts v, ← ReflectliteValue.parts x)
      | unsupported (.noEntry "extern/(internal/reflectlite.Value).Set.zeroValue")
    if fl / ReflectliteValue.flagAddr % 2 == 0 then unsupported (.noEntry "extern/(internal/reflectlite.Value).Set.unaddressable")
    let val ← loadVar src b
    if ← Rtype.directlyAssignable dst src then storeVar dst a val
    else if ← Rtype.implements dst src then
      if (← Rtype.kind src) == 20 then
        match val with
        | .nilIface => unsupported (.noEntry "extern/reflectlite: a nil value of one interface type handed on as a value of another")
        | _ => storeVar dst a val
      else storeVar dst a (.iface src val)
    else panicString ("reflectlite.Set: value of type " ++ (← Rtype.spelt src) ++ " is not assignable to type " ++ (← Rtype.spelt dst))
    pure (.tuple #[])) := rfl
theorem partsPa (a : Addr) (w : World) : (ReflectliteValue.parts (.agg #[.pointer (some ⟨27, 85, none⟩), .pointer (some a), .int .u64 406])).run Tryz.prog w = .ok (some (85, a, 406)) w := by kernel_rfl
theorem partsP (a : Addr) (w : World) : (ReflectliteValue.parts (.agg #[.pointer (some ⟨27, 85, none⟩), .pointer (some a), .int .u64 150])).run Tryz.prog w = .ok (some (85, a, 150)) w := by kernel_rfl
theorem directP (w : World) : (Rtype.directlyAssignable 85 85).run Tryz.prog w = .ok true w := by kernel_rfl
theorem setP (ta b e : Addr) (old : Value) (W : World) (hb : W.cell? b = some (.pointer (some e))) (ht : W.cell? ta = some old) (hf : W.frozen? ta = false) :
    (ReflectliteValue.set #[.agg #[.pointer (some ⟨27, 85, none⟩), .pointer (some ta), .int .u64 406], .agg #[.pointer (some ⟨27, 85, none⟩), .pointer (some b), .int .u64 150]]).run Tryz.prog W
      = .ok (.tuple #[]) (W.setCell ta (.pointer (some e))) := by
  rw [rls]
  simp only [Sem.run_bind, partsPa, partsP, Result.andThen]
  simp [ReflectliteValue.flagAddr, loadVar, isAgg, underlying, Tryz.underlying85, hb, Result.andThen, directP, storeVar, Value.cells, storeCells, Addr.add]
  rw [run_store Tryz.prog W ta _ _ (by rfl)]
  simp [ht, hf]

set_option maxHeartbeats 8000000 in
set_option maxRecDepth 100000 in
theorem as_hit (e t : Addr) (old : Value) (w : World) (hg : w.cell? ⟨4, 0, none⟩ = some (.iface 153 (.agg #[.pointer (some ⟨27, 66, none⟩)]))) (ht0 : w.cell? t = some old) (hf0 : w.frozen? t = false) :
    Calls Tryz.prog 33 #[.iface 85 (.pointer (some e)), .iface 87 (.pointer (some t))] w fun ev w' => ev = .returned (.bool true) ∧ w' = ((((w.alloc (.cells #[.pointer (some t)] 87)).alloc (.cells #[.pointer (some ⟨27, 87, none⟩), .pointer (some ⟨w.heap.size, 0, none⟩), .int .u64 150] 115)).alloc (.cells #[.pointer (some ⟨27, 87, none⟩), .pointer (some ⟨w.heap.size, 0, none⟩), .int .u64 150] 115)).alloc (.cells #[.pointer (some e)] 85)).setCell t (.pointer (some e)) := by
  have h6 := @run_callFunc_extern Tryz.prog 48 _ (fun args => ReflectliteValue.unpack (args.getD 0 (.tuple #[]))) Tryz.func48 (by kernel_rfl) (by kernel_rfl) (by kernel_rfl) (by kernel_rfl)
  have h7 := @run_callFunc_extern Tryz.prog 49 _ (ReflectliteValue.methodAny (ReflectliteValue.valueError "reflectlite.Value.Type" 0) (fun t _ _ _ => ReflectliteType.toType t)) Tryz.func49 (by kernel_rfl) (by kernel_rfl) (by kernel_rfl) (by kernel_rfl)
  have h8 := @run_callFunc_extern Tryz.prog 50 _ (ReflectliteValue.method (ReflectliteValue.valueError "reflectlite.Value.IsNil" 0) ReflectliteValue.isNil) Tryz.func50 (by kernel_rfl) (by kernel_rfl) (by kernel_rfl) (by kernel_rfl)
  have h27 := @run_callFunc_extern Tryz.prog 215 _ (ReflectliteType.abiMethod fun t => do pure (.int .u8 (← Rtype.kind t))) Tryz.func215 (by kernel_rfl) (by kernel_rfl) (by kernel_rfl) (by kernel_rfl)
  have h37 := @run_callFunc_extern Tryz.prog 227 _ (ReflectliteType.method ReflectliteType.elem) Tryz.func227 (by kernel_rfl) (by kernel_rfl) (by kernel_rfl) (by kernel_rfl)
  have h38 := @run_callFunc_extern Tryz.prog 228 _ (ReflectliteType.relation "Implements" ReflectliteType.implements_) Tryz.func228 (by kernel_rfl) (by kernel_rfl) (by kernel_rfl) (by kernel_rfl)
  have h10 := @run_callFunc_extern Tryz.prog 77 _ ReflectliteType.typeOf Tryz.func77 (by kernel_rfl) (by kernel_rfl) (by kernel_rfl) (by kernel_rfl)
  have h35 := @run_callFunc_extern Tryz.prog 225 _ (ReflectliteType.relation "AssignableTo" ReflectliteType.assignableTo) Tryz.func225 (by kernel_rfl) (by kernel_rfl) (by kernel_rfl) (by kernel_rfl)
  have h11 := @run_callFunc_extern Tryz.prog 78 _ (ReflectliteValue.method (ReflectliteValue.valueError "reflectlite.Value.Elem" 0) ReflectliteValue.elem) Tryz.func78 (by kernel_rfl) (by kernel_rfl) (by kernel_rfl) (by kernel_rfl)
  have h12 := @run_callFunc_extern Tryz.prog 79 _ ReflectliteValue.set Tryz.func79 (by kernel_rfl) (by kernel_rfl) (by kernel_rfl) (by kernel_rfl)
  have tO := typeOfP
  have mA := methodAssignableTo
  have a25 := assignableP
  have v25 := valueOfP
  have f6 := valueOfPP
  have f7 := typePP
  have mK := methodKind
  have mE := methodElem
  have mI := methodImplements
  have k27 := kindPP
  have k25 := kindP
  have e27 := elemPP
  have i25 := implementsP
  have n8 := isNilPP ⟨w.heap.size, 0, none⟩ t ((w.alloc (.cells #[.pointer (some t)] 87)).alloc (.cells #[.pointer (some ⟨27, 87, none⟩), .pointer (some ⟨w.heap.size, 0, none⟩), .int .u64 150] 115)) (by simp)
  have hlt : 4 < w.heap.size := World.block_lt_of_cell? _ _ hg
  have hg2 : ((w.alloc (.cells #[.pointer (some t)] 87)).alloc (.cells #[.pointer (some ⟨27, 87, none⟩), .pointer (some ⟨w.heap.size, 0, none⟩), .int .u64 150] 115)).cell? ⟨4, 0, none⟩ = some (.iface 153 (.agg #[.pointer (some ⟨27, 66, none⟩)])) := by
    rw [World.cell?_alloc_lt _ _ ⟨4, 0, none⟩ (by simp; omega), World.cell?_alloc_lt _ _ ⟨4, 0, none⟩ hlt]; exact hg
  have htl : t.block < w.heap.size := World.block_lt_of_cell? _ _ ht0
  have el := elemVPP ⟨w.heap.size, 0, none⟩ t (((w.alloc (.cells #[.pointer (some t)] 87)).alloc (.cells #[.pointer (some ⟨27, 87, none⟩), .pointer (some ⟨w.heap.size, 0, none⟩), .int .u64 150] 115)).alloc (.cells #[.pointer (some ⟨27, 87, none⟩), .pointer (some ⟨w.heap.size, 0, none⟩), .int .u64 150] 115)) (by rw [World.cell?_alloc_lt _ _ ⟨w.heap.size, 0, none⟩ (by simp; omega)]; simp)
  have st := setP t ⟨w.heap.size + 1 + 1 + 1, 0, none⟩ e old ((((w.alloc (.cells #[.pointer (some t)] 87)).alloc (.cells #[.pointer (some ⟨27, 87, none⟩), .pointer (some ⟨w.heap.size, 0, none⟩), .int .u64 150] 115)).alloc (.cells #[.pointer (some ⟨27, 87, none⟩), .pointer (some ⟨w.heap.size, 0, none⟩), .int .u64 150] 115)).alloc (.cells #[.pointer (some e)] 85))
    (by rw [World.cell?_alloc_at _ _ _ _ (by simp)]; rfl)
    (by rw [World.cell?_alloc_lt _ _ t (by simp; omega), World.cell?_alloc_lt _ _ t (by simp; omega), World.cell?_alloc_lt _ _ t (by simp; omega), World.cell?_alloc_lt _ _ t htl]; exact ht0)
    (by rw [World.frozen?_alloc_old _ _ t (by simp; omega), World.frozen?_alloc_old _ _ t (by simp; omega), World.frozen?_alloc_old _ _ t (by simp; omega), World.frozen?_alloc_old _ _ t (Nat.ne_of_lt htl)]; exact hf0)
  go_enter Tryz.func33, Tryz.ntmps33
  go_wp2
  refine wp_loop_rounds 1 ?_
  rw [rounds_succ]
  go_wp2
  go_ret
  exact ⟨rfl, rfl⟩
end Go.Proofs.YtbjgpfhbdmcbbabGreatDoor.errs

/-
  fault.Number at a fault; Parse of an input of no form.
-/
namespace Go.Proofs.YtbjgpfhbdmcbbabGreatDoor.parse
open Go.RowKit dnamath dna pieces lines
set_option linter.unusedVariables false

/-- the variable errors.errorType holds the type error -/
def TypeIs (w : World) : Prop := w.cell? ⟨4, 0, none⟩ = some (.iface 153 (.agg #[.pointer (some ⟨27, 66, none⟩)]))
/-- the variable errForm holds something of one cell -/
def FormErr (w : World) : Prop := ∃ a, w.cell? ⟨12, 0, none⟩ = some (.iface 254 (.pointer (some a)))

theorem as_hit' (e : Addr) (tb : Nat) (old : Value) (w : World) (hg : TypeIs w) (ht0 : w.cell? ⟨tb, 0, none⟩ = some old) (hf0 : w.frozen? ⟨tb, 0, none⟩ = false) :
    Calls Tryz.prog 33 #[.iface 85 (.pointer (some e)), .iface 87 (.pointer (some ⟨tb, 0, none⟩))] w fun ev w' => ev = .returned (.bool true) ∧ w'.cell? ⟨tb, 0, none⟩ = some (.pointer (some e)) ∧ Below tb w w' := by
  refine (errs.as_hit e ⟨tb, 0, none⟩ old w hg ht0 hf0).mono fun ev w' ⟨he, hw⟩ => ⟨he, ?_, ?_⟩
  · have hlt : tb < w.heap.size := World.block_lt_of_cell? _ _ ht0
    rw [hw]
    refine World.cell?_setCell_same (u := old) _ _ _ ?_
    rw [World.cell?_alloc_lt _ _ ⟨tb, 0, none⟩ (by simp; omega), World.cell?_alloc_lt _ _ ⟨tb, 0, none⟩ (by simp; omega), World.cell?_alloc_lt _ _ ⟨tb, 0, none⟩ (by simp; omega), World.cell?_alloc_lt _ _ ⟨tb, 0, none⟩ hlt]
    exact ht0
  · have hlt : tb < w.heap.size := World.block_lt_of_cell? _ _ ht0
    rw [hw]
    exact (((((Below.refl tb w).alloc (by omega) _).alloc (by simp; omega) _).alloc (by simp; omega) _).alloc (by simp; omega) _).setCell (Nat.le_refl _) _

set_option maxHeartbeats 1000000 in
set_option maxRecDepth 100000 in
theorem Number_any (eb : Nat) (n : Int) (w : World) (hg : TypeIs w) (hc : w.cell? ⟨eb, 0, none⟩ = some (.int .i64 n)) :
    Calls Tryz.prog 24 #[.iface 85 (.pointer (some ⟨eb, 0, none⟩))] w fun e w' => e = .returned (.int .i64 n) ∧ Below w.heap.size w w' := by
  have hlt : eb < w.heap.size := World.block_lt_of_cell? _ _ hc
  have hgl : 4 < w.heap.size := World.block_lt_of_cell? _ _ hg
  have hg1 : TypeIs (w.alloc (.cells #[.pointer none] 85)) := (World.cell?_alloc_lt _ _ ⟨4, 0, none⟩ hgl).trans hg
  have ht1 : (w.alloc (.cells #[.pointer none] 85)).cell? ⟨w.heap.size, 0, none⟩ = some (.pointer none) := by simp
  have hf1 : (w.alloc (.cells #[.pointer none] 85)).frozen? ⟨w.heap.size, 0, none⟩ = false := by simp
  have HG : Hid (TypeIs (w.alloc (.cells #[.pointer none] 85))) := hg1
  have HT : Hid ((w.alloc (.cells #[.pointer none] 85)).cell? ⟨w.heap.size, 0, none⟩ = some (.pointer none)) := ht1
  have HF : Hid ((w.alloc (.cells #[.pointer none] 85)).frozen? ⟨w.heap.size, 0, none⟩ = false) := hf1
  clear hg1 ht1 hf1 hg
  go_enter Tryz.func24, Tryz.ntmps24
  go_wp2_with fail
  refine (as_hit' ⟨eb, 0, none⟩ w.heap.size _ _ HG.out HT.out HF.out).mono ?_
  rintro e w2 ⟨rfl, hc2, hb2⟩
  have hce : w2.cell? ⟨eb, 0, none⟩ = some (.int .i64 n) := (hb2.cell (by exact hlt)).trans ((World.cell?_alloc_lt _ _ ⟨eb, 0, none⟩ hlt).trans hc)
  have HB : Hid (Below w.heap.size w w2) := ((Below.refl _ w).alloc (Nat.le_refl _) _).trans hb2
  clear hb2 hc
  go_wp2
  go_ret
  exact ⟨rfl, HB.out⟩

end Go.Proofs.YtbjgpfhbdmcbbabGreatDoor.parse

/-
  CONTRACTS over a disk that may die: failed, SyncNames, RemoveAll, List, Reset.
-/
namespace Go.Proofs.YtbjgpfhbdmcbbabGreatDoor.files
open Go.RowKit dnamath dna diskm disk keep hex pieces parse
set_option linter.unusedVariables false

/-- the variable errFailed holds a sentinel -/
def FailIs (aF : Addr) (w : World) : Prop := ∃ cs T fz, ∃ a : {a : Addr // a = aF}, w.heap[10]? = some (.cells cs T fz) ∧ T = 66 ∧ cs[0]? = some (.iface 254 (.pointer (some a)))
theorem FailIs.kept {aF : Addr} {Bo : Nat} {w w' : World} (h : FailIs aF w) (hk : Kept Bo w w') : FailIs aF w' := by
  obtain ⟨cs, T, fz, a, h1, rfl, h2⟩ := h
  exact ⟨cs, _, fz, a, g_keep hk h1 (by decide), rfl, h2⟩
theorem FailIs.below {aF : Addr} {w w' : World} (h : FailIs aF w) (hk : Below w.heap.size w w') : FailIs aF w' := h.kept (Kept.ofBelow (Bo := 0) hk)
/-- an error that says that the disk has failed -/
def DiskErr (aF : Addr) (w : World) (v : Value) : Prop := ∃ eb s, ∃ a : {a : Addr // a = aF}, v = .iface 85 (.pointer (some ⟨eb, 0, none⟩)) ∧ w.heap[eb]? = some (.cells #[.int .i64 8, .string s, .iface 254 (.pointer (some a))] 89 (0, 0))
theorem DiskErr.kept {aF : Addr} {Bo : Nat} {w w' : World} {v : Value} (h : DiskErr aF w v) (hk : Kept Bo w w') : DiskErr aF w' v := by
  obtain ⟨eb, s, a, rfl, h⟩ := h
  exact ⟨eb, s, a, rfl, g_keep hk h (by decide)⟩

set_option maxHeartbeats 400000 in
set_option maxRecDepth 100000 in
theorem failed_any {aF : Addr} (s : ByteArray) (w : World) (hf : FailIs aF w) :
    Calls Tryz.prog 71 #[.string s] w fun e w' => ∃ v, e = .returned v ∧ DiskErr aF w' v ∧ Below w.heap.size w w' := by
  obtain ⟨cs, T, fz, a, h1, h2, h3⟩ := hf
  have hc : w.cell? ⟨10, 0, none⟩ = some (.iface 254 (.pointer (some a))) := (g_cell h1).trans h3
  clear h1 h2 h3
  go_enter Tryz.func71, Tryz.ntmps71
  go_wp2_with fail
  refine (New_any 8 s 254 (.pointer (some a)) _).mono ?_
  rintro e w' ⟨rfl, rfl⟩
  go_wp2
  go_ret
  exact ⟨_, rfl, ⟨w.heap.size, s, a, rfl, heap_alloc_new _ _⟩, (Below.refl _ w).alloc (Nat.le_refl _) _⟩

/-- nothing, or the error of a disk that has failed -/
def ErrV (aF : Addr) (w : World) (v : Value) (ok : Bool) : Prop := (ok = true ∧ v = .nilIface) ∨ (ok = false ∧ DiskErr aF w v)

set_option maxHeartbeats 400000 in
set_option maxRecDepth 100000 in
theorem SyncNames_m {aF : Addr} {Bo : Nat} (p : Nat) (S : DS) (N : Nat) (w : World) (hD : Disk Bo w p S) (ho : S.Ok N) (hN : N ≤ 1000000) (hf : FailIs aF w) :
    Calls Tryz.prog 57 #[.pointer (some ⟨p, 0, none⟩)] w fun e w' => ∃ v, e = .returned v ∧ ErrV aF w' v S.syncDir.1 ∧ Disk Bo w' p S.syncDir.2 ∧ Kept Bo w w' := by
  obtain ⟨vF, vN, vS, vT, h⟩ := hD
  have cs := SyncDir_any p S N vF vN vS vT w h ho hN
  have HF : Hid (FailIs aF w) := hf
  obtain ⟨ok, T, hT⟩ : ∃ ok T, S.syncDir = (ok, T) := ⟨_, _, rfl⟩
  rw [hT] at cs ⊢
  clear h hf hT
  cases ok with
  | true =>
    go_enter Tryz.func57, Tryz.ntmps57
    go_wp2_with fail
    refine cs.mono ?_
    rintro e w1 ⟨rfl, ⟨vS', vT', h1⟩, k1⟩
    go_wp2
    go_ret
    exact ⟨_, rfl, .inl ⟨rfl, rfl⟩, ⟨_, _, _, _, h1⟩, k1⟩
  | false =>
    go_enter Tryz.func57, Tryz.ntmps57
    go_wp2_with fail
    refine cs.mono ?_
    rintro e w1 ⟨rfl, ⟨vS', vT', h1⟩, k1⟩
    have cf := failed_any ⟨#[116, 104, 101, 32, 110, 97, 109, 101, 115]⟩ w1 (HF.out.kept k1)
    clear cs
    go_wp2_with fail
    refine cf.mono ?_
    rintro e w2 ⟨v, rfl, hv, b2⟩
    obtain ⟨eb, s, a, hve, hvb⟩ := hv
    subst hve
    go_wp2
    go_ret
    exact ⟨_, rfl, .inr ⟨rfl, eb, s, a, rfl, hvb⟩, Disk.below ⟨_, _, _, _, h1⟩ b2, k1.trans (.ofBelow b2)⟩

theorem remove_ok_find {T : DS} {n : ByteArray} {f : DFile} (h : T.look n = some f) : findIs n T.now = true := by
  cases hf : findIs n T.now with
  | true => rfl
  | false => rw [DS.look_none hf] at h; cases h

end Go.Proofs.YtbjgpfhbdmcbbabGreatDoor.files

/-
  CONTRACTS of package files on a disk that may die: Begin, flush.
-/
namespace Go.Proofs.YtbjgpfhbdmcbbabGreatDoor.files
open Go.RowKit dnamath dna diskm disk keep hex
set_option linter.unusedVariables false

set_option maxHeartbeats 1000000 in
set_option maxRecDepth 100000 in
theorem Create_dead {Bo : Nat} (p : Nat) (S : DS) (N : Nat) (n : ByteArray) (w : World) (hD : Disk Bo w p S) (ho : S.Ok N) (hN : N ≤ 100000) (hne : n.size ≠ 0) (hl : S.life = 0) :
    Calls Tryz.prog 137 #[.pointer (some ⟨p, 0, none⟩), .string n] w fun e w' => e = .returned (.bool false) ∧ Disk Bo w' p S.changes.2 ∧ Kept Bo w w' := by
  obtain ⟨vF, vN, vS, vT, h⟩ := hD
  obtain ⟨ok, T, hT⟩ : ∃ ok T, S.changes = (ok, T) := ⟨_, _, rfl⟩
  have ct := changes_any p S N vF vN vS vT w h ho (by omega)
  have hd : Hid (isDisk w p ∧ Bo ≤ p) := ⟨⟨_, _, _, h.st, .inl rfl⟩, h.p0⟩
  have hok := changes_ok ho
  have hcd := (changes_dead hl).1
  rw [hT] at ct hok hcd ⊢
  have hcd : ok = false := hcd
  subst hcd
  have hne2 := nonempty_list hne
  obtain ⟨k0, hk0⟩ : ∃ k, k = findIx n T.now := ⟨_, rfl⟩
  obtain ⟨b0, hb0⟩ : ∃ b, b = findIs n T.now := ⟨_, rfl⟩
  have hnl : T.now.length ≤ 100001 := Nat.le_trans hok.nl (by omega)
  have cf : ∀ W : World, Names W vN T.now → Calls Tryz.prog 46 #[vN, .string n] W fun e w' => e = .returned (.tuple #[.int .i64 (k0 : Int), .bool b0]) ∧ Still W w' := fun W hW => by
    have := find_any vN T.now n W hW (by omega)
    rw [← hk0, ← hb0] at this
    exact this
  clear hT h hok hk0 hb0 hne ho hl
  go_enter Tryz.func137, Tryz.ntmps137
  go_wp2_with (first | (go_at_call 102; go_must (refine ct.mono ?_; rintro e w1 ⟨rfl, h1, g1⟩; have hc2 := st_cell h1.st 2; change w1.cell? ⟨p, 2, none⟩ = some vN at hc2)) | (go_at_call 46; go_must (refine (cf _ h1.now).mono ?_; rintro e w2 ⟨rfl, hst⟩)))
  go_ret
  exact ⟨rfl, ⟨_, _, _, _, h1.still hst⟩, (Kept.ofGrown g1 (fun k hk => by cases hk; exact hd.out)).trans (.ofStill hst)⟩
theorem Create_m {Bo : Nat} (p : Nat) (S : DS) (N : Nat) (n : ByteArray) (w : World) (hD : Disk Bo w p S) (ho : S.Ok N) (hN : N ≤ 100000) (hne : n.size ≠ 0) (hf : S.life = 0 ∨ findIs n S.now = false) :
    Calls Tryz.prog 137 #[.pointer (some ⟨p, 0, none⟩), .string n] w fun e w' => e = .returned (.bool (S.create n).1) ∧ Disk Bo w' p (S.create n).2 ∧ Kept Bo w w' := by
  by_cases hl : S.life = 0
  · have e : S.create n = (false, S.changes.2) := create_no (ok := false) (by rw [← (changes_dead hl).1]) (.inl rfl)
    rw [e]
    exact Create_dead p S N n w hD ho hN hne hl
  · rcases hf with h | h
    · exact absurd h hl
    · exact Create_any p S N n w hD ho hN hne h

set_option maxHeartbeats 400000 in
set_option maxRecDepth 100000 in
theorem File_failed {aF : Addr} {Bo : Nat} (b o : Nat) (n : ByteArray) (w : World) (hc : w.cell? ⟨b, o + 1, none⟩ = some (.string n)) (hf : FailIs aF w) :
    Calls Tryz.prog 93 #[.pointer (some ⟨b, o, none⟩)] w fun e w' => ∃ v, e = .returned v ∧ DiskErr aF w' v ∧ Below w.heap.size w w' := by
  have cf := failed_any n w hf
  clear hf
  go_enter Tryz.func93, Tryz.ntmps93
  go_wp2_with fail
  refine cf.mono ?_
  rintro e w1 ⟨v, rfl, hv, b1⟩
  obtain ⟨eb, s, a, hve, hvb⟩ := hv
  subst hve
  go_wp2
  go_ret
  exact ⟨_, rfl, ⟨eb, s, a, rfl, hvb⟩, b1⟩

theorem Draft.after {A : List UInt8 → DFile → Prop} {d : ByteArray} {S T U : DS} {i N : Nat} {f : DFile} (h : Draft A d T U i f N) (k : ∀ R P, Went R P d S T) (st : Stay S T (· = d.toList)) : Draft A d S U i f N :=
  ⟨h.live, fun R P => (k R P).trans (h.went R P), h.noref, h.mem, h.file, fun m hm => (h.stay m hm).trans (st m hm)⟩
theorem size_cases {S : DS} {n : ByteArray} {N : Nat} (ho : S.Ok N) {sz : Int} (h : S.size n = (sz, false)) : S.life = 0 ∨ findIs n S.now = false := by
  by_cases hl : S.life = 0
  · exact .inl hl
  · right
    cases hf : findIs n S.now with
    | false => rfl
    | true =>
      obtain ⟨x, f, _, _, _, _, hlk⟩ := ho.get hf
      unfold DS.size at h
      rw [hlk] at h
      have hd : S.dead = false := by unfold DS.dead; simpa using hl
      simp [hd] at h

set_option maxHeartbeats 2000000 in
set_option maxRecDepth 100000 in
theorem Begin_m {aF : Addr} {Bo : Nat} (A : List UInt8 → DFile → Prop) (b o : Nat) (cs : Array Value) (T : TypeId) (p : Nat) (n h : ByteArray) (sum wr : Nat) (wv : Value) (W : List UInt8) (S : DS) (N : Nat) (w : World) (H : FileAt Bo w b o cs T p n h sum wr wv W)
    (hD : Disk Bo w p S) (hL : Live A draftB S N) (hN : N ≤ 10000) (hf : FailIs aF w) (hh : h.size ≤ 60000) :
    Calls Tryz.prog 112 #[.pointer (some ⟨b, o, none⟩)] w fun e w' => (∃ wv' S1 i, e = .returned .nilIface ∧ FileAt Bo w' b o (fset cs o (sumL 14695981039346656037 h.data.toList) h.size wv') T p n h (sumL 14695981039346656037 h.data.toList) h.size wv' h.data.toList ∧ Disk Bo w' p S1 ∧ Draft A draftB S S1 i ⟨ByteArray.empty, 0⟩ (N + 4) ∧ FK Bo b w w') ∨ (∃ v S1, e = .returned v ∧ DiskErr aF w' v ∧ Disk Bo w' p S1 ∧ (∀ R P, Cutt A R P draftB S S1 (N + 4)) ∧ FK Bo b w w') := by
  have h0 : w.cell? ⟨b, o, none⟩ = some (.pointer (some ⟨p, 0, none⟩)) := (st_cell H.blk _).trans H.c0
  have csz : Calls Tryz.prog 69 #[.pointer (some ⟨p, 0, none⟩), .string draftB] w fun e w' => e = .returned (.tuple #[.int .i64 (S.size draftB).1, .bool (S.size draftB).2]) ∧ Still w w' := by
    obtain ⟨vF, vN, vS, vT, hDA⟩ := hD
    exact Size_any p S N vF vN vS vT draftB w hDA hL.ok (by omega)
  have hi5 : o + 5 < cs.size := by
    rcases Nat.lt_or_ge (o + 5) cs.size with h | h
    · exact h
    · have := H.c5; rw [Array.getElem?_eq_none h] at this; cases this
  have HH : Hid (FileAt Bo w b o cs T p n h sum wr wv W ∧ FailIs aF w ∧ Disk Bo w p S ∧ Live A draftB S N) := ⟨H, hf, hD, hL⟩
  obtain ⟨sz, there, hsz⟩ : ∃ sz there, S.size draftB = (sz, there) := ⟨_, _, rfl⟩
  rw [hsz] at csz
  cases there with
  | true =>
    have hfi : findIs draftB S.now = true := by
      unfold DS.size at hsz
      cases hl : S.look draftB with
      | none => rw [hl] at hsz; cases hsz
      | some f => exact remove_ok_find hl
    have crm : ∀ W', Still w W' → Calls Tryz.prog 70 #[.pointer (some ⟨p, 0, none⟩), .string draftB] W' fun e w' => e = .returned (.bool (S.remove draftB).1) ∧ Disk Bo w' p (S.remove draftB).2 ∧ Kept Bo W' w' := fun W' hW' => Remove_any p S N draftB W' (hD.still hW') hL.ok (by omega) hfi
    have hrc : ∀ R P, _ := fun R P => rm_cases (R := R) (P := P) (n := draftB) hL (.inl rfl) hfi
    obtain ⟨ok, S1, hS1⟩ : ∃ ok S1, S.remove draftB = (ok, S1) := ⟨_, _, rfl⟩
    simp only [hS1] at crm hrc
    have HRC : Hid (∀ R P, _) := hrc
    clear hsz hfi hS1 hD hL hf H hrc
    cases ok with
    | false =>
      have HC : Hid (∀ R P, Cutt A R P draftB S S1 (N + 4)) := fun R P => by
        rcases HRC.out R P with h | h
        · exact absurd h.1 (by decide)
        · exact h.2.more (fun _ h => h) (fun _ h => h) (by omega)
      clear HRC
      go_enter Tryz.func112, Tryz.ntmps112
      go_wp2_with fail
      refine csz.mono ?_
      rintro e w1 ⟨rfl, s1⟩
      rw [← s1.cell] at h0
      go_wp2_with fail
      refine (crm _ s1).mono ?_
      rintro e w2 ⟨rfl, d2, k2⟩
      have K2 : Kept Bo w w2 := (Kept.ofStill s1).trans k2
      have H2 := HH.out.1.kept K2
      have cf := File_failed (Bo := Bo) b o n w2 ((st_cell H2.blk _).trans H2.c1) (HH.out.2.1.kept K2)
      clear H2 crm csz h0
      go_wp2_with fail
      refine cf.mono ?_
      rintro e w3 ⟨v, rfl, hv, b3⟩
      obtain ⟨eb, s, a, hve, hvb⟩ := hv
      subst hve
      go_wp2
      go_ret
      exact .inr ⟨_, S1, rfl, ⟨eb, s, a, rfl, hvb⟩, d2.below b3, HC.out, FK.ofKept (K2.trans (.ofBelow b3))⟩
    | true =>
      have HR1 : Hid (Live A draftB S1 (N + 2) ∧ (∀ R P, Went R P draftB S S1) ∧ findIs draftB S1.now = false ∧ Stay S S1 (· = draftB.toList)) := by
        have h9 : ∀ R P, _ := fun R P => (HRC.out R P).resolve_right (fun h => absurd h.1 (by decide))
        have h8 := h9 (fun _ => False) (fun _ => False)
        exact ⟨h8.2.1, fun R P => (h9 R P).2.2.1, h8.2.2.2.2.1, h8.2.2.2.2.2⟩
      have hmk := mk_cases HR1.out.1 (by decide) HR1.out.2.2.1 (by omega)
      have ccr : ∀ W', Disk Bo W' p S1 → Calls Tryz.prog 137 #[.pointer (some ⟨p, 0, none⟩), .string draftB] W' fun e w' => e = .returned (.bool (S1.create draftB).1) ∧ Disk Bo w' p (S1.create draftB).2 ∧ Kept Bo W' w' := fun W' hW' => Create_m p S1 (N + 2) draftB W' hW' HR1.out.1.ok (by omega) (by decide) (.inr HR1.out.2.2.1)
      obtain ⟨ok2, S2, hS2⟩ : ∃ ok S2, S1.create draftB = (ok, S2) := ⟨_, _, rfl⟩
      simp only [hS2] at hmk ccr
      have HMK : Hid (_) := hmk
      clear HRC hS2 hmk
      cases ok2 with
      | false =>
        have HC : Hid (∀ R P, Cutt A R P draftB S S2 (N + 4)) := fun R P => by
          rcases HMK.out with h | h
          · exact absurd h.1 (by decide)
          · exact ((h.2 R P).more (fun _ h => h) (fun _ h => h) (by omega)).after (HR1.out.2.1 R P)
        clear HMK
        go_enter Tryz.func112, Tryz.ntmps112
        go_wp2_with fail
        refine csz.mono ?_
        rintro e w1 ⟨rfl, s1⟩
        rw [← s1.cell] at h0
        go_wp2_with fail
        refine (crm _ s1).mono ?_
        rintro e w2 ⟨rfl, d2, k2⟩
        have K2 : Kept Bo w w2 := (Kept.ofStill s1).trans k2
        have H2 := HH.out.1.kept K2
        have h02 : w2.cell? ⟨b, o, none⟩ = some (.pointer (some ⟨p, 0, none⟩)) := (st_cell H2.blk _).trans H2.c0
        clear H2 crm csz h0
        go_wp2_with fail
        refine (ccr _ d2).mono ?_
        rintro e w3 ⟨rfl, d3, k3⟩
        have K3 := K2.trans k3
        have H3 := HH.out.1.kept K3
        have cf := File_failed (Bo := Bo) b o n w3 ((st_cell H3.blk _).trans H3.c1) (HH.out.2.1.kept K3)
        clear H3 ccr h02
        go_wp2_with fail
        refine cf.mono ?_
        rintro e w4 ⟨v, rfl, hv, b4⟩
        obtain ⟨eb, s, a, hve, hvb⟩ := hv
        subst hve
        go_wp2
        go_ret
        exact .inr ⟨_, S2, rfl, ⟨eb, s, a, rfl, hvb⟩, d3.below b4, HC.out, FK.ofKept (K3.trans (.ofBelow b4))⟩
      | true =>
        have HDr : Hid (Draft A draftB S S2 S1.files.length ⟨ByteArray.empty, 0⟩ (N + 4)) := by
          rcases HMK.out with h | h
          · exact Draft.after h.2 HR1.out.2.1 HR1.out.2.2.2
          · exact absurd h.1 (by decide)
        clear HMK
        go_enter Tryz.func112, Tryz.ntmps112
        go_wp2_with fail
        refine csz.mono ?_
        rintro e w1 ⟨rfl, s1⟩
        rw [← s1.cell] at h0
        go_wp2_with fail
        refine (crm _ s1).mono ?_
        rintro e w2' ⟨rfl, d2', k2'⟩
        have K2' : Kept Bo w w2' := (Kept.ofStill s1).trans k2'
        have H2' := HH.out.1.kept K2'
        have h02 : w2'.cell? ⟨b, o, none⟩ = some (.pointer (some ⟨p, 0, none⟩)) := (st_cell H2'.blk _).trans H2'.c0
        clear H2' crm csz h0
        go_upto_region 6 with (go_at_call 137; go_must (refine (ccr _ d2').mono ?_; rintro e w2 ⟨rfl, d2, k2⟩))
        have H2 := HH.out.1.kept (K2'.trans k2)
        have K2 : Hid (FK Bo b w w2) := FK.ofKept (K2'.trans k2)
        have f3 := st_frozen H2.blk (o + 3)
        have f4 := st_frozen H2.blk (o + 4)
        have f5 := st_frozen H2.blk (o + 5)
        have e3 : w2.cell? ⟨b, o + 3, none⟩ = some (.int .u64 (sum : Int)) := (st_cell H2.blk _).trans H2.c3
        have e4 : w2.cell? ⟨b, o + 4, none⟩ = some (.int .i64 (wr : Int)) := (st_cell H2.blk _).trans H2.c4
        have e5 : w2.cell? ⟨b, o + 5, none⟩ = some wv := (st_cell H2.blk _).trans H2.c5
        have e2 : w2.cell? ⟨b, o + 2, none⟩ = some (.string h) := (st_cell H2.blk _).trans H2.c2
        have HH2 : Hid (FileAt Bo w2 b o cs T p n h sum wr wv W) := H2
        clear H2 s1 k2 ccr K2' k2' d2' h02
        go_upto_region 7 with fail
        obtain ⟨H3, K3⟩ := HH2.out.sets 14695981039346656037 0
        rw [show (((14695981039346656037 : Nat) : Int)) = 14695981039346656037 from rfl, show (((0 : Nat) : Int)) = 0 from rfl] at H3 K3
        obtain ⟨W3, hW3⟩ : ∃ W, W = (((w2.setCell ⟨b, o + 3, none⟩ (.int .u64 14695981039346656037)).setCell ⟨b, o + 4, none⟩ (.int .i64 0)).setCell ⟨b, o + 5, none⟩ (.slice none 0 0)) := ⟨_, rfl⟩
        rw [← hW3] at H3 K3 ⊢
        clear hW3 e2 e3 e4 e5 f3 f4 f5
        have D3 := K3.disk d2 HH2.out.notDisk
        have cw := Write_any b o _ T p n h _ _ _ _ h W3 H3 (by decide) (by decide) (by simp; omega)
        have e2 : W3.cell? ⟨b, o + 2, none⟩ = some (.string h) := (st_cell H3.blk _).trans H3.c2
        have KW : Hid (FK Bo b w W3) := K2.out.trans (FK.ofWK K3)
        have HH3 := H3.notDisk
        clear H3 K3 d2 HH2 hh
        go_wp2_with (go_at_call 113; go_must (refine cw.mono ?_; rintro e w4 ⟨wv4, rfl, h4, k4⟩))
        go_ret
        rw [fset_fset, Nat.zero_add, List.nil_append] at h4
        exact .inl ⟨wv4, S2, _, rfl, h4, k4.disk D3 HH3, HDr.out, KW.out.trans (FK.ofWK k4)⟩
  | false =>
    have hsc := size_cases hL.ok hsz
    have ccr : ∀ W', Still w W' → Calls Tryz.prog 137 #[.pointer (some ⟨p, 0, none⟩), .string draftB] W' fun e w' => e = .returned (.bool (S.create draftB).1) ∧ Disk Bo w' p (S.create draftB).2 ∧ Kept Bo W' w' := fun W' hW' => Create_m p S N draftB W' (hD.still hW') hL.ok (by omega) (by decide) hsc
    have hmk : ((S.create draftB).1 = true ∧ Draft A draftB S (S.create draftB).2 S.files.length ⟨ByteArray.empty, 0⟩ (N + 4)) ∨ ((S.create draftB).1 = false ∧ ∀ R P, Cutt A R P draftB S (S.create draftB).2 (N + 4)) := by
      by_cases hl : S.life = 0
      · right
        have e : S.create draftB = (false, S.changes.2) := create_no (ok := false) (by rw [← (changes_dead hl).1]) (.inl rfl)
        rw [e]
        exact ⟨rfl, fun R P => (cut_changes hL (changes_dead hl).1).more (fun _ h => h) (fun _ h => h) (by omega)⟩
      · rcases mk_cases hL (by decide) (hsc.resolve_left hl) (by omega) with h | h
        · exact .inl ⟨h.1, ⟨h.2.live.mono (by omega), h.2.went, h.2.noref, h.2.mem, h.2.file, h.2.stay⟩⟩
        · exact .inr ⟨h.1, fun R P => (h.2 R P).more (fun _ h => h) (fun _ h => h) (by omega)⟩
    obtain ⟨ok2, S2, hS2⟩ : ∃ ok S2, S.create draftB = (ok, S2) := ⟨_, _, rfl⟩
    simp only [hS2] at hmk ccr
    have HMK : Hid (_) := hmk
    clear hsz hsc hS2 hD hL hf H hmk
    cases ok2 with
    | false =>
      have HC : Hid (∀ R P, Cutt A R P draftB S S2 (N + 4)) := (HMK.out.resolve_left (fun h => absurd h.1 (by decide))).2
      clear HMK
      go_enter Tryz.func112, Tryz.ntmps112
      go_wp2_with fail
      refine csz.mono ?_
      rintro e w1 ⟨rfl, s1⟩
      rw [← s1.cell] at h0
      go_wp2_with fail
      refine (ccr _ s1).mono ?_
      rintro e w3 ⟨rfl, d3, k3⟩
      have K3 := (Kept.ofStill s1).trans k3
      have H3 := HH.out.1.kept K3
      have cf := File_failed (Bo := Bo) b o n w3 ((st_cell H3.blk _).trans H3.c1) (HH.out.2.1.kept K3)
      clear H3 ccr h0 csz
      go_wp2_with fail
      refine cf.mono ?_
      rintro e w4 ⟨v, rfl, hv, b4⟩
      obtain ⟨eb, s, a, hve, hvb⟩ := hv
      subst hve
      go_wp2
      go_ret
      exact .inr ⟨_, S2, rfl, ⟨eb, s, a, rfl, hvb⟩, d3.below b4, HC.out, FK.ofKept (K3.trans (.ofBelow b4))⟩
    | true =>
      have HDr : Hid (Draft A draftB S S2 S.files.length ⟨ByteArray.empty, 0⟩ (N + 4)) := (HMK.out.resolve_right (fun h => absurd h.1 (by decide))).2
      clear HMK
      go_enter Tryz.func112, Tryz.ntmps112
      go_upto_region 6 with (first | (go_at_call 69; go_must (refine csz.mono ?_; rintro e w1 ⟨rfl, s1⟩; rw [← s1.cell] at h0)) | (go_at_call 137; go_must (refine (ccr _ s1).mono ?_; rintro e w2 ⟨rfl, d2, k2⟩)))
      have H2 := (HH.out.1.still s1).kept k2
      have K2 : Hid (FK Bo b w w2) := (FK.ofKept (.ofStill s1)).trans (FK.ofKept k2)
      have f3 := st_frozen H2.blk (o + 3)
      have f4 := st_frozen H2.blk (o + 4)
      have f5 := st_frozen H2.blk (o + 5)
      have e3 : w2.cell? ⟨b, o + 3, none⟩ = some (.int .u64 (sum : Int)) := (st_cell H2.blk _).trans H2.c3
      have e4 : w2.cell? ⟨b, o + 4, none⟩ = some (.int .i64 (wr : Int)) := (st_cell H2.blk _).trans H2.c4
      have e5 : w2.cell? ⟨b, o + 5, none⟩ = some wv := (st_cell H2.blk _).trans H2.c5
      have e2 : w2.cell? ⟨b, o + 2, none⟩ = some (.string h) := (st_cell H2.blk _).trans H2.c2
      have HH2 : Hid (FileAt Bo w2 b o cs T p n h sum wr wv W) := H2
      clear H2 h0 s1 k2 ccr csz
      go_upto_region 7 with fail
      obtain ⟨H3, K3⟩ := HH2.out.sets 14695981039346656037 0
      rw [show (((14695981039346656037 : Nat) : Int)) = 14695981039346656037 from rfl, show (((0 : Nat) : Int)) = 0 from rfl] at H3 K3
      obtain ⟨W3, hW3⟩ : ∃ W, W = (((w2.setCell ⟨b, o + 3, none⟩ (.int .u64 14695981039346656037)).setCell ⟨b, o + 4, none⟩ (.int .i64 0)).setCell ⟨b, o + 5, none⟩ (.slice none 0 0)) := ⟨_, rfl⟩
      rw [← hW3] at H3 K3 ⊢
      clear hW3 e2 e3 e4 e5 f3 f4 f5
      have D3 := K3.disk d2 HH2.out.notDisk
      have cw := Write_any b o _ T p n h _ _ _ _ h W3 H3 (by decide) (by decide) (by simp; omega)
      have e2 : W3.cell? ⟨b, o + 2, none⟩ = some (.string h) := (st_cell H3.blk _).trans H3.c2
      have KW : Hid (FK Bo b w W3) := K2.out.trans (FK.ofWK K3)
      have HH3 := H3.notDisk
      clear H3 K3 d2 HH2 hh
      go_wp2_with (go_at_call 113; go_must (refine cw.mono ?_; rintro e w4 ⟨wv4, rfl, h4, k4⟩))
      go_ret
      rw [fset_fset, Nat.zero_add, List.nil_append] at h4
      exact .inl ⟨wv4, S2, _, rfl, h4, k4.disk D3 HH3, HDr.out, KW.out.trans (FK.ofWK k4)⟩
end Go.Proofs.YtbjgpfhbdmcbbabGreatDoor.files
