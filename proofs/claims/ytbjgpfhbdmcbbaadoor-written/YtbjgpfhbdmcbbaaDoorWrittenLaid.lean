/-
  WHAT THE LISTED VARIABLES GIVE Written's WALK, and what its arguments are.
-/
import Derived.Test.YtbjgpfhbdmcbbaaDoorCards
import Derived.Test.YtbjgpfhbdmcbbaaDoorTie
import Derived.Test.YtbjgpfhbdmcbbaaDoorWrittenWalk
import Derived.WalkKit
import Derived.ProofKit
import Derived.OpenShut
import Derived.Deep.Slices
import Derived.Deep.DeepHandedRow
import Derived.Deep.DeepWitnessRowRef
import Derived.Stop.LaidErr
import Derived.LaidHandle
import Derived.LaidSub
import Derived.LaidMore
namespace Go.Proofs.YtbjgpfhbdmcbbaaDoor.written
open Go.ChangeShapes Go.WideShapes Go.ChangeAt Go.RowKit
open Go.Proofs.YtbjgpfhbdmcbbaaDoor.parse Go.Proofs.YtbjgpfhbdmcbbaaDoor.keep
set_option linter.unusedVariables false

theorem gForm : Tryd.prog.globalNamed "quern/dna.errForm" = some 2 := by kernel_rfl
theorem gEnd : Tryd.prog.globalNamed "quern/dna.errEnd" = some 1 := by kernel_rfl
theorem gType : Tryd.prog.globalNamed "errors.errorType" = some 3 := by kernel_rfl
theorem tForm : (Tryd.prog.globals[2]?).map (·.type) = some 47 := by kernel_rfl
theorem tEnd : (Tryd.prog.globals[1]?).map (·.type) = some 47 := by kernel_rfl
theorem cellsE : Tryd.prog.cellsOf 180 = 1 := by kernel_rfl
theorem cellsS : Tryd.prog.cellsOf 9 = 1 := by kernel_rfl
theorem rowE (u : TypeId) (h : Tryd.prog.typeName? 3 u = some "*errors.errorString") : u = 150 := by
  have e : ("*" ++ "errors.errorString" : String) = "*errors.errorString" := by decide
  exact typeName_ptr_named (nm := "errors.errorString") (by rw [e]; kernel_rfl) (by kernel_rfl) (by decide) u (by rw [e]; exact h)

theorem plainList : (Rows.writtenRow.laid.filter fun x => x.2.handleName?.isNone) = [("math/bits.deBruijn32tab", Rows.laid_math_bits_deBruijn32tab), ("math/bits.deBruijn64tab", Rows.laid_math_bits_deBruijn64tab), ("internal/strconv.uint64pow10", Rows.laid_internal_strconv_uint64pow10), ("unicode/utf8.acceptRanges", Rows.laid_unicode_utf8_acceptRanges), ("quern/dna.errLong", Rows.laid_quern_dna_errLong), ("quern/dna.errForm", Rows.laid_quern_dna_errForm), ("quern/dna.errEnd", Rows.laid_quern_dna_errEnd), ("unicode/utf8.first", Rows.laid_unicode_utf8_first)] := by kernel_rfl
theorem handleList : (Rows.writtenRow.laid.filter fun x => x.2.handleName?.isSome) = [("errors.errorType", Rows.laid_errors_errorType)] := by kernel_rfl
theorem handleIn : (Rows.laid_errors_errorType (H := Unit)).funcsIn?.isNone = true := by kernel_rfl
theorem handleIs : (Rows.laid_errors_errorType (H := Unit)).handleName? = some [101, 114, 114, 111, 114] := by kernel_rfl
theorem rtypeIs : (Tryd.prog.cutTypes.find? (·.1 == "internal/reflectlite.rtype")).map (·.2) = some 107 := by kernel_rfl
theorem errorIs : ((List.range Tryd.prog.types.size).filter fun t => Tryd.prog.rowNamed t [101, 114, 114, 111, 114]) = [47] := by kernel_rfl
theorem nGlobals : Tryd.prog.globals.size = 16 := by kernel_rfl

theorem of_laid {W : World} (h : laidMetH Tryd.prog Rows.writtenRow.laid W) : (∃ a, EndIs W a) ∧ TypeIs W ∧ FormErr W := by
  obtain ⟨h1, h2⟩ := laidMetH_iff.1 h
  rw [plainList] at h1
  rw [handleList] at h2
  have h3 := h1.tail.tail.tail.tail.tail
  have h4 := h3.tail
  obtain ⟨a0, s0, hv0, _⟩ := laid_sentinel (show laidMet Tryd.prog ((_, .iface "*errors.errorString" (.ptr (.agg [.lit (.string _)]))) :: _) W from h3) gForm tForm Tryd.underlying47 rowE Tryd.underlying150 Tryd.underlying180 rfl rfl Tryd.underlying9 cellsE cellsS
  obtain ⟨a1, s1, hv1, _⟩ := laid_sentinel (show laidMet Tryd.prog ((_, .iface "*errors.errorString" (.ptr (.agg [.lit (.string _)]))) :: _) W from h4) gEnd tEnd Tryd.underlying47 rowE Tryd.underlying150 Tryd.underlying180 rfl rfl Tryd.underlying9 cellsE cellsS
  refine ⟨⟨a1, ?_⟩, ?_, ⟨a0, ?_⟩⟩
  · have := World.var?_cell gEnd hv1 0
    unfold EndIs
    rw [this]; rfl
  · have h5 := h2 _ (List.mem_singleton.2 rfl)
    have hn : (Rows.laid_errors_errorType (H := Unit)).funcsIn? = none := Option.isNone_iff_eq_none.1 handleIn
    have h6 : ∃ name u ty, (Rows.laid_errors_errorType (H := Unit)).handleName? = some name ∧ (Tryd.prog.cutTypes.find? (·.1 == "internal/reflectlite.rtype")).map (·.2) = some u ∧ ty < Tryd.prog.types.size ∧ Tryd.prog.rowNamed ty name = true ∧
        W.var? Tryd.prog "errors.errorType" = some #[.iface u (.agg #[typeHandle Tryd.prog ty])] := by
      revert h5
      simp only [hn]
      exact id
    obtain ⟨name, u, ty, e1, e2, e3, e4, e5⟩ := h6
    obtain rfl := Option.some.inj (handleIs.symm.trans e1)
    obtain rfl := Option.some.inj (rtypeIs.symm.trans e2)
    have hm : ty ∈ ((List.range Tryd.prog.types.size).filter fun t => Tryd.prog.rowNamed t [101, 114, 114, 111, 114]) := List.mem_filter.2 ⟨List.mem_range.2 e3, e4⟩
    rw [errorIs, List.mem_singleton] at hm
    subst hm
    have := World.var?_cell gType e5 0
    unfold TypeIs
    rw [this]
    unfold typeHandle
    rw [nGlobals]; rfl
  · have := World.var?_cell gForm hv0 0
    rw [this]; rfl

theorem cellsI : Tryd.prog.cellsOf 3 = 1 := by kernel_rfl
theorem cellsR : Tryd.prog.cellsOf 37 = 1 := by kernel_rfl

theorem rows_of {H : Type} {enc : TypeId × Value → H} {W : World} {fuel : Nat} {a0 : Option Addr} {len cap : Nat} {x : DataW H × List MemPlace}
    (h : DataW.trod enc Tryd.prog W 0 (fun _ => true) true fuel 33 [.slice a0 len cap] = some x) : IsRows W a0 len := by
  rcases Go.Deep.open_slice Tryd.underlying33 h with ⟨hcs, _⟩ | ⟨a, l, c, m, n, D, Pl, hcs, _, hl, hm, hmm, _, hel⟩
  · simp at hcs
    obtain ⟨rfl, rfl, rfl⟩ := hcs
    exact ⟨Nat.zero_le _, .inl rfl⟩
  · simp at hcs
    obtain ⟨rfl, rfl, rfl⟩ := hcs
    refine ⟨Nat.le_trans hl hm, ?_⟩
    by_cases h0 : len = 0
    · exact .inl h0
    have key : ∀ i, i < len → ∃ ai li ci zs, W.cell? (a.add i) = some (.slice ai li ci) ∧ IsRow W ai li ci zs := by
      intro i hi
      obtain ⟨cs', hc, hd⟩ := hel i (by rw [hmm]; simp; omega)
      rw [cellsR, Nat.mul_one] at hc
      rcases open_ints Tryd.underlying37 Tryd.underlying3 cellsI hd with ⟨rfl, _⟩ | ⟨y, l', c', zs, rfl, _, hl', hm', hz', _, hcell, hwz⟩
      · exact ⟨none, 0, 0, [], cell_of_cells?_one hc, .inl ⟨rfl, rfl, rfl, rfl⟩⟩
      · exact ⟨some y, l', c', zs, cell_of_cells?_one hc, .inr ⟨y, rfl, hl', hm', by simpa using hz', hcell, hwz⟩⟩
    obtain ⟨b, off, spot⟩ := a
    have hspot : spot = none := by
      obtain ⟨_, _, _, _, hc, _⟩ := key 0 (by omega)
      simpa [Addr.add] using World.cell?_spot hc
    subst hspot
    refine .inr ⟨b, off, rfl, fun i hi => ?_⟩
    obtain ⟨ai, li, ci, zs, hc, hr⟩ := key i hi
    have e : (⟨b, off, none⟩ : Addr).add i = ⟨b, off + i, none⟩ := by unfold Addr.add; split <;> simp_all
    rw [e] at hc
    exact ⟨ai, li, ci, zs, hc, hr⟩
end Go.Proofs.YtbjgpfhbdmcbbaaDoor.written
