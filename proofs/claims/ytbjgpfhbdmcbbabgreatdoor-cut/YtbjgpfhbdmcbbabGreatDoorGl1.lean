import Derived.Test.YtbjgpfhbdmcbbabGreatDoorCards
import Derived.Test.YtbjgpfhbdmcbbabGreatDoorTie
import Derived.Test.YtbjgpfhbdmcbbabGreatDoorP24
import Derived.WalkKit
import Derived.ProofKit
import Derived.Stop.LaidTwo
import Derived.Lib.LaidTab
import Derived.LaidHandle
import Derived.LaidSub
import Derived.LaidMore

/-
  WHAT THE LISTED VARIABLES GIVE the walks on disks: Gl.
-/
namespace Go.Proofs.YtbjgpfhbdmcbbabGreatDoor.laid2
open Go.ChangeShapes Go.WideShapes Go.ChangeAt Go.RowKit
open parse files jobs
set_option linter.unusedVariables false

theorem rowAt_leaf {P : Program} {fits : TypeId → Bool} {e : TypeId} {u : TypeDesc} (hf : fits e = false) (hu : P.underlying e = some u) (hs : (match u with | .struct _ => false | .array _ _ => false | _ => true) = true) : ∀ (d count off n : Nat), rowAt P fits d e count off n = false
  | 0, _, _, _ => rfl
  | d + 1, count, off, n => by
    unfold rowAt
    simp only [hf, Bool.and_false, Bool.false_or, hu]
    cases u <;> simp at hs ⊢
theorem rowAt_struct {P : Program} {fits : TypeId → Bool} {e : TypeId} {fs : Array Field} (hu : P.underlying e = some (.struct fs)) (hf : fits e = false) (hall : ∀ f ∈ fs, ∀ d count off n, rowAt P fits d f.type count off n = false) : ∀ (d count off n : Nat), rowAt P fits d e count off n = false
  | 0, _, _, _ => rfl
  | d + 1, count, off, n => by
    unfold rowAt
    simp only [hf, Bool.and_false, Bool.false_or, hu]
    split
    · rfl
    · have : (fs.any fun f => f.offset ≤ off % P.cellsOf e && off % P.cellsOf e < f.offset + P.cellsOf f.type && rowAt P fits d f.type 1 (off % P.cellsOf e - f.offset) n) = false := by
        rw [Array.any_eq_false']
        intro f hf2
        rw [hall f hf2]
        simp
      rw [this]
      simp
theorem lies_no {P : Program} {row te : TypeId} {fs : Array Field} (hte : P.underlying te = some (.struct fs)) (h : ∀ d count off n, rowAt P (sameLayout P P.depth · te) d row count off n = false) : ∀ (d count off n : Nat), liesAt P d row count off te n = false
  | 0, _, _, _ => rfl
  | d + 1, count, off, n => by
    unfold liesAt
    rw [h, hte]
    rfl

/-- a variable's block -/
theorem var_block {P : Program} {W : World} {n : String} {g : Nat} {cs : Array Value} (hn : P.globalNamed n = some g) (hv : W.var? P n = some cs) : ∃ T fz, W.heap[g]? = some (.cells cs T fz) := by
  unfold World.var? at hv
  rw [hn] at hv
  simp only [Option.bind_some] at hv
  cases h : W.heap[g]? with
  | none => rw [h] at hv; cases hv
  | some o =>
    rw [h] at hv
    cases o with
    | cells c T fz => simp at hv; subst hv; exact ⟨T, fz, rfl⟩
    | _ => simp at hv
theorem shaped_block {P : Program} {W : World} {n : String} {g : Nat} {cs : Array Value} {t : TypeId} (hS : W.ShapedOpen P) (hgl : g < P.globals.size) (hz : (((begin P (fun _ _ => 0) default).world.heap[g]?).bind Obj.row?).map (·.2) = some t) (hn : P.globalNamed n = some g) (hv : W.var? P n = some cs) : ∃ fz, W.heap[g]? = some (.cells cs t fz) := by
  obtain ⟨T, fz, h1⟩ := var_block hn hv
  obtain ⟨⟨zero, t'⟩, h2, h3⟩ := Option.map_eq_some_iff.1 hz
  have h3 : t' = t := h3
  subst h3
  obtain ⟨cs', h4, _⟩ := hS.1 g zero t' hgl h2
  rw [h1] at h4
  cases h4
  exact ⟨_, h1⟩
theorem laid_ok {P : Program} {W : World} {n : String} {d : DataW Unit} {r : List (String × DataW Unit)} {g : Nat} {u : TypeId} {v : Value} (h : laidMet P ((n, d) :: r) W) (hg : P.globalNamed n = some g) (hv : W.var? P n = some #[.iface u v]) : Value.okWide P W .any 0 u v := by
  obtain ⟨ps, ⟨g0, t0, cs0, f0, p0, q0, hg0, ht0, hv0, hd0, _, e0⟩, _, hrows⟩ := h
  obtain rfl := Option.some.inj (hg.symm.trans hg0)
  obtain rfl := Option.some.inj (hv.symm.trans hv0)
  subst e0
  exact (hrows g 0 (by simp [MemPlace.row])).2 u v (by simpa using World.var?_cell hg0 hv0 0)
theorem row_of_ok {P : Program} {W : World} {tp te t : TypeId} {a : Addr} {c : Array Value} {fz : Nat × Nat} (hp : P.underlying tp = some (.pointer te)) (h : Value.okWide P W .any 0 tp (.pointer (some a))) (hb : W.heap[a.block]? = some (.cells c t fz)) : ∃ d count off, liesAt P d t count off te 1 = true := by
  unfold Value.okWide at h
  simp only [hp] at h
  unfold Cell.okWide at h
  simp only [hp] at h
  unfold Cell.ok at h
  simp only [hp] at h
  obtain ⟨_, _, row, cells, h1, h2⟩ := h
  unfold World.shape? at h1
  rw [hb] at h1
  cases h1
  exact ⟨_, _, _, h2⟩

def leafB (P : Program) (fits : TypeId → Bool) (e : TypeId) : Bool := !fits e && (match P.underlying e with | some (.struct _) => false | some (.array _ _) => false | some _ => true | none => false)
theorem rowAt_leafB {P : Program} {fits : TypeId → Bool} {e : TypeId} (h : leafB P fits e = true) (d count off n : Nat) : rowAt P fits d e count off n = false := by
  unfold leafB at h
  rw [Bool.and_eq_true, Bool.not_eq_true'] at h
  cases hu : P.underlying e with
  | none => rw [hu] at h; exfalso; have h2 := h.2; cases h2
  | some u => exact rowAt_leaf h.1 hu (by rw [hu] at h; cases u <;> first | rfl | (exfalso; have h2 := h.2; cases h2)) d count off n
def flatB (P : Program) (fits : TypeId → Bool) (e : TypeId) : Bool := !fits e && (match P.underlying e with | some (.struct fs) => fs.all (fun f => leafB P fits f.type) | some (.array _ _) => false | some _ => true | none => false)
theorem rowAt_flatB {P : Program} {fits : TypeId → Bool} {e : TypeId} (h : flatB P fits e = true) (d count off n : Nat) : rowAt P fits d e count off n = false := by
  have h0 := h
  unfold flatB at h
  rw [Bool.and_eq_true, Bool.not_eq_true'] at h
  cases hu : P.underlying e with
  | none => rw [hu] at h; exfalso; have h2 := h.2; cases h2
  | some u =>
    rw [hu] at h
    cases u with
    | struct fs =>
      refine rowAt_struct hu h.1 (fun f hf d count off n => ?_) d count off n
      have := Array.all_eq_true'.1 h.2 f hf
      exact rowAt_leafB this d count off n
    | array m v => exfalso; have h2 := h.2; cases h2
    | _ => exact rowAt_leaf h.1 hu rfl d count off n

theorem gEnd : Tryz.prog.globalNamed "quern/dna.errEnd" = some 8 := by kernel_rfl
theorem gAbs : Tryz.prog.globalNamed "quern/files.ErrAbsent" = some 9 := by kernel_rfl
theorem gBro : Tryz.prog.globalNamed "quern/files.ErrBroken" = some 6 := by kernel_rfl
theorem gBru : Tryz.prog.globalNamed "math/bits.deBruijn64tab" = some 17 := by kernel_rfl
theorem gPow : Tryz.prog.globalNamed "internal/strconv.uint64pow10" = some 11 := by kernel_rfl
theorem tEnd : (Tryz.prog.globals[8]?).map (·.type) = some 66 := by kernel_rfl
theorem tAbs : (Tryz.prog.globals[9]?).map (·.type) = some 66 := by kernel_rfl
theorem tBro : (Tryz.prog.globals[6]?).map (·.type) = some 66 := by kernel_rfl
theorem tBru : (Tryz.prog.globals[17]?).map (·.type) = some 248 := by kernel_rfl
theorem tPow : (Tryz.prog.globals[11]?).map (·.type) = some 191 := by kernel_rfl
theorem nGlobals : Tryz.prog.globals.size = 27 := by kernel_rfl
theorem zEnd : (((begin Tryz.prog (fun _ _ => 0) default).world.heap[8]?).bind Obj.row?).map (·.2) = some 66 := by kernel_rfl
theorem zAbs : (((begin Tryz.prog (fun _ _ => 0) default).world.heap[9]?).bind Obj.row?).map (·.2) = some 66 := by kernel_rfl
theorem zBro : (((begin Tryz.prog (fun _ _ => 0) default).world.heap[6]?).bind Obj.row?).map (·.2) = some 66 := by kernel_rfl
theorem zBru : (((begin Tryz.prog (fun _ _ => 0) default).world.heap[17]?).bind Obj.row?).map (·.2) = some 248 := by kernel_rfl
theorem zPow : (((begin Tryz.prog (fun _ _ => 0) default).world.heap[11]?).bind Obj.row?).map (·.2) = some 191 := by kernel_rfl
theorem zLast : (((begin Tryz.prog (fun _ _ => 0) default).world.heap[27 - 1]?).bind Obj.row?).isSome = true := by kernel_rfl
theorem cellsE : Tryz.prog.cellsOf 256 = 1 := by kernel_rfl
theorem cellsS : Tryz.prog.cellsOf 9 = 1 := by kernel_rfl
theorem cells8 : Tryz.prog.cellsOf 5 = 1 := by kernel_rfl
theorem cells64 : Tryz.prog.cellsOf 101 = 1 := by kernel_rfl
theorem cellsB : Tryz.prog.cellsOf 248 = 64 := by kernel_rfl
theorem cellsP : Tryz.prog.cellsOf 191 = 20 := by kernel_rfl
theorem rowE (u : TypeId) (h : Tryz.prog.typeName? 3 u = some "*errors.errorString") : u = 254 := by
  have e : ("*" ++ "errors.errorString" : String) = "*errors.errorString" := by decide
  exact typeName_ptr_named (nm := "errors.errorString") (by rw [e]; kernel_rfl) (by kernel_rfl) (by decide) u (by rw [e]; exact h)
theorem flat0 : flatB Tryz.prog (sameLayout Tryz.prog Tryz.prog.depth · 256) 63 = true := by kernel_rfl
theorem flat1 : flatB Tryz.prog (sameLayout Tryz.prog Tryz.prog.depth · 256) 82 = true := by kernel_rfl
theorem flat2 : flatB Tryz.prog (sameLayout Tryz.prog Tryz.prog.depth · 256) 84 = true := by kernel_rfl
theorem flat3 : flatB Tryz.prog (sameLayout Tryz.prog Tryz.prog.depth · 256) 79 = true := by kernel_rfl
theorem flat4 : flatB Tryz.prog (sameLayout Tryz.prog Tryz.prog.depth · 256) 5 = true := by kernel_rfl
theorem ours_no {t : TypeId} (h : ours t) (d count off n : Nat) : liesAt Tryz.prog d t count off 256 n = false := by
  refine lies_no Tryz.underlying256 ?_ d count off n
  rcases h with rfl | rfl | rfl | rfl | rfl
  · exact rowAt_flatB flat0
  · exact rowAt_flatB flat1
  · exact rowAt_flatB flat2
  · exact rowAt_flatB flat3
  · exact rowAt_flatB flat4

abbrev theRow : OpenClaim := Rows.othersRow
theorem plainList : (theRow.laid.filter fun x => x.2.handleName?.isNone) = [("math/bits.deBruijn32tab", Rows.laid_math_bits_deBruijn32tab), ("math/bits.deBruijn64tab", Rows.laid_math_bits_deBruijn64tab), ("internal/strconv.uint64pow10", Rows.laid_internal_strconv_uint64pow10), ("unicode/utf8.acceptRanges", Rows.laid_unicode_utf8_acceptRanges), ("strconv.ErrRange", Rows.laid_strconv_ErrRange), ("strconv.ErrSyntax", Rows.laid_strconv_ErrSyntax), ("quern/dna.errLong", Rows.laid_quern_dna_errLong), ("quern/dna.errForm", Rows.laid_quern_dna_errForm), ("quern/dna.errEnd", Rows.laid_quern_dna_errEnd), ("quern/files.ErrAbsent", Rows.laid_quern_files_ErrAbsent), ("quern/files.ErrBroken", Rows.laid_quern_files_ErrBroken), ("quern/files.errFailed", Rows.laid_quern_files_errFailed), ("quern/files.errRoom", Rows.laid_quern_files_errRoom), ("quern/quern.errNoDisk", Rows.laid_quern_quern_errNoDisk), ("quern/quern.errDead", Rows.laid_quern_quern_errDead), ("quern/quern.errOptions", Rows.laid_quern_quern_errOptions), ("quern/quern.errInput", Rows.laid_quern_quern_errInput), ("quern/quern.errOther", Rows.laid_quern_quern_errOther), ("unicode/utf8.first", Rows.laid_unicode_utf8_first)] := by kernel_rfl
def ints : DataW Unit → List Int
  | .agg ds => ds.map fun | .lit (.int _ z) => z | _ => 0
  | _ => []
theorem bruData : (Rows.laid_math_bits_deBruijn64tab : DataW Unit) = Lib.tabData .u8 (ints Rows.laid_math_bits_deBruijn64tab) := by kernel_rfl
theorem bruAt : (((ints Rows.laid_math_bits_deBruijn64tab).map fun z => Value.int .u8 z).toArray)[15]? = some (.int .u8 4) := by kernel_rfl
theorem powData : (Rows.laid_internal_strconv_uint64pow10 : DataW Unit) = Lib.tabData .u64 Lib.pow10Tab := by kernel_rfl

set_option maxRecDepth 100000 in
theorem gl_of {W : World} (h : laidMetH Tryz.prog theRow.laid W) (hS : W.ShapedOpen Tryz.prog) : ∃ a b aE, Gl W a b aE := by
  obtain ⟨h1, _⟩ := laidMetH_iff.1 h
  rw [plainList] at h1
  have hb := h1.tail
  have hp := hb.tail
  have he := hp.tail.tail.tail.tail.tail.tail
  have ha := he.tail
  have hbr := ha.tail
  have vb := by
    have hb2 := hb
    rw [bruData] at hb2
    exact Lib.tabIs_of_head gBru tBru Tryz.underlying248 Tryz.underlying5 cells8 cellsB hb2
  have vp := by
    have hp2 := hp
    rw [powData] at hp2
    exact Lib.tabIs_of_head gPow tPow Tryz.underlying191 Tryz.underlying101 cells64 cellsP hp2
  obtain ⟨aE, s0, hvE, _⟩ := laid_sentinel (show laidMet Tryz.prog ((_, .iface "*errors.errorString" (.ptr (.agg [.lit (.string _)]))) :: _) W from he) gEnd tEnd Tryz.underlying66 rowE Tryz.underlying254 Tryz.underlying256 rfl rfl Tryz.underlying9 cellsE cellsS
  obtain ⟨a, b, _, _, c0, c1, t0, t1, hva, hvb, _, _, _, _, _, _, hne, hba, hbb⟩ := laid_sentinels2 (show laidMet Tryz.prog ((_, .iface "*errors.errorString" (.ptr (.agg [.lit (.string _)]))) :: (_, .iface "*errors.errorString" (.ptr (.agg [.lit (.string _)]))) :: _) W from ha) gAbs tAbs gBro tBro Tryz.underlying66 rowE Tryz.underlying254 Tryz.underlying256 rfl rfl Tryz.underlying9 cellsE cellsS
  have oka := laid_ok ha gAbs hva
  have okb := laid_ok hbr gBro hvb
  have noa : ¬ ours t0 := fun ho => by
    obtain ⟨d, c, o, hl⟩ := row_of_ok Tryz.underlying254 oka hba
    rw [ours_no ho] at hl; cases hl
  have nob : ¬ ours t1 := fun ho => by
    obtain ⟨d, c, o, hl⟩ := row_of_ok Tryz.underlying254 okb hbb
    rw [ours_no ho] at hl; cases hl
  obtain ⟨fE, bE⟩ := shaped_block hS (by rw [nGlobals]; decide) zEnd gEnd hvE
  obtain ⟨fA, bA⟩ := shaped_block hS (by rw [nGlobals]; decide) zAbs gAbs hva
  obtain ⟨fB, bB⟩ := shaped_block hS (by rw [nGlobals]; decide) zBro gBro hvb
  obtain ⟨fU, bU⟩ := shaped_block hS (by rw [nGlobals]; decide) zBru gBru vb
  obtain ⟨fP, bP⟩ := shaped_block hS (by rw [nGlobals]; decide) zPow gPow vp
  have hmany : 27 ≤ W.heap.size := by
    obtain ⟨⟨zero, t⟩, hz⟩ := Option.isSome_iff_exists.1 zLast
    obtain ⟨cs, hc, _⟩ := hS.1 (27 - 1) zero t (by rw [nGlobals]; decide) hz
    have := lt_of_block hc
    omega
  exact ⟨a, b, aE, ⟨⟨_, _, _, bA, rfl, rfl⟩, ⟨_, _, _, bB, rfl, rfl⟩, ⟨_, _, _, bU, rfl, bruAt⟩, ⟨_, _, _, bP, rfl, rfl⟩⟩, ⟨hne.symm, ⟨_, _, hba, noa⟩, ⟨_, _, hbb, nob⟩⟩, ⟨_, _, _, bE, rfl, rfl⟩, hmany⟩
end Go.Proofs.YtbjgpfhbdmcbbabGreatDoor.laid2
