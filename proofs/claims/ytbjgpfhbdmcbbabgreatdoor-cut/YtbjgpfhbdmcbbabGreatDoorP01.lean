import Derived.Shelf.Strings.Builder1
import Derived.Shelf.Small.Strs
import Derived.Shelf.Small.Wraps
import Derived.Shelf.Strings.BuilderF
import Derived.Shelf.Strings.BuilderK
import Derived.Shelf.Strconv.Atoi
import Derived.Shelf.Strconv.Itoa0
import Derived.Shelf.Strconv.Itoa1
import Derived.Shelf.LaysM
import Derived.Shelf.Strconv.Itoa2
import Derived.Shelf.Strconv.Itoa3
import Derived.Shelf.Strings.Search1
import Derived.Shelf.Strings.Search2
import Derived.Shelf.Strings.Search3
import Derived.Shelf.Strings.Cut
import Derived.Shelf.Strings.Count
import Derived.Shelf.Strings.Shaped
import Derived.Shelf.Sort.Plain
import Derived.Shelf.Strings.LastIndex
import Derived.Shelf.Strings.LastIndexAll
import Derived.Shelf.Strings.Prefix
import Derived.Shelf.Strings.Split
import Derived.Shelf.Strings.SplitShaped
import Derived.Shelf.Unicode.DecodeSlow
import Derived.Shelf.Slices.In.SortNone
import Derived.Test.YtbjgpfhbdmcbbabGreatDoorProg
import Derived.Shelf.Strings.SplitCore
import Derived.Lib.MinMaxS
import Derived.WalkKit
import Derived.WalkLawsBesides
import Derived.Lib.Bytealg
import Derived.Lib.UnsafeStr
import Derived.Lib.Strings
import Derived.Laws.MakeOwn
import Derived.Laws.IdiomStrings
import Derived.OwnWalk
import Derived.ArgAppend
import Derived.Maps.AppendAt
import Derived.RegionTactic
import Derived.BigQuiet
import Derived.Deep.QuietTactic
import Derived.Deep.DeepMust

/-
  Contracts of the library's shelf at this program, laid by the kit's own command in plain words; the ones that are used.
-/
namespace Go.Proofs
open Go.Shelf
def Tryz.lays219_ren : Go.Shelf.Ren := ⟨fun | 219 => 126 | 217 => 151 | 225 => 152 | 224 => 153 | 267 => 154 | 266 => 168 | 314 => 169 | n => n, fun | 9 => 9 | 3 => 3 | 4 => 4 | 5 => 5 | 46 => 145 | 146 => 240 | 51 => 192 | n => n, fun | 1 => 13 | n => n⟩
theorem Tryz.lays219 : Go.Proofs.Lays.n219 Tryz.prog Tryz.lays219_ren := {
  mixed := by kernel_rfl
  f217 := Tryz.func151.trans (congrArg some (by kernel_rfl))
  f219 := Tryz.func126.trans (congrArg some (by kernel_rfl))
  f224 := Tryz.func153.trans (congrArg some (by kernel_rfl))
  f225 := Tryz.func152.trans (congrArg some (by kernel_rfl))
  f266 := Tryz.func168.trans (congrArg some (by kernel_rfl))
  f267 := Tryz.func154.trans (congrArg some (by kernel_rfl))
  f314 := Tryz.func169.trans (congrArg some (by kernel_rfl))
  t3 := Tryz.underlying3
  a3 := Tryz.isAgg3
  z3 := Tryz.sizeOf3
  v3 := Tryz.zeroValue3
  t4 := Tryz.underlying4
  a4 := Tryz.isAgg4
  z4 := Tryz.sizeOf4
  v4 := Tryz.zeroValue4
  t5 := Tryz.underlying5
  a5 := Tryz.isAgg5
  z5 := Tryz.sizeOf5
  v5 := Tryz.zeroValue5
  t9 := Tryz.underlying9
  a9 := Tryz.isAgg9
  z9 := Tryz.sizeOf9
  v9 := Tryz.zeroValue9
  t46 := Tryz.underlying145
  a46 := Tryz.isAgg145
  z46 := Tryz.sizeOf145
  v46 := Tryz.zeroValue145
  t51 := Tryz.underlying192
  a51 := Tryz.isAgg192
  z51 := Tryz.sizeOf192
  v51 := Tryz.zeroValue192
  t146 := Tryz.underlying240
  a146 := Tryz.isAgg240
  z146 := Tryz.sizeOf240
  v146 := Tryz.zeroValue240
  g1 := by kernel_rfl }
open Go.RowKit Go.Lib in
theorem Tryz.stringslite_Index_one (s : ByteArray) (c : UInt8) (w : World) :
    Calls Tryz.prog 126 #[.string s, .string ⟨#[c]⟩] w fun e w' => e = .returned (.int .i64 (Lib.indexByte s.data.toList c)) ∧ w' = w := Any.stringslite_Index_one Tryz.lays219 s c w
end Go.Proofs

/-
  PLAIN MATHEMATICS OF WORDS AND MARKS over lists of bytes. It imports nothing of the program.
-/
namespace Go.Proofs.YtbjgpfhbdmcbbabGreatDoor.dnamath

def isB (c : UInt8) : Bool := c == 65 || c == 67 || c == 71 || c == 84
def isBN (c : UInt8) : Bool := isB c || c == 78
def wordB (l : List UInt8) : Bool := !l.isEmpty && l.all isB
def comp (c : UInt8) : UInt8 := if c == 65 then 84 else if c == 67 then 71 else if c == 71 then 67 else 65
def compR (c : UInt8) : UInt8 := if c == 67 then 71 else if c == 71 then 67 else if c == 84 then 65 else 84
def turn (l : List UInt8) : List UInt8 := (l.map comp).reverse
def turnR (l : List UInt8) : List UInt8 := (l.map compR).reverse
def minL (a b : List UInt8) : List UInt8 := if a < b ∨ a = b then a else b

theorem minS_data (x y : ByteArray) : (Lib.minS x y).data.toList = minL x.data.toList y.data.toList := by
  unfold Lib.minS minL
  split <;> rfl

theorem comp_eq {c : UInt8} (h : isB c = true) : compR c = comp c := by
  simp only [isB, Bool.or_eq_true, beq_iff_eq] at h
  rcases h with ((rfl | rfl) | rfl) | rfl <;> decide

theorem comp_isB {c : UInt8} (h : isB c = true) : isB (comp c) = true := by
  simp only [isB, Bool.or_eq_true, beq_iff_eq] at h
  rcases h with ((rfl | rfl) | rfl) | rfl <;> decide

theorem comp_comp {c : UInt8} (h : isB c = true) : comp (comp c) = c := by
  simp only [isB, Bool.or_eq_true, beq_iff_eq] at h
  rcases h with ((rfl | rfl) | rfl) | rfl <;> decide

theorem turn_length (l : List UInt8) : (turn l).length = l.length := by simp [turn]

theorem turn_all {l : List UInt8} (h : l.all isB = true) : (turn l).all isB = true := by
  rw [List.all_eq_true] at h ⊢
  intro c hc
  simp only [turn, List.mem_reverse, List.mem_map] at hc
  obtain ⟨d, hd, rfl⟩ := hc
  exact comp_isB (h d hd)

theorem turn_turn {l : List UInt8} (h : l.all isB = true) : turn (turn l) = l := by
  unfold turn
  rw [List.map_reverse, List.reverse_reverse, List.map_map]
  conv => rhs; rw [← List.map_id l]
  apply List.map_congr_left
  intro c hc
  exact comp_comp (List.all_eq_true.1 h c hc)

theorem all_part {l : List UInt8} (h : l.all isB = true) (i m : Nat) : ((l.drop i).take m).all isB = true := by
  rw [List.all_eq_true] at h ⊢
  intro c hc
  exact h c (List.mem_of_mem_drop (List.mem_of_mem_take hc))

/-! the order -/
theorem le_of_min_left (a b : List UInt8) : minL a b ≤ a := by
  unfold minL
  split
  · exact List.le_refl _
  · rename_i h
    have h1 : ¬ a < b := fun e => h (.inl e)
    exact List.not_lt.1 h1
theorem le_of_min_right (a b : List UInt8) : minL a b ≤ b := by
  unfold minL
  split
  · rename_i h
    rcases h with h | h
    · exact List.le_of_lt h
    · rw [h]; exact List.le_refl _
  · exact List.le_refl _
theorem min_cases (a b : List UInt8) : minL a b = a ∨ minL a b = b := by
  unfold minL
  split
  · exact .inl rfl
  · exact .inr rfl

/-- r is the least of those that S holds of -/
def Least (S : List UInt8 → Prop) (r : List UInt8) : Prop := S r ∧ ∀ x, S x → r ≤ x

theorem Least.unique {S : List UInt8 → Prop} {a b : List UInt8} (ha : Least S a) (hb : Least S b) : a = b :=
  List.le_antisymm (ha.2 b hb.1) (hb.2 a ha.1)

theorem Least.congr {S T : List UInt8 → Prop} {a : List UInt8} (h : ∀ x, S x ↔ T x) (ha : Least S a) : Least T a :=
  ⟨(h a).1 ha.1, fun x hx => ha.2 x ((h x).2 hx)⟩

theorem Least.min {S T : List UInt8 → Prop} {a b : List UInt8} (ha : Least S a) (hb : Least T b) : Least (fun x => S x ∨ T x) (minL a b) := by
  refine ⟨?_, ?_⟩
  · rcases min_cases a b with h | h
    · rw [h]; exact .inl ha.1
    · rw [h]; exact .inr hb.1
  · rintro x (h | h)
    · exact List.le_trans (le_of_min_left a b) (ha.2 x h)
    · exact List.le_trans (le_of_min_right a b) (hb.2 x h)

theorem Least.one (a : List UInt8) : Least (fun x => x = a) a := ⟨rfl, fun x h => by rw [h]; exact List.le_refl _⟩

/-- the m letters from i on -/
def cut (l : List UInt8) (i m : Nat) : List UInt8 := (l.drop i).take m
/-- a part of m letters, that begins ahead of k -/
def PartTo (l : List UInt8) (m k : Nat) (x : List UInt8) : Prop := ∃ i, i < k ∧ i + m ≤ l.length ∧ x = cut l i m
def Part (l : List UInt8) (m : Nat) (x : List UInt8) : Prop := ∃ i, i + m ≤ l.length ∧ x = cut l i m
/-- Canon of a part -/
def CanonTo (l : List UInt8) (m k : Nat) (x : List UInt8) : Prop := ∃ i, i < k ∧ i + m ≤ l.length ∧ x = minL (cut l i m) (turn (cut l i m))
/-- parts of both sides -/
def Both (l : List UInt8) (m : Nat) (x : List UInt8) : Prop := Part l m x ∨ Part (turn l) m x

theorem part_of_to {l : List UInt8} {m k : Nat} (h : l.length < k + m) (x : List UInt8) : PartTo l m k x ↔ Part l m x := by
  constructor
  · rintro ⟨i, _, h2, h3⟩; exact ⟨i, h2, h3⟩
  · rintro ⟨i, h2, h3⟩; exact ⟨i, by omega, h2, h3⟩

theorem partTo_succ {l : List UInt8} {m k : Nat} (h : k + m ≤ l.length) (x : List UInt8) : (PartTo l m k x ∨ x = cut l k m) ↔ PartTo l m (k + 1) x := by
  constructor
  · rintro (⟨i, h1, h2, h3⟩ | h3)
    · exact ⟨i, by omega, h2, h3⟩
    · exact ⟨k, by omega, h, h3⟩
  · rintro ⟨i, h1, h2, h3⟩
    by_cases e : i = k
    · subst e; exact .inr h3
    · exact .inl ⟨i, by omega, h2, h3⟩

theorem least_start {l : List UInt8} {m : Nat} (h : m ≤ l.length) : Least (PartTo l m 1) (cut l 0 m) :=
  (Least.one _).congr fun x => by
    constructor
    · intro e; exact ⟨0, by omega, by omega, e⟩
    · rintro ⟨i, h1, _, h3⟩
      have : i = 0 := by omega
      subst this; exact h3

theorem least_step {l : List UInt8} {m k : Nat} {r : List UInt8} (h : k + m ≤ l.length) (hr : Least (PartTo l m k) r) : Least (PartTo l m (k + 1)) (minL r (cut l k m)) :=
  (hr.min (Least.one (cut l k m))).congr (partTo_succ h)

theorem cut_length {l : List UInt8} {i m : Nat} (h : i + m ≤ l.length) : (cut l i m).length = m := by
  simp only [cut, List.length_take, List.length_drop]; omega

theorem turn_cut {l : List UInt8} {i m : Nat} (h : i + m ≤ l.length) : cut (turn l) (l.length - (i + m)) m = turn (cut l i m) := by
  unfold cut turn
  rw [List.drop_reverse, List.take_reverse, List.length_map]
  congr 1
  rw [List.map_take, List.map_drop]
  have e1 : l.length - (l.length - (i + m)) = i + m := by omega
  rw [e1, List.drop_take]
  have e2 : (List.take (i + m) (List.map comp l)).length - m = i := by rw [List.length_take, List.length_map]; omega
  rw [e2]
  congr 1
  omega

theorem part_turn {l : List UInt8} {m : Nat} (x : List UInt8) : Part (turn l) m x ↔ ∃ i, i + m ≤ l.length ∧ x = turn (cut l i m) := by
  constructor
  · rintro ⟨j, hj, rfl⟩
    rw [turn_length] at hj
    refine ⟨l.length - (j + m), by omega, ?_⟩
    rw [← turn_cut (by omega)]
    congr 1
    omega
  · rintro ⟨i, hi, rfl⟩
    exact ⟨l.length - (i + m), by rw [turn_length]; omega, (turn_cut hi).symm⟩

/-- THE LEAST PART OF BOTH SIDES IS THE LEAST CANON OF A PART. -/
theorem least_canon {l : List UInt8} {m k : Nat} {r : List UInt8} (h : l.length < k + m) (hr : Least (CanonTo l m k) r) : Least (Both l m) r := by
  refine ⟨?_, ?_⟩
  · obtain ⟨i, _, h2, h3⟩ := hr.1
    rcases min_cases (cut l i m) (turn (cut l i m)) with e | e
    · exact .inl ⟨i, h2, by rw [h3, e]⟩
    · exact .inr ((part_turn _).2 ⟨i, h2, by rw [h3, e]⟩)
  · rintro x (⟨i, h2, rfl⟩ | hx)
    · exact List.le_trans (hr.2 _ ⟨i, by omega, h2, rfl⟩) (le_of_min_left _ _)
    · obtain ⟨i, h2, rfl⟩ := (part_turn _).1 hx
      exact List.le_trans (hr.2 _ ⟨i, by omega, h2, rfl⟩) (le_of_min_right _ _)

theorem canon_start {l : List UInt8} {m : Nat} (h : m ≤ l.length) : Least (CanonTo l m 1) (minL (cut l 0 m) (turn (cut l 0 m))) :=
  (Least.one _).congr fun x => by
    constructor
    · intro e; exact ⟨0, by omega, by omega, e⟩
    · rintro ⟨i, h1, _, h3⟩
      have : i = 0 := by omega
      subst this; exact h3

theorem canon_step {l : List UInt8} {m k : Nat} {r : List UInt8} (h : k + m ≤ l.length) (hr : Least (CanonTo l m k) r) : Least (CanonTo l m (k + 1)) (minL r (minL (cut l k m) (turn (cut l k m)))) :=
  (hr.min (Least.one _)).congr fun x => by
    constructor
    · rintro (⟨i, h1, h2, h3⟩ | h3)
      · exact ⟨i, by omega, h2, h3⟩
      · exact ⟨k, by omega, h, h3⟩
    · rintro ⟨i, h1, h2, h3⟩
      by_cases e : i = k
      · subst e; exact .inr h3
      · exact .inl ⟨i, by omega, h2, h3⟩

theorem minL_length {a b : List UInt8} {m : Nat} (ha : a.length = m) (hb : b.length = m) : (minL a b).length = m := by
  rcases min_cases a b with h | h <;> rw [h] <;> assumption

end Go.Proofs.YtbjgpfhbdmcbbabGreatDoor.dnamath

/-
  PLAIN MATHEMATICS: what a disk is, and what its calls do. It imports nothing of the program.
-/
namespace Go.Proofs.YtbjgpfhbdmcbbabGreatDoor.diskm
set_option linter.unusedVariables false

structure DFile where
  data : ByteArray
  synced : Nat
structure DName where
  name : ByteArray
  file : Nat
structure DStep where
  kind : Nat
  src : ByteArray
  dst : ByteArray
  file : Nat
structure DS where
  cap : Int
  files : List DFile
  now : List DName
  safe : List DName
  steps : List DStep
  wait : Int
  life : Int
  failed : Nat

abbrev strLt (a b : ByteArray) : Bool := Op.bytesLess a.toList b.toList
abbrev strEq (a b : ByteArray) : Bool := a.toList == b.toList

def findIx (n : ByteArray) : List DName → Nat
  | [] => 0
  | x :: l => if strLt x.name n then findIx n l + 1 else 0
def findIs (n : ByteArray) (l : List DName) : Bool :=
  match l[findIx n l]? with
  | some x => strEq x.name n
  | none => false

theorem findIx_le (n : ByteArray) : ∀ l, findIx n l ≤ l.length
  | [] => Nat.le_refl _
  | x :: l => by
    unfold findIx
    have := findIx_le n l
    split <;> simp <;> omega

theorem findIx_at {n : ByteArray} : ∀ (l : List DName) (i : Nat), (∀ j x, j < i → l[j]? = some x → strLt x.name n = true) → i ≤ l.length → (∀ x, l[i]? = some x → strLt x.name n = false) → findIx n l = i
  | [], i, _, h, _ => by simp at h; subst h; rfl
  | y :: l, 0, _, _, h => by
    unfold findIx
    rw [h y rfl]; rfl
  | y :: l, i + 1, h1, h2, h3 => by
    unfold findIx
    rw [h1 0 y (by omega) rfl]
    simp only [if_true]
    rw [findIx_at l i (fun j x hj hx => h1 (j + 1) x (by omega) (by simpa using hx)) (by simpa using h2) (fun x hx => h3 x (by simpa using hx))]

/-- what do does to the names from place i on -/
def doFrom (at_ : Nat) (s : DStep) : Nat → List DName → List DName
  | _, [] => []
  | i, x :: l => (if i = at_ ∧ s.kind ≠ 3 then [⟨s.dst, s.file⟩] else []) ++ (if strEq x.name s.src = false ∧ (s.kind = 3 ∨ strEq x.name s.dst = false) then [x] else []) ++ doFrom at_ s (i + 1) l
def doL (l : List DName) (s : DStep) : List DName :=
  doFrom (findIx s.dst l) s 0 l ++ (if findIx s.dst l = l.length ∧ s.kind ≠ 3 then [⟨s.dst, s.file⟩] else [])

theorem doFrom_snoc (at_ : Nat) (s : DStep) : ∀ (l : List DName) (i : Nat) (x : DName), doFrom at_ s i (l ++ [x]) = doFrom at_ s i l ++ ((if i + l.length = at_ ∧ s.kind ≠ 3 then [⟨s.dst, s.file⟩] else []) ++ (if strEq x.name s.src = false ∧ (s.kind = 3 ∨ strEq x.name s.dst = false) then [x] else []))
  | [], i, x => by simp [doFrom]
  | y :: l, i, x => by
    rw [List.cons_append, doFrom, doFrom_snoc at_ s l (i + 1) x, doFrom]
    rw [show i + (y :: l).length = i + 1 + l.length by simp; omega]
    simp only [List.append_assoc]

def DS.changes (S : DS) : Bool × DS :=
  if S.life = 0 ∨ S.wait = 0 then (false, { S with failed := S.failed + 1, wait := if S.life ≠ 0 then -1 else S.wait })
  else (true, { S with wait := if S.wait > 0 then S.wait - 1 else S.wait, life := if S.life > 0 then S.life - 1 else S.life })

/-- what stands for a disk that is in order: so many changing calls were made -/
structure DS.Ok (S : DS) (N : Nat) : Prop where
  ref : ∀ x ∈ S.now, x.file < S.files.length
  nl : S.now.length ≤ N
  fl : S.files.length ≤ N
  tl : S.steps.length ≤ N
  sl : S.safe.length ≤ N
  fa : S.failed ≤ N
  w0 : -1 ≤ S.wait
  w1 : S.wait ≤ 1000000000
  l0 : -1 ≤ S.life
  l1 : S.life ≤ 1000000000

def DS.dead (S : DS) : Bool := S.life == 0
def DS.look (S : DS) (n : ByteArray) : Option DFile :=
  if findIs n S.now then (S.now[findIx n S.now]?).bind (fun x => S.files[x.file]?) else none
def DS.size (S : DS) (n : ByteArray) : Int × Bool :=
  match S.look n with
  | some f => if S.dead then (0, false) else (f.data.size, true)
  | none => (0, false)

theorem findIs_get {n : ByteArray} {l : List DName} (h : findIs n l = true) : ∃ x, l[findIx n l]? = some x ∧ strEq x.name n = true := by
  unfold findIs at h
  cases hx : l[findIx n l]? with
  | none => rw [hx] at h; simp at h
  | some x => rw [hx] at h; exact ⟨x, rfl, h⟩
theorem DS.Ok.get {S : DS} {N : Nat} (h : S.Ok N) {n : ByteArray} (hf : findIs n S.now = true) : ∃ x f, S.now[findIx n S.now]? = some x ∧ findIx n S.now < S.now.length ∧ S.files[x.file]? = some f ∧ x.file < S.files.length ∧ S.look n = some f := by
  obtain ⟨x, hx, _⟩ := findIs_get hf
  have hlt : findIx n S.now < S.now.length := by
    rcases Nat.lt_or_ge (findIx n S.now) S.now.length with h | h
    · exact h
    · rw [List.getElem?_eq_none h] at hx; cases hx
  have hr := h.ref x (List.mem_of_getElem? hx)
  refine ⟨x, _, hx, hlt, List.getElem?_eq_getElem hr, hr, ?_⟩
  unfold DS.look
  rw [if_pos hf, hx]
  exact List.getElem?_eq_getElem hr
theorem DS.look_none {S : DS} {n : ByteArray} (hf : findIs n S.now = false) : S.look n = none := by
  unfold DS.look; rw [hf]; rfl

/-- the bytes of the first k names' files -/
def DS.bytesTo (S : DS) : Nat → Nat
  | 0 => 0
  | k + 1 => S.bytesTo k + (((S.now[k]?).bind (fun x => S.files[x.file]?)).map (fun f => f.data.size)).getD 0
def DS.bytes (S : DS) : Nat := S.bytesTo S.now.length

def DS.create (S : DS) (n : ByteArray) : Bool × DS :=
  let (ok, T) := S.changes
  if ok = false ∨ findIs n S.now = true ∨ n.size = 0 then (false, T)
  else (true, { T with files := T.files ++ [⟨ByteArray.empty, 0⟩], steps := T.steps ++ [⟨1, ByteArray.empty, n, T.files.length⟩], now := doL T.now ⟨1, ByteArray.empty, n, T.files.length⟩ })
def DS.syncDir (S : DS) : Bool × DS :=
  let (ok, T) := S.changes
  if ok = false then (false, T) else (true, { T with safe := T.now, steps := [] })

def DS.fileNo (S : DS) (n : ByteArray) : Nat := ((S.now[findIx n S.now]?).map DName.file).getD 0
def DS.fileOf (S : DS) (n : ByteArray) : DFile := (S.files[S.fileNo n]?).getD ⟨ByteArray.empty, 0⟩
def DS.rename (S : DS) (a b : ByteArray) : Bool × DS :=
  let (ok, T) := S.changes
  if ok = false ∨ findIs a S.now = false ∨ strEq a b = true ∨ b.size = 0 then (false, T)
  else (true, { T with steps := T.steps ++ [⟨2, a, b, S.fileNo a⟩], now := doL T.now ⟨2, a, b, S.fileNo a⟩ })
def DS.remove (S : DS) (n : ByteArray) : Bool × DS :=
  let (ok, T) := S.changes
  if ok = false ∨ findIs n S.now = false then (false, T)
  else (true, { T with steps := T.steps ++ [⟨3, n, ByteArray.empty, 0⟩], now := doL T.now ⟨3, n, ByteArray.empty, 0⟩ })
def DS.append (S : DS) (n data : ByteArray) : Bool × DS :=
  let (ok, T) := S.changes
  if ok = false ∨ findIs n S.now = false ∨ (data.size : Int) > S.cap - S.bytes then (false, T)
  else (true, { T with files := T.files.set (S.fileNo n) ⟨(S.fileOf n).data ++ data, (S.fileOf n).synced⟩ })
def DS.sync (S : DS) (n : ByteArray) : Bool × DS :=
  let (ok, T) := S.changes
  if ok = false ∨ findIs n S.now = false then (false, T)
  else (true, { T with files := T.files.set (S.fileNo n) ⟨(S.fileOf n).data, (S.fileOf n).data.size⟩ })

theorem fileNo_get {S : DS} {n : ByteArray} {x : DName} (h : S.now[findIx n S.now]? = some x) : S.fileNo n = x.file := by unfold DS.fileNo; rw [h]; rfl
theorem fileOf_get {S : DS} {n : ByteArray} {x : DName} {f : DFile} (h : S.now[findIx n S.now]? = some x) (hf : S.files[x.file]? = some f) : S.fileOf n = f := by unfold DS.fileOf; rw [fileNo_get h, hf]; rfl
theorem bytesTo_le (S : DS) : ∀ {k m : Nat}, k ≤ m → S.bytesTo k ≤ S.bytesTo m := by
  intro k m h
  induction h with
  | refl => exact Nat.le_refl _
  | step h ih => exact Nat.le_trans ih (Nat.le_add_right _ _)
theorem bytes_congr {S T : DS} (h1 : T.now = S.now) (h2 : T.files = S.files) : T.bytes = S.bytes := by
  have : ∀ k, T.bytesTo k = S.bytesTo k := by
    intro k
    induction k with
    | zero => rfl
    | succ k ih => unfold DS.bytesTo; rw [ih, h1, h2]
  unfold DS.bytes; rw [this, h1]
theorem changes_same (S : DS) : S.changes.2.now = S.now ∧ S.changes.2.files = S.files ∧ S.changes.2.safe = S.safe ∧ S.changes.2.steps = S.steps ∧ S.changes.2.cap = S.cap := by
  unfold DS.changes; split <;> exact ⟨rfl, rfl, rfl, rfl, rfl⟩
theorem changes_ok {S : DS} {N : Nat} (h : S.Ok N) : S.changes.2.Ok (N + 1) := by
  obtain ⟨h1, h2, h3, h4, h5, h6, h7, h8, h9, h10⟩ := h
  unfold DS.changes
  split
  · refine ⟨h1, Nat.le_succ_of_le h2, Nat.le_succ_of_le h3, Nat.le_succ_of_le h4, Nat.le_succ_of_le h5, Nat.succ_le_succ h6, ?_, ?_, h9, h10⟩ <;> simp only <;> split <;> omega
  · refine ⟨h1, Nat.le_succ_of_le h2, Nat.le_succ_of_le h3, Nat.le_succ_of_le h4, Nat.le_succ_of_le h5, Nat.le_succ_of_le h6, ?_, ?_, ?_, ?_⟩ <;> simp only <;> split <;> omega
/-- a disk on which nothing goes wrong -/
structure DS.Fine (S : DS) : Prop where
  wait : S.wait = -1
  life : S.life = -1
theorem changes_fine {S : DS} (h : S.Fine) : S.changes = (true, S) := by
  obtain ⟨h1, h2⟩ := h
  unfold DS.changes
  rw [h1, h2]
  cases S
  simp_all
end Go.Proofs.YtbjgpfhbdmcbbabGreatDoor.diskm

/-
  CONTRACTS, callees first: strings.IndexByte, hasOnly, isWord, partner, Clone.
-/
namespace Go.Proofs.YtbjgpfhbdmcbbabGreatDoor.dna
open Go.RowKit dnamath
set_option linter.unusedVariables false

set_option maxHeartbeats 1000000 in
set_option maxRecDepth 100000 in
theorem indexByte_any (s : ByteArray) (c : Int) (w : World) :
    Calls Tryz.prog 177 #[.string s, .int .u8 c] w fun e w' => e = .returned (.int .i64 (Lib.indexByte s.data.toList c.toNat.toUInt8)) ∧ w' = w := by
  go_enter Tryz.func177, Tryz.ntmps177
  go_wp2
  rw [run_callFunc_extern Tryz.func168 (by kernel_rfl) (by kernel_rfl) (by kernel_rfl) (e := Extern.BytealgIndexByte.indexByte) (by kernel_rfl), Lib.run_indexByteString]
  simp only [Result.andThen]
  rw [Oper.upon_value]
  go_wp2
  go_ret
  exact ⟨rfl, rfl⟩

def inB (L : List UInt8) (c : UInt8) : Bool := !decide (Lib.indexByte L c < 0)
def only (L l : List UInt8) : Bool := l.all (inB L)
theorem only_snoc (L l : List UInt8) (c : UInt8) : only L (l ++ [c]) = (only L l && inB L c) := by simp [only]
theorem only_take_false {L l : List UInt8} {k : Nat} (h : only L (l.take k) = false) : only L l = false := by
  rw [only, List.all_eq_false] at h ⊢
  obtain ⟨x, hx, h⟩ := h
  exact ⟨x, List.mem_of_mem_take hx, h⟩

theorem u8_back (c : UInt8) : ((c.toNat : Int)).toNat.toUInt8 = c := by simp
theorem take_snoc (s : ByteArray) (k : Nat) (h : k < s.size) : s.data.toList.take (k + 1) = s.data.toList.take k ++ [s[k]] := by
  rw [List.take_succ_eq_append_getElem (by simpa using h)]; rfl
theorem take_all (s : ByteArray) (k : Nat) (h : ¬ k < s.size) : s.data.toList.take k = s.data.toList := List.take_of_length_le (by simp; omega)

theorem ho_step {s L : ByteArray} {k : Nat} (hlt : k < s.size) (ha : only L.data.toList (s.data.toList.take k) = true) (h : ¬ Lib.indexByte L.data.toList s[k] < 0) :
    only L.data.toList (s.data.toList.take (k + 1)) = true := by
  rw [take_snoc s k hlt, only_snoc, ha]
  simp only [inB, decide_eq_false h]; rfl
theorem ho_stop {s L : ByteArray} {k : Nat} (hlt : k < s.size) (h : Lib.indexByte L.data.toList s[k] < 0) : only L.data.toList s.data.toList = false := by
  apply only_take_false (k := k + 1)
  rw [take_snoc s k hlt, only_snoc]
  simp only [inB, decide_eq_true h]; simp

set_option maxHeartbeats 400000 in
set_option maxRecDepth 100000 in
theorem hasOnly_any (s L : ByteArray) (w : World) (hs : s.size ≤ maxLen) :
    Calls Tryz.prog 163 #[.string s, .string L] w fun e w' => e = .returned (.bool (only L.data.toList s.data.toList)) ∧ w' = w := by
  unfold maxLen at hs
  go_enter Tryz.func163, Tryz.ntmps163
  go_wp2
  go_loop [8] (fun i => ∃ k : Nat, k ≤ s.size ∧ i = .int .i64 k ∧ Hid (only L.data.toList (s.data.toList.take k) = true)) (fun i => s.size - (intOf i).toNat)
  case atStart => exact ⟨0, Nat.zero_le _, rfl, rfl⟩
  case round =>
    obtain ⟨k, hk, rfl, ha⟩ := hrel
    by_cases hlt : k < s.size
    · by_cases hx : Lib.indexByte L.data.toList s[k] < 0
      · go_wp2_with (go_at_call 177; refine (indexByte_any _ _ _).mono ?_; rintro e w' ⟨rfl, rfl⟩; rw [u8_back])
        go_ret
        exact ⟨by rw [ho_stop hlt hx]; rfl, rfl⟩
      · go_wp2_with (go_at_call 177; refine (indexByte_any _ _ _).mono ?_; rintro e w' ⟨rfl, rfl⟩; rw [u8_back])
        go_round
        case rel => exact ⟨k + 1, by omega, by go_num, ho_step hlt ha.out (by omega)⟩
        case measure => simp [intOf]; omega
    · go_wp2
      go_ret
      have e := take_all s k hlt
      have ha := ha.out
      rw [e] at ha
      exact ⟨by rw [ha]; rfl, rfl⟩

theorem inB_acgt (c : UInt8) : inB [65, 67, 71, 84] c = isB c := by
  simp only [inB, isB, Lib.indexByte]
  by_cases h1 : c = 65
  · subst h1; decide
  by_cases h2 : c = 67
  · subst h2; decide
  by_cases h3 : c = 71
  · subst h3; decide
  by_cases h4 : c = 84
  · subst h4; decide
  have e1 : (c == 65) = false := by simpa using h1
  have e2 : (c == 67) = false := by simpa using h2
  have e3 : (c == 71) = false := by simpa using h3
  have e4 : (c == 84) = false := by simpa using h4
  have f1 : ((65 : UInt8) == c) = false := by rw [beq_eq_false_iff_ne]; exact fun h => h1 h.symm
  have f2 : ((67 : UInt8) == c) = false := by rw [beq_eq_false_iff_ne]; exact fun h => h2 h.symm
  have f3 : ((71 : UInt8) == c) = false := by rw [beq_eq_false_iff_ne]; exact fun h => h3 h.symm
  have f4 : ((84 : UInt8) == c) = false := by rw [beq_eq_false_iff_ne]; exact fun h => h4 h.symm
  simp [e1, e2, e3, e4, f1, f2, f3, f4]

theorem only_acgt (l : List UInt8) : only [65, 67, 71, 84] l = l.all isB := by
  unfold only
  congr 1
  funext c
  exact inB_acgt c

theorem empty_of {s : ByteArray} (h : s.size = 0) : s = ⟨#[]⟩ := by
  apply ByteArray.ext
  exact Array.eq_empty_of_size_eq_zero h

theorem word_of {s : ByteArray} (h : ¬ s.size = 0) : wordB s.data.toList = s.data.toList.all isB := by
  unfold wordB
  cases hl : s.data.toList with
  | nil => exact absurd (by rw [Lib.size_eq, hl]; rfl) h
  | cons a l => rfl

set_option maxHeartbeats 400000 in
set_option maxRecDepth 100000 in
theorem isWord_any (s : ByteArray) (w : World) (hs : s.size ≤ maxLen) :
    Calls Tryz.prog 143 #[.string s] w fun e w' => e = .returned (.bool (wordB s.data.toList)) ∧ w' = w := by
  by_cases h0 : s.size = 0
  · have := empty_of h0
    subst this
    go_enter Tryz.func143, Tryz.ntmps143
    go_wp2
    go_ret
    exact ⟨rfl, rfl⟩
  · have hw := word_of h0
    rw [hw, ← only_acgt]
    have hne : s.toList.isEmpty = false := by
      rw [Lib.toList_data]; cases hl : s.data.toList with
      | nil => exact absurd (by rw [Lib.size_eq, hl]; rfl) h0
      | cons a l => rfl
    clear hw
    go_enter Tryz.func143, Tryz.ntmps143
    go_wp2_with (go_at_call 163; refine (hasOnly_any _ _ _ hs).mono ?_; rintro e w' ⟨rfl, rfl⟩)
    go_ret
    exact ⟨rfl, rfl⟩

def compI (n : Int) : Int := if n = 65 then 84 else if n = 67 then 71 else if n = 71 then 67 else 65
theorem compI_eq (c : UInt8) : compI (c.toNat : Int) = ((comp c).toNat : Int) := by
  unfold compI comp
  by_cases h1 : c = 65
  · subst h1; decide
  by_cases h2 : c = 67
  · subst h2; decide
  by_cases h3 : c = 71
  · subst h3; decide
  have e : ∀ d : UInt8, ¬ c = d → ¬ (c.toNat : Int) = (d.toNat : Int) := fun d h e => h (UInt8.toNat_inj.1 (by omega))
  have g1 := e 65 h1; have g2 := e 67 h2; have g3 := e 71 h3
  have k1 : ((65 : UInt8).toNat : Int) = 65 := rfl
  have k2 : ((67 : UInt8).toNat : Int) = 67 := rfl
  have k3 : ((71 : UInt8).toNat : Int) = 71 := rfl
  rw [k1] at g1; rw [k2] at g2; rw [k3] at g3
  rw [if_neg g1, if_neg g2, if_neg g3]
  simp [h1, h2, h3]

set_option maxHeartbeats 400000 in
set_option maxRecDepth 100000 in
theorem partner_any (n : Int) (w : World) :
    Calls Tryz.prog 178 #[.int .u8 n] w fun e w' => e = .returned (.int .u8 (compI n)) ∧ w' = w := by
  unfold compI
  by_cases h1 : n = 65
  · subst h1
    go_enter Tryz.func178, Tryz.ntmps178
    go_wp2
    go_ret
    exact ⟨rfl, rfl⟩
  by_cases h2 : n = 67
  · subst h2
    go_enter Tryz.func178, Tryz.ntmps178
    go_wp2
    go_ret
    exact ⟨rfl, rfl⟩
  by_cases h3 : n = 71
  · subst h3
    go_enter Tryz.func178, Tryz.ntmps178
    go_wp2
    go_ret
    exact ⟨rfl, rfl⟩
  have e1 : (n == 65) = false := by simpa using h1
  have e2 : (n == 67) = false := by simpa using h2
  have e3 : (n == 71) = false := by simpa using h3
  rw [if_neg h1, if_neg h2, if_neg h3]
  clear h1 h2 h3
  go_enter Tryz.func178, Tryz.ntmps178
  go_wp2
  go_ret
  exact ⟨rfl, rfl⟩
end Go.Proofs.YtbjgpfhbdmcbbabGreatDoor.dna

/-
  CONTRACTS of package disk: find.
-/
namespace Go.Proofs.YtbjgpfhbdmcbbabGreatDoor.disk
open Go.RowKit dnamath dna diskm
set_option linter.unusedVariables false

def ncell (x : DName) : List Value := [.string x.name, .int .i64 (x.file : Int)]
def ncells (l : List DName) : List Value := l.flatMap ncell
theorem ncells_at0 : ∀ (l : List DName) (i : Nat) (x : DName), l[i]? = some x → (ncells l)[i * 2]? = some (.string x.name)
  | [], _, _, h => by simp at h
  | y :: l, 0, x, h => by simp at h; subst h; rfl
  | y :: l, i + 1, x, h => by
    have := ncells_at0 l i x (by simpa using h)
    rw [ncells, List.flatMap_cons, show (i + 1) * 2 = i * 2 + 2 by omega]
    simpa [ncell, ncells] using this
theorem ncells_at1 : ∀ (l : List DName) (i : Nat) (x : DName), l[i]? = some x → (ncells l)[i * 2 + 1]? = some (.int .i64 (x.file : Int))
  | [], _, _, h => by simp at h
  | y :: l, 0, x, h => by simp at h; subst h; rfl
  | y :: l, i + 1, x, h => by
    have := ncells_at1 l i x (by simpa using h)
    rw [ncells, List.flatMap_cons, show (i + 1) * 2 + 1 = i * 2 + 1 + 2 by omega]
    simpa [ncell, ncells] using this

abbrev Names (w : World) (v : Value) (l : List DName) : Prop := w.ownsRow 0 84 2 v l.length (ncells l)

/-- the heap is as it was -/
structure Still (w w' : World) : Prop where
  os : w'.os = w.os
  tape : w'.tape = w.tape
  output : w'.output = w.output
  heap : w'.heap = w.heap
  drawn : w.drawn ≤ w'.drawn
theorem Still.refl (w : World) : Still w w := ⟨rfl, rfl, rfl, rfl, Nat.le_refl _⟩
theorem Still.trans {a b c : World} (h : Still a b) (k : Still b c) : Still a c := ⟨k.os.trans h.os, k.tape.trans h.tape, k.output.trans h.output, k.heap.trans h.heap, Nat.le_trans h.drawn k.drawn⟩
theorem Still.eq {w w' : World} (h : Still w w') : ∃ m, w' = w.drewN m := by
  refine ⟨w'.drawn - w.drawn, ?_⟩
  obtain ⟨h1, h2, h3, h4, h5⟩ := h
  cases w
  cases w'
  simp only [World.drewN] at *
  simp_all
theorem Still.quiet {P : Program} {f : FuncId} {args : Array Value} {w : World} {n : Nat} {v : Value} (h : Calls P f args (w.drewN n) fun e w' => e = .returned v ∧ Still (w.drewN n) w') : Calls P f args (w.drewN n) fun e w'' => e = .returned v ∧ ∃ m, w'' = w.drewN m :=
  Calls.quiet_of (h.mono fun _ _ ⟨he, hm⟩ => ⟨he, hm.eq⟩)
theorem Still.cell {w w' : World} (h : Still w w') (a : Addr) : w'.cell? a = w.cell? a := by unfold World.cell?; rw [h.heap]
theorem Still.owns {w w' : World} (h : Still w w') {base : Nat} {e : TypeId} {s : Nat} {v : Value} {n : Nat} {xs : List Value} (k : w.ownsRow base e s v n xs) : w'.ownsRow base e s v n xs := by
  unfold World.ownsRow; rw [h.heap]; exact k
theorem Still.below {w w' : World} (h : Still w w') (n : Nat) : Below n w w' := ⟨h.os, h.tape, h.output, by rw [h.heap]; exact Nat.le_refl _, fun i _ => by rw [h.heap]⟩

set_option maxHeartbeats 800000 in
set_option maxRecDepth 100000 in
theorem find_any (v : Value) (l : List DName) (n : ByteArray) (w : World) (h : Names w v l) (hl : l.length ≤ 1000000) :
    Calls Tryz.prog 46 #[v, .string n] w fun e w' => e = .returned (.tuple #[.int .i64 (findIx n l : Int), .bool (findIs n l)]) ∧ Still w w' := by
  rcases h.2 with ⟨rfl, h0⟩ | ⟨g, cap, cur, rfl, hg, hh, hr⟩
  · have hl0 : l = [] := List.eq_nil_of_length_eq_zero h0
    subst hl0
    go_enter Tryz.func46, Tryz.ntmps46
    go_wp2
    refine wp_loop_rounds 1 ?_
    rw [rounds_succ]
    go_wp2
    go_quiet (fail)
    go_wp2
    go_ret2
    exact ⟨rfl, rfl, rfl, rfl, rfl, Nat.le_add_right _ _⟩
  · go_enter Tryz.func46, Tryz.ntmps46
    go_wp2
    go_loop [6] (fun i => ∃ k : Nat, i = .int .i64 k ∧ k ≤ l.length ∧ Hid (∀ j x, j < k → l[j]? = some x → strLt x.name n = true)) (fun i => l.length - (intOf i).toNat)
    case atStart => exact ⟨0, rfl, Nat.zero_le _, fun j x hj => absurd hj (Nat.not_lt_zero _)⟩
    case round =>
      obtain ⟨k, rfl, hk, hlt⟩ := hrel
      by_cases hkl : k < l.length
      · obtain ⟨x, hx⟩ : ∃ x, l[k]? = some x := ⟨_, List.getElem?_eq_getElem hkl⟩
        have hc := h.cellAt (g := g) (k * 2) (by omega)
        rw [ncells_at0 l k x hx] at hc
        have HX : Hid (l[k]? = some x) := hx
        clear hx hh hr h
        cases hs : Op.bytesLess x.name.toList n.toList with
        | true =>
          go_wp2
          go_round
          case rel =>
            refine ⟨k + 1, by go_num, by omega, fun j y hj hy => ?_⟩
            by_cases e : j = k
            · subst e; rw [HX.out] at hy; cases hy; exact hs
            · exact hlt.out j y (by omega) hy
          case measure => simp [intOf]; omega
        | false =>
          go_wp2
          go_quiet (fail)
          go_wp2
          go_ret2
          have hfi : findIx n l = k := findIx_at l k hlt.out hk (fun y hy => by rw [HX.out] at hy; cases hy; exact hs)
          have hfs : findIs n l = strEq x.name n := by unfold findIs; rw [hfi, HX.out]
          rw [hfi, hfs]
          exact ⟨rfl, rfl, rfl, rfl, rfl, Nat.le_add_right _ _⟩
      · have hke : k = l.length := by omega
        subst hke
        go_wp2
        go_quiet (fail)
        go_wp2
        go_ret2
        have hfi : findIx n l = l.length := findIx_at l _ hlt.out hk (fun y hy => by simp at hy)
        have hfs : findIs n l = false := by unfold findIs; rw [hfi]; simp
        rw [hfi, hfs]
        exact ⟨rfl, rfl, rfl, rfl, rfl, Nat.le_add_right _ _⟩
end Go.Proofs.YtbjgpfhbdmcbbabGreatDoor.disk
