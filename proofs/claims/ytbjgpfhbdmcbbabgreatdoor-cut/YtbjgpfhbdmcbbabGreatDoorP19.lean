import Derived.Test.YtbjgpfhbdmcbbabGreatDoorP16
import Derived.Test.YtbjgpfhbdmcbbabGreatDoorP06
import Derived.Deep.AppendLies
import Derived.Test.YtbjgpfhbdmcbbabGreatDoorP15
import Derived.Lib.SliceRun

/-
  CONTRACTS of package quern: rows of rows; deal.
-/
namespace Go.Proofs.YtbjgpfhbdmcbbabGreatDoor.words
open Go.RowKit dnamath dna diskm disk keep pieces kinds
set_option linter.unusedVariables false

/-- rows of strings in a row, each of its own -/
structure RowsAt (w : World) (base : Nat) (bv : Value) (vs : List Value) (B : List (List ByteArray)) : Prop where
  row : w.ownsRow base 28 1 bv vs.length vs
  len : B.length = vs.length
  each : ∀ (i : Nat) (v : Value) (b : List ByteArray), vs[i]? = some v → B[i]? = some b → w.ownsRow base 9 1 v b.length (scells b)
  apart : ∀ (i j : Nat) (v v' : Value) (g : Nat), vs[i]? = some v → vs[j]? = some v' → v.ownBlock = some g → v'.ownBlock = some g → i = j

theorem RowsAt.later {w w' : World} {base : Nat} {bv : Value} {vs : List Value} {B : List (List ByteArray)} (h : RowsAt w base bv vs B) (hb : Below w.heap.size w w') : RowsAt w' base bv vs B :=
  ⟨own_later h.row hb, h.len, fun i v b h1 h2 => own_later (h.each i v b h1 h2) hb, h.apart⟩

theorem set_some {α : Type} {l : List α} {i k : Nat} {x y : α} (h : (l.set i x)[k]? = some y) : (k = i ∧ y = x) ∨ (k ≠ i ∧ l[k]? = some y) := by
  rw [List.getElem?_set] at h
  by_cases e : i = k
  · rw [if_pos e] at h
    by_cases hl : i < l.length
    · rw [if_pos hl] at h; cases h; exact .inl ⟨e.symm, rfl⟩
    · rw [if_neg hl] at h; cases h
  · rw [if_neg e] at h; exact .inr ⟨fun e' => e e'.symm, h⟩

/-- one more string for one of the rows, and the row's value put back -/
theorem RowsAt.push {wr w4 : World} {base : Nat} {vs : List Value} {B : List (List ByteArray)} {gb cb : Nat} (h : RowsAt wr base (.slice (some ⟨gb, 0, none⟩) vs.length cb) vs B) {i : Nat} {v : Value} {bl : List ByteArray} (hv : vs[i]? = some v) (hbl : B[i]? = some bl) {c : ByteArray} {o : Obj} {g4 c4 : Nat}
    (own4 : w4.ownsRow base 9 1 (.slice (some ⟨g4, 0, none⟩) (bl.length + 1) c4) (bl.length + 1) (scells bl ++ [.string c])) (gr4 : (wr.alloc o).grownBy w4 v.ownBlock) (hat : v.ownBlock = some g4 ∨ g4 = (wr.alloc o).heap.size) :
    RowsAt (w4.setCell ⟨gb, i, none⟩ (.slice (some ⟨g4, 0, none⟩) (bl.length + 1) c4)) base (.slice (some ⟨gb, 0, none⟩) vs.length cb) (vs.set i (.slice (some ⟨g4, 0, none⟩) (bl.length + 1) c4)) (B.set i (bl ++ [c])) := by
  have hvk := h.each i v bl hv hbl
  have hsz : (wr.alloc o).heap.size = wr.heap.size + 1 := by simp
  have tk4 : TK 28 wr w4 := (TK.alloc o).trans (TK.grown gr4 (own_kind_alloc hvk o) (by decide))
  have hrow4 := row_keepB h.row tk4
  obtain ⟨cs, fz, hgb⟩ := own_kind hrow4 gb rfl
  have tks : TK 9 w4 (w4.setCell ⟨gb, i, none⟩ (.slice (some ⟨g4, 0, none⟩) (bl.length + 1) c4)) := TK.set hgb (by decide)
  have hlt : ∀ (k : Nat) (v' : Value) (g : Nat), vs[k]? = some v' → v'.ownBlock = some g → g < wr.heap.size := fun k v' g h1 h2 => by
    have hk : k < vs.length := (List.getElem?_eq_some_iff.1 h1).1
    obtain ⟨b', hb'⟩ : ∃ b', B[k]? = some b' := ⟨_, List.getElem?_eq_getElem (by rw [h.len]; exact hk)⟩
    exact ((h.each k v' b' h1 hb').lt g h2).2
  refine ⟨?_, by rw [List.length_set, List.length_set, h.len], ?_, ?_⟩
  · have := (hrow4.stored i (.slice (some ⟨g4, 0, none⟩) (bl.length + 1) c4)).1
    rw [List.length_set]
    exact this
  · intro k v' b' h1 h2
    rcases set_some h1 with ⟨rfl, rfl⟩ | ⟨hne, h1'⟩
    · rcases set_some h2 with ⟨_, rfl⟩ | ⟨hne, _⟩
      · have e : scells (bl ++ [c]) = scells bl ++ [.string c] := by simp [scells]
        rw [e, List.length_append]
        exact row_keepB own4 tks
      · exact absurd rfl hne
    · rcases set_some h2 with ⟨e, _⟩ | ⟨_, h2'⟩
      · exact absurd e hne
      · refine row_keepB (World.ownsRow.kept ((h.each k v' b' h1' h2').alloc o) gr4 ?_) tks
        cases hq : v'.ownBlock with
        | none => exact .inl rfl
        | some g => exact .inr (fun e => hne (h.apart k i v' v g h1' hv hq e.symm))
  · intro k1 k2 v1 v2 g h1 h2 e1 e2
    rcases set_some h1 with ⟨rfl, rfl⟩ | ⟨hne1, h1'⟩
    · rcases set_some h2 with ⟨rfl, rfl⟩ | ⟨hne2, h2'⟩
      · rfl
      · have eg : g4 = g := by simpa [Value.ownBlock] using e1
        subst eg
        rcases hat with ha | ha
        · exact (h.apart k2 k1 v2 v g4 h2' hv e2 ha).symm
        · have := hlt k2 v2 g4 h2' e2
          omega
    · rcases set_some h2 with ⟨rfl, rfl⟩ | ⟨hne2, h2'⟩
      · have eg : g4 = g := by simpa [Value.ownBlock] using e2
        subst eg
        rcases hat with ha | ha
        · exact h.apart k1 k2 v1 v g4 h1' hv e1 ha
        · have := hlt k1 v1 g4 h1' e1
          omega
      · exact h.apart k1 k2 v1 v2 g h1' h2' e1 e2

/-- another row of strings, apart from the rows -/
structure Away (w : World) (base : Nat) (vs : List Value) (pv : Value) (ps : List ByteArray) : Prop where
  row : w.ownsRow base 9 1 pv ps.length (scells ps)
  apart : ∀ (k : Nat) (v : Value) (g : Nat), vs[k]? = some v → v.ownBlock = some g → pv.ownBlock ≠ some g

theorem Away.push {wr w4 : World} {base : Nat} {vs : List Value} {B : List (List ByteArray)} {gb cb : Nat} (h : RowsAt wr base (.slice (some ⟨gb, 0, none⟩) vs.length cb) vs B) {pv : Value} {ps : List ByteArray} (ha : Away wr base vs pv ps) {i : Nat} {v : Value} {bl : List ByteArray} (hv : vs[i]? = some v) (hbl : B[i]? = some bl) {o : Obj} {g4 c4 n4 : Nat}
    (gr4 : (wr.alloc o).grownBy w4 v.ownBlock) (hat : v.ownBlock = some g4 ∨ g4 = (wr.alloc o).heap.size) :
    Away (w4.setCell ⟨gb, i, none⟩ (.slice (some ⟨g4, 0, none⟩) n4 c4)) base (vs.set i (.slice (some ⟨g4, 0, none⟩) n4 c4)) pv ps := by
  have hvk := h.each i v bl hv hbl
  have hsz : (wr.alloc o).heap.size = wr.heap.size + 1 := by simp
  have tk4 : TK 28 wr w4 := (TK.alloc o).trans (TK.grown gr4 (own_kind_alloc hvk o) (by decide))
  obtain ⟨cs, fz, hgb⟩ := own_kind (row_keepB h.row tk4) gb rfl
  refine ⟨row_keepB (World.ownsRow.kept (ha.row.alloc o) gr4 ?_) (TK.set hgb (by decide)), ?_⟩
  · cases hq : v.ownBlock with
    | none => cases hp : pv.ownBlock with
      | none => exact .inl rfl
      | some g => exact .inr (fun e => by cases e)
    | some g => exact .inr (ha.apart i v g hv hq)
  · intro k v' g h1 h2 e
    rcases set_some h1 with ⟨rfl, rfl⟩ | ⟨hne, h1'⟩
    · have eg : g4 = g := by simpa [Value.ownBlock] using h2
      subst eg
      rcases hat with h5 | h5
      · exact ha.apart k v g4 hv h5 e
      · have := (ha.row.lt g4 e).2
        omega
    · exact ha.apart k v' g h1' h2 e

def bn (Bn : Nat) (m : List UInt8) : Nat := Go.Proofs.YtbjgpfhbdmcbbabGreatDoor.hex.sumL 14695981039346656037 m % Bn
/-- the pieces so far, by their bins -/
def Dealt (Bn K M : Nat) (B : List (List ByteArray)) (P : List (List UInt8)) : Prop := ∀ (i : Nat) (b : List ByteArray), B[i]? = some b → datas b = P.filter (fun p => bn Bn (markL M (cut p 0 K)) == i)
theorem Dealt.push {Bn K M : Nat} {B : List (List ByteArray)} {P : List (List UInt8)} (h : Dealt Bn K M B P) {i : Nat} {bl : List ByteArray} (hbl : B[i]? = some bl) {c : ByteArray} (hc : bn Bn (markL M (cut c.data.toList 0 K)) = i) : Dealt Bn K M (B.set i (bl ++ [c])) (P ++ [c.data.toList]) := by
  intro k b hk
  rw [List.filter_append]
  rcases set_some hk with ⟨rfl, rfl⟩ | ⟨hne, h1⟩
  · have e : datas (bl ++ [c]) = datas bl ++ [c.data.toList] := by simp [datas]
    rw [e, h k bl hbl]
    simp [hc]
  · rw [h k b h1]
    have : (bn Bn (markL M (cut c.data.toList 0 K)) == k) = false := by rw [hc]; simp; exact fun e => hne e.symm
    simp [this]
theorem piece_first {l : List UInt8} {k m : Nat} (hk : 1 ≤ k) {p : List UInt8} (hp : p ∈ piecesL l k m) : k ≤ p.length ∧ (cut p 0 k).length = k ∧ (cut p 0 k).all isB = true := by
  have hm := pieces_marked hk p hp
  have h1 := winP_first hm.1
  have h2 : cut p 0 k ∈ winL k l := by rw [← pieces_wins (m := m) hk]; exact List.mem_flatMap.2 ⟨p, hp, h1⟩
  have h3 := winTo_valid _ _ h2
  exact ⟨hm.1, h3.1, h3.2⟩
end Go.Proofs.YtbjgpfhbdmcbbabGreatDoor.words

/-
  CONTRACTS of package quern: deal.
-/
namespace Go.Proofs.YtbjgpfhbdmcbbabGreatDoor.words
open Go.RowKit dnamath dna diskm disk keep pieces kinds
set_option linter.unusedVariables false

theorem own_lower {w : World} {base base' : Nat} {e : TypeId} {s : Nat} {v : Value} {n : Nat} {xs : List Value} (h : w.ownsRow base e s v n xs) (hb : base' ≤ base) : w.ownsRow base' e s v n xs := by
  refine ⟨h.1, ?_⟩
  rcases h.2 with h | ⟨g, cap, cur, h1, h2, h3⟩
  · exact .inl h
  · exact .inr ⟨g, cap, cur, h1, Nat.le_trans hb h2, h3⟩

theorem infoRow : (Tryz.prog.info? 28).map (fun i => (i.zero, i.size, i.bytes)) = some (some (.slice none 0 0), 1, 24) := by kernel_rfl

/-- the bins on their way -/
structure OnWay (w1 wr : World) (b : Nat) (bv : Value) (vs : List Value) (B : List (List ByteArray)) (Bn K M : Nat) (P : List (List UInt8)) : Prop where
  rows : RowsAt wr b bv vs B
  len : vs.length = Bn
  dealt : Dealt Bn K M B P
  below : Below b w1 wr
  size : b ≤ wr.heap.size
  few : ∀ (i : Nat) (bl : List ByteArray), B[i]? = some bl → bl.length ≤ P.length

theorem OnWay.later {w1 wr wr' : World} {b : Nat} {bv : Value} {vs : List Value} {B : List (List ByteArray)} {Bn K M : Nat} {P : List (List UInt8)} (h : OnWay w1 wr b bv vs B Bn K M P) (hb : Below wr.heap.size wr wr') : OnWay w1 wr' b bv vs B Bn K M P :=
  ⟨h.rows.later hb, h.len, h.dealt, h.below.trans (hb.mono h.size), Nat.le_trans h.size hb.size, h.few⟩

theorem OnWay.at {w1 wr : World} {b gb cb : Nat} {vs : List Value} {B : List (List ByteArray)} {Bn K M : Nat} {P : List (List UInt8)} (h : OnWay w1 wr b (.slice (some ⟨gb, 0, none⟩) Bn cb) vs B Bn K M P) {i : Nat} (hi : i < Bn) :
    ∃ v bl, vs[i]? = some v ∧ B[i]? = some bl ∧ wr.cell? ⟨gb, i, none⟩ = some v ∧ wr.ownsRow b 9 1 v bl.length (scells bl) ∧ bl.length ≤ P.length := by
  have hl := h.len
  subst hl
  obtain ⟨v, hv⟩ : ∃ v, vs[i]? = some v := ⟨_, List.getElem?_eq_getElem hi⟩
  obtain ⟨bl, hbl⟩ : ∃ bl, B[i]? = some bl := ⟨_, List.getElem?_eq_getElem (by rw [h.rows.len]; exact hi)⟩
  exact ⟨v, bl, hv, hbl, by rw [h.rows.row.cellAt (g := gb) i (by omega)]; exact hv, h.rows.each i v bl hv hbl, h.few i bl hbl⟩

theorem OnWay.push {w1 wr w4 : World} {b gb cb : Nat} {vs : List Value} {B : List (List ByteArray)} {Bn K M : Nat} {P : List (List UInt8)} (h : OnWay w1 wr b (.slice (some ⟨gb, 0, none⟩) Bn cb) vs B Bn K M P) {i : Nat} {v : Value} {bl : List ByteArray} (hv : vs[i]? = some v) (hbl : B[i]? = some bl) {c : ByteArray} (hc : bn Bn (markL M (cut c.data.toList 0 K)) = i) {o : Obj} {g4 c4 : Nat}
    (own4 : w4.ownsRow b 9 1 (.slice (some ⟨g4, 0, none⟩) (bl.length + 1) c4) (bl.length + 1) (scells bl ++ [.string c])) (gr4 : (wr.alloc o).grownBy w4 v.ownBlock) (hat : v.ownBlock = some g4 ∨ g4 = (wr.alloc o).heap.size) {pv : Value} {ps : List ByteArray} (ha : Away wr b vs pv ps) :
    w4.cell? ⟨gb, i, none⟩ = some v ∧ w4.frozen? ⟨gb, i, none⟩ = false ∧ OnWay w1 (w4.setCell ⟨gb, i, none⟩ (.slice (some ⟨g4, 0, none⟩) (bl.length + 1) c4)) b (.slice (some ⟨gb, 0, none⟩) Bn cb) (vs.set i (.slice (some ⟨g4, 0, none⟩) (bl.length + 1) c4)) (B.set i (bl ++ [c])) Bn K M (P ++ [c.data.toList]) ∧
      Away (w4.setCell ⟨gb, i, none⟩ (.slice (some ⟨g4, 0, none⟩) (bl.length + 1) c4)) b (vs.set i (.slice (some ⟨g4, 0, none⟩) (bl.length + 1) c4)) pv ps := by
  have hl := h.len
  subst hl
  have hi : i < vs.length := (List.getElem?_eq_some_iff.1 hv).1
  have hvk := h.rows.each i v bl hv hbl
  have hrow4 := row_keepB h.rows.row ((TK.alloc o).trans (TK.grown gr4 (own_kind_alloc hvk o) (by decide)))
  have hbe : Below b w1 w4 := (h.below.alloc h.size o).grown gr4 (by simp; have := h.size; omega) (fun k hk => (hvk.lt k hk).1)
  refine ⟨by rw [hrow4.cellAt (g := gb) i (by omega)]; exact hv, hrow4.frozenAt _, ⟨h.rows.push hv hbl own4 gr4 hat, by simp, h.dealt.push hbl hc, hbe.setCell (by exact (h.rows.row.lt gb rfl).1) _, ?_, ?_⟩, Away.push h.rows ha hv hbl gr4 hat⟩
  · have h1 := gr4.size
    have h2 := h.size
    simp at h1 ⊢
    omega
  · intro k b' hk
    rcases set_some hk with ⟨_, rfl⟩ | ⟨_, hk'⟩
    · have := h.few i bl hbl; simp; exact this
    · have := h.few k b' hk'; simp; omega

theorem made_nil (n : Nat) : (madeCells (Value.slice none 0 0).cells (n * 1)).toList = List.replicate n (.slice none 0 0) := by
  have e : madeCells (Value.slice none 0 0).cells (n * 1) = (Array.range n).map (fun _ => Value.slice none 0 0) := by
    unfold madeCells
    rw [Nat.mul_one]
    apply Array.map_congr_left
    intro a _
    have : a % (Value.slice none 0 0).cells.size = 0 := by show a % 1 = 0; omega
    rw [this]
    rfl
  rw [e]
  apply List.ext_getElem
  · simp
  · intro i h1 h2
    simp

set_option maxHeartbeats 4000000 in
set_option maxRecDepth 100000 in
theorem deal_any (rv : Value) (rs : List ByteArray) (K M Bn : Nat) (w : World) (hr : w.ownsRow 0 9 1 rv rs.length (scells rs)) (hb1 : 1 ≤ Bn) (hb2 : Bn ≤ 1000) (hmay : ∀ r ∈ rs, May r K M ∧ r.size ≤ 100000) (hrl : rs.length ≤ 100000) (hall : ((datas rs).flatMap (fun l => piecesL l K M)).length ≤ 100000) :
    Calls Tryz.prog 86 #[rv, .agg #[.int .i64 (K : Int), .int .i64 (M : Int), .int .i64 (Bn : Int)]] w fun e w' => ∃ bv vs B, e = .returned bv ∧ RowsAt w' w.heap.size bv vs B ∧ vs.length = Bn ∧ Dealt Bn K M B ((datas rs).flatMap (fun l => piecesL l K M)) ∧ Below w.heap.size w w' := by
  obtain ⟨i0, hi, hz0, hz1, hz2⟩ := info_parts infoS
  obtain ⟨j0, hj, hy0, hy1, hy2⟩ := info_parts infoRow
  have HR : Hid (w.ownsRow 0 9 1 rv rs.length (scells rs)) := hr
  obtain ⟨av, cv_, rfl⟩ := own_slice hr
  have HM : Hid (∀ r ∈ rs, May r K M ∧ r.size ≤ 100000) := hmay
  clear hr hmay
  obtain ⟨w1, hw1⟩ : ∃ w1, w1 = w.alloc (.cells #[.int .i64 (K : Int), .int .i64 (M : Int), .int .i64 (Bn : Int)] 25) := ⟨_, rfl⟩
  obtain ⟨w2, hmk, own2, gr2⟩ := run_make_full (P := Tryz.prog) (w := w1) (w.heap.size + 1) 173 28 j0 (.slice none 0 0) 1 Tryz.underlying173 hj hy0 hy1 .i64 .i64 Bn (by rw [hy2]; omega) (by unfold maxLen; omega) (by rw [hw1]; simp)
  have hs1 : w1.heap.size = w.heap.size + 1 := by rw [hw1]; simp
  rw [hs1] at hmk own2
  have hq1 : w1.heap[w.heap.size]? = some (.cells #[.int .i64 (K : Int), .int .i64 (M : Int), .int .i64 (Bn : Int)] 25 (0, 0)) := by rw [hw1]; exact heap_alloc_new _ _
  have HQ : Hid (∀ W, Below (w.heap.size + 1) w1 W → W.cell? ⟨w.heap.size, 0, none⟩ = some (.int .i64 (K : Int)) ∧ W.cell? ⟨w.heap.size, 1, none⟩ = some (.int .i64 (M : Int)) ∧ W.cell? ⟨w.heap.size, 2, none⟩ = some (.int .i64 (Bn : Int))) := fun W hW => by
    have e : W.heap[w.heap.size]? = some (.cells #[.int .i64 (K : Int), .int .i64 (M : Int), .int .i64 (Bn : Int)] 25 (0, 0)) := (hW.block w.heap.size (by omega)).trans hq1
    exact ⟨st_cell e 0, st_cell e 1, st_cell e 2⟩
  have HWB : Hid (Below w.heap.size w w1) := by show Below _ _ _; rw [hw1]; exact (Below.refl _ _).alloc (Nat.le_refl _) _
  have O0 : OnWay w1 w2 (w.heap.size + 1) (.slice (some ⟨w.heap.size + 1, 0, none⟩) Bn Bn) (List.replicate Bn (.slice none 0 0)) (List.replicate Bn []) Bn K M [] := by
    rw [made_nil] at own2
    refine ⟨⟨by rw [List.length_replicate]; exact own2, by simp, ?_, ?_⟩, by simp, ?_, ?_, ?_, ?_⟩
    · intro i v b h1 h2
      have e1 := List.eq_of_mem_replicate (List.mem_of_getElem? h1)
      have e2 := List.eq_of_mem_replicate (List.mem_of_getElem? h2)
      subst e1 e2
      exact World.ownsRow_nil _ _ _ _
    · intro i j v v' g h1 h2 h3
      have e1 := List.eq_of_mem_replicate (List.mem_of_getElem? h1)
      subst e1
      cases h3
    · intro i b h2
      have e2 := List.eq_of_mem_replicate (List.mem_of_getElem? h2)
      subst e2
      rfl
    · exact (Below.refl _ _).grown gr2 (by omega) (fun k hk => by cases hk)
    · have := gr2.size; omega
    · intro i b h2
      have e2 := List.eq_of_mem_replicate (List.mem_of_getElem? h2)
      subst e2
      exact Nat.le_refl _
  have HAL : Hid (∀ j, ((datas (rs.take j)).flatMap (fun l => piecesL l K M)).length ≤ 100000) := fun j => by
    have e : datas rs = datas (rs.take j) ++ datas (rs.drop j) := by unfold datas; rw [← List.map_append, List.take_append_drop]
    rw [e, List.flatMap_append, List.length_append] at hall
    exact Nat.le_trans (Nat.le_add_right _ _) hall
  clear own2 gr2 hq1
  subst hw1
  go_enter Tryz.func86, Tryz.ntmps86
  go_wp2_with fail
  clear hmk
  obtain ⟨w1, hw1⟩ : ∃ w1, w1 = w.alloc (.cells #[.int .i64 (K : Int), .int .i64 (M : Int), .int .i64 (Bn : Int)] 25) := ⟨_, rfl⟩
  rw [← hw1] at O0 HQ HWB hs1
  clear hw1
  go_loopw [20] (fun i wr => ∃ (j : Nat) (vs : List Value) (B : List (List ByteArray)), i = .int .i64 (j : Int) ∧ j ≤ rs.length ∧ Hid (OnWay w1 wr (w.heap.size + 1) (.slice (some ⟨w.heap.size + 1, 0, none⟩) Bn Bn) vs B Bn K M ((datas (rs.take j)).flatMap (fun l => piecesL l K M)))) (fun i _ => rs.length - (intOf i).toNat)
  case atStart => exact ⟨0, _, _, rfl, Nat.zero_le _, O0⟩
  case round =>
    obtain ⟨j, vs, B, rfl, hj1, hO⟩ := hrel
    clear O0
    rename World => wr
    by_cases hlt : j < rs.length
    · obtain ⟨x, hx⟩ : ∃ x, rs[j]? = some x := ⟨_, List.getElem?_eq_getElem hlt⟩
      rcases HR.out.2 with ⟨_, e0⟩ | ⟨g, cap, cur, e1, _, hhg, _⟩
      · omega
      cases e1
      have hgl : g < w.heap.size := lt_of_block hhg
      have HCR : Hid (wr.cell? ⟨g, j, none⟩ = some (.string x)) := by
        have hbw : Below w.heap.size w wr := HWB.out.trans (hO.out.below.mono (Nat.le_succ _))
        show _ = _
        rw [hbw.cell (p := ⟨g, j, none⟩) hgl, HR.out.cellAt (g := g) j (by omega)]
        simp [scells, hx]
      have hc := HCR.out
      obtain ⟨hq0, hq1, _⟩ := HQ.out wr hO.out.below
      obtain ⟨hmayx, hxs⟩ := HM.out x (List.mem_of_getElem? hx)
      have cp := Pieces_yes x K M wr (by omega) hmayx
      have HX : Hid (rs[j]? = some x) := hx
      obtain ⟨mk1, mk2, mm1, mm2, mrb⟩ := hmayx
      have HRB : Hid (readB x.data.toList = true) := mrb
      clear hx hhg mrb
      go_wp2_with (go_at_call 115; go_must (refine cp.mono ?_; rintro e w3 ⟨pv, ps, rfl, hpo, hpd, hb3⟩; obtain ⟨aP, cP, hpv⟩ := own_slice hpo; subst hpv))
      have O3 := hO.out.later hb3
      have A3 : Away w3 (w.heap.size + 1) vs (.slice aP ps.length cP) ps := ⟨own_lower hpo (by have := hO.out.size; omega), fun k v g' h1 h2 e => by
        have hk : k < vs.length := (List.getElem?_eq_some_iff.1 h1).1
        obtain ⟨b', hb'⟩ : ∃ b', B[k]? = some b' := ⟨_, List.getElem?_eq_getElem (by rw [hO.out.rows.len]; exact hk)⟩
        have l1 := ((hO.out.rows.each k v b' h1 hb').lt g' h2).2
        have l2 := (hpo.lt g' e).1
        omega⟩
      obtain ⟨P, hP⟩ : ∃ P, P = (datas (rs.take j)).flatMap (fun l => piecesL l K M) := ⟨_, rfl⟩
      have HPN : Hid ((datas (rs.take (j + 1))).flatMap (fun l => piecesL l K M) = P ++ datas ps) := by
        show _ = _
        rw [List.take_add_one, HX.out, hpd, hP]
        simp [datas]
      have hpl : P.length + ps.length ≤ 100000 := by
        have := HAL.out (j + 1)
        rw [HPN.out, List.length_append] at this
        simpa [datas] using this
      have HPF : Hid (∀ p ∈ ps, K ≤ p.data.toList.length ∧ (cut p.data.toList 0 K).length = K ∧ (cut p.data.toList 0 K).all isB = true) := fun p hp => piece_first (l := x.data.toList) (m := M) (by omega) (by rw [← hpd]; exact List.mem_map.2 ⟨p, hp, rfl⟩)
      rw [← hP] at O3
      clear hpo hpd hb3 hP hO cp hq0 hq1 hc HCR
      go_loopw [35] (fun i wr2 => ∃ (i' : Nat) (vs2 : List Value) (B2 : List (List ByteArray)), i = .int .i64 (i' : Int) ∧ i' ≤ ps.length ∧ Hid (OnWay w1 wr2 (w.heap.size + 1) (.slice (some ⟨w.heap.size + 1, 0, none⟩) Bn Bn) vs2 B2 Bn K M (P ++ (datas ps).take i')) ∧ Hid (Away wr2 (w.heap.size + 1) vs2 (.slice aP ps.length cP) ps)) (fun i _ => ps.length - (intOf i).toNat)
      case atStart => exact ⟨0, vs, B, rfl, Nat.zero_le _, by show OnWay _ _ _ _ _ _ _ _ _ _; rw [List.take_zero, List.append_nil]; exact O3, A3⟩
      case round =>
        obtain ⟨i, vs2, B2, rfl, hi1, hO2, hA2⟩ := hrel
        clear O3 A3
        rename World => wr2
        by_cases hik : i < ps.length
        · obtain ⟨p, hp⟩ : ∃ p, ps[i]? = some p := ⟨_, List.getElem?_eq_getElem hik⟩
          rcases hA2.out.row.2 with ⟨_, e0⟩ | ⟨gP, capP, curP, e1, _⟩
          · omega
          cases e1
          have hcp : wr2.cell? ⟨gP, i, none⟩ = some (.string p) := by
            rw [hA2.out.row.cellAt (g := gP) i (by omega)]
            simp [scells, hp]
          obtain ⟨hq0, hq1, _⟩ := HQ.out wr2 hO2.out.below
          obtain ⟨hk1, hk2, hk3⟩ := HPF.out p (List.mem_of_getElem? hp)
          have hps : K ≤ p.size := by rw [Lib.size_eq]; exact hk1
          have hsl := slice_to p K hps
          have hyd : (p.extract 0 K).data.toList = cut p.data.toList 0 K := by have := cut_extract p 0 K; rwa [Nat.zero_add] at this
          have hyz : (p.extract 0 K).size = K := by rw [Lib.size_eq, hyd, hk2]
          obtain ⟨y, hy⟩ : ∃ y, y = p.extract 0 K := ⟨_, rfl⟩
          rw [← hy] at hsl hyd hyz
          have cm := Mark_any y (M : Int) wr2.drew (by omega)
          have s2 : Still wr2 wr2.drew := ⟨rfl, rfl, rfl, rfl, Nat.le_add_right _ _⟩
          have HMK : Hid (∀ r n, MarkIs y (M : Int) r n → r.data.toList = markL M (cut p.data.toList 0 K) ∧ r.size ≤ 1000) := fun r n h => by
            have hw : wordB y.data.toList = true ∧ (1 : Int) ≤ (M : Int) ∧ (M : Int) ≤ (y.size : Int) := by
              refine ⟨?_, by omega, by omega⟩
              rw [hyd]
              unfold wordB
              rw [hk3]
              cases hl : cut p.data.toList 0 K with
              | nil => rw [hl] at hk2; simp at hk2; omega
              | cons a l => rfl
            rcases h with ⟨_, _, h2⟩ | ⟨h1, _⟩
            · rw [show ((M : Int)).toNat = M by omega, hyd] at h2
              have h3 := mark_eq (by rw [hk2]; omega) h2
              refine ⟨h3, ?_⟩
              rw [Lib.size_eq]
              rcases h2.1 with ⟨t, ht1, ht2⟩ | ⟨t, ht1, ht2⟩
              · rw [ht2]; simp [cut]; omega
              · rw [ht2]; simp [cut]; omega
            · exact absurd hw h1
          have HP : Hid (ps[i]? = some p) := hp
          clear hp hy hk1 hk2 hk3 hyd
          go_upto_region 9 with fail
          go_region_with (go_at_call 116; go_must (refine cm.mono ?_; rintro e w4 ⟨r, n, rfl, hmk, hb4⟩))
          all_goals
            obtain ⟨hrd, hrz⟩ := HMK.out r n hmk
            have s4 : Still w4 w4.drew := ⟨rfl, rfl, rfl, rfl, Nat.le_add_right _ _⟩
            have O4 := (hO2.out.later ((s2.below _).trans hb4)).later (s4.below _)
            have A4 : Away w4.drew (w.heap.size + 1) vs2 (.slice (some ⟨gP, 0, none⟩) ps.length cP) ps := ⟨own_later (own_later hA2.out.row ((s2.below _).trans hb4)) (s4.below _), hA2.out.apart⟩
            obtain ⟨_, _, hq2⟩ := HQ.out w4.drew O4.below
            have cs := Go.Proofs.YtbjgpfhbdmcbbabGreatDoor.hex.SumOf_any r w4.drew (by omega)
            obtain ⟨S, hS⟩ : ∃ S, S = Go.Proofs.YtbjgpfhbdmcbbabGreatDoor.hex.sumL 14695981039346656037 r.data.toList := ⟨_, rfl⟩
            have hSl : S < 18446744073709551616 := by rw [hS]; exact Go.Proofs.YtbjgpfhbdmcbbabGreatDoor.hex.sumL_lt _ (by omega) _
            rw [← hS] at cs
            have HS : Hid (bn Bn (markL M (cut p.data.toList 0 K)) = S % Bn) := by show _ = _; rw [← hrd, hS]; rfl
            clear hS hrd hmk hb4 s4 hO2 hA2 HMK cm
            have hw2 : (Bn : Int) % 18446744073709551616 = (Bn : Int) := by omega
            have hw3 : IntKind.u64.wrap (Bn : Int) = (Bn : Int) := by rw [IntKind.wrap_u64]; exact hw2
            have hB0 : ¬ ((Bn : Int) = 0) := by omega
            obtain ⟨N, hN⟩ : ∃ N, N = S % Bn := ⟨_, rfl⟩
            have htm : Int.tmod (S : Int) (Bn : Int) = (N : Int) := by rw [hN]; rfl
            have hNl : N < Bn := by rw [hN]; exact Nat.mod_lt _ (by omega)
            rw [← hN] at HS
            clear hN
            go_upto_region 10 with fail
            go_region_with (go_at_call 83; go_must (refine cs.mono ?_; rintro e w5 ⟨rfl, rfl⟩))
            all_goals
              obtain ⟨v, bl, hv, hbl, hcv, hvo, hbll⟩ := O4.at hNl
              have hbl2 : bl.length ≤ 100000 := by rw [List.length_append, List.length_take] at hbll; omega
              have HV : Hid (vs2[N]? = some v ∧ B2[N]? = some bl) := ⟨hv, hbl⟩
              have HO4 : Hid (OnWay w1 w4.drew (w.heap.size + 1) (.slice (some ⟨w.heap.size + 1, 0, none⟩) Bn Bn) vs2 B2 Bn K M (P ++ (datas ps).take i)) := O4
              have HA4 : Hid (Away w4.drew (w.heap.size + 1) vs2 (.slice (some ⟨gP, 0, none⟩) ps.length cP) ps) := A4
              have HVO : Hid (w4.drew.ownsRow (w.heap.size + 1) 9 1 v bl.length (scells bl)) := hvo
              clear hv hbl hvo hbll O4 A4 cs hw2 hw3 hB0 htm hsl
              go_wp2_with (at_builtin; go_must (refine wpList_append_lies _ rfl (.tmp 60) (.tmp 62) 28 rfl (w.heap.size + 1) 9 i0 (.string ByteArray.empty) 1 16 Tryz.underlying28 hi hz0 hz1 hz2 rfl (by decide) _ _ _ rfl (HVO.out.alloc _) _ 1 1 [.string p] rfl rfl (pieces.cell_one _ _ _) (one_str p) (by decide) (by unfold maxLen; omega) (by omega) (by have := HO4.out.size; simp at this ⊢; omega) _ rfl ?_; intro g6 c6 w6 own6 gr6 hat6 _; obtain ⟨hce, hfr, O6, A6⟩ := HO4.out.push HV.out.1 HV.out.2 HS.out own6 gr6 hat6 HA4.out; have HO6 : Hid (OnWay _ _ _ _ _ _ _ _ _ _) := O6; have HA6 : Hid (Away _ _ _ _ _) := A6; clear O6 A6 own6 gr6 hat6))
              have HO7 := HO6
              rw [List.append_assoc, ← take_snoc (datas_at HP.out)] at HO7
              go_roundw
              case rel => exact ⟨i + 1, _, _, by go_num, by omega, HO7, HA6⟩
              case measure => simp [intOf]; omega
        · have hie : i = ps.length := by omega
          have HO4 : Hid (OnWay w1 wr2 (w.heap.size + 1) (.slice (some ⟨w.heap.size + 1, 0, none⟩) Bn Bn) vs2 B2 Bn K M ((datas (rs.take (j + 1))).flatMap (fun l => piecesL l K M))) := by
            show OnWay _ _ _ _ _ _ _ _ _ _
            have := hO2.out
            rw [hie, List.take_of_length_le (by simp [datas])] at this
            rw [HPN.out]; exact this
          clear hO2 hA2
          go_wp2
          go_roundw
          case rel => exact ⟨j + 1, vs2, B2, by go_num, by omega, HO4⟩
          case measure => simp [intOf]; omega
    · have hje : j = rs.length := by omega
      subst hje
      rw [List.take_length] at hO
      go_wp2
      go_ret
      exact ⟨_, vs, B, rfl, ⟨own_lower hO.out.rows.row (Nat.le_succ _), hO.out.rows.len, fun i v b h1 h2 => own_lower (hO.out.rows.each i v b h1 h2) (Nat.le_succ _), hO.out.rows.apart⟩, hO.out.len, hO.out.dealt, HWB.out.trans (hO.out.below.mono (Nat.le_succ _))⟩
end Go.Proofs.YtbjgpfhbdmcbbabGreatDoor.words

/-
  CONTRACTS of package quern: merge.
-/
namespace Go.Proofs.YtbjgpfhbdmcbbabGreatDoor.words
open Go.RowKit dnamath dna diskm disk keep pieces kinds
set_option linter.unusedVariables false

/-- what is left of a row of entries, from some place on -/
def Rest (w : World) (v : Value) (R : List Ent) : Prop :=
  ∃ (ad : Option Addr) (cap : Nat), v = .slice ad R.length cap ∧ R.length ≤ cap ∧ (R = [] ∨ ∃ g o, ad = some ⟨g, o, none⟩ ∧ g < w.heap.size ∧ ∀ j x, R[j]? = some x → w.cell? ⟨g, o + j * 2, none⟩ = some (.string x.1) ∧ w.cell? ⟨g, o + j * 2 + 1, none⟩ = some (.int .i64 (x.2 : Int)))

theorem rest_of {w : World} {base : Nat} {v : Value} {R : List Ent} (h : w.ownsRow base 58 2 v R.length (ecells R)) : Rest w v R := by
  rcases h.2 with ⟨rfl, h0⟩ | ⟨g, cap, cur, rfl, _, hg, hcap, _⟩
  · have : R = [] := List.eq_nil_of_length_eq_zero h0
    subst this
    exact ⟨none, 0, rfl, Nat.le_refl _, .inl rfl⟩
  · refine ⟨_, cap, rfl, hcap, .inr ⟨g, 0, rfl, lt_of_block hg, fun j x hx => ?_⟩⟩
    have hj : j < R.length := (List.getElem?_eq_some_iff.1 hx).1
    rw [Nat.zero_add]
    refine ⟨?_, ?_⟩
    · rw [h.cellAt (g := g) (j * 2) (by omega)]; exact ecells_at0 _ _ _ hx
    · rw [h.cellAt (g := g) (j * 2 + 1) (by omega)]; exact ecells_at1 _ _ _ hx

/-- putting together under way -/
structure MS (w : World) (cl : Value) (n : Nat) (wr : World) (av : Value) (all : List Ent) (us : List Value) (Rs : List (List Ent)) (orig : Ents) : Prop where
  own : wr.ownsRow w.heap.size 58 2 av all.length (ecells all)
  row : wr.ownsRow w.heap.size 30 1 cl n us
  len : Rs.length = n
  ulen : us.length = n
  each : ∀ (i : Nat) (u : Value) (R : List Ent), us[i]? = some u → Rs[i]? = some R → Rest w u R
  mg : Merging (all.map cv) (Rs.map (List.map cv)) orig
  below : Below w.heap.size w wr
theorem MS.later {w : World} {cl : Value} {n : Nat} {wr wr' : World} {av : Value} {all : List Ent} {us : List Value} {Rs : List (List Ent)} {orig : Ents} (h : MS w cl n wr av all us Rs orig) (hb : Below wr.heap.size wr wr') : MS w cl n wr' av all us Rs orig :=
  ⟨row_keepB h.own (TK.below hb), own_later h.row hb, h.len, h.ulen, h.each, h.mg, h.below.trans (hb.mono h.below.size)⟩

theorem infoEs : (Tryz.prog.info? 30).map (fun i => (i.zero, i.size, i.bytes)) = some (some (.slice none 0 0), 1, 24) := by kernel_rfl
theorem MS.step {w : World} {gc cc n : Nat} {wr w4 : World} {av av4 : Value} {all : List Ent} {us : List Value} {Rs : List (List Ent)} {orig : Ents} (h : MS w (.slice (some ⟨gc, 0, none⟩) n cc) n wr av all us Rs orig) {i : Nat} {u u' : Value} {x : Ent} {R : List Ent} {o : Obj} (hi : i < n)
    (hR : Rs[i]? = some (x :: R)) (hu : us[i]? = some u) (hu' : Rest w u' R) (hmin : ∀ (j : Nat) (y : Ent) (r : List Ent), Rs[j]? = some (y :: r) → x.1.data.toList ≤ y.1.data.toList)
    (own4 : w4.ownsRow w.heap.size 58 2 av4 (all.length + 1) (ecells all ++ [.string x.1, .int .i64 (x.2 : Int)])) (g4 : (wr.alloc o).grownBy w4 av.ownBlock) :
    w4.cell? ⟨gc, i, none⟩ = some u ∧ w4.frozen? ⟨gc, i, none⟩ = false ∧ MS w (.slice (some ⟨gc, 0, none⟩) n cc) n (w4.setCell ⟨gc, i, none⟩ u') av4 (all ++ [x]) (us.set i u') (Rs.set i R) orig := by
  have tk4 : TK 30 wr w4 := (TK.alloc o).trans (TK.grown g4 (own_kind_alloc h.own o) (by decide))
  have hrow4 := row_keepB h.row tk4
  obtain ⟨cs, fz, hgb⟩ := own_kind hrow4 gc rfl
  have hgc := (h.row.lt gc rfl)
  have hsz := h.below.size
  have hgs := g4.size
  refine ⟨?_, ?_, ?_, ?_, ?_, ?_, ?_, ?_, ?_⟩
  · rw [hrow4.cellAt (g := gc) i (by omega)]; exact hu
  · rcases hrow4.2 with ⟨e, _⟩ | ⟨g', cap', cur', e1, _, hg', _⟩
    · cases e
    · cases e1; exact st_frozen hg' i
  · have e : ecells (all ++ [x]) = ecells all ++ [.string x.1, .int .i64 (x.2 : Int)] := by rw [ecells_append]; rfl
    rw [e, List.length_append]
    exact row_keepB own4 (TK.set hgb (by decide))
  · exact (hrow4.stored i u').1
  · rw [List.length_set]; exact h.len
  · rw [List.length_set]; exact h.ulen
  · intro k v T h1 h2
    rcases set_some h1 with ⟨rfl, rfl⟩ | ⟨hne, h1'⟩
    · rcases set_some h2 with ⟨_, rfl⟩ | ⟨hne, _⟩
      · exact hu'
      · exact absurd rfl hne
    · rcases set_some h2 with ⟨e, _⟩ | ⟨_, h2'⟩
      · exact absurd e hne
      · exact h.each k v T h1' h2'
  · rw [List.map_append, List.map_set]
    refine merging_step h.mg (h := cv x) (t := R.map cv) (i := i) (by simp [hR]) ?_
    intro L hL y r e
    rw [List.mem_map] at hL
    obtain ⟨T, hT, rfl⟩ := hL
    obtain ⟨j, hj⟩ := List.getElem?_of_mem hT
    cases T with
    | nil => cases e
    | cons y' r' =>
      simp only [List.map_cons, List.cons.injEq] at e
      obtain ⟨rfl, _⟩ := e
      exact hmin j y' r' hj
  · exact ((h.below.alloc hsz o).grown g4 (by simp; omega) (fun k hk => (h.own.lt k hk).1)).setCell hgc.1 _

/-- slices.Clone of a row of rows -/
theorem Clone_rows (lv : Value) (vs : List Value) (w : World) (hr : w.ownsRow 0 30 1 lv vs.length vs) (hone : ∀ u ∈ vs, u.oneCell' = true) (hn : vs.length ≤ 100000) :
    Calls Tryz.prog 122 #[lv] w fun e w' => ∃ v', e = .returned v' ∧ w'.ownsRow w.heap.size 30 1 v' vs.length vs ∧ Below w.heap.size w w' := by
  obtain ⟨j0, hj, hy0, hy1, hy2⟩ := info_parts infoEs
  have q22 : ∀ (w : World) (a : Option Addr) (n c n' c' : Nat), (binOp .eql 176 (.slice a n c) (.slice none n' c')).run Tryz.prog w = .ok (.bool a.isNone) w := fun w a n c n' c' => Lib.run_eql_slice_nil w _ _ a n c n' c' Tryz.underlying176
  rcases hr.2 with ⟨rfl, h0⟩ | ⟨g, cap, cur, rfl, _, hg, hcap, _⟩
  · have : vs = [] := List.eq_nil_of_length_eq_zero h0
    subst this
    go_enter Tryz.func122, Tryz.ntmps122
    go_wp2
    go_ret
    exact ⟨_, rfl, World.ownsRow_nil _ _ _ _, Below.refl _ _⟩
  · have A : Hid (∀ j u, vs[j]? = some u → w.cell? ⟨g, j, none⟩ = some u) := fun j u hu => by
      rw [hr.cellAt (g := g) j (by have := (List.getElem?_eq_some_iff.1 hu).1; omega)]; exact hu
    have hgl := lt_of_block hg
    clear hr hg
    go_enter Tryz.func122, Tryz.ntmps122
    go_wp2_with (at_builtin; go_must (refine wpList_append_own _ rfl _ _ 176 rfl w.heap.size 30 j0 (.slice none 0 0) 1 24 Tryz.underlying176 hj hy0 hy1 hy2 rfl (by decide) _ _ _ rfl (World.ownsRow_made w #[] 0 (Nat.le_refl _) (Nat.zero_le _) (by simp)) ⟨g, 0, none⟩ vs.length cap vs rfl (by simp) (fun j u hu => by rw [Addr.add_lit, Nat.zero_add]; exact Lib.cell?_alloc_some _ (A.out j u hu)) hone (by unfold maxLen; omega) (by omega) (by simp) ?_; intro v' w1 hown hgrow hnil))
    go_ret
    exact ⟨v', rfl, by simpa using hown, ((Below.refl _ w).alloc (Nat.le_refl _) _).grown hgrow (by simp) (fun k hk => Nat.le_of_eq (Option.some.inj hk))⟩

/-- the least of the first k lists' heads -/
def Lst (Rs : List (List Ent)) (k : Nat) (m : Int) : Prop :=
  (m = -1 ∧ ∀ (j : Nat) (L : List Ent), j < k → Rs[j]? = some L → L = []) ∨ (∃ (l : Nat) (x : Ent) (R : List Ent), m = (l : Int) ∧ l < k ∧ Rs[l]? = some (x :: R) ∧ ∀ (j : Nat) (y : Ent) (r : List Ent), j < k → Rs[j]? = some (y :: r) → x.1.data.toList ≤ y.1.data.toList)
theorem Lst.skip {Rs : List (List Ent)} {k : Nat} {m : Int} (h : Lst Rs k m) (hk : Rs[k]? = some []) : Lst Rs (k + 1) m := by
  rcases h with ⟨h1, h2⟩ | ⟨l, x, R, h1, h2, h3, h4⟩
  · refine .inl ⟨h1, fun j L hj hL => ?_⟩
    rcases Nat.lt_succ_iff_lt_or_eq.1 hj with h | rfl
    · exact h2 j L h hL
    · rw [hk] at hL; cases hL; rfl
  · refine .inr ⟨l, x, R, h1, by omega, h3, fun j y r hj hr => ?_⟩
    rcases Nat.lt_succ_iff_lt_or_eq.1 hj with h | rfl
    · exact h4 j y r h hr
    · rw [hk] at hr; cases hr
theorem Lst.first {Rs : List (List Ent)} {k : Nat} (h : Lst Rs k (-1)) {x : Ent} {R : List Ent} (hk : Rs[k]? = some (x :: R)) : Lst Rs (k + 1) (k : Int) := by
  rcases h with ⟨_, h2⟩ | ⟨l, _, _, h1, _⟩
  · refine .inr ⟨k, x, R, rfl, Nat.lt_succ_self _, hk, fun j y r hj hr => ?_⟩
    rcases Nat.lt_succ_iff_lt_or_eq.1 hj with h | rfl
    · cases h2 j _ h hr
    · rw [hk] at hr; cases hr; exact List.le_refl _
  · omega
theorem Lst.less {Rs : List (List Ent)} {k l : Nat} (h : Lst Rs k (l : Int)) {x y : Ent} {R r : List Ent} (hl : Rs[l]? = some (x :: R)) (hk : Rs[k]? = some (y :: r)) (hlt : y.1.data.toList < x.1.data.toList) : Lst Rs (k + 1) (k : Int) := by
  rcases h with ⟨h1, _⟩ | ⟨l', x', R', h1, h2, h3, h4⟩
  · omega
  · have : l' = l := by omega
    subst this
    rw [hl] at h3
    cases h3
    refine .inr ⟨k, y, r, rfl, Nat.lt_succ_self _, hk, fun j z s hj hz => ?_⟩
    rcases Nat.lt_succ_iff_lt_or_eq.1 hj with h | rfl
    · exact List.le_trans (List.le_of_lt hlt) (h4 j z s h hz)
    · rw [hk] at hz; cases hz; exact List.le_refl _
theorem Lst.more {Rs : List (List Ent)} {k l : Nat} (h : Lst Rs k (l : Int)) {x y : Ent} {R r : List Ent} (hl : Rs[l]? = some (x :: R)) (hk : Rs[k]? = some (y :: r)) (hlt : ¬ y.1.data.toList < x.1.data.toList) : Lst Rs (k + 1) (l : Int) := by
  rcases h with ⟨h1, _⟩ | ⟨l', x', R', h1, h2, h3, h4⟩
  · omega
  · have : l' = l := by omega
    subst this
    rw [hl] at h3
    cases h3
    refine .inr ⟨l', x, R, rfl, by omega, hl, fun j z s hj hz => ?_⟩
    rcases Nat.lt_succ_iff_lt_or_eq.1 hj with h | rfl
    · exact h4 j z s h hz
    · rw [hk] at hz; cases hz; exact List.not_lt.1 hlt
end Go.Proofs.YtbjgpfhbdmcbbabGreatDoor.words
