import Derived.Test.YtbjgpfhbdmcbbaaGreatDoorP31

/-
  FACTS for the walks of Asked, Alike, Added.
-/
namespace Go.Proofs.YtbjgpfhbdmcbbaaGreatDoor.keep
open Go.RowKit Go.Proofs.YtbjgpfhbdmcbbaaGreatDoor.dnamath Go.Proofs.YtbjgpfhbdmcbbaaGreatDoor.dna Go.Proofs.YtbjgpfhbdmcbbaaGreatDoor.diskm Go.Proofs.YtbjgpfhbdmcbbaaGreatDoor.disk Go.Proofs.YtbjgpfhbdmcbbaaGreatDoor.hex Go.Proofs.YtbjgpfhbdmcbbaaGreatDoor.pieces Go.Proofs.YtbjgpfhbdmcbbaaGreatDoor.files Go.Proofs.YtbjgpfhbdmcbbaaGreatDoor.parse Go.Proofs.YtbjgpfhbdmcbbaaGreatDoor.words Go.Proofs.YtbjgpfhbdmcbbaaGreatDoor.kinds Go.Proofs.YtbjgpfhbdmcbbaaGreatDoor.jobs Go.Proofs.YtbjgpfhbdmcbbaaGreatDoor.base Go.Proofs.YtbjgpfhbdmcbbaaGreatDoor.fill
set_option linter.unusedVariables false

theorem IsRows.later {w w' : World} {a : Option Addr} {len : Nat} (h : IsRows w a len) (hb : Below w.heap.size w w') : IsRows w' a len := by
  refine ⟨h.1, ?_⟩
  rcases h.2 with h0 | ⟨b, off, ha, hc⟩
  · exact .inl h0
  · refine .inr ⟨b, off, ha, fun i hi => ?_⟩
    obtain ⟨ai, li, ci, zs, h1, h2⟩ := hc i hi
    exact ⟨ai, li, ci, zs, (hb.cell (World.block_lt_of_cell? _ _ h1)).trans h1, h2.later hb⟩

theorem ERow.slice {w : World} {v : Value} {es : List Ent} (h : ERow w v es) : ∃ a c, v = .slice a es.length c := by
  rcases h with ⟨rfl, rfl⟩ | ⟨g, off, cap, rfl, _⟩
  · exact ⟨_, _, rfl⟩
  · exact ⟨_, _, rfl⟩

/-- options that lie in memory -/
structure OptAt (w : World) (q K M Bn : Nat) : Prop where
  blk : w.heap[q]? = some (.cells #[.int .i64 (K : Int), .int .i64 (M : Int), .int .i64 (Bn : Int)] 29 (0, 0))
theorem OptAt.new {Bo : Nat} {w w' : World} {q K M Bn : Nat} (h : OptAt w q K M Bn) (hk : New Bo w w') : OptAt w' q K M Bn := by
  refine ⟨(hk.block q (lt_of_block h.blk) (Nat.ne_of_lt (lt_of_block h.blk)) (fun ⟨cs', fz', e⟩ => by rw [h.blk] at e; cases e) (by
    rintro ⟨cs', T', fz', e, hd⟩
    rw [h.blk] at e
    cases e
    rcases hd with h | h | h | h <;> exact absurd h (by decide))).trans h.blk⟩
theorem OptAt.cells {w : World} {q K M Bn : Nat} (h : OptAt w q K M Bn) : w.cell? ⟨q, 0, none⟩ = some (.int .i64 (K : Int)) ∧ w.cell? ⟨q, 1, none⟩ = some (.int .i64 (M : Int)) ∧ w.cell? ⟨q, 2, none⟩ = some (.int .i64 (Bn : Int)) := ⟨st_cell h.blk 0, st_cell h.blk 1, st_cell h.blk 2⟩

theorem New.to {w w' : World} (h : New w.heap.size w w') : Below w.heap.size w w' := ⟨h.os, h.tape, h.output, h.size, fun k hk => h.low k hk hk (Nat.ne_of_lt hk)⟩
theorem New.and {Bo : Nat} {w w1 w2 : World} (h : New Bo w w1) (k : New Bo w1 w2) : New Bo w w2 := h.fk (q := w1.heap.size) k h.size

/-- what holds of an entry of counts -/
structure EntIs (K : Nat) (es : List Ent) (x : Ent) : Prop where
  all : x.1.data.toList.all isB = true
  size : x.1.size = K
  one : 1 ≤ x.2
  few : x.2 ≤ 1440
  canon : canonL x.1.data.toList = x.1.data.toList
  count : ∀ n, countIn es x.1.data.toList n → n = x.2
theorem entries_of {K : Nat} {rs : List (List UInt8)} {es : List Ent} (h : TallyOf (wordsOf K rs) (es.map cv)) (hl : (wordsOf K rs).length ≤ 1440) : es.length ≤ 1440 ∧ ∀ (k : Nat) (x : Ent), es[k]? = some x → EntIs K es x := by
  have hs := tally_small h (words_words _) hl
  refine ⟨hs.len, fun k x hx => ?_⟩
  have hm := List.mem_of_getElem? hx
  obtain ⟨h1, h2, h3, h4⟩ := hs.each x hm
  refine ⟨h1, h2, h3, h4, ?_, ?_⟩
  · have hw := (tally_key h (cv x).1).1 (List.mem_map.2 ⟨cv x, List.mem_map.2 ⟨x, hm, rfl⟩, rfl⟩)
    have hw : x.1.data.toList ∈ wordsOf K rs := hw
    unfold wordsOf at hw
    obtain ⟨y, hy, e⟩ := List.mem_map.1 hw
    have hya : y.all isB = true := by
      obtain ⟨l, _, hy⟩ := List.mem_flatMap.1 hy
      exact (winTo_valid _ y hy).2
    rw [← e, canonL_idem hya]
  · intro n hn
    rcases hn with ⟨i, y, hy, e1, e2⟩ | ⟨_, hno⟩
    · rcases Nat.lt_trichotomy i k with h5 | h5 | h5
      · have := sorted_get h.sorted h5 hy hx
        rw [e1] at this; exact absurd this (List.lt_irrefl _)
      · subst h5; rw [hx] at hy; cases hy; exact e2.symm
      · have := sorted_get h.sorted h5 hx hy
        rw [e1] at this; exact absurd this (List.lt_irrefl _)
    · exact absurd rfl (hno k x hx)
theorem found_at {es : List Ent} (hs : ((es.map cv).map Prod.fst).Pairwise (· < ·)) {k i : Nat} {x : Ent} {f : Bool} (hx : es[k]? = some x) (h : FoundAt es x.1.data.toList i f) : i = k := by
  rcases Nat.lt_trichotomy i k with h1 | h1 | h1
  · obtain ⟨y, hy⟩ : ∃ y, es[i]? = some y := ⟨_, List.getElem?_eq_getElem (by have := (List.getElem?_eq_some_iff.1 hx).1; omega)⟩
    exact absurd (sorted_get hs h1 hy hx) (h.more i y (Nat.le_refl _) hy)
  · exact h1
  · exact absurd (h.less k x h1 hx) (List.lt_irrefl _)
theorem turned_word {s r : ByteArray} {n : Int} (h : TurnedIs s r n) (hw : s.data.toList.all isB = true) (hs : 0 < s.size) : n = 0 ∧ r.data.toList = turn s.data.toList := by
  have hwb : wordB s.data.toList = true := by
    unfold wordB
    rw [hw]
    cases hl : s.data.toList with
    | nil => rw [Lib.size_eq, hl] at hs; simp at hs
    | cons a l => rfl
  rcases h with ⟨_, h1, h2⟩ | ⟨h0, _⟩
  · exact ⟨h1, h2⟩
  · rw [hwb] at h0; cases h0
end Go.Proofs.YtbjgpfhbdmcbbaaGreatDoor.keep
