import Derived.Test.YtbjgpfhbdmcbbabGreatDoorP30
import Derived.Test.YtbjgpfhbdmcbbabGreatDoorP28

/-
  CONTRACTS of quernkeep: lives, sameEntries.
-/
namespace Go.Proofs.YtbjgpfhbdmcbbabGreatDoor.keep
open Go.RowKit Go.Proofs.YtbjgpfhbdmcbbabGreatDoor.dnamath Go.Proofs.YtbjgpfhbdmcbbabGreatDoor.dna Go.Proofs.YtbjgpfhbdmcbbabGreatDoor.diskm Go.Proofs.YtbjgpfhbdmcbbabGreatDoor.disk Go.Proofs.YtbjgpfhbdmcbbabGreatDoor.hex Go.Proofs.YtbjgpfhbdmcbbabGreatDoor.pieces Go.Proofs.YtbjgpfhbdmcbbabGreatDoor.files Go.Proofs.YtbjgpfhbdmcbbabGreatDoor.parse Go.Proofs.YtbjgpfhbdmcbbabGreatDoor.words Go.Proofs.YtbjgpfhbdmcbbabGreatDoor.kinds Go.Proofs.YtbjgpfhbdmcbbabGreatDoor.jobs Go.Proofs.YtbjgpfhbdmcbbabGreatDoor.base Go.Proofs.YtbjgpfhbdmcbbabGreatDoor.fill
set_option linter.unusedVariables false

/-- entries that lie one after another -/
def ERow (w : World) (v : Value) (es : List Ent) : Prop :=
  (v = .slice none 0 0 ∧ es = []) ∨ ∃ g off cap, v = .slice (some ⟨g, off, none⟩) es.length cap ∧ g < w.heap.size ∧ ∀ (j : Nat) (x : Ent), es[j]? = some x → w.cell? ⟨g, off + j * 2, none⟩ = some (.string x.1) ∧ w.cell? ⟨g, off + j * 2 + 1, none⟩ = some (.int .i64 (x.2 : Int))
theorem ERow.of_own {w : World} {base : Nat} {v : Value} {es : List Ent} (h : w.ownsRow base 58 2 v es.length (ecells es)) : ERow w v es := by
  rcases h.2 with ⟨rfl, h0⟩ | ⟨g, cap, cur, rfl, _, hg, _⟩
  · exact .inl ⟨rfl, List.eq_nil_of_length_eq_zero h0⟩
  · refine .inr ⟨g, 0, cap, rfl, lt_of_block hg, fun j x hx => ?_⟩
    have hl := (List.getElem?_eq_some_iff.1 hx).1
    rw [Nat.zero_add]
    refine ⟨?_, ?_⟩
    · rw [h.cellAt (g := g) (j * 2) (by omega)]; exact ecells_at0 _ _ _ hx
    · rw [h.cellAt (g := g) (j * 2 + 1) (by omega)]; exact ecells_at1 _ _ _ hx
theorem ERow.below {w w' : World} {v : Value} {es : List Ent} (h : ERow w v es) (hb : Below w.heap.size w w') : ERow w' v es := by
  rcases h with h | ⟨g, off, cap, rfl, hg, hc⟩
  · exact .inl h
  · exact .inr ⟨g, off, cap, rfl, Nat.lt_of_lt_of_le hg hb.size, fun j x hx => ⟨(hb.cell (by exact hg)).trans (hc j x hx).1, (hb.cell (by exact hg)).trans (hc j x hx).2⟩⟩

set_option maxHeartbeats 1000000 in
set_option maxRecDepth 100000 in
theorem sameEntries_any (va vb : Value) (es : List Ent) (w : World) (ha : ERow w va es) (hb : ERow w vb es) (hl : es.length ≤ 100000) :
    Calls Tryz.prog 15 #[va, vb] w fun e w' => e = .returned (.bool true) ∧ Below w.heap.size w w' := by
  by_cases h0 : es = []
  · subst h0
    rcases ha with ⟨rfl, _⟩ | ⟨g, off, cap, rfl, hg, hc⟩
    all_goals
      rcases hb with ⟨rfl, _⟩ | ⟨g', off', cap', rfl, hg', hc'⟩
      all_goals
        go_enter Tryz.func15, Tryz.ntmps15
        go_wp2
        refine wp_loop_rounds 1 ?_
        rw [rounds_succ]
        go_wp2
        go_ret
        exact ⟨rfl, Below.refl _ _⟩
  · rcases ha with ⟨_, h⟩ | ⟨g, off, cap, rfl, hg, hc⟩
    · exact absurd h h0
    rcases hb with ⟨_, h⟩ | ⟨g', off', cap', rfl, hg', hc'⟩
    · exact absurd h h0
    have HC : Hid (∀ (j : Nat) (x : Ent), es[j]? = some x → w.cell? ⟨g, off + j * 2, none⟩ = some (.string x.1) ∧ w.cell? ⟨g, off + j * 2 + 1, none⟩ = some (.int .i64 (x.2 : Int))) := hc
    have HC' : Hid (∀ (j : Nat) (x : Ent), es[j]? = some x → w.cell? ⟨g', off' + j * 2, none⟩ = some (.string x.1) ∧ w.cell? ⟨g', off' + j * 2 + 1, none⟩ = some (.int .i64 (x.2 : Int))) := hc'
    clear hc hc' h0
    go_enter Tryz.func15, Tryz.ntmps15
    go_wp2
    go_loopw [5] (fun i wr => ∃ k : Nat, k ≤ es.length ∧ i = .int .i64 k ∧ Below w.heap.size w wr) (fun i _ => es.length - (intOf i).toNat)
    case atStart => exact ⟨0, Nat.zero_le _, rfl, Below.refl _ _⟩
    case round =>
      obtain ⟨k, hk, rfl, hbel⟩ := hrel
      by_cases hlt : k < es.length
      · obtain ⟨x, hx⟩ : ∃ x, es[k]? = some x := ⟨_, List.getElem?_eq_getElem hlt⟩
        have c1 : wr.cell? ⟨g, off + k * 2, none⟩ = some (.string x.1) := (hbel.cell (by exact hg)).trans (HC.out k x hx).1
        have c2 : wr.cell? ⟨g, off + k * 2 + 1, none⟩ = some (.int .i64 (x.2 : Int)) := (hbel.cell (by exact hg)).trans (HC.out k x hx).2
        have d1 : wr.cell? ⟨g', off' + k * 2, none⟩ = some (.string x.1) := (hbel.cell (by exact hg')).trans (HC'.out k x hx).1
        have d2 : wr.cell? ⟨g', off' + k * 2 + 1, none⟩ = some (.int .i64 (x.2 : Int)) := (hbel.cell (by exact hg')).trans (HC'.out k x hx).2
        obtain ⟨s, n⟩ := x
        have hI : (k : Int) < (es.length : Int) := by omega
        clear hx
        go_wp2
        go_quiet (fail)
        go_wp2
        go_roundw
        case rel => exact ⟨k + 1, by omega, by go_num, hbel.trans ⟨rfl, rfl, rfl, Nat.le_refl _, fun _ _ => rfl⟩⟩
        case measure => simp [intOf]; omega
      · go_wp2
        go_ret
        exact ⟨rfl, hbel⟩

abbrev liveB : ByteArray := ⟨#[62, 120, 10, 65, 67, 71, 84, 10, 62, 121, 10, 65, 65]⟩
def liveR : List (List UInt8) := [[65, 67, 71, 84], [65, 65]]
theorem live_lines : linesL liveB.data.toList = [[62, 120], [65, 67, 71, 84], [62, 121], [65, 65]] := by decide +kernel
theorem live_form : FormIs liveB liveR := by
  refine .inr ⟨false, by decide, rfl, fun ts h => ?_, by decide⟩
  rw [live_lines] at h
  refine recs_of false liveR [] _ h ?_
  refine ⟨[[62, 121], [65, 65]], ⟨[], rfl, by decide, .inl ⟨rfl, [121], [[65, 65]], rfl, by simp, ?_, rfl⟩⟩, by decide, .inl ⟨rfl, [120], [[65, 67, 71, 84]], rfl, by simp, ?_, rfl⟩⟩
  · intro x hx
    rw [List.mem_singleton] at hx; subst hx
    exact ⟨by simp, by unfold greatB; decide⟩
  · intro x hx
    rw [List.mem_singleton] at hx; subst hx
    exact ⟨by simp, by unfold greatB; decide⟩
theorem live_words : wordsOf 3 liveR = [[65, 67, 71], [65, 67, 71]] := by decide +kernel
theorem live_fit : Fit 3 2 3 liveB liveR := by
  refine ⟨by decide, by decide, by decide, by decide, by decide, by decide, by decide, by decide, by decide, live_form, ?_, by decide, by rw [live_words]; decide⟩
  intro l hl
  unfold liveR at hl
  simp at hl
  rcases hl with rfl | rfl <;> exact ⟨by unfold readB; decide, by decide⟩
theorem live_tally : TallyOf [[65, 67, 71], [65, 67, 71]] [([65, 67, 71], 2)] := by
  refine ⟨by simp, ?_, ?_⟩
  · intro e he
    rw [List.mem_singleton] at he; subst he
    exact ⟨by decide, by decide⟩
  · intro x hx
    refine ⟨_, List.mem_singleton.2 rfl, ?_⟩
    simp at hx
    exact hx.symm
theorem live_es {es : List Ent} (h : TallyOf (wordsOf 3 liveR) (es.map cv)) : es = [(⟨#[65, 67, 71]⟩, 2)] := by
  rw [live_words] at h
  have e := h.unique live_tally (fun x => rfl)
  clear h
  cases es with
  | nil => simp at e
  | cons x t =>
    cases t with
    | nil =>
      obtain ⟨s, n⟩ := x
      simp only [List.map_cons, List.map_nil, List.cons.injEq, and_true, cv, Prod.mk.injEq] at e
      have : s = ⟨#[65, 67, 71]⟩ := by apply ByteArray.ext; apply Array.toList_inj.1; exact e.1
      rw [this, e.2]
    | cons y t => simp at e

set_option maxHeartbeats 1000000 in
set_option maxRecDepth 100000 in
theorem lives_yes {Bo : Nat} (a bb aE : Addr) (w : World) (hG : Gl w a bb aE) (hBo : Bo ≤ w.heap.size) :
    Calls Tryz.prog 9 #[] w fun e w' => e = .returned (.bool true) ∧ New Bo w w' := by
  have cc := counted_any (Bo := Bo) 3 2 3 liveB liveR a bb aE w hG hBo live_fit
  clear hG
  go_enter Tryz.func9, Tryz.ntmps9
  go_wp2_with fail
  refine cc.mono ?_
  rintro e w1 ⟨v, es, rfl, own1, t1, n1⟩
  have he := live_es t1
  subst he
  have HN : Hid (New Bo w w1) := n1
  clear n1 cc t1
  rcases own1.2 with ⟨_, h0⟩ | ⟨g, cap, cur, rfl, _⟩
  · simp at h0
  have c0 : w1.cell? ⟨g, 0, none⟩ = some (.string ⟨#[65, 67, 71]⟩) := own1.cellAt (g := g) 0 (by decide)
  have c1 : w1.cell? ⟨g, 1, none⟩ = some (.int .i64 2) := own1.cellAt (g := g) 1 (by decide)
  clear own1
  go_wp2
  go_ret
  exact ⟨rfl, HN.out⟩
end Go.Proofs.YtbjgpfhbdmcbbabGreatDoor.keep

/-
  FACTS for the walks of Asked, Alike, Added.
-/
namespace Go.Proofs.YtbjgpfhbdmcbbabGreatDoor.keep
open Go.RowKit Go.Proofs.YtbjgpfhbdmcbbabGreatDoor.dnamath Go.Proofs.YtbjgpfhbdmcbbabGreatDoor.dna Go.Proofs.YtbjgpfhbdmcbbabGreatDoor.diskm Go.Proofs.YtbjgpfhbdmcbbabGreatDoor.disk Go.Proofs.YtbjgpfhbdmcbbabGreatDoor.hex Go.Proofs.YtbjgpfhbdmcbbabGreatDoor.pieces Go.Proofs.YtbjgpfhbdmcbbabGreatDoor.files Go.Proofs.YtbjgpfhbdmcbbabGreatDoor.parse Go.Proofs.YtbjgpfhbdmcbbabGreatDoor.words Go.Proofs.YtbjgpfhbdmcbbabGreatDoor.kinds Go.Proofs.YtbjgpfhbdmcbbabGreatDoor.jobs Go.Proofs.YtbjgpfhbdmcbbabGreatDoor.base Go.Proofs.YtbjgpfhbdmcbbabGreatDoor.fill
set_option linter.unusedVariables false

theorem IsRows.later {w w' : World} {a : Option Addr} {len : Nat} (h : IsRows w a len) (hb : Below w.heap.size w w') : IsRows w' a len := by
  refine ⟨h.1, ?_⟩
  rcases h.2 with h0 | ⟨b, off, ha, hc⟩
  · exact .inl h0
  · refine .inr ⟨b, off, ha, fun i hi => ?_⟩
    obtain ⟨ai, li, ci, zs, h1, h2⟩ := hc i hi
    exact ⟨ai, li, ci, zs, (hb.cell (World.block_lt_of_cell? _ _ h1)).trans h1, h2.later hb⟩

theorem ERow.slice {w : World} {v : Value} {es : List Ent} (h : ERow w v es) : ∃ a c, v = .slice a es.length c := by
  rcases h with ⟨rfl, rfl⟩ | ⟨g, off, cap, rfl, _⟩
  · exact ⟨_, _, rfl⟩
  · exact ⟨_, _, rfl⟩

/-- options that lie in memory -/
structure OptAt (w : World) (q K M Bn : Nat) : Prop where
  blk : w.heap[q]? = some (.cells #[.int .i64 (K : Int), .int .i64 (M : Int), .int .i64 (Bn : Int)] 25 (0, 0))
theorem OptAt.new {Bo : Nat} {w w' : World} {q K M Bn : Nat} (h : OptAt w q K M Bn) (hk : New Bo w w') : OptAt w' q K M Bn := by
  refine ⟨(hk.block q (lt_of_block h.blk) (Nat.ne_of_lt (lt_of_block h.blk)) (fun ⟨cs', fz', e⟩ => by rw [h.blk] at e; cases e) (by
    rintro ⟨cs', T', fz', e, hd⟩
    rw [h.blk] at e
    cases e
    rcases hd with h | h | h | h <;> exact absurd h (by decide))).trans h.blk⟩
theorem OptAt.cells {w : World} {q K M Bn : Nat} (h : OptAt w q K M Bn) : w.cell? ⟨q, 0, none⟩ = some (.int .i64 (K : Int)) ∧ w.cell? ⟨q, 1, none⟩ = some (.int .i64 (M : Int)) ∧ w.cell? ⟨q, 2, none⟩ = some (.int .i64 (Bn : Int)) := ⟨st_cell h.blk 0, st_cell h.blk 1, st_cell h.blk 2⟩

theorem New.to {w w' : World} (h : New w.heap.size w w') : Below w.heap.size w w' := ⟨h.os, h.tape, h.output, h.size, fun k hk => h.low k hk hk (Nat.ne_of_lt hk)⟩
theorem New.and {Bo : Nat} {w w1 w2 : World} (h : New Bo w w1) (k : New Bo w1 w2) : New Bo w w2 := h.fk (q := w1.heap.size) k h.size

/-- what holds of an entry of counts -/
structure EntIs (K : Nat) (es : List Ent) (x : Ent) : Prop where
  all : x.1.data.toList.all isB = true
  size : x.1.size = K
  one : 1 ≤ x.2
  few : x.2 ≤ 1440
  canon : canonL x.1.data.toList = x.1.data.toList
  count : ∀ n, countIn es x.1.data.toList n → n = x.2
theorem entries_of {K : Nat} {rs : List (List UInt8)} {es : List Ent} (h : TallyOf (wordsOf K rs) (es.map cv)) (hl : (wordsOf K rs).length ≤ 1440) : es.length ≤ 1440 ∧ ∀ (k : Nat) (x : Ent), es[k]? = some x → EntIs K es x := by
  have hs := tally_small h (words_words _) hl
  refine ⟨hs.len, fun k x hx => ?_⟩
  have hm := List.mem_of_getElem? hx
  obtain ⟨h1, h2, h3, h4⟩ := hs.each x hm
  refine ⟨h1, h2, h3, h4, ?_, ?_⟩
  · have hw := (tally_key h (cv x).1).1 (List.mem_map.2 ⟨cv x, List.mem_map.2 ⟨x, hm, rfl⟩, rfl⟩)
    have hw : x.1.data.toList ∈ wordsOf K rs := hw
    unfold wordsOf at hw
    obtain ⟨y, hy, e⟩ := List.mem_map.1 hw
    have hya : y.all isB = true := by
      obtain ⟨l, _, hy⟩ := List.mem_flatMap.1 hy
      exact (winTo_valid _ y hy).2
    rw [← e, canonL_idem hya]
  · intro n hn
    rcases hn with ⟨i, y, hy, e1, e2⟩ | ⟨_, hno⟩
    · rcases Nat.lt_trichotomy i k with h5 | h5 | h5
      · have := sorted_get h.sorted h5 hy hx
        rw [e1] at this; exact absurd this (List.lt_irrefl _)
      · subst h5; rw [hx] at hy; cases hy; exact e2.symm
      · have := sorted_get h.sorted h5 hx hy
        rw [e1] at this; exact absurd this (List.lt_irrefl _)
    · exact absurd rfl (hno k x hx)
theorem found_at {es : List Ent} (hs : ((es.map cv).map Prod.fst).Pairwise (· < ·)) {k i : Nat} {x : Ent} {f : Bool} (hx : es[k]? = some x) (h : FoundAt es x.1.data.toList i f) : i = k := by
  rcases Nat.lt_trichotomy i k with h1 | h1 | h1
  · obtain ⟨y, hy⟩ : ∃ y, es[i]? = some y := ⟨_, List.getElem?_eq_getElem (by have := (List.getElem?_eq_some_iff.1 hx).1; omega)⟩
    exact absurd (sorted_get hs h1 hy hx) (h.more i y (Nat.le_refl _) hy)
  · exact h1
  · exact absurd (h.less k x h1 hx) (List.lt_irrefl _)
theorem turned_word {s r : ByteArray} {n : Int} (h : TurnedIs s r n) (hw : s.data.toList.all isB = true) (hs : 0 < s.size) : n = 0 ∧ r.data.toList = turn s.data.toList := by
  have hwb : wordB s.data.toList = true := by
    unfold wordB
    rw [hw]
    cases hl : s.data.toList with
    | nil => rw [Lib.size_eq, hl] at hs; simp at hs
    | cons a l => rfl
  rcases h with ⟨_, h1, h2⟩ | ⟨h0, _⟩
  · exact ⟨h1, h2⟩
  · rw [hwb] at h0; cases h0
end Go.Proofs.YtbjgpfhbdmcbbabGreatDoor.keep

/-
  FACTS for the walk of Alike: reads told in another order, some from the other side.
-/
namespace Go.Proofs.YtbjgpfhbdmcbbabGreatDoor.keep
open Go.RowKit Go.Proofs.YtbjgpfhbdmcbbabGreatDoor.dnamath Go.Proofs.YtbjgpfhbdmcbbabGreatDoor.dna Go.Proofs.YtbjgpfhbdmcbbabGreatDoor.diskm Go.Proofs.YtbjgpfhbdmcbbabGreatDoor.disk Go.Proofs.YtbjgpfhbdmcbbabGreatDoor.hex Go.Proofs.YtbjgpfhbdmcbbabGreatDoor.pieces Go.Proofs.YtbjgpfhbdmcbbabGreatDoor.files Go.Proofs.YtbjgpfhbdmcbbabGreatDoor.parse Go.Proofs.YtbjgpfhbdmcbbabGreatDoor.words Go.Proofs.YtbjgpfhbdmcbbabGreatDoor.kinds Go.Proofs.YtbjgpfhbdmcbbabGreatDoor.jobs Go.Proofs.YtbjgpfhbdmcbbabGreatDoor.base Go.Proofs.YtbjgpfhbdmcbbabGreatDoor.fill
set_option linter.unusedVariables false

/-- the last reads, from whichever side -/
structure Oth (ps : List ByteArray) (K m : Nat) (qs : List ByteArray) : Prop where
  len : qs.length + m = ps.length
  each : ∀ p ∈ qs, 0 < p.size ∧ p.size ≤ 60 ∧ greatB p.data.toList
  perm : (wordsOf K (datas qs)).Perm (wordsOf K (datas (ps.drop m)))
theorem oth_start (ps : List ByteArray) (K : Nat) : Oth ps K ps.length [] := ⟨by simp, (fun p hp => by simp at hp), by rw [List.drop_length]⟩
theorem Oth.step {ps : List ByteArray} {K k : Nat} {qs : List ByteArray} {r q : ByteArray} (h : Oth ps K (k + 1) qs) (hK : 1 ≤ K) (hr : ps[k]? = some r) (hg : 0 < r.size ∧ r.size ≤ 60 ∧ greatB r.data.toList) (hq : q.data.toList = r.data.toList ∨ q.data.toList = turnN r.data.toList) : Oth ps K k (qs ++ [q]) := by
  have hql : q.data.toList.length = r.data.toList.length := by rcases hq with e | e <;> rw [e]; exact turnN_len _
  have hqs : q.size = r.size := by rw [Lib.size_eq, Lib.size_eq, hql]
  refine ⟨by have := h.len; rw [List.length_append]; simp; omega, fun p hp => ?_, ?_⟩
  · rcases List.mem_append.1 hp with hp | hp
    · exact h.each p hp
    · rw [List.mem_singleton] at hp
      subst hp
      refine ⟨by omega, by omega, ?_⟩
      rcases hq with e | e <;> rw [e]
      · exact hg.2.2
      · exact turnN_bn hg.2.2
  · have hkl := (List.getElem?_eq_some_iff.1 hr)
    obtain ⟨hk, hke⟩ := hkl
    have e1 : datas (ps.drop k) = [r.data.toList] ++ datas (ps.drop (k + 1)) := by
      rw [List.drop_eq_getElem_cons hk, hke]; simp [datas]
    have e2 : datas (qs ++ [q]) = datas qs ++ [q.data.toList] := by simp [datas]
    rw [e1, e2, words_append, words_append]
    refine ((h.perm.append ?_).trans List.perm_append_comm)
    rcases hq with e | e
    · rw [e]
    · refine words_turn hK _ _ ⟨.inr e, trivial⟩ ?_
      intro l hl
      rw [List.mem_singleton] at hl
      subst hl
      exact hg.2.2
theorem Oth.reads {ps : List ByteArray} {K : Nat} {qs : List ByteArray} (h : Oth ps K 0 qs) (hl : ps.length ≤ 24) : ReadsIs qs := ⟨by have := h.len; omega, h.each⟩

theorem turnN_snoc (l : List UInt8) (c : UInt8) : turnN (l ++ [c]) = (if c == 78 then 78 else comp c) :: turnN l := by simp [turnN]
theorem turnN_take (s : ByteArray) (k : Nat) (h : k < s.size) : turnN (s.data.toList.take (k + 1)) = (if s[k] == 78 then 78 else comp s[k]) :: turnN (s.data.toList.take k) := by
  rw [take_snoc s k h, turnN_snoc]
theorem extract_one (s : ByteArray) (k : Nat) (h : k < s.size) : (s.extract k (k + 1)).data.toList = [s[k]] := by
  rw [Lib.extract_data, show k + 1 - k = 1 by omega]
  have hl : k < s.data.toList.length := by rw [← Lib.size_eq]; exact h
  rw [List.drop_eq_getElem_cons hl]
  rfl
theorem cv_inj {es es' : List Ent} (h : es.map cv = es'.map cv) : es = es' := by
  induction es generalizing es' with
  | nil => cases es' with
    | nil => rfl
    | cons y t => simp at h
  | cons x t ih => cases es' with
    | nil => simp at h
    | cons y t' =>
      simp only [List.map_cons, List.cons.injEq] at h
      rw [ih h.2]
      obtain ⟨s, n⟩ := x
      obtain ⟨s', n'⟩ := y
      have h1 := h.1
      simp only [cv, Prod.mk.injEq] at h1
      rw [kinds.bytes_eq h1.1, h1.2]
theorem tally_same {K : Nat} {rs rs' : List (List UInt8)} {es es' : List Ent} (h : TallyOf (wordsOf K rs) (es.map cv)) (h' : TallyOf (wordsOf K rs') (es'.map cv)) (hp : (wordsOf K rs').Perm (wordsOf K rs)) : es' = es :=
  cv_inj (h'.unique h (fun x => hp.count_eq x))

theorem lives_b (a bb aE : Addr) (w : World) (hG : Gl w a bb aE) :
    Calls Tryz.prog 9 #[] w fun e w' => e = .returned (.bool true) ∧ Below w.heap.size w w' :=
  (lives_yes (Bo := w.heap.size) a bb aE w hG (Nat.le_refl _)).mono fun e w' ⟨h1, h2⟩ => ⟨h1, keep.New.to h2⟩
theorem counted_b (K M Bn : Nat) (input : ByteArray) (rs : List (List UInt8)) (a bb aE : Addr) (w : World) (hG : Gl w a bb aE) (hF : Fit K M Bn input rs) :
    Calls Tryz.prog 8 #[.string input, optV K M Bn] w fun e w' => ∃ v es, e = .returned (.tuple #[v, .bool true]) ∧ ERow w' v es ∧ TallyOf (wordsOf K rs) (es.map cv) ∧ Below w.heap.size w w' :=
  (counted_any (Bo := w.heap.size) K M Bn input rs a bb aE w hG (Nat.le_refl _) hF).mono fun e w' ⟨v, es, h1, h2, h3, h4⟩ => ⟨v, es, h1, ERow.of_own h2, h3, keep.New.to h4⟩
end Go.Proofs.YtbjgpfhbdmcbbabGreatDoor.keep

/-
  FACTS for the walks on disks that die.
-/
namespace Go.Proofs.YtbjgpfhbdmcbbabGreatDoor.keep
open Go.RowKit Go.Proofs.YtbjgpfhbdmcbbabGreatDoor.dnamath Go.Proofs.YtbjgpfhbdmcbbabGreatDoor.dna Go.Proofs.YtbjgpfhbdmcbbabGreatDoor.diskm Go.Proofs.YtbjgpfhbdmcbbabGreatDoor.disk Go.Proofs.YtbjgpfhbdmcbbabGreatDoor.hex Go.Proofs.YtbjgpfhbdmcbbabGreatDoor.pieces Go.Proofs.YtbjgpfhbdmcbbabGreatDoor.files Go.Proofs.YtbjgpfhbdmcbbabGreatDoor.parse Go.Proofs.YtbjgpfhbdmcbbabGreatDoor.words Go.Proofs.YtbjgpfhbdmcbbabGreatDoor.kinds Go.Proofs.YtbjgpfhbdmcbbabGreatDoor.jobs Go.Proofs.YtbjgpfhbdmcbbabGreatDoor.base Go.Proofs.YtbjgpfhbdmcbbabGreatDoor.fill
set_option linter.unusedVariables false

theorem lowRow_new {w w1 w2 : World} {a : Option Addr} {len cap : Nat} {zs : List Int} (h : LowRow w.heap.size w1 a len cap zs) (hs : w.heap.size ≤ w1.heap.size) (hk : New w.heap.size w1 w2) : LowRow w.heap.size w2 a len cap zs := by
  obtain ⟨h, hl⟩ := h
  refine ⟨?_, hl⟩
  rcases h with h | ⟨x, h1, h2, h3, h4, h5, h6⟩
  · exact .inl h
  · refine .inr ⟨x, h1, h2, h3, h4, fun i hi => ?_, h6⟩
    have hc := h5 i hi
    have hb : (x.add i).block = x.block := by unfold Addr.add; split <;> rfl
    have hlt := World.block_lt_of_cell? _ _ hc
    have hlo := hl x h1 (by omega)
    rw [← hc]
    unfold World.cell?
    rw [hk.low _ hlt (by rw [hb]; exact hlo) (by rw [hb]; omega)]

/-- a list of entries of one's own -/
def EOwn (w : World) (v : Value) (es : List Ent) : Prop := ∃ b, w.ownsRow b 58 2 v es.length (ecells es)
theorem EOwn.new {Bo : Nat} {w w' : World} {v : Value} {es : List Ent} (h : EOwn w v es) (hk : New Bo w w') : EOwn w' v es := by
  obtain ⟨b, h⟩ := h
  exact ⟨b, hk.own h not_ours_e⟩
theorem EOwn.row {w : World} {v : Value} {es : List Ent} (h : EOwn w v es) : ERow w v es := by
  obtain ⟨b, h⟩ := h
  exact ERow.of_own h

/-- what is carried along -/
structure Ctx (w wi : World) (a bb aE : Addr) (qo K M Bn : Nat) (a0 : Option Addr) (len cap : Nat) (zs : List Int) : Prop where
  new : New w.heap.size w wi
  gl : Gl wi a bb aE
  gm : Gm wi
  opt : OptAt wi qo K M Bn
  row : LowRow w.heap.size wi a0 len cap zs
theorem Ctx.to {w wi wj : World} {a bb aE : Addr} {qo K M Bn : Nat} {a0 : Option Addr} {len cap : Nat} {zs : List Int} (h : Ctx w wi a bb aE qo K M Bn a0 len cap zs) (hk : New w.heap.size wi wj) : Ctx w wj a bb aE qo K M Bn a0 len cap zs :=
  ⟨keep.New.and h.new hk, h.gl.new hk, h.gm.new hk, h.opt.new hk, lowRow_new h.row h.new.size hk⟩
theorem Ctx.below {w wi wj : World} {a bb aE : Addr} {qo K M Bn : Nat} {a0 : Option Addr} {len cap : Nat} {zs : List Int} (h : Ctx w wi a bb aE qo K M Bn a0 len cap zs) (hk : Below wi.heap.size wi wj) : Ctx w wj a bb aE qo K M Bn a0 len cap zs := h.to ((New.refl wi).below hk)
theorem Ctx.kept {w wi wj : World} {a bb aE : Addr} {qo K M Bn : Nat} {a0 : Option Addr} {len cap : Nat} {zs : List Int} (h : Ctx w wi a bb aE qo K M Bn a0 len cap zs) (hk : Kept w.heap.size wi wj) : Ctx w wj a bb aE qo K M Bn a0 len cap zs := h.to ((New.refl wi).kept hk)
/-- and two lists of entries -/
structure Cty (w wi : World) (a bb aE : Addr) (qo K M Bn : Nat) (a0 : Option Addr) (len cap : Nat) (zs : List Int) (v1 : Value) (e1 : List Ent) (v2 : Value) (e2 : List Ent) : Prop where
  c : Ctx w wi a bb aE qo K M Bn a0 len cap zs
  one : EOwn wi v1 e1
  two : EOwn wi v2 e2
theorem Cty.to {w wi wj : World} {a bb aE : Addr} {qo K M Bn : Nat} {a0 : Option Addr} {len cap : Nat} {zs : List Int} {v1 v2 : Value} {e1 e2 : List Ent} (h : Cty w wi a bb aE qo K M Bn a0 len cap zs v1 e1 v2 e2) (hk : New w.heap.size wi wj) : Cty w wj a bb aE qo K M Bn a0 len cap zs v1 e1 v2 e2 := ⟨h.c.to hk, h.one.new hk, h.two.new hk⟩
theorem Cty.below {w wi wj : World} {a bb aE : Addr} {qo K M Bn : Nat} {a0 : Option Addr} {len cap : Nat} {zs : List Int} {v1 v2 : Value} {e1 e2 : List Ent} (h : Cty w wi a bb aE qo K M Bn a0 len cap zs v1 e1 v2 e2) (hk : Below wi.heap.size wi wj) : Cty w wj a bb aE qo K M Bn a0 len cap zs v1 e1 v2 e2 := h.to ((New.refl wi).below hk)
theorem Cty.kept {w wi wj : World} {a bb aE : Addr} {qo K M Bn : Nat} {a0 : Option Addr} {len cap : Nat} {zs : List Int} {v1 v2 : Value} {e1 e2 : List Ent} (h : Cty w wi a bb aE qo K M Bn a0 len cap zs v1 e1 v2 e2) (hk : Kept w.heap.size wi wj) : Cty w wj a bb aE qo K M Bn a0 len cap zs v1 e1 v2 e2 := h.to ((New.refl wi).kept hk)
theorem Gm.type_kept {w : World} (h : Gm w) : TypeIs w ∧ ∃ cs T fz, w.heap[4]? = some (.cells cs T fz) ∧ T ≠ 63 ∧ T ≠ 82 ∧ T ≠ 84 ∧ T ≠ 79 := by
  refine ⟨h.type.cell, ?_⟩
  obtain ⟨cs, T, fz, h1, h2, h3⟩ := h.type
  exact ⟨cs, T, fz, h1, fun e => h2 (.inl e), fun e => h2 (.inr (.inl e)), fun e => h2 (.inr (.inr (.inl e))), fun e => h2 (.inr (.inr (.inr (.inl e))))⟩

theorem textB_inj {K M Bn : Nat} {s t : ByteArray} (h : textB K M Bn s = textB K M Bn t) : s = t := by
  unfold textB at h
  have h1 := congrArg (fun x : ByteArray => x.data.toList) h
  simp only [ByteArray.data_append, Array.toList_append, List.append_assoc] at h1
  have h2 := List.append_cancel_left (List.append_cancel_left h1)
  exact kinds.bytes_eq (List.append_cancel_right h2)
theorem textB_ends (K M Bn : Nat) (s : ByteArray) : kinds.Ends (textB K M Bn s).data.toList := by
  refine ⟨(optB K M Bn ++ nlB ++ s).data.toList, ?_⟩
  unfold textB
  rw [ByteArray.data_append, Array.toList_append]
  rfl

theorem sure_look (S : DS) (n : ByteArray) : (DS.sure S).look n = S.look n := rfl
theorem sure_good {S : DS} {N : Nat} (h : files.Good S N) : files.Good (DS.sure S) N :=
  ⟨⟨h.fine.wait, h.fine.life⟩, ⟨h.ok.ref, h.ok.nl, h.ok.fl, Nat.zero_le _, h.ok.nl, h.ok.fa, h.ok.w0, h.ok.w1, h.ok.l0, h.ok.l1⟩, h.sorted, h.named, ⟨rfl, h.sane.cur.1, h.sane.cur.2.1, h.sane.cur.2.2, (fun s hx => by cases hx), (fun s hx => by cases hx), h.sane.sync, h.sane.small⟩⟩
theorem sure_room {S : DS} {N : Nat} (h : RoomB S N) : RoomB (DS.sure S) N :=
  ⟨sure_good h.good, h.cap, by have e : (DS.sure S).bytes = S.bytes := bytes_congr rfl rfl; rw [e]; exact h.bytes, h.draft⟩
theorem sure_done {S : DS} {N K : Nat} {rs : List (List UInt8)} {run : ByteArray} {es : List Ent} (h : Done S N K rs run es) : Done (DS.sure S) N K rs run es := ⟨sure_room h.room, h.look, h.tally⟩
theorem die_ok {S : DS} {N n : Nat} (h : S.Ok N) (hn : n ≤ 1000000) : (DS.die S n).Ok N := ⟨h.ref, h.nl, h.fl, h.tl, h.sl, h.fa, h.w0, h.w1, by show -1 ≤ (n : Int); omega, by show (n : Int) ≤ 1000000000; omega⟩
theorem die_sane {S : DS} {n : Nat} (h : Sane S) : Sane (DS.die S n) := ⟨h.now, h.sorted, h.named, h.refS, h.refT, h.kinds, h.sync, h.small⟩
theorem crashed_good {S T : DS} {N : Nat} (h : Crashed S T) (hs : Sane S) (ho : S.Ok N) : files.Good T (N + N) := by
  have h1 := h.sane hs ho
  exact ⟨h.fine, h1.2, h1.1.cur.1, h1.1.cur.2.1, h1.1⟩
/-- nothing is left -/
theorem less_all {S T : DS} {N M : Nat} (h : Less S T N (listOf S)) (hg : files.Good S M) : T.now = [] := by
  have hl : listOf S = S.now.map DName.name := by
    unfold listOf
    rw [if_neg (by rw [hg.fine.life]; decide)]
  cases hn : T.now with
  | nil => rfl
  | cons x l =>
    have hx : x ∈ T.now := by rw [hn]; exact List.mem_cons_self ..
    have h1 := (h.mem x).1 hx
    exact absurd rfl (h1.2 x.name (by rw [hl]; exact List.mem_map.2 ⟨x, h1.1, rfl⟩))
theorem room_empty {S T : DS} {N : Nat} (h : Crashed S T) (hs : Sane S) (ho : S.Ok N) (h0 : S.now = []) (h1 : S.safe = S.now) (h2 : S.steps = []) (hc : S.cap = 1152921504606846976) : RoomB T N ∧ T.now = [] := by
  obtain ⟨n, _, e⟩ := h.dir
  rw [h2, List.take_nil, List.foldl_nil, h1, h0] at e
  have hsa := (h.sane hs ho).1
  have hw := h.fine.wait
  have hlf := h.fine.life
  refine ⟨⟨⟨h.fine, ⟨(fun x hx => by rw [e] at hx; cases hx), by rw [e]; exact Nat.zero_le _, by rw [h.len]; exact ho.fl, by rw [h.steps]; exact Nat.zero_le _, by rw [h.safe, e]; exact Nat.zero_le _, by rw [h.failed]; exact ho.fa, by rw [hw]; decide, by rw [hw]; decide, by rw [hlf]; decide, by rw [hlf]; decide⟩, hsa.cur.1, hsa.cur.2.1, hsa⟩, by rw [h.cap]; exact hc, ?_, ?_⟩, e⟩
  · rw [diskm.bytes_eq, e]; exact Nat.zero_le _
  · rw [e]; rfl
theorem look_empty {T : DS} (h : T.now = []) (n : ByteArray) : T.look n = none := by
  unfold DS.look
  rw [h]
  rfl
end Go.Proofs.YtbjgpfhbdmcbbabGreatDoor.keep
