import Derived.Test.YtbjgpfhbdmcbbabGreatDoorP39
import Derived.Test.YtbjgpfhbdmcbbabGreatDoorP37

/-
  CONTRACTS of quernkeep: lives, sameEntries.
-/
namespace Go.Proofs.YtbjgpfhbdmcbbabGreatDoor.keep
open Go.RowKit dnamath dna diskm disk hex pieces files parse words kinds jobs base fill
set_option linter.unusedVariables false

/-- entries that lie one after another -/
def ERow (w : World) (v : Value) (es : List Ent) : Prop :=
  (v = .slice none 0 0 ∧ es = []) ∨ ∃ g off cap, v = .slice (some ⟨g, off, none⟩) es.length cap ∧ g < w.heap.size ∧ ∀ (j : Nat) (x : Ent), es[j]? = some x → w.cell? ⟨g, off + j * 2, none⟩ = some (.string x.1) ∧ w.cell? ⟨g, off + j * 2 + 1, none⟩ = some (.int .i64 (x.2 : Int))
theorem ERow.of_own {w : World} {base : Nat} {v : Value} {es : List Ent} (h : w.ownsRow base 58 2 v es.length (ecells es)) : ERow w v es := by
  rcases h.2 with ⟨rfl, h0⟩ | ⟨g, cap, cur, rfl, _, hg, _⟩
  · exact .inl ⟨rfl, List.eq_nil_of_length_eq_zero h0⟩
  · refine .inr ⟨g, 0, cap, rfl, lt_of_block hg, fun j x hx => ?_⟩
    have hl := (List.getElem?_eq_some_iff.1 hx).1
    rw [Nat.zero_add]
    refine ⟨?_, ?_⟩
    · rw [h.cellAt (g := g) (j * 2) (by omega)]; exact ecells_at0 _ _ _ hx
    · rw [h.cellAt (g := g) (j * 2 + 1) (by omega)]; exact ecells_at1 _ _ _ hx
theorem ERow.below {w w' : World} {v : Value} {es : List Ent} (h : ERow w v es) (hb : Below w.heap.size w w') : ERow w' v es := by
  rcases h with h | ⟨g, off, cap, rfl, hg, hc⟩
  · exact .inl h
  · exact .inr ⟨g, off, cap, rfl, Nat.lt_of_lt_of_le hg hb.size, fun j x hx => ⟨(hb.cell (by exact hg)).trans (hc j x hx).1, (hb.cell (by exact hg)).trans (hc j x hx).2⟩⟩

set_option maxHeartbeats 1000000 in
set_option maxRecDepth 100000 in
theorem sameEntries_any (va vb : Value) (es : List Ent) (w : World) (ha : ERow w va es) (hb : ERow w vb es) (hl : es.length ≤ 100000) :
    Calls Tryz.prog 15 #[va, vb] w fun e w' => e = .returned (.bool true) ∧ Below w.heap.size w w' := by
  by_cases h0 : es = []
  · subst h0
    rcases ha with ⟨rfl, _⟩ | ⟨g, off, cap, rfl, hg, hc⟩
    all_goals
      rcases hb with ⟨rfl, _⟩ | ⟨g', off', cap', rfl, hg', hc'⟩
      all_goals
        go_enter Tryz.func15, Tryz.ntmps15
        go_wp2
        refine wp_loop_rounds 1 ?_
        rw [rounds_succ]
        go_wp2
        go_ret
        exact ⟨rfl, Below.refl _ _⟩
  · rcases ha with ⟨_, h⟩ | ⟨g, off, cap, rfl, hg, hc⟩
    · exact absurd h h0
    rcases hb with ⟨_, h⟩ | ⟨g', off', cap', rfl, hg', hc'⟩
    · exact absurd h h0
    have HC : Hid (∀ (j : Nat) (x : Ent), es[j]? = some x → w.cell? ⟨g, off + j * 2, none⟩ = some (.string x.1) ∧ w.cell? ⟨g, off + j * 2 + 1, none⟩ = some (.int .i64 (x.2 : Int))) := hc
    have HC' : Hid (∀ (j : Nat) (x : Ent), es[j]? = some x → w.cell? ⟨g', off' + j * 2, none⟩ = some (.string x.1) ∧ w.cell? ⟨g', off' + j * 2 + 1, none⟩ = some (.int .i64 (x.2 : Int))) := hc'
    clear hc hc' h0
    go_enter Tryz.func15, Tryz.ntmps15
    go_wp2
    go_loopw [5] (fun i wr => ∃ k : Nat, k ≤ es.length ∧ i = .int .i64 k ∧ Below w.heap.size w wr) (fun i _ => es.length - (intOf i).toNat)
    case atStart => exact ⟨0, Nat.zero_le _, rfl, Below.refl _ _⟩
    case round =>
      obtain ⟨k, hk, rfl, hbel⟩ := hrel
      by_cases hlt : k < es.length
      · obtain ⟨x, hx⟩ : ∃ x, es[k]? = some x := ⟨_, List.getElem?_eq_getElem hlt⟩
        have c1 : wr.cell? ⟨g, off + k * 2, none⟩ = some (.string x.1) := (hbel.cell (by exact hg)).trans (HC.out k x hx).1
        have c2 : wr.cell? ⟨g, off + k * 2 + 1, none⟩ = some (.int .i64 (x.2 : Int)) := (hbel.cell (by exact hg)).trans (HC.out k x hx).2
        have d1 : wr.cell? ⟨g', off' + k * 2, none⟩ = some (.string x.1) := (hbel.cell (by exact hg')).trans (HC'.out k x hx).1
        have d2 : wr.cell? ⟨g', off' + k * 2 + 1, none⟩ = some (.int .i64 (x.2 : Int)) := (hbel.cell (by exact hg')).trans (HC'.out k x hx).2
        obtain ⟨s, n⟩ := x
        have hI : (k : Int) < (es.length : Int) := by omega
        clear hx
        go_wp2
        go_quiet (fail)
        go_wp2
        go_roundw
        case rel => exact ⟨k + 1, by omega, by go_num, hbel.trans ⟨rfl, rfl, rfl, Nat.le_refl _, fun _ _ => rfl⟩⟩
        case measure => simp [intOf]; omega
      · go_wp2
        go_ret
        exact ⟨rfl, hbel⟩

abbrev liveB : ByteArray := ⟨#[62, 120, 10, 65, 67, 71, 84, 10, 62, 121, 10, 65, 65]⟩
def liveR : List (List UInt8) := [[65, 67, 71, 84], [65, 65]]
theorem live_lines : linesL liveB.data.toList = [[62, 120], [65, 67, 71, 84], [62, 121], [65, 65]] := by decide +kernel
theorem live_form : FormIs liveB liveR := by
  refine .inr ⟨false, by decide, rfl, fun ts h => ?_, by decide⟩
  rw [live_lines] at h
  refine recs_of false liveR [] _ h ?_
  refine ⟨[[62, 121], [65, 65]], ⟨[], rfl, by decide, .inl ⟨rfl, [121], [[65, 65]], rfl, by simp, ?_, rfl⟩⟩, by decide, .inl ⟨rfl, [120], [[65, 67, 71, 84]], rfl, by simp, ?_, rfl⟩⟩
  · intro x hx
    rw [List.mem_singleton] at hx; subst hx
    exact ⟨by simp, by unfold greatB; decide⟩
  · intro x hx
    rw [List.mem_singleton] at hx; subst hx
    exact ⟨by simp, by unfold greatB; decide⟩
theorem live_words : wordsOf 3 liveR = [[65, 67, 71], [65, 67, 71]] := by decide +kernel
theorem live_fit : Fit 3 2 3 liveB liveR := by
  refine ⟨by decide, by decide, by decide, by decide, by decide, by decide, by decide, by decide, by decide, live_form, ?_, by decide, by rw [live_words]; decide⟩
  intro l hl
  unfold liveR at hl
  simp at hl
  rcases hl with rfl | rfl <;> exact ⟨by unfold readB; decide, by decide⟩
theorem live_tally : TallyOf [[65, 67, 71], [65, 67, 71]] [([65, 67, 71], 2)] := by
  refine ⟨by simp, ?_, ?_⟩
  · intro e he
    rw [List.mem_singleton] at he; subst he
    exact ⟨by decide, by decide⟩
  · intro x hx
    refine ⟨_, List.mem_singleton.2 rfl, ?_⟩
    simp at hx
    exact hx.symm
theorem live_es {es : List Ent} (h : TallyOf (wordsOf 3 liveR) (es.map cv)) : es = [(⟨#[65, 67, 71]⟩, 2)] := by
  rw [live_words] at h
  have e := h.unique live_tally (fun x => rfl)
  clear h
  cases es with
  | nil => simp at e
  | cons x t =>
    cases t with
    | nil =>
      obtain ⟨s, n⟩ := x
      simp only [List.map_cons, List.map_nil, List.cons.injEq, and_true, cv, Prod.mk.injEq] at e
      have : s = ⟨#[65, 67, 71]⟩ := by apply ByteArray.ext; apply Array.toList_inj.1; exact e.1
      rw [this, e.2]
    | cons y t => simp at e

set_option maxHeartbeats 1000000 in
set_option maxRecDepth 100000 in
theorem lives_yes {Bo : Nat} (a bb aE : Addr) (w : World) (hG : Gl w a bb aE) (hBo : Bo ≤ w.heap.size) :
    Calls Tryz.prog 9 #[] w fun e w' => e = .returned (.bool true) ∧ New Bo w w' := by
  have cc := counted_any (Bo := Bo) 3 2 3 liveB liveR a bb aE w hG hBo live_fit
  clear hG
  go_enter Tryz.func9, Tryz.ntmps9
  go_wp2_with fail
  refine cc.mono ?_
  rintro e w1 ⟨v, es, rfl, own1, t1, n1⟩
  have he := live_es t1
  subst he
  have HN : Hid (New Bo w w1) := n1
  clear n1 cc t1
  rcases own1.2 with ⟨_, h0⟩ | ⟨g, cap, cur, rfl, _⟩
  · simp at h0
  have c0 : w1.cell? ⟨g, 0, none⟩ = some (.string ⟨#[65, 67, 71]⟩) := own1.cellAt (g := g) 0 (by decide)
  have c1 : w1.cell? ⟨g, 1, none⟩ = some (.int .i64 2) := own1.cellAt (g := g) 1 (by decide)
  clear own1
  go_wp2
  go_ret
  exact ⟨rfl, HN.out⟩
end Go.Proofs.YtbjgpfhbdmcbbabGreatDoor.keep

/-
  FACTS for the walks of Asked, Alike, Added.
-/
namespace Go.Proofs.YtbjgpfhbdmcbbabGreatDoor.keep
open Go.RowKit dnamath dna diskm disk hex pieces files parse words kinds jobs base fill
set_option linter.unusedVariables false

theorem IsRows.later {w w' : World} {a : Option Addr} {len : Nat} (h : IsRows w a len) (hb : Below w.heap.size w w') : IsRows w' a len := by
  refine ⟨h.1, ?_⟩
  rcases h.2 with h0 | ⟨b, off, ha, hc⟩
  · exact .inl h0
  · refine .inr ⟨b, off, ha, fun i hi => ?_⟩
    obtain ⟨ai, li, ci, zs, h1, h2⟩ := hc i hi
    exact ⟨ai, li, ci, zs, (hb.cell (World.block_lt_of_cell? _ _ h1)).trans h1, h2.later hb⟩

theorem ERow.slice {w : World} {v : Value} {es : List Ent} (h : ERow w v es) : ∃ a c, v = .slice a es.length c := by
  rcases h with ⟨rfl, rfl⟩ | ⟨g, off, cap, rfl, _⟩
  · exact ⟨_, _, rfl⟩
  · exact ⟨_, _, rfl⟩

/-- options that lie in memory -/
structure OptAt (w : World) (q K M Bn : Nat) : Prop where
  blk : w.heap[q]? = some (.cells #[.int .i64 (K : Int), .int .i64 (M : Int), .int .i64 (Bn : Int)] 25 (0, 0))
theorem OptAt.new {Bo : Nat} {w w' : World} {q K M Bn : Nat} (h : OptAt w q K M Bn) (hk : New Bo w w') : OptAt w' q K M Bn := by
  refine ⟨(hk.block q (lt_of_block h.blk) (Nat.ne_of_lt (lt_of_block h.blk)) (fun ⟨cs', fz', e⟩ => by rw [h.blk] at e; cases e) (by
    rintro ⟨cs', T', fz', e, hd⟩
    rw [h.blk] at e
    cases e
    rcases hd with h | h | h | h <;> exact absurd h (by decide))).trans h.blk⟩
theorem OptAt.cells {w : World} {q K M Bn : Nat} (h : OptAt w q K M Bn) : w.cell? ⟨q, 0, none⟩ = some (.int .i64 (K : Int)) ∧ w.cell? ⟨q, 1, none⟩ = some (.int .i64 (M : Int)) ∧ w.cell? ⟨q, 2, none⟩ = some (.int .i64 (Bn : Int)) := ⟨st_cell h.blk 0, st_cell h.blk 1, st_cell h.blk 2⟩

theorem New.to {w w' : World} (h : New w.heap.size w w') : Below w.heap.size w w' := ⟨h.os, h.tape, h.output, h.size, fun k hk => h.low k hk hk (Nat.ne_of_lt hk)⟩
theorem New.and {Bo : Nat} {w w1 w2 : World} (h : New Bo w w1) (k : New Bo w1 w2) : New Bo w w2 := h.fk (q := w1.heap.size) k h.size

/-- what holds of an entry of counts -/
structure EntIs (K : Nat) (es : List Ent) (x : Ent) : Prop where
  all : x.1.data.toList.all isB = true
  size : x.1.size = K
  one : 1 ≤ x.2
  few : x.2 ≤ 1440
  canon : canonL x.1.data.toList = x.1.data.toList
  count : ∀ n, countIn es x.1.data.toList n → n = x.2
theorem entries_of {K : Nat} {rs : List (List UInt8)} {es : List Ent} (h : TallyOf (wordsOf K rs) (es.map cv)) (hl : (wordsOf K rs).length ≤ 1440) : es.length ≤ 1440 ∧ ∀ (k : Nat) (x : Ent), es[k]? = some x → EntIs K es x := by
  have hs := tally_small h (words_words _) hl
  refine ⟨hs.len, fun k x hx => ?_⟩
  have hm := List.mem_of_getElem? hx
  obtain ⟨h1, h2, h3, h4⟩ := hs.each x hm
  refine ⟨h1, h2, h3, h4, ?_, ?_⟩
  · have hw := (tally_key h (cv x).1).1 (List.mem_map.2 ⟨cv x, List.mem_map.2 ⟨x, hm, rfl⟩, rfl⟩)
    have hw : x.1.data.toList ∈ wordsOf K rs := hw
    unfold wordsOf at hw
    obtain ⟨y, hy, e⟩ := List.mem_map.1 hw
    have hya : y.all isB = true := by
      obtain ⟨l, _, hy⟩ := List.mem_flatMap.1 hy
      exact (winTo_valid _ y hy).2
    rw [← e, canonL_idem hya]
  · intro n hn
    rcases hn with ⟨i, y, hy, e1, e2⟩ | ⟨_, hno⟩
    · rcases Nat.lt_trichotomy i k with h5 | h5 | h5
      · have := sorted_get h.sorted h5 hy hx
        rw [e1] at this; exact absurd this (List.lt_irrefl _)
      · subst h5; rw [hx] at hy; cases hy; exact e2.symm
      · have := sorted_get h.sorted h5 hx hy
        rw [e1] at this; exact absurd this (List.lt_irrefl _)
    · exact absurd rfl (hno k x hx)
end Go.Proofs.YtbjgpfhbdmcbbabGreatDoor.keep

/-
  FACTS for the walk of Alike: reads told in another order, some from the other side.
-/
namespace Go.Proofs.YtbjgpfhbdmcbbabGreatDoor.keep
open Go.RowKit dnamath dna diskm disk hex pieces files parse words kinds jobs base fill
set_option linter.unusedVariables false

/-- the last reads, from whichever side -/
structure Oth (ps : List ByteArray) (K m : Nat) (qs : List ByteArray) : Prop where
  len : qs.length + m = ps.length
  each : ∀ p ∈ qs, 0 < p.size ∧ p.size ≤ 60 ∧ greatB p.data.toList
  perm : (wordsOf K (datas qs)).Perm (wordsOf K (datas (ps.drop m)))
theorem Oth.step {ps : List ByteArray} {K k : Nat} {qs : List ByteArray} {r q : ByteArray} (h : Oth ps K (k + 1) qs) (hK : 1 ≤ K) (hr : ps[k]? = some r) (hg : 0 < r.size ∧ r.size ≤ 60 ∧ greatB r.data.toList) (hq : q.data.toList = r.data.toList ∨ q.data.toList = turnN r.data.toList) : Oth ps K k (qs ++ [q]) := by
  have hql : q.data.toList.length = r.data.toList.length := by rcases hq with e | e <;> rw [e]; exact turnN_len _
  have hqs : q.size = r.size := by rw [Lib.size_eq, Lib.size_eq, hql]
  refine ⟨by have := h.len; rw [List.length_append]; simp; omega, fun p hp => ?_, ?_⟩
  · rcases List.mem_append.1 hp with hp | hp
    · exact h.each p hp
    · rw [List.mem_singleton] at hp
      subst hp
      refine ⟨by omega, by omega, ?_⟩
      rcases hq with e | e <;> rw [e]
      · exact hg.2.2
      · exact turnN_bn hg.2.2
  · have hkl := (List.getElem?_eq_some_iff.1 hr)
    obtain ⟨hk, hke⟩ := hkl
    have e1 : datas (ps.drop k) = [r.data.toList] ++ datas (ps.drop (k + 1)) := by
      rw [List.drop_eq_getElem_cons hk, hke]; simp [datas]
    have e2 : datas (qs ++ [q]) = datas qs ++ [q.data.toList] := by simp [datas]
    rw [e1, e2, words_append, words_append]
    refine ((h.perm.append ?_).trans List.perm_append_comm)
    rcases hq with e | e
    · rw [e]
    · refine words_turn hK _ _ ⟨.inr e, trivial⟩ ?_
      intro l hl
      rw [List.mem_singleton] at hl
      subst hl
      exact hg.2.2
theorem Oth.reads {ps : List ByteArray} {K : Nat} {qs : List ByteArray} (h : Oth ps K 0 qs) (hl : ps.length ≤ 24) : ReadsIs qs := ⟨by have := h.len; omega, h.each⟩

theorem cv_inj {es es' : List Ent} (h : es.map cv = es'.map cv) : es = es' := by
  induction es generalizing es' with
  | nil => cases es' with
    | nil => rfl
    | cons y t => simp at h
  | cons x t ih => cases es' with
    | nil => simp at h
    | cons y t' =>
      simp only [List.map_cons, List.cons.injEq] at h
      rw [ih h.2]
      obtain ⟨s, n⟩ := x
      obtain ⟨s', n'⟩ := y
      have h1 := h.1
      simp only [cv, Prod.mk.injEq] at h1
      rw [kinds.bytes_eq h1.1, h1.2]
theorem tally_same {K : Nat} {rs rs' : List (List UInt8)} {es es' : List Ent} (h : TallyOf (wordsOf K rs) (es.map cv)) (h' : TallyOf (wordsOf K rs') (es'.map cv)) (hp : (wordsOf K rs').Perm (wordsOf K rs)) : es' = es :=
  cv_inj (h'.unique h (fun x => hp.count_eq x))

end Go.Proofs.YtbjgpfhbdmcbbabGreatDoor.keep

/-
  FACTS for the walks on disks that die.
-/
namespace Go.Proofs.YtbjgpfhbdmcbbabGreatDoor.keep
open Go.RowKit dnamath dna diskm disk hex pieces files parse words kinds jobs base fill
set_option linter.unusedVariables false

theorem lowRow_new {w w1 w2 : World} {a : Option Addr} {len cap : Nat} {zs : List Int} (h : LowRow w.heap.size w1 a len cap zs) (hs : w.heap.size ≤ w1.heap.size) (hk : New w.heap.size w1 w2) : LowRow w.heap.size w2 a len cap zs := by
  obtain ⟨h, hl⟩ := h
  refine ⟨?_, hl⟩
  rcases h with h | ⟨x, h1, h2, h3, h4, h5, h6⟩
  · exact .inl h
  · refine .inr ⟨x, h1, h2, h3, h4, fun i hi => ?_, h6⟩
    have hc := h5 i hi
    have hb : (x.add i).block = x.block := by unfold Addr.add; split <;> rfl
    have hlt := World.block_lt_of_cell? _ _ hc
    have hlo := hl x h1 (by omega)
    rw [← hc]
    unfold World.cell?
    rw [hk.low _ hlt (by rw [hb]; exact hlo) (by rw [hb]; omega)]

/-- a list of entries of one's own -/
def EOwn (w : World) (v : Value) (es : List Ent) : Prop := ∃ b, w.ownsRow b 58 2 v es.length (ecells es)
theorem EOwn.new {Bo : Nat} {w w' : World} {v : Value} {es : List Ent} (h : EOwn w v es) (hk : New Bo w w') : EOwn w' v es := by
  obtain ⟨b, h⟩ := h
  exact ⟨b, hk.own h not_ours_e⟩
theorem EOwn.row {w : World} {v : Value} {es : List Ent} (h : EOwn w v es) : ERow w v es := by
  obtain ⟨b, h⟩ := h
  exact ERow.of_own h

/-- what is carried along -/
structure Ctx (aF : Addr) (w wi : World) (a bb aE : Addr) (qo K M Bn : Nat) (a0 : Option Addr) (len cap : Nat) (zs : List Int) : Prop where
  new : New w.heap.size w wi
  gl : Gl wi a bb aE
  gm : Gm aF wi
  opt : OptAt wi qo K M Bn
  row : LowRow w.heap.size wi a0 len cap zs
theorem Ctx.to {aF : Addr} {w wi wj : World} {a bb aE : Addr} {qo K M Bn : Nat} {a0 : Option Addr} {len cap : Nat} {zs : List Int} (h : Ctx aF w wi a bb aE qo K M Bn a0 len cap zs) (hk : New w.heap.size wi wj) : Ctx aF w wj a bb aE qo K M Bn a0 len cap zs :=
  ⟨keep.New.and h.new hk, h.gl.new hk, h.gm.new hk, h.opt.new hk, lowRow_new h.row h.new.size hk⟩
theorem Ctx.below {aF : Addr} {w wi wj : World} {a bb aE : Addr} {qo K M Bn : Nat} {a0 : Option Addr} {len cap : Nat} {zs : List Int} (h : Ctx aF w wi a bb aE qo K M Bn a0 len cap zs) (hk : Below wi.heap.size wi wj) : Ctx aF w wj a bb aE qo K M Bn a0 len cap zs := h.to ((New.refl wi).below hk)
theorem Ctx.kept {aF : Addr} {w wi wj : World} {a bb aE : Addr} {qo K M Bn : Nat} {a0 : Option Addr} {len cap : Nat} {zs : List Int} (h : Ctx aF w wi a bb aE qo K M Bn a0 len cap zs) (hk : Kept w.heap.size wi wj) : Ctx aF w wj a bb aE qo K M Bn a0 len cap zs := h.to ((New.refl wi).kept hk)
/-- and two lists of entries -/
structure Cty (aF : Addr) (w wi : World) (a bb aE : Addr) (qo K M Bn : Nat) (a0 : Option Addr) (len cap : Nat) (zs : List Int) (v1 : Value) (e1 : List Ent) (v2 : Value) (e2 : List Ent) : Prop where
  c : Ctx aF w wi a bb aE qo K M Bn a0 len cap zs
  one : EOwn wi v1 e1
  two : EOwn wi v2 e2
theorem Cty.to {aF : Addr} {w wi wj : World} {a bb aE : Addr} {qo K M Bn : Nat} {a0 : Option Addr} {len cap : Nat} {zs : List Int} {v1 v2 : Value} {e1 e2 : List Ent} (h : Cty aF w wi a bb aE qo K M Bn a0 len cap zs v1 e1 v2 e2) (hk : New w.heap.size wi wj) : Cty aF w wj a bb aE qo K M Bn a0 len cap zs v1 e1 v2 e2 := ⟨h.c.to hk, h.one.new hk, h.two.new hk⟩
theorem Cty.below {aF : Addr} {w wi wj : World} {a bb aE : Addr} {qo K M Bn : Nat} {a0 : Option Addr} {len cap : Nat} {zs : List Int} {v1 v2 : Value} {e1 e2 : List Ent} (h : Cty aF w wi a bb aE qo K M Bn a0 len cap zs v1 e1 v2 e2) (hk : Below wi.heap.size wi wj) : Cty aF w wj a bb aE qo K M Bn a0 len cap zs v1 e1 v2 e2 := h.to ((New.refl wi).below hk)
theorem Cty.kept {aF : Addr} {w wi wj : World} {a bb aE : Addr} {qo K M Bn : Nat} {a0 : Option Addr} {len cap : Nat} {zs : List Int} {v1 v2 : Value} {e1 e2 : List Ent} (h : Cty aF w wi a bb aE qo K M Bn a0 len cap zs v1 e1 v2 e2) (hk : Kept w.heap.size wi wj) : Cty aF w wj a bb aE qo K M Bn a0 len cap zs v1 e1 v2 e2 := h.to ((New.refl wi).kept hk)
theorem Gm.type_kept {aF : Addr} {w : World} (h : Gm aF w) : TypeIs w ∧ ∃ cs T fz, w.heap[4]? = some (.cells cs T fz) ∧ T ≠ 63 ∧ T ≠ 82 ∧ T ≠ 84 ∧ T ≠ 79 := by
  refine ⟨h.type.cell, ?_⟩
  obtain ⟨cs, T, fz, h1, h2, h3⟩ := h.type
  exact ⟨cs, T, fz, h1, fun e => h2 (.inl e), fun e => h2 (.inr (.inl e)), fun e => h2 (.inr (.inr (.inl e))), fun e => h2 (.inr (.inr (.inr (.inl e))))⟩

theorem textB_inj {K M Bn : Nat} {s t : ByteArray} (h : textB K M Bn s = textB K M Bn t) : s = t := by
  unfold textB at h
  have h1 := congrArg (fun x : ByteArray => x.data.toList) h
  simp only [ByteArray.data_append, Array.toList_append, List.append_assoc] at h1
  have h2 := List.append_cancel_left (List.append_cancel_left h1)
  exact kinds.bytes_eq (List.append_cancel_right h2)
theorem textB_ends (K M Bn : Nat) (s : ByteArray) : kinds.Ends (textB K M Bn s).data.toList := by
  refine ⟨(optB K M Bn ++ nlB ++ s).data.toList, ?_⟩
  unfold textB
  rw [ByteArray.data_append, Array.toList_append]
  rfl

theorem die_ok {S : DS} {N n : Nat} (h : S.Ok N) (hn : n ≤ 1000000) : (DS.die S n).Ok N := ⟨h.ref, h.nl, h.fl, h.tl, h.sl, h.fa, h.w0, h.w1, by show -1 ≤ (n : Int); omega, by show (n : Int) ≤ 1000000000; omega⟩
theorem die_sane {S : DS} {n : Nat} (h : Sane S) : Sane (DS.die S n) := ⟨h.now, h.sorted, h.named, h.refS, h.refT, h.kinds, h.sync, h.small⟩
end Go.Proofs.YtbjgpfhbdmcbbabGreatDoor.keep

/-
  CONTRACTS of package quern on a disk that may die: run, Run.
-/
namespace Go.Proofs.YtbjgpfhbdmcbbabGreatDoor.jobs
open Go.RowKit dnamath dna diskm disk keep hex pieces files parse words kinds
set_option linter.unusedVariables false

def HasK (n : ByteArray) (D : List DName) : Prop := ∃ x ∈ D, key x = n.toList
def OnlyD (D : List DName) : Prop := ∀ x ∈ D, key x = draftB.toList
/-- a disk between runs -/
structure Ready (A : List UInt8 → DFile → Prop) (S : DS) (N : Nat) : Prop where
  live : Live A draftB S N
  safe : S.safe = S.now
  steps : S.steps = []
  plan : HasK planB S.now ∨ OnlyD S.now
/-- the run is begun -/
structure BegunR (A : List UInt8 → DFile → Prop) (S S' : DS) (N : Nat) : Prop where
  live : Live A draftB S' N
  safe : S'.safe = S'.now
  steps : S'.steps = []
  plan : AllDirs S' (HasK planB)
  counts : HasK countsB S.now → AllDirs S' (HasK countsB)
  mort : 0 ≤ S'.life → 0 ≤ S.life
/-- the run is done -/
structure WellR (A : List UInt8 → DFile → Prop) (S S' : DS) (N : Nat) : Prop where
  live : Live A draftB S' N
  plan : AllDirs S' (HasK planB)
  counts : AllDirs S' (HasK countsB)
  mort : 0 ≤ S'.life → 0 ≤ S.life
/-- the run was cut -/
structure CutR (A : List UInt8 → DFile → Prop) (S S' : DS) (N : Nat) : Prop where
  live : Live A draftB S' N
  dirs : AllDirs S' (fun D => HasK planB D ∨ OnlyD D)
  counts : HasK countsB S.now → AllDirs S' (HasK countsB)
  dead : S'.life = 0
  mort : 0 ≤ S'.life → 0 ≤ S.life

theorem plan_ne : planB.toList ≠ [] := by rw [Lib.toList_data]; decide
theorem counts_ne : countsB.toList ≠ [] := by rw [Lib.toList_data]; decide
theorem has_look {A : List UInt8 → DFile → Prop} {S : DS} {N : Nat} {n : ByteArray} (h : Live A draftB S N) (hn : n.toList ≠ draftB.toList) (hk : HasK n S.now) : ∃ f, S.look n = some f ∧ A n.toList f := by
  obtain ⟨x, hx, e⟩ := hk
  rcases h.sound.okay.now h.sound.sane x hx with h1 | ⟨f, h1, h2⟩
  · rw [e] at h1; exact absurd h1 hn
  · exact ⟨f, (look_iff h.sound.sane.cur.1).2 ⟨x, hx, e, h2⟩, by rw [← e]; exact h1⟩
theorem look_has {A : List UInt8 → DFile → Prop} {S : DS} {N : Nat} {n : ByteArray} {f : DFile} (h : Live A draftB S N) (hl : S.look n = some f) : HasK n S.now := by
  obtain ⟨x, hx, e, _⟩ := (look_iff h.sound.sane.cur.1).1 hl
  exact ⟨x, hx, e⟩
theorem only_look {A : List UInt8 → DFile → Prop} {S : DS} {N : Nat} {n : ByteArray} (h : Live A draftB S N) (hn : n.toList ≠ draftB.toList) (hk : OnlyD S.now) : S.look n = none := by
  cases hl : S.look n with
  | none => rfl
  | some f =>
    obtain ⟨x, hx, e⟩ := look_has h hl
    exact absurd (e.symm.trans (hk x hx)) hn
theorem only_has {D : List DName} {n : ByteArray} (hn : n.toList ≠ draftB.toList) (hk : OnlyD D) : ¬ HasK n D := fun ⟨x, hx, e⟩ => hn (e.symm.trans (hk x hx))
theorem only_plan {D : List DName} (h : ∀ x ∈ D, key x = draftB.toList ∨ key x = planB.toList) : HasK planB D ∨ OnlyD D := by
  by_cases h1 : HasK planB D
  · exact .inl h1
  · exact .inr (fun x hx => (h x hx).resolve_right (fun e => h1 ⟨x, hx, e⟩))
theorem BegunR.well {A : List UInt8 → DFile → Prop} {S T U : DS} {N M : Nat} (h : BegunR A S T N) (k : Flow A T U M) (hc : AllDirs U (HasK countsB)) : WellR A S U M :=
  ⟨k.live, k.went.dirs _ (closed_has plan_ne draft_plan plan_RL) h.plan, hc, fun hl => h.mort (k.went.mort hl)⟩
theorem BegunR.cut {A : List UInt8 → DFile → Prop} {S T U : DS} {N M : Nat} (h : BegunR A S T N) (k : Flow A T U M) (hd : U.life = 0) : CutR A S U M :=
  ⟨k.live, (k.went.dirs _ (closed_has plan_ne draft_plan plan_RL) h.plan).mono (fun D h => .inl h), fun hc => k.went.dirs _ (closed_has counts_ne draft_counts counts_RL) (h.counts hc), hd, fun hl => h.mort (k.went.mort hl)⟩
theorem WellR.mono {A : List UInt8 → DFile → Prop} {S T : DS} {N M : Nat} (h : WellR A S T N) (hm : N ≤ M) : WellR A S T M := ⟨h.live.mono hm, h.plan, h.counts, h.mort⟩
theorem CutR.mono {A : List UInt8 → DFile → Prop} {S T : DS} {N M : Nat} (h : CutR A S T N) (hm : N ≤ M) : CutR A S T M := ⟨h.live.mono hm, h.dirs, h.counts, h.dead, h.mort⟩
theorem Ready.dirs {A : List UInt8 → DFile → Prop} {S : DS} {N : Nat} {Q : List DName → Prop} (h : Ready A S N) (hq : Q S.now) : AllDirs S Q := dirs_sync (S := S) h.safe h.steps hq

/-- what runs on disks that die read of variables -/
structure Gx (aF a b : Addr) (w : World) : Prop where
  gm : Gm aF w
  sen : SenF w a b aF
  dead : ∃ x, VarIs w 3 (.iface 254 (.pointer (some x)))
theorem Gx.new {aF a b : Addr} {Bo : Nat} {w w' : World} (h : Gx aF a b w) (hk : New Bo w w') : Gx aF a b w' := by
  obtain ⟨x, hx⟩ := h.dead
  exact ⟨h.gm.new hk, senF_new h.sen hk, x, hx.new hk⟩
theorem Gx.below {aF a b : Addr} {w w' : World} (h : Gx aF a b w) (hk : Below w.heap.size w w') : Gx aF a b w' := h.new ((New.refl (Bo := 0) w).below hk)

theorem begin_m {aF : Addr} {Bo : Nat} (j p K M Bn : Nat) (text run : ByteArray) (rs : List (List UInt8)) (S : DS) (N : Nat) (a bb : Addr) (w : World) (hJ : JobAt Bo w j p K M Bn text run) (hg : Gs w a bb) (hD : Disk Bo w p S) (hR : Ready (Allow K M Bn text run rs) S N) (hal : S.life ≠ 0) (hN : N ≤ 8600) (hfa : FailIs aF w) (ht : text.size ≤ 50000) (hE : kinds.Ends text.data.toList) (hj : 27 ≤ j) :
    Calls Tryz.prog 39 #[.pointer (some ⟨j, 0, none⟩)] w fun e w' => (∃ S2, e = .returned .nilIface ∧ JobAt Bo w' j p K M Bn text run ∧ Disk Bo w' p S2 ∧ BegunR (Allow K M Bn text run rs) S S2 (N + 64) ∧ FK Bo j w w') ∨ (∃ v S2, e = .returned v ∧ DiskErr aF w' v ∧ Disk Bo w' p S2 ∧ CutR (Allow K M Bn text run rs) S S2 (N + 64) ∧ FK Bo j w w') := by
  have hnd : ¬ isDisk w j := by
    obtain ⟨cs, sum, wr, hf, _⟩ := hJ.ex
    exact hf.notDisk
  rcases hR.plan with hp | hp
  · obtain ⟨f, hl, hA⟩ := has_look hR.live draft_plan hp
    rw [allow_plan hA] at hl
    refine (begin_same j p K M Bn text run S N a bb w hJ hg hD hR.live.ok (by omega) (alive hal) hl hE (by omega) hj).mono ?_
    rintro e w' ⟨rfl, h1, h2⟩
    exact .inl ⟨S, rfl, h1, h2.disk hD hnd, ⟨hR.live.mono (by omega), hR.safe, hR.steps, hR.dirs hp, fun hc => hR.dirs hc, id⟩, FK.ofWK h2⟩
  · refine (begin_none_m j p K M Bn text run rs S N a bb w hJ hg hD hR.live (alive hal) hN hfa (only_look hR.live draft_plan hp) (only_look hR.live draft_counts hp) ht hj).mono ?_
    rintro e w' (⟨S2, rfl, h1, h2, h3, h4⟩ | ⟨v, S2, rfl, hv, h2, h3, h4⟩)
    · exact .inl ⟨S2, rfl, h1, h2, ⟨h3.1, h3.2.2.2.1, h3.2.2.2.2, dirs_look h3.1 h3.2.2.2.1 h3.2.2.2.2 h3.2.2.1, fun hc => absurd hc (only_has draft_counts hp), h3.2.1.mort⟩, h4⟩
    · refine .inr ⟨v, S2, rfl, hv, h2, ⟨h3.live, ?_, fun hc => absurd hc (only_has draft_counts hp), h3.dead, h3.went.mort⟩, h4⟩
      exact (h3.went.dirs _ (closed_only (N := fun n => n = draftB.toList ∨ n = planB.toList) (.inl rfl) (fun n hn => .inr hn)) (hR.dirs (fun x hx => .inl (hp x hx)))).mono (fun D h => only_plan h)

set_option maxHeartbeats 4000000 in
set_option maxRecDepth 100000 in
theorem run_m {aF : Addr} {Bo : Nat} (p K M Bn : Nat) (input : ByteArray) (rs : List (List UInt8)) (S : DS) (N : Nat) (a bb aE : Addr) (w : World) (hG : Gl w a bb aE) (hx : Gx aF a bb w) (hD : Disk Bo w p S) (hR : Ready (Allow K M Bn (textB K M Bn input) (runB (textB K M Bn input)) rs) S N) (hN : N ≤ 8100) (hF : Fit K M Bn input rs) :
    Calls Tryz.prog 25 #[.pointer (some ⟨p, 0, none⟩), .string input, optV K M Bn] w fun e w' => ((∃ S', e = .returned .nilIface ∧ Disk Bo w' p S' ∧ WellR (Allow K M Bn (textB K M Bn input) (runB (textB K M Bn input)) rs) S S' (N + 464)) ∨ (∃ v S', e = .returned v ∧ NumErr w' 8 v ∧ Disk Bo w' p S' ∧ CutR (Allow K M Bn (textB K M Bn input) (runB (textB K M Bn input)) rs) S S' (N + 464))) ∧ New Bo w w' := by
  have cm := fun W => mayBe_yes K M Bn W hF.k1 hF.k2 hF.odd hF.m1 hF.m2 hF.m3 hF.b1 hF.b2
  have HF : Hid (Fit K M Bn input rs) := hF
  have cdd : ∀ W, Disk Bo W p S → Calls Tryz.prog 37 #[.pointer (some ⟨p, 0, none⟩)] W fun e w' => e = .returned (.bool S.dead) ∧ w' = W := fun W hW => by
    obtain ⟨vF, vN, vS, vT, h⟩ := hW
    exact Dead_any p S vF vN vS vT W h
  have hts := text_size K M Bn input (by have := hF.k2; omega) (by have := hF.m3; omega) (by have := hF.b2; omega)
  have htx : (textB K M Bn input).size ≤ 50000 := by have := hF.inp; omega
  have cjo : ∀ W, Gs W a bb → Bo ≤ W.heap.size → _ := fun W hW hBW => jobOf_any (Bo := Bo) p K M Bn input a bb W hBW hW (by have := hF.k2; omega) (by have := hF.m3; omega) (by have := hF.b2; omega) (by have := hF.inp; omega)
  have hrz := run_size (textB K M Bn input)
  have hte := textB_ends K M Bn input
  obtain ⟨T, hT⟩ : ∃ T, T = textB K M Bn input := ⟨_, rfl⟩
  obtain ⟨R, hRn⟩ : ∃ R, R = runB T := ⟨_, rfl⟩
  simp only [← hT, ← hRn] at cjo htx hrz hte hR ⊢
  have HTE : Hid (kinds.Ends T.data.toList) := hte
  have HH : Hid (Gl w a bb aE ∧ Gx aF a bb w ∧ Disk Bo w p S ∧ Ready (Allow K M Bn T R rs) S N) := ⟨hG, hx, hD, hR⟩
  clear hT hRn hts hG hx hD hF hR hte
  go_enter Tryz.func25, Tryz.ntmps25
  go_wp2_with fail
  obtain ⟨W1, hW1⟩ : ∃ W1, W1 = w.alloc (.cells #[.int .i64 (K : Int), .int .i64 (M : Int), .int .i64 (Bn : Int)] 25) := ⟨_, rfl⟩
  have hq1 : W1.heap[w.heap.size]? = some (.cells #[.int .i64 (K : Int), .int .i64 (M : Int), .int .i64 (Bn : Int)] 25 (0, 0)) := by rw [hW1]; exact heap_alloc_new _ _
  have B1 : Below w.heap.size w W1 := by rw [hW1]; exact (Below.refl _ w).alloc (Nat.le_refl _) _
  rw [← hW1]
  clear hW1
  refine (cm _).mono ?_
  rintro e w2 ⟨rfl, b2⟩
  have cpa := Parse_any input aE rs w2 HF.out.inp ((HH.out.1.below B1).below b2).ends HF.out.form
  go_wp2_with fail
  refine cpa.mono ?_
  rintro e w3 ⟨v, ps, rfl, own3, hd3, b3⟩
  obtain ⟨aP, cP, hvp⟩ := own_slice own3
  subst hvp
  have B3 : Below W1.heap.size W1 w3 := b2.trans (b3.mono b2.size)
  have BW3 : Below w.heap.size w w3 := B1.trans (B3.mono B1.size)
  have N3 : New Bo w w3 := (New.refl w).below BW3
  have hq3 := (B3.block _ (lt_of_block hq1)).trans hq1
  have x0 : w3.cell? ⟨w.heap.size, 0, none⟩ = some (.int .i64 (K : Int)) := st_cell hq3 0
  have x1 : w3.cell? ⟨w.heap.size, 1, none⟩ = some (.int .i64 (M : Int)) := st_cell hq3 1
  have x2 : w3.cell? ⟨w.heap.size, 2, none⟩ = some (.int .i64 (Bn : Int)) := st_cell hq3 2
  have G3 := HH.out.1.new N3
  have X3 := HH.out.2.1.new N3
  have D3 := HH.out.2.2.1.below BW3
  have cd3 := cdd w3 D3
  have cj3 := cjo w3 G3.gs D3.low
  have H3 : Hid (New Bo w w3 ∧ Gl w3 a bb aE ∧ Gx aF a bb w3 ∧ Disk Bo w3 p S ∧ w3.ownsRow w2.heap.size 9 1 (.slice aP ps.length cP) ps.length (scells ps) ∧ datas ps = rs) := ⟨N3, G3, X3, D3, own3, hd3⟩
  clear cpa own3 hd3 b3 B3 BW3 N3 hq3 hq1 G3 X3 D3 cdd cjo cm b2 B1
  by_cases hdd : S.life = 0
  · have hdd2 : S.dead = true := by unfold DS.dead; rw [hdd]; rfl
    have HDE : Hid (S.life = 0) := hdd
    obtain ⟨aD, hvD⟩ := H3.out.2.2.1.dead
    have hcD := hvD.cell
    rw [hdd2] at cd3
    clear hdd hdd2 hvD cj3
    go_wp2_with fail
    refine cd3.mono ?_
    rintro e w4 ⟨rfl, hw4⟩
    have hw4' := hw4.symm
    subst hw4'
    clear hw4
    go_wp2_with fail
    refine (files.New_any 8 ⟨#[82, 117, 110]⟩ 254 (.pointer (some aD)) _).mono ?_
    rintro e w4 ⟨rfl, hw4⟩
    have HE : Hid (w4.heap[w3.heap.size]? = some (.cells #[.int .i64 8, .string ⟨#[82, 117, 110]⟩, .iface 254 (.pointer (some aD))] 89 (0, 0)) ∧ Disk Bo w4 p S ∧ New Bo w w4) := by
      rw [hw4]
      have b4 : Below w3.heap.size w3 (w3.alloc (.cells #[.int .i64 8, .string ⟨#[82, 117, 110]⟩, .iface 254 (.pointer (some aD))] 89)) := (Below.refl _ w3).alloc (Nat.le_refl _) _
      exact ⟨heap_alloc_new _ _, H3.out.2.2.2.1.below b4, H3.out.1.below b4⟩
    clear hw4 hcD x0 x1 x2
    go_wp2
    go_ret
    exact ⟨.inr ⟨_, S, rfl, ⟨_, _, aD, rfl, HE.out.1⟩, HE.out.2.1, ⟨HH.out.2.2.2.live.mono (by omega), HH.out.2.2.2.dirs HH.out.2.2.2.plan, fun hc => HH.out.2.2.2.dirs hc, HDE.out, id⟩⟩, HE.out.2.2⟩
  · rw [alive hdd] at cd3
    have HAL : Hid (S.life ≠ 0) := hdd
    clear hdd
    go_wp2_with fail
    refine cd3.mono ?_
    rintro e w4 ⟨rfl, hw4⟩
    have hw4' := hw4.symm
    subst hw4'
    clear hw4
    go_wp2_with fail
    refine cj3.mono ?_
    rintro e w5 ⟨j, rfl, hJ5, hj5, b5⟩
    have N5 : New Bo w3 w5 := (New.refl _).below b5
    have cbe := begin_m j p K M Bn T R rs S N a bb w5 hJ5 (H3.out.2.1.gs.below b5) (H3.out.2.2.2.1.below b5) HH.out.2.2.2 HAL.out (by omega) (H3.out.2.2.1.new N5).gm.fail htx HTE.out (Nat.le_trans H3.out.2.1.many hj5)
    have H5 : Hid (New Bo w3 w5 ∧ w3.heap.size ≤ j) := ⟨N5, hj5⟩
    clear hJ5 hj5 b5 N5 cj3 cd3 x0 x1 x2
    go_wp2_with fail
    refine cbe.mono ?_
    rintro e w6 (⟨S2, rfl, hJ6, d6, v6, k6⟩ | ⟨v, S2, rfl, hv, d6, c6, k6⟩)
    · have N6 : New Bo w3 w6 := H5.out.1.fk k6 H5.out.2
      have G6 := H3.out.2.1.new N6
      have X6 := H3.out.2.2.1.new N6
      have hpl : ps.length = rs.length := by rw [← H3.out.2.2.2.2.2, datas_length]
      have hmay : ∀ r ∈ ps, May r K M ∧ r.size ≤ 100000 := fun r hr => by
        have h1 : r.data.toList ∈ rs := by rw [← H3.out.2.2.2.2.2]; exact List.mem_map.2 ⟨r, hr, rfl⟩
        have h2 := HF.out.reads _ h1
        exact ⟨⟨by have := HF.out.k1; omega, by have := HF.out.k2; omega, by have := HF.out.m1; omega, by have := HF.out.m2; omega, h2.1⟩, by rw [Lib.size_eq]; omega⟩
      have cfi := finish_m j p K M Bn T R (.slice aP ps.length cP) ps S2 (N + 64) a bb w6 hJ6 G6.gs X6.sen X6.gm.fail d6 (by rw [H3.out.2.2.2.2.2]; exact v6.live) (by omega) ⟨v6.safe, v6.steps⟩ (own_lower (N6.own H3.out.2.2.2.2.1 not_ours_s) (Nat.zero_le _)) hmay (by rw [hpl]; exact HF.out.many) (by rw [H3.out.2.2.2.2.2]; exact HF.out.words) HF.out.k1 HF.out.k2 HF.out.m1 HF.out.m2 HF.out.b1 HF.out.b2 hrz G6.many
      rw [H3.out.2.2.2.2.2] at cfi
      have H6 : Hid (New Bo w w6 ∧ BegunR (Allow K M Bn T R rs) S S2 (N + 64)) := ⟨H3.out.1.fk (q := w3.heap.size) N6 H3.out.1.size, v6⟩
      clear hJ6 d6 v6 k6 N6 G6 X6 hmay cbe hpl
      go_wp2_with fail
      refine cfi.mono ?_
      rintro e w7 ⟨⟨S', rfl, d7, f7, c7⟩ | ⟨v, S', rfl, hv, d7, f7, l7⟩, n7⟩
      · have HE : Hid (Disk Bo w7 p S' ∧ WellR (Allow K M Bn T R rs) S S' (N + 64 + 400) ∧ New Bo w w7) := ⟨d7, H6.out.2.well f7 c7, H6.out.1.fk (q := w6.heap.size) n7 H6.out.1.size⟩
        clear d7 f7 c7 n7 cfi
        go_wp2
        go_ret
        exact ⟨.inl ⟨S', rfl, HE.out.1, HE.out.2.1⟩, HE.out.2.2⟩
      · obtain ⟨eb, s, ax, hve, hvb2⟩ := hv
        subst hve
        have HE : Hid (w7.heap[eb]? = some (.cells #[.int .i64 8, .string s, .iface 254 (.pointer (some ax.1))] 89 (0, 0)) ∧ Disk Bo w7 p S' ∧ CutR (Allow K M Bn T R rs) S S' (N + 64 + 400) ∧ New Bo w w7) := ⟨hvb2, d7, H6.out.2.cut f7 l7, H6.out.1.fk (q := w6.heap.size) n7 H6.out.1.size⟩
        clear hvb2 d7 f7 l7 n7 cfi
        go_wp2
        go_ret
        exact ⟨.inr ⟨_, S', rfl, ⟨eb, s, ax.1, rfl, HE.out.1⟩, HE.out.2.1, HE.out.2.2.1⟩, HE.out.2.2.2⟩
    · obtain ⟨eb, s, ax, hve, hvb2⟩ := hv
      subst hve
      have HE : Hid (w6.heap[eb]? = some (.cells #[.int .i64 8, .string s, .iface 254 (.pointer (some ax.1))] 89 (0, 0)) ∧ Disk Bo w6 p S2 ∧ CutR (Allow K M Bn T R rs) S S2 (N + 64) ∧ New Bo w w6) := ⟨hvb2, d6, c6, H3.out.1.fk (q := w3.heap.size) (H5.out.1.fk k6 H5.out.2) H3.out.1.size⟩
      clear hvb2 d6 c6 k6 cbe
      go_wp2
      go_ret
      exact ⟨.inr ⟨_, S2, rfl, ⟨eb, s, ax.1, rfl, HE.out.1⟩, HE.out.2.1, HE.out.2.2.1.mono (by omega)⟩, HE.out.2.2.2⟩

set_option maxHeartbeats 1000000 in
set_option maxRecDepth 100000 in
theorem Run_m {aF : Addr} {Bo : Nat} (p K M Bn : Nat) (input : ByteArray) (rs : List (List UInt8)) (S : DS) (N : Nat) (a bb aE : Addr) (w : World) (hG : Gl w a bb aE) (hx : Gx aF a bb w) (hD : Disk Bo w p S) (hR : Ready (Allow K M Bn (textB K M Bn input) (runB (textB K M Bn input)) rs) S N) (hN : N ≤ 8100) (hF : Fit K M Bn input rs) :
    Calls Tryz.prog 11 #[.pointer (some ⟨p, 0, none⟩), .string input, optV K M Bn] w fun e w' => ∃ (n : Int) (S' : DS), e = .returned (.int .i64 n) ∧ ((n = 0 ∧ WellR (Allow K M Bn (textB K M Bn input) (runB (textB K M Bn input)) rs) S S' (N + 464)) ∨ (n = 8 ∧ CutR (Allow K M Bn (textB K M Bn input) (runB (textB K M Bn input)) rs) S S' (N + 464))) ∧ Disk Bo w' p S' ∧ New Bo w w' := by
  have cr : ∀ W, Below w.heap.size w W → _ := fun W hW => run_m p K M Bn input rs S N a bb aE W (hG.below hW) (hx.below hW) (hD.below hW) hR hN hF
  have B1 : Below w.heap.size w (w.alloc (.cells #[.int .i64 (K : Int), .int .i64 (M : Int), .int .i64 (Bn : Int)] 25)) := (Below.refl _ w).alloc (Nat.le_refl _) _
  have c1 := cr _ B1
  have HB : Hid (Below w.heap.size w (w.alloc (.cells #[.int .i64 (K : Int), .int .i64 (M : Int), .int .i64 (Bn : Int)] 25))) := B1
  have HX : Hid (Gx aF a bb w) := hx
  clear cr hG hx hD hR hF B1
  go_enter Tryz.func11, Tryz.ntmps11
  go_wp2_with fail
  refine c1.mono ?_
  rintro e w2 ⟨⟨S', rfl, d2, f2⟩ | ⟨v, S', rfl, hv, d2, f2⟩, n2⟩
  · have HE : Hid (Disk Bo w2 p S' ∧ WellR (Allow K M Bn (textB K M Bn input) (runB (textB K M Bn input)) rs) S S' (N + 464) ∧ New Bo w w2) := ⟨d2, f2, ((New.refl w).below HB.out).fk n2 HB.out.size⟩
    clear d2 f2 n2 c1
    go_wp2_with (go_at_call 24; go_must (refine (Number_nil _).mono ?_; rintro e w3 ⟨rfl, hw3⟩; have hw3' := hw3.symm; subst hw3'))
    go_ret
    exact ⟨0, S', rfl, .inl ⟨rfl, HE.out.2.1⟩, HE.out.1, HE.out.2.2⟩
  · obtain ⟨eb, s, aO, hve, hvb⟩ := hv
    subst hve
    have n02 : New Bo w w2 := ((New.refl w).below HB.out).fk n2 HB.out.size
    have cn := Number_any eb 8 w2 (HX.out.new n02).gm.type.cell (st_cell hvb 0)
    have HE : Hid (Disk Bo w2 p S' ∧ CutR (Allow K M Bn (textB K M Bn input) (runB (textB K M Bn input)) rs) S S' (N + 464) ∧ New Bo w w2) := ⟨d2, f2, n02⟩
    clear d2 f2 n2 c1 hvb n02
    go_wp2_with fail
    refine cn.mono ?_
    rintro e w3 ⟨rfl, b3⟩
    have HE3 : Hid (Disk Bo w3 p S' ∧ New Bo w w3) := ⟨HE.out.1.below b3, HE.out.2.2.below b3⟩
    clear cn b3
    go_wp2
    go_ret
    exact ⟨8, S', rfl, .inr ⟨rfl, HE.out.2.1⟩, HE3.out.1, HE3.out.2⟩
end Go.Proofs.YtbjgpfhbdmcbbabGreatDoor.jobs
