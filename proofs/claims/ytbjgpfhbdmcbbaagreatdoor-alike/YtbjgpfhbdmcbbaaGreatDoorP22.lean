import Derived.Test.YtbjgpfhbdmcbbaaGreatDoorP21
import Derived.Test.YtbjgpfhbdmcbbaaGreatDoorP17
import Derived.Lib.SliceRun
import Derived.Test.YtbjgpfhbdmcbbaaGreatDoorP20

/-
  CONTRACTS of package quern: merge.
-/
namespace Go.Proofs.YtbjgpfhbdmcbbaaGreatDoor.words
open Go.RowKit Go.Proofs.YtbjgpfhbdmcbbaaGreatDoor.dnamath Go.Proofs.YtbjgpfhbdmcbbaaGreatDoor.dna Go.Proofs.YtbjgpfhbdmcbbaaGreatDoor.diskm Go.Proofs.YtbjgpfhbdmcbbaaGreatDoor.disk Go.Proofs.YtbjgpfhbdmcbbaaGreatDoor.keep Go.Proofs.YtbjgpfhbdmcbbaaGreatDoor.pieces Go.Proofs.YtbjgpfhbdmcbbaaGreatDoor.kinds
set_option linter.unusedVariables false

/-- what is left of a row of entries, from some place on -/
def Rest (w : World) (v : Value) (R : List Ent) : Prop :=
  ∃ (ad : Option Addr) (cap : Nat), v = .slice ad R.length cap ∧ R.length ≤ cap ∧ (R = [] ∨ ∃ g o, ad = some ⟨g, o, none⟩ ∧ g < w.heap.size ∧ ∀ j x, R[j]? = some x → w.cell? ⟨g, o + j * 2, none⟩ = some (.string x.1) ∧ w.cell? ⟨g, o + j * 2 + 1, none⟩ = some (.int .i64 (x.2 : Int)))

theorem rest_of {w : World} {base : Nat} {v : Value} {R : List Ent} (h : w.ownsRow base 43 2 v R.length (ecells R)) : Rest w v R := by
  rcases h.2 with ⟨rfl, h0⟩ | ⟨g, cap, cur, rfl, _, hg, hcap, _⟩
  · have : R = [] := List.eq_nil_of_length_eq_zero h0
    subst this
    exact ⟨none, 0, rfl, Nat.le_refl _, .inl rfl⟩
  · refine ⟨_, cap, rfl, hcap, .inr ⟨g, 0, rfl, lt_of_block hg, fun j x hx => ?_⟩⟩
    have hj : j < R.length := (List.getElem?_eq_some_iff.1 hx).1
    rw [Nat.zero_add]
    refine ⟨?_, ?_⟩
    · rw [h.cellAt (g := g) (j * 2) (by omega)]; exact ecells_at0 _ _ _ hx
    · rw [h.cellAt (g := g) (j * 2 + 1) (by omega)]; exact ecells_at1 _ _ _ hx

theorem elemEn : Tryz.prog.elem 36 = 43 := by kernel_rfl
theorem elemUn : Tryz.prog.underlying 36 = some (.slice (Tryz.prog.elem 36)) := by kernel_rfl
theorem rest_tail {w : World} {v : Value} {x : Ent} {R : List Ent} (h : Rest w v (x :: R)) :
    ∃ u, Rest w u R ∧ ∀ W : World, (Instr.slice 36 v (some (.int .i64 1)) none none).run Tryz.prog W = .ok u W := by
  obtain ⟨j0, hj, hy0, hy1, hy2⟩ := info_parts infoEn
  obtain ⟨ad, cap, rfl, hcap, hR⟩ := h
  rcases hR with hR | ⟨g, o, rfl, hg, hc⟩
  · cases hR
  refine ⟨sliced (some ⟨g, o, none⟩) 1 (R.length + 1) cap 2, ?_, fun W => ?_⟩
  · unfold sliced
    simp only [List.length_cons] at hcap
    by_cases h1 : cap = 1
    · have hR0 : R = [] := List.eq_nil_of_length_eq_zero (by omega)
      subst hR0
      subst h1
      exact ⟨some ⟨g, o, none⟩, 0, by simp, Nat.le_refl _, .inl rfl⟩
    · rw [if_neg h1]
      refine ⟨some ⟨g, o + 2, none⟩, cap - 1, by simp [Addr.add], by omega, .inr ⟨g, o + 2, rfl, hg, fun j y hy => ?_⟩⟩
      have := hc (j + 1) y (by simpa using hy)
      rw [show o + (j + 1) * 2 = o + 2 + j * 2 by omega] at this
      exact this
  · have hl := run_slice_l (P := Tryz.prog) W 36 (some ⟨g, o, none⟩) (R.length + 1) cap elemUn .i64 1 (by decide) (by omega)
    rw [List.length_cons, hl, elemEn]
    simp [Go.sizeOf, typeInfo, hj, hy1]

/-- putting together under way -/
structure MS (w : World) (cl : Value) (n : Nat) (wr : World) (av : Value) (all : List Ent) (us : List Value) (Rs : List (List Ent)) (orig : Ents) : Prop where
  own : wr.ownsRow w.heap.size 43 2 av all.length (ecells all)
  row : wr.ownsRow w.heap.size 36 1 cl n us
  len : Rs.length = n
  ulen : us.length = n
  each : ∀ (i : Nat) (u : Value) (R : List Ent), us[i]? = some u → Rs[i]? = some R → Rest w u R
  mg : Merging (all.map cv) (Rs.map (List.map cv)) orig
  below : Below w.heap.size w wr
theorem MS.later {w : World} {cl : Value} {n : Nat} {wr wr' : World} {av : Value} {all : List Ent} {us : List Value} {Rs : List (List Ent)} {orig : Ents} (h : MS w cl n wr av all us Rs orig) (hb : Below wr.heap.size wr wr') : MS w cl n wr' av all us Rs orig :=
  ⟨row_keepB h.own (TK.below hb), own_later h.row hb, h.len, h.ulen, h.each, h.mg, h.below.trans (hb.mono h.below.size)⟩

theorem infoEs : (Tryz.prog.info? 36).map (fun i => (i.zero, i.size, i.bytes)) = some (some (.slice none 0 0), 1, 24) := by kernel_rfl
theorem cell_pairE (w : World) (x : ByteArray) (n : Int) : ∀ j u, [Value.string x, Value.int .i64 n][j]? = some u → (w.alloc (.cells #[Value.string x, Value.int .i64 n] 43)).cell? ((⟨w.heap.size, 0, none⟩ : Addr).add j) = some u := cell_pair w _ _ _

theorem MS.step {w : World} {gc cc n : Nat} {wr w4 : World} {av av4 : Value} {all : List Ent} {us : List Value} {Rs : List (List Ent)} {orig : Ents} (h : MS w (.slice (some ⟨gc, 0, none⟩) n cc) n wr av all us Rs orig) {i : Nat} {u u' : Value} {x : Ent} {R : List Ent} {o : Obj} (hi : i < n)
    (hR : Rs[i]? = some (x :: R)) (hu : us[i]? = some u) (hu' : Rest w u' R) (hmin : ∀ (j : Nat) (y : Ent) (r : List Ent), Rs[j]? = some (y :: r) → x.1.data.toList ≤ y.1.data.toList)
    (own4 : w4.ownsRow w.heap.size 43 2 av4 (all.length + 1) (ecells all ++ [.string x.1, .int .i64 (x.2 : Int)])) (g4 : (wr.alloc o).grownBy w4 av.ownBlock) :
    w4.cell? ⟨gc, i, none⟩ = some u ∧ w4.frozen? ⟨gc, i, none⟩ = false ∧ MS w (.slice (some ⟨gc, 0, none⟩) n cc) n (w4.setCell ⟨gc, i, none⟩ u') av4 (all ++ [x]) (us.set i u') (Rs.set i R) orig := by
  have tk4 : TK 36 wr w4 := (TK.alloc o).trans (TK.grown g4 (own_kind_alloc h.own o) (by decide))
  have hrow4 := row_keepB h.row tk4
  obtain ⟨cs, fz, hgb⟩ := own_kind hrow4 gc rfl
  have hgc := (h.row.lt gc rfl)
  have hsz := h.below.size
  have hgs := g4.size
  refine ⟨?_, ?_, ?_, ?_, ?_, ?_, ?_, ?_, ?_⟩
  · rw [hrow4.cellAt (g := gc) i (by omega)]; exact hu
  · rcases hrow4.2 with ⟨e, _⟩ | ⟨g', cap', cur', e1, _, hg', _⟩
    · cases e
    · cases e1; exact st_frozen hg' i
  · have e : ecells (all ++ [x]) = ecells all ++ [.string x.1, .int .i64 (x.2 : Int)] := by rw [ecells_append]; rfl
    rw [e, List.length_append]
    exact row_keepB own4 (TK.set hgb (by decide))
  · exact (hrow4.stored i u').1
  · rw [List.length_set]; exact h.len
  · rw [List.length_set]; exact h.ulen
  · intro k v T h1 h2
    rcases set_some h1 with ⟨rfl, rfl⟩ | ⟨hne, h1'⟩
    · rcases set_some h2 with ⟨_, rfl⟩ | ⟨hne, _⟩
      · exact hu'
      · exact absurd rfl hne
    · rcases set_some h2 with ⟨e, _⟩ | ⟨_, h2'⟩
      · exact absurd e hne
      · exact h.each k v T h1' h2'
  · rw [List.map_append, List.map_set]
    refine merging_step h.mg (h := cv x) (t := R.map cv) (i := i) (by simp [hR]) ?_
    intro L hL y r e
    rw [List.mem_map] at hL
    obtain ⟨T, hT, rfl⟩ := hL
    obtain ⟨j, hj⟩ := List.getElem?_of_mem hT
    cases T with
    | nil => cases e
    | cons y' r' =>
      simp only [List.map_cons, List.cons.injEq] at e
      obtain ⟨rfl, _⟩ := e
      exact hmin j y' r' hj
  · exact ((h.below.alloc hsz o).grown g4 (by simp; omega) (fun k hk => (h.own.lt k hk).1)).setCell hgc.1 _

/-- slices.Clone of a row of rows -/
theorem Clone_rows (lv : Value) (vs : List Value) (w : World) (hr : w.ownsRow 0 36 1 lv vs.length vs) (hone : ∀ u ∈ vs, u.oneCell' = true) (hn : vs.length ≤ 100000) :
    Calls Tryz.prog 180 #[lv] w fun e w' => ∃ v', e = .returned v' ∧ w'.ownsRow w.heap.size 36 1 v' vs.length vs ∧ Below w.heap.size w w' := by
  obtain ⟨j0, hj, hy0, hy1, hy2⟩ := info_parts infoEs
  have q22 : ∀ (w : World) (a : Option Addr) (n c n' c' : Nat), (binOp .eql 68 (.slice a n c) (.slice none n' c')).run Tryz.prog w = .ok (.bool a.isNone) w := fun w a n c n' c' => Lib.run_eql_slice_nil w _ _ a n c n' c' Tryz.underlying68
  rcases hr.2 with ⟨rfl, h0⟩ | ⟨g, cap, cur, rfl, _, hg, hcap, _⟩
  · have : vs = [] := List.eq_nil_of_length_eq_zero h0
    subst this
    go_enter Tryz.func180, Tryz.ntmps180
    go_wp2
    go_ret
    exact ⟨_, rfl, World.ownsRow_nil _ _ _ _, Below.refl _ _⟩
  · have A : Hid (∀ j u, vs[j]? = some u → w.cell? ⟨g, j, none⟩ = some u) := fun j u hu => by
      rw [hr.cellAt (g := g) j (by have := (List.getElem?_eq_some_iff.1 hu).1; omega)]; exact hu
    have hgl := lt_of_block hg
    clear hr hg
    go_enter Tryz.func180, Tryz.ntmps180
    go_wp2_with (at_builtin; go_must (refine wpList_append_own _ rfl _ _ 68 rfl w.heap.size 36 j0 (.slice none 0 0) 1 24 Tryz.underlying68 hj hy0 hy1 hy2 rfl (by decide) _ _ _ rfl (World.ownsRow_made w #[] 0 (Nat.le_refl _) (Nat.zero_le _) (by simp)) ⟨g, 0, none⟩ vs.length cap vs rfl (by simp) (fun j u hu => by rw [Addr.add_lit, Nat.zero_add]; exact Lib.cell?_alloc_some _ (A.out j u hu)) hone (by unfold maxLen; omega) (by omega) (by simp) ?_; intro v' w1 hown hgrow hnil))
    go_ret
    exact ⟨v', rfl, by simpa using hown, ((Below.refl _ w).alloc (Nat.le_refl _) _).grown hgrow (by simp) (fun k hk => Nat.le_of_eq (Option.some.inj hk))⟩

/-- the least of the first k lists' heads -/
def Lst (Rs : List (List Ent)) (k : Nat) (m : Int) : Prop :=
  (m = -1 ∧ ∀ (j : Nat) (L : List Ent), j < k → Rs[j]? = some L → L = []) ∨ (∃ (l : Nat) (x : Ent) (R : List Ent), m = (l : Int) ∧ l < k ∧ Rs[l]? = some (x :: R) ∧ ∀ (j : Nat) (y : Ent) (r : List Ent), j < k → Rs[j]? = some (y :: r) → x.1.data.toList ≤ y.1.data.toList)
theorem Lst.skip {Rs : List (List Ent)} {k : Nat} {m : Int} (h : Lst Rs k m) (hk : Rs[k]? = some []) : Lst Rs (k + 1) m := by
  rcases h with ⟨h1, h2⟩ | ⟨l, x, R, h1, h2, h3, h4⟩
  · refine .inl ⟨h1, fun j L hj hL => ?_⟩
    rcases Nat.lt_succ_iff_lt_or_eq.1 hj with h | rfl
    · exact h2 j L h hL
    · rw [hk] at hL; cases hL; rfl
  · refine .inr ⟨l, x, R, h1, by omega, h3, fun j y r hj hr => ?_⟩
    rcases Nat.lt_succ_iff_lt_or_eq.1 hj with h | rfl
    · exact h4 j y r h hr
    · rw [hk] at hr; cases hr
theorem Lst.first {Rs : List (List Ent)} {k : Nat} (h : Lst Rs k (-1)) {x : Ent} {R : List Ent} (hk : Rs[k]? = some (x :: R)) : Lst Rs (k + 1) (k : Int) := by
  rcases h with ⟨_, h2⟩ | ⟨l, _, _, h1, _⟩
  · refine .inr ⟨k, x, R, rfl, Nat.lt_succ_self _, hk, fun j y r hj hr => ?_⟩
    rcases Nat.lt_succ_iff_lt_or_eq.1 hj with h | rfl
    · cases h2 j _ h hr
    · rw [hk] at hr; cases hr; exact List.le_refl _
  · omega
theorem Lst.less {Rs : List (List Ent)} {k l : Nat} (h : Lst Rs k (l : Int)) {x y : Ent} {R r : List Ent} (hl : Rs[l]? = some (x :: R)) (hk : Rs[k]? = some (y :: r)) (hlt : y.1.data.toList < x.1.data.toList) : Lst Rs (k + 1) (k : Int) := by
  rcases h with ⟨h1, _⟩ | ⟨l', x', R', h1, h2, h3, h4⟩
  · omega
  · have : l' = l := by omega
    subst this
    rw [hl] at h3
    cases h3
    refine .inr ⟨k, y, r, rfl, Nat.lt_succ_self _, hk, fun j z s hj hz => ?_⟩
    rcases Nat.lt_succ_iff_lt_or_eq.1 hj with h | rfl
    · exact List.le_trans (List.le_of_lt hlt) (h4 j z s h hz)
    · rw [hk] at hz; cases hz; exact List.le_refl _
theorem Lst.more {Rs : List (List Ent)} {k l : Nat} (h : Lst Rs k (l : Int)) {x y : Ent} {R r : List Ent} (hl : Rs[l]? = some (x :: R)) (hk : Rs[k]? = some (y :: r)) (hlt : ¬ y.1.data.toList < x.1.data.toList) : Lst Rs (k + 1) (l : Int) := by
  rcases h with ⟨h1, _⟩ | ⟨l', x', R', h1, h2, h3, h4⟩
  · omega
  · have : l' = l := by omega
    subst this
    rw [hl] at h3
    cases h3
    refine .inr ⟨l', x, R, rfl, by omega, hl, fun j z s hj hz => ?_⟩
    rcases Nat.lt_succ_iff_lt_or_eq.1 hj with h | rfl
    · exact h4 j z s h hz
    · rw [hk] at hz; cases hz; exact List.not_lt.1 hlt
end Go.Proofs.YtbjgpfhbdmcbbaaGreatDoor.words

/-
  CONTRACTS of package quern: merge: the walk.
-/
namespace Go.Proofs.YtbjgpfhbdmcbbaaGreatDoor.words
open Go.RowKit Go.Proofs.YtbjgpfhbdmcbbaaGreatDoor.dnamath Go.Proofs.YtbjgpfhbdmcbbaaGreatDoor.dna Go.Proofs.YtbjgpfhbdmcbbaaGreatDoor.diskm Go.Proofs.YtbjgpfhbdmcbbaaGreatDoor.disk Go.Proofs.YtbjgpfhbdmcbbaaGreatDoor.keep Go.Proofs.YtbjgpfhbdmcbbaaGreatDoor.pieces Go.Proofs.YtbjgpfhbdmcbbaaGreatDoor.kinds
set_option linter.unusedVariables false

def lenOf : Value → Nat
  | .slice _ n _ => n
  | _ => 0
theorem ms_len {all : List Ent} {Rs : List (List Ent)} {orig : Ents} (h : Merging (all.map cv) (Rs.map (List.map cv)) orig) : all.length + (Rs.map List.length).sum = orig.length := by
  have := h.perm.length_eq
  rw [List.length_append, List.length_map, List.length_flatten, List.map_map] at this
  rw [← this]
  congr 2
  apply List.map_congr_left
  intro R _
  simp
theorem sum_pos {Rs : List (List Ent)} {l : Nat} {x : Ent} {R : List Ent} (h : Rs[l]? = some (x :: R)) : 1 ≤ (Rs.map List.length).sum := by
  induction Rs generalizing l with
  | nil => simp at h
  | cons L Rs ih =>
    cases l with
    | zero => simp at h; subst h; simp; omega
    | succ l => simp at h; have := ih h; simp; omega

theorem rest_tail2 {w : World} {g o cap : Nat} {x : Ent} {R : List Ent} (hcap : (x :: R).length ≤ cap) (hg : g < w.heap.size) (hc : ∀ (j : Nat) (y : Ent), (x :: R)[j]? = some y → w.cell? ⟨g, o + j * 2, none⟩ = some (.string y.1) ∧ w.cell? ⟨g, o + j * 2 + 1, none⟩ = some (.int .i64 (y.2 : Int))) :
    Rest w (.slice (if cap = 1 then some ⟨g, o, none⟩ else some ⟨g, o + 2, none⟩) R.length (cap - 1)) R := by
  simp only [List.length_cons] at hcap
  refine ⟨_, _, rfl, by omega, ?_⟩
  by_cases h1 : cap = 1
  · exact .inl (List.eq_nil_of_length_eq_zero (by omega))
  · rw [if_neg h1]
    refine .inr ⟨g, o + 2, rfl, hg, fun j y hy => ?_⟩
    have := hc (j + 1) y (by simpa using hy)
    rw [show o + (j + 1) * 2 = o + 2 + j * 2 by omega] at this
    exact this

set_option maxHeartbeats 4000000 in
set_option maxRecDepth 100000 in
theorem merge_any (lv : Value) (vs : List Value) (Ts : List (List Ent)) (w : World) (hr : w.ownsRow 0 36 1 lv vs.length vs) (hlen : Ts.length = vs.length) (heach : ∀ (i : Nat) (v : Value) (T : List Ent), vs[i]? = some v → Ts[i]? = some T → w.ownsRow 0 43 2 v T.length (ecells T))
    (hT : ∀ T ∈ Ts, ((T.map cv).map Prod.fst).Pairwise (· < ·)) (hnd : (((Ts.map (List.map cv)).flatten).map Prod.fst).Nodup) (hn : vs.length ≤ 1000) (hal : ((Ts.map (List.map cv)).flatten).length ≤ 100000) :
    Calls Tryz.prog 143 #[lv] w fun e w' => ∃ v es, e = .returned v ∧ w'.ownsRow w.heap.size 43 2 v es.length (ecells es) ∧ ((es.map cv).map Prod.fst).Pairwise (· < ·) ∧ (es.map cv).Perm (Ts.map (List.map cv)).flatten ∧ Below w.heap.size w w' := by
  obtain ⟨j0, hj, hy0, hy1, hy2⟩ := info_parts infoEn
  have hone : ∀ u ∈ vs, u.oneCell' = true := fun u hu => by
    obtain ⟨i, hi⟩ := List.getElem?_of_mem hu
    have hil := (List.getElem?_eq_some_iff.1 hi).1
    obtain ⟨T, hTi⟩ : ∃ T, Ts[i]? = some T := ⟨_, List.getElem?_eq_getElem (by rw [hlen]; exact hil)⟩
    obtain ⟨a, c, e⟩ := own_slice (heach i u T hi hTi)
    rw [e]; rfl
  have cc := Clone_rows lv vs w hr hone (by omega)
  obtain ⟨orig, ho⟩ : ∃ orig, orig = (Ts.map (List.map cv)).flatten := ⟨_, rfl⟩
  rw [← ho] at hal ⊢
  have HM0 : Hid (Merging [] (Ts.map (List.map cv)) orig) := by
    show Merging _ _ _
    rw [ho]
    refine merging_start (fun L hL => ?_) hnd
    rw [List.mem_map] at hL
    obtain ⟨T, hT1, rfl⟩ := hL
    exact hT T hT1
  have HE : Hid (∀ (i : Nat) (u : Value) (R : List Ent), vs[i]? = some u → Ts[i]? = some R → Rest w u R) := fun i u R h1 h2 => rest_of (heach i u R h1 h2)
  obtain ⟨al, cl, rfl⟩ := own_slice hr
  have HLN : Hid (Ts.length = vs.length) := hlen
  obtain ⟨n, hnn⟩ : ∃ n, n = vs.length := ⟨_, rfl⟩
  rw [← hnn] at hn cc HLN ⊢
  have HN : Hid (n = vs.length) := hnn
  clear heach hT hnd ho hone hlen hr hnn
  go_enter Tryz.func143, Tryz.ntmps143
  go_wp2_with (go_at_call 180; go_must (refine cc.mono ?_; rintro e w1 ⟨cv1, rfl, own1, b1⟩; obtain ⟨ac, c1, hcv⟩ := own_slice own1; subst hcv))
  have M0 : MS w (.slice ac n c1) n w1 (.slice none 0 0) [] vs Ts orig := ⟨World.ownsRow_nil _ _ _ _, own1, HLN.out, HN.out.symm, HE.out, HM0.out, b1⟩
  have HM1 : Hid (MS w (.slice ac n c1) n w1 (.slice none 0 0) [] vs Ts orig) := M0
  clear own1 b1 cc M0 HM0 HE
  go_loopw [3] (fun av wr => ∃ (all : List Ent) (us : List Value) (Rs : List (List Ent)) (aA : Option Addr) (cA : Nat), av = .slice aA all.length cA ∧ Hid (MS w (.slice ac n c1) n wr av all us Rs orig)) (fun av _ => orig.length - lenOf av)
  case atStart => exact ⟨[], vs, Ts, none, 0, rfl, HM1⟩
  case round =>
    obtain ⟨all, us, Rs, aA, cA, rfl, hM⟩ := hrel
    clear HM1
    rename World => wr
    have hlen := ms_len hM.out.mg
    have hal2 : all.length ≤ 100000 := by omega
    go_wp2_with fail
    go_loopw [4, 11] (fun m i wr2 => ∃ (k : Nat) (z : Int), i = .int .i64 (k : Int) ∧ m = .int .i64 z ∧ k ≤ n ∧ (z = -1 ∨ (0 ≤ z ∧ z < (k : Int))) ∧ Hid (Lst Rs k z) ∧ Hid (Still wr wr2)) (fun _ i _ => n - (intOf i).toNat)
    case atStart => exact ⟨0, -1, rfl, rfl, Nat.zero_le _, .inl rfl, .inl ⟨rfl, fun j L hj => by omega⟩, Still.refl _⟩
    case round =>
      obtain ⟨k, z, rfl, rfl, hk, hz, hL, hS⟩ := hrel
      rename World => wr2
      have M2 := hM.out.later (hS.out.below _)
      by_cases hlt : k < n
      · rcases M2.row.2 with ⟨_, e0⟩ | ⟨gc, cap, cur, e1, _⟩
        · omega
        cases e1
        obtain ⟨u, hu⟩ : ∃ u, us[k]? = some u := ⟨_, List.getElem?_eq_getElem (by rw [M2.ulen]; exact hlt)⟩
        obtain ⟨L, hLk⟩ : ∃ L, Rs[k]? = some L := ⟨_, List.getElem?_eq_getElem (by rw [M2.len]; exact hlt)⟩
        have hcu : wr2.cell? ⟨gc, k, none⟩ = some u := by rw [M2.row.cellAt (g := gc) k (by omega)]; exact hu
        obtain ⟨au, cu, rfl, hcap, hR⟩ := M2.each k u L hu hLk
        cases L with
        | nil =>
          have HS2 : Hid (Lst Rs (k + 1) z) := hL.out.skip hLk
          have HM2 : Hid (Still wr wr2) := hS.out
          clear M2 hR hu hLk hL
          go_upto_region 7 with fail
          go_quiet (fail)
          go_wp2
          go_roundw
          case rel => exact ⟨k + 1, z, by go_num, rfl, by omega, by omega, HS2, HM2.out.trans (Still.drewN _ _)⟩
          case measure => simp [intOf]; omega
        | cons y r =>
          rcases hR with hR | ⟨g, o, rfl, hgl, hcells⟩
          · cases hR
          have hy := (hcells 0 y rfl).1
          rw [Nat.zero_mul, Nat.add_zero, ← M2.below.cell (p := ⟨g, o, none⟩) hgl] at hy
          rcases hz with rfl | ⟨hz0, hz1⟩
          · have HS2 : Hid (Lst Rs (k + 1) (k : Int)) := hL.out.first hLk
            have HM2 : Hid (Still wr wr2) := hS.out
            clear M2 hu hLk hL hcells hS
            go_upto_region 7 with fail
            go_quiet (fail)
            go_wp2
            go_roundw
            case rel => exact ⟨k + 1, (k : Int), by go_num, rfl, by omega, by omega, HS2, HM2.out.trans (Still.drewN _ _)⟩
            case measure => simp [intOf]; omega
          · obtain ⟨l, rfl⟩ : ∃ l : Nat, z = (l : Int) := ⟨z.toNat, by omega⟩
            obtain ⟨x, R, hRl⟩ : ∃ x R, Rs[l]? = some (x :: R) := by
              rcases hL.out with ⟨h1, _⟩ | ⟨l', x, R, h1, _, h3, _⟩
              · omega
              · have : l' = l := by omega
                subst this
                exact ⟨x, R, h3⟩
            obtain ⟨ul, hul⟩ : ∃ u, us[l]? = some u := ⟨_, List.getElem?_eq_getElem (by rw [M2.ulen]; omega)⟩
            have hcl : wr2.cell? ⟨gc, l, none⟩ = some ul := by rw [M2.row.cellAt (g := gc) l (by omega)]; exact hul
            obtain ⟨al2, cl2, rfl, hcap2, hR2⟩ := M2.each l ul _ hul hRl
            rcases hR2 with hR2 | ⟨g2, o2, rfl, hgl2, hcells2⟩
            · cases hR2
            have hx := (hcells2 0 x rfl).1
            rw [Nat.zero_mul, Nat.add_zero, ← M2.below.cell (p := ⟨g2, o2, none⟩) hgl2] at hx
            have HM2 : Hid (Still wr wr2) := hS.out
            have hl1 : l < n := by omega
            by_cases hq : y.1.data.toList < x.1.data.toList
            · have HS2 : Hid (Lst Rs (k + 1) (k : Int)) := hL.out.less hRl hLk hq
              have hb : Op.bytesLess y.1.toList x.1.toList = true := (strLt_iff y.1 x.1).2 (by rw [Lib.toList_data, Lib.toList_data]; exact hq)
              clear M2 hu hLk hL hcells hcells2 hS hq hul hRl
              go_upto_region 7 with fail
              go_quiet (fail)
              go_wp2
              go_roundw
              case rel => exact ⟨k + 1, (k : Int), by go_num, rfl, by omega, by omega, HS2, HM2.out.trans (Still.drewN _ _)⟩
              case measure => simp [intOf]; omega
            · have HS2 : Hid (Lst Rs (k + 1) (l : Int)) := hL.out.more hRl hLk hq
              have hb : Op.bytesLess y.1.toList x.1.toList = false := (strLt_not y.1 x.1).2 (by rw [Lib.toList_data, Lib.toList_data]; exact hq)
              clear M2 hu hLk hL hcells hcells2 hS hq hul hRl
              go_upto_region 7 with fail
              go_quiet (fail)
              go_wp2
              go_roundw
              case rel => exact ⟨k + 1, (l : Int), by go_num, rfl, by omega, by omega, HS2, HM2.out.trans (Still.drewN _ _)⟩
              case measure => simp [intOf]; omega
      · have hke : k = n := by omega
        subst hke
        have HMM : Hid (MS w (.slice ac k c1) k wr2 (.slice aA all.length cA) all us Rs orig) := M2
        clear M2
        rcases hz with rfl | ⟨hz0, hz1⟩
        · have HE2 : Hid (∀ L ∈ Rs, L = []) := fun L hLm => by
            obtain ⟨j, hj2⟩ := List.getElem?_of_mem hLm
            have hjl := (List.getElem?_eq_some_iff.1 hj2).1
            rcases hL.out with ⟨_, h2⟩ | ⟨l', _, _, h1, _⟩
            · exact h2 j L (by rw [← HMM.out.len]; exact hjl) hj2
            · omega
          clear hL hS hM
          go_wp2
          go_ret
          have := merging_end HMM.out.mg (fun L hLm => by
            rw [List.mem_map] at hLm
            obtain ⟨T, hT, rfl⟩ := hLm
            rw [HE2.out T hT]; rfl)
          exact ⟨_, all, rfl, HMM.out.own, this.1, this.2, HMM.out.below⟩
        · obtain ⟨l, rfl⟩ : ∃ l : Nat, z = (l : Int) := ⟨z.toNat, by omega⟩
          obtain ⟨x, R, hRl, hmin⟩ : ∃ x R, Rs[l]? = some (x :: R) ∧ ∀ (j : Nat) (y : Ent) (r : List Ent), Rs[j]? = some (y :: r) → x.1.data.toList ≤ y.1.data.toList := by
            rcases hL.out with ⟨h1, _⟩ | ⟨l', x, R, h1, _, h3, h4⟩
            · omega
            · have : l' = l := by omega
              subst this
              exact ⟨x, R, h3, fun j y r hj => h4 j y r (by rw [← HMM.out.len]; exact (List.getElem?_eq_some_iff.1 hj).1) hj⟩
          have hl1 : l < k := by omega
          rcases HMM.out.row.2 with ⟨_, e0⟩ | ⟨gc, cap, cur, e1, _⟩
          · omega
          cases e1
          obtain ⟨ul, hul⟩ : ∃ u, us[l]? = some u := ⟨_, List.getElem?_eq_getElem (by rw [HMM.out.ulen]; omega)⟩
          have hcl : wr2.cell? ⟨gc, l, none⟩ = some ul := by rw [HMM.out.row.cellAt (g := gc) l (by omega)]; exact hul
          have hrest := HMM.out.each l ul _ hul hRl
          obtain ⟨al2, cl2, rfl, hcap2, hR2⟩ := hrest
          rcases hR2 with hR2 | ⟨g2, o2, rfl, hgl2, hcells2⟩
          · cases hR2
          obtain ⟨u', hue⟩ : ∃ u', u' = Value.slice (if cl2 = 1 then some ⟨g2, o2, none⟩ else some ⟨g2, o2 + 2, none⟩) R.length (cl2 - 1) := ⟨_, rfl⟩
          have hu' : Rest w u' R := by rw [hue]; exact rest_tail2 hcap2 hgl2 hcells2
          have hx := hcells2 0 x rfl
          rw [Nat.zero_mul, Nat.add_zero, ← HMM.out.below.cell (p := ⟨g2, o2, none⟩) hgl2, ← HMM.out.below.cell (p := ⟨g2, o2 + 1, none⟩) hgl2] at hx
          obtain ⟨hx0, hx1⟩ := hx
          have hpos := sum_pos hRl
          have hal3 : all.length + 1 ≤ orig.length := by omega
          have HO : Hid (wr2.ownsRow w.heap.size 43 2 (.slice aA all.length cA) all.length (ecells all)) := HMM.out.own
          have HU : Hid (us[l]? = some (.slice (some ⟨g2, o2, none⟩) (x :: R).length cl2) ∧ Rs[l]? = some (x :: R) ∧ Rest w u' R ∧ ∀ (j : Nat) (y : Ent) (r : List Ent), Rs[j]? = some (y :: r) → x.1.data.toList ≤ y.1.data.toList) := ⟨hul, hRl, hu', hmin⟩
          clear hul hRl hu' hmin hcells2 hL hS hM hpos hlen
          go_wp2_with (at_builtin; go_must (refine wpList_append_own _ rfl (.tmp 42) (.tmp 49) 36 rfl w.heap.size 43 j0 (.agg #[.string ByteArray.empty, .int .i64 0]) 2 24 Tryz.underlying36 hj hy0 hy1 hy2 rfl (by decide) _ _ _ rfl (HO.out.alloc _) _ 1 1 [.string x.1, .int .i64 (x.2 : Int)] rfl rfl (cell_pair _ _ _ _) (one_ent _ _) (by unfold maxLen; omega) (by omega) (by have := HMM.out.below.size; simp; omega) ?_; intro av4 w4 own4 g4 _; obtain ⟨hce, hfr, M4⟩ := HMM.out.step hl1 HU.out.2.1 HU.out.1 HU.out.2.2.1 HU.out.2.2.2 own4 g4; have HM4 : Hid (MS _ _ _ _ _ _ _ _ _) := M4; obtain ⟨a4, c4, hav⟩ := own_slice own4; subst hav; clear M4 own4 g4))
          rw [← hue]
          go_roundw
          case rel => exact ⟨all ++ [x], _, _, a4, c4, by rw [List.length_append]; rfl, HM4⟩
          case measure => simp [lenOf]; omega
end Go.Proofs.YtbjgpfhbdmcbbaaGreatDoor.words

/-
  CONTRACTS of package quern: list.load of a file that is not there, or another one; part.pieces.
-/
namespace Go.Proofs.YtbjgpfhbdmcbbaaGreatDoor.kinds
open Go.RowKit Go.Proofs.YtbjgpfhbdmcbbaaGreatDoor.dnamath Go.Proofs.YtbjgpfhbdmcbbaaGreatDoor.dna Go.Proofs.YtbjgpfhbdmcbbaaGreatDoor.diskm Go.Proofs.YtbjgpfhbdmcbbaaGreatDoor.disk Go.Proofs.YtbjgpfhbdmcbbaaGreatDoor.keep Go.Proofs.YtbjgpfhbdmcbbaaGreatDoor.hex Go.Proofs.YtbjgpfhbdmcbbaaGreatDoor.pieces Go.Proofs.YtbjgpfhbdmcbbaaGreatDoor.files Go.Proofs.YtbjgpfhbdmcbbaaGreatDoor.parse Go.Proofs.YtbjgpfhbdmcbbaaGreatDoor.words
set_option linter.unusedVariables false

/-- a text ends with a line feed -/
def Ends (Z : List UInt8) : Prop := ∃ Z0, Z = Z0 ++ [10]
theorem ends_append {A B : List UInt8} (hA : Ends A) (hB : B = [] ∨ Ends B) : Ends (A ++ B) := by
  rcases hB with rfl | ⟨B0, rfl⟩
  · rw [List.append_nil]; exact hA
  · exact ⟨A ++ B0, by simp⟩
theorem ends_unlines (L : List (List UInt8)) : unlines L = [] ∨ Ends (unlines L) := by
  cases L with
  | nil => exact .inl rfl
  | cons a L => exact .inr ⟨_, unl_join (a :: L) (by simp)⟩
theorem ends_head (kind run : ByteArray) (n : Nat) : Ends (headB kind run n).data.toList := by
  refine ⟨(kind ++ spB ++ run ++ spB ++ itoaB n).data.toList, ?_⟩
  unfold headB
  rw [ByteArray.data_append, Array.toList_append]
  rfl
abbrev wholeF (Z : List UInt8) : DFile := ⟨whole Z, (whole Z).size⟩

theorem Load_whole {Bo : Nat} (b o : Nat) (cs : Array Value) (T : TypeId) (p : Nat) (n h : ByteArray) (sum wr : Nat) (wv : Value) (W : List UInt8) (S : DS) (N : Nat) (a bb : Addr) (Z body : List UInt8) (w : World) (H : FileAt Bo w b o cs T p n h sum wr wv W)
    (hg : Gs w a bb) (hD : Disk Bo w p S) (ho : S.Ok N) (hN : N ≤ 1000000) (hF : S.Fine) (hl : S.look n = some (wholeF Z)) (hZ : Z = h.data.toList ++ body) (hE : Ends Z) (hZl : Z.length ≤ 1000000) (hb0 : 27 ≤ b) :
    Calls Tryz.prog 107 #[.pointer (some ⟨b, o, none⟩)] w fun e w' => ∃ (B : ByteArray) (s' r' : Nat), e = .returned (.tuple #[.string B, .nilIface]) ∧ B.data.toList = body ∧ FileAt Bo w' b o (fset cs o s' r' wv) T p n h s' r' wv W ∧ WK Bo b w w' := by
  obtain ⟨Z0, rfl⟩ := hE
  rw [List.length_append] at hZl
  exact Load_ok b o cs T p n h sum wr wv W S N a bb _ Z0 body w H hg hD ho hN hF hl (by show (whole (Z0 ++ [10])).data.toList = _; unfold whole; simp [sum0]) hZ (by omega) hb0
theorem Load_other {Bo : Nat} (b o : Nat) (cs : Array Value) (T : TypeId) (p : Nat) (n h : ByteArray) (sum wr : Nat) (wv : Value) (W : List UInt8) (S : DS) (N : Nat) (a bb : Addr) (Z : List UInt8) (w : World) (H : FileAt Bo w b o cs T p n h sum wr wv W)
    (hg : Gs w a bb) (hD : Disk Bo w p S) (ho : S.Ok N) (hN : N ≤ 1000000) (hF : S.Fine) (hl : S.look n = some (wholeF Z)) (hpre : Lib.hasPrefix Z h.data.toList = false) (hE : Ends Z) (hZl : Z.length ≤ 1000000) (hb0 : 27 ≤ b) :
    Calls Tryz.prog 107 #[.pointer (some ⟨b, o, none⟩)] w fun e w' => ∃ (v : Value) (s' r' : Nat), e = .returned (.tuple #[.string ⟨#[]⟩, v]) ∧ Gone w' bb v ∧ FileAt Bo w' b o (fset cs o s' r' wv) T p n h s' r' wv W ∧ WK Bo b w w' := by
  obtain ⟨Z0, rfl⟩ := hE
  rw [List.length_append] at hZl
  exact Load_broken b o cs T p n h sum wr wv W S N a bb _ Z0 w H hg hD ho hN hF hl (by show (whole (Z0 ++ [10])).data.toList = _; unfold whole; simp [sum0]) hpre (by omega) hb0

set_option maxHeartbeats 1000000 in
set_option maxRecDepth 100000 in
theorem load_absent {Bo : Nat} (b p : Nat) (S : DS) (N : Nat) (n : ByteArray) (a bb : Addr) (w : World) (hD : Disk Bo w p S) (ho : S.Ok N) (hN : N ≤ 1000000) (hF : S.Fine) (hg : Gs w a bb)
    (h0 : w.cell? ⟨b, 0, none⟩ = some (.pointer (some ⟨p, 0, none⟩))) (h1 : w.cell? ⟨b, 1, none⟩ = some (.string n)) (hl : S.look n = none) :
    Calls Tryz.prog 103 #[.pointer (some ⟨b, 0, none⟩)] w fun e w' => ∃ v, e = .returned v ∧ Gone w' a v ∧ Below w.heap.size w w' := by
  have cl := Load_absent b 0 p S N n n a bb w hD ho hN hF hg h0 (by rw [Nat.zero_add]; exact h1) hl
  clear hD ho hF hg h0 h1 hl
  go_enter Tryz.func103, Tryz.ntmps103
  go_wp2_with (go_at_call 107; go_must (refine cl.mono ?_; rintro e w1 ⟨v, rfl, hG, hb⟩; obtain ⟨eb, m, s, hv, hG⟩ := hG; subst hv))
  go_ret
  exact ⟨_, rfl, ⟨eb, m, s, rfl, hG⟩, hb⟩

set_option maxHeartbeats 1000000 in
set_option maxRecDepth 100000 in
theorem load_other {Bo : Nat} (b : Nat) (cs : Array Value) (T : TypeId) (p : Nat) (n h : ByteArray) (sum wr : Nat) (wv : Value) (W : List UInt8) (S : DS) (N : Nat) (a bb : Addr) (Z : List UInt8) (w : World) (H : FileAt Bo w b 0 cs T p n h sum wr wv W)
    (hg : Gs w a bb) (hD : Disk Bo w p S) (ho : S.Ok N) (hN : N ≤ 1000000) (hF : S.Fine) (hl : S.look n = some (wholeF Z)) (hpre : Lib.hasPrefix Z h.data.toList = false) (hE : Ends Z) (hZl : Z.length ≤ 1000000) (hb0 : 27 ≤ b) :
    Calls Tryz.prog 103 #[.pointer (some ⟨b, 0, none⟩)] w fun e w' => ∃ (v : Value) (s' r' : Nat), e = .returned v ∧ Gone w' bb v ∧ FileAt Bo w' b 0 (fset cs 0 s' r' wv) T p n h s' r' wv W ∧ WK Bo b w w' := by
  have cl := Load_other b 0 cs T p n h sum wr wv W S N a bb Z w H hg hD ho hN hF hl hpre hE hZl hb0
  clear H hD ho hF hg hl hpre hE
  go_enter Tryz.func103, Tryz.ntmps103
  go_wp2_with (go_at_call 107; go_must (refine cl.mono ?_; rintro e w1 ⟨v, s', r', rfl, hG, hf, hk⟩; obtain ⟨eb, m, s, hv, hG⟩ := hG; subst hv))
  go_ret
  exact ⟨_, s', r', rfl, ⟨eb, m, s, rfl, hG⟩, hf, hk⟩

set_option maxHeartbeats 1000000 in
set_option maxRecDepth 100000 in
theorem pieces_absent {Bo : Nat} (b p : Nat) (S : DS) (N : Nat) (n : ByteArray) (a bb : Addr) (w : World) (hD : Disk Bo w p S) (ho : S.Ok N) (hN : N ≤ 1000000) (hF : S.Fine) (hg : Gs w a bb)
    (h0 : w.cell? ⟨b, 0, none⟩ = some (.pointer (some ⟨p, 0, none⟩))) (h1 : w.cell? ⟨b, 1, none⟩ = some (.string n)) (hl : S.look n = none) :
    Calls Tryz.prog 177 #[.pointer (some ⟨b, 0, none⟩)] w fun e w' => ∃ v, e = .returned (.tuple #[.slice none 0 0, v]) ∧ Gone w' a v ∧ Below w.heap.size w w' := by
  have cl := Load_absent b 0 p S N n n a bb w hD ho hN hF hg h0 (by rw [Nat.zero_add]; exact h1) hl
  clear hD ho hF hg h0 h1 hl
  go_enter Tryz.func177, Tryz.ntmps177
  go_wp2_with (go_at_call 107; go_must (refine cl.mono ?_; rintro e w1 ⟨v, rfl, hG, hb⟩; obtain ⟨eb, m, s, hv, hG⟩ := hG; subst hv))
  go_ret2
  exact ⟨_, rfl, ⟨eb, m, s, rfl, hG⟩, hb⟩

set_option maxHeartbeats 1000000 in
set_option maxRecDepth 100000 in
theorem pieces_ok {Bo : Nat} (b : Nat) (cs : Array Value) (T : TypeId) (p : Nat) (n h : ByteArray) (sum wr : Nat) (wv : Value) (W : List UInt8) (S : DS) (N : Nat) (a bb : Addr) (L : List (List UInt8)) (w : World) (H : FileAt Bo w b 0 cs T p n h sum wr wv W)
    (hg : Gs w a bb) (hD : Disk Bo w p S) (ho : S.Ok N) (hN : N ≤ 1000000) (hF : S.Fine) (hl : S.look n = some (wholeF (h.data.toList ++ unlines L))) (hE : Ends h.data.toList) (hZl : (h.data.toList ++ unlines L).length ≤ 1000000) (hb0 : 27 ≤ b) (hL : ∀ x ∈ L, clean x) :
    Calls Tryz.prog 177 #[.pointer (some ⟨b, 0, none⟩)] w fun e w' => ∃ (v : Value) (ts : List ByteArray) (s' r' : Nat), e = .returned (.tuple #[v, .nilIface]) ∧ w'.ownsRow w.heap.size 9 1 v ts.length (scells ts) ∧ datas ts = L ∧ FileAt Bo w' b 0 (fset cs 0 s' r' wv) T p n h s' r' wv W ∧ WK Bo b w w' := by
  have cl := Load_whole b 0 cs T p n h sum wr wv W S N a bb _ (unlines L) w H hg hD ho hN hF hl rfl (ends_append hE (ends_unlines L)) hZl hb0
  have hul : (unlines L).length ≤ 1000000 := by rw [List.length_append] at hZl; omega
  have HLQ : Hid (linesQ (unlines L) = L) := linesQ_unlines hL
  clear H hD ho hF hg hl hE hZl hL
  go_enter Tryz.func177, Tryz.ntmps177
  go_wp2_with (first | (go_at_call 107; go_must (refine cl.mono ?_; rintro e w1 ⟨B, s', r', rfl, hB, hf, hk⟩)) | (go_at_call 154; go_must (refine (linesOf_q B w1 (by rw [Lib.size_eq, hB]; exact hul)).mono ?_; rintro e w2 ⟨v, ts, rfl, own2, hd2, hl2, b2⟩; obtain ⟨aL, cL, hlv⟩ := own_slice own2; subst hlv)))
  go_ret2
  refine ⟨_, ts, s', r', rfl, own_lower own2 hk.size, ?_, hf.kept (.ofBelow b2), hk.trans (WK.ofBelow b2)⟩
  rw [hd2, hB]
  exact HLQ.out
end Go.Proofs.YtbjgpfhbdmcbbaaGreatDoor.kinds
