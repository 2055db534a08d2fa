import Derived.Test.YtbjgpfhbdmcbbaaGreatDoorP37
import Derived.Test.YtbjgpfhbdmcbbaaGreatDoorP25
import Derived.Test.YtbjgpfhbdmcbbaaGreatDoorP11
import Derived.Laws.Concat

/-
  CONTRACTS of package quern: Scan, Count.
-/
namespace Go.Proofs.YtbjgpfhbdmcbbaaGreatDoor.base
open Go.RowKit dnamath dna diskm disk keep hex pieces files parse words kinds jobs
set_option linter.unusedVariables false

theorem ecells_len (l : List Ent) : (ecells l).length = l.length * 2 := by
  induction l with
  | nil => rfl
  | cons x l ih =>
    have e : ecells (x :: l) = ecell x ++ ecells l := by simp [ecells]
    rw [e, List.length_append, ih]
    simp [ecell]; omega
theorem ecells_one (l : List Ent) : ∀ u ∈ ecells l, u.oneCell' = true := by
  intro u hu
  unfold ecells at hu
  rw [List.mem_flatMap] at hu
  obtain ⟨x, _, hu⟩ := hu
  simp [ecell] at hu
  rcases hu with rfl | rfl <;> rfl
theorem ecells_get {l : List Ent} {j : Nat} {u : Value} (h : (ecells l)[j]? = some u) : ∃ x, l[j / 2]? = some x ∧ ((j % 2 = 0 ∧ u = .string x.1) ∨ (j % 2 = 1 ∧ u = .int .i64 (x.2 : Int))) := by
  have hj := (List.getElem?_eq_some_iff.1 h).1
  rw [ecells_len] at hj
  obtain ⟨x, hx⟩ : ∃ x, l[j / 2]? = some x := ⟨_, List.getElem?_eq_getElem (by omega)⟩
  refine ⟨x, hx, ?_⟩
  rcases Nat.mod_two_eq_zero_or_one j with h0 | h0
  · have := ecells_at0 l (j / 2) x hx
    rw [show j / 2 * 2 = j by omega, h] at this
    exact .inl ⟨h0, Option.some.inj this⟩
  · have := ecells_at1 l (j / 2) x hx
    rw [show j / 2 * 2 + 1 = j by omega, h] at this
    exact .inr ⟨h0, Option.some.inj this⟩

set_option maxHeartbeats 2000000 in
set_option maxRecDepth 100000 in
theorem Clone_some (b off c : Nat) (l : List Ent) (w : World) (hn : l.length ≤ 100000) (hc : ∀ (j : Nat) (x : Ent), l[j]? = some x → w.cell? ⟨b, off + j * 2, none⟩ = some (.string x.1) ∧ w.cell? ⟨b, off + j * 2 + 1, none⟩ = some (.int .i64 (x.2 : Int))) :
    Calls Tryz.prog 41 #[.slice (some ⟨b, off, none⟩) l.length c] w fun e w' => ∃ v', e = .returned v' ∧ w'.ownsRow w.heap.size 43 2 v' l.length (ecells l) ∧ Below w.heap.size w w' := by
  obtain ⟨j0, hj, hy0, hy1, hy2⟩ := info_parts infoEn
  have q22 : ∀ (w : World) (a : Option Addr) (n c n' c' : Nat), (binOp .eql 36 (.slice a n c) (.slice none n' c')).run Tryz.prog w = .ok (.bool a.isNone) w := fun w a n c n' c' => Lib.run_eql_slice_nil w _ _ a n c n' c' Tryz.underlying36
  have A : Hid (∀ (j : Nat) (u : Value), (ecells l)[j]? = some u → w.cell? ⟨b, off + j, none⟩ = some u) := fun j u hu => by
    obtain ⟨x, hx, h⟩ := ecells_get hu
    have hc2 := hc _ x hx
    rcases h with ⟨h0, rfl⟩ | ⟨h0, rfl⟩
    · have := hc2.1; rw [show j / 2 * 2 = j by omega] at this; exact this
    · have := hc2.2; rw [show off + j / 2 * 2 + 1 = off + j by omega] at this; exact this
  clear hc
  go_enter Tryz.func41, Tryz.ntmps41
  go_wp2_with (at_builtin; go_must (refine wpList_append_own _ rfl _ _ 36 rfl w.heap.size 43 j0 (.agg #[.string ByteArray.empty, .int .i64 0]) 2 24 Tryz.underlying36 hj hy0 hy1 hy2 rfl (by decide) _ _ _ rfl (World.ownsRow_made w #[] 0 (Nat.le_refl _) (Nat.zero_le _) (by simp)) ⟨b, off, none⟩ l.length c (ecells l) rfl (ecells_len l) (fun j u hu => by rw [Addr.add_lit]; exact Lib.cell?_alloc_some _ (A.out j u hu)) (ecells_one l) (by unfold maxLen; omega) (by omega) (by simp) ?_; intro v' w1 hown hgrow hnil))
  go_ret
  exact ⟨v', rfl, by simpa using hown, ((Below.refl _ w).alloc (Nat.le_refl _) _).grown hgrow (by simp) (fun k hk => Nat.le_of_eq (Option.some.inj hk))⟩

set_option maxHeartbeats 1000000 in
set_option maxRecDepth 100000 in
theorem Clone_nil (w : World) : Calls Tryz.prog 41 #[.slice none 0 0] w fun e w' => e = .returned (.slice none 0 0) ∧ w' = w := by
  have q22 : ∀ (w : World) (a : Option Addr) (n c n' c' : Nat), (binOp .eql 36 (.slice a n c) (.slice none n' c')).run Tryz.prog w = .ok (.bool a.isNone) w := fun w a n c n' c' => Lib.run_eql_slice_nil w _ _ a n c n' c' Tryz.underlying36
  go_enter Tryz.func41, Tryz.ntmps41
  go_wp2
  go_ret
  exact ⟨rfl, rfl⟩

set_option maxHeartbeats 2000000 in
set_option maxRecDepth 100000 in
theorem Scan_any (q K base : Nat) (ev : Value) (es : List Ent) (tot : Nat) (t : ByteArray) (many : Nat) (w : World) (hB : BaseAt w q K base ev es tot) (hm : many ≤ 1000000000) :
    Calls Tryz.prog 23 #[.pointer (some ⟨q, 0, none⟩), .string t, .int .i64 (many : Int)] w fun e w' => ∃ v i f, e = .returned (.tuple #[v, .int .i64 0]) ∧ FoundAt es t.data.toList i f ∧ w'.ownsRow w.heap.size 43 2 v ((es.drop i).take many).length (ecells ((es.drop i).take many)) ∧ Below w.heap.size w w' := by
  have cf := find_any q K base ev es tot t w hB
  have HB : Hid (BaseAt w q K base ev es tot) := hB
  have hfew := hB.few
  rcases hB.row.2 with ⟨rfl, h0⟩ | ⟨g, cap, cur, rfl, _, hg, hcap, hcm, _⟩
  · have he : es = [] := List.eq_nil_of_length_eq_zero h0
    subst he
    clear hB
    go_enter Tryz.func23, Tryz.ntmps23
    go_wp2_with fail
    refine cf.mono ?_
    rintro e w1 ⟨i, f, rfl, hf, b1⟩
    have hi0 : i = 0 := Nat.le_zero.1 hf.le
    subst hi0
    have c1 : w1.cell? ⟨q, 1, none⟩ = some (.slice none 0 0) := st_cell (HB.out.below b1).blk 1
    have HF : Hid (FoundAt [] t.data.toList 0 f) := hf
    have hmin : min (many : Int) 0 = 0 := by omega
    clear hf cf
    go_wp2_with (go_at_call 41; go_must (refine (Clone_nil _).mono ?_; rintro e w2 ⟨rfl, hw2⟩; have hw3 := hw2.symm; subst hw3))
    go_ret2
    exact ⟨_, 0, f, rfl, HF.out, by rw [List.drop_nil, List.take_nil]; exact World.ownsRow_nil _ _ _ _, b1⟩
  · have hgl := lt_of_block hg
    clear hB hg
    go_enter Tryz.func23, Tryz.ntmps23
    go_wp2_with fail
    refine cf.mono ?_
    rintro e w1 ⟨i, f, rfl, hf, b1⟩
    have hile := hf.le
    have c1 : w1.cell? ⟨q, 1, none⟩ = some (.slice (some ⟨g, 0, none⟩) es.length cap) := st_cell (HB.out.below b1).blk 1
    have HF : Hid (FoundAt es t.data.toList i f) := hf
    clear hf cf
    obtain ⟨out, hout⟩ : ∃ out, out = (es.drop i).take many := ⟨_, rfl⟩
    have hol : (min (many : Int) ((es.length - i : Nat) : Int)).toNat = out.length := by rw [hout, List.length_take, List.length_drop]; omega
    have hof : out.length ≤ 100000 := by rw [hout, List.length_take, List.length_drop]; omega
    have hoc : ∀ (j : Nat) (x : Ent), out[j]? = some x → w1.cell? ⟨g, i * 2 + j * 2, none⟩ = some (.string x.1) ∧ w1.cell? ⟨g, i * 2 + j * 2 + 1, none⟩ = some (.int .i64 (x.2 : Int)) := fun j x hx => by
      have hj := (List.getElem?_eq_some_iff.1 hx).1
      have hjm : j < many := by rw [hout, List.length_take] at hj; omega
      rw [hout, List.getElem?_take_of_lt hjm, List.getElem?_drop] at hx
      have hl := (List.getElem?_eq_some_iff.1 hx).1
      have hrow := (HB.out.below b1).row
      rw [show i * 2 + j * 2 = (i + j) * 2 by omega]
      refine ⟨?_, ?_⟩
      · rw [hrow.cellAt (g := g) ((i + j) * 2) (by omega)]; exact ecells_at0 _ _ _ hx
      · rw [hrow.cellAt (g := g) ((i + j) * 2 + 1) (by omega)]; exact ecells_at1 _ _ _ hx
    have HO : Hid (out = (es.drop i).take many) := hout
    have HOL : Hid ((min (many : Int) ((es.length - i : Nat) : Int)).toNat = out.length) := hol
    by_cases hci : cap = i
    · have hnil : out = [] := by rw [hout, List.drop_eq_nil_of_le (by omega), List.take_nil]
      have cc := fun c => Clone_some g 0 c out w1 hof (fun j x hx => by rw [hnil] at hx; simp at hx)
      have HOL0 : Hid ((min (many : Int) 0).toNat = out.length) := by show _ = _; rw [hnil]; show (min (many : Int) 0).toNat = 0; omega
      subst hci
      clear hol hout hoc hnil
      go_wp2_with fail
      rw [HOL0.out]
      refine (cc _).mono ?_
      rintro e w2 ⟨v, rfl, own2, b2⟩
      obtain ⟨aV, cV, hv⟩ := own_slice own2
      subst hv
      go_wp2
      go_ret2
      exact ⟨_, _, f, rfl, HF.out, by rw [← HO.out]; exact own_lower own2 b1.size, b1.trans (b2.mono b1.size)⟩
    · have cc := fun c => Clone_some g (i * 2) c out w1 hof hoc
      clear hol hout hoc
      go_wp2_with fail
      rw [HOL.out]
      refine (cc _).mono ?_
      rintro e w2 ⟨v, rfl, own2, b2⟩
      obtain ⟨aV, cV, hv⟩ := own_slice own2
      subst hv
      go_wp2
      go_ret2
      exact ⟨_, _, f, rfl, HF.out, by rw [← HO.out]; exact own_lower own2 b1.size, b1.trans (b2.mono b1.size)⟩

/-- how often a word stands among entries -/
def countIn (es : List Ent) (c : List UInt8) (n : Nat) : Prop := (∃ (i : Nat) (x : Ent), es[i]? = some x ∧ x.1.data.toList = c ∧ x.2 = n) ∨ (n = 0 ∧ ∀ (k : Nat) (x : Ent), es[k]? = some x → x.1.data.toList ≠ c)

end Go.Proofs.YtbjgpfhbdmcbbaaGreatDoor.base

/-
  CONTRACTS of package quern: Open of counts that are there.
-/
namespace Go.Proofs.YtbjgpfhbdmcbbaaGreatDoor.base
open Go.RowKit dnamath dna diskm disk keep hex pieces files parse words kinds jobs
set_option linter.unusedVariables false

def sumC (es : List Ent) : Nat := (es.map Prod.snd).sum
theorem sumC_take {es : List Ent} {k : Nat} {x : Ent} (h : es[k]? = some x) : sumC (es.take (k + 1)) = sumC (es.take k) + x.2 := by
  unfold sumC
  rw [List.take_add_one, h]
  simp
theorem sumC_le {L : Nat} : ∀ {es : List Ent}, (∀ x ∈ es, x.2 ≤ L) → sumC es ≤ es.length * L
  | [], _ => by simp [sumC]
  | x :: es, h => by
    have ih := sumC_le (es := es) (fun y hy => h y (List.mem_cons_of_mem _ hy))
    have := h x (List.mem_cons_self ..)
    have e : sumC (x :: es) = x.2 + sumC es := by simp [sumC]
    rw [e, List.length_cons, Nat.add_mul, Nat.one_mul]
    omega

/-- only what is new, and rows of bytes, may have changed -/
def Calm (Bo : Nat) (w w' : World) : Prop := WK Bo w.heap.size w w'
theorem Calm.refl {Bo : Nat} (w : World) : Calm Bo w w := WK.refl _ _
theorem Calm.wk {Bo : Nat} {w w1 w2 : World} {q : Nat} (h : Calm Bo w w1) (k : WK Bo q w1 w2) (hq : w.heap.size ≤ q) : Calm Bo w w2 :=
  ⟨k.os.trans h.os, k.tape.trans h.tape, k.output.trans h.output, Nat.le_trans h.size k.size, fun i hi hb hn => by
    have h1 := h.block i hi hb hn
    exact (k.block i (Nat.lt_of_lt_of_le hi h.size) (by omega) (fun ⟨cs, fz, e⟩ => hn ⟨cs, fz, by rw [← h1]; exact e⟩)).trans h1, fun i hi hl hb => (k.low i (Nat.lt_of_lt_of_le hi h.size) hl (by omega)).trans (h.low i hi hl hb)⟩
theorem Calm.below {Bo : Nat} {w w1 w2 : World} (h : Calm Bo w w1) (k : Below w1.heap.size w1 w2) : Calm Bo w w2 := h.wk (q := w.heap.size) (WK.ofBelow k) (Nat.le_refl _)
theorem Calm.new {Bo : Nat} {w w' : World} (h : Calm Bo w w') : New Bo w w' := FK.ofWK h
theorem Calm.disk {Bo : Nat} {w w' : World} {p : Nat} {S : DS} (h : Calm Bo w w') (hD : Disk Bo w p S) : Disk Bo w' p S := WK.disk h hD (fun ⟨cs, T, fz, e, _⟩ => by have := lt_of_block e; omega)

set_option maxHeartbeats 4000000 in
set_option maxRecDepth 100000 in
theorem open_calm {Bo : Nat} (p K : Nat) (S : DS) (N : Nat) (rs : List (List UInt8)) (run : ByteArray) (es : List Ent) (a bb aE : Addr) (w : World) (hG : Gl w a bb aE) (hD : Disk Bo w p S) (hN : N ≤ 1000000) (hF : Done S N K rs run es) (hk1 : 1 ≤ K) (hk2 : K ≤ 31) (hw : (wordsOf K rs).length ≤ 1440) (hrz : run.size ≤ 17) (hrh : ∀ d ∈ run.data.toList, (48 ≤ d.toNat ∧ d.toNat ≤ 57) ∨ (97 ≤ d.toNat ∧ d.toNat ≤ 102)) :
    Calls Tryz.prog 39 #[.pointer (some ⟨p, 0, none⟩)] w fun e w' => ∃ q ev, e = .returned (.tuple #[.pointer (some ⟨q, 0, none⟩), .nilIface]) ∧ BaseAt w' q K w.heap.size ev es (sumC es) ∧ Calm Bo w w' := by
  have hsm := tally_small hF.tally (words_words _) hw
  have htx := text_small hsm.each (by omega)
  have hmul : es.length * (K + 10) ≤ 1440 * 41 := Nat.mul_le_mul hsm.len (by omega)
  have co := openCounts_ok p S N a bb run K es w hD hF.room.good.ok hN hF.room.good.fine hG.gs hF.look hG.many hrh (by omega) (fun x hx => ⟨(hsm.each x hx).1, (hsm.each x hx).2.1, by have := (hsm.each x hx).2.2.2; omega⟩) hk1 (by omega) (by have := hsm.len; omega) (by omega)
  have HSM : Hid (Small K 1440 es) := hsm
  have HSO : Hid (((es.map cv).map Prod.fst).Pairwise (· < ·)) := hF.tally.sorted
  have hel := hsm.len
  clear hsm htx hmul hF hD hG hrh
  go_enter Tryz.func39, Tryz.ntmps39
  go_wp2_with fail
  refine co.mono ?_
  rintro e w1 ⟨q1, cs, ev, rfl, hq1, hb1, h6, h7, own1, k1⟩
  have c6 : w1.cell? ⟨q1, 6, none⟩ = some (.int .i64 (K : Int)) := (st_cell hb1 _).trans h6
  have c7 : w1.cell? ⟨q1, 7, none⟩ = some ev := (st_cell hb1 _).trans h7
  have N1 : Calm Bo w w1 := (Calm.refl w).wk k1 hq1
  have HR : Hid (w1.ownsRow w.heap.size 43 2 ev es.length (ecells es) ∧ Calm Bo w w1) := ⟨own1, N1⟩
  obtain ⟨aE2, cE, hev⟩ := own_slice own1
  subst hev
  clear co own1 N1 hb1 h6 h7 k1
  go_upto_region 6 with fail
  go_region
  all_goals
    obtain ⟨W2, hW2⟩ : ∃ W2, W2 = (w1.alloc (.cells #[.int .i64 (K : Int), .slice aE2 es.length cE, .int .i64 0] 95)).drew := ⟨_, rfl⟩
    obtain ⟨qb, hqb⟩ : ∃ qb, qb = w1.heap.size := ⟨_, rfl⟩
    have B2 : Below w1.heap.size w1 W2 := by rw [hW2]; exact ((Below.refl _ w1).alloc (Nat.le_refl _) _).trans ((⟨rfl, rfl, rfl, rfl, Nat.le_add_right _ _⟩ : Still (w1.alloc (.cells #[.int .i64 (K : Int), .slice aE2 es.length cE, .int .i64 0] 95)) (w1.alloc (.cells #[.int .i64 (K : Int), .slice aE2 es.length cE, .int .i64 0] 95)).drew).below _)
    have q2 : W2.heap[qb]? = some (.cells #[.int .i64 (K : Int), .slice aE2 es.length cE, .int .i64 0] 95 (0, 0)) := by rw [hW2, hqb]; exact heap_alloc_new _ _
    have N2 : Calm Bo w W2 := HR.out.2.below B2
    have hqw : w.heap.size ≤ qb := by rw [hqb]; exact HR.out.2.size
    have own2 : W2.ownsRow w.heap.size 43 2 (.slice aE2 es.length cE) es.length (ecells es) := row_keepB HR.out.1 (TK.below B2)
    have H0 : Hid (BaseAt W2 qb K w.heap.size (.slice aE2 es.length cE) es (sumC (es.take 0)) ∧ Calm Bo w W2) := ⟨⟨q2, own2, HSO.out, by omega⟩, N2⟩
    have c1 : W2.cell? ⟨qb, 1, none⟩ = some (.slice aE2 es.length cE) := st_cell q2 1
    rw [← hW2, ← hqb]
    clear hW2 hqb B2 q2 N2 own2 c6 c7
    go_wp2_with fail
    clear c1
    go_loopw [38] (fun i wr => ∃ k : Nat, i = .int .i64 (k : Int) ∧ k ≤ es.length ∧ Hid (BaseAt wr qb K w.heap.size (.slice aE2 es.length cE) es (sumC (es.take k)) ∧ Calm Bo w wr)) (fun i _ => es.length - (intOf i).toNat)
    case atStart => exact ⟨0, rfl, Nat.zero_le _, H0⟩
    case round =>
      obtain ⟨k, rfl, hk, hH⟩ := hrel
      clear H0
      rename World => wr
      by_cases hlt : k < es.length
      · obtain ⟨x, hx⟩ : ∃ x, es[k]? = some x := ⟨_, List.getElem?_eq_getElem hlt⟩
        have hrow := hH.out.1.row
        rcases hrow.2 with ⟨_, e0⟩ | ⟨g, cap, cur, e1, _⟩
        · omega
        cases e1
        have c0 : wr.cell? ⟨g, k * 2, none⟩ = some (.string x.1) := by rw [hrow.cellAt (g := g) (k * 2) (by omega)]; exact ecells_at0 _ _ _ hx
        have c1 : wr.cell? ⟨g, k * 2 + 1, none⟩ = some (.int .i64 (x.2 : Int)) := by rw [hrow.cellAt (g := g) (k * 2 + 1) (by omega)]; exact ecells_at1 _ _ _ hx
        have hxL := (HSM.out.each x (List.mem_of_getElem? hx)).2.2.2
        have hsl : sumC (es.take k) ≤ 1440 * 1440 := by
          refine Nat.le_trans (sumC_le (L := 1440) (fun y hy => (HSM.out.each y (List.mem_of_mem_take hy)).2.2.2)) (Nat.mul_le_mul_right _ ?_)
          rw [List.length_take]; omega
        have HSU : Hid (sumC (es.take (k + 1)) = sumC (es.take k) + x.2) := sumC_take hx
        obtain ⟨s, hs⟩ : ∃ s, s = sumC (es.take k) := ⟨_, rfl⟩
        rw [← hs] at hH hsl HSU
        clear hs hrow hx
        go_upto_region 10 with fail
        obtain ⟨W5, hW5⟩ : ∃ W5, W5 = wr.alloc (.cells #[.string x.1, .int .i64 (x.2 : Int)] 43) := ⟨_, rfl⟩
        obtain ⟨q5, hq5⟩ : ∃ q5, q5 = wr.heap.size := ⟨_, rfl⟩
        have B5 : Below wr.heap.size wr W5 := by rw [hW5]; exact (Below.refl _ wr).alloc (Nat.le_refl _) _
        have e5 : W5.heap[q5]? = some (.cells #[.string x.1, .int .i64 (x.2 : Int)] 43 (0, 0)) := by rw [hW5, hq5]; exact heap_alloc_new _ _
        have d1 : W5.cell? ⟨q5, 1, none⟩ = some (.int .i64 (x.2 : Int)) := st_cell e5 1
        have b5 := hH.out.1.below B5
        have d2 : W5.cell? ⟨qb, 2, none⟩ = some (.int .i64 (s : Int)) := st_cell b5.blk 2
        have f2 := st_frozen b5.blk 2
        have HB5 : Hid (BaseAt W5 qb K w.heap.size (.slice (some ⟨g, 0, none⟩) es.length cE) es s ∧ Calm Bo w W5) := ⟨b5, hH.out.2.below B5⟩
        rw [← hW5, ← hq5]
        clear hW5 hq5 B5 e5 b5 c0 c1 hH
        go_region
        all_goals
          have HN : Hid (BaseAt (W5.setCell ⟨qb, 2, none⟩ (.int .i64 ((s : Int) + (x.2 : Int)))) qb K w.heap.size (.slice (some ⟨g, 0, none⟩) es.length cE) es (sumC (es.take (k + 1))) ∧ Calm Bo w (W5.setCell ⟨qb, 2, none⟩ (.int .i64 ((s : Int) + (x.2 : Int))))) := by
            refine ⟨⟨?_, row_keepB HB5.out.1.row (TK.set HB5.out.1.blk (by decide)), HB5.out.1.sorted, HB5.out.1.few⟩, HB5.out.2.wk (WK.set _) hqw⟩
            rw [heap_setCell_same W5 qb 2 _ _ _ HB5.out.1.blk, HSU.out]
            simp
          obtain ⟨W6, hW6⟩ : ∃ W6, W6 = W5.setCell ⟨qb, 2, none⟩ (.int .i64 ((s : Int) + (x.2 : Int))) := ⟨_, rfl⟩
          rw [← hW6] at HN ⊢
          have S6 : Below W6.heap.size W6 W6.drew := (⟨rfl, rfl, rfl, rfl, Nat.le_add_right _ _⟩ : Still W6 W6.drew).below _
          have HN2 : Hid (BaseAt W6.drew qb K w.heap.size (.slice (some ⟨g, 0, none⟩) es.length cE) es (sumC (es.take (k + 1))) ∧ Calm Bo w W6.drew) := ⟨HN.out.1.below S6, HN.out.2.below S6⟩
          clear hW6 HN S6 d1 d2 f2 HB5
          go_wp2
          go_roundw
          case rel => exact ⟨k + 1, by go_num, by omega, HN2⟩
          case measure => simp [intOf]; omega
      · have hke : k = es.length := by omega
        subst hke
        have HE : Hid (BaseAt wr qb K w.heap.size (.slice aE2 es.length cE) es (sumC es) ∧ Calm Bo w wr) := by
          have := hH.out
          rw [List.take_length] at this
          exact this
        clear hH
        go_wp2
        go_ret2
        exact ⟨qb, _, rfl, HE.out.1, HE.out.2⟩

set_option maxHeartbeats 1000000 in
set_option maxRecDepth 100000 in
theorem Open_calm {Bo : Nat} (p K : Nat) (S : DS) (N : Nat) (rs : List (List UInt8)) (run : ByteArray) (es : List Ent) (a bb aE : Addr) (w : World) (hG : Gl w a bb aE) (hD : Disk Bo w p S) (hN : N ≤ 1000000) (hF : Done S N K rs run es) (hk1 : 1 ≤ K) (hk2 : K ≤ 31) (hw : (wordsOf K rs).length ≤ 1440) (hrz : run.size ≤ 17) (hrh : ∀ d ∈ run.data.toList, (48 ≤ d.toNat ∧ d.toNat ≤ 57) ∨ (97 ≤ d.toNat ∧ d.toNat ≤ 102)) :
    Calls Tryz.prog 20 #[.pointer (some ⟨p, 0, none⟩)] w fun e w' => ∃ q ev, e = .returned (.tuple #[.pointer (some ⟨q, 0, none⟩), .int .i64 0]) ∧ BaseAt w' q K w.heap.size ev es (sumC es) ∧ Calm Bo w w' := by
  have co := open_calm p K S N rs run es a bb aE w hG hD hN hF hk1 hk2 hw hrz hrh
  clear hG hD hF hw hrz hrh
  go_enter Tryz.func20, Tryz.ntmps20
  go_wp2_with fail
  refine co.mono ?_
  rintro e w1 ⟨q, ev, rfl, hb, hn⟩
  have HH : Hid (BaseAt w1 q K w.heap.size ev es (sumC es) ∧ Calm Bo w w1) := ⟨hb, hn⟩
  clear hb hn co
  go_wp2
  go_ret2
  exact ⟨q, ev, rfl, HH.out.1, HH.out.2⟩
theorem Open_ok {Bo : Nat} (p K : Nat) (S : DS) (N : Nat) (rs : List (List UInt8)) (run : ByteArray) (es : List Ent) (a bb aE : Addr) (w : World) (hG : Gl w a bb aE) (hD : Disk Bo w p S) (hN : N ≤ 1000000) (hF : Done S N K rs run es) (hk1 : 1 ≤ K) (hk2 : K ≤ 31) (hw : (wordsOf K rs).length ≤ 1440) (hrz : run.size ≤ 17) (hrh : ∀ d ∈ run.data.toList, (48 ≤ d.toNat ∧ d.toNat ≤ 57) ∨ (97 ≤ d.toNat ∧ d.toNat ≤ 102)) :
    Calls Tryz.prog 20 #[.pointer (some ⟨p, 0, none⟩)] w fun e w' => ∃ q ev, e = .returned (.tuple #[.pointer (some ⟨q, 0, none⟩), .int .i64 0]) ∧ BaseAt w' q K w.heap.size ev es (sumC es) ∧ New Bo w w' :=
  (Open_calm p K S N rs run es a bb aE w hG hD hN hF hk1 hk2 hw hrz hrh).mono fun e w' ⟨q, ev, h1, h2, h3⟩ => ⟨q, ev, h1, h2, h3.new⟩
end Go.Proofs.YtbjgpfhbdmcbbaaGreatDoor.base

/-
  CONTRACT of quernkeep.written.
-/
namespace Go.Proofs.YtbjgpfhbdmcbbaaGreatDoor.keep
open Go.RowKit dnamath dna pieces fill parse
set_option linter.unusedVariables false

/-- the lines of one record -/
def Rec1 (q : Bool) (R : List (List UInt8)) (r : List UInt8) : Prop := r.length ≤ 1000000 ∧
  ((q = false ∧ ∃ h cs, R = (62 :: h) :: cs ∧ cs ≠ [] ∧ (∀ x ∈ cs, x ≠ [] ∧ greatB x) ∧ cs.flatten = r) ∨
   (q = true ∧ ∃ h g, R = [64 :: h, r, [43], g] ∧ r ≠ [] ∧ greatB r ∧ g.length = r.length ∧ ∀ c ∈ g, 33 ≤ (c.toNat : Int) ∧ (c.toNat : Int) ≤ 126))

theorem rec_snoc {q : Bool} : ∀ {rs L R : List (List UInt8)} {r : List UInt8}, RecLL q L rs → Rec1 q R r → RecLL q (L ++ R) (rs ++ [r])
  | [], L, R, r, hL, hR => by
    have hL : L = [] := hL
    subst hL
    obtain ⟨h1, h2⟩ := hR
    refine ⟨[], rfl, h1, ?_⟩
    rcases h2 with ⟨hq, h, cs, rfl, x⟩ | ⟨hq, h, g, rfl, x⟩
    · exact .inl ⟨hq, h, cs, by simp, x⟩
    · exact .inr ⟨hq, h, g, by simp, x⟩
  | r0 :: rs, L, R, r, hL, hR => by
    obtain ⟨L', h', hl, hx⟩ := hL
    refine ⟨L' ++ R, rec_snoc h' hR, hl, ?_⟩
    rcases hx with ⟨hq, h, cs, rfl, x⟩ | ⟨hq, h, g, rfl, x⟩
    · exact .inl ⟨hq, h, cs, by simp, x⟩
    · exact .inr ⟨hq, h, g, by simp, x⟩

theorem unl_len (L : List (List UInt8)) : (unlines L).length = L.flatten.length + L.length := by
  induction L with
  | nil => rfl
  | cons x t ih =>
    have e : unlines (x :: t) = x ++ [10] ++ unlines t := by simp [unlines]
    rw [e]; simp [ih]; omega
theorem len_flat : ∀ {cs : List (List UInt8)}, (∀ x ∈ cs, x ≠ []) → cs.length ≤ cs.flatten.length
  | [], _ => Nat.le_refl _
  | x :: t, h => by
    have ih := len_flat (cs := t) (fun y hy => h y (by simp [hy]))
    have hx : 0 < x.length := List.length_pos_iff.2 (h x (by simp))
    rw [List.flatten_cons, List.length_append, List.length_cons]; omega

theorem digs (i : Nat) (hi : i < 100) : clean (Lib.decDigits i) ∧ (Lib.decDigits i).length ≤ 2 := by
  have h : ∀ i : Fin 100, ((Lib.decDigits i.val).all (fun c => c != 10) && decide ((Lib.decDigits i.val).length ≤ 2)) = true := by decide +kernel
  have h1 := h ⟨i, hi⟩
  rw [Bool.and_eq_true] at h1
  refine ⟨fun c hc => ?_, of_decide_eq_true h1.2⟩
  have := List.all_eq_true.1 h1.1 c hc
  simpa using this

theorem great_clean {x : List UInt8} (h : greatB x) : clean x := by
  intro c hc e
  subst e
  have := List.all_eq_true.1 h _ hc
  revert this; decide

theorem wide_ok (x : Int) : -9223372036854775808 ≤ wrap64 x ∧ wrap64 x ≤ 9223372036854775807 := bounds_i64 (wrap64_wf x)

theorem conv_one (p : Nat) (hp : p < 94) (w : World) : (convert 82 9 (.slice (some ⟨w.heap.size, 0, none⟩) 1 1)).run Tryz.prog (w.alloc (.cells #[.int .u8 (33 + (p : Int))] 5)) = .ok (.string ⟨#[UInt8.ofNat (33 + p)]⟩) (w.alloc (.cells #[.int .u8 (33 + (p : Int))] 5)) := by
  refine run_convert_bytes_back (P := Tryz.prog) _ 82 9 5 ⟨w.heap.size, 0, none⟩ 1 [UInt8.ofNat (33 + p)] Tryz.underlying82 Tryz.underlying5 Tryz.underlying9 ?_
  intro j hj
  match j, hj with
  | 0, _ =>
    have e : (UInt8.ofNat (33 + p)).toNat = 33 + p := by rw [UInt8.toNat_ofNat']; omega
    simp [Addr.add]
    have : ((UInt8.ofNat (33 + p)).toNat : Int) = 33 + (p : Int) := by rw [e]; push_cast; rfl
    omega

/-- an input as far as it is written -/
def Sofar (q : Bool) (o : ByteArray) (k : Nat) (rs : List (List UInt8)) : Prop :=
  ∃ L, o.data.toList = unlines L ∧ (∀ x ∈ L, clean x) ∧ RecLL q L rs ∧ o.size ≤ 200 * k
/-- a record with > as far as it is written -/
def Part (o : ByteArray) (k : Nat) (rs : List (List UInt8)) (r0 : List UInt8) (p : ByteArray) (r : List UInt8) : Prop :=
  ∃ L h cs, p.data.toList = unlines (L ++ (62 :: h) :: cs) ∧ (∀ x ∈ L, clean x) ∧ RecLL false L rs ∧ (unlines L).length ≤ 200 * k ∧ clean h ∧ h.length ≤ 2 ∧ (∀ x ∈ cs, x ≠ [] ∧ greatB x) ∧ cs.flatten ++ r = r0 ∧ r ≠ [] ∧ greatB r

theorem part_size {o p : ByteArray} {k : Nat} {rs : List (List UInt8)} {r0 r : List UInt8} (h : Part o k rs r0 p r) (h0 : r0.length ≤ 60) (hk : k ≤ 24) : p.size ≤ 200 * k + 130 := by
  obtain ⟨L, h, cs, hp, _, _, hl, _, hh, hcs, hfl, _⟩ := h
  rw [Lib.size_eq, hp, unlines_append, List.length_append]
  have h1 := unl_len ((62 :: h) :: cs)
  have h2 := len_flat (cs := cs) (fun x hx => (hcs x hx).1)
  have h3 : cs.flatten.length + r.length = r0.length := by rw [← hfl, List.length_append]
  rw [List.flatten_cons, List.length_append, List.length_cons, List.length_cons] at h1
  omega

theorem part_start {o : ByteArray} {k : Nat} {rs : List (List UInt8)} {r0 : List UInt8} (h : Sofar false o k rs) (hr : r0 ≠ []) (hg : greatB r0) (hk : k < 100) (p : ByteArray) (hp : p = o ++ ⟨#[62]⟩ ++ ⟨(Lib.decDigits k).toArray⟩ ++ ⟨#[10]⟩) : Part o k rs r0 p r0 := by
  obtain ⟨L, h1, h2, h3, h4⟩ := h
  obtain ⟨d1, d2⟩ := digs k hk
  refine ⟨L, Lib.decDigits k, [], ?_, h2, h3, ?_, d1, d2, fun x hx => by simp at hx, by simp, hr, hg⟩
  · rw [hp, unlines_append]; simp [h1, unlines]
  · rw [← h1, ← Lib.size_eq]; exact h4

theorem part_more {o p : ByteArray} {k : Nat} {rs : List (List UInt8)} {r0 : List UInt8} {r : ByteArray} (h : Part o k rs r0 p r.data.toList) (n : Nat) (hn : n < r.size) (h1 : 1 ≤ n) : Part o k rs r0 (p ++ r.extract 0 n ++ ⟨#[10]⟩) (r.extract n r.size).data.toList := by
  obtain ⟨L, h, cs, hp, hL, hr, hl, hc, hh, hcs, hfl, hne, hg⟩ := h
  have e1 : (r.extract 0 n).data.toList = r.data.toList.take n := by simp [ByteArray.data_extract]
  have e2 : (r.extract n r.size).data.toList = r.data.toList.drop n := by
    rw [Lib.extract_data, Lib.size_eq, List.take_of_length_le (by rw [List.length_drop]; omega)]
  have hlen : n < r.data.toList.length := by rw [← Lib.size_eq]; exact hn
  have hspl := List.take_append_drop n r.data.toList
  have hg1 : greatB (r.data.toList.take n) ∧ greatB (r.data.toList.drop n) := by
    unfold greatB at hg ⊢
    rw [← hspl, List.all_append, Bool.and_eq_true] at hg
    exact hg
  refine ⟨L, h, cs ++ [r.data.toList.take n], ?_, hL, hr, hl, hc, hh, ?_, ?_, ?_, ?_⟩
  · rw [show L ++ (62 :: h) :: (cs ++ [r.data.toList.take n]) = (L ++ (62 :: h) :: cs) ++ [r.data.toList.take n] by simp, unlines_append, unlines_one, ← hp, ← e1]
    simp
  · intro x hx
    rcases List.mem_append.1 hx with hx | hx
    · exact hcs x hx
    · rw [List.mem_singleton] at hx; subst hx
      refine ⟨?_, hg1.1⟩
      rw [← List.length_pos_iff, List.length_take]; omega
  · rw [e2, List.flatten_append]; simp [hfl]
  · rw [e2, ← List.length_pos_iff, List.length_drop]; omega
  · rw [e2]; exact hg1.2

theorem part_done {o p : ByteArray} {k : Nat} {rs : List (List UInt8)} {r0 : List UInt8} {r : ByteArray} (h : Part o k rs r0 p r.data.toList) (h0 : r0.length ≤ 60) : Sofar false (p ++ r ++ ⟨#[10]⟩) (k + 1) (rs ++ [r0]) := by
  obtain ⟨L, h, cs, hp, hL, hr, hl, hc, hh, hcs, hfl, hne, hg⟩ := h
  have hcs' : ∀ x ∈ cs ++ [r.data.toList], x ≠ [] ∧ greatB x := by
    intro x hx
    rcases List.mem_append.1 hx with hx | hx
    · exact hcs x hx
    · rw [List.mem_singleton] at hx; subst hx; exact ⟨hne, hg⟩
  have hd : (p ++ r ++ ⟨#[10]⟩).data.toList = unlines (L ++ (62 :: h) :: (cs ++ [r.data.toList])) := by
    rw [show L ++ (62 :: h) :: (cs ++ [r.data.toList]) = (L ++ (62 :: h) :: cs) ++ [r.data.toList] by simp, unlines_append, unlines_one, ← hp]
    simp
  refine ⟨L ++ (62 :: h) :: (cs ++ [r.data.toList]), hd, ?_, rec_snoc hr ⟨by omega, .inl ⟨rfl, h, _, rfl, by simp, hcs', by rw [List.flatten_append]; simpa using hfl⟩⟩, ?_⟩
  · intro x hx
    rcases List.mem_append.1 hx with hx | hx
    · exact hL x hx
    · rcases List.mem_cons.1 hx with rfl | hx
      · intro c hcm e
        rcases List.mem_cons.1 hcm with h | h
        · rw [e] at h; revert h; decide
        · exact hc c h e
      · exact great_clean (hcs' x hx).2
  · rw [Lib.size_eq, hd, unlines_append, List.length_append]
    have h1 := unl_len ((62 :: h) :: (cs ++ [r.data.toList]))
    have h2 := len_flat (cs := cs) (fun x hx => (hcs x hx).1)
    have h3 : cs.flatten.length + r.data.toList.length = r0.length := by rw [← hfl, List.length_append]
    have h5 : 0 < r.data.toList.length := List.length_pos_iff.2 hne
    rw [List.flatten_cons, List.length_append, List.length_cons, List.length_cons, List.flatten_append, List.length_append, List.length_append] at h1
    simp only [List.flatten_cons, List.flatten_nil, List.append_nil, List.length_cons, List.length_nil] at h1
    omega

theorem full_done {o g r : ByteArray} {k : Nat} {rs : List (List UInt8)} (h : Sofar true o k rs) (hk : k < 100) (h0 : r.size ≤ 60) (h1 : 0 < r.size) (hg : greatB r.data.toList) (hgl : g.size = r.size) (hgr : ∀ c ∈ g.data.toList, 33 ≤ (c.toNat : Int) ∧ (c.toNat : Int) ≤ 126)
    (p : ByteArray) (hp : p = o ++ ⟨#[64]⟩ ++ ⟨(Lib.decDigits k).toArray⟩ ++ ⟨#[10]⟩ ++ r ++ ⟨#[10, 43, 10]⟩ ++ g ++ ⟨#[10]⟩) : Sofar true p (k + 1) (rs ++ [r.data.toList]) := by
  obtain ⟨L, h1', h2, h3, h4⟩ := h
  obtain ⟨d1, d2⟩ := digs k hk
  have hgl' : g.data.toList.length = r.data.toList.length := by rw [← Lib.size_eq, ← Lib.size_eq]; exact hgl
  have hd : p.data.toList = unlines (L ++ [64 :: Lib.decDigits k, r.data.toList, [43], g.data.toList]) := by
    rw [hp, unlines_append]; simp [h1', unlines]
  refine ⟨_, hd, ?_, rec_snoc h3 ⟨by rw [← Lib.size_eq]; omega, .inr ⟨rfl, Lib.decDigits k, g.data.toList, rfl, ?_, hg, hgl', hgr⟩⟩, ?_⟩
  · intro x hx
    rcases List.mem_append.1 hx with hx | hx
    · exact h2 x hx
    · simp only [List.mem_cons, List.not_mem_nil, or_false] at hx
      rcases hx with rfl | rfl | rfl | rfl
      · intro c hcm e
        rcases List.mem_cons.1 hcm with h | h
        · rw [e] at h; revert h; decide
        · exact d1 c h e
      · exact great_clean hg
      · intro c hcm e; rw [List.mem_singleton] at hcm; rw [e] at hcm; revert hcm; decide
      · intro c hcm e; have := hgr c hcm; rw [e] at this; revert this; decide
  · rw [← List.length_pos_iff, ← Lib.size_eq]; exact h1
  · rw [hp]; simp only [ByteArray.size_append]
    have : (⟨(Lib.decDigits k).toArray⟩ : ByteArray).size = (Lib.decDigits k).length := by simp [ByteArray.size]
    rw [this]
    have a1 : (⟨#[64]⟩ : ByteArray).size = 1 := rfl
    have a2 : (⟨#[10]⟩ : ByteArray).size = 1 := rfl
    have a3 : (⟨#[10, 43, 10]⟩ : ByteArray).size = 3 := rfl
    rw [a1, a2, a3]; omega
end Go.Proofs.YtbjgpfhbdmcbbaaGreatDoor.keep
