import Derived.Test.YtbjgpfhbdmcbbaaGreatDoorP40
import Derived.Test.YtbjgpfhbdmcbbaaGreatDoorP38

/-
  CONTRACTS of package quern: Open on a disk that is not dead.
-/
namespace Go.Proofs.YtbjgpfhbdmcbbaaGreatDoor.base
open Go.RowKit dnamath dna diskm disk keep hex pieces files parse words kinds jobs
set_option linter.unusedVariables false

set_option maxHeartbeats 4000000 in
set_option maxRecDepth 100000 in
theorem open_l {Bo : Nat} (p K : Nat) (S : DS) (N : Nat) (rs : List (List UInt8)) (run : ByteArray) (es : List Ent) (a bb aE : Addr) (w : World) (hG : Gl w a bb aE) (hD : Disk Bo w p S) (hN : N ≤ 1000000) (ho : S.Ok N) (hdd : S.dead = false) (hlk : S.look countsB = some (wholeF (countsZ run K es))) (htl : TallyOf (wordsOf K rs) (es.map cv)) (hk1 : 1 ≤ K) (hk2 : K ≤ 31) (hw : (wordsOf K rs).length ≤ 1440) (hrz : run.size ≤ 17) (hrh : ∀ d ∈ run.data.toList, (48 ≤ d.toNat ∧ d.toNat ≤ 57) ∨ (97 ≤ d.toNat ∧ d.toNat ≤ 102)) :
    Calls Tryz.prog 39 #[.pointer (some ⟨p, 0, none⟩)] w fun e w' => ∃ q ev, e = .returned (.tuple #[.pointer (some ⟨q, 0, none⟩), .nilIface]) ∧ BaseAt w' q K w.heap.size ev es (sumC es) ∧ Calm Bo w w' := by
  have hsm := tally_small htl (words_words _) hw
  have htx := text_small hsm.each (by omega)
  have hmul : es.length * (K + 10) ≤ 1440 * 41 := Nat.mul_le_mul hsm.len (by omega)
  have co := openCounts_ok_l p S N a bb run K es w hD ho hN hdd hG.gs hlk hG.many hrh (by omega) (fun x hx => ⟨(hsm.each x hx).1, (hsm.each x hx).2.1, by have := (hsm.each x hx).2.2.2; omega⟩) hk1 (by omega) (by have := hsm.len; omega) (by omega)
  have HSM : Hid (Small K 1440 es) := hsm
  have HSO : Hid (((es.map cv).map Prod.fst).Pairwise (· < ·)) := htl.sorted
  have hel := hsm.len
  clear hsm htx hmul ho hdd hlk htl hD hG hrh
  go_enter Tryz.func39, Tryz.ntmps39
  go_wp2_with fail
  refine co.mono ?_
  rintro e w1 ⟨q1, cs, ev, rfl, hq1, hb1, h6, h7, own1, k1⟩
  have c6 : w1.cell? ⟨q1, 6, none⟩ = some (.int .i64 (K : Int)) := (st_cell hb1 _).trans h6
  have c7 : w1.cell? ⟨q1, 7, none⟩ = some ev := (st_cell hb1 _).trans h7
  have N1 : Calm Bo w w1 := (Calm.refl w).wk k1 hq1
  have HR : Hid (w1.ownsRow w.heap.size 43 2 ev es.length (ecells es) ∧ Calm Bo w w1) := ⟨own1, N1⟩
  obtain ⟨aE2, cE, hev⟩ := own_slice own1
  subst hev
  clear co own1 N1 hb1 h6 h7 k1
  go_upto_region 6 with fail
  go_region
  all_goals
    obtain ⟨W2, hW2⟩ : ∃ W2, W2 = (w1.alloc (.cells #[.int .i64 (K : Int), .slice aE2 es.length cE, .int .i64 0] 95)).drew := ⟨_, rfl⟩
    obtain ⟨qb, hqb⟩ : ∃ qb, qb = w1.heap.size := ⟨_, rfl⟩
    have B2 : Below w1.heap.size w1 W2 := by rw [hW2]; exact ((Below.refl _ w1).alloc (Nat.le_refl _) _).trans ((⟨rfl, rfl, rfl, rfl, Nat.le_add_right _ _⟩ : Still (w1.alloc (.cells #[.int .i64 (K : Int), .slice aE2 es.length cE, .int .i64 0] 95)) (w1.alloc (.cells #[.int .i64 (K : Int), .slice aE2 es.length cE, .int .i64 0] 95)).drew).below _)
    have q2 : W2.heap[qb]? = some (.cells #[.int .i64 (K : Int), .slice aE2 es.length cE, .int .i64 0] 95 (0, 0)) := by rw [hW2, hqb]; exact heap_alloc_new _ _
    have N2 : Calm Bo w W2 := HR.out.2.below B2
    have hqw : w.heap.size ≤ qb := by rw [hqb]; exact HR.out.2.size
    have own2 : W2.ownsRow w.heap.size 43 2 (.slice aE2 es.length cE) es.length (ecells es) := row_keepB HR.out.1 (TK.below B2)
    have H0 : Hid (BaseAt W2 qb K w.heap.size (.slice aE2 es.length cE) es (sumC (es.take 0)) ∧ Calm Bo w W2) := ⟨⟨q2, own2, HSO.out, by omega⟩, N2⟩
    have c1 : W2.cell? ⟨qb, 1, none⟩ = some (.slice aE2 es.length cE) := st_cell q2 1
    rw [← hW2, ← hqb]
    clear hW2 hqb B2 q2 N2 own2 c6 c7
    go_wp2_with fail
    clear c1
    go_loopw [38] (fun i wr => ∃ k : Nat, i = .int .i64 (k : Int) ∧ k ≤ es.length ∧ Hid (BaseAt wr qb K w.heap.size (.slice aE2 es.length cE) es (sumC (es.take k)) ∧ Calm Bo w wr)) (fun i _ => es.length - (intOf i).toNat)
    case atStart => exact ⟨0, rfl, Nat.zero_le _, H0⟩
    case round =>
      obtain ⟨k, rfl, hk, hH⟩ := hrel
      clear H0
      rename World => wr
      by_cases hlt : k < es.length
      · obtain ⟨x, hx⟩ : ∃ x, es[k]? = some x := ⟨_, List.getElem?_eq_getElem hlt⟩
        have hrow := hH.out.1.row
        rcases hrow.2 with ⟨_, e0⟩ | ⟨g, cap, cur, e1, _⟩
        · omega
        cases e1
        have c0 : wr.cell? ⟨g, k * 2, none⟩ = some (.string x.1) := by rw [hrow.cellAt (g := g) (k * 2) (by omega)]; exact ecells_at0 _ _ _ hx
        have c1 : wr.cell? ⟨g, k * 2 + 1, none⟩ = some (.int .i64 (x.2 : Int)) := by rw [hrow.cellAt (g := g) (k * 2 + 1) (by omega)]; exact ecells_at1 _ _ _ hx
        have hxL := (HSM.out.each x (List.mem_of_getElem? hx)).2.2.2
        have hsl : sumC (es.take k) ≤ 1440 * 1440 := by
          refine Nat.le_trans (sumC_le (L := 1440) (fun y hy => (HSM.out.each y (List.mem_of_mem_take hy)).2.2.2)) (Nat.mul_le_mul_right _ ?_)
          rw [List.length_take]; omega
        have HSU : Hid (sumC (es.take (k + 1)) = sumC (es.take k) + x.2) := sumC_take hx
        obtain ⟨s, hs⟩ : ∃ s, s = sumC (es.take k) := ⟨_, rfl⟩
        rw [← hs] at hH hsl HSU
        clear hs hrow hx
        go_upto_region 10 with fail
        obtain ⟨W5, hW5⟩ : ∃ W5, W5 = wr.alloc (.cells #[.string x.1, .int .i64 (x.2 : Int)] 43) := ⟨_, rfl⟩
        obtain ⟨q5, hq5⟩ : ∃ q5, q5 = wr.heap.size := ⟨_, rfl⟩
        have B5 : Below wr.heap.size wr W5 := by rw [hW5]; exact (Below.refl _ wr).alloc (Nat.le_refl _) _
        have e5 : W5.heap[q5]? = some (.cells #[.string x.1, .int .i64 (x.2 : Int)] 43 (0, 0)) := by rw [hW5, hq5]; exact heap_alloc_new _ _
        have d1 : W5.cell? ⟨q5, 1, none⟩ = some (.int .i64 (x.2 : Int)) := st_cell e5 1
        have b5 := hH.out.1.below B5
        have d2 : W5.cell? ⟨qb, 2, none⟩ = some (.int .i64 (s : Int)) := st_cell b5.blk 2
        have f2 := st_frozen b5.blk 2
        have HB5 : Hid (BaseAt W5 qb K w.heap.size (.slice (some ⟨g, 0, none⟩) es.length cE) es s ∧ Calm Bo w W5) := ⟨b5, hH.out.2.below B5⟩
        rw [← hW5, ← hq5]
        clear hW5 hq5 B5 e5 b5 c0 c1 hH
        go_region
        all_goals
          have HN : Hid (BaseAt (W5.setCell ⟨qb, 2, none⟩ (.int .i64 ((s : Int) + (x.2 : Int)))) qb K w.heap.size (.slice (some ⟨g, 0, none⟩) es.length cE) es (sumC (es.take (k + 1))) ∧ Calm Bo w (W5.setCell ⟨qb, 2, none⟩ (.int .i64 ((s : Int) + (x.2 : Int))))) := by
            refine ⟨⟨?_, row_keepB HB5.out.1.row (TK.set HB5.out.1.blk (by decide)), HB5.out.1.sorted, HB5.out.1.few⟩, HB5.out.2.wk (WK.set _) hqw⟩
            rw [heap_setCell_same W5 qb 2 _ _ _ HB5.out.1.blk, HSU.out]
            simp
          obtain ⟨W6, hW6⟩ : ∃ W6, W6 = W5.setCell ⟨qb, 2, none⟩ (.int .i64 ((s : Int) + (x.2 : Int))) := ⟨_, rfl⟩
          rw [← hW6] at HN ⊢
          have S6 : Below W6.heap.size W6 W6.drew := (⟨rfl, rfl, rfl, rfl, Nat.le_add_right _ _⟩ : Still W6 W6.drew).below _
          have HN2 : Hid (BaseAt W6.drew qb K w.heap.size (.slice (some ⟨g, 0, none⟩) es.length cE) es (sumC (es.take (k + 1))) ∧ Calm Bo w W6.drew) := ⟨HN.out.1.below S6, HN.out.2.below S6⟩
          clear hW6 HN S6 d1 d2 f2 HB5
          go_wp2
          go_roundw
          case rel => exact ⟨k + 1, by go_num, by omega, HN2⟩
          case measure => simp [intOf]; omega
      · have hke : k = es.length := by omega
        subst hke
        have HE : Hid (BaseAt wr qb K w.heap.size (.slice aE2 es.length cE) es (sumC es) ∧ Calm Bo w wr) := by
          have := hH.out
          rw [List.take_length] at this
          exact this
        clear hH
        go_wp2
        go_ret2
        exact ⟨qb, _, rfl, HE.out.1, HE.out.2⟩

set_option maxHeartbeats 1000000 in
set_option maxRecDepth 100000 in
theorem Open_l {Bo : Nat} (p K : Nat) (S : DS) (N : Nat) (rs : List (List UInt8)) (run : ByteArray) (es : List Ent) (a bb aE : Addr) (w : World) (hG : Gl w a bb aE) (hD : Disk Bo w p S) (hN : N ≤ 1000000) (ho : S.Ok N) (hdd : S.dead = false) (hlk : S.look countsB = some (wholeF (countsZ run K es))) (htl : TallyOf (wordsOf K rs) (es.map cv)) (hk1 : 1 ≤ K) (hk2 : K ≤ 31) (hw : (wordsOf K rs).length ≤ 1440) (hrz : run.size ≤ 17) (hrh : ∀ d ∈ run.data.toList, (48 ≤ d.toNat ∧ d.toNat ≤ 57) ∨ (97 ≤ d.toNat ∧ d.toNat ≤ 102)) :
    Calls Tryz.prog 20 #[.pointer (some ⟨p, 0, none⟩)] w fun e w' => ∃ q ev, e = .returned (.tuple #[.pointer (some ⟨q, 0, none⟩), .int .i64 0]) ∧ BaseAt w' q K w.heap.size ev es (sumC es) ∧ Calm Bo w w' := by
  have co := open_l p K S N rs run es a bb aE w hG hD hN ho hdd hlk htl hk1 hk2 hw hrz hrh
  clear hG hD ho hdd hlk htl hw hrz hrh
  go_enter Tryz.func20, Tryz.ntmps20
  go_wp2_with fail
  refine co.mono ?_
  rintro e w1 ⟨q, ev, rfl, hb, hn⟩
  have HH : Hid (BaseAt w1 q K w.heap.size ev es (sumC es) ∧ Calm Bo w w1) := ⟨hb, hn⟩
  clear hb hn co
  go_wp2
  go_ret2
  exact ⟨q, ev, rfl, HH.out.1, HH.out.2⟩
set_option maxHeartbeats 1000000 in
set_option maxRecDepth 100000 in
theorem Load_absent_n {Bo : Nat} (b o p : Nat) (S : DS) (N : Nat) (n h : ByteArray) (a bb : Addr) (w : World) (hD : Disk Bo w p S) (ho : S.Ok N) (hN : N ≤ 1000000) (hF : S.dead = false) (hg : Gs w a bb)
    (h0 : w.cell? ⟨b, o, none⟩ = some (.pointer (some ⟨p, 0, none⟩))) (h1 : w.cell? ⟨b, o + 1, none⟩ = some (.string n)) (hl : S.look n = none) :
    Calls Tryz.prog 107 #[.pointer (some ⟨b, o, none⟩)] w fun e w' => ∃ v, e = .returned (.tuple #[.string ⟨#[]⟩, v]) ∧ NumErr w' 5 v ∧ Below w.heap.size w w' := by
  have hs0 := files.size_none hl
  have ha0 := files.all_none hl
  obtain ⟨vF, vN, vS, vT, hDA⟩ := hD
  have csz : ∀ W, Still w W → Calls Tryz.prog 87 #[.pointer (some ⟨p, 0, none⟩), .string n] W fun e w' => e = .returned (.tuple #[.int .i64 0, .bool false]) ∧ Still W w' := fun W hW => by
    have := Size_any p S N vF vN vS vT n W (hDA.still hW) ho hN
    rw [hs0] at this
    exact this
  have crd : ∀ W, Still w W → Calls Tryz.prog 146 #[.pointer (some ⟨p, 0, none⟩), .string n, .int .i64 0, .int .i64 0] W fun e w' => e = .returned (.tuple #[.string ⟨#[]⟩, .bool false]) ∧ Still W w' := fun W hW => by
    have := Read_any p S N n W ⟨_, _, _, _, hDA.still hW⟩ ho hN (fun f hf => by rw [hl] at hf; cases hf)
    rw [hs0, ha0] at this
    exact this
  have hnd : S.dead = false := hF
  have cdd : ∀ W, Still w W → Calls Tryz.prog 27 #[.pointer (some ⟨p, 0, none⟩)] W fun e w' => e = .returned (.bool false) ∧ w' = W := fun W hW => by
    have := Dead_any p S vF vN vS vT W (hDA.still hW)
    rw [hnd] at this
    exact this
  have hab := hg.absentC
  clear hs0 ha0 hnd hl hF ho hDA hg
  go_enter Tryz.func107, Tryz.ntmps107
  go_wp2
  go_quiet ((go_at_call 87; exact Still.quiet (csz _ (Still.drewN _ _))))
  obtain ⟨W1, hW1⟩ : ∃ W, W = w.drewN nq := ⟨_, rfl⟩
  have S1 : Still w W1 := by rw [hW1]; exact Still.drewN _ _
  rw [← S1.cell] at h0 h1 hab
  rw [← hW1]
  clear hW1
  go_wp2
  go_quiet ((go_at_call 146; exact Still.quiet (crd _ (S1.trans (Still.drewN _ _)))))
  obtain ⟨W2, hW2⟩ : ∃ W, W = W1.drewN nq := ⟨_, rfl⟩
  have S2 : Still w W2 := by rw [hW2]; exact S1.trans (Still.drewN _ _)
  rw [S1.cell, ← S2.cell] at h0 h1 hab
  rw [← hW2]
  clear hW2
  go_wp2_with (go_at_call 27; go_must (refine (cdd _ S2).mono ?_; rintro e w3 ⟨rfl, hw3⟩; have hw4 := hw3.symm; subst hw4))
  go_region_with (go_at_call 57; go_must (refine (files.New_any _ _ _ _ _).mono ?_; rintro e w4 ⟨rfl, rfl⟩))
  all_goals
    go_wp2
    go_ret2
    refine ⟨_, rfl, ⟨_, _, _, rfl, heap_alloc_new _ _⟩, ?_⟩
    exact (S2.below _).trans (((⟨rfl, rfl, rfl, rfl, Nat.le_add_right _ _⟩ : Still W2 W2.drew).below _).trans ((Below.refl _ _).alloc (by rw [show W2.drew.heap = W2.heap from rfl, S2.heap]; exact Nat.le_refl _) _))

set_option maxHeartbeats 1000000 in
set_option maxRecDepth 100000 in
theorem openCounts_absent_n {Bo : Nat} (p : Nat) (S : DS) (N : Nat) (a bb : Addr) (w : World) (hD : Disk Bo w p S) (ho : S.Ok N) (hN : N ≤ 1000000) (hF : S.dead = false) (hg : Gs w a bb) (hl : S.look countsB = none) :
    Calls Tryz.prog 63 #[.pointer (some ⟨p, 0, none⟩)] w fun e w' => ∃ v, e = .returned (.tuple #[.string ⟨#[]⟩, .pointer none, v]) ∧ NumErr w' 5 v ∧ Below w.heap.size w w' := by
  have co := Of_any p countsB countsHB w
  have es : (⟨#[99, 111, 117, 110, 116, 115]⟩ : ByteArray) = countsB := rfl
  have es2 : (⟨#[99, 111, 117, 110, 116, 115, 32]⟩ : ByteArray) = countsHB := rfl
  have HA : Hid (Disk Bo w p S ∧ S.Ok N ∧ S.dead = false ∧ Gs w a bb ∧ S.look countsB = none) := ⟨hD, ho, hF, hg, hl⟩
  clear hD ho hF hg hl
  go_enter Tryz.func63, Tryz.ntmps63
  go_upto_region 2 with (go_at_call 106; go_must (refine co.mono ?_; rintro e w1 ⟨rfl, b1⟩))
  have HF := listC_at w1 p countsB countsHB 0 (Nat.le_trans HA.out.1.low b1.size)
  obtain ⟨W2, hW2⟩ : ∃ W2, W2 = w1.alloc (.cells (listC p countsB countsHB 0) 134) := ⟨_, rfl⟩
  have B2 : Below w.heap.size w W2 := by rw [hW2]; exact b1.alloc b1.size _
  rw [← hW2] at HF
  obtain ⟨hD, ho, hF, hg, hl⟩ := HA.out
  have cl := Load_absent_n w1.heap.size 0 p S N countsB countsHB a bb W2 (hD.below B2) ho hN hF (hg.below B2) ((st_cell HF.blk _).trans HF.c0) ((st_cell HF.blk _).trans HF.c1) hl
  rw [show w1.alloc (.cells #[.pointer (some ⟨p, 0, none⟩), .string countsB, .string countsHB, .int .u64 0, .int .i64 0, .slice none 0 0, .int .i64 0, .slice none 0 0] 134) = W2 from hW2.symm]
  clear hD ho hF hg hl HF hW2 es es2 co HA b1
  go_wp2_with (go_at_call 107; go_must (refine cl.mono ?_; rintro e w3 ⟨v, rfl, hG, hb⟩; obtain ⟨eb, s, aG, hv, hG⟩ := hG; subst hv))
  exact bodyPost_ret (v := .tuple #[.string ⟨#[]⟩, .pointer none, .iface 114 (.pointer (some ⟨eb, 0, none⟩))]) (by simp [results, Tryz.results63, go_sem]) rfl ⟨_, rfl, ⟨eb, s, aG, rfl, hG⟩, B2.trans (hb.mono B2.size)⟩

set_option maxHeartbeats 1000000 in
set_option maxRecDepth 100000 in
theorem open_absent {Bo : Nat} (p : Nat) (S : DS) (N : Nat) (a bb : Addr) (w : World) (hD : Disk Bo w p S) (ho : S.Ok N) (hN : N ≤ 1000000) (hF : S.dead = false) (hg : Gs w a bb) (hl : S.look countsB = none) :
    Calls Tryz.prog 39 #[.pointer (some ⟨p, 0, none⟩)] w fun e w' => ∃ v, e = .returned (.tuple #[.pointer none, v]) ∧ NumErr w' 5 v ∧ Below w.heap.size w w' := by
  have co := openCounts_absent_n p S N a bb w hD ho hN hF hg hl
  clear hD ho hF hg hl
  go_enter Tryz.func39, Tryz.ntmps39
  go_wp2_with fail
  refine co.mono ?_
  rintro e w1 ⟨v, rfl, hv, b1⟩
  obtain ⟨eb, s, ax, hve, hvb⟩ := hv
  subst hve
  go_wp2
  go_ret2
  exact ⟨_, rfl, ⟨eb, s, ax, rfl, hvb⟩, b1⟩

set_option maxHeartbeats 1000000 in
set_option maxRecDepth 100000 in
theorem Open_absent {Bo : Nat} (p : Nat) (S : DS) (N : Nat) (a bb : Addr) (w : World) (hD : Disk Bo w p S) (ho : S.Ok N) (hN : N ≤ 1000000) (hF : S.dead = false) (hg : Gs w a bb) (hty : TypeIs w) (hgl : 4 < w.heap.size) (hl : S.look countsB = none) :
    Calls Tryz.prog 20 #[.pointer (some ⟨p, 0, none⟩)] w fun e w' => e = .returned (.tuple #[.pointer none, .int .i64 5]) ∧ Below w.heap.size w w' := by
  have co := open_absent p S N a bb w hD ho hN hF hg hl
  have HTY : Hid (TypeIs w) := hty
  clear hD ho hF hg hl hty
  go_enter Tryz.func20, Tryz.ntmps20
  go_wp2_with fail
  refine co.mono ?_
  rintro e w1 ⟨v, rfl, hv, b1⟩
  obtain ⟨eb, s, ax, hve, hvb⟩ := hv
  subst hve
  have cn := Number_any eb 5 w1 ((b1.cell (p := ⟨4, 0, none⟩) hgl).trans HTY.out) (st_cell hvb 0)
  clear co hvb
  go_wp2_with fail
  refine cn.mono ?_
  rintro e w2 ⟨rfl, b2⟩
  have HB : Hid (Below w.heap.size w w2) := b1.trans (b2.mono b1.size)
  clear cn b1 b2
  go_wp2
  go_ret2
  exact ⟨rfl, HB.out⟩
end Go.Proofs.YtbjgpfhbdmcbbaaGreatDoor.base

/-
  FACTS for the walks of Held and Cut.
-/
namespace Go.Proofs.YtbjgpfhbdmcbbaaGreatDoor.keep
open Go.RowKit dnamath dna diskm disk hex pieces files parse words kinds jobs base fill
set_option linter.unusedVariables false

theorem die_ready {A : List UInt8 → DFile → Prop} {S : DS} {N n : Nat} (h : Ready A S N) (hn : n ≤ 1000000) : Ready A (DS.die S n) N :=
  ⟨⟨⟨die_sane h.live.sound.sane, h.live.sound.okay.to rfl rfl⟩, die_ok h.live.ok hn, h.live.wait, h.live.cap⟩, h.safe, h.steps, h.plan⟩
theorem crash_ready {K M Bn : Nat} {T R : ByteArray} {rs : List (List UInt8)} {S U : DS} {N : Nat} (h : Live (Allow K M Bn T R rs) draftB S N) (hp : AllDirs S (fun D => HasK planB D ∨ OnlyD D)) (hc : Crashed S U) (hN : 19 ≤ N) : Ready (Allow K M Bn T R rs) U N := by
  have hl := crash_live h hc hN
  exact ⟨hl, hc.safe, hc.steps, (dirs_crash hp hc).now hl.sound.sane⟩
theorem new_ready {A : List UInt8 → DFile → Prop} : Ready A (newDisk 1152921504606846976) 20 := by
  have hr := new_room
  refine ⟨⟨⟨hr.good.sane, fun n hn x hx => ?_⟩, (hr.good.mono (by omega)).ok, hr.good.fine.wait, hr.cap⟩, rfl, rfl, .inr (fun x hx => by cases hx)⟩
  have : ((newDisk 1152921504606846976).steps.take n).foldl doL (newDisk 1152921504606846976).safe = [] := by
    show (([] : List DStep).take n).foldl doL [] = []
    rw [List.take_nil]; rfl
  rw [this] at hx
  cases hx
theorem LowRow.drop {Bo : Nat} {w : World} {b off len cap k : Nat} {zs : List Int} (h : LowRow Bo w (some ⟨b, off, none⟩) len cap zs) (hk : k < len) : LowRow Bo w (some ⟨b, off + k, none⟩) (len - k) (cap - k) (zs.drop k) := by
  obtain ⟨h, hl⟩ := h
  rcases h with h | ⟨x, h1, h2, h3, h4, h5, h6⟩
  · exact absurd h.1 (by simp)
  · cases h1
    refine ⟨.inr ⟨_, rfl, by omega, by omega, by rw [List.length_drop]; omega, fun i hi => ?_, fun n hn => h6 n (List.mem_of_mem_drop hn)⟩, fun x hx hc => ?_⟩
    · rw [List.length_drop] at hi
      have := h5 (k + i) (by omega)
      have e1 : (⟨b, off, none⟩ : Addr).add (k + i) = (⟨b, off + k, none⟩ : Addr).add i := by
        unfold Addr.add
        by_cases hk0 : k = 0 <;> by_cases hi0 : i = 0 <;> simp [hk0, hi0, Nat.add_assoc]
      rw [e1] at this
      rw [this]
      congr 2
      simp [List.getD_eq_getElem?_getD]
    · cases hx
      exact hl ⟨b, off, none⟩ rfl (by omega)
theorem LowRow.nil (Bo : Nat) (w : World) : LowRow Bo w none 0 0 [] := ⟨.inl ⟨rfl, rfl, rfl, rfl⟩, fun x hx => by cases hx⟩

/-- what the walk of Held carries along -/
structure Cth (aF : Addr) (w wi : World) (a bb aE : Addr) (qo K M Bn : Nat) (a4 : Option Addr) (len4 cap4 : Nat) (zs4 : List Int) (a5 : Option Addr) (len5 cap5 : Nat) (zs5 : List Int) (v1 : Value) (e1 : List Ent) : Prop where
  new : New w.heap.size w wi
  gl : Gl wi a bb aE
  gx : Gx aF a bb wi
  opt : OptAt wi qo K M Bn
  rowd : LowRow w.heap.size wi a4 len4 cap4 zs4
  rowk : LowRow w.heap.size wi a5 len5 cap5 zs5
  one : EOwn wi v1 e1
theorem Cth.to {aF : Addr} {w : World} {wi : World} {wj : World} {a : Addr} {bb : Addr} {aE : Addr} {qo : Nat} {K : Nat} {M : Nat} {Bn : Nat} {a4 : Option Addr} {len4 : Nat} {cap4 : Nat} {zs4 : List Int} {a5 : Option Addr} {len5 : Nat} {cap5 : Nat} {zs5 : List Int} {v1 : Value} {e1 : List Ent} (h : Cth aF w wi a bb aE qo K M Bn a4 len4 cap4 zs4 a5 len5 cap5 zs5 v1 e1) (hk : New w.heap.size wi wj) : Cth aF w wj a bb aE qo K M Bn a4 len4 cap4 zs4 a5 len5 cap5 zs5 v1 e1 :=
  ⟨keep.New.and h.new hk, h.gl.new hk, h.gx.new hk, h.opt.new hk, lowRow_new h.rowd h.new.size hk, lowRow_new h.rowk h.new.size hk, h.one.new hk⟩
theorem Cth.below {aF : Addr} {w : World} {wi : World} {wj : World} {a : Addr} {bb : Addr} {aE : Addr} {qo : Nat} {K : Nat} {M : Nat} {Bn : Nat} {a4 : Option Addr} {len4 : Nat} {cap4 : Nat} {zs4 : List Int} {a5 : Option Addr} {len5 : Nat} {cap5 : Nat} {zs5 : List Int} {v1 : Value} {e1 : List Ent} (h : Cth aF w wi a bb aE qo K M Bn a4 len4 cap4 zs4 a5 len5 cap5 zs5 v1 e1) (hk : Below wi.heap.size wi wj) : Cth aF w wj a bb aE qo K M Bn a4 len4 cap4 zs4 a5 len5 cap5 zs5 v1 e1 := h.to ((New.refl wi).below hk)
theorem Cth.kept {aF : Addr} {w : World} {wi : World} {wj : World} {a : Addr} {bb : Addr} {aE : Addr} {qo : Nat} {K : Nat} {M : Nat} {Bn : Nat} {a4 : Option Addr} {len4 : Nat} {cap4 : Nat} {zs4 : List Int} {a5 : Option Addr} {len5 : Nat} {cap5 : Nat} {zs5 : List Int} {v1 : Value} {e1 : List Ent} (h : Cth aF w wi a bb aE qo K M Bn a4 len4 cap4 zs4 a5 len5 cap5 zs5 v1 e1) (hk : Kept w.heap.size wi wj) : Cth aF w wj a bb aE qo K M Bn a4 len4 cap4 zs4 a5 len5 cap5 zs5 v1 e1 := h.to ((New.refl wi).kept hk)
end Go.Proofs.YtbjgpfhbdmcbbaaGreatDoor.keep

/-
  FACTS for the walk of Cut: one input has one list of reads; what Reset leaves.
-/
namespace Go.Proofs.YtbjgpfhbdmcbbaaGreatDoor.parse
open Go.RowKit dnamath dna pieces lines
set_option linter.unusedVariables false

end Go.Proofs.YtbjgpfhbdmcbbaaGreatDoor.parse
namespace Go.Proofs.YtbjgpfhbdmcbbaaGreatDoor.keep
open Go.RowKit dnamath dna diskm disk hex pieces files parse words kinds jobs base fill
set_option linter.unusedVariables false

/-- what the walk of Cut carries along -/
structure Ctz (aF : Addr) (w wi : World) (a bb aE : Addr) (qo K M Bn : Nat) (a0 : Option Addr) (len cap : Nat) (zs : List Int) (v1 : Value) (e1 : List Ent) (v2 : Value) (e2 : List Ent) : Prop where
  c : Ctx aF w wi a bb aE qo K M Bn a0 len cap zs
  gx : Gx aF a bb wi
  one : EOwn wi v1 e1
  two : EOwn wi v2 e2
theorem Ctz.to {aF : Addr} {w : World} {wi : World} {wj : World} {a : Addr} {bb : Addr} {aE : Addr} {qo : Nat} {K : Nat} {M : Nat} {Bn : Nat} {a0 : Option Addr} {len : Nat} {cap : Nat} {zs : List Int} {v1 : Value} {v2 : Value} {e1 : List Ent} {e2 : List Ent} (h : Ctz aF w wi a bb aE qo K M Bn a0 len cap zs v1 e1 v2 e2) (hk : New w.heap.size wi wj) : Ctz aF w wj a bb aE qo K M Bn a0 len cap zs v1 e1 v2 e2 := ⟨h.c.to hk, h.gx.new hk, h.one.new hk, h.two.new hk⟩
theorem Ctz.below {aF : Addr} {w : World} {wi : World} {wj : World} {a : Addr} {bb : Addr} {aE : Addr} {qo : Nat} {K : Nat} {M : Nat} {Bn : Nat} {a0 : Option Addr} {len : Nat} {cap : Nat} {zs : List Int} {v1 : Value} {v2 : Value} {e1 : List Ent} {e2 : List Ent} (h : Ctz aF w wi a bb aE qo K M Bn a0 len cap zs v1 e1 v2 e2) (hk : Below wi.heap.size wi wj) : Ctz aF w wj a bb aE qo K M Bn a0 len cap zs v1 e1 v2 e2 := h.to ((New.refl wi).below hk)
theorem Ctz.kept {aF : Addr} {w : World} {wi : World} {wj : World} {a : Addr} {bb : Addr} {aE : Addr} {qo : Nat} {K : Nat} {M : Nat} {Bn : Nat} {a0 : Option Addr} {len : Nat} {cap : Nat} {zs : List Int} {v1 : Value} {v2 : Value} {e1 : List Ent} {e2 : List Ent} (h : Ctz aF w wi a bb aE qo K M Bn a0 len cap zs v1 e1 v2 e2) (hk : Kept w.heap.size wi wj) : Ctz aF w wj a bb aE qo K M Bn a0 len cap zs v1 e1 v2 e2 := h.to ((New.refl wi).kept hk)
theorem well_not_cut {A : List UInt8 → DFile → Prop} {S S' : DS} {N : Nat} (h : CutR A S S' N) (hf : S.life = -1) : False := by
  have := h.mort (by rw [h.dead]; decide)
  rw [hf] at this
  exact absurd this (by decide)
end Go.Proofs.YtbjgpfhbdmcbbaaGreatDoor.keep
