import Derived.Test.YtbjgpfhbdmcbbabGreatDoorP40
import Derived.Test.YtbjgpfhbdmcbbabGreatDoorP38

/-
  CONTRACTS of package quern: Open on a disk that is not dead.
-/
namespace Go.Proofs.YtbjgpfhbdmcbbabGreatDoor.base
open Go.RowKit dnamath dna diskm disk keep hex pieces files parse words kinds jobs
set_option linter.unusedVariables false

set_option maxHeartbeats 4000000 in
set_option maxRecDepth 100000 in
theorem open_l {Bo : Nat} (p K : Nat) (S : DS) (N : Nat) (rs : List (List UInt8)) (run : ByteArray) (es : List Ent) (a bb aE : Addr) (w : World) (hG : Gl w a bb aE) (hD : Disk Bo w p S) (hN : N ≤ 1000000) (ho : S.Ok N) (hdd : S.dead = false) (hlk : S.look countsB = some (wholeF (countsZ run K es))) (htl : TallyOf (wordsOf K rs) (es.map cv)) (hk1 : 1 ≤ K) (hk2 : K ≤ 31) (hw : (wordsOf K rs).length ≤ 1440) (hrz : run.size ≤ 17) (hrh : ∀ d ∈ run.data.toList, (48 ≤ d.toNat ∧ d.toNat ≤ 57) ∨ (97 ≤ d.toNat ∧ d.toNat ≤ 102)) :
    Calls Tryz.prog 26 #[.pointer (some ⟨p, 0, none⟩)] w fun e w' => ∃ q ev, e = .returned (.tuple #[.pointer (some ⟨q, 0, none⟩), .nilIface]) ∧ BaseAt w' q K w.heap.size ev es (sumC es) ∧ Calm Bo w w' := by
  have hsm := tally_small htl (words_words _) hw
  have htx := text_small hsm.each (by omega)
  have hmul : es.length * (K + 10) ≤ 1440 * 41 := Nat.mul_le_mul hsm.len (by omega)
  have co := openCounts_ok_l p S N a bb run K es w hD ho hN hdd hG.gs hlk hG.many hrh (by omega) (fun x hx => ⟨(hsm.each x hx).1, (hsm.each x hx).2.1, by have := (hsm.each x hx).2.2.2; omega⟩) hk1 (by omega) (by have := hsm.len; omega) (by omega)
  have HSM : Hid (Small K 1440 es) := hsm
  have HSO : Hid (((es.map cv).map Prod.fst).Pairwise (· < ·)) := htl.sorted
  have hel := hsm.len
  clear hsm htx hmul ho hdd hlk htl hD hG hrh
  go_enter Tryz.func26, Tryz.ntmps26
  go_wp2_with fail
  refine co.mono ?_
  rintro e w1 ⟨q1, cs, ev, rfl, hq1, hb1, h6, h7, own1, k1⟩
  have c6 : w1.cell? ⟨q1, 6, none⟩ = some (.int .i64 (K : Int)) := (st_cell hb1 _).trans h6
  have c7 : w1.cell? ⟨q1, 7, none⟩ = some ev := (st_cell hb1 _).trans h7
  have N1 : Calm Bo w w1 := (Calm.refl w).wk k1 hq1
  have HR : Hid (w1.ownsRow w.heap.size 58 2 ev es.length (ecells es) ∧ Calm Bo w w1) := ⟨own1, N1⟩
  obtain ⟨aE2, cE, hev⟩ := own_slice own1
  subst hev
  clear co own1 N1 hb1 h6 h7 k1
  go_upto_region 6 with fail
  go_region
  all_goals
    obtain ⟨W2, hW2⟩ : ∃ W2, W2 = (w1.alloc (.cells #[.int .i64 (K : Int), .slice aE2 es.length cE, .int .i64 0] 73)).drew := ⟨_, rfl⟩
    obtain ⟨qb, hqb⟩ : ∃ qb, qb = w1.heap.size := ⟨_, rfl⟩
    have B2 : Below w1.heap.size w1 W2 := by rw [hW2]; exact ((Below.refl _ w1).alloc (Nat.le_refl _) _).trans ((⟨rfl, rfl, rfl, rfl, Nat.le_add_right _ _⟩ : Still (w1.alloc (.cells #[.int .i64 (K : Int), .slice aE2 es.length cE, .int .i64 0] 73)) (w1.alloc (.cells #[.int .i64 (K : Int), .slice aE2 es.length cE, .int .i64 0] 73)).drew).below _)
    have q2 : W2.heap[qb]? = some (.cells #[.int .i64 (K : Int), .slice aE2 es.length cE, .int .i64 0] 73 (0, 0)) := by rw [hW2, hqb]; exact heap_alloc_new _ _
    have N2 : Calm Bo w W2 := HR.out.2.below B2
    have hqw : w.heap.size ≤ qb := by rw [hqb]; exact HR.out.2.size
    have own2 : W2.ownsRow w.heap.size 58 2 (.slice aE2 es.length cE) es.length (ecells es) := row_keepB HR.out.1 (TK.below B2)
    have H0 : Hid (BaseAt W2 qb K w.heap.size (.slice aE2 es.length cE) es (sumC (es.take 0)) ∧ Calm Bo w W2) := ⟨⟨q2, own2, HSO.out, by omega⟩, N2⟩
    have c1 : W2.cell? ⟨qb, 1, none⟩ = some (.slice aE2 es.length cE) := st_cell q2 1
    rw [← hW2, ← hqb]
    clear hW2 hqb B2 q2 N2 own2 c6 c7
    go_wp2_with fail
    clear c1
    go_loopw [38] (fun i wr => ∃ k : Nat, i = .int .i64 (k : Int) ∧ k ≤ es.length ∧ Hid (BaseAt wr qb K w.heap.size (.slice aE2 es.length cE) es (sumC (es.take k)) ∧ Calm Bo w wr)) (fun i _ => es.length - (intOf i).toNat)
    case atStart => exact ⟨0, rfl, Nat.zero_le _, H0⟩
    case round =>
      obtain ⟨k, rfl, hk, hH⟩ := hrel
      clear H0
      rename World => wr
      by_cases hlt : k < es.length
      · obtain ⟨x, hx⟩ : ∃ x, es[k]? = some x := ⟨_, List.getElem?_eq_getElem hlt⟩
        have hrow := hH.out.1.row
        rcases hrow.2 with ⟨_, e0⟩ | ⟨g, cap, cur, e1, _⟩
        · omega
        cases e1
        have c0 : wr.cell? ⟨g, k * 2, none⟩ = some (.string x.1) := by rw [hrow.cellAt (g := g) (k * 2) (by omega)]; exact ecells_at0 _ _ _ hx
        have c1 : wr.cell? ⟨g, k * 2 + 1, none⟩ = some (.int .i64 (x.2 : Int)) := by rw [hrow.cellAt (g := g) (k * 2 + 1) (by omega)]; exact ecells_at1 _ _ _ hx
        have hxL := (HSM.out.each x (List.mem_of_getElem? hx)).2.2.2
        have hsl : sumC (es.take k) ≤ 1440 * 1440 := by
          refine Nat.le_trans (sumC_le (L := 1440) (fun y hy => (HSM.out.each y (List.mem_of_mem_take hy)).2.2.2)) (Nat.mul_le_mul_right _ ?_)
          rw [List.length_take]; omega
        have HSU : Hid (sumC (es.take (k + 1)) = sumC (es.take k) + x.2) := sumC_take hx
        obtain ⟨s, hs⟩ : ∃ s, s = sumC (es.take k) := ⟨_, rfl⟩
        rw [← hs] at hH hsl HSU
        clear hs hrow hx
        go_upto_region 10 with fail
        obtain ⟨W5, hW5⟩ : ∃ W5, W5 = wr.alloc (.cells #[.string x.1, .int .i64 (x.2 : Int)] 58) := ⟨_, rfl⟩
        obtain ⟨q5, hq5⟩ : ∃ q5, q5 = wr.heap.size := ⟨_, rfl⟩
        have B5 : Below wr.heap.size wr W5 := by rw [hW5]; exact (Below.refl _ wr).alloc (Nat.le_refl _) _
        have e5 : W5.heap[q5]? = some (.cells #[.string x.1, .int .i64 (x.2 : Int)] 58 (0, 0)) := by rw [hW5, hq5]; exact heap_alloc_new _ _
        have d1 : W5.cell? ⟨q5, 1, none⟩ = some (.int .i64 (x.2 : Int)) := st_cell e5 1
        have b5 := hH.out.1.below B5
        have d2 : W5.cell? ⟨qb, 2, none⟩ = some (.int .i64 (s : Int)) := st_cell b5.blk 2
        have f2 := st_frozen b5.blk 2
        have HB5 : Hid (BaseAt W5 qb K w.heap.size (.slice (some ⟨g, 0, none⟩) es.length cE) es s ∧ Calm Bo w W5) := ⟨b5, hH.out.2.below B5⟩
        rw [← hW5, ← hq5]
        clear hW5 hq5 B5 e5 b5 c0 c1 hH
        go_region
        all_goals
          have HN : Hid (BaseAt (W5.setCell ⟨qb, 2, none⟩ (.int .i64 ((s : Int) + (x.2 : Int)))) qb K w.heap.size (.slice (some ⟨g, 0, none⟩) es.length cE) es (sumC (es.take (k + 1))) ∧ Calm Bo w (W5.setCell ⟨qb, 2, none⟩ (.int .i64 ((s : Int) + (x.2 : Int))))) := by
            refine ⟨⟨?_, row_keepB HB5.out.1.row (TK.set HB5.out.1.blk (by decide)), HB5.out.1.sorted, HB5.out.1.few⟩, HB5.out.2.wk (WK.set _) hqw⟩
            rw [heap_setCell_same W5 qb 2 _ _ _ HB5.out.1.blk, HSU.out]
            simp
          obtain ⟨W6, hW6⟩ : ∃ W6, W6 = W5.setCell ⟨qb, 2, none⟩ (.int .i64 ((s : Int) + (x.2 : Int))) := ⟨_, rfl⟩
          rw [← hW6] at HN ⊢
          have S6 : Below W6.heap.size W6 W6.drew := (⟨rfl, rfl, rfl, rfl, Nat.le_add_right _ _⟩ : Still W6 W6.drew).below _
          have HN2 : Hid (BaseAt W6.drew qb K w.heap.size (.slice (some ⟨g, 0, none⟩) es.length cE) es (sumC (es.take (k + 1))) ∧ Calm Bo w W6.drew) := ⟨HN.out.1.below S6, HN.out.2.below S6⟩
          clear hW6 HN S6 d1 d2 f2 HB5
          go_wp2
          go_roundw
          case rel => exact ⟨k + 1, by go_num, by omega, HN2⟩
          case measure => simp [intOf]; omega
      · have hke : k = es.length := by omega
        subst hke
        have HE : Hid (BaseAt wr qb K w.heap.size (.slice aE2 es.length cE) es (sumC es) ∧ Calm Bo w wr) := by
          have := hH.out
          rw [List.take_length] at this
          exact this
        clear hH
        go_wp2
        go_ret2
        exact ⟨qb, _, rfl, HE.out.1, HE.out.2⟩

set_option maxHeartbeats 1000000 in
set_option maxRecDepth 100000 in
theorem Open_l {Bo : Nat} (p K : Nat) (S : DS) (N : Nat) (rs : List (List UInt8)) (run : ByteArray) (es : List Ent) (a bb aE : Addr) (w : World) (hG : Gl w a bb aE) (hD : Disk Bo w p S) (hN : N ≤ 1000000) (ho : S.Ok N) (hdd : S.dead = false) (hlk : S.look countsB = some (wholeF (countsZ run K es))) (htl : TallyOf (wordsOf K rs) (es.map cv)) (hk1 : 1 ≤ K) (hk2 : K ≤ 31) (hw : (wordsOf K rs).length ≤ 1440) (hrz : run.size ≤ 17) (hrh : ∀ d ∈ run.data.toList, (48 ≤ d.toNat ∧ d.toNat ≤ 57) ∨ (97 ≤ d.toNat ∧ d.toNat ≤ 102)) :
    Calls Tryz.prog 12 #[.pointer (some ⟨p, 0, none⟩)] w fun e w' => ∃ q ev, e = .returned (.tuple #[.pointer (some ⟨q, 0, none⟩), .int .i64 0]) ∧ BaseAt w' q K w.heap.size ev es (sumC es) ∧ Calm Bo w w' := by
  have co := open_l p K S N rs run es a bb aE w hG hD hN ho hdd hlk htl hk1 hk2 hw hrz hrh
  clear hG hD ho hdd hlk htl hw hrz hrh
  go_enter Tryz.func12, Tryz.ntmps12
  go_wp2_with fail
  refine co.mono ?_
  rintro e w1 ⟨q, ev, rfl, hb, hn⟩
  have HH : Hid (BaseAt w1 q K w.heap.size ev es (sumC es) ∧ Calm Bo w w1) := ⟨hb, hn⟩
  clear hb hn co
  go_wp2
  go_ret2
  exact ⟨q, ev, rfl, HH.out.1, HH.out.2⟩
end Go.Proofs.YtbjgpfhbdmcbbabGreatDoor.base

/-
  FACTS for the walks of Held and Cut.
-/
namespace Go.Proofs.YtbjgpfhbdmcbbabGreatDoor.keep
open Go.RowKit dnamath dna diskm disk hex pieces files parse words kinds jobs base fill
set_option linter.unusedVariables false

theorem die_ready {A : List UInt8 → DFile → Prop} {S : DS} {N n : Nat} (h : Ready A S N) (hn : n ≤ 1000000) : Ready A (DS.die S n) N :=
  ⟨⟨⟨die_sane h.live.sound.sane, h.live.sound.okay.to rfl rfl⟩, die_ok h.live.ok hn, h.live.wait, h.live.cap⟩, h.safe, h.steps, h.plan⟩
theorem crash_ready {K M Bn : Nat} {T R : ByteArray} {rs : List (List UInt8)} {S U : DS} {N : Nat} (h : Live (Allow K M Bn T R rs) draftB S N) (hp : AllDirs S (fun D => HasK planB D ∨ OnlyD D)) (hc : Crashed S U) (hN : 19 ≤ N) : Ready (Allow K M Bn T R rs) U N := by
  have hl := crash_live h hc hN
  exact ⟨hl, hc.safe, hc.steps, (dirs_crash hp hc).now hl.sound.sane⟩
theorem new_ready {A : List UInt8 → DFile → Prop} : Ready A (newDisk 1152921504606846976) 20 := by
  have hr := new_room
  refine ⟨⟨⟨hr.good.sane, fun n hn x hx => ?_⟩, (hr.good.mono (by omega)).ok, hr.good.fine.wait, hr.cap⟩, rfl, rfl, .inr (fun x hx => by cases hx)⟩
  have : ((newDisk 1152921504606846976).steps.take n).foldl doL (newDisk 1152921504606846976).safe = [] := by
    show (([] : List DStep).take n).foldl doL [] = []
    rw [List.take_nil]; rfl
  rw [this] at hx
  cases hx
theorem LowRow.drop {Bo : Nat} {w : World} {b off len cap k : Nat} {zs : List Int} (h : LowRow Bo w (some ⟨b, off, none⟩) len cap zs) (hk : k < len) : LowRow Bo w (some ⟨b, off + k, none⟩) (len - k) (cap - k) (zs.drop k) := by
  obtain ⟨h, hl⟩ := h
  rcases h with h | ⟨x, h1, h2, h3, h4, h5, h6⟩
  · exact absurd h.1 (by simp)
  · cases h1
    refine ⟨.inr ⟨_, rfl, by omega, by omega, by rw [List.length_drop]; omega, fun i hi => ?_, fun n hn => h6 n (List.mem_of_mem_drop hn)⟩, fun x hx hc => ?_⟩
    · rw [List.length_drop] at hi
      have := h5 (k + i) (by omega)
      have e1 : (⟨b, off, none⟩ : Addr).add (k + i) = (⟨b, off + k, none⟩ : Addr).add i := by
        unfold Addr.add
        by_cases hk0 : k = 0 <;> by_cases hi0 : i = 0 <;> simp [hk0, hi0, Nat.add_assoc]
      rw [e1] at this
      rw [this]
      congr 2
      simp [List.getD_eq_getElem?_getD]
    · cases hx
      exact hl ⟨b, off, none⟩ rfl (by omega)
theorem LowRow.nil (Bo : Nat) (w : World) : LowRow Bo w none 0 0 [] := ⟨.inl ⟨rfl, rfl, rfl, rfl⟩, fun x hx => by cases hx⟩

/-- what the walk of Held carries along -/
structure Cth (aF : Addr) (w wi : World) (a bb aE : Addr) (qo K M Bn : Nat) (a4 : Option Addr) (len4 cap4 : Nat) (zs4 : List Int) (a5 : Option Addr) (len5 cap5 : Nat) (zs5 : List Int) (v1 : Value) (e1 : List Ent) : Prop where
  new : New w.heap.size w wi
  gl : Gl wi a bb aE
  gx : Gx aF a bb wi
  opt : OptAt wi qo K M Bn
  rowd : LowRow w.heap.size wi a4 len4 cap4 zs4
  rowk : LowRow w.heap.size wi a5 len5 cap5 zs5
  one : EOwn wi v1 e1
theorem Cth.to {aF : Addr} {w : World} {wi : World} {wj : World} {a : Addr} {bb : Addr} {aE : Addr} {qo : Nat} {K : Nat} {M : Nat} {Bn : Nat} {a4 : Option Addr} {len4 : Nat} {cap4 : Nat} {zs4 : List Int} {a5 : Option Addr} {len5 : Nat} {cap5 : Nat} {zs5 : List Int} {v1 : Value} {e1 : List Ent} (h : Cth aF w wi a bb aE qo K M Bn a4 len4 cap4 zs4 a5 len5 cap5 zs5 v1 e1) (hk : New w.heap.size wi wj) : Cth aF w wj a bb aE qo K M Bn a4 len4 cap4 zs4 a5 len5 cap5 zs5 v1 e1 :=
  ⟨keep.New.and h.new hk, h.gl.new hk, h.gx.new hk, h.opt.new hk, lowRow_new h.rowd h.new.size hk, lowRow_new h.rowk h.new.size hk, h.one.new hk⟩
theorem Cth.below {aF : Addr} {w : World} {wi : World} {wj : World} {a : Addr} {bb : Addr} {aE : Addr} {qo : Nat} {K : Nat} {M : Nat} {Bn : Nat} {a4 : Option Addr} {len4 : Nat} {cap4 : Nat} {zs4 : List Int} {a5 : Option Addr} {len5 : Nat} {cap5 : Nat} {zs5 : List Int} {v1 : Value} {e1 : List Ent} (h : Cth aF w wi a bb aE qo K M Bn a4 len4 cap4 zs4 a5 len5 cap5 zs5 v1 e1) (hk : Below wi.heap.size wi wj) : Cth aF w wj a bb aE qo K M Bn a4 len4 cap4 zs4 a5 len5 cap5 zs5 v1 e1 := h.to ((New.refl wi).below hk)
theorem Cth.kept {aF : Addr} {w : World} {wi : World} {wj : World} {a : Addr} {bb : Addr} {aE : Addr} {qo : Nat} {K : Nat} {M : Nat} {Bn : Nat} {a4 : Option Addr} {len4 : Nat} {cap4 : Nat} {zs4 : List Int} {a5 : Option Addr} {len5 : Nat} {cap5 : Nat} {zs5 : List Int} {v1 : Value} {e1 : List Ent} (h : Cth aF w wi a bb aE qo K M Bn a4 len4 cap4 zs4 a5 len5 cap5 zs5 v1 e1) (hk : Kept w.heap.size wi wj) : Cth aF w wj a bb aE qo K M Bn a4 len4 cap4 zs4 a5 len5 cap5 zs5 v1 e1 := h.to ((New.refl wi).kept hk)
end Go.Proofs.YtbjgpfhbdmcbbabGreatDoor.keep

/-
  FACTS for the walk of Cut: one input has one list of reads; what Reset leaves.
-/
namespace Go.Proofs.YtbjgpfhbdmcbbabGreatDoor.parse
open Go.RowKit dnamath dna pieces lines
set_option linter.unusedVariables false

theorem recs_one {q : Bool} {ts : List ByteArray} : ∀ (rs rs' : List (List UInt8)) (k : Nat), Recs q ts k rs → Recs q ts k rs' → rs = rs'
  | [], [], _, _, _ => rfl
  | [], r' :: rs', k, h, ⟨e, h1, _⟩ => by
    have h : k = ts.length := h
    rcases h1 with ⟨_, h2, _⟩ | ⟨_, h2, _, _⟩
    · have := h2.lt; have := h2.le; omega
    · have := h2.le; omega
  | r :: rs, [], k, ⟨e, h1, _⟩, h => by
    have h : k = ts.length := h
    rcases h1 with ⟨_, h2, _⟩ | ⟨_, h2, _, _⟩
    · have := h2.lt; have := h2.le; omega
    · have := h2.le; omega
  | r :: rs, r' :: rs', k, ⟨e, h1, h2⟩, ⟨e', h1', h2'⟩ => by
    have key : e = e' ∧ r = r' := by
      rcases h1 with ⟨hq, a1, a2⟩ | ⟨hq, a1, a2, a3⟩
      · rcases h1' with ⟨_, b1, b2⟩ | ⟨hq', _⟩
        · have he : e = e' := by
            rcases Nat.lt_trichotomy e e' with h | h | h
            · have hl : e < ts.length := Nat.lt_of_lt_of_le h b1.le
              have x1 := a1.stop hl
              rw [good_nohead (b1.good e hl (by have := a1.lt; omega) h)] at x1
              cases x1
            · exact h
            · have hl : e' < ts.length := Nat.lt_of_lt_of_le h a1.le
              have x1 := b1.stop hl
              rw [good_nohead (a1.good e' hl (by have := b1.lt; omega) h)] at x1
              cases x1
          subst he
          exact ⟨rfl, a2.trans b2.symm⟩
        · rw [hq] at hq'; cases hq'
      · rcases h1' with ⟨hq', _⟩ | ⟨_, b1, b2, b3⟩
        · rw [hq] at hq'; cases hq'
        · exact ⟨a2.trans b2.symm, a3.trans b3.symm⟩
    obtain ⟨rfl, rfl⟩ := key
    rw [recs_one rs rs' e h2 h2']
theorem form_one {s : ByteArray} {rs rs' : List (List UInt8)} (h : FormIs s rs) (h' : FormIs s rs') : rs = rs' := by
  rcases h with ⟨e, rfl⟩ | ⟨q, h0, hc, hr, _⟩
  · rcases h' with ⟨_, rfl⟩ | ⟨q, h0, _⟩
    · rfl
    · rw [e] at h0; exact absurd h0 (by decide)
  · rcases h' with ⟨e, _⟩ | ⟨q', h0', hc', hr', _⟩
    · rw [e] at h0; exact absurd h0 (by decide)
    · have hq : q = q' := by
        rw [hc] at hc'
        cases q <;> cases q' <;> first | rfl | exact absurd hc' (by decide)
      subst hq
      have hd : datas ((linesL s.data.toList).map (fun l => (⟨l.toArray⟩ : ByteArray))) = linesL s.data.toList := by simp [datas, Function.comp_def]
      exact recs_one _ _ _ (hr _ hd) (hr' _ hd)
end Go.Proofs.YtbjgpfhbdmcbbabGreatDoor.parse
namespace Go.Proofs.YtbjgpfhbdmcbbabGreatDoor.keep
open Go.RowKit dnamath dna diskm disk hex pieces files parse words kinds jobs base fill
set_option linter.unusedVariables false

theorem only_ready {A A' : List UInt8 → DFile → Prop} {S : DS} {N : Nat} (h : Ready A S N) (ho : OnlyD S.now) : Ready A' S N :=
  ⟨⟨⟨h.live.sound.sane, h.dirs (fun x hx => .inl (ho x hx))⟩, h.live.ok, h.live.wait, h.live.cap⟩, h.safe, h.steps, .inr ho⟩
theorem plan_last {k : List UInt8} (h : k = draftB.toList ∨ k ∈ names18) : ¬ planB.toList < k := by
  rcases h with rfl | h
  · rw [Lib.toList_data, Lib.toList_data]; decide
  · unfold names18 at h
    rw [List.mem_cons, List.mem_cons] at h
    rcases h with rfl | rfl | h
    · exact List.lt_irrefl _
    · rw [Lib.toList_data, Lib.toList_data]; decide
    · obtain ⟨i, _, rfl⟩ := List.mem_map.1 h
      rw [nameB_list]
      have e : planB.toList = [112, 108, 97, 110] := by rw [Lib.toList_data]; rfl
      rw [e]
      intro hlt
      rw [List.cons_lt_cons_iff] at hlt
      rcases hlt with h1 | ⟨h1, _⟩
      · exact absurd h1 (by decide)
      · exact absurd h1 (by decide)
theorem reset_keep {K M Bn : Nat} {T R : ByteArray} {rs : List (List UInt8)} {S : DS} (hs : Sound (Allow K M Bn T R rs) draftB S) (k : Nat) (n : ByteArray) (hn : (listOf S)[k]? = some n) (D : List DName) (hD : Sorted D) (hg : ∀ m ∈ (listOf S).take k, ∀ x ∈ D, key x ≠ m.toList) (hQ : (∀ x ∈ D, x ∈ S.now) ∧ (HasK planB D ∨ OnlyD D)) :
    (∀ x ∈ doL D ⟨3, n, ByteArray.empty, 0⟩, x ∈ S.now) ∧ (HasK planB (doL D ⟨3, n, ByteArray.empty, 0⟩) ∨ OnlyD (doL D ⟨3, n, ByteArray.empty, 0⟩)) := by
  have dr := (doL_rm (s := ⟨3, n, ByteArray.empty, 0⟩) hD rfl).2
  refine ⟨fun x hx => hQ.1 x ((dr x).1 hx).1, ?_⟩
  rcases hQ.2 with ⟨x0, hx0, e0⟩ | ho
  · by_cases hp : n.toList = planB.toList
    · refine .inr (fun x hx => ?_)
      exfalso
      obtain ⟨h1, h2⟩ := (dr x).1 hx
      have h2 : key x ≠ planB.toList := by rw [← hp]; exact h2
      have hl : listOf S = S.now.map (·.name) := by
        unfold listOf at hn ⊢
        split
        · rename_i hd
          rw [if_pos hd] at hn
          simp at hn
        · rfl
      rw [hl] at hn hg
      obtain ⟨i, hi⟩ := List.getElem?_of_mem (hQ.1 x h1)
      have hki : ¬ i < k := fun hlt => hg x.name (List.mem_of_getElem? (i := i) (by rw [List.getElem?_take_of_lt hlt, List.getElem?_map, hi]; rfl)) x h1 rfl
      rw [List.getElem?_map] at hn
      obtain ⟨y, hy, hyn⟩ := Option.map_eq_some_iff.1 hn
      have hne : i ≠ k := fun e => by
        subst e
        rw [hi] at hy
        cases hy
        exact h2 (by show x.name.toList = _; rw [hyn, hp])
      have hso := hs.sane.cur.1
      have hlt : key y < key x := by
        have l1 : (S.now.map key)[k]? = some (key y) := by rw [List.getElem?_map, hy]; rfl
        have l2 : (S.now.map key)[i]? = some (key x) := by rw [List.getElem?_map, hi]; rfl
        obtain ⟨g1, e1⟩ := List.getElem?_eq_some_iff.1 l1
        obtain ⟨g2, e2⟩ := List.getElem?_eq_some_iff.1 l2
        have := List.pairwise_iff_getElem.1 hso k i g1 g2 (by omega)
        rw [e1, e2] at this
        exact this
      have hky : key y = planB.toList := by show y.name.toList = _; rw [hyn, hp]
      rw [hky] at hlt
      refine plan_last ?_ hlt
      rcases hs.okay.now hs.sane x (hQ.1 x h1) with h9 | ⟨f, h9, _⟩
      · exact .inl h9
      · exact .inr (allow_key h9)
    · exact .inl ⟨x0, (dr x0).2 ⟨hx0, by rw [e0]; exact fun e => hp e.symm⟩, e0⟩
  · exact .inr (fun x hx => ho x ((dr x).1 hx).1)

set_option maxHeartbeats 1000000 in
set_option maxRecDepth 100000 in
theorem Reset_w {aF : Addr} {Bo : Nat} (K M Bn : Nat) (T R : ByteArray) (rs : List (List UInt8)) (p : Nat) (S : DS) (N : Nat) (w : World) (hD : Disk Bo w p S) (hR : Ready (Allow K M Bn T R rs) S N) (hN : N ≤ 20000) (hf : FailIs aF w) (hty : TypeIs w) (hgt : ∃ cs T fz, w.heap[4]? = some (.cells cs T fz) ∧ T ≠ 63 ∧ T ≠ 82 ∧ T ≠ 84 ∧ T ≠ 79) :
    Calls Tryz.prog 18 #[.pointer (some ⟨p, 0, none⟩)] w fun e w' => ∃ n S', e = .returned (.int .i64 n) ∧ Disk Bo w' p S' ∧ (Live (Allow K M Bn T R rs) draftB S' (N + 58) ∧ AllDirs S' (fun D => HasK planB D ∨ OnlyD D)) ∧ Kept Bo w w' := by
  have hnl : (listOf S).length ≤ 19 := Nat.le_trans (list_len S) (sound_len hR.live.sound)
  have cr : Calls Tryz.prog 29 #[.pointer (some ⟨p, 0, none⟩)] w fun e w' => ∃ u S', e = .returned u ∧ (u = .nilIface ∨ DiskErr aF w' u) ∧ Disk Bo w' p S' ∧ (Live (Allow K M Bn T R rs) draftB S' (N + 58) ∧ AllDirs S' (fun D => HasK planB D ∨ OnlyD D)) ∧ Kept Bo w w' := by
    have cl := List_any p S N w hD hR.live.ok (by omega)
    have HD : Hid (Disk Bo w p S ∧ Ready (Allow K M Bn T R rs) S N ∧ FailIs aF w) := ⟨hD, hR, hf⟩
    clear hD hR hf hty hgt
    go_enter Tryz.func29, Tryz.ntmps29
    go_wp2_with fail
    refine cl.mono ?_
    rintro e w1 ⟨v, rfl, own1, b1⟩
    obtain ⟨aV, cV, hv⟩ := own_slice own1
    subst hv
    have ca := RemoveAll_w (Allow K M Bn T R rs) (fun _ => True) (fun D => (∀ x ∈ D, x ∈ S.now) ∧ (HasK planB D ∨ OnlyD D)) p S N (.slice aV (listOf S).length cV) (listOf S) w1 (HD.out.1.below b1) HD.out.2.1.live (fun n hn => .inr trivial) (by omega) (words.own_lower own1 (Nat.zero_le _)) (HD.out.2.2.below b1) (HD.out.2.1.dirs ⟨fun x hx => hx, HD.out.2.1.plan⟩) (reset_keep HD.out.2.1.live.sound)
    have hk1 : Hid (Kept Bo w w1) := Kept.ofBelow b1
    clear cl own1 b1
    go_wp2_with fail
    refine ca.mono ?_
    rintro e w2 ⟨⟨rfl, S', d2, r2, _, _, q2⟩ | ⟨u, S', rfl, hu, d2, c2, q2⟩, k2⟩
    · have HU : Hid (Disk Bo w2 p S' ∧ (Live (Allow K M Bn T R rs) draftB S' (N + 58) ∧ AllDirs S' (fun D => HasK planB D ∨ OnlyD D)) ∧ Kept Bo w w2) := ⟨d2, ⟨r2.live.mono (by omega), q2.mono (fun D h => h.2)⟩, hk1.out.trans k2⟩
      clear ca d2 r2 k2 q2
      go_wp2
      go_ret
      exact ⟨_, S', rfl, .inl rfl, HU.out⟩
    · have HU : Hid (Disk Bo w2 p S' ∧ (Live (Allow K M Bn T R rs) draftB S' (N + 58) ∧ AllDirs S' (fun D => HasK planB D ∨ OnlyD D)) ∧ Kept Bo w w2) := ⟨d2, ⟨(c2 (fun _ => True)).live.mono (by omega), q2.mono (fun D h => h.2)⟩, hk1.out.trans k2⟩
      obtain ⟨eb, s, a, hve, hb⟩ := hu
      subst hve
      clear ca d2 c2 k2 q2
      go_wp2
      go_ret
      exact ⟨_, S', rfl, .inr ⟨eb, s, a, rfl, hb⟩, HU.out⟩
  have HT : Hid (TypeIs w ∧ ∃ cs T fz, w.heap[4]? = some (.cells cs T fz) ∧ T ≠ 63 ∧ T ≠ 82 ∧ T ≠ 84 ∧ T ≠ 79) := ⟨hty, hgt⟩
  clear hD hR hf hty hgt
  go_enter Tryz.func18, Tryz.ntmps18
  go_wp2_with fail
  refine cr.mono ?_
  rintro e w1 ⟨u, S', rfl, hu, d1, t1, k1⟩
  clear cr
  rcases hu with rfl | ⟨eb, s, a, rfl, hb⟩
  · go_wp2_with fail
    refine (jobs.Number_nil w1).mono ?_
    rintro e w2 ⟨rfl, hw2⟩
    have hw2' := hw2.symm
    subst hw2'
    clear hw2
    go_wp2
    go_ret
    exact ⟨_, S', rfl, d1, t1, k1⟩
  · have hty1 : TypeIs w1 := by
      obtain ⟨cs, T, fz, h1, h2⟩ := HT.out.2
      have h3 := HT.out.1
      unfold TypeIs at h3 ⊢
      rw [← h3]
      unfold World.cell?
      rw [g_keep k1 h1 h2, h1]
    have cn := Number_any eb 8 w1 hty1 (st_cell hb 0)
    clear hty1 hb
    go_wp2_with fail
    refine cn.mono ?_
    rintro e w2 ⟨rfl, b2⟩
    clear cn
    go_wp2
    go_ret
    exact ⟨_, S', rfl, d1.below b2, t1, k1.trans (.ofBelow b2)⟩

/-- what the walk of Cut carries along -/
structure Ctz (aF : Addr) (w wi : World) (a bb aE : Addr) (qo K M Bn : Nat) (a0 : Option Addr) (len cap : Nat) (zs : List Int) (v1 : Value) (e1 : List Ent) (v2 : Value) (e2 : List Ent) : Prop where
  c : Ctx aF w wi a bb aE qo K M Bn a0 len cap zs
  gx : Gx aF a bb wi
  one : EOwn wi v1 e1
  two : EOwn wi v2 e2
theorem Ctz.to {aF : Addr} {w : World} {wi : World} {wj : World} {a : Addr} {bb : Addr} {aE : Addr} {qo : Nat} {K : Nat} {M : Nat} {Bn : Nat} {a0 : Option Addr} {len : Nat} {cap : Nat} {zs : List Int} {v1 : Value} {v2 : Value} {e1 : List Ent} {e2 : List Ent} (h : Ctz aF w wi a bb aE qo K M Bn a0 len cap zs v1 e1 v2 e2) (hk : New w.heap.size wi wj) : Ctz aF w wj a bb aE qo K M Bn a0 len cap zs v1 e1 v2 e2 := ⟨h.c.to hk, h.gx.new hk, h.one.new hk, h.two.new hk⟩
theorem Ctz.below {aF : Addr} {w : World} {wi : World} {wj : World} {a : Addr} {bb : Addr} {aE : Addr} {qo : Nat} {K : Nat} {M : Nat} {Bn : Nat} {a0 : Option Addr} {len : Nat} {cap : Nat} {zs : List Int} {v1 : Value} {v2 : Value} {e1 : List Ent} {e2 : List Ent} (h : Ctz aF w wi a bb aE qo K M Bn a0 len cap zs v1 e1 v2 e2) (hk : Below wi.heap.size wi wj) : Ctz aF w wj a bb aE qo K M Bn a0 len cap zs v1 e1 v2 e2 := h.to ((New.refl wi).below hk)
theorem Ctz.kept {aF : Addr} {w : World} {wi : World} {wj : World} {a : Addr} {bb : Addr} {aE : Addr} {qo : Nat} {K : Nat} {M : Nat} {Bn : Nat} {a0 : Option Addr} {len : Nat} {cap : Nat} {zs : List Int} {v1 : Value} {v2 : Value} {e1 : List Ent} {e2 : List Ent} (h : Ctz aF w wi a bb aE qo K M Bn a0 len cap zs v1 e1 v2 e2) (hk : Kept w.heap.size wi wj) : Ctz aF w wj a bb aE qo K M Bn a0 len cap zs v1 e1 v2 e2 := h.to ((New.refl wi).kept hk)
theorem well_not_cut {A : List UInt8 → DFile → Prop} {S S' : DS} {N : Nat} (h : CutR A S S' N) (hf : S.life = -1) : False := by
  have := h.mort (by rw [h.dead]; decide)
  rw [hf] at this
  exact absurd this (by decide)
theorem well_alive {A : List UInt8 → DFile → Prop} {S S' : DS} {N : Nat} (h : WellR A S S' N) (hf : S.life = -1) : S'.dead = false := by
  refine alive (fun e => ?_)
  have := h.mort (by rw [e]; decide)
  rw [hf] at this
  exact absurd this (by decide)
theorem well_counts {K M Bn : Nat} {T R : ByteArray} {rs : List (List UInt8)} {S S' : DS} {N : Nat} (h : WellR (Allow K M Bn T R rs) S S' N) : ∃ es : List Ent, S'.look countsB = some (wholeF (countsZ R K es)) ∧ TallyOf (wordsOf K rs) (es.map cv) := by
  obtain ⟨f, hl, hA⟩ := has_look h.live draft_counts (h.counts.now h.live.sound.sane)
  obtain ⟨es, rfl, ht⟩ := allow_counts hA
  exact ⟨es, hl, ht⟩
end Go.Proofs.YtbjgpfhbdmcbbabGreatDoor.keep
