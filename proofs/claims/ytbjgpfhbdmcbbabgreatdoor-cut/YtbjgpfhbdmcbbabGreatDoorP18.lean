import Derived.Test.YtbjgpfhbdmcbbabGreatDoorP17
import Derived.Laws.AppendOwnNone
import Derived.Laws.MakeOwn
import Derived.Test.YtbjgpfhbdmcbbabGreatDoorP16
import Derived.Test.YtbjgpfhbdmcbbabGreatDoorP11

/-
  CONTRACTS of package disk: Copy.
-/
namespace Go.Proofs.YtbjgpfhbdmcbbabGreatDoor.disk
open Go.RowKit dnamath dna diskm
set_option linter.unusedVariables false

/-- a list is copied into a new one -/
theorem wpList_copy {P : Program} {w : World} {ops : Array Oper} {rest : List Oper} {o : Oper} {a : Act} {Q : Exit → Act → World → Prop} (hgd : o.guard = none) (s x : Operand) (t : TypeId)
    (ho : o.op = .call { callee := .builtin .append, args := #[s, x], argTypes := #[t, t] })
    (e : TypeId) (i : TypeInfo) (z : Value) (size bytes : Nat) (ht : P.underlying t = some (.slice e)) (hi : P.info? e = some i) (hz : i.zero = some z)
    (hsize : i.size = size) (hby : i.bytes = bytes) (hzs : z.cells.size = size) (hsz : 0 < size)
    (hs : a.eval s = .slice none 0 0) (v : Value) (n : Nat) (xs : List Value) (hx : a.eval x = v) {bs : Nat} (hown : w.ownsRow bs e size v n xs) (h1 : ∀ u ∈ xs, u.oneCell' = true)
    (h63 : n ≤ maxLen) (hbytes : n * bytes ≤ 140737488355328) (rb : Nat) (hrb : rb ≤ w.heap.size)
    (h : ∀ v' w', w'.ownsRow rb e size v' n xs → w.grownBy w' none → wpList P ops Q rest (a.put o.dst v') w') : wpList P ops Q (o :: rest) a w := by
  rcases hown.2 with ⟨rfl, rfl⟩ | ⟨g, cap, cur, rfl, hg, hh, hr⟩
  · have hx0 : xs = [] := List.eq_nil_of_length_eq_zero (by rw [hown.1]; simp)
    subst hx0
    exact wpList_append_own_none hgd s x t ho rb e i size ht hi _ 0 [] hs (World.ownsRow_nil _ _ _ _) hx (h _ _ (World.ownsRow_nil _ _ _ _) (grown_refl _ _))
  · refine wpList_append_own _ hgd s x t ho rb e i z size bytes ht hi hz hsize hby hzs hsz (.slice none 0 0) 0 [] hs (World.ownsRow_nil _ _ _ _) ⟨g, 0, none⟩ n cap xs hx hown.1 (own_news hown) h1 (by omega) (by rw [Nat.zero_add]; exact hbytes) hrb ?_
    intro v' w' h1 h2 _
    rw [Nat.zero_add, List.nil_append] at h1
    exact h v' w' h1 h2

theorem tk_new {e : TypeId} {w w' : World} (h : w.grownBy w' none) : TK e w w' := fun k cs fz hk => h.block k (lt_of_block hk) (fun e => by cases e)
theorem below_new {w w' : World} (h : w.grownBy w' none) : Below w.heap.size w w' := ⟨h.os, h.tape, h.output, h.size, fun k hk => h.block k hk (fun e => by cases e)⟩

theorem set_other {Bo : Nat} {w : World} {p q j : Nat} {S : DS} {vF vN vS vT u : Value} {cs : Array Value} {fz : Nat × Nat} (h : DiskAt Bo w p S vF vN vS vT) (hq : w.heap[q]? = some (.cells cs 63 fz)) (hpq : p ≠ q) : DiskAt Bo (w.setCell ⟨q, j, none⟩ u) p S vF vN vS vT :=
  ⟨(Below.heap_setCell _ _ _ _ hpq).trans h.st, row_keep h.files (TK.set hq (by decide)), row_keep h.now (TK.set hq (by decide)), row_keep h.safe (TK.set hq (by decide)), row_keep h.steps (TK.set hq (by decide)), h.p0⟩

set_option maxHeartbeats 2000000 in
set_option maxRecDepth 100000 in
theorem Copy_any {Bo : Nat} (p : Nat) (S : DS) (N : Nat) (w : World) (hD : Disk Bo w p S) (ho : S.Ok N) (hN : N ≤ 100000) :
    Calls Tryz.prog 13 #[.pointer (some ⟨p, 0, none⟩)] w fun e w' => ∃ q, e = .returned (.pointer (some ⟨q, 0, none⟩)) ∧ Disk Bo w' q S ∧ Below w.heap.size w w' := by
  obtain ⟨vF, vN, vS, vT, h⟩ := hD
  obtain ⟨i0, hi, hz0, hz1, hz2⟩ := info_parts infoF
  obtain ⟨j0, hj, hy0, hy1, hy2⟩ := info_parts infoT
  obtain ⟨k0, hk, hx0, hx1, hx2⟩ := info_parts infoN
  have hnl := Nat.le_trans ho.nl hN
  have hfl := Nat.le_trans ho.fl hN
  have htl := Nat.le_trans ho.tl hN
  have hsl := Nat.le_trans ho.sl hN
  obtain ⟨aF, cF, rfl⟩ := own_slice h.files
  obtain ⟨aN, cN, rfl⟩ := own_slice h.now
  obtain ⟨aS, cS, rfl⟩ := own_slice h.safe
  obtain ⟨aT, cT, rfl⟩ := own_slice h.steps
  have hc0 := st_cell h.st 0
  change w.cell? ⟨p, 0, none⟩ = some (.int .i64 S.cap) at hc0
  have hc1 := st_cell h.st 1
  change w.cell? ⟨p, 1, none⟩ = some (.slice aF S.files.length cF) at hc1
  have hc2 := st_cell h.st 2
  change w.cell? ⟨p, 2, none⟩ = some (.slice aN S.now.length cN) at hc2
  have hc3 := st_cell h.st 3
  change w.cell? ⟨p, 3, none⟩ = some (.slice aS S.safe.length cS) at hc3
  have hc4 := st_cell h.st 4
  change w.cell? ⟨p, 4, none⟩ = some (.slice aT S.steps.length cT) at hc4
  have hc5 := st_cell h.st 5
  change w.cell? ⟨p, 5, none⟩ = some (.int .i64 S.wait) at hc5
  have hc6 := st_cell h.st 6
  change w.cell? ⟨p, 6, none⟩ = some (.int .i64 S.life) at hc6
  have hc7 := st_cell h.st 7
  change w.cell? ⟨p, 7, none⟩ = some (.int .i64 (S.failed : Int)) at hc7
  have hpl : p < w.heap.size := lt_of_block h.st
  have hpq : p ≠ w.heap.size := Nat.ne_of_lt hpl
  obtain ⟨O, hO⟩ : ∃ O : Obj, O = .cells #[.int .i64 S.cap, .slice aF S.files.length cF, .slice aN S.now.length cN, .slice aS S.safe.length cS, .slice aT S.steps.length cT, .int .i64 S.wait, .int .i64 S.life, .int .i64 (S.failed : Int)] 63 := ⟨_, rfl⟩
  have h1 : DiskAt Bo (w.alloc (.cells #[.int .i64 S.cap, .slice aF S.files.length cF, .slice aN S.now.length cN, .slice aS S.safe.length cS, .slice aT S.steps.length cT, .int .i64 S.wait, .int .i64 S.life, .int .i64 (S.failed : Int)] 63)) p S _ _ _ _ := h.below ((Below.refl _ w).alloc (Nat.le_refl _) _)
  have q1s := heap_alloc_new w (.cells #[.int .i64 S.cap, .slice aF S.files.length cF, .slice aN S.now.length cN, .slice aS S.safe.length cS, .slice aT S.steps.length cT, .int .i64 S.wait, .int .i64 S.life, .int .i64 (S.failed : Int)] 63)
  have hm1 : ∀ o, (w.alloc o).cell? ⟨p, 1, none⟩ = some (.slice aF S.files.length cF) := fun o => (World.cell?_alloc_old _ _ _ hpq).trans hc1
  go_enter Tryz.func13, Tryz.ntmps13
  go_wp2_with (first | (at_builtin; refine wpList_copy rfl (.const (.slice none 0 0)) (.tmp 10) 59 rfl 82 i0 (.agg #[.string ByteArray.empty, .int .i64 0]) 2 24 Tryz.underlying59 hi hz0 hz1 hz2 rfl (by decide) rfl _ _ _ rfl h1.files (one_fcells _) (by unfold maxLen; omega) (by omega) Bo (Nat.le_trans h.p0 (Nat.le_of_lt (lt_of_block h1.st))) ?_; intro vF1 w2 oF g2; obtain ⟨aF1, cF1, rfl⟩ := own_slice oF; have q2 := (g2.block w.heap.size (lt_of_block q1s) (by simp)).trans q1s; have e2 := h1.below (below_new g2); have d1 := set_other (j := 1) (u := .slice aF1 S.files.length cF1) e2 q2 hpq; have q2s := heap_setCell_same w2 w.heap.size 1 _ _ (.slice aF1 S.files.length cF1) q2; have s1 := st_cell q2 1; have z1 := st_frozen q2 1; have hl02 : w2.cell? ⟨p, 2, none⟩ = some (.slice aN S.now.length cN) := st_cell e2.st 2; have hl03 : w2.cell? ⟨p, 3, none⟩ = some (.slice aS S.safe.length cS) := st_cell e2.st 3; have hl04 : w2.cell? ⟨p, 4, none⟩ = some (.slice aT S.steps.length cT) := st_cell e2.st 4) | (at_builtin; refine wpList_copy rfl (.const (.slice none 0 0)) (.tmp 16) 60 rfl 84 k0 (.agg #[.string ByteArray.empty, .int .i64 0]) 2 24 Tryz.underlying60 hk hx0 hx1 hx2 rfl (by decide) rfl _ _ _ rfl d1.now (one_ncells _) (by unfold maxLen; omega) (by omega) 0 (Nat.zero_le _) ?_; intro vN1 w3 oN g3; obtain ⟨aN1, cN1, rfl⟩ := own_slice oN; have q3 := (g3.block w.heap.size (lt_of_block q2s) (by simp)).trans q2s; have e3 := d1.below (below_new g3); have d2 := set_other (j := 2) (u := .slice aN1 S.now.length cN1) e3 q3 hpq; have q3s := heap_setCell_same w3 w.heap.size 2 _ _ (.slice aN1 S.now.length cN1) q3; have s2 := st_cell q3 2; have z2 := st_frozen q3 2; have hl13 : w3.cell? ⟨p, 3, none⟩ = some (.slice aS S.safe.length cS) := st_cell e3.st 3; have hl14 : w3.cell? ⟨p, 4, none⟩ = some (.slice aT S.steps.length cT) := st_cell e3.st 4) | (at_builtin; refine wpList_copy rfl (.const (.slice none 0 0)) (.tmp 22) 60 rfl 84 k0 (.agg #[.string ByteArray.empty, .int .i64 0]) 2 24 Tryz.underlying60 hk hx0 hx1 hx2 rfl (by decide) rfl _ _ _ rfl d2.safe (one_ncells _) (by unfold maxLen; omega) (by omega) 0 (Nat.zero_le _) ?_; intro vS1 w4 oS g4; obtain ⟨aS1, cS1, rfl⟩ := own_slice oS; have q4 := (g4.block w.heap.size (lt_of_block q3s) (by simp)).trans q3s; have e4 := d2.below (below_new g4); have d3 := set_other (j := 3) (u := .slice aS1 S.safe.length cS1) e4 q4 hpq; have q4s := heap_setCell_same w4 w.heap.size 3 _ _ (.slice aS1 S.safe.length cS1) q4; have s3 := st_cell q4 3; have z3 := st_frozen q4 3; have hl24 : w4.cell? ⟨p, 4, none⟩ = some (.slice aT S.steps.length cT) := st_cell e4.st 4) | (at_builtin; refine wpList_copy rfl (.const (.slice none 0 0)) (.tmp 28) 61 rfl 79 j0 (.agg #[.int .i64 0, .string ByteArray.empty, .string ByteArray.empty, .int .i64 0]) 4 48 Tryz.underlying61 hj hy0 hy1 hy2 rfl (by decide) rfl _ _ _ rfl d3.steps (one_tcells _) (by unfold maxLen; omega) (by omega) Bo (Nat.le_trans h.p0 (Nat.le_of_lt (lt_of_block d3.st))) ?_; intro vT1 w5 oT g5; obtain ⟨aT1, cT1, rfl⟩ := own_slice oT; have q5 := (g5.block w.heap.size (lt_of_block q4s) (by simp)).trans q4s; have e5 := d3.below (below_new g5); have d4 := set_other (j := 4) (u := .slice aT1 S.steps.length cT1) e5 q5 hpq; have q5s := heap_setCell_same w5 w.heap.size 4 _ _ (.slice aT1 S.steps.length cT1) q5; have s4 := st_cell q5 4; have z4 := st_frozen q5 4))
  go_ret
  refine ⟨_, rfl, ⟨_, _, _, _, q5s, row_keep oF ((((TK.set q2 (by decide)).trans ((tk_new g3).trans (TK.set q3 (by decide)))).trans ((tk_new g4).trans (TK.set q4 (by decide)))).trans ((tk_new g5).trans (TK.set q5 (by decide)))), row_keep oN (((TK.set q3 (by decide)).trans ((tk_new g4).trans (TK.set q4 (by decide)))).trans ((tk_new g5).trans (TK.set q5 (by decide)))), row_keep oS ((TK.set q4 (by decide)).trans ((tk_new g5).trans (TK.set q5 (by decide)))), row_keep oT (TK.set q5 (by decide)), Nat.le_trans h.p0 (Nat.le_of_lt hpl)⟩, ?_⟩
  have b1 : Below w.heap.size w (w.alloc (.cells #[.int .i64 S.cap, .slice aF S.files.length cF, .slice aN S.now.length cN, .slice aS S.safe.length cS, .slice aT S.steps.length cT, .int .i64 S.wait, .int .i64 S.life, .int .i64 (S.failed : Int)] 63)) := (Below.refl _ w).alloc (Nat.le_refl _) _
  have b2 := (b1.trans ((below_new g2).mono b1.size)).setCell (p := ⟨w.heap.size, 1, none⟩) (Nat.le_refl _) (.slice aF1 S.files.length cF1)
  have b3 := (b2.trans ((below_new g3).mono b2.size)).setCell (p := ⟨w.heap.size, 2, none⟩) (Nat.le_refl _) (.slice aN1 S.now.length cN1)
  have b4 := (b3.trans ((below_new g4).mono b3.size)).setCell (p := ⟨w.heap.size, 3, none⟩) (Nat.le_refl _) (.slice aS1 S.safe.length cS1)
  exact (b4.trans ((below_new g5).mono b4.size)).setCell (p := ⟨w.heap.size, 4, none⟩) (Nat.le_refl _) (.slice aT1 S.steps.length cT1)
end Go.Proofs.YtbjgpfhbdmcbbabGreatDoor.disk

/-
  CONTRACTS of package quern: list.take.
-/
namespace Go.Proofs.YtbjgpfhbdmcbbabGreatDoor.kinds
open Go.RowKit dnamath dna diskm disk keep hex pieces files parse words
set_option linter.unusedVariables false

theorem WK.grown {Bo : Nat} {b : Nat} {w W w6 : World} {r : Option Nat} (h : WK Bo b w W) (hg : W.grownBy w6 r) (hr : ∀ g, r = some g → w.heap.size ≤ g) : WK Bo b w w6 :=
  ⟨hg.os.trans h.os, hg.tape.trans h.tape, hg.output.trans h.output, Nat.le_trans h.size hg.size, fun k hk hb hn => (hg.block k (Nat.lt_of_lt_of_le hk h.size) (fun e => by have := hr k e.symm; omega)).trans (h.block k hk hb hn), fun k hk hl hb => (hg.block k (Nat.lt_of_lt_of_le hk h.size) (fun e => by have := hr k e.symm; omega)).trans (h.low k hk hl hb)⟩

/-- entries being read -/
structure TakeS (Bo : Nat) (w : World) (b : Nat) (cs : Array Value) (lv : Value) (ts : List ByteArray) (es : List Ent) (wr : World) (j : Nat) (ev : Value) : Prop where
  blk : wr.heap[b]? = some (.cells (cs.setIfInBounds 7 ev) 105 (0, 0))
  own : wr.ownsRow w.heap.size 58 2 ev j (ecells (es.take j))
  lines : wr.ownsRow w.heap.size 9 1 lv ts.length (scells ts)
  wk : WK Bo b w wr
theorem TakeS.later {Bo : Nat} {w : World} {b : Nat} {cs : Array Value} {lv : Value} {ts : List ByteArray} {es : List Ent} {wr wr' : World} {j : Nat} {ev : Value} (h : TakeS Bo w b cs lv ts es wr j ev) (hb : Below wr.heap.size wr wr') : TakeS Bo w b cs lv ts es wr' j ev :=
  ⟨(hb.block b (lt_of_block h.blk)).trans h.blk, row_keepB h.own (TK.below hb), row_keepB h.lines (TK.below hb), h.wk.trans (WK.ofBelow hb)⟩
theorem TakeS.put {Bo : Nat} {w : World} {b : Nat} {cs : Array Value} {lv : Value} {ts : List ByteArray} {es : List Ent} {W w6 : World} {j : Nat} {ev ev' : Value} {o : Obj} {x : Ent} (h : TakeS Bo w b cs lv ts es W j ev) (hx : es[j]? = some x)
    (own' : w6.ownsRow w.heap.size 58 2 ev' (j + 1) (ecells (es.take j) ++ [.string x.1, .int .i64 (x.2 : Int)])) (hg : (W.alloc o).grownBy w6 ev.ownBlock) :
    w6.heap[b]? = some (.cells (cs.setIfInBounds 7 ev) 105 (0, 0)) ∧ TakeS Bo w b cs lv ts es (w6.setCell ⟨b, 7, none⟩ ev') (j + 1) ev' := by
  have tk : ∀ e', 58 ≠ e' → TK e' W w6 := fun e' he => (TK.alloc o).trans (TK.grown hg (own_kind_alloc h.own o) he)
  have hp6 := (tk 105 (by decide) b _ _ h.blk).trans h.blk
  refine ⟨hp6, ?_, ?_, ?_, ?_⟩
  · have := heap_setCell_same w6 b 7 _ _ ev' hp6
    rw [this, Array.setIfInBounds_setIfInBounds]
  · have e : ecells (es.take (j + 1)) = ecells (es.take j) ++ [.string x.1, .int .i64 (x.2 : Int)] := by
      rw [List.take_add_one, hx]; rw [ecells_append]; rfl
    rw [e]
    exact row_keepB own' (TK.set hp6 (by decide))
  · exact row_keepB h.lines ((tk _ (by decide)).trans (TK.set hp6 (by decide)))
  · exact (WK.grown (h.wk.trans (WK.ofBelow ((Below.refl _ W).alloc (Nat.le_refl _) o))) hg (fun g hgg => (h.own.lt g hgg).1)).trans (WK.set _)

set_option maxHeartbeats 4000000 in
set_option maxRecDepth 100000 in
theorem take_any {Bo : Nat} (b : Nat) (cs : Array Value) (text : ByteArray) (k : Nat) (es : List Ent) (w : World) (hblk : w.heap[b]? = some (.cells cs 105 (0, 0))) (h6 : cs[6]? = some (.int .i64 (k : Int))) (h7 : ∃ v7, cs[7]? = some v7)
    (hz : text.size ≤ 1000000) (hln : linesQ text.data.toList = es.map line0) (hes : ∀ x ∈ es, x.1.data.toList.all isB = true ∧ x.1.size = k ∧ x.2 ≤ 1000000) (hk1 : 1 ≤ k) (hk2 : k ≤ 1000) (hel : es.length ≤ 100000) :
    Calls Tryz.prog 67 #[.pointer (some ⟨b, 0, none⟩), .string text] w fun e w' => ∃ ev, e = .returned .nilIface ∧ w'.heap[b]? = some (.cells (cs.setIfInBounds 7 ev) 105 (0, 0)) ∧ w'.ownsRow w.heap.size 58 2 ev es.length (ecells es) ∧ WK Bo b w w' := by
  obtain ⟨j0, hj, hy0, hy1, hy2⟩ := info_parts infoEn
  obtain ⟨v7, h7⟩ := h7
  have cl := linesOf_q text w hz
  have HES : Hid (∀ x ∈ es, x.1.data.toList.all isB = true ∧ x.1.size = k ∧ x.2 ≤ 1000000) := hes
  have HB : Hid (w.heap[b]? = some (.cells cs 105 (0, 0))) := hblk
  have H6 : Hid (cs[6]? = some (.int .i64 (k : Int))) := h6
  have H7 : Hid (cs[7]? = some v7) := h7
  rw [hln] at cl
  clear hes hblk h6 h7 hln
  go_enter Tryz.func67, Tryz.ntmps67
  go_upto_region 2 with (go_at_call 100; go_must (refine cl.mono ?_; rintro e w1 ⟨lv, ts, rfl, own1, hd1, hl1, b1⟩; obtain ⟨aL, cL, hlv⟩ := own_slice own1; subst hlv))
  have htl : ts.length = es.length := by have := congrArg List.length hd1; simpa [datas] using this
  obtain ⟨n, hn⟩ : ∃ n, n = ts.length := ⟨_, rfl⟩
  have hnl : n ≤ 100000 := by omega
  obtain ⟨w2, hmk, own2, gr2⟩ := run_make_own (P := Tryz.prog) (w := w1) w.heap.size 30 58 j0 (.agg #[.string ByteArray.empty, .int .i64 0]) 2 Tryz.underlying30 hj hy0 hy1 .i64 .i64 n (by rw [hy2]; omega) (by unfold maxLen; omega) b1.size
  have b2 : Below w1.heap.size w1 w2 := below_new gr2
  have q2 : w2.heap[b]? = some (.cells cs 105 (0, 0)) := (b2.block b (Nat.lt_of_lt_of_le (lt_of_block HB.out) b1.size)).trans ((b1.block b (lt_of_block HB.out)).trans HB.out)
  have T0 : TakeS Bo w b cs (.slice aL ts.length cL) ts es (w2.setCell ⟨b, 7, none⟩ (.slice (some ⟨w1.heap.size, 0, none⟩) 0 n)) 0 (.slice (some ⟨w1.heap.size, 0, none⟩) 0 n) := by
    have hs := heap_setCell_same w2 b 7 _ _ (Value.slice (some ⟨w1.heap.size, 0, none⟩) 0 n) q2
    exact ⟨hs, row_keepB own2 (TK.set q2 (by decide)), row_keepB own1 ((TK.below b2).trans (TK.set q2 (by decide))), (WK.ofBelow b1).trans ((WK.ofBelow b2).trans (WK.set _))⟩
  have HT0 : Hid (TakeS Bo w b cs (.slice aL ts.length cL) ts es (w2.setCell ⟨b, 7, none⟩ (.slice (some ⟨w1.heap.size, 0, none⟩) 0 n)) 0 (.slice (some ⟨w1.heap.size, 0, none⟩) 0 n)) := T0
  have c7 : w2.cell? ⟨b, 7, none⟩ = some v7 := (st_cell q2 _).trans H7.out
  have f7 := st_frozen q2 7
  have HD : Hid (datas ts = es.map line0) := hd1
  have HTL : Hid (ts.length = es.length) := htl
  rw [← hn] at HT0 ⊢
  have HN : Hid (n = ts.length) := hn
  clear own1 own2 gr2 b1 b2 q2 T0 cl hd1 htl hn hl1
  go_wp2_with fail
  clear hmk c7 f7
  go_loopw [20] (fun i wr => ∃ (j : Nat) (ev : Value), i = .int .i64 (j : Int) ∧ j ≤ n ∧ Hid (TakeS Bo w b cs (.slice aL n cL) ts es wr j ev)) (fun i _ => n - (intOf i).toNat)
  case atStart => exact ⟨0, _, rfl, Nat.zero_le _, HT0⟩
  case round =>
    obtain ⟨j, ev, rfl, hj1, hT⟩ := hrel
    clear HT0
    rename World => wr
    by_cases hlt : j < n
    · obtain ⟨x, hx⟩ : ∃ x, es[j]? = some x := ⟨_, List.getElem?_eq_getElem (by rw [← HTL.out, ← HN.out]; exact hlt)⟩
      obtain ⟨t, ht⟩ : ∃ t, ts[j]? = some t := ⟨_, List.getElem?_eq_getElem (by rw [← HN.out]; exact hlt)⟩
      obtain ⟨aE, cE, hev⟩ := own_slice hT.out.own
      subst hev
      have hrow := hT.out.lines
      rcases hrow.2 with ⟨_, e0⟩ | ⟨g, cap, cur, e1, _⟩
      · rw [← HN.out] at e0; omega
      cases e1
      have hc : wr.cell? ⟨g, j, none⟩ = some (.string t) := by
        rw [hrow.cellAt (g := g) j (by rw [← HN.out]; omega)]
        simp [scells, ht]
      have htd : t.data.toList = line0 x := by
        have h1 : (datas ts)[j]? = some t.data.toList := by simp [datas, ht]
        rw [HD.out, List.getElem?_map, hx] at h1
        simpa using h1.symm
      obtain ⟨hxB, hxk, hxn⟩ := HES.out x (List.mem_of_getElem? hx)
      have c6 : wr.cell? ⟨b, 6, none⟩ = some (.int .i64 (k : Int)) := by
        rw [st_cell hT.out.blk, Array.getElem?_setIfInBounds_ne (by decide)]; exact H6.out
      have ce := entryOf_any t x.1 x.2 k wr htd hxB hxk hk1 hk2 hxn
      obtain ⟨xw, xn⟩ := x
      have HX : Hid (es[j]? = some (xw, xn)) := hx
      clear hrow hx ht htd hxB hxk
      go_upto_region 9 with (go_at_call 101; go_must (refine ce.mono ?_; rintro e w4 ⟨rfl, b4⟩))
      have T4 := hT.out.later b4
      obtain ⟨W5, hW5⟩ : ∃ W, W = w4.alloc (.cells #[.string xw, .int .i64 (xn : Int)] 58) := ⟨_, rfl⟩
      obtain ⟨q, hq⟩ : ∃ q, q = w4.heap.size := ⟨_, rfl⟩
      have hB5 : Below w4.heap.size w4 W5 := by rw [hW5]; exact (Below.refl _ _).alloc (Nat.le_refl _) _
      have T5 : TakeS Bo w b cs _ ts es W5.drew j _ := (T4.later hB5).later ((⟨rfl, rfl, rfl, rfl, Nat.le_add_right _ _⟩ : Still W5 W5.drew).below _)
      have hbx : W5.heap[q]? = some (.cells #[.string xw, .int .i64 (xn : Int)] 58 (0, 0)) := by rw [hW5, hq]; exact heap_alloc_new _ _
      have hql : q < W5.heap.size := lt_of_block hbx
      have hbl : b < W5.heap.size := lt_of_block T5.blk
      have b0 : W5.cell? ⟨q, 0, none⟩ = some (.string xw) := st_cell hbx 0
      have b1 : W5.cell? ⟨q, 1, none⟩ = some (.int .i64 (xn : Int)) := st_cell hbx 1
      have hc7 : W5.cell? ⟨b, 7, none⟩ = some (.slice aE j cE) := by
        have h8 : 7 < cs.size := by
          rcases Nat.lt_or_ge 7 cs.size with h | h
          · exact h
          · have := H7.out; rw [Array.getElem?_eq_none h] at this; cases this
        have := st_cell T5.blk 7
        rw [Array.getElem?_setIfInBounds_self_of_lt h8] at this
        exact this
      have hgr : ∀ a, W5.drew.cell? a = W5.cell? a := fun _ => rfl
      have ha0 : ∀ o, (W5.drew.alloc o).cell? ⟨q, 0, none⟩ = some (.string xw) := fun o => (World.cell?_alloc_old _ _ _ (Nat.ne_of_lt hql)).trans b0
      have ha1 : ∀ o, (W5.drew.alloc o).cell? ⟨q, 1, none⟩ = some (.int .i64 (xn : Int)) := fun o => (World.cell?_alloc_old _ _ _ (Nat.ne_of_lt hql)).trans b1
      have hal : ∀ o, (W5.drew.alloc o).cell? ⟨b, 7, none⟩ = some (.slice aE j cE) := fun o => (World.cell?_alloc_old _ _ _ (Nat.ne_of_lt hbl)).trans hc7
      have ha0' : ∀ o, (W5.alloc o).cell? ⟨q, 0, none⟩ = some (.string xw) := fun o => (World.cell?_alloc_old _ _ _ (Nat.ne_of_lt hql)).trans b0
      have ha1' : ∀ o, (W5.alloc o).cell? ⟨q, 1, none⟩ = some (.int .i64 (xn : Int)) := fun o => (World.cell?_alloc_old _ _ _ (Nat.ne_of_lt hql)).trans b1
      have hal' : ∀ o, (W5.alloc o).cell? ⟨b, 7, none⟩ = some (.slice aE j cE) := fun o => (World.cell?_alloc_old _ _ _ (Nat.ne_of_lt hbl)).trans hc7
      have HT5 : Hid (TakeS Bo w b cs _ ts es W5.drew j (.slice aE j cE)) := T5
      have hws : w.heap.size ≤ W5.heap.size := T5.wk.size
      rw [← hW5, ← hq]
      clear hW5 hq hB5 T5 T4 hbx hql hbl b4 ce hT c6 hc
      go_region_law (first | (refine step_append_own rfl (.tmp 50) (.tmp 52) 30 rfl w.heap.size 58 j0 (.agg #[.string ByteArray.empty, .int .i64 0]) 2 24 Tryz.underlying30 hj hy0 hy1 hy2 rfl (by decide) _ _ _ rfl (HT5.out.own.alloc _) _ 1 1 [.string xw, .int .i64 (xn : Int)] rfl rfl (cell_pair _ _ _ _) (one_ent _ _) (by unfold maxLen; omega) (by omega) (by simp; omega) ?_; intro ev1 w6 own6 g6 _; obtain ⟨aF, cF, hev⟩ := own_slice own6; subst hev; obtain ⟨p6, T6⟩ := HT5.out.put HX.out own6 g6; have hd7 : w6.cell? ⟨b, 7, none⟩ = _ := st_cell p6 7; rw [Array.getElem?_setIfInBounds_self_of_lt (by rcases Nat.lt_or_ge 7 cs.size with h | h; exact h; have := H7.out; rw [Array.getElem?_eq_none h] at this; cases this)] at hd7; have hf7 := st_frozen p6 7; have HT6 : Hid (TakeS Bo _ _ _ _ _ _ _ _ _) := T6; clear own6 g6 p6 T6))
      all_goals
        go_wp2
        go_roundw
        case rel => exact ⟨j + 1, _, by go_num, by omega, HT6⟩
        case measure => simp [intOf]; omega
    · have hje : j = n := by omega
      subst hje
      have HF : Hid (wr.ownsRow w.heap.size 58 2 ev es.length (ecells es)) := by
        have := hT.out.own
        rw [HN.out, HTL.out, List.take_length] at this
        exact this
      go_wp2
      go_ret
      exact ⟨ev, rfl, hT.out.blk, HF.out, hT.out.wk⟩
end Go.Proofs.YtbjgpfhbdmcbbabGreatDoor.kinds

/-
  CONTRACTS of package quern: nameOf, partOf.
-/
namespace Go.Proofs.YtbjgpfhbdmcbbabGreatDoor.kinds
open Go.RowKit dnamath dna diskm disk keep hex pieces files parse
set_option linter.unusedVariables false

def binB : ByteArray := ⟨#[98, 105, 110]⟩
/-- how the file of a bin is called -/
def nameB (n : Nat) : ByteArray := binB ++ itoaB n
def partB : ByteArray := ⟨#[112, 97, 114, 116]⟩
def tallyB : ByteArray := ⟨#[116, 97, 108, 108, 121]⟩
def countsB : ByteArray := ⟨#[99, 111, 117, 110, 116, 115]⟩
/-- a file as files.Of makes it -/
abbrev newFile (p : Nat) (n h : ByteArray) : Value := .agg #[.pointer (some ⟨p, 0, none⟩), .string n, .string h, .int .u64 0, .int .i64 0, .slice none 0 0]

theorem itoa_call (n : Nat) (hn : n ≤ 1000000) (a bb : Addr) (W' : World) (hg' : Gs W' a bb) : Calls Tryz.prog 21 #[.int .i64 (n : Int)] W' fun e w' => e = .returned (.string (itoaB n)) ∧ Below W'.heap.size W' w' := by
  refine (Tryz.strconv_Itoa (n : Int) (by omega) (by omega) W' hg'.powC).mono ?_
  rintro e w' ⟨rfl, k', os, rfl⟩
  exact ⟨rfl, grow_below _ _ _⟩

set_option maxHeartbeats 2000000 in
set_option maxRecDepth 100000 in
theorem nameOf_any (n : Nat) (a bb : Addr) (w : World) (hg : Gs w a bb) (hn : n ≤ 1000000) (hi : (itoaB n).size ≤ 100) :
    Calls Tryz.prog 91 #[.int .i64 (n : Int)] w fun e w' => e = .returned (.string (nameB n)) ∧ Below w.heap.size w w' := by
  have ci := itoa_call n hn a bb
  have HE : Hid (nameB n = binB ++ itoaB n) := rfl
  obtain ⟨I, hI⟩ : ∃ I, I = itoaB n := ⟨_, rfl⟩
  rw [← hI] at hi ci HE
  have z1 : binB.size = 3 := rfl
  have a1 : ∀ W' : World, (Op.stringOp .add binB I).run Tryz.prog W' = .ok (.string (binB ++ I)) W' := fun W' => run_string_add_sum W' _ _ (by omega)
  have es : (⟨#[98, 105, 110]⟩ : ByteArray) = binB := rfl
  clear hI
  go_enter Tryz.func91, Tryz.ntmps91
  go_wp2_with (go_at_call 21; go_must (refine (ci _ hg).mono ?_; rintro e w6 ⟨rfl, b6⟩))
  go_ret
  exact ⟨congrArg (fun x => Ending.returned (Value.string x)) HE.out.symm, b6⟩

set_option maxHeartbeats 2000000 in
set_option maxRecDepth 100000 in
theorem partOf_any (p : Nat) (run : ByteArray) (n : Nat) (a bb : Addr) (w : World) (hg : Gs w a bb) (h2 : run.size ≤ 1000) (hn : n ≤ 1000000) (hi : (itoaB n).size ≤ 100) :
    Calls Tryz.prog 147 #[.pointer (some ⟨p, 0, none⟩), .string run, .int .i64 (n : Int)] w fun e w' => e = .returned (newFile p (nameB n) (headB partB run n)) ∧ Below w.heap.size w w' := by
  have ci := fun W' hg' => nameOf_any n a bb W' hg' hn hi
  have ch := fun W' hg' => headOf_any partB run n a bb W' hg' (by decide) h2 hn hi
  have co := fun W' => Of_any p (nameB n) (headB partB run n) W'
  obtain ⟨I, hI⟩ : ∃ I, I = nameB n := ⟨_, rfl⟩
  obtain ⟨H, hH⟩ : ∃ H, H = headB partB run n := ⟨_, rfl⟩
  rw [← hI] at ci co
  rw [← hH] at ch co
  rw [← hI, ← hH]
  have es : (⟨#[112, 97, 114, 116]⟩ : ByteArray) = partB := rfl
  clear hI hH
  go_enter Tryz.func147, Tryz.ntmps147
  go_wp2_with (first | (go_at_call 91; go_must (refine (ci _ (hg.below ((Below.refl _ _).alloc (Nat.le_refl _) _))).mono ?_; rintro e w6 ⟨rfl, b6⟩; have g6 := (hg.below ((Below.refl _ _).alloc (Nat.le_refl _) _)).below b6)) | (go_at_call 85; go_must (refine (ch _ g6).mono ?_; rintro e w7 ⟨rfl, b7⟩)) | (go_at_call 62; go_must (refine (co _).mono ?_; rintro e w8 ⟨rfl, b8⟩; have hq8 := (b8.block w.heap.size (Nat.lt_of_lt_of_le (by simp) (Nat.le_trans b6.size b7.size))).trans ((b7.block w.heap.size (Nat.lt_of_lt_of_le (by simp) b6.size)).trans ((b6.block w.heap.size (by simp)).trans (heap_alloc_new w _))); have c0 := st_cell hq8 0; have c1 := st_cell hq8 1; have c2 := st_cell hq8 2; have c3 := st_cell hq8 3; have c4 := st_cell hq8 4; have c5 := st_cell hq8 5; have f0 := st_frozen hq8 0; have f1 := st_frozen hq8 1; have f2 := st_frozen hq8 2; have f3 := st_frozen hq8 3; have f4 := st_frozen hq8 4; have f5 := st_frozen hq8 5; simp at c0 c1 c2 c3 c4 c5; clear hq8)))
  have B8 : Below w.heap.size w w8 := (((Below.refl _ w).alloc (Nat.le_refl _) _).trans (b6.mono (by simp))).trans ((b7.mono (Nat.le_trans (by simp) b6.size)).trans (b8.mono (Nat.le_trans (by simp) (Nat.le_trans b6.size b7.size))))
  exact bodyPost_ret (v := newFile p I H) (by simp [results, Tryz.results147, go_sem, c0, c1, c2, c3, c4, c5]) rfl ⟨rfl, (((((B8.setCell (by exact Nat.le_refl _) _).setCell (by exact Nat.le_refl _) _).setCell (by exact Nat.le_refl _) _).setCell (by exact Nat.le_refl _) _).setCell (by exact Nat.le_refl _) _).setCell (by exact Nat.le_refl _) _⟩
end Go.Proofs.YtbjgpfhbdmcbbabGreatDoor.kinds

/-
  CONTRACTS of package quern: tallyOf, countsOf.
-/
namespace Go.Proofs.YtbjgpfhbdmcbbabGreatDoor.kinds
open Go.RowKit dnamath dna diskm disk keep hex pieces files parse
set_option linter.unusedVariables false

/-- a list as it is made -/
abbrev newList (p : Nat) (n h : ByteArray) (k : Nat) : Value := .agg #[.pointer (some ⟨p, 0, none⟩), .string n, .string h, .int .u64 0, .int .i64 0, .slice none 0 0, .int .i64 (k : Int), .slice none 0 0]

set_option maxHeartbeats 2000000 in
set_option maxRecDepth 100000 in
theorem tallyOf_any (p : Nat) (run : ByteArray) (n k : Nat) (a bb : Addr) (w : World) (hg : Gs w a bb) (h2 : run.size ≤ 1000) (hn : n ≤ 1000000) (hi : (itoaB n).size ≤ 100) :
    Calls Tryz.prog 146 #[.pointer (some ⟨p, 0, none⟩), .string run, .int .i64 (n : Int), .int .i64 (k : Int)] w fun e w' => e = .returned (newList p (nameB n) (headB tallyB run n) k) ∧ Below w.heap.size w w' := by
  have ci := fun W' hg' => nameOf_any n a bb W' hg' hn hi
  have ch := fun W' hg' => headOf_any tallyB run n a bb W' hg' (by decide) h2 hn hi
  have co := fun W' => Of_any p (nameB n) (headB tallyB run n) W'
  obtain ⟨I, hI⟩ : ∃ I, I = nameB n := ⟨_, rfl⟩
  obtain ⟨H, hH⟩ : ∃ H, H = headB tallyB run n := ⟨_, rfl⟩
  rw [← hI] at ci co
  rw [← hH] at ch co
  rw [← hI, ← hH]
  have es : (⟨#[116, 97, 108, 108, 121]⟩ : ByteArray) = tallyB := rfl
  clear hI hH
  go_enter Tryz.func146, Tryz.ntmps146
  go_wp2_with (first | (go_at_call 91; go_must (refine (ci _ (hg.below ((Below.refl _ _).alloc (Nat.le_refl _) _))).mono ?_; rintro e w6 ⟨rfl, b6⟩; have g6 := (hg.below ((Below.refl _ _).alloc (Nat.le_refl _) _)).below b6)) | (go_at_call 85; go_must (refine (ch _ g6).mono ?_; rintro e w7 ⟨rfl, b7⟩)) | (go_at_call 62; go_must (refine (co _).mono ?_; rintro e w8 ⟨rfl, b8⟩; have hq8 := (b8.block w.heap.size (Nat.lt_of_lt_of_le (by simp) (Nat.le_trans b6.size b7.size))).trans ((b7.block w.heap.size (Nat.lt_of_lt_of_le (by simp) b6.size)).trans ((b6.block w.heap.size (by simp)).trans (heap_alloc_new w _))); have c0 := st_cell hq8 0; have c1 := st_cell hq8 1; have c2 := st_cell hq8 2; have c3 := st_cell hq8 3; have c4 := st_cell hq8 4; have c5 := st_cell hq8 5; have c6 := st_cell hq8 6; have c7 := st_cell hq8 7; have f6 := st_frozen hq8 6; have f7 := st_frozen hq8 7; have f0 := st_frozen hq8 0; have f1 := st_frozen hq8 1; have f2 := st_frozen hq8 2; have f3 := st_frozen hq8 3; have f4 := st_frozen hq8 4; have f5 := st_frozen hq8 5; simp at c0 c1 c2 c3 c4 c5 c6 c7; clear hq8)))
  have B8 : Below w.heap.size w w8 := (((Below.refl _ w).alloc (Nat.le_refl _) _).trans (b6.mono (by simp))).trans ((b7.mono (Nat.le_trans (by simp) b6.size)).trans (b8.mono (Nat.le_trans (by simp) (Nat.le_trans b6.size b7.size))))
  exact bodyPost_ret (v := newList p I H k) (by simp [results, Tryz.results146, go_sem, c0, c1, c2, c3, c4, c5, c6, c7]) rfl ⟨rfl, (((((((B8.setCell (by exact Nat.le_refl _) _).setCell (by exact Nat.le_refl _) _).setCell (by exact Nat.le_refl _) _).setCell (by exact Nat.le_refl _) _).setCell (by exact Nat.le_refl _) _).setCell (by exact Nat.le_refl _) _).setCell (by exact Nat.le_refl _) _).setCell (by exact Nat.le_refl _) _⟩
set_option maxHeartbeats 2000000 in
set_option maxRecDepth 100000 in
theorem countsOf_any (p : Nat) (run : ByteArray) (k : Nat) (a bb : Addr) (w : World) (hg : Gs w a bb) (h2 : run.size ≤ 1000) (hn : k ≤ 1000000) (hi : (itoaB k).size ≤ 100) :
    Calls Tryz.prog 58 #[.pointer (some ⟨p, 0, none⟩), .string run, .int .i64 (k : Int)] w fun e w' => e = .returned (newList p (countsB) (headB countsB run k) k) ∧ Below w.heap.size w w' := by
  have ch := fun W' hg' => headOf_any countsB run k a bb W' hg' (by decide) h2 hn hi
  have co := fun W' => Of_any p (countsB) (headB countsB run k) W'
  obtain ⟨H, hH⟩ : ∃ H, H = headB countsB run k := ⟨_, rfl⟩
  rw [← hH] at ch co
  rw [← hH]
  have es : (⟨#[99, 111, 117, 110, 116, 115]⟩ : ByteArray) = countsB := rfl
  clear hH
  go_enter Tryz.func58, Tryz.ntmps58
  go_wp2_with (first | (go_at_call 85; go_must (refine (ch _ (hg.below ((Below.refl _ _).alloc (Nat.le_refl _) _))).mono ?_; rintro e w7 ⟨rfl, b7⟩)) | (go_at_call 62; go_must (refine (co _).mono ?_; rintro e w8 ⟨rfl, b8⟩; have hq8 := (b8.block w.heap.size (Nat.lt_of_lt_of_le (by simp) b7.size)).trans ((b7.block w.heap.size (by simp)).trans (heap_alloc_new w _)); have c0 := st_cell hq8 0; have c1 := st_cell hq8 1; have c2 := st_cell hq8 2; have c3 := st_cell hq8 3; have c4 := st_cell hq8 4; have c5 := st_cell hq8 5; have c6 := st_cell hq8 6; have c7 := st_cell hq8 7; have f6 := st_frozen hq8 6; have f7 := st_frozen hq8 7; have f0 := st_frozen hq8 0; have f1 := st_frozen hq8 1; have f2 := st_frozen hq8 2; have f3 := st_frozen hq8 3; have f4 := st_frozen hq8 4; have f5 := st_frozen hq8 5; simp at c0 c1 c2 c3 c4 c5 c6 c7; clear hq8)))
  have B8 : Below w.heap.size w w8 := (((Below.refl _ w).alloc (Nat.le_refl _) _).trans (b7.mono (by simp))).trans (b8.mono (Nat.le_trans (by simp) b7.size))
  exact bodyPost_ret (v := newList p (countsB) H k) (by simp [results, Tryz.results58, go_sem, c0, c1, c2, c3, c4, c5, c6, c7]) rfl ⟨rfl, (((((((B8.setCell (by exact Nat.le_refl _) _).setCell (by exact Nat.le_refl _) _).setCell (by exact Nat.le_refl _) _).setCell (by exact Nat.le_refl _) _).setCell (by exact Nat.le_refl _) _).setCell (by exact Nat.le_refl _) _).setCell (by exact Nat.le_refl _) _).setCell (by exact Nat.le_refl _) _⟩
end Go.Proofs.YtbjgpfhbdmcbbabGreatDoor.kinds
