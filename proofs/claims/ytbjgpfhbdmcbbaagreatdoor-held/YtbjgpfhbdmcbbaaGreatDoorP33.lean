import Derived.Test.YtbjgpfhbdmcbbaaGreatDoorP24
import Derived.Test.YtbjgpfhbdmcbbaaGreatDoorP32
import Derived.Test.YtbjgpfhbdmcbbaaGreatDoorP30

/-
  CONTRACTS of package quern: Run on a disk that tells of no run.
-/
namespace Go.Proofs.YtbjgpfhbdmcbbaaGreatDoor.jobs
open Go.RowKit dnamath dna diskm disk keep hex pieces files parse words kinds
set_option linter.unusedVariables false

/-- options and reads that a run takes -/
structure Fit (K M Bn : Nat) (input : ByteArray) (rs : List (List UInt8)) : Prop where
  k1 : 1 ≤ K
  k2 : K ≤ 31
  odd : K % 2 = 1
  m1 : 1 ≤ M
  m2 : M ≤ K
  m3 : M ≤ 11
  b1 : 1 ≤ Bn
  b2 : Bn ≤ 16
  inp : input.size ≤ 20000
  form : FormIs input rs
  reads : ∀ l ∈ rs, readB l = true ∧ l.length ≤ 1000
  many : rs.length ≤ 1000
  words : (wordsOf K rs).length ≤ 1440

/-- the counts are on the disk -/
structure Done (S : DS) (N K : Nat) (rs : List (List UInt8)) (run : ByteArray) (es : List Ent) : Prop where
  room : RoomB S N
  look : S.look countsB = some (wholeF (countsZ run K es))
  tally : TallyOf (wordsOf K rs) (es.map cv)

set_option maxHeartbeats 4000000 in
set_option maxRecDepth 100000 in
theorem run_full {Bo : Nat} (p K M Bn : Nat) (input : ByteArray) (rs : List (List UInt8)) (S : DS) (N : Nat) (a bb aE : Addr) (w : World) (hG : Gl w a bb aE) (hD : Disk Bo w p S) (hS : RoomB S N) (hN : N ≤ 3000) (hF : Fit K M Bn input rs) (hl1 : S.look planB = none) (hl2 : S.look countsB = none) :
    Calls Tryz.prog 38 #[.pointer (some ⟨p, 0, none⟩), .string input, optV K M Bn] w fun e w' => ∃ S' es, e = .returned .nilIface ∧ Disk Bo w' p S' ∧ (Done S' (N + 120) K rs (runB (textB K M Bn input)) es ∧ S'.look planB = some (wholeF (planHB.data.toList ++ (textB K M Bn input).data.toList))) ∧ New Bo w w' := by
  have cm := fun W => mayBe_yes K M Bn W hF.k1 hF.k2 hF.odd hF.m1 hF.m2 hF.m3 hF.b1 hF.b2
  have HF : Hid (Fit K M Bn input rs) := hF
  have HH : Hid (Gl w a bb aE ∧ Disk Bo w p S ∧ RoomB S N ∧ S.look planB = none ∧ S.look countsB = none) := ⟨hG, hD, hS, hl1, hl2⟩
  have hdead : S.dead = false := by unfold DS.dead; rw [hS.good.fine.life]; rfl
  have cdd : ∀ W, New Bo w W → Disk Bo W p S → Calls Tryz.prog 27 #[.pointer (some ⟨p, 0, none⟩)] W fun e w' => e = .returned (.bool false) ∧ w' = W := fun W _ hW => by
    obtain ⟨vF, vN, vS, vT, h⟩ := hW
    have := Dead_any p S vF vN vS vT W h
    rw [hdead] at this
    exact this
  have hts := text_size K M Bn input (by have := hF.k2; omega) (by have := hF.m3; omega) (by have := hF.b2; omega)
  have htx : (textB K M Bn input).size ≤ 50000 := by have := hF.inp; omega
  have cjo : ∀ W, Gs W a bb → Bo ≤ W.heap.size → _ := fun W hW hBW => jobOf_any (Bo := Bo) p K M Bn input a bb W hBW hW (by have := hF.k2; omega) (by have := hF.m3; omega) (by have := hF.b2; omega) (by have := hF.inp; omega)
  have hrz := run_size (textB K M Bn input)
  obtain ⟨T, hT⟩ : ∃ T, T = textB K M Bn input := ⟨_, rfl⟩
  obtain ⟨R, hR⟩ : ∃ R, R = runB T := ⟨_, rfl⟩
  simp only [← hT, ← hR] at cjo htx hrz ⊢
  clear hT hR hts hG hD hS hF hl1 hl2 hdead
  go_enter Tryz.func38, Tryz.ntmps38
  go_wp2_with fail
  obtain ⟨W1, hW1⟩ : ∃ W1, W1 = w.alloc (.cells #[.int .i64 (K : Int), .int .i64 (M : Int), .int .i64 (Bn : Int)] 29) := ⟨_, rfl⟩
  have hq1 : W1.heap[w.heap.size]? = some (.cells #[.int .i64 (K : Int), .int .i64 (M : Int), .int .i64 (Bn : Int)] 29 (0, 0)) := by rw [hW1]; exact heap_alloc_new _ _
  have B1 : Below w.heap.size w W1 := by rw [hW1]; exact (Below.refl _ w).alloc (Nat.le_refl _) _
  rw [← hW1]
  clear hW1
  refine (cm _).mono ?_
  rintro e w2 ⟨rfl, b2⟩
  have cpa := Parse_any input aE rs w2 HF.out.inp ((HH.out.1.below B1).below b2).ends HF.out.form
  go_wp2_with fail
  refine cpa.mono ?_
  rintro e w3 ⟨v, ps, rfl, own3, hd3, b3⟩
  obtain ⟨aP, cP, hvp⟩ := own_slice own3
  subst hvp
  have B3 : Below W1.heap.size W1 w3 := b2.trans (b3.mono b2.size)
  have BW3 : Below w.heap.size w w3 := B1.trans (B3.mono B1.size)
  have N3 : New Bo w w3 := (New.refl w).below BW3
  have hq3 := (B3.block _ (lt_of_block hq1)).trans hq1
  have x0 : w3.cell? ⟨w.heap.size, 0, none⟩ = some (.int .i64 (K : Int)) := st_cell hq3 0
  have x1 : w3.cell? ⟨w.heap.size, 1, none⟩ = some (.int .i64 (M : Int)) := st_cell hq3 1
  have x2 : w3.cell? ⟨w.heap.size, 2, none⟩ = some (.int .i64 (Bn : Int)) := st_cell hq3 2
  have G3 := HH.out.1.new N3
  have D3 := HH.out.2.1.below BW3
  have cd3 := cdd w3 N3 D3
  have cj3 := cjo w3 G3.gs D3.low
  have H3 : Hid (New Bo w w3 ∧ Gl w3 a bb aE ∧ Disk Bo w3 p S ∧ w3.ownsRow w2.heap.size 9 1 (.slice aP ps.length cP) ps.length (scells ps) ∧ datas ps = rs) := ⟨N3, G3, D3, own3, hd3⟩
  clear cpa own3 hd3 b3 B3 BW3 N3 hq3 hq1 G3 D3 cdd cjo cm b2 B1
  go_wp2_with fail
  refine cd3.mono ?_
  rintro e w4 ⟨rfl, hw4⟩
  have hw4' := hw4.symm
  subst hw4'
  go_wp2_with fail
  refine cj3.mono ?_
  rintro e w5 ⟨j, rfl, hJ5, hj5, b5⟩
  have N5 : New Bo w3 w5 := (New.refl _).below b5
  have cbe := begin_none j p K M Bn T R S N a bb w5 hJ5 (H3.out.2.1.gs.below b5) (H3.out.2.2.1.below b5) HH.out.2.2.1 (by omega) HH.out.2.2.2.1 HH.out.2.2.2.2 htx (Nat.le_trans H3.out.2.1.many hj5)
  have H5 : Hid (New Bo w3 w5 ∧ w3.heap.size ≤ j) := ⟨N5, hj5⟩
  clear hJ5 hj5 b5 N5 cj3 cd3 x0 x1 x2
  go_wp2_with fail
  refine cbe.mono ?_
  rintro e w6 ⟨S1, S2, rfl, hJ6, d6, l6, v6, k6⟩
  have N6 : New Bo w3 w6 := H5.out.1.fk k6 H5.out.2
  have G6 := H3.out.2.1.new N6
  have R1 := HH.out.2.2.1.less l6 (by omega)
  have hpz : (whole (planHB.data.toList ++ T.data.toList)).size ≤ 100000 := by
    refine Nat.le_trans (whole_size _ ?_) ?_
    · rw [List.length_append, len_size, len_size]; have : planHB.size = 5 := rfl; omega
    · rw [List.length_append, len_size, len_size]; have : planHB.size = 5 := rfl; omega
  have R2 := R1.saved v6 hpz plan_draft (by omega)
  have hno : ∀ i, i < 16 → S2.look (nameB i) = none := fun i hi => by
    rw [v6.look_old R1.good.ok R1.good.sorted (fun e => nameB_plan i e.symm)]
    exact Less.gone l6 (by unfold leftL; rw [List.mem_append, List.mem_cons]; exact .inl (.inr (List.mem_map.2 ⟨i, List.mem_range.2 hi, rfl⟩)))
  have hnc : S2.look countsB = none := by
    rw [v6.look_old R1.good.ok R1.good.sorted (by rw [Lib.toList_data, Lib.toList_data]; decide)]
    exact Less.gone l6 (by rw [List.mem_append]; exact .inr (List.mem_singleton.2 rfl))
  have hpl : ps.length = rs.length := by rw [← H3.out.2.2.2.2, datas_length]
  have hmay : ∀ r ∈ ps, May r K M ∧ r.size ≤ 100000 := fun r hr => by
    have h1 : r.data.toList ∈ rs := by rw [← H3.out.2.2.2.2]; exact List.mem_map.2 ⟨r, hr, rfl⟩
    have h2 := HF.out.reads _ h1
    exact ⟨⟨by have := HF.out.k1; omega, by have := HF.out.k2; omega, by have := HF.out.m1; omega, by have := HF.out.m2; omega, h2.1⟩, by rw [Lib.size_eq]; omega⟩
  have cfi := finish_any j p K M Bn T R (.slice aP ps.length cP) ps S2 (N + 18 + 2) a bb w6 hJ6 G6.gs G6.sen d6 R2 (by omega) (own_lower (N6.own H3.out.2.2.2.1 not_ours_s) (Nat.zero_le _)) hno hnc hmay (by rw [hpl]; exact HF.out.many) (by rw [H3.out.2.2.2.2]; exact HF.out.words) HF.out.k1 HF.out.k2 HF.out.m1 HF.out.m2 HF.out.b1 HF.out.b2 hrz G6.many
  have H6 : Hid (New Bo w3 w6) := N6
  have HPL : Hid (S2.look planB = some (wholeF (planHB.data.toList ++ T.data.toList))) := v6.look_new
  clear hJ6 d6 l6 v6 k6 N6 G6 R1 hpz R2 hno hnc hmay cbe hpl
  go_wp2_with fail
  refine cfi.mono ?_
  rintro e w7 ⟨S', es, rfl, d7, r7, l7, t7, n7⟩
  rw [H3.out.2.2.2.2] at t7
  have HE : Hid (Disk Bo w7 p S' ∧ (Done S' (N + 120) K rs R es ∧ S'.look planB = some (wholeF (planHB.data.toList ++ T.data.toList))) ∧ New Bo w w7) := by
    refine ⟨d7, ⟨⟨r7.mono (by omega), l7.1, t7⟩, by rw [l7.2]; exact HPL.out⟩, ?_⟩
    have h1 : New Bo w w6 := H3.out.1.fk (q := w3.heap.size) H6.out H3.out.1.size
    exact h1.fk (q := w6.heap.size) n7 h1.size
  clear d7 r7 l7 t7 n7 cfi
  go_wp2
  go_ret
  exact ⟨S', es, rfl, HE.out.1, HE.out.2.1, HE.out.2.2⟩

set_option maxHeartbeats 1000000 in
set_option maxRecDepth 100000 in
theorem Run_full {Bo : Nat} (p K M Bn : Nat) (input : ByteArray) (rs : List (List UInt8)) (S : DS) (N : Nat) (a bb aE : Addr) (w : World) (hG : Gl w a bb aE) (hD : Disk Bo w p S) (hS : RoomB S N) (hN : N ≤ 3000) (hF : Fit K M Bn input rs) (hl1 : S.look planB = none) (hl2 : S.look countsB = none) :
    Calls Tryz.prog 19 #[.pointer (some ⟨p, 0, none⟩), .string input, optV K M Bn] w fun e w' => ∃ S' es, e = .returned (.int .i64 0) ∧ Disk Bo w' p S' ∧ (Done S' (N + 120) K rs (runB (textB K M Bn input)) es ∧ S'.look planB = some (wholeF (planHB.data.toList ++ (textB K M Bn input).data.toList))) ∧ New Bo w w' := by
  have cr : ∀ W, Below w.heap.size w W → _ := fun W hW => run_full p K M Bn input rs S N a bb aE W (hG.below hW) (hD.below hW) hS hN hF hl1 hl2
  have B1 : Below w.heap.size w (w.alloc (.cells #[.int .i64 (K : Int), .int .i64 (M : Int), .int .i64 (Bn : Int)] 29)) := (Below.refl _ w).alloc (Nat.le_refl _) _
  have c1 := cr _ B1
  have HB : Hid (Below w.heap.size w (w.alloc (.cells #[.int .i64 (K : Int), .int .i64 (M : Int), .int .i64 (Bn : Int)] 29))) := B1
  clear cr hG hD hS hF hl1 hl2 B1
  go_enter Tryz.func19, Tryz.ntmps19
  go_wp2_with fail
  refine c1.mono ?_
  rintro e w2 ⟨S', es, rfl, d2, f2, n2⟩
  have HE : Hid (Disk Bo w2 p S' ∧ (Done S' (N + 120) K rs (runB (textB K M Bn input)) es ∧ S'.look planB = some (wholeF (planHB.data.toList ++ (textB K M Bn input).data.toList))) ∧ New Bo w w2) := ⟨d2, f2, ((New.refl w).below HB.out).fk n2 HB.out.size⟩
  clear d2 f2 n2 c1
  go_wp2_with (go_at_call 37; go_must (refine (Number_nil _).mono ?_; rintro e w3 ⟨rfl, hw3⟩; have hw3' := hw3.symm; subst hw3'))
  go_ret
  exact ⟨S', es, rfl, HE.out.1, HE.out.2.1, HE.out.2.2⟩

theorem Run_any {Bo : Nat} (p K M Bn : Nat) (input : ByteArray) (rs : List (List UInt8)) (S : DS) (N : Nat) (a bb aE : Addr) (w : World) (hG : Gl w a bb aE) (hD : Disk Bo w p S) (hS : RoomB S N) (hN : N ≤ 3000) (hF : Fit K M Bn input rs) (hl1 : S.look planB = none) (hl2 : S.look countsB = none) :
    Calls Tryz.prog 19 #[.pointer (some ⟨p, 0, none⟩), .string input, optV K M Bn] w fun e w' => ∃ S' es, e = .returned (.int .i64 0) ∧ Disk Bo w' p S' ∧ Done S' (N + 120) K rs (runB (textB K M Bn input)) es ∧ New Bo w w' :=
  (Run_full p K M Bn input rs S N a bb aE w hG hD hS hN hF hl1 hl2).mono fun e w' ⟨S', es, h1, h2, h3, h4⟩ => ⟨S', es, h1, h2, h3.1, h4⟩
end Go.Proofs.YtbjgpfhbdmcbbaaGreatDoor.jobs

/-
  CONTRACTS of package quern: Run where another run is begun.
-/
namespace Go.Proofs.YtbjgpfhbdmcbbaaGreatDoor.jobs
open Go.RowKit dnamath dna diskm disk keep hex pieces files parse words kinds
set_option linter.unusedVariables false

/-- a variable that no call of ours writes -/
def VarIs (w : World) (g : Nat) (v : Value) : Prop := ∃ cs T fz, w.heap[g]? = some (.cells cs T fz) ∧ ¬ ours T ∧ cs[0]? = some v
theorem blk_new {Bo g : Nat} {w w' : World} {cs : Array Value} {T : TypeId} {fz : Nat × Nat} (h : w.heap[g]? = some (.cells cs T fz)) (hT : ¬ ours T) (hk : New Bo w w') : w'.heap[g]? = some (.cells cs T fz) :=
  (hk.block g (lt_of_block h) (Nat.ne_of_lt (lt_of_block h)) (fun ⟨cs', fz', e⟩ => by rw [h] at e; cases e; exact hT (by unfold ours; decide)) (by
    rintro ⟨cs', T', fz', e, hd⟩
    rw [h] at e
    cases e
    exact hT (by unfold ours; rcases hd with h | h | h | h <;> subst h <;> decide))).trans h
theorem VarIs.new {Bo g : Nat} {w w' : World} {v : Value} (h : VarIs w g v) (hk : New Bo w w') : VarIs w' g v := by
  obtain ⟨cs, T, fz, h1, h2, h3⟩ := h
  exact ⟨cs, T, fz, blk_new h1 h2 hk, h2, h3⟩
theorem VarIs.cell {w : World} {g : Nat} {v : Value} (h : VarIs w g v) : w.cell? ⟨g, 0, none⟩ = some v := by
  obtain ⟨cs, T, fz, h1, h2, h3⟩ := h
  exact (g_cell h1).trans h3
theorem failIs_new {aF : Addr} {Bo : Nat} {w w' : World} (h : FailIs aF w) (hk : New Bo w w') : FailIs aF w' := by
  obtain ⟨cs, T, fz, a, h1, h2, h3⟩ := h
  exact ⟨cs, T, fz, a, blk_new h1 (by rw [h2]; unfold ours; decide) hk, h2, h3⟩
abbrev TyV : Value := .iface 204 (.agg #[.pointer (some ⟨27, 90, none⟩)])
/-- what runs that may fail read besides -/
structure Gm (aF : Addr) (w : World) : Prop where
  fail : FailIs aF w
  type : VarIs w 4 TyV
  other : ∃ a, VarIs w 5 (.iface 296 (.pointer (some a)))
theorem Gm.new {aF : Addr} {Bo : Nat} {w w' : World} (h : Gm aF w) (hk : New Bo w w') : Gm aF w' := by
  obtain ⟨a, ha⟩ := h.other
  exact ⟨failIs_new h.fail hk, h.type.new hk, a, ha.new hk⟩
theorem Gm.below {aF : Addr} {w w' : World} (h : Gm aF w) (hk : Below w.heap.size w w') : Gm aF w' := h.new ((New.refl (Bo := 0) w).below hk)

/-- a fault that bears a number -/
def NumErr (w : World) (n : Int) (v : Value) : Prop := ∃ eb s a, v = .iface 114 (.pointer (some ⟨eb, 0, none⟩)) ∧ w.heap[eb]? = some (.cells #[.int .i64 n, .string s, .iface 296 (.pointer (some a))] 118 (0, 0))
def DS.sure (S : DS) : DS := { S with safe := S.now, steps := [] }

end Go.Proofs.YtbjgpfhbdmcbbaaGreatDoor.jobs

/-
  What a run may leave on a disk that may die.
-/
namespace Go.Proofs.YtbjgpfhbdmcbbaaGreatDoor.jobs
open Go.RowKit dnamath dna diskm disk keep hex pieces files parse words kinds
set_option linter.unusedVariables false

theorem datas_one : ∀ {a b : List ByteArray}, datas a = datas b → a = b
  | [], [], _ => rfl
  | [], _ :: _, h => by simp [datas] at h
  | _ :: _, [], h => by simp [datas] at h
  | x :: a, y :: b, h => by
    simp only [datas, List.map_cons, List.cons.injEq] at h
    rw [kinds.bytes_eq h.1, datas_one (a := a) (b := b) h.2]
/-- what is in a bin -/
def BinIs (K M Bn : Nat) (rs : List (List UInt8)) (i : Nat) (bl : List ByteArray) : Prop := datas bl = (rs.flatMap (fun l => piecesL l K M)).filter (fun p => bn Bn (markL M (cut p 0 K)) == i)
theorem binIs_one {K M Bn i : Nat} {rs : List (List UInt8)} {a b : List ByteArray} (h : BinIs K M Bn rs i a) (k : BinIs K M Bn rs i b) : a = b := datas_one (h.trans k.symm)
/-- the files that may be -/
def Allow (K M Bn : Nat) (T R : ByteArray) (rs : List (List UInt8)) (k : List UInt8) (f : DFile) : Prop :=
  (k = planB.toList ∧ f = wholeF (planHB.data.toList ++ T.data.toList)) ∨
  (∃ i bl, i < 16 ∧ k = (nameB i).toList ∧ BinIs K M Bn rs i bl ∧ (f = wholeF (partZ R i bl) ∨ ∃ es : List Ent, f = wholeF (tallyZ R i es) ∧ TallyOf (allW K bl) (es.map cv))) ∨
  (k = countsB.toList ∧ ∃ es : List Ent, f = wholeF (countsZ R K es) ∧ TallyOf (wordsOf K rs) (es.map cv))
theorem plan_counts : planB.toList ≠ countsB.toList := by rw [Lib.toList_data, Lib.toList_data]; decide
theorem draft_plan : planB.toList ≠ draftB.toList := by rw [Lib.toList_data, Lib.toList_data]; decide
theorem draft_counts : countsB.toList ≠ draftB.toList := by rw [Lib.toList_data, Lib.toList_data]; decide
theorem draft_name (i : Nat) : (nameB i).toList ≠ draftB.toList := fun e => (strEq_not _ _).1 (nameB_draft i) e.symm
theorem allow_plan {K : Nat} {M : Nat} {Bn : Nat} {T : ByteArray} {R : ByteArray} {rs : List (List UInt8)} {f : DFile} (h : Allow K M Bn T R rs planB.toList f) : f = wholeF (planHB.data.toList ++ T.data.toList) := by
  rcases h with h | ⟨i, bl, _, h, _⟩ | ⟨h, _⟩
  · exact h.2
  · exact absurd h (nameB_plan i)
  · exact absurd h plan_counts
theorem allow_bin {K : Nat} {M : Nat} {Bn : Nat} {T : ByteArray} {R : ByteArray} {rs : List (List UInt8)} {f : DFile} {i : Nat} {bl : List ByteArray} (hb : BinIs K M Bn rs i bl) (h : Allow K M Bn T R rs (nameB i).toList f) : f = wholeF (partZ R i bl) ∨ ∃ es : List Ent, f = wholeF (tallyZ R i es) ∧ TallyOf (allW K bl) (es.map cv) := by
  rcases h with h | ⟨i', bl', _, h, hb', h2⟩ | ⟨h, _⟩
  · exact absurd h.1.symm (nameB_plan i)
  · have := nameB_inj h
    subst this
    rw [binIs_one hb hb']
    exact h2
  · exact absurd h.symm (nameB_counts i)
theorem allow_counts {K : Nat} {M : Nat} {Bn : Nat} {T : ByteArray} {R : ByteArray} {rs : List (List UInt8)} {f : DFile} (h : Allow K M Bn T R rs countsB.toList f) : ∃ es : List Ent, f = wholeF (countsZ R K es) ∧ TallyOf (wordsOf K rs) (es.map cv) := by
  rcases h with h | ⟨i, bl, _, h, _⟩ | ⟨_, h⟩
  · exact absurd h.1.symm plan_counts
  · exact absurd h (nameB_counts i)
  · exact h
theorem whole_sure (Z : List UInt8) : (wholeF Z).synced = (wholeF Z).data.size := rfl
theorem allow_sure {K : Nat} {M : Nat} {Bn : Nat} {T : ByteArray} {R : ByteArray} {rs : List (List UInt8)} {k : List UInt8} {f : DFile} (h : Allow K M Bn T R rs k f) : f.synced = f.data.size := by
  rcases h with ⟨_, rfl⟩ | ⟨i, bl, _, _, _, rfl | ⟨es, rfl, _⟩⟩ | ⟨_, es, rfl, _⟩ <;> exact whole_sure _
def names18 : List (List UInt8) := planB.toList :: countsB.toList :: (List.range 16).map (fun i => (nameB i).toList)
theorem allow_key {K : Nat} {M : Nat} {Bn : Nat} {T : ByteArray} {R : ByteArray} {rs : List (List UInt8)} {k : List UInt8} {f : DFile} (h : Allow K M Bn T R rs k f) : k ∈ names18 := by
  unfold names18
  rcases h with ⟨rfl, _⟩ | ⟨i, bl, hi, rfl, _⟩ | ⟨rfl, _⟩
  · simp
  · exact List.mem_cons_of_mem _ (List.mem_cons_of_mem _ (List.mem_map.2 ⟨i, List.mem_range.2 hi, rfl⟩))
  · simp
theorem sound_len {K : Nat} {M : Nat} {Bn : Nat} {T : ByteArray} {R : ByteArray} {rs : List (List UInt8)} {S : DS} (h : Sound (Allow K M Bn T R rs) draftB S) : S.now.length ≤ 19 := by
  have hs := h.sane
  have h1 : (S.now.map key).Nodup := List.Pairwise.imp (fun {a b} hab => (show a ≠ b from fun e => by subst e; exact List.lt_irrefl _ hab)) hs.cur.1
  have h2 := nodup_len _ (draftB.toList :: names18) h1 (fun x hx => by
    obtain ⟨y, hy, rfl⟩ := List.mem_map.1 hx
    rcases h.okay.now hs y hy with e | ⟨f, hA, _⟩
    · rw [e]; exact List.mem_cons_self ..
    · exact List.mem_cons_of_mem _ (allow_key hA))
  rw [List.length_map] at h2
  exact Nat.le_trans h2 (by simp [names18])
theorem crash_live {K : Nat} {M : Nat} {Bn : Nat} {T : ByteArray} {R : ByteArray} {rs : List (List UInt8)} {S U : DS} {N : Nat} (h : Live (Allow K M Bn T R rs) draftB S N) (hc : Crashed S U) (hN : 19 ≤ N) : Live (Allow K M Bn T R rs) draftB U N := by
  have hs := sound_crash h.sound hc h.ok (fun k f => allow_sure)
  have hl := sound_len hs
  refine ⟨hs, ⟨hs.sane.cur.2.2, by omega, by rw [hc.len]; exact h.ok.fl, by rw [hc.steps]; exact Nat.zero_le _, by rw [hc.safe]; omega, by rw [hc.failed]; exact h.ok.fa, by rw [hc.fine.wait]; decide, by rw [hc.fine.wait]; decide, by rw [hc.fine.life]; decide, by rw [hc.fine.life]; decide⟩, hc.fine.wait, hc.cap.trans h.cap⟩

/-- names that a run takes away and gives when its plan is there -/
def RL (n : List UInt8) : Prop := ∃ i, n = (nameB i).toList
def PL (n : List UInt8) : Prop := RL n ∨ n = countsB.toList
/-- a run that is begun goes on -/
structure Flow (A : List UInt8 → DFile → Prop) (S T : DS) (N : Nat) : Prop where
  live : Live A draftB T N
  went : Went RL PL draftB S T
theorem Flow.start {A : List UInt8 → DFile → Prop} {S : DS} {N : Nat} (h : Live A draftB S N) : Flow A S S N := ⟨h, Went.refl S⟩
theorem Flow.mono {A : List UInt8 → DFile → Prop} {S : DS} {T : DS} {N : Nat} {M : Nat} (h : Flow A S T N) (hm : N ≤ M) : Flow A S T M := ⟨h.live.mono hm, h.went⟩
theorem Flow.trans {A : List UInt8 → DFile → Prop} {S : DS} {T : DS} {U : DS} {N : Nat} {M : Nat} (h : Flow A S T N) (k : Flow A T U M) : Flow A S U M := ⟨k.live, h.went.trans k.went⟩
theorem Flow.saved {A : List UInt8 → DFile → Prop} {S : DS} {T : DS} {U : DS} {N : Nat} {M : Nat} {n : ByteArray} {f : DFile} (h : Flow A S T N) (k : SavedM A T U n f M) (hn : PL n.toList) : Flow A S U M := ⟨k.live, h.went.trans (k.went RL PL hn)⟩
theorem Flow.cut {A : List UInt8 → DFile → Prop} {S : DS} {T : DS} {U : DS} {N : Nat} {M : Nat} {n : ByteArray} (h : Flow A S T N) (k : CutM A T U n M) (hn : PL n.toList) : Flow A S U M ∧ U.life = 0 := ⟨⟨(k RL PL hn).live, h.went.trans (k RL PL hn).went⟩, (k RL PL hn).dead⟩
theorem senF_new {Bo : Nat} {w w' : World} {a b aF : Addr} (h : SenF w a b aF) (hk : New Bo w w') : SenF w' a b aF := by
  obtain ⟨cs, t, h1, h2⟩ := h.blk
  exact ⟨hk.sen h.sen, h.neA, h.neB, cs, t, blk_new h1 h2 hk, h2⟩
theorem tally_facts {K : Nat} {bl : List ByteArray} {es : List Ent} (h : TallyOf (allW K bl) (es.map cv)) (hb : ∀ x ∈ bl, x.data.toList.all isB = true ∧ x.size ≤ 2000) (hl : (allW K bl).length ≤ 1440) (hK : K ≤ 31) :
    (∀ x ∈ es, x.1.data.toList.all isB = true ∧ x.1.size = K ∧ x.2 ≤ 1000000) ∧ es.length ≤ 1440 ∧ (textE es).length ≤ 59040 := by
  have hsm := tally_small h (allW_words (fun x hx => (hb x hx).1)) hl
  have htx := text_small hsm.each (by omega)
  have hmul : es.length * (K + 10) ≤ 1440 * 41 := Nat.mul_le_mul hsm.len (by omega)
  exact ⟨fun x hx => ⟨(hsm.each x hx).1, (hsm.each x hx).2.1, by have := (hsm.each x hx).2.2.2; omega⟩, hsm.len, by omega⟩
theorem clean_isB {x : List UInt8} (h : x.all isB = true) : clean x := by
  intro c hc e
  have := List.all_eq_true.1 h c hc
  subst e
  exact absurd this (by decide)
theorem alive {S : DS} (h : S.life ≠ 0) : S.dead = false := by unfold DS.dead; simpa using h
end Go.Proofs.YtbjgpfhbdmcbbaaGreatDoor.jobs
