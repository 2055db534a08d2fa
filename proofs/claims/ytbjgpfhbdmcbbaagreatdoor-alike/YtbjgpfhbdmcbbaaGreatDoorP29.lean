import Derived.Test.YtbjgpfhbdmcbbaaGreatDoorP27

/-
  CONTRACTS of package quern: Run on a disk that tells of no run.
-/
namespace Go.Proofs.YtbjgpfhbdmcbbaaGreatDoor.jobs
open Go.RowKit Go.Proofs.YtbjgpfhbdmcbbaaGreatDoor.dnamath Go.Proofs.YtbjgpfhbdmcbbaaGreatDoor.dna Go.Proofs.YtbjgpfhbdmcbbaaGreatDoor.diskm Go.Proofs.YtbjgpfhbdmcbbaaGreatDoor.disk Go.Proofs.YtbjgpfhbdmcbbaaGreatDoor.keep Go.Proofs.YtbjgpfhbdmcbbaaGreatDoor.hex Go.Proofs.YtbjgpfhbdmcbbaaGreatDoor.pieces Go.Proofs.YtbjgpfhbdmcbbaaGreatDoor.files Go.Proofs.YtbjgpfhbdmcbbaaGreatDoor.parse Go.Proofs.YtbjgpfhbdmcbbaaGreatDoor.words Go.Proofs.YtbjgpfhbdmcbbaaGreatDoor.kinds
set_option linter.unusedVariables false

/-- options and reads that a run takes -/
structure Fit (K M Bn : Nat) (input : ByteArray) (rs : List (List UInt8)) : Prop where
  k1 : 1 ≤ K
  k2 : K ≤ 31
  odd : K % 2 = 1
  m1 : 1 ≤ M
  m2 : M ≤ K
  m3 : M ≤ 11
  b1 : 1 ≤ Bn
  b2 : Bn ≤ 16
  inp : input.size ≤ 20000
  form : FormIs input rs
  reads : ∀ l ∈ rs, readB l = true ∧ l.length ≤ 1000
  many : rs.length ≤ 1000
  words : (wordsOf K rs).length ≤ 1440

/-- the counts are on the disk -/
structure Done (S : DS) (N K : Nat) (rs : List (List UInt8)) (run : ByteArray) (es : List Ent) : Prop where
  room : RoomB S N
  look : S.look countsB = some (wholeF (countsZ run K es))
  tally : TallyOf (wordsOf K rs) (es.map cv)

set_option maxHeartbeats 4000000 in
set_option maxRecDepth 100000 in
theorem run_any {Bo : Nat} (p K M Bn : Nat) (input : ByteArray) (rs : List (List UInt8)) (S : DS) (N : Nat) (a bb aE : Addr) (w : World) (hG : Gl w a bb aE) (hD : Disk Bo w p S) (hS : RoomB S N) (hN : N ≤ 100) (hF : Fit K M Bn input rs) (hl1 : S.look planB = none) (hl2 : S.look countsB = none) :
    Calls Tryz.prog 38 #[.pointer (some ⟨p, 0, none⟩), .string input, optV K M Bn] w fun e w' => ∃ S' es, e = .returned .nilIface ∧ Disk Bo w' p S' ∧ Done S' (N + 120) K rs (runB (textB K M Bn input)) es ∧ New Bo w w' := by
  have cm := fun W => mayBe_yes K M Bn W hF.k1 hF.k2 hF.odd hF.m1 hF.m2 hF.m3 hF.b1 hF.b2
  have HF : Hid (Fit K M Bn input rs) := hF
  have HH : Hid (Gl w a bb aE ∧ Disk Bo w p S ∧ RoomB S N ∧ S.look planB = none ∧ S.look countsB = none) := ⟨hG, hD, hS, hl1, hl2⟩
  have hdead : S.dead = false := by unfold DS.dead; rw [hS.good.fine.life]; rfl
  have cdd : ∀ W, New Bo w W → Disk Bo W p S → Calls Tryz.prog 27 #[.pointer (some ⟨p, 0, none⟩)] W fun e w' => e = .returned (.bool false) ∧ w' = W := fun W _ hW => by
    obtain ⟨vF, vN, vS, vT, h⟩ := hW
    have := Dead_any p S vF vN vS vT W h
    rw [hdead] at this
    exact this
  have hts := text_size K M Bn input (by have := hF.k2; omega) (by have := hF.m3; omega) (by have := hF.b2; omega)
  have htx : (textB K M Bn input).size ≤ 50000 := by have := hF.inp; omega
  have cjo : ∀ W, Gs W a bb → Bo ≤ W.heap.size → _ := fun W hW hBW => jobOf_any (Bo := Bo) p K M Bn input a bb W hBW hW (by have := hF.k2; omega) (by have := hF.m3; omega) (by have := hF.b2; omega) (by have := hF.inp; omega)
  have hrz := run_size (textB K M Bn input)
  obtain ⟨T, hT⟩ : ∃ T, T = textB K M Bn input := ⟨_, rfl⟩
  obtain ⟨R, hR⟩ : ∃ R, R = runB T := ⟨_, rfl⟩
  simp only [← hT, ← hR] at cjo htx hrz ⊢
  clear hT hR hts hG hD hS hF hl1 hl2 hdead
  go_enter Tryz.func38, Tryz.ntmps38
  go_wp2_with fail
  obtain ⟨W1, hW1⟩ : ∃ W1, W1 = w.alloc (.cells #[.int .i64 (K : Int), .int .i64 (M : Int), .int .i64 (Bn : Int)] 29) := ⟨_, rfl⟩
  have hq1 : W1.heap[w.heap.size]? = some (.cells #[.int .i64 (K : Int), .int .i64 (M : Int), .int .i64 (Bn : Int)] 29 (0, 0)) := by rw [hW1]; exact heap_alloc_new _ _
  have B1 : Below w.heap.size w W1 := by rw [hW1]; exact (Below.refl _ w).alloc (Nat.le_refl _) _
  rw [← hW1]
  clear hW1
  refine (cm _).mono ?_
  rintro e w2 ⟨rfl, b2⟩
  have cpa := Parse_any input aE rs w2 HF.out.inp ((HH.out.1.below B1).below b2).ends HF.out.form
  go_wp2_with fail
  refine cpa.mono ?_
  rintro e w3 ⟨v, ps, rfl, own3, hd3, b3⟩
  obtain ⟨aP, cP, hvp⟩ := own_slice own3
  subst hvp
  have B3 : Below W1.heap.size W1 w3 := b2.trans (b3.mono b2.size)
  have BW3 : Below w.heap.size w w3 := B1.trans (B3.mono B1.size)
  have N3 : New Bo w w3 := (New.refl w).below BW3
  have hq3 := (B3.block _ (lt_of_block hq1)).trans hq1
  have x0 : w3.cell? ⟨w.heap.size, 0, none⟩ = some (.int .i64 (K : Int)) := st_cell hq3 0
  have x1 : w3.cell? ⟨w.heap.size, 1, none⟩ = some (.int .i64 (M : Int)) := st_cell hq3 1
  have x2 : w3.cell? ⟨w.heap.size, 2, none⟩ = some (.int .i64 (Bn : Int)) := st_cell hq3 2
  have G3 := HH.out.1.new N3
  have D3 := HH.out.2.1.below BW3
  have cd3 := cdd w3 N3 D3
  have cj3 := cjo w3 G3.gs D3.low
  have H3 : Hid (New Bo w w3 ∧ Gl w3 a bb aE ∧ Disk Bo w3 p S ∧ w3.ownsRow w2.heap.size 9 1 (.slice aP ps.length cP) ps.length (scells ps) ∧ datas ps = rs) := ⟨N3, G3, D3, own3, hd3⟩
  clear cpa own3 hd3 b3 B3 BW3 N3 hq3 hq1 G3 D3 cdd cjo cm b2 B1
  go_wp2_with fail
  refine cd3.mono ?_
  rintro e w4 ⟨rfl, hw4⟩
  have hw4' := hw4.symm
  subst hw4'
  go_wp2_with fail
  refine cj3.mono ?_
  rintro e w5 ⟨j, rfl, hJ5, hj5, b5⟩
  have N5 : New Bo w3 w5 := (New.refl _).below b5
  have cbe := begin_none j p K M Bn T R S N a bb w5 hJ5 (H3.out.2.1.gs.below b5) (H3.out.2.2.1.below b5) HH.out.2.2.1 (by omega) HH.out.2.2.2.1 HH.out.2.2.2.2 htx (Nat.le_trans H3.out.2.1.many hj5)
  have H5 : Hid (New Bo w3 w5 ∧ w3.heap.size ≤ j) := ⟨N5, hj5⟩
  clear hJ5 hj5 b5 N5 cj3 cd3 x0 x1 x2
  go_wp2_with fail
  refine cbe.mono ?_
  rintro e w6 ⟨S1, S2, rfl, hJ6, d6, l6, v6, k6⟩
  have N6 : New Bo w3 w6 := H5.out.1.fk k6 H5.out.2
  have G6 := H3.out.2.1.new N6
  have R1 := HH.out.2.2.1.less l6 (by omega)
  have hpz : (whole (planHB.data.toList ++ T.data.toList)).size ≤ 100000 := by
    refine Nat.le_trans (whole_size _ ?_) ?_
    · rw [List.length_append, len_size, len_size]; have : planHB.size = 5 := rfl; omega
    · rw [List.length_append, len_size, len_size]; have : planHB.size = 5 := rfl; omega
  have R2 := R1.saved v6 hpz plan_draft (by omega)
  have hno : ∀ i, i < 16 → S2.look (nameB i) = none := fun i hi => by
    rw [v6.look_old R1.good.ok R1.good.sorted (fun e => nameB_plan i e.symm)]
    exact Less.gone l6 (by unfold leftL; rw [List.mem_append, List.mem_cons]; exact .inl (.inr (List.mem_map.2 ⟨i, List.mem_range.2 hi, rfl⟩)))
  have hnc : S2.look countsB = none := by
    rw [v6.look_old R1.good.ok R1.good.sorted (by rw [Lib.toList_data, Lib.toList_data]; decide)]
    exact Less.gone l6 (by rw [List.mem_append]; exact .inr (List.mem_singleton.2 rfl))
  have hpl : ps.length = rs.length := by rw [← H3.out.2.2.2.2, datas_length]
  have hmay : ∀ r ∈ ps, May r K M ∧ r.size ≤ 100000 := fun r hr => by
    have h1 : r.data.toList ∈ rs := by rw [← H3.out.2.2.2.2]; exact List.mem_map.2 ⟨r, hr, rfl⟩
    have h2 := HF.out.reads _ h1
    exact ⟨⟨by have := HF.out.k1; omega, by have := HF.out.k2; omega, by have := HF.out.m1; omega, by have := HF.out.m2; omega, h2.1⟩, by rw [Lib.size_eq]; omega⟩
  have cfi := finish_any j p K M Bn T R (.slice aP ps.length cP) ps S2 (N + 18 + 2) a bb w6 hJ6 G6.gs G6.sen d6 R2 (by omega) (own_lower (N6.own H3.out.2.2.2.1 not_ours_s) (Nat.zero_le _)) hno hnc hmay (by rw [hpl]; exact HF.out.many) (by rw [H3.out.2.2.2.2]; exact HF.out.words) HF.out.k1 HF.out.k2 HF.out.m1 HF.out.m2 HF.out.b1 HF.out.b2 hrz G6.many
  have H6 : Hid (New Bo w3 w6) := N6
  clear hJ6 d6 l6 v6 k6 N6 G6 R1 hpz R2 hno hnc hmay cbe hpl
  go_wp2_with fail
  refine cfi.mono ?_
  rintro e w7 ⟨S', es, rfl, d7, r7, l7, t7, n7⟩
  rw [H3.out.2.2.2.2] at t7
  have HE : Hid (Disk Bo w7 p S' ∧ Done S' (N + 120) K rs R es ∧ New Bo w w7) := by
    refine ⟨d7, ⟨r7.mono (by omega), l7, t7⟩, ?_⟩
    have h1 : New Bo w w6 := H3.out.1.fk (q := w3.heap.size) H6.out H3.out.1.size
    exact h1.fk (q := w6.heap.size) n7 h1.size
  clear d7 r7 l7 t7 n7 cfi
  go_wp2
  go_ret
  exact ⟨S', es, rfl, HE.out.1, HE.out.2.1, HE.out.2.2⟩

set_option maxHeartbeats 1000000 in
set_option maxRecDepth 100000 in
theorem Run_any {Bo : Nat} (p K M Bn : Nat) (input : ByteArray) (rs : List (List UInt8)) (S : DS) (N : Nat) (a bb aE : Addr) (w : World) (hG : Gl w a bb aE) (hD : Disk Bo w p S) (hS : RoomB S N) (hN : N ≤ 100) (hF : Fit K M Bn input rs) (hl1 : S.look planB = none) (hl2 : S.look countsB = none) :
    Calls Tryz.prog 19 #[.pointer (some ⟨p, 0, none⟩), .string input, optV K M Bn] w fun e w' => ∃ S' es, e = .returned (.int .i64 0) ∧ Disk Bo w' p S' ∧ Done S' (N + 120) K rs (runB (textB K M Bn input)) es ∧ New Bo w w' := by
  have cr : ∀ W, Below w.heap.size w W → _ := fun W hW => run_any p K M Bn input rs S N a bb aE W (hG.below hW) (hD.below hW) hS hN hF hl1 hl2
  have B1 : Below w.heap.size w (w.alloc (.cells #[.int .i64 (K : Int), .int .i64 (M : Int), .int .i64 (Bn : Int)] 29)) := (Below.refl _ w).alloc (Nat.le_refl _) _
  have c1 := cr _ B1
  have HB : Hid (Below w.heap.size w (w.alloc (.cells #[.int .i64 (K : Int), .int .i64 (M : Int), .int .i64 (Bn : Int)] 29))) := B1
  clear cr hG hD hS hF hl1 hl2 B1
  go_enter Tryz.func19, Tryz.ntmps19
  go_wp2_with fail
  refine c1.mono ?_
  rintro e w2 ⟨S', es, rfl, d2, f2, n2⟩
  have HE : Hid (Disk Bo w2 p S' ∧ Done S' (N + 120) K rs (runB (textB K M Bn input)) es ∧ New Bo w w2) := ⟨d2, f2, ((New.refl w).below HB.out).fk n2 HB.out.size⟩
  clear d2 f2 n2 c1
  go_wp2_with (go_at_call 37; go_must (refine (Number_nil _).mono ?_; rintro e w3 ⟨rfl, hw3⟩; have hw3' := hw3.symm; subst hw3'))
  go_ret
  exact ⟨S', es, rfl, HE.out.1, HE.out.2.1, HE.out.2.2⟩
end Go.Proofs.YtbjgpfhbdmcbbaaGreatDoor.jobs

/-
  CONTRACTS of package quern: find.
-/
namespace Go.Proofs.YtbjgpfhbdmcbbaaGreatDoor.base
open Go.RowKit Go.Proofs.YtbjgpfhbdmcbbaaGreatDoor.dnamath Go.Proofs.YtbjgpfhbdmcbbaaGreatDoor.dna Go.Proofs.YtbjgpfhbdmcbbaaGreatDoor.diskm Go.Proofs.YtbjgpfhbdmcbbaaGreatDoor.disk Go.Proofs.YtbjgpfhbdmcbbaaGreatDoor.keep Go.Proofs.YtbjgpfhbdmcbbaaGreatDoor.hex Go.Proofs.YtbjgpfhbdmcbbaaGreatDoor.pieces Go.Proofs.YtbjgpfhbdmcbbaaGreatDoor.files Go.Proofs.YtbjgpfhbdmcbbaaGreatDoor.parse Go.Proofs.YtbjgpfhbdmcbbaaGreatDoor.words Go.Proofs.YtbjgpfhbdmcbbaaGreatDoor.kinds Go.Proofs.YtbjgpfhbdmcbbaaGreatDoor.jobs
set_option linter.unusedVariables false

def cmpI (a b : List UInt8) : Int := if a < b then -1 else if b < a then 1 else 0

set_option maxHeartbeats 1000000 in
set_option maxRecDepth 100000 in
theorem isNaN_any (a : ByteArray) (w : World) : Calls Tryz.prog 112 #[.string a] w fun e w' => e = .returned (.bool false) ∧ w' = w := by
  have hne : (a.toList != a.toList) = false := by simp
  go_enter Tryz.func112, Tryz.ntmps112
  go_wp2
  go_ret
  exact ⟨by simp, rfl⟩

set_option maxHeartbeats 1000000 in
set_option maxRecDepth 100000 in
theorem Compare_any (a b : ByteArray) (w : World) : Calls Tryz.prog 66 #[.string a, .string b] w fun e w' => e = .returned (.int .i64 (cmpI a.data.toList b.data.toList)) ∧ w' = w := by
  by_cases h1 : a.data.toList < b.data.toList
  · have hv : cmpI a.data.toList b.data.toList = -1 := by unfold cmpI; rw [if_pos h1]
    have hb : Op.bytesLess a.toList b.toList = true := (strLt_iff a b).2 (by rw [Lib.toList_data, Lib.toList_data]; exact h1)
    rw [hv]
    clear hv h1
    go_enter Tryz.func66, Tryz.ntmps66
    go_wp2_with (go_at_call 112; go_must (refine (isNaN_any _ _).mono ?_; rintro e w' ⟨rfl, hw'⟩; have hw2 := hw'.symm; subst hw2))
    go_ret
    exact ⟨rfl, rfl⟩
  · have hb : Op.bytesLess a.toList b.toList = false := (strLt_not a b).2 (by rw [Lib.toList_data, Lib.toList_data]; exact h1)
    by_cases h2 : b.data.toList < a.data.toList
    · have hv : cmpI a.data.toList b.data.toList = 1 := by unfold cmpI; rw [if_neg h1, if_pos h2]
      have hb2 : (a.toList == b.toList) = false := by rw [beq_eq_false_iff_ne, Lib.toList_data, Lib.toList_data]; intro e; rw [e] at h2; exact List.lt_irrefl _ h2
      rw [hv]
      clear hv h1 h2
      go_enter Tryz.func66, Tryz.ntmps66
      go_wp2_with (go_at_call 112; go_must (refine (isNaN_any _ _).mono ?_; rintro e w' ⟨rfl, hw'⟩; have hw2 := hw'.symm; subst hw2))
      go_ret
      exact ⟨rfl, rfl⟩
    · have hv : cmpI a.data.toList b.data.toList = 0 := by unfold cmpI; rw [if_neg h1, if_neg h2]
      have hb2 : (a.toList == b.toList) = true := by rw [beq_iff_eq, Lib.toList_data, Lib.toList_data]; exact List.le_antisymm (List.not_lt.1 h2) (List.not_lt.1 h1)
      rw [hv]
      clear hv h1 h2
      go_enter Tryz.func66, Tryz.ntmps66
      go_wp2_with (go_at_call 112; go_must (refine (isNaN_any _ _).mono ?_; rintro e w' ⟨rfl, hw'⟩; have hw2 := hw'.symm; subst hw2))
      go_ret
      exact ⟨rfl, rfl⟩

set_option maxHeartbeats 1000000 in
set_option maxRecDepth 100000 in
theorem less_any (x t : ByteArray) (n : Int) (w : World) : Calls Tryz.prog 65 #[.agg #[.string x, .int .i64 n], .string t] w fun e w' => e = .returned (.int .i64 (cmpI x.data.toList t.data.toList)) ∧ Below w.heap.size w w' := by
  obtain ⟨r, hr⟩ : ∃ r, r = cmpI x.data.toList t.data.toList := ⟨_, rfl⟩
  have cc := fun W => Compare_any x t W
  simp only [← hr] at cc ⊢
  clear hr
  go_enter Tryz.func65, Tryz.ntmps65
  go_wp2_with (go_at_call 66; go_must (refine (cc _).mono ?_; rintro e w' ⟨rfl, hw'⟩; have hw2 := hw'.symm; subst hw2))
  go_ret
  exact ⟨rfl, (Below.refl _ w).alloc (Nat.le_refl _) _⟩

/-- where a text stands among entries -/
structure FoundAt (es : List Ent) (t : List UInt8) (i : Nat) (f : Bool) : Prop where
  le : i ≤ es.length
  less : ∀ (k : Nat) (x : Ent), k < i → es[k]? = some x → x.1.data.toList < t
  more : ∀ (k : Nat) (x : Ent), i ≤ k → es[k]? = some x → ¬ x.1.data.toList < t
  yes : f = true → ∃ n : Nat, es[i]? = some (⟨t.toArray⟩, n)
  no : f = false → ∀ (k : Nat) (x : Ent), es[k]? = some x → x.1.data.toList ≠ t

theorem sorted_get {es : List Ent} (hs : ((es.map cv).map Prod.fst).Pairwise (· < ·)) {a b : Nat} {x y : Ent} (hab : a < b) (hx : es[a]? = some x) (hy : es[b]? = some y) : x.1.data.toList < y.1.data.toList := by
  have hb := (List.getElem?_eq_some_iff.1 hy).1
  have h1 : ((es.map cv).map Prod.fst)[a]? = some x.1.data.toList := by simp [hx, cv]
  have h2 : ((es.map cv).map Prod.fst)[b]? = some y.1.data.toList := by simp [hy, cv]
  obtain ⟨l1, e1⟩ := List.getElem?_eq_some_iff.1 h1
  obtain ⟨l2, e2⟩ := List.getElem?_eq_some_iff.1 h2
  have := List.pairwise_iff_getElem.1 hs a b l1 l2 hab
  rw [e1, e2] at this
  exact this
theorem cmp_neg (a b : List UInt8) : cmpI a b < 0 ↔ a < b := by
  unfold cmpI
  by_cases h : a < b
  · rw [if_pos h]; exact ⟨fun _ => h, fun _ => by decide⟩
  · rw [if_neg h]
    refine ⟨fun h2 => ?_, fun h2 => absurd h2 h⟩
    split at h2 <;> omega
theorem cmp_zero (a b : List UInt8) : cmpI a b = 0 ↔ a = b := by
  unfold cmpI
  by_cases h : a < b
  · rw [if_pos h]
    exact ⟨fun h2 => by omega, fun h2 => by subst h2; exact absurd h (List.lt_irrefl _)⟩
  · rw [if_neg h]
    by_cases h2 : b < a
    · rw [if_pos h2]
      exact ⟨fun h3 => by omega, fun h3 => by subst h3; exact absurd h2 (List.lt_irrefl _)⟩
    · rw [if_neg h2]
      exact ⟨fun _ => List.le_antisymm (List.not_lt.1 h2) (List.not_lt.1 h), fun _ => rfl⟩

set_option maxHeartbeats 4000000 in
set_option maxRecDepth 100000 in
theorem search_any (ev : Value) (es : List Ent) (t : ByteArray) (base : Nat) (w : World) (hr : w.ownsRow base 43 2 ev es.length (ecells es)) (hs : ((es.map cv).map Prod.fst).Pairwise (· < ·)) (hl : es.length ≤ 100000) :
    Calls Tryz.prog 64 #[ev, .string t, .func (.func 65) #[] #[]] w fun e w' => ∃ i f, e = .returned (.tuple #[.int .i64 ((i : Nat) : Int), .bool f]) ∧ FoundAt es t.data.toList i f ∧ Below w.heap.size w w' := by
  obtain ⟨aE, cE, hev⟩ := own_slice hr
  subst hev
  have HS : Hid (((es.map cv).map Prod.fst).Pairwise (· < ·)) := hs
  have HR : Hid (w.ownsRow base 43 2 (.slice aE es.length cE) es.length (ecells es)) := hr
  clear hs hr
  go_enter Tryz.func64, Tryz.ntmps64
  go_wp2
  go_loopw [9, 10] (fun i j wr => ∃ (lo hi : Nat), i = .int .i64 (lo : Int) ∧ j = .int .i64 (hi : Int) ∧ lo ≤ hi ∧ hi ≤ es.length ∧ Hid ((∀ (k : Nat) (x : Ent), k < lo → es[k]? = some x → x.1.data.toList < t.data.toList) ∧ (∀ (k : Nat) (x : Ent), hi ≤ k → es[k]? = some x → ¬ x.1.data.toList < t.data.toList)) ∧ Hid (Below w.heap.size w wr)) (fun i j _ => (intOf j).toNat - (intOf i).toNat)
  case atStart => exact ⟨0, es.length, rfl, rfl, Nat.zero_le _, Nat.le_refl _, ⟨(fun k x h => by omega), (fun k x h hx => by have := (List.getElem?_eq_some_iff.1 hx).1; omega)⟩, Below.refl _ _⟩
  case round =>
    obtain ⟨lo, hi, rfl, rfl, hlh, hhl, hI, hB⟩ := hrel
    rename World => wr
    by_cases hlt : lo < hi
    · obtain ⟨x, hx⟩ : ∃ x, es[(lo + hi) / 2]? = some x := ⟨_, List.getElem?_eq_getElem (by omega)⟩
      rcases HR.out.2 with ⟨_, e0⟩ | ⟨g, cap, cur, e1, _, hg, _⟩
      · omega
      cases e1
      have hgl := lt_of_block hg
      have c0 : wr.cell? ⟨g, (lo + hi) / 2 * 2, none⟩ = some (.string x.1) := by
        rw [hB.out.cell (p := ⟨g, (lo + hi) / 2 * 2, none⟩) hgl, HR.out.cellAt (g := g) _ (by omega)]; exact ecells_at0 _ _ _ hx
      have c1 : wr.cell? ⟨g, (lo + hi) / 2 * 2 + 1, none⟩ = some (.int .i64 (x.2 : Int)) := by
        rw [hB.out.cell (p := ⟨g, (lo + hi) / 2 * 2 + 1, none⟩) hgl, HR.out.cellAt (g := g) _ (by omega)]; exact ecells_at1 _ _ _ hx
      have cl := less_any x.1 t (x.2 : Int) wr
      obtain ⟨r, hr⟩ : ∃ r, r = cmpI x.1.data.toList t.data.toList := ⟨_, rfl⟩
      rw [← hr] at cl
      by_cases hneg : r < 0
      · have HI : Hid ((∀ (k : Nat) (y : Ent), k < (lo + hi) / 2 + 1 → es[k]? = some y → y.1.data.toList < t.data.toList) ∧ (∀ (k : Nat) (y : Ent), hi ≤ k → es[k]? = some y → ¬ y.1.data.toList < t.data.toList)) := by
          refine ⟨fun k y hk hy => ?_, hI.out.2⟩
          rw [hr, cmp_neg] at hneg
          rcases Nat.lt_or_ge k ((lo + hi) / 2) with h | h
          · exact List.lt_trans (sorted_get HS.out h hy hx) hneg
          · have : k = (lo + hi) / 2 := by omega
            subst this
            rw [hx] at hy; cases hy; exact hneg
        have hd : decide (r < 0) = true := by simpa using hneg
        clear hr hx hI hg hgl
        go_wp2_with (go_at_call 65; go_must (refine cl.mono ?_; rintro e w2 ⟨rfl, b2⟩))
        have HB2 : Hid (Below w.heap.size w w2) := hB.out.trans (b2.mono hB.out.size)
        go_roundw
        case rel => exact ⟨(lo + hi) / 2 + 1, hi, by rw [show ((lo : Int) + (hi : Int)) / 2 + 1 = (((lo + hi) / 2 + 1 : Nat) : Int) by omega], rfl, by omega, hhl, HI, HB2⟩
        case measure => simp [intOf]; omega
      · have HI : Hid ((∀ (k : Nat) (y : Ent), k < lo → es[k]? = some y → y.1.data.toList < t.data.toList) ∧ (∀ (k : Nat) (y : Ent), (lo + hi) / 2 ≤ k → es[k]? = some y → ¬ y.1.data.toList < t.data.toList)) := by
          refine ⟨hI.out.1, fun k y hk hy hc => ?_⟩
          rw [hr, cmp_neg] at hneg
          rcases Nat.lt_or_ge ((lo + hi) / 2) k with h | h
          · exact hneg (List.lt_trans (sorted_get HS.out h hx hy) hc)
          · have : k = (lo + hi) / 2 := by omega
            subst this
            rw [hx] at hy; cases hy; exact hneg hc
        have hd : decide (r < 0) = false := by simpa using hneg
        clear hr hx hI hg hgl
        go_wp2_with (go_at_call 65; go_must (refine cl.mono ?_; rintro e w2 ⟨rfl, b2⟩))
        have HB2 : Hid (Below w.heap.size w w2) := hB.out.trans (b2.mono hB.out.size)
        go_roundw
        case rel => exact ⟨lo, (lo + hi) / 2, rfl, by rw [show ((lo : Int) + (hi : Int)) / 2 = (((lo + hi) / 2 : Nat) : Int) by omega], by omega, by omega, HI, HB2⟩
        case measure => simp [intOf]; omega
    · have hle : lo = hi := by omega
      subst hle
      by_cases hend : lo < es.length
      · obtain ⟨x, hx⟩ : ∃ x, es[lo]? = some x := ⟨_, List.getElem?_eq_getElem hend⟩
        rcases HR.out.2 with ⟨_, e0⟩ | ⟨g, cap, cur, e1, _, hg, _⟩
        · omega
        cases e1
        have hgl := lt_of_block hg
        have c0 : wr.cell? ⟨g, lo * 2, none⟩ = some (.string x.1) := by
          rw [hB.out.cell (p := ⟨g, lo * 2, none⟩) hgl, HR.out.cellAt (g := g) _ (by omega)]; exact ecells_at0 _ _ _ hx
        have c1 : wr.cell? ⟨g, lo * 2 + 1, none⟩ = some (.int .i64 (x.2 : Int)) := by
          rw [hB.out.cell (p := ⟨g, lo * 2 + 1, none⟩) hgl, HR.out.cellAt (g := g) _ (by omega)]; exact ecells_at1 _ _ _ hx
        have cl := less_any x.1 t (x.2 : Int) wr
        obtain ⟨r, hr⟩ : ∃ r, r = cmpI x.1.data.toList t.data.toList := ⟨_, rfl⟩
        rw [← hr] at cl
        have HFD : Hid (FoundAt es t.data.toList lo (decide (r = 0))) := by
          refine ⟨by omega, hI.out.1, hI.out.2, fun h => ?_, fun h k y hy e => ?_⟩
          · have h0 : r = 0 := by simpa using h
            rw [hr, cmp_zero] at h0
            refine ⟨x.2, ?_⟩
            rw [hx]
            have : x.1 = ⟨t.data.toList.toArray⟩ := kinds.bytes_eq (by rw [h0])
            rw [← this]
          · have h0 : ¬ r = 0 := by simpa using h
            rw [hr, cmp_zero] at h0
            have hkl : ¬ k < lo := fun hc => by
              have := hI.out.1 k y hc hy
              rw [e] at this; exact List.lt_irrefl _ this
            rcases Nat.lt_or_ge lo k with h1 | h1
            · have := sorted_get HS.out h1 hx hy
              rw [e] at this
              exact hI.out.2 lo x (Nat.le_refl _) hx this
            · have : k = lo := by omega
              subst this
              rw [hx] at hy; cases hy; exact h0 e
        clear hr hx hI hg hgl
        go_wp2_with (go_at_call 65; go_must (refine cl.mono ?_; rintro e w2 ⟨rfl, b2⟩))
        go_ret2
        refine ⟨lo, decide (r = 0), ?_, HFD.out, hB.out.trans (b2.mono hB.out.size)⟩
        simp
        by_cases h0 : r = 0 <;> simp [h0]
      · have hle2 : lo = es.length := by omega
        have HFD : Hid (FoundAt es t.data.toList lo false) := by
          refine ⟨by omega, hI.out.1, hI.out.2, (fun h => by cases h), fun _ k y hy e => ?_⟩
          have hk := (List.getElem?_eq_some_iff.1 hy).1
          have := hI.out.1 k y (by omega) hy
          rw [e] at this
          exact List.lt_irrefl _ this
        clear hI hle2
        go_wp2
        go_ret2
        exact ⟨lo, false, rfl, HFD.out, hB.out⟩

/-- counts that were opened -/
structure BaseAt (w : World) (q K base : Nat) (ev : Value) (es : List Ent) (tot : Nat) : Prop where
  blk : w.heap[q]? = some (.cells #[.int .i64 (K : Int), ev, .int .i64 (tot : Int)] 95 (0, 0))
  row : w.ownsRow base 43 2 ev es.length (ecells es)
  sorted : ((es.map cv).map Prod.fst).Pairwise (· < ·)
  few : es.length ≤ 100000
theorem not_ours_b : ¬ ours 95 := by unfold ours; decide
theorem BaseAt.new {Bo : Nat} {w w' : World} {q K base : Nat} {ev : Value} {es : List Ent} {tot : Nat} (h : BaseAt w q K base ev es tot) (hk : New Bo w w') : BaseAt w' q K base ev es tot := by
  refine ⟨(hk.block q (lt_of_block h.blk) (Nat.ne_of_lt (lt_of_block h.blk)) (fun ⟨cs', fz', e⟩ => by rw [h.blk] at e; cases e) (by
    rintro ⟨cs', T', fz', e, hd⟩
    rw [h.blk] at e
    cases e
    rcases hd with h | h | h | h <;> exact absurd h (by decide))).trans h.blk, hk.own h.row not_ours_e, h.sorted, h.few⟩
theorem BaseAt.below {w w' : World} {q K base : Nat} {ev : Value} {es : List Ent} {tot : Nat} (h : BaseAt w q K base ev es tot) (hk : Below w.heap.size w w') : BaseAt w' q K base ev es tot := h.new ((New.refl (Bo := 0) w).below hk)

set_option maxHeartbeats 1000000 in
set_option maxRecDepth 100000 in
theorem find_any (q K base : Nat) (ev : Value) (es : List Ent) (tot : Nat) (t : ByteArray) (w : World) (hB : BaseAt w q K base ev es tot) :
    Calls Tryz.prog 40 #[.pointer (some ⟨q, 0, none⟩), .string t] w fun e w' => ∃ i f, e = .returned (.tuple #[.int .i64 ((i : Nat) : Int), .bool f]) ∧ FoundAt es t.data.toList i f ∧ Below w.heap.size w w' := by
  have cs := search_any ev es t base w hB.row hB.sorted hB.few
  have c1 : w.cell? ⟨q, 1, none⟩ = some ev := st_cell hB.blk 1
  clear hB
  go_enter Tryz.func40, Tryz.ntmps40
  go_wp2_with (go_at_call 64; go_must (refine cs.mono ?_; rintro e w1 ⟨i, f, rfl, hf, b1⟩))
  go_ret2
  exact ⟨i, f, rfl, hf, b1⟩

set_option maxHeartbeats 1000000 in
set_option maxRecDepth 100000 in
theorem K_any (q K base : Nat) (ev : Value) (es : List Ent) (tot : Nat) (w : World) (hB : BaseAt w q K base ev es tot) :
    Calls Tryz.prog 24 #[.pointer (some ⟨q, 0, none⟩)] w fun e w' => e = .returned (.int .i64 (K : Int)) ∧ w' = w := by
  have c0 : w.cell? ⟨q, 0, none⟩ = some (.int .i64 (K : Int)) := st_cell hB.blk 0
  clear hB
  go_enter Tryz.func24, Tryz.ntmps24
  go_wp2
  go_ret
  exact ⟨rfl, rfl⟩

set_option maxHeartbeats 1000000 in
set_option maxRecDepth 100000 in
theorem Sums_any (q K base : Nat) (ev : Value) (es : List Ent) (tot : Nat) (w : World) (hB : BaseAt w q K base ev es tot) :
    Calls Tryz.prog 22 #[.pointer (some ⟨q, 0, none⟩)] w fun e w' => e = .returned (.tuple #[.int .i64 (es.length : Int), .int .i64 (tot : Int)]) ∧ Still w w' := by
  obtain ⟨aE, cE, hev⟩ := own_slice hB.row
  subst hev
  have c1 : w.cell? ⟨q, 1, none⟩ = some (.slice aE es.length cE) := st_cell hB.blk 1
  have c2 : w.cell? ⟨q, 2, none⟩ = some (.int .i64 (tot : Int)) := st_cell hB.blk 2
  clear hB
  go_enter Tryz.func22, Tryz.ntmps22
  go_wp2
  go_quiet (fail)
  obtain ⟨W1, hW1⟩ : ∃ W, W = w.drewN nq := ⟨_, rfl⟩
  have S1 : Still w W1 := by rw [hW1]; exact Still.drewN _ _
  rw [← hW1]
  go_wp2
  go_ret2
  exact ⟨rfl, S1⟩
end Go.Proofs.YtbjgpfhbdmcbbaaGreatDoor.base
