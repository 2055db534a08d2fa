import Derived.Test.YtbjgpfhbdmcbbaaGreatDoorP37
import Derived.Test.YtbjgpfhbdmcbbaaGreatDoorP39

/-
  FACTS for the walks on disks that die.
-/
namespace Go.Proofs.YtbjgpfhbdmcbbaaGreatDoor.keep
open Go.RowKit dnamath dna diskm disk hex pieces files parse words kinds jobs base fill
set_option linter.unusedVariables false

theorem lowRow_new {w w1 w2 : World} {a : Option Addr} {len cap : Nat} {zs : List Int} (h : LowRow w.heap.size w1 a len cap zs) (hs : w.heap.size ≤ w1.heap.size) (hk : New w.heap.size w1 w2) : LowRow w.heap.size w2 a len cap zs := by
  obtain ⟨h, hl⟩ := h
  refine ⟨?_, hl⟩
  rcases h with h | ⟨x, h1, h2, h3, h4, h5, h6⟩
  · exact .inl h
  · refine .inr ⟨x, h1, h2, h3, h4, fun i hi => ?_, h6⟩
    have hc := h5 i hi
    have hb : (x.add i).block = x.block := by unfold Addr.add; split <;> rfl
    have hlt := World.block_lt_of_cell? _ _ hc
    have hlo := hl x h1 (by omega)
    rw [← hc]
    unfold World.cell?
    rw [hk.low _ hlt (by rw [hb]; exact hlo) (by rw [hb]; omega)]

/-- a list of entries of one's own -/
def EOwn (w : World) (v : Value) (es : List Ent) : Prop := ∃ b, w.ownsRow b 43 2 v es.length (ecells es)
theorem EOwn.new {Bo : Nat} {w w' : World} {v : Value} {es : List Ent} (h : EOwn w v es) (hk : New Bo w w') : EOwn w' v es := by
  obtain ⟨b, h⟩ := h
  exact ⟨b, hk.own h not_ours_e⟩
theorem EOwn.row {w : World} {v : Value} {es : List Ent} (h : EOwn w v es) : ERow w v es := by
  obtain ⟨b, h⟩ := h
  exact ERow.of_own h

/-- what is carried along -/
structure Ctx (aF : Addr) (w wi : World) (a bb aE : Addr) (qo K M Bn : Nat) (a0 : Option Addr) (len cap : Nat) (zs : List Int) : Prop where
  new : New w.heap.size w wi
  gl : Gl wi a bb aE
  gm : Gm aF wi
  opt : OptAt wi qo K M Bn
  row : LowRow w.heap.size wi a0 len cap zs
theorem Ctx.to {aF : Addr} {w wi wj : World} {a bb aE : Addr} {qo K M Bn : Nat} {a0 : Option Addr} {len cap : Nat} {zs : List Int} (h : Ctx aF w wi a bb aE qo K M Bn a0 len cap zs) (hk : New w.heap.size wi wj) : Ctx aF w wj a bb aE qo K M Bn a0 len cap zs :=
  ⟨keep.New.and h.new hk, h.gl.new hk, h.gm.new hk, h.opt.new hk, lowRow_new h.row h.new.size hk⟩
theorem Ctx.below {aF : Addr} {w wi wj : World} {a bb aE : Addr} {qo K M Bn : Nat} {a0 : Option Addr} {len cap : Nat} {zs : List Int} (h : Ctx aF w wi a bb aE qo K M Bn a0 len cap zs) (hk : Below wi.heap.size wi wj) : Ctx aF w wj a bb aE qo K M Bn a0 len cap zs := h.to ((New.refl wi).below hk)
theorem Ctx.kept {aF : Addr} {w wi wj : World} {a bb aE : Addr} {qo K M Bn : Nat} {a0 : Option Addr} {len cap : Nat} {zs : List Int} (h : Ctx aF w wi a bb aE qo K M Bn a0 len cap zs) (hk : Kept w.heap.size wi wj) : Ctx aF w wj a bb aE qo K M Bn a0 len cap zs := h.to ((New.refl wi).kept hk)
/-- and two lists of entries -/
structure Cty (aF : Addr) (w wi : World) (a bb aE : Addr) (qo K M Bn : Nat) (a0 : Option Addr) (len cap : Nat) (zs : List Int) (v1 : Value) (e1 : List Ent) (v2 : Value) (e2 : List Ent) : Prop where
  c : Ctx aF w wi a bb aE qo K M Bn a0 len cap zs
  one : EOwn wi v1 e1
  two : EOwn wi v2 e2
theorem Cty.to {aF : Addr} {w wi wj : World} {a bb aE : Addr} {qo K M Bn : Nat} {a0 : Option Addr} {len cap : Nat} {zs : List Int} {v1 v2 : Value} {e1 e2 : List Ent} (h : Cty aF w wi a bb aE qo K M Bn a0 len cap zs v1 e1 v2 e2) (hk : New w.heap.size wi wj) : Cty aF w wj a bb aE qo K M Bn a0 len cap zs v1 e1 v2 e2 := ⟨h.c.to hk, h.one.new hk, h.two.new hk⟩
theorem Cty.below {aF : Addr} {w wi wj : World} {a bb aE : Addr} {qo K M Bn : Nat} {a0 : Option Addr} {len cap : Nat} {zs : List Int} {v1 v2 : Value} {e1 e2 : List Ent} (h : Cty aF w wi a bb aE qo K M Bn a0 len cap zs v1 e1 v2 e2) (hk : Below wi.heap.size wi wj) : Cty aF w wj a bb aE qo K M Bn a0 len cap zs v1 e1 v2 e2 := h.to ((New.refl wi).below hk)
theorem Cty.kept {aF : Addr} {w wi wj : World} {a bb aE : Addr} {qo K M Bn : Nat} {a0 : Option Addr} {len cap : Nat} {zs : List Int} {v1 v2 : Value} {e1 e2 : List Ent} (h : Cty aF w wi a bb aE qo K M Bn a0 len cap zs v1 e1 v2 e2) (hk : Kept w.heap.size wi wj) : Cty aF w wj a bb aE qo K M Bn a0 len cap zs v1 e1 v2 e2 := h.to ((New.refl wi).kept hk)
theorem textB_ends (K M Bn : Nat) (s : ByteArray) : kinds.Ends (textB K M Bn s).data.toList := by
  refine ⟨(optB K M Bn ++ nlB ++ s).data.toList, ?_⟩
  unfold textB
  rw [ByteArray.data_append, Array.toList_append]
  rfl

theorem die_ok {S : DS} {N n : Nat} (h : S.Ok N) (hn : n ≤ 1000000) : (DS.die S n).Ok N := ⟨h.ref, h.nl, h.fl, h.tl, h.sl, h.fa, h.w0, h.w1, by show -1 ≤ (n : Int); omega, by show (n : Int) ≤ 1000000000; omega⟩
theorem die_sane {S : DS} {n : Nat} (h : Sane S) : Sane (DS.die S n) := ⟨h.now, h.sorted, h.named, h.refS, h.refT, h.kinds, h.sync, h.small⟩
end Go.Proofs.YtbjgpfhbdmcbbaaGreatDoor.keep

/-
  CONTRACTS of package quern on a disk that may die: run, Run.
-/
namespace Go.Proofs.YtbjgpfhbdmcbbaaGreatDoor.jobs
open Go.RowKit dnamath dna diskm disk keep hex pieces files parse words kinds
set_option linter.unusedVariables false

def HasK (n : ByteArray) (D : List DName) : Prop := ∃ x ∈ D, key x = n.toList
def OnlyD (D : List DName) : Prop := ∀ x ∈ D, key x = draftB.toList
/-- a disk between runs -/
structure Ready (A : List UInt8 → DFile → Prop) (S : DS) (N : Nat) : Prop where
  live : Live A draftB S N
  safe : S.safe = S.now
  steps : S.steps = []
  plan : HasK planB S.now ∨ OnlyD S.now
/-- the run is begun -/
structure BegunR (A : List UInt8 → DFile → Prop) (S S' : DS) (N : Nat) : Prop where
  live : Live A draftB S' N
  safe : S'.safe = S'.now
  steps : S'.steps = []
  plan : AllDirs S' (HasK planB)
  counts : HasK countsB S.now → AllDirs S' (HasK countsB)
  mort : 0 ≤ S'.life → 0 ≤ S.life
/-- the run is done -/
structure WellR (A : List UInt8 → DFile → Prop) (S S' : DS) (N : Nat) : Prop where
  live : Live A draftB S' N
  plan : AllDirs S' (HasK planB)
  counts : AllDirs S' (HasK countsB)
  mort : 0 ≤ S'.life → 0 ≤ S.life
/-- the run was cut -/
structure CutR (A : List UInt8 → DFile → Prop) (S S' : DS) (N : Nat) : Prop where
  live : Live A draftB S' N
  dirs : AllDirs S' (fun D => HasK planB D ∨ OnlyD D)
  counts : HasK countsB S.now → AllDirs S' (HasK countsB)
  dead : S'.life = 0
  mort : 0 ≤ S'.life → 0 ≤ S.life

theorem plan_ne : planB.toList ≠ [] := by rw [Lib.toList_data]; decide
theorem counts_ne : countsB.toList ≠ [] := by rw [Lib.toList_data]; decide
theorem has_look {A : List UInt8 → DFile → Prop} {S : DS} {N : Nat} {n : ByteArray} (h : Live A draftB S N) (hn : n.toList ≠ draftB.toList) (hk : HasK n S.now) : ∃ f, S.look n = some f ∧ A n.toList f := by
  obtain ⟨x, hx, e⟩ := hk
  rcases h.sound.okay.now h.sound.sane x hx with h1 | ⟨f, h1, h2⟩
  · rw [e] at h1; exact absurd h1 hn
  · exact ⟨f, (look_iff h.sound.sane.cur.1).2 ⟨x, hx, e, h2⟩, by rw [← e]; exact h1⟩
theorem look_has {A : List UInt8 → DFile → Prop} {S : DS} {N : Nat} {n : ByteArray} {f : DFile} (h : Live A draftB S N) (hl : S.look n = some f) : HasK n S.now := by
  obtain ⟨x, hx, e, _⟩ := (look_iff h.sound.sane.cur.1).1 hl
  exact ⟨x, hx, e⟩
theorem only_look {A : List UInt8 → DFile → Prop} {S : DS} {N : Nat} {n : ByteArray} (h : Live A draftB S N) (hn : n.toList ≠ draftB.toList) (hk : OnlyD S.now) : S.look n = none := by
  cases hl : S.look n with
  | none => rfl
  | some f =>
    obtain ⟨x, hx, e⟩ := look_has h hl
    exact absurd (e.symm.trans (hk x hx)) hn
theorem only_has {D : List DName} {n : ByteArray} (hn : n.toList ≠ draftB.toList) (hk : OnlyD D) : ¬ HasK n D := fun ⟨x, hx, e⟩ => hn (e.symm.trans (hk x hx))
theorem only_plan {D : List DName} (h : ∀ x ∈ D, key x = draftB.toList ∨ key x = planB.toList) : HasK planB D ∨ OnlyD D := by
  by_cases h1 : HasK planB D
  · exact .inl h1
  · exact .inr (fun x hx => (h x hx).resolve_right (fun e => h1 ⟨x, hx, e⟩))
theorem BegunR.well {A : List UInt8 → DFile → Prop} {S T U : DS} {N M : Nat} (h : BegunR A S T N) (k : Flow A T U M) (hc : AllDirs U (HasK countsB)) : WellR A S U M :=
  ⟨k.live, k.went.dirs _ (closed_has plan_ne draft_plan plan_RL) h.plan, hc, fun hl => h.mort (k.went.mort hl)⟩
theorem BegunR.cut {A : List UInt8 → DFile → Prop} {S T U : DS} {N M : Nat} (h : BegunR A S T N) (k : Flow A T U M) (hd : U.life = 0) : CutR A S U M :=
  ⟨k.live, (k.went.dirs _ (closed_has plan_ne draft_plan plan_RL) h.plan).mono (fun D h => .inl h), fun hc => k.went.dirs _ (closed_has counts_ne draft_counts counts_RL) (h.counts hc), hd, fun hl => h.mort (k.went.mort hl)⟩
theorem WellR.mono {A : List UInt8 → DFile → Prop} {S T : DS} {N M : Nat} (h : WellR A S T N) (hm : N ≤ M) : WellR A S T M := ⟨h.live.mono hm, h.plan, h.counts, h.mort⟩
theorem CutR.mono {A : List UInt8 → DFile → Prop} {S T : DS} {N M : Nat} (h : CutR A S T N) (hm : N ≤ M) : CutR A S T M := ⟨h.live.mono hm, h.dirs, h.counts, h.dead, h.mort⟩
theorem Ready.dirs {A : List UInt8 → DFile → Prop} {S : DS} {N : Nat} {Q : List DName → Prop} (h : Ready A S N) (hq : Q S.now) : AllDirs S Q := dirs_sync (S := S) h.safe h.steps hq

/-- what runs on disks that die read of variables -/
structure Gx (aF a b : Addr) (w : World) : Prop where
  gm : Gm aF w
  sen : SenF w a b aF
  dead : ∃ x, VarIs w 3 (.iface 296 (.pointer (some x)))
theorem Gx.new {aF a b : Addr} {Bo : Nat} {w w' : World} (h : Gx aF a b w) (hk : New Bo w w') : Gx aF a b w' := by
  obtain ⟨x, hx⟩ := h.dead
  exact ⟨h.gm.new hk, senF_new h.sen hk, x, hx.new hk⟩
theorem Gx.below {aF a b : Addr} {w w' : World} (h : Gx aF a b w) (hk : Below w.heap.size w w') : Gx aF a b w' := h.new ((New.refl (Bo := 0) w).below hk)

theorem begin_m {aF : Addr} {Bo : Nat} (j p K M Bn : Nat) (text run : ByteArray) (rs : List (List UInt8)) (S : DS) (N : Nat) (a bb : Addr) (w : World) (hJ : JobAt Bo w j p K M Bn text run) (hg : Gs w a bb) (hD : Disk Bo w p S) (hR : Ready (Allow K M Bn text run rs) S N) (hal : S.life ≠ 0) (hN : N ≤ 8600) (hfa : FailIs aF w) (ht : text.size ≤ 50000) (hE : kinds.Ends text.data.toList) (hj : 27 ≤ j) :
    Calls Tryz.prog 61 #[.pointer (some ⟨j, 0, none⟩)] w fun e w' => (∃ S2, e = .returned .nilIface ∧ JobAt Bo w' j p K M Bn text run ∧ Disk Bo w' p S2 ∧ BegunR (Allow K M Bn text run rs) S S2 (N + 64) ∧ FK Bo j w w') ∨ (∃ v S2, e = .returned v ∧ DiskErr aF w' v ∧ Disk Bo w' p S2 ∧ CutR (Allow K M Bn text run rs) S S2 (N + 64) ∧ FK Bo j w w') := by
  have hnd : ¬ isDisk w j := by
    obtain ⟨cs, sum, wr, hf, _⟩ := hJ.ex
    exact hf.notDisk
  rcases hR.plan with hp | hp
  · obtain ⟨f, hl, hA⟩ := has_look hR.live draft_plan hp
    rw [allow_plan hA] at hl
    refine (begin_same j p K M Bn text run S N a bb w hJ hg hD hR.live.ok (by omega) (alive hal) hl hE (by omega) hj).mono ?_
    rintro e w' ⟨rfl, h1, h2⟩
    exact .inl ⟨S, rfl, h1, h2.disk hD hnd, ⟨hR.live.mono (by omega), hR.safe, hR.steps, hR.dirs hp, fun hc => hR.dirs hc, id⟩, FK.ofWK h2⟩
  · refine (begin_none_m j p K M Bn text run rs S N a bb w hJ hg hD hR.live (alive hal) hN hfa (only_look hR.live draft_plan hp) (only_look hR.live draft_counts hp) ht hj).mono ?_
    rintro e w' (⟨S2, rfl, h1, h2, h3, h4⟩ | ⟨v, S2, rfl, hv, h2, h3, h4⟩)
    · exact .inl ⟨S2, rfl, h1, h2, ⟨h3.1, h3.2.2.2.1, h3.2.2.2.2, dirs_look h3.1 h3.2.2.2.1 h3.2.2.2.2 h3.2.2.1, fun hc => absurd hc (only_has draft_counts hp), h3.2.1.mort⟩, h4⟩
    · refine .inr ⟨v, S2, rfl, hv, h2, ⟨h3.live, ?_, fun hc => absurd hc (only_has draft_counts hp), h3.dead, h3.went.mort⟩, h4⟩
      exact (h3.went.dirs _ (closed_only (N := fun n => n = draftB.toList ∨ n = planB.toList) (.inl rfl) (fun n hn => .inr hn)) (hR.dirs (fun x hx => .inl (hp x hx)))).mono (fun D h => only_plan h)

set_option maxHeartbeats 4000000 in
set_option maxRecDepth 100000 in
theorem run_m {aF : Addr} {Bo : Nat} (p K M Bn : Nat) (input : ByteArray) (rs : List (List UInt8)) (S : DS) (N : Nat) (a bb aE : Addr) (w : World) (hG : Gl w a bb aE) (hx : Gx aF a bb w) (hD : Disk Bo w p S) (hR : Ready (Allow K M Bn (textB K M Bn input) (runB (textB K M Bn input)) rs) S N) (hN : N ≤ 8100) (hF : Fit K M Bn input rs) :
    Calls Tryz.prog 38 #[.pointer (some ⟨p, 0, none⟩), .string input, optV K M Bn] w fun e w' => ((∃ S', e = .returned .nilIface ∧ Disk Bo w' p S' ∧ WellR (Allow K M Bn (textB K M Bn input) (runB (textB K M Bn input)) rs) S S' (N + 464)) ∨ (∃ v S', e = .returned v ∧ NumErr w' 8 v ∧ Disk Bo w' p S' ∧ CutR (Allow K M Bn (textB K M Bn input) (runB (textB K M Bn input)) rs) S S' (N + 464))) ∧ New Bo w w' := by
  have cm := fun W => mayBe_yes K M Bn W hF.k1 hF.k2 hF.odd hF.m1 hF.m2 hF.m3 hF.b1 hF.b2
  have HF : Hid (Fit K M Bn input rs) := hF
  have cdd : ∀ W, Disk Bo W p S → Calls Tryz.prog 27 #[.pointer (some ⟨p, 0, none⟩)] W fun e w' => e = .returned (.bool S.dead) ∧ w' = W := fun W hW => by
    obtain ⟨vF, vN, vS, vT, h⟩ := hW
    exact Dead_any p S vF vN vS vT W h
  have hts := text_size K M Bn input (by have := hF.k2; omega) (by have := hF.m3; omega) (by have := hF.b2; omega)
  have htx : (textB K M Bn input).size ≤ 50000 := by have := hF.inp; omega
  have cjo : ∀ W, Gs W a bb → Bo ≤ W.heap.size → _ := fun W hW hBW => jobOf_any (Bo := Bo) p K M Bn input a bb W hBW hW (by have := hF.k2; omega) (by have := hF.m3; omega) (by have := hF.b2; omega) (by have := hF.inp; omega)
  have hrz := run_size (textB K M Bn input)
  have hte := textB_ends K M Bn input
  obtain ⟨T, hT⟩ : ∃ T, T = textB K M Bn input := ⟨_, rfl⟩
  obtain ⟨R, hRn⟩ : ∃ R, R = runB T := ⟨_, rfl⟩
  simp only [← hT, ← hRn] at cjo htx hrz hte hR ⊢
  have HTE : Hid (kinds.Ends T.data.toList) := hte
  have HH : Hid (Gl w a bb aE ∧ Gx aF a bb w ∧ Disk Bo w p S ∧ Ready (Allow K M Bn T R rs) S N) := ⟨hG, hx, hD, hR⟩
  clear hT hRn hts hG hx hD hF hR hte
  go_enter Tryz.func38, Tryz.ntmps38
  go_wp2_with fail
  obtain ⟨W1, hW1⟩ : ∃ W1, W1 = w.alloc (.cells #[.int .i64 (K : Int), .int .i64 (M : Int), .int .i64 (Bn : Int)] 29) := ⟨_, rfl⟩
  have hq1 : W1.heap[w.heap.size]? = some (.cells #[.int .i64 (K : Int), .int .i64 (M : Int), .int .i64 (Bn : Int)] 29 (0, 0)) := by rw [hW1]; exact heap_alloc_new _ _
  have B1 : Below w.heap.size w W1 := by rw [hW1]; exact (Below.refl _ w).alloc (Nat.le_refl _) _
  rw [← hW1]
  clear hW1
  refine (cm _).mono ?_
  rintro e w2 ⟨rfl, b2⟩
  have cpa := Parse_any input aE rs w2 HF.out.inp ((HH.out.1.below B1).below b2).ends HF.out.form
  go_wp2_with fail
  refine cpa.mono ?_
  rintro e w3 ⟨v, ps, rfl, own3, hd3, b3⟩
  obtain ⟨aP, cP, hvp⟩ := own_slice own3
  subst hvp
  have B3 : Below W1.heap.size W1 w3 := b2.trans (b3.mono b2.size)
  have BW3 : Below w.heap.size w w3 := B1.trans (B3.mono B1.size)
  have N3 : New Bo w w3 := (New.refl w).below BW3
  have hq3 := (B3.block _ (lt_of_block hq1)).trans hq1
  have x0 : w3.cell? ⟨w.heap.size, 0, none⟩ = some (.int .i64 (K : Int)) := st_cell hq3 0
  have x1 : w3.cell? ⟨w.heap.size, 1, none⟩ = some (.int .i64 (M : Int)) := st_cell hq3 1
  have x2 : w3.cell? ⟨w.heap.size, 2, none⟩ = some (.int .i64 (Bn : Int)) := st_cell hq3 2
  have G3 := HH.out.1.new N3
  have X3 := HH.out.2.1.new N3
  have D3 := HH.out.2.2.1.below BW3
  have cd3 := cdd w3 D3
  have cj3 := cjo w3 G3.gs D3.low
  have H3 : Hid (New Bo w w3 ∧ Gl w3 a bb aE ∧ Gx aF a bb w3 ∧ Disk Bo w3 p S ∧ w3.ownsRow w2.heap.size 9 1 (.slice aP ps.length cP) ps.length (scells ps) ∧ datas ps = rs) := ⟨N3, G3, X3, D3, own3, hd3⟩
  clear cpa own3 hd3 b3 B3 BW3 N3 hq3 hq1 G3 X3 D3 cdd cjo cm b2 B1
  by_cases hdd : S.life = 0
  · have hdd2 : S.dead = true := by unfold DS.dead; rw [hdd]; rfl
    have HDE : Hid (S.life = 0) := hdd
    obtain ⟨aD, hvD⟩ := H3.out.2.2.1.dead
    have hcD := hvD.cell
    rw [hdd2] at cd3
    clear hdd hdd2 hvD cj3
    go_wp2_with fail
    refine cd3.mono ?_
    rintro e w4 ⟨rfl, hw4⟩
    have hw4' := hw4.symm
    subst hw4'
    clear hw4
    go_wp2_with fail
    refine (files.New_any 8 ⟨#[82, 117, 110]⟩ 296 (.pointer (some aD)) _).mono ?_
    rintro e w4 ⟨rfl, hw4⟩
    have HE : Hid (w4.heap[w3.heap.size]? = some (.cells #[.int .i64 8, .string ⟨#[82, 117, 110]⟩, .iface 296 (.pointer (some aD))] 118 (0, 0)) ∧ Disk Bo w4 p S ∧ New Bo w w4) := by
      rw [hw4]
      have b4 : Below w3.heap.size w3 (w3.alloc (.cells #[.int .i64 8, .string ⟨#[82, 117, 110]⟩, .iface 296 (.pointer (some aD))] 118)) := (Below.refl _ w3).alloc (Nat.le_refl _) _
      exact ⟨heap_alloc_new _ _, H3.out.2.2.2.1.below b4, H3.out.1.below b4⟩
    clear hw4 hcD x0 x1 x2
    go_wp2
    go_ret
    exact ⟨.inr ⟨_, S, rfl, ⟨_, _, aD, rfl, HE.out.1⟩, HE.out.2.1, ⟨HH.out.2.2.2.live.mono (by omega), HH.out.2.2.2.dirs HH.out.2.2.2.plan, fun hc => HH.out.2.2.2.dirs hc, HDE.out, id⟩⟩, HE.out.2.2⟩
  · rw [alive hdd] at cd3
    have HAL : Hid (S.life ≠ 0) := hdd
    clear hdd
    go_wp2_with fail
    refine cd3.mono ?_
    rintro e w4 ⟨rfl, hw4⟩
    have hw4' := hw4.symm
    subst hw4'
    clear hw4
    go_wp2_with fail
    refine cj3.mono ?_
    rintro e w5 ⟨j, rfl, hJ5, hj5, b5⟩
    have N5 : New Bo w3 w5 := (New.refl _).below b5
    have cbe := begin_m j p K M Bn T R rs S N a bb w5 hJ5 (H3.out.2.1.gs.below b5) (H3.out.2.2.2.1.below b5) HH.out.2.2.2 HAL.out (by omega) (H3.out.2.2.1.new N5).gm.fail htx HTE.out (Nat.le_trans H3.out.2.1.many hj5)
    have H5 : Hid (New Bo w3 w5 ∧ w3.heap.size ≤ j) := ⟨N5, hj5⟩
    clear hJ5 hj5 b5 N5 cj3 cd3 x0 x1 x2
    go_wp2_with fail
    refine cbe.mono ?_
    rintro e w6 (⟨S2, rfl, hJ6, d6, v6, k6⟩ | ⟨v, S2, rfl, hv, d6, c6, k6⟩)
    · have N6 : New Bo w3 w6 := H5.out.1.fk k6 H5.out.2
      have G6 := H3.out.2.1.new N6
      have X6 := H3.out.2.2.1.new N6
      have hpl : ps.length = rs.length := by rw [← H3.out.2.2.2.2.2, datas_length]
      have hmay : ∀ r ∈ ps, May r K M ∧ r.size ≤ 100000 := fun r hr => by
        have h1 : r.data.toList ∈ rs := by rw [← H3.out.2.2.2.2.2]; exact List.mem_map.2 ⟨r, hr, rfl⟩
        have h2 := HF.out.reads _ h1
        exact ⟨⟨by have := HF.out.k1; omega, by have := HF.out.k2; omega, by have := HF.out.m1; omega, by have := HF.out.m2; omega, h2.1⟩, by rw [Lib.size_eq]; omega⟩
      have cfi := finish_m j p K M Bn T R (.slice aP ps.length cP) ps S2 (N + 64) a bb w6 hJ6 G6.gs X6.sen X6.gm.fail d6 (by rw [H3.out.2.2.2.2.2]; exact v6.live) (by omega) ⟨v6.safe, v6.steps⟩ (own_lower (N6.own H3.out.2.2.2.2.1 not_ours_s) (Nat.zero_le _)) hmay (by rw [hpl]; exact HF.out.many) (by rw [H3.out.2.2.2.2.2]; exact HF.out.words) HF.out.k1 HF.out.k2 HF.out.m1 HF.out.m2 HF.out.b1 HF.out.b2 hrz G6.many
      rw [H3.out.2.2.2.2.2] at cfi
      have H6 : Hid (New Bo w w6 ∧ BegunR (Allow K M Bn T R rs) S S2 (N + 64)) := ⟨H3.out.1.fk (q := w3.heap.size) N6 H3.out.1.size, v6⟩
      clear hJ6 d6 v6 k6 N6 G6 X6 hmay cbe hpl
      go_wp2_with fail
      refine cfi.mono ?_
      rintro e w7 ⟨⟨S', rfl, d7, f7, c7⟩ | ⟨v, S', rfl, hv, d7, f7, l7⟩, n7⟩
      · have HE : Hid (Disk Bo w7 p S' ∧ WellR (Allow K M Bn T R rs) S S' (N + 64 + 400) ∧ New Bo w w7) := ⟨d7, H6.out.2.well f7 c7, H6.out.1.fk (q := w6.heap.size) n7 H6.out.1.size⟩
        clear d7 f7 c7 n7 cfi
        go_wp2
        go_ret
        exact ⟨.inl ⟨S', rfl, HE.out.1, HE.out.2.1⟩, HE.out.2.2⟩
      · obtain ⟨eb, s, ax, hve, hvb2⟩ := hv
        subst hve
        have HE : Hid (w7.heap[eb]? = some (.cells #[.int .i64 8, .string s, .iface 296 (.pointer (some ax.1))] 118 (0, 0)) ∧ Disk Bo w7 p S' ∧ CutR (Allow K M Bn T R rs) S S' (N + 64 + 400) ∧ New Bo w w7) := ⟨hvb2, d7, H6.out.2.cut f7 l7, H6.out.1.fk (q := w6.heap.size) n7 H6.out.1.size⟩
        clear hvb2 d7 f7 l7 n7 cfi
        go_wp2
        go_ret
        exact ⟨.inr ⟨_, S', rfl, ⟨eb, s, ax.1, rfl, HE.out.1⟩, HE.out.2.1, HE.out.2.2.1⟩, HE.out.2.2.2⟩
    · obtain ⟨eb, s, ax, hve, hvb2⟩ := hv
      subst hve
      have HE : Hid (w6.heap[eb]? = some (.cells #[.int .i64 8, .string s, .iface 296 (.pointer (some ax.1))] 118 (0, 0)) ∧ Disk Bo w6 p S2 ∧ CutR (Allow K M Bn T R rs) S S2 (N + 64) ∧ New Bo w w6) := ⟨hvb2, d6, c6, H3.out.1.fk (q := w3.heap.size) (H5.out.1.fk k6 H5.out.2) H3.out.1.size⟩
      clear hvb2 d6 c6 k6 cbe
      go_wp2
      go_ret
      exact ⟨.inr ⟨_, S2, rfl, ⟨eb, s, ax.1, rfl, HE.out.1⟩, HE.out.2.1, HE.out.2.2.1.mono (by omega)⟩, HE.out.2.2.2⟩

set_option maxHeartbeats 1000000 in
set_option maxRecDepth 100000 in
theorem Run_m {aF : Addr} {Bo : Nat} (p K M Bn : Nat) (input : ByteArray) (rs : List (List UInt8)) (S : DS) (N : Nat) (a bb aE : Addr) (w : World) (hG : Gl w a bb aE) (hx : Gx aF a bb w) (hD : Disk Bo w p S) (hR : Ready (Allow K M Bn (textB K M Bn input) (runB (textB K M Bn input)) rs) S N) (hN : N ≤ 8100) (hF : Fit K M Bn input rs) :
    Calls Tryz.prog 19 #[.pointer (some ⟨p, 0, none⟩), .string input, optV K M Bn] w fun e w' => ∃ (n : Int) (S' : DS), e = .returned (.int .i64 n) ∧ ((n = 0 ∧ WellR (Allow K M Bn (textB K M Bn input) (runB (textB K M Bn input)) rs) S S' (N + 464)) ∨ (n = 8 ∧ CutR (Allow K M Bn (textB K M Bn input) (runB (textB K M Bn input)) rs) S S' (N + 464))) ∧ Disk Bo w' p S' ∧ New Bo w w' := by
  have cr : ∀ W, Below w.heap.size w W → _ := fun W hW => run_m p K M Bn input rs S N a bb aE W (hG.below hW) (hx.below hW) (hD.below hW) hR hN hF
  have B1 : Below w.heap.size w (w.alloc (.cells #[.int .i64 (K : Int), .int .i64 (M : Int), .int .i64 (Bn : Int)] 29)) := (Below.refl _ w).alloc (Nat.le_refl _) _
  have c1 := cr _ B1
  have HB : Hid (Below w.heap.size w (w.alloc (.cells #[.int .i64 (K : Int), .int .i64 (M : Int), .int .i64 (Bn : Int)] 29))) := B1
  have HX : Hid (Gx aF a bb w) := hx
  clear cr hG hx hD hR hF B1
  go_enter Tryz.func19, Tryz.ntmps19
  go_wp2_with fail
  refine c1.mono ?_
  rintro e w2 ⟨⟨S', rfl, d2, f2⟩ | ⟨v, S', rfl, hv, d2, f2⟩, n2⟩
  · have HE : Hid (Disk Bo w2 p S' ∧ WellR (Allow K M Bn (textB K M Bn input) (runB (textB K M Bn input)) rs) S S' (N + 464) ∧ New Bo w w2) := ⟨d2, f2, ((New.refl w).below HB.out).fk n2 HB.out.size⟩
    clear d2 f2 n2 c1
    go_wp2_with (go_at_call 37; go_must (refine (Number_nil _).mono ?_; rintro e w3 ⟨rfl, hw3⟩; have hw3' := hw3.symm; subst hw3'))
    go_ret
    exact ⟨0, S', rfl, .inl ⟨rfl, HE.out.2.1⟩, HE.out.1, HE.out.2.2⟩
  · obtain ⟨eb, s, aO, hve, hvb⟩ := hv
    subst hve
    have n02 : New Bo w w2 := ((New.refl w).below HB.out).fk n2 HB.out.size
    have cn := Number_any eb 8 w2 (HX.out.new n02).gm.type.cell (st_cell hvb 0)
    have HE : Hid (Disk Bo w2 p S' ∧ CutR (Allow K M Bn (textB K M Bn input) (runB (textB K M Bn input)) rs) S S' (N + 464) ∧ New Bo w w2) := ⟨d2, f2, n02⟩
    clear d2 f2 n2 c1 hvb n02
    go_wp2_with fail
    refine cn.mono ?_
    rintro e w3 ⟨rfl, b3⟩
    have HE3 : Hid (Disk Bo w3 p S' ∧ New Bo w w3) := ⟨HE.out.1.below b3, HE.out.2.2.below b3⟩
    clear cn b3
    go_wp2
    go_ret
    exact ⟨8, S', rfl, .inr ⟨rfl, HE.out.2.1⟩, HE3.out.1, HE3.out.2⟩
end Go.Proofs.YtbjgpfhbdmcbbaaGreatDoor.jobs
