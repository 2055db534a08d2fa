import Derived.Test.YtbjgpfhbdmcbbaaGreatDoorP13
import Derived.Test.YtbjgpfhbdmcbbaaGreatDoorP04

/-
  CONTRACTS of package dna: linesOf, recordsOf, where an input has a form.
-/
namespace Go.Proofs.YtbjgpfhbdmcbbaaGreatDoor.parse
open Go.RowKit Go.Proofs.YtbjgpfhbdmcbbaaGreatDoor.dnamath Go.Proofs.YtbjgpfhbdmcbbaaGreatDoor.dna Go.Proofs.YtbjgpfhbdmcbbaaGreatDoor.pieces Go.Proofs.YtbjgpfhbdmcbbaaGreatDoor.lines
set_option linter.unusedVariables false

/-- the lines of a text -/
def linesL (l : List UInt8) : List (List UInt8) := Lib.splitK [10] 0 (Lib.count (Lib.trimSuffix l [10]) [10]) (Lib.trimSuffix l [10])

theorem alloc_two (w : World) (o1 o2 : Obj) : ((w.alloc o1).alloc o2).heap[w.heap.size + 1]? = some o2 := by
  have h := heap_alloc_new (w.alloc o1) o2
  have e : (w.alloc o1).heap.size = w.heap.size + 1 := by simp
  rw [e] at h; exact h

set_option maxHeartbeats 1000000 in
set_option maxRecDepth 100000 in
theorem linesOf_any (s : ByteArray) (w : World) (hs : s.size ≤ 1000000) :
    Calls Tryz.prog 166 #[.string s] w fun e w' => ∃ (ts : List ByteArray) (g : Nat), e = .returned (.agg #[.slice (some ⟨g, 0, none⟩) ts.length ts.length, .int .i64 0]) ∧ w.heap.size ≤ g ∧ w'.heap[g]? = some (.cells (ts.map Value.string).toArray 9 (0, 0)) ∧ datas ts = linesL s.data.toList ∧ ts.length ≤ s.size + 1 ∧ Below w.heap.size w w' := by
  have htl := Lib.trimSuffix_le s.data.toList [10]
  obtain ⟨x, hx⟩ : ∃ x : ByteArray, x = ⟨(Lib.trimSuffix s.data.toList [10]).toArray⟩ := ⟨_, rfl⟩
  have hxd : x.data.toList = Lib.trimSuffix s.data.toList [10] := by rw [hx]
  have hxz : x.size ≤ s.size := by rw [Lib.size_eq, hxd, Lib.size_eq]; exact htl
  have HX : Hid (x = ⟨(Lib.trimSuffix s.data.toList (⟨#[10]⟩ : ByteArray).data.toList).toArray⟩) := hx
  have HXD : Hid (x.data.toList = Lib.trimSuffix s.data.toList [10]) := hxd
  clear hx hxd htl
  go_enter Tryz.func166, Tryz.ntmps166
  go_wp2_with (first | (go_at_call 191; refine (Tryz.strings_TrimSuffix _ _ _ (by omega)).mono ?_; rintro e w' ⟨rfl, hw'⟩; have hw2 := hw'.symm; subst hw2; rw [← HX.out]))
  refine (split.split_one x 10 _ (by omega)).mono ?_
  rintro e w1 ⟨ts, rfl, rfl, hts, htl⟩
  have HT : Hid (datas ts = linesL s.data.toList) := by
    show datas ts = _
    have e : datas ts = Lib.splitK [10] 0 (Lib.count x.data.toList [10]) x.data.toList := hts
    rw [e, HXD.out]; rfl
  clear hts
  go_wp2
  refine bodyPost_ret (v := .agg #[.slice (some ⟨w.heap.size + 1, 0, none⟩) ts.length ts.length, .int .i64 0]) (by simp [results, Tryz.results166, go_sem]) rfl ⟨ts, w.heap.size + 1, rfl, by omega, ?_, HT.out, by omega, ?_⟩
  · exact alloc_two _ _ _
  · exact ((Below.refl _ w).alloc (Nat.le_refl _) _).alloc (by simp) _

theorem ls_new {w : World} {g : Nat} {ts : List ByteArray} (hg : g < w.heap.size) (hrow : w.heap[g]? = some (.cells (ts.map Value.string).toArray 9 (0, 0))) (T : TypeId) :
    LS (w.alloc (.cells #[.slice (some ⟨g, 0, none⟩) ts.length ts.length, .int .i64 0] T)) w.heap.size g 0 ts where
  le := Nat.zero_le _
  ne := by omega
  row := by rw [Below.heap_alloc _ _ _ hg]; exact hrow
  st := ⟨some ⟨g, 0, none⟩, 0, T, by rw [heap_alloc_new]; simp, Nat.le_refl _, fun _ => rfl⟩

/-- the two forms that have lines: their pointer type -/
def FormT (c : UInt8) (T : TypeId) : Prop := (c = 62 ∧ T = 249) ∨ (c = 64 ∧ T = 255)

set_option maxHeartbeats 1000000 in
set_option maxRecDepth 100000 in
theorem recordsOf_any (s : ByteArray) (w : World) (hs : s.size ≤ 1000000) (h0 : 0 < s.size) (T : TypeId) (hT : FormT s[0] T) :
    Calls Tryz.prog 134 #[.string s] w fun e w' => ∃ (ts : List ByteArray) (g b : Nat), e = .returned (.tuple #[.iface T (.pointer (some ⟨b, 0, none⟩)), .nilIface]) ∧ LS w' b g 0 ts ∧ datas ts = linesL s.data.toList ∧ ts.length ≤ s.size + 1 ∧ w.heap.size ≤ g ∧ g < b ∧ b + 1 = w'.heap.size ∧ Below w.heap.size w w' := by
  have hne : s.toList.isEmpty = false := by
    rw [Lib.toList_data]; cases hl : s.data.toList with
    | nil => rw [Lib.size_eq, hl] at h0; simp at h0
    | cons a l => rfl
  rcases hT with ⟨hc, rfl⟩ | ⟨hc, rfl⟩
  · have hn : (s[0].toNat : Int) = 62 := by rw [hc]; rfl
    clear hc
    go_enter Tryz.func134, Tryz.ntmps134
    go_wp2_with fail
    refine (linesOf_any s _ hs).mono ?_
    rintro e w1 ⟨ts, g, rfl, hg, hrow, hts, htl, hb⟩
    have HTS : Hid (datas ts = linesL s.data.toList) := hts
    have HROW : Hid (w1.heap[g]? = some (.cells (ts.map Value.string).toArray 9 (0, 0))) := hrow
    clear hts hrow
    go_wp2
    go_ret2
    exact ⟨ts, g, w1.heap.size, rfl, ls_new (lt_of_block HROW.out) HROW.out _, HTS.out, htl, hg, lt_of_block HROW.out, by simp, hb.alloc hb.size _⟩
  · have hn : (s[0].toNat : Int) = 64 := by rw [hc]; rfl
    clear hc
    go_enter Tryz.func134, Tryz.ntmps134
    go_wp2_with fail
    refine (linesOf_any s _ hs).mono ?_
    rintro e w1 ⟨ts, g, rfl, hg, hrow, hts, htl, hb⟩
    have HTS : Hid (datas ts = linesL s.data.toList) := hts
    have HROW : Hid (w1.heap[g]? = some (.cells (ts.map Value.string).toArray 9 (0, 0))) := hrow
    clear hts hrow
    go_wp2
    go_ret2
    exact ⟨ts, g, w1.heap.size, rfl, ls_new (lt_of_block HROW.out) HROW.out _, HTS.out, htl, hg, lt_of_block HROW.out, by simp, hb.alloc hb.size _⟩
end Go.Proofs.YtbjgpfhbdmcbbaaGreatDoor.parse

/-
  CONTRACTS of package dna: readsOf and Parse, where an input is of a form.
-/
namespace Go.Proofs.YtbjgpfhbdmcbbaaGreatDoor.parse
open Go.RowKit Go.Proofs.YtbjgpfhbdmcbbaaGreatDoor.dnamath Go.Proofs.YtbjgpfhbdmcbbaaGreatDoor.dna Go.Proofs.YtbjgpfhbdmcbbaaGreatDoor.pieces Go.Proofs.YtbjgpfhbdmcbbaaGreatDoor.lines
set_option linter.unusedVariables false

/-- the variable errEnd holds an error of its own -/
def EndIs (w : World) (a : Addr) : Prop := w.cell? ⟨8, 0, none⟩ = some (.iface 296 (.pointer (some a)))

set_option maxHeartbeats 1000000 in
set_option maxRecDepth 100000 in
theorem fastaNext_end (b g : Nat) (ts : List ByteArray) (a : Addr) (w : World) (h : LS w b g ts.length ts) (hl : ts.length ≤ 1000000) (hE : EndIs w a) :
    Calls Tryz.prog 282 #[.pointer (some ⟨b, 0, none⟩)] w fun en w' => en = .returned (.tuple #[.string ⟨#[]⟩, .iface 296 (.pointer (some a))]) ∧ Below w.heap.size w w' := by
  have HK : Hid (decide (ts.length = ts.length) = true) := decide_eq_true rfl
  unfold EndIs at hE
  go_enter Tryz.func282, Tryz.ntmps282
  go_wp2_with (first | (go_at_call 281; refine (ended_any b g ts.length ts _ h hl).mono ?_; rintro en w' ⟨rfl, hw'⟩; have hw2 := hw'.symm; subst hw2; rw [HK.out]))
  go_quiet (fail)
  go_wp2
  go_ret2
  exact ⟨rfl, (Below.refl _ w).trans ⟨rfl, rfl, rfl, Nat.le_refl _, fun _ _ => rfl⟩⟩

set_option maxHeartbeats 1000000 in
set_option maxRecDepth 100000 in
theorem fastqNext_end (b g : Nat) (ts : List ByteArray) (a : Addr) (w : World) (h : LS w b g ts.length ts) (hl : ts.length ≤ 1000000) (hE : EndIs w a) :
    Calls Tryz.prog 294 #[.pointer (some ⟨b, 0, none⟩)] w fun en w' => en = .returned (.tuple #[.string ⟨#[]⟩, .iface 296 (.pointer (some a))]) ∧ Below w.heap.size w w' := by
  have HK : Hid (decide (ts.length = ts.length) = true) := decide_eq_true rfl
  unfold EndIs at hE
  go_enter Tryz.func294, Tryz.ntmps294
  go_wp2_with (first | (go_at_call 281; refine (ended_any b g ts.length ts _ h hl).mono ?_; rintro en w' ⟨rfl, hw'⟩; have hw2 := hw'.symm; subst hw2; rw [HK.out]))
  go_quiet (fail)
  go_wp2
  go_ret2
  exact ⟨rfl, (Below.refl _ w).trans ⟨rfl, rfl, rfl, Nat.le_refl _, fun _ _ => rfl⟩⟩

set_option maxHeartbeats 1000000 in
set_option maxRecDepth 100000 in
theorem noneNext (a : Addr) (w : World) (hE : EndIs w a) :
    Calls Tryz.prog 280 #[.agg #[]] w fun en w' => en = .returned (.tuple #[.string ⟨#[]⟩, .iface 296 (.pointer (some a))]) ∧ Below w.heap.size w w' := by
  unfold EndIs at hE
  have hlt := World.block_lt_of_cell? _ _ hE
  have hE2 : ∀ o, (w.alloc o).cell? ⟨8, 0, none⟩ = some (.iface 296 (.pointer (some a))) := fun o => (World.cell?_alloc_old _ _ _ (Nat.ne_of_lt hlt)).trans hE
  go_enter Tryz.func280, Tryz.ntmps280
  go_wp2
  go_quiet (fail)
  go_wp2
  go_ret2
  exact ⟨rfl, ((Below.refl _ w).alloc (Nat.le_refl _) _).trans ⟨rfl, rfl, rfl, by simp, fun _ _ => rfl⟩⟩

/-- records of a form, from line k on -/
def Recs (q : Bool) (ts : List ByteArray) : Nat → List (List UInt8) → Prop
  | k, [] => k = ts.length
  | k, r :: rs => ∃ e, ((q = false ∧ RecF ts k e ∧ r = accL ts (k + 1) e) ∨ (q = true ∧ RecQ ts k ∧ e = k + 4 ∧ r = accL ts (k + 1) (k + 2))) ∧ Recs q ts e rs

theorem methodF (v : Value) (w : World) : (Go.method 456 249 v "quern/dna.next").run Tryz.prog w = .ok (282, v) w := by kernel_rfl
theorem methodQ (v : Value) (w : World) : (Go.method 456 255 v "quern/dna.next").run Tryz.prog w = .ok (294, v) w := by kernel_rfl
theorem methodN (v : Value) (w : World) : (Go.method 456 248 v "quern/dna.next").run Tryz.prog w = .ok (280, v) w := by kernel_rfl
end Go.Proofs.YtbjgpfhbdmcbbaaGreatDoor.parse

/-
  CONTRACTS of package dna: readsOf and Parse, where an input is of a form.
-/
namespace Go.Proofs.YtbjgpfhbdmcbbaaGreatDoor.parse
open Go.RowKit Go.Proofs.YtbjgpfhbdmcbbaaGreatDoor.dnamath Go.Proofs.YtbjgpfhbdmcbbaaGreatDoor.dna Go.Proofs.YtbjgpfhbdmcbbaaGreatDoor.pieces Go.Proofs.YtbjgpfhbdmcbbaaGreatDoor.lines
set_option linter.unusedVariables false

theorem fill_base {w : World} {base base' : Nat} {e : TypeId} {v : Value} {n : Nat} {xs : List Value} (h : w.ownsRow base e 1 v n xs) (hb : base' ≤ base) : w.ownsRow base' e 1 v n xs := by
  refine ⟨h.1, ?_⟩
  rcases h.2 with h | ⟨g, cap, cur, h1, h2, h3⟩
  · exact .inl h
  · exact .inr ⟨g, cap, cur, h1, by omega, h3⟩

set_option maxHeartbeats 2000000 in
set_option maxRecDepth 100000 in
theorem readsOf_false (s : ByteArray) (a : Addr) (rs : List (List UInt8)) (w : World) (hs : s.size ≤ 20000) (h0 : 0 < s.size) (hc : s[0] = 62) (hE : EndIs w a) (hrs : ∀ ts : List ByteArray, datas ts = linesL s.data.toList → Recs false ts 0 rs) (hrl : rs.length ≤ 20000) :
    Calls Tryz.prog 96 #[.string s] w fun en w' => ∃ v ps, en = .returned (.tuple #[v, .nilIface]) ∧ w'.ownsRow w.heap.size 9 1 v ps.length (scells ps) ∧ datas ps = rs ∧ Below w.heap.size w w' := by
  obtain ⟨i0, hi, hz0, hz1, hz2⟩ := info_parts infoS
  have hmeth := methodF
  have hF : FormT s[0] 249 := .inl ⟨hc, rfl⟩
  go_enter Tryz.func96, Tryz.ntmps96
  go_wp2_with fail
  refine (recordsOf_any s w (by omega) h0 249 hF).mono ?_
  rintro en w1 ⟨ts, g, b, rfl, h1, hts, htl, hg, hgb, hbs, hb1⟩
  have HRS : Hid (Recs false ts 0 rs) := hrs ts hts
  have hl4 : ts.length ≤ 1000000 := by omega
  have HL1 : Hid (LS w1 b g 0 ts) := h1
  have hEw : 8 < w.heap.size := World.block_lt_of_cell? _ _ hE
  have HE1 : Hid (EndIs w1 a) := (hb1.cell (by exact hEw)).trans hE
  have HB1 : Hid (Below w.heap.size w w1) := hb1
  clear hrs hts h1 hb1 hE hF
  go_wp2
  go_loopw [6, 7, 8] (fun v _ _ wr => ∃ (k : Nat) (dn rt : List (List UInt8)) (ps : List ByteArray), Hid (dn ++ rt = rs) ∧ Hid (Recs false ts k rt) ∧ Hid (LS wr b g k ts) ∧ k ≤ ts.length ∧ wr.ownsRow (b + 1) 9 1 v ps.length (scells ps) ∧ Hid (datas ps = dn) ∧ ps.length ≤ 20000 ∧ Hid (Below b w1 wr) ∧ w1.heap.size ≤ wr.heap.size) (fun _ _ _ wr => lines.leftOf wr b)
  case atStart => exact ⟨0, [], rs, [], rfl, HRS.out, HL1.out, Nat.zero_le _, World.ownsRow_nil _ _ _ _, rfl, by simp, Below.refl _ _, Nat.le_refl _⟩
  case round =>
    obtain ⟨k, dn, rt, ps, HDR, HRC, HL, hk, hown, HPD, hpl, HBL, hsz⟩ := hrel
    have hcE : wr.cell? ⟨8, 0, none⟩ = some (.iface 296 (.pointer (some a))) := (HBL.out.cell (by show 8 < b; omega)).trans HE1.out
    have HLO : Hid (lines.leftOf wr b = ts.length - k) := leftOf_LS HL.out
    cases rt with
    | nil =>
      have hke : k = ts.length := HRC.out
      subst hke
      go_wp2_with fail
      refine (fastaNext_end b g ts a _ HL.out hl4 hcE).mono ?_
      rintro en w2 ⟨rfl, hb2⟩
      have hcE2 : w2.cell? ⟨8, 0, none⟩ = some (.iface 296 (.pointer (some a))) := (hb2.cell (by show 8 < _; omega)).trans hcE
      have hown2 := own_later hown hb2
      have HF2 : Hid (Below w.heap.size w w2) := HB1.out.trans ((HBL.out.mono (by omega)).trans (hb2.mono (by omega)))
      clear hown hcE hb2
      go_wp2_with (go_at_call 135; refine (errs.is_same a _).mono ?_; rintro en w' ⟨rfl, hw'⟩; have hw2 := hw'.symm; subst hw2)
      go_ret2
      refine ⟨_, ps, rfl, fill_base hown2 (by omega), ?_, HF2.out⟩
      have := HDR.out
      rw [List.append_nil] at this
      rw [← this]; exact HPD.out
    | cons r1 rt1 =>
      obtain ⟨e, he, hrest⟩ := HRC.out
      obtain ⟨hrec, hrr⟩ : RecF ts k e ∧ r1 = accL ts (k + 1) e := by
        rcases he with ⟨_, h⟩ | ⟨h, _⟩
        · exact h
        · cases h
      have HREST : Hid (Recs false ts (e) rt1) := hrest
      have HRR : Hid (r1 = accL ts (k + 1) e) := hrr
      have hel : e ≤ ts.length ∧ k < e := ⟨hrec.le, by have := hrec.lt; omega⟩
      have hpl2 : ps.length + 1 ≤ 20000 := by
        have h9 := congrArg List.length HDR.out
        rw [List.length_append, List.length_cons] at h9
        have h8 : ps.length = dn.length := by rw [← datas_length, HPD.out]
        omega
      go_wp2_with fail
      refine (fastaNext_any b g k e ts _ HL.out hl4 hrec).mono ?_
      rintro en w2 ⟨r, rfl, hr2, hL2, hg2⟩
      have hcE2 : w2.cell? ⟨8, 0, none⟩ = some (.iface 296 (.pointer (some a))) := (World.cell?_of_block (w := wr) (hg2.block _ (World.block_lt_of_cell? _ _ hcE) (by simp; omega))).trans hcE
      have hown2 : w2.ownsRow (b + 1) 9 1 _ ps.length (scells ps) := hown.kept hg2 (.inr (fun h => by have h7 := (hown.lt b h).1; omega))
      have HBL2 : Hid (Below b w1 w2) := HBL.out.grown hg2 (by omega) (fun j hj => by cases hj; exact Nat.le_refl _)
      have HL2 : Hid (LS w2 b g (e) ts) := hL2
      have hsz2 : w1.heap.size ≤ w2.heap.size := Nat.le_trans hsz hg2.size
      have HR2 : Hid (r.data.toList = r1) := by show r.data.toList = _; rw [hr2, HRR.out]
      have hmx : ps.length + 1 ≤ maxLen := by unfold maxLen; omega
      have hby : (ps.length + 1) * 16 ≤ 140737488355328 := by omega
      clear hown hcE hg2 hL2 hr2 hrec hrest he
      go_wp2_with (first | (go_at_call 135; refine (errs.is_nil a _).mono ?_; rintro en w' ⟨rfl, hw'⟩; have hw2 := hw'.symm; subst hw2) | (at_builtin; refine wpList_append_own _ rfl (.tmp 42) (.tmp 44) 26 rfl (b + 1) 9 i0 (.string ByteArray.empty) 1 16 Tryz.underlying26 hi hz0 hz1 hz2 rfl (by decide) _ _ _ rfl (hown2.alloc _) ⟨w2.heap.size, 0, none⟩ 1 1 [.string r] rfl rfl (cell_one _ _ _) (one_str _) hmx hby (by simp; omega) ?_; intro v' w3 hown' hgrow _))
      obtain ⟨R1, R2⟩ := push_str (w := w2) (c := r) hown2 (Below.refl _ _) (by omega) hown' hgrow
      have HL3 : Hid (LS w3 b g (e) ts) := HL2.out.kept R2 (by omega) (by omega)
      have HBL3 : Hid (Below b w1 w3) := HBL2.out.trans (R2.mono (by omega))
      have hsz3 : w1.heap.size ≤ w3.heap.size := Nat.le_trans hsz2 R2.size
      have HLO2 : Hid (lines.leftOf w3 b = ts.length - (e)) := leftOf_LS HL3.out
      clear hown' hgrow hown2 R2 hcE2
      go_wp2
      go_roundw
      case rel => exact ⟨e, dn ++ [r1], rt1, ps ++ [r], by show _ = _; rw [List.append_assoc]; exact HDR.out, HREST.out, HL3.out, hel.1, R1, by show datas _ = _; rw [datas_snoc, HPD.out, HR2.out], by rw [List.length_append]; simp; omega, HBL3.out, hsz3⟩
      case measure => rw [HLO.out, HLO2.out]; omega

set_option maxHeartbeats 2000000 in
set_option maxRecDepth 100000 in
theorem readsOf_true (s : ByteArray) (a : Addr) (rs : List (List UInt8)) (w : World) (hs : s.size ≤ 20000) (h0 : 0 < s.size) (hc : s[0] = 64) (hE : EndIs w a) (hrs : ∀ ts : List ByteArray, datas ts = linesL s.data.toList → Recs true ts 0 rs) (hrl : rs.length ≤ 20000) :
    Calls Tryz.prog 96 #[.string s] w fun en w' => ∃ v ps, en = .returned (.tuple #[v, .nilIface]) ∧ w'.ownsRow w.heap.size 9 1 v ps.length (scells ps) ∧ datas ps = rs ∧ Below w.heap.size w w' := by
  obtain ⟨i0, hi, hz0, hz1, hz2⟩ := info_parts infoS
  have hmeth := methodQ
  have hF : FormT s[0] 255 := .inr ⟨hc, rfl⟩
  go_enter Tryz.func96, Tryz.ntmps96
  go_wp2_with fail
  refine (recordsOf_any s w (by omega) h0 255 hF).mono ?_
  rintro en w1 ⟨ts, g, b, rfl, h1, hts, htl, hg, hgb, hbs, hb1⟩
  have HRS : Hid (Recs true ts 0 rs) := hrs ts hts
  have hl4 : ts.length ≤ 1000000 := by omega
  have HL1 : Hid (LS w1 b g 0 ts) := h1
  have hEw : 8 < w.heap.size := World.block_lt_of_cell? _ _ hE
  have HE1 : Hid (EndIs w1 a) := (hb1.cell (by exact hEw)).trans hE
  have HB1 : Hid (Below w.heap.size w w1) := hb1
  clear hrs hts h1 hb1 hE hF
  go_wp2
  go_loopw [6, 7, 8] (fun v _ _ wr => ∃ (k : Nat) (dn rt : List (List UInt8)) (ps : List ByteArray), Hid (dn ++ rt = rs) ∧ Hid (Recs true ts k rt) ∧ Hid (LS wr b g k ts) ∧ k ≤ ts.length ∧ wr.ownsRow (b + 1) 9 1 v ps.length (scells ps) ∧ Hid (datas ps = dn) ∧ ps.length ≤ 20000 ∧ Hid (Below b w1 wr) ∧ w1.heap.size ≤ wr.heap.size) (fun _ _ _ wr => lines.leftOf wr b)
  case atStart => exact ⟨0, [], rs, [], rfl, HRS.out, HL1.out, Nat.zero_le _, World.ownsRow_nil _ _ _ _, rfl, by simp, Below.refl _ _, Nat.le_refl _⟩
  case round =>
    obtain ⟨k, dn, rt, ps, HDR, HRC, HL, hk, hown, HPD, hpl, HBL, hsz⟩ := hrel
    have hcE : wr.cell? ⟨8, 0, none⟩ = some (.iface 296 (.pointer (some a))) := (HBL.out.cell (by show 8 < b; omega)).trans HE1.out
    have HLO : Hid (lines.leftOf wr b = ts.length - k) := leftOf_LS HL.out
    cases rt with
    | nil =>
      have hke : k = ts.length := HRC.out
      subst hke
      go_wp2_with fail
      refine (fastqNext_end b g ts a _ HL.out hl4 hcE).mono ?_
      rintro en w2 ⟨rfl, hb2⟩
      have hcE2 : w2.cell? ⟨8, 0, none⟩ = some (.iface 296 (.pointer (some a))) := (hb2.cell (by show 8 < _; omega)).trans hcE
      have hown2 := own_later hown hb2
      have HF2 : Hid (Below w.heap.size w w2) := HB1.out.trans ((HBL.out.mono (by omega)).trans (hb2.mono (by omega)))
      clear hown hcE hb2
      go_wp2_with (go_at_call 135; refine (errs.is_same a _).mono ?_; rintro en w' ⟨rfl, hw'⟩; have hw2 := hw'.symm; subst hw2)
      go_ret2
      refine ⟨_, ps, rfl, fill_base hown2 (by omega), ?_, HF2.out⟩
      have := HDR.out
      rw [List.append_nil] at this
      rw [← this]; exact HPD.out
    | cons r1 rt1 =>
      obtain ⟨e, he, hrest⟩ := HRC.out
      obtain ⟨hrec, rfl, hrr⟩ : RecQ ts k ∧ e = k + 4 ∧ r1 = accL ts (k + 1) (k + 2) := by
        rcases he with ⟨h, _⟩ | ⟨_, h⟩
        · cases h
        · exact h
      have HREST : Hid (Recs true ts (k + 4) rt1) := hrest
      have HRR : Hid (r1 = accL ts (k + 1) (k + 2)) := hrr
      have hel : k + 4 ≤ ts.length ∧ k < k + 4 := ⟨hrec.le, by omega⟩
      have hpl2 : ps.length + 1 ≤ 20000 := by
        have h9 := congrArg List.length HDR.out
        rw [List.length_append, List.length_cons] at h9
        have h8 : ps.length = dn.length := by rw [← datas_length, HPD.out]
        omega
      go_wp2_with fail
      refine (fastqNext_any b g k ts _ HL.out hl4 hrec).mono ?_
      rintro en w2 ⟨r, rfl, hr2, hL2, hg2⟩
      have hcE2 : w2.cell? ⟨8, 0, none⟩ = some (.iface 296 (.pointer (some a))) := (World.cell?_of_block (w := wr) (hg2.block _ (World.block_lt_of_cell? _ _ hcE) (by simp; omega))).trans hcE
      have hown2 : w2.ownsRow (b + 1) 9 1 _ ps.length (scells ps) := hown.kept hg2 (.inr (fun h => by have h7 := (hown.lt b h).1; omega))
      have HBL2 : Hid (Below b w1 w2) := HBL.out.grown hg2 (by omega) (fun j hj => by cases hj; exact Nat.le_refl _)
      have HL2 : Hid (LS w2 b g (k + 4) ts) := hL2
      have hsz2 : w1.heap.size ≤ w2.heap.size := Nat.le_trans hsz hg2.size
      have HR2 : Hid (r.data.toList = r1) := by show r.data.toList = _; rw [hr2, HRR.out]
      have hmx : ps.length + 1 ≤ maxLen := by unfold maxLen; omega
      have hby : (ps.length + 1) * 16 ≤ 140737488355328 := by omega
      clear hown hcE hg2 hL2 hr2 hrec hrest he
      go_wp2_with (first | (go_at_call 135; refine (errs.is_nil a _).mono ?_; rintro en w' ⟨rfl, hw'⟩; have hw2 := hw'.symm; subst hw2) | (at_builtin; refine wpList_append_own _ rfl (.tmp 42) (.tmp 44) 26 rfl (b + 1) 9 i0 (.string ByteArray.empty) 1 16 Tryz.underlying26 hi hz0 hz1 hz2 rfl (by decide) _ _ _ rfl (hown2.alloc _) ⟨w2.heap.size, 0, none⟩ 1 1 [.string r] rfl rfl (cell_one _ _ _) (one_str _) hmx hby (by simp; omega) ?_; intro v' w3 hown' hgrow _))
      obtain ⟨R1, R2⟩ := push_str (w := w2) (c := r) hown2 (Below.refl _ _) (by omega) hown' hgrow
      have HL3 : Hid (LS w3 b g (k + 4) ts) := HL2.out.kept R2 (by omega) (by omega)
      have HBL3 : Hid (Below b w1 w3) := HBL2.out.trans (R2.mono (by omega))
      have hsz3 : w1.heap.size ≤ w3.heap.size := Nat.le_trans hsz2 R2.size
      have HLO2 : Hid (lines.leftOf w3 b = ts.length - (k + 4)) := leftOf_LS HL3.out
      clear hown' hgrow hown2 R2 hcE2
      go_wp2
      go_roundw
      case rel => exact ⟨k + 4, dn ++ [r1], rt1, ps ++ [r], by show _ = _; rw [List.append_assoc]; exact HDR.out, HREST.out, HL3.out, hel.1, R1, by show datas _ = _; rw [datas_snoc, HPD.out, HR2.out], by rw [List.length_append]; simp; omega, HBL3.out, hsz3⟩
      case measure => rw [HLO.out, HLO2.out]; omega

end Go.Proofs.YtbjgpfhbdmcbbaaGreatDoor.parse

/-
  CONTRACTS of package dna: Parse, where an input is of a form, or empty.
-/
namespace Go.Proofs.YtbjgpfhbdmcbbaaGreatDoor.parse
open Go.RowKit Go.Proofs.YtbjgpfhbdmcbbaaGreatDoor.dnamath Go.Proofs.YtbjgpfhbdmcbbaaGreatDoor.dna Go.Proofs.YtbjgpfhbdmcbbaaGreatDoor.pieces Go.Proofs.YtbjgpfhbdmcbbaaGreatDoor.lines
set_option linter.unusedVariables false

set_option maxHeartbeats 1000000 in
set_option maxRecDepth 100000 in
theorem readsOf_empty (a : Addr) (w : World) (hE : EndIs w a) :
    Calls Tryz.prog 96 #[.string ⟨#[]⟩] w fun en w' => en = .returned (.tuple #[.slice none 0 0, .nilIface]) ∧ Below w.heap.size w w' := by
  have hmeth := methodN
  have hE1 : w.cell? ⟨8, 0, none⟩ = some (.iface 296 (.pointer (some a))) := hE
  have hlt := World.block_lt_of_cell? _ _ hE1
  go_enter Tryz.func96, Tryz.ntmps96
  go_wp2
  refine wp_loop_rounds 1 ?_
  rw [rounds_succ]
  go_wp2_with fail
  refine (noneNext a _ hE).mono ?_
  rintro en w2 ⟨rfl, hb2⟩
  have hcE2 : w2.cell? ⟨8, 0, none⟩ = some (.iface 296 (.pointer (some a))) := (hb2.cell (by exact hlt)).trans hE1
  clear hE1
  go_wp2_with (go_at_call 135; refine (errs.is_same a _).mono ?_; rintro en w' ⟨rfl, hw'⟩; have hw2 := hw'.symm; subst hw2)
  go_ret2
  exact ⟨rfl, hb2⟩

/-- what a form reads -/
def FormIs (s : ByteArray) (rs : List (List UInt8)) : Prop :=
  (s = ⟨#[]⟩ ∧ rs = []) ∨ ∃ (q : Bool) (h0 : 0 < s.size), s[0] = (if q then 64 else 62) ∧ (∀ ts : List ByteArray, datas ts = linesL s.data.toList → Recs q ts 0 rs) ∧ rs.length ≤ 20000

theorem readsOf_any (s : ByteArray) (a : Addr) (rs : List (List UInt8)) (w : World) (hs : s.size ≤ 20000) (hE : EndIs w a) (hf : FormIs s rs) :
    Calls Tryz.prog 96 #[.string s] w fun en w' => ∃ v ps, en = .returned (.tuple #[v, .nilIface]) ∧ w'.ownsRow w.heap.size 9 1 v ps.length (scells ps) ∧ datas ps = rs ∧ Below w.heap.size w w' := by
  rcases hf with ⟨rfl, rfl⟩ | ⟨q, h0, hc, hr, hl⟩
  · exact (readsOf_empty a w hE).mono fun en w' ⟨he, hb⟩ => ⟨_, [], he, World.ownsRow_nil _ _ _ _, rfl, hb⟩
  · cases q with
    | false => exact readsOf_false s a rs w hs h0 hc hE hr hl
    | true => exact readsOf_true s a rs w hs h0 hc hE hr hl

set_option maxHeartbeats 400000 in
set_option maxRecDepth 100000 in
theorem Parse_any (s : ByteArray) (a : Addr) (rs : List (List UInt8)) (w : World) (hs : s.size ≤ 20000) (hE : EndIs w a) (hf : FormIs s rs) :
    Calls Tryz.prog 59 #[.string s] w fun en w' => ∃ v ps, en = .returned (.tuple #[v, .int .i64 0]) ∧ w'.ownsRow w.heap.size 9 1 v ps.length (scells ps) ∧ datas ps = rs ∧ Below w.heap.size w w' := by
  go_enter Tryz.func59, Tryz.ntmps59
  go_wp2_with fail
  refine (readsOf_any s a rs w hs hE hf).mono ?_
  rintro en w1 ⟨v, ps, rfl, hown, hd, hb⟩
  have HD : Hid (datas ps = rs) := hd
  clear hd hE hf
  go_wp2
  go_ret2
  exact ⟨v, ps, rfl, hown, HD.out, hb⟩
end Go.Proofs.YtbjgpfhbdmcbbaaGreatDoor.parse
