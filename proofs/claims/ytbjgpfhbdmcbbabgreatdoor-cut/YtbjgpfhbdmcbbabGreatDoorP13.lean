import Derived.Test.YtbjgpfhbdmcbbabGreatDoorP12
import Derived.Test.YtbjgpfhbdmcbbabGreatDoorP07
import Derived.Lib.Atoi

/-
  CONTRACTS of package dna: readsOf and Parse, where an input is of a form.
-/
namespace Go.Proofs.YtbjgpfhbdmcbbabGreatDoor.parse
open Go.RowKit dnamath dna pieces lines
set_option linter.unusedVariables false

theorem fill_base {w : World} {base base' : Nat} {e : TypeId} {v : Value} {n : Nat} {xs : List Value} (h : w.ownsRow base e 1 v n xs) (hb : base' ≤ base) : w.ownsRow base' e 1 v n xs := by
  refine ⟨h.1, ?_⟩
  rcases h.2 with h | ⟨g, cap, cur, h1, h2, h3⟩
  · exact .inl h
  · exact .inr ⟨g, cap, cur, h1, by omega, h3⟩

set_option maxHeartbeats 2000000 in
set_option maxRecDepth 100000 in
theorem readsOf_false (s : ByteArray) (a : Addr) (rs : List (List UInt8)) (w : World) (hs : s.size ≤ 20000) (h0 : 0 < s.size) (hc : s[0] = 62) (hE : EndIs w a) (hrs : ∀ ts : List ByteArray, datas ts = linesL s.data.toList → Recs false ts 0 rs) (hrl : rs.length ≤ 20000) :
    Calls Tryz.prog 52 #[.string s] w fun en w' => ∃ v ps, en = .returned (.tuple #[v, .nilIface]) ∧ w'.ownsRow w.heap.size 9 1 v ps.length (scells ps) ∧ datas ps = rs ∧ Below w.heap.size w w' := by
  obtain ⟨i0, hi, hz0, hz1, hz2⟩ := info_parts infoS
  have hmeth := methodF
  have hF : FormT s[0] 198 := .inl ⟨hc, rfl⟩
  go_enter Tryz.func52, Tryz.ntmps52
  go_wp2_with fail
  refine (recordsOf_any s w (by omega) h0 198 hF).mono ?_
  rintro en w1 ⟨ts, g, b, rfl, h1, hts, htl, hg, hgb, hbs, hb1⟩
  have HRS : Hid (Recs false ts 0 rs) := hrs ts hts
  have hl4 : ts.length ≤ 1000000 := by omega
  have HL1 : Hid (LS w1 b g 0 ts) := h1
  have hEw : 8 < w.heap.size := World.block_lt_of_cell? _ _ hE
  have HE1 : Hid (EndIs w1 a) := (hb1.cell (by exact hEw)).trans hE
  have HB1 : Hid (Below w.heap.size w w1) := hb1
  clear hrs hts h1 hb1 hE hF
  go_wp2
  go_loopw [6, 7, 8] (fun v _ _ wr => ∃ (k : Nat) (dn rt : List (List UInt8)) (ps : List ByteArray), Hid (dn ++ rt = rs) ∧ Hid (Recs false ts k rt) ∧ Hid (LS wr b g k ts) ∧ k ≤ ts.length ∧ wr.ownsRow (b + 1) 9 1 v ps.length (scells ps) ∧ Hid (datas ps = dn) ∧ ps.length ≤ 20000 ∧ Hid (Below b w1 wr) ∧ w1.heap.size ≤ wr.heap.size) (fun _ _ _ wr => lines.leftOf wr b)
  case atStart => exact ⟨0, [], rs, [], rfl, HRS.out, HL1.out, Nat.zero_le _, World.ownsRow_nil _ _ _ _, rfl, by simp, Below.refl _ _, Nat.le_refl _⟩
  case round =>
    obtain ⟨k, dn, rt, ps, HDR, HRC, HL, hk, hown, HPD, hpl, HBL, hsz⟩ := hrel
    have hcE : wr.cell? ⟨8, 0, none⟩ = some (.iface 254 (.pointer (some a))) := (HBL.out.cell (by show 8 < b; omega)).trans HE1.out
    have HLO : Hid (lines.leftOf wr b = ts.length - k) := leftOf_LS HL.out
    cases rt with
    | nil =>
      have hke : k = ts.length := HRC.out
      subst hke
      go_wp2_with fail
      refine (fastaNext_end b g ts a _ HL.out hl4 hcE).mono ?_
      rintro en w2 ⟨rfl, hb2⟩
      have hcE2 : w2.cell? ⟨8, 0, none⟩ = some (.iface 254 (.pointer (some a))) := (hb2.cell (by show 8 < _; omega)).trans hcE
      have hown2 := own_later hown hb2
      have HF2 : Hid (Below w.heap.size w w2) := HB1.out.trans ((HBL.out.mono (by omega)).trans (hb2.mono (by omega)))
      clear hown hcE hb2
      go_wp2_with (go_at_call 81; refine (errs.is_same a _).mono ?_; rintro en w' ⟨rfl, hw'⟩; have hw2 := hw'.symm; subst hw2)
      go_ret2
      refine ⟨_, ps, rfl, fill_base hown2 (by omega), ?_, HF2.out⟩
      have := HDR.out
      rw [List.append_nil] at this
      rw [← this]; exact HPD.out
    | cons r1 rt1 =>
      obtain ⟨e, he, hrest⟩ := HRC.out
      obtain ⟨hrec, hrr⟩ : RecF ts k e ∧ r1 = accL ts (k + 1) e := by
        rcases he with ⟨_, h⟩ | ⟨h, _⟩
        · exact h
        · cases h
      have HREST : Hid (Recs false ts (e) rt1) := hrest
      have HRR : Hid (r1 = accL ts (k + 1) e) := hrr
      have hel : e ≤ ts.length ∧ k < e := ⟨hrec.le, by have := hrec.lt; omega⟩
      have hpl2 : ps.length + 1 ≤ 20000 := by
        have h9 := congrArg List.length HDR.out
        rw [List.length_append, List.length_cons] at h9
        have h8 : ps.length = dn.length := by rw [← datas_length, HPD.out]
        omega
      go_wp2_with fail
      refine (fastaNext_any b g k e ts _ HL.out hl4 hrec).mono ?_
      rintro en w2 ⟨r, rfl, hr2, hL2, hg2⟩
      have hcE2 : w2.cell? ⟨8, 0, none⟩ = some (.iface 254 (.pointer (some a))) := (World.cell?_of_block (w := wr) (hg2.block _ (World.block_lt_of_cell? _ _ hcE) (by simp; omega))).trans hcE
      have hown2 : w2.ownsRow (b + 1) 9 1 _ ps.length (scells ps) := hown.kept hg2 (.inr (fun h => by have h7 := (hown.lt b h).1; omega))
      have HBL2 : Hid (Below b w1 w2) := HBL.out.grown hg2 (by omega) (fun j hj => by cases hj; exact Nat.le_refl _)
      have HL2 : Hid (LS w2 b g (e) ts) := hL2
      have hsz2 : w1.heap.size ≤ w2.heap.size := Nat.le_trans hsz hg2.size
      have HR2 : Hid (r.data.toList = r1) := by show r.data.toList = _; rw [hr2, HRR.out]
      have hmx : ps.length + 1 ≤ maxLen := by unfold maxLen; omega
      have hby : (ps.length + 1) * 16 ≤ 140737488355328 := by omega
      clear hown hcE hg2 hL2 hr2 hrec hrest he
      go_wp2_with (first | (go_at_call 81; refine (errs.is_nil a _).mono ?_; rintro en w' ⟨rfl, hw'⟩; have hw2 := hw'.symm; subst hw2) | (at_builtin; refine wpList_append_own _ rfl (.tmp 42) (.tmp 44) 28 rfl (b + 1) 9 i0 (.string ByteArray.empty) 1 16 Tryz.underlying28 hi hz0 hz1 hz2 rfl (by decide) _ _ _ rfl (hown2.alloc _) ⟨w2.heap.size, 0, none⟩ 1 1 [.string r] rfl rfl (cell_one _ _ _) (one_str _) hmx hby (by simp; omega) ?_; intro v' w3 hown' hgrow _))
      obtain ⟨R1, R2⟩ := push_str (w := w2) (c := r) hown2 (Below.refl _ _) (by omega) hown' hgrow
      have HL3 : Hid (LS w3 b g (e) ts) := HL2.out.kept R2 (by omega) (by omega)
      have HBL3 : Hid (Below b w1 w3) := HBL2.out.trans (R2.mono (by omega))
      have hsz3 : w1.heap.size ≤ w3.heap.size := Nat.le_trans hsz2 R2.size
      have HLO2 : Hid (lines.leftOf w3 b = ts.length - (e)) := leftOf_LS HL3.out
      clear hown' hgrow hown2 R2 hcE2
      go_wp2
      go_roundw
      case rel => exact ⟨e, dn ++ [r1], rt1, ps ++ [r], by show _ = _; rw [List.append_assoc]; exact HDR.out, HREST.out, HL3.out, hel.1, R1, by show datas _ = _; rw [datas_snoc, HPD.out, HR2.out], by rw [List.length_append]; simp; omega, HBL3.out, hsz3⟩
      case measure => rw [HLO.out, HLO2.out]; omega

set_option maxHeartbeats 2000000 in
set_option maxRecDepth 100000 in
theorem readsOf_true (s : ByteArray) (a : Addr) (rs : List (List UInt8)) (w : World) (hs : s.size ≤ 20000) (h0 : 0 < s.size) (hc : s[0] = 64) (hE : EndIs w a) (hrs : ∀ ts : List ByteArray, datas ts = linesL s.data.toList → Recs true ts 0 rs) (hrl : rs.length ≤ 20000) :
    Calls Tryz.prog 52 #[.string s] w fun en w' => ∃ v ps, en = .returned (.tuple #[v, .nilIface]) ∧ w'.ownsRow w.heap.size 9 1 v ps.length (scells ps) ∧ datas ps = rs ∧ Below w.heap.size w w' := by
  obtain ⟨i0, hi, hz0, hz1, hz2⟩ := info_parts infoS
  have hmeth := methodQ
  have hF : FormT s[0] 204 := .inr ⟨hc, rfl⟩
  go_enter Tryz.func52, Tryz.ntmps52
  go_wp2_with fail
  refine (recordsOf_any s w (by omega) h0 204 hF).mono ?_
  rintro en w1 ⟨ts, g, b, rfl, h1, hts, htl, hg, hgb, hbs, hb1⟩
  have HRS : Hid (Recs true ts 0 rs) := hrs ts hts
  have hl4 : ts.length ≤ 1000000 := by omega
  have HL1 : Hid (LS w1 b g 0 ts) := h1
  have hEw : 8 < w.heap.size := World.block_lt_of_cell? _ _ hE
  have HE1 : Hid (EndIs w1 a) := (hb1.cell (by exact hEw)).trans hE
  have HB1 : Hid (Below w.heap.size w w1) := hb1
  clear hrs hts h1 hb1 hE hF
  go_wp2
  go_loopw [6, 7, 8] (fun v _ _ wr => ∃ (k : Nat) (dn rt : List (List UInt8)) (ps : List ByteArray), Hid (dn ++ rt = rs) ∧ Hid (Recs true ts k rt) ∧ Hid (LS wr b g k ts) ∧ k ≤ ts.length ∧ wr.ownsRow (b + 1) 9 1 v ps.length (scells ps) ∧ Hid (datas ps = dn) ∧ ps.length ≤ 20000 ∧ Hid (Below b w1 wr) ∧ w1.heap.size ≤ wr.heap.size) (fun _ _ _ wr => lines.leftOf wr b)
  case atStart => exact ⟨0, [], rs, [], rfl, HRS.out, HL1.out, Nat.zero_le _, World.ownsRow_nil _ _ _ _, rfl, by simp, Below.refl _ _, Nat.le_refl _⟩
  case round =>
    obtain ⟨k, dn, rt, ps, HDR, HRC, HL, hk, hown, HPD, hpl, HBL, hsz⟩ := hrel
    have hcE : wr.cell? ⟨8, 0, none⟩ = some (.iface 254 (.pointer (some a))) := (HBL.out.cell (by show 8 < b; omega)).trans HE1.out
    have HLO : Hid (lines.leftOf wr b = ts.length - k) := leftOf_LS HL.out
    cases rt with
    | nil =>
      have hke : k = ts.length := HRC.out
      subst hke
      go_wp2_with fail
      refine (fastqNext_end b g ts a _ HL.out hl4 hcE).mono ?_
      rintro en w2 ⟨rfl, hb2⟩
      have hcE2 : w2.cell? ⟨8, 0, none⟩ = some (.iface 254 (.pointer (some a))) := (hb2.cell (by show 8 < _; omega)).trans hcE
      have hown2 := own_later hown hb2
      have HF2 : Hid (Below w.heap.size w w2) := HB1.out.trans ((HBL.out.mono (by omega)).trans (hb2.mono (by omega)))
      clear hown hcE hb2
      go_wp2_with (go_at_call 81; refine (errs.is_same a _).mono ?_; rintro en w' ⟨rfl, hw'⟩; have hw2 := hw'.symm; subst hw2)
      go_ret2
      refine ⟨_, ps, rfl, fill_base hown2 (by omega), ?_, HF2.out⟩
      have := HDR.out
      rw [List.append_nil] at this
      rw [← this]; exact HPD.out
    | cons r1 rt1 =>
      obtain ⟨e, he, hrest⟩ := HRC.out
      obtain ⟨hrec, rfl, hrr⟩ : RecQ ts k ∧ e = k + 4 ∧ r1 = accL ts (k + 1) (k + 2) := by
        rcases he with ⟨h, _⟩ | ⟨_, h⟩
        · cases h
        · exact h
      have HREST : Hid (Recs true ts (k + 4) rt1) := hrest
      have HRR : Hid (r1 = accL ts (k + 1) (k + 2)) := hrr
      have hel : k + 4 ≤ ts.length ∧ k < k + 4 := ⟨hrec.le, by omega⟩
      have hpl2 : ps.length + 1 ≤ 20000 := by
        have h9 := congrArg List.length HDR.out
        rw [List.length_append, List.length_cons] at h9
        have h8 : ps.length = dn.length := by rw [← datas_length, HPD.out]
        omega
      go_wp2_with fail
      refine (fastqNext_any b g k ts _ HL.out hl4 hrec).mono ?_
      rintro en w2 ⟨r, rfl, hr2, hL2, hg2⟩
      have hcE2 : w2.cell? ⟨8, 0, none⟩ = some (.iface 254 (.pointer (some a))) := (World.cell?_of_block (w := wr) (hg2.block _ (World.block_lt_of_cell? _ _ hcE) (by simp; omega))).trans hcE
      have hown2 : w2.ownsRow (b + 1) 9 1 _ ps.length (scells ps) := hown.kept hg2 (.inr (fun h => by have h7 := (hown.lt b h).1; omega))
      have HBL2 : Hid (Below b w1 w2) := HBL.out.grown hg2 (by omega) (fun j hj => by cases hj; exact Nat.le_refl _)
      have HL2 : Hid (LS w2 b g (k + 4) ts) := hL2
      have hsz2 : w1.heap.size ≤ w2.heap.size := Nat.le_trans hsz hg2.size
      have HR2 : Hid (r.data.toList = r1) := by show r.data.toList = _; rw [hr2, HRR.out]
      have hmx : ps.length + 1 ≤ maxLen := by unfold maxLen; omega
      have hby : (ps.length + 1) * 16 ≤ 140737488355328 := by omega
      clear hown hcE hg2 hL2 hr2 hrec hrest he
      go_wp2_with (first | (go_at_call 81; refine (errs.is_nil a _).mono ?_; rintro en w' ⟨rfl, hw'⟩; have hw2 := hw'.symm; subst hw2) | (at_builtin; refine wpList_append_own _ rfl (.tmp 42) (.tmp 44) 28 rfl (b + 1) 9 i0 (.string ByteArray.empty) 1 16 Tryz.underlying28 hi hz0 hz1 hz2 rfl (by decide) _ _ _ rfl (hown2.alloc _) ⟨w2.heap.size, 0, none⟩ 1 1 [.string r] rfl rfl (cell_one _ _ _) (one_str _) hmx hby (by simp; omega) ?_; intro v' w3 hown' hgrow _))
      obtain ⟨R1, R2⟩ := push_str (w := w2) (c := r) hown2 (Below.refl _ _) (by omega) hown' hgrow
      have HL3 : Hid (LS w3 b g (k + 4) ts) := HL2.out.kept R2 (by omega) (by omega)
      have HBL3 : Hid (Below b w1 w3) := HBL2.out.trans (R2.mono (by omega))
      have hsz3 : w1.heap.size ≤ w3.heap.size := Nat.le_trans hsz2 R2.size
      have HLO2 : Hid (lines.leftOf w3 b = ts.length - (k + 4)) := leftOf_LS HL3.out
      clear hown' hgrow hown2 R2 hcE2
      go_wp2
      go_roundw
      case rel => exact ⟨k + 4, dn ++ [r1], rt1, ps ++ [r], by show _ = _; rw [List.append_assoc]; exact HDR.out, HREST.out, HL3.out, hel.1, R1, by show datas _ = _; rw [datas_snoc, HPD.out, HR2.out], by rw [List.length_append]; simp; omega, HBL3.out, hsz3⟩
      case measure => rw [HLO.out, HLO2.out]; omega

end Go.Proofs.YtbjgpfhbdmcbbabGreatDoor.parse

/-
  CONTRACTS of package dna: Parse, where an input is of a form, or empty.
-/
namespace Go.Proofs.YtbjgpfhbdmcbbabGreatDoor.parse
open Go.RowKit dnamath dna pieces lines
set_option linter.unusedVariables false

set_option maxHeartbeats 1000000 in
set_option maxRecDepth 100000 in
theorem readsOf_empty (a : Addr) (w : World) (hE : EndIs w a) :
    Calls Tryz.prog 52 #[.string ⟨#[]⟩] w fun en w' => en = .returned (.tuple #[.slice none 0 0, .nilIface]) ∧ Below w.heap.size w w' := by
  have hmeth := methodN
  have hE1 : w.cell? ⟨8, 0, none⟩ = some (.iface 254 (.pointer (some a))) := hE
  have hlt := World.block_lt_of_cell? _ _ hE1
  go_enter Tryz.func52, Tryz.ntmps52
  go_wp2
  refine wp_loop_rounds 1 ?_
  rw [rounds_succ]
  go_wp2_with fail
  refine (noneNext a _ hE).mono ?_
  rintro en w2 ⟨rfl, hb2⟩
  have hcE2 : w2.cell? ⟨8, 0, none⟩ = some (.iface 254 (.pointer (some a))) := (hb2.cell (by exact hlt)).trans hE1
  clear hE1
  go_wp2_with (go_at_call 81; refine (errs.is_same a _).mono ?_; rintro en w' ⟨rfl, hw'⟩; have hw2 := hw'.symm; subst hw2)
  go_ret2
  exact ⟨rfl, hb2⟩

/-- what a form reads -/
def FormIs (s : ByteArray) (rs : List (List UInt8)) : Prop :=
  (s = ⟨#[]⟩ ∧ rs = []) ∨ ∃ (q : Bool) (h0 : 0 < s.size), s[0] = (if q then 64 else 62) ∧ (∀ ts : List ByteArray, datas ts = linesL s.data.toList → Recs q ts 0 rs) ∧ rs.length ≤ 20000

theorem readsOf_any (s : ByteArray) (a : Addr) (rs : List (List UInt8)) (w : World) (hs : s.size ≤ 20000) (hE : EndIs w a) (hf : FormIs s rs) :
    Calls Tryz.prog 52 #[.string s] w fun en w' => ∃ v ps, en = .returned (.tuple #[v, .nilIface]) ∧ w'.ownsRow w.heap.size 9 1 v ps.length (scells ps) ∧ datas ps = rs ∧ Below w.heap.size w w' := by
  rcases hf with ⟨rfl, rfl⟩ | ⟨q, h0, hc, hr, hl⟩
  · exact (readsOf_empty a w hE).mono fun en w' ⟨he, hb⟩ => ⟨_, [], he, World.ownsRow_nil _ _ _ _, rfl, hb⟩
  · cases q with
    | false => exact readsOf_false s a rs w hs h0 hc hE hr hl
    | true => exact readsOf_true s a rs w hs h0 hc hE hr hl

set_option maxHeartbeats 400000 in
set_option maxRecDepth 100000 in
theorem Parse_any (s : ByteArray) (a : Addr) (rs : List (List UInt8)) (w : World) (hs : s.size ≤ 20000) (hE : EndIs w a) (hf : FormIs s rs) :
    Calls Tryz.prog 36 #[.string s] w fun en w' => ∃ v ps, en = .returned (.tuple #[v, .int .i64 0]) ∧ w'.ownsRow w.heap.size 9 1 v ps.length (scells ps) ∧ datas ps = rs ∧ Below w.heap.size w w' := by
  go_enter Tryz.func36, Tryz.ntmps36
  go_wp2_with fail
  refine (readsOf_any s a rs w hs hE hf).mono ?_
  rintro en w1 ⟨v, ps, rfl, hown, hd, hb⟩
  have HD : Hid (datas ps = rs) := hd
  clear hd hE hf
  go_wp2
  go_ret2
  exact ⟨v, ps, rfl, hown, HD.out, hb⟩
end Go.Proofs.YtbjgpfhbdmcbbabGreatDoor.parse

/-
  LINES AND RECORDS of a text that was written line by line.
-/
namespace Go.Proofs.YtbjgpfhbdmcbbabGreatDoor.parse
open Go.RowKit dnamath dna pieces lines
set_option linter.unusedVariables false

def unlines (L : List (List UInt8)) : List UInt8 := (L.map (· ++ [10])).flatten
def joinN : List (List UInt8) → List UInt8
  | [] => []
  | [x] => x
  | x :: y :: t => x ++ 10 :: joinN (y :: t)
def clean (x : List UInt8) : Prop := ∀ c ∈ x, c ≠ 10

theorem unlines_append (A B : List (List UInt8)) : unlines (A ++ B) = unlines A ++ unlines B := by simp [unlines]
theorem unlines_one (x : List UInt8) : unlines [x] = x ++ [10] := by simp [unlines]

theorem unl_join : ∀ (L : List (List UInt8)), L ≠ [] → unlines L = joinN L ++ [10]
  | [], h => absurd rfl h
  | [x], _ => by simp [unlines, joinN]
  | x :: y :: t, _ => by
    have ih := unl_join (y :: t) (by simp)
    have e : unlines (x :: y :: t) = x ++ [10] ++ unlines (y :: t) := by simp [unlines]
    rw [e, ih]
    simp [joinN]

theorem idx_clean : ∀ (x r : List UInt8), clean x → Lib.indexByte (x ++ 10 :: r) 10 = x.length
  | [], r, _ => by simp [Lib.indexByte]
  | b :: x, r, h => by
    have hb : (b == 10) = false := by rw [beq_eq_false_iff_ne]; exact h b (by simp)
    have ih := idx_clean x r (fun c hc => h c (by simp [hc]))
    rw [List.cons_append, Lib.indexByte, hb, ih]
    have hn : (((x.length : Nat) : Int) == -1) = false := by rw [beq_eq_false_iff_ne]; omega
    rw [hn]
    simp
theorem idx_none : ∀ (x : List UInt8), clean x → Lib.indexByte x 10 = -1
  | [], _ => rfl
  | b :: x, h => by
    have hb : (b == 10) = false := by rw [beq_eq_false_iff_ne]; exact h b (by simp)
    have ih := idx_none x (fun c hc => h c (by simp [hc]))
    rw [Lib.indexByte, hb, ih]
    rfl

theorem split_join : ∀ (L : List (List UInt8)), L ≠ [] → (∀ x ∈ L, clean x) → Lib.splitK [10] 0 (Lib.count (joinN L) [10]) (joinN L) = L
  | [], h, _ => absurd rfl h
  | [x], _, hc => by
    have hi : Lib.index x [10] = -1 := by rw [Lib.index_one]; exact idx_none x (hc x (by simp))
    show Lib.splitK [10] 0 (Lib.count x [10]) x = [x]
    rw [Lib.count_miss hi]
    rfl
  | x :: y :: t, _, hc => by
    have ih := split_join (y :: t) (by simp) (fun z hz => hc z (by simp [List.mem_cons.1 hz]))
    have hi : Lib.index (x ++ 10 :: joinN (y :: t)) [10] = (x.length : Nat) := by rw [Lib.index_one]; exact idx_clean x _ (hc x (by simp))
    have hcnt := Lib.count_hit (s := x ++ 10 :: joinN (y :: t)) (sub := [10]) (by simp) hi
    have hd : (x ++ 10 :: joinN (y :: t)).drop (x.length + [(10 : UInt8)].length) = joinN (y :: t) := by
      rw [List.drop_append]; simp
    rw [hd, Nat.add_comm] at hcnt
    show Lib.splitK [10] 0 (Lib.count (x ++ 10 :: joinN (y :: t)) [10]) (x ++ 10 :: joinN (y :: t)) = _
    rw [hcnt, Lib.splitK, if_neg (by rw [hi]; simp), hi, Int.toNat_natCast, Nat.add_zero, hd, ih]
    simp

theorem trim_snoc (a : List UInt8) : Lib.trimSuffix (a ++ [10]) [10] = a := by
  have h : Lib.hasSuffix (a ++ [10]) [10] = true := by
    rw [← Lib.hasSuffix_of_drop]; simp
  unfold Lib.trimSuffix
  rw [if_pos h]
  simp

theorem lines_unlines {L : List (List UInt8)} (h : L ≠ []) (hc : ∀ x ∈ L, clean x) : linesL (unlines L) = L := by
  unfold linesL
  rw [unl_join L h, trim_snoc]
  exact split_join L h hc

/-- letters that are great already -/
def greatB (x : List UInt8) : Prop := x.all isBN = true
theorem great_id {x : List UInt8} (h : greatB x) : great x = x := by
  unfold great
  conv => rhs; rw [← List.map_id x]
  apply List.map_congr_left
  intro c hc
  have hb := List.all_eq_true.1 h c hc
  simp only [isBN, isB, Bool.or_eq_true, beq_iff_eq] at hb
  rcases hb with (((rfl | rfl) | rfl) | rfl) | rfl <;> decide

/-- the lines of records of a form -/
def RecLL (q : Bool) : List (List UInt8) → List (List UInt8) → Prop
  | L, [] => L = []
  | L, r :: rs => ∃ L', RecLL q L' rs ∧ r.length ≤ 1000000 ∧
      ((q = false ∧ ∃ h cs, L = (62 :: h) :: cs ++ L' ∧ cs ≠ [] ∧ (∀ x ∈ cs, x ≠ [] ∧ greatB x) ∧ cs.flatten = r) ∨
       (q = true ∧ ∃ h g, L = [64 :: h, r, [43], g] ++ L' ∧ r ≠ [] ∧ greatB r ∧ g.length = r.length ∧ ∀ c ∈ g, 33 ≤ (c.toNat : Int) ∧ (c.toNat : Int) ≤ 126))

theorem get_datas {ts : List ByteArray} {L : List (List UInt8)} (h : datas ts = L) (j : Nat) (hj : j < ts.length) : L[j]? = some ts[j].data.toList := by
  rw [← h]; simp [datas, hj]
theorem hp_cons (c : UInt8) (l : List UInt8) : Lib.hasPrefix (c :: l) [c] = true := by simp [Lib.hasPrefix]

theorem accL_of {ts : List ByteArray} {pre cs post : List (List UInt8)} (h : datas ts = pre ++ cs ++ post) (hg : ∀ x ∈ cs, greatB x) : ∀ n, n ≤ cs.length → accL ts pre.length (pre.length + n) = (cs.take n).flatten
  | 0, _ => by rw [Nat.add_zero, accL_self]; rfl
  | n + 1, hn => by
    have hlen : ts.length = pre.length + cs.length + post.length := by rw [← datas_length, h]; simp; omega
    have hj : pre.length + n < ts.length := by omega
    have hx := get_datas h (pre.length + n) hj
    have hx2 : (pre ++ cs ++ post)[pre.length + n]? = some cs[n] := by
      rw [List.append_assoc, List.getElem?_append_right (by omega), Nat.add_sub_cancel_left, List.getElem?_append_left (by omega)]
      exact List.getElem?_eq_getElem (by omega)
    rw [hx2] at hx
    have e : cs[n] = ts[pre.length + n].data.toList := Option.some.inj hx
    rw [← Nat.add_assoc, accL_succ (by omega) hj, accL_of h hg n (by omega), ← e, great_id (hg _ (List.getElem_mem _))]
    have e5 : cs.take (n+1) = cs.take n ++ [cs[n]] := List.take_succ_eq_append_getElem (by omega)
    rw [e5, List.flatten_append]
    simp

theorem take_flatten_le {cs : List (List UInt8)} (n : Nat) : (cs.take n).flatten.length ≤ cs.flatten.length := by
  conv => rhs; rw [← List.take_append_drop n cs]
  rw [List.flatten_append, List.length_append]; omega

theorem mem_len {cs : List (List UInt8)} {x : List UInt8} (h : x ∈ cs) : x.length ≤ cs.flatten.length := by
  obtain ⟨a, b, rfl⟩ := List.append_of_mem h
  simp; omega

theorem recs_of (q : Bool) {ts : List ByteArray} : ∀ (rs pre L : List (List UInt8)), datas ts = pre ++ L → RecLL q L rs → Recs q ts pre.length rs
  | [], pre, L, h, hr => by
    have hr : L = [] := hr
    subst hr
    show pre.length = ts.length
    rw [← datas_length, h, List.append_nil]
  | r :: rs, pre, L, h, hr => by
    obtain ⟨L', hr', hrl, hx⟩ := hr
    rcases hx with ⟨rfl, hd, cs, rfl, hne, hcs, hfl⟩ | ⟨rfl, hd, gr, rfl, hne, hgb, hgl, hgr⟩
    · have h1 : datas ts = (pre ++ [62 :: hd]) ++ cs ++ L' := by rw [h]; simp
      have h2 : datas ts = (pre ++ ((62 :: hd) :: cs)) ++ L' := by rw [h]; simp
      have hlen : ts.length = pre.length + 1 + cs.length + L'.length := by rw [← datas_length, h1]; simp; omega
      have hcl : 0 < cs.length := List.length_pos_iff.2 hne
      have hacc := accL_of h1 (fun x hx => (hcs x hx).2)
      have hp1 : (pre ++ [62 :: hd]).length = pre.length + 1 := by simp
      rw [hp1] at hacc
      refine ⟨pre.length + 1 + cs.length, .inl ⟨rfl, ⟨by omega, by omega, ?_, ?_, ?_, ?_⟩, ?_⟩, ?_⟩
      · intro hk
        have hx := get_datas h pre.length hk
        rw [List.getElem?_append_right (Nat.le_refl _), Nat.sub_self] at hx
        have e : 62 :: hd = ts[pre.length].data.toList := by simpa using hx
        rw [← e]; exact hp_cons 62 hd
      · intro j hj hj1 hj2
        have hx := get_datas h1 j hj
        rw [List.append_assoc, List.getElem?_append_right (by rw [hp1]; omega), hp1, List.getElem?_append_left (by omega), List.getElem?_eq_getElem (by omega)] at hx
        have e := Option.some.inj hx
        have hm : cs[j - (pre.length + 1)] ∈ cs := List.getElem_mem _
        obtain ⟨g1, g2⟩ := hcs _ hm
        rw [e] at g1 g2 hm
        refine ⟨?_, ?_, ?_⟩
        · rw [Lib.size_eq]; exact List.length_pos_iff.2 g1
        · rw [Lib.size_eq]; have := mem_len hm; rw [hfl] at this; omega
        · rw [great_id g2]; exact g2
      · intro he
        cases rs with
        | nil =>
          have : L' = [] := hr'
          rw [this] at hlen; simp at hlen; omega
        | cons r2 rs2 =>
          obtain ⟨L2, _, _, hy⟩ := hr'
          rcases hy with ⟨_, hd2, cs2, rfl, _⟩ | ⟨hq, _⟩
          · have hx := get_datas h2 (pre.length + 1 + cs.length) he
            rw [List.getElem?_append_right (by simp; omega)] at hx
            have e0 : pre.length + 1 + cs.length - (pre ++ ((62 :: hd) :: cs)).length = 0 := by simp; omega
            rw [e0] at hx
            have e : 62 :: hd2 = ts[pre.length + 1 + cs.length].data.toList := by simpa using hx
            rw [← e]; exact hp_cons 62 hd2
          · cases hq
      · intro j hj
        by_cases hj1 : j ≤ pre.length + 1
        · have e : accL ts (pre.length + 1) j = [] := by unfold accL; rw [List.drop_of_length_le (by rw [List.length_take]; omega)]; rfl
          rw [e]; simp
        · obtain ⟨n, rfl⟩ : ∃ n, j = pre.length + 1 + n := ⟨j - (pre.length + 1), by omega⟩
          rw [hacc n (by omega)]
          have := take_flatten_le (cs := cs) n
          rw [hfl] at this; omega
      · rw [hacc cs.length (Nat.le_refl _), List.take_length, hfl]
      · have hp2 : (pre ++ ((62 :: hd) :: cs)).length = pre.length + 1 + cs.length := by simp; omega
        rw [← hp2]
        exact recs_of false rs _ L' h2 hr'
    · have h1 : datas ts = (pre ++ [64 :: hd]) ++ [r] ++ ([43] :: gr :: L') := by rw [h]; simp
      have h2 : datas ts = (pre ++ [64 :: hd, r, [43], gr]) ++ L' := by rw [h]; simp
      have hlen : ts.length = pre.length + 4 + L'.length := by rw [← datas_length, h2]; simp; omega
      have at_ : ∀ n (hn : n < 4) (hj : pre.length + n < ts.length), [64 :: hd, r, [43], gr][n]? = some ts[pre.length + n].data.toList := by
        intro n hn hj
        have hx := get_datas h (pre.length + n) hj
        rw [List.getElem?_append_right (by omega), Nat.add_sub_cancel_left, List.getElem?_append_left (by simp; omega)] at hx
        exact hx
      have hacc := accL_of h1 (fun x hx => by rw [List.mem_singleton] at hx; subst hx; exact hgb) 1 (by simp)
      have hp1 : (pre ++ [64 :: hd]).length = pre.length + 1 := by simp
      rw [hp1] at hacc
      refine ⟨pre.length + 4, .inr ⟨rfl, ⟨by omega, ?_, ?_, ?_, ?_⟩, rfl, ?_⟩, ?_⟩
      · intro hk
        have e : 64 :: hd = ts[pre.length].data.toList := by simpa using at_ 0 (by omega) hk
        rw [← e]; exact hp_cons 64 hd
      · intro hk
        have e : r = ts[pre.length + 1].data.toList := by simpa using at_ 1 (by omega) hk
        refine ⟨?_, ?_, ?_⟩
        · rw [Lib.size_eq, ← e]; exact List.length_pos_iff.2 hne
        · rw [Lib.size_eq, ← e]; exact hrl
        · rw [← e, great_id hgb]; exact hgb
      · intro hk
        have e : [43] = ts[pre.length + 2].data.toList := by simpa using at_ 2 (by omega) hk
        rw [← e]; exact hp_cons 43 []
      · intro hk hk1
        have e1 : r = ts[pre.length + 1].data.toList := by simpa using at_ 1 (by omega) hk1
        have e3 : gr = ts[pre.length + 3].data.toList := by simpa using at_ 3 (by omega) hk
        refine ⟨by rw [Lib.size_eq, Lib.size_eq, ← e1, ← e3]; exact hgl, fun j hj => ?_⟩
        apply hgr
        rw [e3]
        have : ts[pre.length + 3][j] = ts[pre.length + 3].data.toList[j]'(by rw [← Lib.size_eq]; exact hj) := rfl
        rw [this]; exact List.getElem_mem _
      · rw [hacc]; simp
      · have hp2 : (pre ++ [64 :: hd, r, [43], gr]).length = pre.length + 4 := by simp
        rw [← hp2]
        exact recs_of true rs _ L' h2 hr'

/-- a text written line by line is of its form -/
theorem form_of (q : Bool) (s : ByteArray) (L rs : List (List UInt8)) (hs : s.data.toList = unlines L) (hc : ∀ x ∈ L, clean x) (hr : RecLL q L rs) (hl : rs.length ≤ 20000) : FormIs s rs := by
  cases rs with
  | nil =>
    have : L = [] := hr
    subst this
    exact .inl ⟨by apply ByteArray.ext; apply Array.toList_inj.1; rw [hs]; rfl, rfl⟩
  | cons r rs =>
    have hL : L ≠ [] := by
      rintro rfl
      obtain ⟨L', _, _, hx⟩ := hr
      rcases hx with ⟨_, h, cs, e, _⟩ | ⟨_, h, g, e, _⟩ <;> simp at e
    have hfirst : ∃ l, s.data.toList = (if q then 64 else 62) :: l := by
      obtain ⟨L', _, _, hx⟩ := hr
      rcases hx with ⟨rfl, h, cs, rfl, _⟩ | ⟨rfl, h, g, rfl, _⟩
      · exact ⟨_, by rw [hs]; simp [unlines]; rfl⟩
      · exact ⟨_, by rw [hs]; simp [unlines]; rfl⟩
    obtain ⟨l, hl2⟩ := hfirst
    have h0 : 0 < s.size := by rw [Lib.size_eq, hl2]; simp
    refine .inr ⟨q, h0, ?_, fun ts hts => ?_, hl⟩
    · have : s[0] = s.data.toList[0]'(by rw [← Lib.size_eq]; exact h0) := rfl
      rw [this]
      simp [hl2]
    · rw [hs, lines_unlines hL hc] at hts
      have := recs_of q (r :: rs) [] L (by rw [hts]; rfl) hr
      exact this
end Go.Proofs.YtbjgpfhbdmcbbabGreatDoor.parse

/-
  PLAIN MATHEMATICS of the files' texts: numbers, seals.
-/
namespace Go.Proofs.YtbjgpfhbdmcbbabGreatDoor.files
open dnamath hex parse
set_option linter.unusedVariables false

theorem dec_digit : ∀ (u : Nat), ∀ c ∈ Lib.decDigits u, 48 ≤ c.toNat ∧ c.toNat ≤ 57 := by
  intro u
  induction u using Nat.strongRecOn with
  | ind u ih =>
    intro c hc
    rw [Lib.decDigits] at hc
    split at hc
    · rename_i h
      rw [List.mem_singleton] at hc
      subst hc
      rw [UInt8.toNat_ofNat']
      omega
    · rename_i h
      rw [List.mem_append, List.mem_singleton] at hc
      rcases hc with hc | hc
      · exact ih (u / 10) (by omega) c hc
      · subst hc
        rw [UInt8.toNat_ofNat']
        omega
theorem itoa_nat (u : Nat) : Lib.itoa (u : Int) = Lib.decDigits u := by unfold Lib.itoa; rw [if_neg (by omega)]; simp
theorem dec_len : ∀ (k u : Nat), u < 10 ^ (k + 1) → (Lib.decDigits u).length ≤ k + 1
  | 0, u, h => by rw [Lib.decDigits, dif_pos (by simpa using h)]; simp
  | k + 1, u, h => by
    rw [Lib.decDigits]
    split
    · simp
    · rw [List.length_append]
      have := dec_len k (u / 10) (by rw [Nat.pow_succ] at h; exact Nat.div_lt_of_lt_mul (by rw [Nat.mul_comm]; exact h))
      simp; omega
theorem hexL_hex (n : Nat) (h : n < 18446744073709551616) : ∀ c ∈ hexL n, (48 ≤ c.toNat ∧ c.toNat ≤ 57) ∨ (97 ≤ c.toNat ∧ c.toNat ≤ 102) :=
  hexF_hex 16 n (by have : (16 : Nat) ^ (16 + 1) = 295147905179352825856 := by decide
                    omega)
theorem hexL_len (n : Nat) : (hexL n).length ≤ 17 := hexF_len 16 n
theorem seal_len (r s : Nat) (hr : r ≤ 1000000000) : (sealL r s).length ≤ 40 := by
  unfold sealL
  rw [itoa_nat]
  have h1 := dec_len 9 r (by omega)
  have h2 := hexL_len s
  simp; omega

/-- the seal but for its last byte -/
def sealF (r s : Nat) : List UInt8 := [61] ++ Lib.itoa (r : Int) ++ [32] ++ hexL s
theorem seal_eq (r s : Nat) : sealL r s = sealF r s ++ [10] := rfl
theorem sealF_no (r s : Nat) (hs : s < 18446744073709551616) : ∀ c ∈ sealF r s, c ≠ 10 := by
  intro c hc e
  subst e
  unfold sealF at hc
  rw [itoa_nat] at hc
  simp only [List.mem_append, List.mem_singleton] at hc
  rcases hc with ((hc | hc) | hc) | hc
  · revert hc; decide
  · have := dec_digit r _ hc; revert this; decide
  · revert hc; decide
  · have := hexL_hex s hs _ hc; revert this; decide

theorem occ_iff (s : List UInt8) (k : Nat) : Lib.occAt s [10, 61] k = true ↔ s[k]? = some 10 ∧ s[k + 1]? = some 61 := by
  unfold Lib.occAt
  have h1 : s[k]? = (s.drop k)[0]? := by rw [List.getElem?_drop]; rfl
  have h2 : s[k + 1]? = (s.drop k)[1]? := by rw [List.getElem?_drop]
  rw [h1, h2]
  cases s.drop k with
  | nil => simp
  | cons a t =>
    cases t with
    | nil => simp
    | cons b t =>
      have e : ([10, 61] : List UInt8).isPrefixOf (a :: b :: t) = ((10 == a) && (61 == b)) := by simp [List.isPrefixOf]
      rw [e, Bool.and_eq_true, beq_iff_eq, beq_iff_eq]
      constructor
      · rintro ⟨h1, h2⟩; subst h1; subst h2; exact ⟨rfl, rfl⟩
      · rintro ⟨h1, h2⟩; exact ⟨(Option.some.inj h1).symm, (Option.some.inj h2).symm⟩

/-- where the seal begins -/
theorem last_seal (Z0 : List UInt8) (r s : Nat) (hs : s < 18446744073709551616) : Lib.lastIndex (Z0 ++ [10] ++ sealL r s) [10, 61] = (Z0.length : Int) := by
  have hl : (Z0 ++ [10] ++ sealL r s).length = Z0.length + 1 + (sealF r s).length + 1 := by rw [seal_eq]; simp; omega
  unfold Lib.lastIndex
  rw [if_pos (by rw [hl]; simp; omega)]
  obtain ⟨K, hK⟩ : ∃ K, K = (Z0 ++ [10] ++ sealL r s).length - ([10, 61] : List UInt8).length + 1 := ⟨_, rfl⟩
  have hK2 : Z0.length < K := by rw [hK, hl]; simp; omega
  have hK3 : K ≤ Z0.length + 1 + (sealF r s).length := by rw [hK, hl]; simp; omega
  rw [← hK]
  have hat : Lib.occAt (Z0 ++ [10] ++ sealL r s) [10, 61] Z0.length = true := by
    rw [occ_iff]
    constructor
    · rw [List.append_assoc, List.getElem?_append_right (Nat.le_refl _), Nat.sub_self]; rfl
    · rw [List.getElem?_append_right (by simp)]
      simp [sealL]
  have hno : ∀ j, Z0.length < j → j < K → Lib.occAt (Z0 ++ [10] ++ sealL r s) [10, 61] j = false := by
    intro j h1 h2
    cases hc : Lib.occAt (Z0 ++ [10] ++ sealL r s) [10, 61] j with
    | false => rfl
    | true =>
      have hj := ((occ_iff _ _).1 hc).1
      rw [List.getElem?_append_right (by simp; omega), seal_eq] at hj
      have e : j - (Z0 ++ [10]).length < (sealF r s).length := by simp; omega
      rw [List.getElem?_append_left e] at hj
      exact absurd rfl (sealF_no r s hs 10 (List.mem_of_getElem? hj))
  rcases Lib.lastOcc_spec (Z0 ++ [10] ++ sealL r s) [10, 61] K with ⟨_, h2⟩ | ⟨i, hi, h1, h2, h3⟩
  · rw [h2 _ hK2] at hat; cases hat
  · rw [h1]
    have : i = Z0.length := by
      rcases Nat.lt_trichotomy i Z0.length with h | h | h
      · rw [h3 _ h hK2] at hat; cases hat
      · exact h
      · rw [hno i h hi] at h2; cases h2
    rw [this]
end Go.Proofs.YtbjgpfhbdmcbbabGreatDoor.files
