/-
  CONTRACTS of package dna: readsOf and Parse, where an input is of a form.
-/
import Derived.Test.YtbjgpfhbdmcbbaaDoorPa2
namespace Go.Proofs.YtbjgpfhbdmcbbaaDoor.parse
open Go.RowKit Go.Proofs.YtbjgpfhbdmcbbaaDoor.dnamath Go.Proofs.YtbjgpfhbdmcbbaaDoor.dna Go.Proofs.YtbjgpfhbdmcbbaaDoor.pieces Go.Proofs.YtbjgpfhbdmcbbaaDoor.lines
set_option linter.unusedVariables false

theorem fill_base {w : World} {base base' : Nat} {e : TypeId} {v : Value} {n : Nat} {xs : List Value} (h : w.ownsRow base e 1 v n xs) (hb : base' ≤ base) : w.ownsRow base' e 1 v n xs := by
  refine ⟨h.1, ?_⟩
  rcases h.2 with h | ⟨g, cap, cur, h1, h2, h3⟩
  · exact .inl h
  · exact .inr ⟨g, cap, cur, h1, by omega, h3⟩

set_option maxHeartbeats 2000000 in
set_option maxRecDepth 100000 in
theorem readsOf_false (s : ByteArray) (a : Addr) (rs : List (List UInt8)) (w : World) (hs : s.size ≤ 20000) (h0 : 0 < s.size) (hc : s[0] = 62) (hE : EndIs w a) (hrs : ∀ ts : List ByteArray, datas ts = linesL s.data.toList → Recs false ts 0 rs) (hrl : rs.length ≤ 20000) :
    Calls Tryd.prog 23 #[.string s] w fun en w' => ∃ v ps, en = .returned (.tuple #[v, .nilIface]) ∧ w'.ownsRow w.heap.size 9 1 v ps.length (scells ps) ∧ datas ps = rs ∧ Below w.heap.size w w' := by
  obtain ⟨i0, hi, hz0, hz1, hz2⟩ := info_parts infoS
  have hmeth := methodF
  have hF : FormT s[0] 78 := .inl ⟨hc, rfl⟩
  go_enter Tryd.func23, Tryd.ntmps23
  go_wp2_with fail
  refine (recordsOf_any s w (by omega) h0 78 hF).mono ?_
  rintro en w1 ⟨ts, g, b, rfl, h1, hts, htl, hg, hgb, hbs, hb1⟩
  have HRS : Hid (Recs false ts 0 rs) := hrs ts hts
  have hl4 : ts.length ≤ 1000000 := by omega
  have HL1 : Hid (LS w1 b g 0 ts) := h1
  have hEw : 1 < w.heap.size := World.block_lt_of_cell? _ _ hE
  have HE1 : Hid (EndIs w1 a) := (hb1.cell (by exact hEw)).trans hE
  have HB1 : Hid (Below w.heap.size w w1) := hb1
  clear hrs hts h1 hb1 hE hF
  go_wp2
  go_loopw [6, 7, 8] (fun v _ _ wr => ∃ (k : Nat) (dn rt : List (List UInt8)) (ps : List ByteArray), Hid (dn ++ rt = rs) ∧ Hid (Recs false ts k rt) ∧ Hid (LS wr b g k ts) ∧ k ≤ ts.length ∧ wr.ownsRow (b + 1) 9 1 v ps.length (scells ps) ∧ Hid (datas ps = dn) ∧ ps.length ≤ 20000 ∧ Hid (Below b w1 wr) ∧ w1.heap.size ≤ wr.heap.size) (fun _ _ _ wr => lines.leftOf wr b)
  case atStart => exact ⟨0, [], rs, [], rfl, HRS.out, HL1.out, Nat.zero_le _, World.ownsRow_nil _ _ _ _, rfl, by simp, Below.refl _ _, Nat.le_refl _⟩
  case round =>
    obtain ⟨k, dn, rt, ps, HDR, HRC, HL, hk, hown, HPD, hpl, HBL, hsz⟩ := hrel
    have hcE : wr.cell? ⟨1, 0, none⟩ = some (.iface 150 (.pointer (some a))) := (HBL.out.cell (by show 1 < b; omega)).trans HE1.out
    have HLO : Hid (lines.leftOf wr b = ts.length - k) := leftOf_LS HL.out
    cases rt with
    | nil =>
      have hke : k = ts.length := HRC.out
      subst hke
      go_wp2_with fail
      refine (fastaNext_end b g ts a _ HL.out hl4 hcE).mono ?_
      rintro en w2 ⟨rfl, hb2⟩
      have hcE2 : w2.cell? ⟨1, 0, none⟩ = some (.iface 150 (.pointer (some a))) := (hb2.cell (by show 1 < _; omega)).trans hcE
      have hown2 := own_later hown hb2
      have HF2 : Hid (Below w.heap.size w w2) := HB1.out.trans ((HBL.out.mono (by omega)).trans (hb2.mono (by omega)))
      clear hown hcE hb2
      go_wp2_with (go_at_call 37; refine (errs.is_same a _).mono ?_; rintro en w' ⟨rfl, hw'⟩; have hw2 := hw'.symm; subst hw2)
      go_ret2
      refine ⟨_, ps, rfl, fill_base hown2 (by omega), ?_, HF2.out⟩
      have := HDR.out
      rw [List.append_nil] at this
      rw [← this]; exact HPD.out
    | cons r1 rt1 =>
      obtain ⟨e, he, hrest⟩ := HRC.out
      obtain ⟨hrec, hrr⟩ : RecF ts k e ∧ r1 = accL ts (k + 1) e := by
        rcases he with ⟨_, h⟩ | ⟨h, _⟩
        · exact h
        · cases h
      have HREST : Hid (Recs false ts (e) rt1) := hrest
      have HRR : Hid (r1 = accL ts (k + 1) e) := hrr
      have hel : e ≤ ts.length ∧ k < e := ⟨hrec.le, by have := hrec.lt; omega⟩
      have hpl2 : ps.length + 1 ≤ 20000 := by
        have h9 := congrArg List.length HDR.out
        rw [List.length_append, List.length_cons] at h9
        have h8 : ps.length = dn.length := by rw [← datas_length, HPD.out]
        omega
      go_wp2_with fail
      refine (fastaNext_any b g k e ts _ HL.out hl4 hrec).mono ?_
      rintro en w2 ⟨r, rfl, hr2, hL2, hg2⟩
      have hcE2 : w2.cell? ⟨1, 0, none⟩ = some (.iface 150 (.pointer (some a))) := (World.cell?_of_block (w := wr) (hg2.block _ (World.block_lt_of_cell? _ _ hcE) (by simp; omega))).trans hcE
      have hown2 : w2.ownsRow (b + 1) 9 1 _ ps.length (scells ps) := hown.kept hg2 (.inr (fun h => by have h7 := (hown.lt b h).1; omega))
      have HBL2 : Hid (Below b w1 w2) := HBL.out.grown hg2 (by omega) (fun j hj => by cases hj; exact Nat.le_refl _)
      have HL2 : Hid (LS w2 b g (e) ts) := hL2
      have hsz2 : w1.heap.size ≤ w2.heap.size := Nat.le_trans hsz hg2.size
      have HR2 : Hid (r.data.toList = r1) := by show r.data.toList = _; rw [hr2, HRR.out]
      have hmx : ps.length + 1 ≤ maxLen := by unfold maxLen; omega
      have hby : (ps.length + 1) * 16 ≤ 140737488355328 := by omega
      clear hown hcE hg2 hL2 hr2 hrec hrest he
      go_wp2_with (first | (go_at_call 37; refine (errs.is_nil a _).mono ?_; rintro en w' ⟨rfl, hw'⟩; have hw2 := hw'.symm; subst hw2) | (at_builtin; refine wpList_append_own _ rfl (.tmp 42) (.tmp 44) 22 rfl (b + 1) 9 i0 (.string ByteArray.empty) 1 16 Tryd.underlying22 hi hz0 hz1 hz2 rfl (by decide) _ _ _ rfl (hown2.alloc _) ⟨w2.heap.size, 0, none⟩ 1 1 [.string r] rfl rfl (cell_one _ _ _) (one_str _) hmx hby (by simp; omega) ?_; intro v' w3 hown' hgrow _))
      obtain ⟨R1, R2⟩ := push_str (w := w2) (c := r) hown2 (Below.refl _ _) (by omega) hown' hgrow
      have HL3 : Hid (LS w3 b g (e) ts) := HL2.out.kept R2 (by omega) (by omega)
      have HBL3 : Hid (Below b w1 w3) := HBL2.out.trans (R2.mono (by omega))
      have hsz3 : w1.heap.size ≤ w3.heap.size := Nat.le_trans hsz2 R2.size
      have HLO2 : Hid (lines.leftOf w3 b = ts.length - (e)) := leftOf_LS HL3.out
      clear hown' hgrow hown2 R2 hcE2
      go_wp2
      go_roundw
      case rel => exact ⟨e, dn ++ [r1], rt1, ps ++ [r], by show _ = _; rw [List.append_assoc]; exact HDR.out, HREST.out, HL3.out, hel.1, R1, by show datas _ = _; rw [datas_snoc, HPD.out, HR2.out], by rw [List.length_append]; simp; omega, HBL3.out, hsz3⟩
      case measure => rw [HLO.out, HLO2.out]; omega

set_option maxHeartbeats 2000000 in
set_option maxRecDepth 100000 in
theorem readsOf_true (s : ByteArray) (a : Addr) (rs : List (List UInt8)) (w : World) (hs : s.size ≤ 20000) (h0 : 0 < s.size) (hc : s[0] = 64) (hE : EndIs w a) (hrs : ∀ ts : List ByteArray, datas ts = linesL s.data.toList → Recs true ts 0 rs) (hrl : rs.length ≤ 20000) :
    Calls Tryd.prog 23 #[.string s] w fun en w' => ∃ v ps, en = .returned (.tuple #[v, .nilIface]) ∧ w'.ownsRow w.heap.size 9 1 v ps.length (scells ps) ∧ datas ps = rs ∧ Below w.heap.size w w' := by
  obtain ⟨i0, hi, hz0, hz1, hz2⟩ := info_parts infoS
  have hmeth := methodQ
  have hF : FormT s[0] 84 := .inr ⟨hc, rfl⟩
  go_enter Tryd.func23, Tryd.ntmps23
  go_wp2_with fail
  refine (recordsOf_any s w (by omega) h0 84 hF).mono ?_
  rintro en w1 ⟨ts, g, b, rfl, h1, hts, htl, hg, hgb, hbs, hb1⟩
  have HRS : Hid (Recs true ts 0 rs) := hrs ts hts
  have hl4 : ts.length ≤ 1000000 := by omega
  have HL1 : Hid (LS w1 b g 0 ts) := h1
  have hEw : 1 < w.heap.size := World.block_lt_of_cell? _ _ hE
  have HE1 : Hid (EndIs w1 a) := (hb1.cell (by exact hEw)).trans hE
  have HB1 : Hid (Below w.heap.size w w1) := hb1
  clear hrs hts h1 hb1 hE hF
  go_wp2
  go_loopw [6, 7, 8] (fun v _ _ wr => ∃ (k : Nat) (dn rt : List (List UInt8)) (ps : List ByteArray), Hid (dn ++ rt = rs) ∧ Hid (Recs true ts k rt) ∧ Hid (LS wr b g k ts) ∧ k ≤ ts.length ∧ wr.ownsRow (b + 1) 9 1 v ps.length (scells ps) ∧ Hid (datas ps = dn) ∧ ps.length ≤ 20000 ∧ Hid (Below b w1 wr) ∧ w1.heap.size ≤ wr.heap.size) (fun _ _ _ wr => lines.leftOf wr b)
  case atStart => exact ⟨0, [], rs, [], rfl, HRS.out, HL1.out, Nat.zero_le _, World.ownsRow_nil _ _ _ _, rfl, by simp, Below.refl _ _, Nat.le_refl _⟩
  case round =>
    obtain ⟨k, dn, rt, ps, HDR, HRC, HL, hk, hown, HPD, hpl, HBL, hsz⟩ := hrel
    have hcE : wr.cell? ⟨1, 0, none⟩ = some (.iface 150 (.pointer (some a))) := (HBL.out.cell (by show 1 < b; omega)).trans HE1.out
    have HLO : Hid (lines.leftOf wr b = ts.length - k) := leftOf_LS HL.out
    cases rt with
    | nil =>
      have hke : k = ts.length := HRC.out
      subst hke
      go_wp2_with fail
      refine (fastqNext_end b g ts a _ HL.out hl4 hcE).mono ?_
      rintro en w2 ⟨rfl, hb2⟩
      have hcE2 : w2.cell? ⟨1, 0, none⟩ = some (.iface 150 (.pointer (some a))) := (hb2.cell (by show 1 < _; omega)).trans hcE
      have hown2 := own_later hown hb2
      have HF2 : Hid (Below w.heap.size w w2) := HB1.out.trans ((HBL.out.mono (by omega)).trans (hb2.mono (by omega)))
      clear hown hcE hb2
      go_wp2_with (go_at_call 37; refine (errs.is_same a _).mono ?_; rintro en w' ⟨rfl, hw'⟩; have hw2 := hw'.symm; subst hw2)
      go_ret2
      refine ⟨_, ps, rfl, fill_base hown2 (by omega), ?_, HF2.out⟩
      have := HDR.out
      rw [List.append_nil] at this
      rw [← this]; exact HPD.out
    | cons r1 rt1 =>
      obtain ⟨e, he, hrest⟩ := HRC.out
      obtain ⟨hrec, rfl, hrr⟩ : RecQ ts k ∧ e = k + 4 ∧ r1 = accL ts (k + 1) (k + 2) := by
        rcases he with ⟨h, _⟩ | ⟨_, h⟩
        · cases h
        · exact h
      have HREST : Hid (Recs true ts (k + 4) rt1) := hrest
      have HRR : Hid (r1 = accL ts (k + 1) (k + 2)) := hrr
      have hel : k + 4 ≤ ts.length ∧ k < k + 4 := ⟨hrec.le, by omega⟩
      have hpl2 : ps.length + 1 ≤ 20000 := by
        have h9 := congrArg List.length HDR.out
        rw [List.length_append, List.length_cons] at h9
        have h8 : ps.length = dn.length := by rw [← datas_length, HPD.out]
        omega
      go_wp2_with fail
      refine (fastqNext_any b g k ts _ HL.out hl4 hrec).mono ?_
      rintro en w2 ⟨r, rfl, hr2, hL2, hg2⟩
      have hcE2 : w2.cell? ⟨1, 0, none⟩ = some (.iface 150 (.pointer (some a))) := (World.cell?_of_block (w := wr) (hg2.block _ (World.block_lt_of_cell? _ _ hcE) (by simp; omega))).trans hcE
      have hown2 : w2.ownsRow (b + 1) 9 1 _ ps.length (scells ps) := hown.kept hg2 (.inr (fun h => by have h7 := (hown.lt b h).1; omega))
      have HBL2 : Hid (Below b w1 w2) := HBL.out.grown hg2 (by omega) (fun j hj => by cases hj; exact Nat.le_refl _)
      have HL2 : Hid (LS w2 b g (k + 4) ts) := hL2
      have hsz2 : w1.heap.size ≤ w2.heap.size := Nat.le_trans hsz hg2.size
      have HR2 : Hid (r.data.toList = r1) := by show r.data.toList = _; rw [hr2, HRR.out]
      have hmx : ps.length + 1 ≤ maxLen := by unfold maxLen; omega
      have hby : (ps.length + 1) * 16 ≤ 140737488355328 := by omega
      clear hown hcE hg2 hL2 hr2 hrec hrest he
      go_wp2_with (first | (go_at_call 37; refine (errs.is_nil a _).mono ?_; rintro en w' ⟨rfl, hw'⟩; have hw2 := hw'.symm; subst hw2) | (at_builtin; refine wpList_append_own _ rfl (.tmp 42) (.tmp 44) 22 rfl (b + 1) 9 i0 (.string ByteArray.empty) 1 16 Tryd.underlying22 hi hz0 hz1 hz2 rfl (by decide) _ _ _ rfl (hown2.alloc _) ⟨w2.heap.size, 0, none⟩ 1 1 [.string r] rfl rfl (cell_one _ _ _) (one_str _) hmx hby (by simp; omega) ?_; intro v' w3 hown' hgrow _))
      obtain ⟨R1, R2⟩ := push_str (w := w2) (c := r) hown2 (Below.refl _ _) (by omega) hown' hgrow
      have HL3 : Hid (LS w3 b g (k + 4) ts) := HL2.out.kept R2 (by omega) (by omega)
      have HBL3 : Hid (Below b w1 w3) := HBL2.out.trans (R2.mono (by omega))
      have hsz3 : w1.heap.size ≤ w3.heap.size := Nat.le_trans hsz2 R2.size
      have HLO2 : Hid (lines.leftOf w3 b = ts.length - (k + 4)) := leftOf_LS HL3.out
      clear hown' hgrow hown2 R2 hcE2
      go_wp2
      go_roundw
      case rel => exact ⟨k + 4, dn ++ [r1], rt1, ps ++ [r], by show _ = _; rw [List.append_assoc]; exact HDR.out, HREST.out, HL3.out, hel.1, R1, by show datas _ = _; rw [datas_snoc, HPD.out, HR2.out], by rw [List.length_append]; simp; omega, HBL3.out, hsz3⟩
      case measure => rw [HLO.out, HLO2.out]; omega

end Go.Proofs.YtbjgpfhbdmcbbaaDoor.parse
