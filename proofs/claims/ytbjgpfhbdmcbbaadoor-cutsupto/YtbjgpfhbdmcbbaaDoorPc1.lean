/-
  CONTRACTS of package dna: appendPieces, piecesOf, isRead, Pieces.
-/
import Derived.Test.YtbjgpfhbdmcbbaaDoorDna3
import Derived.Test.YtbjgpfhbdmcbbaaDoorSplit1
namespace Go.Proofs.YtbjgpfhbdmcbbaaDoor.pieces
open Go.RowKit Go.Proofs.YtbjgpfhbdmcbbaaDoor.dnamath Go.Proofs.YtbjgpfhbdmcbbaaDoor.dna
set_option linter.unusedVariables false

def scells (ps : List ByteArray) : List Value := ps.map Value.string
def datas (ps : List ByteArray) : List (List UInt8) := ps.map (·.data.toList)
theorem datas_snoc (ps : List ByteArray) (x : ByteArray) : datas (ps ++ [x]) = datas ps ++ [x.data.toList] := by simp [datas]
theorem datas_length (ps : List ByteArray) : (datas ps).length = ps.length := by simp [datas]

theorem infoS : (Tryd.prog.info? 9).map (fun i => (i.zero, i.size, i.bytes)) = some (some (.string ByteArray.empty), 1, 16) := by kernel_rfl

theorem own_later {w w' : World} {base : Nat} {e : TypeId} {v : Value} {n : Nat} {xs : List Value} (h : w.ownsRow base e 1 v n xs) (hb : Below w.heap.size w w') : w'.ownsRow base e 1 v n xs := by
  refine ⟨h.1, ?_⟩
  rcases h.2 with h | ⟨g, cap, cur, h1, h2, h3, h4⟩
  · exact .inl h
  · exact .inr ⟨g, cap, cur, h1, h2, (hb.block g (lt_of_block h3)).trans h3, h4⟩

theorem cell_one (w : World) (x : Value) (t : TypeId) : ∀ j u, [x][j]? = some u → (w.alloc (.cells #[x] t)).cell? ((⟨w.heap.size, 0, none⟩ : Addr).add j) = some u := by
  intro j u hj
  match j, hj with
  | 0, hj => simp at hj; subst hj; simp [Addr.add]
theorem one_str (s : ByteArray) : ∀ u ∈ [Value.string s], u.oneCell' = true := by
  intro u hu; simp at hu; subst hu; rfl
theorem push_str {base : Nat} {w wr w1 : World} {v v' : Value} {ps : List ByteArray} {c : ByteArray} {o : Obj} (hown : wr.ownsRow base 9 1 v ps.length (scells ps)) (hb : Below base w wr) (hbase : base ≤ wr.heap.size)
    (hown' : w1.ownsRow base 9 1 v' (ps.length + 1) (scells ps ++ [.string c])) (hgrow : (wr.alloc o).grownBy w1 v.ownBlock) :
    w1.ownsRow base 9 1 v' (ps ++ [c]).length (scells (ps ++ [c])) ∧ Below base w w1 := by
  refine ⟨?_, (hb.alloc hbase o).grown hgrow (by simp; omega) (fun j hj => (hown.lt j hj).1)⟩
  have e : scells (ps ++ [c]) = scells ps ++ [.string c] := by simp [scells]
  rw [e, List.length_append]
  exact hown'

theorem R_len {l : List UInt8} {k m : Nat} : ∀ j, (R l k m j).out.length ≤ j
  | 0 => Nat.le_refl _
  | j + 1 => by
    have ih := R_len (l := l) (k := k) (m := m) j
    cases hv : validW l k j with
    | false => rw [R_skip hv]; omega
    | true =>
      by_cases hc : (R l k m j).last = (j : Int) - 1 ∧ markL m (cut l j k) = (R l k m j).was
      · rw [R_more hv hc.1 hc.2]
        show (ext _ _).length ≤ _
        simp only [ext, List.length_append, List.length_dropLast, List.length_singleton]; omega
      · rw [R_new hv hc]
        show (_ ++ [_]).length ≤ _
        rw [List.length_append]; simp; omega

theorem slice_be (t : ByteArray) (b i k : Nat) (hb : b < i) (h : i + k ≤ t.size + 1) (hs : t.size ≤ 140737488351232) (w : World) : (Instr.slice 9 (.string t) (some (.int .i64 (b : Int))) (some (.int .i64 ((i : Int) - 1 + (k : Int)))) none).run Tryd.prog w = .ok (.string (t.extract b (i - 1 + k))) w := by
  have := run_slice_string (P := Tryd.prog) (w := w) 9 t .i64 .i64 (b : Int) ((i : Int) - 1 + (k : Int)) Tryd.underlying9 (by omega) (by omega) (by omega)
  rw [this]
  have e1 : ((b : Int)).toNat = b := by omega
  have e2 : ((i : Int) - 1 + (k : Int)).toNat = i - 1 + k := by omega
  rw [e1, e2]
theorem slice_to (t : ByteArray) (k : Nat) (h : k ≤ t.size) (w : World) : (Instr.slice 9 (.string t) none (some (.int .i64 (k : Int))) none).run Tryd.prog w = .ok (.string (t.extract 0 k)) w := by
  rw [run_slice_string_to_if w 9 t .i64 (k : Int) Tryd.underlying9, if_pos (by omega)]
  simp
theorem slice_from (t : ByteArray) (b : Nat) (h : b ≤ t.size) (w : World) : (Instr.slice 9 (.string t) (some (.int .i64 (b : Int))) none none).run Tryd.prog w = .ok (.string (t.extract b t.size)) w := by
  rw [run_slice_string_from_if w 9 t .i64 (b : Int) Tryd.underlying9, if_pos (by omega)]
  simp

theorem ap_size (t : ByteArray) (b x : Nat) (h : x ≤ t.size) : (t.extract b x).size ≤ t.size := by simp [ByteArray.size_extract]; omega
theorem ap_data (t : ByteArray) {b i k : Nat} (hb : b < i) : (t.extract b (i - 1 + k)).data.toList = cut t.data.toList b (i - 1 - b + k) := by
  rw [Lib.extract_data, cut]; congr 1; omega
theorem mark_of {t r : ByteArray} {i k m : Nat} (hm : m ≤ k) (h : i + k ≤ t.size) (hr : Least (Both (t.extract i (i + k)).data.toList m) r.data.toList) : r.data.toList = markL m (cut t.data.toList i k) := by
  rw [cut_extract] at hr
  exact mark_eq (by rw [cut_length (by rw [← Lib.size_eq]; exact h)]; exact hm) hr
theorem mark_of0 {t r : ByteArray} {k m : Nat} (hm : m ≤ k) (h : k ≤ t.size) (hr : Least (Both (t.extract 0 k).data.toList m) r.data.toList) : r.data.toList = markL m (cut t.data.toList 0 k) := by
  rw [cut_extract0] at hr
  exact mark_eq (by rw [cut_length (by rw [← Lib.size_eq]; omega)]; exact hm) hr
theorem str_ne {a b : ByteArray} (h : (a.toList == b.toList) = false) : ¬ a.data.toList = b.data.toList := by
  rw [Lib.toList_data, Lib.toList_data, beq_eq_false_iff_ne] at h; exact h
theorem str_eq {a b : ByteArray} (h : (a.toList == b.toList) = true) : a.data.toList = b.data.toList := by
  rw [Lib.toList_data, Lib.toList_data, beq_iff_eq] at h; exact h

set_option maxHeartbeats 2000000 in
set_option maxRecDepth 100000 in
theorem appendPieces_any (base : Nat) (l : List UInt8) (off : Nat) (v : Value) (ps : List ByteArray) (t : ByteArray) (k m : Nat) (w : World) (hk1 : 1 ≤ k) (hk : k ≤ 31) (hm1 : 1 ≤ m) (hm : m ≤ k) (hl : l.length ≤ 4000000)
    (hown : w.ownsRow base 9 1 v ps.length (scells ps)) (hbase : base ≤ w.heap.size) (hst : Stretch l off t.data.toList) (hfr : Fresh l k m off) (hps : datas ps = (R l k m off).out) :
    Calls Tryd.prog 42 #[v, .string t, .int .i64 (k : Int), .int .i64 (m : Int)] w fun e w' =>
      ∃ v' ps', e = .returned v' ∧ w'.ownsRow base 9 1 v' ps'.length (scells ps') ∧ datas ps' = (R l k m (off + t.size + 1)).out ∧ Fresh l k m (off + t.size + 1) ∧ Below base w w' := by
  have hoff := hst.fits
  rw [← Lib.size_eq] at hoff
  have hpl : ps.length ≤ off := by rw [← datas_length, hps]; exact R_len _
  have hts : t.size ≤ 140737488351232 := by omega
  obtain ⟨i0, hi, hz0, hz1, hz2⟩ := info_parts infoS
  have HST : Hid (Stretch l off t.data.toList) := hst
  have HFR : Hid (Fresh l k m off) := hfr
  have HPS : Hid (datas ps = (R l k m off).out) := hps
  clear hst hfr hps
  by_cases hsh : t.size < k
  · go_enter Tryd.func42, Tryd.ntmps42
    go_wp2
    go_ret
    have g := short_end hk1 HST.out HFR.out (by rw [← Lib.size_eq]; exact hsh)
    rw [← Lib.size_eq] at g
    exact ⟨v, ps, rfl, hown, by rw [g.1]; exact HPS.out, g.2, Below.refl _ _⟩
  · have hkt : k ≤ t.size := by omega
    have hsl0 := slice_to t k hkt
    have hz : (t.extract 0 k).size = k := by simp [ByteArray.size_extract]; omega
    go_enter Tryd.func42, Tryd.ntmps42
    go_wp2_with fail
    refine (markOf_any (t.extract 0 k) m w (by omega) (by omega)).mono ?_
    rintro e w1 ⟨r0, rfl, hr0, hb1⟩
    have HR0 : Hid (r0.data.toList = markL m (cut t.data.toList 0 k)) := mark_of0 hm hkt hr0
    have hown1 := own_later hown hb1
    have hbase1 : base ≤ w1.heap.size := Nat.le_trans hbase hb1.size
    have hbel1 : Below base w w1 := hb1.mono hbase
    clear hr0 hown hb1 hsl0 hz
    go_wp2
    go_loopw [0, 9, 10, 11] (fun v b mk i wr => ∃ (i' b' : Nat) (ps : List ByteArray) (r : ByteArray), i = .int .i64 i' ∧ b = .int .i64 b' ∧ mk = .string r ∧ Hid (r.data.toList = markL m (cut t.data.toList (i' - 1) k)) ∧ wr.ownsRow base 9 1 v ps.length (scells ps) ∧ 1 ≤ i' ∧ b' < i' ∧ i' + k ≤ t.size + 1 ∧ ps.length ≤ off + i' ∧
        Hid (Mid l t.data.toList k m off i' (datas ps) b') ∧ Below base w wr ∧ base ≤ wr.heap.size) (fun _ _ _ i _ => t.size + 1 - (intOf i).toNat)
    case atStart =>
      exact ⟨1, 0, ps, r0, rfl, rfl, rfl, HR0.out, hown1, by omega, by omega, by omega, by omega, by rw [HPS.out]; exact mid_start HST.out HFR.out (by rw [← Lib.size_eq]; omega), hbel1, hbase1⟩
    case round =>
      obtain ⟨i, b, qs, r, rfl, rfl, rfl, HR, hown, hi1, hbi, hik, hql, HM, hbel, hbs⟩ := hrel
      clear hown1 hbel1 hbase1
      have hmx : qs.length + 1 ≤ maxLen := by unfold maxLen; omega
      have hby : (qs.length + 1) * 16 ≤ 140737488355328 := by omega
      by_cases hlt : i + k ≤ t.size
      · have hsl := slice_km t i k hlt hts
        have hz : (t.extract i (i + k)).size = k := by simp [ByteArray.size_extract]; omega
        have hz2 : (t.extract i (i + k)).size ≤ 140737488351232 := by omega
        have hz3 : m ≤ (t.extract i (i + k)).size := by omega
        clear hz
        go_wp2_with fail
        refine (markOf_any (t.extract i (i + k)) m _ hz2 hz3).mono ?_
        rintro e w2 ⟨r2, rfl, hr2, hb2⟩
        have HR2 : Hid (r2.data.toList = markL m (cut t.data.toList i k)) := mark_of hm hlt hr2
        have hown2 := own_later hown hb2
        have hbs2 : base ≤ w2.heap.size := Nat.le_trans hbs hb2.size
        have hbel2 : Below base w w2 := hbel.trans (hb2.mono hbs)
        clear hr2 hown hb2 hsl hz2 hz3 hbel hbs
        cases hq : (r2.toList == r.toList) with
        | true =>
          go_wp2
          go_roundw
          case rel =>
            have hrr := str_eq hq
            exact ⟨i + 1, b, qs, r, by go_num, rfl, rfl, by rw [← hrr, Nat.add_sub_cancel]; exact HR2.out, hown2, by omega, by omega, by omega, by omega,
              mid_more hk1 HST.out HM.out (by rw [← Lib.size_eq]; exact hlt) (by rw [← HR2.out, ← HR.out]; exact hrr), hbel2, hbs2⟩
          case measure => simp [intOf]; omega
        | false =>
          have hsl2 := slice_be t b i k hbi hik hts
          have hz4 := ap_size t b (i - 1 + k) (by omega)
          go_wp2_with fail
          refine (clone_any (t.extract b (i - 1 + k)) _ (by omega)).mono ?_
          rintro e w3 ⟨rfl, hb3⟩
          have hown3 := own_later hown2 hb3
          have hbs3 : base ≤ w3.heap.size := Nat.le_trans hbs2 hb3.size
          have hbel3 : Below base w w3 := hbel2.trans (hb3.mono hbs2)
          clear hown2 hb3 hbel2 hbs2 hz4
          go_wp2_with (at_builtin; refine wpList_append_own _ rfl (.tmp 47) (.tmp 53) 22 rfl base 9 i0 (.string ByteArray.empty) 1 16 Tryd.underlying22 hi hz0 hz1 hz2 rfl (by decide) _ _ _ rfl (hown3.alloc _) ⟨w3.heap.size, 0, none⟩ 1 1 [.string (t.extract b (i - 1 + k))] rfl rfl (cell_one _ _ _) (one_str _) hmx hby (by simp; omega) ?_; intro v' w4 hown' hgrow _)
          obtain ⟨R1, R2⟩ := push_str (c := t.extract b (i - 1 + k)) hown3 hbel3 hbs3 hown' hgrow
          have hsz4 : base ≤ w4.heap.size := by have := hgrow.size; simp at this; omega
          clear hown' hgrow hown3 hbel3 hsl2
          go_wp2
          go_roundw
          case rel =>
            exact ⟨i + 1, i, qs ++ [t.extract b (i - 1 + k)], r2, by go_num, rfl, rfl, by rw [Nat.add_sub_cancel]; exact HR2.out, R1, by omega, by omega, by omega, by rw [List.length_append]; simp; omega,
              by rw [datas_snoc, ap_data t hbi]; exact mid_new hk1 HST.out HM.out (by rw [← Lib.size_eq]; exact hlt) (by rw [← HR2.out, ← HR.out]; exact str_ne hq), R2, hsz4⟩
          case measure => simp [intOf]; omega
      · have hsl3 := slice_from t b (by omega)
        have hz4 := ap_size t b t.size (Nat.le_refl _)
        go_wp2_with fail
        refine (clone_any (t.extract b t.size) _ (by omega)).mono ?_
        rintro e w3 ⟨rfl, hb3⟩
        have hown3 := own_later hown hb3
        have hbs3 : base ≤ w3.heap.size := Nat.le_trans hbs hb3.size
        have hbel3 : Below base w w3 := hbel.trans (hb3.mono hbs)
        clear hown hb3 hbel hbs hz4
        go_wp2_with (at_builtin; refine wpList_append_own _ rfl (.tmp 57) (.tmp 62) 22 rfl base 9 i0 (.string ByteArray.empty) 1 16 Tryd.underlying22 hi hz0 hz1 hz2 rfl (by decide) _ _ _ rfl (hown3.alloc _) ⟨w3.heap.size, 0, none⟩ 1 1 [.string (t.extract b t.size)] rfl rfl (cell_one _ _ _) (one_str _) hmx hby (by simp; omega) ?_; intro v' w4 hown' hgrow _)
        obtain ⟨R1, R2⟩ := push_str (c := t.extract b t.size) hown3 hbel3 hbs3 hown' hgrow
        clear hown' hgrow hown3 hbel3 hsl3
        go_wp2
        go_ret
        have g := mid_end hk1 HST.out HM.out (by rw [← Lib.size_eq]; omega)
        rw [← Lib.size_eq] at g
        exact ⟨v', qs ++ [t.extract b t.size], rfl, R1, by rw [datas_snoc, Lib.extract_to_end]; exact g.1.symm, g.2, R2⟩
end Go.Proofs.YtbjgpfhbdmcbbaaDoor.pieces
