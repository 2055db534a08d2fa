import Derived.Test.YtbjgpfhbdmcbbabGreatDoorP29
import Derived.Test.YtbjgpfhbdmcbbabGreatDoorP20

/-
  CONTRACTS of package quern on a disk that may die: plan.save, part.save, list.save.
-/
namespace Go.Proofs.YtbjgpfhbdmcbbabGreatDoor.kinds
open Go.RowKit dnamath dna diskm disk keep hex pieces files parse
set_option linter.unusedVariables false

theorem failIs_fk {aF : Addr} {Bo b : Nat} {w w' : World} (h : FailIs aF w) (hk : FK Bo b w w') (hb : 27 ≤ b) : FailIs aF w' := by
  obtain ⟨csf, Tf, fzf, af, hf1, hf2, hf3⟩ := h
  have hnb : 10 ≠ b := Nat.ne_of_lt (Nat.lt_of_lt_of_le (by decide) hb)
  exact ⟨csf, Tf, fzf, af, (hk.block _ (lt_of_block hf1) hnb (fun ⟨cs', fz', e⟩ => by rw [hf1] at e; cases e; exact absurd hf2 (by decide)) (by
    rintro ⟨cs', T', fz', e, hd⟩
    rw [hf1] at e
    cases e
    rcases hd with h | h | h | h <;> (rw [hf2] at h; exact absurd h (by decide)))).trans hf1, hf2, hf3⟩

/-- a file was saved on a disk that may die -/
structure SavedM (A : List UInt8 → DFile → Prop) (S S' : DS) (n : ByteArray) (f : DFile) (N : Nat) : Prop where
  live : Live A draftB S' N
  went : ∀ R P : List UInt8 → Prop, P n.toList → Went R P draftB S S'
  look : S'.look n = some f
  draft : findIs draftB S'.now = false
  stay : Stay S S' (fun k => k = draftB.toList ∨ k = n.toList)
  safe : S'.safe = S'.now
  steps : S'.steps = []
/-- it was cut -/
def CutM (A : List UInt8 → DFile → Prop) (S S' : DS) (n : ByteArray) (N : Nat) : Prop := ∀ R P : List UInt8 → Prop, P n.toList → Cutt A R P draftB S S' N

/-- a file is being written: Z so far; nothing of it is on the disk yet -/
structure WritingD (Bo : Nat) (w0 w : World) (b o : Nat) (cs : Array Value) (T : TypeId) (p : Nat) (n h : ByteArray) (D : DS) (Z : List UInt8) : Prop where
  file : ∃ wv, FileAt Bo w b o (fset cs o (sumL sum0 Z) Z.length wv) T p n h (sumL sum0 Z) Z.length wv Z
  disk : Disk Bo w p D
  kept : FK Bo b w0 w

theorem Write_wd {Bo : Nat} (w0 : World) (b o : Nat) (cs : Array Value) (T : TypeId) (p : Nat) (n h : ByteArray) (D : DS) (Z : List UInt8) (t : ByteArray) (w : World) (H : WritingD Bo w0 w b o cs T p n h D Z) (hZ : Z.length + t.size ≤ 60000) :
    Calls Tryz.prog 113 #[.pointer (some ⟨b, o, none⟩), .string t] w fun e w' => e = .returned .nilIface ∧ WritingD Bo w0 w' b o cs T p n h D (Z ++ t.data.toList) ∧ FK Bo b w w' := by
  obtain ⟨wv, hf⟩ := H.file
  refine (Write_any b o _ T p n h _ _ wv Z t w hf (sumL_lt _ (by decide) _) (by omega) (by omega)).mono ?_
  rintro e w' ⟨wv', rfl, h1, h2⟩
  rw [fset_fset, ← sumL_append] at h1
  have hl : Z.length + t.size = (Z ++ t.data.toList).length := by rw [List.length_append, ← Lib.size_eq]
  rw [hl] at h1
  exact ⟨rfl, ⟨⟨wv', h1⟩, h2.disk H.disk hf.notDisk, H.kept.trans (.ofWK h2)⟩, .ofWK h2⟩

theorem WritingD.below {Bo : Nat} {w0 w w' : World} {b o : Nat} {cs : Array Value} {T : TypeId} {p : Nat} {n h : ByteArray} {D : DS} {Z : List UInt8} (H : WritingD Bo w0 w b o cs T p n h D Z) (hb : Below w.heap.size w w') : WritingD Bo w0 w' b o cs T p n h D Z := by
  obtain ⟨⟨wv, hf⟩, hd, hk⟩ := H
  exact ⟨⟨wv, hf.kept (.ofBelow hb)⟩, hd.below hb, hk.trans (FK.ofKept (.ofBelow hb))⟩

theorem whole_is (Z : List UInt8) : (⟨⟨(Z ++ sealL Z.length (sumL sum0 Z)).toArray⟩, (Z ++ sealL Z.length (sumL sum0 Z)).length⟩ : DFile) = wholeF Z := by
  unfold wholeF whole
  rw [Lib.size_eq]
theorem Seal_wd {aF : Addr} {Bo : Nat} (A : List UInt8 → DFile → Prop) (w0 : World) (b o : Nat) (cs : Array Value) (T : TypeId) (p : Nat) (n h : ByteArray) (S D : DS) (i N : Nat) (Z : List UInt8) (a bb : Addr) (w : World) (H : WritingD Bo w0 w b o cs T p n h D Z) (hg : Gs w a bb) (hfa : FailIs aF w) (hb : 27 ≤ b)
    (hDr : Draft A draftB S D i ⟨ByteArray.empty, 0⟩ N) (hN : N ≤ 9000) (hZ : Z.length ≤ 60000) (hn : n.size ≠ 0) (hnd : strEq draftB n = false) (hA : A n.toList (wholeF Z)) :
    Calls Tryz.prog 114 #[.pointer (some ⟨b, o, none⟩)] w fun e w' => (∃ S' s' r', e = .returned .nilIface ∧ FileAt Bo w' b o (fset cs o s' r' (.slice none 0 0)) T p n h s' r' (.slice none 0 0) [] ∧ Disk Bo w' p S' ∧ SavedM A S S' n (wholeF Z) (N + 5) ∧ FK Bo b w0 w') ∨ (∃ v S', e = .returned v ∧ DiskErr aF w' v ∧ Disk Bo w' p S' ∧ CutM A S S' n (N + 5) ∧ FK Bo b w0 w') := by
  obtain ⟨wv, hf⟩ := H.file
  refine (Seal_m A b o _ T p n h _ _ wv Z S D i N a bb w hf hg hfa H.disk hDr hN (sumL_lt _ (by decide) _) hZ hZ hb hn hnd (by have := seal_len Z.length (sumL sum0 Z) (by omega); omega) (by rw [whole_is]; exact hA)).mono ?_
  rintro e w' (⟨⟨s', r', rfl, h1⟩, S', h2, h3, h4, h5, h6, h7, h8, h9, h10⟩ | ⟨v, S', rfl, hv, h2, h3, h4⟩)
  · rw [fset_fset] at h1
    rw [whole_is] at h5
    exact .inl ⟨S', s', r', rfl, h1, h2, ⟨h3, h4, h5, h6, h7, h8, h9⟩, H.kept.trans h10⟩
  · exact .inr ⟨v, S', rfl, hv, h2, h3, H.kept.trans h4⟩

set_option maxHeartbeats 1000000 in
set_option maxRecDepth 100000 in
theorem planSave_m {aF : Addr} {Bo : Nat} (A : List UInt8 → DFile → Prop) (b o : Nat) (cs : Array Value) (T : TypeId) (p : Nat) (n h : ByteArray) (sum wr : Nat) (wv : Value) (W : List UInt8) (S : DS) (N : Nat) (a bb : Addr) (t : ByteArray) (w : World) (H : FileAt Bo w b o cs T p n h sum wr wv W) (hg : Gs w a bb) (hb : 27 ≤ b)
    (hD : Disk Bo w p S) (hL : Live A draftB S N) (hN : N ≤ 8900) (hfa : FailIs aF w) (hA : A n.toList (wholeF (h.data.toList ++ t.data.toList))) (ht : cs[o + 6]? = some (.string t)) (hZ : h.size + t.size ≤ 60000) (hn : n.size ≠ 0) (hnd : strEq draftB n = false) :
    Calls Tryz.prog 84 #[.pointer (some ⟨b, o, none⟩)] w fun e w' => (∃ S' s' r', e = .returned .nilIface ∧ FileAt Bo w' b o (fset cs o s' r' (.slice none 0 0)) T p n h s' r' (.slice none 0 0) [] ∧ Disk Bo w' p S' ∧ SavedM A S S' n (wholeF (h.data.toList ++ t.data.toList)) (N + 9) ∧ FK Bo b w w') ∨ (∃ v S', e = .returned v ∧ DiskErr aF w' v ∧ Disk Bo w' p S' ∧ CutM A S S' n (N + 9) ∧ FK Bo b w w') := by
  have cb := Begin_m A b o cs T p n h sum wr wv W S N w H hD hL (by omega) hfa (by omega)
  have HFA : Hid (FailIs aF w ∧ A n.toList (wholeF (h.data.toList ++ t.data.toList))) := ⟨hfa, hA⟩
  have hlen : (h.data.toList).length = h.size := (Lib.size_eq h).symm
  have htl : (t.data.toList).length = t.size := (Lib.size_eq t).symm
  have HT : Hid (cs[o + 6]? = some (.string t)) := ht
  clear hfa hA H ht
  go_enter Tryz.func84, Tryz.ntmps84
  go_wp2_with fail
  refine cb.mono ?_
  rintro e w1 (⟨wv0, D, i, rfl, f1, d1, dr1, k1⟩ | ⟨v, D, rfl, hv, d1, c1, k1⟩)
  case' inr =>
    obtain ⟨eb, s, aG, hve, hvb⟩ := hv
    subst hve
    have HE : Hid (w1.heap[eb]? = some (.cells #[.int .i64 8, .string s, .iface 254 (.pointer (some aG))] 89 (0, 0)) ∧ Disk Bo w1 p D ∧ CutM A S D n (N + 9) ∧ FK Bo b w w1) := ⟨hvb, d1, fun R P _ => (c1 R P).more (fun _ h => h) (fun _ h => h) (by omega), k1⟩
    clear hvb d1 c1 k1 cb
    go_wp2
    go_ret
    exact .inr ⟨_, D, rfl, ⟨eb, s, aG, rfl, HE.out.1⟩, HE.out.2.1, HE.out.2.2.1, HE.out.2.2.2⟩
  have h1 : WritingD Bo w w1 b o cs T p n h D h.data.toList := ⟨⟨wv0, by rw [hlen]; exact f1⟩, d1, k1⟩
  have HDR : Hid (Draft A draftB S D i ⟨ByteArray.empty, 0⟩ (N + 4)) := dr1
  clear f1 d1 k1 dr1 hL
  go_upto_region 4 with fail
  have h1' := h1
  obtain ⟨wv1, hf1⟩ := h1'.file
  have hc6 : w1.cell? ⟨b, o + 6, none⟩ = some (.string t) := by rw [st_cell hf1.blk, fset_ne _ _ _ _ _ _ (by omega)]; exact HT.out
  have hg1 := h1.kept.gs hg hb
  have cw := fun W' (hW' : Still w1 W') => Write_wd w b o cs T p n h D h.data.toList t W' ⟨⟨wv1, hf1.still hW'⟩, h1.disk.still hW', h1.kept.trans (FK.ofKept (.ofStill hW'))⟩ (by rw [hlen]; omega)
  clear hf1 h1' cb
  go_region_with (go_at_call 113; go_must (refine (cw w1.drew ⟨rfl, rfl, rfl, rfl, Nat.le_add_right _ _⟩).mono ?_; rintro e w2 ⟨rfl, h2, k2⟩))
  all_goals
    have hg2 : Gs w2 a bb := k2.gs (hg1.kept (Kept.drew (Bo := 0) _)) hb
    have cs2 := Seal_wd A w b o cs T p n h S D i (N + 4) _ a bb w2 h2 hg2 (failIs_fk HFA.out.1 (h2).kept hb) hb HDR.out (by omega) (by rw [List.length_append, hlen, htl]; omega) hn hnd HFA.out.2
    clear cw hc6 hg1 hg2 h1 h2 k2 hD hg
    go_wp2_with fail
    refine cs2.mono ?_
    rintro e w3 (⟨S', s', r', rfl, h3, d3, v3, k3⟩ | ⟨v, S', rfl, hv, d3, v3, k3⟩)
    · go_wp2
      go_ret
      exact .inl ⟨S', s', r', rfl, h3, d3, v3, k3⟩
    · obtain ⟨eb, s, aG, hve, hvb⟩ := hv
      subst hve
      go_wp2
      go_ret
      exact .inr ⟨_, S', rfl, ⟨eb, s, aG, rfl, hvb⟩, d3, v3, k3⟩

set_option maxHeartbeats 2000000 in
set_option maxRecDepth 100000 in
theorem partSave_m {aF : Addr} {Bo : Nat} (A : List UInt8 → DFile → Prop) (b o : Nat) (cs : Array Value) (T : TypeId) (p : Nat) (n h : ByteArray) (sum wr : Nat) (wv : Value) (W : List UInt8) (S : DS) (N : Nat) (a bb : Addr) (v : Value) (ps : List ByteArray) (w : World) (H : FileAt Bo w b o cs T p n h sum wr wv W) (hT : T ≠ 9) (hg : Gs w a bb) (hb : 27 ≤ b)
    (hD : Disk Bo w p S) (hL : Live A draftB S N) (hN : N ≤ 8900) (hfa : FailIs aF w) (hA : A n.toList (wholeF (h.data.toList ++ unlines (bytesOf ps)))) (hr : w.ownsRow 0 9 1 v ps.length (scells ps)) (hZ : h.size + (unlines (bytesOf ps)).length ≤ 60000) (hn : n.size ≠ 0) (hnd : strEq draftB n = false) (hpl : ps.length ≤ 60000) :
    Calls Tryz.prog 120 #[.pointer (some ⟨b, o, none⟩), v] w fun e w' => (∃ S' s' r', e = .returned .nilIface ∧ FileAt Bo w' b o (fset cs o s' r' (.slice none 0 0)) T p n h s' r' (.slice none 0 0) [] ∧ Disk Bo w' p S' ∧ SavedM A S S' n (wholeF (h.data.toList ++ unlines (bytesOf ps))) (N + 9) ∧ FK Bo b w w') ∨ (∃ v S', e = .returned v ∧ DiskErr aF w' v ∧ Disk Bo w' p S' ∧ CutM A S S' n (N + 9) ∧ FK Bo b w w') := by
  have cb := Begin_m A b o cs T p n h sum wr wv W S N w H hD hL (by omega) hfa (by omega)
  have HFA : Hid (FailIs aF w ∧ A n.toList (wholeF (h.data.toList ++ unlines (bytesOf ps)))) := ⟨hfa, hA⟩
  have hlen : (h.data.toList).length = h.size := (Lib.size_eq h).symm
  have hbn : ∀ cs' fz, w.heap[b]? ≠ some (.cells cs' 9 fz) := fun cs' fz e => by rw [H.blk] at e; cases e; exact hT rfl
  have HBN : Hid (∀ cs' fz, w.heap[b]? ≠ some (.cells cs' 9 fz)) := hbn
  have HR : Hid (w.ownsRow 0 9 1 v ps.length (scells ps)) := hr
  obtain ⟨av, cv, rfl⟩ := own_slice hr
  obtain ⟨U, hU⟩ : ∃ U, U = (unlines (bytesOf ps)).length := ⟨_, rfl⟩
  have HUk : Hid (∀ k, (unlines (bytesOf (ps.take k))).length ≤ U) := fun k => by rw [hU]; exact unl_le ps k
  have hU2 : h.size + U ≤ 60000 := by rw [hU]; exact hZ
  have HU : Hid (U = (unlines (bytesOf ps)).length) := hU
  clear hfa hA H hbn hr hZ hU
  go_enter Tryz.func120, Tryz.ntmps120
  go_wp2_with fail
  refine cb.mono ?_
  rintro e w1 (⟨wv0, D, i, rfl, f1, d1, dr1, k1⟩ | ⟨v, D, rfl, hv, d1, c1, k1⟩)
  case' inr =>
    obtain ⟨eb, s, aG, hve, hvb⟩ := hv
    subst hve
    have HE : Hid (w1.heap[eb]? = some (.cells #[.int .i64 8, .string s, .iface 254 (.pointer (some aG))] 89 (0, 0)) ∧ Disk Bo w1 p D ∧ CutM A S D n (N + 9) ∧ FK Bo b w w1) := ⟨hvb, d1, fun R P _ => (c1 R P).more (fun _ h => h) (fun _ h => h) (by omega), k1⟩
    clear hvb d1 c1 k1 cb
    go_wp2
    go_ret
    exact .inr ⟨_, D, rfl, ⟨eb, s, aG, rfl, HE.out.1⟩, HE.out.2.1, HE.out.2.2.1, HE.out.2.2.2⟩
  have h1 : WritingD Bo w w1 b o cs T p n h D h.data.toList := ⟨⟨wv0, by rw [hlen]; exact f1⟩, d1, k1⟩
  have HDR : Hid (Draft A draftB S D i ⟨ByteArray.empty, 0⟩ (N + 4)) := dr1
  clear f1 d1 k1 dr1 hL
  go_upto_region 4 with fail
  clear cb
  go_wp2_with fail
  go_loopw [18] (fun i wr => ∃ k : Nat, i = .int .i64 (k : Int) ∧ k ≤ ps.length ∧ Hid (WritingD Bo w wr b o cs T p n h D (h.data.toList ++ unlines (bytesOf (ps.take k))))) (fun i _ => ps.length - (intOf i).toNat)
  case atStart => exact ⟨0, rfl, Nat.zero_le _, by show WritingD Bo _ _ _ _ _ _ _ _ _ _ _; rw [List.take_zero]; simpa [bytesOf, unlines] using h1⟩
  case round =>
    obtain ⟨k, rfl, hk, hw⟩ := hrel
    rename World => wr
    by_cases hlt : k < ps.length
    · obtain ⟨x, hx⟩ : ∃ x, ps[k]? = some x := ⟨_, List.getElem?_eq_getElem hlt⟩
      have hrow := row_fk hw.out.kept HR.out HBN.out
      rcases HR.out.2 with ⟨_, e0⟩ | ⟨g, cap, cur, e1, _⟩
      · omega
      cases e1
      have hc : wr.cell? ⟨g, k, none⟩ = some (.string x) := by
        rw [hrow.cellAt (g := g) k (by omega)]
        simp [scells, hx]
      have hb1 := HUk.out (k + 1)
      rw [unl_take hx] at hb1
      simp only [List.length_append, List.length_singleton] at hb1
      have hxs : x.data.toList.length = x.size := (Lib.size_eq x).symm
      have cw := Write_wd w b o cs T p n h D _ (x ++ ⟨#[10]⟩) wr hw.out (by rw [List.length_append, hlen]; have : (x ++ (⟨#[10]⟩ : ByteArray)).size = x.size + 1 := (by simp; rfl); omega)
      have hxl : x.size ≤ 60000 := by omega
      have HX : Hid (ps[k]? = some x) := hx
      clear hrow hx hb1
      go_wp2_with (go_at_call 113; go_must (refine cw.mono ?_; rintro e w2 ⟨rfl, h2, k2⟩))
      go_roundw
      case rel =>
        refine ⟨k + 1, by go_num, by omega, ?_⟩
        show WritingD Bo _ _ _ _ _ _ _ _ _ _ _
        rw [unl_take HX.out, ← List.append_assoc]
        have e : (x ++ (⟨#[10]⟩ : ByteArray)).data.toList = x.data.toList ++ [10] := by simp [ByteArray.data_append]
        rw [e] at h2
        exact h2
      case measure => simp [intOf]; omega
    · have hke : k = ps.length := by omega
      subst hke
      rw [List.take_length] at hw
      have hg2 := hw.out.kept.gs hg hb
      have cs2 := Seal_wd A w b o cs T p n h S D i (N + 4) _ a bb wr hw.out hg2 (failIs_fk HFA.out.1 (hw.out).kept hb) hb HDR.out (by omega) (by rw [List.length_append, hlen, ← HU.out]; omega) hn hnd HFA.out.2
      clear hg2
      go_wp2_with fail
      refine cs2.mono ?_
      rintro e w3 (⟨S', s', r', rfl, h3, d3, v3, k3⟩ | ⟨v, S', rfl, hv, d3, v3, k3⟩)
      · go_wp2
        go_ret
        exact .inl ⟨S', s', r', rfl, h3, d3, v3, k3⟩
      · obtain ⟨eb, s, aG, hve, hvb⟩ := hv
        subst hve
        go_wp2
        go_ret
        exact .inr ⟨_, S', rfl, ⟨eb, s, aG, rfl, hvb⟩, d3, v3, k3⟩

set_option maxHeartbeats 2000000 in
set_option maxRecDepth 100000 in
theorem listSave_m {aF : Addr} {Bo : Nat} (A : List UInt8 → DFile → Prop) (b o : Nat) (cs : Array Value) (T : TypeId) (p : Nat) (n h : ByteArray) (sum wr : Nat) (wv : Value) (W : List UInt8) (S : DS) (N : Nat) (a bb : Addr) (v : Value) (es : List Ent) (w : World) (H : FileAt Bo w b o cs T p n h sum wr wv W) (hT : T ≠ 58) (hg : Gs w a bb) (hb : 27 ≤ b)
    (hD : Disk Bo w p S) (hL : Live A draftB S N) (hN : N ≤ 8900) (hfa : FailIs aF w) (hA : A n.toList (wholeF (h.data.toList ++ textE es))) (hv : cs[o + 7]? = some v) (hr : Entries w v es) (hZ : h.size + (textE es).length ≤ 60000) (hn : n.size ≠ 0) (hnd : strEq draftB n = false) (hpl : es.length ≤ 60000) (hct : ∀ x ∈ es, x.2 ≤ 1000000) :
    Calls Tryz.prog 90 #[.pointer (some ⟨b, o, none⟩)] w fun e w' => (∃ S' s' r', e = .returned .nilIface ∧ FileAt Bo w' b o (fset cs o s' r' (.slice none 0 0)) T p n h s' r' (.slice none 0 0) [] ∧ Disk Bo w' p S' ∧ SavedM A S S' n (wholeF (h.data.toList ++ textE es)) (N + 9) ∧ FK Bo b w w') ∨ (∃ v S', e = .returned v ∧ DiskErr aF w' v ∧ Disk Bo w' p S' ∧ CutM A S S' n (N + 9) ∧ FK Bo b w w') := by
  have cb := Begin_m A b o cs T p n h sum wr wv W S N w H hD hL (by omega) hfa (by omega)
  have HFA : Hid (FailIs aF w ∧ A n.toList (wholeF (h.data.toList ++ textE es))) := ⟨hfa, hA⟩
  have hlen : (h.data.toList).length = h.size := (Lib.size_eq h).symm
  have HBN : Hid (∀ cs' fz, w.heap[b]? ≠ some (.cells cs' 58 fz)) := fun cs' fz e => by rw [H.blk] at e; cases e; exact hT rfl
  have HR : Hid (Entries w v es) := hr
  obtain ⟨av, cv, rfl⟩ := own_slice hr
  obtain ⟨U, hU⟩ : ∃ U, U = (textE es).length := ⟨_, rfl⟩
  have HUk : Hid (∀ k, (textE (es.take k)).length ≤ U) := fun k => by rw [hU]; exact textE_le es k
  have hU2 : h.size + U ≤ 60000 := by rw [hU]; exact hZ
  have HU : Hid (U = (textE es).length) := hU
  have HV : Hid (cs[o + 7]? = some (.slice av es.length cv)) := hv
  have HCT : Hid (∀ x ∈ es, x.2 ≤ 1000000) := hct
  clear hfa hA H hr hZ hU hv hct
  go_enter Tryz.func90, Tryz.ntmps90
  go_wp2_with fail
  refine cb.mono ?_
  rintro e w1 (⟨wv0, D, i, rfl, f1, d1, dr1, k1⟩ | ⟨v, D, rfl, hv, d1, c1, k1⟩)
  case' inr =>
    obtain ⟨eb, s, aG, hve, hvb⟩ := hv
    subst hve
    have HE : Hid (w1.heap[eb]? = some (.cells #[.int .i64 8, .string s, .iface 254 (.pointer (some aG))] 89 (0, 0)) ∧ Disk Bo w1 p D ∧ CutM A S D n (N + 9) ∧ FK Bo b w w1) := ⟨hvb, d1, fun R P _ => (c1 R P).more (fun _ h => h) (fun _ h => h) (by omega), k1⟩
    clear hvb d1 c1 k1 cb
    go_wp2
    go_ret
    exact .inr ⟨_, D, rfl, ⟨eb, s, aG, rfl, HE.out.1⟩, HE.out.2.1, HE.out.2.2.1, HE.out.2.2.2⟩
  have h1 : WritingD Bo w w1 b o cs T p n h D h.data.toList := ⟨⟨wv0, by rw [hlen]; exact f1⟩, d1, k1⟩
  have HDR : Hid (Draft A draftB S D i ⟨ByteArray.empty, 0⟩ (N + 4)) := dr1
  clear f1 d1 k1 dr1 hL
  go_upto_region 4 with fail
  obtain ⟨wv1, hf1⟩ := h1.file
  have hc7 : w1.cell? ⟨b, o + 7, none⟩ = some (.slice av es.length cv) := by rw [st_cell hf1.blk, fset_ne _ _ _ _ _ _ (by omega)]; exact HV.out
  clear cb hf1
  go_wp2_with fail
  clear hc7
  go_loopw [19] (fun i wr => ∃ k : Nat, i = .int .i64 (k : Int) ∧ k ≤ es.length ∧ Hid (WritingD Bo w wr b o cs T p n h D (h.data.toList ++ textE (es.take k)))) (fun i _ => es.length - (intOf i).toNat)
  case atStart => exact ⟨0, rfl, Nat.zero_le _, by show WritingD Bo _ _ _ _ _ _ _ _ _ _ _; rw [List.take_zero]; simpa [textE] using h1⟩
  case round =>
    obtain ⟨k, rfl, hk, hw⟩ := hrel
    rename World => wr
    by_cases hlt : k < es.length
    · obtain ⟨x, hx⟩ : ∃ x, es[k]? = some x := ⟨_, List.getElem?_eq_getElem hlt⟩
      have hrow := entries_fk hw.out.kept HR.out HBN.out
      rcases HR.out.2 with ⟨_, e0⟩ | ⟨g, cap, cur, e1, _⟩
      · omega
      cases e1
      have hc0 : wr.cell? ⟨g, k * 2, none⟩ = some (.string x.1) := by rw [hrow.cellAt (g := g) (k * 2) (by omega)]; exact ecells_at0 _ _ _ hx
      have hc1 : wr.cell? ⟨g, k * 2 + 1, none⟩ = some (.int .i64 (x.2 : Int)) := by rw [hrow.cellAt (g := g) (k * 2 + 1) (by omega)]; exact ecells_at1 _ _ _ hx
      have hb1 := HUk.out (k + 1)
      rw [textE_take hx] at hb1
      simp only [List.length_append, lineE, List.length_singleton] at hb1
      have hx2 : x.2 ≤ 1000000 := HCT.out x (List.mem_of_getElem? hx)
      have hgr : Gs wr a bb := hw.out.kept.gs hg hb
      have HX : Hid (es[k]? = some x) := hx
      obtain ⟨xw, xc⟩ := x
      have hc0 : wr.cell? ⟨g, k * 2, none⟩ = some (.string xw) := hc0
      have hc1 : wr.cell? ⟨g, k * 2 + 1, none⟩ = some (.int .i64 (xc : Int)) := hc1
      have hx2 : xc ≤ 1000000 := hx2
      have hxs : xw.data.toList.length = xw.size := (Lib.size_eq xw).symm
      obtain ⟨I, hI⟩ : ∃ I : ByteArray, I = ⟨(Lib.itoa (xc : Int)).toArray⟩ := ⟨_, rfl⟩
      have hIs : I.size = (Lib.itoa (xc : Int)).length := by rw [hI, Lib.size_eq]
      have HI : Hid (I.data.toList = Lib.itoa (xc : Int)) := by show _ = _; rw [hI]
      have ci : ∀ W', Gs W' a bb → Calls Tryz.prog 21 #[.int .i64 (xc : Int)] W' fun e w' => e = .returned (.string I) ∧ Below W'.heap.size W' w' := fun W' hg' => by
        refine (Tryz.strconv_Itoa (xc : Int) (by omega) (by omega) W' hg'.powC).mono ?_
        rintro e w' ⟨rfl, k', os, rfl⟩
        exact ⟨by rw [hI], grow_below _ _ _⟩
      have hsz1 : xw.size + I.size + 2 + (h.data.toList ++ textE (es.take k)).length ≤ 60000 := by
        rw [List.length_append, hlen]
        have hb2 : (textE (es.take k)).length + (xw.data.toList.length + 1 + (Lib.itoa (xc : Int)).length + 1) ≤ U := hb1
        omega
      clear hI hrow hx hb1
      go_upto_region 7 with fail
      obtain ⟨W5, hW5⟩ : ∃ W5, W5 = wr.alloc (.cells #[.string xw, .int .i64 (xc : Int)] 58) := ⟨_, rfl⟩
      obtain ⟨q, hq⟩ : ∃ q, q = wr.heap.size := ⟨_, rfl⟩
      have hb5 : Below wr.heap.size wr W5 := by rw [hW5]; exact (Below.refl _ _).alloc (Nat.le_refl _) _
      have hq5 : W5.heap[q]? = some (.cells #[.string xw, .int .i64 (xc : Int)] 58 (0, 0)) := by rw [hW5, hq]; exact heap_alloc_new _ _
      have s5 : Still W5 W5.drew := ⟨rfl, rfl, rfl, rfl, Nat.le_add_right _ _⟩
      have H5 : WritingD Bo w W5.drew b o cs T p n h D (h.data.toList ++ textE (es.take k)) := (hw.out.below hb5).below (s5.below _)
      have g5 : Gs W5.drew a bb := (hgr.below hb5).kept (Kept.ofStill (Bo := 0) s5)
      have hbq : q ≠ b := fun e => by
        obtain ⟨wv5, hf5⟩ := H5.file
        have e1 := hf5.blk
        rw [show W5.drew.heap[b]? = W5.heap[b]? from rfl, ← e, hq5] at e1
        simp only [Option.some.injEq, Obj.cells.injEq] at e1
        exact hT e1.2.1.symm
      have hql : q < W5.drew.heap.size := lt_of_block hq5
      have AB : Hid (∀ W1 : World, Below W5.drew.heap.size W5.drew W1 → W1.heap[q]? = some (.cells #[.string xw, .int .i64 (xc : Int)] 58 (0, 0))) := fun W1 hk => (hk.block q hql).trans hq5
      have AK : Hid (∀ W1 : World, W1.heap[q]? = some (.cells #[.string xw, .int .i64 (xc : Int)] 58 (0, 0)) → W1.cell? ⟨q, 0, none⟩ = some (.string xw) ∧ W1.cell? ⟨q, 1, none⟩ = some (.int .i64 (xc : Int))) := fun W1 e => ⟨st_cell e 0, st_cell e 1⟩
      have AF : Hid (∀ W1 W2 : World, W1.heap[q]? = some (.cells #[.string xw, .int .i64 (xc : Int)] 58 (0, 0)) → FK Bo b W1 W2 → W2.heap[q]? = some (.cells #[.string xw, .int .i64 (xc : Int)] 58 (0, 0))) := fun W1 W2 e hk =>
        (hk.block q (lt_of_block e) hbq (fun ⟨cs', fz', e'⟩ => by rw [e] at e'; cases e') (by
          rintro ⟨cs', T', fz', e', hd⟩
          rw [e] at e'
          cases e'
          rcases hd with h | h | h | h <;> exact absurd h (by decide))).trans e
      have cwr : ∀ W', Below W5.drew.heap.size W5.drew W' → Calls Tryz.prog 113 #[.pointer (some ⟨b, o, none⟩), .string (xw ++ (⟨#[32]⟩ : ByteArray) ++ I ++ (⟨#[10]⟩ : ByteArray))] W' fun e w' => e = .returned .nilIface ∧ WritingD Bo w w' b o cs T p n h D (h.data.toList ++ textE (es.take (k + 1))) ∧ FK Bo b W' w' := fun W' hW' => by
        have hsz2 : (xw ++ (⟨#[32]⟩ : ByteArray) ++ I ++ (⟨#[10]⟩ : ByteArray)).size = xw.size + I.size + 2 := by
          rw [ByteArray.size_append, ByteArray.size_append, ByteArray.size_append]
          show xw.size + 1 + I.size + 1 = _
          omega
        have := Write_wd w b o cs T p n h D _ (xw ++ (⟨#[32]⟩ : ByteArray) ++ I ++ (⟨#[10]⟩ : ByteArray)) W' (H5.below hW') (by rw [hsz2]; omega)
        have ed : (xw ++ (⟨#[32]⟩ : ByteArray) ++ I ++ (⟨#[10]⟩ : ByteArray)).data.toList = lineE (xw, xc) := by
          simp [ByteArray.data_append, HI.out, lineE]
        rw [ed, List.append_assoc, ← textE_take HX.out] at this
        exact this
      have hxl : xw.size ≤ 60000 := by omega
      have hIl : I.size ≤ 60000 := by omega
      have ad1 : ∀ W' : World, (Op.stringOp .add xw (⟨#[32]⟩ : ByteArray)).run Tryz.prog W' = .ok (.string (xw ++ (⟨#[32]⟩ : ByteArray))) W' := fun W' => run_string_add_sum W' xw _ (by show xw.size + 1 ≤ _; omega)
      have ad2 : ∀ W' : World, (Op.stringOp .add (xw ++ (⟨#[32]⟩ : ByteArray)) I).run Tryz.prog W' = .ok (.string (xw ++ (⟨#[32]⟩ : ByteArray) ++ I)) W' := fun W' => run_string_add_sum W' _ _ (by rw [ByteArray.size_append]; show xw.size + 1 + I.size ≤ _; omega)
      have ad3 : ∀ W' : World, (Op.stringOp .add (xw ++ (⟨#[32]⟩ : ByteArray) ++ I) (⟨#[10]⟩ : ByteArray)).run Tryz.prog W' = .ok (.string (xw ++ (⟨#[32]⟩ : ByteArray) ++ I ++ (⟨#[10]⟩ : ByteArray))) W' := fun W' => run_string_add_sum W' _ _ (by rw [ByteArray.size_append, ByteArray.size_append]; show xw.size + 1 + I.size + 1 ≤ _; omega)
      rw [← hW5, ← hq]
      have c5 := AK.out W5.drew hq5
      clear hW5 hq hb5 hc0 hc1 H5 hgr hsz1 hIs hxs hbq
      go_region_held3 (fun w' => w'.cell? ⟨q, 0, none⟩ = some (.string xw) ∧ w'.cell? ⟨q, 1, none⟩ = some (.int .i64 (xc : Int))) (first | exact c5 | exact AK.out _ (AB.out _ b6) | exact AK.out _ (AF.out _ _ (AB.out _ b6) k7)) (first | (go_at_call 21; refine (ci _ ?_).mono ?_; (exact g5); rintro e w6 ⟨rfl, b6⟩) | (go_at_call 113; refine (cwr _ ?_).mono ?_; (exact b6); rintro e w7 ⟨rfl, h7, k7⟩))
      all_goals
        clear AK AB AF cwr ci c5 hq5 g5 s5 hql ad1 ad2 ad3
        go_wp2
        go_roundw
        case rel => exact ⟨k + 1, by go_num, by omega, h7⟩
        case measure => simp [intOf]; omega
    · have hke : k = es.length := by omega
      subst hke
      rw [List.take_length] at hw
      have hg2 := hw.out.kept.gs hg hb
      have cs2 := Seal_wd A w b o cs T p n h S D i (N + 4) _ a bb wr hw.out hg2 (failIs_fk HFA.out.1 (hw.out).kept hb) hb HDR.out (by omega) (by rw [List.length_append, hlen, ← HU.out]; omega) hn hnd HFA.out.2
      clear hg2
      go_wp2_with fail
      refine cs2.mono ?_
      rintro e w3 (⟨S', s', r', rfl, h3, d3, v3, k3⟩ | ⟨v, S', rfl, hv, d3, v3, k3⟩)
      · go_wp2
        go_ret
        exact .inl ⟨S', s', r', rfl, h3, d3, v3, k3⟩
      · obtain ⟨eb, s, aG, hve, hvb⟩ := hv
        subst hve
        go_wp2
        go_ret
        exact .inr ⟨_, S', rfl, ⟨eb, s, aG, rfl, hvb⟩, d3, v3, k3⟩
end Go.Proofs.YtbjgpfhbdmcbbabGreatDoor.kinds
