import Derived.Test.YtbjgpfhbdmcbbabGreatDoorP08
import Derived.Test.YtbjgpfhbdmcbbabGreatDoorP11
import Derived.Test.YtbjgpfhbdmcbbabGreatDoorP13
import Derived.Deep.RegionHeld3
import Derived.Test.YtbjgpfhbdmcbbabGreatDoorP12
import Derived.Shelf.Strings.Builder1
import Derived.Shelf.Small.Strs
import Derived.Shelf.Small.Wraps
import Derived.Shelf.Strings.BuilderF
import Derived.Shelf.Strings.BuilderK
import Derived.Shelf.Strconv.Atoi
import Derived.Shelf.Strconv.Itoa0
import Derived.Shelf.Strconv.Itoa1
import Derived.Shelf.LaysM
import Derived.Shelf.Strconv.Itoa2
import Derived.Shelf.Strconv.Itoa3
import Derived.Shelf.Strings.Search1
import Derived.Shelf.Strings.Search2
import Derived.Shelf.Strings.Search3
import Derived.Shelf.Strings.Cut
import Derived.Shelf.Strings.Count
import Derived.Shelf.Strings.Shaped
import Derived.Shelf.Sort.Plain
import Derived.Shelf.Strings.LastIndex
import Derived.Shelf.Strings.LastIndexAll
import Derived.Shelf.Strings.Prefix
import Derived.Shelf.Strings.Split
import Derived.Shelf.Strings.SplitShaped
import Derived.Shelf.Unicode.DecodeSlow
import Derived.Shelf.Slices.In.SortNone
import Derived.Test.YtbjgpfhbdmcbbabGreatDoorProg
import Derived.Shelf.Strings.SplitCore
import Derived.Test.YtbjgpfhbdmcbbabGreatDoorP10

/-
  CONTRACTS of package quern: a file is written: plan.save, part.save.
-/
namespace Go.Proofs.YtbjgpfhbdmcbbabGreatDoor.kinds
open Go.RowKit dnamath dna diskm disk keep hex pieces files
set_option linter.unusedVariables false

abbrev sum0 : Nat := 14695981039346656037
/-- a file is being written: Z so far; nothing of it is on the disk yet -/
structure Writing (Bo : Nat) (w0 w : World) (b o : Nat) (cs : Array Value) (T : TypeId) (p : Nat) (n h : ByteArray) (S : DS) (Z : List UInt8) : Prop where
  file : ∃ wv, FileAt Bo w b o (fset cs o (sumL sum0 Z) Z.length wv) T p n h (sumL sum0 Z) Z.length wv Z
  disk : Disk Bo w p (S.create draftB).2
  kept : FK Bo b w0 w

/-- what a whole file holds -/
def whole (Z : List UInt8) : ByteArray := ⟨(Z ++ sealL Z.length (sumL sum0 Z)).toArray⟩
theorem whole_size (Z : List UInt8) (h : Z.length ≤ 1000000) : (whole Z).size ≤ Z.length + 40 := by
  rw [Lib.size_eq]
  show (Z ++ sealL Z.length (sumL sum0 Z)).length ≤ _
  rw [List.length_append]
  have := seal_len Z.length (sumL sum0 Z) (by omega)
  omega

/-- a disk with room, in order -/
structure Roomy (S : DS) (N : Nat) : Prop where
  good : files.Good S N
  cap : S.cap = 1152921504606846976
  bytes : S.bytes ≤ 100000000000
  draft : findIs draftB S.now = false

theorem Begin_w {Bo : Nat} (b o : Nat) (cs : Array Value) (T : TypeId) (p : Nat) (n h : ByteArray) (sum wr : Nat) (wv : Value) (W : List UInt8) (S : DS) (N : Nat) (w : World) (H : FileAt Bo w b o cs T p n h sum wr wv W)
    (hD : Disk Bo w p S) (hS : Roomy S N) (hN : N ≤ 5000) (hh : h.size ≤ 60000) :
    Calls Tryz.prog 112 #[.pointer (some ⟨b, o, none⟩)] w fun e w' => e = .returned .nilIface ∧ Writing Bo w w' b o cs T p n h S h.data.toList := by
  refine (Begin_any b o cs T p n h sum wr wv W S N w H hD hS.good.ok (by omega) hS.good.fine (DS.look_none hS.draft) hS.draft hh).mono ?_
  rintro e w' ⟨wv', rfl, h1, h2, h3⟩
  refine ⟨rfl, ⟨wv', ?_⟩, h2, h3⟩
  rw [← Lib.size_eq]
  exact h1

theorem Write_w {Bo : Nat} (w0 : World) (b o : Nat) (cs : Array Value) (T : TypeId) (p : Nat) (n h : ByteArray) (S : DS) (Z : List UInt8) (t : ByteArray) (w : World) (H : Writing Bo w0 w b o cs T p n h S Z) (hZ : Z.length + t.size ≤ 60000) :
    Calls Tryz.prog 113 #[.pointer (some ⟨b, o, none⟩), .string t] w fun e w' => e = .returned .nilIface ∧ Writing Bo w0 w' b o cs T p n h S (Z ++ t.data.toList) ∧ FK Bo b w w' := by
  obtain ⟨wv, hf⟩ := H.file
  refine (Write_any b o _ T p n h _ _ wv Z t w hf (sumL_lt _ (by decide) _) (by omega) (by omega)).mono ?_
  rintro e w' ⟨wv', rfl, h1, h2⟩
  rw [fset_fset, ← sumL_append] at h1
  have hl : Z.length + t.size = (Z ++ t.data.toList).length := by rw [List.length_append, ← Lib.size_eq]
  rw [hl] at h1
  exact ⟨rfl, ⟨⟨wv', h1⟩, h2.disk H.disk hf.notDisk, H.kept.trans (.ofWK h2)⟩, .ofWK h2⟩

theorem Seal_w {Bo : Nat} (w0 : World) (b o : Nat) (cs : Array Value) (T : TypeId) (p : Nat) (n h : ByteArray) (S : DS) (N : Nat) (Z : List UInt8) (a bb : Addr) (w : World) (H : Writing Bo w0 w b o cs T p n h S Z) (hg : Gs w a bb)
    (hS : Roomy S N) (hN : N ≤ 5000) (hZ : Z.length ≤ 60000) (hn : n.size ≠ 0) (hnd : strEq draftB n = false) :
    Calls Tryz.prog 114 #[.pointer (some ⟨b, o, none⟩)] w fun e w' => ∃ S' s' r', e = .returned .nilIface ∧ FileAt Bo w' b o (fset cs o s' r' (.slice none 0 0)) T p n h s' r' (.slice none 0 0) [] ∧ Disk Bo w' p S' ∧ Saved S S' N draftB n (whole Z) ∧ FK Bo b w0 w' ∧ FK Bo b w w' := by
  obtain ⟨wv, hf⟩ := H.file
  have hsz := whole_size Z (by omega)
  obtain ⟨sv, c1, c2, c3, c4, c5, c6, c7⟩ := saved_of (X := whole Z) hS.good.fine hS.good.ok hS.good.sorted hS.good.named hS.draft (by decide) hn hnd (by rw [hS.cap]; have := hS.bytes; omega)
  refine (Seal_any b o _ T p n h _ _ wv Z (S.create draftB).2 (N + 1) a bb w hf hg H.disk c2 (by omega) c1 c3 c4 (sumL_lt _ (by decide) _) hZ hZ (by rw [c5]; have := hS.bytes; omega) (by rw [c6]; exact hS.cap) (by rw [c7]; omega) hn hnd (by have := seal_len Z.length (sumL sum0 Z) (by omega); omega)).mono ?_
  rintro e w' ⟨s', r', rfl, h1, h2, h3⟩
  rw [fset_fset] at h1
  exact ⟨_, s', r', rfl, h1, h2, sv, H.kept.trans h3, h3⟩

theorem saved_roomy {S S' : DS} {N : Nat} {n X : ByteArray} (h : Saved S S' N draftB n X) (hS : Roomy S N) (hX : X.size ≤ 100000) (hnd : strEq draftB n = false) (hB : S.bytes ≤ 90000000000) : Roomy S' (N + 2) := by
  refine ⟨⟨h.fine, h.ok, h.sorted, h.named, h.sane hS.good.sane (by omega)⟩, by rw [h.cap]; exact hS.cap, ?_, ?_⟩
  · have := h.bytes_le hS.good.ok; omega
  · cases hf : findIs draftB S'.now with
    | false => rfl
    | true =>
      obtain ⟨x, hx, e⟩ := (find_iff h.sorted).1 hf
      rcases (h.mem x).1 hx with rfl | ⟨h1, _⟩
      · have : strEq draftB n = true := (strEq_iff _ _).2 e.symm
        rw [hnd] at this; cases this
      · have := (find_iff (n := draftB) hS.good.sorted).2 ⟨x, h1, e⟩
        rw [hS.draft] at this; cases this

set_option maxHeartbeats 1000000 in
set_option maxRecDepth 100000 in
theorem planSave {Bo : Nat} (b o : Nat) (cs : Array Value) (T : TypeId) (p : Nat) (n h : ByteArray) (sum wr : Nat) (wv : Value) (W : List UInt8) (S : DS) (N : Nat) (a bb : Addr) (t : ByteArray) (w : World) (H : FileAt Bo w b o cs T p n h sum wr wv W) (hg : Gs w a bb) (hb : 27 ≤ b)
    (hD : Disk Bo w p S) (hS : Roomy S N) (hN : N ≤ 5000) (ht : cs[o + 6]? = some (.string t)) (hZ : h.size + t.size ≤ 60000) (hn : n.size ≠ 0) (hnd : strEq draftB n = false) :
    Calls Tryz.prog 84 #[.pointer (some ⟨b, o, none⟩)] w fun e w' => ∃ S' s' r', e = .returned .nilIface ∧ FileAt Bo w' b o (fset cs o s' r' (.slice none 0 0)) T p n h s' r' (.slice none 0 0) [] ∧ Disk Bo w' p S' ∧ Saved S S' N draftB n (whole (h.data.toList ++ t.data.toList)) ∧ FK Bo b w w' := by
  have cb := Begin_w b o cs T p n h sum wr wv W S N w H hD hS hN (by omega)
  have hlen : (h.data.toList).length = h.size := (Lib.size_eq h).symm
  have htl : (t.data.toList).length = t.size := (Lib.size_eq t).symm
  have HT : Hid (cs[o + 6]? = some (.string t)) := ht
  clear H ht
  go_enter Tryz.func84, Tryz.ntmps84
  go_upto_region 4 with (go_at_call 112; go_must (refine cb.mono ?_; rintro e w1 ⟨rfl, h1⟩))
  have h1' := h1
  obtain ⟨wv1, hf1⟩ := h1'.file
  have hc6 : w1.cell? ⟨b, o + 6, none⟩ = some (.string t) := by rw [st_cell hf1.blk, fset_ne _ _ _ _ _ _ (by omega)]; exact HT.out
  have hg1 := h1.kept.gs hg hb
  have cw := fun W' (hW' : Still w1 W') => Write_w w b o cs T p n h S h.data.toList t W' ⟨⟨wv1, hf1.still hW'⟩, h1.disk.still hW', h1.kept.trans (FK.ofKept (.ofStill hW'))⟩ (by rw [hlen]; omega)
  clear hf1 h1' cb
  go_region_with (go_at_call 113; go_must (refine (cw w1.drew ⟨rfl, rfl, rfl, rfl, Nat.le_add_right _ _⟩).mono ?_; rintro e w2 ⟨rfl, h2, k2⟩))
  all_goals
    have hg2 : Gs w2 a bb := k2.gs (hg1.kept (Kept.drew (Bo := 0) _)) hb
    have cs2 := Seal_w w b o cs T p n h S N _ a bb w2 h2 hg2 hS hN (by rw [List.length_append, hlen, htl]; omega) hn hnd
    clear cw hc6 hg1 hg2 h1 h2 k2 hS hD hg
    go_wp2_with (go_at_call 114; go_must (refine cs2.mono ?_; rintro e w3 ⟨S', s', r', rfl, h3, d3, v3, k3, k4⟩))
    go_ret
    exact ⟨S', s', r', rfl, h3, d3, v3, k3⟩
end Go.Proofs.YtbjgpfhbdmcbbabGreatDoor.kinds

/-
  CONTRACTS of package quern: part.save, headOf, leftovers.
-/
namespace Go.Proofs.YtbjgpfhbdmcbbabGreatDoor.kinds
open Go.RowKit dnamath dna diskm disk keep hex pieces files parse
set_option linter.unusedVariables false

def bytesOf (ps : List ByteArray) : List (List UInt8) := ps.map (fun x => x.data.toList)
theorem unl_take {ps : List ByteArray} {k : Nat} {x : ByteArray} (h : ps[k]? = some x) : unlines (bytesOf (ps.take (k + 1))) = unlines (bytesOf (ps.take k)) ++ (x.data.toList ++ [10]) := by
  rw [List.take_add_one, h]
  simp [bytesOf, unlines]
theorem unl_le (ps : List ByteArray) (k : Nat) : (unlines (bytesOf (ps.take k))).length ≤ (unlines (bytesOf ps)).length := by
  have e : unlines (bytesOf ps) = unlines (bytesOf (ps.take k)) ++ unlines (bytesOf (ps.drop k)) := by
    rw [← unlines_append]
    unfold bytesOf
    rw [← List.map_append, List.take_append_drop]
  rw [e, List.length_append]
  omega

theorem row_fk {Bo : Nat} {b : Nat} {w w' : World} {v : Value} {m : Nat} {xs : List Value} (hk : FK Bo b w w') (h : w.ownsRow 0 9 1 v m xs) (hb : ∀ cs fz, w.heap[b]? ≠ some (.cells cs 9 fz)) : w'.ownsRow 0 9 1 v m xs :=
  row_keep h (fun k cs fz e => hk.block k (lt_of_block e) (fun e2 => by subst e2; exact hb _ _ e) (fun ⟨cs', fz', e'⟩ => by rw [e] at e'; cases e') (by
    rintro ⟨cs', T', fz', e', hd⟩
    rw [e] at e'
    cases e'
    rcases hd with h | h | h | h <;> exact absurd h (by decide)))

set_option maxHeartbeats 2000000 in
set_option maxRecDepth 100000 in
theorem partSave {Bo : Nat} (b o : Nat) (cs : Array Value) (T : TypeId) (p : Nat) (n h : ByteArray) (sum wr : Nat) (wv : Value) (W : List UInt8) (S : DS) (N : Nat) (a bb : Addr) (v : Value) (ps : List ByteArray) (w : World) (H : FileAt Bo w b o cs T p n h sum wr wv W) (hT : T ≠ 9) (hg : Gs w a bb) (hb : 27 ≤ b)
    (hD : Disk Bo w p S) (hS : Roomy S N) (hN : N ≤ 5000) (hr : w.ownsRow 0 9 1 v ps.length (scells ps)) (hZ : h.size + (unlines (bytesOf ps)).length ≤ 60000) (hn : n.size ≠ 0) (hnd : strEq draftB n = false) (hpl : ps.length ≤ 60000) :
    Calls Tryz.prog 120 #[.pointer (some ⟨b, o, none⟩), v] w fun e w' => ∃ S' s' r', e = .returned .nilIface ∧ FileAt Bo w' b o (fset cs o s' r' (.slice none 0 0)) T p n h s' r' (.slice none 0 0) [] ∧ Disk Bo w' p S' ∧ Saved S S' N draftB n (whole (h.data.toList ++ unlines (bytesOf ps))) ∧ FK Bo b w w' := by
  have cb := Begin_w b o cs T p n h sum wr wv W S N w H hD hS hN (by omega)
  have hlen : (h.data.toList).length = h.size := (Lib.size_eq h).symm
  have hbn : ∀ cs' fz, w.heap[b]? ≠ some (.cells cs' 9 fz) := fun cs' fz e => by rw [H.blk] at e; cases e; exact hT rfl
  have HBN : Hid (∀ cs' fz, w.heap[b]? ≠ some (.cells cs' 9 fz)) := hbn
  have HR : Hid (w.ownsRow 0 9 1 v ps.length (scells ps)) := hr
  obtain ⟨av, cv, rfl⟩ := own_slice hr
  obtain ⟨U, hU⟩ : ∃ U, U = (unlines (bytesOf ps)).length := ⟨_, rfl⟩
  have HUk : Hid (∀ k, (unlines (bytesOf (ps.take k))).length ≤ U) := fun k => by rw [hU]; exact unl_le ps k
  have hU2 : h.size + U ≤ 60000 := by rw [hU]; exact hZ
  have HU : Hid (U = (unlines (bytesOf ps)).length) := hU
  clear H hbn hr hZ hU
  go_enter Tryz.func120, Tryz.ntmps120
  go_upto_region 4 with (go_at_call 112; go_must (refine cb.mono ?_; rintro e w1 ⟨rfl, h1⟩))
  clear cb
  go_wp2_with fail
  go_loopw [18] (fun i wr => ∃ k : Nat, i = .int .i64 (k : Int) ∧ k ≤ ps.length ∧ Hid (Writing Bo w wr b o cs T p n h S (h.data.toList ++ unlines (bytesOf (ps.take k))))) (fun i _ => ps.length - (intOf i).toNat)
  case atStart => exact ⟨0, rfl, Nat.zero_le _, by show Writing Bo _ _ _ _ _ _ _ _ _ _ _; rw [List.take_zero]; simpa [bytesOf, unlines] using h1⟩
  case round =>
    obtain ⟨k, rfl, hk, hw⟩ := hrel
    rename World => wr
    by_cases hlt : k < ps.length
    · obtain ⟨x, hx⟩ : ∃ x, ps[k]? = some x := ⟨_, List.getElem?_eq_getElem hlt⟩
      have hrow := row_fk hw.out.kept HR.out HBN.out
      rcases HR.out.2 with ⟨_, e0⟩ | ⟨g, cap, cur, e1, _⟩
      · omega
      cases e1
      have hc : wr.cell? ⟨g, k, none⟩ = some (.string x) := by
        rw [hrow.cellAt (g := g) k (by omega)]
        simp [scells, hx]
      have hb1 := HUk.out (k + 1)
      rw [unl_take hx] at hb1
      simp only [List.length_append, List.length_singleton] at hb1
      have hxs : x.data.toList.length = x.size := (Lib.size_eq x).symm
      have cw := Write_w w b o cs T p n h S _ (x ++ ⟨#[10]⟩) wr hw.out (by rw [List.length_append, hlen]; have : (x ++ (⟨#[10]⟩ : ByteArray)).size = x.size + 1 := (by simp; rfl); omega)
      have hxl : x.size ≤ 60000 := by omega
      have HX : Hid (ps[k]? = some x) := hx
      clear hrow hx hb1
      go_wp2_with (go_at_call 113; go_must (refine cw.mono ?_; rintro e w2 ⟨rfl, h2, k2⟩))
      go_roundw
      case rel =>
        refine ⟨k + 1, by go_num, by omega, ?_⟩
        show Writing Bo _ _ _ _ _ _ _ _ _ _ _
        rw [unl_take HX.out, ← List.append_assoc]
        have e : (x ++ (⟨#[10]⟩ : ByteArray)).data.toList = x.data.toList ++ [10] := by simp [ByteArray.data_append]
        rw [e] at h2
        exact h2
      case measure => simp [intOf]; omega
    · have hke : k = ps.length := by omega
      subst hke
      rw [List.take_length] at hw
      have hg2 := hw.out.kept.gs hg hb
      have cs2 := Seal_w w b o cs T p n h S N _ a bb wr hw.out hg2 hS hN (by rw [List.length_append, hlen, ← HU.out]; omega) hn hnd
      clear hg2
      go_wp2_with (go_at_call 114; go_must (refine cs2.mono ?_; rintro e w3 ⟨S', s', r', rfl, h3, d3, v3, k3, k4⟩))
      go_ret
      exact ⟨S', s', r', rfl, h3, d3, v3, k3⟩
end Go.Proofs.YtbjgpfhbdmcbbabGreatDoor.kinds

/-
  CONTRACTS of package quern: list.save.
-/
namespace Go.Proofs.YtbjgpfhbdmcbbabGreatDoor.kinds
open Go.RowKit dnamath dna diskm disk keep hex pieces files parse
set_option linter.unusedVariables false

abbrev Ent := ByteArray × Nat
def ecell (x : Ent) : List Value := [.string x.1, .int .i64 (x.2 : Int)]
def ecells (l : List Ent) : List Value := l.flatMap ecell
theorem ecells_append (a b : List Ent) : ecells (a ++ b) = ecells a ++ ecells b := by simp [ecells]
theorem ecells_at0 : ∀ (l : List Ent) (i : Nat) (x : Ent), l[i]? = some x → (ecells l)[i * 2]? = some (.string x.1)
  | [], _, _, h => by simp at h
  | y :: l, 0, x, h => by simp at h; subst h; rfl
  | y :: l, i + 1, x, h => by
    have := ecells_at0 l i x (by simpa using h)
    rw [ecells, List.flatMap_cons, show (i + 1) * 2 = i * 2 + 2 by omega]
    simpa [ecell, ecells] using this
theorem ecells_at1 : ∀ (l : List Ent) (i : Nat) (x : Ent), l[i]? = some x → (ecells l)[i * 2 + 1]? = some (.int .i64 (x.2 : Int))
  | [], _, _, h => by simp at h
  | y :: l, 0, x, h => by simp at h; subst h; rfl
  | y :: l, i + 1, x, h => by
    have := ecells_at1 l i x (by simpa using h)
    rw [ecells, List.flatMap_cons, show (i + 1) * 2 + 1 = i * 2 + 1 + 2 by omega]
    simpa [ecell, ecells] using this
abbrev Entries (w : World) (v : Value) (l : List Ent) : Prop := w.ownsRow 0 58 2 v l.length (ecells l)

def lineE (x : Ent) : List UInt8 := x.1.data.toList ++ [32] ++ Lib.itoa (x.2 : Int) ++ [10]
def textE (l : List Ent) : List UInt8 := (l.map lineE).flatten
theorem textE_take {es : List Ent} {k : Nat} {x : Ent} (h : es[k]? = some x) : textE (es.take (k + 1)) = textE (es.take k) ++ lineE x := by
  rw [List.take_add_one, h]
  simp [textE]
theorem textE_le (es : List Ent) (k : Nat) : (textE (es.take k)).length ≤ (textE es).length := by
  have e : textE es = textE (es.take k) ++ textE (es.drop k) := by
    unfold textE
    rw [← List.flatten_append, ← List.map_append, List.take_append_drop]
  rw [e, List.length_append]
  omega

theorem entries_fk {Bo : Nat} {b : Nat} {w w' : World} {v : Value} {l : List Ent} (hk : FK Bo b w w') (h : Entries w v l) (hb : ∀ cs fz, w.heap[b]? ≠ some (.cells cs 58 fz)) : Entries w' v l :=
  row_keep h (fun k cs fz e => hk.block k (lt_of_block e) (fun e2 => by subst e2; exact hb _ _ e) (fun ⟨cs', fz', e'⟩ => by rw [e] at e'; cases e') (by
    rintro ⟨cs', T', fz', e', hd⟩
    rw [e] at e'
    cases e'
    rcases hd with h | h | h | h <;> exact absurd h (by decide)))

theorem Writing.below {Bo : Nat} {w0 w w' : World} {b o : Nat} {cs : Array Value} {T : TypeId} {p : Nat} {n h : ByteArray} {S : DS} {Z : List UInt8} (H : Writing Bo w0 w b o cs T p n h S Z) (hb : Below w.heap.size w w') : Writing Bo w0 w' b o cs T p n h S Z := by
  obtain ⟨⟨wv, hf⟩, hd, hk⟩ := H
  exact ⟨⟨wv, hf.kept (.ofBelow hb)⟩, hd.below hb, hk.trans (FK.ofKept (.ofBelow hb))⟩

set_option maxHeartbeats 2000000 in
set_option maxRecDepth 100000 in
theorem listSave {Bo : Nat} (b o : Nat) (cs : Array Value) (T : TypeId) (p : Nat) (n h : ByteArray) (sum wr : Nat) (wv : Value) (W : List UInt8) (S : DS) (N : Nat) (a bb : Addr) (v : Value) (es : List Ent) (w : World) (H : FileAt Bo w b o cs T p n h sum wr wv W) (hT : T ≠ 58) (hg : Gs w a bb) (hb : 27 ≤ b)
    (hD : Disk Bo w p S) (hS : Roomy S N) (hN : N ≤ 5000) (hv : cs[o + 7]? = some v) (hr : Entries w v es) (hZ : h.size + (textE es).length ≤ 60000) (hn : n.size ≠ 0) (hnd : strEq draftB n = false) (hpl : es.length ≤ 60000) (hct : ∀ x ∈ es, x.2 ≤ 1000000) :
    Calls Tryz.prog 90 #[.pointer (some ⟨b, o, none⟩)] w fun e w' => ∃ S' s' r', e = .returned .nilIface ∧ FileAt Bo w' b o (fset cs o s' r' (.slice none 0 0)) T p n h s' r' (.slice none 0 0) [] ∧ Disk Bo w' p S' ∧ Saved S S' N draftB n (whole (h.data.toList ++ textE es)) ∧ FK Bo b w w' := by
  have cb := Begin_w b o cs T p n h sum wr wv W S N w H hD hS hN (by omega)
  have hlen : (h.data.toList).length = h.size := (Lib.size_eq h).symm
  have HBN : Hid (∀ cs' fz, w.heap[b]? ≠ some (.cells cs' 58 fz)) := fun cs' fz e => by rw [H.blk] at e; cases e; exact hT rfl
  have HR : Hid (Entries w v es) := hr
  obtain ⟨av, cv, rfl⟩ := own_slice hr
  obtain ⟨U, hU⟩ : ∃ U, U = (textE es).length := ⟨_, rfl⟩
  have HUk : Hid (∀ k, (textE (es.take k)).length ≤ U) := fun k => by rw [hU]; exact textE_le es k
  have hU2 : h.size + U ≤ 60000 := by rw [hU]; exact hZ
  have HU : Hid (U = (textE es).length) := hU
  have HV : Hid (cs[o + 7]? = some (.slice av es.length cv)) := hv
  have HCT : Hid (∀ x ∈ es, x.2 ≤ 1000000) := hct
  clear H hr hZ hU hv hct
  go_enter Tryz.func90, Tryz.ntmps90
  go_upto_region 4 with (go_at_call 112; go_must (refine cb.mono ?_; rintro e w1 ⟨rfl, h1⟩))
  obtain ⟨wv1, hf1⟩ := h1.file
  have hc7 : w1.cell? ⟨b, o + 7, none⟩ = some (.slice av es.length cv) := by rw [st_cell hf1.blk, fset_ne _ _ _ _ _ _ (by omega)]; exact HV.out
  clear cb hf1
  go_wp2_with fail
  clear hc7
  go_loopw [19] (fun i wr => ∃ k : Nat, i = .int .i64 (k : Int) ∧ k ≤ es.length ∧ Hid (Writing Bo w wr b o cs T p n h S (h.data.toList ++ textE (es.take k)))) (fun i _ => es.length - (intOf i).toNat)
  case atStart => exact ⟨0, rfl, Nat.zero_le _, by show Writing Bo _ _ _ _ _ _ _ _ _ _ _; rw [List.take_zero]; simpa [textE] using h1⟩
  case round =>
    obtain ⟨k, rfl, hk, hw⟩ := hrel
    rename World => wr
    by_cases hlt : k < es.length
    · obtain ⟨x, hx⟩ : ∃ x, es[k]? = some x := ⟨_, List.getElem?_eq_getElem hlt⟩
      have hrow := entries_fk hw.out.kept HR.out HBN.out
      rcases HR.out.2 with ⟨_, e0⟩ | ⟨g, cap, cur, e1, _⟩
      · omega
      cases e1
      have hc0 : wr.cell? ⟨g, k * 2, none⟩ = some (.string x.1) := by rw [hrow.cellAt (g := g) (k * 2) (by omega)]; exact ecells_at0 _ _ _ hx
      have hc1 : wr.cell? ⟨g, k * 2 + 1, none⟩ = some (.int .i64 (x.2 : Int)) := by rw [hrow.cellAt (g := g) (k * 2 + 1) (by omega)]; exact ecells_at1 _ _ _ hx
      have hb1 := HUk.out (k + 1)
      rw [textE_take hx] at hb1
      simp only [List.length_append, lineE, List.length_singleton] at hb1
      have hx2 : x.2 ≤ 1000000 := HCT.out x (List.mem_of_getElem? hx)
      have hgr : Gs wr a bb := hw.out.kept.gs hg hb
      have HX : Hid (es[k]? = some x) := hx
      obtain ⟨xw, xc⟩ := x
      have hc0 : wr.cell? ⟨g, k * 2, none⟩ = some (.string xw) := hc0
      have hc1 : wr.cell? ⟨g, k * 2 + 1, none⟩ = some (.int .i64 (xc : Int)) := hc1
      have hx2 : xc ≤ 1000000 := hx2
      have hxs : xw.data.toList.length = xw.size := (Lib.size_eq xw).symm
      obtain ⟨I, hI⟩ : ∃ I : ByteArray, I = ⟨(Lib.itoa (xc : Int)).toArray⟩ := ⟨_, rfl⟩
      have hIs : I.size = (Lib.itoa (xc : Int)).length := by rw [hI, Lib.size_eq]
      have HI : Hid (I.data.toList = Lib.itoa (xc : Int)) := by show _ = _; rw [hI]
      have ci : ∀ W', Gs W' a bb → Calls Tryz.prog 21 #[.int .i64 (xc : Int)] W' fun e w' => e = .returned (.string I) ∧ Below W'.heap.size W' w' := fun W' hg' => by
        refine (Tryz.strconv_Itoa (xc : Int) (by omega) (by omega) W' hg'.powC).mono ?_
        rintro e w' ⟨rfl, k', os, rfl⟩
        exact ⟨by rw [hI], grow_below _ _ _⟩
      have hsz1 : xw.size + I.size + 2 + (h.data.toList ++ textE (es.take k)).length ≤ 60000 := by
        rw [List.length_append, hlen]
        have hb2 : (textE (es.take k)).length + (xw.data.toList.length + 1 + (Lib.itoa (xc : Int)).length + 1) ≤ U := hb1
        omega
      clear hI hrow hx hb1
      go_upto_region 7 with fail
      obtain ⟨W5, hW5⟩ : ∃ W5, W5 = wr.alloc (.cells #[.string xw, .int .i64 (xc : Int)] 58) := ⟨_, rfl⟩
      obtain ⟨q, hq⟩ : ∃ q, q = wr.heap.size := ⟨_, rfl⟩
      have hb5 : Below wr.heap.size wr W5 := by rw [hW5]; exact (Below.refl _ _).alloc (Nat.le_refl _) _
      have hq5 : W5.heap[q]? = some (.cells #[.string xw, .int .i64 (xc : Int)] 58 (0, 0)) := by rw [hW5, hq]; exact heap_alloc_new _ _
      have s5 : Still W5 W5.drew := ⟨rfl, rfl, rfl, rfl, Nat.le_add_right _ _⟩
      have H5 : Writing Bo w W5.drew b o cs T p n h S (h.data.toList ++ textE (es.take k)) := (hw.out.below hb5).below (s5.below _)
      have g5 : Gs W5.drew a bb := (hgr.below hb5).kept (Kept.ofStill (Bo := 0) s5)
      have hbq : q ≠ b := fun e => by
        obtain ⟨wv5, hf5⟩ := H5.file
        have e1 := hf5.blk
        rw [show W5.drew.heap[b]? = W5.heap[b]? from rfl, ← e, hq5] at e1
        simp only [Option.some.injEq, Obj.cells.injEq] at e1
        exact hT e1.2.1.symm
      have hql : q < W5.drew.heap.size := lt_of_block hq5
      have AB : Hid (∀ W1 : World, Below W5.drew.heap.size W5.drew W1 → W1.heap[q]? = some (.cells #[.string xw, .int .i64 (xc : Int)] 58 (0, 0))) := fun W1 hk => (hk.block q hql).trans hq5
      have AK : Hid (∀ W1 : World, W1.heap[q]? = some (.cells #[.string xw, .int .i64 (xc : Int)] 58 (0, 0)) → W1.cell? ⟨q, 0, none⟩ = some (.string xw) ∧ W1.cell? ⟨q, 1, none⟩ = some (.int .i64 (xc : Int))) := fun W1 e => ⟨st_cell e 0, st_cell e 1⟩
      have AF : Hid (∀ W1 W2 : World, W1.heap[q]? = some (.cells #[.string xw, .int .i64 (xc : Int)] 58 (0, 0)) → FK Bo b W1 W2 → W2.heap[q]? = some (.cells #[.string xw, .int .i64 (xc : Int)] 58 (0, 0))) := fun W1 W2 e hk =>
        (hk.block q (lt_of_block e) hbq (fun ⟨cs', fz', e'⟩ => by rw [e] at e'; cases e') (by
          rintro ⟨cs', T', fz', e', hd⟩
          rw [e] at e'
          cases e'
          rcases hd with h | h | h | h <;> exact absurd h (by decide))).trans e
      have cwr : ∀ W', Below W5.drew.heap.size W5.drew W' → Calls Tryz.prog 113 #[.pointer (some ⟨b, o, none⟩), .string (xw ++ (⟨#[32]⟩ : ByteArray) ++ I ++ (⟨#[10]⟩ : ByteArray))] W' fun e w' => e = .returned .nilIface ∧ Writing Bo w w' b o cs T p n h S (h.data.toList ++ textE (es.take (k + 1))) ∧ FK Bo b W' w' := fun W' hW' => by
        have hsz2 : (xw ++ (⟨#[32]⟩ : ByteArray) ++ I ++ (⟨#[10]⟩ : ByteArray)).size = xw.size + I.size + 2 := by
          rw [ByteArray.size_append, ByteArray.size_append, ByteArray.size_append]
          show xw.size + 1 + I.size + 1 = _
          omega
        have := Write_w w b o cs T p n h S _ (xw ++ (⟨#[32]⟩ : ByteArray) ++ I ++ (⟨#[10]⟩ : ByteArray)) W' (H5.below hW') (by rw [hsz2]; omega)
        have ed : (xw ++ (⟨#[32]⟩ : ByteArray) ++ I ++ (⟨#[10]⟩ : ByteArray)).data.toList = lineE (xw, xc) := by
          simp [ByteArray.data_append, HI.out, lineE]
        rw [ed, List.append_assoc, ← textE_take HX.out] at this
        exact this
      have hxl : xw.size ≤ 60000 := by omega
      have hIl : I.size ≤ 60000 := by omega
      have ad1 : ∀ W' : World, (Op.stringOp .add xw (⟨#[32]⟩ : ByteArray)).run Tryz.prog W' = .ok (.string (xw ++ (⟨#[32]⟩ : ByteArray))) W' := fun W' => run_string_add_sum W' xw _ (by show xw.size + 1 ≤ _; omega)
      have ad2 : ∀ W' : World, (Op.stringOp .add (xw ++ (⟨#[32]⟩ : ByteArray)) I).run Tryz.prog W' = .ok (.string (xw ++ (⟨#[32]⟩ : ByteArray) ++ I)) W' := fun W' => run_string_add_sum W' _ _ (by rw [ByteArray.size_append]; show xw.size + 1 + I.size ≤ _; omega)
      have ad3 : ∀ W' : World, (Op.stringOp .add (xw ++ (⟨#[32]⟩ : ByteArray) ++ I) (⟨#[10]⟩ : ByteArray)).run Tryz.prog W' = .ok (.string (xw ++ (⟨#[32]⟩ : ByteArray) ++ I ++ (⟨#[10]⟩ : ByteArray))) W' := fun W' => run_string_add_sum W' _ _ (by rw [ByteArray.size_append, ByteArray.size_append]; show xw.size + 1 + I.size + 1 ≤ _; omega)
      rw [← hW5, ← hq]
      have c5 := AK.out W5.drew hq5
      clear hW5 hq hb5 hc0 hc1 H5 hgr hsz1 hIs hxs hbq
      go_region_held3 (fun w' => w'.cell? ⟨q, 0, none⟩ = some (.string xw) ∧ w'.cell? ⟨q, 1, none⟩ = some (.int .i64 (xc : Int))) (first | exact c5 | exact AK.out _ (AB.out _ b6) | exact AK.out _ (AF.out _ _ (AB.out _ b6) k7)) (first | (go_at_call 21; refine (ci _ ?_).mono ?_; (exact g5); rintro e w6 ⟨rfl, b6⟩) | (go_at_call 113; refine (cwr _ ?_).mono ?_; (exact b6); rintro e w7 ⟨rfl, h7, k7⟩))
      all_goals
        clear AK AB AF cwr ci c5 hq5 g5 s5 hql ad1 ad2 ad3
        go_wp2
        go_roundw
        case rel => exact ⟨k + 1, by go_num, by omega, h7⟩
        case measure => simp [intOf]; omega
    · have hke : k = es.length := by omega
      subst hke
      rw [List.take_length] at hw
      have hg2 := hw.out.kept.gs hg hb
      have cs2 := Seal_w w b o cs T p n h S N _ a bb wr hw.out hg2 hS hN (by rw [List.length_append, hlen, ← HU.out]; omega) hn hnd
      clear hg2
      go_wp2_with (go_at_call 114; go_must (refine cs2.mono ?_; rintro e w3 ⟨S', s', r', rfl, h3, d3, v3, k3, k4⟩))
      go_ret
      exact ⟨S', s', r', rfl, h3, d3, v3, k3⟩
end Go.Proofs.YtbjgpfhbdmcbbabGreatDoor.kinds

/-
  CONTRACTS of package quern: linesOf.
-/
namespace Go.Proofs.YtbjgpfhbdmcbbabGreatDoor.kinds
open Go.RowKit dnamath dna diskm disk keep hex pieces files parse
set_option linter.unusedVariables false

def linesQ (l : List UInt8) : List (List UInt8) := if l = [] then [] else linesL l

set_option maxHeartbeats 1000000 in
set_option maxRecDepth 100000 in
theorem linesOf_q (s : ByteArray) (w : World) (hs : s.size ≤ 1000000) :
    Calls Tryz.prog 100 #[.string s] w fun e w' => ∃ v ts, e = .returned v ∧ w'.ownsRow w.heap.size 9 1 v ts.length (scells ts) ∧ datas ts = linesQ s.data.toList ∧ ts.length ≤ s.size + 1 ∧ Below w.heap.size w w' := by
  by_cases h0 : s.size = 0
  · have hsl : s.toList = [] := by rw [Lib.toList_data]; exact List.eq_nil_of_length_eq_zero (by rw [← Lib.size_eq]; exact h0)
    have hsd : s.data.toList = [] := List.eq_nil_of_length_eq_zero (by rw [← Lib.size_eq]; exact h0)
    have HD : Hid (s.data.toList = []) := hsd
    have hse : s = ByteArray.empty := by
      apply ByteArray.ext
      apply Array.ext'
      rw [hsd]
      rfl
    clear hsd hsl
    subst hse
    go_enter Tryz.func100, Tryz.ntmps100
    go_wp2
    go_ret
    exact ⟨_, [], rfl, World.ownsRow_nil _ _ _ _, by unfold linesQ; rw [if_pos HD.out]; rfl, Nat.zero_le _, Below.refl _ _⟩
  · have htl := Lib.trimSuffix_le s.data.toList [10]
    obtain ⟨x, hx⟩ : ∃ x : ByteArray, x = ⟨(Lib.trimSuffix s.data.toList [10]).toArray⟩ := ⟨_, rfl⟩
    have hxd : x.data.toList = Lib.trimSuffix s.data.toList [10] := by rw [hx]
    have hxz : x.size ≤ s.size := by rw [Lib.size_eq, hxd, Lib.size_eq]; exact htl
    have HX : Hid (x = ⟨(Lib.trimSuffix s.data.toList (⟨#[10]⟩ : ByteArray).data.toList).toArray⟩) := hx
    have HXD : Hid (x.data.toList = Lib.trimSuffix s.data.toList [10]) := hxd
    have HN : Hid (s.data.toList ≠ []) := fun e => h0 (by rw [Lib.size_eq, e]; rfl)
    have hne : (s.toList == []) = false := by
      rw [Lib.toList_data]
      cases h : s.data.toList with
      | nil => exact absurd h HN.out
      | cons a l => rfl
    clear hx hxd htl
    go_enter Tryz.func100, Tryz.ntmps100
    go_wp2_with (first | (go_at_call 133; refine (Tryz.strings_TrimSuffix _ _ _ (by omega)).mono ?_; rintro e w' ⟨rfl, hw'⟩; have hw2 := hw'.symm; subst hw2; rw [← HX.out]) | (go_at_call 132; go_must (refine (split.split_one x 10 _ (by omega)).mono ?_; rintro e w1 ⟨ts, rfl, rfl, hts, htl2⟩)))
    have HT : Hid (datas ts = linesQ s.data.toList) := by
      show datas ts = _
      have e : datas ts = Lib.splitK [10] 0 (Lib.count x.data.toList [10]) x.data.toList := hts
      unfold linesQ
      rw [if_neg HN.out, e, HXD.out]
      rfl
    clear hts
    go_ret
    have ho := World.ownsRow_lit (base := w.heap.size) (e := 9) (size := 1) w (ts.map Value.string).toArray ts.length (Nat.le_refl _) (by unfold maxLen; omega) (by simp)
    exact ⟨_, ts, rfl, ho, HT.out, by omega, (Below.refl _ w).alloc (Nat.le_refl _) _⟩
end Go.Proofs.YtbjgpfhbdmcbbabGreatDoor.kinds

/-
  Contracts of the library's shelf at this program, laid by the kit's own command in plain words; the ones that are used.
-/
namespace Go.Proofs
open Go.Shelf
def Tryz.lays190_ren : Go.Shelf.Ren := ⟨fun | 190 => 167 | 125 => 180 | 258 => 179 | 128 => 193 | 129 => 104 | 302 => 184 | 303 => 185 | 304 => 186 | 305 => 187 | 306 => 188 | 307 => 189 | 308 => 190 | 309 => 191 | 310 => 192 | 333 => 195 | 329 => 196 | 330 => 197 | 334 => 198 | 335 => 199 | 336 => 68 | 344 => 200 | n => n, fun | 31 => 28 | 9 => 9 | 3 => 3 | 46 => 145 | 0 => 0 | 51 => 192 | 53 => 101 | 4 => 4 | 183 => 264 | 182 => 263 | 131 => 70 | 5 => 5 | 218 => 269 | 222 => 273 | 228 => 279 | 229 => 55 | n => n, fun | n => n⟩
theorem Tryz.lays190 : Go.Proofs.Lays.n190 Tryz.prog Tryz.lays190_ren := {
  mixed := by kernel_rfl
  f125 := Tryz.func180.trans (congrArg some (by kernel_rfl))
  f128 := Tryz.func193.trans (congrArg some (by kernel_rfl))
  f129 := Tryz.func104.trans (congrArg some (by kernel_rfl))
  f190 := Tryz.func167.trans (congrArg some (by kernel_rfl))
  f258 := Tryz.func179.trans (congrArg some (by kernel_rfl))
  f302 := Tryz.func184.trans (congrArg some (by kernel_rfl))
  f303 := Tryz.func185.trans (congrArg some (by kernel_rfl))
  f304 := Tryz.func186.trans (congrArg some (by kernel_rfl))
  f305 := Tryz.func187.trans (congrArg some (by kernel_rfl))
  f306 := Tryz.func188.trans (congrArg some (by kernel_rfl))
  f307 := Tryz.func189.trans (congrArg some (by kernel_rfl))
  f308 := Tryz.func190.trans (congrArg some (by kernel_rfl))
  f309 := Tryz.func191.trans (congrArg some (by kernel_rfl))
  f310 := Tryz.func192.trans (congrArg some (by kernel_rfl))
  f329 := Tryz.func196.trans (congrArg some (by kernel_rfl))
  f330 := Tryz.func197.trans (congrArg some (by kernel_rfl))
  f333 := Tryz.func195.trans (congrArg some (by kernel_rfl))
  f334 := Tryz.func198.trans (congrArg some (by kernel_rfl))
  f335 := Tryz.func199.trans (congrArg some (by kernel_rfl))
  f336 := Tryz.func68.trans (congrArg some (by kernel_rfl))
  f344 := Tryz.func200.trans (congrArg some (by kernel_rfl))
  t0 := Tryz.underlying0
  a0 := Tryz.isAgg0
  z0 := Tryz.sizeOf0
  v0 := Tryz.zeroValue0
  t3 := Tryz.underlying3
  a3 := Tryz.isAgg3
  z3 := Tryz.sizeOf3
  v3 := Tryz.zeroValue3
  t4 := Tryz.underlying4
  a4 := Tryz.isAgg4
  z4 := Tryz.sizeOf4
  v4 := Tryz.zeroValue4
  t5 := Tryz.underlying5
  a5 := Tryz.isAgg5
  z5 := Tryz.sizeOf5
  v5 := Tryz.zeroValue5
  t9 := Tryz.underlying9
  a9 := Tryz.isAgg9
  z9 := Tryz.sizeOf9
  v9 := Tryz.zeroValue9
  t31 := Tryz.underlying28
  a31 := Tryz.isAgg28
  z31 := Tryz.sizeOf28
  v31 := Tryz.zeroValue28
  t46 := Tryz.underlying145
  a46 := Tryz.isAgg145
  z46 := Tryz.sizeOf145
  v46 := Tryz.zeroValue145
  t51 := Tryz.underlying192
  a51 := Tryz.isAgg192
  z51 := Tryz.sizeOf192
  v51 := Tryz.zeroValue192
  t53 := Tryz.underlying101
  a53 := Tryz.isAgg101
  z53 := Tryz.sizeOf101
  v53 := Tryz.zeroValue101
  t131 := Tryz.underlying70
  a131 := Tryz.isAgg70
  z131 := Tryz.sizeOf70
  v131 := Tryz.zeroValue70
  t182 := Tryz.underlying263
  a182 := Tryz.isAgg263
  z182 := Tryz.sizeOf263
  v182 := Tryz.zeroValue263
  t183 := Tryz.underlying264
  a183 := Tryz.isAgg264
  z183 := Tryz.sizeOf264
  v183 := Tryz.zeroValue264
  t218 := Tryz.underlying269
  a218 := Tryz.isAgg269
  z218 := Tryz.sizeOf269
  v218 := Tryz.zeroValue269
  t222 := Tryz.underlying273
  a222 := Tryz.isAgg273
  z222 := Tryz.sizeOf273
  v222 := Tryz.zeroValue273
  t228 := Tryz.underlying279
  a228 := Tryz.isAgg279
  z228 := Tryz.sizeOf279
  v228 := Tryz.zeroValue279
  t229 := Tryz.underlying55
  a229 := Tryz.isAgg55
  z229 := Tryz.sizeOf55
  v229 := Tryz.zeroValue55 }
open Go.Sort Go.RowKit in
theorem Tryz.slices_Sort_string (blk off cap : Nat) (ss : List (List UInt8)) (w : World) (hH : Holds encStr w blk off ss.toArray) (hblk : blk < w.heap.size) (hsz : ss.length < 4611686018427387904) :
    Calls Tryz.prog 167 #[.slice (some ⟨blk, off, none⟩) ss.length cap] w fun e w' =>
      e = .returned (.tuple #[]) ∧ ∃ n os, w' = grow (putRow encStr (Sort.ahead w n) blk off (ss.mergeSort fun x y => decide (x ≤ y)).toArray) os := Any.slices_Sort_string Tryz.lays190 blk off cap ss w hH hblk hsz
open Go.RowKit Go.Sort in
theorem Tryz.slices_Sort_string_none (p : Option Addr) (cap : Nat) (w : World) :
    Calls Tryz.prog 167 #[.slice p 0 cap] w fun e w' => e = .returned (.tuple #[]) ∧ w' = w := Any.slices_Sort_string_none Tryz.lays190 p cap w
end Go.Proofs

/-
  PLAIN MATHEMATICS: going along the pieces. It imports nothing of the program.
-/
namespace Go.Proofs.YtbjgpfhbdmcbbabGreatDoor.dnamath
set_option linter.unusedVariables false

/-- behind i windows the next word is word number a of piece number c -/
def At (l : List UInt8) (k m i c a : Nat) : Prop :=
  ((R l k m i).out = [] ∧ c = 0 ∧ a = 0) ∨
  ∃ (A : List (List UInt8)) (p e : List UInt8) (B : List (List UInt8)), (R l k m i).out = A ++ [p] ∧ piecesL l k m = A ++ [p ++ e] ++ B ∧ ((e = [] ∧ c = A.length + 1 ∧ a = 0) ∨ (e ≠ [] ∧ c = A.length ∧ a + k = p.length + 1))

theorem snoc_inj {α : Type} {A A' : List α} {p p' : α} (h : A ++ [p] = A' ++ [p']) : A = A' ∧ p = p' := by
  have := List.append_inj' h rfl
  exact ⟨this.1, by simpa using this.2⟩

end Go.Proofs.YtbjgpfhbdmcbbabGreatDoor.dnamath
