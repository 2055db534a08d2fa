/-
  CONTRACTS of package dna: the lines of an input.
-/
import Derived.Test.YtbjgpfhbdmcbbaaDoorPc2
import Derived.Test.YtbjgpfhbdmcbbaaDoorShelf2
import Derived.Test.YtbjgpfhbdmcbbaaDoorBuilder1
import Derived.RegionTactic
import Derived.BigQuiet
import Derived.Deep.QuietTactic
namespace Go.Proofs.YtbjgpfhbdmcbbaaDoor.lines
open Go.RowKit Go.Proofs.YtbjgpfhbdmcbbaaDoor.dnamath Go.Proofs.YtbjgpfhbdmcbbaaDoor.dna Go.Proofs.YtbjgpfhbdmcbbaaDoor.pieces
set_option linter.unusedVariables false

/-- the lines that are not read yet: ts from place k on; they lie in block g, the struct in block b -/
structure LS (w : World) (b g k : Nat) (ts : List ByteArray) : Prop where
  le : k ≤ ts.length
  ne : b ≠ g
  row : w.heap[g]? = some (.cells (ts.map Value.string).toArray 9 (0, 0))
  st : ∃ (ao : Option Addr) (t : Nat) (T : TypeId), w.heap[b]? = some (.cells #[.slice ao (ts.length - k) (ts.length - k), .int .i64 (t : Int)] T (0, 0)) ∧ t ≤ k ∧ (k < ts.length → ao = some ⟨g, k, none⟩)

theorem two_cell0 {w : World} {b : Nat} {x y : Value} {T : TypeId} (h : w.heap[b]? = some (.cells #[x, y] T (0, 0))) : w.cell? ⟨b, 0, none⟩ = some x := by simp [World.cell?, h]
theorem two_cell1 {w : World} {b : Nat} {x y : Value} {T : TypeId} (h : w.heap[b]? = some (.cells #[x, y] T (0, 0))) : w.cell? ⟨b, 1, none⟩ = some y := by simp [World.cell?, h]
theorem row_at {w : World} {g : Nat} {ts : List ByteArray} {T : TypeId} (h : w.heap[g]? = some (.cells (ts.map Value.string).toArray T (0, 0))) (k : Nat) (hk : k < ts.length) : w.cell? ⟨g, k, none⟩ = some (.string ts[k]) := by
  simp [World.cell?, h, hk]

set_option maxHeartbeats 400000 in
set_option maxRecDepth 100000 in
theorem ended_any (b g k : Nat) (ts : List ByteArray) (w : World) (h : LS w b g k ts) (hl : ts.length ≤ 1000000) :
    Calls Tryd.prog 110 #[.pointer (some ⟨b, 0, none⟩)] w fun e w' => e = .returned (.bool (decide (k = ts.length))) ∧ w' = w := by
  obtain ⟨ao, t, T, hst, ht, hao⟩ := h.st
  have hle := h.le
  have hc0 := two_cell0 hst
  by_cases hk : k = ts.length
  · have e : ts.length - k = 0 := by omega
    rw [e] at hc0
    rw [decide_eq_true hk]
    clear hst hao
    go_enter Tryd.func110, Tryd.ntmps110
    go_wp2
    go_ret
    exact ⟨rfl, rfl⟩
  · have hne : (((ts.length - k : Nat) : Int) == 0) = false := by simp; omega
    rw [decide_eq_false hk]
    obtain ⟨n, hn⟩ : ∃ n, n = ts.length - k := ⟨_, rfl⟩
    rw [← hn] at hc0 hne
    clear hst hao hn
    go_enter Tryd.func110, Tryd.ntmps110
    go_wp2
    go_ret
    exact ⟨rfl, rfl⟩

theorem grown_set {w : World} {b j : Nat} (v : Value) : w.grownBy (w.setCell ⟨b, j, none⟩ v) (some b) :=
  ⟨rfl, rfl, rfl, by simp [World.setCell], fun k hk hne => Below.heap_setCell _ _ _ _ (fun e => hne (by rw [e]))⟩
theorem grown_trans {a b c : World} {row : Option Nat} (h : a.grownBy b row) (k : b.grownBy c row) : a.grownBy c row :=
  ⟨k.os.trans h.os, k.tape.trans h.tape, k.output.trans h.output, Nat.le_trans h.size k.size, fun i hi hne => (k.block i (Nat.lt_of_lt_of_le hi h.size) hne).trans (h.block i hi hne)⟩

theorem ls_take {w : World} {b g k t : Nat} {ts : List ByteArray} {s0 v : Value} {T : TypeId} (h : LS w b g k ts) (hst : w.heap[b]? = some (.cells #[s0, .int .i64 (t : Int)] T (0, 0))) (ht : t ≤ k) (hk : k < ts.length)
    (hv : ∃ ao', v = .slice ao' (ts.length - (k + 1)) (ts.length - (k + 1)) ∧ (k + 1 < ts.length → ao' = some ⟨g, k + 1, none⟩)) :
    LS ((w.setCell ⟨b, 0, none⟩ v).setCell ⟨b, 1, none⟩ (.int .i64 ((t : Int) + 1))) b g (k + 1) ts ∧ w.grownBy ((w.setCell ⟨b, 0, none⟩ v).setCell ⟨b, 1, none⟩ (.int .i64 ((t : Int) + 1))) (some b) := by
  obtain ⟨ao', rfl, hao⟩ := hv
  have h1 := heap_setCell_same w b 0 _ T (.slice ao' (ts.length - (k + 1)) (ts.length - (k + 1))) hst
  have h2 := heap_setCell_same _ b 1 _ T (.int .i64 ((t : Int) + 1)) h1
  have hg : w.grownBy ((w.setCell ⟨b, 0, none⟩ (.slice ao' (ts.length - (k + 1)) (ts.length - (k + 1)))).setCell ⟨b, 1, none⟩ (.int .i64 ((t : Int) + 1))) (some b) := grown_trans (grown_set _) (grown_set _)
  refine ⟨⟨by omega, h.ne, (hg.block g (lt_of_block h.row) (by simpa using fun e => h.ne e.symm)).trans h.row, ao', t + 1, T, ?_, by omega, hao⟩, hg⟩
  rw [h2]
  simp

set_option maxHeartbeats 800000 in
set_option maxRecDepth 100000 in
theorem take_any (b g k : Nat) (ts : List ByteArray) (w : World) (h : LS w b g k ts) (hl : ts.length ≤ 1000000) (hk : k < ts.length) :
    Calls Tryd.prog 117 #[.pointer (some ⟨b, 0, none⟩)] w fun e w' => e = .returned (.tuple #[.string ts[k], .nilIface]) ∧ LS w' b g (k + 1) ts ∧ w.grownBy w' (some b) := by
  have HK : Hid (decide (k = ts.length) = false) := decide_eq_false (by omega)
  obtain ⟨ao, t, T, hst, ht, hao⟩ := h.st
  have hao := hao hk
  subst hao
  have hc0 := two_cell0 hst
  have hc1 := two_cell1 hst
  have hcx := row_at h.row k hk
  obtain ⟨x, hx⟩ : ∃ x, x = ts[k] := ⟨_, rfl⟩
  rw [← hx] at hcx ⊢
  have hf0 : w.frozen? ⟨b, 0, none⟩ = false := by simp [World.frozen?, hst]
  have hf1 : w.frozen? ⟨b, 1, none⟩ = false := by simp [World.frozen?, hst]
  obtain ⟨n, hn⟩ : ∃ n, n = ts.length - k := ⟨_, rfl⟩
  rw [← hn] at hc0
  have hn1 : 1 ≤ n := by omega
  have hn2 : n ≤ 1000000 := by omega
  have ht2 : t ≤ 1000000 := by omega
  have hbg := h.ne
  have HST : Hid (w.heap[b]? = some (.cells #[.slice (some ⟨g, k, none⟩) (ts.length - k) (ts.length - k), .int .i64 (t : Int)] T (0, 0))) := hst
  have HN : Hid (n = ts.length - k) := hn
  have H := h
  clear hst hn hx hao
  go_enter Tryd.func117, Tryd.ntmps117
  go_wp2_with (go_at_call 110; refine (ended_any b g k ts _ h hl).mono ?_; rintro e w' ⟨rfl, rfl⟩; rw [HK.out])
  · have hn := HN.out
    go_ret2
    exact ⟨rfl, ls_take H HST.out ht hk ⟨some ⟨g, k, none⟩, by rw [show ts.length - (k + 1) = 0 by omega], fun h => by omega⟩⟩
  · have hn := HN.out
    go_ret2
    exact ⟨rfl, ls_take H HST.out ht hk ⟨some ⟨g, k + 1, none⟩, by rw [show ts.length - (k + 1) = n - 1 by omega], fun h => rfl⟩⟩

set_option maxHeartbeats 800000 in
set_option maxRecDepth 100000 in
theorem takeHead_any (b g k : Nat) (ts : List ByteArray) (c : ByteArray) (w : World) (h : LS w b g k ts) (hl : ts.length ≤ 1000000) (hk : k < ts.length) (hp : Lib.hasPrefix ts[k].data.toList c.data.toList = true) :
    Calls Tryd.prog 112 #[.pointer (some ⟨b, 0, none⟩), .string c] w fun e w' => e = .returned .nilIface ∧ LS w' b g (k + 1) ts ∧ w.grownBy w' (some b) := by
  have HP : Hid (Lib.hasPrefix ts[k].data.toList c.data.toList = true) := hp
  clear hp
  go_enter Tryd.func112, Tryd.ntmps112
  go_wp2_with (first | (go_at_call 117; refine (take_any b g k ts _ h hl hk).mono ?_; rintro e w1 ⟨rfl, h1, g1⟩) | (go_at_call 118; refine (Tryd.strings_HasPrefix _ _ _).mono ?_; rintro e w' ⟨rfl, rfl⟩; rw [HP.out]))
  go_ret
  exact ⟨rfl, h1, g1⟩

set_option maxHeartbeats 800000 in
set_option maxRecDepth 100000 in
theorem atHead_any (b g k : Nat) (ts : List ByteArray) (c : ByteArray) (w : World) (h : LS w b g k ts) (hl : ts.length ≤ 1000000) (hk : k < ts.length) :
    Calls Tryd.prog 115 #[.pointer (some ⟨b, 0, none⟩), .string c] w fun e w' => e = .returned (.bool (Lib.hasPrefix ts[k].data.toList c.data.toList)) ∧ w' = w := by
  have HK : Hid (decide (k = ts.length) = false) := decide_eq_false (by omega)
  obtain ⟨ao, t, T, hst, ht, hao⟩ := h.st
  have hao := hao hk
  subst hao
  have hc0 := two_cell0 hst
  have hcx := row_at h.row k hk
  obtain ⟨x, hx⟩ : ∃ x, x = ts[k] := ⟨_, rfl⟩
  rw [← hx] at hcx ⊢
  obtain ⟨n, hn⟩ : ∃ n, n = ts.length - k := ⟨_, rfl⟩
  rw [← hn] at hc0
  have hn1 : 1 ≤ n := by omega
  have hn2 : n ≤ 1000000 := by omega
  clear hst hn hx hao
  obtain ⟨q, hq⟩ : ∃ q, q = Lib.hasPrefix x.data.toList c.data.toList := ⟨_, rfl⟩
  rw [← hq]
  have HQ : Hid (q = Lib.hasPrefix x.data.toList c.data.toList) := hq
  clear hq
  go_enter Tryd.func115, Tryd.ntmps115
  go_wp2_with (first | (go_at_call 110; refine (ended_any b g k ts _ h hl).mono ?_; rintro e w' ⟨rfl, rfl⟩; rw [HK.out]) | (go_at_call 118; refine (Tryd.strings_HasPrefix _ _ _).mono ?_; rintro e w' ⟨rfl, rfl⟩; rw [← HQ.out]))
  go_ret
  exact ⟨rfl, rfl⟩
end Go.Proofs.YtbjgpfhbdmcbbaaDoor.lines
