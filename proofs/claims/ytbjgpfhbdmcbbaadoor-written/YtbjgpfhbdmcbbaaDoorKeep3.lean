/-
  CONTRACT of quernkeep.written.
-/
import Derived.Test.YtbjgpfhbdmcbbaaDoorKeep2
import Derived.Test.YtbjgpfhbdmcbbaaDoorShelf2
import Derived.Laws.Concat
namespace Go.Proofs.YtbjgpfhbdmcbbaaDoor.keep
open Go.RowKit Go.Proofs.YtbjgpfhbdmcbbaaDoor.dnamath Go.Proofs.YtbjgpfhbdmcbbaaDoor.dna Go.Proofs.YtbjgpfhbdmcbbaaDoor.pieces Go.Proofs.YtbjgpfhbdmcbbaaDoor.fill Go.Proofs.YtbjgpfhbdmcbbaaDoor.parse
set_option linter.unusedVariables false

/-- the lines of one record -/
def Rec1 (q : Bool) (R : List (List UInt8)) (r : List UInt8) : Prop := r.length ≤ 1000000 ∧
  ((q = false ∧ ∃ h cs, R = (62 :: h) :: cs ∧ cs ≠ [] ∧ (∀ x ∈ cs, x ≠ [] ∧ greatB x) ∧ cs.flatten = r) ∨
   (q = true ∧ ∃ h g, R = [64 :: h, r, [43], g] ∧ r ≠ [] ∧ greatB r ∧ g.length = r.length ∧ ∀ c ∈ g, 33 ≤ (c.toNat : Int) ∧ (c.toNat : Int) ≤ 126))

theorem rec_snoc {q : Bool} : ∀ {rs L R : List (List UInt8)} {r : List UInt8}, RecLL q L rs → Rec1 q R r → RecLL q (L ++ R) (rs ++ [r])
  | [], L, R, r, hL, hR => by
    have hL : L = [] := hL
    subst hL
    obtain ⟨h1, h2⟩ := hR
    refine ⟨[], rfl, h1, ?_⟩
    rcases h2 with ⟨hq, h, cs, rfl, x⟩ | ⟨hq, h, g, rfl, x⟩
    · exact .inl ⟨hq, h, cs, by simp, x⟩
    · exact .inr ⟨hq, h, g, by simp, x⟩
  | r0 :: rs, L, R, r, hL, hR => by
    obtain ⟨L', h', hl, hx⟩ := hL
    refine ⟨L' ++ R, rec_snoc h' hR, hl, ?_⟩
    rcases hx with ⟨hq, h, cs, rfl, x⟩ | ⟨hq, h, g, rfl, x⟩
    · exact .inl ⟨hq, h, cs, by simp, x⟩
    · exact .inr ⟨hq, h, g, by simp, x⟩

theorem unl_len (L : List (List UInt8)) : (unlines L).length = L.flatten.length + L.length := by
  induction L with
  | nil => rfl
  | cons x t ih =>
    have e : unlines (x :: t) = x ++ [10] ++ unlines t := by simp [unlines]
    rw [e]; simp [ih]; omega
theorem len_flat : ∀ {cs : List (List UInt8)}, (∀ x ∈ cs, x ≠ []) → cs.length ≤ cs.flatten.length
  | [], _ => Nat.le_refl _
  | x :: t, h => by
    have ih := len_flat (cs := t) (fun y hy => h y (by simp [hy]))
    have hx : 0 < x.length := List.length_pos_iff.2 (h x (by simp))
    rw [List.flatten_cons, List.length_append, List.length_cons]; omega

theorem digs (i : Nat) (hi : i < 100) : clean (Lib.decDigits i) ∧ (Lib.decDigits i).length ≤ 2 := by
  have h : ∀ i : Fin 100, ((Lib.decDigits i.val).all (fun c => c != 10) && decide ((Lib.decDigits i.val).length ≤ 2)) = true := by decide +kernel
  have h1 := h ⟨i, hi⟩
  rw [Bool.and_eq_true] at h1
  refine ⟨fun c hc => ?_, of_decide_eq_true h1.2⟩
  have := List.all_eq_true.1 h1.1 c hc
  simpa using this

theorem great_clean {x : List UInt8} (h : greatB x) : clean x := by
  intro c hc e
  subst e
  have := List.all_eq_true.1 h _ hc
  revert this; decide

theorem wide_ok (x : Int) : -9223372036854775808 ≤ wrap64 x ∧ wrap64 x ≤ 9223372036854775807 := bounds_i64 (wrap64_wf x)

theorem conv_one (p : Nat) (hp : p < 94) (w : World) : (convert 54 9 (.slice (some ⟨w.heap.size, 0, none⟩) 1 1)).run Tryd.prog (w.alloc (.cells #[.int .u8 (33 + (p : Int))] 5)) = .ok (.string ⟨#[UInt8.ofNat (33 + p)]⟩) (w.alloc (.cells #[.int .u8 (33 + (p : Int))] 5)) := by
  refine run_convert_bytes_back (P := Tryd.prog) _ 54 9 5 ⟨w.heap.size, 0, none⟩ 1 [UInt8.ofNat (33 + p)] Tryd.underlying54 Tryd.underlying5 Tryd.underlying9 ?_
  intro j hj
  match j, hj with
  | 0, _ =>
    have e : (UInt8.ofNat (33 + p)).toNat = 33 + p := by rw [UInt8.toNat_ofNat']; omega
    simp [Addr.add]
    have : ((UInt8.ofNat (33 + p)).toNat : Int) = 33 + (p : Int) := by rw [e]; push_cast; rfl
    omega

/-- an input as far as it is written -/
def Sofar (q : Bool) (o : ByteArray) (k : Nat) (rs : List (List UInt8)) : Prop :=
  ∃ L, o.data.toList = unlines L ∧ (∀ x ∈ L, clean x) ∧ RecLL q L rs ∧ o.size ≤ 200 * k
/-- a record with > as far as it is written -/
def Part (o : ByteArray) (k : Nat) (rs : List (List UInt8)) (r0 : List UInt8) (p : ByteArray) (r : List UInt8) : Prop :=
  ∃ L h cs, p.data.toList = unlines (L ++ (62 :: h) :: cs) ∧ (∀ x ∈ L, clean x) ∧ RecLL false L rs ∧ (unlines L).length ≤ 200 * k ∧ clean h ∧ h.length ≤ 2 ∧ (∀ x ∈ cs, x ≠ [] ∧ greatB x) ∧ cs.flatten ++ r = r0 ∧ r ≠ [] ∧ greatB r

theorem part_size {o p : ByteArray} {k : Nat} {rs : List (List UInt8)} {r0 r : List UInt8} (h : Part o k rs r0 p r) (h0 : r0.length ≤ 60) (hk : k ≤ 12) : p.size ≤ 200 * k + 130 := by
  obtain ⟨L, h, cs, hp, _, _, hl, _, hh, hcs, hfl, _⟩ := h
  rw [Lib.size_eq, hp, unlines_append, List.length_append]
  have h1 := unl_len ((62 :: h) :: cs)
  have h2 := len_flat (cs := cs) (fun x hx => (hcs x hx).1)
  have h3 : cs.flatten.length + r.length = r0.length := by rw [← hfl, List.length_append]
  rw [List.flatten_cons, List.length_append, List.length_cons, List.length_cons] at h1
  omega

theorem part_start {o : ByteArray} {k : Nat} {rs : List (List UInt8)} {r0 : List UInt8} (h : Sofar false o k rs) (hr : r0 ≠ []) (hg : greatB r0) (hk : k < 100) (p : ByteArray) (hp : p = o ++ ⟨#[62]⟩ ++ ⟨(Lib.decDigits k).toArray⟩ ++ ⟨#[10]⟩) : Part o k rs r0 p r0 := by
  obtain ⟨L, h1, h2, h3, h4⟩ := h
  obtain ⟨d1, d2⟩ := digs k hk
  refine ⟨L, Lib.decDigits k, [], ?_, h2, h3, ?_, d1, d2, fun x hx => by simp at hx, by simp, hr, hg⟩
  · rw [hp, unlines_append]; simp [h1, unlines]
  · rw [← h1, ← Lib.size_eq]; exact h4

theorem part_more {o p : ByteArray} {k : Nat} {rs : List (List UInt8)} {r0 : List UInt8} {r : ByteArray} (h : Part o k rs r0 p r.data.toList) (n : Nat) (hn : n < r.size) (h1 : 1 ≤ n) : Part o k rs r0 (p ++ r.extract 0 n ++ ⟨#[10]⟩) (r.extract n r.size).data.toList := by
  obtain ⟨L, h, cs, hp, hL, hr, hl, hc, hh, hcs, hfl, hne, hg⟩ := h
  have e1 : (r.extract 0 n).data.toList = r.data.toList.take n := by simp [ByteArray.data_extract]
  have e2 : (r.extract n r.size).data.toList = r.data.toList.drop n := by
    rw [Lib.extract_data, Lib.size_eq, List.take_of_length_le (by rw [List.length_drop]; omega)]
  have hlen : n < r.data.toList.length := by rw [← Lib.size_eq]; exact hn
  have hspl := List.take_append_drop n r.data.toList
  have hg1 : greatB (r.data.toList.take n) ∧ greatB (r.data.toList.drop n) := by
    unfold greatB at hg ⊢
    rw [← hspl, List.all_append, Bool.and_eq_true] at hg
    exact hg
  refine ⟨L, h, cs ++ [r.data.toList.take n], ?_, hL, hr, hl, hc, hh, ?_, ?_, ?_, ?_⟩
  · rw [show L ++ (62 :: h) :: (cs ++ [r.data.toList.take n]) = (L ++ (62 :: h) :: cs) ++ [r.data.toList.take n] by simp, unlines_append, unlines_one, ← hp, ← e1]
    simp
  · intro x hx
    rcases List.mem_append.1 hx with hx | hx
    · exact hcs x hx
    · rw [List.mem_singleton] at hx; subst hx
      refine ⟨?_, hg1.1⟩
      rw [← List.length_pos_iff, List.length_take]; omega
  · rw [e2, List.flatten_append]; simp [hfl]
  · rw [e2, ← List.length_pos_iff, List.length_drop]; omega
  · rw [e2]; exact hg1.2

theorem part_done {o p : ByteArray} {k : Nat} {rs : List (List UInt8)} {r0 : List UInt8} {r : ByteArray} (h : Part o k rs r0 p r.data.toList) (h0 : r0.length ≤ 60) : Sofar false (p ++ r ++ ⟨#[10]⟩) (k + 1) (rs ++ [r0]) := by
  obtain ⟨L, h, cs, hp, hL, hr, hl, hc, hh, hcs, hfl, hne, hg⟩ := h
  have hcs' : ∀ x ∈ cs ++ [r.data.toList], x ≠ [] ∧ greatB x := by
    intro x hx
    rcases List.mem_append.1 hx with hx | hx
    · exact hcs x hx
    · rw [List.mem_singleton] at hx; subst hx; exact ⟨hne, hg⟩
  have hd : (p ++ r ++ ⟨#[10]⟩).data.toList = unlines (L ++ (62 :: h) :: (cs ++ [r.data.toList])) := by
    rw [show L ++ (62 :: h) :: (cs ++ [r.data.toList]) = (L ++ (62 :: h) :: cs) ++ [r.data.toList] by simp, unlines_append, unlines_one, ← hp]
    simp
  refine ⟨L ++ (62 :: h) :: (cs ++ [r.data.toList]), hd, ?_, rec_snoc hr ⟨by omega, .inl ⟨rfl, h, _, rfl, by simp, hcs', by rw [List.flatten_append]; simpa using hfl⟩⟩, ?_⟩
  · intro x hx
    rcases List.mem_append.1 hx with hx | hx
    · exact hL x hx
    · rcases List.mem_cons.1 hx with rfl | hx
      · intro c hcm e
        rcases List.mem_cons.1 hcm with h | h
        · rw [e] at h; revert h; decide
        · exact hc c h e
      · exact great_clean (hcs' x hx).2
  · rw [Lib.size_eq, hd, unlines_append, List.length_append]
    have h1 := unl_len ((62 :: h) :: (cs ++ [r.data.toList]))
    have h2 := len_flat (cs := cs) (fun x hx => (hcs x hx).1)
    have h3 : cs.flatten.length + r.data.toList.length = r0.length := by rw [← hfl, List.length_append]
    have h5 : 0 < r.data.toList.length := List.length_pos_iff.2 hne
    rw [List.flatten_cons, List.length_append, List.length_cons, List.length_cons, List.flatten_append, List.length_append, List.length_append] at h1
    simp only [List.flatten_cons, List.flatten_nil, List.append_nil, List.length_cons, List.length_nil] at h1
    omega

theorem full_done {o g r : ByteArray} {k : Nat} {rs : List (List UInt8)} (h : Sofar true o k rs) (hk : k < 100) (h0 : r.size ≤ 60) (h1 : 0 < r.size) (hg : greatB r.data.toList) (hgl : g.size = r.size) (hgr : ∀ c ∈ g.data.toList, 33 ≤ (c.toNat : Int) ∧ (c.toNat : Int) ≤ 126)
    (p : ByteArray) (hp : p = o ++ ⟨#[64]⟩ ++ ⟨(Lib.decDigits k).toArray⟩ ++ ⟨#[10]⟩ ++ r ++ ⟨#[10, 43, 10]⟩ ++ g ++ ⟨#[10]⟩) : Sofar true p (k + 1) (rs ++ [r.data.toList]) := by
  obtain ⟨L, h1', h2, h3, h4⟩ := h
  obtain ⟨d1, d2⟩ := digs k hk
  have hgl' : g.data.toList.length = r.data.toList.length := by rw [← Lib.size_eq, ← Lib.size_eq]; exact hgl
  have hd : p.data.toList = unlines (L ++ [64 :: Lib.decDigits k, r.data.toList, [43], g.data.toList]) := by
    rw [hp, unlines_append]; simp [h1', unlines]
  refine ⟨_, hd, ?_, rec_snoc h3 ⟨by rw [← Lib.size_eq]; omega, .inr ⟨rfl, Lib.decDigits k, g.data.toList, rfl, ?_, hg, hgl', hgr⟩⟩, ?_⟩
  · intro x hx
    rcases List.mem_append.1 hx with hx | hx
    · exact h2 x hx
    · simp only [List.mem_cons, List.not_mem_nil, or_false] at hx
      rcases hx with rfl | rfl | rfl | rfl
      · intro c hcm e
        rcases List.mem_cons.1 hcm with h | h
        · rw [e] at h; revert h; decide
        · exact d1 c h e
      · exact great_clean hg
      · intro c hcm e; rw [List.mem_singleton] at hcm; rw [e] at hcm; revert hcm; decide
      · intro c hcm e; have := hgr c hcm; rw [e] at this; revert this; decide
  · rw [← List.length_pos_iff, ← Lib.size_eq]; exact h1
  · rw [hp]; simp only [ByteArray.size_append]
    have : (⟨(Lib.decDigits k).toArray⟩ : ByteArray).size = (Lib.decDigits k).length := by simp [ByteArray.size]
    rw [this]
    have a1 : (⟨#[64]⟩ : ByteArray).size = 1 := rfl
    have a2 : (⟨#[10]⟩ : ByteArray).size = 1 := rfl
    have a3 : (⟨#[10, 43, 10]⟩ : ByteArray).size = 3 := rfl
    rw [a1, a2, a3]; omega
end Go.Proofs.YtbjgpfhbdmcbbaaDoor.keep
