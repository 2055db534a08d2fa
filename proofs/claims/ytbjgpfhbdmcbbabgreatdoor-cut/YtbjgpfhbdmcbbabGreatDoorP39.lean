import Derived.Test.YtbjgpfhbdmcbbabGreatDoorP25
import Derived.Test.YtbjgpfhbdmcbbabGreatDoorP11
import Derived.Laws.Concat
import Derived.Test.YtbjgpfhbdmcbbabGreatDoorP38
import Derived.Test.YtbjgpfhbdmcbbabGreatDoorP18

/-
  CONTRACT of quernkeep.written.
-/
namespace Go.Proofs.YtbjgpfhbdmcbbabGreatDoor.keep
open Go.RowKit dnamath dna pieces fill parse
set_option linter.unusedVariables false

/-- the lines of one record -/
def Rec1 (q : Bool) (R : List (List UInt8)) (r : List UInt8) : Prop := r.length ≤ 1000000 ∧
  ((q = false ∧ ∃ h cs, R = (62 :: h) :: cs ∧ cs ≠ [] ∧ (∀ x ∈ cs, x ≠ [] ∧ greatB x) ∧ cs.flatten = r) ∨
   (q = true ∧ ∃ h g, R = [64 :: h, r, [43], g] ∧ r ≠ [] ∧ greatB r ∧ g.length = r.length ∧ ∀ c ∈ g, 33 ≤ (c.toNat : Int) ∧ (c.toNat : Int) ≤ 126))

theorem rec_snoc {q : Bool} : ∀ {rs L R : List (List UInt8)} {r : List UInt8}, RecLL q L rs → Rec1 q R r → RecLL q (L ++ R) (rs ++ [r])
  | [], L, R, r, hL, hR => by
    have hL : L = [] := hL
    subst hL
    obtain ⟨h1, h2⟩ := hR
    refine ⟨[], rfl, h1, ?_⟩
    rcases h2 with ⟨hq, h, cs, rfl, x⟩ | ⟨hq, h, g, rfl, x⟩
    · exact .inl ⟨hq, h, cs, by simp, x⟩
    · exact .inr ⟨hq, h, g, by simp, x⟩
  | r0 :: rs, L, R, r, hL, hR => by
    obtain ⟨L', h', hl, hx⟩ := hL
    refine ⟨L' ++ R, rec_snoc h' hR, hl, ?_⟩
    rcases hx with ⟨hq, h, cs, rfl, x⟩ | ⟨hq, h, g, rfl, x⟩
    · exact .inl ⟨hq, h, cs, by simp, x⟩
    · exact .inr ⟨hq, h, g, by simp, x⟩

theorem unl_len (L : List (List UInt8)) : (unlines L).length = L.flatten.length + L.length := by
  induction L with
  | nil => rfl
  | cons x t ih =>
    have e : unlines (x :: t) = x ++ [10] ++ unlines t := by simp [unlines]
    rw [e]; simp [ih]; omega
theorem len_flat : ∀ {cs : List (List UInt8)}, (∀ x ∈ cs, x ≠ []) → cs.length ≤ cs.flatten.length
  | [], _ => Nat.le_refl _
  | x :: t, h => by
    have ih := len_flat (cs := t) (fun y hy => h y (by simp [hy]))
    have hx : 0 < x.length := List.length_pos_iff.2 (h x (by simp))
    rw [List.flatten_cons, List.length_append, List.length_cons]; omega

theorem digs (i : Nat) (hi : i < 100) : clean (Lib.decDigits i) ∧ (Lib.decDigits i).length ≤ 2 := by
  have h : ∀ i : Fin 100, ((Lib.decDigits i.val).all (fun c => c != 10) && decide ((Lib.decDigits i.val).length ≤ 2)) = true := by decide +kernel
  have h1 := h ⟨i, hi⟩
  rw [Bool.and_eq_true] at h1
  refine ⟨fun c hc => ?_, of_decide_eq_true h1.2⟩
  have := List.all_eq_true.1 h1.1 c hc
  simpa using this

theorem great_clean {x : List UInt8} (h : greatB x) : clean x := by
  intro c hc e
  subst e
  have := List.all_eq_true.1 h _ hc
  revert this; decide

theorem wide_ok (x : Int) : -9223372036854775808 ≤ wrap64 x ∧ wrap64 x ≤ 9223372036854775807 := bounds_i64 (wrap64_wf x)

theorem conv_one (p : Nat) (hp : p < 94) (w : World) : (convert 53 9 (.slice (some ⟨w.heap.size, 0, none⟩) 1 1)).run Tryz.prog (w.alloc (.cells #[.int .u8 (33 + (p : Int))] 5)) = .ok (.string ⟨#[UInt8.ofNat (33 + p)]⟩) (w.alloc (.cells #[.int .u8 (33 + (p : Int))] 5)) := by
  refine run_convert_bytes_back (P := Tryz.prog) _ 53 9 5 ⟨w.heap.size, 0, none⟩ 1 [UInt8.ofNat (33 + p)] Tryz.underlying53 Tryz.underlying5 Tryz.underlying9 ?_
  intro j hj
  match j, hj with
  | 0, _ =>
    have e : (UInt8.ofNat (33 + p)).toNat = 33 + p := by rw [UInt8.toNat_ofNat']; omega
    simp [Addr.add]
    have : ((UInt8.ofNat (33 + p)).toNat : Int) = 33 + (p : Int) := by rw [e]; push_cast; rfl
    omega

/-- an input as far as it is written -/
def Sofar (q : Bool) (o : ByteArray) (k : Nat) (rs : List (List UInt8)) : Prop :=
  ∃ L, o.data.toList = unlines L ∧ (∀ x ∈ L, clean x) ∧ RecLL q L rs ∧ o.size ≤ 200 * k
/-- a record with > as far as it is written -/
def Part (o : ByteArray) (k : Nat) (rs : List (List UInt8)) (r0 : List UInt8) (p : ByteArray) (r : List UInt8) : Prop :=
  ∃ L h cs, p.data.toList = unlines (L ++ (62 :: h) :: cs) ∧ (∀ x ∈ L, clean x) ∧ RecLL false L rs ∧ (unlines L).length ≤ 200 * k ∧ clean h ∧ h.length ≤ 2 ∧ (∀ x ∈ cs, x ≠ [] ∧ greatB x) ∧ cs.flatten ++ r = r0 ∧ r ≠ [] ∧ greatB r

theorem part_size {o p : ByteArray} {k : Nat} {rs : List (List UInt8)} {r0 r : List UInt8} (h : Part o k rs r0 p r) (h0 : r0.length ≤ 60) (hk : k ≤ 24) : p.size ≤ 200 * k + 130 := by
  obtain ⟨L, h, cs, hp, _, _, hl, _, hh, hcs, hfl, _⟩ := h
  rw [Lib.size_eq, hp, unlines_append, List.length_append]
  have h1 := unl_len ((62 :: h) :: cs)
  have h2 := len_flat (cs := cs) (fun x hx => (hcs x hx).1)
  have h3 : cs.flatten.length + r.length = r0.length := by rw [← hfl, List.length_append]
  rw [List.flatten_cons, List.length_append, List.length_cons, List.length_cons] at h1
  omega

theorem part_start {o : ByteArray} {k : Nat} {rs : List (List UInt8)} {r0 : List UInt8} (h : Sofar false o k rs) (hr : r0 ≠ []) (hg : greatB r0) (hk : k < 100) (p : ByteArray) (hp : p = o ++ ⟨#[62]⟩ ++ ⟨(Lib.decDigits k).toArray⟩ ++ ⟨#[10]⟩) : Part o k rs r0 p r0 := by
  obtain ⟨L, h1, h2, h3, h4⟩ := h
  obtain ⟨d1, d2⟩ := digs k hk
  refine ⟨L, Lib.decDigits k, [], ?_, h2, h3, ?_, d1, d2, fun x hx => by simp at hx, by simp, hr, hg⟩
  · rw [hp, unlines_append]; simp [h1, unlines]
  · rw [← h1, ← Lib.size_eq]; exact h4

theorem part_more {o p : ByteArray} {k : Nat} {rs : List (List UInt8)} {r0 : List UInt8} {r : ByteArray} (h : Part o k rs r0 p r.data.toList) (n : Nat) (hn : n < r.size) (h1 : 1 ≤ n) : Part o k rs r0 (p ++ r.extract 0 n ++ ⟨#[10]⟩) (r.extract n r.size).data.toList := by
  obtain ⟨L, h, cs, hp, hL, hr, hl, hc, hh, hcs, hfl, hne, hg⟩ := h
  have e1 : (r.extract 0 n).data.toList = r.data.toList.take n := by simp [ByteArray.data_extract]
  have e2 : (r.extract n r.size).data.toList = r.data.toList.drop n := by
    rw [Lib.extract_data, Lib.size_eq, List.take_of_length_le (by rw [List.length_drop]; omega)]
  have hlen : n < r.data.toList.length := by rw [← Lib.size_eq]; exact hn
  have hspl := List.take_append_drop n r.data.toList
  have hg1 : greatB (r.data.toList.take n) ∧ greatB (r.data.toList.drop n) := by
    unfold greatB at hg ⊢
    rw [← hspl, List.all_append, Bool.and_eq_true] at hg
    exact hg
  refine ⟨L, h, cs ++ [r.data.toList.take n], ?_, hL, hr, hl, hc, hh, ?_, ?_, ?_, ?_⟩
  · rw [show L ++ (62 :: h) :: (cs ++ [r.data.toList.take n]) = (L ++ (62 :: h) :: cs) ++ [r.data.toList.take n] by simp, unlines_append, unlines_one, ← hp, ← e1]
    simp
  · intro x hx
    rcases List.mem_append.1 hx with hx | hx
    · exact hcs x hx
    · rw [List.mem_singleton] at hx; subst hx
      refine ⟨?_, hg1.1⟩
      rw [← List.length_pos_iff, List.length_take]; omega
  · rw [e2, List.flatten_append]; simp [hfl]
  · rw [e2, ← List.length_pos_iff, List.length_drop]; omega
  · rw [e2]; exact hg1.2

theorem part_done {o p : ByteArray} {k : Nat} {rs : List (List UInt8)} {r0 : List UInt8} {r : ByteArray} (h : Part o k rs r0 p r.data.toList) (h0 : r0.length ≤ 60) : Sofar false (p ++ r ++ ⟨#[10]⟩) (k + 1) (rs ++ [r0]) := by
  obtain ⟨L, h, cs, hp, hL, hr, hl, hc, hh, hcs, hfl, hne, hg⟩ := h
  have hcs' : ∀ x ∈ cs ++ [r.data.toList], x ≠ [] ∧ greatB x := by
    intro x hx
    rcases List.mem_append.1 hx with hx | hx
    · exact hcs x hx
    · rw [List.mem_singleton] at hx; subst hx; exact ⟨hne, hg⟩
  have hd : (p ++ r ++ ⟨#[10]⟩).data.toList = unlines (L ++ (62 :: h) :: (cs ++ [r.data.toList])) := by
    rw [show L ++ (62 :: h) :: (cs ++ [r.data.toList]) = (L ++ (62 :: h) :: cs) ++ [r.data.toList] by simp, unlines_append, unlines_one, ← hp]
    simp
  refine ⟨L ++ (62 :: h) :: (cs ++ [r.data.toList]), hd, ?_, rec_snoc hr ⟨by omega, .inl ⟨rfl, h, _, rfl, by simp, hcs', by rw [List.flatten_append]; simpa using hfl⟩⟩, ?_⟩
  · intro x hx
    rcases List.mem_append.1 hx with hx | hx
    · exact hL x hx
    · rcases List.mem_cons.1 hx with rfl | hx
      · intro c hcm e
        rcases List.mem_cons.1 hcm with h | h
        · rw [e] at h; revert h; decide
        · exact hc c h e
      · exact great_clean (hcs' x hx).2
  · rw [Lib.size_eq, hd, unlines_append, List.length_append]
    have h1 := unl_len ((62 :: h) :: (cs ++ [r.data.toList]))
    have h2 := len_flat (cs := cs) (fun x hx => (hcs x hx).1)
    have h3 : cs.flatten.length + r.data.toList.length = r0.length := by rw [← hfl, List.length_append]
    have h5 : 0 < r.data.toList.length := List.length_pos_iff.2 hne
    rw [List.flatten_cons, List.length_append, List.length_cons, List.length_cons, List.flatten_append, List.length_append, List.length_append] at h1
    simp only [List.flatten_cons, List.flatten_nil, List.append_nil, List.length_cons, List.length_nil] at h1
    omega

theorem full_done {o g r : ByteArray} {k : Nat} {rs : List (List UInt8)} (h : Sofar true o k rs) (hk : k < 100) (h0 : r.size ≤ 60) (h1 : 0 < r.size) (hg : greatB r.data.toList) (hgl : g.size = r.size) (hgr : ∀ c ∈ g.data.toList, 33 ≤ (c.toNat : Int) ∧ (c.toNat : Int) ≤ 126)
    (p : ByteArray) (hp : p = o ++ ⟨#[64]⟩ ++ ⟨(Lib.decDigits k).toArray⟩ ++ ⟨#[10]⟩ ++ r ++ ⟨#[10, 43, 10]⟩ ++ g ++ ⟨#[10]⟩) : Sofar true p (k + 1) (rs ++ [r.data.toList]) := by
  obtain ⟨L, h1', h2, h3, h4⟩ := h
  obtain ⟨d1, d2⟩ := digs k hk
  have hgl' : g.data.toList.length = r.data.toList.length := by rw [← Lib.size_eq, ← Lib.size_eq]; exact hgl
  have hd : p.data.toList = unlines (L ++ [64 :: Lib.decDigits k, r.data.toList, [43], g.data.toList]) := by
    rw [hp, unlines_append]; simp [h1', unlines]
  refine ⟨_, hd, ?_, rec_snoc h3 ⟨by rw [← Lib.size_eq]; omega, .inr ⟨rfl, Lib.decDigits k, g.data.toList, rfl, ?_, hg, hgl', hgr⟩⟩, ?_⟩
  · intro x hx
    rcases List.mem_append.1 hx with hx | hx
    · exact h2 x hx
    · simp only [List.mem_cons, List.not_mem_nil, or_false] at hx
      rcases hx with rfl | rfl | rfl | rfl
      · intro c hcm e
        rcases List.mem_cons.1 hcm with h | h
        · rw [e] at h; revert h; decide
        · exact d1 c h e
      · exact great_clean hg
      · intro c hcm e; rw [List.mem_singleton] at hcm; rw [e] at hcm; revert hcm; decide
      · intro c hcm e; have := hgr c hcm; rw [e] at this; revert this; decide
  · rw [← List.length_pos_iff, ← Lib.size_eq]; exact h1
  · rw [hp]; simp only [ByteArray.size_append]
    have : (⟨(Lib.decDigits k).toArray⟩ : ByteArray).size = (Lib.decDigits k).length := by simp [ByteArray.size]
    rw [this]
    have a1 : (⟨#[64]⟩ : ByteArray).size = 1 := rfl
    have a2 : (⟨#[10]⟩ : ByteArray).size = 1 := rfl
    have a3 : (⟨#[10, 43, 10]⟩ : ByteArray).size = 3 := rfl
    rw [a1, a2, a3]; omega
end Go.Proofs.YtbjgpfhbdmcbbabGreatDoor.keep

/-
  CONTRACT of quernkeep.written: the walk.
-/
namespace Go.Proofs.YtbjgpfhbdmcbbabGreatDoor.keep
open Go.RowKit dnamath dna pieces fill parse
set_option linter.unusedVariables false

theorem take_datas {ps : List ByteArray} {k : Nat} (hk : k < ps.length) : datas (ps.take (k + 1)) = datas (ps.take k) ++ [ps[k].data.toList] := by
  rw [List.take_succ_eq_append_getElem hk, datas_snoc]

theorem dig_size (k : Nat) (hk : k < 100) : (⟨(Lib.decDigits k).toArray⟩ : ByteArray).size ≤ 2 := by
  have := (digs k hk).2
  simpa [ByteArray.size] using this
theorem sofar_size {q : Bool} {o : ByteArray} {k : Nat} {rs : List (List UInt8)} (h : Sofar q o k rs) : o.size ≤ 200 * k := by
  obtain ⟨L, _, _, _, h⟩ := h; exact h
theorem datas_nonempty {r : ByteArray} (h : 0 < r.size) : r.data.toList ≠ [] := by
  rw [← List.length_pos_iff, ← Lib.size_eq]; exact h
theorem gr_snoc {g : ByteArray} {x : UInt8} (hp : 33 ≤ (x.toNat : Int) ∧ (x.toNat : Int) ≤ 126) (h : ∀ c ∈ g.data.toList, 33 ≤ (c.toNat : Int) ∧ (c.toNat : Int) ≤ 126) : ∀ c ∈ (g ++ ⟨#[x]⟩).data.toList, 33 ≤ (c.toNat : Int) ∧ (c.toNat : Int) ≤ 126 := by
  intro c hc
  have hc' : c ∈ g.data.toList ∨ c = x := by simpa using hc
  rcases hc' with hc | rfl
  · exact h c hc
  · exact hp
theorem conv_byte (p : Nat) (hp : p < 94) (w : World) : ∃ c : UInt8, (convert 53 9 (.slice (some ⟨w.heap.size, 0, none⟩) 1 1)).run Tryz.prog (w.alloc (.cells #[.int .u8 (33 + (p : Int))] 5)) = .ok (.string ⟨#[c]⟩) (w.alloc (.cells #[.int .u8 (33 + (p : Int))] 5)) ∧ 33 ≤ (c.toNat : Int) ∧ (c.toNat : Int) ≤ 126 := by
  have e : (UInt8.ofNat (33 + p)).toNat = 33 + p := by rw [UInt8.toNat_ofNat']; omega
  exact ⟨_, conv_one p hp w, by rw [e]; omega, by rw [e]; omega⟩
theorem itoa (k : Nat) (hk : k < 100) (w : World) : Calls Tryz.prog 21 #[.int .i64 k] w fun e w' => ∃ D : ByteArray, e = .returned (.string D) ∧ D = ⟨(Lib.decDigits k).toArray⟩ ∧ D.size ≤ 2 ∧ w' = w :=
  (Tryz.strconv_Itoa_small k hk w).mono fun e w' ⟨he, hw⟩ => ⟨_, he, rfl, dig_size k hk, hw⟩

set_option maxHeartbeats 2000000 in
set_option maxRecDepth 100000 in
theorem written_zero (v : Value) (ps : List ByteArray) (form wide : Int) (w : World) (hv : SRow w v ps) (hps : ReadsIs ps) (hf : -9223372036854775808 ≤ form ∧ form ≤ 9223372036854775807) (hw : -9223372036854775808 ≤ wide ∧ wide ≤ 9223372036854775807) (hz : pickI form 2 = 0) :
    Calls Tryz.prog 6 #[v, .int .i64 form, .int .i64 wide] w fun e w' => ∃ s, e = .returned (.string s) ∧ Sofar false s ps.length (datas ps) ∧ w' = w := by
  obtain ⟨hl12, hrd⟩ := hps
  have HRD : Hid (∀ p ∈ ps, 0 < p.size ∧ p.size ≤ 60 ∧ greatB p.data.toList) := hrd
  clear hrd
  obtain ⟨ao, cap, rfl, HC⟩ : ∃ ao cap, v = .slice ao ps.length cap ∧ Hid (∀ (j : Nat) (hj : j < ps.length), ∃ g, ao = some ⟨g, 0, none⟩ ∧ w.cell? ⟨g, j, none⟩ = some (.string ps[j])) := by
    rcases hv with ⟨rfl, rfl⟩ | ⟨g, cap, rfl, _, hc⟩
    · exact ⟨none, 0, rfl, fun j hj => by simp at hj⟩
    · exact ⟨_, cap, rfl, fun j hj => ⟨g, rfl, hc j hj⟩⟩
  clear hv
  go_enter Tryz.func6, Tryz.ntmps6
  go_wp2_with fail
  refine (pick_any wide 9 w hw (by omega) (by omega)).mono ?_
  rintro e w' ⟨pn, rfl, hpn, rfl⟩
  obtain ⟨n, hn⟩ : ∃ n : Nat, n = 1 + pn := ⟨_, rfl⟩
  have hN : (1 + (pn : Int)) = (n : Int) := by omega
  have hn1 : 1 ≤ n := by omega
  have hn9 : n ≤ 9 := by omega
  clear hn hpn
  go_wp2_with fail
  go_loopw [7, 9] (fun vo i wr => ∃ (k : Nat) (o : ByteArray), k ≤ ps.length ∧ i = .int .i64 k ∧ vo = .string o ∧ Hid (Sofar false o k (datas (ps.take k))) ∧ wr = w') (fun _ i _ => ps.length - (intOf i).toNat)
  case atStart => exact ⟨0, ⟨#[]⟩, Nat.zero_le _, rfl, rfl, ⟨[], rfl, fun x hx => by simp at hx, rfl, Nat.le_refl 0⟩, rfl⟩
  case round =>
    obtain ⟨k, o, hk, rfl, rfl, HS, hwr⟩ := hrel
    have hwr' := hwr.symm
    subst hwr'
    clear hwr
    by_cases hlt : k < ps.length
    · obtain ⟨g, rfl, hcell⟩ := HC.out k hlt
      have hos := sofar_size HS.out
      have HT : Hid (datas (ps.take (k + 1)) = datas (ps.take k) ++ [ps[k].data.toList]) := take_datas hlt
      have hr := HRD.out ps[k] (List.getElem_mem _)
      obtain ⟨r0, hr0⟩ : ∃ r0, r0 = ps[k] := ⟨_, rfl⟩
      rw [← hr0] at hcell HT hr
      clear hr0
      obtain ⟨hra, hrb, hrc⟩ := hr
      have HG : Hid (greatB r0.data.toList) := hrc
      have HR0 : Hid (r0.data.toList.length ≤ 60) := by show _ ≤ _; rw [← Lib.size_eq]; exact hrb
      clear hrc
      go_wp2_with (go_at_call 17; refine (pick_is form 2 _ hf (by omega) (by omega)).mono ?_; rintro e w2 ⟨rfl, hw2⟩; have hw3 := hw2.symm; subst hw3)
      go_wp2_with (go_at_call 21; refine (itoa k (by omega) _).mono ?_; rintro e w2 ⟨D, rfl, hDD, hDs, hw2⟩; have HDD : Hid (D = ⟨(Lib.decDigits k).toArray⟩) := hDD; clear hDD; have hw3 := hw2.symm; subst hw3)
      go_loopw [7, 10] (fun vo vr wr => ∃ (p r : ByteArray), vo = .string p ∧ vr = .string r ∧ 0 < r.size ∧ r.size ≤ 60 ∧ p.size ≤ 6000 ∧ Hid (Part o k (datas (ps.take k)) r0.data.toList p r.data.toList) ∧ wr = w') (fun _ vr _ => match vr with | .string r => r.size | _ => 0)
      case atStart =>
        have hP := part_start HS.out (datas_nonempty hra) HG.out (by omega) _ (by rw [← HDD.out])
        exact ⟨_, _, rfl, rfl, hra, hrb, by have := part_size hP HR0.out (by omega); omega, hP, rfl⟩
      case round =>
        obtain ⟨p, r, rfl, rfl, hr1, hr2, hp1, HP, hwr⟩ := hrel
        have hwr' := hwr.symm
        subst hwr'
        clear hwr
        by_cases hgt : n < r.size
        · have hs1 := slice_to r n (by omega)
          have hs2 := slice_from r n (by omega)
          have hes : (r.extract 0 n).size ≤ 60 := by rw [ByteArray.size_extract]; omega
          go_wp2
          go_roundw
          case rel =>
            have hP := part_more HP.out n hgt hn1
            exact ⟨_, _, rfl, rfl, by rw [ByteArray.size_extract]; omega, by rw [ByteArray.size_extract]; omega, by have := part_size hP HR0.out (by omega); omega, hP, trivial⟩
          case measure => simp [ByteArray.size_extract]; omega
        · go_wp2
          go_roundw
          case rel => exact ⟨k + 1, _, by omega, by go_num, rfl, by show Sofar _ _ _ _; rw [HT.out]; exact part_done HP.out HR0.out, trivial⟩
          case measure => simp [intOf]; omega
    · have hkk : k = ps.length := by omega
      have HS2 : Hid (Sofar false o ps.length (datas ps)) := by
        have := HS.out
        rw [hkk, List.take_length] at this; exact this
      go_wp2
      go_ret
      exact ⟨_, rfl, HS2.out, rfl⟩

set_option maxHeartbeats 2000000 in
set_option maxRecDepth 100000 in
theorem written_one (v : Value) (ps : List ByteArray) (form wide : Int) (w : World) (hv : SRow w v ps) (hps : ReadsIs ps) (hf : -9223372036854775808 ≤ form ∧ form ≤ 9223372036854775807) (hw : -9223372036854775808 ≤ wide ∧ wide ≤ 9223372036854775807) (hz : pickI form 2 ≠ 0) :
    Calls Tryz.prog 6 #[v, .int .i64 form, .int .i64 wide] w fun e w' => ∃ s, e = .returned (.string s) ∧ Sofar true s ps.length (datas ps) ∧ Below w.heap.size w w' := by
  obtain ⟨hl12, hrd⟩ := hps
  have HRD : Hid (∀ p ∈ ps, 0 < p.size ∧ p.size ≤ 60 ∧ greatB p.data.toList) := hrd
  clear hrd
  obtain ⟨ao, cap, rfl, HC⟩ : ∃ ao cap, v = .slice ao ps.length cap ∧ Hid (∀ (j : Nat) (hj : j < ps.length), ∃ g, ao = some ⟨g, 0, none⟩ ∧ g < w.heap.size ∧ w.cell? ⟨g, j, none⟩ = some (.string ps[j])) := by
    rcases hv with ⟨rfl, rfl⟩ | ⟨g, cap, rfl, hg, hc⟩
    · exact ⟨none, 0, rfl, fun j hj => by simp at hj⟩
    · exact ⟨_, cap, rfl, fun j hj => ⟨g, rfl, hg, hc j hj⟩⟩
  clear hv
  obtain ⟨P, hP⟩ : ∃ P, P = pickI form 2 := ⟨_, rfl⟩
  have hP0 : (P == 0) = false := by rw [hP, beq_eq_false_iff_ne]; exact hz
  have HPK : Hid (pickI form 2 = P) := hP.symm
  clear hz hP
  go_enter Tryz.func6, Tryz.ntmps6
  go_wp2_with fail
  refine (pick_any wide 9 w hw (by omega) (by omega)).mono ?_
  rintro e w' ⟨pn, rfl, hpn, rfl⟩
  go_wp2_with fail
  go_loopw [7, 9] (fun vo i wr => ∃ (k : Nat) (o : ByteArray), k ≤ ps.length ∧ i = .int .i64 k ∧ vo = .string o ∧ Hid (Sofar true o k (datas (ps.take k))) ∧ Below w'.heap.size w' wr) (fun _ i _ => ps.length - (intOf i).toNat)
  case atStart => exact ⟨0, ⟨#[]⟩, Nat.zero_le _, rfl, rfl, ⟨[], rfl, fun x hx => by simp at hx, rfl, Nat.le_refl 0⟩, Below.refl _ _⟩
  case round =>
    obtain ⟨k, o, hk, rfl, rfl, HS, hb⟩ := hrel
    rename World => w1
    by_cases hlt : k < ps.length
    · obtain ⟨g, rfl, hgl, hcell0⟩ := HC.out k hlt
      have hcell : w1.cell? ⟨g, k, none⟩ = some (.string ps[k]) := (hb.cell (by exact hgl)).trans hcell0
      have hos := sofar_size HS.out
      have HT : Hid (datas (ps.take (k + 1)) = datas (ps.take k) ++ [ps[k].data.toList]) := take_datas hlt
      have hr := HRD.out ps[k] (List.getElem_mem _)
      obtain ⟨r0, hr0⟩ : ∃ r0, r0 = ps[k] := ⟨_, rfl⟩
      rw [← hr0] at hcell HT hr
      clear hr0 hcell0
      obtain ⟨hra, hrb, hrc⟩ := hr
      have HG : Hid (greatB r0.data.toList) := hrc
      have HB : Hid (Below w'.heap.size w' w1) := hb
      have hb1 : w'.heap.size ≤ w1.heap.size := hb.size
      clear hrc hb
      go_wp2_with (go_at_call 17; refine (pick_is form 2 _ hf (by omega) (by omega)).mono ?_; rintro e w2 ⟨rfl, hw2⟩; rw [HPK.out]; have hw3 := hw2.symm; subst hw3)
      go_wp2_with fail
      go_loopw [11, 12] (fun vq j wr => ∃ (j' : Nat) (q : ByteArray), j' ≤ r0.size ∧ j = .int .i64 j' ∧ vq = .string q ∧ q.size = j' ∧ Hid (∀ c ∈ q.data.toList, 33 ≤ (c.toNat : Int) ∧ (c.toNat : Int) ≤ 126) ∧ Hid (Below w'.heap.size w' wr) ∧ w'.heap.size ≤ wr.heap.size) (fun _ j _ => r0.size - (intOf j).toNat)
      case atStart => exact ⟨0, ⟨#[]⟩, Nat.zero_le _, rfl, rfl, rfl, fun c hc => by simp at hc, HB.out, hb1⟩
      case round =>
        obtain ⟨j, q, hj, rfl, rfl, hq, HQ, HB2, hb2⟩ := hrel
        have HQS : Hid (q.size = j) := hq
        have hq60 : q.size ≤ 60 := by omega
        clear hq
        rename World => w2
        by_cases hjl : j < r0.size
        · have hw' := wide_ok (wide + (j : Int))
          go_wp2_with (go_at_call 17; refine (pick_any _ 94 _ hw' (by omega) (by omega)).mono ?_; rintro e w3 ⟨p, rfl, hp, hw3⟩; have hw4 := hw3.symm; subst hw4; obtain ⟨c, hcv, hcr⟩ := conv_byte p (by omega) w2; have HCR : Hid (33 ≤ (c.toNat : Int) ∧ (c.toNat : Int) ≤ 126) := hcr; clear hcr)
          go_roundw
          case rel => exact ⟨j + 1, _, by omega, by go_num, rfl, by rw [ByteArray.size_append, HQS.out]; rfl, gr_snoc HCR.out HQ.out, HB2.out.alloc hb2 _, by simp; omega⟩
          case measure => simp [intOf]; omega
        · have HJJ : Hid (q.size = r0.size) := by have := HQS.out; show _ = _; omega
          go_wp2_with (go_at_call 21; refine (itoa k (by omega) _).mono ?_; rintro e w3 ⟨D, rfl, hDD, hDs, hw2⟩; have HDD : Hid (D = ⟨(Lib.decDigits k).toArray⟩) := hDD; clear hDD; have hw3 := hw2.symm; subst hw3)
          go_roundw
          case rel => exact ⟨k + 1, _, by omega, by go_num, rfl, by show Sofar _ _ _ _; rw [HT.out]; exact full_done HS.out (by omega) hrb hra HG.out HJJ.out HQ.out _ (by rw [← HDD.out]), HB2.out⟩
          case measure => simp [intOf]; omega
    · have hkk : k = ps.length := by omega
      have HS2 : Hid (Sofar true o ps.length (datas ps)) := by
        have := HS.out
        rw [hkk, List.take_length] at this; exact this
      go_wp2
      go_ret
      exact ⟨_, rfl, HS2.out, hb⟩

/-- what written writes is of a form, and reads as the reads -/
theorem written_any (v : Value) (ps : List ByteArray) (form wide : Int) (w : World) (hv : SRow w v ps) (hps : ReadsIs ps) (hf : -9223372036854775808 ≤ form ∧ form ≤ 9223372036854775807) (hw : -9223372036854775808 ≤ wide ∧ wide ≤ 9223372036854775807) :
    Calls Tryz.prog 6 #[v, .int .i64 form, .int .i64 wide] w fun e w' => ∃ s, e = .returned (.string s) ∧ s.size ≤ 20000 ∧ FormIs s (datas ps) ∧ Below w.heap.size w w' := by
  have hl : (datas ps).length ≤ 20000 := by rw [datas_length]; have := hps.1; omega
  by_cases hz : pickI form 2 = 0
  · refine (written_zero v ps form wide w hv hps hf hw hz).mono fun e w' ⟨s, he, hs, hw'⟩ => ?_
    subst hw'
    have h1 := sofar_size hs
    obtain ⟨L, a, b, c, d⟩ := hs
    exact ⟨s, he, by have := hps.1; omega, form_of false s L (datas ps) a b c hl, Below.refl _ _⟩
  · refine (written_one v ps form wide w hv hps hf hw hz).mono fun e w' ⟨s, he, hs, hb⟩ => ?_
    have h1 := sofar_size hs
    obtain ⟨L, a, b, c, d⟩ := hs
    exact ⟨s, he, by have := hps.1; omega, form_of true s L (datas ps) a b c hl, hb⟩
end Go.Proofs.YtbjgpfhbdmcbbabGreatDoor.keep

/-
  CONTRACTS of quernkeep: options, counted; inputs that were written fit.
-/
namespace Go.Proofs.YtbjgpfhbdmcbbabGreatDoor.keep
open Go.RowKit dnamath dna diskm disk hex pieces files parse words kinds jobs base fill
set_option linter.unusedVariables false

theorem new_look (c : Int) (n : ByteArray) : (newDisk c).look n = none := by
  unfold DS.look newDisk
  simp [findIs]
theorem new_room : RoomB (newDisk 1152921504606846976) 0 := by
  refine ⟨⟨⟨rfl, rfl⟩, ⟨(fun x hx => by cases hx), Nat.le_refl _, Nat.le_refl _, Nat.le_refl _, Nat.le_refl _, Nat.le_refl _, by decide, by decide, by decide, by decide⟩, ?_, ?_, ?_⟩, rfl, Nat.le_refl _, ?_⟩
  · exact List.Pairwise.nil
  · intro x hx; cases hx
  · exact ⟨rfl, List.Pairwise.nil, (fun x hx => by cases hx), (fun x hx => by cases hx), (fun x hx => by cases hx), (fun x hx => by cases hx), (fun x hx => by cases hx), (fun x hx => by cases hx)⟩
  · simp [findIs, newDisk]

theorem winTo_len (l : List UInt8) (k : Nat) : ∀ n, (winTo l k n).length ≤ n
  | 0 => Nat.le_refl _
  | n + 1 => by
    have ih := winTo_len l k n
    unfold winTo
    rw [List.length_append]
    split <;> simp <;> omega
theorem winL_len {k : Nat} {l : List UInt8} (hk : 1 ≤ k) : (winL k l).length ≤ l.length := by
  have h : validW l k l.length = false := by
    unfold validW
    have e : cut l l.length k = [] := by unfold cut; simp
    rw [e]
    have : ((([] : List UInt8).length == k)) = false := by rw [beq_eq_false_iff_ne]; simp; omega
    rw [this]; rfl
  unfold winL winTo
  rw [h, List.length_append]
  have := winTo_len l k l.length
  simpa using this
theorem words_len {k L : Nat} (hk : 1 ≤ k) : ∀ {rs : List (List UInt8)}, (∀ l ∈ rs, l.length ≤ L) → (wordsOf k rs).length ≤ rs.length * L
  | [], _ => by simp [wordsOf]
  | l :: rs, h => by
    have ih := words_len hk (rs := rs) (fun x hx => h x (List.mem_cons_of_mem _ hx))
    have h1 := winL_len (k := k) (l := l) hk
    have h2 := h l (List.mem_cons_self ..)
    have e : (wordsOf k (l :: rs)).length = (winL k l).length + (wordsOf k rs).length := by simp [wordsOf]
    rw [e, List.length_cons, Nat.add_mul, Nat.one_mul]
    omega

/-- options that may be -/
structure OptIs (K M Bn : Nat) : Prop where
  k1 : 1 ≤ K
  k2 : K ≤ 31
  odd : K % 2 = 1
  m1 : 1 ≤ M
  m2 : M ≤ K
  m3 : M ≤ 11
  b1 : 1 ≤ Bn
  b2 : Bn ≤ 16
theorem fit_of {K M Bn : Nat} {ps : List ByteArray} {s : ByteArray} (ho : OptIs K M Bn) (hps : ReadsIs ps) (hs : s.size ≤ 20000) (hf : FormIs s (datas ps)) : Fit K M Bn s (datas ps) := by
  have hr : ∀ l ∈ datas ps, readB l = true ∧ l.length ≤ 60 := by
    intro l hl
    obtain ⟨p, hp, rfl⟩ := List.mem_map.1 hl
    have h := hps.2 p hp
    exact ⟨h.2.2, by rw [← Lib.size_eq]; exact h.2.1⟩
  refine ⟨ho.k1, ho.k2, ho.odd, ho.m1, ho.m2, ho.m3, ho.b1, ho.b2, hs, hf, (fun l hl => ⟨(hr l hl).1, by have := (hr l hl).2; omega⟩), ?_, ?_⟩
  · rw [datas_length]; have := hps.1; omega
  · have h1 := words_len ho.k1 (L := 60) (fun l hl => (hr l hl).2)
    rw [datas_length] at h1
    have := hps.1
    omega

set_option maxHeartbeats 2000000 in
set_option maxRecDepth 100000 in
theorem options_any (k m bins : Int) (w : World) (hk : -9223372036854775808 ≤ k ∧ k ≤ 9223372036854775807) (hm : -9223372036854775808 ≤ m ∧ m ≤ 9223372036854775807) (hb : -9223372036854775808 ≤ bins ∧ bins ≤ 9223372036854775807) :
    Calls Tryz.prog 5 #[.int .i64 k, .int .i64 m, .int .i64 bins] w fun e w' => ∃ K M Bn : Nat, e = .returned (optV K M Bn) ∧ OptIs K M Bn ∧ (K : Int) = 1 + 2 * pickI k 16 ∧ Below w.heap.size w w' := by
  obtain ⟨p, hp⟩ : ∃ p : Nat, (p : Int) = pickI k 16 := ⟨(pickI k 16).toNat, Int.toNat_of_nonneg (pickI_lt k 16 (by omega)).1⟩
  have hp16 : p < 16 := by have := (pickI_lt k 16 (by omega)).2; omega
  obtain ⟨q, hq⟩ : ∃ q : Nat, (q : Int) = pickI bins 16 := ⟨(pickI bins 16).toNat, Int.toNat_of_nonneg (pickI_lt bins 16 (by omega)).1⟩
  have hq16 : q < 16 := by have := (pickI_lt bins 16 (by omega)).2; omega
  have cp : ∀ W, Calls Tryz.prog 17 #[.int .i64 k, .int .i64 16] W fun e w' => e = .returned (.int .i64 (p : Int)) ∧ w' = W := fun W => by rw [hp]; exact pick_is k 16 W hk (by omega) (by omega)
  have cq : ∀ W, Calls Tryz.prog 17 #[.int .i64 bins, .int .i64 16] W fun e w' => e = .returned (.int .i64 (q : Int)) ∧ w' = W := fun W => by rw [hq]; exact pick_is bins 16 W hb (by omega) (by omega)
  have HP : Hid ((p : Int) = pickI k 16) := hp
  have hmin : 1 ≤ min (1 + 2 * (p : Int)) 11 ∧ min (1 + 2 * (p : Int)) 11 ≤ 11 ∧ min (1 + 2 * (p : Int)) 11 ≤ 1 + 2 * (p : Int) := by omega
  obtain ⟨mn, hmn⟩ : ∃ mn, mn = min (1 + 2 * (p : Int)) 11 := ⟨_, rfl⟩
  have cm : ∀ W, Calls Tryz.prog 17 #[.int .i64 m, .int .i64 mn] W fun e w' => ∃ r : Nat, e = .returned (.int .i64 (r : Int)) ∧ (r : Int) < mn ∧ w' = W := fun W => pick_any m mn W hm (by omega) (by omega)
  rw [← hmn] at hmin
  clear hp hq
  go_enter Tryz.func5, Tryz.ntmps5
  go_wp2_with fail
  refine (cp _).mono ?_
  rintro e w1 ⟨rfl, hw1⟩
  subst hw1
  go_wp2_with fail
  refine (cq _).mono ?_
  rintro e w2 ⟨rfl, hw2⟩
  subst hw2
  go_wp2_with fail
  rw [← hmn]
  refine (cm _).mono ?_
  rintro e w3 ⟨r, rfl, hr, hw3⟩
  subst hw3
  go_wp2
  exact bodyPost_ret (v := optV (1 + 2 * p) (1 + r) (1 + q)) (by simp [results, Tryz.results5, go_sem]) rfl ⟨_, _, _, rfl, ⟨by omega, by omega, by omega, by omega, by omega, by omega, by omega, by omega⟩, by rw [← HP.out]; omega, by repeat (first | exact Below.refl _ _ | refine Below.setCell ?_ (by simp) _ | refine Below.alloc ?_ (by simp) _)⟩

theorem found_nil {es : List Ent} {i : Nat} {f : Bool} (h : FoundAt es [] i f) : i = 0 := by
  rcases Nat.eq_zero_or_pos i with h0 | h0
  · exact h0
  · have hle := h.le
    obtain ⟨x, hx⟩ : ∃ x, es[0]? = some x := ⟨_, List.getElem?_eq_getElem (by omega)⟩
    exact absurd (h.less 0 x h0 hx) (List.not_lt_nil _)

set_option maxHeartbeats 2000000 in
set_option maxRecDepth 100000 in
theorem counted_any {Bo : Nat} (K M Bn : Nat) (input : ByteArray) (rs : List (List UInt8)) (a bb aE : Addr) (w : World) (hG : Gl w a bb aE) (hBo : Bo ≤ w.heap.size) (hF : Fit K M Bn input rs) :
    Calls Tryz.prog 8 #[.string input, optV K M Bn] w fun e w' => ∃ v es, e = .returned (.tuple #[v, .bool true]) ∧ w'.ownsRow w.heap.size 58 2 v es.length (ecells es) ∧ TallyOf (wordsOf K rs) (es.map cv) ∧ New Bo w w' := by
  have HG : Hid (Gl w a bb aE) := hG
  have HF : Hid (Fit K M Bn input rs) := hF
  have hwl := hF.words
  obtain ⟨R, hR⟩ : ∃ R, R = runB (textB K M Bn input) := ⟨_, rfl⟩
  have HRZ : Hid (R.size ≤ 17 ∧ ∀ d ∈ R.data.toList, (48 ≤ d.toNat ∧ d.toNat ≤ 57) ∨ (97 ≤ d.toNat ∧ d.toNat ≤ 102)) := by rw [hR]; exact ⟨run_size _, run_hex _⟩
  have HR : Hid (R = runB (textB K M Bn input)) := hR
  clear hR hF hG
  go_enter Tryz.func8, Tryz.ntmps8
  go_wp2_with fail
  obtain ⟨W1, hW1⟩ : ∃ W1, W1 = w.alloc (.cells #[.int .i64 (K : Int), .int .i64 (M : Int), .int .i64 (Bn : Int)] 25) := ⟨_, rfl⟩
  have hq1 : W1.heap[w.heap.size]? = some (.cells #[.int .i64 (K : Int), .int .i64 (M : Int), .int .i64 (Bn : Int)] 25 (0, 0)) := by rw [hW1]; exact heap_alloc_new _ _
  have B1 : Below w.heap.size w W1 := by rw [hW1]; exact (Below.refl _ w).alloc (Nat.le_refl _) _
  rw [← hW1]
  clear hW1
  have hBo1 : Bo ≤ W1.heap.size := Nat.le_trans hBo B1.size
  refine (New_any (Bo := Bo) _ _ hBo1).mono ?_
  rintro e w2 ⟨p, rfl, D2, b2⟩
  have BW2 : Below w.heap.size w w2 := B1.trans (b2.mono B1.size)
  have hq2 := (b2.block _ (lt_of_block hq1)).trans hq1
  have x0 : w2.cell? ⟨w.heap.size, 0, none⟩ = some (.int .i64 (K : Int)) := st_cell hq2 0
  have x1 : w2.cell? ⟨w.heap.size, 1, none⟩ = some (.int .i64 (M : Int)) := st_cell hq2 1
  have x2 : w2.cell? ⟨w.heap.size, 2, none⟩ = some (.int .i64 (Bn : Int)) := st_cell hq2 2
  have G2 := HG.out.below BW2
  have cr := Run_any p K M Bn input rs _ 0 a bb aE w2 G2 D2 new_room (by omega) HF.out (new_look _ _) (new_look _ _)
  have H2 : Hid (Gl w2 a bb aE ∧ New Bo w w2) := ⟨G2, (New.refl w).below BW2⟩
  clear G2 BW2 hq2 hq1 b2 B1 D2
  go_wp2_with fail
  refine cr.mono ?_
  rintro e w3 ⟨S3, es, rfl, D3, F3, n3⟩
  rw [← HR.out] at F3
  have N3 : New Bo w w3 := H2.out.2.fk (q := w2.heap.size) n3 H2.out.2.size
  have cc := Copy_any p S3 _ w3 D3 F3.room.good.ok (by omega)
  have H3 : Hid (Gl w3 a bb aE ∧ New Bo w w3 ∧ Done S3 (0 + 120) K rs R es) := ⟨H2.out.1.new n3, N3, F3⟩
  clear cr D3 F3 n3 N3 x0 x1 x2
  go_wp2_with fail
  refine cc.mono ?_
  rintro e w4 ⟨q, rfl, D4, b4⟩
  have co := Open_ok q K S3 _ rs R es a bb aE w4 (H3.out.1.below b4) D4 (by omega) H3.out.2.2 HF.out.k1 HF.out.k2 HF.out.words HRZ.out.1 HRZ.out.2
  have N4 := H3.out.2.1.below b4
  clear cc D4 b4
  go_wp2_with fail
  refine co.mono ?_
  rintro e w5 ⟨qb, ev, rfl, B5, n5⟩
  have N5 : New Bo w w5 := N4.fk (q := w4.heap.size) n5 N4.size
  have cs := Sums_any qb K _ ev es _ w5 B5
  have hsm := tally_small H3.out.2.2.tally (words_words _) hwl
  have hel := hsm.len
  have HB5 : Hid (BaseAt w5 qb K w4.heap.size ev es (sumC es) ∧ New Bo w w5 ∧ w.heap.size ≤ w5.heap.size) := ⟨B5, N5, N5.size⟩
  clear B5 N5 n5 co N4 hsm
  go_wp2_with fail
  refine cs.mono ?_
  rintro e w6 ⟨rfl, s6⟩
  have b6 : Below w5.heap.size w5 w6 := s6.below _
  have csc := Scan_any qb K _ ev es _ ⟨#[]⟩ es.length w6 (HB5.out.1.below b6) (by omega)
  have HB6 : Hid (New Bo w w6) := HB5.out.2.1.below b6
  clear cs s6 b6
  go_wp2_with fail
  refine csc.mono ?_
  rintro e w7 ⟨v, i, f, rfl, hf, own7, b7⟩
  have hi := found_nil hf
  subst hi
  rw [List.drop_zero, List.take_length] at own7
  obtain ⟨aV, cV, hv⟩ := own_slice own7
  subst hv
  have HE : Hid (w7.ownsRow w.heap.size 58 2 (.slice aV es.length cV) es.length (ecells es) ∧ New Bo w w7) := ⟨own_lower own7 HB6.out.size, HB6.out.below b7⟩
  clear own7 b7 hf csc
  go_wp2
  go_ret2
  exact ⟨_, es, rfl, HE.out.1, H3.out.2.2.tally, HE.out.2⟩
end Go.Proofs.YtbjgpfhbdmcbbabGreatDoor.keep
