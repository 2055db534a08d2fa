import Derived.Test.YtbjgpfhbdmcbbaaGreatDoorP38
import Derived.Test.YtbjgpfhbdmcbbaaGreatDoorP18

/-
  CONTRACT of quernkeep.written: the walk.
-/
namespace Go.Proofs.YtbjgpfhbdmcbbaaGreatDoor.keep
open Go.RowKit dnamath dna pieces fill parse
set_option linter.unusedVariables false

theorem take_datas {ps : List ByteArray} {k : Nat} (hk : k < ps.length) : datas (ps.take (k + 1)) = datas (ps.take k) ++ [ps[k].data.toList] := by
  rw [List.take_succ_eq_append_getElem hk, datas_snoc]

theorem dig_size (k : Nat) (hk : k < 100) : (⟨(Lib.decDigits k).toArray⟩ : ByteArray).size ≤ 2 := by
  have := (digs k hk).2
  simpa [ByteArray.size] using this
theorem sofar_size {q : Bool} {o : ByteArray} {k : Nat} {rs : List (List UInt8)} (h : Sofar q o k rs) : o.size ≤ 200 * k := by
  obtain ⟨L, _, _, _, h⟩ := h; exact h
theorem datas_nonempty {r : ByteArray} (h : 0 < r.size) : r.data.toList ≠ [] := by
  rw [← List.length_pos_iff, ← Lib.size_eq]; exact h
theorem gr_snoc {g : ByteArray} {x : UInt8} (hp : 33 ≤ (x.toNat : Int) ∧ (x.toNat : Int) ≤ 126) (h : ∀ c ∈ g.data.toList, 33 ≤ (c.toNat : Int) ∧ (c.toNat : Int) ≤ 126) : ∀ c ∈ (g ++ ⟨#[x]⟩).data.toList, 33 ≤ (c.toNat : Int) ∧ (c.toNat : Int) ≤ 126 := by
  intro c hc
  have hc' : c ∈ g.data.toList ∨ c = x := by simpa using hc
  rcases hc' with hc | rfl
  · exact h c hc
  · exact hp
theorem conv_byte (p : Nat) (hp : p < 94) (w : World) : ∃ c : UInt8, (convert 82 9 (.slice (some ⟨w.heap.size, 0, none⟩) 1 1)).run Tryz.prog (w.alloc (.cells #[.int .u8 (33 + (p : Int))] 5)) = .ok (.string ⟨#[c]⟩) (w.alloc (.cells #[.int .u8 (33 + (p : Int))] 5)) ∧ 33 ≤ (c.toNat : Int) ∧ (c.toNat : Int) ≤ 126 := by
  have e : (UInt8.ofNat (33 + p)).toNat = 33 + p := by rw [UInt8.toNat_ofNat']; omega
  exact ⟨_, conv_one p hp w, by rw [e]; omega, by rw [e]; omega⟩
theorem itoa (k : Nat) (hk : k < 100) (w : World) : Calls Tryz.prog 36 #[.int .i64 k] w fun e w' => ∃ D : ByteArray, e = .returned (.string D) ∧ D = ⟨(Lib.decDigits k).toArray⟩ ∧ D.size ≤ 2 ∧ w' = w :=
  (Tryz.strconv_Itoa_small k hk w).mono fun e w' ⟨he, hw⟩ => ⟨_, he, rfl, dig_size k hk, hw⟩

set_option maxHeartbeats 2000000 in
set_option maxRecDepth 100000 in
theorem written_zero (v : Value) (ps : List ByteArray) (form wide : Int) (w : World) (hv : SRow w v ps) (hps : ReadsIs ps) (hf : -9223372036854775808 ≤ form ∧ form ≤ 9223372036854775807) (hw : -9223372036854775808 ≤ wide ∧ wide ≤ 9223372036854775807) (hz : pickI form 2 = 0) :
    Calls Tryz.prog 16 #[v, .int .i64 form, .int .i64 wide] w fun e w' => ∃ s, e = .returned (.string s) ∧ Sofar false s ps.length (datas ps) ∧ w' = w := by
  obtain ⟨hl12, hrd⟩ := hps
  have HRD : Hid (∀ p ∈ ps, 0 < p.size ∧ p.size ≤ 60 ∧ greatB p.data.toList) := hrd
  clear hrd
  obtain ⟨ao, cap, rfl, HC⟩ : ∃ ao cap, v = .slice ao ps.length cap ∧ Hid (∀ (j : Nat) (hj : j < ps.length), ∃ g, ao = some ⟨g, 0, none⟩ ∧ w.cell? ⟨g, j, none⟩ = some (.string ps[j])) := by
    rcases hv with ⟨rfl, rfl⟩ | ⟨g, cap, rfl, _, hc⟩
    · exact ⟨none, 0, rfl, fun j hj => by simp at hj⟩
    · exact ⟨_, cap, rfl, fun j hj => ⟨g, rfl, hc j hj⟩⟩
  clear hv
  go_enter Tryz.func16, Tryz.ntmps16
  go_wp2_with fail
  refine (pick_any wide 9 w hw (by omega) (by omega)).mono ?_
  rintro e w' ⟨pn, rfl, hpn, rfl⟩
  obtain ⟨n, hn⟩ : ∃ n : Nat, n = 1 + pn := ⟨_, rfl⟩
  have hN : (1 + (pn : Int)) = (n : Int) := by omega
  have hn1 : 1 ≤ n := by omega
  have hn9 : n ≤ 9 := by omega
  clear hn hpn
  go_wp2_with fail
  go_loopw [7, 9] (fun vo i wr => ∃ (k : Nat) (o : ByteArray), k ≤ ps.length ∧ i = .int .i64 k ∧ vo = .string o ∧ Hid (Sofar false o k (datas (ps.take k))) ∧ wr = w') (fun _ i _ => ps.length - (intOf i).toNat)
  case atStart => exact ⟨0, ⟨#[]⟩, Nat.zero_le _, rfl, rfl, ⟨[], rfl, fun x hx => by simp at hx, rfl, Nat.le_refl 0⟩, rfl⟩
  case round =>
    obtain ⟨k, o, hk, rfl, rfl, HS, hwr⟩ := hrel
    have hwr' := hwr.symm
    subst hwr'
    clear hwr
    by_cases hlt : k < ps.length
    · obtain ⟨g, rfl, hcell⟩ := HC.out k hlt
      have hos := sofar_size HS.out
      have HT : Hid (datas (ps.take (k + 1)) = datas (ps.take k) ++ [ps[k].data.toList]) := take_datas hlt
      have hr := HRD.out ps[k] (List.getElem_mem _)
      obtain ⟨r0, hr0⟩ : ∃ r0, r0 = ps[k] := ⟨_, rfl⟩
      rw [← hr0] at hcell HT hr
      clear hr0
      obtain ⟨hra, hrb, hrc⟩ := hr
      have HG : Hid (greatB r0.data.toList) := hrc
      have HR0 : Hid (r0.data.toList.length ≤ 60) := by show _ ≤ _; rw [← Lib.size_eq]; exact hrb
      clear hrc
      go_wp2_with (go_at_call 12; refine (pick_is form 2 _ hf (by omega) (by omega)).mono ?_; rintro e w2 ⟨rfl, hw2⟩; have hw3 := hw2.symm; subst hw3)
      go_wp2_with (go_at_call 36; refine (itoa k (by omega) _).mono ?_; rintro e w2 ⟨D, rfl, hDD, hDs, hw2⟩; have HDD : Hid (D = ⟨(Lib.decDigits k).toArray⟩) := hDD; clear hDD; have hw3 := hw2.symm; subst hw3)
      go_loopw [7, 10] (fun vo vr wr => ∃ (p r : ByteArray), vo = .string p ∧ vr = .string r ∧ 0 < r.size ∧ r.size ≤ 60 ∧ p.size ≤ 6000 ∧ Hid (Part o k (datas (ps.take k)) r0.data.toList p r.data.toList) ∧ wr = w') (fun _ vr _ => match vr with | .string r => r.size | _ => 0)
      case atStart =>
        have hP := part_start HS.out (datas_nonempty hra) HG.out (by omega) _ (by rw [← HDD.out])
        exact ⟨_, _, rfl, rfl, hra, hrb, by have := part_size hP HR0.out (by omega); omega, hP, rfl⟩
      case round =>
        obtain ⟨p, r, rfl, rfl, hr1, hr2, hp1, HP, hwr⟩ := hrel
        have hwr' := hwr.symm
        subst hwr'
        clear hwr
        by_cases hgt : n < r.size
        · have hs1 := slice_to r n (by omega)
          have hs2 := slice_from r n (by omega)
          have hes : (r.extract 0 n).size ≤ 60 := by rw [ByteArray.size_extract]; omega
          go_wp2
          go_roundw
          case rel =>
            have hP := part_more HP.out n hgt hn1
            exact ⟨_, _, rfl, rfl, by rw [ByteArray.size_extract]; omega, by rw [ByteArray.size_extract]; omega, by have := part_size hP HR0.out (by omega); omega, hP, trivial⟩
          case measure => simp [ByteArray.size_extract]; omega
        · go_wp2
          go_roundw
          case rel => exact ⟨k + 1, _, by omega, by go_num, rfl, by show Sofar _ _ _ _; rw [HT.out]; exact part_done HP.out HR0.out, trivial⟩
          case measure => simp [intOf]; omega
    · have hkk : k = ps.length := by omega
      have HS2 : Hid (Sofar false o ps.length (datas ps)) := by
        have := HS.out
        rw [hkk, List.take_length] at this; exact this
      go_wp2
      go_ret
      exact ⟨_, rfl, HS2.out, rfl⟩

set_option maxHeartbeats 2000000 in
set_option maxRecDepth 100000 in
theorem written_one (v : Value) (ps : List ByteArray) (form wide : Int) (w : World) (hv : SRow w v ps) (hps : ReadsIs ps) (hf : -9223372036854775808 ≤ form ∧ form ≤ 9223372036854775807) (hw : -9223372036854775808 ≤ wide ∧ wide ≤ 9223372036854775807) (hz : pickI form 2 ≠ 0) :
    Calls Tryz.prog 16 #[v, .int .i64 form, .int .i64 wide] w fun e w' => ∃ s, e = .returned (.string s) ∧ Sofar true s ps.length (datas ps) ∧ Below w.heap.size w w' := by
  obtain ⟨hl12, hrd⟩ := hps
  have HRD : Hid (∀ p ∈ ps, 0 < p.size ∧ p.size ≤ 60 ∧ greatB p.data.toList) := hrd
  clear hrd
  obtain ⟨ao, cap, rfl, HC⟩ : ∃ ao cap, v = .slice ao ps.length cap ∧ Hid (∀ (j : Nat) (hj : j < ps.length), ∃ g, ao = some ⟨g, 0, none⟩ ∧ g < w.heap.size ∧ w.cell? ⟨g, j, none⟩ = some (.string ps[j])) := by
    rcases hv with ⟨rfl, rfl⟩ | ⟨g, cap, rfl, hg, hc⟩
    · exact ⟨none, 0, rfl, fun j hj => by simp at hj⟩
    · exact ⟨_, cap, rfl, fun j hj => ⟨g, rfl, hg, hc j hj⟩⟩
  clear hv
  obtain ⟨P, hP⟩ : ∃ P, P = pickI form 2 := ⟨_, rfl⟩
  have hP0 : (P == 0) = false := by rw [hP, beq_eq_false_iff_ne]; exact hz
  have HPK : Hid (pickI form 2 = P) := hP.symm
  clear hz hP
  go_enter Tryz.func16, Tryz.ntmps16
  go_wp2_with fail
  refine (pick_any wide 9 w hw (by omega) (by omega)).mono ?_
  rintro e w' ⟨pn, rfl, hpn, rfl⟩
  go_wp2_with fail
  go_loopw [7, 9] (fun vo i wr => ∃ (k : Nat) (o : ByteArray), k ≤ ps.length ∧ i = .int .i64 k ∧ vo = .string o ∧ Hid (Sofar true o k (datas (ps.take k))) ∧ Below w'.heap.size w' wr) (fun _ i _ => ps.length - (intOf i).toNat)
  case atStart => exact ⟨0, ⟨#[]⟩, Nat.zero_le _, rfl, rfl, ⟨[], rfl, fun x hx => by simp at hx, rfl, Nat.le_refl 0⟩, Below.refl _ _⟩
  case round =>
    obtain ⟨k, o, hk, rfl, rfl, HS, hb⟩ := hrel
    rename World => w1
    by_cases hlt : k < ps.length
    · obtain ⟨g, rfl, hgl, hcell0⟩ := HC.out k hlt
      have hcell : w1.cell? ⟨g, k, none⟩ = some (.string ps[k]) := (hb.cell (by exact hgl)).trans hcell0
      have hos := sofar_size HS.out
      have HT : Hid (datas (ps.take (k + 1)) = datas (ps.take k) ++ [ps[k].data.toList]) := take_datas hlt
      have hr := HRD.out ps[k] (List.getElem_mem _)
      obtain ⟨r0, hr0⟩ : ∃ r0, r0 = ps[k] := ⟨_, rfl⟩
      rw [← hr0] at hcell HT hr
      clear hr0 hcell0
      obtain ⟨hra, hrb, hrc⟩ := hr
      have HG : Hid (greatB r0.data.toList) := hrc
      have HB : Hid (Below w'.heap.size w' w1) := hb
      have hb1 : w'.heap.size ≤ w1.heap.size := hb.size
      clear hrc hb
      go_wp2_with (go_at_call 12; refine (pick_is form 2 _ hf (by omega) (by omega)).mono ?_; rintro e w2 ⟨rfl, hw2⟩; rw [HPK.out]; have hw3 := hw2.symm; subst hw3)
      go_wp2_with fail
      go_loopw [11, 12] (fun vq j wr => ∃ (j' : Nat) (q : ByteArray), j' ≤ r0.size ∧ j = .int .i64 j' ∧ vq = .string q ∧ q.size = j' ∧ Hid (∀ c ∈ q.data.toList, 33 ≤ (c.toNat : Int) ∧ (c.toNat : Int) ≤ 126) ∧ Hid (Below w'.heap.size w' wr) ∧ w'.heap.size ≤ wr.heap.size) (fun _ j _ => r0.size - (intOf j).toNat)
      case atStart => exact ⟨0, ⟨#[]⟩, Nat.zero_le _, rfl, rfl, rfl, fun c hc => by simp at hc, HB.out, hb1⟩
      case round =>
        obtain ⟨j, q, hj, rfl, rfl, hq, HQ, HB2, hb2⟩ := hrel
        have HQS : Hid (q.size = j) := hq
        have hq60 : q.size ≤ 60 := by omega
        clear hq
        rename World => w2
        by_cases hjl : j < r0.size
        · have hw' := wide_ok (wide + (j : Int))
          go_wp2_with (go_at_call 12; refine (pick_any _ 94 _ hw' (by omega) (by omega)).mono ?_; rintro e w3 ⟨p, rfl, hp, hw3⟩; have hw4 := hw3.symm; subst hw4; obtain ⟨c, hcv, hcr⟩ := conv_byte p (by omega) w2; have HCR : Hid (33 ≤ (c.toNat : Int) ∧ (c.toNat : Int) ≤ 126) := hcr; clear hcr)
          go_roundw
          case rel => exact ⟨j + 1, _, by omega, by go_num, rfl, by rw [ByteArray.size_append, HQS.out]; rfl, gr_snoc HCR.out HQ.out, HB2.out.alloc hb2 _, by simp; omega⟩
          case measure => simp [intOf]; omega
        · have HJJ : Hid (q.size = r0.size) := by have := HQS.out; show _ = _; omega
          go_wp2_with (go_at_call 36; refine (itoa k (by omega) _).mono ?_; rintro e w3 ⟨D, rfl, hDD, hDs, hw2⟩; have HDD : Hid (D = ⟨(Lib.decDigits k).toArray⟩) := hDD; clear hDD; have hw3 := hw2.symm; subst hw3)
          go_roundw
          case rel => exact ⟨k + 1, _, by omega, by go_num, rfl, by show Sofar _ _ _ _; rw [HT.out]; exact full_done HS.out (by omega) hrb hra HG.out HJJ.out HQ.out _ (by rw [← HDD.out]), HB2.out⟩
          case measure => simp [intOf]; omega
    · have hkk : k = ps.length := by omega
      have HS2 : Hid (Sofar true o ps.length (datas ps)) := by
        have := HS.out
        rw [hkk, List.take_length] at this; exact this
      go_wp2
      go_ret
      exact ⟨_, rfl, HS2.out, hb⟩

/-- what written writes is of a form, and reads as the reads -/
theorem written_any (v : Value) (ps : List ByteArray) (form wide : Int) (w : World) (hv : SRow w v ps) (hps : ReadsIs ps) (hf : -9223372036854775808 ≤ form ∧ form ≤ 9223372036854775807) (hw : -9223372036854775808 ≤ wide ∧ wide ≤ 9223372036854775807) :
    Calls Tryz.prog 16 #[v, .int .i64 form, .int .i64 wide] w fun e w' => ∃ s, e = .returned (.string s) ∧ s.size ≤ 20000 ∧ FormIs s (datas ps) ∧ Below w.heap.size w w' := by
  have hl : (datas ps).length ≤ 20000 := by rw [datas_length]; have := hps.1; omega
  by_cases hz : pickI form 2 = 0
  · refine (written_zero v ps form wide w hv hps hf hw hz).mono fun e w' ⟨s, he, hs, hw'⟩ => ?_
    subst hw'
    have h1 := sofar_size hs
    obtain ⟨L, a, b, c, d⟩ := hs
    exact ⟨s, he, by have := hps.1; omega, form_of false s L (datas ps) a b c hl, Below.refl _ _⟩
  · refine (written_one v ps form wide w hv hps hf hw hz).mono fun e w' ⟨s, he, hs, hb⟩ => ?_
    have h1 := sofar_size hs
    obtain ⟨L, a, b, c, d⟩ := hs
    exact ⟨s, he, by have := hps.1; omega, form_of true s L (datas ps) a b c hl, hb⟩
end Go.Proofs.YtbjgpfhbdmcbbaaGreatDoor.keep

/-
  CONTRACTS of quernkeep: options, counted; inputs that were written fit.
-/
namespace Go.Proofs.YtbjgpfhbdmcbbaaGreatDoor.keep
open Go.RowKit dnamath dna diskm disk hex pieces files parse words kinds jobs base fill
set_option linter.unusedVariables false

theorem new_look (c : Int) (n : ByteArray) : (newDisk c).look n = none := by
  unfold DS.look newDisk
  simp [findIs]
theorem new_room : RoomB (newDisk 1152921504606846976) 0 := by
  refine ⟨⟨⟨rfl, rfl⟩, ⟨(fun x hx => by cases hx), Nat.le_refl _, Nat.le_refl _, Nat.le_refl _, Nat.le_refl _, Nat.le_refl _, by decide, by decide, by decide, by decide⟩, ?_, ?_, ?_⟩, rfl, Nat.le_refl _, ?_⟩
  · exact List.Pairwise.nil
  · intro x hx; cases hx
  · exact ⟨rfl, List.Pairwise.nil, (fun x hx => by cases hx), (fun x hx => by cases hx), (fun x hx => by cases hx), (fun x hx => by cases hx), (fun x hx => by cases hx), (fun x hx => by cases hx)⟩
  · simp [findIs, newDisk]

theorem winTo_len (l : List UInt8) (k : Nat) : ∀ n, (winTo l k n).length ≤ n
  | 0 => Nat.le_refl _
  | n + 1 => by
    have ih := winTo_len l k n
    unfold winTo
    rw [List.length_append]
    split <;> simp <;> omega
theorem winL_len {k : Nat} {l : List UInt8} (hk : 1 ≤ k) : (winL k l).length ≤ l.length := by
  have h : validW l k l.length = false := by
    unfold validW
    have e : cut l l.length k = [] := by unfold cut; simp
    rw [e]
    have : ((([] : List UInt8).length == k)) = false := by rw [beq_eq_false_iff_ne]; simp; omega
    rw [this]; rfl
  unfold winL winTo
  rw [h, List.length_append]
  have := winTo_len l k l.length
  simpa using this
theorem words_len {k L : Nat} (hk : 1 ≤ k) : ∀ {rs : List (List UInt8)}, (∀ l ∈ rs, l.length ≤ L) → (wordsOf k rs).length ≤ rs.length * L
  | [], _ => by simp [wordsOf]
  | l :: rs, h => by
    have ih := words_len hk (rs := rs) (fun x hx => h x (List.mem_cons_of_mem _ hx))
    have h1 := winL_len (k := k) (l := l) hk
    have h2 := h l (List.mem_cons_self ..)
    have e : (wordsOf k (l :: rs)).length = (winL k l).length + (wordsOf k rs).length := by simp [wordsOf]
    rw [e, List.length_cons, Nat.add_mul, Nat.one_mul]
    omega

/-- options that may be -/
structure OptIs (K M Bn : Nat) : Prop where
  k1 : 1 ≤ K
  k2 : K ≤ 31
  odd : K % 2 = 1
  m1 : 1 ≤ M
  m2 : M ≤ K
  m3 : M ≤ 11
  b1 : 1 ≤ Bn
  b2 : Bn ≤ 16
theorem fit_of {K M Bn : Nat} {ps : List ByteArray} {s : ByteArray} (ho : OptIs K M Bn) (hps : ReadsIs ps) (hs : s.size ≤ 20000) (hf : FormIs s (datas ps)) : Fit K M Bn s (datas ps) := by
  have hr : ∀ l ∈ datas ps, readB l = true ∧ l.length ≤ 60 := by
    intro l hl
    obtain ⟨p, hp, rfl⟩ := List.mem_map.1 hl
    have h := hps.2 p hp
    exact ⟨h.2.2, by rw [← Lib.size_eq]; exact h.2.1⟩
  refine ⟨ho.k1, ho.k2, ho.odd, ho.m1, ho.m2, ho.m3, ho.b1, ho.b2, hs, hf, (fun l hl => ⟨(hr l hl).1, by have := (hr l hl).2; omega⟩), ?_, ?_⟩
  · rw [datas_length]; have := hps.1; omega
  · have h1 := words_len ho.k1 (L := 60) (fun l hl => (hr l hl).2)
    rw [datas_length] at h1
    have := hps.1
    omega

set_option maxHeartbeats 2000000 in
set_option maxRecDepth 100000 in
theorem options_any (k m bins : Int) (w : World) (hk : -9223372036854775808 ≤ k ∧ k ≤ 9223372036854775807) (hm : -9223372036854775808 ≤ m ∧ m ≤ 9223372036854775807) (hb : -9223372036854775808 ≤ bins ∧ bins ≤ 9223372036854775807) :
    Calls Tryz.prog 11 #[.int .i64 k, .int .i64 m, .int .i64 bins] w fun e w' => ∃ K M Bn : Nat, e = .returned (optV K M Bn) ∧ OptIs K M Bn ∧ (K : Int) = 1 + 2 * pickI k 16 ∧ Below w.heap.size w w' := by
  obtain ⟨p, hp⟩ : ∃ p : Nat, (p : Int) = pickI k 16 := ⟨(pickI k 16).toNat, Int.toNat_of_nonneg (pickI_lt k 16 (by omega)).1⟩
  have hp16 : p < 16 := by have := (pickI_lt k 16 (by omega)).2; omega
  obtain ⟨q, hq⟩ : ∃ q : Nat, (q : Int) = pickI bins 16 := ⟨(pickI bins 16).toNat, Int.toNat_of_nonneg (pickI_lt bins 16 (by omega)).1⟩
  have hq16 : q < 16 := by have := (pickI_lt bins 16 (by omega)).2; omega
  have cp : ∀ W, Calls Tryz.prog 12 #[.int .i64 k, .int .i64 16] W fun e w' => e = .returned (.int .i64 (p : Int)) ∧ w' = W := fun W => by rw [hp]; exact pick_is k 16 W hk (by omega) (by omega)
  have cq : ∀ W, Calls Tryz.prog 12 #[.int .i64 bins, .int .i64 16] W fun e w' => e = .returned (.int .i64 (q : Int)) ∧ w' = W := fun W => by rw [hq]; exact pick_is bins 16 W hb (by omega) (by omega)
  have HP : Hid ((p : Int) = pickI k 16) := hp
  have hmin : 1 ≤ min (1 + 2 * (p : Int)) 11 ∧ min (1 + 2 * (p : Int)) 11 ≤ 11 ∧ min (1 + 2 * (p : Int)) 11 ≤ 1 + 2 * (p : Int) := by omega
  obtain ⟨mn, hmn⟩ : ∃ mn, mn = min (1 + 2 * (p : Int)) 11 := ⟨_, rfl⟩
  have cm : ∀ W, Calls Tryz.prog 12 #[.int .i64 m, .int .i64 mn] W fun e w' => ∃ r : Nat, e = .returned (.int .i64 (r : Int)) ∧ (r : Int) < mn ∧ w' = W := fun W => pick_any m mn W hm (by omega) (by omega)
  rw [← hmn] at hmin
  clear hp hq
  go_enter Tryz.func11, Tryz.ntmps11
  go_wp2_with fail
  refine (cp _).mono ?_
  rintro e w1 ⟨rfl, hw1⟩
  subst hw1
  go_wp2_with fail
  refine (cq _).mono ?_
  rintro e w2 ⟨rfl, hw2⟩
  subst hw2
  go_wp2_with fail
  rw [← hmn]
  refine (cm _).mono ?_
  rintro e w3 ⟨r, rfl, hr, hw3⟩
  subst hw3
  go_wp2
  exact bodyPost_ret (v := optV (1 + 2 * p) (1 + r) (1 + q)) (by simp [results, Tryz.results11, go_sem]) rfl ⟨_, _, _, rfl, ⟨by omega, by omega, by omega, by omega, by omega, by omega, by omega, by omega⟩, by rw [← HP.out]; omega, by repeat (first | exact Below.refl _ _ | refine Below.setCell ?_ (by simp) _ | refine Below.alloc ?_ (by simp) _)⟩

theorem found_nil {es : List Ent} {i : Nat} {f : Bool} (h : FoundAt es [] i f) : i = 0 := by
  rcases Nat.eq_zero_or_pos i with h0 | h0
  · exact h0
  · have hle := h.le
    obtain ⟨x, hx⟩ : ∃ x, es[0]? = some x := ⟨_, List.getElem?_eq_getElem (by omega)⟩
    exact absurd (h.less 0 x h0 hx) (List.not_lt_nil _)

set_option maxHeartbeats 2000000 in
set_option maxRecDepth 100000 in
theorem counted_any {Bo : Nat} (K M Bn : Nat) (input : ByteArray) (rs : List (List UInt8)) (a bb aE : Addr) (w : World) (hG : Gl w a bb aE) (hBo : Bo ≤ w.heap.size) (hF : Fit K M Bn input rs) :
    Calls Tryz.prog 15 #[.string input, optV K M Bn] w fun e w' => ∃ v es, e = .returned (.tuple #[v, .bool true]) ∧ w'.ownsRow w.heap.size 43 2 v es.length (ecells es) ∧ TallyOf (wordsOf K rs) (es.map cv) ∧ New Bo w w' := by
  have HG : Hid (Gl w a bb aE) := hG
  have HF : Hid (Fit K M Bn input rs) := hF
  have hwl := hF.words
  obtain ⟨R, hR⟩ : ∃ R, R = runB (textB K M Bn input) := ⟨_, rfl⟩
  have HRZ : Hid (R.size ≤ 17 ∧ ∀ d ∈ R.data.toList, (48 ≤ d.toNat ∧ d.toNat ≤ 57) ∨ (97 ≤ d.toNat ∧ d.toNat ≤ 102)) := by rw [hR]; exact ⟨run_size _, run_hex _⟩
  have HR : Hid (R = runB (textB K M Bn input)) := hR
  clear hR hF hG
  go_enter Tryz.func15, Tryz.ntmps15
  go_wp2_with fail
  obtain ⟨W1, hW1⟩ : ∃ W1, W1 = w.alloc (.cells #[.int .i64 (K : Int), .int .i64 (M : Int), .int .i64 (Bn : Int)] 29) := ⟨_, rfl⟩
  have hq1 : W1.heap[w.heap.size]? = some (.cells #[.int .i64 (K : Int), .int .i64 (M : Int), .int .i64 (Bn : Int)] 29 (0, 0)) := by rw [hW1]; exact heap_alloc_new _ _
  have B1 : Below w.heap.size w W1 := by rw [hW1]; exact (Below.refl _ w).alloc (Nat.le_refl _) _
  rw [← hW1]
  clear hW1
  have hBo1 : Bo ≤ W1.heap.size := Nat.le_trans hBo B1.size
  refine (New_any (Bo := Bo) _ _ hBo1).mono ?_
  rintro e w2 ⟨p, rfl, D2, b2⟩
  have BW2 : Below w.heap.size w w2 := B1.trans (b2.mono B1.size)
  have hq2 := (b2.block _ (lt_of_block hq1)).trans hq1
  have x0 : w2.cell? ⟨w.heap.size, 0, none⟩ = some (.int .i64 (K : Int)) := st_cell hq2 0
  have x1 : w2.cell? ⟨w.heap.size, 1, none⟩ = some (.int .i64 (M : Int)) := st_cell hq2 1
  have x2 : w2.cell? ⟨w.heap.size, 2, none⟩ = some (.int .i64 (Bn : Int)) := st_cell hq2 2
  have G2 := HG.out.below BW2
  have cr := Run_any p K M Bn input rs _ 0 a bb aE w2 G2 D2 new_room (by omega) HF.out (new_look _ _) (new_look _ _)
  have H2 : Hid (Gl w2 a bb aE ∧ New Bo w w2) := ⟨G2, (New.refl w).below BW2⟩
  clear G2 BW2 hq2 hq1 b2 B1 D2
  go_wp2_with fail
  refine cr.mono ?_
  rintro e w3 ⟨S3, es, rfl, D3, F3, n3⟩
  rw [← HR.out] at F3
  have N3 : New Bo w w3 := H2.out.2.fk (q := w2.heap.size) n3 H2.out.2.size
  have cc := Copy_any p S3 _ w3 D3 F3.room.good.ok (by omega)
  have H3 : Hid (Gl w3 a bb aE ∧ New Bo w w3 ∧ Done S3 (0 + 120) K rs R es) := ⟨H2.out.1.new n3, N3, F3⟩
  clear cr D3 F3 n3 N3 x0 x1 x2
  go_wp2_with fail
  refine cc.mono ?_
  rintro e w4 ⟨q, rfl, D4, b4⟩
  have co := Open_ok q K S3 _ rs R es a bb aE w4 (H3.out.1.below b4) D4 (by omega) H3.out.2.2 HF.out.k1 HF.out.k2 HF.out.words HRZ.out.1 HRZ.out.2
  have N4 := H3.out.2.1.below b4
  clear cc D4 b4
  go_wp2_with fail
  refine co.mono ?_
  rintro e w5 ⟨qb, ev, rfl, B5, n5⟩
  have N5 : New Bo w w5 := N4.fk (q := w4.heap.size) n5 N4.size
  have cs := Sums_any qb K _ ev es _ w5 B5
  have hsm := tally_small H3.out.2.2.tally (words_words _) hwl
  have hel := hsm.len
  have HB5 : Hid (BaseAt w5 qb K w4.heap.size ev es (sumC es) ∧ New Bo w w5 ∧ w.heap.size ≤ w5.heap.size) := ⟨B5, N5, N5.size⟩
  clear B5 N5 n5 co N4 hsm
  go_wp2_with fail
  refine cs.mono ?_
  rintro e w6 ⟨rfl, s6⟩
  have b6 : Below w5.heap.size w5 w6 := s6.below _
  have csc := Scan_any qb K _ ev es _ ⟨#[]⟩ es.length w6 (HB5.out.1.below b6) (by omega)
  have HB6 : Hid (New Bo w w6) := HB5.out.2.1.below b6
  clear cs s6 b6
  go_wp2_with fail
  refine csc.mono ?_
  rintro e w7 ⟨v, i, f, rfl, hf, own7, b7⟩
  have hi := found_nil hf
  subst hi
  rw [List.drop_zero, List.take_length] at own7
  obtain ⟨aV, cV, hv⟩ := own_slice own7
  subst hv
  have HE : Hid (w7.ownsRow w.heap.size 43 2 (.slice aV es.length cV) es.length (ecells es) ∧ New Bo w w7) := ⟨own_lower own7 HB6.out.size, HB6.out.below b7⟩
  clear own7 b7 hf csc
  go_wp2
  go_ret2
  exact ⟨_, es, rfl, HE.out.1, H3.out.2.2.tally, HE.out.2⟩
end Go.Proofs.YtbjgpfhbdmcbbaaGreatDoor.keep

/-
  CONTRACTS of quernkeep: lives, sameEntries.
-/
namespace Go.Proofs.YtbjgpfhbdmcbbaaGreatDoor.keep
open Go.RowKit dnamath dna diskm disk hex pieces files parse words kinds jobs base fill
set_option linter.unusedVariables false

/-- entries that lie one after another -/
def ERow (w : World) (v : Value) (es : List Ent) : Prop :=
  (v = .slice none 0 0 ∧ es = []) ∨ ∃ g off cap, v = .slice (some ⟨g, off, none⟩) es.length cap ∧ g < w.heap.size ∧ ∀ (j : Nat) (x : Ent), es[j]? = some x → w.cell? ⟨g, off + j * 2, none⟩ = some (.string x.1) ∧ w.cell? ⟨g, off + j * 2 + 1, none⟩ = some (.int .i64 (x.2 : Int))
theorem ERow.of_own {w : World} {base : Nat} {v : Value} {es : List Ent} (h : w.ownsRow base 43 2 v es.length (ecells es)) : ERow w v es := by
  rcases h.2 with ⟨rfl, h0⟩ | ⟨g, cap, cur, rfl, _, hg, _⟩
  · exact .inl ⟨rfl, List.eq_nil_of_length_eq_zero h0⟩
  · refine .inr ⟨g, 0, cap, rfl, lt_of_block hg, fun j x hx => ?_⟩
    have hl := (List.getElem?_eq_some_iff.1 hx).1
    rw [Nat.zero_add]
    refine ⟨?_, ?_⟩
    · rw [h.cellAt (g := g) (j * 2) (by omega)]; exact ecells_at0 _ _ _ hx
    · rw [h.cellAt (g := g) (j * 2 + 1) (by omega)]; exact ecells_at1 _ _ _ hx
theorem ERow.below {w w' : World} {v : Value} {es : List Ent} (h : ERow w v es) (hb : Below w.heap.size w w') : ERow w' v es := by
  rcases h with h | ⟨g, off, cap, rfl, hg, hc⟩
  · exact .inl h
  · exact .inr ⟨g, off, cap, rfl, Nat.lt_of_lt_of_le hg hb.size, fun j x hx => ⟨(hb.cell (by exact hg)).trans (hc j x hx).1, (hb.cell (by exact hg)).trans (hc j x hx).2⟩⟩

set_option maxHeartbeats 1000000 in
set_option maxRecDepth 100000 in
theorem sameEntries_any (va vb : Value) (es : List Ent) (w : World) (ha : ERow w va es) (hb : ERow w vb es) (hl : es.length ≤ 100000) :
    Calls Tryz.prog 17 #[va, vb] w fun e w' => e = .returned (.bool true) ∧ Below w.heap.size w w' := by
  by_cases h0 : es = []
  · subst h0
    rcases ha with ⟨rfl, _⟩ | ⟨g, off, cap, rfl, hg, hc⟩
    all_goals
      rcases hb with ⟨rfl, _⟩ | ⟨g', off', cap', rfl, hg', hc'⟩
      all_goals
        go_enter Tryz.func17, Tryz.ntmps17
        go_wp2
        refine wp_loop_rounds 1 ?_
        rw [rounds_succ]
        go_wp2
        go_ret
        exact ⟨rfl, Below.refl _ _⟩
  · rcases ha with ⟨_, h⟩ | ⟨g, off, cap, rfl, hg, hc⟩
    · exact absurd h h0
    rcases hb with ⟨_, h⟩ | ⟨g', off', cap', rfl, hg', hc'⟩
    · exact absurd h h0
    have HC : Hid (∀ (j : Nat) (x : Ent), es[j]? = some x → w.cell? ⟨g, off + j * 2, none⟩ = some (.string x.1) ∧ w.cell? ⟨g, off + j * 2 + 1, none⟩ = some (.int .i64 (x.2 : Int))) := hc
    have HC' : Hid (∀ (j : Nat) (x : Ent), es[j]? = some x → w.cell? ⟨g', off' + j * 2, none⟩ = some (.string x.1) ∧ w.cell? ⟨g', off' + j * 2 + 1, none⟩ = some (.int .i64 (x.2 : Int))) := hc'
    clear hc hc' h0
    go_enter Tryz.func17, Tryz.ntmps17
    go_wp2
    go_loopw [5] (fun i wr => ∃ k : Nat, k ≤ es.length ∧ i = .int .i64 k ∧ Below w.heap.size w wr) (fun i _ => es.length - (intOf i).toNat)
    case atStart => exact ⟨0, Nat.zero_le _, rfl, Below.refl _ _⟩
    case round =>
      obtain ⟨k, hk, rfl, hbel⟩ := hrel
      by_cases hlt : k < es.length
      · obtain ⟨x, hx⟩ : ∃ x, es[k]? = some x := ⟨_, List.getElem?_eq_getElem hlt⟩
        have c1 : wr.cell? ⟨g, off + k * 2, none⟩ = some (.string x.1) := (hbel.cell (by exact hg)).trans (HC.out k x hx).1
        have c2 : wr.cell? ⟨g, off + k * 2 + 1, none⟩ = some (.int .i64 (x.2 : Int)) := (hbel.cell (by exact hg)).trans (HC.out k x hx).2
        have d1 : wr.cell? ⟨g', off' + k * 2, none⟩ = some (.string x.1) := (hbel.cell (by exact hg')).trans (HC'.out k x hx).1
        have d2 : wr.cell? ⟨g', off' + k * 2 + 1, none⟩ = some (.int .i64 (x.2 : Int)) := (hbel.cell (by exact hg')).trans (HC'.out k x hx).2
        obtain ⟨s, n⟩ := x
        have hI : (k : Int) < (es.length : Int) := by omega
        clear hx
        go_wp2
        go_quiet (fail)
        go_wp2
        go_roundw
        case rel => exact ⟨k + 1, by omega, by go_num, hbel.trans ⟨rfl, rfl, rfl, Nat.le_refl _, fun _ _ => rfl⟩⟩
        case measure => simp [intOf]; omega
      · go_wp2
        go_ret
        exact ⟨rfl, hbel⟩

abbrev liveB : ByteArray := ⟨#[62, 120, 10, 65, 67, 71, 84, 10, 62, 121, 10, 65, 65]⟩
def liveR : List (List UInt8) := [[65, 67, 71, 84], [65, 65]]
theorem live_lines : linesL liveB.data.toList = [[62, 120], [65, 67, 71, 84], [62, 121], [65, 65]] := by decide +kernel
theorem live_form : FormIs liveB liveR := by
  refine .inr ⟨false, by decide, rfl, fun ts h => ?_, by decide⟩
  rw [live_lines] at h
  refine recs_of false liveR [] _ h ?_
  refine ⟨[[62, 121], [65, 65]], ⟨[], rfl, by decide, .inl ⟨rfl, [121], [[65, 65]], rfl, by simp, ?_, rfl⟩⟩, by decide, .inl ⟨rfl, [120], [[65, 67, 71, 84]], rfl, by simp, ?_, rfl⟩⟩
  · intro x hx
    rw [List.mem_singleton] at hx; subst hx
    exact ⟨by simp, by unfold greatB; decide⟩
  · intro x hx
    rw [List.mem_singleton] at hx; subst hx
    exact ⟨by simp, by unfold greatB; decide⟩
theorem live_words : wordsOf 3 liveR = [[65, 67, 71], [65, 67, 71]] := by decide +kernel
theorem live_fit : Fit 3 2 3 liveB liveR := by
  refine ⟨by decide, by decide, by decide, by decide, by decide, by decide, by decide, by decide, by decide, live_form, ?_, by decide, by rw [live_words]; decide⟩
  intro l hl
  unfold liveR at hl
  simp at hl
  rcases hl with rfl | rfl <;> exact ⟨by unfold readB; decide, by decide⟩
theorem live_tally : TallyOf [[65, 67, 71], [65, 67, 71]] [([65, 67, 71], 2)] := by
  refine ⟨by simp, ?_, ?_⟩
  · intro e he
    rw [List.mem_singleton] at he; subst he
    exact ⟨by decide, by decide⟩
  · intro x hx
    refine ⟨_, List.mem_singleton.2 rfl, ?_⟩
    simp at hx
    exact hx.symm
theorem live_es {es : List Ent} (h : TallyOf (wordsOf 3 liveR) (es.map cv)) : es = [(⟨#[65, 67, 71]⟩, 2)] := by
  rw [live_words] at h
  have e := h.unique live_tally (fun x => rfl)
  clear h
  cases es with
  | nil => simp at e
  | cons x t =>
    cases t with
    | nil =>
      obtain ⟨s, n⟩ := x
      simp only [List.map_cons, List.map_nil, List.cons.injEq, and_true, cv, Prod.mk.injEq] at e
      have : s = ⟨#[65, 67, 71]⟩ := by apply ByteArray.ext; apply Array.toList_inj.1; exact e.1
      rw [this, e.2]
    | cons y t => simp at e

set_option maxHeartbeats 1000000 in
set_option maxRecDepth 100000 in
theorem lives_yes {Bo : Nat} (a bb aE : Addr) (w : World) (hG : Gl w a bb aE) (hBo : Bo ≤ w.heap.size) :
    Calls Tryz.prog 14 #[] w fun e w' => e = .returned (.bool true) ∧ New Bo w w' := by
  have cc := counted_any (Bo := Bo) 3 2 3 liveB liveR a bb aE w hG hBo live_fit
  clear hG
  go_enter Tryz.func14, Tryz.ntmps14
  go_wp2_with fail
  refine cc.mono ?_
  rintro e w1 ⟨v, es, rfl, own1, t1, n1⟩
  have he := live_es t1
  subst he
  have HN : Hid (New Bo w w1) := n1
  clear n1 cc t1
  rcases own1.2 with ⟨_, h0⟩ | ⟨g, cap, cur, rfl, _⟩
  · simp at h0
  have c0 : w1.cell? ⟨g, 0, none⟩ = some (.string ⟨#[65, 67, 71]⟩) := own1.cellAt (g := g) 0 (by decide)
  have c1 : w1.cell? ⟨g, 1, none⟩ = some (.int .i64 2) := own1.cellAt (g := g) 1 (by decide)
  clear own1
  go_wp2
  go_ret
  exact ⟨rfl, HN.out⟩
end Go.Proofs.YtbjgpfhbdmcbbaaGreatDoor.keep

/-
  FACTS for the walks of Asked, Alike, Added.
-/
namespace Go.Proofs.YtbjgpfhbdmcbbaaGreatDoor.keep
open Go.RowKit dnamath dna diskm disk hex pieces files parse words kinds jobs base fill
set_option linter.unusedVariables false

theorem IsRows.later {w w' : World} {a : Option Addr} {len : Nat} (h : IsRows w a len) (hb : Below w.heap.size w w') : IsRows w' a len := by
  refine ⟨h.1, ?_⟩
  rcases h.2 with h0 | ⟨b, off, ha, hc⟩
  · exact .inl h0
  · refine .inr ⟨b, off, ha, fun i hi => ?_⟩
    obtain ⟨ai, li, ci, zs, h1, h2⟩ := hc i hi
    exact ⟨ai, li, ci, zs, (hb.cell (World.block_lt_of_cell? _ _ h1)).trans h1, h2.later hb⟩

theorem ERow.slice {w : World} {v : Value} {es : List Ent} (h : ERow w v es) : ∃ a c, v = .slice a es.length c := by
  rcases h with ⟨rfl, rfl⟩ | ⟨g, off, cap, rfl, _⟩
  · exact ⟨_, _, rfl⟩
  · exact ⟨_, _, rfl⟩

/-- options that lie in memory -/
structure OptAt (w : World) (q K M Bn : Nat) : Prop where
  blk : w.heap[q]? = some (.cells #[.int .i64 (K : Int), .int .i64 (M : Int), .int .i64 (Bn : Int)] 29 (0, 0))
theorem OptAt.new {Bo : Nat} {w w' : World} {q K M Bn : Nat} (h : OptAt w q K M Bn) (hk : New Bo w w') : OptAt w' q K M Bn := by
  refine ⟨(hk.block q (lt_of_block h.blk) (Nat.ne_of_lt (lt_of_block h.blk)) (fun ⟨cs', fz', e⟩ => by rw [h.blk] at e; cases e) (by
    rintro ⟨cs', T', fz', e, hd⟩
    rw [h.blk] at e
    cases e
    rcases hd with h | h | h | h <;> exact absurd h (by decide))).trans h.blk⟩
theorem OptAt.cells {w : World} {q K M Bn : Nat} (h : OptAt w q K M Bn) : w.cell? ⟨q, 0, none⟩ = some (.int .i64 (K : Int)) ∧ w.cell? ⟨q, 1, none⟩ = some (.int .i64 (M : Int)) ∧ w.cell? ⟨q, 2, none⟩ = some (.int .i64 (Bn : Int)) := ⟨st_cell h.blk 0, st_cell h.blk 1, st_cell h.blk 2⟩

theorem New.to {w w' : World} (h : New w.heap.size w w') : Below w.heap.size w w' := ⟨h.os, h.tape, h.output, h.size, fun k hk => h.low k hk hk (Nat.ne_of_lt hk)⟩
theorem New.and {Bo : Nat} {w w1 w2 : World} (h : New Bo w w1) (k : New Bo w1 w2) : New Bo w w2 := h.fk (q := w1.heap.size) k h.size

/-- what holds of an entry of counts -/
structure EntIs (K : Nat) (es : List Ent) (x : Ent) : Prop where
  all : x.1.data.toList.all isB = true
  size : x.1.size = K
  one : 1 ≤ x.2
  few : x.2 ≤ 1440
  canon : canonL x.1.data.toList = x.1.data.toList
  count : ∀ n, countIn es x.1.data.toList n → n = x.2
theorem entries_of {K : Nat} {rs : List (List UInt8)} {es : List Ent} (h : TallyOf (wordsOf K rs) (es.map cv)) (hl : (wordsOf K rs).length ≤ 1440) : es.length ≤ 1440 ∧ ∀ (k : Nat) (x : Ent), es[k]? = some x → EntIs K es x := by
  have hs := tally_small h (words_words _) hl
  refine ⟨hs.len, fun k x hx => ?_⟩
  have hm := List.mem_of_getElem? hx
  obtain ⟨h1, h2, h3, h4⟩ := hs.each x hm
  refine ⟨h1, h2, h3, h4, ?_, ?_⟩
  · have hw := (tally_key h (cv x).1).1 (List.mem_map.2 ⟨cv x, List.mem_map.2 ⟨x, hm, rfl⟩, rfl⟩)
    have hw : x.1.data.toList ∈ wordsOf K rs := hw
    unfold wordsOf at hw
    obtain ⟨y, hy, e⟩ := List.mem_map.1 hw
    have hya : y.all isB = true := by
      obtain ⟨l, _, hy⟩ := List.mem_flatMap.1 hy
      exact (winTo_valid _ y hy).2
    rw [← e, canonL_idem hya]
  · intro n hn
    rcases hn with ⟨i, y, hy, e1, e2⟩ | ⟨_, hno⟩
    · rcases Nat.lt_trichotomy i k with h5 | h5 | h5
      · have := sorted_get h.sorted h5 hy hx
        rw [e1] at this; exact absurd this (List.lt_irrefl _)
      · subst h5; rw [hx] at hy; cases hy; exact e2.symm
      · have := sorted_get h.sorted h5 hx hy
        rw [e1] at this; exact absurd this (List.lt_irrefl _)
    · exact absurd rfl (hno k x hx)
end Go.Proofs.YtbjgpfhbdmcbbaaGreatDoor.keep

/-
  FACTS for the walk of Alike: reads told in another order, some from the other side.
-/
namespace Go.Proofs.YtbjgpfhbdmcbbaaGreatDoor.keep
open Go.RowKit dnamath dna diskm disk hex pieces files parse words kinds jobs base fill
set_option linter.unusedVariables false

/-- the last reads, from whichever side -/
structure Oth (ps : List ByteArray) (K m : Nat) (qs : List ByteArray) : Prop where
  len : qs.length + m = ps.length
  each : ∀ p ∈ qs, 0 < p.size ∧ p.size ≤ 60 ∧ greatB p.data.toList
  perm : (wordsOf K (datas qs)).Perm (wordsOf K (datas (ps.drop m)))
theorem Oth.step {ps : List ByteArray} {K k : Nat} {qs : List ByteArray} {r q : ByteArray} (h : Oth ps K (k + 1) qs) (hK : 1 ≤ K) (hr : ps[k]? = some r) (hg : 0 < r.size ∧ r.size ≤ 60 ∧ greatB r.data.toList) (hq : q.data.toList = r.data.toList ∨ q.data.toList = turnN r.data.toList) : Oth ps K k (qs ++ [q]) := by
  have hql : q.data.toList.length = r.data.toList.length := by rcases hq with e | e <;> rw [e]; exact turnN_len _
  have hqs : q.size = r.size := by rw [Lib.size_eq, Lib.size_eq, hql]
  refine ⟨by have := h.len; rw [List.length_append]; simp; omega, fun p hp => ?_, ?_⟩
  · rcases List.mem_append.1 hp with hp | hp
    · exact h.each p hp
    · rw [List.mem_singleton] at hp
      subst hp
      refine ⟨by omega, by omega, ?_⟩
      rcases hq with e | e <;> rw [e]
      · exact hg.2.2
      · exact turnN_bn hg.2.2
  · have hkl := (List.getElem?_eq_some_iff.1 hr)
    obtain ⟨hk, hke⟩ := hkl
    have e1 : datas (ps.drop k) = [r.data.toList] ++ datas (ps.drop (k + 1)) := by
      rw [List.drop_eq_getElem_cons hk, hke]; simp [datas]
    have e2 : datas (qs ++ [q]) = datas qs ++ [q.data.toList] := by simp [datas]
    rw [e1, e2, words_append, words_append]
    refine ((h.perm.append ?_).trans List.perm_append_comm)
    rcases hq with e | e
    · rw [e]
    · refine words_turn hK _ _ ⟨.inr e, trivial⟩ ?_
      intro l hl
      rw [List.mem_singleton] at hl
      subst hl
      exact hg.2.2
theorem Oth.reads {ps : List ByteArray} {K : Nat} {qs : List ByteArray} (h : Oth ps K 0 qs) (hl : ps.length ≤ 24) : ReadsIs qs := ⟨by have := h.len; omega, h.each⟩

theorem cv_inj {es es' : List Ent} (h : es.map cv = es'.map cv) : es = es' := by
  induction es generalizing es' with
  | nil => cases es' with
    | nil => rfl
    | cons y t => simp at h
  | cons x t ih => cases es' with
    | nil => simp at h
    | cons y t' =>
      simp only [List.map_cons, List.cons.injEq] at h
      rw [ih h.2]
      obtain ⟨s, n⟩ := x
      obtain ⟨s', n'⟩ := y
      have h1 := h.1
      simp only [cv, Prod.mk.injEq] at h1
      rw [kinds.bytes_eq h1.1, h1.2]
theorem tally_same {K : Nat} {rs rs' : List (List UInt8)} {es es' : List Ent} (h : TallyOf (wordsOf K rs) (es.map cv)) (h' : TallyOf (wordsOf K rs') (es'.map cv)) (hp : (wordsOf K rs').Perm (wordsOf K rs)) : es' = es :=
  cv_inj (h'.unique h (fun x => hp.count_eq x))

end Go.Proofs.YtbjgpfhbdmcbbaaGreatDoor.keep
