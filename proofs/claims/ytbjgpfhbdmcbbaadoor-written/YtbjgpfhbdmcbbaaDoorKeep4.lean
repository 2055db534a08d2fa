/-
  CONTRACT of quernkeep.written: the walk.
-/
import Derived.Test.YtbjgpfhbdmcbbaaDoorKeep3
namespace Go.Proofs.YtbjgpfhbdmcbbaaDoor.keep
open Go.RowKit Go.Proofs.YtbjgpfhbdmcbbaaDoor.dnamath Go.Proofs.YtbjgpfhbdmcbbaaDoor.dna Go.Proofs.YtbjgpfhbdmcbbaaDoor.pieces Go.Proofs.YtbjgpfhbdmcbbaaDoor.fill Go.Proofs.YtbjgpfhbdmcbbaaDoor.parse
set_option linter.unusedVariables false

theorem take_datas {ps : List ByteArray} {k : Nat} (hk : k < ps.length) : datas (ps.take (k + 1)) = datas (ps.take k) ++ [ps[k].data.toList] := by
  rw [List.take_succ_eq_append_getElem hk, datas_snoc]

theorem dig_size (k : Nat) (hk : k < 100) : (⟨(Lib.decDigits k).toArray⟩ : ByteArray).size ≤ 2 := by
  have := (digs k hk).2
  simpa [ByteArray.size] using this
theorem sofar_size {q : Bool} {o : ByteArray} {k : Nat} {rs : List (List UInt8)} (h : Sofar q o k rs) : o.size ≤ 200 * k := by
  obtain ⟨L, _, _, _, h⟩ := h; exact h
theorem datas_nonempty {r : ByteArray} (h : 0 < r.size) : r.data.toList ≠ [] := by
  rw [← List.length_pos_iff, ← Lib.size_eq]; exact h
theorem gr_snoc {g : ByteArray} {x : UInt8} (hp : 33 ≤ (x.toNat : Int) ∧ (x.toNat : Int) ≤ 126) (h : ∀ c ∈ g.data.toList, 33 ≤ (c.toNat : Int) ∧ (c.toNat : Int) ≤ 126) : ∀ c ∈ (g ++ ⟨#[x]⟩).data.toList, 33 ≤ (c.toNat : Int) ∧ (c.toNat : Int) ≤ 126 := by
  intro c hc
  have hc' : c ∈ g.data.toList ∨ c = x := by simpa using hc
  rcases hc' with hc | rfl
  · exact h c hc
  · exact hp
theorem conv_byte (p : Nat) (hp : p < 94) (w : World) : ∃ c : UInt8, (convert 54 9 (.slice (some ⟨w.heap.size, 0, none⟩) 1 1)).run Tryd.prog (w.alloc (.cells #[.int .u8 (33 + (p : Int))] 5)) = .ok (.string ⟨#[c]⟩) (w.alloc (.cells #[.int .u8 (33 + (p : Int))] 5)) ∧ 33 ≤ (c.toNat : Int) ∧ (c.toNat : Int) ≤ 126 := by
  have e : (UInt8.ofNat (33 + p)).toNat = 33 + p := by rw [UInt8.toNat_ofNat']; omega
  exact ⟨_, conv_one p hp w, by rw [e]; omega, by rw [e]; omega⟩
theorem itoa (k : Nat) (hk : k < 100) (w : World) : Calls Tryd.prog 29 #[.int .i64 k] w fun e w' => ∃ D : ByteArray, e = .returned (.string D) ∧ D = ⟨(Lib.decDigits k).toArray⟩ ∧ D.size ≤ 2 ∧ w' = w :=
  (Tryd.strconv_Itoa_small k hk w).mono fun e w' ⟨he, hw⟩ => ⟨_, he, rfl, dig_size k hk, hw⟩

set_option maxHeartbeats 2000000 in
set_option maxRecDepth 100000 in
theorem written_zero (v : Value) (ps : List ByteArray) (form wide : Int) (w : World) (hv : SRow w v ps) (hps : ReadsIs ps) (hf : -9223372036854775808 ≤ form ∧ form ≤ 9223372036854775807) (hw : -9223372036854775808 ≤ wide ∧ wide ≤ 9223372036854775807) (hz : pickI form 2 = 0) :
    Calls Tryd.prog 15 #[v, .int .i64 form, .int .i64 wide] w fun e w' => ∃ s, e = .returned (.string s) ∧ Sofar false s ps.length (datas ps) ∧ w' = w := by
  obtain ⟨hl12, hrd⟩ := hps
  have HRD : Hid (∀ p ∈ ps, 0 < p.size ∧ p.size ≤ 60 ∧ greatB p.data.toList) := hrd
  clear hrd
  obtain ⟨ao, cap, rfl, HC⟩ : ∃ ao cap, v = .slice ao ps.length cap ∧ Hid (∀ (j : Nat) (hj : j < ps.length), ∃ g, ao = some ⟨g, 0, none⟩ ∧ w.cell? ⟨g, j, none⟩ = some (.string ps[j])) := by
    rcases hv with ⟨rfl, rfl⟩ | ⟨g, cap, rfl, _, hc⟩
    · exact ⟨none, 0, rfl, fun j hj => by simp at hj⟩
    · exact ⟨_, cap, rfl, fun j hj => ⟨g, rfl, hc j hj⟩⟩
  clear hv
  go_enter Tryd.func15, Tryd.ntmps15
  go_wp2_with fail
  refine (pick_any wide 9 w hw (by omega) (by omega)).mono ?_
  rintro e w' ⟨pn, rfl, hpn, rfl⟩
  obtain ⟨n, hn⟩ : ∃ n : Nat, n = 1 + pn := ⟨_, rfl⟩
  have hN : (1 + (pn : Int)) = (n : Int) := by omega
  have hn1 : 1 ≤ n := by omega
  have hn9 : n ≤ 9 := by omega
  clear hn hpn
  go_wp2_with fail
  go_loopw [7, 9] (fun vo i wr => ∃ (k : Nat) (o : ByteArray), k ≤ ps.length ∧ i = .int .i64 k ∧ vo = .string o ∧ Hid (Sofar false o k (datas (ps.take k))) ∧ wr = w') (fun _ i _ => ps.length - (intOf i).toNat)
  case atStart => exact ⟨0, ⟨#[]⟩, Nat.zero_le _, rfl, rfl, ⟨[], rfl, fun x hx => by simp at hx, rfl, Nat.le_refl 0⟩, rfl⟩
  case round =>
    obtain ⟨k, o, hk, rfl, rfl, HS, hwr⟩ := hrel
    have hwr' := hwr.symm
    subst hwr'
    clear hwr
    by_cases hlt : k < ps.length
    · obtain ⟨g, rfl, hcell⟩ := HC.out k hlt
      have hos := sofar_size HS.out
      have HT : Hid (datas (ps.take (k + 1)) = datas (ps.take k) ++ [ps[k].data.toList]) := take_datas hlt
      have hr := HRD.out ps[k] (List.getElem_mem _)
      obtain ⟨r0, hr0⟩ : ∃ r0, r0 = ps[k] := ⟨_, rfl⟩
      rw [← hr0] at hcell HT hr
      clear hr0
      obtain ⟨hra, hrb, hrc⟩ := hr
      have HG : Hid (greatB r0.data.toList) := hrc
      have HR0 : Hid (r0.data.toList.length ≤ 60) := by show _ ≤ _; rw [← Lib.size_eq]; exact hrb
      clear hrc
      go_wp2_with (go_at_call 18; refine (pick_is form 2 _ hf (by omega) (by omega)).mono ?_; rintro e w2 ⟨rfl, hw2⟩; have hw3 := hw2.symm; subst hw3)
      go_wp2_with (go_at_call 29; refine (itoa k (by omega) _).mono ?_; rintro e w2 ⟨D, rfl, hDD, hDs, hw2⟩; have HDD : Hid (D = ⟨(Lib.decDigits k).toArray⟩) := hDD; clear hDD; have hw3 := hw2.symm; subst hw3)
      go_loopw [7, 10] (fun vo vr wr => ∃ (p r : ByteArray), vo = .string p ∧ vr = .string r ∧ 0 < r.size ∧ r.size ≤ 60 ∧ p.size ≤ 3000 ∧ Hid (Part o k (datas (ps.take k)) r0.data.toList p r.data.toList) ∧ wr = w') (fun _ vr _ => match vr with | .string r => r.size | _ => 0)
      case atStart =>
        have hP := part_start HS.out (datas_nonempty hra) HG.out (by omega) _ (by rw [← HDD.out])
        exact ⟨_, _, rfl, rfl, hra, hrb, by have := part_size hP HR0.out (by omega); omega, hP, rfl⟩
      case round =>
        obtain ⟨p, r, rfl, rfl, hr1, hr2, hp1, HP, hwr⟩ := hrel
        have hwr' := hwr.symm
        subst hwr'
        clear hwr
        by_cases hgt : n < r.size
        · have hs1 := slice_to r n (by omega)
          have hs2 := slice_from r n (by omega)
          have hes : (r.extract 0 n).size ≤ 60 := by rw [ByteArray.size_extract]; omega
          go_wp2
          go_roundw
          case rel =>
            have hP := part_more HP.out n hgt hn1
            exact ⟨_, _, rfl, rfl, by rw [ByteArray.size_extract]; omega, by rw [ByteArray.size_extract]; omega, by have := part_size hP HR0.out (by omega); omega, hP, trivial⟩
          case measure => simp [ByteArray.size_extract]; omega
        · go_wp2
          go_roundw
          case rel => exact ⟨k + 1, _, by omega, by go_num, rfl, by show Sofar _ _ _ _; rw [HT.out]; exact part_done HP.out HR0.out, trivial⟩
          case measure => simp [intOf]; omega
    · have hkk : k = ps.length := by omega
      have HS2 : Hid (Sofar false o ps.length (datas ps)) := by
        have := HS.out
        rw [hkk, List.take_length] at this; exact this
      go_wp2
      go_ret
      exact ⟨_, rfl, HS2.out, rfl⟩

set_option maxHeartbeats 2000000 in
set_option maxRecDepth 100000 in
theorem written_one (v : Value) (ps : List ByteArray) (form wide : Int) (w : World) (hv : SRow w v ps) (hps : ReadsIs ps) (hf : -9223372036854775808 ≤ form ∧ form ≤ 9223372036854775807) (hw : -9223372036854775808 ≤ wide ∧ wide ≤ 9223372036854775807) (hz : pickI form 2 ≠ 0) :
    Calls Tryd.prog 15 #[v, .int .i64 form, .int .i64 wide] w fun e w' => ∃ s, e = .returned (.string s) ∧ Sofar true s ps.length (datas ps) ∧ Below w.heap.size w w' := by
  obtain ⟨hl12, hrd⟩ := hps
  have HRD : Hid (∀ p ∈ ps, 0 < p.size ∧ p.size ≤ 60 ∧ greatB p.data.toList) := hrd
  clear hrd
  obtain ⟨ao, cap, rfl, HC⟩ : ∃ ao cap, v = .slice ao ps.length cap ∧ Hid (∀ (j : Nat) (hj : j < ps.length), ∃ g, ao = some ⟨g, 0, none⟩ ∧ g < w.heap.size ∧ w.cell? ⟨g, j, none⟩ = some (.string ps[j])) := by
    rcases hv with ⟨rfl, rfl⟩ | ⟨g, cap, rfl, hg, hc⟩
    · exact ⟨none, 0, rfl, fun j hj => by simp at hj⟩
    · exact ⟨_, cap, rfl, fun j hj => ⟨g, rfl, hg, hc j hj⟩⟩
  clear hv
  obtain ⟨P, hP⟩ : ∃ P, P = pickI form 2 := ⟨_, rfl⟩
  have hP0 : (P == 0) = false := by rw [hP, beq_eq_false_iff_ne]; exact hz
  have HPK : Hid (pickI form 2 = P) := hP.symm
  clear hz hP
  go_enter Tryd.func15, Tryd.ntmps15
  go_wp2_with fail
  refine (pick_any wide 9 w hw (by omega) (by omega)).mono ?_
  rintro e w' ⟨pn, rfl, hpn, rfl⟩
  go_wp2_with fail
  go_loopw [7, 9] (fun vo i wr => ∃ (k : Nat) (o : ByteArray), k ≤ ps.length ∧ i = .int .i64 k ∧ vo = .string o ∧ Hid (Sofar true o k (datas (ps.take k))) ∧ Below w'.heap.size w' wr) (fun _ i _ => ps.length - (intOf i).toNat)
  case atStart => exact ⟨0, ⟨#[]⟩, Nat.zero_le _, rfl, rfl, ⟨[], rfl, fun x hx => by simp at hx, rfl, Nat.le_refl 0⟩, Below.refl _ _⟩
  case round =>
    obtain ⟨k, o, hk, rfl, rfl, HS, hb⟩ := hrel
    rename World => w1
    by_cases hlt : k < ps.length
    · obtain ⟨g, rfl, hgl, hcell0⟩ := HC.out k hlt
      have hcell : w1.cell? ⟨g, k, none⟩ = some (.string ps[k]) := (hb.cell (by exact hgl)).trans hcell0
      have hos := sofar_size HS.out
      have HT : Hid (datas (ps.take (k + 1)) = datas (ps.take k) ++ [ps[k].data.toList]) := take_datas hlt
      have hr := HRD.out ps[k] (List.getElem_mem _)
      obtain ⟨r0, hr0⟩ : ∃ r0, r0 = ps[k] := ⟨_, rfl⟩
      rw [← hr0] at hcell HT hr
      clear hr0 hcell0
      obtain ⟨hra, hrb, hrc⟩ := hr
      have HG : Hid (greatB r0.data.toList) := hrc
      have HB : Hid (Below w'.heap.size w' w1) := hb
      have hb1 : w'.heap.size ≤ w1.heap.size := hb.size
      clear hrc hb
      go_wp2_with (go_at_call 18; refine (pick_is form 2 _ hf (by omega) (by omega)).mono ?_; rintro e w2 ⟨rfl, hw2⟩; rw [HPK.out]; have hw3 := hw2.symm; subst hw3)
      go_wp2_with fail
      go_loopw [11, 12] (fun vq j wr => ∃ (j' : Nat) (q : ByteArray), j' ≤ r0.size ∧ j = .int .i64 j' ∧ vq = .string q ∧ q.size = j' ∧ Hid (∀ c ∈ q.data.toList, 33 ≤ (c.toNat : Int) ∧ (c.toNat : Int) ≤ 126) ∧ Hid (Below w'.heap.size w' wr) ∧ w'.heap.size ≤ wr.heap.size) (fun _ j _ => r0.size - (intOf j).toNat)
      case atStart => exact ⟨0, ⟨#[]⟩, Nat.zero_le _, rfl, rfl, rfl, fun c hc => by simp at hc, HB.out, hb1⟩
      case round =>
        obtain ⟨j, q, hj, rfl, rfl, hq, HQ, HB2, hb2⟩ := hrel
        have HQS : Hid (q.size = j) := hq
        have hq60 : q.size ≤ 60 := by omega
        clear hq
        rename World => w2
        by_cases hjl : j < r0.size
        · have hw' := wide_ok (wide + (j : Int))
          go_wp2_with (go_at_call 18; refine (pick_any _ 94 _ hw' (by omega) (by omega)).mono ?_; rintro e w3 ⟨p, rfl, hp, hw3⟩; have hw4 := hw3.symm; subst hw4; obtain ⟨c, hcv, hcr⟩ := conv_byte p (by omega) w2; have HCR : Hid (33 ≤ (c.toNat : Int) ∧ (c.toNat : Int) ≤ 126) := hcr; clear hcr)
          go_roundw
          case rel => exact ⟨j + 1, _, by omega, by go_num, rfl, by rw [ByteArray.size_append, HQS.out]; rfl, gr_snoc HCR.out HQ.out, HB2.out.alloc hb2 _, by simp; omega⟩
          case measure => simp [intOf]; omega
        · have HJJ : Hid (q.size = r0.size) := by have := HQS.out; show _ = _; omega
          go_wp2_with (go_at_call 29; refine (itoa k (by omega) _).mono ?_; rintro e w3 ⟨D, rfl, hDD, hDs, hw2⟩; have HDD : Hid (D = ⟨(Lib.decDigits k).toArray⟩) := hDD; clear hDD; have hw3 := hw2.symm; subst hw3)
          go_roundw
          case rel => exact ⟨k + 1, _, by omega, by go_num, rfl, by show Sofar _ _ _ _; rw [HT.out]; exact full_done HS.out (by omega) hrb hra HG.out HJJ.out HQ.out _ (by rw [← HDD.out]), HB2.out⟩
          case measure => simp [intOf]; omega
    · have hkk : k = ps.length := by omega
      have HS2 : Hid (Sofar true o ps.length (datas ps)) := by
        have := HS.out
        rw [hkk, List.take_length] at this; exact this
      go_wp2
      go_ret
      exact ⟨_, rfl, HS2.out, hb⟩

/-- what written writes is of a form, and reads as the reads -/
theorem written_any (v : Value) (ps : List ByteArray) (form wide : Int) (w : World) (hv : SRow w v ps) (hps : ReadsIs ps) (hf : -9223372036854775808 ≤ form ∧ form ≤ 9223372036854775807) (hw : -9223372036854775808 ≤ wide ∧ wide ≤ 9223372036854775807) :
    Calls Tryd.prog 15 #[v, .int .i64 form, .int .i64 wide] w fun e w' => ∃ s, e = .returned (.string s) ∧ s.size ≤ 20000 ∧ FormIs s (datas ps) ∧ Below w.heap.size w w' := by
  have hl : (datas ps).length ≤ 20000 := by rw [datas_length]; have := hps.1; omega
  by_cases hz : pickI form 2 = 0
  · refine (written_zero v ps form wide w hv hps hf hw hz).mono fun e w' ⟨s, he, hs, hw'⟩ => ?_
    subst hw'
    have h1 := sofar_size hs
    obtain ⟨L, a, b, c, d⟩ := hs
    exact ⟨s, he, by have := hps.1; omega, form_of false s L (datas ps) a b c hl, Below.refl _ _⟩
  · refine (written_one v ps form wide w hv hps hf hw hz).mono fun e w' ⟨s, he, hs, hb⟩ => ?_
    have h1 := sofar_size hs
    obtain ⟨L, a, b, c, d⟩ := hs
    exact ⟨s, he, by have := hps.1; omega, form_of true s L (datas ps) a b c hl, hb⟩
end Go.Proofs.YtbjgpfhbdmcbbaaDoor.keep
