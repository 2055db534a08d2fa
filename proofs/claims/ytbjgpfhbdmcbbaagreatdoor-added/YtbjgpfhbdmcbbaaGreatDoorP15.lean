import Derived.Test.YtbjgpfhbdmcbbaaGreatDoorP14
import Derived.Test.YtbjgpfhbdmcbbaaGreatDoorP09
import Derived.Lib.Atoi
import Derived.Test.YtbjgpfhbdmcbbaaGreatDoorP12

/-
  LINES AND RECORDS of a text that was written line by line.
-/
namespace Go.Proofs.YtbjgpfhbdmcbbaaGreatDoor.parse
open Go.RowKit Go.Proofs.YtbjgpfhbdmcbbaaGreatDoor.dnamath Go.Proofs.YtbjgpfhbdmcbbaaGreatDoor.dna Go.Proofs.YtbjgpfhbdmcbbaaGreatDoor.pieces Go.Proofs.YtbjgpfhbdmcbbaaGreatDoor.lines
set_option linter.unusedVariables false

def unlines (L : List (List UInt8)) : List UInt8 := (L.map (· ++ [10])).flatten
def joinN : List (List UInt8) → List UInt8
  | [] => []
  | [x] => x
  | x :: y :: t => x ++ 10 :: joinN (y :: t)
def clean (x : List UInt8) : Prop := ∀ c ∈ x, c ≠ 10

theorem unlines_append (A B : List (List UInt8)) : unlines (A ++ B) = unlines A ++ unlines B := by simp [unlines]
theorem unlines_one (x : List UInt8) : unlines [x] = x ++ [10] := by simp [unlines]

theorem unl_join : ∀ (L : List (List UInt8)), L ≠ [] → unlines L = joinN L ++ [10]
  | [], h => absurd rfl h
  | [x], _ => by simp [unlines, joinN]
  | x :: y :: t, _ => by
    have ih := unl_join (y :: t) (by simp)
    have e : unlines (x :: y :: t) = x ++ [10] ++ unlines (y :: t) := by simp [unlines]
    rw [e, ih]
    simp [joinN]

theorem idx_clean : ∀ (x r : List UInt8), clean x → Lib.indexByte (x ++ 10 :: r) 10 = x.length
  | [], r, _ => by simp [Lib.indexByte]
  | b :: x, r, h => by
    have hb : (b == 10) = false := by rw [beq_eq_false_iff_ne]; exact h b (by simp)
    have ih := idx_clean x r (fun c hc => h c (by simp [hc]))
    rw [List.cons_append, Lib.indexByte, hb, ih]
    have hn : (((x.length : Nat) : Int) == -1) = false := by rw [beq_eq_false_iff_ne]; omega
    rw [hn]
    simp
theorem idx_none : ∀ (x : List UInt8), clean x → Lib.indexByte x 10 = -1
  | [], _ => rfl
  | b :: x, h => by
    have hb : (b == 10) = false := by rw [beq_eq_false_iff_ne]; exact h b (by simp)
    have ih := idx_none x (fun c hc => h c (by simp [hc]))
    rw [Lib.indexByte, hb, ih]
    rfl

theorem split_join : ∀ (L : List (List UInt8)), L ≠ [] → (∀ x ∈ L, clean x) → Lib.splitK [10] 0 (Lib.count (joinN L) [10]) (joinN L) = L
  | [], h, _ => absurd rfl h
  | [x], _, hc => by
    have hi : Lib.index x [10] = -1 := by rw [Lib.index_one]; exact idx_none x (hc x (by simp))
    show Lib.splitK [10] 0 (Lib.count x [10]) x = [x]
    rw [Lib.count_miss hi]
    rfl
  | x :: y :: t, _, hc => by
    have ih := split_join (y :: t) (by simp) (fun z hz => hc z (by simp [List.mem_cons.1 hz]))
    have hi : Lib.index (x ++ 10 :: joinN (y :: t)) [10] = (x.length : Nat) := by rw [Lib.index_one]; exact idx_clean x _ (hc x (by simp))
    have hcnt := Lib.count_hit (s := x ++ 10 :: joinN (y :: t)) (sub := [10]) (by simp) hi
    have hd : (x ++ 10 :: joinN (y :: t)).drop (x.length + [(10 : UInt8)].length) = joinN (y :: t) := by
      rw [List.drop_append]; simp
    rw [hd, Nat.add_comm] at hcnt
    show Lib.splitK [10] 0 (Lib.count (x ++ 10 :: joinN (y :: t)) [10]) (x ++ 10 :: joinN (y :: t)) = _
    rw [hcnt, Lib.splitK, if_neg (by rw [hi]; simp), hi, Int.toNat_natCast, Nat.add_zero, hd, ih]
    simp

theorem trim_snoc (a : List UInt8) : Lib.trimSuffix (a ++ [10]) [10] = a := by
  have h : Lib.hasSuffix (a ++ [10]) [10] = true := by
    rw [← Lib.hasSuffix_of_drop]; simp
  unfold Lib.trimSuffix
  rw [if_pos h]
  simp

theorem lines_unlines {L : List (List UInt8)} (h : L ≠ []) (hc : ∀ x ∈ L, clean x) : linesL (unlines L) = L := by
  unfold linesL
  rw [unl_join L h, trim_snoc]
  exact split_join L h hc

/-- letters that are great already -/
def greatB (x : List UInt8) : Prop := x.all isBN = true
theorem great_id {x : List UInt8} (h : greatB x) : great x = x := by
  unfold great
  conv => rhs; rw [← List.map_id x]
  apply List.map_congr_left
  intro c hc
  have hb := List.all_eq_true.1 h c hc
  simp only [isBN, isB, Bool.or_eq_true, beq_iff_eq] at hb
  rcases hb with (((rfl | rfl) | rfl) | rfl) | rfl <;> decide

/-- the lines of records of a form -/
def RecLL (q : Bool) : List (List UInt8) → List (List UInt8) → Prop
  | L, [] => L = []
  | L, r :: rs => ∃ L', RecLL q L' rs ∧ r.length ≤ 1000000 ∧
      ((q = false ∧ ∃ h cs, L = (62 :: h) :: cs ++ L' ∧ cs ≠ [] ∧ (∀ x ∈ cs, x ≠ [] ∧ greatB x) ∧ cs.flatten = r) ∨
       (q = true ∧ ∃ h g, L = [64 :: h, r, [43], g] ++ L' ∧ r ≠ [] ∧ greatB r ∧ g.length = r.length ∧ ∀ c ∈ g, 33 ≤ (c.toNat : Int) ∧ (c.toNat : Int) ≤ 126))

theorem get_datas {ts : List ByteArray} {L : List (List UInt8)} (h : datas ts = L) (j : Nat) (hj : j < ts.length) : L[j]? = some ts[j].data.toList := by
  rw [← h]; simp [datas, hj]
theorem hp_cons (c : UInt8) (l : List UInt8) : Lib.hasPrefix (c :: l) [c] = true := by simp [Lib.hasPrefix]

theorem accL_of {ts : List ByteArray} {pre cs post : List (List UInt8)} (h : datas ts = pre ++ cs ++ post) (hg : ∀ x ∈ cs, greatB x) : ∀ n, n ≤ cs.length → accL ts pre.length (pre.length + n) = (cs.take n).flatten
  | 0, _ => by rw [Nat.add_zero, accL_self]; rfl
  | n + 1, hn => by
    have hlen : ts.length = pre.length + cs.length + post.length := by rw [← datas_length, h]; simp; omega
    have hj : pre.length + n < ts.length := by omega
    have hx := get_datas h (pre.length + n) hj
    have hx2 : (pre ++ cs ++ post)[pre.length + n]? = some cs[n] := by
      rw [List.append_assoc, List.getElem?_append_right (by omega), Nat.add_sub_cancel_left, List.getElem?_append_left (by omega)]
      exact List.getElem?_eq_getElem (by omega)
    rw [hx2] at hx
    have e : cs[n] = ts[pre.length + n].data.toList := Option.some.inj hx
    rw [← Nat.add_assoc, accL_succ (by omega) hj, accL_of h hg n (by omega), ← e, great_id (hg _ (List.getElem_mem _))]
    have e5 : cs.take (n+1) = cs.take n ++ [cs[n]] := List.take_succ_eq_append_getElem (by omega)
    rw [e5, List.flatten_append]
    simp

theorem take_flatten_le {cs : List (List UInt8)} (n : Nat) : (cs.take n).flatten.length ≤ cs.flatten.length := by
  conv => rhs; rw [← List.take_append_drop n cs]
  rw [List.flatten_append, List.length_append]; omega

theorem mem_len {cs : List (List UInt8)} {x : List UInt8} (h : x ∈ cs) : x.length ≤ cs.flatten.length := by
  obtain ⟨a, b, rfl⟩ := List.append_of_mem h
  simp; omega

theorem recs_of (q : Bool) {ts : List ByteArray} : ∀ (rs pre L : List (List UInt8)), datas ts = pre ++ L → RecLL q L rs → Recs q ts pre.length rs
  | [], pre, L, h, hr => by
    have hr : L = [] := hr
    subst hr
    show pre.length = ts.length
    rw [← datas_length, h, List.append_nil]
  | r :: rs, pre, L, h, hr => by
    obtain ⟨L', hr', hrl, hx⟩ := hr
    rcases hx with ⟨rfl, hd, cs, rfl, hne, hcs, hfl⟩ | ⟨rfl, hd, gr, rfl, hne, hgb, hgl, hgr⟩
    · have h1 : datas ts = (pre ++ [62 :: hd]) ++ cs ++ L' := by rw [h]; simp
      have h2 : datas ts = (pre ++ ((62 :: hd) :: cs)) ++ L' := by rw [h]; simp
      have hlen : ts.length = pre.length + 1 + cs.length + L'.length := by rw [← datas_length, h1]; simp; omega
      have hcl : 0 < cs.length := List.length_pos_iff.2 hne
      have hacc := accL_of h1 (fun x hx => (hcs x hx).2)
      have hp1 : (pre ++ [62 :: hd]).length = pre.length + 1 := by simp
      rw [hp1] at hacc
      refine ⟨pre.length + 1 + cs.length, .inl ⟨rfl, ⟨by omega, by omega, ?_, ?_, ?_, ?_⟩, ?_⟩, ?_⟩
      · intro hk
        have hx := get_datas h pre.length hk
        rw [List.getElem?_append_right (Nat.le_refl _), Nat.sub_self] at hx
        have e : 62 :: hd = ts[pre.length].data.toList := by simpa using hx
        rw [← e]; exact hp_cons 62 hd
      · intro j hj hj1 hj2
        have hx := get_datas h1 j hj
        rw [List.append_assoc, List.getElem?_append_right (by rw [hp1]; omega), hp1, List.getElem?_append_left (by omega), List.getElem?_eq_getElem (by omega)] at hx
        have e := Option.some.inj hx
        have hm : cs[j - (pre.length + 1)] ∈ cs := List.getElem_mem _
        obtain ⟨g1, g2⟩ := hcs _ hm
        rw [e] at g1 g2 hm
        refine ⟨?_, ?_, ?_⟩
        · rw [Lib.size_eq]; exact List.length_pos_iff.2 g1
        · rw [Lib.size_eq]; have := mem_len hm; rw [hfl] at this; omega
        · rw [great_id g2]; exact g2
      · intro he
        cases rs with
        | nil =>
          have : L' = [] := hr'
          rw [this] at hlen; simp at hlen; omega
        | cons r2 rs2 =>
          obtain ⟨L2, _, _, hy⟩ := hr'
          rcases hy with ⟨_, hd2, cs2, rfl, _⟩ | ⟨hq, _⟩
          · have hx := get_datas h2 (pre.length + 1 + cs.length) he
            rw [List.getElem?_append_right (by simp; omega)] at hx
            have e0 : pre.length + 1 + cs.length - (pre ++ ((62 :: hd) :: cs)).length = 0 := by simp; omega
            rw [e0] at hx
            have e : 62 :: hd2 = ts[pre.length + 1 + cs.length].data.toList := by simpa using hx
            rw [← e]; exact hp_cons 62 hd2
          · cases hq
      · intro j hj
        by_cases hj1 : j ≤ pre.length + 1
        · have e : accL ts (pre.length + 1) j = [] := by unfold accL; rw [List.drop_of_length_le (by rw [List.length_take]; omega)]; rfl
          rw [e]; simp
        · obtain ⟨n, rfl⟩ : ∃ n, j = pre.length + 1 + n := ⟨j - (pre.length + 1), by omega⟩
          rw [hacc n (by omega)]
          have := take_flatten_le (cs := cs) n
          rw [hfl] at this; omega
      · rw [hacc cs.length (Nat.le_refl _), List.take_length, hfl]
      · have hp2 : (pre ++ ((62 :: hd) :: cs)).length = pre.length + 1 + cs.length := by simp; omega
        rw [← hp2]
        exact recs_of false rs _ L' h2 hr'
    · have h1 : datas ts = (pre ++ [64 :: hd]) ++ [r] ++ ([43] :: gr :: L') := by rw [h]; simp
      have h2 : datas ts = (pre ++ [64 :: hd, r, [43], gr]) ++ L' := by rw [h]; simp
      have hlen : ts.length = pre.length + 4 + L'.length := by rw [← datas_length, h2]; simp; omega
      have at_ : ∀ n (hn : n < 4) (hj : pre.length + n < ts.length), [64 :: hd, r, [43], gr][n]? = some ts[pre.length + n].data.toList := by
        intro n hn hj
        have hx := get_datas h (pre.length + n) hj
        rw [List.getElem?_append_right (by omega), Nat.add_sub_cancel_left, List.getElem?_append_left (by simp; omega)] at hx
        exact hx
      have hacc := accL_of h1 (fun x hx => by rw [List.mem_singleton] at hx; subst hx; exact hgb) 1 (by simp)
      have hp1 : (pre ++ [64 :: hd]).length = pre.length + 1 := by simp
      rw [hp1] at hacc
      refine ⟨pre.length + 4, .inr ⟨rfl, ⟨by omega, ?_, ?_, ?_, ?_⟩, rfl, ?_⟩, ?_⟩
      · intro hk
        have e : 64 :: hd = ts[pre.length].data.toList := by simpa using at_ 0 (by omega) hk
        rw [← e]; exact hp_cons 64 hd
      · intro hk
        have e : r = ts[pre.length + 1].data.toList := by simpa using at_ 1 (by omega) hk
        refine ⟨?_, ?_, ?_⟩
        · rw [Lib.size_eq, ← e]; exact List.length_pos_iff.2 hne
        · rw [Lib.size_eq, ← e]; exact hrl
        · rw [← e, great_id hgb]; exact hgb
      · intro hk
        have e : [43] = ts[pre.length + 2].data.toList := by simpa using at_ 2 (by omega) hk
        rw [← e]; exact hp_cons 43 []
      · intro hk hk1
        have e1 : r = ts[pre.length + 1].data.toList := by simpa using at_ 1 (by omega) hk1
        have e3 : gr = ts[pre.length + 3].data.toList := by simpa using at_ 3 (by omega) hk
        refine ⟨by rw [Lib.size_eq, Lib.size_eq, ← e1, ← e3]; exact hgl, fun j hj => ?_⟩
        apply hgr
        rw [e3]
        have : ts[pre.length + 3][j] = ts[pre.length + 3].data.toList[j]'(by rw [← Lib.size_eq]; exact hj) := rfl
        rw [this]; exact List.getElem_mem _
      · rw [hacc]; simp
      · have hp2 : (pre ++ [64 :: hd, r, [43], gr]).length = pre.length + 4 := by simp
        rw [← hp2]
        exact recs_of true rs _ L' h2 hr'

/-- a text written line by line is of its form -/
theorem form_of (q : Bool) (s : ByteArray) (L rs : List (List UInt8)) (hs : s.data.toList = unlines L) (hc : ∀ x ∈ L, clean x) (hr : RecLL q L rs) (hl : rs.length ≤ 20000) : FormIs s rs := by
  cases rs with
  | nil =>
    have : L = [] := hr
    subst this
    exact .inl ⟨by apply ByteArray.ext; apply Array.toList_inj.1; rw [hs]; rfl, rfl⟩
  | cons r rs =>
    have hL : L ≠ [] := by
      rintro rfl
      obtain ⟨L', _, _, hx⟩ := hr
      rcases hx with ⟨_, h, cs, e, _⟩ | ⟨_, h, g, e, _⟩ <;> simp at e
    have hfirst : ∃ l, s.data.toList = (if q then 64 else 62) :: l := by
      obtain ⟨L', _, _, hx⟩ := hr
      rcases hx with ⟨rfl, h, cs, rfl, _⟩ | ⟨rfl, h, g, rfl, _⟩
      · exact ⟨_, by rw [hs]; simp [unlines]; rfl⟩
      · exact ⟨_, by rw [hs]; simp [unlines]; rfl⟩
    obtain ⟨l, hl2⟩ := hfirst
    have h0 : 0 < s.size := by rw [Lib.size_eq, hl2]; simp
    refine .inr ⟨q, h0, ?_, fun ts hts => ?_, hl⟩
    · have : s[0] = s.data.toList[0]'(by rw [← Lib.size_eq]; exact h0) := rfl
      rw [this]
      simp [hl2]
    · rw [hs, lines_unlines hL hc] at hts
      have := recs_of q (r :: rs) [] L (by rw [hts]; rfl) hr
      exact this
end Go.Proofs.YtbjgpfhbdmcbbaaGreatDoor.parse

/-
  PLAIN MATHEMATICS of the files' texts: numbers, seals.
-/
namespace Go.Proofs.YtbjgpfhbdmcbbaaGreatDoor.files
open Go.Proofs.YtbjgpfhbdmcbbaaGreatDoor.dnamath Go.Proofs.YtbjgpfhbdmcbbaaGreatDoor.hex Go.Proofs.YtbjgpfhbdmcbbaaGreatDoor.parse
set_option linter.unusedVariables false

theorem dec_digit : ∀ (u : Nat), ∀ c ∈ Lib.decDigits u, 48 ≤ c.toNat ∧ c.toNat ≤ 57 := by
  intro u
  induction u using Nat.strongRecOn with
  | ind u ih =>
    intro c hc
    rw [Lib.decDigits] at hc
    split at hc
    · rename_i h
      rw [List.mem_singleton] at hc
      subst hc
      rw [UInt8.toNat_ofNat']
      omega
    · rename_i h
      rw [List.mem_append, List.mem_singleton] at hc
      rcases hc with hc | hc
      · exact ih (u / 10) (by omega) c hc
      · subst hc
        rw [UInt8.toNat_ofNat']
        omega
theorem itoa_nat (u : Nat) : Lib.itoa (u : Int) = Lib.decDigits u := by unfold Lib.itoa; rw [if_neg (by omega)]; simp
theorem dec_len : ∀ (k u : Nat), u < 10 ^ (k + 1) → (Lib.decDigits u).length ≤ k + 1
  | 0, u, h => by rw [Lib.decDigits, dif_pos (by simpa using h)]; simp
  | k + 1, u, h => by
    rw [Lib.decDigits]
    split
    · simp
    · rw [List.length_append]
      have := dec_len k (u / 10) (by rw [Nat.pow_succ] at h; exact Nat.div_lt_of_lt_mul (by rw [Nat.mul_comm]; exact h))
      simp; omega
theorem hexL_hex (n : Nat) (h : n < 18446744073709551616) : ∀ c ∈ hexL n, (48 ≤ c.toNat ∧ c.toNat ≤ 57) ∨ (97 ≤ c.toNat ∧ c.toNat ≤ 102) :=
  hexF_hex 16 n (by have : (16 : Nat) ^ (16 + 1) = 295147905179352825856 := by decide
                    omega)
theorem hexL_len (n : Nat) : (hexL n).length ≤ 17 := hexF_len 16 n
theorem seal_len (r s : Nat) (hr : r ≤ 1000000000) : (sealL r s).length ≤ 40 := by
  unfold sealL
  rw [itoa_nat]
  have h1 := dec_len 9 r (by omega)
  have h2 := hexL_len s
  simp; omega

/-- the seal but for its last byte -/
def sealF (r s : Nat) : List UInt8 := [61] ++ Lib.itoa (r : Int) ++ [32] ++ hexL s
theorem seal_eq (r s : Nat) : sealL r s = sealF r s ++ [10] := rfl
theorem sealF_no (r s : Nat) (hs : s < 18446744073709551616) : ∀ c ∈ sealF r s, c ≠ 10 := by
  intro c hc e
  subst e
  unfold sealF at hc
  rw [itoa_nat] at hc
  simp only [List.mem_append, List.mem_singleton] at hc
  rcases hc with ((hc | hc) | hc) | hc
  · revert hc; decide
  · have := dec_digit r _ hc; revert this; decide
  · revert hc; decide
  · have := hexL_hex s hs _ hc; revert this; decide

theorem occ_iff (s : List UInt8) (k : Nat) : Lib.occAt s [10, 61] k = true ↔ s[k]? = some 10 ∧ s[k + 1]? = some 61 := by
  unfold Lib.occAt
  have h1 : s[k]? = (s.drop k)[0]? := by rw [List.getElem?_drop]; rfl
  have h2 : s[k + 1]? = (s.drop k)[1]? := by rw [List.getElem?_drop]
  rw [h1, h2]
  cases s.drop k with
  | nil => simp
  | cons a t =>
    cases t with
    | nil => simp
    | cons b t =>
      have e : ([10, 61] : List UInt8).isPrefixOf (a :: b :: t) = ((10 == a) && (61 == b)) := by simp [List.isPrefixOf]
      rw [e, Bool.and_eq_true, beq_iff_eq, beq_iff_eq]
      constructor
      · rintro ⟨h1, h2⟩; subst h1; subst h2; exact ⟨rfl, rfl⟩
      · rintro ⟨h1, h2⟩; exact ⟨(Option.some.inj h1).symm, (Option.some.inj h2).symm⟩

/-- where the seal begins -/
theorem last_seal (Z0 : List UInt8) (r s : Nat) (hs : s < 18446744073709551616) : Lib.lastIndex (Z0 ++ [10] ++ sealL r s) [10, 61] = (Z0.length : Int) := by
  have hl : (Z0 ++ [10] ++ sealL r s).length = Z0.length + 1 + (sealF r s).length + 1 := by rw [seal_eq]; simp; omega
  unfold Lib.lastIndex
  rw [if_pos (by rw [hl]; simp; omega)]
  obtain ⟨K, hK⟩ : ∃ K, K = (Z0 ++ [10] ++ sealL r s).length - ([10, 61] : List UInt8).length + 1 := ⟨_, rfl⟩
  have hK2 : Z0.length < K := by rw [hK, hl]; simp; omega
  have hK3 : K ≤ Z0.length + 1 + (sealF r s).length := by rw [hK, hl]; simp; omega
  rw [← hK]
  have hat : Lib.occAt (Z0 ++ [10] ++ sealL r s) [10, 61] Z0.length = true := by
    rw [occ_iff]
    constructor
    · rw [List.append_assoc, List.getElem?_append_right (Nat.le_refl _), Nat.sub_self]; rfl
    · rw [List.getElem?_append_right (by simp)]
      simp [sealL]
  have hno : ∀ j, Z0.length < j → j < K → Lib.occAt (Z0 ++ [10] ++ sealL r s) [10, 61] j = false := by
    intro j h1 h2
    cases hc : Lib.occAt (Z0 ++ [10] ++ sealL r s) [10, 61] j with
    | false => rfl
    | true =>
      have hj := ((occ_iff _ _).1 hc).1
      rw [List.getElem?_append_right (by simp; omega), seal_eq] at hj
      have e : j - (Z0 ++ [10]).length < (sealF r s).length := by simp; omega
      rw [List.getElem?_append_left e] at hj
      exact absurd rfl (sealF_no r s hs 10 (List.mem_of_getElem? hj))
  rcases Lib.lastOcc_spec (Z0 ++ [10] ++ sealL r s) [10, 61] K with ⟨_, h2⟩ | ⟨i, hi, h1, h2, h3⟩
  · rw [h2 _ hK2] at hat; cases hat
  · rw [h1]
    have : i = Z0.length := by
      rcases Nat.lt_trichotomy i Z0.length with h | h | h
      · rw [h3 _ h hK2] at hat; cases hat
      · exact h
      · rw [hno i h hi] at h2; cases h2
    rw [this]
end Go.Proofs.YtbjgpfhbdmcbbaaGreatDoor.files

/-
  CONTRACTS of package quern: a file is written: plan.save, part.save.
-/
namespace Go.Proofs.YtbjgpfhbdmcbbaaGreatDoor.kinds
open Go.RowKit Go.Proofs.YtbjgpfhbdmcbbaaGreatDoor.dnamath Go.Proofs.YtbjgpfhbdmcbbaaGreatDoor.dna Go.Proofs.YtbjgpfhbdmcbbaaGreatDoor.diskm Go.Proofs.YtbjgpfhbdmcbbaaGreatDoor.disk Go.Proofs.YtbjgpfhbdmcbbaaGreatDoor.keep Go.Proofs.YtbjgpfhbdmcbbaaGreatDoor.hex Go.Proofs.YtbjgpfhbdmcbbaaGreatDoor.pieces Go.Proofs.YtbjgpfhbdmcbbaaGreatDoor.files
set_option linter.unusedVariables false

abbrev sum0 : Nat := 14695981039346656037
/-- a file is being written: Z so far; nothing of it is on the disk yet -/
structure Writing (Bo : Nat) (w0 w : World) (b o : Nat) (cs : Array Value) (T : TypeId) (p : Nat) (n h : ByteArray) (S : DS) (Z : List UInt8) : Prop where
  file : ∃ wv, FileAt Bo w b o (fset cs o (sumL sum0 Z) Z.length wv) T p n h (sumL sum0 Z) Z.length wv Z
  disk : Disk Bo w p (S.create draftB).2
  kept : FK Bo b w0 w

/-- what a whole file holds -/
def whole (Z : List UInt8) : ByteArray := ⟨(Z ++ sealL Z.length (sumL sum0 Z)).toArray⟩
theorem whole_size (Z : List UInt8) (h : Z.length ≤ 1000000) : (whole Z).size ≤ Z.length + 40 := by
  rw [Lib.size_eq]
  show (Z ++ sealL Z.length (sumL sum0 Z)).length ≤ _
  rw [List.length_append]
  have := seal_len Z.length (sumL sum0 Z) (by omega)
  omega

/-- a disk with room, in order -/
structure Roomy (S : DS) (N : Nat) : Prop where
  good : files.Good S N
  cap : S.cap = 1152921504606846976
  bytes : S.bytes ≤ 100000000000
  draft : findIs draftB S.now = false

theorem Begin_w {Bo : Nat} (b o : Nat) (cs : Array Value) (T : TypeId) (p : Nat) (n h : ByteArray) (sum wr : Nat) (wv : Value) (W : List UInt8) (S : DS) (N : Nat) (w : World) (H : FileAt Bo w b o cs T p n h sum wr wv W)
    (hD : Disk Bo w p S) (hS : Roomy S N) (hN : N ≤ 5000) (hh : h.size ≤ 60000) :
    Calls Tryz.prog 170 #[.pointer (some ⟨b, o, none⟩)] w fun e w' => e = .returned .nilIface ∧ Writing Bo w w' b o cs T p n h S h.data.toList := by
  refine (Begin_any b o cs T p n h sum wr wv W S N w H hD hS.good.ok (by omega) hS.good.fine (DS.look_none hS.draft) hS.draft hh).mono ?_
  rintro e w' ⟨wv', rfl, h1, h2, h3⟩
  refine ⟨rfl, ⟨wv', ?_⟩, h2, h3⟩
  rw [← Lib.size_eq]
  exact h1

theorem Write_w {Bo : Nat} (w0 : World) (b o : Nat) (cs : Array Value) (T : TypeId) (p : Nat) (n h : ByteArray) (S : DS) (Z : List UInt8) (t : ByteArray) (w : World) (H : Writing Bo w0 w b o cs T p n h S Z) (hZ : Z.length + t.size ≤ 60000) :
    Calls Tryz.prog 171 #[.pointer (some ⟨b, o, none⟩), .string t] w fun e w' => e = .returned .nilIface ∧ Writing Bo w0 w' b o cs T p n h S (Z ++ t.data.toList) ∧ FK Bo b w w' := by
  obtain ⟨wv, hf⟩ := H.file
  refine (Write_any b o _ T p n h _ _ wv Z t w hf (sumL_lt _ (by decide) _) (by omega) (by omega)).mono ?_
  rintro e w' ⟨wv', rfl, h1, h2⟩
  rw [fset_fset, ← sumL_append] at h1
  have hl : Z.length + t.size = (Z ++ t.data.toList).length := by rw [List.length_append, ← Lib.size_eq]
  rw [hl] at h1
  exact ⟨rfl, ⟨⟨wv', h1⟩, h2.disk H.disk hf.notDisk, H.kept.trans (.ofWK h2)⟩, .ofWK h2⟩

theorem Seal_w {Bo : Nat} (w0 : World) (b o : Nat) (cs : Array Value) (T : TypeId) (p : Nat) (n h : ByteArray) (S : DS) (N : Nat) (Z : List UInt8) (a bb : Addr) (w : World) (H : Writing Bo w0 w b o cs T p n h S Z) (hg : Gs w a bb)
    (hS : Roomy S N) (hN : N ≤ 5000) (hZ : Z.length ≤ 60000) (hn : n.size ≠ 0) (hnd : strEq draftB n = false) :
    Calls Tryz.prog 172 #[.pointer (some ⟨b, o, none⟩)] w fun e w' => ∃ S' s' r', e = .returned .nilIface ∧ FileAt Bo w' b o (fset cs o s' r' (.slice none 0 0)) T p n h s' r' (.slice none 0 0) [] ∧ Disk Bo w' p S' ∧ Saved S S' N draftB n (whole Z) ∧ FK Bo b w0 w' ∧ FK Bo b w w' := by
  obtain ⟨wv, hf⟩ := H.file
  have hsz := whole_size Z (by omega)
  obtain ⟨sv, c1, c2, c3, c4, c5, c6, c7⟩ := saved_of (X := whole Z) hS.good.fine hS.good.ok hS.good.sorted hS.good.named hS.draft (by decide) hn hnd (by rw [hS.cap]; have := hS.bytes; omega)
  refine (Seal_any b o _ T p n h _ _ wv Z (S.create draftB).2 (N + 1) a bb w hf hg H.disk c2 (by omega) c1 c3 c4 (sumL_lt _ (by decide) _) hZ hZ (by rw [c5]; have := hS.bytes; omega) (by rw [c6]; exact hS.cap) (by rw [c7]; omega) hn hnd (by have := seal_len Z.length (sumL sum0 Z) (by omega); omega)).mono ?_
  rintro e w' ⟨s', r', rfl, h1, h2, h3⟩
  rw [fset_fset] at h1
  exact ⟨_, s', r', rfl, h1, h2, sv, H.kept.trans h3, h3⟩

theorem saved_roomy {S S' : DS} {N : Nat} {n X : ByteArray} (h : Saved S S' N draftB n X) (hS : Roomy S N) (hX : X.size ≤ 100000) (hnd : strEq draftB n = false) (hB : S.bytes ≤ 90000000000) : Roomy S' (N + 2) := by
  refine ⟨⟨h.fine, h.ok, h.sorted, h.named⟩, by rw [h.cap]; exact hS.cap, ?_, ?_⟩
  · have := h.bytes_le hS.good.ok; omega
  · cases hf : findIs draftB S'.now with
    | false => rfl
    | true =>
      obtain ⟨x, hx, e⟩ := (find_iff h.sorted).1 hf
      rcases (h.mem x).1 hx with rfl | ⟨h1, _⟩
      · have : strEq draftB n = true := (strEq_iff _ _).2 e.symm
        rw [hnd] at this; cases this
      · have := (find_iff (n := draftB) hS.good.sorted).2 ⟨x, h1, e⟩
        rw [hS.draft] at this; cases this

set_option maxHeartbeats 1000000 in
set_option maxRecDepth 100000 in
theorem planSave {Bo : Nat} (b o : Nat) (cs : Array Value) (T : TypeId) (p : Nat) (n h : ByteArray) (sum wr : Nat) (wv : Value) (W : List UInt8) (S : DS) (N : Nat) (a bb : Addr) (t : ByteArray) (w : World) (H : FileAt Bo w b o cs T p n h sum wr wv W) (hg : Gs w a bb) (hb : 27 ≤ b)
    (hD : Disk Bo w p S) (hS : Roomy S N) (hN : N ≤ 5000) (ht : cs[o + 6]? = some (.string t)) (hZ : h.size + t.size ≤ 60000) (hn : n.size ≠ 0) (hnd : strEq draftB n = false) :
    Calls Tryz.prog 138 #[.pointer (some ⟨b, o, none⟩)] w fun e w' => ∃ S' s' r', e = .returned .nilIface ∧ FileAt Bo w' b o (fset cs o s' r' (.slice none 0 0)) T p n h s' r' (.slice none 0 0) [] ∧ Disk Bo w' p S' ∧ Saved S S' N draftB n (whole (h.data.toList ++ t.data.toList)) ∧ FK Bo b w w' := by
  have cb := Begin_w b o cs T p n h sum wr wv W S N w H hD hS hN (by omega)
  have hlen : (h.data.toList).length = h.size := (Lib.size_eq h).symm
  have htl : (t.data.toList).length = t.size := (Lib.size_eq t).symm
  have HT : Hid (cs[o + 6]? = some (.string t)) := ht
  clear H ht
  go_enter Tryz.func138, Tryz.ntmps138
  go_upto_region 4 with (go_at_call 170; go_must (refine cb.mono ?_; rintro e w1 ⟨rfl, h1⟩))
  have h1' := h1
  obtain ⟨wv1, hf1⟩ := h1'.file
  have hc6 : w1.cell? ⟨b, o + 6, none⟩ = some (.string t) := by rw [st_cell hf1.blk, fset_ne _ _ _ _ _ _ (by omega)]; exact HT.out
  have hg1 := h1.kept.gs hg hb
  have cw := fun W' (hW' : Still w1 W') => Write_w w b o cs T p n h S h.data.toList t W' ⟨⟨wv1, hf1.still hW'⟩, h1.disk.still hW', h1.kept.trans (FK.ofKept (.ofStill hW'))⟩ (by rw [hlen]; omega)
  clear hf1 h1' cb
  go_region_with (go_at_call 171; go_must (refine (cw w1.drew ⟨rfl, rfl, rfl, rfl, Nat.le_add_right _ _⟩).mono ?_; rintro e w2 ⟨rfl, h2, k2⟩))
  all_goals
    have hg2 : Gs w2 a bb := k2.gs (hg1.kept (Kept.drew (Bo := 0) _)) hb
    have cs2 := Seal_w w b o cs T p n h S N _ a bb w2 h2 hg2 hS hN (by rw [List.length_append, hlen, htl]; omega) hn hnd
    clear cw hc6 hg1 hg2 h1 h2 k2 hS hD hg
    go_wp2_with (go_at_call 172; go_must (refine cs2.mono ?_; rintro e w3 ⟨S', s', r', rfl, h3, d3, v3, k3, k4⟩))
    go_ret
    exact ⟨S', s', r', rfl, h3, d3, v3, k3⟩
end Go.Proofs.YtbjgpfhbdmcbbaaGreatDoor.kinds

/-
  CONTRACTS of package quern: part.save, headOf, leftovers.
-/
namespace Go.Proofs.YtbjgpfhbdmcbbaaGreatDoor.kinds
open Go.RowKit Go.Proofs.YtbjgpfhbdmcbbaaGreatDoor.dnamath Go.Proofs.YtbjgpfhbdmcbbaaGreatDoor.dna Go.Proofs.YtbjgpfhbdmcbbaaGreatDoor.diskm Go.Proofs.YtbjgpfhbdmcbbaaGreatDoor.disk Go.Proofs.YtbjgpfhbdmcbbaaGreatDoor.keep Go.Proofs.YtbjgpfhbdmcbbaaGreatDoor.hex Go.Proofs.YtbjgpfhbdmcbbaaGreatDoor.pieces Go.Proofs.YtbjgpfhbdmcbbaaGreatDoor.files Go.Proofs.YtbjgpfhbdmcbbaaGreatDoor.parse
set_option linter.unusedVariables false

def bytesOf (ps : List ByteArray) : List (List UInt8) := ps.map (fun x => x.data.toList)
theorem unl_take {ps : List ByteArray} {k : Nat} {x : ByteArray} (h : ps[k]? = some x) : unlines (bytesOf (ps.take (k + 1))) = unlines (bytesOf (ps.take k)) ++ (x.data.toList ++ [10]) := by
  rw [List.take_add_one, h]
  simp [bytesOf, unlines]
theorem unl_le (ps : List ByteArray) (k : Nat) : (unlines (bytesOf (ps.take k))).length ≤ (unlines (bytesOf ps)).length := by
  have e : unlines (bytesOf ps) = unlines (bytesOf (ps.take k)) ++ unlines (bytesOf (ps.drop k)) := by
    rw [← unlines_append]
    unfold bytesOf
    rw [← List.map_append, List.take_append_drop]
  rw [e, List.length_append]
  omega

theorem row_fk {Bo : Nat} {b : Nat} {w w' : World} {v : Value} {m : Nat} {xs : List Value} (hk : FK Bo b w w') (h : w.ownsRow 0 9 1 v m xs) (hb : ∀ cs fz, w.heap[b]? ≠ some (.cells cs 9 fz)) : w'.ownsRow 0 9 1 v m xs :=
  row_keep h (fun k cs fz e => hk.block k (lt_of_block e) (fun e2 => by subst e2; exact hb _ _ e) (fun ⟨cs', fz', e'⟩ => by rw [e] at e'; cases e') (by
    rintro ⟨cs', T', fz', e', hd⟩
    rw [e] at e'
    cases e'
    rcases hd with h | h | h | h <;> exact absurd h (by decide)))

set_option maxHeartbeats 2000000 in
set_option maxRecDepth 100000 in
theorem partSave {Bo : Nat} (b o : Nat) (cs : Array Value) (T : TypeId) (p : Nat) (n h : ByteArray) (sum wr : Nat) (wv : Value) (W : List UInt8) (S : DS) (N : Nat) (a bb : Addr) (v : Value) (ps : List ByteArray) (w : World) (H : FileAt Bo w b o cs T p n h sum wr wv W) (hT : T ≠ 9) (hg : Gs w a bb) (hb : 27 ≤ b)
    (hD : Disk Bo w p S) (hS : Roomy S N) (hN : N ≤ 5000) (hr : w.ownsRow 0 9 1 v ps.length (scells ps)) (hZ : h.size + (unlines (bytesOf ps)).length ≤ 60000) (hn : n.size ≠ 0) (hnd : strEq draftB n = false) (hpl : ps.length ≤ 60000) :
    Calls Tryz.prog 178 #[.pointer (some ⟨b, o, none⟩), v] w fun e w' => ∃ S' s' r', e = .returned .nilIface ∧ FileAt Bo w' b o (fset cs o s' r' (.slice none 0 0)) T p n h s' r' (.slice none 0 0) [] ∧ Disk Bo w' p S' ∧ Saved S S' N draftB n (whole (h.data.toList ++ unlines (bytesOf ps))) ∧ FK Bo b w w' := by
  have cb := Begin_w b o cs T p n h sum wr wv W S N w H hD hS hN (by omega)
  have hlen : (h.data.toList).length = h.size := (Lib.size_eq h).symm
  have hbn : ∀ cs' fz, w.heap[b]? ≠ some (.cells cs' 9 fz) := fun cs' fz e => by rw [H.blk] at e; cases e; exact hT rfl
  have HBN : Hid (∀ cs' fz, w.heap[b]? ≠ some (.cells cs' 9 fz)) := hbn
  have HR : Hid (w.ownsRow 0 9 1 v ps.length (scells ps)) := hr
  obtain ⟨av, cv, rfl⟩ := own_slice hr
  obtain ⟨U, hU⟩ : ∃ U, U = (unlines (bytesOf ps)).length := ⟨_, rfl⟩
  have HUk : Hid (∀ k, (unlines (bytesOf (ps.take k))).length ≤ U) := fun k => by rw [hU]; exact unl_le ps k
  have hU2 : h.size + U ≤ 60000 := by rw [hU]; exact hZ
  have HU : Hid (U = (unlines (bytesOf ps)).length) := hU
  clear H hbn hr hZ hU
  go_enter Tryz.func178, Tryz.ntmps178
  go_upto_region 4 with (go_at_call 170; go_must (refine cb.mono ?_; rintro e w1 ⟨rfl, h1⟩))
  clear cb
  go_wp2_with fail
  go_loopw [18] (fun i wr => ∃ k : Nat, i = .int .i64 (k : Int) ∧ k ≤ ps.length ∧ Hid (Writing Bo w wr b o cs T p n h S (h.data.toList ++ unlines (bytesOf (ps.take k))))) (fun i _ => ps.length - (intOf i).toNat)
  case atStart => exact ⟨0, rfl, Nat.zero_le _, by show Writing Bo _ _ _ _ _ _ _ _ _ _ _; rw [List.take_zero]; simpa [bytesOf, unlines] using h1⟩
  case round =>
    obtain ⟨k, rfl, hk, hw⟩ := hrel
    rename World => wr
    by_cases hlt : k < ps.length
    · obtain ⟨x, hx⟩ : ∃ x, ps[k]? = some x := ⟨_, List.getElem?_eq_getElem hlt⟩
      have hrow := row_fk hw.out.kept HR.out HBN.out
      rcases HR.out.2 with ⟨_, e0⟩ | ⟨g, cap, cur, e1, _⟩
      · omega
      cases e1
      have hc : wr.cell? ⟨g, k, none⟩ = some (.string x) := by
        rw [hrow.cellAt (g := g) k (by omega)]
        simp [scells, hx]
      have hb1 := HUk.out (k + 1)
      rw [unl_take hx] at hb1
      simp only [List.length_append, List.length_singleton] at hb1
      have hxs : x.data.toList.length = x.size := (Lib.size_eq x).symm
      have cw := Write_w w b o cs T p n h S _ (x ++ ⟨#[10]⟩) wr hw.out (by rw [List.length_append, hlen]; have : (x ++ (⟨#[10]⟩ : ByteArray)).size = x.size + 1 := (by simp; rfl); omega)
      have hxl : x.size ≤ 60000 := by omega
      have HX : Hid (ps[k]? = some x) := hx
      clear hrow hx hb1
      go_wp2_with (go_at_call 171; go_must (refine cw.mono ?_; rintro e w2 ⟨rfl, h2, k2⟩))
      go_roundw
      case rel =>
        refine ⟨k + 1, by go_num, by omega, ?_⟩
        show Writing Bo _ _ _ _ _ _ _ _ _ _ _
        rw [unl_take HX.out, ← List.append_assoc]
        have e : (x ++ (⟨#[10]⟩ : ByteArray)).data.toList = x.data.toList ++ [10] := by simp [ByteArray.data_append]
        rw [e] at h2
        exact h2
      case measure => simp [intOf]; omega
    · have hke : k = ps.length := by omega
      subst hke
      rw [List.take_length] at hw
      have hg2 := hw.out.kept.gs hg hb
      have cs2 := Seal_w w b o cs T p n h S N _ a bb wr hw.out hg2 hS hN (by rw [List.length_append, hlen, ← HU.out]; omega) hn hnd
      clear hg2
      go_wp2_with (go_at_call 172; go_must (refine cs2.mono ?_; rintro e w3 ⟨S', s', r', rfl, h3, d3, v3, k3, k4⟩))
      go_ret
      exact ⟨S', s', r', rfl, h3, d3, v3, k3⟩
end Go.Proofs.YtbjgpfhbdmcbbaaGreatDoor.kinds
