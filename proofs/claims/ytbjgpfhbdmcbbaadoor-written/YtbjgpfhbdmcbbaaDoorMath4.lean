/-
  LINES AND RECORDS of a text that was written line by line.
-/
import Derived.Test.YtbjgpfhbdmcbbaaDoorPa4
namespace Go.Proofs.YtbjgpfhbdmcbbaaDoor.parse
open Go.RowKit Go.Proofs.YtbjgpfhbdmcbbaaDoor.dnamath Go.Proofs.YtbjgpfhbdmcbbaaDoor.dna Go.Proofs.YtbjgpfhbdmcbbaaDoor.pieces Go.Proofs.YtbjgpfhbdmcbbaaDoor.lines
set_option linter.unusedVariables false

def unlines (L : List (List UInt8)) : List UInt8 := (L.map (· ++ [10])).flatten
def joinN : List (List UInt8) → List UInt8
  | [] => []
  | [x] => x
  | x :: y :: t => x ++ 10 :: joinN (y :: t)
def clean (x : List UInt8) : Prop := ∀ c ∈ x, c ≠ 10

theorem unlines_append (A B : List (List UInt8)) : unlines (A ++ B) = unlines A ++ unlines B := by simp [unlines]
theorem unlines_one (x : List UInt8) : unlines [x] = x ++ [10] := by simp [unlines]

theorem unl_join : ∀ (L : List (List UInt8)), L ≠ [] → unlines L = joinN L ++ [10]
  | [], h => absurd rfl h
  | [x], _ => by simp [unlines, joinN]
  | x :: y :: t, _ => by
    have ih := unl_join (y :: t) (by simp)
    have e : unlines (x :: y :: t) = x ++ [10] ++ unlines (y :: t) := by simp [unlines]
    rw [e, ih]
    simp [joinN]

theorem idx_clean : ∀ (x r : List UInt8), clean x → Lib.indexByte (x ++ 10 :: r) 10 = x.length
  | [], r, _ => by simp [Lib.indexByte]
  | b :: x, r, h => by
    have hb : (b == 10) = false := by rw [beq_eq_false_iff_ne]; exact h b (by simp)
    have ih := idx_clean x r (fun c hc => h c (by simp [hc]))
    rw [List.cons_append, Lib.indexByte, hb, ih]
    have hn : (((x.length : Nat) : Int) == -1) = false := by rw [beq_eq_false_iff_ne]; omega
    rw [hn]
    simp
theorem idx_none : ∀ (x : List UInt8), clean x → Lib.indexByte x 10 = -1
  | [], _ => rfl
  | b :: x, h => by
    have hb : (b == 10) = false := by rw [beq_eq_false_iff_ne]; exact h b (by simp)
    have ih := idx_none x (fun c hc => h c (by simp [hc]))
    rw [Lib.indexByte, hb, ih]
    rfl

theorem split_join : ∀ (L : List (List UInt8)), L ≠ [] → (∀ x ∈ L, clean x) → Lib.splitK [10] 0 (Lib.count (joinN L) [10]) (joinN L) = L
  | [], h, _ => absurd rfl h
  | [x], _, hc => by
    have hi : Lib.index x [10] = -1 := by rw [Lib.index_one]; exact idx_none x (hc x (by simp))
    show Lib.splitK [10] 0 (Lib.count x [10]) x = [x]
    rw [Lib.count_miss hi]
    rfl
  | x :: y :: t, _, hc => by
    have ih := split_join (y :: t) (by simp) (fun z hz => hc z (by simp [List.mem_cons.1 hz]))
    have hi : Lib.index (x ++ 10 :: joinN (y :: t)) [10] = (x.length : Nat) := by rw [Lib.index_one]; exact idx_clean x _ (hc x (by simp))
    have hcnt := Lib.count_hit (s := x ++ 10 :: joinN (y :: t)) (sub := [10]) (by simp) hi
    have hd : (x ++ 10 :: joinN (y :: t)).drop (x.length + [(10 : UInt8)].length) = joinN (y :: t) := by
      rw [List.drop_append]; simp
    rw [hd, Nat.add_comm] at hcnt
    show Lib.splitK [10] 0 (Lib.count (x ++ 10 :: joinN (y :: t)) [10]) (x ++ 10 :: joinN (y :: t)) = _
    rw [hcnt, Lib.splitK, if_neg (by rw [hi]; simp), hi, Int.toNat_natCast, Nat.add_zero, hd, ih]
    simp

theorem trim_snoc (a : List UInt8) : Lib.trimSuffix (a ++ [10]) [10] = a := by
  have h : Lib.hasSuffix (a ++ [10]) [10] = true := by
    rw [← Lib.hasSuffix_of_drop]; simp
  unfold Lib.trimSuffix
  rw [if_pos h]
  simp

theorem lines_unlines {L : List (List UInt8)} (h : L ≠ []) (hc : ∀ x ∈ L, clean x) : linesL (unlines L) = L := by
  unfold linesL
  rw [unl_join L h, trim_snoc]
  exact split_join L h hc

/-- letters that are great already -/
def greatB (x : List UInt8) : Prop := x.all isBN = true
theorem great_id {x : List UInt8} (h : greatB x) : great x = x := by
  unfold great
  conv => rhs; rw [← List.map_id x]
  apply List.map_congr_left
  intro c hc
  have hb := List.all_eq_true.1 h c hc
  simp only [isBN, isB, Bool.or_eq_true, beq_iff_eq] at hb
  rcases hb with (((rfl | rfl) | rfl) | rfl) | rfl <;> decide

/-- the lines of records of a form -/
def RecLL (q : Bool) : List (List UInt8) → List (List UInt8) → Prop
  | L, [] => L = []
  | L, r :: rs => ∃ L', RecLL q L' rs ∧ r.length ≤ 1000000 ∧
      ((q = false ∧ ∃ h cs, L = (62 :: h) :: cs ++ L' ∧ cs ≠ [] ∧ (∀ x ∈ cs, x ≠ [] ∧ greatB x) ∧ cs.flatten = r) ∨
       (q = true ∧ ∃ h g, L = [64 :: h, r, [43], g] ++ L' ∧ r ≠ [] ∧ greatB r ∧ g.length = r.length ∧ ∀ c ∈ g, 33 ≤ (c.toNat : Int) ∧ (c.toNat : Int) ≤ 126))

theorem get_datas {ts : List ByteArray} {L : List (List UInt8)} (h : datas ts = L) (j : Nat) (hj : j < ts.length) : L[j]? = some ts[j].data.toList := by
  rw [← h]; simp [datas, hj]
theorem hp_cons (c : UInt8) (l : List UInt8) : Lib.hasPrefix (c :: l) [c] = true := by simp [Lib.hasPrefix]

theorem accL_of {ts : List ByteArray} {pre cs post : List (List UInt8)} (h : datas ts = pre ++ cs ++ post) (hg : ∀ x ∈ cs, greatB x) : ∀ n, n ≤ cs.length → accL ts pre.length (pre.length + n) = (cs.take n).flatten
  | 0, _ => by rw [Nat.add_zero, accL_self]; rfl
  | n + 1, hn => by
    have hlen : ts.length = pre.length + cs.length + post.length := by rw [← datas_length, h]; simp; omega
    have hj : pre.length + n < ts.length := by omega
    have hx := get_datas h (pre.length + n) hj
    have hx2 : (pre ++ cs ++ post)[pre.length + n]? = some cs[n] := by
      rw [List.append_assoc, List.getElem?_append_right (by omega), Nat.add_sub_cancel_left, List.getElem?_append_left (by omega)]
      exact List.getElem?_eq_getElem (by omega)
    rw [hx2] at hx
    have e : cs[n] = ts[pre.length + n].data.toList := Option.some.inj hx
    rw [← Nat.add_assoc, accL_succ (by omega) hj, accL_of h hg n (by omega), ← e, great_id (hg _ (List.getElem_mem _))]
    have e5 : cs.take (n+1) = cs.take n ++ [cs[n]] := List.take_succ_eq_append_getElem (by omega)
    rw [e5, List.flatten_append]
    simp

theorem take_flatten_le {cs : List (List UInt8)} (n : Nat) : (cs.take n).flatten.length ≤ cs.flatten.length := by
  conv => rhs; rw [← List.take_append_drop n cs]
  rw [List.flatten_append, List.length_append]; omega

theorem mem_len {cs : List (List UInt8)} {x : List UInt8} (h : x ∈ cs) : x.length ≤ cs.flatten.length := by
  obtain ⟨a, b, rfl⟩ := List.append_of_mem h
  simp; omega

theorem recs_of (q : Bool) {ts : List ByteArray} : ∀ (rs pre L : List (List UInt8)), datas ts = pre ++ L → RecLL q L rs → Recs q ts pre.length rs
  | [], pre, L, h, hr => by
    have hr : L = [] := hr
    subst hr
    show pre.length = ts.length
    rw [← datas_length, h, List.append_nil]
  | r :: rs, pre, L, h, hr => by
    obtain ⟨L', hr', hrl, hx⟩ := hr
    rcases hx with ⟨rfl, hd, cs, rfl, hne, hcs, hfl⟩ | ⟨rfl, hd, gr, rfl, hne, hgb, hgl, hgr⟩
    · have h1 : datas ts = (pre ++ [62 :: hd]) ++ cs ++ L' := by rw [h]; simp
      have h2 : datas ts = (pre ++ ((62 :: hd) :: cs)) ++ L' := by rw [h]; simp
      have hlen : ts.length = pre.length + 1 + cs.length + L'.length := by rw [← datas_length, h1]; simp; omega
      have hcl : 0 < cs.length := List.length_pos_iff.2 hne
      have hacc := accL_of h1 (fun x hx => (hcs x hx).2)
      have hp1 : (pre ++ [62 :: hd]).length = pre.length + 1 := by simp
      rw [hp1] at hacc
      refine ⟨pre.length + 1 + cs.length, .inl ⟨rfl, ⟨by omega, by omega, ?_, ?_, ?_, ?_⟩, ?_⟩, ?_⟩
      · intro hk
        have hx := get_datas h pre.length hk
        rw [List.getElem?_append_right (Nat.le_refl _), Nat.sub_self] at hx
        have e : 62 :: hd = ts[pre.length].data.toList := by simpa using hx
        rw [← e]; exact hp_cons 62 hd
      · intro j hj hj1 hj2
        have hx := get_datas h1 j hj
        rw [List.append_assoc, List.getElem?_append_right (by rw [hp1]; omega), hp1, List.getElem?_append_left (by omega), List.getElem?_eq_getElem (by omega)] at hx
        have e := Option.some.inj hx
        have hm : cs[j - (pre.length + 1)] ∈ cs := List.getElem_mem _
        obtain ⟨g1, g2⟩ := hcs _ hm
        rw [e] at g1 g2 hm
        refine ⟨?_, ?_, ?_⟩
        · rw [Lib.size_eq]; exact List.length_pos_iff.2 g1
        · rw [Lib.size_eq]; have := mem_len hm; rw [hfl] at this; omega
        · rw [great_id g2]; exact g2
      · intro he
        cases rs with
        | nil =>
          have : L' = [] := hr'
          rw [this] at hlen; simp at hlen; omega
        | cons r2 rs2 =>
          obtain ⟨L2, _, _, hy⟩ := hr'
          rcases hy with ⟨_, hd2, cs2, rfl, _⟩ | ⟨hq, _⟩
          · have hx := get_datas h2 (pre.length + 1 + cs.length) he
            rw [List.getElem?_append_right (by simp; omega)] at hx
            have e0 : pre.length + 1 + cs.length - (pre ++ ((62 :: hd) :: cs)).length = 0 := by simp; omega
            rw [e0] at hx
            have e : 62 :: hd2 = ts[pre.length + 1 + cs.length].data.toList := by simpa using hx
            rw [← e]; exact hp_cons 62 hd2
          · cases hq
      · intro j hj
        by_cases hj1 : j ≤ pre.length + 1
        · have e : accL ts (pre.length + 1) j = [] := by unfold accL; rw [List.drop_of_length_le (by rw [List.length_take]; omega)]; rfl
          rw [e]; simp
        · obtain ⟨n, rfl⟩ : ∃ n, j = pre.length + 1 + n := ⟨j - (pre.length + 1), by omega⟩
          rw [hacc n (by omega)]
          have := take_flatten_le (cs := cs) n
          rw [hfl] at this; omega
      · rw [hacc cs.length (Nat.le_refl _), List.take_length, hfl]
      · have hp2 : (pre ++ ((62 :: hd) :: cs)).length = pre.length + 1 + cs.length := by simp; omega
        rw [← hp2]
        exact recs_of false rs _ L' h2 hr'
    · have h1 : datas ts = (pre ++ [64 :: hd]) ++ [r] ++ ([43] :: gr :: L') := by rw [h]; simp
      have h2 : datas ts = (pre ++ [64 :: hd, r, [43], gr]) ++ L' := by rw [h]; simp
      have hlen : ts.length = pre.length + 4 + L'.length := by rw [← datas_length, h2]; simp; omega
      have at_ : ∀ n (hn : n < 4) (hj : pre.length + n < ts.length), [64 :: hd, r, [43], gr][n]? = some ts[pre.length + n].data.toList := by
        intro n hn hj
        have hx := get_datas h (pre.length + n) hj
        rw [List.getElem?_append_right (by omega), Nat.add_sub_cancel_left, List.getElem?_append_left (by simp; omega)] at hx
        exact hx
      have hacc := accL_of h1 (fun x hx => by rw [List.mem_singleton] at hx; subst hx; exact hgb) 1 (by simp)
      have hp1 : (pre ++ [64 :: hd]).length = pre.length + 1 := by simp
      rw [hp1] at hacc
      refine ⟨pre.length + 4, .inr ⟨rfl, ⟨by omega, ?_, ?_, ?_, ?_⟩, rfl, ?_⟩, ?_⟩
      · intro hk
        have e : 64 :: hd = ts[pre.length].data.toList := by simpa using at_ 0 (by omega) hk
        rw [← e]; exact hp_cons 64 hd
      · intro hk
        have e : r = ts[pre.length + 1].data.toList := by simpa using at_ 1 (by omega) hk
        refine ⟨?_, ?_, ?_⟩
        · rw [Lib.size_eq, ← e]; exact List.length_pos_iff.2 hne
        · rw [Lib.size_eq, ← e]; exact hrl
        · rw [← e, great_id hgb]; exact hgb
      · intro hk
        have e : [43] = ts[pre.length + 2].data.toList := by simpa using at_ 2 (by omega) hk
        rw [← e]; exact hp_cons 43 []
      · intro hk hk1
        have e1 : r = ts[pre.length + 1].data.toList := by simpa using at_ 1 (by omega) hk1
        have e3 : gr = ts[pre.length + 3].data.toList := by simpa using at_ 3 (by omega) hk
        refine ⟨by rw [Lib.size_eq, Lib.size_eq, ← e1, ← e3]; exact hgl, fun j hj => ?_⟩
        apply hgr
        rw [e3]
        have : ts[pre.length + 3][j] = ts[pre.length + 3].data.toList[j]'(by rw [← Lib.size_eq]; exact hj) := rfl
        rw [this]; exact List.getElem_mem _
      · rw [hacc]; simp
      · have hp2 : (pre ++ [64 :: hd, r, [43], gr]).length = pre.length + 4 := by simp
        rw [← hp2]
        exact recs_of true rs _ L' h2 hr'

/-- a text written line by line is of its form -/
theorem form_of (q : Bool) (s : ByteArray) (L rs : List (List UInt8)) (hs : s.data.toList = unlines L) (hc : ∀ x ∈ L, clean x) (hr : RecLL q L rs) (hl : rs.length ≤ 20000) : FormIs s rs := by
  cases rs with
  | nil =>
    have : L = [] := hr
    subst this
    exact .inl ⟨by apply ByteArray.ext; apply Array.toList_inj.1; rw [hs]; rfl, rfl⟩
  | cons r rs =>
    have hL : L ≠ [] := by
      rintro rfl
      obtain ⟨L', _, _, hx⟩ := hr
      rcases hx with ⟨_, h, cs, e, _⟩ | ⟨_, h, g, e, _⟩ <;> simp at e
    have hfirst : ∃ l, s.data.toList = (if q then 64 else 62) :: l := by
      obtain ⟨L', _, _, hx⟩ := hr
      rcases hx with ⟨rfl, h, cs, rfl, _⟩ | ⟨rfl, h, g, rfl, _⟩
      · exact ⟨_, by rw [hs]; simp [unlines]; rfl⟩
      · exact ⟨_, by rw [hs]; simp [unlines]; rfl⟩
    obtain ⟨l, hl2⟩ := hfirst
    have h0 : 0 < s.size := by rw [Lib.size_eq, hl2]; simp
    refine .inr ⟨q, h0, ?_, fun ts hts => ?_, hl⟩
    · have : s[0] = s.data.toList[0]'(by rw [← Lib.size_eq]; exact h0) := rfl
      rw [this]
      simp [hl2]
    · rw [hs, lines_unlines hL hc] at hts
      have := recs_of q (r :: rs) [] L (by rw [hts]; rfl) hr
      exact this
end Go.Proofs.YtbjgpfhbdmcbbaaDoor.parse
