import Derived.Test.YtbjgpfhbdmcbbaaGreatDoorP32

/-
  FACTS for the walk of Alike: reads told in another order, some from the other side.
-/
namespace Go.Proofs.YtbjgpfhbdmcbbaaGreatDoor.keep
open Go.RowKit Go.Proofs.YtbjgpfhbdmcbbaaGreatDoor.dnamath Go.Proofs.YtbjgpfhbdmcbbaaGreatDoor.dna Go.Proofs.YtbjgpfhbdmcbbaaGreatDoor.diskm Go.Proofs.YtbjgpfhbdmcbbaaGreatDoor.disk Go.Proofs.YtbjgpfhbdmcbbaaGreatDoor.hex Go.Proofs.YtbjgpfhbdmcbbaaGreatDoor.pieces Go.Proofs.YtbjgpfhbdmcbbaaGreatDoor.files Go.Proofs.YtbjgpfhbdmcbbaaGreatDoor.parse Go.Proofs.YtbjgpfhbdmcbbaaGreatDoor.words Go.Proofs.YtbjgpfhbdmcbbaaGreatDoor.kinds Go.Proofs.YtbjgpfhbdmcbbaaGreatDoor.jobs Go.Proofs.YtbjgpfhbdmcbbaaGreatDoor.base Go.Proofs.YtbjgpfhbdmcbbaaGreatDoor.fill
set_option linter.unusedVariables false

/-- the last reads, from whichever side -/
structure Oth (ps : List ByteArray) (K m : Nat) (qs : List ByteArray) : Prop where
  len : qs.length + m = ps.length
  each : ∀ p ∈ qs, 0 < p.size ∧ p.size ≤ 60 ∧ greatB p.data.toList
  perm : (wordsOf K (datas qs)).Perm (wordsOf K (datas (ps.drop m)))
theorem oth_start (ps : List ByteArray) (K : Nat) : Oth ps K ps.length [] := ⟨by simp, (fun p hp => by simp at hp), by rw [List.drop_length]⟩
theorem Oth.step {ps : List ByteArray} {K k : Nat} {qs : List ByteArray} {r q : ByteArray} (h : Oth ps K (k + 1) qs) (hK : 1 ≤ K) (hr : ps[k]? = some r) (hg : 0 < r.size ∧ r.size ≤ 60 ∧ greatB r.data.toList) (hq : q.data.toList = r.data.toList ∨ q.data.toList = turnN r.data.toList) : Oth ps K k (qs ++ [q]) := by
  have hql : q.data.toList.length = r.data.toList.length := by rcases hq with e | e <;> rw [e]; exact turnN_len _
  have hqs : q.size = r.size := by rw [Lib.size_eq, Lib.size_eq, hql]
  refine ⟨by have := h.len; rw [List.length_append]; simp; omega, fun p hp => ?_, ?_⟩
  · rcases List.mem_append.1 hp with hp | hp
    · exact h.each p hp
    · rw [List.mem_singleton] at hp
      subst hp
      refine ⟨by omega, by omega, ?_⟩
      rcases hq with e | e <;> rw [e]
      · exact hg.2.2
      · exact turnN_bn hg.2.2
  · have hkl := (List.getElem?_eq_some_iff.1 hr)
    obtain ⟨hk, hke⟩ := hkl
    have e1 : datas (ps.drop k) = [r.data.toList] ++ datas (ps.drop (k + 1)) := by
      rw [List.drop_eq_getElem_cons hk, hke]; simp [datas]
    have e2 : datas (qs ++ [q]) = datas qs ++ [q.data.toList] := by simp [datas]
    rw [e1, e2, words_append, words_append]
    refine ((h.perm.append ?_).trans List.perm_append_comm)
    rcases hq with e | e
    · rw [e]
    · refine words_turn hK _ _ ⟨.inr e, trivial⟩ ?_
      intro l hl
      rw [List.mem_singleton] at hl
      subst hl
      exact hg.2.2
theorem Oth.reads {ps : List ByteArray} {K : Nat} {qs : List ByteArray} (h : Oth ps K 0 qs) (hl : ps.length ≤ 24) : ReadsIs qs := ⟨by have := h.len; omega, h.each⟩

theorem turnN_snoc (l : List UInt8) (c : UInt8) : turnN (l ++ [c]) = (if c == 78 then 78 else comp c) :: turnN l := by simp [turnN]
theorem turnN_take (s : ByteArray) (k : Nat) (h : k < s.size) : turnN (s.data.toList.take (k + 1)) = (if s[k] == 78 then 78 else comp s[k]) :: turnN (s.data.toList.take k) := by
  rw [take_snoc s k h, turnN_snoc]
theorem extract_one (s : ByteArray) (k : Nat) (h : k < s.size) : (s.extract k (k + 1)).data.toList = [s[k]] := by
  rw [Lib.extract_data, show k + 1 - k = 1 by omega]
  have hl : k < s.data.toList.length := by rw [← Lib.size_eq]; exact h
  rw [List.drop_eq_getElem_cons hl]
  rfl
theorem cv_inj {es es' : List Ent} (h : es.map cv = es'.map cv) : es = es' := by
  induction es generalizing es' with
  | nil => cases es' with
    | nil => rfl
    | cons y t => simp at h
  | cons x t ih => cases es' with
    | nil => simp at h
    | cons y t' =>
      simp only [List.map_cons, List.cons.injEq] at h
      rw [ih h.2]
      obtain ⟨s, n⟩ := x
      obtain ⟨s', n'⟩ := y
      have h1 := h.1
      simp only [cv, Prod.mk.injEq] at h1
      rw [kinds.bytes_eq h1.1, h1.2]
theorem tally_same {K : Nat} {rs rs' : List (List UInt8)} {es es' : List Ent} (h : TallyOf (wordsOf K rs) (es.map cv)) (h' : TallyOf (wordsOf K rs') (es'.map cv)) (hp : (wordsOf K rs').Perm (wordsOf K rs)) : es' = es :=
  cv_inj (h'.unique h (fun x => hp.count_eq x))

theorem lives_b (a bb aE : Addr) (w : World) (hG : Gl w a bb aE) :
    Calls Tryz.prog 14 #[] w fun e w' => e = .returned (.bool true) ∧ Below w.heap.size w w' :=
  (lives_yes (Bo := w.heap.size) a bb aE w hG (Nat.le_refl _)).mono fun e w' ⟨h1, h2⟩ => ⟨h1, keep.New.to h2⟩
theorem counted_b (K M Bn : Nat) (input : ByteArray) (rs : List (List UInt8)) (a bb aE : Addr) (w : World) (hG : Gl w a bb aE) (hF : Fit K M Bn input rs) :
    Calls Tryz.prog 15 #[.string input, optV K M Bn] w fun e w' => ∃ v es, e = .returned (.tuple #[v, .bool true]) ∧ ERow w' v es ∧ TallyOf (wordsOf K rs) (es.map cv) ∧ Below w.heap.size w w' :=
  (counted_any (Bo := w.heap.size) K M Bn input rs a bb aE w hG (Nat.le_refl _) hF).mono fun e w' ⟨v, es, h1, h2, h3, h4⟩ => ⟨v, es, h1, ERow.of_own h2, h3, keep.New.to h4⟩
end Go.Proofs.YtbjgpfhbdmcbbaaGreatDoor.keep
