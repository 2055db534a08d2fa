import Derived.Test.YtbjgpfhbdmcbbabGreatDoorP19
import Derived.Test.YtbjgpfhbdmcbbabGreatDoorP18

/-
  CONTRACTS of package quern: merge: the walk.
-/
namespace Go.Proofs.YtbjgpfhbdmcbbabGreatDoor.words
open Go.RowKit dnamath dna diskm disk keep pieces kinds
set_option linter.unusedVariables false

def lenOf : Value → Nat
  | .slice _ n _ => n
  | _ => 0
theorem ms_len {all : List Ent} {Rs : List (List Ent)} {orig : Ents} (h : Merging (all.map cv) (Rs.map (List.map cv)) orig) : all.length + (Rs.map List.length).sum = orig.length := by
  have := h.perm.length_eq
  rw [List.length_append, List.length_map, List.length_flatten, List.map_map] at this
  rw [← this]
  congr 2
  apply List.map_congr_left
  intro R _
  simp
theorem sum_pos {Rs : List (List Ent)} {l : Nat} {x : Ent} {R : List Ent} (h : Rs[l]? = some (x :: R)) : 1 ≤ (Rs.map List.length).sum := by
  induction Rs generalizing l with
  | nil => simp at h
  | cons L Rs ih =>
    cases l with
    | zero => simp at h; subst h; simp; omega
    | succ l => simp at h; have := ih h; simp; omega

theorem rest_tail2 {w : World} {g o cap : Nat} {x : Ent} {R : List Ent} (hcap : (x :: R).length ≤ cap) (hg : g < w.heap.size) (hc : ∀ (j : Nat) (y : Ent), (x :: R)[j]? = some y → w.cell? ⟨g, o + j * 2, none⟩ = some (.string y.1) ∧ w.cell? ⟨g, o + j * 2 + 1, none⟩ = some (.int .i64 (y.2 : Int))) :
    Rest w (.slice (if cap = 1 then some ⟨g, o, none⟩ else some ⟨g, o + 2, none⟩) R.length (cap - 1)) R := by
  simp only [List.length_cons] at hcap
  refine ⟨_, _, rfl, by omega, ?_⟩
  by_cases h1 : cap = 1
  · exact .inl (List.eq_nil_of_length_eq_zero (by omega))
  · rw [if_neg h1]
    refine .inr ⟨g, o + 2, rfl, hg, fun j y hy => ?_⟩
    have := hc (j + 1) y (by simpa using hy)
    rw [show o + (j + 1) * 2 = o + 2 + j * 2 by omega] at this
    exact this

set_option maxHeartbeats 4000000 in
set_option maxRecDepth 100000 in
theorem merge_any (lv : Value) (vs : List Value) (Ts : List (List Ent)) (w : World) (hr : w.ownsRow 0 30 1 lv vs.length vs) (hlen : Ts.length = vs.length) (heach : ∀ (i : Nat) (v : Value) (T : List Ent), vs[i]? = some v → Ts[i]? = some T → w.ownsRow 0 58 2 v T.length (ecells T))
    (hT : ∀ T ∈ Ts, ((T.map cv).map Prod.fst).Pairwise (· < ·)) (hnd : (((Ts.map (List.map cv)).flatten).map Prod.fst).Nodup) (hn : vs.length ≤ 1000) (hal : ((Ts.map (List.map cv)).flatten).length ≤ 100000) :
    Calls Tryz.prog 89 #[lv] w fun e w' => ∃ v es, e = .returned v ∧ w'.ownsRow w.heap.size 58 2 v es.length (ecells es) ∧ ((es.map cv).map Prod.fst).Pairwise (· < ·) ∧ (es.map cv).Perm (Ts.map (List.map cv)).flatten ∧ Below w.heap.size w w' := by
  obtain ⟨j0, hj, hy0, hy1, hy2⟩ := info_parts infoEn
  have hone : ∀ u ∈ vs, u.oneCell' = true := fun u hu => by
    obtain ⟨i, hi⟩ := List.getElem?_of_mem hu
    have hil := (List.getElem?_eq_some_iff.1 hi).1
    obtain ⟨T, hTi⟩ : ∃ T, Ts[i]? = some T := ⟨_, List.getElem?_eq_getElem (by rw [hlen]; exact hil)⟩
    obtain ⟨a, c, e⟩ := own_slice (heach i u T hi hTi)
    rw [e]; rfl
  have cc := Clone_rows lv vs w hr hone (by omega)
  obtain ⟨orig, ho⟩ : ∃ orig, orig = (Ts.map (List.map cv)).flatten := ⟨_, rfl⟩
  rw [← ho] at hal ⊢
  have HM0 : Hid (Merging [] (Ts.map (List.map cv)) orig) := by
    show Merging _ _ _
    rw [ho]
    refine merging_start (fun L hL => ?_) hnd
    rw [List.mem_map] at hL
    obtain ⟨T, hT1, rfl⟩ := hL
    exact hT T hT1
  have HE : Hid (∀ (i : Nat) (u : Value) (R : List Ent), vs[i]? = some u → Ts[i]? = some R → Rest w u R) := fun i u R h1 h2 => rest_of (heach i u R h1 h2)
  obtain ⟨al, cl, rfl⟩ := own_slice hr
  have HLN : Hid (Ts.length = vs.length) := hlen
  obtain ⟨n, hnn⟩ : ∃ n, n = vs.length := ⟨_, rfl⟩
  rw [← hnn] at hn cc HLN ⊢
  have HN : Hid (n = vs.length) := hnn
  clear heach hT hnd ho hone hlen hr hnn
  go_enter Tryz.func89, Tryz.ntmps89
  go_wp2_with (go_at_call 122; go_must (refine cc.mono ?_; rintro e w1 ⟨cv1, rfl, own1, b1⟩; obtain ⟨ac, c1, hcv⟩ := own_slice own1; subst hcv))
  have M0 : MS w (.slice ac n c1) n w1 (.slice none 0 0) [] vs Ts orig := ⟨World.ownsRow_nil _ _ _ _, own1, HLN.out, HN.out.symm, HE.out, HM0.out, b1⟩
  have HM1 : Hid (MS w (.slice ac n c1) n w1 (.slice none 0 0) [] vs Ts orig) := M0
  clear own1 b1 cc M0 HM0 HE
  go_loopw [3] (fun av wr => ∃ (all : List Ent) (us : List Value) (Rs : List (List Ent)) (aA : Option Addr) (cA : Nat), av = .slice aA all.length cA ∧ Hid (MS w (.slice ac n c1) n wr av all us Rs orig)) (fun av _ => orig.length - lenOf av)
  case atStart => exact ⟨[], vs, Ts, none, 0, rfl, HM1⟩
  case round =>
    obtain ⟨all, us, Rs, aA, cA, rfl, hM⟩ := hrel
    clear HM1
    rename World => wr
    have hlen := ms_len hM.out.mg
    have hal2 : all.length ≤ 100000 := by omega
    go_wp2_with fail
    go_loopw [4, 11] (fun m i wr2 => ∃ (k : Nat) (z : Int), i = .int .i64 (k : Int) ∧ m = .int .i64 z ∧ k ≤ n ∧ (z = -1 ∨ (0 ≤ z ∧ z < (k : Int))) ∧ Hid (Lst Rs k z) ∧ Hid (Still wr wr2)) (fun _ i _ => n - (intOf i).toNat)
    case atStart => exact ⟨0, -1, rfl, rfl, Nat.zero_le _, .inl rfl, .inl ⟨rfl, fun j L hj => by omega⟩, Still.refl _⟩
    case round =>
      obtain ⟨k, z, rfl, rfl, hk, hz, hL, hS⟩ := hrel
      rename World => wr2
      have M2 := hM.out.later (hS.out.below _)
      by_cases hlt : k < n
      · rcases M2.row.2 with ⟨_, e0⟩ | ⟨gc, cap, cur, e1, _⟩
        · omega
        cases e1
        obtain ⟨u, hu⟩ : ∃ u, us[k]? = some u := ⟨_, List.getElem?_eq_getElem (by rw [M2.ulen]; exact hlt)⟩
        obtain ⟨L, hLk⟩ : ∃ L, Rs[k]? = some L := ⟨_, List.getElem?_eq_getElem (by rw [M2.len]; exact hlt)⟩
        have hcu : wr2.cell? ⟨gc, k, none⟩ = some u := by rw [M2.row.cellAt (g := gc) k (by omega)]; exact hu
        obtain ⟨au, cu, rfl, hcap, hR⟩ := M2.each k u L hu hLk
        cases L with
        | nil =>
          have HS2 : Hid (Lst Rs (k + 1) z) := hL.out.skip hLk
          have HM2 : Hid (Still wr wr2) := hS.out
          clear M2 hR hu hLk hL
          go_upto_region 7 with fail
          go_quiet (fail)
          go_wp2
          go_roundw
          case rel => exact ⟨k + 1, z, by go_num, rfl, by omega, by omega, HS2, HM2.out.trans (Still.drewN _ _)⟩
          case measure => simp [intOf]; omega
        | cons y r =>
          rcases hR with hR | ⟨g, o, rfl, hgl, hcells⟩
          · cases hR
          have hy := (hcells 0 y rfl).1
          rw [Nat.zero_mul, Nat.add_zero, ← M2.below.cell (p := ⟨g, o, none⟩) hgl] at hy
          rcases hz with rfl | ⟨hz0, hz1⟩
          · have HS2 : Hid (Lst Rs (k + 1) (k : Int)) := hL.out.first hLk
            have HM2 : Hid (Still wr wr2) := hS.out
            clear M2 hu hLk hL hcells hS
            go_upto_region 7 with fail
            go_quiet (fail)
            go_wp2
            go_roundw
            case rel => exact ⟨k + 1, (k : Int), by go_num, rfl, by omega, by omega, HS2, HM2.out.trans (Still.drewN _ _)⟩
            case measure => simp [intOf]; omega
          · obtain ⟨l, rfl⟩ : ∃ l : Nat, z = (l : Int) := ⟨z.toNat, by omega⟩
            obtain ⟨x, R, hRl⟩ : ∃ x R, Rs[l]? = some (x :: R) := by
              rcases hL.out with ⟨h1, _⟩ | ⟨l', x, R, h1, _, h3, _⟩
              · omega
              · have : l' = l := by omega
                subst this
                exact ⟨x, R, h3⟩
            obtain ⟨ul, hul⟩ : ∃ u, us[l]? = some u := ⟨_, List.getElem?_eq_getElem (by rw [M2.ulen]; omega)⟩
            have hcl : wr2.cell? ⟨gc, l, none⟩ = some ul := by rw [M2.row.cellAt (g := gc) l (by omega)]; exact hul
            obtain ⟨al2, cl2, rfl, hcap2, hR2⟩ := M2.each l ul _ hul hRl
            rcases hR2 with hR2 | ⟨g2, o2, rfl, hgl2, hcells2⟩
            · cases hR2
            have hx := (hcells2 0 x rfl).1
            rw [Nat.zero_mul, Nat.add_zero, ← M2.below.cell (p := ⟨g2, o2, none⟩) hgl2] at hx
            have HM2 : Hid (Still wr wr2) := hS.out
            have hl1 : l < n := by omega
            by_cases hq : y.1.data.toList < x.1.data.toList
            · have HS2 : Hid (Lst Rs (k + 1) (k : Int)) := hL.out.less hRl hLk hq
              have hb : Op.bytesLess y.1.toList x.1.toList = true := (strLt_iff y.1 x.1).2 (by rw [Lib.toList_data, Lib.toList_data]; exact hq)
              clear M2 hu hLk hL hcells hcells2 hS hq hul hRl
              go_upto_region 7 with fail
              go_quiet (fail)
              go_wp2
              go_roundw
              case rel => exact ⟨k + 1, (k : Int), by go_num, rfl, by omega, by omega, HS2, HM2.out.trans (Still.drewN _ _)⟩
              case measure => simp [intOf]; omega
            · have HS2 : Hid (Lst Rs (k + 1) (l : Int)) := hL.out.more hRl hLk hq
              have hb : Op.bytesLess y.1.toList x.1.toList = false := (strLt_not y.1 x.1).2 (by rw [Lib.toList_data, Lib.toList_data]; exact hq)
              clear M2 hu hLk hL hcells hcells2 hS hq hul hRl
              go_upto_region 7 with fail
              go_quiet (fail)
              go_wp2
              go_roundw
              case rel => exact ⟨k + 1, (l : Int), by go_num, rfl, by omega, by omega, HS2, HM2.out.trans (Still.drewN _ _)⟩
              case measure => simp [intOf]; omega
      · have hke : k = n := by omega
        subst hke
        have HMM : Hid (MS w (.slice ac k c1) k wr2 (.slice aA all.length cA) all us Rs orig) := M2
        clear M2
        rcases hz with rfl | ⟨hz0, hz1⟩
        · have HE2 : Hid (∀ L ∈ Rs, L = []) := fun L hLm => by
            obtain ⟨j, hj2⟩ := List.getElem?_of_mem hLm
            have hjl := (List.getElem?_eq_some_iff.1 hj2).1
            rcases hL.out with ⟨_, h2⟩ | ⟨l', _, _, h1, _⟩
            · exact h2 j L (by rw [← HMM.out.len]; exact hjl) hj2
            · omega
          clear hL hS hM
          go_wp2
          go_ret
          have := merging_end HMM.out.mg (fun L hLm => by
            rw [List.mem_map] at hLm
            obtain ⟨T, hT, rfl⟩ := hLm
            rw [HE2.out T hT]; rfl)
          exact ⟨_, all, rfl, HMM.out.own, this.1, this.2, HMM.out.below⟩
        · obtain ⟨l, rfl⟩ : ∃ l : Nat, z = (l : Int) := ⟨z.toNat, by omega⟩
          obtain ⟨x, R, hRl, hmin⟩ : ∃ x R, Rs[l]? = some (x :: R) ∧ ∀ (j : Nat) (y : Ent) (r : List Ent), Rs[j]? = some (y :: r) → x.1.data.toList ≤ y.1.data.toList := by
            rcases hL.out with ⟨h1, _⟩ | ⟨l', x, R, h1, _, h3, h4⟩
            · omega
            · have : l' = l := by omega
              subst this
              exact ⟨x, R, h3, fun j y r hj => h4 j y r (by rw [← HMM.out.len]; exact (List.getElem?_eq_some_iff.1 hj).1) hj⟩
          have hl1 : l < k := by omega
          rcases HMM.out.row.2 with ⟨_, e0⟩ | ⟨gc, cap, cur, e1, _⟩
          · omega
          cases e1
          obtain ⟨ul, hul⟩ : ∃ u, us[l]? = some u := ⟨_, List.getElem?_eq_getElem (by rw [HMM.out.ulen]; omega)⟩
          have hcl : wr2.cell? ⟨gc, l, none⟩ = some ul := by rw [HMM.out.row.cellAt (g := gc) l (by omega)]; exact hul
          have hrest := HMM.out.each l ul _ hul hRl
          obtain ⟨al2, cl2, rfl, hcap2, hR2⟩ := hrest
          rcases hR2 with hR2 | ⟨g2, o2, rfl, hgl2, hcells2⟩
          · cases hR2
          obtain ⟨u', hue⟩ : ∃ u', u' = Value.slice (if cl2 = 1 then some ⟨g2, o2, none⟩ else some ⟨g2, o2 + 2, none⟩) R.length (cl2 - 1) := ⟨_, rfl⟩
          have hu' : Rest w u' R := by rw [hue]; exact rest_tail2 hcap2 hgl2 hcells2
          have hx := hcells2 0 x rfl
          rw [Nat.zero_mul, Nat.add_zero, ← HMM.out.below.cell (p := ⟨g2, o2, none⟩) hgl2, ← HMM.out.below.cell (p := ⟨g2, o2 + 1, none⟩) hgl2] at hx
          obtain ⟨hx0, hx1⟩ := hx
          have hpos := sum_pos hRl
          have hal3 : all.length + 1 ≤ orig.length := by omega
          have HO : Hid (wr2.ownsRow w.heap.size 58 2 (.slice aA all.length cA) all.length (ecells all)) := HMM.out.own
          have HU : Hid (us[l]? = some (.slice (some ⟨g2, o2, none⟩) (x :: R).length cl2) ∧ Rs[l]? = some (x :: R) ∧ Rest w u' R ∧ ∀ (j : Nat) (y : Ent) (r : List Ent), Rs[j]? = some (y :: r) → x.1.data.toList ≤ y.1.data.toList) := ⟨hul, hRl, hu', hmin⟩
          clear hul hRl hu' hmin hcells2 hL hS hM hpos hlen
          go_wp2_with (at_builtin; go_must (refine wpList_append_own _ rfl (.tmp 42) (.tmp 49) 30 rfl w.heap.size 58 j0 (.agg #[.string ByteArray.empty, .int .i64 0]) 2 24 Tryz.underlying30 hj hy0 hy1 hy2 rfl (by decide) _ _ _ rfl (HO.out.alloc _) _ 1 1 [.string x.1, .int .i64 (x.2 : Int)] rfl rfl (cell_pair _ _ _ _) (one_ent _ _) (by unfold maxLen; omega) (by omega) (by have := HMM.out.below.size; simp; omega) ?_; intro av4 w4 own4 g4 _; obtain ⟨hce, hfr, M4⟩ := HMM.out.step hl1 HU.out.2.1 HU.out.1 HU.out.2.2.1 HU.out.2.2.2 own4 g4; have HM4 : Hid (MS _ _ _ _ _ _ _ _ _) := M4; obtain ⟨a4, c4, hav⟩ := own_slice own4; subst hav; clear M4 own4 g4))
          rw [← hue]
          go_roundw
          case rel => exact ⟨all ++ [x], _, _, a4, c4, by rw [List.length_append]; rfl, HM4⟩
          case measure => simp [lenOf]; omega
end Go.Proofs.YtbjgpfhbdmcbbabGreatDoor.words

/-
  CONTRACTS of package quern: list.load of a file that is not there, or another one; part.pieces.
-/
namespace Go.Proofs.YtbjgpfhbdmcbbabGreatDoor.kinds
open Go.RowKit dnamath dna diskm disk keep hex pieces files parse words
set_option linter.unusedVariables false

/-- a text ends with a line feed -/
def Ends (Z : List UInt8) : Prop := ∃ Z0, Z = Z0 ++ [10]
theorem ends_append {A B : List UInt8} (hA : Ends A) (hB : B = [] ∨ Ends B) : Ends (A ++ B) := by
  rcases hB with rfl | ⟨B0, rfl⟩
  · rw [List.append_nil]; exact hA
  · exact ⟨A ++ B0, by simp⟩
theorem ends_unlines (L : List (List UInt8)) : unlines L = [] ∨ Ends (unlines L) := by
  cases L with
  | nil => exact .inl rfl
  | cons a L => exact .inr ⟨_, unl_join (a :: L) (by simp)⟩
theorem ends_head (kind run : ByteArray) (n : Nat) : Ends (headB kind run n).data.toList := by
  refine ⟨(kind ++ spB ++ run ++ spB ++ itoaB n).data.toList, ?_⟩
  unfold headB
  rw [ByteArray.data_append, Array.toList_append]
  rfl
abbrev wholeF (Z : List UInt8) : DFile := ⟨whole Z, (whole Z).size⟩

theorem Load_whole {Bo : Nat} (b o : Nat) (cs : Array Value) (T : TypeId) (p : Nat) (n h : ByteArray) (sum wr : Nat) (wv : Value) (W : List UInt8) (S : DS) (N : Nat) (a bb : Addr) (Z body : List UInt8) (w : World) (H : FileAt Bo w b o cs T p n h sum wr wv W)
    (hg : Gs w a bb) (hD : Disk Bo w p S) (ho : S.Ok N) (hN : N ≤ 1000000) (hF : S.Fine) (hl : S.look n = some (wholeF Z)) (hZ : Z = h.data.toList ++ body) (hE : Ends Z) (hZl : Z.length ≤ 1000000) (hb0 : 27 ≤ b) :
    Calls Tryz.prog 63 #[.pointer (some ⟨b, o, none⟩)] w fun e w' => ∃ (B : ByteArray) (s' r' : Nat), e = .returned (.tuple #[.string B, .nilIface]) ∧ B.data.toList = body ∧ FileAt Bo w' b o (fset cs o s' r' wv) T p n h s' r' wv W ∧ WK Bo b w w' := by
  obtain ⟨Z0, rfl⟩ := hE
  rw [List.length_append] at hZl
  exact Load_ok b o cs T p n h sum wr wv W S N a bb _ Z0 body w H hg hD ho hN hF hl (by show (whole (Z0 ++ [10])).data.toList = _; unfold whole; simp [sum0]) hZ (by omega) hb0
theorem Load_other {Bo : Nat} (b o : Nat) (cs : Array Value) (T : TypeId) (p : Nat) (n h : ByteArray) (sum wr : Nat) (wv : Value) (W : List UInt8) (S : DS) (N : Nat) (a bb : Addr) (Z : List UInt8) (w : World) (H : FileAt Bo w b o cs T p n h sum wr wv W)
    (hg : Gs w a bb) (hD : Disk Bo w p S) (ho : S.Ok N) (hN : N ≤ 1000000) (hF : S.Fine) (hl : S.look n = some (wholeF Z)) (hpre : Lib.hasPrefix Z h.data.toList = false) (hE : Ends Z) (hZl : Z.length ≤ 1000000) (hb0 : 27 ≤ b) :
    Calls Tryz.prog 63 #[.pointer (some ⟨b, o, none⟩)] w fun e w' => ∃ (v : Value) (s' r' : Nat), e = .returned (.tuple #[.string ⟨#[]⟩, v]) ∧ Gone w' bb v ∧ FileAt Bo w' b o (fset cs o s' r' wv) T p n h s' r' wv W ∧ WK Bo b w w' := by
  obtain ⟨Z0, rfl⟩ := hE
  rw [List.length_append] at hZl
  exact Load_broken b o cs T p n h sum wr wv W S N a bb _ Z0 w H hg hD ho hN hF hl (by show (whole (Z0 ++ [10])).data.toList = _; unfold whole; simp [sum0]) hpre (by omega) hb0

set_option maxHeartbeats 1000000 in
set_option maxRecDepth 100000 in
theorem load_absent {Bo : Nat} (b p : Nat) (S : DS) (N : Nat) (n : ByteArray) (a bb : Addr) (w : World) (hD : Disk Bo w p S) (ho : S.Ok N) (hN : N ≤ 1000000) (hF : S.Fine) (hg : Gs w a bb)
    (h0 : w.cell? ⟨b, 0, none⟩ = some (.pointer (some ⟨p, 0, none⟩))) (h1 : w.cell? ⟨b, 1, none⟩ = some (.string n)) (hl : S.look n = none) :
    Calls Tryz.prog 59 #[.pointer (some ⟨b, 0, none⟩)] w fun e w' => ∃ v, e = .returned v ∧ Gone w' a v ∧ Below w.heap.size w w' := by
  have cl := Load_absent b 0 p S N n n a bb w hD ho hN hF hg h0 (by rw [Nat.zero_add]; exact h1) hl
  clear hD ho hF hg h0 h1 hl
  go_enter Tryz.func59, Tryz.ntmps59
  go_wp2_with (go_at_call 63; go_must (refine cl.mono ?_; rintro e w1 ⟨v, rfl, hG, hb⟩; obtain ⟨eb, m, s, hv, hG⟩ := hG; subst hv))
  go_ret
  exact ⟨_, rfl, ⟨eb, m, s, rfl, hG⟩, hb⟩

set_option maxHeartbeats 1000000 in
set_option maxRecDepth 100000 in
theorem load_other {Bo : Nat} (b : Nat) (cs : Array Value) (T : TypeId) (p : Nat) (n h : ByteArray) (sum wr : Nat) (wv : Value) (W : List UInt8) (S : DS) (N : Nat) (a bb : Addr) (Z : List UInt8) (w : World) (H : FileAt Bo w b 0 cs T p n h sum wr wv W)
    (hg : Gs w a bb) (hD : Disk Bo w p S) (ho : S.Ok N) (hN : N ≤ 1000000) (hF : S.Fine) (hl : S.look n = some (wholeF Z)) (hpre : Lib.hasPrefix Z h.data.toList = false) (hE : Ends Z) (hZl : Z.length ≤ 1000000) (hb0 : 27 ≤ b) :
    Calls Tryz.prog 59 #[.pointer (some ⟨b, 0, none⟩)] w fun e w' => ∃ (v : Value) (s' r' : Nat), e = .returned v ∧ Gone w' bb v ∧ FileAt Bo w' b 0 (fset cs 0 s' r' wv) T p n h s' r' wv W ∧ WK Bo b w w' := by
  have cl := Load_other b 0 cs T p n h sum wr wv W S N a bb Z w H hg hD ho hN hF hl hpre hE hZl hb0
  clear H hD ho hF hg hl hpre hE
  go_enter Tryz.func59, Tryz.ntmps59
  go_wp2_with (go_at_call 63; go_must (refine cl.mono ?_; rintro e w1 ⟨v, s', r', rfl, hG, hf, hk⟩; obtain ⟨eb, m, s, hv, hG⟩ := hG; subst hv))
  go_ret
  exact ⟨_, s', r', rfl, ⟨eb, m, s, rfl, hG⟩, hf, hk⟩

set_option maxHeartbeats 1000000 in
set_option maxRecDepth 100000 in
theorem pieces_absent {Bo : Nat} (b p : Nat) (S : DS) (N : Nat) (n : ByteArray) (a bb : Addr) (w : World) (hD : Disk Bo w p S) (ho : S.Ok N) (hN : N ≤ 1000000) (hF : S.Fine) (hg : Gs w a bb)
    (h0 : w.cell? ⟨b, 0, none⟩ = some (.pointer (some ⟨p, 0, none⟩))) (h1 : w.cell? ⟨b, 1, none⟩ = some (.string n)) (hl : S.look n = none) :
    Calls Tryz.prog 119 #[.pointer (some ⟨b, 0, none⟩)] w fun e w' => ∃ v, e = .returned (.tuple #[.slice none 0 0, v]) ∧ Gone w' a v ∧ Below w.heap.size w w' := by
  have cl := Load_absent b 0 p S N n n a bb w hD ho hN hF hg h0 (by rw [Nat.zero_add]; exact h1) hl
  clear hD ho hF hg h0 h1 hl
  go_enter Tryz.func119, Tryz.ntmps119
  go_wp2_with (go_at_call 63; go_must (refine cl.mono ?_; rintro e w1 ⟨v, rfl, hG, hb⟩; obtain ⟨eb, m, s, hv, hG⟩ := hG; subst hv))
  go_ret2
  exact ⟨_, rfl, ⟨eb, m, s, rfl, hG⟩, hb⟩

set_option maxHeartbeats 1000000 in
set_option maxRecDepth 100000 in
theorem pieces_ok {Bo : Nat} (b : Nat) (cs : Array Value) (T : TypeId) (p : Nat) (n h : ByteArray) (sum wr : Nat) (wv : Value) (W : List UInt8) (S : DS) (N : Nat) (a bb : Addr) (L : List (List UInt8)) (w : World) (H : FileAt Bo w b 0 cs T p n h sum wr wv W)
    (hg : Gs w a bb) (hD : Disk Bo w p S) (ho : S.Ok N) (hN : N ≤ 1000000) (hF : S.Fine) (hl : S.look n = some (wholeF (h.data.toList ++ unlines L))) (hE : Ends h.data.toList) (hZl : (h.data.toList ++ unlines L).length ≤ 1000000) (hb0 : 27 ≤ b) (hL : ∀ x ∈ L, clean x) :
    Calls Tryz.prog 119 #[.pointer (some ⟨b, 0, none⟩)] w fun e w' => ∃ (v : Value) (ts : List ByteArray) (s' r' : Nat), e = .returned (.tuple #[v, .nilIface]) ∧ w'.ownsRow w.heap.size 9 1 v ts.length (scells ts) ∧ datas ts = L ∧ FileAt Bo w' b 0 (fset cs 0 s' r' wv) T p n h s' r' wv W ∧ WK Bo b w w' := by
  have cl := Load_whole b 0 cs T p n h sum wr wv W S N a bb _ (unlines L) w H hg hD ho hN hF hl rfl (ends_append hE (ends_unlines L)) hZl hb0
  have hul : (unlines L).length ≤ 1000000 := by rw [List.length_append] at hZl; omega
  have HLQ : Hid (linesQ (unlines L) = L) := linesQ_unlines hL
  clear H hD ho hF hg hl hE hZl hL
  go_enter Tryz.func119, Tryz.ntmps119
  go_wp2_with (first | (go_at_call 63; go_must (refine cl.mono ?_; rintro e w1 ⟨B, s', r', rfl, hB, hf, hk⟩)) | (go_at_call 100; go_must (refine (linesOf_q B w1 (by rw [Lib.size_eq, hB]; exact hul)).mono ?_; rintro e w2 ⟨v, ts, rfl, own2, hd2, hl2, b2⟩; obtain ⟨aL, cL, hlv⟩ := own_slice own2; subst hlv)))
  go_ret2
  refine ⟨_, ts, s', r', rfl, own_lower own2 hk.size, ?_, hf.kept (.ofBelow b2), hk.trans (WK.ofBelow b2)⟩
  rw [hd2, hB]
  exact HLQ.out
end Go.Proofs.YtbjgpfhbdmcbbabGreatDoor.kinds

/-
  CONTRACTS of package quern: openCounts.
-/
namespace Go.Proofs.YtbjgpfhbdmcbbabGreatDoor.kinds
open Go.RowKit dnamath dna diskm disk keep hex pieces files parse words
set_option linter.unusedVariables false

def countsHB : ByteArray := ⟨#[99, 111, 117, 110, 116, 115, 32]⟩

/-- a list as it is made, in its cells -/
abbrev listC (p : Nat) (n h : ByteArray) (k : Nat) : Array Value := #[.pointer (some ⟨p, 0, none⟩), .string n, .string h, .int .u64 0, .int .i64 0, .slice none 0 0, .int .i64 (k : Int), .slice none 0 0]
abbrev partC (p : Nat) (n h : ByteArray) : Array Value := #[.pointer (some ⟨p, 0, none⟩), .string n, .string h, .int .u64 0, .int .i64 0, .slice none 0 0]
theorem listC_at {Bo : Nat} (w : World) (p : Nat) (n h : ByteArray) (k : Nat) (hB : Bo ≤ w.heap.size) : FileAt Bo (w.alloc (.cells (listC p n h k) 105)) w.heap.size 0 (listC p n h k) 105 p n h 0 0 (.slice none 0 0) [] :=
  ⟨heap_alloc_new _ _, by decide, rfl, rfl, rfl, rfl, rfl, rfl, World.ownsRow_nil _ _ _ _, Nat.le_trans hB (by simp)⟩
theorem partC_at {Bo : Nat} (w : World) (p : Nat) (n h : ByteArray) (hB : Bo ≤ w.heap.size) : FileAt Bo (w.alloc (.cells (partC p n h) 214)) w.heap.size 0 (partC p n h) 214 p n h 0 0 (.slice none 0 0) [] :=
  ⟨heap_alloc_new _ _, by decide, rfl, rfl, rfl, rfl, rfl, rfl, World.ownsRow_nil _ _ _ _, Nat.le_trans hB (by simp)⟩

set_option maxHeartbeats 1000000 in
set_option maxRecDepth 100000 in
theorem openCounts_absent {Bo : Nat} (p : Nat) (S : DS) (N : Nat) (a bb : Addr) (w : World) (hD : Disk Bo w p S) (ho : S.Ok N) (hN : N ≤ 1000000) (hF : S.Fine) (hg : Gs w a bb) (hl : S.look countsB = none) :
    Calls Tryz.prog 41 #[.pointer (some ⟨p, 0, none⟩)] w fun e w' => ∃ v, e = .returned (.tuple #[.string ⟨#[]⟩, .pointer none, v]) ∧ Gone w' a v ∧ Below w.heap.size w w' := by
  have co := Of_any p countsB countsHB w
  have es : (⟨#[99, 111, 117, 110, 116, 115]⟩ : ByteArray) = countsB := rfl
  have es2 : (⟨#[99, 111, 117, 110, 116, 115, 32]⟩ : ByteArray) = countsHB := rfl
  have HA : Hid (Disk Bo w p S ∧ S.Ok N ∧ S.Fine ∧ Gs w a bb ∧ S.look countsB = none) := ⟨hD, ho, hF, hg, hl⟩
  clear hD ho hF hg hl
  go_enter Tryz.func41, Tryz.ntmps41
  go_upto_region 2 with (go_at_call 62; go_must (refine co.mono ?_; rintro e w1 ⟨rfl, b1⟩))
  have HF := listC_at w1 p countsB countsHB 0 (Nat.le_trans HA.out.1.low b1.size)
  obtain ⟨W2, hW2⟩ : ∃ W2, W2 = w1.alloc (.cells (listC p countsB countsHB 0) 105) := ⟨_, rfl⟩
  have B2 : Below w.heap.size w W2 := by rw [hW2]; exact b1.alloc b1.size _
  rw [← hW2] at HF
  obtain ⟨hD, ho, hF, hg, hl⟩ := HA.out
  have cl := Load_absent w1.heap.size 0 p S N countsB countsHB a bb W2 (hD.below B2) ho hN hF (hg.below B2) ((st_cell HF.blk _).trans HF.c0) ((st_cell HF.blk _).trans HF.c1) hl
  rw [show w1.alloc (.cells #[.pointer (some ⟨p, 0, none⟩), .string countsB, .string countsHB, .int .u64 0, .int .i64 0, .slice none 0 0, .int .i64 0, .slice none 0 0] 105) = W2 from hW2.symm]
  clear hD ho hF hg hl HF hW2 es es2 co HA b1
  go_wp2_with (go_at_call 63; go_must (refine cl.mono ?_; rintro e w3 ⟨v, rfl, hG, hb⟩; obtain ⟨eb, m, s, hv, hG⟩ := hG; subst hv))
  exact bodyPost_ret (v := .tuple #[.string ⟨#[]⟩, .pointer none, .iface 85 (.pointer (some ⟨eb, 0, none⟩))]) (by simp [results, Tryz.results41, go_sem]) rfl ⟨_, rfl, ⟨eb, m, s, rfl, hG⟩, B2.trans (hb.mono B2.size)⟩

theorem hex_no (c : UInt8) (l : List UInt8) (h : ∀ d ∈ l, (48 ≤ d.toNat ∧ d.toNat ≤ 57) ∨ (97 ≤ d.toNat ∧ d.toNat ≤ 102)) (hc : c.toNat < 48) : ∀ d ∈ l, d ≠ c := by
  intro d hd e
  subst e
  have := h d hd
  omega

set_option maxHeartbeats 2000000 in
set_option maxRecDepth 100000 in
theorem openCounts_ok {Bo : Nat} (p : Nat) (S : DS) (N : Nat) (a bb : Addr) (run : ByteArray) (k : Nat) (es : List Ent) (w : World) (hD : Disk Bo w p S) (ho : S.Ok N) (hN : N ≤ 1000000) (hF : S.Fine) (hg : Gs w a bb) (hl : S.look countsB = some (wholeF ((headB countsB run k).data.toList ++ textE es))) (hNG : 27 ≤ w.heap.size)
    (hrun : ∀ d ∈ run.data.toList, (48 ≤ d.toNat ∧ d.toNat ≤ 57) ∨ (97 ≤ d.toNat ∧ d.toNat ≤ 102)) (hrs : run.size ≤ 1000) (hes : ∀ x ∈ es, x.1.data.toList.all isB = true ∧ x.1.size = k ∧ x.2 ≤ 1000000) (hk1 : 1 ≤ k) (hk2 : k ≤ 1000) (hel : es.length ≤ 100000) (htl : (textE es).length ≤ 900000) :
    Calls Tryz.prog 41 #[.pointer (some ⟨p, 0, none⟩)] w fun e w' => ∃ (q : Nat) (cs : Array Value) (ev : Value), e = .returned (.tuple #[.string run, .pointer (some ⟨q, 0, none⟩), .nilIface]) ∧ w.heap.size ≤ q ∧ w'.heap[q]? = some (.cells cs 105 (0, 0)) ∧ cs[6]? = some (.int .i64 (k : Int)) ∧ cs[7]? = some ev ∧ w'.ownsRow w.heap.size 58 2 ev es.length (ecells es) ∧ WK Bo q w w' := by
  have co := Of_any p countsB countsHB w
  have es1 : (⟨#[99, 111, 117, 110, 116, 115]⟩ : ByteArray) = countsB := rfl
  have es2 : (⟨#[99, 111, 117, 110, 116, 115, 32]⟩ : ByteArray) = countsHB := rfl
  have hil := itoa_size k (by omega)
  have hid : (itoaB k).data.toList = Lib.itoa (k : Int) := rfl
  have hhd : (headB countsB run k).data.toList = countsHB.data.toList ++ (run.data.toList ++ 32 :: (Lib.itoa (k : Int) ++ [10])) := by
    unfold headB
    simp [ByteArray.data_append, hid, spB, nlB, countsB, countsHB]
  have hhl : (headB countsB run k).data.toList.length ≤ 2000 := by
    rw [hhd]
    have e1 : run.data.toList.length = run.size := (Lib.size_eq _).symm
    have e2 : (Lib.itoa (k : Int)).length = (itoaB k).size := by rw [Lib.size_eq, hid]
    have e3 : countsHB.data.toList.length = 7 := rfl
    simp only [List.length_append, List.length_cons, List.length_nil]
    omega
  obtain ⟨body, hbd⟩ : ∃ body, body = (run.data.toList ++ 32 :: Lib.itoa (k : Int)) ++ 10 :: textE es := ⟨_, rfl⟩
  have hZ : (headB countsB run k).data.toList ++ textE es = countsHB.data.toList ++ body := by rw [hhd, hbd]; simp
  have hEnd : Ends ((headB countsB run k).data.toList ++ textE es) := ends_append (ends_head _ _ _) (by rw [textE_lines]; exact ends_unlines _)
  have hno10 : ∀ d ∈ run.data.toList ++ 32 :: Lib.itoa (k : Int), d ≠ 10 := by
    intro d hd
    rw [List.mem_append, List.mem_cons] at hd
    rcases hd with hd | rfl | hd
    · exact hex_no 10 _ hrun (by decide) d hd
    · decide
    · rw [itoa_nat] at hd
      exact hex_no 10 _ (fun e he => .inl (dec_digit _ e he)) (by decide) d hd
  have hbl : body.length ≤ 1000000 := by
    have := congrArg List.length hZ
    simp only [List.length_append] at this
    omega
  have HA : Hid (Disk Bo w p S ∧ S.Ok N ∧ S.Fine ∧ Gs w a bb) := ⟨hD, ho, hF, hg⟩
  have HLQ : Hid (linesQ (textE es) = es.map line0) := linesQ_textE (fun x hx => (hes x hx).1)
  have HES : Hid (∀ x ∈ es, x.1.data.toList.all isB = true ∧ x.1.size = k ∧ x.2 ≤ 1000000) := hes
  clear hD ho hF hg hes
  go_enter Tryz.func41, Tryz.ntmps41
  go_upto_region 2 with (go_at_call 62; go_must (refine co.mono ?_; rintro e w1 ⟨rfl, b1⟩))
  have HF := listC_at w1 p countsB countsHB 0 (Nat.le_trans HA.out.1.low b1.size)
  obtain ⟨W2, hW2⟩ : ∃ W2, W2 = w1.alloc (.cells (listC p countsB countsHB 0) 105) := ⟨_, rfl⟩
  obtain ⟨q, hq⟩ : ∃ q, q = w1.heap.size := ⟨_, rfl⟩
  have B2 : Below w.heap.size w W2 := by rw [hW2]; exact b1.alloc b1.size _
  have hqw : w.heap.size ≤ q := by rw [hq]; exact b1.size
  rw [← hW2, ← hq] at HF
  obtain ⟨hD, ho, hF, hg⟩ := HA.out
  have cl := Load_whole q 0 _ _ p countsB countsHB 0 0 _ _ S N a bb _ body W2 HF (hg.below B2) (hD.below B2) ho hN hF hl hZ hEnd (by rw [List.length_append]; omega) (by omega)
  rw [show w1.alloc (.cells #[.pointer (some ⟨p, 0, none⟩), .string countsB, .string countsHB, .int .u64 0, .int .i64 0, .slice none 0 0, .int .i64 0, .slice none 0 0] 105) = W2 from hW2.symm, ← hq]
  have HB2 : Hid (Below w.heap.size w W2) := B2
  clear hD ho hF hg hl HF hW2 hq es1 es2 co HA b1 hZ hEnd B2
  go_wp2_with fail
  refine cl.mono ?_
  rintro e w3 ⟨B, s', r', rfl, hB, hf3, k3⟩
  go_wp2_with fail
  refine (Cut_one B 10 (run.data.toList ++ 32 :: Lib.itoa (k : Int)) (textE es) w3 (by rw [hB, hbd]) hno10 (by rw [Lib.size_eq, hB]; omega)).mono ?_
  rintro e w4 ⟨A4, T4, rfl, hA4, hT4, s4⟩
  go_wp2_with fail
  refine (Cut_one A4 32 run.data.toList (Lib.itoa (k : Int)) w4 hA4 (hex_no 32 _ hrun (by decide)) (by rw [Lib.size_eq, hA4]; have := congrArg List.length hbd; simp only [List.length_append, List.length_cons] at this ⊢; omega)).mono ?_
  rintro e w5 ⟨R5, I5, rfl, hR5, hI5, s5⟩
  have hre : R5 = run := bytes_eq hR5
  subst hre
  go_wp2_with fail
  refine (Tryz.strconv_Atoi I5 (k : Int) (by rw [Lib.size_eq, hI5, ← hid, ← Lib.size_eq]; omega) (by rw [hI5]; exact atoi_itoa k) w5).mono ?_
  rintro e w6 ⟨rfl, t6, hw6⟩
  have b6 : Below w5.heap.size w5 w6 := by rw [hw6]; exact Lib.bytesWorld_below _ _ _
  have hs4 := (s4.below 0).size
  have BB : Below w3.heap.size w3 w6 := (s4.below _).trans (((s5.below _)).trans (b6.mono (Nat.le_trans hs4 (s5.below 0).size)))
  have hf6 := hf3.kept (.ofBelow BB)
  have q6 := hf6.blk
  have c6 : w6.cell? ⟨q, 6, none⟩ = some (.int .i64 0) := (st_cell q6 _).trans ((fset_ne _ _ _ _ _ _ (by omega)).trans rfl)
  have f6 := st_frozen q6 6
  obtain ⟨cs6, hcs6⟩ : ∃ cs6, cs6 = (fset (listC p countsB countsHB 0) 0 s' r' (.slice none 0 0)).setIfInBounds 6 (.int .i64 (k : Int)) := ⟨_, rfl⟩
  have q7 : (w6.setCell ⟨q, 6, none⟩ (.int .i64 (k : Int))).heap[q]? = some (.cells cs6 105 (0, 0)) := by rw [hcs6]; exact heap_setCell_same w6 q 6 _ _ _ q6
  have hl6 : 6 < (fset (listC p countsB countsHB 0) 0 s' r' (.slice none 0 0)).size := by
    rcases Nat.lt_or_ge 6 (fset (listC p countsB countsHB 0) 0 s' r' (.slice none 0 0)).size with h | h
    · exact h
    · have := fset_ne (listC p countsB countsHB 0) 0 s' r' (.slice none 0 0) 6 (by omega)
      rw [Array.getElem?_eq_none h] at this
      cases this
  have g6 : cs6[6]? = some (.int .i64 (k : Int)) := by rw [hcs6]; exact Array.getElem?_setIfInBounds_self_of_lt hl6
  have g7 : cs6[7]? = some (.slice none 0 0) := by rw [hcs6, Array.getElem?_setIfInBounds_ne (by decide)]; exact (fset_ne _ _ _ _ _ _ (by omega)).trans rfl
  obtain ⟨W7, hW7⟩ : ∃ W7, W7 = w6.setCell ⟨q, 6, none⟩ (.int .i64 (k : Int)) := ⟨_, rfl⟩
  rw [← hW7] at q7
  have K7 : Hid (WK Bo q w W7) := by
    show WK Bo _ _ _
    rw [hW7]
    exact (WK.ofBelow (HB2.out.mono (Nat.le_refl _))).trans (k3.trans ((WK.ofBelow BB).trans (WK.set _)))
  have ct := take_any (Bo := Bo) q cs6 T4 k es W7 q7 g6 ⟨_, g7⟩ (by rw [Lib.size_eq, hT4]; omega) (by rw [hT4]; exact HLQ.out) HES.out hk1 hk2 hel
  have G6 : Hid (cs6[6]? = some (.int .i64 (k : Int))) := g6
  have hl7 : 7 < cs6.size := by
    rcases Nat.lt_or_ge 7 cs6.size with h | h
    · exact h
    · rw [Array.getElem?_eq_none h] at g7; cases g7
  clear g6 g7 q6 q7 hf6 hf3 BB hcs6 hl6 b6 hw6
  go_upto_region 11 with fail
  rw [← hW7]
  clear hW7
  go_wp2_with (go_at_call 67; go_must (refine ct.mono ?_; rintro e w8 ⟨ev, rfl, q8, own8, k8⟩))
  exact bodyPost_ret (v := .tuple #[.string R5, .pointer (some ⟨q, 0, none⟩), .nilIface]) (by simp [results, Tryz.results41, go_sem]) rfl ⟨q, _, ev, rfl, hqw, q8, by rw [Array.getElem?_setIfInBounds_ne (by decide)]; exact G6.out, Array.getElem?_setIfInBounds_self_of_lt hl7, own_lower own8 K7.out.size, K7.out.trans k8⟩
end Go.Proofs.YtbjgpfhbdmcbbabGreatDoor.kinds
