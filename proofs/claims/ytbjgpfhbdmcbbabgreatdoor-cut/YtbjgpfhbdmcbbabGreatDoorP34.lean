import Derived.Test.YtbjgpfhbdmcbbabGreatDoorP33

/-
  CONTRACTS of package quern on a disk that may die: saveParts.
-/
namespace Go.Proofs.YtbjgpfhbdmcbbabGreatDoor.jobs
open Go.RowKit dnamath dna diskm disk keep hex pieces files parse words kinds
set_option linter.unusedVariables false

set_option maxHeartbeats 4000000 in
set_option maxRecDepth 100000 in
theorem saveParts_m {aF : Addr} {Bo : Nat} (j p K M Bn : Nat) (text run : ByteArray) (rs : List (List UInt8)) (bv : Value) (vs : List Value) (B : List (List ByteArray)) (base : Nat) (S : DS) (N : Nat) (a bb : Addr) (w : World) (hJ : JobAt Bo w j p K M Bn text run) (hg : Gs w a bb) (hse : SenF w a bb aF) (hfa : FailIs aF w) (hD : Disk Bo w p S) (hL : Live (Allow K M Bn text run rs) draftB S N) (hN : N ≤ 8700) (hr : RowsAt w base bv vs B) (hvl : vs.length ≤ 16) (hs : run.size ≤ 17) (hNG : 27 ≤ w.heap.size)
    (hbi : ∀ (i : Nat) (bl : List ByteArray), B[i]? = some bl → BinIs K M Bn rs i bl) (hsz : ∀ (i : Nat) (bl : List ByteArray), B[i]? = some bl → (unlines (datas bl)).length ≤ 50000 ∧ bl.length ≤ 50000 ∧ (allW K bl).length ≤ 1440 ∧ ∀ x ∈ bl, x.data.toList.all isB = true ∧ x.size ≤ 2000) (hK1 : 1 ≤ K) (hK : K ≤ 31) :
    Calls Tryz.prog 87 #[.pointer (some ⟨j, 0, none⟩), bv] w fun e w' => ((e = .returned .nilIface ∧ ∃ S', Disk Bo w' p S' ∧ Flow (Allow K M Bn text run rs) S S' (N + 9 * vs.length) ∧ ∀ (i : Nat) (bl : List ByteArray), i < vs.length → B[i]? = some bl → bl ≠ [] → S'.look (nameB i) ≠ none) ∨ (∃ v S', e = .returned v ∧ DiskErr aF w' v ∧ Disk Bo w' p S' ∧ Flow (Allow K M Bn text run rs) S S' (N + 9 * vs.length) ∧ S'.life = 0)) ∧ New Bo w w' := by
  obtain ⟨ab, cb, hbv⟩ := own_slice hr.row
  subst hbv
  have HH : Hid (JobAt Bo w j p K M Bn text run ∧ Gs w a bb ∧ RowsAt w base (.slice ab vs.length cb) vs B ∧ SenF w a bb aF ∧ FailIs aF w ∧ ∀ (i : Nat) (bl : List ByteArray), B[i]? = some bl → BinIs K M Bn rs i bl) := ⟨hJ, hg, hr, hse, hfa, hbi⟩
  have HSZ : Hid (∀ (i : Nat) (bl : List ByteArray), B[i]? = some bl → (unlines (datas bl)).length ≤ 50000 ∧ bl.length ≤ 50000 ∧ (allW K bl).length ≤ 1440 ∧ ∀ x ∈ bl, x.data.toList.all isB = true ∧ x.size ≤ 2000) := hsz
  have H0 : Hid (∃ T, Disk Bo w p T ∧ (Flow (Allow K M Bn text run rs) S T (N + 9 * 0) ∧ (∀ (i : Nat) (bl : List ByteArray), i < 0 → B[i]? = some bl → bl ≠ [] → T.look (nameB i) ≠ none)) ∧ New Bo w w) := ⟨S, hD, ⟨Flow.start hL, fun i bl hi => absurd hi (Nat.not_lt_zero _)⟩, New.refl _⟩
  clear hJ hg hr hD hL hse hfa hbi hsz
  go_enter Tryz.func87, Tryz.ntmps87
  go_wp2_with fail
  go_loopw [12] (fun i wr => ∃ (k : Nat), i = .int .i64 (k : Int) ∧ k ≤ vs.length ∧ Hid (∃ T, Disk Bo wr p T ∧ (Flow (Allow K M Bn text run rs) S T (N + 9 * k) ∧ (∀ (i : Nat) (bl : List ByteArray), i < k → B[i]? = some bl → bl ≠ [] → T.look (nameB i) ≠ none)) ∧ New Bo w wr)) (fun i _ => vs.length - (intOf i).toNat)
  case atStart => exact ⟨0, rfl, Nat.zero_le _, H0⟩
  case round =>
    obtain ⟨k, rfl, hk, hT⟩ := hrel
    clear H0
    rename World => wr
    obtain ⟨T, hDT, hPT, hNw⟩ := hT.out
    by_cases hlt : k < vs.length
    · have hJr := hNw.job HH.out.1
      have hgr := hNw.gs HH.out.2.1 hNG
      have hrr := hNw.rows HH.out.2.2.1
      obtain ⟨v, hv⟩ : ∃ v, vs[k]? = some v := ⟨_, List.getElem?_eq_getElem hlt⟩
      obtain ⟨bl, hbl⟩ : ∃ bl, B[k]? = some bl := ⟨_, List.getElem?_eq_getElem (by rw [hrr.len]; exact hlt)⟩
      have hvo := hrr.each k v bl hv hbl
      obtain ⟨av, cv2, hve⟩ := own_slice hvo
      subst hve
      rcases hrr.row.2 with ⟨_, e0⟩ | ⟨g, cap, cur, e1, _⟩
      · omega
      cases e1
      have hc : wr.cell? ⟨g, k, none⟩ = some (.slice av bl.length cv2) := by rw [hrr.row.cellAt (g := g) k (by omega)]; exact hv
      by_cases hbe : bl = []
      · have HP : Hid ((Flow (Allow K M Bn text run rs) S T (N + 9 * (k + 1)) ∧ (∀ (i : Nat) (bl : List ByteArray), i < (k + 1) → B[i]? = some bl → bl ≠ [] → T.look (nameB i) ≠ none)) ∧ Disk Bo wr p T ∧ New Bo w wr) := ⟨⟨hPT.1.mono (by omega), fun i b hi hb hne => by
          rcases Nat.lt_succ_iff_lt_or_eq.1 hi with h1 | rfl
          · exact hPT.2 i b h1 hb hne
          · rw [hbl, hbe] at hb; cases hb; exact absurd rfl hne⟩, hDT, hNw⟩
        subst hbe
        clear hJr hgr hrr hvo hv hbl hT hDT hPT hNw
        go_wp2
        go_roundw
        case rel => exact ⟨k + 1, by go_num, by omega, ⟨T, HP.out.2.1, HP.out.1, HP.out.2.2⟩⟩
        case measure => simp [intOf]; omega
      · have hbp : 0 < bl.length := List.length_pos_iff.2 hbe
        have hz : ((bl.length : Int) == 0) = false := by simp; omega
        have hsz := HSZ.out k bl hbl
        have ct := tally_any j p K M Bn text run k a bb wr hJr hgr (by omega) (by omega)
        have cp : ∀ W, Below wr.heap.size wr W → _ := fun W hW => part_any j p K M Bn text run k a bb W (hJr.below hW) (hgr.below hW) (by omega) (by omega)
        have HB : Hid (B[k]? = some bl ∧ Disk Bo wr p T ∧ (Flow (Allow K M Bn text run rs) S T (N + 9 * k) ∧ (∀ (i : Nat) (bl : List ByteArray), i < k → B[i]? = some bl → bl ≠ [] → T.look (nameB i) ≠ none)) ∧ New Bo w wr ∧ Gs wr a bb ∧ wr.ownsRow base 9 1 (.slice av bl.length cv2) bl.length (scells bl)) := ⟨hbl, hDT, hPT, hNw, hgr, hvo⟩
        clear hJr hgr hrr hvo hv hbl hT hDT hPT hNw
        go_upto_region 6 with (first | (go_at_call 117; go_must (refine ct.mono ?_; rintro e w3 ⟨rfl, b3⟩)) | (go_at_call 118; go_must (refine (cp _ b3).mono ?_; rintro e w4 ⟨rfl, b4⟩)))
        obtain ⟨hbl, hDT, hPT, hNw, hgr, hvo⟩ := HB.out
        obtain ⟨W5, hW5⟩ : ∃ W5, W5 = (w4.alloc (.cells (listC p (nameB k) (headB tallyB run k) K) 105)).alloc (.cells (partC p (nameB k) (headB partB run k)) 214) := ⟨_, rfl⟩
        obtain ⟨q1, hq1⟩ : ∃ q1, q1 = w4.heap.size := ⟨_, rfl⟩
        have hsz4 : (w4.alloc (.cells (listC p (nameB k) (headB tallyB run k) K) 105)).heap.size = q1 + 1 := by rw [hq1]; simp
        have B4 : Below wr.heap.size wr w4 := b3.trans (b4.mono b3.size)
        have B5 : Below w4.heap.size w4 W5 := by rw [hW5]; exact ((Below.refl _ _).alloc (Nat.le_refl _) _).alloc (by rw [hsz4]; omega) _
        have BR : Below wr.heap.size wr W5 := B4.trans (B5.mono B4.size)
        have F1 : FileAt Bo W5 q1 0 (listC p (nameB k) (headB tallyB run k) K) 105 p (nameB k) (headB tallyB run k) 0 0 (.slice none 0 0) [] := by
          have h0 := listC_at w4 p (nameB k) (headB tallyB run k) K (Nat.le_trans hDT.low B4.size)
          rw [← hq1] at h0
          rw [hW5]
          exact h0.kept (.ofBelow ((Below.refl _ _).alloc (Nat.le_refl _) _))
        have F2 : FileAt Bo W5 (q1 + 1) 0 (partC p (nameB k) (headB partB run k)) 214 p (nameB k) (headB partB run k) 0 0 (.slice none 0 0) [] := by
          have h0 := partC_at (w4.alloc (.cells (listC p (nameB k) (headB tallyB run k) K) 105)) p (nameB k) (headB partB run k) (Nat.le_trans hDT.low (Nat.le_trans B4.size (by simp)))
          rw [hsz4] at h0
          rw [hW5]
          exact h0
        have hqw : w.heap.size ≤ q1 := by rw [hq1]; exact Nat.le_trans hNw.size B4.size
        have hqr : wr.heap.size ≤ q1 := by rw [hq1]; exact B4.size
        have hNr : New Bo wr W5 := (New.refl _).below BR
        have HK : Hid (Below wr.heap.size wr W5 ∧ FileAt Bo W5 q1 0 (listC p (nameB k) (headB tallyB run k) K) 105 p (nameB k) (headB tallyB run k) 0 0 (.slice none 0 0) [] ∧ FileAt Bo W5 (q1 + 1) 0 (partC p (nameB k) (headB partB run k)) 214 p (nameB k) (headB partB run k) 0 0 (.slice none 0 0) [] ∧ SenF wr a bb aF ∧ FailIs aF wr ∧ BinIs K M Bn rs k bl ∧ New Bo wr W5) := ⟨BR, F1, F2, senF_new HH.out.2.2.2.1 hNw, failIs_new HH.out.2.2.2.2.1 hNw, HH.out.2.2.2.2.2 k bl hbl, hNr⟩
        have hG5 := hgr.below BR
        have HN5 : Hid (∀ W6, New Bo wr W6 → New Bo w W6) := fun W6 h => HB.out.2.2.2.1.fk (q := wr.heap.size) h HB.out.2.2.2.1.size
        have hgk : ∀ W6, New Bo wr W6 → Gs W6 a bb := fun W6 h => h.gs HB.out.2.2.2.2.1 (Nat.le_trans hNG HB.out.2.2.2.1.size)
        have HGK : Hid (∀ W6, New Bo wr W6 → Gs W6 a bb) := hgk
        have hLT := hPT.1.live
        have c0 := (st_cell F1.blk _).trans F1.c0
        have c1 := (st_cell F1.blk _).trans F1.c1
        have hd5 := hDT.below BR
        rw [show (w4.alloc (.cells #[.pointer (some ⟨p, 0, none⟩), .string (nameB k), .string (headB tallyB run k), .int .u64 0, .int .i64 0, .slice none 0 0, .int .i64 (K : Int), .slice none 0 0] 105)).alloc (.cells #[.pointer (some ⟨p, 0, none⟩), .string (nameB k), .string (headB partB run k), .int .u64 0, .int .i64 0, .slice none 0 0] 214) = W5 from hW5.symm, ← hq1]
        clear ct cp b3 b4 B4 B5 hW5 hq1 hsz4 hvo hc hgk
        by_cases hdead : T.life = 0
        · have cl := load_dead q1 p T (N + 9 * k) (nameB k) W5 hd5 hLT.ok (by omega) hLT.sound.sane hdead (HK.out.2.2.2.2.1.below BR) c0 c1
          have HDE : Hid (T.life = 0) := hdead
          clear hdead F1 F2 BR hG5 hDT hPT hNw hgr hbl hLT c0 c1 hd5 hNr
          go_wp2_with fail
          refine cl.mono ?_
          rintro e w6 ⟨v6, rfl, hv6, b6⟩
          have hN6 : New Bo wr w6 := HK.out.2.2.2.2.2.2.below b6
          have ci := isGone_failed a bb aF v6 w6 (HGK.out _ hN6) (senF_new HK.out.2.2.2.1 hN6) hv6
          obtain ⟨eb, s, ax, hve, hvb⟩ := hv6
          subst hve
          have HE : Hid (w6.heap[eb]? = some (.cells #[.int .i64 8, .string s, .iface 254 (.pointer (some ax.1))] 89 (0, 0)) ∧ New Bo wr w6 ∧ Disk Bo w6 p T) := ⟨hvb, hN6, (HB.out.2.1.below HK.out.1).below b6⟩
          clear hvb hN6 b6 cl
          go_wp2_with fail
          refine ci.mono ?_
          rintro e w7 ⟨rfl, hw7⟩
          have hw7' := hw7.symm
          subst hw7'
          clear hw7
          go_wp2_with fail
          refine ci.mono ?_
          rintro e w8 ⟨rfl, hw8⟩
          have hw8' := hw8.symm
          subst hw8'
          clear hw8
          go_wp2
          go_ret
          exact ⟨.inr ⟨_, T, rfl, ⟨eb, s, ax, rfl, HE.out.1⟩, HE.out.2.2, HB.out.2.2.1.1.mono (by omega), HDE.out⟩, HN5.out _ HE.out.2.1⟩
        · have hF := alive hdead
          have hok := hLT.ok
          cases hlk : T.look (nameB k) with
          | none =>
            have cl := load_absent_l q1 p T (N + 9 * k) (nameB k) a bb W5 hd5 hok (by omega) hF hG5 c0 c1 hlk
            have cpi : ∀ W6, Below W5.heap.size W5 W6 → _ := fun W6 b6 => pieces_absent_l (q1 + 1) p T (N + 9 * k) (nameB k) a bb W6 (hd5.below b6) hok (by omega) hF (hG5.below b6) (by have F6 := F2.kept (Bo := Bo) (.ofBelow b6); exact (st_cell F6.blk _).trans F6.c0) (by have F6 := F2.kept (Bo := Bo) (.ofBelow b6); exact (st_cell F6.blk _).trans F6.c1) hlk
            clear hdead F1 F2 BR hG5 hDT hPT hNw hgr hbl hLT c0 c1 hd5 hNr hF hok hlk
            go_wp2_with fail
            refine cl.mono ?_
            rintro e w6 ⟨v6, rfl, hG6, b6⟩
            have ci6 := isGone_gone a bb v6 w6 (HGK.out _ (HK.out.2.2.2.2.2.2.below b6)) hG6
            clear hG6
            go_wp2_with fail
            refine ci6.mono ?_
            rintro e w7 ⟨rfl, hw7⟩
            have hw7' := hw7.symm
            subst hw7'
            have cp6 := cpi _ b6
            clear cpi cl
            go_wp2_with fail
            refine cp6.mono ?_
            rintro e w8 ⟨v8, rfl, hG8, b8⟩
            have hN8 : New Bo wr w8 := (HK.out.2.2.2.2.2.2.below b6).below b8
            have ci8 := isGone_gone a bb v8 w8 (HGK.out _ hN8) hG8
            clear hG8
            go_wp2_with fail
            refine ci8.mono ?_
            rintro e w9 ⟨rfl, hw9⟩
            have hw9' := hw9.symm
            subst hw9'
            have hhs := head_size partB run k (by decide) hs (by omega)
            have BX : Below wr.heap.size wr w8 := HK.out.1.trans ((b6.trans (b8.mono b6.size)).mono HK.out.1.size)
            have F8 := (HK.out.2.2.1.kept (.ofBelow b6)).kept (.ofBelow b8)
            have cps := partSave_m (Allow K M Bn text run rs) (q1 + 1) 0 _ 214 p (nameB k) (headB partB run k) 0 0 (.slice none 0 0) [] T (N + 9 * k) a bb (.slice av bl.length cv2) bl w8 F8 (by decide) (HB.out.2.2.2.2.1.below BX) (by omega) (HB.out.2.1.below BX) HB.out.2.2.1.1.live (by omega) (failIs_new HK.out.2.2.2.2.1 hN8) (.inr (.inl ⟨k, bl, by omega, rfl, HK.out.2.2.2.2.2.1, .inl rfl⟩)) (own_lower (row_keepB HB.out.2.2.2.2.2 (TK.below BX)) (Nat.zero_le _)) (by have h9 := hsz.1; show _ + (unlines (datas bl)).length ≤ _; omega) (nameB_ne k) (nameB_draft k) (by omega)
            have HBX : Hid (New Bo wr w8) := hN8
            clear F8 BX ci6 ci8 cp6 b6 b8 hN8
            go_wp2_with fail
            refine cps.mono ?_
            rintro e w10 (⟨S', s', r', rfl, h10, d10, v10, k10⟩ | ⟨v, S', rfl, hv, d10, c10, k10⟩)
            · have HN10 : Hid (Disk Bo w10 p S' ∧ (Flow (Allow K M Bn text run rs) S S' (N + 9 * (k + 1)) ∧ (∀ (i : Nat) (bl : List ByteArray), i < k + 1 → B[i]? = some bl → bl ≠ [] → S'.look (nameB i) ≠ none)) ∧ New Bo w w10) := by
                refine ⟨d10, ⟨HB.out.2.2.1.1.saved v10 (.inl ⟨k, rfl⟩), fun i b hi hb hne => ?_⟩, HN5.out _ (HBX.out.fk k10 (by omega))⟩
                rcases Nat.lt_succ_iff_lt_or_eq.1 hi with h1 | rfl
                · rw [v10.stay (nameB i) (fun h9 => by
                    rcases h9 with e | e
                    · exact draft_name i e
                    · have := nameB_inj e; omega)]
                  exact HB.out.2.2.1.2 i b h1 hb hne
                · rw [v10.look]; exact fun e => by cases e
              clear h10 d10 v10 k10 cps
              go_wp2
              go_roundw
              case rel => exact ⟨k + 1, by go_num, by omega, ⟨S', HN10.out.1, HN10.out.2.1, HN10.out.2.2⟩⟩
              case measure => simp [intOf]; omega
            · obtain ⟨eb, s, ax, hve, hvb⟩ := hv
              subst hve
              have HE : Hid (w10.heap[eb]? = some (.cells #[.int .i64 8, .string s, .iface 254 (.pointer (some ax.1))] 89 (0, 0)) ∧ Disk Bo w10 p S' ∧ (Flow (Allow K M Bn text run rs) S S' (N + 9 * k + 9) ∧ S'.life = 0) ∧ New Bo w w10) := ⟨hvb, d10, HB.out.2.2.1.1.cut c10 (.inl ⟨k, rfl⟩), HN5.out _ (HBX.out.fk k10 (by omega))⟩
              clear hvb d10 c10 k10 cps
              go_wp2
              go_ret
              exact ⟨.inr ⟨_, S', rfl, ⟨eb, s, ax, rfl, HE.out.1⟩, HE.out.2.1, HE.out.2.2.1.1.mono (by omega), HE.out.2.2.1.2⟩, HE.out.2.2.2⟩
          | some f =>
            rcases allow_bin HK.out.2.2.2.2.2.1 (live_look hLT hlk (draft_name k)) with rfl | ⟨es, rfl, htl⟩
            · have hhs := head_size partB run k (by decide) hs (by omega)
              have hpl : (partZ run k bl).length ≤ 1000000 := by unfold partZ; rw [List.length_append, len_size]; have := hsz.1; omega
              have cl := load_other_l q1 _ 105 p (nameB k) (headB tallyB run k) 0 0 (.slice none 0 0) [] T (N + 9 * k) a bb _ W5 F1 hG5 hd5 hok (by omega) hF hlk (part_not_tally run k bl) (part_ends run k bl) hpl (by omega)
              have cpi : ∀ W6, WK Bo q1 W5 W6 → Gs W6 a bb → _ := fun W6 k6 g6 => pieces_ok_l (q1 + 1) _ 214 p (nameB k) (headB partB run k) 0 0 (.slice none 0 0) [] T (N + 9 * k) a bb (datas bl) W6 (FileAt.fk F2 (FK.ofWK k6) (by omega)) g6 (k6.disk hd5 F1.notDisk) hok (by omega) hF hlk (ends_head _ _ _) hpl (by omega) (fun x hx => by
                obtain ⟨y, hy, rfl⟩ := List.mem_map.1 hx
                exact clean_isB (hsz.2.2.2 y hy).1)
              have HP9 : Hid (∀ (i : Nat) (bl : List ByteArray), i < k + 1 → B[i]? = some bl → bl ≠ [] → T.look (nameB i) ≠ none) := fun i b hi hb hne => by
                rcases Nat.lt_succ_iff_lt_or_eq.1 hi with h1 | rfl
                · exact hPT.2 i b h1 hb hne
                · rw [hlk]; exact fun e => by cases e
              have HND : Hid (¬ isDisk W5 q1 ∧ ∀ W6, WK Bo q1 W5 W6 → ¬ isDisk W6 (q1 + 1)) := ⟨F1.notDisk, fun W6 k6 => (FileAt.fk F2 (FK.ofWK k6) (by omega)).notDisk⟩
              clear hdead F1 F2 BR hG5 hDT hPT hNw hgr hbl hLT c0 c1 hd5 hNr hF hok hlk hhs hpl
              go_wp2_with fail
              refine cl.mono ?_
              rintro e w6 ⟨v6, s6, r6, rfl, hG6, F6, k6⟩
              have hN6 : New Bo wr w6 := HK.out.2.2.2.2.2.2.wk k6 hqr
              have ci6 := isGone_broken a bb v6 w6 (HGK.out _ hN6) (senF_new HK.out.2.2.2.1 hN6).sen hG6
              have cp6 := cpi w6 k6 (HGK.out _ hN6)
              have HN6 : Hid (New Bo wr w6 ∧ Disk Bo w6 p T ∧ ¬ isDisk w6 (q1 + 1)) := ⟨hN6, k6.disk (HB.out.2.1.below HK.out.1) HND.out.1, HND.out.2 w6 k6⟩
              clear hG6 F6 k6 hN6 cl cpi
              go_wp2_with fail
              refine ci6.mono ?_
              rintro e w7 ⟨rfl, hw7⟩
              have hw7' := hw7.symm
              subst hw7'
              clear hw7
              go_wp2_with fail
              refine cp6.mono ?_
              rintro e w8 ⟨v8, ts, s8, r8, rfl, own8, hd8, F8, k8⟩
              obtain ⟨a8, c8, hv8⟩ := own_slice own8
              subst hv8
              have hN8 : New Bo wr w8 := HN6.out.1.wk k8 (by omega)
              have ci8 := isGone_nil a bb w8 (HGK.out _ hN8)
              have HE : Hid (Disk Bo w8 p T ∧ New Bo w w8) := ⟨k8.disk HN6.out.2.1 HN6.out.2.2, HN5.out _ hN8⟩
              clear own8 hd8 F8 k8 hN8 cp6 ci6
              go_wp2_with fail
              refine ci8.mono ?_
              rintro e w9 ⟨rfl, hw9⟩
              have hw9' := hw9.symm
              subst hw9'
              clear hw9
              go_wp2
              go_roundw
              case rel => exact ⟨k + 1, by go_num, by omega, ⟨T, HE.out.1, ⟨HB.out.2.2.1.1.mono (by omega), HP9.out⟩, HE.out.2⟩⟩
              case measure => simp [intOf]; omega
            · have htf := tally_facts htl hsz.2.2.2 hsz.2.2.1 hK
              have hhs := head_size tallyB run k (by decide) hs (by omega)
              have cl := load_ok_l q1 _ p (nameB k) (headB tallyB run k) 0 0 T (N + 9 * k) a bb K es W5 F1 hG5 hd5 hok (by omega) hF hlk (ends_head _ _ _) (by rw [List.length_append, len_size]; omega) (by omega) rfl ⟨_, rfl⟩ htf.1 hK1 (by omega) (by omega)
              have HP9 : Hid (∀ (i : Nat) (bl : List ByteArray), i < k + 1 → B[i]? = some bl → bl ≠ [] → T.look (nameB i) ≠ none) := fun i b hi hb hne => by
                rcases Nat.lt_succ_iff_lt_or_eq.1 hi with h1 | rfl
                · exact hPT.2 i b h1 hb hne
                · rw [hlk]; exact fun e => by cases e
              have HND : Hid (¬ isDisk W5 q1) := F1.notDisk
              clear hdead F1 F2 BR hG5 hDT hPT hNw hgr hbl hLT c0 c1 hd5 hNr hF hok hlk hhs htf htl
              go_wp2_with fail
              refine cl.mono ?_
              rintro e w6 ⟨ev, s6, r6, rfl, F6, own6, k6⟩
              have hN6 : New Bo wr w6 := HK.out.2.2.2.2.2.2.wk k6 hqr
              have ci6 := isGone_nil a bb w6 (HGK.out _ hN6)
              have HE : Hid (Disk Bo w6 p T ∧ New Bo w w6) := ⟨k6.disk (HB.out.2.1.below HK.out.1) HND.out, HN5.out _ hN6⟩
              clear F6 own6 k6 hN6 cl
              go_wp2_with fail
              refine ci6.mono ?_
              rintro e w7 ⟨rfl, hw7⟩
              have hw7' := hw7.symm
              subst hw7'
              clear hw7
              go_wp2_with fail
              refine ci6.mono ?_
              rintro e w8 ⟨rfl, hw8⟩
              have hw8' := hw8.symm
              subst hw8'
              clear hw8
              go_wp2
              go_roundw
              case rel => exact ⟨k + 1, by go_num, by omega, ⟨T, HE.out.1, ⟨HB.out.2.2.1.1.mono (by omega), HP9.out⟩, HE.out.2⟩⟩
              case measure => simp [intOf]; omega
    · have hke : k = vs.length := by omega
      subst hke
      have HP : Hid (Disk Bo wr p T ∧ (Flow (Allow K M Bn text run rs) S T (N + 9 * vs.length) ∧ (∀ (i : Nat) (bl : List ByteArray), i < vs.length → B[i]? = some bl → bl ≠ [] → T.look (nameB i) ≠ none)) ∧ New Bo w wr) := ⟨hDT, hPT, hNw⟩
      clear hDT hPT hNw hT
      go_wp2
      go_ret
      exact ⟨.inl ⟨rfl, T, HP.out.1, HP.out.2.1.1, HP.out.2.1.2⟩, HP.out.2.2⟩
end Go.Proofs.YtbjgpfhbdmcbbabGreatDoor.jobs

/-
  CONTRACTS of package quern on a disk that may die: saveTally.
-/
namespace Go.Proofs.YtbjgpfhbdmcbbabGreatDoor.jobs
open Go.RowKit dnamath dna diskm disk keep hex pieces files parse words kinds
set_option linter.unusedVariables false

set_option maxHeartbeats 4000000 in
set_option maxRecDepth 100000 in
theorem saveTally_m {aF : Addr} {Bo : Nat} (A : List UInt8 → DFile → Prop) (j p K M Bn : Nat) (text run : ByteArray) (t q i : Nat) (csT csP : Array Value) (sT rT sP rP : Nat) (bl : List ByteArray) (T : DS) (N : Nat) (a bb : Addr) (w : World) (hJ : JobAt Bo w j p K M Bn text run) (hg : Gs w a bb) (hD : Disk Bo w p T) (hL : Live A draftB T N) (hF : T.dead = false) (hN : N ≤ 8900) (hfa : FailIs aF w) (hA : ∀ es : List Ent, TallyOf (allW K bl) (es.map cv) → A (nameB i).toList (wholeF (tallyZ run i es)))
    (FT : FileAt Bo w t 0 csT 105 p (nameB i) (headB tallyB run i) sT rT (.slice none 0 0) []) (h7 : ∃ v7, csT[7]? = some v7) (FP : FileAt Bo w q 0 csP 214 p (nameB i) (headB partB run i) sP rP (.slice none 0 0) []) (hl : T.look (nameB i) = some (wholeF (partZ run i bl)))
    (hB : ∀ x ∈ bl, x.data.toList.all isB = true ∧ x.size ≤ 2000) (hbz : (unlines (datas bl)).length ≤ 50000) (hbl : bl.length ≤ 50000) (hal : (allW K bl).length ≤ 1440) (hK1 : 1 ≤ K) (hK : K ≤ 31) (hi : i ≤ 16) (hrs : run.size ≤ 17) (htN : 27 ≤ t) (hqN : 27 ≤ q) (hjt : j ≠ t) (hjq : j ≠ q) :
    Calls Tryz.prog 121 #[.pointer (some ⟨j, 0, none⟩), .pointer (some ⟨t, 0, none⟩), .pointer (some ⟨q, 0, none⟩)] w fun e w' => (∃ S' ev es, e = .returned .nilIface ∧ w'.cell? ⟨t, 7, none⟩ = some ev ∧ w'.ownsRow w.heap.size 58 2 ev es.length (ecells es) ∧ TallyOf (allW K bl) (es.map cv) ∧ Disk Bo w' p S' ∧ SavedM A T S' (nameB i) (wholeF (tallyZ run i es)) (N + 9) ∧ ∀ u, New Bo u w → u.heap.size ≤ t → u.heap.size ≤ q → New Bo u w') ∨ (∃ v S', e = .returned v ∧ DiskErr aF w' v ∧ Disk Bo w' p S' ∧ CutM A T S' (nameB i) (N + 9) ∧ ∀ u, New Bo u w → u.heap.size ≤ t → u.heap.size ≤ q → New Bo u w') := by
  have htq : t ≠ q := fun e => by
    have h1 := FT.blk
    rw [e, FP.blk] at h1
    simp only [Option.some.injEq, Obj.cells.injEq] at h1
    exact absurd h1.2.1 (by decide)
  obtain ⟨v7, h7⟩ := h7
  have hclean : ∀ x ∈ datas bl, clean x := fun x hx => by
    unfold datas at hx
    rw [List.mem_map] at hx
    obtain ⟨y, hy, rfl⟩ := hx
    intro c hc
    exact no_of_B (List.all_eq_true.1 (hB y hy).1 c hc) (by decide)
  have hhs := head_size partB run i (by decide) hrs (by omega)
  have hhs2 := head_size tallyB run i (by decide) hrs (by omega)
  have cp := pieces_ok_l q csP 214 p (nameB i) (headB partB run i) sP rP (.slice none 0 0) [] T N a bb (datas bl) w FP hg hD hL.ok (by omega) hF hl (ends_head _ _ _) (by rw [List.length_append, len_size]; omega) hqN hclean
  have HH : Hid (JobAt Bo w j p K M Bn text run ∧ Gs w a bb ∧ Disk Bo w p T ∧ Live A draftB T N ∧ FileAt Bo w t 0 csT 105 p (nameB i) (headB tallyB run i) sT rT (.slice none 0 0) [] ∧ FileAt Bo w q 0 csP 214 p (nameB i) (headB partB run i) sP rP (.slice none 0 0) []) := ⟨hJ, hg, hD, hL, FT, FP⟩
  have HFA : Hid (FailIs aF w ∧ ∀ es : List Ent, TallyOf (allW K bl) (es.map cv) → A (nameB i).toList (wholeF (tallyZ run i es))) := ⟨hfa, hA⟩
  have HB : Hid (∀ x ∈ bl, x.data.toList.all isB = true ∧ x.size ≤ 2000) := hB
  have H7 : Hid (csT[7]? = some v7) := h7
  have HAL : Hid ((allW K bl).length ≤ 1440) := hal
  clear hJ hg hD hL hF hfa hA FT FP hB h7 hl hclean hal
  go_enter Tryz.func121, Tryz.ntmps121
  go_wp2_with fail
  refine cp.mono ?_
  rintro e w1 ⟨v, ts, s1, r1, rfl, own1, hd1, FP1, k1⟩
  obtain ⟨aP, cP, hvp⟩ := own_slice own1
  subst hvp
  have htsE : ts = bl := by
    have e1 : ∀ (x y : List ByteArray), datas x = datas y → x = y := by
      intro x
      induction x with
      | nil => intro y h; cases y with | nil => rfl | cons b y => simp [datas] at h
      | cons a x ih =>
        intro y h
        cases y with
        | nil => simp [datas] at h
        | cons b y =>
          simp only [datas, List.map_cons, List.cons.injEq] at h
          rw [kinds.bytes_eq h.1, ih y h.2]
    exact e1 _ _ hd1
  subst htsE
  have K1 : FK Bo q w w1 := FK.ofWK k1
  have J1 := HH.out.1.fk K1 hjq
  obtain ⟨_, z1, _, _, _, _⟩ := J1.cells
  have cc := countWords_any (.slice aP ts.length cP) ts K w1 (own_lower own1 (Nat.zero_le _)) hK1 hK (fun x hx => (HB.out x hx).1) (by omega) (fun x hx => Nat.le_trans (HB.out x hx).2 (by omega)) (by have := HAL.out; omega)
  have HK1 : Hid (WK Bo q w w1 ∧ JobAt Bo w1 j p K M Bn text run) := ⟨k1, J1⟩
  clear cp own1 hd1 FP1 k1 K1 J1
  go_wp2_with fail
  refine cc.mono ?_
  rintro e w2 ⟨ev, es, rfl, own2, ht2, b2⟩
  obtain ⟨aE, cE, hve⟩ := own_slice own2
  subst hve
  have FT2 := (FileAt.fk HH.out.2.2.2.2.1 (FK.ofWK HK1.out.1) htq).kept (.ofBelow b2)
  have hl7 : 7 < csT.size := by
    rcases Nat.lt_or_ge 7 csT.size with h | h
    · exact h
    · have := H7.out; rw [Array.getElem?_eq_none h] at this; cases this
  have c7 : w2.cell? ⟨t, 7, none⟩ = some v7 := (st_cell FT2.blk _).trans H7.out
  have f7 := st_frozen FT2.blk 7
  obtain ⟨cs3, hcs3⟩ : ∃ cs3, cs3 = csT.setIfInBounds 7 (.slice aE es.length cE) := ⟨_, rfl⟩
  obtain ⟨W3, hW3⟩ : ∃ W3, W3 = w2.setCell ⟨t, 7, none⟩ (.slice aE es.length cE) := ⟨_, rfl⟩
  have q3 : W3.heap[t]? = some (.cells cs3 105 (0, 0)) := by rw [hW3, hcs3]; exact heap_setCell_same w2 t 7 _ _ _ FT2.blk
  have FT3 : FileAt Bo W3 t 0 cs3 105 p (nameB i) (headB tallyB run i) sT rT (.slice none 0 0) [] := by
    refine ⟨q3, FT2.ty, ?_, ?_, ?_, ?_, ?_, ?_, World.ownsRow_nil _ _ _ _, Nat.le_trans FT2.big (by rw [hW3]; simp [World.setCell])⟩
    · rw [hcs3, Array.getElem?_setIfInBounds_ne (by omega)]; exact FT2.c0
    · rw [hcs3, Array.getElem?_setIfInBounds_ne (by omega)]; exact FT2.c1
    · rw [hcs3, Array.getElem?_setIfInBounds_ne (by omega)]; exact FT2.c2
    · rw [hcs3, Array.getElem?_setIfInBounds_ne (by omega)]; exact FT2.c3
    · rw [hcs3, Array.getElem?_setIfInBounds_ne (by omega)]; exact FT2.c4
    · rw [hcs3, Array.getElem?_setIfInBounds_ne (by omega)]; exact FT2.c5
  have g7 : cs3[0 + 7]? = some (.slice aE es.length cE) := by rw [hcs3]; exact Array.getElem?_setIfInBounds_self_of_lt hl7
  have own3 : W3.ownsRow w.heap.size 58 2 (.slice aE es.length cE) es.length (ecells es) := by rw [hW3]; exact own_lower (row_keepB own2 (TK.set FT2.blk (by decide))) HK1.out.1.size
  have K3 : WK Bo t w2 W3 := by rw [hW3]; exact WK.set _
  have G3 : Gs W3 a bb := K3.gs ((HK1.out.1.gs HH.out.2.1 hqN).below b2) htN
  have D3 : Disk Bo W3 p T := K3.disk ((HK1.out.1.disk HH.out.2.2.1 (FileAt.notDisk HH.out.2.2.2.2.2)).below b2) FT2.notDisk
  have hsm := tally_small ht2 (allW_words (fun x hx => (HB.out x hx).1)) HAL.out
  have htx := text_small hsm.each (by omega)
  have hel := hsm.len
  have hmul : es.length * (K + 10) ≤ 1440 * 41 := Nat.mul_le_mul hel (by omega)
  have hfa3 : FailIs aF W3 := failIs_fk ((failIs_fk HFA.out.1 (FK.ofWK HK1.out.1) hqN).below b2) (FK.ofWK K3) htN
  have cls := listSave_m A t 0 cs3 105 p (nameB i) (headB tallyB run i) sT rT (.slice none 0 0) [] T N a bb (.slice aE es.length cE) es W3 FT3 (by decide) G3 htN D3 HH.out.2.2.2.1 (by omega) hfa3 (HFA.out.2 es ht2) g7 (own_lower own3 (Nat.zero_le _)) (by omega) (nameB_ne i) (nameB_draft i) (by omega) (fun x hx => by have := (hsm.each x hx).2.2.2; omega)
  have HX : Hid (W3.ownsRow w.heap.size 58 2 (.slice aE es.length cE) es.length (ecells es) ∧ TallyOf (allW K ts) (es.map cv) ∧ Below w1.heap.size w1 w2 ∧ WK Bo t w2 W3 ∧ cs3[7]? = some (.slice aE es.length cE) ∧ FileAt Bo W3 t 0 cs3 105 p (nameB i) (headB tallyB run i) sT rT (.slice none 0 0) []) := ⟨own3, ht2, b2, K3, g7, FT3⟩
  clear hfa3 own2 own3 ht2 b2 FT2 FT3 q3 g7 K3 G3 D3 hsm htx hel hmul cc hcs3 hl7
  go_upto_region 5 with fail
  rw [← hW3]
  clear hW3 c7 f7
  go_wp2_with fail
  refine cls.mono ?_
  rintro e w4 (⟨S', s', r', rfl, h4, d4, v4, k4⟩ | ⟨v, S', rfl, hv, d4, c4, k4⟩)
  · have HY : Hid (w4.cell? ⟨t, 7, none⟩ = some (.slice aE es.length cE) ∧ Disk Bo w4 p S' ∧ SavedM A T S' (nameB i) (wholeF (tallyZ run i es)) (N + 9) ∧ FK Bo t W3 w4) := by
      refine ⟨(st_cell h4.blk _).trans ?_, d4, v4, k4⟩
      rw [fset_ne _ _ _ _ _ _ (by omega)]; exact HX.out.2.2.2.2.1
    clear h4 d4 v4 k4 cls
    go_wp2
    go_ret
    refine .inl ⟨S', _, es, rfl, HY.out.1, ?_, HX.out.2.1, HY.out.2.1, HY.out.2.2.1, fun u hu h1 h2 => ?_⟩
    · exact entries_fk' HY.out.2.2.2 HX.out.1 (fun cs fz e => by rw [HX.out.2.2.2.2.2.blk] at e; simp only [Option.some.injEq, Obj.cells.injEq] at e; exact absurd e.2.1 (by decide))
    · exact (((hu.wk HK1.out.1 h2).below HX.out.2.2.1).wk HX.out.2.2.2.1 h1).fk HY.out.2.2.2 h1
  · obtain ⟨eb, s, ax, hve, hvb⟩ := hv
    subst hve
    have HY : Hid (w4.heap[eb]? = some (.cells #[.int .i64 8, .string s, .iface 254 (.pointer (some ax.1))] 89 (0, 0)) ∧ Disk Bo w4 p S' ∧ CutM A T S' (nameB i) (N + 9) ∧ FK Bo t W3 w4) := ⟨hvb, d4, c4, k4⟩
    clear hvb d4 c4 k4 cls
    go_wp2
    go_ret
    exact .inr ⟨_, S', rfl, ⟨eb, s, ax, rfl, HY.out.1⟩, HY.out.2.1, HY.out.2.2.1, fun u hu h1 h2 => (((hu.wk HK1.out.1 h2).below HX.out.2.2.1).wk HX.out.2.2.2.1 h1).fk HY.out.2.2.2 h1⟩
end Go.Proofs.YtbjgpfhbdmcbbabGreatDoor.jobs
