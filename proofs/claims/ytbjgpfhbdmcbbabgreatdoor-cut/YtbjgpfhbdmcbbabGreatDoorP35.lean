import Derived.Test.YtbjgpfhbdmcbbabGreatDoorP34

/-
  CONTRACTS of package quern on a disk that may die: saveTallies.
-/
namespace Go.Proofs.YtbjgpfhbdmcbbabGreatDoor.jobs
open Go.RowKit dnamath dna diskm disk keep hex pieces files parse words kinds
set_option linter.unusedVariables false

set_option maxHeartbeats 4000000 in
set_option maxRecDepth 100000 in
theorem saveTallies_m {aF : Addr} {Bo : Nat} (j p K M Bn : Nat) (text run : ByteArray) (rs : List (List UInt8)) (bv : Value) (vs : List Value) (B : List (List ByteArray)) (base : Nat) (S : DS) (N : Nat) (a bb : Addr) (w : World) (hJ : JobAt Bo w j p K M Bn text run) (hg : Gs w a bb) (hse : SenF w a bb aF) (hfa : FailIs aF w) (hD : Disk Bo w p S) (hL : Live (Allow K M Bn text run rs) draftB S N) (hN : N ≤ 8700) (hr : RowsAt w base bv vs B) (hvl : vs.length ≤ 16) (hs : run.size ≤ 17) (hNG : 27 ≤ w.heap.size)
    (hbi : ∀ (i : Nat) (bl : List ByteArray), B[i]? = some bl → BinIs K M Bn rs i bl) (hpt : ∀ (i : Nat) (bl : List ByteArray), i < vs.length → B[i]? = some bl → bl ≠ [] → S.look (nameB i) ≠ none) (hsz : ∀ (i : Nat) (bl : List ByteArray), B[i]? = some bl → (unlines (datas bl)).length ≤ 50000 ∧ bl.length ≤ 50000 ∧ (allW K bl).length ≤ 1440 ∧ ∀ x ∈ bl, x.data.toList.all isB = true ∧ x.size ≤ 2000) (hK1 : 1 ≤ K) (hK : K ≤ 31) :
    Calls Tryz.prog 88 #[.pointer (some ⟨j, 0, none⟩), bv] w fun e w' => ((∃ S' tv us Ts, e = .returned (.tuple #[tv, .nilIface]) ∧ Disk Bo w' p S' ∧ Flow (Allow K M Bn text run rs) S S' (N + 9 * vs.length) ∧ TalliesAt w' w.heap.size tv us Ts (fulls B vs.length) K B ∧ us.length ≤ 16) ∨ (∃ v S', e = .returned (.tuple #[.slice none 0 0, v]) ∧ DiskErr aF w' v ∧ Disk Bo w' p S' ∧ Flow (Allow K M Bn text run rs) S S' (N + 9 * vs.length) ∧ S'.life = 0)) ∧ New Bo w w' := by
  obtain ⟨j0, hj0, hy0, hy1, hy2⟩ := info_parts infoEs
  obtain ⟨ab, cb, hbv⟩ := own_slice hr.row
  subst hbv
  have HH : Hid (JobAt Bo w j p K M Bn text run ∧ Gs w a bb ∧ RowsAt w base (.slice ab vs.length cb) vs B ∧ SenF w a bb aF ∧ FailIs aF w ∧ ∀ (i : Nat) (bl : List ByteArray), B[i]? = some bl → BinIs K M Bn rs i bl) := ⟨hJ, hg, hr, hse, hfa, hbi⟩
  have HSZ : Hid (∀ (i : Nat) (bl : List ByteArray), B[i]? = some bl → (unlines (datas bl)).length ≤ 50000 ∧ bl.length ≤ 50000 ∧ (allW K bl).length ≤ 1440 ∧ ∀ x ∈ bl, x.data.toList.all isB = true ∧ x.size ≤ 2000) := hsz
  have H0 : Hid (∃ T us Ts, Disk Bo w p T ∧ (Flow (Allow K M Bn text run rs) S T (N + 9 * 0) ∧ ∀ (i : Nat) (bl : List ByteArray), i < vs.length → B[i]? = some bl → bl ≠ [] → T.look (nameB i) ≠ none) ∧ New Bo w w ∧ us.length ≤ 0 ∧ TalliesAt w w.heap.size (.slice none 0 0) us Ts (fulls B 0) K B) := ⟨S, [], [], hD, ⟨Flow.start hL, hpt⟩, New.refl _, Nat.le_refl _, ⟨World.ownsRow_nil _ _ _ _, rfl, rfl, (fun i v T h => by simp at h), (fun i b T h => by simp [fulls] at h)⟩⟩
  have hjl := hJ.lt
  clear hJ hg hr hD hL hpt hsz hse hfa hbi
  go_enter Tryz.func88, Tryz.ntmps88
  go_wp2_with fail
  go_loopw [6, 14] (fun tv i wr => ∃ (k : Nat), i = .int .i64 (k : Int) ∧ k ≤ vs.length ∧ Hid (∃ T us Ts, Disk Bo wr p T ∧ (Flow (Allow K M Bn text run rs) S T (N + 9 * k) ∧ ∀ (i : Nat) (bl : List ByteArray), i < vs.length → B[i]? = some bl → bl ≠ [] → T.look (nameB i) ≠ none) ∧ New Bo w wr ∧ us.length ≤ k ∧ TalliesAt wr w.heap.size tv us Ts (fulls B k) K B)) (fun _ i _ => vs.length - (intOf i).toNat)
  case atStart => exact ⟨0, rfl, Nat.zero_le _, H0⟩
  case round =>
    rename Value => tv
    obtain ⟨k, rfl, hk, hT⟩ := hrel
    clear H0
    rename World => wr
    obtain ⟨T, us, Ts, hDT, hCT, hNw, hul, hTA⟩ := hT.out
    obtain ⟨aT, cT, htv⟩ := own_slice hTA.row
    subst htv
    by_cases hlt : k < vs.length
    · have hJr := hNw.job HH.out.1
      have hgr := hNw.gs HH.out.2.1 hNG
      have hrr := hNw.rows HH.out.2.2.1
      obtain ⟨v, hv⟩ : ∃ v, vs[k]? = some v := ⟨_, List.getElem?_eq_getElem hlt⟩
      obtain ⟨bl, hbl⟩ : ∃ bl, B[k]? = some bl := ⟨_, List.getElem?_eq_getElem (by rw [hrr.len]; exact hlt)⟩
      have hvo := hrr.each k v bl hv hbl
      obtain ⟨av, cv2, hve⟩ := own_slice hvo
      subst hve
      rcases hrr.row.2 with ⟨_, e0⟩ | ⟨g, cap, cur, e1, _⟩
      · omega
      cases e1
      have hc : wr.cell? ⟨g, k, none⟩ = some (.slice av bl.length cv2) := by rw [hrr.row.cellAt (g := g) k (by omega)]; exact hv
      by_cases hbe : bl = []
      · have HP : Hid (∃ T us' Ts, Disk Bo wr p T ∧ (Flow (Allow K M Bn text run rs) S T (N + 9 * (k + 1)) ∧ ∀ (i : Nat) (bl : List ByteArray), i < vs.length → B[i]? = some bl → bl ≠ [] → T.look (nameB i) ≠ none) ∧ New Bo w wr ∧ us'.length ≤ k + 1 ∧ TalliesAt wr w.heap.size (.slice aT us.length cT) us' Ts (fulls B (k + 1)) K B) := by
          refine ⟨T, us, Ts, hDT, ⟨hCT.1.mono (by omega), hCT.2⟩, hNw, by omega, ?_⟩
          rw [fulls_succ, full_no (by rw [hbl, hbe])]
          simpa using hTA
        subst hbe
        clear hJr hgr hrr hvo hv hbl hT hDT hCT hNw hTA
        go_wp2
        go_roundw
        case rel => exact ⟨k + 1, by go_num, by omega, HP⟩
        case measure => simp [intOf]; omega
      · have hbp : 0 < bl.length := List.length_pos_iff.2 hbe
        have hz : ((bl.length : Int) == 0) = false := by simp; omega
        have hsz := HSZ.out k bl hbl
        have ct := tally_any j p K M Bn text run k a bb wr hJr hgr (by omega) (by omega)
        have cp : ∀ W, Below wr.heap.size wr W → _ := fun W hW => part_any j p K M Bn text run k a bb W (hJr.below hW) (hgr.below hW) (by omega) (by omega)
        have HB : Hid (B[k]? = some bl ∧ Disk Bo wr p T ∧ (Flow (Allow K M Bn text run rs) S T (N + 9 * k) ∧ ∀ (i : Nat) (bl : List ByteArray), i < vs.length → B[i]? = some bl → bl ≠ [] → T.look (nameB i) ≠ none) ∧ New Bo w wr ∧ Gs wr a bb ∧ SenF wr a bb aF ∧ TalliesAt wr w.heap.size (.slice aT us.length cT) us Ts (fulls B k) K B ∧ bl ≠ [] ∧ JobAt Bo wr j p K M Bn text run) := ⟨hbl, hDT, hCT, hNw, hgr, senF_new HH.out.2.2.2.1 hNw, hTA, hbe, hJr⟩
        have HZ : Hid ((unlines (datas bl)).length ≤ 50000 ∧ bl.length ≤ 50000 ∧ (allW K bl).length ≤ 1440 ∧ ∀ x ∈ bl, x.data.toList.all isB = true ∧ x.size ≤ 2000) := hsz
        clear hJr hgr hrr hvo hv hbl hT hDT hCT hNw hTA hsz hbe
        go_upto_region 7 with (first | (go_at_call 117; go_must (refine ct.mono ?_; rintro e w3 ⟨rfl, b3⟩)) | (go_at_call 118; go_must (refine (cp _ b3).mono ?_; rintro e w4 ⟨rfl, b4⟩)))
        obtain ⟨hbl, hDT, hCT, hNw, hgr, hsr, hTA, hbe, hJr⟩ := HB.out
        obtain ⟨W5, hW5⟩ : ∃ W5, W5 = (w4.alloc (.cells (listC p (nameB k) (headB tallyB run k) K) 105)).alloc (.cells (partC p (nameB k) (headB partB run k)) 214) := ⟨_, rfl⟩
        obtain ⟨q1, hq1⟩ : ∃ q1, q1 = w4.heap.size := ⟨_, rfl⟩
        have hsz4 : (w4.alloc (.cells (listC p (nameB k) (headB tallyB run k) K) 105)).heap.size = q1 + 1 := by rw [hq1]; simp
        have B4 : Below wr.heap.size wr w4 := b3.trans (b4.mono b3.size)
        have B5 : Below w4.heap.size w4 W5 := by rw [hW5]; exact ((Below.refl _ _).alloc (Nat.le_refl _) _).alloc (by rw [hsz4]; omega) _
        have BR : Below wr.heap.size wr W5 := B4.trans (B5.mono B4.size)
        have F1 : FileAt Bo W5 q1 0 (listC p (nameB k) (headB tallyB run k) K) 105 p (nameB k) (headB tallyB run k) 0 0 (.slice none 0 0) [] := by
          have h0 := listC_at w4 p (nameB k) (headB tallyB run k) K (Nat.le_trans hDT.low B4.size)
          rw [← hq1] at h0
          rw [hW5]
          exact h0.kept (.ofBelow ((Below.refl _ _).alloc (Nat.le_refl _) _))
        have F2 : FileAt Bo W5 (q1 + 1) 0 (partC p (nameB k) (headB partB run k)) 214 p (nameB k) (headB partB run k) 0 0 (.slice none 0 0) [] := by
          have h0 := partC_at (w4.alloc (.cells (listC p (nameB k) (headB tallyB run k) K) 105)) p (nameB k) (headB partB run k) (Nat.le_trans hDT.low (Nat.le_trans B4.size (by simp)))
          rw [hsz4] at h0
          rw [hW5]
          exact h0
        have hqr : wr.heap.size ≤ q1 := by rw [hq1]; exact B4.size
        have hqw : w.heap.size ≤ q1 := Nat.le_trans hNw.size hqr
        have hNr : New Bo wr W5 := (New.refl _).below BR
        have HK : Hid (Below wr.heap.size wr W5 ∧ FileAt Bo W5 q1 0 (listC p (nameB k) (headB tallyB run k) K) 105 p (nameB k) (headB tallyB run k) 0 0 (.slice none 0 0) [] ∧ FileAt Bo W5 (q1 + 1) 0 (partC p (nameB k) (headB partB run k)) 214 p (nameB k) (headB partB run k) 0 0 (.slice none 0 0) [] ∧ SenF wr a bb aF ∧ FailIs aF wr ∧ BinIs K M Bn rs k bl ∧ New Bo wr W5) := ⟨BR, F1, F2, hsr, failIs_new HH.out.2.2.2.2.1 hNw, HH.out.2.2.2.2.2 k bl hbl, hNr⟩
        have hG5 := hgr.below BR
        have HN5 : Hid (∀ W6, New Bo wr W6 → New Bo w W6) := fun W6 h => HB.out.2.2.2.1.fk (q := wr.heap.size) h HB.out.2.2.2.1.size
        have HGK : Hid (∀ W6, New Bo wr W6 → Gs W6 a bb) := fun W6 h => h.gs HB.out.2.2.2.2.1 (Nat.le_trans hNG HB.out.2.2.2.1.size)
        have hLT := hCT.1.live
        have c0 := (st_cell F1.blk _).trans F1.c0
        have c1 := (st_cell F1.blk _).trans F1.c1
        have hd5 := hDT.below BR
        have hhs := head_size partB run k (by decide) hs (by omega)
        have hpl : (partZ run k bl).length ≤ 1000000 := by unfold partZ; rw [List.length_append, len_size]; have := HZ.out.1; omega
        rw [show (w4.alloc (.cells #[.pointer (some ⟨p, 0, none⟩), .string (nameB k), .string (headB tallyB run k), .int .u64 0, .int .i64 0, .slice none 0 0, .int .i64 (K : Int), .slice none 0 0] 105)).alloc (.cells #[.pointer (some ⟨p, 0, none⟩), .string (nameB k), .string (headB partB run k), .int .u64 0, .int .i64 0, .slice none 0 0] 214) = W5 from hW5.symm, ← hq1]
        clear ct cp b3 b4 B4 B5 hW5 hq1 hsz4 hc
        by_cases hdead : T.life = 0
        · have cl := load_dead q1 p T (N + 9 * k) (nameB k) W5 hd5 hLT.ok (by omega) hLT.sound.sane hdead (HK.out.2.2.2.2.1.below BR) c0 c1
          have HDE : Hid (T.life = 0) := hdead
          clear hdead F1 F2 BR hG5 hDT hCT hNw hgr hsr hTA hbe hJr hbl hLT c0 c1 hd5 hNr hhs hpl
          go_wp2_with fail
          refine cl.mono ?_
          rintro e w6 ⟨v6, rfl, hv6, b6⟩
          have hN6 : New Bo wr w6 := HK.out.2.2.2.2.2.2.below b6
          have ci := isGone_failed a bb aF v6 w6 (HGK.out _ hN6) (senF_new HK.out.2.2.2.1 hN6) hv6
          obtain ⟨eb, s, ax, hve, hvb⟩ := hv6
          subst hve
          have HE : Hid (w6.heap[eb]? = some (.cells #[.int .i64 8, .string s, .iface 254 (.pointer (some ax.1))] 89 (0, 0)) ∧ New Bo wr w6 ∧ Disk Bo w6 p T) := ⟨hvb, hN6, (HB.out.2.1.below HK.out.1).below b6⟩
          clear hvb hN6 b6 cl
          go_wp2_with fail
          refine ci.mono ?_
          rintro e w7 ⟨rfl, hw7⟩
          have hw7' := hw7.symm
          subst hw7'
          clear hw7
          go_wp2
          go_ret2
          exact ⟨.inr ⟨_, T, rfl, ⟨eb, s, ax, rfl, HE.out.1⟩, HE.out.2.2, HB.out.2.2.1.1.mono (by omega), HDE.out⟩, HN5.out _ HE.out.2.1⟩
        · have hF := alive hdead
          have hok := hLT.ok
          cases hlk : T.look (nameB k) with
          | none => exact absurd hlk (hCT.2 k bl hlt hbl hbe)
          | some f =>
            rcases allow_bin HK.out.2.2.2.2.2.1 (live_look hLT hlk (draft_name k)) with rfl | ⟨es, rfl, htl⟩
            · have cl := load_other_l q1 _ 105 p (nameB k) (headB tallyB run k) 0 0 (.slice none 0 0) [] T (N + 9 * k) a bb _ W5 F1 hG5 hd5 hok (by omega) hF hlk (part_not_tally run k bl) (part_ends run k bl) hpl (by omega)
              have HLK : Hid (T.look (nameB k) = some (wholeF (partZ run k bl)) ∧ T.dead = false) := ⟨hlk, hF⟩
              clear hdead F1 F2 BR hG5 hDT hCT hNw hgr hsr hTA hbe hJr hbl hLT c0 c1 hd5 hNr hhs hpl hF hok hlk
              go_wp2_with fail
              refine cl.mono ?_
              rintro e w6 ⟨v6, s6, r6, rfl, hG6, F6, k6⟩
              have hN6 : New Bo wr w6 := HK.out.2.2.2.2.2.2.wk k6 hqr
              have hg6 := HGK.out _ hN6
              have ci6 := isGone_broken a bb v6 w6 hg6 (senF_new HK.out.2.2.2.1 hN6).sen hG6
              have P6 := FileAt.fk HK.out.2.2.1 (FK.ofWK k6) (by omega)
              have d6 : Disk Bo w6 p T := k6.disk (HB.out.2.1.below HK.out.1) HK.out.2.1.notDisk
              have J6 := hN6.job HB.out.2.2.2.2.2.2.2.2
              have hjr : j < wr.heap.size := Nat.lt_of_lt_of_le hjl HB.out.2.2.2.1.size
              have cst := saveTally_m (Allow K M Bn text run rs) j p K M Bn text run q1 (q1 + 1) k _ _ s6 r6 0 0 bl T (N + 9 * k) a bb w6 J6 hg6 d6 HB.out.2.2.1.1.live HLK.out.2 (by omega) (failIs_new HK.out.2.2.2.2.1 hN6) (fun es hes => .inr (.inl ⟨k, bl, by omega, rfl, HK.out.2.2.2.2.2.1, .inr ⟨es, rfl, hes⟩⟩)) F6 ⟨.slice none 0 0, by rw [fset_ne _ _ _ _ _ _ (by omega)]; rfl⟩ P6 HLK.out.1 HZ.out.2.2.2 HZ.out.1 HZ.out.2.1 HZ.out.2.2.1 hK1 hK (by omega) hs (by omega) (by omega) (by omega) (by omega)
              have HN6 : Hid (New Bo wr w6) := hN6
              clear hG6 F6 k6 hN6 hg6 P6 d6 J6 cl
              go_wp2_with fail
              refine ci6.mono ?_
              rintro e w7 ⟨rfl, hw7⟩
              have hw7' := hw7.symm
              subst hw7'
              clear hw7
              go_wp2_with fail
              refine cst.mono ?_
              rintro e w8 (⟨S', ev, es, rfl, hc8, own8, ht8, d8, v8, n8⟩ | ⟨v, S', rfl, hv, d8, c8, n8⟩)
              · obtain ⟨aE, cE, hve⟩ := own_slice own8
                subst hve
                have N8 : New Bo wr w8 := n8 wr HN6.out hqr (by omega)
                have T8 := HB.out.2.2.2.2.2.2.1.new N8
                have hwz : w.heap.size ≤ w8.heap.size := Nat.le_trans HB.out.2.2.2.1.size N8.size
                have HY : Hid (TalliesAt w8 w.heap.size (.slice aT us.length cT) us Ts (fulls B k) K B ∧ w8.ownsRow 0 58 2 (.slice aE es.length cE) es.length (ecells es) ∧ TallyOf (allW K bl) (es.map cv) ∧ Disk Bo w8 p S' ∧ (Flow (Allow K M Bn text run rs) S S' (N + 9 * (k + 1)) ∧ ∀ (i : Nat) (bl : List ByteArray), i < vs.length → B[i]? = some bl → bl ≠ [] → S'.look (nameB i) ≠ none) ∧ New Bo w w8) := by
                  refine ⟨T8, own_lower own8 (Nat.zero_le _), ht8, d8, ⟨HB.out.2.2.1.1.saved v8 (.inl ⟨k, rfl⟩), fun i b hi hb hne => ?_⟩, HN5.out _ N8⟩
                  by_cases hik : i = k
                  · subst hik
                    rw [v8.look]; exact fun e => by cases e
                  · rw [v8.stay (nameB i) (fun h9 => by
                      rcases h9 with e | e
                      · exact draft_name i e
                      · exact hik (nameB_inj e))]
                    exact HB.out.2.2.1.2 i b hi hb hne
                clear own8 ht8 d8 v8 n8 N8 T8 cst ci6
                have hul2 : us.length ≤ 16 := by omega
                go_wp2_with (at_builtin; go_must (refine wpList_append_own _ rfl (.tmp 36) (.tmp 39) 176 rfl w.heap.size 30 j0 (.slice none 0 0) 1 24 Tryz.underlying176 hj0 hy0 hy1 hy2 rfl (by decide) (.slice aT us.length cT) us.length us rfl (HY.out.1.row.alloc _) _ 1 1 [.slice aE es.length cE] rfl rfl (pieces.cell_one _ _ _) (fun u hu => by simp at hu; subst hu; rfl) (by unfold maxLen; omega) (by omega) (by simp; omega) ?_; intro tv9 w9 own9 g9 _; have HT9 : Hid (TalliesAt w9 w.heap.size tv9 (us ++ [.slice aE es.length cE]) (Ts ++ [es]) (fulls B k ++ [k]) K B) := HY.out.1.push HY.out.2.1 HB.out.1 HY.out.2.2.1 own9 g9; have HD9 : Hid (Disk Bo w9 p S' ∧ New Bo w w9) := ⟨HY.out.2.2.2.1.keep (fun q hq => below_disk hq g9 HY.out.1.row), HY.out.2.2.2.2.2.push HY.out.1.row g9⟩; clear own9 g9))
                have HF : Hid (∃ T us' Ts, Disk Bo w9 p T ∧ (Flow (Allow K M Bn text run rs) S T (N + 9 * (k + 1)) ∧ ∀ (i : Nat) (bl : List ByteArray), i < vs.length → B[i]? = some bl → bl ≠ [] → T.look (nameB i) ≠ none) ∧ New Bo w w9 ∧ us'.length ≤ k + 1 ∧ TalliesAt w9 w.heap.size tv9 us' Ts (fulls B (k + 1)) K B) := by
                  refine ⟨S', us ++ [.slice aE es.length cE], Ts ++ [es], HD9.out.1, HY.out.2.2.2.2.1, HD9.out.2, ?_, ?_⟩
                  · show (us ++ [Value.slice aE es.length cE]).length ≤ k + 1
                    rw [List.length_append]; simp; omega
                  · rw [fulls_succ, full_yes HB.out.1 HB.out.2.2.2.2.2.2.2.1]
                    simpa using HT9.out
                go_roundw
                case rel => exact ⟨k + 1, by go_num, by omega, HF⟩
                case measure => simp [intOf]; omega
              · obtain ⟨eb, s, ax, hve, hvb⟩ := hv
                subst hve
                have HE : Hid (w8.heap[eb]? = some (.cells #[.int .i64 8, .string s, .iface 254 (.pointer (some ax.1))] 89 (0, 0)) ∧ Disk Bo w8 p S' ∧ (Flow (Allow K M Bn text run rs) S S' (N + 9 * k + 9) ∧ S'.life = 0) ∧ New Bo w w8) := ⟨hvb, d8, HB.out.2.2.1.1.cut c8 (.inl ⟨k, rfl⟩), HN5.out _ (n8 wr HN6.out hqr (by omega))⟩
                clear hvb d8 c8 n8 cst ci6
                go_wp2
                go_ret2
                exact ⟨.inr ⟨_, S', rfl, ⟨eb, s, ax, rfl, HE.out.1⟩, HE.out.2.1, HE.out.2.2.1.1.mono (by omega), HE.out.2.2.1.2⟩, HE.out.2.2.2⟩
            · have htf := tally_facts htl HZ.out.2.2.2 HZ.out.2.2.1 hK
              have hhs2 := head_size tallyB run k (by decide) hs (by omega)
              have cl := load_ok_l q1 _ p (nameB k) (headB tallyB run k) 0 0 T (N + 9 * k) a bb K es W5 F1 hG5 hd5 hok (by omega) hF hlk (ends_head _ _ _) (by rw [List.length_append, len_size]; omega) (by omega) rfl ⟨_, rfl⟩ htf.1 hK1 (by omega) (by omega)
              have HTL : Hid (TallyOf (allW K bl) (es.map cv)) := htl
              have hel : es.length ≤ 1440 := htf.2.1
              clear hdead F1 F2 BR hG5 hDT hCT hNw hgr hsr hTA hbe hJr hbl hLT c0 c1 hd5 hNr hhs hpl hF hok hlk htf htl hhs2
              go_wp2_with fail
              refine cl.mono ?_
              rintro e w8 ⟨ev, s6, r6, rfl, F6, own6, k6⟩
              obtain ⟨aE, cE, hve⟩ := own_slice own6
              subst hve
              have hN6 : New Bo wr w8 := HK.out.2.2.2.2.2.2.wk k6 hqr
              have ci6 := isGone_nil a bb w8 (HGK.out _ hN6)
              have hc8 : w8.cell? ⟨q1, 7, none⟩ = some (.slice aE es.length cE) := (st_cell F6.blk _).trans (by rw [Array.getElem?_setIfInBounds_self_of_lt (by simp [fset, listC])])
              have HY : Hid (TalliesAt w8 w.heap.size (.slice aT us.length cT) us Ts (fulls B k) K B ∧ w8.ownsRow 0 58 2 (.slice aE es.length cE) es.length (ecells es) ∧ TallyOf (allW K bl) (es.map cv) ∧ Disk Bo w8 p T ∧ (Flow (Allow K M Bn text run rs) S T (N + 9 * (k + 1)) ∧ ∀ (i : Nat) (bl : List ByteArray), i < vs.length → B[i]? = some bl → bl ≠ [] → T.look (nameB i) ≠ none) ∧ New Bo w w8) :=
                ⟨HB.out.2.2.2.2.2.2.1.new hN6, own_lower own6 (Nat.zero_le _), HTL.out, k6.disk (HB.out.2.1.below HK.out.1) HK.out.2.1.notDisk, ⟨HB.out.2.2.1.1.mono (by omega), HB.out.2.2.1.2⟩, HN5.out _ hN6⟩
              have hwz : w.heap.size ≤ w8.heap.size := Nat.le_trans HB.out.2.2.2.1.size hN6.size
              clear F6 own6 k6 hN6 cl
              go_wp2_with fail
              refine ci6.mono ?_
              rintro e w7 ⟨rfl, hw7⟩
              have hw7' := hw7.symm
              subst hw7'
              clear hw7
              have hul2 : us.length ≤ 16 := by omega
              go_wp2_with (at_builtin; go_must (refine wpList_append_own _ rfl (.tmp 36) (.tmp 39) 176 rfl w.heap.size 30 j0 (.slice none 0 0) 1 24 Tryz.underlying176 hj0 hy0 hy1 hy2 rfl (by decide) (.slice aT us.length cT) us.length us rfl (HY.out.1.row.alloc _) _ 1 1 [.slice aE es.length cE] rfl rfl (pieces.cell_one _ _ _) (fun u hu => by simp at hu; subst hu; rfl) (by unfold maxLen; omega) (by omega) (by simp; omega) ?_; intro tv9 w9 own9 g9 _; have HT9 : Hid (TalliesAt w9 w.heap.size tv9 (us ++ [.slice aE es.length cE]) (Ts ++ [es]) (fulls B k ++ [k]) K B) := HY.out.1.push HY.out.2.1 HB.out.1 HY.out.2.2.1 own9 g9; have HD9 : Hid (Disk Bo w9 p T ∧ New Bo w w9) := ⟨HY.out.2.2.2.1.keep (fun q hq => below_disk hq g9 HY.out.1.row), HY.out.2.2.2.2.2.push HY.out.1.row g9⟩; clear own9 g9))
              have HF : Hid (∃ T us' Ts, Disk Bo w9 p T ∧ (Flow (Allow K M Bn text run rs) S T (N + 9 * (k + 1)) ∧ ∀ (i : Nat) (bl : List ByteArray), i < vs.length → B[i]? = some bl → bl ≠ [] → T.look (nameB i) ≠ none) ∧ New Bo w w9 ∧ us'.length ≤ k + 1 ∧ TalliesAt w9 w.heap.size tv9 us' Ts (fulls B (k + 1)) K B) := by
                refine ⟨T, us ++ [.slice aE es.length cE], Ts ++ [es], HD9.out.1, HY.out.2.2.2.2.1, HD9.out.2, ?_, ?_⟩
                · show (us ++ [Value.slice aE es.length cE]).length ≤ k + 1
                  rw [List.length_append]; simp; omega
                · rw [fulls_succ, full_yes HB.out.1 HB.out.2.2.2.2.2.2.2.1]
                  simpa using HT9.out
              go_roundw
              case rel => exact ⟨k + 1, by go_num, by omega, HF⟩
              case measure => simp [intOf]; omega
    · have hke : k = vs.length := by omega
      subst hke
      have HP : Hid (Disk Bo wr p T ∧ (Flow (Allow K M Bn text run rs) S T (N + 9 * vs.length) ∧ ∀ (i : Nat) (bl : List ByteArray), i < vs.length → B[i]? = some bl → bl ≠ [] → T.look (nameB i) ≠ none) ∧ TalliesAt wr w.heap.size (.slice aT us.length cT) us Ts (fulls B vs.length) K B ∧ New Bo w wr) := ⟨hDT, hCT, hTA, hNw⟩
      clear hDT hCT hNw hTA hT
      go_wp2
      go_ret2
      exact ⟨.inl ⟨T, _, us, Ts, rfl, HP.out.1, HP.out.2.1.1, HP.out.2.2.1, by omega⟩, HP.out.2.2.2⟩
end Go.Proofs.YtbjgpfhbdmcbbabGreatDoor.jobs

/-
  CONTRACTS of package quern on a disk that may die: count.
-/
namespace Go.Proofs.YtbjgpfhbdmcbbabGreatDoor.jobs
open Go.RowKit dnamath dna diskm disk keep hex pieces files parse words kinds
set_option linter.unusedVariables false

set_option maxHeartbeats 4000000 in
set_option maxRecDepth 100000 in
theorem count_m {aF : Addr} {Bo : Nat} (j p K M Bn : Nat) (text run : ByteArray) (rv : Value) (rs : List ByteArray) (c : Nat) (csC : Array Value) (sC rC : Nat) (S : DS) (N : Nat) (a bb : Addr) (w : World) (hJ : JobAt Bo w j p K M Bn text run) (hg : Gs w a bb) (hse : SenF w a bb aF) (hfa : FailIs aF w) (hD : Disk Bo w p S) (hL : Live (Allow K M Bn text run (datas rs)) draftB S N) (hN : N ≤ 8400)
    (hr : w.ownsRow 0 9 1 rv rs.length (scells rs)) (FC : FileAt Bo w c 0 csC 105 p countsB (headB countsB run K) sC rC (.slice none 0 0) []) (h7 : ∃ v7, csC[7]? = some v7)
    (hmay : ∀ r ∈ rs, May r K M ∧ r.size ≤ 100000) (hrl : rs.length ≤ 1000) (hw : (wordsOf K (datas rs)).length ≤ 1440) (hK1 : 1 ≤ K) (hK : K ≤ 31) (hM1 : 1 ≤ M) (hM : M ≤ K) (hB1 : 1 ≤ Bn) (hB : Bn ≤ 16) (hrs : run.size ≤ 17) (hNG : 27 ≤ w.heap.size) (hcN : 27 ≤ c) :
    Calls Tryz.prog 60 #[.pointer (some ⟨j, 0, none⟩), rv, .pointer (some ⟨c, 0, none⟩)] w fun e w' => ((∃ S' es, e = .returned .nilIface ∧ Disk Bo w' p S' ∧ Flow (Allow K M Bn text run (datas rs)) S S' (N + 18 * Bn + 9) ∧ S'.look countsB = some (wholeF (countsZ run K es)) ∧ S'.safe = S'.now ∧ S'.steps = []) ∨ (∃ v S', e = .returned v ∧ DiskErr aF w' v ∧ Disk Bo w' p S' ∧ Flow (Allow K M Bn text run (datas rs)) S S' (N + 18 * Bn + 9) ∧ S'.life = 0)) ∧ ∀ u, New Bo u w → u.heap.size ≤ c → New Bo u w' := by
  obtain ⟨v7, h7⟩ := h7
  obtain ⟨z0, z1, z2, z3, _, _⟩ := hJ.cells
  have cd := deal_any rv rs K M Bn w hr hB1 (by omega) hmay (by omega) (by have := pieces_few (rs := datas rs) (K := K) (M := M) hK1; omega)
  have hcl := lt_of_block FC.blk
  have HH : Hid (JobAt Bo w j p K M Bn text run ∧ Gs w a bb ∧ SenF w a bb aF ∧ Disk Bo w p S ∧ Live (Allow K M Bn text run (datas rs)) draftB S N ∧ FileAt Bo w c 0 csC 105 p countsB (headB countsB run K) sC rC (.slice none 0 0) [] ∧ FailIs aF w) := ⟨hJ, hg, hse, hD, hL, FC, hfa⟩
  have H7 : Hid (csC[7]? = some v7) := h7
  have HW : Hid ((wordsOf K (datas rs)).length ≤ 1440) := hw
  have HM : Hid (∀ r ∈ rs, May r K M ∧ r.size ≤ 100000) := hmay
  clear hJ hg hse hD hL hfa FC h7 hr hw hmay
  go_enter Tryz.func60, Tryz.ntmps60
  go_wp2_with fail
  refine cd.mono ?_
  rintro e w1 ⟨bv, vs, B, rfl, hR1, hvl, hdl, b1⟩
  have hN1 : New Bo w w1 := (New.refl w).below b1
  have hbs : ∀ (i : Nat) (bl : List ByteArray), B[i]? = some bl → _ := bins_small hdl hK1 hK hM HW.out
  have csp := saveParts_m j p K M Bn text run (datas rs) bv vs B w.heap.size S N a bb w1 (HH.out.1.below b1) (HH.out.2.1.below b1) (senF_new HH.out.2.2.1 hN1) (failIs_new HH.out.2.2.2.2.2.2 hN1) (HH.out.2.2.2.1.below b1) HH.out.2.2.2.2.1 (by omega) hR1 (by omega) hrs (Nat.le_trans hNG b1.size) (fun i bl h => hdl i bl h) hbs hK1 hK
  have HD : Hid (RowsAt w1 w.heap.size bv vs B ∧ vs.length = Bn ∧ Dealt Bn K M B ((datas rs).flatMap (fun l => piecesL l K M)) ∧ Below w.heap.size w w1) := ⟨hR1, hvl, hdl, b1⟩
  have HBS : Hid (∀ (i : Nat) (bl : List ByteArray), B[i]? = some bl → (unlines (datas bl)).length ≤ 50000 ∧ bl.length ≤ 50000 ∧ (allW K bl).length ≤ 1440 ∧ ∀ x ∈ bl, x.data.toList.all isB = true ∧ x.size ≤ 2000) := hbs
  obtain ⟨ab, cb, hbv⟩ := own_slice hR1.row
  subst hbv
  have HBl : Hid (B.length = Bn) := by show _ = _; rw [hR1.len, hvl]
  clear cd hR1 hdl hbs hN1 b1 hvl
  go_wp2_with fail
  go_at_call 87
  go_must (refine csp.mono ?_)
  rintro e w2 ⟨hr2, n2⟩
  have hvb := HD.out.2.1
  have hN2 : New Bo w w2 := ((New.refl w).below HD.out.2.2.2).fk n2 HD.out.2.2.2.size
  rw [hvb] at hr2
  rcases hr2 with ⟨rfl, S1, d2, p2, q2⟩ | ⟨v, S1, rfl, hv, d2, p2, l2⟩
  case' inr =>
    obtain ⟨eb, s, ax, hve, hvb2⟩ := hv
    subst hve
    have HE : Hid (w2.heap[eb]? = some (.cells #[.int .i64 8, .string s, .iface 254 (.pointer (some ax.1))] 89 (0, 0)) ∧ Disk Bo w2 p S1 ∧ Flow (Allow K M Bn text run (datas rs)) S S1 (N + 9 * Bn) ∧ S1.life = 0 ∧ New Bo w w2) := ⟨hvb2, d2, p2, l2, hN2⟩
    clear csp d2 p2 l2 n2 hN2 hvb hvb2
    go_wp2
    go_ret
    exact ⟨.inr ⟨_, S1, rfl, ⟨eb, s, ax, rfl, HE.out.1⟩, HE.out.2.1, HE.out.2.2.1.mono (by omega), HE.out.2.2.2.1⟩, fun u hu hc => hu.fk (q := w.heap.size) HE.out.2.2.2.2 hu.size⟩
  have cst := saveTallies_m j p K M Bn text run (datas rs) (.slice ab vs.length cb) vs B w.heap.size S1 (N + 9 * Bn) a bb w2 (hN2.job HH.out.1) (hN2.gs HH.out.2.1 hNG) (senF_new HH.out.2.2.1 hN2) (failIs_new HH.out.2.2.2.2.2.2 hN2) d2 p2.live (by omega) (n2.rows HD.out.1) (by omega) hrs (Nat.le_trans hNG hN2.size) (fun i bl h => HD.out.2.2.1 i bl h) (fun i bl h1 h2 h3 => q2 i bl (by omega) h2 h3) HBS.out hK1 hK
  rw [hvb] at cst
  have H2 : Hid (Flow (Allow K M Bn text run (datas rs)) S S1 (N + 9 * Bn) ∧ New Bo w w2) := ⟨p2, hN2⟩
  clear csp d2 p2 q2 n2 hN2 hvb
  rw [HD.out.2.1]
  go_wp2_with fail
  refine cst.mono ?_
  rintro e w3 ⟨⟨S2, tv, us, Ts, rfl, d3, c3, t3, hul⟩ | ⟨v, S2, rfl, hv, d3, c3, l3⟩, n3⟩
  case' inr =>
    obtain ⟨eb, s, ax, hve, hvb2⟩ := hv
    subst hve
    have HE : Hid (w3.heap[eb]? = some (.cells #[.int .i64 8, .string s, .iface 254 (.pointer (some ax.1))] 89 (0, 0)) ∧ Disk Bo w3 p S2 ∧ Flow (Allow K M Bn text run (datas rs)) S1 S2 (N + 9 * Bn + 9 * Bn) ∧ S2.life = 0 ∧ New Bo w w3) := ⟨hvb2, d3, c3, l3, H2.out.2.fk n3 H2.out.2.size⟩
    clear cst d3 c3 l3 n3 hvb2
    go_wp2
    go_ret
    exact ⟨.inr ⟨_, S2, rfl, ⟨eb, s, ax, rfl, HE.out.1⟩, HE.out.2.1, (H2.out.1.trans HE.out.2.2.1).mono (by omega), HE.out.2.2.2.1⟩, fun u hu hc => hu.fk (q := w.heap.size) HE.out.2.2.2.2 hu.size⟩
  obtain ⟨aT, cT, htv⟩ := own_slice t3.row
  subst htv
  obtain ⟨j1, j2, j3⟩ := tallies_join HD.out.2.2.1 hK1 hM hB1 HBl.out (by rw [t3.len, ← t3.blen]) t3.tally
  have hlen : ((Ts.map (List.map cv)).flatten).length ≤ 100000 := by
    have hsub := nodup_len _ (wordsOf K (datas rs)) j2 (fun x hx => by
      obtain ⟨e, he, rfl⟩ := List.mem_map.1 hx
      obtain ⟨L, hL, heL⟩ := List.mem_flatten.1 he
      obtain ⟨T, hT, rfl⟩ := List.mem_map.1 hL
      obtain ⟨i, hi⟩ := List.getElem?_of_mem hT
      have hil := (List.getElem?_eq_some_iff.1 hi).1
      obtain ⟨b, hb'⟩ : ∃ b, (fulls B Bn)[i]? = some b := ⟨_, List.getElem?_eq_getElem (by rw [t3.blen, ← t3.len]; exact hil)⟩
      obtain ⟨bl, hbl, htl⟩ := t3.tally i b T hb' hi
      have := (tally_key htl e.1).1 (List.mem_map.2 ⟨e, heL, rfl⟩)
      rw [binned HD.out.2.2.1 hK1 hM hbl, List.mem_filter] at this
      exact this.1)
    rw [List.length_map] at hsub
    have := HW.out
    omega
  have cm := merge_any (.slice aT us.length cT) us Ts w3 (own_lower t3.row (Nat.zero_le _)) t3.len t3.each j1 j2 (by omega) hlen
  have hN3 : New Bo w w3 := H2.out.2.fk n3 H2.out.2.size
  have H3 : Hid (Disk Bo w3 p S2 ∧ Flow (Allow K M Bn text run (datas rs)) S1 S2 (N + 9 * Bn + 9 * Bn) ∧ New Bo w w3 ∧ ∀ es : Ents, (es.map Prod.fst).Pairwise (· < ·) → es.Perm (Ts.map (List.map cv)).flatten → TallyOf (wordsOf K (datas rs)) es) := ⟨d3, c3, hN3, j3⟩
  clear cst d3 c3 t3 n3 j1 j2 j3 hlen hN3
  go_wp2_with fail
  refine cm.mono ?_
  rintro e w4 ⟨v, es, rfl, own4, hs4, hp4, b4⟩
  obtain ⟨aE, cE, hve⟩ := own_slice own4
  subst hve
  have htl := H3.out.2.2.2 _ hs4 hp4
  have hN4 : New Bo w w4 := H3.out.2.2.1.below b4
  have F4 := FileAt.fk HH.out.2.2.2.2.2.1 hN4 (Nat.ne_of_lt hcl)
  have c7 : w4.cell? ⟨c, 7, none⟩ = some v7 := (st_cell F4.blk _).trans H7.out
  have f7 := st_frozen F4.blk 7
  have hl7 : 7 < csC.size := by
    rcases Nat.lt_or_ge 7 csC.size with h | h
    · exact h
    · have := H7.out; rw [Array.getElem?_eq_none h] at this; cases this
  obtain ⟨cs5, hcs5⟩ : ∃ cs5, cs5 = csC.setIfInBounds 7 (.slice aE es.length cE) := ⟨_, rfl⟩
  obtain ⟨W5, hW5⟩ : ∃ W5, W5 = w4.setCell ⟨c, 7, none⟩ (.slice aE es.length cE) := ⟨_, rfl⟩
  have F5 : FileAt Bo W5 c 0 cs5 105 p countsB (headB countsB run K) sC rC (.slice none 0 0) [] := by
    refine ⟨by rw [hW5, hcs5]; exact heap_setCell_same w4 c 7 _ _ _ F4.blk, F4.ty, ?_, ?_, ?_, ?_, ?_, ?_, World.ownsRow_nil _ _ _ _, Nat.le_trans F4.big (by rw [hW5]; simp [World.setCell])⟩
    · rw [hcs5, Array.getElem?_setIfInBounds_ne (by omega)]; exact F4.c0
    · rw [hcs5, Array.getElem?_setIfInBounds_ne (by omega)]; exact F4.c1
    · rw [hcs5, Array.getElem?_setIfInBounds_ne (by omega)]; exact F4.c2
    · rw [hcs5, Array.getElem?_setIfInBounds_ne (by omega)]; exact F4.c3
    · rw [hcs5, Array.getElem?_setIfInBounds_ne (by omega)]; exact F4.c4
    · rw [hcs5, Array.getElem?_setIfInBounds_ne (by omega)]; exact F4.c5
  have g7 : cs5[0 + 7]? = some (.slice aE es.length cE) := by rw [hcs5]; exact Array.getElem?_setIfInBounds_self_of_lt hl7
  have K5 : WK Bo c w4 W5 := by rw [hW5]; exact WK.set _
  have own5 : W5.ownsRow 0 58 2 (.slice aE es.length cE) es.length (ecells es) := by rw [hW5]; exact own_lower (row_keepB own4 (TK.set F4.blk (by decide))) (Nat.zero_le _)
  have D5 : Disk Bo W5 p S2 := K5.disk (H3.out.1.below b4) F4.notDisk
  have G5 : Gs W5 a bb := K5.gs (hN4.gs HH.out.2.1 hNG) hcN
  have hsm := tally_small htl (words_words _) HW.out
  have htx := text_small hsm.each (by omega)
  have hel := hsm.len
  have hmul : es.length * (K + 10) ≤ 1440 * 41 := Nat.mul_le_mul hel (by omega)
  have hhs := head_size countsB run K (by decide) hrs (by omega)
  have hfa5 : FailIs aF W5 := failIs_fk (failIs_new HH.out.2.2.2.2.2.2 hN4) (FK.ofWK K5) hcN
  have cls := listSave_m (Allow K M Bn text run (datas rs)) c 0 cs5 105 p countsB (headB countsB run K) sC rC (.slice none 0 0) [] S2 (N + 9 * Bn + 9 * Bn) a bb (.slice aE es.length cE) es W5 F5 (by decide) G5 hcN D5 H3.out.2.1.live (by omega) hfa5 (.inr (.inr ⟨rfl, es, rfl, htl⟩)) g7 own5 (by omega) (by decide) counts_draft (by omega) (fun x hx => by have := (hsm.each x hx).2.2.2; omega)
  have hcz : (countsZ run K es).length ≤ 60000 := by unfold countsZ; rw [List.length_append, len_size]; omega
  have H5 : Hid (∀ u, New Bo u w → u.heap.size ≤ c → New Bo u W5) := fun u hu hc => by
    have h1 : New Bo u w4 := hu.fk (q := w.heap.size) hN4 hu.size
    exact h1.wk K5 hc
  clear cm own4 hs4 hp4 b4 hN4 F4 F5 g7 K5 own5 D5 G5 hsm htx hel hmul hhs hfa5 hcs5 hl7 htl
  go_upto_region 9 with fail
  rw [← hW5]
  clear hW5 c7 f7
  go_wp2_with fail
  refine cls.mono ?_
  rintro e w6 (⟨S', s', r', rfl, h6, d6, v6, k6⟩ | ⟨v, S', rfl, hv, d6, c6, k6⟩)
  · have HF : Hid (Disk Bo w6 p S' ∧ Flow (Allow K M Bn text run (datas rs)) S S' (N + 9 * Bn + 9 * Bn + 9) ∧ (S'.look countsB = some (wholeF (countsZ run K es)) ∧ S'.safe = S'.now ∧ S'.steps = []) ∧ FK Bo c W5 w6) :=
      ⟨d6, (H2.out.1.trans H3.out.2.1).saved v6 (.inr rfl), ⟨v6.look, v6.safe, v6.steps⟩, k6⟩
    clear h6 d6 v6 k6 cls
    go_wp2
    go_ret
    exact ⟨.inl ⟨S', es, rfl, HF.out.1, HF.out.2.1.mono (by omega), HF.out.2.2.1.1, HF.out.2.2.1.2.1, HF.out.2.2.1.2.2⟩, fun u hu hc => (H5.out u hu hc).fk HF.out.2.2.2 hc⟩
  · obtain ⟨eb, s, ax, hve, hvb2⟩ := hv
    subst hve
    have HE : Hid (w6.heap[eb]? = some (.cells #[.int .i64 8, .string s, .iface 254 (.pointer (some ax.1))] 89 (0, 0)) ∧ Disk Bo w6 p S' ∧ (Flow (Allow K M Bn text run (datas rs)) S S' (N + 9 * Bn + 9 * Bn + 9) ∧ S'.life = 0) ∧ FK Bo c W5 w6) := ⟨hvb2, d6, (H2.out.1.trans H3.out.2.1).cut c6 (.inr rfl), k6⟩
    clear hvb2 d6 c6 k6 cls
    go_wp2
    go_ret
    exact ⟨.inr ⟨_, S', rfl, ⟨eb, s, ax, rfl, HE.out.1⟩, HE.out.2.1, HE.out.2.2.1.1.mono (by omega), HE.out.2.2.1.2⟩, fun u hu hc => (H5.out u hu hc).fk HE.out.2.2.2 hc⟩
end Go.Proofs.YtbjgpfhbdmcbbabGreatDoor.jobs
