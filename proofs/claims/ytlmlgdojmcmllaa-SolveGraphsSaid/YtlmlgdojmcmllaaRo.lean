/- The sets along the arrows, by the reference. -/
import Derived.Test.YtlmlgdojmcmllaaRn
namespace Go.Proofs.Ytlmlgdojmcmllaa
set_option linter.unusedSimpArgs false
set_option linter.unusedVariables false
open Go.RowKit
open Solve

set_option maxHeartbeats 80000000 in
set_option maxRecDepth 100000 in
theorem fwdR_any {ok ok' oka okm okm' oke oke' : Nat → Prop} (v vst vm ve : Value) (g : Graph) (entry : Int) (st : List Int) (m en : Graph) (w : World) (hg : Sm g) (hst : st.length ≤ 20) (hsm : Sm m) (h : Rows2 ok ok' w v g) (hs : Ints oka w vst st) (hu : Rows2 okm okm' w vm m) (he : Rows2 oke oke' w ve en) :
    Calls Try.prog 21 #[v, .int .i64 entry, vst, vm, ve] w (MatPost g.length (FwdQ g entry st m en) w) := by
  have HR := Lib.hid (rows_low h)
  have HU := Lib.hid (rows_low hu)
  have HE := Lib.hid (rows_low he)
  have hs' : Ints (· < w.heap.size) w vst st := hs.imp (fun _ hc _ => hc)
  obtain ⟨p, cap, rfl, ⟨hc, hm⟩, _⟩ := h.form
  obtain ⟨qs, cs, rfl, ⟨hcs, hms⟩, _⟩ := hs'.form
  have HS := Lib.hid hs'
  unfold maxLen at hm hms
  have hl := hg.len
  have hfl := fwd_len hst hsm
  have HG := Lib.hid hg
  have HSM := Lib.hid hsm
  have hmk := run_rows g.length (by omega)
  have H0 : Hid (∀ w : World, Mat (w.alloc (.cells (List.replicate g.length (.slice none 0 0)).toArray 28)) w.heap.size 28 (List.replicate g.length (.slice none 0 0)) (List.replicate g.length [])) := Lib.hid (fun w => mat_start w g.length)
  have HF0 : Hid (Fresh w (w.alloc (.cells (List.replicate g.length (.slice none 0 0)).toArray 28))) := Lib.hid ((Fresh.refl w).alloc _ _)
  clear h hu hs hs' he hg hsm
  by_cases hin : 0 ≤ entry ∧ entry < (g.length : Int)
  · obtain ⟨e, rfl⟩ : ∃ e : Nat, entry = e := ⟨entry.toNat, by omega⟩
    have hel : e < g.length := by omega
    have hd0 : decide ((e : Int) < 0) = false := by simp
    have hd1 : decide (g.length ≤ e) = false := by simp; omega
    clear hin
    go_enter Try.func21, Try.ntmps21
    go_wp2_with (go_at_call 11; (with_reducible refine (reachR_any _ g _ _ HG.out (HR.out.fresh (by have := HF0.out; simpa using this))).mono ?_); rintro e1 w1 ⟨rfl, b, hb1, hb2, hb3⟩; have HMk : Hid (Mrk w1 (w.heap.size + 1) 4 b) := Lib.hid (by simpa using hb1); have HB := Lib.hid hb2; have HM0 : Hid (Mat w1 w.heap.size 28 (List.replicate g.length (.slice none 0 0)) (List.replicate g.length [])) := Lib.hid (Mat.fresh (by simpa using H0.out w) hb3); have HF1 : Hid (Fresh w w1) := Lib.hid (Fresh.trans (by have := HF0.out; simpa using this) hb3); clear hb1 hb2 hb3)
    clear hmk
    have HBEG := Lib.hid (fwd_begin (g := g) (st := st) (m := m) (en := en) hel)
    have HEL := Lib.hid (show e < (List.replicate g.length ([] : List Int)).length by simpa using hel)
    have hn0 : (row (List.replicate g.length []) e).length ≤ 0 := by rw [row_rep]; simp
    have hbl : b.length = g.length := HB.out.1
    have HBL := Lib.hid hbl
    have HPATH : Hid (∀ i, flag b i = true ↔ Path g e i) := Lib.hid (fun i => (HB.out.2 i).trans ⟨fun h => by simpa using h.2.2, fun h => ⟨by omega, by omega, by simpa using h⟩⟩)
    clear hbl HB
    go_loopg [41] st.length (fun k s41 wx => ∃ (vs : List Value) (j : Nat), s41 = .int .i64 j ∧ j ≤ st.length ∧ k = st.length - j ∧ Hid (Mat wx w.heap.size 28 vs (put (List.replicate g.length []) e (st.take j) [])) ∧ Hid (Fresh w wx) ∧ Hid (Mrk wx (w.heap.size + 1) 4 b))
    case atStart => exact ⟨_, 0, rfl, by omega, rfl, Lib.hid (by rw [List.take_zero, put_nil HEL.out]; exact HM0.out), HF1, HMk⟩
    case round =>
      clear HM0 HF1 HMk H0 HF0
      obtain ⟨vs, j, rfl, hj, rfl, HM, HF, HK2⟩ := hrel
      by_cases hjl : j < st.length
      · obtain ⟨B', off', rfl, hB', hcx⟩ := ints_cell (HS.out.fresh HF.out) hjl
        obtain ⟨x, hx⟩ : ∃ x, x = st[j] := ⟨_, rfl⟩
        rw [← hx] at hcx
        have HT := Lib.hid (take_oneI hjl)
        rw [← hx] at HT
        clear hx
        have HPI := Lib.hid (show e < (put (List.replicate g.length []) e (st.take j) []).length by rw [put_len]; exact HEL.out)
        obtain ⟨q2, c2, hc2, HI2, hlc2, hcm2⟩ := mat_cell HM.out HPI.out
        have HI3 := Lib.hid HI2
        have hz2 : (row (put (List.replicate g.length []) e (st.take j) []) e).length ≤ 1000 := by
          have := row_put_len HEL.out (st.take j) [] e
          have h2 : (st.take j).length ≤ j := List.length_take_le _ _
          omega
        have HN := Lib.hid (put_no HEL.out (xs := st.take j) (ex := []) (x := x) (by simp))
        rw [← HT.out] at HN
        unfold maxLen at hcm2
        clear HI2
        go_wp2_with (go_at_call 36; (with_reducible refine (add_sl _ (row (put (List.replicate g.length []) e (st.take j) []) e) x _ HI3.out (by omega)).mono ?_); rintro e1 w1 ⟨q9, n9, cc9, rfl, hy', h1⟩; have HY' := Lib.hid hy'; have E := Lib.hid h1; clear hy' h1; have c9 := E.out.sts (fun _ => True) _ _ _ trivial hc2; have f9 := (HM.out.fresh E.out).frozen e)
        have HM4 := Lib.hid (mat_add HM.out E.out HY'.out HPI.out)
        rw [← HN.out] at HM4
        have HF4 := Lib.hid ((HF.out.trans E.out).setCell (p := ⟨w.heap.size, e, none⟩) (Nat.le_refl _) (.slice q9 n9 cc9))
        have HK4 := Lib.hid ((HK2.out.fresh E.out).far (p := ⟨w.heap.size, e, none⟩) (show w.heap.size + 1 ≠ w.heap.size by omega) (.slice q9 n9 cc9))
        clear c9 f9
        go_roundg (st.length - (j + 1))
        case measure => go_light; omega
        case rel => go_light; exact ⟨_, j + 1, by go_num, by omega, rfl, HM4, HF4, HK4⟩
      · obtain ⟨ls00, hls00⟩ : ∃ ls00, ls00 = put (List.replicate g.length []) e st [] := ⟨_, rfl⟩
        have HM' : Hid (Mat wr w.heap.size 28 vs ls00) := Lib.hid (by
          have := HM.out
          rw [List.take_of_length_le (by omega)] at this
          rw [hls00]; exact this)
        have HD0 : Hid (Sound g.length (FwdP g e st m en) ls00) := Lib.hid (by rw [hls00]; exact HBEG.out.1)
        have HG0 : Hid (∀ x ∈ st, x ∈ row ls00 e) := Lib.hid (by rw [hls00]; exact HBEG.out.2)
        clear hls00 HM HBEG
        go_wp2
        go_loopg [15] (mea (g.length * (st ++ m.flatten).length) ls00 true) (fun k s15 wx => ∃ (ls : Graph) (vs : List Value) (mm : Bool), s15 = .bool mm ∧ Hid (k = mea (g.length * (st ++ m.flatten).length) ls mm) ∧ Hid (Mat wx w.heap.size 28 vs ls) ∧ Hid (Fresh w wx) ∧ Hid (Mrk wx (w.heap.size + 1) 4 b) ∧ Hid (Sound g.length (FwdP g e st m en) ls) ∧ Hid (∀ x ∈ st, x ∈ row ls e) ∧ Hid (mm = false → ∀ i, Path g e i → ∀ k ∈ fol g i, ClosedF m en ls i k))
        case atStart => exact ⟨ls00, vs, true, rfl, Lib.hid rfl, HM', HF, HK2, HD0, HG0, Lib.hid (fun h => by cases h)⟩
        case round =>
          clear HM' HF HK2 HD0 HG0
          obtain ⟨ls0, vs, mm, rfl, HK, HM, HF, HK2, HD, HG0, HC⟩ := hrel
          cases mm with
          | false =>
            have HX := Lib.hid (fwd_exact hel HD.out HG0.out (HC.out rfl))
            go_wp2
            go_ret
            exact ⟨rfl, vs, ls0, HM.out, HX.out, HF.out⟩
          | true =>
            go_wp2
            go_loopg [15, 16] g.length (fun k s15 s16 wx => ∃ (ls : Graph) (vs : List Value) (mm : Bool) (i : Nat), s15 = .bool mm ∧ s16 = .int .i64 i ∧ i ≤ g.length ∧ k = g.length - i ∧ Hid (Mat wx w.heap.size 28 vs ls) ∧ Hid (Fresh w wx) ∧ Hid (Mrk wx (w.heap.size + 1) 4 b) ∧ Hid (FB g e st m en ls0 ls mm i []))
            case atStart => exact ⟨ls0, vs, false, 0, rfl, rfl, by omega, rfl, HM, HF, HK2, Lib.hid (FB.start HD.out HG0.out)⟩
            case round =>
              clear HM HF HK2 HD HG0 HC
              obtain ⟨ls, vs, mm, i, rfl, rfl, hi, rfl, HM, HF, HK2, HFB⟩ := hrel
              by_cases hlt : i < g.length
              · have hfo := HG.out.fol i
                have hrow := HG.out.row i
                go_wp2_with ((go_at_call 30; (with_reducible refine (follows_any _ g i _ hlt (by omega) (HR.out.fresh HF.out)).mono ?_); rintro e1 w1 ⟨y0, rfl, hu, h1⟩; have HQ := Lib.hid (row_of_que (HM.out.lt) hu); have HM1 := Lib.hid (HM.out.fresh h1); have HF1 := Lib.hid (HF.out.trans h1); have HK1 := Lib.hid (HK2.out.fresh h1); clear hu h1; obtain ⟨q3, c3, hq3, ⟨hc3, hm3⟩, _⟩ := HQ.out.form; unfold maxLen at hm3; rw [ints_len] at hq3 hc3; subst hq3))
                go_loopg [15, 18] (fol g i).length (fun k s15 s18 wx => ∃ (ls : Graph) (vs : List Value) (mm : Bool) (j : Nat), s15 = .bool mm ∧ s18 = .int .i64 j ∧ j ≤ (fol g i).length ∧ k = (fol g i).length - j ∧ Hid (Mat wx w.heap.size 28 vs ls) ∧ Hid (Fresh w wx) ∧ Hid (Mrk wx (w.heap.size + 1) 4 b) ∧ Hid (Ints (· ≠ w.heap.size) wx (.slice q3 (fol g i).length c3) (ints (fol g i))) ∧ Hid (FB g e st m en ls0 ls mm i ((fol g i).take j)))
                case atStart => exact ⟨ls, vs, mm, 0, rfl, rfl, by omega, rfl, HM1, HF1, HK1, HQ, HFB⟩
                case round =>
                  clear HM HF HK2 HFB HM1 HF1 HK1 HQ
                  obtain ⟨ls, vs, mm, j, rfl, rfl, hj, rfl, HM, HF, HK2, HQ, HFB⟩ := hrel
                  have mb := HK2.out.cell (i := i) (by rw [HBL.out]; exact hlt)
                  by_cases hjl : j < (fol g i).length
                  · cases hbi : flag b i with
                    | false =>
                      rw [hbi] at mb
                      have HFN := Lib.hid (HFB.out.next (fun hp => by have := (HPATH.out i).2 hp; rw [hbi] at this; cases this))
                      clear hbi
                      go_wp2
                      go_roundg (g.length - (i + 1))
                      case measure => go_light; omega
                      case rel => go_light; exact ⟨ls, vs, mm, i + 1, rfl, by go_num, by omega, rfl, HM, HF, HK2, HFN⟩
                    | true =>
                      rw [hbi] at mb
                      have HP := Lib.hid ((HPATH.out i).1 hbi)
                      clear hbi
                      obtain ⟨B4, off4, rfl, hB4, hc4⟩ := nodes_cell HQ.out hjl
                      obtain ⟨y, hy⟩ : ∃ y, y = (fol g i)[j] := ⟨_, rfl⟩
                      rw [← hy] at hc4
                      have hym : y ∈ fol g i := by rw [hy]; exact List.getElem_mem hjl
                      have hyl : y < g.length := fol_lt hym
                      have HT := Lib.hid (take_one hjl)
                      rw [← hy] at HT
                      have HYM := Lib.hid hym
                      have HTY := Lib.hid hy.symm
                      clear hy hym
                      have HYL := Lib.hid (show y < ls.length by rw [HFB.out.good.len]; exact hyl)
                      have HIL := Lib.hid (show i < ls.length by rw [HFB.out.good.len]; exact hlt)
                      have hr0 := HFB.out.good.row_le _ fwd_univ y
                      have hr1 := HFB.out.good.row_le _ fwd_univ i
                      have hmi := HSM.out.row i
                      obtain ⟨q0, c0, hcell0, _, _, hcm0⟩ := mat_cell HM.out HYL.out
                      unfold maxLen at hcm0
                      go_wp2_with (go_at_call 39; (with_reducible refine (at_sl _ m i _ (HU.out.fresh HF.out)).mono ?_); rintro e1 w1 ⟨q1, c1, rfl, h1, hc1, rfl⟩; have HX := Lib.hid h1; unfold maxLen at hc1; clear h1)
                      obtain ⟨lsM, hlsM⟩ : ∃ lsM, lsM = put ls y (row m i) [] := ⟨_, rfl⟩
                      have HLM := Lib.hid hlsM
                      clear hlsM
                      go_loopg [89] (row m i).length (fun k s89 wx => ∃ (vs : List Value) (n : Nat), s89 = .int .i64 n ∧ n ≤ (row m i).length ∧ k = (row m i).length - n ∧ Hid (Mat wx w.heap.size 28 vs (put ls y ((row m i).take n) [])) ∧ Hid (Fresh w wx) ∧ Hid (Mrk wx (w.heap.size + 1) 4 b) ∧ Hid (Ints (· ≠ w.heap.size) wx (.slice (some ⟨B4, off4, none⟩) (fol g i).length c3) (ints (fol g i))))
                      case atStart => exact ⟨vs, 0, rfl, by omega, rfl, Lib.hid (by rw [List.take_zero, put_nil HYL.out]; exact HM.out), HF, HK2, HQ⟩
                      case round =>
                        have HF0 := HF
                        clear HM HF HK2 HQ hc4 mb hcell0
                        obtain ⟨vs, n, rfl, hn, rfl, HM, HF, HK2, HQ⟩ := hrel
                        obtain ⟨B4', off4', hq4, _, hc4⟩ := nodes_cell HQ.out hjl
                        injection hq4 with hq4
                        injection hq4 with e4 e5 _
                        subst e4 e5
                        rw [HTY.out] at hc4
                        by_cases hnl : n < (row m i).length
                        · have HXr := Lib.hid (HX.out.sts (two_sts HF0.out HF.out))
                          obtain ⟨B', off', rfl, hB', hcx⟩ := ints_cell HXr.out hnl
                          obtain ⟨x, hx⟩ : ∃ x, x = (row m i)[n] := ⟨_, rfl⟩
                          rw [← hx] at hcx
                          have HT2 := Lib.hid (take_oneI hnl)
                          rw [← hx] at HT2
                          clear hx
                          have HPI := Lib.hid (show y < (put ls y ((row m i).take n) []).length by rw [put_len]; exact HYL.out)
                          obtain ⟨q2, c2', hcell, HI2, hlc2, hcm2⟩ := mat_cell HM.out HPI.out
                          have HI3 := Lib.hid HI2
                          have HC2 := Lib.hid hcell
                          have HC1 := Lib.hid hc4
                          have hz2 : (row (put ls y ((row m i).take n) []) y).length ≤ 1000 := by
                            have := row_put_len HYL.out ((row m i).take n) [] y
                            have h2 : ((row m i).take n).length ≤ n := List.length_take_le _ _
                            omega
                          have HN := Lib.hid (put_no HYL.out (xs := (row m i).take n) (ex := []) (x := x) (by simp))
                          rw [← HT2.out] at HN
                          have hfz := HM.out.frozen y
                          have E : Hid (Fresh wr wr.drew) := Lib.hid (Fresh.refl _).drew
                          unfold maxLen at hcm2
                          clear HI2
                          go_wp2
                          go_region_with ((go_at_call 36; (with_reducible refine (add_sl _ (row (put ls y ((row m i).take n) []) y) x _ (HI3.out.fresh E.out) (by omega)).mono ?_); rintro e1 w1 ⟨q9, n9, cc9, rfl, hy', h1⟩; have HY' := Lib.hid hy'; have E1 := Lib.hid h1; have E := Lib.hid (E.out.trans h1); clear hy' h1; have c8 := E.out.sts (fun _ => True) _ _ _ trivial HC1.out; have c9 := E.out.sts (fun _ => True) _ _ _ trivial HC2.out; have f9 := (HM.out.fresh E.out).frozen y))
                          all_goals
                            have HM4 := Lib.hid (mat_add (HM.out.fresh (Fresh.refl wr).drew) E1.out HY'.out HPI.out)
                            rw [← HN.out] at HM4
                            have HF4 := Lib.hid ((HF.out.trans E.out).setCell (p := ⟨w.heap.size, y, none⟩) (Nat.le_refl _) (.slice q9 n9 cc9))
                            have HK4 := Lib.hid ((HK2.out.fresh E.out).far (p := ⟨w.heap.size, y, none⟩) (show w.heap.size + 1 ≠ w.heap.size by omega) (.slice q9 n9 cc9))
                            have HQ4 := Lib.hid ((HQ.out.fresh E.out).sts (sts_set _ w.heap.size y (.slice q9 n9 cc9)))
                            clear hc4 hcell c8 c9 f9 hfz
                            go_wp2
                            go_roundg ((row m i).length - (n + 1))
                            case measure => go_light; omega
                            case rel => go_light; exact ⟨_, n + 1, by go_num, by omega, rfl, HM4, HF4, HK4, HQ4⟩
                        · have HM' : Hid (Mat wr w.heap.size 28 vs lsM) := Lib.hid (by
                            have := HM.out
                            rw [List.take_of_length_le (by omega)] at this
                            rw [HLM.out]; exact this)
                          have HYM2 := Lib.hid (show y < lsM.length by rw [HLM.out, put_len]; exact HYL.out)
                          have HIM2 := Lib.hid (show i < lsM.length by rw [HLM.out, put_len]; exact HIL.out)
                          have hrM : (row lsM i).length ≤ 1000 := by
                            have := row_put_len HYL.out (row m i) [] i
                            rw [← HLM.out] at this
                            omega
                          have hrM2 : (row lsM y).length ≤ 1000 := by
                            have := row_put_len HYL.out (row m i) [] y
                            rw [← HLM.out] at this
                            omega
                          obtain ⟨q5, c5, hc5, hi5, hl5, hm5⟩ := mat_cell HM'.out HIM2.out
                          have HED : Hid (edgeF m en i ls y = put lsM y (row lsM i) (row en i)) := Lib.hid (by unfold edgeF; rw [← HLM.out])
                          obtain ⟨zs, hzs⟩ : ∃ zs, zs = row lsM i := ⟨_, rfl⟩
                          rw [← hzs] at hc5 hi5 hl5 hrM HED
                          have HI5 := Lib.hid hi5
                          unfold maxLen at hm5
                          clear hi5 hzs HM hc4
                          go_wp2
                          go_loopg [114] zs.length (fun k s114 wx => ∃ (vs : List Value) (n : Nat), s114 = .int .i64 n ∧ n ≤ zs.length ∧ k = zs.length - n ∧ Hid (Mat wx w.heap.size 28 vs (put lsM y (zs.take n) (row en i))) ∧ Hid (Fresh w wx) ∧ Hid (Mrk wx (w.heap.size + 1) 4 b) ∧ Hid (Ints (· ≠ w.heap.size) wx (.slice (some ⟨B4, off4, none⟩) (fol g i).length c3) (ints (fol g i))) ∧ Hid (Ints (· ≠ w.heap.size) wx (.slice q5 zs.length c5) zs))
                          case atStart => exact ⟨vs, 0, rfl, by omega, rfl, Lib.hid (by rw [List.take_zero, put_nil HYM2.out]; exact HM'.out), HF, HK2, HQ, HI5⟩
                          case round =>
                            clear HM' HF HK2 HQ HI5 hc5 HF0
                            obtain ⟨vs, n, rfl, hn, rfl, HM, HF, HK2, HQ, HI5⟩ := hrel
                            obtain ⟨B4', off4', hq4, _, hc4⟩ := nodes_cell HQ.out hjl
                            injection hq4 with hq4
                            injection hq4 with e4 e5 _
                            subst e4 e5
                            rw [HTY.out] at hc4
                            by_cases hnl : n < zs.length
                            · obtain ⟨B6, off6, rfl, hB6, hc6⟩ := ints_cell HI5.out hnl
                              obtain ⟨x, hx⟩ : ∃ x, x = zs[n] := ⟨_, rfl⟩
                              rw [← hx] at hc6
                              have HT2 := Lib.hid (take_oneI hnl)
                              rw [← hx] at HT2
                              clear hx
                              have HPI := Lib.hid (show y < (put lsM y (zs.take n) (row en i)).length by rw [put_len]; exact HYM2.out)
                              by_cases hin : x ∈ row en i
                              · have HH := Lib.hid (show has (row en i) x = true by simpa [has] using hin)
                                have HN := Lib.hid (put_yes HYM2.out (xs := zs.take n) hin)
                                rw [← HT2.out] at HN
                                clear hin hc4
                                go_wp2_with (first | (go_at_call 39; (with_reducible refine (at_sl _ en i _ (HE.out.fresh HF.out)).mono ?_); rintro e1 w1 ⟨q7, c7, rfl, h1, hc7, rfl⟩; have HX7 := Lib.hid h1; clear h1) | (go_at_call 22; (with_reducible refine (has_any _ (row en i) x _ HX7.out).mono ?_); rintro e1 w1 ⟨rfl, h1⟩; rw [HH.out]; have E := Lib.hid h1; clear h1))
                                go_roundg (zs.length - (n + 1))
                                case measure => go_light; omega
                                case rel => go_light; exact ⟨vs, n + 1, by go_num, by omega, rfl, Lib.hid (by rw [HN.out]; exact HM.out.fresh E.out), Lib.hid (HF.out.trans E.out), Lib.hid (HK2.out.fresh E.out), Lib.hid (HQ.out.fresh E.out), Lib.hid (HI5.out.fresh E.out)⟩
                              · have HH := Lib.hid (show has (row en i) x = false by simpa [has] using hin)
                                have HN := Lib.hid (put_no HYM2.out (xs := zs.take n) hin)
                                rw [← HT2.out] at HN
                                clear hin
                                obtain ⟨q2, c2', hcell, HI2, hlc2, hcm2⟩ := mat_cell HM.out HPI.out
                                have HI3 := Lib.hid HI2
                                have HC2 := Lib.hid hcell
                                have HC1 := Lib.hid hc4
                                have hz2 : (row (put lsM y (zs.take n) (row en i)) y).length ≤ 2000 := by
                                  have h0 := row_put_len HYM2.out (zs.take n) (row en i) y
                                  have h2 : (zs.take n).length ≤ n := List.length_take_le _ _
                                  omega
                                unfold maxLen at hcm2
                                clear HI2 hcell hc4
                                go_wp2_with (first | (go_at_call 39; (with_reducible refine (at_sl _ en i _ (HE.out.fresh HF.out)).mono ?_); rintro e1 w1 ⟨q7, c7, rfl, h1, hc7, rfl⟩; have HX7 := Lib.hid h1; clear h1) | (go_at_call 22; (with_reducible refine (has_any _ (row en i) x _ HX7.out).mono ?_); rintro e1 w2 ⟨rfl, h1⟩; rw [HH.out]; have E0 := Lib.hid h1; clear h1))
                                have hc4 := E0.out.sts (fun _ => True) _ _ _ trivial HC1.out
                                have hcell := E0.out.sts (fun _ => True) _ _ _ trivial HC2.out
                                have hfz := (HM.out.fresh E0.out).frozen y
                                have E : Hid (Fresh wr w2.drew) := Lib.hid E0.out.drew
                                go_region_with ((go_at_call 36; (with_reducible refine (add_sl _ (row (put lsM y (zs.take n) (row en i)) y) x _ (HI3.out.fresh E.out) (by omega)).mono ?_); rintro e1 w1 ⟨q9, n9, cc9, rfl, hy', h1⟩; have HY' := Lib.hid hy'; have E1 := Lib.hid h1; have E := Lib.hid (E.out.trans h1); clear hy' h1; have c8 := E.out.sts (fun _ => True) _ _ _ trivial HC1.out; have c9 := E.out.sts (fun _ => True) _ _ _ trivial HC2.out; have f9 := (HM.out.fresh E.out).frozen y))
                                all_goals
                                  have HM4 := Lib.hid (mat_add (HM.out.fresh E0.out.drew) E1.out HY'.out HPI.out)
                                  rw [← HN.out] at HM4
                                  have HF4 := Lib.hid ((HF.out.trans E.out).setCell (p := ⟨w.heap.size, y, none⟩) (Nat.le_refl _) (.slice q9 n9 cc9))
                                  have HK4 := Lib.hid ((HK2.out.fresh E.out).far (p := ⟨w.heap.size, y, none⟩) (show w.heap.size + 1 ≠ w.heap.size by omega) (.slice q9 n9 cc9))
                                  have HQ4 := Lib.hid ((HQ.out.fresh E.out).sts (sts_set _ w.heap.size y (.slice q9 n9 cc9)))
                                  have HI4 := Lib.hid ((HI5.out.fresh E.out).sts (sts_set _ w.heap.size y (.slice q9 n9 cc9)))
                                  clear hc4 hcell c8 c9 f9 hfz
                                  go_wp2
                                  go_roundg (zs.length - (n + 1))
                                  case measure => go_light; omega
                                  case rel => go_light; exact ⟨_, n + 1, by go_num, by omega, rfl, HM4, HF4, HK4, HQ4, HI4⟩
                            · have HM4 : Hid (Mat wr w.heap.size 28 vs (edgeF m en i ls y)) := Lib.hid (by
                                have := HM.out
                                rw [List.take_of_length_le (by omega)] at this
                                rw [HED.out]; exact this)
                              have HLL := Lib.hid (show y < (edgeF m en i ls y).length by rw [HED.out, put_len]; exact HYM2.out)
                              obtain ⟨q2, c2', hcell, _, hlc2, hcm2⟩ := mat_cell HM4.out HLL.out
                              unfold maxLen at hcm2
                              clear HM
                              cases mm with
                              | true =>
                                have HB' := Lib.hid (HFB.out.step HP.out HYM.out (m' := true) (by simp))
                                rw [← HT.out] at HB'
                                clear hcell hc4
                                go_wp2
                                go_roundg ((fol g i).length - (j + 1))
                                case measure => go_light; omega
                                case rel => go_light; exact ⟨_, vs, true, j + 1, rfl, by go_num, by omega, rfl, HM4, HF, HK2, HQ, HB'⟩
                              | false =>
                                by_cases hgt : (row ls y).length < (row (edgeF m en i ls y) y).length
                                · have HB' := Lib.hid (HFB.out.step HP.out HYM.out (m' := true) (by simpa using hgt))
                                  rw [← HT.out] at HB'
                                  go_wp2
                                  go_roundg ((fol g i).length - (j + 1))
                                  case measure => go_light; omega
                                  case rel => go_light; exact ⟨_, vs, true, j + 1, rfl, by go_num, by omega, rfl, HM4, HF, HK2, HQ, HB'⟩
                                · have HB' := Lib.hid (HFB.out.step HP.out HYM.out (m' := false) (by simpa using hgt))
                                  rw [← HT.out] at HB'
                                  go_wp2
                                  go_roundg ((fol g i).length - (j + 1))
                                  case measure => go_light; omega
                                  case rel => go_light; exact ⟨_, vs, false, j + 1, rfl, by go_num, by omega, rfl, HM4, HF, HK2, HQ, HB'⟩
                  · have HFN := Lib.hid (HFB.out.next (fun _ => List.take_of_length_le (by omega)))
                    clear mb
                    go_wp2
                    go_roundg (g.length - (i + 1))
                    case measure => go_light; omega
                    case rel => go_light; exact ⟨ls, vs, mm, i + 1, rfl, by go_num, by omega, rfl, HM, HF, HK2, HFN⟩
              · obtain rfl : i = g.length := by omega
                have HCL := Lib.hid (fun h => HFB.out.closed h hel)
                have HD := Lib.hid HFB.out.good
                have HG1 := Lib.hid HFB.out.beg
                go_wp2
                go_roundg (mea (g.length * (st ++ m.flatten).length) ls mm)
                case measure => go_light; have h1 := HFB.out.mea; have h2 := HK.out; omega
                case rel => go_light; exact ⟨ls, vs, mm, rfl, Lib.hid rfl, HM, HF, HK2, HD, HG1, HCL⟩
  · have HX := Lib.hid (fwd_none (st := st) (m := m) (en := en) hin)
    by_cases h0 : entry < 0
    · go_enter Try.func21, Try.ntmps21
      go_wp2_with (go_at_call 11; (with_reducible refine (reachR_any _ g _ _ HG.out (HR.out.fresh (by have := HF0.out; simpa using this))).mono ?_); rintro e1 w1 ⟨rfl, b, hb1, hb2, hb3⟩; have HMk : Hid (Mrk w1 (w.heap.size + 1) 4 b) := Lib.hid (by simpa using hb1); have HB := Lib.hid hb2; have HM0 : Hid (Mat w1 w.heap.size 28 (List.replicate g.length (.slice none 0 0)) (List.replicate g.length [])) := Lib.hid (Mat.fresh (by simpa using H0.out w) hb3); have HF1 : Hid (Fresh w w1) := Lib.hid (Fresh.trans (by have := HF0.out; simpa using this) hb3); clear hb1 hb2 hb3)
      go_ret
      exact ⟨rfl, _, _, HM0.out, HX.out, HF1.out⟩
    · have h1 : (g.length : Int) ≤ entry := by omega
      have hd : decide (entry < 0) = false := by simp; omega
      go_enter Try.func21, Try.ntmps21
      go_wp2_with (go_at_call 11; (with_reducible refine (reachR_any _ g _ _ HG.out (HR.out.fresh (by have := HF0.out; simpa using this))).mono ?_); rintro e1 w1 ⟨rfl, b, hb1, hb2, hb3⟩; have HMk : Hid (Mrk w1 (w.heap.size + 1) 4 b) := Lib.hid (by simpa using hb1); have HB := Lib.hid hb2; have HM0 : Hid (Mat w1 w.heap.size 28 (List.replicate g.length (.slice none 0 0)) (List.replicate g.length [])) := Lib.hid (Mat.fresh (by simpa using H0.out w) hb3); have HF1 : Hid (Fresh w w1) := Lib.hid (Fresh.trans (by have := HF0.out; simpa using this) hb3); clear hb1 hb2 hb3)
      go_ret
      exact ⟨rfl, _, _, HM0.out, HX.out, HF1.out⟩
end Go.Proofs.Ytlmlgdojmcmllaa
