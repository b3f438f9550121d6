/- The sets against the arrows, by the reference. -/
import Derived.Test.YtlmlgdojmcmllaaRl
namespace Go.Proofs.Ytlmlgdojmcmllaa
set_option linter.unusedSimpArgs false
set_option linter.unusedVariables false
open Go.RowKit
open Solve

set_option maxHeartbeats 40000000 in
set_option maxRecDepth 100000 in
theorem backR_any {ok ok' oku oku' oks oks' : Nat → Prop} (v vu vs0 : Value) (g u s : Graph) (w : World) (hg : Sm g) (hsu : Sm u) (h : Rows2 ok ok' w v g) (hu : Rows2 oku oku' w vu u) (hs : Rows2 oks oks' w vs0 s) :
    Calls Try.prog 19 #[v, vu, vs0] w (MatPost g.length (BackP g u s) w) := by
  have HR := Lib.hid (rows_low h)
  have HU := Lib.hid (rows_low hu)
  have HS := Lib.hid (rows_low hs)
  obtain ⟨p, cap, rfl, ⟨hc, hm⟩, _⟩ := h.form
  unfold maxLen at hm
  have hl := hg.len
  have hfl := flat_len hsu
  have HG := Lib.hid hg
  have HSU := Lib.hid hsu
  have hmk := run_rows g.length (by omega)
  have H0 : Hid (∀ w : World, Mat (w.alloc (.cells (List.replicate g.length (.slice none 0 0)).toArray 28)) w.heap.size 28 (List.replicate g.length (.slice none 0 0)) (List.replicate g.length [])) := Lib.hid (fun w => mat_start w g.length)
  clear h hu hs hg hsu
  go_enter Try.func19, Try.ntmps19
  go_wp2
  clear hmk
  go_loopg [8] (mea (g.length * u.flatten.length) (List.replicate g.length []) true) (fun k s8 wx => ∃ (ls : Graph) (vs : List Value) (m : Bool), s8 = .bool m ∧ Hid (k = mea (g.length * u.flatten.length) ls m) ∧ Hid (Mat wx w.heap.size 28 vs ls) ∧ Hid (Fresh w wx) ∧ Hid (Sound g.length (BackP g u s) ls) ∧ Hid (m = false → ∀ i, i < g.length → ClosedAt g u s ls i))
  case atStart => exact ⟨_, _, true, rfl, Lib.hid rfl, Lib.hid (by simpa using H0.out w), Lib.hid ((Fresh.refl w).alloc _ _), Lib.hid (Sound.start _ _), Lib.hid (fun h => by cases h)⟩
  case round =>
    obtain ⟨ls0, vs, m, rfl, HK, HM, HF, HD, HC⟩ := hrel
    cases m with
    | false =>
      have HE := Lib.hid (exact_of_closed HD.out (HC.out rfl))
      go_wp2
      go_ret
      exact ⟨rfl, vs, ls0, HM.out, HE.out, HF.out⟩
    | true =>
      go_wp2
      go_loopg [8, 9] g.length (fun k s8 s9 wx => ∃ (ls : Graph) (vs : List Value) (m1 : Bool), s8 = .bool m1 ∧ s9 = .int .i64 ((k : Int) - 1) ∧ k ≤ g.length ∧ Hid (Mat wx w.heap.size 28 vs ls) ∧ Hid (Fresh w wx) ∧ Hid (BB g u s ls0 ls m1 k))
      case atStart => exact ⟨ls0, vs, false, rfl, rfl, by omega, HM, HF, Lib.hid (BB.start HD.out)⟩
      case round =>
        clear HM HF HD HC
        obtain ⟨ls, vs, m1, rfl, rfl, hk, HM, HF, HB⟩ := hrel
        cases gk with
        | zero =>
          have HE : Hid (m1 = false → ∀ i, i < g.length → ClosedAt g u s ls i) := Lib.hid (fun h i hi => (HB.out.eq h).2 i (Nat.zero_le _) hi)
          have HD := Lib.hid HB.out.good
          have hneg : ((0 : Nat) : Int) - 1 = -1 := by omega
          rw [hneg]
          clear hneg
          go_wp2
          go_roundg (mea (g.length * u.flatten.length) ls m1)
          case measure => go_light; have h1 := HB.out.mea; have h2 := HK.out; omega
          case rel => go_light; exact ⟨ls, vs, m1, rfl, Lib.hid rfl, HM, HF, HD, HE⟩
        | succ i =>
          have hi : i < g.length := by omega
          have hill : i < ls.length := by rw [HB.out.good.len]; exact hi
          have hk1 : ((i + 1 : Nat) : Int) - 1 = (i : Int) := by omega
          rw [hk1]
          clear hk1
          have HI := Lib.hid hill
          obtain ⟨q0, c0, hcell0, _, _, hcm0⟩ := mat_cell HM.out hill
          have hr0 := HB.out.good.row_le _ back_univ i
          unfold maxLen at hcm0
          clear hill
          go_wp2_with (go_at_call 39; (with_reducible refine (at_sl _ u i _ (HU.out.fresh HF.out)).mono ?_); rintro e1 w1 ⟨q1, c1, rfl, h1, hc1, rfl⟩; have HX := Lib.hid h1; unfold maxLen at hc1; clear h1)
          go_loopg [37] (row u i).length (fun k s37 wx => ∃ (vs : List Value) (j : Nat), s37 = .int .i64 j ∧ j ≤ (row u i).length ∧ k = (row u i).length - j ∧ Hid (Mat wx w.heap.size 28 vs (put ls i ((row u i).take j) [])) ∧ Hid (Fresh w wx))
          case atStart => exact ⟨vs, 0, rfl, by omega, rfl, Lib.hid (by rw [List.take_zero, put_nil HI.out]; exact HM.out), HF⟩
          case round =>
            have HF0 := HF
            clear HM HF
            obtain ⟨vs, j, rfl, hj, rfl, HM, HF⟩ := hrel
            have hlu := HSU.out.row i
            by_cases hjl : j < (row u i).length
            · have HXr := Lib.hid (HX.out.sts (two_sts HF0.out HF.out))
              obtain ⟨B', off', rfl, hB', hcx⟩ := ints_cell HXr.out hjl
              obtain ⟨x, hx⟩ : ∃ x, x = (row u i)[j] := ⟨_, rfl⟩
              rw [← hx] at hcx
              have HT := Lib.hid (take_oneI hjl)
              rw [← hx] at HT
              clear hx
              have HPI := Lib.hid (show i < (put ls i ((row u i).take j) []).length by rw [put_len]; exact HI.out)
              obtain ⟨q2, c2, hc2, HI2, hlc2, hcm2⟩ := mat_cell HM.out HPI.out
              have HI3 := Lib.hid HI2
              have hz2 : (row (put ls i ((row u i).take j) []) i).length ≤ 1000 := by
                have := row_put_len HI.out ((row u i).take j) [] i
                have h2 : ((row u i).take j).length ≤ j := List.length_take_le _ _
                omega
              have HN := Lib.hid (put_no HI.out (xs := (row u i).take j) (ex := []) (x := x) (by simp))
              rw [← HT.out] at HN
              unfold maxLen at hcm2
              clear HI2
              go_wp2_with (go_at_call 36; (with_reducible refine (add_sl _ (row (put ls i ((row u i).take j) []) i) x _ HI3.out (by omega)).mono ?_); rintro e w1 ⟨q9, n9, cc9, rfl, hy', h1⟩; have HY' := Lib.hid hy'; have E := Lib.hid h1; clear hy' h1; have c9 := E.out.sts (fun _ => True) _ _ _ trivial hc2; have f9 := (HM.out.fresh E.out).frozen i)
              have HM4 := Lib.hid (mat_add HM.out E.out HY'.out HPI.out)
              rw [← HN.out] at HM4
              have HF4 := Lib.hid ((HF.out.trans E.out).setCell (p := ⟨w.heap.size, i, none⟩) (Nat.le_refl _) (.slice q9 n9 cc9))
              clear c9 f9
              go_roundg ((row u i).length - (j + 1))
              case measure => go_light; omega
              case rel => go_light; exact ⟨_, j + 1, by go_num, by omega, rfl, HM4, HF4⟩
            · have HM' : Hid (Mat wr w.heap.size 28 vs (nodeK g u s ls i 0)) := Lib.hid (by
                have := HM.out
                rw [List.take_of_length_le (by omega)] at this
                rw [nodeK_zero]; exact this)
              have hrow := HG.out.row i
              have hfo := HG.out.fol i
              clear HM
              go_wp2_with (go_at_call 30; (with_reducible refine (follows_any _ g i _ hi (by omega) (HR.out.fresh HF.out)).mono ?_); rintro e1 w1 ⟨y0, rfl, hu, h1⟩; have HQ := Lib.hid (row_of_que (HM'.out.lt) hu); have HM1 := Lib.hid (HM'.out.fresh h1); have HF1 := Lib.hid (HF.out.trans h1); clear hu h1; obtain ⟨q3, c3, hq3, ⟨hc3, hm3⟩, _⟩ := HQ.out.form; unfold maxLen at hm3; rw [ints_len] at hq3 hc3; subst hq3)
              go_loopg [14] (fol g i).length (fun k s14 wx => ∃ (vs : List Value) (j : Nat), s14 = .int .i64 j ∧ j ≤ (fol g i).length ∧ k = (fol g i).length - j ∧ Hid (Mat wx w.heap.size 28 vs (nodeK g u s ls i j)) ∧ Hid (Fresh w wx) ∧ Hid (Ints (· ≠ w.heap.size) wx (.slice q3 (fol g i).length c3) (ints (fol g i))))
              case atStart => exact ⟨vs, 0, rfl, by omega, rfl, HM1, HF1, HQ⟩
              case round =>
                clear HM' HF HQ HM1 HF1
                obtain ⟨vs, j, rfl, hj, rfl, HM, HF, HQ⟩ := hrel
                have HGK := Lib.hid (nodeK_good hi HB.out.good j)
                by_cases hjl : j < (fol g i).length
                · obtain ⟨B4, off4, rfl, hB4, hc4⟩ := nodes_cell HQ.out hjl
                  obtain ⟨y, hy⟩ : ∃ y, y = (fol g i)[j] := ⟨_, rfl⟩
                  rw [← hy] at hc4
                  have hym : y ∈ fol g i := by rw [hy]; exact List.getElem_mem hjl
                  have hyl : y < g.length := fol_lt hym
                  have HKS := Lib.hid (nodeK_succ (u := u) (s := s) (ls := ls) hjl)
                  rw [← hy] at HKS
                  clear hy hym
                  have HYL := Lib.hid (show y < (nodeK g u s ls i j).length by rw [HGK.out.len]; exact hyl)
                  have HIL := Lib.hid (show i < (nodeK g u s ls i j).length by rw [HGK.out.len]; exact hi)
                  obtain ⟨q5, c5, hc5, hi5, hl5, hm5⟩ := mat_cell HM.out HYL.out
                  have hy5 := HGK.out.row_le _ back_univ y
                  obtain ⟨ys, hys⟩ : ∃ ys, ys = row (nodeK g u s ls i j) y := ⟨_, rfl⟩
                  rw [← hys] at hc5 hi5 hl5 hy5 HKS
                  have HI5 := Lib.hid hi5
                  unfold maxLen at hm5
                  clear hi5 hys
                  go_wp2
                  go_loopg [68] ys.length (fun k s68 wx => ∃ (vs : List Value) (n : Nat), s68 = .int .i64 n ∧ n ≤ ys.length ∧ k = ys.length - n ∧ Hid (Mat wx w.heap.size 28 vs (put (nodeK g u s ls i j) i (ys.take n) (row s i))) ∧ Hid (Fresh w wx) ∧ Hid (Ints (· ≠ w.heap.size) wx (.slice (some ⟨B4, off4, none⟩) (fol g i).length c3) (ints (fol g i))) ∧ Hid (Ints (· ≠ w.heap.size) wx (.slice q5 ys.length c5) ys))
                  case atStart => exact ⟨vs, 0, rfl, by omega, rfl, Lib.hid (by rw [List.take_zero, put_nil HIL.out]; exact HM.out), HF, HQ, HI5⟩
                  case round =>
                    clear HM HF HQ HI5 hc5 hc4
                    obtain ⟨vs, n, rfl, hn, rfl, HM, HF, HQ, HI5⟩ := hrel
                    by_cases hnl : n < ys.length
                    · obtain ⟨B6, off6, rfl, hB6, hc6⟩ := ints_cell HI5.out hnl
                      obtain ⟨x, hx⟩ : ∃ x, x = ys[n] := ⟨_, rfl⟩
                      rw [← hx] at hc6
                      have HT := Lib.hid (take_oneI hnl)
                      rw [← hx] at HT
                      clear hx
                      have HPI := Lib.hid (show i < (put (nodeK g u s ls i j) i (ys.take n) (row s i)).length by rw [put_len]; exact HIL.out)
                      by_cases hin : x ∈ row s i
                      · have HH := Lib.hid (show has (row s i) x = true by simpa [has] using hin)
                        have HN := Lib.hid (put_yes HIL.out (xs := ys.take n) hin)
                        rw [← HT.out] at HN
                        clear hin
                        go_wp2_with (first | (go_at_call 39; (with_reducible refine (at_sl _ s i _ (HS.out.fresh HF.out)).mono ?_); rintro e1 w1 ⟨q7, c7, rfl, h1, hc7, rfl⟩; have HX7 := Lib.hid h1; clear h1) | (go_at_call 22; (with_reducible refine (has_any _ (row s i) x _ HX7.out).mono ?_); rintro e1 w1 ⟨rfl, h1⟩; rw [HH.out]; have E := Lib.hid h1; clear h1))
                        go_roundg (ys.length - (n + 1))
                        case measure => go_light; omega
                        case rel => go_light; exact ⟨vs, n + 1, by go_num, by omega, rfl, Lib.hid (by rw [HN.out]; exact HM.out.fresh E.out), Lib.hid (HF.out.trans E.out), Lib.hid (HQ.out.fresh E.out), Lib.hid (HI5.out.fresh E.out)⟩
                      · have HH := Lib.hid (show has (row s i) x = false by simpa [has] using hin)
                        have HN := Lib.hid (put_no HIL.out (xs := ys.take n) hin)
                        rw [← HT.out] at HN
                        clear hin
                        obtain ⟨q2, c2, hc2, HI2, hlc2, hcm2⟩ := mat_cell HM.out HPI.out
                        have HI3 := Lib.hid HI2
                        have HC2 := Lib.hid hc2
                        have hz2 : (row (put (nodeK g u s ls i j) i (ys.take n) (row s i)) i).length ≤ 2000 := by
                          have h0 := row_put_len HIL.out (ys.take n) (row s i) i
                          have h2 : (ys.take n).length ≤ n := List.length_take_le _ _
                          have h3 := HGK.out.row_le _ back_univ i
                          omega
                        unfold maxLen at hcm2
                        clear HI2 hc2
                        go_wp2_with (first | (go_at_call 39; (with_reducible refine (at_sl _ s i _ (HS.out.fresh HF.out)).mono ?_); rintro e1 w1 ⟨q7, c7, rfl, h1, hc7, rfl⟩; have HX7 := Lib.hid h1; clear h1) | (go_at_call 22; (with_reducible refine (has_any _ (row s i) x _ HX7.out).mono ?_); rintro e1 w2 ⟨rfl, h1⟩; rw [HH.out]; have E := Lib.hid h1; clear h1; have c8 := E.out.sts (fun _ => True) _ _ _ trivial HC2.out) | (go_at_call 36; (with_reducible refine (add_sl _ (row (put (nodeK g u s ls i j) i (ys.take n) (row s i)) i) x _ (HI3.out.fresh E.out) (by omega)).mono ?_); rintro e w3 ⟨q9, n9, cc9, rfl, hy', h1⟩; have HY' := Lib.hid hy'; have E2 := Lib.hid h1; clear hy' h1; have c9 := E2.out.sts (fun _ => True) _ _ _ trivial c8; have f9 := (HM.out.fresh (E.out.trans E2.out)).frozen i))
                        have HM4 := Lib.hid (mat_add (HM.out.fresh E.out) E2.out HY'.out HPI.out)
                        rw [← HN.out] at HM4
                        have HF4 := Lib.hid ((HF.out.trans (E.out.trans E2.out)).setCell (p := ⟨w.heap.size, i, none⟩) (Nat.le_refl _) (.slice q9 n9 cc9))
                        have HQ4 := Lib.hid ((HQ.out.fresh (E.out.trans E2.out)).sts (sts_set _ w.heap.size i (.slice q9 n9 cc9)))
                        have HI4 := Lib.hid ((HI5.out.fresh (E.out.trans E2.out)).sts (sts_set _ w.heap.size i (.slice q9 n9 cc9)))
                        clear c8 c9 f9
                        go_roundg (ys.length - (n + 1))
                        case measure => go_light; omega
                        case rel => go_light; exact ⟨_, n + 1, by go_num, by omega, rfl, HM4, HF4, HQ4, HI4⟩
                    · have HM4 : Hid (Mat wr w.heap.size 28 vs (nodeK g u s ls i (j + 1))) := Lib.hid (by
                        have := HM.out
                        rw [List.take_of_length_le (by omega)] at this
                        rw [HKS.out]; exact this)
                      go_wp2
                      go_roundg ((fol g i).length - (j + 1))
                      case measure => go_light; omega
                      case rel => go_light; exact ⟨vs, j + 1, by go_num, by omega, rfl, HM4, HF, HQ⟩
                · have HKA := Lib.hid (nodeK_all g u s ls i (j := j) (by omega))
                  have HM4 : Hid (Mat wr w.heap.size 28 vs (nodeB g u s ls i)) := Lib.hid (by rw [← HKA.out]; exact HM.out)
                  have HIL := Lib.hid (show i < (nodeB g u s ls i).length by rw [← HKA.out, (nodeK_good hi HB.out.good j).len]; exact hi)
                  obtain ⟨q2, c2, hc2, _, hlc2, hcm2⟩ := mat_cell HM4.out HIL.out
                  unfold maxLen at hcm2
                  clear HM
                  cases m1 with
                  | true =>
                    have HB' := Lib.hid (HB.out.step hi (m' := true) (by simp))
                    clear hc2
                    go_wp2
                    go_roundg i
                    case measure => go_light; omega
                    case rel => go_light; exact ⟨_, vs, true, rfl, rfl, by omega, HM4, HF, HB'⟩
                  | false =>
                    by_cases hgt : (row ls i).length < (row (nodeB g u s ls i) i).length
                    · have HB' := Lib.hid (HB.out.step hi (m' := true) (by simpa using hgt))
                      go_wp2
                      go_roundg i
                      case measure => go_light; omega
                      case rel => go_light; exact ⟨_, vs, true, rfl, rfl, by omega, HM4, HF, HB'⟩
                    · have HB' := Lib.hid (HB.out.step hi (m' := false) (by simpa using hgt))
                      go_wp2
                      go_roundg i
                      case measure => go_light; omega
                      case rel => go_light; exact ⟨_, vs, false, rfl, rfl, by omega, HM4, HF, HB'⟩
end Go.Proofs.Ytlmlgdojmcmllaa
