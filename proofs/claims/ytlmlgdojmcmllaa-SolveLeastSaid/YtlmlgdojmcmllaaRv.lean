/- Looked for node by node, against the arrows: where a number comes from. -/
import Derived.Test.YtlmlgdojmcmllaaRu
namespace Go.Proofs.Ytlmlgdojmcmllaa
set_option linter.unusedSimpArgs false
set_option linter.unusedVariables false
open Go.RowKit
open Solve

/-- Which nodes are put behind. -/
def comesP (g en : Graph) (b : List Bool) (i : Nat) (x : Int) (k : Nat) : Bool := flag b k && (decide (i ∈ fol g k) && !has (row en k) x)
def comesL (g en : Graph) (b : List Bool) (i : Nat) (x : Int) (n : Nat) : List Nat := (List.range n).filter (comesP g en b i x)
theorem comesL_yes {g en : Graph} {b : List Bool} {i n : Nat} {x : Int} (h : comesP g en b i x n = true) : comesL g en b i x (n + 1) = comesL g en b i x n ++ [n] := by
  unfold comesL; rw [List.range_succ, List.filter_append]; simp [h]
theorem comesL_no {g en : Graph} {b : List Bool} {i n : Nat} {x : Int} (h : comesP g en b i x n = false) : comesL g en b i x (n + 1) = comesL g en b i x n := by
  unfold comesL; rw [List.range_succ, List.filter_append]; simp [h]
theorem fol_iff {g : Graph} {i k : Nat} (hi : i < g.length) : i ∈ fol g k ↔ (i : Int) ∈ row g k := by
  unfold fol row; rw [mem_nodesOf]; exact ⟨fun h => h.1, fun h => ⟨h, hi⟩⟩
theorem set_sl {ok ok' : Nat → Prop} (v : Value) (g : Graph) (i : Nat) (w : World) (h : Rows2 ok ok' w v g) :
    Calls Try.prog 25 #[v, .int .i64 i] w fun e w' => ∃ q c, e = .returned (.slice q (row g i).length c) ∧ Ints ok' w (.slice q (row g i).length c) (row g i) ∧ w = w' :=
  (set_any v g i w h).mono fun e w' ⟨u, he, hu, hw⟩ => by
    obtain ⟨q, c, rfl, _, _⟩ := hu.form
    exact ⟨q, c, he, hu, hw⟩
set_option maxHeartbeats 32000000 in
set_option maxRecDepth 100000 in
theorem comes_any (vn vst vm ve : Value) (qb : Option Addr) (nb cb : Nat) (g : Graph) (b : List Bool) (e : Nat) (st : List Int) (m en : Graph) (t0 : Nat) (x : Int) (w : World) (hg : Sm g) (he : e < g.length) (hn : Rows2 T T w vn g) (hb : Row T w (.slice qb nb cb) (marks b)) (hs : Ints T w vst st) (hu : Rows2 T T w vm m) (hv : Rows2 T T w ve en)
    (hbl : b.length = g.length) (hpt : ∀ i, flag b i = true ↔ Path g e i) (hi : t0 < g.length) (hx : FwdP g e st m en t0 x) :
    Calls Try.prog 24 #[vn, .slice qb nb cb, .int .i64 e, vst, vm, ve, .int .i64 t0, .int .i64 x] w fun e w' => e = .returned (.bool true) ∧ Fresh w w' := by
  obtain ⟨pn, cn, rfl, ⟨hcn, hmn⟩, _⟩ := hn.form
  have HN := Lib.hid (rows_low hn)
  have HB := Lib.hid hb
  have HS := Lib.hid hs
  have HU := Lib.hid hu
  have HV := Lib.hid hv
  have HX := Lib.hid hx
  have HBL := Lib.hid hbl
  have HPT := Lib.hid hpt
  have hl := hg.len
  have HG := Lib.hid hg
  have hnb : nb = g.length := by
    obtain ⟨_, _, h9, _⟩ := hb
    rw [marks_len, hbl] at h9
    injection h9
  subst hnb
  have hmk := run_marks g.length (by omega)
  unfold maxLen at hmn
  obtain ⟨ii, hi0, hz0, hz1, hz2⟩ := info_parts int_info
  clear hn hb hs hu hv hx hg hbl hpt
  go_enter Try.func24, Try.ntmps24
  go_wp2
  clear hmk
  have HSL : Hid (unseen ((List.replicate g.length false).set t0 true) ≤ 40) := Lib.hid (by have := unseen_le ((List.replicate g.length false).set t0 true); simp at this; omega)
  go_loopg [18] (2 * unseen ((List.replicate g.length false).set t0 true) + 1) (fun k s18 wx => ∃ (bs : List Bool) (q : List Nat), Hid (k = 2 * unseen bs + q.length) ∧ k ≤ 81 ∧ Hid (QM w wx w.heap.size s18 bs q) ∧ Hid (Trail g e st m en x bs q) ∧ Hid (flag bs t0 = true))
  case atStart =>
    have := HSL.out
    exact ⟨_, [t0], Lib.hid rfl, by omega, Lib.hid (qm_start w _ _), Lib.hid (come_start hi), Lib.hid (by rw [flag_set (by simpa using hi)]; simp)⟩
  case round =>
    obtain ⟨bs, q, HK, hk81, HQ, HW, HFL⟩ := hrel
    cases q with
    | nil => exact absurd HX.out (come_end HW.out t0 HFL.out)
    | cons j q =>
      obtain ⟨gq, off, cap, hv, hcap, hcm, hcell, hq'⟩ := que_form HQ.out.q
      subst hv
      have hjl : j < g.length := (HW.out.lt j (by simp)).1
      have HM := Lib.hid HQ.out.m
      have HF := Lib.hid HQ.out.f
      have HQ' := Lib.hid hq'
      have hql : q.length ≤ 81 := by have := HK.out; simp at this; omega
      unfold maxLen at hcm
      clear hq'
      obtain ⟨A, hA⟩ : ∃ A, A = (if cap = 1 then (⟨gq, off, none⟩ : Addr) else ⟨gq, off + 1, none⟩) := ⟨_, rfl⟩
      have HA := Lib.hid hA
      have HQ1 : Hid (QM w wr w.heap.size (.slice (some A) q.length (cap - 1)) bs q) := Lib.hid ⟨HM.out, by rw [HA.out]; exact HQ'.out, HF.out⟩
      clear hA HQ'
      go_upto_region 6 with fail
      go_cut [18] from 35 to 36 (fun s18 wx => s18 = .slice (some A) q.length (cap - 1) ∧ wr = wx)
      case first =>
        by_cases h1 : cap = 1
        · have hA2 : A = ⟨gq, off, none⟩ := by rw [HA.out, if_pos h1]
          subst hA2
          subst h1
          have hq0 : q = [] := List.eq_nil_of_length_eq_zero (by omega)
          subst hq0
          go_wp2
          go_meet
          exact ⟨rfl, rfl⟩
        · have hA2 : A = ⟨gq, off + 1, none⟩ := by rw [HA.out, if_neg h1]
          subst hA2
          have hc1 : (1 : Nat) ≤ cap := by omega
          have hc2 : ¬ cap = 1 := h1
          go_wp2
          go_meet
          exact ⟨rfl, rfl⟩
      case rest =>
        obtain ⟨rfl, rfl⟩ := hcut
        clear hcell
        go_upto_region 7 with fail
        go_cut [44] from 37 to 44 (fun s44 wx => s44 = .bool (decide (j = e) && has st x) ∧ Hid (Fresh wr wx))
        case first =>
          by_cases hje : j = e
          · have hd : ((j : Int) == (e : Int)) = true := by simp [hje]
            have HJE := Lib.hid hje
            clear hje
            go_wp2_with (go_at_call 22; (with_reducible refine (has_any _ st x _ (HS.out.fresh HF.out)).mono ?_); rintro e1 w1 ⟨rfl, h1⟩; have E := Lib.hid h1; clear h1)
            go_meet
            exact ⟨by simp [HJE.out], E⟩
          · have hd : ((j : Int) == (e : Int)) = false := by simp; omega
            have HJE := Lib.hid hje
            clear hje
            go_wp2
            go_meet
            exact ⟨by simp [HJE.out], Lib.hid (Fresh.refl _)⟩
        case rest =>
          obtain ⟨rfl, E1⟩ := hcut
          cases hxu : (decide (j = e) && has st x) with
          | true =>
            have HF2 := Lib.hid (HF.out.trans E1.out)
            clear hxu
            go_wp2
            go_ret
            exact ⟨rfl, HF2.out⟩
          | false =>
            have HXU : Hid (¬ (j = e ∧ x ∈ st)) := Lib.hid (fun ⟨h1, h2⟩ => by simp [h1, has_yes h2] at hxu)
            clear hxu
            have HQ2 := Lib.hid (HQ1.out.fresh E1.out)
            clear HQ1
            go_wp2
            have hbl : bs.length = g.length := HW.out.len
            have HSB := Lib.hid hbl
            clear hbl
            go_loopg [18, 47] g.length (fun r s18 s47 wx => ∃ (b' : List Bool) (q' : List Nat) (k : Nat), s47 = .int .i64 k ∧ k ≤ g.length ∧ r = g.length - k ∧ Hid (QM w wx w.heap.size s18 b' q') ∧ Hid (Push g bs q (comesL g en b j x k) (b', q')) ∧ Hid (∀ k', k' < k → Path g e k' → j ∈ fol g k' → x ∉ row m k'))
            case atStart => exact ⟨bs, q, 0, rfl, by omega, rfl, HQ2, Lib.hid (push_nil g bs q), Lib.hid (fun k hk => by omega)⟩
            case round =>
              clear HQ2 E1 HM HF
              obtain ⟨b', q', k, rfl, hk, rfl, HQ2, HP, HNM⟩ := hrel
              have HF := Lib.hid HQ2.out.f
              have hq81 : q'.length ≤ 81 := by have h1 := HP.out.size; have h2 := HK.out; simp at h1 h2; omega
              by_cases hkl : k < g.length
              · obtain ⟨Bb, offb, rfl, hcb⟩ := marks_cell (HB.out.fresh HF.out) (i := k) (by rw [HBL.out]; exact hkl)
                cases hbk : flag b k with
                | false =>
                  rw [hbk] at hcb
                  have HP2 : Hid (Push g bs q (comesL g en b j x (k + 1)) (b', q')) := Lib.hid (by rw [comesL_no (by simp [comesP, hbk])]; exact HP.out)
                  have HN2 : Hid (∀ k', k' < k + 1 → Path g e k' → j ∈ fol g k' → x ∉ row m k') := Lib.hid (fun k' h1 h2 h3 => by
                    by_cases h : k' = k
                    · subst h; have := (HPT.out k').2 h2; rw [hbk] at this; cases this
                    · exact HNM.out k' (by omega) h2 h3)
                  clear hbk
                  go_wp2
                  go_roundg (g.length - (k + 1))
                  case measure => go_light; omega
                  case rel => go_light; exact ⟨b', q', k + 1, by go_num, by omega, rfl, HQ2, HP2, HN2⟩
                | true =>
                  rw [hbk] at hcb
                  obtain ⟨Bg, offg, rfl⟩ := ptr_of HN.out (by omega)
                  obtain ⟨qg, ccg, hcg1, hrg, hlg1, hmg1⟩ := row_cell2 (HN.out.fresh HF.out) hkl
                  have HRG := Lib.hid hrg
                  unfold maxLen at hmg1
                  clear hrg
                  by_cases hjk : (j : Int) ∈ row g k
                  · have HH := Lib.hid (has_yes hjk)
                    have HJF := Lib.hid ((fol_iff hjl).2 hjk)
                    have HBK := Lib.hid hbk
                    clear hjk hbk
                    by_cases hxm : x ∈ row m k
                    · have HH2 := Lib.hid (has_yes hxm)
                      clear hxm
                      go_wp2_with (first | (go_at_call 22; (with_reducible refine (has_any _ (row g k) (j : Int) _ HRG.out).mono ?_); rintro e1 w1 ⟨rfl, h1⟩; rw [HH.out]; have E := Lib.hid h1; clear h1) | (go_at_call 25; (with_reducible refine (set_sl _ m k _ (HU.out.fresh (HF.out.trans E.out))).mono ?_); rintro e1 w2 ⟨q5, c5, rfl, h1, rfl⟩; have HX5 := Lib.hid h1; clear h1) | (go_at_call 22; (with_reducible refine (has_any _ (row m k) x _ HX5.out).mono ?_); rintro e1 w3 ⟨rfl, h1⟩; rw [HH2.out]; have E2 := Lib.hid (E.out.trans h1); clear h1))
                      go_ret
                      exact ⟨rfl, HF.out.trans E2.out⟩
                    · have HH2 := Lib.hid (show has (row m k) x = false by simpa [has] using hxm)
                      have HN2 : Hid (∀ k', k' < k + 1 → Path g e k' → j ∈ fol g k' → x ∉ row m k') := Lib.hid (fun k' h1 h2 h3 => by
                        by_cases h : k' = k
                        · subst h; exact hxm
                        · exact HNM.out k' (by omega) h2 h3)
                      clear hxm
                      have hkb : k < b'.length := by rw [HP.out.len, HSB.out]; exact hkl
                      have HKB := Lib.hid (show k < bs.length by rw [HSB.out]; exact hkl)
                      obtain ⟨fb, hfb⟩ : ∃ fb, flag b' k = fb := ⟨_, rfl⟩
                      have HBZ := Lib.hid hfb
                      clear hfb
                      by_cases hxe : x ∈ row en k
                      · have HH3 := Lib.hid (has_yes hxe)
                        have HP2 : Hid (Push g bs q (comesL g en b j x (k + 1)) (b', q')) := Lib.hid (by rw [comesL_no (by simp [comesP, has_yes hxe])]; exact HP.out)
                        clear hxe
                        go_wp2_with (first | (go_at_call 22; (with_reducible refine (has_any _ (row g k) (j : Int) _ HRG.out).mono ?_); rintro e1 w1 ⟨rfl, h1⟩; rw [HH.out]; have E := Lib.hid h1; clear h1) | (go_at_call 25; (with_reducible refine (set_sl _ m k _ (HU.out.fresh (HF.out.trans E.out))).mono ?_); rintro e1 w2 ⟨q5, c5, rfl, h1, rfl⟩; have HX5 := Lib.hid h1; clear h1) | (go_at_call 22; (with_reducible refine (has_any _ (row m k) x _ HX5.out).mono ?_); rintro e1 w3 ⟨rfl, h1⟩; rw [HH2.out]; have E2 := Lib.hid (E.out.trans h1); clear h1) | (go_at_call 25; (with_reducible refine (set_sl _ en k _ (HV.out.fresh (HF.out.trans E2.out))).mono ?_); rintro e1 w4 ⟨q6, c6, rfl, h1, rfl⟩; have HX6 := Lib.hid h1; clear h1) | (go_at_call 22; (with_reducible refine (has_any _ (row en k) x _ HX6.out).mono ?_); rintro e1 w5 ⟨rfl, h1⟩; rw [HH3.out]; have E3 := Lib.hid (E2.out.trans h1); clear h1; have mz := (HQ2.out.m.fresh E3.out).cell hkb; have mf := (HQ2.out.m.fresh E3.out).frozen k; rw [HBZ.out] at mz))
                        go_roundg (g.length - (k + 1))
                        case measure => go_light; omega
                        case rel => go_light; exact ⟨b', q', k + 1, by go_num, by omega, rfl, Lib.hid (HQ2.out.fresh E3.out), HP2, HN2⟩
                      · have HH3 := Lib.hid (show has (row en k) x = false by simpa [has] using hxe)
                        have HCY := Lib.hid (comesL_yes (n := k) (show comesP g en b j x k = true by simp [comesP, HBK.out, HJF.out, HH3.out]))
                        have HPS := Lib.hid (HP.out.snoc HKB.out)
                        rw [← HCY.out] at HPS
                        clear hxe
                        cases fb with
                        | true =>
                          have HP2 : Hid (Push g bs q (comesL g en b j x (k + 1)) (b', q')) := Lib.hid (by have := HPS.out; unfold pushW at this; simpa [HBZ.out] using this)
                          go_wp2_with (first | (go_at_call 22; (with_reducible refine (has_any _ (row g k) (j : Int) _ HRG.out).mono ?_); rintro e1 w1 ⟨rfl, h1⟩; rw [HH.out]; have E := Lib.hid h1; clear h1) | (go_at_call 25; (with_reducible refine (set_sl _ m k _ (HU.out.fresh (HF.out.trans E.out))).mono ?_); rintro e1 w2 ⟨q5, c5, rfl, h1, rfl⟩; have HX5 := Lib.hid h1; clear h1) | (go_at_call 22; (with_reducible refine (has_any _ (row m k) x _ HX5.out).mono ?_); rintro e1 w3 ⟨rfl, h1⟩; rw [HH2.out]; have E2 := Lib.hid (E.out.trans h1); clear h1) | (go_at_call 25; (with_reducible refine (set_sl _ en k _ (HV.out.fresh (HF.out.trans E2.out))).mono ?_); rintro e1 w4 ⟨q6, c6, rfl, h1, rfl⟩; have HX6 := Lib.hid h1; clear h1) | (go_at_call 22; (with_reducible refine (has_any _ (row en k) x _ HX6.out).mono ?_); rintro e1 w5 ⟨rfl, h1⟩; rw [HH3.out]; have E3 := Lib.hid (E2.out.trans h1); clear h1; have mz := (HQ2.out.m.fresh E3.out).cell hkb; have mf := (HQ2.out.m.fresh E3.out).frozen k; rw [HBZ.out] at mz))
                          go_roundg (g.length - (k + 1))
                          case measure => go_light; omega
                          case rel => go_light; exact ⟨b', q', k + 1, by go_num, by omega, rfl, Lib.hid (HQ2.out.fresh E3.out), HP2, HN2⟩
                        | false =>
                          have HP2 : Hid (Push g bs q (comesL g en b j x (k + 1)) (b'.set k true, q' ++ [k])) := Lib.hid (by have := HPS.out; unfold pushW at this; simpa [HBZ.out] using this)
                          go_wp2_with (first | (go_at_call 22; (with_reducible refine (has_any _ (row g k) (j : Int) _ HRG.out).mono ?_); rintro e1 w1 ⟨rfl, h1⟩; rw [HH.out]; have E := Lib.hid h1; clear h1) | (go_at_call 25; (with_reducible refine (set_sl _ m k _ (HU.out.fresh (HF.out.trans E.out))).mono ?_); rintro e1 w2 ⟨q5, c5, rfl, h1, rfl⟩; have HX5 := Lib.hid h1; clear h1) | (go_at_call 22; (with_reducible refine (has_any _ (row m k) x _ HX5.out).mono ?_); rintro e1 w3 ⟨rfl, h1⟩; rw [HH2.out]; have E2 := Lib.hid (E.out.trans h1); clear h1) | (go_at_call 25; (with_reducible refine (set_sl _ en k _ (HV.out.fresh (HF.out.trans E2.out))).mono ?_); rintro e1 w4 ⟨q6, c6, rfl, h1, rfl⟩; have HX6 := Lib.hid h1; clear h1) | (go_at_call 22; (with_reducible refine (has_any _ (row en k) x _ HX6.out).mono ?_); rintro e1 w5 ⟨rfl, h1⟩; rw [HH3.out]; have E3 := Lib.hid (E2.out.trans h1); clear h1; have mz := (HQ2.out.m.fresh E3.out).cell hkb; have mf := (HQ2.out.m.fresh E3.out).frozen k; rw [HBZ.out] at mz) | (at_builtin; have HQ3 := Lib.hid ((HQ2.out.fresh E3.out).mark (Nat.le_refl _) k); refine wpList_app _ rfl (.tmp 85) (.tmp 87) _ rfl (w.heap.size + 1) 3 ii (.int .i64 0) 8 Try.underlying28 hi0 hz0 hz1 hz2 rfl _ _ rfl (HQ3.out.q.alloc _ _) _ [Value.int IntKind.i64 (k : Int)] rfl (news_at _ _ _ _ _ (by simp)) (by intro y hy; simp at hy; subst hy; rfl) (by simp only [nums_len, ints_len, List.length_singleton, maxLen]; omega) (by simp only [nums_len, ints_len, List.length_singleton]; omega) (by have := HQ3.out.m.lt; simp at this ⊢; omega) ?_; intro v5 w7 hq5 hg5 ha5; have HQ4 := Lib.hid (HQ3.out.push (Nat.le_refl _) ((Fresh.refl _).alloc _ _) hq5 hg5); clear hq5 hg5 ha5))
                          go_roundg (g.length - (k + 1))
                          case measure => go_light; omega
                          case rel => go_light; exact ⟨_, _, k + 1, by go_num, by omega, rfl, HQ4, HP2, HN2⟩
                  · have HH := Lib.hid (show has (row g k) (j : Int) = false by simpa [has] using hjk)
                    have HJF : Hid (j ∉ fol g k) := Lib.hid (fun h => hjk ((fol_iff hjl).1 h))
                    have HP2 : Hid (Push g bs q (comesL g en b j x (k + 1)) (b', q')) := Lib.hid (by rw [comesL_no (by simp [comesP, HJF.out])]; exact HP.out)
                    have HN2 : Hid (∀ k', k' < k + 1 → Path g e k' → j ∈ fol g k' → x ∉ row m k') := Lib.hid (fun k' h1 h2 h3 => by
                      by_cases h : k' = k
                      · subst h; exact absurd h3 HJF.out
                      · exact HNM.out k' (by omega) h2 h3)
                    clear hjk hbk
                    go_wp2_with (go_at_call 22; (with_reducible refine (has_any _ (row g k) (j : Int) _ HRG.out).mono ?_); rintro e1 w1 ⟨rfl, h1⟩; rw [HH.out]; have E := Lib.hid h1; clear h1)
                    go_roundg (g.length - (k + 1))
                    case measure => go_light; omega
                    case rel => go_light; exact ⟨b', q', k + 1, by go_num, by omega, rfl, Lib.hid (HQ2.out.fresh E.out), HP2, HN2⟩
              · obtain rfl : k = g.length := by omega
                have HW2 := Lib.hid (come_push HW.out HXU.out (fun k' h1 h2 => HNM.out k' (fol_from h2) h1 h2) (ks := comesL g en b j x g.length) (fun k' h1 h2 h3 => List.mem_filter.2 ⟨List.mem_range.2 (fol_from h2), by simp [comesP, (HPT.out k').2 h1, h2, has, h3]⟩) HP.out)
                have HFL2 := Lib.hid (HP.out.mono t0 HFL.out)
                go_wp2
                go_roundg (2 * unseen b' + q'.length)
                case measure => go_light; have h1 := HK.out; have h2 := HP.out.size; simp at h1 h2; omega
                case rel => go_light; exact ⟨b', q', Lib.hid rfl, by have h1 := HK.out; have h2 := HP.out.size; simp at h1 h2; omega, HQ2, HW2, HFL2⟩
end Go.Proofs.Ytlmlgdojmcmllaa
