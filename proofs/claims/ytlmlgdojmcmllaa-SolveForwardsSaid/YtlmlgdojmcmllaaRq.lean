/- The statement on sets, out of what is asked of the program's own calls. -/
import Derived.Test.YtlmlgdojmcmllaaRp
namespace Go.Proofs.Ytlmlgdojmcmllaa
set_option linter.unusedSimpArgs false
set_option linter.unusedVariables false
open Go.RowKit
open Solve

/-- The rows that a statement holds. -/
structure Rs (w : World) (vn va vb vs : Value) (g a b : Graph) (st : List Int) : Prop where
  n : Rows2 T T w vn g
  a : Rows2 T T w va a
  b : Rows2 T T w vb b
  s : Ints T w vs st
theorem Rs.fresh {w w' : World} {vn va vb vs : Value} {g a b : Graph} {st : List Int} (h : Rs w vn va vb vs g a b st) (hf : Fresh w w') : Rs w' vn va vb vs g a b st := ⟨h.n.fresh hf, h.a.fresh hf, h.b.fresh hf, h.s.fresh hf⟩
theorem take20_len (st : List Int) : (st.take 20).length ≤ 20 := List.length_take_le _ _
set_option maxHeartbeats 16000000 in
set_option maxRecDepth 100000 in
theorem sets_any (hfix : FixC) (hB : BackC 18) (hF : FwdC 20) (vn va vb vs : Value) (g0 a0 b0 : Graph) (entry : Int) (st : List Int) (w : World) (h : Rs w vn va vb vs g0 a0 b0 st) (wa : Wd a0) (wb : Wd b0) (ws : WdL st) :
    Calls Try.prog 4 #[vn, .int .i64 entry, vs, va, vb] w fun e w' => e = .returned (.bool true) ∧ Fresh w w' := by
  have HFX := Lib.hid hfix
  have HPB := Lib.hid hB
  have HPF := Lib.hid hF
  have HRB := Lib.hid backR_c
  have HRF := Lib.hid fwdR_c
  have HS0 := Lib.hid h
  have HWA := Lib.hid (wd_few wa)
  have HWB := Lib.hid (wd_few wb)
  have HWS := Lib.hid (wdL_take ws 20)
  clear wa wb ws
  obtain ⟨qs, cs, rfl, ⟨hcs, hms⟩, _⟩ := h.s.form
  unfold maxLen at hms
  obtain ⟨i0, hi0, hz0, hz1, hz2⟩ := info_parts int_info
  clear hfix hB hF h
  go_enter Try.func4, Try.ntmps4
  go_wp2_with fail
  go_at_call 8; (with_reducible refine (HFX.out _).mono ?_); rintro e w1 ⟨rfl, h1⟩; have E1 := Lib.hid h1; have HS1 := Lib.hid (HS0.out.fresh h1); clear h1 HS0
  go_wp2_with fail
  go_at_call 9; (with_reducible refine (few_any _ g0 _ HS1.out.n).mono ?_); rintro e w2 ⟨n1, rfl, hn, h2⟩; have HN := Lib.hid hn.any; have HS2 := Lib.hid (HS1.out.fresh h2); have E2 := Lib.hid (E1.out.trans h2); clear hn h2 E1 HS1
  go_wp2_with fail
  go_at_call 9; (with_reducible refine (few_any _ a0 _ HS2.out.a).mono ?_); rintro e w3 ⟨a1, rfl, hn, h2⟩; have HA := Lib.hid hn.any; have HN' := Lib.hid (HN.out.fresh h2); have HS3 := Lib.hid (HS2.out.fresh h2); have E3 := Lib.hid (E2.out.trans h2); clear hn h2 E2 HS2 HN
  go_wp2_with fail
  go_at_call 9; (with_reducible refine (few_any _ b0 _ HS3.out.b).mono ?_); rintro e w4 ⟨b1, rfl, hn, h2⟩; have HX : Hid (Rs w4 n1 a1 b1 (.slice qs st.length cs) (fewG g0) (fewG a0) (fewG b0) st) := Lib.hid ⟨HN'.out.fresh h2, HA.out.fresh h2, hn.any, HS3.out.s.fresh h2⟩; have E4 := Lib.hid (E3.out.trans h2); clear hn h2 E3 HS3 HN' HA
  go_upto_if 25 with fail
  go_cut [2] (fun s2 wx => ∃ n, s2 = .slice qs n cs ∧ wx = w4 ∧ n ≤ 20 ∧ Hid (Rs w4 n1 a1 b1 (.slice qs n cs) (fewG g0) (fewG a0) (fewG b0) (st.take 20)))
  case first =>
    by_cases h20 : 20 < st.length
    · have HX' : Hid (Rs w4 n1 a1 b1 (.slice qs 20 cs) (fewG g0) (fewG a0) (fewG b0) (st.take 20)) := Lib.hid ⟨HX.out.n, HX.out.a, HX.out.b, HX.out.s.take 20 (by omega)⟩
      have h20c : 20 ≤ cs := by omega
      go_wp2
      go_meet
      exact ⟨_, rfl, rfl, by omega, HX'⟩
    · have HX' : Hid (Rs w4 n1 a1 b1 (.slice qs st.length cs) (fewG g0) (fewG a0) (fewG b0) (st.take 20)) := Lib.hid (by rw [List.take_of_length_le (by omega)]; exact HX.out)
      go_wp2
      go_meet
      exact ⟨_, rfl, rfl, by omega, HX'⟩
  case rest =>
    obtain ⟨n, rfl, rfl, hn20, HX'⟩ := hcut
    clear HX
    have HSG := Lib.hid (sm_few g0)
    have HSA := Lib.hid (sm_few a0)
    have HSB := Lib.hid (sm_few b0)
    have HFG := Lib.hid (fewG_few g0)
    have HFA := Lib.hid (fewG_few a0)
    have HFB := Lib.hid (fewG_few b0)
    have hsl := take20_len st
    obtain ⟨g, hg⟩ : ∃ g, g = fewG g0 := ⟨_, rfl⟩
    obtain ⟨a, ha⟩ : ∃ a, a = fewG a0 := ⟨_, rfl⟩
    obtain ⟨b, hb⟩ : ∃ b, b = fewG b0 := ⟨_, rfl⟩
    obtain ⟨t, ht⟩ : ∃ t, t = st.take 20 := ⟨_, rfl⟩
    rw [← hg] at HX' HSG HFG
    rw [← ha] at HX' HSA HFA HWA
    rw [← hb] at HX' HSB HFB HWB
    rw [← ht] at HX' hsl HWS
    clear hg ha hb ht
    have hnt : n = t.length := by
      have := HX'.out.s.form
      obtain ⟨_, _, h9, _⟩ := this
      injection h9
    have HNT := Lib.hid hnt
    clear hnt
    go_wp2_with fail
    go_at_call 9; (with_reducible refine (few_any _ g _ HX'.out.n).mono ?_); rintro e w5 ⟨x1, rfl, hn, h2⟩; rw [HFG.out] at hn; have HN := Lib.hid hn.any; have HX5 := Lib.hid (HX'.out.fresh h2); have E5 := Lib.hid (E4.out.trans h2); clear hn h2 E4 HX'
    go_wp2_with fail
    go_at_call 9; (with_reducible refine (few_any _ a _ HX5.out.a).mono ?_); rintro e w6 ⟨y1, rfl, hn, h2⟩; rw [HFA.out] at hn; have HA := Lib.hid hn.any; have HN6 := Lib.hid (HN.out.fresh h2); have HX6 := Lib.hid (HX5.out.fresh h2); have E6 := Lib.hid (E5.out.trans h2); clear hn h2 E5 HX5 HN
    go_wp2_with fail
    go_at_call 9; (with_reducible refine (few_any _ b _ HX6.out.b).mono ?_); rintro e w7 ⟨z1, rfl, hn, h2⟩; rw [HFB.out] at hn; have HB7 := Lib.hid hn.any; have HA7 := Lib.hid (HA.out.fresh h2); have HN7 := Lib.hid (HN6.out.fresh h2); have HX7 := Lib.hid (HX6.out.fresh h2); have E7 := Lib.hid (E6.out.trans h2); clear hn h2 E6 HX6 HN6 HA
    go_wp2_with (at_builtin; refine wpList_appF _ rfl (.tmp 34) (.tmp 35) _ rfl w7 3 i0 (.int .i64 0) 8 Try.underlying28 hi0 hz0 hz1 hz2 rfl _ [] rfl ((Fresh.refl _).alloc _ _) (Que.made _ _ _ _ (Nat.le_refl _)) _ (nums t) rfl (HX7.out.s.fresh ((Fresh.refl _).alloc _ _)).news (nums_one _) (by simp only [nums_len, List.length_nil, maxLen]; omega) (by simp only [nums_len, List.length_nil]; omega) ?_; intro u1 w8 hq5 hf5 _ _; have hq6 : Que w8 w7.heap.size 3 u1 (nums t) := (by simpa using hq5); have HY : Hid (Rs w8 x1 y1 z1 u1 g a b t) := Lib.hid ⟨HN7.out.fresh hf5, HA7.out.fresh hf5, HB7.out.fresh hf5, hq6.ints⟩; have HX8 := Lib.hid (HX7.out.fresh hf5); have E8 := Lib.hid (E7.out.trans hf5); clear hq5 hq6 hf5)
    clear HN7 HA7 HB7 HX7 E7
    go_at_call 18; (with_reducible refine (HPB.out _ _ _ g a b _ HSG.out HSA.out HSB.out HWA.out HWB.out HY.out.n HY.out.a HY.out.b).mono ?_); rintro e v1 ⟨r1, k1, rfl, ho, hb, h2⟩; have HP1 := Lib.hid ho; have HPX := Lib.hid hb; have F1 := Lib.hid h2; clear ho hb h2
    go_wp2_with fail
    go_at_call 19; (with_reducible refine (HRB.out _ _ _ g a b _ HSG.out HSA.out HSB.out HWA.out HWB.out (HX8.out.fresh F1.out).n (HX8.out.fresh F1.out).a (HX8.out.fresh F1.out).b).mono ?_); rintro e v2 ⟨r2, k2, rfl, ho, hb, h2⟩; have HP2 := Lib.hid ho; have HPE := Lib.hid (HPX.out.unique hb); have HP1b := Lib.hid (HP1.out.fresh h2); have F2 := Lib.hid (F1.out.trans h2); clear ho hb h2 HP1 F1 HPX
    obtain rfl := HPE.out
    go_wp2_with fail
    go_at_call 15; (with_reducible refine (same2_any _ _ k1 _ HP1b.out HP2.out).mono ?_); rintro e v3 ⟨rfl, h2⟩; have F3 := Lib.hid (F2.out.trans h2); clear h2 F2 HP1b HP2 HPE
    go_wp2_with fail
    go_at_call 20; (with_reducible refine (HPF.out _ _ _ _ g entry t a b _ HSG.out hsl HSA.out HSB.out HWS.out HWA.out HWB.out (HY.out.fresh F3.out).n (HY.out.fresh F3.out).s (HY.out.fresh F3.out).a (HY.out.fresh F3.out).b).mono ?_); rintro e v4 ⟨r3, k3, rfl, ho, hb, h2⟩; have HP1 := Lib.hid ho; have HPX := Lib.hid hb; have F4 := Lib.hid (F3.out.trans h2); clear ho hb h2 F3
    go_wp2_with fail
    go_at_call 21; (with_reducible refine (HRF.out _ _ _ _ g entry t a b _ HSG.out hsl HSA.out HSB.out HWS.out HWA.out HWB.out (HX8.out.fresh F4.out).n (HX8.out.fresh F4.out).s (HX8.out.fresh F4.out).a (HX8.out.fresh F4.out).b).mono ?_); rintro e v5 ⟨r4, k4, rfl, ho, hb, h2⟩; have HP2 := Lib.hid ho; have HPE := Lib.hid (HPX.out.unique hb); have HP1b := Lib.hid (HP1.out.fresh h2); have F5 := Lib.hid (F4.out.trans h2); clear ho hb h2 HP1 F4 HPX
    obtain rfl := HPE.out
    go_wp2_with fail
    go_at_call 15; (with_reducible refine (same2_any _ _ k3 _ HP1b.out HP2.out).mono ?_); rintro e v6 ⟨rfl, h2⟩; have F6 := Lib.hid (F5.out.trans h2); clear h2 F5 HP1b HP2 HPE
    go_wp2_with fail
    go_at_call 15; (with_reducible refine (same2_any _ _ g _ (HY.out.fresh F6.out).n (HX8.out.fresh F6.out).n).mono ?_); rintro e v7 ⟨rfl, h2⟩; have F7 := Lib.hid (F6.out.trans h2); clear h2 F6
    go_wp2_with fail
    go_at_call 15; (with_reducible refine (same2_any _ _ a _ (HY.out.fresh F7.out).a (HX8.out.fresh F7.out).a).mono ?_); rintro e v8 ⟨rfl, h2⟩; have F8 := Lib.hid (F7.out.trans h2); clear h2 F7
    go_wp2_with fail
    go_at_call 15; (with_reducible refine (same2_any _ _ b _ (HY.out.fresh F8.out).b (HX8.out.fresh F8.out).b).mono ?_); rintro e v9 ⟨rfl, h2⟩; have F9 := Lib.hid (F8.out.trans h2); clear h2 F8
    go_wp2_with fail
    go_at_call 12; (with_reducible refine (same_any _ _ t _ (HY.out.fresh F9.out).s (HX8.out.fresh F9.out).s).mono ?_); rintro e v10 ⟨rfl, h2⟩; have F10 := Lib.hid (E8.out.trans (F9.out.trans h2)); clear h2 F9
    go_wp2
    go_ret
    exact ⟨rfl, F10.out⟩
end Go.Proofs.Ytlmlgdojmcmllaa
