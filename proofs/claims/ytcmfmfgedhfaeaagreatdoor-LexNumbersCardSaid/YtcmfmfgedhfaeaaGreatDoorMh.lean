/- LexNumbers' function, walked whole. -/
import Derived.Test.YtcmfmfgedhfaeaaGreatDoorMg
namespace Go.Proofs.YtcmfmfgedhfaeaaGreatDoor
set_option linter.unusedSimpArgs false
set_option linter.unusedVariables false
open Go.RowKit

theorem idx7 (q : Int) : 0 ≤ wrap64 ((IntKind.u64.wrap q).tmod 7) ∧ wrap64 ((IntKind.u64.wrap q).tmod 7) < 7 := by
  rw [IntKind.wrap_u64]
  have h1 : 0 ≤ q % 18446744073709551616 := by omega
  rw [Int.tmod_eq_emod_of_nonneg h1]
  unfold wrap64
  omega
theorem tail_at (j : Nat) (h : j < ([Value.string { data := #[] }, Value.string { data := #[117] }, Value.string { data := #[76] }, Value.string { data := #[117, 76] }, Value.string { data := #[108, 85] }, Value.string { data := #[85] }, Value.string { data := #[108] }] : List Value).length) : ∃ T : ByteArray, ([Value.string { data := #[] }, Value.string { data := #[117] }, Value.string { data := #[76] }, Value.string { data := #[117, 76] }, Value.string { data := #[108, 85] }, Value.string { data := #[85] }, Value.string { data := #[108] }] : List Value)[j] = .string T ∧ T.data.toList = tailK j ∧ j < 7 ∧ T.size ≤ 2 := by
  have h7 : j < 7 := h
  match j, h with
  | 0, _ => exact ⟨⟨#[]⟩, rfl, rfl, by omega, by decide⟩
  | 1, _ => exact ⟨⟨#[117]⟩, rfl, rfl, by omega, by decide⟩
  | 2, _ => exact ⟨⟨#[76]⟩, rfl, rfl, by omega, by decide⟩
  | 3, _ => exact ⟨⟨#[117, 76]⟩, rfl, rfl, by omega, by decide⟩
  | 4, _ => exact ⟨⟨#[108, 85]⟩, rfl, rfl, by omega, by decide⟩
  | 5, _ => exact ⟨⟨#[85]⟩, rfl, rfl, by omega, by decide⟩
  | 6, _ => exact ⟨⟨#[108]⟩, rfl, rfl, by omega, by decide⟩
  | j + 7, h => omega
theorem hex_at : ∀ d : Fin 16, (⟨#[48, 49, 50, 51, 52, 53, 54, 55, 56, 57, 97, 98, 99, 100, 101, 102]⟩ : ByteArray).extract d.val (d.val + 1) = ⟨#[dig d.val]⟩ := by decide +kernel
theorem tok_one (s : ByteArray) (n : Nat) (h : tokensF s = .ok [⟨3, 1, 1, s, n, ⟨#[]⟩⟩, endT 1 (1 + (s.size : Int))]) (w : World) (hT : Tabs w) : Calls Tryz.prog 8 #[.string s] w fun e w' => (∃ g cap, e = .returned (.tuple #[.slice (some ⟨g, 0, none⟩) 2 cap, .agg #[.int .i64 0, .int .i64 0], .int .i64 0]) ∧ w'.cell? ⟨g, 0, none⟩ = some (.int .i64 3) ∧ w'.cell? ⟨g, 3, none⟩ = some (.string s) ∧ w'.cell? ⟨g, 4, none⟩ = some (.int .u64 n)) ∧ Fresh w w' := by
  refine (tokens_any _ w hT).mono ?_
  rintro e w' ⟨⟨h1, h2⟩, h3⟩
  refine ⟨?_, h3⟩
  obtain ⟨v, hv, hown⟩ := h2 _ h
  obtain ⟨g, cap, rfl, h4, h5, hc⟩ := own_open _ _ _ _ _ hown (by simp)
  exact ⟨g, cap, hv, hc 0 _ rfl, hc 3 _ rfl, hc 4 _ rfl⟩
set_option maxRecDepth 100000 in
set_option maxHeartbeats 4000000 in
theorem numbers_8 (n : Nat) (fo q : Int) (hn : n < 18446744073709551616) (b1 : (bits .and .i64 fo 3 == 1) = true) (w : World) (hT : Tabs w) : Calls Tryz.prog 5 #[.int .u64 n, .int .i64 fo, .int .i64 q] w fun e w' => e = .returned (.bool true) ∧ Fresh w w' := by
  have HT := Lib.hid hT
  have hq := idx7 q
  have HTA := Lib.hid (tail_at (wrap64 ((IntKind.u64.wrap q).tmod 7)).toNat (by show _ < 7; omega))
  have HNN := Lib.hid hn
  clear hT hn
  obtain ⟨VN, hVN⟩ : ∃ VN : Int, VN = (n : Int) := ⟨_, rfl⟩
  have HVN := Lib.hid hVN
  rw [← hVN]
  have hv0 : 0 ≤ VN := by omega
  clear hVN
  go_enter Tryz.func5, Tryz.ntmps5
  go_wp2_with fail
  go_at_call 7; refine (fixed_any _ HT.out).mono ?_; rintro e w1 ⟨rfl, f1⟩
  have F1 := Lib.hid f1
  clear f1
  go_upto_region 4 with fail
  obtain ⟨T0, hT0, hTl, hj7, hTs⟩ := HTA.out
  have HTL := Lib.hid hTl
  generalize hV0 : ([Value.string { data := #[] }, Value.string { data := #[117] }, Value.string { data := #[76] }, Value.string { data := #[117, 76] }, Value.string { data := #[108, 85] }, Value.string { data := #[85] }, Value.string { data := #[108] }] : List Value)[(wrap64 ((IntKind.u64.wrap q).tmod 7)).toNat]'_ = V0 at *
  subst hT0
  have F2 := Lib.hid (F1.out.alloc #[Value.string { data := #[] }, Value.string { data := #[117] }, Value.string { data := #[76] }, Value.string { data := #[117, 76] }, Value.string { data := #[108, 85] }, Value.string { data := #[85] }, Value.string { data := #[108] }] 9)
  clear HTA F1 hTl hV0
  generalize hw2 : w1.alloc (.cells #[Value.string { data := #[] }, Value.string { data := #[117] }, Value.string { data := #[76] }, Value.string { data := #[117, 76] }, Value.string { data := #[108, 85] }, Value.string { data := #[85] }, Value.string { data := #[108] }] 9) = w2 at *
  clear hw2
  generalize (wrap64 ((IntKind.u64.wrap q).tmod 7)) = J at *
  have hbm : ∀ v : Nat, v % 8 < 16 := fun v => by omega
  go_wp2_with fail
  go_loopw [8, 10] (fun tx v wr => ∃ (f vn : Nat) (T : ByteArray) (V : Int), tx = .string T ∧ v = .int .u64 V ∧ T.size + f = 64 ∧ Hid (V = (vn : Int) ∧ vn < 2 ^ f ∧ vn < 18446744073709551616) ∧ Hid (digL 8 f vn T.data.toList = numT 8 n) ∧ Hid (Fresh w wr)) (fun _ v _ => (intOf v).toNat)
  case atStart => exact ⟨64, n, ⟨#[]⟩, VN, rfl, rfl, rfl, Lib.hid ⟨HVN.out, by have := HNN.out; simpa using this, HNN.out⟩, Lib.hid rfl, F2⟩
  case round =>
    obtain ⟨f, vn, T, V, rfl, rfl, hTf, HV, HD, HF⟩ := hrel
    clear F2
    have v0 : 0 ≤ V := by have := HV.out; omega
    by_cases hpos : 0 < V
    · have hv : vn ≠ 0 := by have := HV.out; omega
      obtain ⟨f, rfl⟩ : ∃ g, f = g + 1 := by
        cases f with
        | zero => exact absurd (by have := HV.out.2.1; simpa using this) hv
        | succ g => exact ⟨g, rfl⟩
      have HD2 : Hid (digL 8 f (vn / 8) (dig (vn % 8) :: T.data.toList) = numT 8 n) := Lib.hid (by have := HD.out; simpa [digL, hv] using this)
      have HV2 : Hid (V / 8 = ((vn / 8 : Nat) : Int) ∧ vn / 8 < 2 ^ f ∧ vn / 8 < 18446744073709551616) := Lib.hid (by
        have h1 := HV.out
        have h2 : vn / 8 ≤ vn / 2 := Nat.div_le_div_left (by decide) (by decide)
        rw [Nat.pow_succ] at h1
        refine ⟨?_, by omega, by omega⟩
        rw [h1.1]
        rfl)
      have hlt : V / 8 < V := by omega
      have hq0 : 0 ≤ V / 8 := by omega
      have m0 : 0 ≤ V % 8 := by omega
      have m1 : V % 8 < 8 := by omega
      have HX : Hid ((⟨#[48, 49, 50, 51, 52, 53, 54, 55, 56, 57, 97, 98, 99, 100, 101, 102]⟩ : ByteArray).extract (V % 8).toNat (V % 8 + 1).toNat = ⟨#[dig (vn % 8)]⟩) := Lib.hid (by
        have h1 := HV.out
        have e1 : (V % 8).toNat = vn % 8 := by omega
        have e2 : (V % 8 + 1).toNat = vn % 8 + 1 := by omega
        rw [e1, e2]
        exact hex_at ⟨vn % 8, hbm vn⟩)
      have HWV : Hid (IntKind.u64.wrap (V.tdiv 8) = V / 8) := Lib.hid (by rw [Int.tdiv_eq_ediv_of_nonneg v0, IntKind.wrap_u64]; have := HV.out; omega)
      have hw1 : IntKind.u64.wrap (V % 8 + 1) = V % 8 + 1 := by rw [IntKind.wrap_u64]; omega
      have hsz : ¬ 9223372036854775807 < 1 + (T.size : Int) := by omega
      clear hv HD HV hbm
      go_wp2_with fail
      go_quiet (fail)
      go_wp2_with fail
      go_roundw
      case rel =>
        refine ⟨f, vn / 8, _, _, rfl, rfl, ?_, Lib.hid (by rw [HWV.out]; exact HV2.out), ?_, HF.out.drewN _ |> Lib.hid⟩
        · have h1 : (⟨#[dig (vn % 8)]⟩ : ByteArray).size = 1 := rfl
          rw [HX.out, ByteArray.size_append, h1]
          clear hw1
          omega
        · refine Lib.hid ?_
          rw [HX.out]
          exact HD2.out
      case measure => simp only [intOf]; rw [HWV.out]; clear hw1; omega
    · have hv : vn = 0 := by have := HV.out; omega
      have HT2 : Hid (T.data.toList = numT 8 n) := Lib.hid (by have := HD.out; subst hv; cases f <;> simpa [digL] using this)
      clear hv HD HV hbm
      have HTOK : Hid (tokensF (((⟨#[48]⟩ : ByteArray) ++ T) ++ T0) = .ok [⟨3, 1, 1, ((⟨#[48]⟩ : ByteArray) ++ T) ++ T0, n, ⟨#[]⟩⟩, endT 1 (1 + (((((⟨#[48]⟩ : ByteArray) ++ T) ++ T0).size : Nat) : Int))]) := Lib.hid (by
        refine form_tok _ n J.toNat (form8 n) hj7 ?_ (whole8 n _ HNN.out hj7) ?_ ⟨48, _, rfl, by decide, by decide⟩ ?_
        · rw [ByteArray.data_append, Array.toList_append, ByteArray.data_append, Array.toList_append, HTL.out, HT2.out]; rfl
        · intro c hc
          rcases List.mem_cons.1 hc with rfl | hc
          · decide
          · exact (digs_out 8 (by decide) _ (numT_digs 8 n (by decide)) c hc).2
        · have := digL_len 8 64 n []
          simp only [form8, List.length_cons]
          unfold numT
          simp at this; omega)
      have hsz : ¬ 9223372036854775807 < 1 + (T.size : Int) := by omega
      have hsz2 : ¬ 9223372036854775807 < 1 + (T.size : Int) + (T0.size : Int) := by omega
      go_wp2_with fail
      go_at_call 8; refine (tok_one _ n HTOK.out _ (HT.out.fresh HF.out)).mono ?_; rintro e w5 ⟨⟨g, cap, rfl, c0, c1, c2⟩, f5⟩
      have HF5 := Lib.hid (HF.out.trans f5)
      have K0 := Lib.hid c0
      have K1 := Lib.hid c1
      have K2 := Lib.hid c2
      clear c0 c1 c2 f5
      go_upto_region 22 with fail
      have F6 : Hid (Fresh w5 (w5.alloc (.cells #[.int .i64 0, .int .i64 0] 25))) := Lib.hid ((Fresh.refl _).alloc _ _)
      have F7 := Lib.hid (HF5.out.trans F6.out)
      generalize w5.alloc (.cells #[.int .i64 0, .int .i64 0] 25) = w6 at *
      have c0 := F6.out.at' K0.out
      have c1 := F6.out.at' K1.out
      have c2 := F6.out.at' K2.out
      rw [← HVN.out] at c2
      go_wp2_with fail
      go_ret
      exact ⟨rfl, F7.out⟩
set_option maxRecDepth 100000 in
set_option maxHeartbeats 4000000 in
theorem numbers_16a (n : Nat) (fo q : Int) (hn : n < 18446744073709551616) (b1 : (bits .and .i64 fo 3 == 1) = false) (b2 : (bits .and .i64 fo 3 == 2) = true) (w : World) (hT : Tabs w) : Calls Tryz.prog 5 #[.int .u64 n, .int .i64 fo, .int .i64 q] w fun e w' => e = .returned (.bool true) ∧ Fresh w w' := by
  have HT := Lib.hid hT
  have hq := idx7 q
  have HTA := Lib.hid (tail_at (wrap64 ((IntKind.u64.wrap q).tmod 7)).toNat (by show _ < 7; omega))
  have HNN := Lib.hid hn
  clear hT hn
  obtain ⟨VN, hVN⟩ : ∃ VN : Int, VN = (n : Int) := ⟨_, rfl⟩
  have HVN := Lib.hid hVN
  rw [← hVN]
  have hv0 : 0 ≤ VN := by omega
  clear hVN
  go_enter Tryz.func5, Tryz.ntmps5
  go_wp2_with fail
  go_at_call 7; refine (fixed_any _ HT.out).mono ?_; rintro e w1 ⟨rfl, f1⟩
  have F1 := Lib.hid f1
  clear f1
  go_upto_region 4 with fail
  obtain ⟨T0, hT0, hTl, hj7, hTs⟩ := HTA.out
  have HTL := Lib.hid hTl
  generalize hV0 : ([Value.string { data := #[] }, Value.string { data := #[117] }, Value.string { data := #[76] }, Value.string { data := #[117, 76] }, Value.string { data := #[108, 85] }, Value.string { data := #[85] }, Value.string { data := #[108] }] : List Value)[(wrap64 ((IntKind.u64.wrap q).tmod 7)).toNat]'_ = V0 at *
  subst hT0
  have F2 := Lib.hid (F1.out.alloc #[Value.string { data := #[] }, Value.string { data := #[117] }, Value.string { data := #[76] }, Value.string { data := #[117, 76] }, Value.string { data := #[108, 85] }, Value.string { data := #[85] }, Value.string { data := #[108] }] 9)
  clear HTA F1 hTl hV0
  generalize hw2 : w1.alloc (.cells #[Value.string { data := #[] }, Value.string { data := #[117] }, Value.string { data := #[76] }, Value.string { data := #[117, 76] }, Value.string { data := #[108, 85] }, Value.string { data := #[85] }, Value.string { data := #[108] }] 9) = w2 at *
  clear hw2
  generalize (wrap64 ((IntKind.u64.wrap q).tmod 7)) = J at *
  have hbm : ∀ v : Nat, v % 16 < 16 := fun v => by omega
  go_wp2_with fail
  go_loopw [8, 10] (fun tx v wr => ∃ (f vn : Nat) (T : ByteArray) (V : Int), tx = .string T ∧ v = .int .u64 V ∧ T.size + f = 64 ∧ Hid (V = (vn : Int) ∧ vn < 2 ^ f ∧ vn < 18446744073709551616) ∧ Hid (digL 16 f vn T.data.toList = numT 16 n) ∧ Hid (Fresh w wr)) (fun _ v _ => (intOf v).toNat)
  case atStart => exact ⟨64, n, ⟨#[]⟩, VN, rfl, rfl, rfl, Lib.hid ⟨HVN.out, by have := HNN.out; simpa using this, HNN.out⟩, Lib.hid rfl, F2⟩
  case round =>
    obtain ⟨f, vn, T, V, rfl, rfl, hTf, HV, HD, HF⟩ := hrel
    clear F2
    have v0 : 0 ≤ V := by have := HV.out; omega
    by_cases hpos : 0 < V
    · have hv : vn ≠ 0 := by have := HV.out; omega
      obtain ⟨f, rfl⟩ : ∃ g, f = g + 1 := by
        cases f with
        | zero => exact absurd (by have := HV.out.2.1; simpa using this) hv
        | succ g => exact ⟨g, rfl⟩
      have HD2 : Hid (digL 16 f (vn / 16) (dig (vn % 16) :: T.data.toList) = numT 16 n) := Lib.hid (by have := HD.out; simpa [digL, hv] using this)
      have HV2 : Hid (V / 16 = ((vn / 16 : Nat) : Int) ∧ vn / 16 < 2 ^ f ∧ vn / 16 < 18446744073709551616) := Lib.hid (by
        have h1 := HV.out
        have h2 : vn / 16 ≤ vn / 2 := Nat.div_le_div_left (by decide) (by decide)
        rw [Nat.pow_succ] at h1
        refine ⟨?_, by omega, by omega⟩
        rw [h1.1]
        rfl)
      have hlt : V / 16 < V := by omega
      have hq0 : 0 ≤ V / 16 := by omega
      have m0 : 0 ≤ V % 16 := by omega
      have m1 : V % 16 < 16 := by omega
      have HX : Hid ((⟨#[48, 49, 50, 51, 52, 53, 54, 55, 56, 57, 97, 98, 99, 100, 101, 102]⟩ : ByteArray).extract (V % 16).toNat (V % 16 + 1).toNat = ⟨#[dig (vn % 16)]⟩) := Lib.hid (by
        have h1 := HV.out
        have e1 : (V % 16).toNat = vn % 16 := by omega
        have e2 : (V % 16 + 1).toNat = vn % 16 + 1 := by omega
        rw [e1, e2]
        exact hex_at ⟨vn % 16, hbm vn⟩)
      have HWV : Hid (IntKind.u64.wrap (V.tdiv 16) = V / 16) := Lib.hid (by rw [Int.tdiv_eq_ediv_of_nonneg v0, IntKind.wrap_u64]; have := HV.out; omega)
      have hw1 : IntKind.u64.wrap (V % 16 + 1) = V % 16 + 1 := by rw [IntKind.wrap_u64]; omega
      have hsz : ¬ 9223372036854775807 < 1 + (T.size : Int) := by omega
      clear hv HD HV hbm
      go_wp2_with fail
      go_quiet (fail)
      go_wp2_with fail
      go_roundw
      case rel =>
        refine ⟨f, vn / 16, _, _, rfl, rfl, ?_, Lib.hid (by rw [HWV.out]; exact HV2.out), ?_, HF.out.drewN _ |> Lib.hid⟩
        · have h1 : (⟨#[dig (vn % 16)]⟩ : ByteArray).size = 1 := rfl
          rw [HX.out, ByteArray.size_append, h1]
          clear hw1
          omega
        · refine Lib.hid ?_
          rw [HX.out]
          exact HD2.out
      case measure => simp only [intOf]; rw [HWV.out]; clear hw1; omega
    · have hv : vn = 0 := by have := HV.out; omega
      have HT2 : Hid (T.data.toList = numT 16 n) := Lib.hid (by have := HD.out; subst hv; cases f <;> simpa [digL] using this)
      clear hv HD HV hbm
      by_cases h0 : n = 0
      · have hTn : T.data.toList = [] := by rw [HT2.out, h0]; rfl
        have b0 : (T.toList == []) = true := by rw [ByteArray.toList_eq, hTn]; rfl
        have b0x : T.toList.isEmpty = true := by rw [ByteArray.toList_eq, hTn]; rfl
        clear hTn
        have HTOK : Hid (tokensF ((⟨#[48, 120, 48]⟩ : ByteArray) ++ T0) = .ok [⟨3, 1, 1, (⟨#[48, 120, 48]⟩ : ByteArray) ++ T0, n, ⟨#[]⟩⟩, endT 1 (1 + (((((⟨#[48, 120, 48]⟩ : ByteArray) ++ T0).size : Nat)) : Int))]) := Lib.hid (by
          refine form_tok _ n J.toNat (form16 n) hj7 ?_ (whole16 n _ HNN.out hj7) ?_ ?_ ?_
          · rw [ByteArray.data_append, Array.toList_append, HTL.out]; unfold form16; rw [if_pos h0]
          · unfold form16; rw [if_pos h0]; intro c hc; simp at hc; rcases hc with rfl | rfl | rfl <;> decide
          · unfold form16; rw [if_pos h0]; exact ⟨48, _, rfl, by decide, by decide⟩
          · unfold form16; rw [if_pos h0]; decide)
        have hsz2 : ¬ 9223372036854775807 < 3 + (T0.size : Int) := by omega
        go_wp2_with fail
        go_at_call 8; refine (tok_one _ n HTOK.out _ (HT.out.fresh HF.out)).mono ?_; rintro e w5 ⟨⟨g, cap, rfl, c0, c1, c2⟩, f5⟩
        have HF5 := Lib.hid (HF.out.trans f5)
        have K0 := Lib.hid c0
        have K1 := Lib.hid c1
        have K2 := Lib.hid c2
        clear c0 c1 c2 f5
        go_upto_region 22 with fail
        have F6 : Hid (Fresh w5 (w5.alloc (.cells #[.int .i64 0, .int .i64 0] 25))) := Lib.hid ((Fresh.refl _).alloc _ _)
        have F7 := Lib.hid (HF5.out.trans F6.out)
        generalize w5.alloc (.cells #[.int .i64 0, .int .i64 0] 25) = w6 at *
        have c0 := F6.out.at' K0.out
        have c1 := F6.out.at' K1.out
        have c2 := F6.out.at' K2.out
        rw [← HVN.out] at c2
        go_wp2_with fail
        go_ret
        exact ⟨rfl, F7.out⟩

      · have hTn : T.data.toList ≠ [] := by
          rw [HT2.out]
          obtain ⟨d, r, _, _, hT⟩ := numT_head 16 n (by decide) HNN.out h0
          rw [hT]; simp
        have b0 : (T.toList == []) = false := by rw [ByteArray.toList_eq]; simpa using hTn
        have b0x : T.toList.isEmpty = false := by rw [ByteArray.toList_eq]; simpa using hTn
        clear hTn
        have HTOK : Hid (tokensF (((⟨#[48, 88]⟩ : ByteArray) ++ T) ++ T0) = .ok [⟨3, 1, 1, ((⟨#[48, 88]⟩ : ByteArray) ++ T) ++ T0, n, ⟨#[]⟩⟩, endT 1 (1 + ((((((⟨#[48, 88]⟩ : ByteArray) ++ T) ++ T0).size : Nat)) : Int))]) := Lib.hid (by
          refine form_tok _ n J.toNat (form16 n) hj7 ?_ (whole16 n _ HNN.out hj7) ?_ ?_ ?_
          · rw [ByteArray.data_append, Array.toList_append, ByteArray.data_append, Array.toList_append, HTL.out, HT2.out]; unfold form16; rw [if_neg h0]; rfl
          · unfold form16; rw [if_neg h0]; intro c hc; rcases List.mem_cons.1 hc with rfl | hc; decide; rcases List.mem_cons.1 hc with rfl | hc; decide; exact (digs_out 16 (by decide) _ (numT_digs 16 n (by decide)) c hc).2
          · unfold form16; rw [if_neg h0]; exact ⟨48, _, rfl, by decide, by decide⟩
          · have := digL_len 16 64 n []; unfold form16; rw [if_neg h0]; (try simp only [List.length_cons, List.length_nil]); (try unfold numT); simp at this; omega)
        have hsz : ¬ 9223372036854775807 < 2 + (T.size : Int) := by omega
        have hsz2 : ¬ 9223372036854775807 < 2 + (T.size : Int) + (T0.size : Int) := by omega
        go_wp2_with fail
        go_at_call 8; refine (tok_one _ n HTOK.out _ (HT.out.fresh HF.out)).mono ?_; rintro e w5 ⟨⟨g, cap, rfl, c0, c1, c2⟩, f5⟩
        have HF5 := Lib.hid (HF.out.trans f5)
        have K0 := Lib.hid c0
        have K1 := Lib.hid c1
        have K2 := Lib.hid c2
        clear c0 c1 c2 f5
        go_upto_region 22 with fail
        have F6 : Hid (Fresh w5 (w5.alloc (.cells #[.int .i64 0, .int .i64 0] 25))) := Lib.hid ((Fresh.refl _).alloc _ _)
        have F7 := Lib.hid (HF5.out.trans F6.out)
        generalize w5.alloc (.cells #[.int .i64 0, .int .i64 0] 25) = w6 at *
        have c0 := F6.out.at' K0.out
        have c1 := F6.out.at' K1.out
        have c2 := F6.out.at' K2.out
        rw [← HVN.out] at c2
        go_wp2_with fail
        go_ret
        exact ⟨rfl, F7.out⟩
set_option maxRecDepth 100000 in
set_option maxHeartbeats 4000000 in
theorem numbers_16b (n : Nat) (fo q : Int) (hn : n < 18446744073709551616) (b1 : (bits .and .i64 fo 3 == 1) = false) (b2 : (bits .and .i64 fo 3 == 2) = false) (b3 : (bits .and .i64 fo 3 == 3) = true) (w : World) (hT : Tabs w) : Calls Tryz.prog 5 #[.int .u64 n, .int .i64 fo, .int .i64 q] w fun e w' => e = .returned (.bool true) ∧ Fresh w w' := by
  have HT := Lib.hid hT
  have hq := idx7 q
  have HTA := Lib.hid (tail_at (wrap64 ((IntKind.u64.wrap q).tmod 7)).toNat (by show _ < 7; omega))
  have HNN := Lib.hid hn
  clear hT hn
  obtain ⟨VN, hVN⟩ : ∃ VN : Int, VN = (n : Int) := ⟨_, rfl⟩
  have HVN := Lib.hid hVN
  rw [← hVN]
  have hv0 : 0 ≤ VN := by omega
  clear hVN
  go_enter Tryz.func5, Tryz.ntmps5
  go_wp2_with fail
  go_at_call 7; refine (fixed_any _ HT.out).mono ?_; rintro e w1 ⟨rfl, f1⟩
  have F1 := Lib.hid f1
  clear f1
  go_upto_region 4 with fail
  obtain ⟨T0, hT0, hTl, hj7, hTs⟩ := HTA.out
  have HTL := Lib.hid hTl
  generalize hV0 : ([Value.string { data := #[] }, Value.string { data := #[117] }, Value.string { data := #[76] }, Value.string { data := #[117, 76] }, Value.string { data := #[108, 85] }, Value.string { data := #[85] }, Value.string { data := #[108] }] : List Value)[(wrap64 ((IntKind.u64.wrap q).tmod 7)).toNat]'_ = V0 at *
  subst hT0
  have F2 := Lib.hid (F1.out.alloc #[Value.string { data := #[] }, Value.string { data := #[117] }, Value.string { data := #[76] }, Value.string { data := #[117, 76] }, Value.string { data := #[108, 85] }, Value.string { data := #[85] }, Value.string { data := #[108] }] 9)
  clear HTA F1 hTl hV0
  generalize hw2 : w1.alloc (.cells #[Value.string { data := #[] }, Value.string { data := #[117] }, Value.string { data := #[76] }, Value.string { data := #[117, 76] }, Value.string { data := #[108, 85] }, Value.string { data := #[85] }, Value.string { data := #[108] }] 9) = w2 at *
  clear hw2
  generalize (wrap64 ((IntKind.u64.wrap q).tmod 7)) = J at *
  have hbm : ∀ v : Nat, v % 16 < 16 := fun v => by omega
  go_wp2_with fail
  go_loopw [8, 10] (fun tx v wr => ∃ (f vn : Nat) (T : ByteArray) (V : Int), tx = .string T ∧ v = .int .u64 V ∧ T.size + f = 64 ∧ Hid (V = (vn : Int) ∧ vn < 2 ^ f ∧ vn < 18446744073709551616) ∧ Hid (digL 16 f vn T.data.toList = numT 16 n) ∧ Hid (Fresh w wr)) (fun _ v _ => (intOf v).toNat)
  case atStart => exact ⟨64, n, ⟨#[]⟩, VN, rfl, rfl, rfl, Lib.hid ⟨HVN.out, by have := HNN.out; simpa using this, HNN.out⟩, Lib.hid rfl, F2⟩
  case round =>
    obtain ⟨f, vn, T, V, rfl, rfl, hTf, HV, HD, HF⟩ := hrel
    clear F2
    have v0 : 0 ≤ V := by have := HV.out; omega
    by_cases hpos : 0 < V
    · have hv : vn ≠ 0 := by have := HV.out; omega
      obtain ⟨f, rfl⟩ : ∃ g, f = g + 1 := by
        cases f with
        | zero => exact absurd (by have := HV.out.2.1; simpa using this) hv
        | succ g => exact ⟨g, rfl⟩
      have HD2 : Hid (digL 16 f (vn / 16) (dig (vn % 16) :: T.data.toList) = numT 16 n) := Lib.hid (by have := HD.out; simpa [digL, hv] using this)
      have HV2 : Hid (V / 16 = ((vn / 16 : Nat) : Int) ∧ vn / 16 < 2 ^ f ∧ vn / 16 < 18446744073709551616) := Lib.hid (by
        have h1 := HV.out
        have h2 : vn / 16 ≤ vn / 2 := Nat.div_le_div_left (by decide) (by decide)
        rw [Nat.pow_succ] at h1
        refine ⟨?_, by omega, by omega⟩
        rw [h1.1]
        rfl)
      have hlt : V / 16 < V := by omega
      have hq0 : 0 ≤ V / 16 := by omega
      have m0 : 0 ≤ V % 16 := by omega
      have m1 : V % 16 < 16 := by omega
      have HX : Hid ((⟨#[48, 49, 50, 51, 52, 53, 54, 55, 56, 57, 97, 98, 99, 100, 101, 102]⟩ : ByteArray).extract (V % 16).toNat (V % 16 + 1).toNat = ⟨#[dig (vn % 16)]⟩) := Lib.hid (by
        have h1 := HV.out
        have e1 : (V % 16).toNat = vn % 16 := by omega
        have e2 : (V % 16 + 1).toNat = vn % 16 + 1 := by omega
        rw [e1, e2]
        exact hex_at ⟨vn % 16, hbm vn⟩)
      have HWV : Hid (IntKind.u64.wrap (V.tdiv 16) = V / 16) := Lib.hid (by rw [Int.tdiv_eq_ediv_of_nonneg v0, IntKind.wrap_u64]; have := HV.out; omega)
      have hw1 : IntKind.u64.wrap (V % 16 + 1) = V % 16 + 1 := by rw [IntKind.wrap_u64]; omega
      have hsz : ¬ 9223372036854775807 < 1 + (T.size : Int) := by omega
      clear hv HD HV hbm
      go_wp2_with fail
      go_quiet (fail)
      go_wp2_with fail
      go_roundw
      case rel =>
        refine ⟨f, vn / 16, _, _, rfl, rfl, ?_, Lib.hid (by rw [HWV.out]; exact HV2.out), ?_, HF.out.drewN _ |> Lib.hid⟩
        · have h1 : (⟨#[dig (vn % 16)]⟩ : ByteArray).size = 1 := rfl
          rw [HX.out, ByteArray.size_append, h1]
          clear hw1
          omega
        · refine Lib.hid ?_
          rw [HX.out]
          exact HD2.out
      case measure => simp only [intOf]; rw [HWV.out]; clear hw1; omega
    · have hv : vn = 0 := by have := HV.out; omega
      have HT2 : Hid (T.data.toList = numT 16 n) := Lib.hid (by have := HD.out; subst hv; cases f <;> simpa [digL] using this)
      clear hv HD HV hbm
      by_cases h0 : n = 0
      · have hTn : T.data.toList = [] := by rw [HT2.out, h0]; rfl
        have b0 : (T.toList == []) = true := by rw [ByteArray.toList_eq, hTn]; rfl
        have b0x : T.toList.isEmpty = true := by rw [ByteArray.toList_eq, hTn]; rfl
        clear hTn
        have HTOK : Hid (tokensF ((⟨#[48, 120, 48]⟩ : ByteArray) ++ T0) = .ok [⟨3, 1, 1, (⟨#[48, 120, 48]⟩ : ByteArray) ++ T0, n, ⟨#[]⟩⟩, endT 1 (1 + (((((⟨#[48, 120, 48]⟩ : ByteArray) ++ T0).size : Nat)) : Int))]) := Lib.hid (by
          refine form_tok _ n J.toNat (form16 n) hj7 ?_ (whole16 n _ HNN.out hj7) ?_ ?_ ?_
          · rw [ByteArray.data_append, Array.toList_append, HTL.out]; unfold form16; rw [if_pos h0]
          · unfold form16; rw [if_pos h0]; intro c hc; simp at hc; rcases hc with rfl | rfl | rfl <;> decide
          · unfold form16; rw [if_pos h0]; exact ⟨48, _, rfl, by decide, by decide⟩
          · unfold form16; rw [if_pos h0]; decide)
        have hsz2 : ¬ 9223372036854775807 < 3 + (T0.size : Int) := by omega
        go_wp2_with fail
        go_at_call 8; refine (tok_one _ n HTOK.out _ (HT.out.fresh HF.out)).mono ?_; rintro e w5 ⟨⟨g, cap, rfl, c0, c1, c2⟩, f5⟩
        have HF5 := Lib.hid (HF.out.trans f5)
        have K0 := Lib.hid c0
        have K1 := Lib.hid c1
        have K2 := Lib.hid c2
        clear c0 c1 c2 f5
        go_upto_region 22 with fail
        have F6 : Hid (Fresh w5 (w5.alloc (.cells #[.int .i64 0, .int .i64 0] 25))) := Lib.hid ((Fresh.refl _).alloc _ _)
        have F7 := Lib.hid (HF5.out.trans F6.out)
        generalize w5.alloc (.cells #[.int .i64 0, .int .i64 0] 25) = w6 at *
        have c0 := F6.out.at' K0.out
        have c1 := F6.out.at' K1.out
        have c2 := F6.out.at' K2.out
        rw [← HVN.out] at c2
        go_wp2_with fail
        go_ret
        exact ⟨rfl, F7.out⟩

      · have hTn : T.data.toList ≠ [] := by
          rw [HT2.out]
          obtain ⟨d, r, _, _, hT⟩ := numT_head 16 n (by decide) HNN.out h0
          rw [hT]; simp
        have b0 : (T.toList == []) = false := by rw [ByteArray.toList_eq]; simpa using hTn
        have b0x : T.toList.isEmpty = false := by rw [ByteArray.toList_eq]; simpa using hTn
        clear hTn
        have HTOK : Hid (tokensF (((⟨#[48, 88]⟩ : ByteArray) ++ T) ++ T0) = .ok [⟨3, 1, 1, ((⟨#[48, 88]⟩ : ByteArray) ++ T) ++ T0, n, ⟨#[]⟩⟩, endT 1 (1 + ((((((⟨#[48, 88]⟩ : ByteArray) ++ T) ++ T0).size : Nat)) : Int))]) := Lib.hid (by
          refine form_tok _ n J.toNat (form16 n) hj7 ?_ (whole16 n _ HNN.out hj7) ?_ ?_ ?_
          · rw [ByteArray.data_append, Array.toList_append, ByteArray.data_append, Array.toList_append, HTL.out, HT2.out]; unfold form16; rw [if_neg h0]; rfl
          · unfold form16; rw [if_neg h0]; intro c hc; rcases List.mem_cons.1 hc with rfl | hc; decide; rcases List.mem_cons.1 hc with rfl | hc; decide; exact (digs_out 16 (by decide) _ (numT_digs 16 n (by decide)) c hc).2
          · unfold form16; rw [if_neg h0]; exact ⟨48, _, rfl, by decide, by decide⟩
          · have := digL_len 16 64 n []; unfold form16; rw [if_neg h0]; (try simp only [List.length_cons, List.length_nil]); (try unfold numT); simp at this; omega)
        have hsz : ¬ 9223372036854775807 < 2 + (T.size : Int) := by omega
        have hsz2 : ¬ 9223372036854775807 < 2 + (T.size : Int) + (T0.size : Int) := by omega
        go_wp2_with fail
        go_at_call 8; refine (tok_one _ n HTOK.out _ (HT.out.fresh HF.out)).mono ?_; rintro e w5 ⟨⟨g, cap, rfl, c0, c1, c2⟩, f5⟩
        have HF5 := Lib.hid (HF.out.trans f5)
        have K0 := Lib.hid c0
        have K1 := Lib.hid c1
        have K2 := Lib.hid c2
        clear c0 c1 c2 f5
        go_upto_region 22 with fail
        have F6 : Hid (Fresh w5 (w5.alloc (.cells #[.int .i64 0, .int .i64 0] 25))) := Lib.hid ((Fresh.refl _).alloc _ _)
        have F7 := Lib.hid (HF5.out.trans F6.out)
        generalize w5.alloc (.cells #[.int .i64 0, .int .i64 0] 25) = w6 at *
        have c0 := F6.out.at' K0.out
        have c1 := F6.out.at' K1.out
        have c2 := F6.out.at' K2.out
        rw [← HVN.out] at c2
        go_wp2_with fail
        go_ret
        exact ⟨rfl, F7.out⟩
set_option maxRecDepth 100000 in
set_option maxHeartbeats 4000000 in
theorem numbers_10 (n : Nat) (fo q : Int) (hn : n < 18446744073709551616) (b1 : (bits .and .i64 fo 3 == 1) = false) (b2 : (bits .and .i64 fo 3 == 2) = false) (b3 : (bits .and .i64 fo 3 == 3) = false) (w : World) (hT : Tabs w) : Calls Tryz.prog 5 #[.int .u64 n, .int .i64 fo, .int .i64 q] w fun e w' => e = .returned (.bool true) ∧ Fresh w w' := by
  have HT := Lib.hid hT
  have hq := idx7 q
  have HTA := Lib.hid (tail_at (wrap64 ((IntKind.u64.wrap q).tmod 7)).toNat (by show _ < 7; omega))
  have HNN := Lib.hid hn
  clear hT hn
  obtain ⟨VN, hVN⟩ : ∃ VN : Int, VN = (n : Int) := ⟨_, rfl⟩
  have HVN := Lib.hid hVN
  rw [← hVN]
  have hv0 : 0 ≤ VN := by omega
  clear hVN
  go_enter Tryz.func5, Tryz.ntmps5
  go_wp2_with fail
  go_at_call 7; refine (fixed_any _ HT.out).mono ?_; rintro e w1 ⟨rfl, f1⟩
  have F1 := Lib.hid f1
  clear f1
  go_upto_region 4 with fail
  obtain ⟨T0, hT0, hTl, hj7, hTs⟩ := HTA.out
  have HTL := Lib.hid hTl
  generalize hV0 : ([Value.string { data := #[] }, Value.string { data := #[117] }, Value.string { data := #[76] }, Value.string { data := #[117, 76] }, Value.string { data := #[108, 85] }, Value.string { data := #[85] }, Value.string { data := #[108] }] : List Value)[(wrap64 ((IntKind.u64.wrap q).tmod 7)).toNat]'_ = V0 at *
  subst hT0
  have F2 := Lib.hid (F1.out.alloc #[Value.string { data := #[] }, Value.string { data := #[117] }, Value.string { data := #[76] }, Value.string { data := #[117, 76] }, Value.string { data := #[108, 85] }, Value.string { data := #[85] }, Value.string { data := #[108] }] 9)
  clear HTA F1 hTl hV0
  generalize hw2 : w1.alloc (.cells #[Value.string { data := #[] }, Value.string { data := #[117] }, Value.string { data := #[76] }, Value.string { data := #[117, 76] }, Value.string { data := #[108, 85] }, Value.string { data := #[85] }, Value.string { data := #[108] }] 9) = w2 at *
  clear hw2
  generalize (wrap64 ((IntKind.u64.wrap q).tmod 7)) = J at *
  have hbm : ∀ v : Nat, v % 10 < 16 := fun v => by omega
  go_wp2_with fail
  go_loopw [8, 10] (fun tx v wr => ∃ (f vn : Nat) (T : ByteArray) (V : Int), tx = .string T ∧ v = .int .u64 V ∧ T.size + f = 64 ∧ Hid (V = (vn : Int) ∧ vn < 2 ^ f ∧ vn < 18446744073709551616) ∧ Hid (digL 10 f vn T.data.toList = numT 10 n) ∧ Hid (Fresh w wr)) (fun _ v _ => (intOf v).toNat)
  case atStart => exact ⟨64, n, ⟨#[]⟩, VN, rfl, rfl, rfl, Lib.hid ⟨HVN.out, by have := HNN.out; simpa using this, HNN.out⟩, Lib.hid rfl, F2⟩
  case round =>
    obtain ⟨f, vn, T, V, rfl, rfl, hTf, HV, HD, HF⟩ := hrel
    clear F2
    have v0 : 0 ≤ V := by have := HV.out; omega
    by_cases hpos : 0 < V
    · have hv : vn ≠ 0 := by have := HV.out; omega
      obtain ⟨f, rfl⟩ : ∃ g, f = g + 1 := by
        cases f with
        | zero => exact absurd (by have := HV.out.2.1; simpa using this) hv
        | succ g => exact ⟨g, rfl⟩
      have HD2 : Hid (digL 10 f (vn / 10) (dig (vn % 10) :: T.data.toList) = numT 10 n) := Lib.hid (by have := HD.out; simpa [digL, hv] using this)
      have HV2 : Hid (V / 10 = ((vn / 10 : Nat) : Int) ∧ vn / 10 < 2 ^ f ∧ vn / 10 < 18446744073709551616) := Lib.hid (by
        have h1 := HV.out
        have h2 : vn / 10 ≤ vn / 2 := Nat.div_le_div_left (by decide) (by decide)
        rw [Nat.pow_succ] at h1
        refine ⟨?_, by omega, by omega⟩
        rw [h1.1]
        rfl)
      have hlt : V / 10 < V := by omega
      have hq0 : 0 ≤ V / 10 := by omega
      have m0 : 0 ≤ V % 10 := by omega
      have m1 : V % 10 < 10 := by omega
      have HX : Hid ((⟨#[48, 49, 50, 51, 52, 53, 54, 55, 56, 57, 97, 98, 99, 100, 101, 102]⟩ : ByteArray).extract (V % 10).toNat (V % 10 + 1).toNat = ⟨#[dig (vn % 10)]⟩) := Lib.hid (by
        have h1 := HV.out
        have e1 : (V % 10).toNat = vn % 10 := by omega
        have e2 : (V % 10 + 1).toNat = vn % 10 + 1 := by omega
        rw [e1, e2]
        exact hex_at ⟨vn % 10, hbm vn⟩)
      have HWV : Hid (IntKind.u64.wrap (V.tdiv 10) = V / 10) := Lib.hid (by rw [Int.tdiv_eq_ediv_of_nonneg v0, IntKind.wrap_u64]; have := HV.out; omega)
      have hw1 : IntKind.u64.wrap (V % 10 + 1) = V % 10 + 1 := by rw [IntKind.wrap_u64]; omega
      have hsz : ¬ 9223372036854775807 < 1 + (T.size : Int) := by omega
      clear hv HD HV hbm
      go_wp2_with fail
      go_quiet (fail)
      go_wp2_with fail
      go_roundw
      case rel =>
        refine ⟨f, vn / 10, _, _, rfl, rfl, ?_, Lib.hid (by rw [HWV.out]; exact HV2.out), ?_, HF.out.drewN _ |> Lib.hid⟩
        · have h1 : (⟨#[dig (vn % 10)]⟩ : ByteArray).size = 1 := rfl
          rw [HX.out, ByteArray.size_append, h1]
          clear hw1
          omega
        · refine Lib.hid ?_
          rw [HX.out]
          exact HD2.out
      case measure => simp only [intOf]; rw [HWV.out]; clear hw1; omega
    · have hv : vn = 0 := by have := HV.out; omega
      have HT2 : Hid (T.data.toList = numT 10 n) := Lib.hid (by have := HD.out; subst hv; cases f <;> simpa [digL] using this)
      clear hv HD HV hbm
      by_cases h0 : n = 0
      · have hTn : T.data.toList = [] := by rw [HT2.out, h0]; rfl
        have b0 : (T.toList == []) = true := by rw [ByteArray.toList_eq, hTn]; rfl
        have b0x : T.toList.isEmpty = true := by rw [ByteArray.toList_eq, hTn]; rfl
        have HTOK : Hid (tokensF (((⟨#[48]⟩ : ByteArray) ++ T) ++ T0) = .ok [⟨3, 1, 1, ((⟨#[48]⟩ : ByteArray) ++ T) ++ T0, n, ⟨#[]⟩⟩, endT 1 (1 + ((((((⟨#[48]⟩ : ByteArray) ++ T) ++ T0).size : Nat)) : Int))]) := Lib.hid (by
          refine form_tok _ n J.toNat (form10 n) hj7 ?_ (whole10 n _ HNN.out hj7) ?_ ?_ ?_
          · rw [ByteArray.data_append, Array.toList_append, ByteArray.data_append, Array.toList_append, HTL.out, hTn]; unfold form10; rw [if_pos h0]; rfl
          · unfold form10; rw [if_pos h0]; intro c hc; simp at hc; subst hc; decide
          · unfold form10; rw [if_pos h0]; exact ⟨48, _, rfl, by decide, by decide⟩
          · unfold form10; rw [if_pos h0]; decide)
        clear hTn
        have hsz : ¬ 9223372036854775807 < 1 + (T.size : Int) := by omega
        have hsz2 : ¬ 9223372036854775807 < 1 + (T.size : Int) + (T0.size : Int) := by omega
        go_wp2_with fail
        go_at_call 8; refine (tok_one _ n HTOK.out _ (HT.out.fresh HF.out)).mono ?_; rintro e w5 ⟨⟨g, cap, rfl, c0, c1, c2⟩, f5⟩
        have HF5 := Lib.hid (HF.out.trans f5)
        have K0 := Lib.hid c0
        have K1 := Lib.hid c1
        have K2 := Lib.hid c2
        clear c0 c1 c2 f5
        go_upto_region 22 with fail
        have F6 : Hid (Fresh w5 (w5.alloc (.cells #[.int .i64 0, .int .i64 0] 25))) := Lib.hid ((Fresh.refl _).alloc _ _)
        have F7 := Lib.hid (HF5.out.trans F6.out)
        generalize w5.alloc (.cells #[.int .i64 0, .int .i64 0] 25) = w6 at *
        have c0 := F6.out.at' K0.out
        have c1 := F6.out.at' K1.out
        have c2 := F6.out.at' K2.out
        rw [← HVN.out] at c2
        go_wp2_with fail
        go_ret
        exact ⟨rfl, F7.out⟩

      · have hTn : T.data.toList ≠ [] := by
          rw [HT2.out]
          obtain ⟨d, r, _, _, hT⟩ := numT_head 10 n (by decide) HNN.out h0
          rw [hT]; simp
        have b0 : (T.toList == []) = false := by rw [ByteArray.toList_eq]; simpa using hTn
        have b0x : T.toList.isEmpty = false := by rw [ByteArray.toList_eq]; simpa using hTn
        clear hTn
        have HTOK : Hid (tokensF (T ++ T0) = .ok [⟨3, 1, 1, T ++ T0, n, ⟨#[]⟩⟩, endT 1 (1 + ((((T ++ T0).size : Nat)) : Int))]) := Lib.hid (by
          refine form_tok _ n J.toNat (form10 n) hj7 ?_ (whole10 n _ HNN.out hj7) ?_ ?_ ?_
          · rw [ByteArray.data_append, Array.toList_append, HTL.out, HT2.out]; unfold form10; rw [if_neg h0]
          · unfold form10; rw [if_neg h0]; intro c hc; exact (digs_out 10 (by decide) _ (numT_digs 10 n (by decide)) c hc).2
          · unfold form10; rw [if_neg h0]; obtain ⟨d, r, _, hd, hT⟩ := numT_head 10 n (by decide) HNN.out h0; have k := (dig_of d (by omega)).2.2.2.2.1 hd; exact ⟨dig d, r, hT, k.1, k.2.1⟩
          · have := digL_len 10 64 n []; unfold form10; rw [if_neg h0]; (try simp only [List.length_cons, List.length_nil]); (try unfold numT); simp at this; omega)
        have hsz : ¬ 9223372036854775807 < (T.size : Int) + (T0.size : Int) := by omega
        go_wp2_with fail
        go_at_call 8; refine (tok_one _ n HTOK.out _ (HT.out.fresh HF.out)).mono ?_; rintro e w5 ⟨⟨g, cap, rfl, c0, c1, c2⟩, f5⟩
        have HF5 := Lib.hid (HF.out.trans f5)
        have K0 := Lib.hid c0
        have K1 := Lib.hid c1
        have K2 := Lib.hid c2
        clear c0 c1 c2 f5
        go_upto_region 22 with fail
        have F6 : Hid (Fresh w5 (w5.alloc (.cells #[.int .i64 0, .int .i64 0] 25))) := Lib.hid ((Fresh.refl _).alloc _ _)
        have F7 := Lib.hid (HF5.out.trans F6.out)
        generalize w5.alloc (.cells #[.int .i64 0, .int .i64 0] 25) = w6 at *
        have c0 := F6.out.at' K0.out
        have c1 := F6.out.at' K1.out
        have c2 := F6.out.at' K2.out
        rw [← HVN.out] at c2
        go_wp2_with fail
        go_ret
        exact ⟨rfl, F7.out⟩
/-- Whatever is asked for. -/
theorem numbers_any (n fo q : Int) (h0 : 0 ≤ n) (h1 : n < 18446744073709551616) (w : World) (hT : Tabs w) : Calls Tryz.prog 5 #[.int .u64 n, .int .i64 fo, .int .i64 q] w fun e w' => e = .returned (.bool true) ∧ Fresh w w' := by
  obtain ⟨m, rfl⟩ : ∃ m : Nat, n = (m : Int) := ⟨n.toNat, by omega⟩
  cases b1 : (bits .and .i64 fo 3 == 1)
  · cases b2 : (bits .and .i64 fo 3 == 2)
    · cases b3 : (bits .and .i64 fo 3 == 3)
      · exact numbers_10 m fo q (by omega) b1 b2 b3 w hT
      · exact numbers_16b m fo q (by omega) b1 b2 b3 w hT
    · exact numbers_16a m fo q (by omega) b1 b2 w hT
  · exact numbers_8 m fo q (by omega) b1 w hT
end Go.Proofs.YtcmfmfgedhfaeaaGreatDoor
