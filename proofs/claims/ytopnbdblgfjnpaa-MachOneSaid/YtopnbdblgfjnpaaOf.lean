/- What the document's own Eval1 answers, of any value: mach's answer. -/
import Derived.Test.YtopnbdblgfjnpaaOe
namespace Go.Proofs.Ytopnbdblgfjnpaa
set_option linter.unusedSimpArgs false
set_option linter.unusedVariables false
open Ieee Go.RowKit
attribute [local irreducible] units bigP
attribute [local go_sem ↓] run_f64bits run_f64from
theorem rtruth_lit (k n b : Int) (c : Bool) (h : (truthL k n).2 = c) (h0 : 0 ≤ n) (h1 : n < 18446744073709551616) (w : World) :
    Calls Try.prog 16 #[.agg #[.int .i64 k, .int .u64 n, .int .i64 b]] w fun e w' => e = .returned (.tuple #[.bool (truthL k n).1, .bool c]) ∧ Fresh w w' := by
  subst h; exact rtruth_any k n b h0 h1 w
set_option maxRecDepth 100000 in
set_option maxHeartbeats 800000 in
theorem reval_c (o k n b : Int) (ho : o = 95 ∨ o = 96) (h0 : 0 ≤ n) (hN : n < 18446744073709551616) (w : World) :
    Calls Try.prog 14 #[.int .i64 o, .agg #[.int .i64 k, .int .u64 n, .int .i64 b]] w (EvalT o k n w) := by
  obtain ⟨t0, _, _, _, ht0⟩ := run_truncOf n.toNat w
  have H0 := Lib.hid h0
  have HN := Lib.hid hN
  clear h0 hN
  cases hb : (truthL k n).2
  all_goals
    rcases ho with rfl | rfl
    all_goals
      have HB := Lib.hid hb
      clear hb
      go_enter Try.func14, Try.ntmps14
      go_wp2_with (first | (go_at_call 16; refine (rtruth_lit _ _ _ _ HB.out H0.out HN.out _).mono ?_; rintro e w1 ⟨rfl, h1⟩; obtain ⟨c1, f1⟩ := h1.cells; have z1a := h1.z (n := w.heap.size) (by first | assumption | (simp; done) | (simp; assumption) | (simp; omega)); have z1b := h1.z (n := w.heap.size + 1) (by first | assumption | (simp; done) | (simp; assumption) | (simp; omega))) | (go_at_call 42; refine (yes_any _ _).mono ?_; rintro e w2 ⟨rfl, h2⟩; obtain ⟨c2, f2⟩ := h2.cells; have z2a := h2.z (n := w.heap.size) (by first | assumption | (simp; done) | (simp; assumption) | (simp; omega)); have z2b := h2.z (n := w.heap.size + 1) (by first | assumption | (simp; done) | (simp; assumption) | (simp; omega))))
      all_goals go_light
      all_goals first | (refine bodyPost_ret (v := ?_) ?_ rfl ?_; rotate_left 1; focus (simp [results, Try.results14, go_sem, *]; (try rfl); done)) | go_returns
      all_goals exact ⟨t0, ret_valok (by clear ht0; simp [eval1L, answerL, HB.out]), (by (repeat' first | with_reducible exact Fresh.refl _ | with_reducible assumption | with_reducible refine Fresh.alloc ?_ _ _ | with_reducible refine Fresh.drew ?_ | with_reducible refine Fresh.setCell ?_ ?_ _ | with_reducible refine Fresh.trans ?_ (by assumption) | (simp; done) | (simp; omega))), ht0⟩
set_option maxRecDepth 100000 in
set_option maxHeartbeats 800000 in
theorem reval_z (o k n b : Int) (h5 : (o == 95) = false) (h6 : (o == 96) = false) (h0 : ((shapeL o).1 == 0) = true) (w : World) :
    Calls Try.prog 14 #[.int .i64 o, .agg #[.int .i64 k, .int .u64 n, .int .i64 b]] w (EvalT o k n w) := by
  obtain ⟨t0, _, _, _, ht0⟩ := run_truncOf n.toNat w
  go_enter Try.func14, Try.ntmps14
  go_wp2_with (first | (go_at_call 21; refine (shapeR_any _ _).mono ?_; rintro e w' ⟨rfl, rfl⟩))
  all_goals go_light
  all_goals first | (refine bodyPost_ret (v := ?_) ?_ rfl ?_; rotate_left 1; focus (simp [results, Try.results14, go_sem, *]; (try rfl); done)) | go_returns
  all_goals exact ⟨t0, ret_valok (by clear ht0; simp [eval1L, noneL, *]), (by (repeat' first | with_reducible exact Fresh.refl _ | with_reducible assumption | with_reducible refine Fresh.alloc ?_ _ _ | with_reducible refine Fresh.drew ?_ | with_reducible refine Fresh.setCell ?_ ?_ _ | with_reducible refine Fresh.trans ?_ (by assumption) | (simp; done) | (simp; omega))), ht0⟩
set_option maxRecDepth 100000 in
set_option maxHeartbeats 800000 in
theorem reval_s (o k n b : Int) (h5 : (o == 95) = false) (h6 : (o == 96) = false) (h0 : ((shapeL o).1 == 0) = false) (h1 : ((shapeL o).2.1 != 0) = true) (w : World) :
    Calls Try.prog 14 #[.int .i64 o, .agg #[.int .i64 k, .int .u64 n, .int .i64 b]] w (EvalT o k n w) := by
  obtain ⟨t0, _, _, _, ht0⟩ := run_truncOf n.toNat w
  go_enter Try.func14, Try.ntmps14
  go_wp2_with (first | (go_at_call 21; refine (shapeR_any _ _).mono ?_; rintro e w' ⟨rfl, rfl⟩))
  all_goals go_light
  all_goals first | (refine bodyPost_ret (v := ?_) ?_ rfl ?_; rotate_left 1; focus (simp [results, Try.results14, go_sem, *]; (try rfl); done)) | go_returns
  all_goals exact ⟨t0, ret_valok (by clear ht0; simp [eval1L, noneL, *]), (by (repeat' first | with_reducible exact Fresh.refl _ | with_reducible assumption | with_reducible refine Fresh.alloc ?_ _ _ | with_reducible refine Fresh.drew ?_ | with_reducible refine Fresh.setCell ?_ ?_ _ | with_reducible refine Fresh.trans ?_ (by assumption) | (simp; done) | (simp; omega))), ht0⟩
set_option maxRecDepth 100000 in
set_option maxHeartbeats 800000 in
theorem reval_k (o k n b : Int) (h5 : (o == 95) = false) (h6 : (o == 96) = false) (h0 : ((shapeL o).1 == 0) = false) (h1 : ((shapeL o).2.1 != 0) = false) (hk : (k != (shapeL o).1) = true) (w : World) :
    Calls Try.prog 14 #[.int .i64 o, .agg #[.int .i64 k, .int .u64 n, .int .i64 b]] w (EvalT o k n w) := by
  obtain ⟨t0, _, _, _, ht0⟩ := run_truncOf n.toNat w
  go_enter Try.func14, Try.ntmps14
  go_wp2_with (first | (go_at_call 21; refine (shapeR_any _ _).mono ?_; rintro e w' ⟨rfl, rfl⟩))
  all_goals go_light
  all_goals first | (refine bodyPost_ret (v := ?_) ?_ rfl ?_; rotate_left 1; focus (simp [results, Try.results14, go_sem, *]; (try rfl); done)) | go_returns
  all_goals exact ⟨t0, ret_valok (by clear ht0; simp [eval1L, noneL, *]), (by (repeat' first | with_reducible exact Fresh.refl _ | with_reducible assumption | with_reducible refine Fresh.alloc ?_ _ _ | with_reducible refine Fresh.drew ?_ | with_reducible refine Fresh.setCell ?_ ?_ _ | with_reducible refine Fresh.trans ?_ (by assumption) | (simp; done) | (simp; omega))), ht0⟩
set_option maxRecDepth 100000 in
theorem ones : ∀ m : Nat, m < 97 → ((shapeL m).1 == 0) = false → ((shapeL m).2.1 != 0) = false → m ∈ [1, 2, 31, 32, 61, 80, 81, 82, 83, 84, 85, 86, 87, 88, 89, 90, 91, 92, 93, 94, 95, 96] := by decide +kernel
theorem reval_any (o k n b : Int) (h0 : 0 ≤ n) (hN : n < 18446744073709551616) (w : World) :
    Calls Try.prog 14 #[.int .i64 o, .agg #[.int .i64 k, .int .u64 n, .int .i64 b]] w (EvalT o k n w) := by
  by_cases ho : o = 95 ∨ o = 96
  · exact reval_c o k n b ho h0 hN w
  have h5 : (o == 95) = false := by simp; omega
  have h6 : (o == 96) = false := by simp; omega
  cases hs : (shapeL o).1 == 0
  · cases h1 : (shapeL o).2.1 != 0
    · cases hk : k != (shapeL o).1
      · obtain ⟨ha, hb⟩ := shape_one o hs
        obtain ⟨m, rfl⟩ : ∃ m : Nat, o = m := ⟨o.toNat, by omega⟩
        have hm := ones m (by omega) hs h1
        have hk' : k = (shapeL m).1 := by simpa using hk
        subst hk'
        clear hk h5 h6
        simp only [List.mem_cons, List.not_mem_nil, or_false] at hm
        rcases hm with rfl | rfl | rfl | rfl | rfl | rfl | rfl | rfl | rfl | rfl | rfl | rfl | rfl | rfl | rfl | rfl | rfl | rfl | rfl | rfl | rfl | rfl
        · exact reval_1 n b h0 hN w
        · exact reval_2 n b h0 hN w
        · exact reval_31 n b h0 hN w
        · exact reval_32 n b h0 hN w
        · exact reval_61 n b h0 hN w
        · exact reval_80 n b h0 hN w
        · exact reval_81 n b h0 hN w
        · exact reval_82 n b h0 hN w
        · exact reval_83 n b h0 hN w
        · exact reval_84 n b h0 hN w
        · exact reval_85 n b h0 hN w
        · exact reval_86 n b h0 hN w
        · exact reval_87 n b h0 hN w
        · exact reval_88 n b h0 hN w
        · exact reval_89 n b h0 hN w
        · exact reval_90 n b h0 hN w
        · exact reval_91 n b h0 hN w
        · exact reval_92 n b h0 hN w
        · exact reval_93 n b h0 hN w
        · exact reval_94 n b h0 hN w
        · exact absurd (Or.inl rfl) ho
        · exact absurd (Or.inr rfl) ho
      · exact reval_k o k n b h5 h6 hs h1 hk w
    · exact reval_s o k n b h5 h6 hs h1 w
  · exact reval_z o k n b h5 h6 hs w
theorem reval_at (o k n b : Int) (h0 : 0 ≤ n) (hN : n < 18446744073709551616) {t : Nat} (hT : TruncOf n.toNat t) (x y z : Int) (c : Bool) (hv : eval1L o k n t = ((x, y, z), c)) (w : World) :
    Calls Try.prog 14 #[.int .i64 o, .agg #[.int .i64 k, .int .u64 n, .int .i64 b]] w fun e w' => e = .returned (.tuple #[.agg #[.int .i64 x, .int .u64 y, .int .i64 z], .bool c]) ∧ Fresh w w' := by
  refine (reval_any o k n b h0 hN w).mono fun e w' ⟨t', he, hf, hT'⟩ => ?_
  rw [eval1_same hT' hT o k n, hv] at he
  exact ⟨he, hf⟩
end Go.Proofs.Ytopnbdblgfjnpaa
