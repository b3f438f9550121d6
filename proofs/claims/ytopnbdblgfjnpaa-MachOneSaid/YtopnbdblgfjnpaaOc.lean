/- What the document's own answers of one operand are: the same as mach's, with what Trunc answers of a double. -/
import Derived.Test.YtopnbdblgfjnpaaOb
import Derived.Test.YtopnbdblgfjnpaaR
import Derived.Lib.Hide
namespace Go.Proofs.Ytopnbdblgfjnpaa
set_option linter.unusedSimpArgs false
set_option linter.unusedVariables false
open Ieee Go.RowKit
attribute [local irreducible] units bigP
attribute [local go_sem ↓] run_f64bits run_f64from

theorem win_not {t lo hi ml mh : Nat} {sl sh : Bool} {el eh : Int} (rl : double.read lo = .number sl ml el) (rh : double.read hi = .number sh mh eh)
    (h : (∃ s u, double.read t = .nan s u) ∨ (∃ s, double.read t = .infinity s)) : winL t lo hi = false := (not_number rl rh h).2
theorem cut_not {t : Nat} (h : (∃ s u, double.read t = .nan s u) ∨ (∃ s, double.read t = .infinity s)) (o : Int) : cutL o t = (0, false) := by
  have a := win_not (t := t) (lo := 13970166044103278592) (hi := 4746794007248502784) (by rfl) (by rfl) h
  have b := win_not (t := t) (lo := 0) (hi := 4751297606875873280) (by rfl) (by rfl) h
  have c := win_not (t := t) (lo := 14114281232179134464) (hi := 4890909195324358656) (by rfl) (by rfl) h
  have d := win_not (t := t) (lo := 0) (hi := 4895412794951729152) (by rfl) (by rfl) h
  unfold cutL c31 c32 c63 c64
  rw [a, b, c, d]
  have e1 : IntKind.u64.wrap 0 = 0 := by decide
  simp [e1]
theorem cut_same {x t t' : Nat} (h : TruncOf x t) (h' : TruncOf x t') (o : Int) : cutL o t = cutL o t' := by
  rcases read_cases x with hx | hx | ⟨s, m, e, hr, hm, he, he'⟩
  · rw [cut_not (trunc_not h (Or.inl hx)), cut_not (trunc_not h' (Or.inl hx))]
  · rw [cut_not (trunc_not h (Or.inr hx)), cut_not (trunc_not h' (Or.inr hx))]
  · rw [h.number s m e hr, h'.number s m e hr]
theorem bits1_same {x t t' : Nat} (h : TruncOf x t) (h' : TruncOf x t') (o n : Int) : bits1L o n t = bits1L o n t' := by
  unfold bits1L
  rw [cut_same h h' o]
theorem eval1_same {x t t' : Nat} (h : TruncOf x t) (h' : TruncOf x t') (o k n : Int) : eval1L o k n t = eval1L o k n t' := by
  unfold eval1L
  rw [bits1_same h h' o n]

def RefTrunc (x : Nat) (c : Bool) (w : World) (e : Ending) (w' : World) : Prop := ∃ t : Nat, e = .returned (.tuple #[.float .f64 t, .bool c]) ∧ Fresh w w' ∧ TruncOf x t
theorem rtrunc_any (x lo hi : Nat) (w : World) : Calls Try.prog 67 #[.float .f64 x, .float .f64 lo, .float .f64 hi] w (RefTrunc x (refW x lo hi) w) := by
  go_enter Try.func67, Try.ntmps67
  go_wp2_with (go_at_call 63; refine (truncT_any _ _).mono ?_; rintro e w1 ⟨t, rfl, h1, hT⟩)
  all_goals (go_returns; go_light)
  all_goals exact ⟨t, by clear hT; simp [refW, *], h1, hT⟩
theorem rtrunc_lit (x lo hi : Nat) (c : Bool) (h : refW x lo hi = c) (w : World) : Calls Try.prog 67 #[.float .f64 x, .float .f64 lo, .float .f64 hi] w (RefTrunc x c w) := by
  subst h; exact rtrunc_any x lo hi w
def FromDbl (o : Int) (k : Int) (x : Nat) (w : World) (e : Ending) (w' : World) : Prop := ∃ t : Nat, e = .returned (.tuple #[.agg #[.int .i64 (answerL k (cutL o t).1 (cutL o t).2).1.1, .int .u64 (answerL k (cutL o t).1 (cutL o t).2).1.2.1, .int .i64 (answerL k (cutL o t).1 (cutL o t).2).1.2.2], .bool (answerL k (cutL o t).1 (cutL o t).2).2]) ∧ Fresh w w' ∧ TruncOf x t
theorem toI_64 {t : Nat} {k : IntKind} (h : floatToIntVal .f64 t k = some (toI t)) (h1 : -9223372036854775808 ≤ toI t) (h2 : toI t ≤ 9223372036854775807) : floatToIntVal .f64 t .i64 = some (toI t) := by
  unfold floatToIntVal at *
  split at h
  · rename_i n hn
    split at h
    · injection h with h
      subst h
      simp only [IntKind.min, IntKind.max, IntKind.signed, IntKind.bits]
      exact if_pos (by constructor <;> simp <;> omega)
    · cases h
  · cases h
theorem intL_of (n : Int) : answerL 1 (n % 4294967296) true = (intL n, true) := rfl

theorem wrap_mod (n : Int) : wrap32 n % 4294967296 = n % 4294967296 := by unfold wrap32; omega
theorem cv31 {x t : Nat} (hT : TruncOf x t) (hW : refW x 13970166044105375744 4746794007248502784 = true) (w : World) : (convert 54 2 (.float .f64 t)).run Try.prog w = .ok (.int .i64 (toI t)) w := by
  have h := (same31 hT).trans hW
  exact run_convert_float_int (P := Try.prog) w 54 2 .f64 .i64 t (toI t) (by kernel_rfl) Try.underlying2 (toI_64 (win31 h).1 (by have := (win31 h).2; omega) (by have := (win31 h).2; omega))
theorem val31 {x t : Nat} (hT : TruncOf x t) (hW : refW x 13970166044105375744 4746794007248502784 = true) : cutL 91 t = (toI t % 4294967296, true) ∧ -2147483648 ≤ toI t ∧ toI t < 2147483648 := by
  have h := (same31 hT).trans hW
  exact ⟨by simp [cutL, c31, h], (win31 h).2⟩
theorem vaf31 {x t : Nat} (hT : TruncOf x t) (hW : refW x 13970166044105375744 4746794007248502784 = false) : (cutL 91 t).2 = false := by
  have h := (same31 hT).trans hW
  simp [cutL, c31, h]
theorem rfrom_91 (x : Nat) (w : World) : Calls Try.prog 49 #[.int .i64 91, .float .f64 x] w (FromDbl 91 1 x w) := by
  cases hW : refW x 13970166044105375744 4746794007248502784
  · have H := Lib.hid hW
    clear hW
    go_enter Try.func49, Try.ntmps49
    go_wp2_with (go_at_call 67; refine (rtrunc_lit _ _ _ _ H.out _).mono ?_; rintro e w1 ⟨t, rfl, h1, hT⟩; obtain ⟨c1, f1⟩ := h1.cells; have z1 := h1.z (n := w.heap.size) (by first | assumption | (simp; done) | (simp; assumption) | (simp; omega)))
    all_goals go_light
    all_goals first | (refine bodyPost_ret (v := ?_) ?_ rfl ?_; rotate_left 1; focus (simp [results, Try.results49, go_sem, *]; (try rfl); done)) | go_returns
    all_goals exact ⟨t, ret_valok (by simp [answerL, vaf31 hT H.out]), (by (repeat' first | with_reducible exact Fresh.refl _ | with_reducible assumption | with_reducible refine Fresh.alloc ?_ _ _ | with_reducible refine Fresh.drew ?_ | with_reducible refine Fresh.setCell ?_ ?_ _ | with_reducible refine Fresh.trans ?_ (by assumption) | (simp; done) | (simp; omega))), hT⟩
  · have H := Lib.hid hW
    clear hW
    go_enter Try.func49, Try.ntmps49
    go_wp2_with (first | (go_at_call 67; refine (rtrunc_lit _ _ _ _ H.out _).mono ?_; rintro e w1 ⟨t, rfl, h1, hT⟩; obtain ⟨c1, f1⟩ := h1.cells; have z1 := h1.z (n := w.heap.size) (by first | assumption | (simp; done) | (simp; assumption) | (simp; omega)); have hcv := cv31 hT H.out) | (go_at_call 29; refine (rInt_any _ _).mono ?_; rintro e w2 ⟨rfl, h2⟩; obtain ⟨c2, f2⟩ := h2.cells; have z2 := h2.z (n := w.heap.size) (by first | assumption | (simp; done) | (simp; assumption) | (simp; omega))))
    all_goals go_light
    all_goals first | (refine bodyPost_ret (v := ?_) ?_ rfl ?_; rotate_left 1; focus (simp [results, Try.results49, go_sem, *]; (try rfl); done)) | go_returns
    all_goals exact ⟨t, ret_valok (by obtain ⟨e, b⟩ := val31 hT H.out; rw [e]; simp [answerL, intL, longL, wrap32, wrap64, IntKind.wrap, IntKind.bits, IntKind.signed]; try omega), (by (repeat' first | with_reducible exact Fresh.refl _ | with_reducible assumption | with_reducible refine Fresh.alloc ?_ _ _ | with_reducible refine Fresh.drew ?_ | with_reducible refine Fresh.setCell ?_ ?_ _ | with_reducible refine Fresh.trans ?_ (by assumption) | (simp; done) | (simp; omega))), hT⟩
theorem cv32 {x t : Nat} (hT : TruncOf x t) (hW : refW x 13830554455654793216 4751297606875873280 = true) (w : World) : (convert 54 2 (.float .f64 t)).run Try.prog w = .ok (.int .i64 (toI t)) w := by
  have h := (same32 hT).trans hW
  exact run_convert_float_int (P := Try.prog) w 54 2 .f64 .i64 t (toI t) (by kernel_rfl) Try.underlying2 (toI_64 (win32 h).1 (by have := (win32 h).2; omega) (by have := (win32 h).2; omega))
theorem val32 {x t : Nat} (hT : TruncOf x t) (hW : refW x 13830554455654793216 4751297606875873280 = true) : cutL 92 t = (IntKind.u64.wrap (toI t), true) ∧ 0 ≤ toI t ∧ toI t < 4294967296 := by
  have h := (same32 hT).trans hW
  exact ⟨by simp [cutL, c32, h], (win32 h).2⟩
theorem vaf32 {x t : Nat} (hT : TruncOf x t) (hW : refW x 13830554455654793216 4751297606875873280 = false) : (cutL 92 t).2 = false := by
  have h := (same32 hT).trans hW
  simp [cutL, c32, h]
theorem rfrom_92 (x : Nat) (w : World) : Calls Try.prog 49 #[.int .i64 92, .float .f64 x] w (FromDbl 92 1 x w) := by
  cases hW : refW x 13830554455654793216 4751297606875873280
  · have H := Lib.hid hW
    clear hW
    go_enter Try.func49, Try.ntmps49
    go_wp2_with (go_at_call 67; refine (rtrunc_lit _ _ _ _ H.out _).mono ?_; rintro e w1 ⟨t, rfl, h1, hT⟩; obtain ⟨c1, f1⟩ := h1.cells; have z1 := h1.z (n := w.heap.size) (by first | assumption | (simp; done) | (simp; assumption) | (simp; omega)))
    all_goals go_light
    all_goals first | (refine bodyPost_ret (v := ?_) ?_ rfl ?_; rotate_left 1; focus (simp [results, Try.results49, go_sem, *]; (try rfl); done)) | go_returns
    all_goals exact ⟨t, ret_valok (by simp [answerL, vaf32 hT H.out]), (by (repeat' first | with_reducible exact Fresh.refl _ | with_reducible assumption | with_reducible refine Fresh.alloc ?_ _ _ | with_reducible refine Fresh.drew ?_ | with_reducible refine Fresh.setCell ?_ ?_ _ | with_reducible refine Fresh.trans ?_ (by assumption) | (simp; done) | (simp; omega))), hT⟩
  · have H := Lib.hid hW
    clear hW
    go_enter Try.func49, Try.ntmps49
    go_wp2_with (first | (go_at_call 67; refine (rtrunc_lit _ _ _ _ H.out _).mono ?_; rintro e w1 ⟨t, rfl, h1, hT⟩; obtain ⟨c1, f1⟩ := h1.cells; have z1 := h1.z (n := w.heap.size) (by first | assumption | (simp; done) | (simp; assumption) | (simp; omega)); have hcv := cv32 hT H.out) | (go_at_call 29; refine (rInt_any _ _).mono ?_; rintro e w2 ⟨rfl, h2⟩; obtain ⟨c2, f2⟩ := h2.cells; have z2 := h2.z (n := w.heap.size) (by first | assumption | (simp; done) | (simp; assumption) | (simp; omega))))
    all_goals go_light
    all_goals first | (refine bodyPost_ret (v := ?_) ?_ rfl ?_; rotate_left 1; focus (simp [results, Try.results49, go_sem, *]; (try rfl); done)) | go_returns
    all_goals exact ⟨t, ret_valok (by obtain ⟨e, b⟩ := val32 hT H.out; rw [e]; simp [answerL, intL, longL, wrap32, wrap64, IntKind.wrap, IntKind.bits, IntKind.signed]; try omega), (by (repeat' first | with_reducible exact Fresh.refl _ | with_reducible assumption | with_reducible refine Fresh.alloc ?_ _ _ | with_reducible refine Fresh.drew ?_ | with_reducible refine Fresh.setCell ?_ ?_ _ | with_reducible refine Fresh.trans ?_ (by assumption) | (simp; done) | (simp; omega))), hT⟩
theorem cv63 {x t : Nat} (hT : TruncOf x t) (hW : refW x 14114281232179134465 4890909195324358656 = true) (w : World) : (convert 54 2 (.float .f64 t)).run Try.prog w = .ok (.int .i64 (toI t)) w := by
  have h := (same63 hT).trans hW
  exact run_convert_float_int (P := Try.prog) w 54 2 .f64 .i64 t (toI t) (by kernel_rfl) Try.underlying2 (win63 h).1
theorem val63 {x t : Nat} (hT : TruncOf x t) (hW : refW x 14114281232179134465 4890909195324358656 = true) : cutL 93 t = (IntKind.u64.wrap (toI t), true) ∧ -9223372036854775808 ≤ toI t ∧ toI t < 9223372036854775808 := by
  have h := (same63 hT).trans hW
  exact ⟨by simp [cutL, c63, h], (win63 h).2⟩
theorem vaf63 {x t : Nat} (hT : TruncOf x t) (hW : refW x 14114281232179134465 4890909195324358656 = false) : (cutL 93 t).2 = false := by
  have h := (same63 hT).trans hW
  simp [cutL, c63, h]
theorem rfrom_93 (x : Nat) (w : World) : Calls Try.prog 49 #[.int .i64 93, .float .f64 x] w (FromDbl 93 2 x w) := by
  cases hW : refW x 14114281232179134465 4890909195324358656
  · have H := Lib.hid hW
    clear hW
    go_enter Try.func49, Try.ntmps49
    go_wp2_with (go_at_call 67; refine (rtrunc_lit _ _ _ _ H.out _).mono ?_; rintro e w1 ⟨t, rfl, h1, hT⟩; obtain ⟨c1, f1⟩ := h1.cells; have z1 := h1.z (n := w.heap.size) (by first | assumption | (simp; done) | (simp; assumption) | (simp; omega)))
    all_goals go_light
    all_goals first | (refine bodyPost_ret (v := ?_) ?_ rfl ?_; rotate_left 1; focus (simp [results, Try.results49, go_sem, *]; (try rfl); done)) | go_returns
    all_goals exact ⟨t, ret_valok (by simp [answerL, vaf63 hT H.out]), (by (repeat' first | with_reducible exact Fresh.refl _ | with_reducible assumption | with_reducible refine Fresh.alloc ?_ _ _ | with_reducible refine Fresh.drew ?_ | with_reducible refine Fresh.setCell ?_ ?_ _ | with_reducible refine Fresh.trans ?_ (by assumption) | (simp; done) | (simp; omega))), hT⟩
  · have H := Lib.hid hW
    clear hW
    go_enter Try.func49, Try.ntmps49
    go_wp2_with (first | (go_at_call 67; refine (rtrunc_lit _ _ _ _ H.out _).mono ?_; rintro e w1 ⟨t, rfl, h1, hT⟩; obtain ⟨c1, f1⟩ := h1.cells; have z1 := h1.z (n := w.heap.size) (by first | assumption | (simp; done) | (simp; assumption) | (simp; omega)); have hcv := cv63 hT H.out) | (go_at_call 27; refine (rLong_any _ _).mono ?_; rintro e w2 ⟨rfl, h2⟩; obtain ⟨c2, f2⟩ := h2.cells; have z2 := h2.z (n := w.heap.size) (by first | assumption | (simp; done) | (simp; assumption) | (simp; omega))))
    all_goals go_light
    all_goals first | (refine bodyPost_ret (v := ?_) ?_ rfl ?_; rotate_left 1; focus (simp [results, Try.results49, go_sem, *]; (try rfl); done)) | go_returns
    all_goals exact ⟨t, ret_valok (by obtain ⟨e, b⟩ := val63 hT H.out; rw [e]; simp [answerL, intL, longL, wrap32, wrap64, IntKind.wrap, IntKind.bits, IntKind.signed]; try omega), (by (repeat' first | with_reducible exact Fresh.refl _ | with_reducible assumption | with_reducible refine Fresh.alloc ?_ _ _ | with_reducible refine Fresh.drew ?_ | with_reducible refine Fresh.setCell ?_ ?_ _ | with_reducible refine Fresh.trans ?_ (by assumption) | (simp; done) | (simp; omega))), hT⟩
theorem cv64 {x t : Nat} (hT : TruncOf x t) (hW : refW x 13830554455654793216 4895412794951729152 = true) (w : World) : (convert 54 22 (.float .f64 t)).run Try.prog w = .ok (.int .u64 (toI t)) w := by
  have h := (same64 hT).trans hW
  exact run_convert_float_int (P := Try.prog) w 54 22 .f64 .u64 t (toI t) (by kernel_rfl) Try.underlying22 (win64 h).1
theorem val64 {x t : Nat} (hT : TruncOf x t) (hW : refW x 13830554455654793216 4895412794951729152 = true) : cutL 94 t = (toI t, true) ∧ 0 ≤ toI t ∧ toI t < 18446744073709551616 := by
  have h := (same64 hT).trans hW
  exact ⟨by simp [cutL, c64, h], (win64 h).2⟩
theorem vaf64 {x t : Nat} (hT : TruncOf x t) (hW : refW x 13830554455654793216 4895412794951729152 = false) : (cutL 94 t).2 = false := by
  have h := (same64 hT).trans hW
  simp [cutL, c64, h]
theorem rfrom_94 (x : Nat) (w : World) : Calls Try.prog 49 #[.int .i64 94, .float .f64 x] w (FromDbl 94 2 x w) := by
  cases hW : refW x 13830554455654793216 4895412794951729152
  · have H := Lib.hid hW
    clear hW
    go_enter Try.func49, Try.ntmps49
    go_wp2_with (go_at_call 67; refine (rtrunc_lit _ _ _ _ H.out _).mono ?_; rintro e w1 ⟨t, rfl, h1, hT⟩; obtain ⟨c1, f1⟩ := h1.cells; have z1 := h1.z (n := w.heap.size) (by first | assumption | (simp; done) | (simp; assumption) | (simp; omega)))
    all_goals go_light
    all_goals first | (refine bodyPost_ret (v := ?_) ?_ rfl ?_; rotate_left 1; focus (simp [results, Try.results49, go_sem, *]; (try rfl); done)) | go_returns
    all_goals exact ⟨t, ret_valok (by simp [answerL, vaf64 hT H.out]), (by (repeat' first | with_reducible exact Fresh.refl _ | with_reducible assumption | with_reducible refine Fresh.alloc ?_ _ _ | with_reducible refine Fresh.drew ?_ | with_reducible refine Fresh.setCell ?_ ?_ _ | with_reducible refine Fresh.trans ?_ (by assumption) | (simp; done) | (simp; omega))), hT⟩
  · have H := Lib.hid hW
    clear hW
    go_enter Try.func49, Try.ntmps49
    go_wp2_with (first | (go_at_call 67; refine (rtrunc_lit _ _ _ _ H.out _).mono ?_; rintro e w1 ⟨t, rfl, h1, hT⟩; obtain ⟨c1, f1⟩ := h1.cells; have z1 := h1.z (n := w.heap.size) (by first | assumption | (simp; done) | (simp; assumption) | (simp; omega)); have hcv := cv64 hT H.out) | (go_at_call 27; refine (rLong_any _ _).mono ?_; rintro e w2 ⟨rfl, h2⟩; obtain ⟨c2, f2⟩ := h2.cells; have z2 := h2.z (n := w.heap.size) (by first | assumption | (simp; done) | (simp; assumption) | (simp; omega))))
    all_goals go_light
    all_goals first | (refine bodyPost_ret (v := ?_) ?_ rfl ?_; rotate_left 1; focus (simp [results, Try.results49, go_sem, *]; (try rfl); done)) | go_returns
    all_goals exact ⟨t, ret_valok (by obtain ⟨e, b⟩ := val64 hT H.out; rw [e]; simp [answerL, intL, longL, wrap32, wrap64, IntKind.wrap, IntKind.bits, IntKind.signed]; try omega), (by (repeat' first | with_reducible exact Fresh.refl _ | with_reducible assumption | with_reducible refine Fresh.alloc ?_ _ _ | with_reducible refine Fresh.drew ?_ | with_reducible refine Fresh.setCell ?_ ?_ _ | with_reducible refine Fresh.trans ?_ (by assumption) | (simp; done) | (simp; omega))), hT⟩
end Go.Proofs.Ytopnbdblgfjnpaa
