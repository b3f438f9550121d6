/- What mach's calls that cut a double towards zero answer. -/
import Derived.Test.YtopnbdblgfjnpaaL
import Derived.Test.YtopnbdblgfjnpaaG
namespace Go.Proofs.Ytopnbdblgfjnpaa
set_option linter.unusedSimpArgs false
set_option linter.unusedVariables false
open Go.RowKit

theorem run_trunc (x : Nat) (w : World) : ∃ t w', (callFunc 89 #[.float .f64 x]).run Try.prog w = .ok (.value (.float .f64 t)) w' ∧ Fresh w w' := by
  rw [run_callFunc_standIn (fn := Try.f89) (e := Extern.MathFloor.toIntegral "math.archTrunc" .zero) (by kernel_rfl) (by kernel_rfl) (by kernel_rfl) (by kernel_rfl) (by rfl)]
  generalize hT : Extern.MathFloor.toIntegral "math.archTrunc" .zero #[.float .f64 x] = T
  unfold Extern.MathFloor.toIntegral at hT
  conv at hT => lhs; whnf
  cases h : FloatKind.f64.decode x with
  | nan s t =>
    simp only [h] at hT
    by_cases hq : FloatKind.f64.format.quiet t = t
    · rw [if_pos hq] at hT; subst hT; exact ⟨x, w, rfl, Fresh.refl _⟩
    · rw [if_neg hq] at hT; subst hT; exact ⟨_, w.drew, rfl, (Fresh.refl _).drew⟩
  | number s m e => simp only [h] at hT; subst hT; exact ⟨_, w, rfl, Fresh.refl _⟩
  | infinity s => simp only [h] at hT; subst hT; exact ⟨_, w, rfl, Fresh.refl _⟩
/-- Some double is answered. -/
def SomeDbl (w : World) (e : Ending) (w' : World) : Prop := ∃ t : Nat, e = .returned (.float .f64 t) ∧ Fresh w w'
theorem trunc_any (x : Nat) (w : World) : Calls Try.prog 63 #[.float .f64 x] w (SomeDbl w) := by
  obtain ⟨t, w1, hr, h1⟩ := run_trunc x w
  go_enter Try.func63, Try.ntmps63
  go_wp2
  all_goals (go_returns; exact ⟨t, rfl, h1⟩)
theorem within31_any (t low hi : Nat) (hc : winL t low hi = true → floatToIntVal .f64 t .i32 = some (toI t)) (w : World) :
    Calls Try.prog 85 #[.float .f64 t, .float .f64 low, .float .f64 hi] w fun e w' => e = .returned (.tuple #[.int .i32 (if winL t low hi then toI t else 0), .bool (winL t low hi)]) ∧ w = w' := by
  cases h1 : (FloatKind.f64.format.order t low == some Ordering.gt || FloatKind.f64.format.order t low == some Ordering.eq)
  · have e : winL t low hi = false := by unfold winL; rw [h1]; rfl
    rw [e]
    clear hc e
    go_enter Try.func85, Try.ntmps85
    go_wp2
    all_goals (go_returns; go_light)
    all_goals exact ⟨by simp, rfl⟩
  · cases h2 : (FloatKind.f64.format.order t hi == some Ordering.lt)
    · have e : winL t low hi = false := by unfold winL; rw [h1, h2]; rfl
      rw [e]
      clear hc e
      go_enter Try.func85, Try.ntmps85
      go_wp2
      all_goals (go_returns; go_light)
      all_goals exact ⟨by simp, rfl⟩
    · have e : winL t low hi = true := by unfold winL; rw [h1, h2]; rfl
      have hcv := fun w : World => run_convert_float_int (P := Try.prog) w 54 21 .f64 .i32 t (toI t) (by kernel_rfl) Try.underlying21 (hc e)
      rw [e]
      clear hc e
      go_enter Try.func85, Try.ntmps85
      go_wp2
      all_goals (go_returns; go_light)
      all_goals exact ⟨by simp, rfl⟩
theorem within32_any (t low hi : Nat) (hc : winL t low hi = true → floatToIntVal .f64 t .u32 = some (toI t)) (w : World) :
    Calls Try.prog 86 #[.float .f64 t, .float .f64 low, .float .f64 hi] w fun e w' => e = .returned (.tuple #[.int .u32 (if winL t low hi then toI t else 0), .bool (winL t low hi)]) ∧ w = w' := by
  cases h1 : (FloatKind.f64.format.order t low == some Ordering.gt || FloatKind.f64.format.order t low == some Ordering.eq)
  · have e : winL t low hi = false := by unfold winL; rw [h1]; rfl
    rw [e]
    clear hc e
    go_enter Try.func86, Try.ntmps86
    go_wp2
    all_goals (go_returns; go_light)
    all_goals exact ⟨by simp, rfl⟩
  · cases h2 : (FloatKind.f64.format.order t hi == some Ordering.lt)
    · have e : winL t low hi = false := by unfold winL; rw [h1, h2]; rfl
      rw [e]
      clear hc e
      go_enter Try.func86, Try.ntmps86
      go_wp2
      all_goals (go_returns; go_light)
      all_goals exact ⟨by simp, rfl⟩
    · have e : winL t low hi = true := by unfold winL; rw [h1, h2]; rfl
      have hcv := fun w : World => run_convert_float_int (P := Try.prog) w 54 48 .f64 .u32 t (toI t) (by kernel_rfl) Try.underlying48 (hc e)
      rw [e]
      clear hc e
      go_enter Try.func86, Try.ntmps86
      go_wp2
      all_goals (go_returns; go_light)
      all_goals exact ⟨by simp, rfl⟩
theorem within63_any (t low hi : Nat) (hc : winL t low hi = true → floatToIntVal .f64 t .i64 = some (toI t)) (w : World) :
    Calls Try.prog 87 #[.float .f64 t, .float .f64 low, .float .f64 hi] w fun e w' => e = .returned (.tuple #[.int .i64 (if winL t low hi then toI t else 0), .bool (winL t low hi)]) ∧ w = w' := by
  cases h1 : (FloatKind.f64.format.order t low == some Ordering.gt || FloatKind.f64.format.order t low == some Ordering.eq)
  · have e : winL t low hi = false := by unfold winL; rw [h1]; rfl
    rw [e]
    clear hc e
    go_enter Try.func87, Try.ntmps87
    go_wp2
    all_goals (go_returns; go_light)
    all_goals exact ⟨by simp, rfl⟩
  · cases h2 : (FloatKind.f64.format.order t hi == some Ordering.lt)
    · have e : winL t low hi = false := by unfold winL; rw [h1, h2]; rfl
      rw [e]
      clear hc e
      go_enter Try.func87, Try.ntmps87
      go_wp2
      all_goals (go_returns; go_light)
      all_goals exact ⟨by simp, rfl⟩
    · have e : winL t low hi = true := by unfold winL; rw [h1, h2]; rfl
      have hcv := fun w : World => run_convert_float_int (P := Try.prog) w 54 2 .f64 .i64 t (toI t) (by kernel_rfl) Try.underlying2 (hc e)
      rw [e]
      clear hc e
      go_enter Try.func87, Try.ntmps87
      go_wp2
      all_goals (go_returns; go_light)
      all_goals exact ⟨by simp, rfl⟩
theorem within64_any (t low hi : Nat) (hc : winL t low hi = true → floatToIntVal .f64 t .u64 = some (toI t)) (w : World) :
    Calls Try.prog 88 #[.float .f64 t, .float .f64 low, .float .f64 hi] w fun e w' => e = .returned (.tuple #[.int .u64 (if winL t low hi then toI t else 0), .bool (winL t low hi)]) ∧ w = w' := by
  cases h1 : (FloatKind.f64.format.order t low == some Ordering.gt || FloatKind.f64.format.order t low == some Ordering.eq)
  · have e : winL t low hi = false := by unfold winL; rw [h1]; rfl
    rw [e]
    clear hc e
    go_enter Try.func88, Try.ntmps88
    go_wp2
    all_goals (go_returns; go_light)
    all_goals exact ⟨by simp, rfl⟩
  · cases h2 : (FloatKind.f64.format.order t hi == some Ordering.lt)
    · have e : winL t low hi = false := by unfold winL; rw [h1, h2]; rfl
      rw [e]
      clear hc e
      go_enter Try.func88, Try.ntmps88
      go_wp2
      all_goals (go_returns; go_light)
      all_goals exact ⟨by simp, rfl⟩
    · have e : winL t low hi = true := by unfold winL; rw [h1, h2]; rfl
      have hcv := fun w : World => run_convert_float_int (P := Try.prog) w 54 22 .f64 .u64 t (toI t) (by kernel_rfl) Try.underlying22 (hc e)
      rw [e]
      clear hc e
      go_enter Try.func88, Try.ntmps88
      go_wp2
      all_goals (go_returns; go_light)
      all_goals exact ⟨by simp, rfl⟩
def c31 (t : Nat) : Int × Bool := (if winL t 13970166044103278592 4746794007248502784 then toI t else 0, winL t 13970166044103278592 4746794007248502784)
def c32 (t : Nat) : Int × Bool := (if winL t 0 4751297606875873280 then toI t else 0, winL t 0 4751297606875873280)
def c63 (t : Nat) : Int × Bool := (if winL t 14114281232179134464 4890909195324358656 then toI t else 0, winL t 14114281232179134464 4890909195324358656)
def c64 (t : Nat) : Int × Bool := (if winL t 0 4895412794951729152 then toI t else 0, winL t 0 4895412794951729152)
def cutL (o : Int) (t : Nat) : Int × Bool :=
  if o == 91 then ((c31 t).1 % 4294967296, (c31 t).2) else if o == 92 then (IntKind.u64.wrap (c32 t).1, (c32 t).2) else if o == 93 then (IntKind.u64.wrap (c63 t).1, (c63 t).2) else c64 t
theorem within31_c (t : Nat) (w : World) : Calls Try.prog 85 #[.float .f64 t, .float .f64 13970166044103278592, .float .f64 4746794007248502784] w fun e w' => e = .returned (.tuple #[.int .i32 (c31 t).1, .bool (c31 t).2]) ∧ w = w' := within31_any _ _ _ (fun h => (win31 h).1) w
theorem within32_c (t : Nat) (w : World) : Calls Try.prog 86 #[.float .f64 t, .float .f64 0, .float .f64 4751297606875873280] w fun e w' => e = .returned (.tuple #[.int .u32 (c32 t).1, .bool (c32 t).2]) ∧ w = w' := within32_any _ _ _ (fun h => (win32 h).1) w
theorem within63_c (t : Nat) (w : World) : Calls Try.prog 87 #[.float .f64 t, .float .f64 14114281232179134464, .float .f64 4890909195324358656] w fun e w' => e = .returned (.tuple #[.int .i64 (c63 t).1, .bool (c63 t).2]) ∧ w = w' := within63_any _ _ _ (fun h => (win63 h).1) w
theorem within64_c (t : Nat) (w : World) : Calls Try.prog 88 #[.float .f64 t, .float .f64 0, .float .f64 4895412794951729152] w fun e w' => e = .returned (.tuple #[.int .u64 (c64 t).1, .bool (c64 t).2]) ∧ w = w' := within64_any _ _ _ (fun h => (win64 h).1) w
theorem cut_any (o : Int) (t : Nat) (w : World) :
    Calls Try.prog 62 #[.int .i64 o, .float .f64 t] w fun e w' => e = .returned (.tuple #[.int .u64 (cutL o t).1, .bool (cutL o t).2]) ∧ w = w' := by
  go_enter Try.func62, Try.ntmps62
  go_wp2_with (first | (go_at_call 85; refine (within31_c _ _).mono ?_; rintro e w' ⟨rfl, rfl⟩) | (go_at_call 86; refine (within32_c _ _).mono ?_; rintro e w' ⟨rfl, rfl⟩) | (go_at_call 87; refine (within63_c _ _).mono ?_; rintro e w' ⟨rfl, rfl⟩) | (go_at_call 88; refine (within64_c _ _).mono ?_; rintro e w' ⟨rfl, rfl⟩))
  all_goals (go_returns; go_light)
  all_goals exact ⟨ret_pair (by simp [cutL, *]), rfl⟩
def doubleL (o x : Int) : Nat :=
  if o == 87 then floatOfInt .f64 (wrap32 x) else if o == 88 then floatOfInt .f64 (x % 4294967296) else if o == 89 then floatOfInt .f64 (wrap64 x) else floatOfInt .f64 x
theorem ret_float {a b : Nat} (h : b = a) : Ending.returned (.float .f64 a) = Ending.returned (.float .f64 b) := by rw [h]
theorem double_any (o x : Int) (w : World) :
    Calls Try.prog 65 #[.int .i64 o, .int .u64 x] w fun e w' => e = .returned (.float .f64 (doubleL o x)) ∧ w = w' := by
  go_enter Try.func65, Try.ntmps65
  go_wp2
  all_goals (go_returns; go_light)
  all_goals exact ⟨ret_float (by simp [doubleL, *]), rfl⟩
end Go.Proofs.Ytopnbdblgfjnpaa
