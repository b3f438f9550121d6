/- What mach's calls that cut a double towards zero answer. -/
import Derived.Test.YteiomcbphbbpkaaGreatDoorYl
import Derived.Test.YteiomcbphbbpkaaGreatDoorYf
namespace Go.Proofs.YteiomcbphbbpkaaGreatDoor.mach
set_option linter.unusedSimpArgs false
set_option linter.unusedVariables false
open Go.RowKit
set_option maxRecDepth 100000

theorem run_trunc (x : Nat) (w : World) : ∃ t w', (callFunc 93 #[.float .f64 x]).run Tryz.prog w = .ok (.value (.float .f64 t)) w' ∧ Fresh w w' := by
  rw [run_callFunc_standIn (fn := Tryz.f93) (e := Extern.MathFloor.toIntegral "math.archTrunc" .zero) (by kernel_rfl) (by kernel_rfl) (by kernel_rfl) (by kernel_rfl) (by rfl)]
  generalize hT : Extern.MathFloor.toIntegral "math.archTrunc" .zero #[.float .f64 x] = T
  unfold Extern.MathFloor.toIntegral at hT
  conv at hT => lhs; whnf
  cases h : FloatKind.f64.decode x with
  | nan s t =>
    simp only [h] at hT
    by_cases hq : FloatKind.f64.format.quiet t = t
    · rw [if_pos hq] at hT; subst hT; exact ⟨x, w, rfl, Fresh.refl _⟩
    · rw [if_neg hq] at hT; subst hT; exact ⟨_, w.drew, rfl, (Fresh.refl _).drew⟩
  | number s m e => simp only [h] at hT; subst hT; exact ⟨_, w, rfl, Fresh.refl _⟩
  | infinity s => simp only [h] at hT; subst hT; exact ⟨_, w, rfl, Fresh.refl _⟩
/-- Some double is answered. -/
def SomeDbl (w : World) (e : Ending) (w' : World) : Prop := ∃ t : Nat, e = .returned (.float .f64 t) ∧ Fresh w w'
theorem trunc_any (x : Nat) (w : World) : Calls Tryz.prog 78 #[.float .f64 x] w (SomeDbl w) := by
  obtain ⟨t, w1, hr, h1⟩ := run_trunc x w
  go_enter Tryz.func78, Tryz.ntmps78
  go_wp2
  all_goals (go_returns; exact ⟨t, rfl, h1⟩)
theorem within31_any (t low hi : Nat) (hc : winL t low hi = true → floatToIntVal .f64 t .i32 = some (toI t)) (w : World) :
    Calls Tryz.prog 89 #[.float .f64 t, .float .f64 low, .float .f64 hi] w fun e w' => e = .returned (.tuple #[.int .i32 (if winL t low hi then toI t else 0), .bool (winL t low hi)]) ∧ w = w' := by
  cases h1 : (FloatKind.f64.format.order t low == some Ordering.gt || FloatKind.f64.format.order t low == some Ordering.eq)
  · have e : winL t low hi = false := by unfold winL; rw [h1]; rfl
    rw [e]
    clear hc e
    go_enter Tryz.func89, Tryz.ntmps89
    go_wp2
    all_goals (go_returns; go_light)
    all_goals exact ⟨by simp, rfl⟩
  · cases h2 : (FloatKind.f64.format.order t hi == some Ordering.lt)
    · have e : winL t low hi = false := by unfold winL; rw [h1, h2]; rfl
      rw [e]
      clear hc e
      go_enter Tryz.func89, Tryz.ntmps89
      go_wp2
      all_goals (go_returns; go_light)
      all_goals exact ⟨by simp, rfl⟩
    · have e : winL t low hi = true := by unfold winL; rw [h1, h2]; rfl
      have hcv := fun w : World => run_convert_float_int (P := Tryz.prog) w 139 21 .f64 .i32 t (toI t) (by kernel_rfl) Tryz.underlying21 (hc e)
      rw [e]
      clear hc e
      go_enter Tryz.func89, Tryz.ntmps89
      go_wp2
      all_goals (go_returns; go_light)
      all_goals exact ⟨by simp, rfl⟩
theorem within32_any (t low hi : Nat) (hc : winL t low hi = true → floatToIntVal .f64 t .u32 = some (toI t)) (w : World) :
    Calls Tryz.prog 90 #[.float .f64 t, .float .f64 low, .float .f64 hi] w fun e w' => e = .returned (.tuple #[.int .u32 (if winL t low hi then toI t else 0), .bool (winL t low hi)]) ∧ w = w' := by
  cases h1 : (FloatKind.f64.format.order t low == some Ordering.gt || FloatKind.f64.format.order t low == some Ordering.eq)
  · have e : winL t low hi = false := by unfold winL; rw [h1]; rfl
    rw [e]
    clear hc e
    go_enter Tryz.func90, Tryz.ntmps90
    go_wp2
    all_goals (go_returns; go_light)
    all_goals exact ⟨by simp, rfl⟩
  · cases h2 : (FloatKind.f64.format.order t hi == some Ordering.lt)
    · have e : winL t low hi = false := by unfold winL; rw [h1, h2]; rfl
      rw [e]
      clear hc e
      go_enter Tryz.func90, Tryz.ntmps90
      go_wp2
      all_goals (go_returns; go_light)
      all_goals exact ⟨by simp, rfl⟩
    · have e : winL t low hi = true := by unfold winL; rw [h1, h2]; rfl
      have hcv := fun w : World => run_convert_float_int (P := Tryz.prog) w 139 133 .f64 .u32 t (toI t) (by kernel_rfl) Tryz.underlying133 (hc e)
      rw [e]
      clear hc e
      go_enter Tryz.func90, Tryz.ntmps90
      go_wp2
      all_goals (go_returns; go_light)
      all_goals exact ⟨by simp, rfl⟩
theorem within63_any (t low hi : Nat) (hc : winL t low hi = true → floatToIntVal .f64 t .i64 = some (toI t)) (w : World) :
    Calls Tryz.prog 91 #[.float .f64 t, .float .f64 low, .float .f64 hi] w fun e w' => e = .returned (.tuple #[.int .i64 (if winL t low hi then toI t else 0), .bool (winL t low hi)]) ∧ w = w' := by
  cases h1 : (FloatKind.f64.format.order t low == some Ordering.gt || FloatKind.f64.format.order t low == some Ordering.eq)
  · have e : winL t low hi = false := by unfold winL; rw [h1]; rfl
    rw [e]
    clear hc e
    go_enter Tryz.func91, Tryz.ntmps91
    go_wp2
    all_goals (go_returns; go_light)
    all_goals exact ⟨by simp, rfl⟩
  · cases h2 : (FloatKind.f64.format.order t hi == some Ordering.lt)
    · have e : winL t low hi = false := by unfold winL; rw [h1, h2]; rfl
      rw [e]
      clear hc e
      go_enter Tryz.func91, Tryz.ntmps91
      go_wp2
      all_goals (go_returns; go_light)
      all_goals exact ⟨by simp, rfl⟩
    · have e : winL t low hi = true := by unfold winL; rw [h1, h2]; rfl
      have hcv := fun w : World => run_convert_float_int (P := Tryz.prog) w 139 2 .f64 .i64 t (toI t) (by kernel_rfl) Tryz.underlying2 (hc e)
      rw [e]
      clear hc e
      go_enter Tryz.func91, Tryz.ntmps91
      go_wp2
      all_goals (go_returns; go_light)
      all_goals exact ⟨by simp, rfl⟩
theorem within64_any (t low hi : Nat) (hc : winL t low hi = true → floatToIntVal .f64 t .u64 = some (toI t)) (w : World) :
    Calls Tryz.prog 92 #[.float .f64 t, .float .f64 low, .float .f64 hi] w fun e w' => e = .returned (.tuple #[.int .u64 (if winL t low hi then toI t else 0), .bool (winL t low hi)]) ∧ w = w' := by
  cases h1 : (FloatKind.f64.format.order t low == some Ordering.gt || FloatKind.f64.format.order t low == some Ordering.eq)
  · have e : winL t low hi = false := by unfold winL; rw [h1]; rfl
    rw [e]
    clear hc e
    go_enter Tryz.func92, Tryz.ntmps92
    go_wp2
    all_goals (go_returns; go_light)
    all_goals exact ⟨by simp, rfl⟩
  · cases h2 : (FloatKind.f64.format.order t hi == some Ordering.lt)
    · have e : winL t low hi = false := by unfold winL; rw [h1, h2]; rfl
      rw [e]
      clear hc e
      go_enter Tryz.func92, Tryz.ntmps92
      go_wp2
      all_goals (go_returns; go_light)
      all_goals exact ⟨by simp, rfl⟩
    · have e : winL t low hi = true := by unfold winL; rw [h1, h2]; rfl
      have hcv := fun w : World => run_convert_float_int (P := Tryz.prog) w 139 29 .f64 .u64 t (toI t) (by kernel_rfl) Tryz.underlying29 (hc e)
      rw [e]
      clear hc e
      go_enter Tryz.func92, Tryz.ntmps92
      go_wp2
      all_goals (go_returns; go_light)
      all_goals exact ⟨by simp, rfl⟩
def c31 (t : Nat) : Int × Bool := (if winL t 13970166044103278592 4746794007248502784 then toI t else 0, winL t 13970166044103278592 4746794007248502784)
def c32 (t : Nat) : Int × Bool := (if winL t 0 4751297606875873280 then toI t else 0, winL t 0 4751297606875873280)
def c63 (t : Nat) : Int × Bool := (if winL t 14114281232179134464 4890909195324358656 then toI t else 0, winL t 14114281232179134464 4890909195324358656)
def c64 (t : Nat) : Int × Bool := (if winL t 0 4895412794951729152 then toI t else 0, winL t 0 4895412794951729152)
def cutL (o : Int) (t : Nat) : Int × Bool :=
  if o == 91 then ((c31 t).1 % 4294967296, (c31 t).2) else if o == 92 then (IntKind.u64.wrap (c32 t).1, (c32 t).2) else if o == 93 then (IntKind.u64.wrap (c63 t).1, (c63 t).2) else c64 t
theorem within31_c (t : Nat) (w : World) : Calls Tryz.prog 89 #[.float .f64 t, .float .f64 13970166044103278592, .float .f64 4746794007248502784] w fun e w' => e = .returned (.tuple #[.int .i32 (c31 t).1, .bool (c31 t).2]) ∧ w = w' := within31_any _ _ _ (fun h => (win31 h).1) w
theorem within32_c (t : Nat) (w : World) : Calls Tryz.prog 90 #[.float .f64 t, .float .f64 0, .float .f64 4751297606875873280] w fun e w' => e = .returned (.tuple #[.int .u32 (c32 t).1, .bool (c32 t).2]) ∧ w = w' := within32_any _ _ _ (fun h => (win32 h).1) w
theorem within63_c (t : Nat) (w : World) : Calls Tryz.prog 91 #[.float .f64 t, .float .f64 14114281232179134464, .float .f64 4890909195324358656] w fun e w' => e = .returned (.tuple #[.int .i64 (c63 t).1, .bool (c63 t).2]) ∧ w = w' := within63_any _ _ _ (fun h => (win63 h).1) w
theorem within64_c (t : Nat) (w : World) : Calls Tryz.prog 92 #[.float .f64 t, .float .f64 0, .float .f64 4895412794951729152] w fun e w' => e = .returned (.tuple #[.int .u64 (c64 t).1, .bool (c64 t).2]) ∧ w = w' := within64_any _ _ _ (fun h => (win64 h).1) w
theorem cut_any (o : Int) (t : Nat) (w : World) :
    Calls Tryz.prog 77 #[.int .i64 o, .float .f64 t] w fun e w' => e = .returned (.tuple #[.int .u64 (cutL o t).1, .bool (cutL o t).2]) ∧ w = w' := by
  go_enter Tryz.func77, Tryz.ntmps77
  go_wp2_with (first | (go_at_call 89; refine (within31_c _ _).mono ?_; rintro e w' ⟨rfl, rfl⟩) | (go_at_call 90; refine (within32_c _ _).mono ?_; rintro e w' ⟨rfl, rfl⟩) | (go_at_call 91; refine (within63_c _ _).mono ?_; rintro e w' ⟨rfl, rfl⟩) | (go_at_call 92; refine (within64_c _ _).mono ?_; rintro e w' ⟨rfl, rfl⟩))
  all_goals (go_returns; go_light)
  all_goals exact ⟨ret_pair (by simp [cutL, *]), rfl⟩
def doubleL (o x : Int) : Nat :=
  if o == 87 then floatOfInt .f64 (wrap32 x) else if o == 88 then floatOfInt .f64 (x % 4294967296) else if o == 89 then floatOfInt .f64 (wrap64 x) else floatOfInt .f64 x
theorem ret_float {a b : Nat} (h : b = a) : Ending.returned (.float .f64 a) = Ending.returned (.float .f64 b) := by rw [h]
theorem double_any (o x : Int) (w : World) :
    Calls Tryz.prog 81 #[.int .i64 o, .int .u64 x] w fun e w' => e = .returned (.float .f64 (doubleL o x)) ∧ w = w' := by
  go_enter Tryz.func81, Tryz.ntmps81
  go_wp2
  all_goals (go_returns; go_light)
  all_goals exact ⟨ret_float (by simp [doubleL, *]), rfl⟩
end Go.Proofs.YteiomcbphbbpkaaGreatDoor.mach
