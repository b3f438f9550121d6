/- Values that are made; Answer, both sides. -/
import Derived.Test.YtjbflmpnmobngaaDoorDa
namespace Go.Proofs.YtjbflmpnmobngaaDoor
set_option linter.unusedSimpArgs false
set_option linter.unusedVariables false
open Ieee Go.RowKit

theorem word_halves (s : Bool) (r : Nat) (h : r < 9223372036854775808) : (double.word s r / double.signWeight % 2 == 1) = s ∧ double.word s r % double.signWeight = r := by
  have w1 : double.signWeight = 9223372036854775808 := by decide
  unfold Format.word
  rw [w1]
  cases s
  · refine ⟨?_, ?_⟩
    · have : r / 9223372036854775808 % 2 = 0 := by omega
      rw [if_neg (by decide), this]
      rfl
    · rw [if_neg (by decide)]; omega
  · refine ⟨?_, ?_⟩
    · have : (9223372036854775808 + r) / 9223372036854775808 % 2 = 1 := by omega
      rw [if_pos rfl, this]
      rfl
    · rw [if_pos rfl]; omega
def isEq (x : Nat) : Prop := FloatKind.f64.format.order x x = some Ordering.eq
theorem word_is (s : Bool) (r : Nat) (h : r ≤ 9218868437227405312) : isEq (double.word s r) := by
  have w2 : double.binade = 4503599627370496 := by decide
  have w3 : double.infRung = 9218868437227405312 := by decide
  obtain ⟨p1, p2⟩ := word_halves s r (by omega)
  have key : ∀ x, (∃ m e, double.read x = .number s m e) ∨ double.read x = .infinity s → double.order x x = some .eq := by
    intro x hx
    rcases hx with ⟨m, e, hr⟩ | hr
    · unfold Format.order
      rw [hr]
      simp [Datum.order, compare, compareOfLessAndEq]
    · unfold Format.order
      rw [hr]
      cases s <;> decide
  show double.order _ _ = _
  refine key _ ?_
  unfold Format.read
  rw [p1, p2, w2, w3]
  dsimp only
  by_cases a : r < 4503599627370496
  · rw [if_pos a]; exact Or.inl ⟨_, _, rfl⟩
  · rw [if_neg a]
    by_cases b : r < 9218868437227405312
    · rw [if_pos b]; exact Or.inl ⟨_, _, rfl⟩
    · rw [if_neg b, if_pos (by omega)]; exact Or.inr rfl
theorem near_is (s : Bool) (m : Nat) (e : Int) : isEq (double.nearest s m e) := by
  have w3 : double.infRung = 9218868437227405312 := by decide
  unfold Format.nearest
  split
  · exact word_is s 0 (by decide)
  · dsimp only
    rw [w3]
    exact word_is s _ (Nat.min_le_right _ _)
theorem int_is (n : Int) : isEq (floatOfInt .f64 n) := near_is (decide (n < 0)) n.natAbs 0
theorem run_bits (x : Nat) (w : World) : (callFunc 29 #[.float .f64 x]).run Tryd.prog w = .ok (.value (.int .u64 x)) w := by
  rw [run_callFunc_standIn (fn := Tryd.f29) (e := Extern.MathFloatBits.float64bits) (by kernel_rfl) (by kernel_rfl) (by kernel_rfl) (by kernel_rfl) (by rfl)]
  rfl
theorem mkInt (n : Int) (w : World) : Calls Tryd.prog 26 #[.int .i32 n] w fun e w' => e = .returned (.agg #[.int .i64 1, .int .u64 (n % 4294967296), .int .i64 0]) ∧ Fresh w w' := by
  go_enter Tryd.func26, Tryd.ntmps26
  go_wp2
  go_returns
  exact ⟨rfl, (Fresh.refl _).alloc _ _⟩
theorem mkLong (n : Int) (w : World) : Calls Tryd.prog 27 #[.int .i64 n] w fun e w' => e = .returned (.agg #[.int .i64 2, .int .u64 (IntKind.u64.wrap n), .int .i64 0]) ∧ Fresh w w' := by
  go_enter Tryd.func27, Tryd.ntmps27
  go_wp2
  go_returns
  exact ⟨rfl, (Fresh.refl _).alloc _ _⟩
theorem mkDbl (n : Int) (w : World) : Calls Tryd.prog 28 #[.int .u64 n] w fun e w' => e = .returned (.agg #[.int .i64 3, .int .u64 n, .int .i64 0]) ∧ Fresh w w' := by
  go_enter Tryd.func28, Tryd.ntmps28
  go_wp2
  go_returns
  exact ⟨rfl, (Fresh.refl _).alloc _ _⟩
theorem mkIntR (n : Int) (w : World) : Calls Tryd.prog 30 #[.int .i32 n] w fun e w' => e = .returned (.agg #[.int .i64 1, .int .u64 (n % 4294967296), .int .i64 0]) ∧ Fresh w w' := by
  go_enter Tryd.func30, Tryd.ntmps30
  go_wp2
  go_returns
  exact ⟨rfl, (Fresh.refl _).alloc _ _⟩
theorem mkLongR (n : Int) (w : World) : Calls Tryd.prog 31 #[.int .i64 n] w fun e w' => e = .returned (.agg #[.int .i64 2, .int .u64 (IntKind.u64.wrap n), .int .i64 0]) ∧ Fresh w w' := by
  go_enter Tryd.func31, Tryd.ntmps31
  go_wp2
  go_returns
  exact ⟨rfl, (Fresh.refl _).alloc _ _⟩
section
attribute [local go_sem ↓] run_bits
theorem mkDblR (x : Nat) (hx : isEq x) (w : World) : Calls Tryd.prog 32 #[.float .f64 x] w fun e w' => e = .returned (.agg #[.int .i64 3, .int .u64 x, .int .i64 0]) ∧ Fresh w w' := by
  have hx' : FloatKind.f64.format.order x x = some Ordering.eq := hx
  go_enter Tryd.func32, Tryd.ntmps32
  go_wp2
  all_goals (go_returns; go_light)
  all_goals first | exact ⟨rfl, (Fresh.refl _).alloc _ _⟩ | (exfalso; simp_all)
end
end Go.Proofs.YtjbflmpnmobngaaDoor
