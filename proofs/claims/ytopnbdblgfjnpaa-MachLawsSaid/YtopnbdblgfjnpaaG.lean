/- What mach's operations of two answer, of any values. -/
import Derived.Test.YtopnbdblgfjnpaaE
import Derived.Test.YtopnbdblgfjnpaaF
namespace Go.Proofs.Ytopnbdblgfjnpaa
set_option linter.unusedSimpArgs false
set_option linter.unusedVariables false
open Go.RowKit

/-- The answer of an operation of two whose operands are of the kinds that they must be. -/
def bits2L (o k x y : Int) : Int × Bool :=
  if k == 3 then (doublesL o x y, true) else if k == 1 then (IntKind.u64.wrap (whole32 o (x % 4294967296) (y % 4294967296)).1, (whole32 o (x % 4294967296) (y % 4294967296)).2)
  else if isShiftL (o - 30) then whole64 (o - 30) x (y % 4294967296) else whole64 (o - 30) x y
set_option maxRecDepth 100000 in
theorem bits2_k3 (o x y : Int) (hx : 0 ≤ x) (hy : 0 ≤ y) (h1 : 62 ≤ o) (h2 : o ≤ 71) (w : World) :
    Calls Try.prog 34 #[.int .i64 o, .int .i64 3, .int .u64 x, .int .u64 y] w fun e w' => e = .returned (.tuple #[.int .u64 (bits2L o 3 x y).1, .bool (bits2L o 3 x y).2]) ∧ Fresh w w' := by
  go_enter Try.func34, Try.ntmps34
  go_wp2_with (first | (go_at_call 55; refine (doubles_any _ _ _ (by omega) (by omega) _).mono ?_; rintro e w1 ⟨rfl, h1⟩; obtain ⟨c1, f1⟩ := h1.cells))
  all_goals (go_returns; go_light)
  all_goals exact ⟨ret_pair (by simp [bits2L, *]), by first | assumption | exact Fresh.refl _⟩
set_option maxRecDepth 100000 in
theorem bits2_k1 (o x y : Int) (hx : 0 ≤ x) (hy : 0 ≤ y) (h1 : 1 ≤ o) (h2 : o ≤ 25) (w : World) :
    Calls Try.prog 34 #[.int .i64 o, .int .i64 1, .int .u64 x, .int .u64 y] w fun e w' => e = .returned (.tuple #[.int .u64 (bits2L o 1 x y).1, .bool (bits2L o 1 x y).2]) ∧ Fresh w w' := by
  have hx4 : 0 ≤ x % 4294967296 := by omega
  have hy4 : 0 ≤ y % 4294967296 := by omega
  go_enter Try.func34, Try.ntmps34
  go_wp2_with (first | (go_at_call 56; refine (whole32_any _ _ _ (by omega) (by omega) hx4 hy4 _).mono ?_; rintro e w' ⟨rfl, rfl⟩))
  all_goals (go_returns; go_light)
  all_goals exact ⟨ret_pair (by simp [bits2L, *]), by first | assumption | exact Fresh.refl _⟩
set_option maxRecDepth 100000 in
theorem bits2_k2s (o x y : Int) (hx : 0 ≤ x) (hy : 0 ≤ y) (h1 : 31 ≤ o) (h2 : o ≤ 55) (hs : isShiftL (o - 30) = true) (w : World) :
    Calls Try.prog 34 #[.int .i64 o, .int .i64 2, .int .u64 x, .int .u64 y] w fun e w' => e = .returned (.tuple #[.int .u64 (bits2L o 2 x y).1, .bool (bits2L o 2 x y).2]) ∧ Fresh w w' := by
  have hx4 : 0 ≤ x % 4294967296 := by omega
  have hy4 : 0 ≤ y % 4294967296 := by omega
  have ha : 1 ≤ o - 30 := by omega
  have hb : o - 30 ≤ 25 := by omega
  go_enter Try.func34, Try.ntmps34
  go_wp2_with (first | (go_at_call 57; refine (isShift_any _ _).mono ?_; rintro e w' ⟨rfl, rfl⟩) | (go_at_call 58; refine (whole64_any _ _ _ ha hb hx hy4 _).mono ?_; rintro e w' ⟨rfl, rfl⟩))
  all_goals (go_returns; go_light)
  all_goals exact ⟨ret_pair (by simp [bits2L, *]), by first | assumption | exact Fresh.refl _⟩
set_option maxRecDepth 100000 in
theorem bits2_k2n (o x y : Int) (hx : 0 ≤ x) (hy : 0 ≤ y) (h1 : 31 ≤ o) (h2 : o ≤ 55) (hs : isShiftL (o - 30) = false) (w : World) :
    Calls Try.prog 34 #[.int .i64 o, .int .i64 2, .int .u64 x, .int .u64 y] w fun e w' => e = .returned (.tuple #[.int .u64 (bits2L o 2 x y).1, .bool (bits2L o 2 x y).2]) ∧ Fresh w w' := by
  have ha : 1 ≤ o - 30 := by omega
  have hb : o - 30 ≤ 25 := by omega
  go_enter Try.func34, Try.ntmps34
  go_wp2_with (first | (go_at_call 57; refine (isShift_any _ _).mono ?_; rintro e w' ⟨rfl, rfl⟩) | (go_at_call 58; refine (whole64_any _ _ _ ha hb hx hy _).mono ?_; rintro e w' ⟨rfl, rfl⟩))
  all_goals (go_returns; go_light)
  all_goals exact ⟨ret_pair (by simp [bits2L, *]), by first | assumption | exact Fresh.refl _⟩
theorem bits2_any (o k x y : Int) (hx : 0 ≤ x) (hy : 0 ≤ y) (h : (k = 3 ∧ 62 ≤ o ∧ o ≤ 71) ∨ (k = 1 ∧ 1 ≤ o ∧ o ≤ 25) ∨ (k = 2 ∧ 31 ≤ o ∧ o ≤ 55)) (w : World) :
    Calls Try.prog 34 #[.int .i64 o, .int .i64 k, .int .u64 x, .int .u64 y] w fun e w' => e = .returned (.tuple #[.int .u64 (bits2L o k x y).1, .bool (bits2L o k x y).2]) ∧ Fresh w w' := by
  rcases h with ⟨rfl, h1, h2⟩ | ⟨rfl, h1, h2⟩ | ⟨rfl, h1, h2⟩
  · exact bits2_k3 o x y hx hy h1 h2 w
  · exact bits2_k1 o x y hx hy h1 h2 w
  · cases hs : isShiftL (o - 30)
    · exact bits2_k2n o x y hx hy h1 h2 hs w
    · exact bits2_k2s o x y hx hy h1 h2 hs w
end Go.Proofs.Ytopnbdblgfjnpaa
