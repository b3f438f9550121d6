/- What the calls of mach that make a value, or take pointers, answer; each makes new memory alone. -/
import Derived.Test.YteiomcbphbbpkaaGreatDoorYc
namespace Go.Proofs.YteiomcbphbbpkaaGreatDoor.mach
set_option linter.unusedSimpArgs false
set_option linter.unusedVariables false
open Go.RowKit

theorem ret_val {k n b : Int} {p : Int × Int × Int} (h : p = (k, n, b)) : Ending.returned (.agg #[.int .i64 k, .int .u64 n, .int .i64 b]) = Ending.returned (.agg #[.int .i64 p.1, .int .u64 p.2.1, .int .i64 p.2.2]) := by rw [h]
theorem ret_valok {k n b : Int} {c : Bool} {p : (Int × Int × Int) × Bool} (h : p = ((k, n, b), c)) : Ending.returned (.tuple #[.agg #[.int .i64 k, .int .u64 n, .int .i64 b], .bool c]) = Ending.returned (.tuple #[.agg #[.int .i64 p.1.1, .int .u64 p.1.2.1, .int .i64 p.1.2.2], .bool p.2]) := by rw [h]

def intL (n : Int) : Int × Int × Int := (1, n % 4294967296, 0)
def longL (n : Int) : Int × Int × Int := (2, IntKind.u64.wrap n, 0)
def ptrL (b o : Int) : Int × Int × Int := if b == 0 then (0, 0, 0) else (4, IntKind.u64.wrap o, b)
def answerL (k n : Int) (ok : Bool) : (Int × Int × Int) × Bool := if ok then ((k, n, 0), true) else ((0, 0, 0), false)

theorem long_any (n : Int) (w : World) :
    Calls Tryz.prog 7 #[.int .i64 n] w fun e w' => e = .returned (.agg #[.int .i64 (longL n).1, .int .u64 (longL n).2.1, .int .i64 (longL n).2.2]) ∧ Fresh w w' := by
  go_enter Tryz.func7, Tryz.ntmps7
  go_wp2
  go_returns
  exact ⟨ret_val rfl, (Fresh.refl _).alloc _ _⟩
theorem answer_any (k n : Int) (ok : Bool) (w : World) :
    Calls Tryz.prog 50 #[.int .i64 k, .int .u64 n, .bool ok] w fun e w' => e = .returned (.tuple #[.agg #[.int .i64 (answerL k n ok).1.1, .int .u64 (answerL k n ok).1.2.1, .int .i64 (answerL k n ok).1.2.2], .bool (answerL k n ok).2]) ∧ Fresh w w' := by
  cases ok <;>
  · go_enter Tryz.func50, Tryz.ntmps50
    go_wp2
    all_goals (go_returns; go_light)
    all_goals exact ⟨ret_valok (by simp [answerL]), (Fresh.refl _).alloc _ _⟩
def nowhereL (k b : Int) : Bool := k == 4 && b == 0
def palL (o n b y : Int) : (Int × Int × Int) × Bool :=
  if o == 33 then (ptrL b (wrap64 (IntKind.u64.wrap (n + y))), true) else if o == 34 then (ptrL b (wrap64 (IntKind.u64.wrap (n - y))), true)
  else if o == 46 && y == 0 then (intL 0, true) else if o == 47 && y == 0 then (intL 1, true) else ((0, 0, 0), false)
end Go.Proofs.YteiomcbphbbpkaaGreatDoor.mach
