/- What the calls of mach that leave memory alone answer: the tables, and the operations of whole numbers of either width. Each is a contract of the call, for whatever arguments. -/
import Derived.Test.YtopnbdblgfjnpaaRows
import Derived.Handy
import Derived.WalkLawsBesides
import Derived.WalkSpells
import Derived.Deep.Light
namespace Go.Proofs.Ytopnbdblgfjnpaa
set_option linter.unusedSimpArgs false
set_option linter.unusedVariables false
open Go.RowKit

theorem ret_pair {k : IntKind} {a : Int} {c : Bool} {p : Int × Bool} (h : p = (a, c)) : Ending.returned (.tuple #[.int k a, .bool c]) = Ending.returned (.tuple #[.int k p.1, .bool p.2]) := by rw [h]
theorem ret_int {k : IntKind} {a b : Int} (h : b = a) : Ending.returned (.int k a) = Ending.returned (.int k b) := by rw [h]
theorem ret_bool {a b : Bool} (h : b = a) : Ending.returned (.bool a) = Ending.returned (.bool b) := by rw [h]
def isShiftL (o : Int) : Bool := o == 13 || o == 14 || o == 15
def compareL (o x y : Int) : Bool :=
  if o == 16 then x == y else if o == 17 then x != y else if o == 18 then decide (x < y) else if o == 19 then decide (x ≤ y) else if o == 20 then decide (y < x) else decide (y ≤ x)
def flagL (b : Bool) : Int := if b then 1 else 0
def arith32 (o x y : Int) : Int :=
  if o == 3 then (x + y) % 4294967296 else if o == 4 then (x - y) % 4294967296 else if o == 5 then x * y % 4294967296 else if o == 10 then bits BinOp.and IntKind.u32 x y else if o == 11 then bits BinOp.or IntKind.u32 x y else bits BinOp.xor IntKind.u32 x y
def arith64 (o x y : Int) : Int :=
  if o == 3 then IntKind.u64.wrap (x + y) else if o == 4 then IntKind.u64.wrap (x - y) else if o == 5 then IntKind.u64.wrap (x * y) else if o == 10 then bits BinOp.and IntKind.u64 x y else if o == 11 then bits BinOp.or IntKind.u64 x y else bits BinOp.xor IntKind.u64 x y
def shift32 (o x y : Int) : Int :=
  if o == 13 then x * 2 ^ y.toNat % 4294967296 else if o == 14 then wrap32 x / 2 ^ y.toNat % 4294967296 else x / 2 ^ y.toNat
def shift64 (o x y : Int) : Int :=
  if o == 13 then IntKind.u64.wrap (x * 2 ^ y.toNat) else if o == 14 then IntKind.u64.wrap (wrap64 x / 2 ^ y.toNat) else x / 2 ^ y.toNat
def extendL (o x : Int) : Int :=
  if o == 80 then IntKind.i8.wrap x % 4294967296 else if o == 81 then x % 256 else if o == 82 then IntKind.i16.wrap x % 4294967296 else if o == 83 then IntKind.u64.wrap (IntKind.u16.wrap x) else if o == 84 then IntKind.u64.wrap (wrap32 x) else x % 4294967296

theorem flag64_any (b : Bool) (w : World) :
    Calls Try.prog 46 #[.bool b] w fun e w' => e = .returned (.int .u64 (flagL b)) ∧ w = w' := by
  cases b <;>
  · go_enter Try.func46, Try.ntmps46
    go_wp2
    all_goals (go_returns; exact ⟨by simp [flagL], rfl⟩)
theorem flag32_any (b : Bool) (w : World) :
    Calls Try.prog 70 #[.bool b] w fun e w' => e = .returned (.int .u32 (flagL b)) ∧ w = w' := by
  cases b <;>
  · go_enter Try.func70, Try.ntmps70
    go_wp2
    all_goals (go_returns; exact ⟨by simp [flagL], rfl⟩)
theorem isShift_any (o : Int) (w : World) :
    Calls Try.prog 57 #[.int .i64 o] w fun e w' => e = .returned (.bool (isShiftL o)) ∧ w = w' := by
  go_enter Try.func57, Try.ntmps57
  go_wp2
  all_goals (go_returns; go_light; exact ⟨by simp [isShiftL, *], rfl⟩)
theorem width32_any (w : World) :
    Calls Try.prog 92 #[] w fun e w' => e = .returned (.int .u32 32) ∧ w = w' := by
  go_enter Try.func92, Try.ntmps92
  go_wp2
  all_goals (go_returns; go_light; exact ⟨by kernel_rfl, rfl⟩)
theorem width64_any (w : World) :
    Calls Try.prog 93 #[] w fun e w' => e = .returned (.int .u64 64) ∧ w = w' := by
  go_enter Try.func93, Try.ntmps93
  go_wp2
  all_goals (go_returns; go_light; exact ⟨by kernel_rfl, rfl⟩)
theorem compareU32_any (o x y : Int) (w : World) :
    Calls Try.prog 71 #[.int .i64 o, .int .u32 x, .int .u32 y] w fun e w' => e = .returned (.bool (compareL o x y)) ∧ w = w' := by
  go_enter Try.func71, Try.ntmps71
  go_wp2
  all_goals (go_returns; go_light; exact ⟨by simp [compareL, *], rfl⟩)
theorem compareI32_any (o x y : Int) (w : World) :
    Calls Try.prog 72 #[.int .i64 o, .int .i32 x, .int .i32 y] w fun e w' => e = .returned (.bool (compareL o x y)) ∧ w = w' := by
  go_enter Try.func72, Try.ntmps72
  go_wp2
  all_goals (go_returns; go_light; exact ⟨by simp [compareL, *], rfl⟩)
theorem compareU64_any (o x y : Int) (w : World) :
    Calls Try.prog 78 #[.int .i64 o, .int .u64 x, .int .u64 y] w fun e w' => e = .returned (.bool (compareL o x y)) ∧ w = w' := by
  go_enter Try.func78, Try.ntmps78
  go_wp2
  all_goals (go_returns; go_light; exact ⟨by simp [compareL, *], rfl⟩)
theorem compareI64_any (o x y : Int) (w : World) :
    Calls Try.prog 79 #[.int .i64 o, .int .i64 x, .int .i64 y] w fun e w' => e = .returned (.bool (compareL o x y)) ∧ w = w' := by
  go_enter Try.func79, Try.ntmps79
  go_wp2
  all_goals (go_returns; go_light; exact ⟨by simp [compareL, *], rfl⟩)
theorem arith32_any (o x y : Int) (w : World) :
    Calls Try.prog 77 #[.int .i64 o, .int .u32 x, .int .u32 y] w fun e w' => e = .returned (.int .u32 (arith32 o x y)) ∧ w = w' := by
  go_enter Try.func77, Try.ntmps77
  go_wp2
  all_goals (go_returns; go_light; exact ⟨by simp [arith32, *], rfl⟩)
theorem arith64_any (o x y : Int) (w : World) :
    Calls Try.prog 84 #[.int .i64 o, .int .u64 x, .int .u64 y] w fun e w' => e = .returned (.int .u64 (arith64 o x y)) ∧ w = w' := by
  go_enter Try.func84, Try.ntmps84
  go_wp2
  all_goals (go_returns; go_light; exact ⟨by simp [arith64, *], rfl⟩)
theorem extend_any (o x : Int) (w : World) :
    Calls Try.prog 66 #[.int .i64 o, .int .u64 x] w fun e w' => e = .returned (.int .u64 (extendL o x)) ∧ w = w' := by
  go_enter Try.func66, Try.ntmps66
  go_wp2
  all_goals (go_returns; go_light; exact ⟨by simp [extendL, *], rfl⟩)
theorem lowest32_any (x : Int) (w : World) :
    Calls Try.prog 74 #[.int .u32 x] w fun e w' => e = .returned (.bool (x != 0 && x == -x % 4294967296)) ∧ w = w' := by
  go_enter Try.func74, Try.ntmps74
  go_wp2
  all_goals (go_returns; go_light; exact ⟨by simp [bne, *], rfl⟩)
theorem lowest64_any (x : Int) (w : World) :
    Calls Try.prog 81 #[.int .u64 x] w fun e w' => e = .returned (.bool (x != 0 && x == IntKind.u64.wrap (-x))) ∧ w = w' := by
  go_enter Try.func81, Try.ntmps81
  go_wp2
  all_goals (go_returns; go_light; exact ⟨by simp [bne, *], rfl⟩)

end Go.Proofs.Ytopnbdblgfjnpaa
