/- What the calls of mach that leave memory alone answer: the tables, and the operations of whole numbers of either width. Each is a contract of the call, for whatever arguments. -/
import Derived.Test.YtjbflmpnmobngaaMb
import Derived.Handy
import Derived.WalkLawsBesides
import Derived.WalkSpells
import Derived.Deep.Light
namespace Go.Proofs.Ytjbflmpnmobngaa.two
set_option linter.unusedSimpArgs false
set_option linter.unusedVariables false
open Go.RowKit

theorem ret_pair {k : IntKind} {a : Int} {c : Bool} {p : Int × Bool} (h : p = (a, c)) : Ending.returned (.tuple #[.int k a, .bool c]) = Ending.returned (.tuple #[.int k p.1, .bool p.2]) := by rw [h]
theorem ret_int {k : IntKind} {a b : Int} (h : b = a) : Ending.returned (.int k a) = Ending.returned (.int k b) := by rw [h]
theorem ret_bool {a b : Bool} (h : b = a) : Ending.returned (.bool a) = Ending.returned (.bool b) := by rw [h]
def isShiftL (o : Int) : Bool := o == 13 || o == 14 || o == 15
def compareL (o x y : Int) : Bool :=
  if o == 16 then x == y else if o == 17 then x != y else if o == 18 then decide (x < y) else if o == 19 then decide (x ≤ y) else if o == 20 then decide (y < x) else decide (y ≤ x)
def flagL (b : Bool) : Int := if b then 1 else 0
def arith32 (o x y : Int) : Int :=
  if o == 3 then (x + y) % 4294967296 else if o == 4 then (x - y) % 4294967296 else if o == 5 then x * y % 4294967296 else if o == 10 then bits BinOp.and IntKind.u32 x y else if o == 11 then bits BinOp.or IntKind.u32 x y else bits BinOp.xor IntKind.u32 x y
def arith64 (o x y : Int) : Int :=
  if o == 3 then IntKind.u64.wrap (x + y) else if o == 4 then IntKind.u64.wrap (x - y) else if o == 5 then IntKind.u64.wrap (x * y) else if o == 10 then bits BinOp.and IntKind.u64 x y else if o == 11 then bits BinOp.or IntKind.u64 x y else bits BinOp.xor IntKind.u64 x y
def shift32 (o x y : Int) : Int :=
  if o == 13 then x * 2 ^ y.toNat % 4294967296 else if o == 14 then wrap32 x / 2 ^ y.toNat % 4294967296 else x / 2 ^ y.toNat
def shift64 (o x y : Int) : Int :=
  if o == 13 then IntKind.u64.wrap (x * 2 ^ y.toNat) else if o == 14 then IntKind.u64.wrap (wrap64 x / 2 ^ y.toNat) else x / 2 ^ y.toNat
def extendL (o x : Int) : Int :=
  if o == 80 then IntKind.i8.wrap x % 4294967296 else if o == 81 then x % 256 else if o == 82 then IntKind.i16.wrap x % 4294967296 else if o == 83 then IntKind.u64.wrap (IntKind.u16.wrap x) else if o == 84 then IntKind.u64.wrap (wrap32 x) else x % 4294967296

theorem flag64_any (b : Bool) (w : World) :
    Calls Try.prog 58 #[.bool b] w fun e w' => e = .returned (.int .u64 (flagL b)) ∧ w = w' := by
  cases b <;>
  · go_enter Try.func58, Try.ntmps58
    go_wp2
    all_goals (go_returns; exact ⟨by simp [flagL], rfl⟩)
theorem flag32_any (b : Bool) (w : World) :
    Calls Try.prog 104 #[.bool b] w fun e w' => e = .returned (.int .u32 (flagL b)) ∧ w = w' := by
  cases b <;>
  · go_enter Try.func104, Try.ntmps104
    go_wp2
    all_goals (go_returns; exact ⟨by simp [flagL], rfl⟩)
theorem isShift_any (o : Int) (w : World) :
    Calls Try.prog 92 #[.int .i64 o] w fun e w' => e = .returned (.bool (isShiftL o)) ∧ w = w' := by
  go_enter Try.func92, Try.ntmps92
  go_wp2
  all_goals (go_returns; go_light; exact ⟨by simp [isShiftL, *], rfl⟩)
theorem width32_any (w : World) :
    Calls Try.prog 122 #[] w fun e w' => e = .returned (.int .u32 32) ∧ w = w' := by
  go_enter Try.func122, Try.ntmps122
  go_wp2
  all_goals (go_returns; go_light; exact ⟨by kernel_rfl, rfl⟩)
theorem width64_any (w : World) :
    Calls Try.prog 123 #[] w fun e w' => e = .returned (.int .u64 64) ∧ w = w' := by
  go_enter Try.func123, Try.ntmps123
  go_wp2
  all_goals (go_returns; go_light; exact ⟨by kernel_rfl, rfl⟩)
theorem compareU32_any (o x y : Int) (w : World) :
    Calls Try.prog 105 #[.int .i64 o, .int .u32 x, .int .u32 y] w fun e w' => e = .returned (.bool (compareL o x y)) ∧ w = w' := by
  go_enter Try.func105, Try.ntmps105
  go_wp2
  all_goals (go_returns; go_light; exact ⟨by simp [compareL, *], rfl⟩)
theorem compareI32_any (o x y : Int) (w : World) :
    Calls Try.prog 106 #[.int .i64 o, .int .i32 x, .int .i32 y] w fun e w' => e = .returned (.bool (compareL o x y)) ∧ w = w' := by
  go_enter Try.func106, Try.ntmps106
  go_wp2
  all_goals (go_returns; go_light; exact ⟨by simp [compareL, *], rfl⟩)
theorem compareU64_any (o x y : Int) (w : World) :
    Calls Try.prog 112 #[.int .i64 o, .int .u64 x, .int .u64 y] w fun e w' => e = .returned (.bool (compareL o x y)) ∧ w = w' := by
  go_enter Try.func112, Try.ntmps112
  go_wp2
  all_goals (go_returns; go_light; exact ⟨by simp [compareL, *], rfl⟩)
theorem compareI64_any (o x y : Int) (w : World) :
    Calls Try.prog 113 #[.int .i64 o, .int .i64 x, .int .i64 y] w fun e w' => e = .returned (.bool (compareL o x y)) ∧ w = w' := by
  go_enter Try.func113, Try.ntmps113
  go_wp2
  all_goals (go_returns; go_light; exact ⟨by simp [compareL, *], rfl⟩)
theorem arith32_any (o x y : Int) (w : World) :
    Calls Try.prog 111 #[.int .i64 o, .int .u32 x, .int .u32 y] w fun e w' => e = .returned (.int .u32 (arith32 o x y)) ∧ w = w' := by
  go_enter Try.func111, Try.ntmps111
  go_wp2
  all_goals (go_returns; go_light; exact ⟨by simp [arith32, *], rfl⟩)
theorem arith64_any (o x y : Int) (w : World) :
    Calls Try.prog 118 #[.int .i64 o, .int .u64 x, .int .u64 y] w fun e w' => e = .returned (.int .u64 (arith64 o x y)) ∧ w = w' := by
  go_enter Try.func118, Try.ntmps118
  go_wp2
  all_goals (go_returns; go_light; exact ⟨by simp [arith64, *], rfl⟩)
theorem extend_any (o x : Int) (w : World) :
    Calls Try.prog 86 #[.int .i64 o, .int .u64 x] w fun e w' => e = .returned (.int .u64 (extendL o x)) ∧ w = w' := by
  go_enter Try.func86, Try.ntmps86
  go_wp2
  all_goals (go_returns; go_light; exact ⟨by simp [extendL, *], rfl⟩)
theorem lowest32_any (x : Int) (w : World) :
    Calls Try.prog 108 #[.int .u32 x] w fun e w' => e = .returned (.bool (x != 0 && x == -x % 4294967296)) ∧ w = w' := by
  go_enter Try.func108, Try.ntmps108
  go_wp2
  all_goals (go_returns; go_light; exact ⟨by simp [bne, *], rfl⟩)
theorem lowest64_any (x : Int) (w : World) :
    Calls Try.prog 115 #[.int .u64 x] w fun e w' => e = .returned (.bool (x != 0 && x == IntKind.u64.wrap (-x))) ∧ w = w' := by
  go_enter Try.func115, Try.ntmps115
  go_wp2
  all_goals (go_returns; go_light; exact ⟨by simp [bne, *], rfl⟩)

end Go.Proofs.Ytjbflmpnmobngaa.two
/- What the calls of mach on whole numbers of either width answer, and the shapes of the operations. Each is a contract of the call. -/
namespace Go.Proofs.Ytjbflmpnmobngaa.two
set_option linter.unusedSimpArgs false
set_option linter.unusedVariables false
open Go.RowKit

def divS32 (b : Bool) (x y : Int) : Int × Bool := if y == 0 then (0, false) else if b then (x.tmod y, true) else (wrap32 (x.tdiv y), true)
def divS64 (b : Bool) (x y : Int) : Int × Bool := if y == 0 then (0, false) else if b then (x.tmod y, true) else (wrap64 (x.tdiv y), true)
def divU32 (b : Bool) (x y : Int) : Int × Bool := if y == 0 then (0, false) else if b then (x % y, true) else (x.tdiv y % 4294967296, true)
def divU64 (b : Bool) (x y : Int) : Int × Bool := if y == 0 then (0, false) else if b then (x % y, true) else (IntKind.u64.wrap (x.tdiv y), true)
def shiftT32 (o x y : Int) : Int × Bool := if y < 32 then (shift32 o x y, true) else (0, false)
def shiftT64 (o x y : Int) : Int × Bool := if y < 64 then (shift64 o x y, true) else (0, false)
def low32 (x : Int) : Bool := x != 0 && x == -x % 4294967296
def low64 (x : Int) : Bool := x != 0 && x == IntKind.u64.wrap (-x)
def whole32 (o x y : Int) : Int × Bool :=
  if 22 ≤ o then (flagL (compareL (o - 22 + 18) x y), true) else if 16 ≤ o then (flagL (compareL o (wrap32 x) (wrap32 y)), true)
  else if isShiftL o then shiftT32 o x y
  else if o == 6 || o == 8 then (if wrap32 y == -1 && low32 x then (0, false) else ((divS32 (o == 8) (wrap32 x) (wrap32 y)).1 % 4294967296, (divS32 (o == 8) (wrap32 x) (wrap32 y)).2))
  else if o == 7 || o == 9 then divU32 (o == 9) x y
  else (arith32 o x y, true)
def whole64 (o x y : Int) : Int × Bool :=
  if 22 ≤ o then (flagL (compareL (o - 22 + 18) x y), true) else if 16 ≤ o then (flagL (compareL o (wrap64 x) (wrap64 y)), true)
  else if isShiftL o then shiftT64 o x y
  else if o == 6 || o == 8 then (if wrap64 y == -1 && low64 x then (0, false) else (IntKind.u64.wrap (divS64 (o == 8) (wrap64 x) (wrap64 y)).1, (divS64 (o == 8) (wrap64 x) (wrap64 y)).2))
  else if o == 7 || o == 9 then divU64 (o == 9) x y
  else (arith64 o x y, true)
def turn32 (o x : Int) : Int := if o == 1 then -x % 4294967296 else bits BinOp.xor IntKind.u32 IntKind.u32.max x
def turn64 (o x : Int) : Int := if o == 1 then IntKind.u64.wrap (-x) else bits BinOp.xor IntKind.u64 IntKind.u64.max x

theorem divS32_any (b : Bool) (x y : Int)  (w : World) :
    Calls Try.prog 109 #[.bool b, .int .i32 x, .int .i32 y] w fun e w' => e = .returned (.tuple #[.int .i32 (divS32 b x y).1, .bool (divS32 b x y).2]) ∧ w = w' := by
  by_cases h0 : y = 0
  · subst h0
    go_enter Try.func109, Try.ntmps109
    go_wp2
    all_goals (go_returns; go_light; exact ⟨by simp [divS32], rfl⟩)
  · go_enter Try.func109, Try.ntmps109
    go_wp2
    all_goals (go_returns; go_light; exact ⟨by simp [divS32, *], rfl⟩)

theorem divS64_any (b : Bool) (x y : Int)  (w : World) :
    Calls Try.prog 116 #[.bool b, .int .i64 x, .int .i64 y] w fun e w' => e = .returned (.tuple #[.int .i64 (divS64 b x y).1, .bool (divS64 b x y).2]) ∧ w = w' := by
  by_cases h0 : y = 0
  · subst h0
    go_enter Try.func116, Try.ntmps116
    go_wp2
    all_goals (go_returns; go_light; exact ⟨by simp [divS64], rfl⟩)
  · go_enter Try.func116, Try.ntmps116
    go_wp2
    all_goals (go_returns; go_light; exact ⟨by simp [divS64, *], rfl⟩)

theorem divU32_any (b : Bool) (x y : Int) (hx : 0 ≤ x) (hy : 0 ≤ y) (w : World) :
    Calls Try.prog 110 #[.bool b, .int .u32 x, .int .u32 y] w fun e w' => e = .returned (.tuple #[.int .u32 (divU32 b x y).1, .bool (divU32 b x y).2]) ∧ w = w' := by
  by_cases h0 : y = 0
  · subst h0
    go_enter Try.func110, Try.ntmps110
    go_wp2
    all_goals (go_returns; go_light; exact ⟨by simp [divU32], rfl⟩)
  · have hy1 : 1 ≤ y := by omega
    go_enter Try.func110, Try.ntmps110
    go_wp2
    all_goals (go_returns; go_light; exact ⟨by simp [divU32, *], rfl⟩)

theorem divU64_any (b : Bool) (x y : Int) (hx : 0 ≤ x) (hy : 0 ≤ y) (w : World) :
    Calls Try.prog 117 #[.bool b, .int .u64 x, .int .u64 y] w fun e w' => e = .returned (.tuple #[.int .u64 (divU64 b x y).1, .bool (divU64 b x y).2]) ∧ w = w' := by
  by_cases h0 : y = 0
  · subst h0
    go_enter Try.func117, Try.ntmps117
    go_wp2
    all_goals (go_returns; go_light; exact ⟨by simp [divU64], rfl⟩)
  · have hy1 : 1 ≤ y := by omega
    go_enter Try.func117, Try.ntmps117
    go_wp2
    all_goals (go_returns; go_light; exact ⟨by simp [divU64, *], rfl⟩)

theorem shiftT32_any (o x y : Int) (hy : 0 ≤ y) (w : World) :
    Calls Try.prog 107 #[.int .i64 o, .int .u32 x, .int .u32 y] w fun e w' => e = .returned (.tuple #[.int .u32 (shiftT32 o x y).1, .bool (shiftT32 o x y).2]) ∧ w = w' := by
  by_cases h0 : 32 ≤ y
  · have h1 : ¬ y < 32 := by omega
    go_enter Try.func107, Try.ntmps107
    go_wp2_with (go_at_call 122; refine (width32_any _).mono ?_; rintro e w' ⟨rfl, rfl⟩)
    all_goals (go_returns; go_light; exact ⟨ret_pair (by simp (disch := omega) [shiftT32, if_neg]), rfl⟩)
  · have h1 : y < 32 := by omega
    go_enter Try.func107, Try.ntmps107
    go_wp2_with (go_at_call 122; refine (width32_any _).mono ?_; rintro e w' ⟨rfl, rfl⟩)
    all_goals (go_returns; go_light; exact ⟨by simp [shiftT32, shift32, *], rfl⟩)

theorem shiftT64_any (o x y : Int) (hy : 0 ≤ y) (w : World) :
    Calls Try.prog 114 #[.int .i64 o, .int .u64 x, .int .u64 y] w fun e w' => e = .returned (.tuple #[.int .u64 (shiftT64 o x y).1, .bool (shiftT64 o x y).2]) ∧ w = w' := by
  by_cases h0 : 64 ≤ y
  · have h1 : ¬ y < 64 := by omega
    go_enter Try.func114, Try.ntmps114
    go_wp2_with (go_at_call 123; refine (width64_any _).mono ?_; rintro e w' ⟨rfl, rfl⟩)
    all_goals (go_returns; go_light; exact ⟨ret_pair (by simp (disch := omega) [shiftT64, if_neg]), rfl⟩)
  · have h1 : y < 64 := by omega
    go_enter Try.func114, Try.ntmps114
    go_wp2_with (go_at_call 123; refine (width64_any _).mono ?_; rintro e w' ⟨rfl, rfl⟩)
    all_goals (go_returns; go_light; exact ⟨by simp [shiftT64, shift64, *], rfl⟩)

theorem turn32_any (o x : Int) (w : World) :
    Calls Try.prog 79 #[.int .i64 o, .int .u32 x] w fun e w' => e = .returned (.int .u32 (turn32 o x)) ∧ w = w' := by
  go_enter Try.func79, Try.ntmps79
  go_wp2
  all_goals first | (exfalso; revert ‹_ = true›; decide) | skip
  all_goals (go_returns; go_light; exact ⟨by simp [turn32, *], rfl⟩)

theorem turn64_any (o x : Int) (w : World) :
    Calls Try.prog 80 #[.int .i64 o, .int .u64 x] w fun e w' => e = .returned (.int .u64 (turn64 o x)) ∧ w = w' := by
  go_enter Try.func80, Try.ntmps80
  go_wp2
  all_goals first | (exfalso; revert ‹_ = true›; decide) | skip
  all_goals (go_returns; go_light; exact ⟨by simp [turn64, *], rfl⟩)

theorem low32_any (x : Int) (w : World) :
    Calls Try.prog 108 #[.int .u32 x] w fun e w' => e = .returned (.bool (low32 x)) ∧ w = w' := lowest32_any x w
theorem low64_any (x : Int) (w : World) :
    Calls Try.prog 115 #[.int .u64 x] w fun e w' => e = .returned (.bool (low64 x)) ∧ w = w' := lowest64_any x w
theorem whole32_any (o x y : Int) (ho : 1 ≤ o) (ho' : o ≤ 25) (hx : 0 ≤ x) (hy : 0 ≤ y) (w : World) :
    Calls Try.prog 91 #[.int .i64 o, .int .u32 x, .int .u32 y] w fun e w' => e = .returned (.tuple #[.int .u32 (whole32 o x y).1, .bool (whole32 o x y).2]) ∧ w = w' := by
  go_enter Try.func91, Try.ntmps91
  go_wp2_with (first | (go_at_call 104; refine (flag32_any _ _).mono ?_; rintro e w' ⟨rfl, rfl⟩) | (go_at_call 105; refine (compareU32_any _ _ _ _).mono ?_; rintro e w' ⟨rfl, rfl⟩) | (go_at_call 106; refine (compareI32_any _ _ _ _).mono ?_; rintro e w' ⟨rfl, rfl⟩) | (go_at_call 92; refine (isShift_any _ _).mono ?_; rintro e w' ⟨rfl, rfl⟩) | (go_at_call 107; refine (shiftT32_any _ _ _ hy _).mono ?_; rintro e w' ⟨rfl, rfl⟩) | (go_at_call 108; refine (low32_any _ _).mono ?_; rintro e w' ⟨rfl, rfl⟩) | (go_at_call 109; refine (divS32_any _ _ _ _).mono ?_; rintro e w' ⟨rfl, rfl⟩) | (go_at_call 110; refine (divU32_any _ _ _ hx hy _).mono ?_; rintro e w' ⟨rfl, rfl⟩) | (go_at_call 111; refine (arith32_any _ _ _ _).mono ?_; rintro e w' ⟨rfl, rfl⟩))
  all_goals (go_returns; go_light)
  all_goals exact ⟨ret_pair (by simp (disch := omega) [whole32, if_neg, *]), rfl⟩
theorem whole64_any (o x y : Int) (ho : 1 ≤ o) (ho' : o ≤ 25) (hx : 0 ≤ x) (hy : 0 ≤ y) (w : World) :
    Calls Try.prog 93 #[.int .i64 o, .int .u64 x, .int .u64 y] w fun e w' => e = .returned (.tuple #[.int .u64 (whole64 o x y).1, .bool (whole64 o x y).2]) ∧ w = w' := by
  go_enter Try.func93, Try.ntmps93
  go_wp2_with (first | (go_at_call 58; refine (flag64_any _ _).mono ?_; rintro e w' ⟨rfl, rfl⟩) | (go_at_call 112; refine (compareU64_any _ _ _ _).mono ?_; rintro e w' ⟨rfl, rfl⟩) | (go_at_call 113; refine (compareI64_any _ _ _ _).mono ?_; rintro e w' ⟨rfl, rfl⟩) | (go_at_call 92; refine (isShift_any _ _).mono ?_; rintro e w' ⟨rfl, rfl⟩) | (go_at_call 114; refine (shiftT64_any _ _ _ hy _).mono ?_; rintro e w' ⟨rfl, rfl⟩) | (go_at_call 115; refine (low64_any _ _).mono ?_; rintro e w' ⟨rfl, rfl⟩) | (go_at_call 116; refine (divS64_any _ _ _ _).mono ?_; rintro e w' ⟨rfl, rfl⟩) | (go_at_call 117; refine (divU64_any _ _ _ hx hy _).mono ?_; rintro e w' ⟨rfl, rfl⟩) | (go_at_call 118; refine (arith64_any _ _ _ _).mono ?_; rintro e w' ⟨rfl, rfl⟩))
  all_goals (go_returns; go_light)
  all_goals exact ⟨ret_pair (by simp (disch := omega) [whole64, if_neg, *]), rfl⟩
end Go.Proofs.Ytjbflmpnmobngaa.two
/- The shapes of the operations, as mach and as the document's own answers tell them: they are the same. -/
namespace Go.Proofs.Ytjbflmpnmobngaa.two
set_option linter.unusedSimpArgs false
set_option linter.unusedVariables false
open Go.RowKit

theorem ret_three {a b c : Int} {p : Int × Int × Int} (h : p = (a, b, c)) : Ending.returned (.tuple #[.int .i64 a, .int .i64 b, .int .i64 c]) = Ending.returned (.tuple #[.int .i64 p.1, .int .i64 p.2.1, .int .i64 p.2.2]) := by rw [h]
theorem ret_two {a b : Int} {p : Int × Int} (h : p = (a, b)) : Ending.returned (.tuple #[.int .i64 a, .int .i64 b]) = Ending.returned (.tuple #[.int .i64 p.1, .int .i64 p.2]) := by rw [h]

def wholeShapeL (o k : Int) : Int × Int × Int :=
  if o = 1 ∨ o = 2 then (k, 0, k) else if isShiftL o then (k, 1, k) else if 16 ≤ o then (k, k, 1) else (k, k, k)
def turnShapeL (o : Int) : Int × Int :=
  if o == 80 || o == 81 || o == 82 || o == 83 || o == 95 || o == 96 then (1, 1) else if o == 84 || o == 85 then (1, 2) else if o == 86 then (2, 1) else if o == 87 || o == 88 then (1, 3) else if o == 89 || o == 90 then (2, 3) else if o == 91 || o == 92 then (3, 1) else if o == 93 || o == 94 then (3, 2) else (0, 0)
def shapeL (o : Int) : Int × Int × Int :=
  if 1 ≤ o ∧ o ≤ 25 then wholeShapeL o 1 else if 31 ≤ o ∧ o ≤ 55 then wholeShapeL (o - 30) 2 else if o = 61 then (3, 0, 3) else if 62 ≤ o ∧ o ≤ 65 then (3, 3, 3) else if 66 ≤ o ∧ o ≤ 71 then (3, 3, 1) else ((turnShapeL o).1, 0, (turnShapeL o).2)

theorem wholeShape_any (o k : Int) (w : World) :
    Calls Try.prog 77 #[.int .i64 o, .int .i64 k] w fun e w' => e = .returned (.tuple #[.int .i64 (wholeShapeL o k).1, .int .i64 (wholeShapeL o k).2.1, .int .i64 (wholeShapeL o k).2.2]) ∧ w = w' := by
  go_enter Try.func77, Try.ntmps77
  go_wp2_with (go_at_call 92; refine (isShift_any _ _).mono ?_; rintro e w' ⟨rfl, rfl⟩)
  all_goals (go_returns; go_light)
  all_goals (refine ⟨ret_three ?_, rfl⟩; (try simp only [beq_iff_eq, beq_eq_false_iff_ne] at *); unfold wholeShapeL; repeat' split)
  all_goals first | rfl | omega | simp_all
theorem turnShape_any (o : Int) (w : World) :
    Calls Try.prog 78 #[.int .i64 o] w fun e w' => e = .returned (.tuple #[.int .i64 (turnShapeL o).1, .int .i64 (turnShapeL o).2]) ∧ w = w' := by
  go_enter Try.func78, Try.ntmps78
  go_wp2
  all_goals (go_returns; go_light)
  all_goals exact ⟨ret_two (by simp [turnShapeL, *]), rfl⟩
theorem shape_any (o : Int) (w : World) :
    Calls Try.prog 59 #[.int .i64 o] w fun e w' => e = .returned (.tuple #[.int .i64 (shapeL o).1, .int .i64 (shapeL o).2.1, .int .i64 (shapeL o).2.2]) ∧ w = w' := by
  go_enter Try.func59, Try.ntmps59
  go_wp2_with (first | (go_at_call 77; refine (wholeShape_any _ _ _).mono ?_; rintro e w' ⟨rfl, rfl⟩) | (go_at_call 78; refine (turnShape_any _ _).mono ?_; rintro e w' ⟨rfl, rfl⟩))
  all_goals (go_returns; go_light)
  all_goals (refine ⟨ret_three ?_, rfl⟩; (try simp only [beq_iff_eq, beq_eq_false_iff_ne] at *); unfold shapeL; repeat' split)
  all_goals first | rfl | omega | skip
  all_goals (trace_state; omega)
theorem isShiftL_eq (o : Int) : isShiftL o = decide (o = 13 ∨ o = 14 ∨ o = 15) := by simp [isShiftL, Bool.decide_or, BEq.beq, Bool.or_assoc]
theorem shapeL_r3 (o : Int) (h1 : 3 ≤ o) (h2 : o ≤ 12) : shapeL o = (1, 1, 1) := by
  unfold shapeL wholeShapeL turnShapeL
  simp (disch := omega) only [isShiftL_eq, Bool.or_eq_true, beq_iff_eq, decide_eq_true_eq, if_pos, if_neg]
theorem shapeL_r13 (o : Int) (h1 : 13 ≤ o) (h2 : o ≤ 15) : shapeL o = (1, 1, 1) := by
  unfold shapeL wholeShapeL turnShapeL
  simp (disch := omega) only [isShiftL_eq, Bool.or_eq_true, beq_iff_eq, decide_eq_true_eq, if_pos, if_neg]
theorem shapeL_r16 (o : Int) (h1 : 16 ≤ o) (h2 : o ≤ 25) : shapeL o = (1, 1, 1) := by
  unfold shapeL wholeShapeL turnShapeL
  simp (disch := omega) only [isShiftL_eq, Bool.or_eq_true, beq_iff_eq, decide_eq_true_eq, if_pos, if_neg]
theorem shapeL_r33 (o : Int) (h1 : 33 ≤ o) (h2 : o ≤ 42) : shapeL o = (2, 2, 2) := by
  unfold shapeL wholeShapeL turnShapeL
  simp (disch := omega) only [isShiftL_eq, Bool.or_eq_true, beq_iff_eq, decide_eq_true_eq, if_pos, if_neg]
theorem shapeL_r43 (o : Int) (h1 : 43 ≤ o) (h2 : o ≤ 45) : shapeL o = (2, 1, 2) := by
  unfold shapeL wholeShapeL turnShapeL
  simp (disch := omega) only [isShiftL_eq, Bool.or_eq_true, beq_iff_eq, decide_eq_true_eq, if_pos, if_neg]
theorem shapeL_r46 (o : Int) (h1 : 46 ≤ o) (h2 : o ≤ 55) : shapeL o = (2, 2, 1) := by
  unfold shapeL wholeShapeL turnShapeL
  simp (disch := omega) only [isShiftL_eq, Bool.or_eq_true, beq_iff_eq, decide_eq_true_eq, if_pos, if_neg]
theorem shapeL_r62 (o : Int) (h1 : 62 ≤ o) (h2 : o ≤ 65) : shapeL o = (3, 3, 3) := by
  unfold shapeL wholeShapeL turnShapeL
  simp (disch := omega) only [isShiftL_eq, Bool.or_eq_true, beq_iff_eq, decide_eq_true_eq, if_pos, if_neg]
theorem shapeL_r66 (o : Int) (h1 : 66 ≤ o) (h2 : o ≤ 71) : shapeL o = (3, 3, 1) := by
  unfold shapeL wholeShapeL turnShapeL
  simp (disch := omega) only [isShiftL_eq, Bool.or_eq_true, beq_iff_eq, decide_eq_true_eq, if_pos, if_neg]
theorem shapeL_r80 (o : Int) (h1 : 80 ≤ o) (h2 : o ≤ 83) : shapeL o = (1, 0, 1) := by
  unfold shapeL wholeShapeL turnShapeL
  simp (disch := omega) only [isShiftL_eq, Bool.or_eq_true, beq_iff_eq, decide_eq_true_eq, if_pos, if_neg]
theorem shapeL_r26 (o : Int) (h1 : 26 ≤ o) (h2 : o ≤ 30) : shapeL o = (0, 0, 0) := by
  unfold shapeL wholeShapeL turnShapeL
  simp (disch := omega) only [isShiftL_eq, Bool.or_eq_true, beq_iff_eq, decide_eq_true_eq, if_pos, if_neg]
theorem shapeL_r56 (o : Int) (h1 : 56 ≤ o) (h2 : o ≤ 60) : shapeL o = (0, 0, 0) := by
  unfold shapeL wholeShapeL turnShapeL
  simp (disch := omega) only [isShiftL_eq, Bool.or_eq_true, beq_iff_eq, decide_eq_true_eq, if_pos, if_neg]
theorem shapeL_r72 (o : Int) (h1 : 72 ≤ o) (h2 : o ≤ 79) : shapeL o = (0, 0, 0) := by
  unfold shapeL wholeShapeL turnShapeL
  simp (disch := omega) only [isShiftL_eq, Bool.or_eq_true, beq_iff_eq, decide_eq_true_eq, if_pos, if_neg]
theorem shapeL_lo (o : Int) (h1 : o < 1) : shapeL o = (0, 0, 0) := by
  unfold shapeL wholeShapeL turnShapeL
  simp (disch := omega) only [isShiftL_eq, Bool.or_eq_true, beq_iff_eq, decide_eq_true_eq, if_pos, if_neg]
theorem shapeL_hi (o : Int) (h1 : 96 < o) : shapeL o = (0, 0, 0) := by
  unfold shapeL wholeShapeL turnShapeL
  simp (disch := omega) only [isShiftL_eq, Bool.or_eq_true, beq_iff_eq, decide_eq_true_eq, if_pos, if_neg]
set_option maxRecDepth 100000 in
set_option maxHeartbeats 4000000 in
theorem shapeR_c1  (w : World) :
    Calls Try.prog 66 #[.int .i64 1] w fun e w' => e = .returned (.tuple #[.int .i64 (shapeL 1).1, .int .i64 (shapeL 1).2.1, .int .i64 (shapeL 1).2.2]) ∧ w = w' := by
  go_enter Try.func66, Try.ntmps66
  go_wp2
  all_goals (go_returns; go_light)
  all_goals exact ⟨ret_three (by decide), rfl⟩
set_option maxRecDepth 100000 in
set_option maxHeartbeats 4000000 in
theorem shapeR_c2  (w : World) :
    Calls Try.prog 66 #[.int .i64 2] w fun e w' => e = .returned (.tuple #[.int .i64 (shapeL 2).1, .int .i64 (shapeL 2).2.1, .int .i64 (shapeL 2).2.2]) ∧ w = w' := by
  go_enter Try.func66, Try.ntmps66
  go_wp2
  all_goals (go_returns; go_light)
  all_goals exact ⟨ret_three (by decide), rfl⟩
set_option maxRecDepth 100000 in
set_option maxHeartbeats 4000000 in
theorem shapeR_c31  (w : World) :
    Calls Try.prog 66 #[.int .i64 31] w fun e w' => e = .returned (.tuple #[.int .i64 (shapeL 31).1, .int .i64 (shapeL 31).2.1, .int .i64 (shapeL 31).2.2]) ∧ w = w' := by
  go_enter Try.func66, Try.ntmps66
  go_wp2
  all_goals (go_returns; go_light)
  all_goals exact ⟨ret_three (by decide), rfl⟩
set_option maxRecDepth 100000 in
set_option maxHeartbeats 4000000 in
theorem shapeR_c32  (w : World) :
    Calls Try.prog 66 #[.int .i64 32] w fun e w' => e = .returned (.tuple #[.int .i64 (shapeL 32).1, .int .i64 (shapeL 32).2.1, .int .i64 (shapeL 32).2.2]) ∧ w = w' := by
  go_enter Try.func66, Try.ntmps66
  go_wp2
  all_goals (go_returns; go_light)
  all_goals exact ⟨ret_three (by decide), rfl⟩
set_option maxRecDepth 100000 in
set_option maxHeartbeats 4000000 in
theorem shapeR_c61  (w : World) :
    Calls Try.prog 66 #[.int .i64 61] w fun e w' => e = .returned (.tuple #[.int .i64 (shapeL 61).1, .int .i64 (shapeL 61).2.1, .int .i64 (shapeL 61).2.2]) ∧ w = w' := by
  go_enter Try.func66, Try.ntmps66
  go_wp2
  all_goals (go_returns; go_light)
  all_goals exact ⟨ret_three (by decide), rfl⟩
set_option maxRecDepth 100000 in
set_option maxHeartbeats 4000000 in
theorem shapeR_c84  (w : World) :
    Calls Try.prog 66 #[.int .i64 84] w fun e w' => e = .returned (.tuple #[.int .i64 (shapeL 84).1, .int .i64 (shapeL 84).2.1, .int .i64 (shapeL 84).2.2]) ∧ w = w' := by
  go_enter Try.func66, Try.ntmps66
  go_wp2
  all_goals (go_returns; go_light)
  all_goals exact ⟨ret_three (by decide), rfl⟩
set_option maxRecDepth 100000 in
set_option maxHeartbeats 4000000 in
theorem shapeR_c85  (w : World) :
    Calls Try.prog 66 #[.int .i64 85] w fun e w' => e = .returned (.tuple #[.int .i64 (shapeL 85).1, .int .i64 (shapeL 85).2.1, .int .i64 (shapeL 85).2.2]) ∧ w = w' := by
  go_enter Try.func66, Try.ntmps66
  go_wp2
  all_goals (go_returns; go_light)
  all_goals exact ⟨ret_three (by decide), rfl⟩
set_option maxRecDepth 100000 in
set_option maxHeartbeats 4000000 in
theorem shapeR_c86  (w : World) :
    Calls Try.prog 66 #[.int .i64 86] w fun e w' => e = .returned (.tuple #[.int .i64 (shapeL 86).1, .int .i64 (shapeL 86).2.1, .int .i64 (shapeL 86).2.2]) ∧ w = w' := by
  go_enter Try.func66, Try.ntmps66
  go_wp2
  all_goals (go_returns; go_light)
  all_goals exact ⟨ret_three (by decide), rfl⟩
set_option maxRecDepth 100000 in
set_option maxHeartbeats 4000000 in
theorem shapeR_c87  (w : World) :
    Calls Try.prog 66 #[.int .i64 87] w fun e w' => e = .returned (.tuple #[.int .i64 (shapeL 87).1, .int .i64 (shapeL 87).2.1, .int .i64 (shapeL 87).2.2]) ∧ w = w' := by
  go_enter Try.func66, Try.ntmps66
  go_wp2
  all_goals (go_returns; go_light)
  all_goals exact ⟨ret_three (by decide), rfl⟩
set_option maxRecDepth 100000 in
set_option maxHeartbeats 4000000 in
theorem shapeR_c88  (w : World) :
    Calls Try.prog 66 #[.int .i64 88] w fun e w' => e = .returned (.tuple #[.int .i64 (shapeL 88).1, .int .i64 (shapeL 88).2.1, .int .i64 (shapeL 88).2.2]) ∧ w = w' := by
  go_enter Try.func66, Try.ntmps66
  go_wp2
  all_goals (go_returns; go_light)
  all_goals exact ⟨ret_three (by decide), rfl⟩
set_option maxRecDepth 100000 in
set_option maxHeartbeats 4000000 in
theorem shapeR_c89  (w : World) :
    Calls Try.prog 66 #[.int .i64 89] w fun e w' => e = .returned (.tuple #[.int .i64 (shapeL 89).1, .int .i64 (shapeL 89).2.1, .int .i64 (shapeL 89).2.2]) ∧ w = w' := by
  go_enter Try.func66, Try.ntmps66
  go_wp2
  all_goals (go_returns; go_light)
  all_goals exact ⟨ret_three (by decide), rfl⟩
set_option maxRecDepth 100000 in
set_option maxHeartbeats 4000000 in
theorem shapeR_c90  (w : World) :
    Calls Try.prog 66 #[.int .i64 90] w fun e w' => e = .returned (.tuple #[.int .i64 (shapeL 90).1, .int .i64 (shapeL 90).2.1, .int .i64 (shapeL 90).2.2]) ∧ w = w' := by
  go_enter Try.func66, Try.ntmps66
  go_wp2
  all_goals (go_returns; go_light)
  all_goals exact ⟨ret_three (by decide), rfl⟩
set_option maxRecDepth 100000 in
set_option maxHeartbeats 4000000 in
theorem shapeR_c91  (w : World) :
    Calls Try.prog 66 #[.int .i64 91] w fun e w' => e = .returned (.tuple #[.int .i64 (shapeL 91).1, .int .i64 (shapeL 91).2.1, .int .i64 (shapeL 91).2.2]) ∧ w = w' := by
  go_enter Try.func66, Try.ntmps66
  go_wp2
  all_goals (go_returns; go_light)
  all_goals exact ⟨ret_three (by decide), rfl⟩
set_option maxRecDepth 100000 in
set_option maxHeartbeats 4000000 in
theorem shapeR_c92  (w : World) :
    Calls Try.prog 66 #[.int .i64 92] w fun e w' => e = .returned (.tuple #[.int .i64 (shapeL 92).1, .int .i64 (shapeL 92).2.1, .int .i64 (shapeL 92).2.2]) ∧ w = w' := by
  go_enter Try.func66, Try.ntmps66
  go_wp2
  all_goals (go_returns; go_light)
  all_goals exact ⟨ret_three (by decide), rfl⟩
set_option maxRecDepth 100000 in
set_option maxHeartbeats 4000000 in
theorem shapeR_c93  (w : World) :
    Calls Try.prog 66 #[.int .i64 93] w fun e w' => e = .returned (.tuple #[.int .i64 (shapeL 93).1, .int .i64 (shapeL 93).2.1, .int .i64 (shapeL 93).2.2]) ∧ w = w' := by
  go_enter Try.func66, Try.ntmps66
  go_wp2
  all_goals (go_returns; go_light)
  all_goals exact ⟨ret_three (by decide), rfl⟩
set_option maxRecDepth 100000 in
set_option maxHeartbeats 4000000 in
theorem shapeR_c94  (w : World) :
    Calls Try.prog 66 #[.int .i64 94] w fun e w' => e = .returned (.tuple #[.int .i64 (shapeL 94).1, .int .i64 (shapeL 94).2.1, .int .i64 (shapeL 94).2.2]) ∧ w = w' := by
  go_enter Try.func66, Try.ntmps66
  go_wp2
  all_goals (go_returns; go_light)
  all_goals exact ⟨ret_three (by decide), rfl⟩
set_option maxRecDepth 100000 in
set_option maxHeartbeats 4000000 in
theorem shapeR_c95  (w : World) :
    Calls Try.prog 66 #[.int .i64 95] w fun e w' => e = .returned (.tuple #[.int .i64 (shapeL 95).1, .int .i64 (shapeL 95).2.1, .int .i64 (shapeL 95).2.2]) ∧ w = w' := by
  go_enter Try.func66, Try.ntmps66
  go_wp2
  all_goals (go_returns; go_light)
  all_goals exact ⟨ret_three (by decide), rfl⟩
set_option maxRecDepth 100000 in
set_option maxHeartbeats 4000000 in
theorem shapeR_c96  (w : World) :
    Calls Try.prog 66 #[.int .i64 96] w fun e w' => e = .returned (.tuple #[.int .i64 (shapeL 96).1, .int .i64 (shapeL 96).2.1, .int .i64 (shapeL 96).2.2]) ∧ w = w' := by
  go_enter Try.func66, Try.ntmps66
  go_wp2
  all_goals (go_returns; go_light)
  all_goals exact ⟨ret_three (by decide), rfl⟩
set_option maxRecDepth 100000 in
set_option maxHeartbeats 4000000 in
theorem shapeR_r3 (o : Int) (h1 : 3 ≤ o) (h2 : o ≤ 12) (w : World) :
    Calls Try.prog 66 #[.int .i64 o] w fun e w' => e = .returned (.tuple #[.int .i64 (shapeL o).1, .int .i64 (shapeL o).2.1, .int .i64 (shapeL o).2.2]) ∧ w = w' := by
  have q1 : (o == 1) = false := by simp; omega
  have q2 : (o == 2) = false := by simp; omega
  have q61 : (o == 61) = false := by simp; omega
  have q84 : (o == 84) = false := by simp; omega
  have q85 : (o == 85) = false := by simp; omega
  have q86 : (o == 86) = false := by simp; omega
  have q87 : (o == 87) = false := by simp; omega
  have q88 : (o == 88) = false := by simp; omega
  have q89 : (o == 89) = false := by simp; omega
  have q90 : (o == 90) = false := by simp; omega
  have q91 : (o == 91) = false := by simp; omega
  have q92 : (o == 92) = false := by simp; omega
  have q93 : (o == 93) = false := by simp; omega
  have q94 : (o == 94) = false := by simp; omega
  have q95 : (o == 95) = false := by simp; omega
  have q96 : (o == 96) = false := by simp; omega
  go_enter Try.func66, Try.ntmps66
  go_wp2
  all_goals (go_returns; go_light)
  all_goals exact ⟨ret_three (shapeL_r3 o h1 h2), rfl⟩
set_option maxRecDepth 100000 in
set_option maxHeartbeats 4000000 in
theorem shapeR_r13 (o : Int) (h1 : 13 ≤ o) (h2 : o ≤ 15) (w : World) :
    Calls Try.prog 66 #[.int .i64 o] w fun e w' => e = .returned (.tuple #[.int .i64 (shapeL o).1, .int .i64 (shapeL o).2.1, .int .i64 (shapeL o).2.2]) ∧ w = w' := by
  have q1 : (o == 1) = false := by simp; omega
  have q2 : (o == 2) = false := by simp; omega
  have q61 : (o == 61) = false := by simp; omega
  have q84 : (o == 84) = false := by simp; omega
  have q85 : (o == 85) = false := by simp; omega
  have q86 : (o == 86) = false := by simp; omega
  have q87 : (o == 87) = false := by simp; omega
  have q88 : (o == 88) = false := by simp; omega
  have q89 : (o == 89) = false := by simp; omega
  have q90 : (o == 90) = false := by simp; omega
  have q91 : (o == 91) = false := by simp; omega
  have q92 : (o == 92) = false := by simp; omega
  have q93 : (o == 93) = false := by simp; omega
  have q94 : (o == 94) = false := by simp; omega
  have q95 : (o == 95) = false := by simp; omega
  have q96 : (o == 96) = false := by simp; omega
  go_enter Try.func66, Try.ntmps66
  go_wp2
  all_goals (go_returns; go_light)
  all_goals exact ⟨ret_three (shapeL_r13 o h1 h2), rfl⟩
set_option maxRecDepth 100000 in
set_option maxHeartbeats 4000000 in
theorem shapeR_r16 (o : Int) (h1 : 16 ≤ o) (h2 : o ≤ 25) (w : World) :
    Calls Try.prog 66 #[.int .i64 o] w fun e w' => e = .returned (.tuple #[.int .i64 (shapeL o).1, .int .i64 (shapeL o).2.1, .int .i64 (shapeL o).2.2]) ∧ w = w' := by
  have q1 : (o == 1) = false := by simp; omega
  have q2 : (o == 2) = false := by simp; omega
  have q61 : (o == 61) = false := by simp; omega
  have q84 : (o == 84) = false := by simp; omega
  have q85 : (o == 85) = false := by simp; omega
  have q86 : (o == 86) = false := by simp; omega
  have q87 : (o == 87) = false := by simp; omega
  have q88 : (o == 88) = false := by simp; omega
  have q89 : (o == 89) = false := by simp; omega
  have q90 : (o == 90) = false := by simp; omega
  have q91 : (o == 91) = false := by simp; omega
  have q92 : (o == 92) = false := by simp; omega
  have q93 : (o == 93) = false := by simp; omega
  have q94 : (o == 94) = false := by simp; omega
  have q95 : (o == 95) = false := by simp; omega
  have q96 : (o == 96) = false := by simp; omega
  go_enter Try.func66, Try.ntmps66
  go_wp2
  all_goals (go_returns; go_light)
  all_goals exact ⟨ret_three (shapeL_r16 o h1 h2), rfl⟩
set_option maxRecDepth 100000 in
set_option maxHeartbeats 4000000 in
theorem shapeR_r33 (o : Int) (h1 : 33 ≤ o) (h2 : o ≤ 42) (w : World) :
    Calls Try.prog 66 #[.int .i64 o] w fun e w' => e = .returned (.tuple #[.int .i64 (shapeL o).1, .int .i64 (shapeL o).2.1, .int .i64 (shapeL o).2.2]) ∧ w = w' := by
  have q1 : (o == 1) = false := by simp; omega
  have q2 : (o == 2) = false := by simp; omega
  have q61 : (o == 61) = false := by simp; omega
  have q84 : (o == 84) = false := by simp; omega
  have q85 : (o == 85) = false := by simp; omega
  have q86 : (o == 86) = false := by simp; omega
  have q87 : (o == 87) = false := by simp; omega
  have q88 : (o == 88) = false := by simp; omega
  have q89 : (o == 89) = false := by simp; omega
  have q90 : (o == 90) = false := by simp; omega
  have q91 : (o == 91) = false := by simp; omega
  have q92 : (o == 92) = false := by simp; omega
  have q93 : (o == 93) = false := by simp; omega
  have q94 : (o == 94) = false := by simp; omega
  have q95 : (o == 95) = false := by simp; omega
  have q96 : (o == 96) = false := by simp; omega
  have p1 : (o - 30 == 1) = false := by simp; omega
  have p2 : (o - 30 == 2) = false := by simp; omega
  go_enter Try.func66, Try.ntmps66
  go_wp2
  all_goals (go_returns; go_light)
  all_goals exact ⟨ret_three (shapeL_r33 o h1 h2), rfl⟩
set_option maxRecDepth 100000 in
set_option maxHeartbeats 4000000 in
theorem shapeR_r43 (o : Int) (h1 : 43 ≤ o) (h2 : o ≤ 45) (w : World) :
    Calls Try.prog 66 #[.int .i64 o] w fun e w' => e = .returned (.tuple #[.int .i64 (shapeL o).1, .int .i64 (shapeL o).2.1, .int .i64 (shapeL o).2.2]) ∧ w = w' := by
  have q1 : (o == 1) = false := by simp; omega
  have q2 : (o == 2) = false := by simp; omega
  have q61 : (o == 61) = false := by simp; omega
  have q84 : (o == 84) = false := by simp; omega
  have q85 : (o == 85) = false := by simp; omega
  have q86 : (o == 86) = false := by simp; omega
  have q87 : (o == 87) = false := by simp; omega
  have q88 : (o == 88) = false := by simp; omega
  have q89 : (o == 89) = false := by simp; omega
  have q90 : (o == 90) = false := by simp; omega
  have q91 : (o == 91) = false := by simp; omega
  have q92 : (o == 92) = false := by simp; omega
  have q93 : (o == 93) = false := by simp; omega
  have q94 : (o == 94) = false := by simp; omega
  have q95 : (o == 95) = false := by simp; omega
  have q96 : (o == 96) = false := by simp; omega
  have p1 : (o - 30 == 1) = false := by simp; omega
  have p2 : (o - 30 == 2) = false := by simp; omega
  go_enter Try.func66, Try.ntmps66
  go_wp2
  all_goals (go_returns; go_light)
  all_goals exact ⟨ret_three (shapeL_r43 o h1 h2), rfl⟩
set_option maxRecDepth 100000 in
set_option maxHeartbeats 4000000 in
theorem shapeR_r46 (o : Int) (h1 : 46 ≤ o) (h2 : o ≤ 55) (w : World) :
    Calls Try.prog 66 #[.int .i64 o] w fun e w' => e = .returned (.tuple #[.int .i64 (shapeL o).1, .int .i64 (shapeL o).2.1, .int .i64 (shapeL o).2.2]) ∧ w = w' := by
  have q1 : (o == 1) = false := by simp; omega
  have q2 : (o == 2) = false := by simp; omega
  have q61 : (o == 61) = false := by simp; omega
  have q84 : (o == 84) = false := by simp; omega
  have q85 : (o == 85) = false := by simp; omega
  have q86 : (o == 86) = false := by simp; omega
  have q87 : (o == 87) = false := by simp; omega
  have q88 : (o == 88) = false := by simp; omega
  have q89 : (o == 89) = false := by simp; omega
  have q90 : (o == 90) = false := by simp; omega
  have q91 : (o == 91) = false := by simp; omega
  have q92 : (o == 92) = false := by simp; omega
  have q93 : (o == 93) = false := by simp; omega
  have q94 : (o == 94) = false := by simp; omega
  have q95 : (o == 95) = false := by simp; omega
  have q96 : (o == 96) = false := by simp; omega
  have p1 : (o - 30 == 1) = false := by simp; omega
  have p2 : (o - 30 == 2) = false := by simp; omega
  go_enter Try.func66, Try.ntmps66
  go_wp2
  all_goals (go_returns; go_light)
  all_goals exact ⟨ret_three (shapeL_r46 o h1 h2), rfl⟩
set_option maxRecDepth 100000 in
set_option maxHeartbeats 4000000 in
theorem shapeR_r62 (o : Int) (h1 : 62 ≤ o) (h2 : o ≤ 65) (w : World) :
    Calls Try.prog 66 #[.int .i64 o] w fun e w' => e = .returned (.tuple #[.int .i64 (shapeL o).1, .int .i64 (shapeL o).2.1, .int .i64 (shapeL o).2.2]) ∧ w = w' := by
  have q1 : (o == 1) = false := by simp; omega
  have q2 : (o == 2) = false := by simp; omega
  have q61 : (o == 61) = false := by simp; omega
  have q84 : (o == 84) = false := by simp; omega
  have q85 : (o == 85) = false := by simp; omega
  have q86 : (o == 86) = false := by simp; omega
  have q87 : (o == 87) = false := by simp; omega
  have q88 : (o == 88) = false := by simp; omega
  have q89 : (o == 89) = false := by simp; omega
  have q90 : (o == 90) = false := by simp; omega
  have q91 : (o == 91) = false := by simp; omega
  have q92 : (o == 92) = false := by simp; omega
  have q93 : (o == 93) = false := by simp; omega
  have q94 : (o == 94) = false := by simp; omega
  have q95 : (o == 95) = false := by simp; omega
  have q96 : (o == 96) = false := by simp; omega
  go_enter Try.func66, Try.ntmps66
  go_wp2
  all_goals (go_returns; go_light)
  all_goals exact ⟨ret_three (shapeL_r62 o h1 h2), rfl⟩
set_option maxRecDepth 100000 in
set_option maxHeartbeats 4000000 in
theorem shapeR_r66 (o : Int) (h1 : 66 ≤ o) (h2 : o ≤ 71) (w : World) :
    Calls Try.prog 66 #[.int .i64 o] w fun e w' => e = .returned (.tuple #[.int .i64 (shapeL o).1, .int .i64 (shapeL o).2.1, .int .i64 (shapeL o).2.2]) ∧ w = w' := by
  have q1 : (o == 1) = false := by simp; omega
  have q2 : (o == 2) = false := by simp; omega
  have q61 : (o == 61) = false := by simp; omega
  have q84 : (o == 84) = false := by simp; omega
  have q85 : (o == 85) = false := by simp; omega
  have q86 : (o == 86) = false := by simp; omega
  have q87 : (o == 87) = false := by simp; omega
  have q88 : (o == 88) = false := by simp; omega
  have q89 : (o == 89) = false := by simp; omega
  have q90 : (o == 90) = false := by simp; omega
  have q91 : (o == 91) = false := by simp; omega
  have q92 : (o == 92) = false := by simp; omega
  have q93 : (o == 93) = false := by simp; omega
  have q94 : (o == 94) = false := by simp; omega
  have q95 : (o == 95) = false := by simp; omega
  have q96 : (o == 96) = false := by simp; omega
  go_enter Try.func66, Try.ntmps66
  go_wp2
  all_goals (go_returns; go_light)
  all_goals exact ⟨ret_three (shapeL_r66 o h1 h2), rfl⟩
set_option maxRecDepth 100000 in
set_option maxHeartbeats 4000000 in
theorem shapeR_r80 (o : Int) (h1 : 80 ≤ o) (h2 : o ≤ 83) (w : World) :
    Calls Try.prog 66 #[.int .i64 o] w fun e w' => e = .returned (.tuple #[.int .i64 (shapeL o).1, .int .i64 (shapeL o).2.1, .int .i64 (shapeL o).2.2]) ∧ w = w' := by
  have q1 : (o == 1) = false := by simp; omega
  have q2 : (o == 2) = false := by simp; omega
  have q61 : (o == 61) = false := by simp; omega
  have q84 : (o == 84) = false := by simp; omega
  have q85 : (o == 85) = false := by simp; omega
  have q86 : (o == 86) = false := by simp; omega
  have q87 : (o == 87) = false := by simp; omega
  have q88 : (o == 88) = false := by simp; omega
  have q89 : (o == 89) = false := by simp; omega
  have q90 : (o == 90) = false := by simp; omega
  have q91 : (o == 91) = false := by simp; omega
  have q92 : (o == 92) = false := by simp; omega
  have q93 : (o == 93) = false := by simp; omega
  have q94 : (o == 94) = false := by simp; omega
  have q95 : (o == 95) = false := by simp; omega
  have q96 : (o == 96) = false := by simp; omega
  go_enter Try.func66, Try.ntmps66
  go_wp2
  all_goals (go_returns; go_light)
  all_goals exact ⟨ret_three (shapeL_r80 o h1 h2), rfl⟩
set_option maxRecDepth 100000 in
set_option maxHeartbeats 4000000 in
theorem shapeR_r26 (o : Int) (h1 : 26 ≤ o) (h2 : o ≤ 30) (w : World) :
    Calls Try.prog 66 #[.int .i64 o] w fun e w' => e = .returned (.tuple #[.int .i64 (shapeL o).1, .int .i64 (shapeL o).2.1, .int .i64 (shapeL o).2.2]) ∧ w = w' := by
  have q1 : (o == 1) = false := by simp; omega
  have q2 : (o == 2) = false := by simp; omega
  have q61 : (o == 61) = false := by simp; omega
  have q84 : (o == 84) = false := by simp; omega
  have q85 : (o == 85) = false := by simp; omega
  have q86 : (o == 86) = false := by simp; omega
  have q87 : (o == 87) = false := by simp; omega
  have q88 : (o == 88) = false := by simp; omega
  have q89 : (o == 89) = false := by simp; omega
  have q90 : (o == 90) = false := by simp; omega
  have q91 : (o == 91) = false := by simp; omega
  have q92 : (o == 92) = false := by simp; omega
  have q93 : (o == 93) = false := by simp; omega
  have q94 : (o == 94) = false := by simp; omega
  have q95 : (o == 95) = false := by simp; omega
  have q96 : (o == 96) = false := by simp; omega
  go_enter Try.func66, Try.ntmps66
  go_wp2
  all_goals (go_returns; go_light)
  all_goals exact ⟨ret_three (shapeL_r26 o h1 h2), rfl⟩
set_option maxRecDepth 100000 in
set_option maxHeartbeats 4000000 in
theorem shapeR_r56 (o : Int) (h1 : 56 ≤ o) (h2 : o ≤ 60) (w : World) :
    Calls Try.prog 66 #[.int .i64 o] w fun e w' => e = .returned (.tuple #[.int .i64 (shapeL o).1, .int .i64 (shapeL o).2.1, .int .i64 (shapeL o).2.2]) ∧ w = w' := by
  have q1 : (o == 1) = false := by simp; omega
  have q2 : (o == 2) = false := by simp; omega
  have q61 : (o == 61) = false := by simp; omega
  have q84 : (o == 84) = false := by simp; omega
  have q85 : (o == 85) = false := by simp; omega
  have q86 : (o == 86) = false := by simp; omega
  have q87 : (o == 87) = false := by simp; omega
  have q88 : (o == 88) = false := by simp; omega
  have q89 : (o == 89) = false := by simp; omega
  have q90 : (o == 90) = false := by simp; omega
  have q91 : (o == 91) = false := by simp; omega
  have q92 : (o == 92) = false := by simp; omega
  have q93 : (o == 93) = false := by simp; omega
  have q94 : (o == 94) = false := by simp; omega
  have q95 : (o == 95) = false := by simp; omega
  have q96 : (o == 96) = false := by simp; omega
  go_enter Try.func66, Try.ntmps66
  go_wp2
  all_goals (go_returns; go_light)
  all_goals exact ⟨ret_three (shapeL_r56 o h1 h2), rfl⟩
set_option maxRecDepth 100000 in
set_option maxHeartbeats 4000000 in
theorem shapeR_r72 (o : Int) (h1 : 72 ≤ o) (h2 : o ≤ 79) (w : World) :
    Calls Try.prog 66 #[.int .i64 o] w fun e w' => e = .returned (.tuple #[.int .i64 (shapeL o).1, .int .i64 (shapeL o).2.1, .int .i64 (shapeL o).2.2]) ∧ w = w' := by
  have q1 : (o == 1) = false := by simp; omega
  have q2 : (o == 2) = false := by simp; omega
  have q61 : (o == 61) = false := by simp; omega
  have q84 : (o == 84) = false := by simp; omega
  have q85 : (o == 85) = false := by simp; omega
  have q86 : (o == 86) = false := by simp; omega
  have q87 : (o == 87) = false := by simp; omega
  have q88 : (o == 88) = false := by simp; omega
  have q89 : (o == 89) = false := by simp; omega
  have q90 : (o == 90) = false := by simp; omega
  have q91 : (o == 91) = false := by simp; omega
  have q92 : (o == 92) = false := by simp; omega
  have q93 : (o == 93) = false := by simp; omega
  have q94 : (o == 94) = false := by simp; omega
  have q95 : (o == 95) = false := by simp; omega
  have q96 : (o == 96) = false := by simp; omega
  go_enter Try.func66, Try.ntmps66
  go_wp2
  all_goals (go_returns; go_light)
  all_goals exact ⟨ret_three (shapeL_r72 o h1 h2), rfl⟩
set_option maxRecDepth 100000 in
set_option maxHeartbeats 4000000 in
theorem shapeR_lo (o : Int) (h1 : o < 1) (w : World) :
    Calls Try.prog 66 #[.int .i64 o] w fun e w' => e = .returned (.tuple #[.int .i64 (shapeL o).1, .int .i64 (shapeL o).2.1, .int .i64 (shapeL o).2.2]) ∧ w = w' := by
  have q1 : (o == 1) = false := by simp; omega
  have q2 : (o == 2) = false := by simp; omega
  have q61 : (o == 61) = false := by simp; omega
  have q84 : (o == 84) = false := by simp; omega
  have q85 : (o == 85) = false := by simp; omega
  have q86 : (o == 86) = false := by simp; omega
  have q87 : (o == 87) = false := by simp; omega
  have q88 : (o == 88) = false := by simp; omega
  have q89 : (o == 89) = false := by simp; omega
  have q90 : (o == 90) = false := by simp; omega
  have q91 : (o == 91) = false := by simp; omega
  have q92 : (o == 92) = false := by simp; omega
  have q93 : (o == 93) = false := by simp; omega
  have q94 : (o == 94) = false := by simp; omega
  have q95 : (o == 95) = false := by simp; omega
  have q96 : (o == 96) = false := by simp; omega
  go_enter Try.func66, Try.ntmps66
  go_wp2
  all_goals (go_returns; go_light)
  all_goals exact ⟨ret_three (shapeL_lo o h1), rfl⟩
set_option maxRecDepth 100000 in
set_option maxHeartbeats 4000000 in
theorem shapeR_hi (o : Int) (h1 : 96 < o) (w : World) :
    Calls Try.prog 66 #[.int .i64 o] w fun e w' => e = .returned (.tuple #[.int .i64 (shapeL o).1, .int .i64 (shapeL o).2.1, .int .i64 (shapeL o).2.2]) ∧ w = w' := by
  have q1 : (o == 1) = false := by simp; omega
  have q2 : (o == 2) = false := by simp; omega
  have q61 : (o == 61) = false := by simp; omega
  have q84 : (o == 84) = false := by simp; omega
  have q85 : (o == 85) = false := by simp; omega
  have q86 : (o == 86) = false := by simp; omega
  have q87 : (o == 87) = false := by simp; omega
  have q88 : (o == 88) = false := by simp; omega
  have q89 : (o == 89) = false := by simp; omega
  have q90 : (o == 90) = false := by simp; omega
  have q91 : (o == 91) = false := by simp; omega
  have q92 : (o == 92) = false := by simp; omega
  have q93 : (o == 93) = false := by simp; omega
  have q94 : (o == 94) = false := by simp; omega
  have q95 : (o == 95) = false := by simp; omega
  have q96 : (o == 96) = false := by simp; omega
  go_enter Try.func66, Try.ntmps66
  go_wp2
  all_goals (go_returns; go_light)
  all_goals exact ⟨ret_three (shapeL_hi o h1), rfl⟩
theorem shapeR_any (o : Int) (w : World) :
    Calls Try.prog 66 #[.int .i64 o] w fun e w' => e = .returned (.tuple #[.int .i64 (shapeL o).1, .int .i64 (shapeL o).2.1, .int .i64 (shapeL o).2.2]) ∧ w = w' := by
  by_cases h0 : o < 1
  · exact shapeR_lo o h0 w
  by_cases h9 : 96 < o
  · exact shapeR_hi o h9 w
  by_cases r3 : 3 ≤ o ∧ o ≤ 12
  · exact shapeR_r3 o r3.1 r3.2 w
  by_cases r13 : 13 ≤ o ∧ o ≤ 15
  · exact shapeR_r13 o r13.1 r13.2 w
  by_cases r16 : 16 ≤ o ∧ o ≤ 25
  · exact shapeR_r16 o r16.1 r16.2 w
  by_cases r33 : 33 ≤ o ∧ o ≤ 42
  · exact shapeR_r33 o r33.1 r33.2 w
  by_cases r43 : 43 ≤ o ∧ o ≤ 45
  · exact shapeR_r43 o r43.1 r43.2 w
  by_cases r46 : 46 ≤ o ∧ o ≤ 55
  · exact shapeR_r46 o r46.1 r46.2 w
  by_cases r62 : 62 ≤ o ∧ o ≤ 65
  · exact shapeR_r62 o r62.1 r62.2 w
  by_cases r66 : 66 ≤ o ∧ o ≤ 71
  · exact shapeR_r66 o r66.1 r66.2 w
  by_cases r80 : 80 ≤ o ∧ o ≤ 83
  · exact shapeR_r80 o r80.1 r80.2 w
  by_cases r26 : 26 ≤ o ∧ o ≤ 30
  · exact shapeR_r26 o r26.1 r26.2 w
  by_cases r56 : 56 ≤ o ∧ o ≤ 60
  · exact shapeR_r56 o r56.1 r56.2 w
  by_cases r72 : 72 ≤ o ∧ o ≤ 79
  · exact shapeR_r72 o r72.1 r72.2 w
  have hc : o = 1 ∨ o = 2 ∨ o = 31 ∨ o = 32 ∨ o = 61 ∨ o = 84 ∨ o = 85 ∨ o = 86 ∨ o = 87 ∨ o = 88 ∨ o = 89 ∨ o = 90 ∨ o = 91 ∨ o = 92 ∨ o = 93 ∨ o = 94 ∨ o = 95 ∨ o = 96 := by omega
  rcases hc with rfl | rfl | rfl | rfl | rfl | rfl | rfl | rfl | rfl | rfl | rfl | rfl | rfl | rfl | rfl | rfl | rfl | rfl
  · exact shapeR_c1 w
  · exact shapeR_c2 w
  · exact shapeR_c31 w
  · exact shapeR_c32 w
  · exact shapeR_c61 w
  · exact shapeR_c84 w
  · exact shapeR_c85 w
  · exact shapeR_c86 w
  · exact shapeR_c87 w
  · exact shapeR_c88 w
  · exact shapeR_c89 w
  · exact shapeR_c90 w
  · exact shapeR_c91 w
  · exact shapeR_c92 w
  · exact shapeR_c93 w
  · exact shapeR_c94 w
  · exact shapeR_c95 w
  · exact shapeR_c96 w
end Go.Proofs.Ytjbflmpnmobngaa.two
/- What the calls of mach that make a value, or take pointers, answer; each makes new memory alone. -/
namespace Go.Proofs.Ytjbflmpnmobngaa.two
set_option linter.unusedSimpArgs false
set_option linter.unusedVariables false
open Go.RowKit

theorem ret_val {k n b : Int} {p : Int × Int × Int} (h : p = (k, n, b)) : Ending.returned (.agg #[.int .i64 k, .int .u64 n, .int .i64 b]) = Ending.returned (.agg #[.int .i64 p.1, .int .u64 p.2.1, .int .i64 p.2.2]) := by rw [h]
theorem ret_valok {k n b : Int} {c : Bool} {p : (Int × Int × Int) × Bool} (h : p = ((k, n, b), c)) : Ending.returned (.tuple #[.agg #[.int .i64 k, .int .u64 n, .int .i64 b], .bool c]) = Ending.returned (.tuple #[.agg #[.int .i64 p.1.1, .int .u64 p.1.2.1, .int .i64 p.1.2.2], .bool p.2]) := by rw [h]

def intL (n : Int) : Int × Int × Int := (1, n % 4294967296, 0)
def longL (n : Int) : Int × Int × Int := (2, IntKind.u64.wrap n, 0)
def ptrL (b o : Int) : Int × Int × Int := if b == 0 then (0, 0, 0) else (4, IntKind.u64.wrap o, b)
def answerL (k n : Int) (ok : Bool) : (Int × Int × Int) × Bool := if ok then ((k, n, 0), true) else ((0, 0, 0), false)

theorem int_any (n : Int) (w : World) :
    Calls Try.prog 24 #[.int .i32 n] w fun e w' => e = .returned (.agg #[.int .i64 (intL n).1, .int .u64 (intL n).2.1, .int .i64 (intL n).2.2]) ∧ Fresh w w' := by
  go_enter Try.func24, Try.ntmps24
  go_wp2
  go_returns
  exact ⟨ret_val rfl, (Fresh.refl _).alloc _ _⟩
theorem long_any (n : Int) (w : World) :
    Calls Try.prog 29 #[.int .i64 n] w fun e w' => e = .returned (.agg #[.int .i64 (longL n).1, .int .u64 (longL n).2.1, .int .i64 (longL n).2.2]) ∧ Fresh w w' := by
  go_enter Try.func29, Try.ntmps29
  go_wp2
  go_returns
  exact ⟨ret_val rfl, (Fresh.refl _).alloc _ _⟩
theorem ptr_any (b o : Int) (w : World) :
    Calls Try.prog 23 #[.int .i64 b, .int .i64 o] w fun e w' => e = .returned (.agg #[.int .i64 (ptrL b o).1, .int .u64 (ptrL b o).2.1, .int .i64 (ptrL b o).2.2]) ∧ Fresh w w' := by
  go_enter Try.func23, Try.ntmps23
  go_wp2
  all_goals (go_returns; go_light)
  all_goals exact ⟨ret_val (by simp [ptrL, *]), (Fresh.refl _).alloc _ _⟩
theorem answer_any (k n : Int) (ok : Bool) (w : World) :
    Calls Try.prog 57 #[.int .i64 k, .int .u64 n, .bool ok] w fun e w' => e = .returned (.tuple #[.agg #[.int .i64 (answerL k n ok).1.1, .int .u64 (answerL k n ok).1.2.1, .int .i64 (answerL k n ok).1.2.2], .bool (answerL k n ok).2]) ∧ Fresh w w' := by
  cases ok <;>
  · go_enter Try.func57, Try.ntmps57
    go_wp2
    all_goals (go_returns; go_light)
    all_goals exact ⟨ret_valok (by simp [answerL]), (Fresh.refl _).alloc _ _⟩
def nowhereL (k b : Int) : Bool := k == 4 && b == 0
theorem nowhere_any (k n b : Int) (w : World) :
    Calls Try.prog 87 #[.agg #[.int .i64 k, .int .u64 n, .int .i64 b]] w fun e w' => e = .returned (.bool (nowhereL k b)) ∧ Fresh w w' := by
  go_enter Try.func87, Try.ntmps87
  go_wp2
  all_goals (go_returns; go_light)
  all_goals exact ⟨ret_bool (by simp [nowhereL, *]), (Fresh.refl _).alloc _ _⟩
def palL (o n b y : Int) : (Int × Int × Int) × Bool :=
  if o == 33 then (ptrL b (wrap64 (IntKind.u64.wrap (n + y))), true) else if o == 34 then (ptrL b (wrap64 (IntKind.u64.wrap (n - y))), true)
  else if o == 46 && y == 0 then (intL 0, true) else if o == 47 && y == 0 then (intL 1, true) else ((0, 0, 0), false)
theorem pal_any (o k n b y : Int) (w : World) :
    Calls Try.prog 89 #[.int .i64 o, .agg #[.int .i64 k, .int .u64 n, .int .i64 b], .int .u64 y] w fun e w' => e = .returned (.tuple #[.agg #[.int .i64 (palL o n b y).1.1, .int .u64 (palL o n b y).1.2.1, .int .i64 (palL o n b y).1.2.2], .bool (palL o n b y).2]) ∧ Fresh w w' := by
  go_enter Try.func89, Try.ntmps89
  go_wp2_with (first
    | (go_at_call 23; refine (ptr_any _ _ _).mono ?_; rintro e w1 ⟨rfl, h1⟩; obtain ⟨c1, f1⟩ := h1.cells; have z1 := h1.size)
    | (go_at_call 24; refine (int_any _ _).mono ?_; rintro e w1 ⟨rfl, h1⟩; obtain ⟨c1, f1⟩ := h1.cells; have z1 := h1.size))
  all_goals (first | (refine bodyPost_ret (v := ?_) ?_ rfl ?_; rotate_left 1; focus (simp [results, Try.results89, go_sem, c1]; try rfl)) | go_returns)
  all_goals go_light
  all_goals exact ⟨ret_valok (by simp [palL, *]), by (repeat' first | with_reducible exact Fresh.refl _ | with_reducible assumption | with_reducible refine Fresh.alloc ?_ _ _ | with_reducible refine Fresh.drew ?_ | with_reducible refine Fresh.setCell ?_ ?_ _ | with_reducible refine Fresh.trans ?_ (by assumption) | (simp; done) | (simp; omega))⟩
end Go.Proofs.Ytjbflmpnmobngaa.two
/- What mach's operations of two answer where a pointer is among the operands. -/
namespace Go.Proofs.Ytjbflmpnmobngaa.two
set_option linter.unusedSimpArgs false
set_option linter.unusedVariables false
open Go.RowKit

def noneL : (Int × Int × Int) × Bool := ((0, 0, 0), false)
def twoL (o n b n' b' : Int) : (Int × Int × Int) × Bool :=
  if b != b' then noneL else if o == 34 then (longL (wrap64 (IntKind.u64.wrap (n - n'))), true)
  else if 46 ≤ o ∧ o ≤ 55 then answerL 1 (whole64 (o - 30) n n').1 (whole64 (o - 30) n n').2 else noneL
def pointersL (o k n b k' n' b' : Int) : (Int × Int × Int) × Bool :=
  if nowhereL k b || nowhereL k' b' then noneL else if k == 4 && k' == 4 then twoL o n b n' b' else if k' == 2 then palL o n b n'
  else if k == 2 && o != 34 then palL o n' b' n else noneL
theorem two_any (o k n b k' n' b' : Int) (hn : 0 ≤ n) (hn' : 0 ≤ n') (w : World) :
    Calls Try.prog 88 #[.int .i64 o, .agg #[.int .i64 k, .int .u64 n, .int .i64 b], .agg #[.int .i64 k', .int .u64 n', .int .i64 b']] w fun e w' => e = .returned (.tuple #[.agg #[.int .i64 (twoL o n b n' b').1.1, .int .u64 (twoL o n b n' b').1.2.1, .int .i64 (twoL o n b n' b').1.2.2], .bool (twoL o n b n' b').2]) ∧ Fresh w w' := by
  go_enter Try.func88, Try.ntmps88
  go_wp2_with (first | (go_at_call 29; refine (long_any _ _).mono ?_; rintro e w1 ⟨rfl, h1⟩; obtain ⟨c1, f1⟩ := h1.cells; have z1a := h1.z (n := w.heap.size) (by first | assumption | (simp; done) | (simp; assumption) | (simp; omega)); have z1b := h1.z (n := w.heap.size + 1) (by first | assumption | (simp; done) | (simp; assumption) | (simp; omega)); have z1c := h1.z (n := w.heap.size + 1 + 1) (by first | assumption | (simp; done) | (simp; assumption) | (simp; omega))) | (go_at_call 57; refine (answer_any _ _ _ _).mono ?_; rintro e w1 ⟨rfl, h1⟩; obtain ⟨c1, f1⟩ := h1.cells; have z1a := h1.z (n := w.heap.size) (by first | assumption | (simp; done) | (simp; assumption) | (simp; omega)); have z1b := h1.z (n := w.heap.size + 1) (by first | assumption | (simp; done) | (simp; assumption) | (simp; omega)); have z1c := h1.z (n := w.heap.size + 1 + 1) (by first | assumption | (simp; done) | (simp; assumption) | (simp; omega))) | (go_at_call 93; refine (whole64_any _ _ _ (by omega) (by omega) hn hn' _).mono ?_; rintro e w' ⟨rfl, rfl⟩))
  all_goals go_light
  all_goals first | (refine bodyPost_ret (v := ?_) ?_ rfl ?_; rotate_left 1; focus (simp [results, Try.results88, go_sem, *]; (try rfl); done)) | go_returns
  all_goals exact ⟨ret_valok (by (try subst_vars); simp (disch := omega) [twoL, noneL, if_neg, *]), by (repeat' first | with_reducible exact Fresh.refl _ | with_reducible assumption | with_reducible refine Fresh.alloc ?_ _ _ | with_reducible refine Fresh.drew ?_ | with_reducible refine Fresh.setCell ?_ ?_ _ | with_reducible refine Fresh.trans ?_ (by assumption) | (simp; done) | (simp; omega))⟩
set_option maxHeartbeats 2000000 in
theorem pointers_any (o k n b k' n' b' : Int) (hn : 0 ≤ n) (hn' : 0 ≤ n') (w : World) :
    Calls Try.prog 64 #[.int .i64 o, .agg #[.int .i64 k, .int .u64 n, .int .i64 b], .agg #[.int .i64 k', .int .u64 n', .int .i64 b']] w fun e w' => e = .returned (.tuple #[.agg #[.int .i64 (pointersL o k n b k' n' b').1.1, .int .u64 (pointersL o k n b k' n' b').1.2.1, .int .i64 (pointersL o k n b k' n' b').1.2.2], .bool (pointersL o k n b k' n' b').2]) ∧ Fresh w w' := by
  go_enter Try.func64, Try.ntmps64
  go_wp2_with (first | (go_at_call 87; refine (nowhere_any _ _ _ _).mono ?_; rintro e w1 ⟨rfl, h1⟩; obtain ⟨c1, f1⟩ := h1.cells; have z1a := h1.z (n := w.heap.size) (by first | assumption | (simp; done) | (simp; assumption) | (simp; omega)); have z1b := h1.z (n := w.heap.size + 1) (by first | assumption | (simp; done) | (simp; assumption) | (simp; omega)); have z1c := h1.z (n := w.heap.size + 1 + 1) (by first | assumption | (simp; done) | (simp; assumption) | (simp; omega))) | (go_at_call 88; refine (two_any _ _ _ _ _ _ _ hn hn' _).mono ?_; rintro e w2 ⟨rfl, h2⟩; obtain ⟨c2, f2⟩ := h2.cells; have z2a := h2.z (n := w.heap.size) (by first | assumption | (simp; done) | (simp; assumption) | (simp; omega)); have z2b := h2.z (n := w.heap.size + 1) (by first | assumption | (simp; done) | (simp; assumption) | (simp; omega)); have z2c := h2.z (n := w.heap.size + 1 + 1) (by first | assumption | (simp; done) | (simp; assumption) | (simp; omega))) | (go_at_call 89; refine (pal_any _ _ _ _ _ _).mono ?_; rintro e w3 ⟨rfl, h3⟩; obtain ⟨c3, f3⟩ := h3.cells; have z3a := h3.z (n := w.heap.size) (by first | assumption | (simp; done) | (simp; assumption) | (simp; omega)); have z3b := h3.z (n := w.heap.size + 1) (by first | assumption | (simp; done) | (simp; assumption) | (simp; omega)); have z3c := h3.z (n := w.heap.size + 1 + 1) (by first | assumption | (simp; done) | (simp; assumption) | (simp; omega))))
  all_goals go_light
  all_goals first | (refine bodyPost_ret (v := ?_) ?_ rfl ?_; rotate_left 1; focus (simp [results, Try.results64, go_sem, *]; (try rfl); done)) | go_returns
  all_goals exact ⟨ret_valok (by (try subst_vars); simp [pointersL, noneL, *]), by (repeat' first | with_reducible exact Fresh.refl _ | with_reducible assumption | with_reducible refine Fresh.alloc ?_ _ _ | with_reducible refine Fresh.drew ?_ | with_reducible refine Fresh.setCell ?_ ?_ _ | with_reducible refine Fresh.trans ?_ (by assumption) | (simp; done) | (simp; omega))⟩
end Go.Proofs.Ytjbflmpnmobngaa.two
/- Doubles: what the calls that take them answer. -/
namespace Go.Proofs.Ytjbflmpnmobngaa.two
set_option linter.unusedSimpArgs false
set_option linter.unusedVariables false
open Go.RowKit

theorem run_f64bits (x : Nat) (w : World) : (callFunc 84 #[.float .f64 x]).run Try.prog w = .ok (.value (.int .u64 x)) w := by
  rw [run_callFunc_standIn (fn := Try.f84) (e := Extern.MathFloatBits.float64bits) (by kernel_rfl) (by kernel_rfl) (by kernel_rfl) (by kernel_rfl) (by rfl)]
  rfl
theorem run_f64from (n : Int) (w : World) : (callFunc 83 #[.int .u64 n]).run Try.prog w = .ok (.value (.float .f64 n.toNat)) w := by
  rw [run_callFunc_standIn (fn := Try.f83) (e := Extern.MathFloatBits.float64frombits) (by kernel_rfl) (by kernel_rfl) (by kernel_rfl) (by kernel_rfl) (by rfl)]
  rfl
attribute [local go_sem ↓] run_f64bits run_f64from

def nanL (x : Nat) : Bool := FloatKind.f64.format.order x x != some Ordering.eq
def dblBitsL (x : Nat) : Int := if nanL x then 9221120237041090560 else x
theorem isNaN_any (x : Nat) (w : World) :
    Calls Try.prog 121 #[.float .f64 x] w fun e w' => e = .returned (.bool (nanL x)) ∧ w = w' := by
  go_enter Try.func121, Try.ntmps121
  go_wp2
  all_goals (go_returns; go_light; exact ⟨rfl, rfl⟩)
theorem doubleBits_any (x : Nat) (w : World) :
    Calls Try.prog 102 #[.float .f64 x] w fun e w' => e = .returned (.int .u64 (dblBitsL x)) ∧ w = w' := by
  go_enter Try.func102, Try.ntmps102
  go_wp2_with (go_at_call 121; refine (isNaN_any _ _).mono ?_; rintro e w' ⟨rfl, rfl⟩)
  all_goals (go_returns; go_light)
  all_goals exact ⟨by simp [dblBitsL, *], rfl⟩
def fcompareL (o : Int) (x y : Nat) : Bool :=
  if o == 16 then FloatKind.f64.format.order x y == some .eq else if o == 17 then FloatKind.f64.format.order x y != some .eq else if o == 18 then FloatKind.f64.format.order x y == some .lt
  else if o == 19 then FloatKind.f64.format.order x y == some .lt || FloatKind.f64.format.order x y == some .eq else if o == 20 then FloatKind.f64.format.order x y == some .gt
  else FloatKind.f64.format.order x y == some .gt || FloatKind.f64.format.order x y == some .eq
theorem compareF_any (o : Int) (x y : Nat) (w : World) :
    Calls Try.prog 103 #[.int .i64 o, .float .f64 x, .float .f64 y] w fun e w' => e = .returned (.bool (fcompareL o x y)) ∧ w = w' := by
  go_enter Try.func103, Try.ntmps103
  go_wp2
  all_goals (go_returns; go_light)
  all_goals exact ⟨by simp [fcompareL, *], rfl⟩

theorem read_nan (word : Nat) (h2 : 9218868437227405312 < word % 9223372036854775808) : ∃ s t, FloatKind.f64.format.read word = .nan s t := by
  have w1 : FloatKind.f64.format.signWeight = 9223372036854775808 := by decide
  have w2 : FloatKind.f64.format.binade = 4503599627370496 := by decide
  have w3 : FloatKind.f64.format.infRung = 9218868437227405312 := by decide
  unfold Ieee.Format.read
  rw [w1, w2, w3]
  have hb : 4503599627370496 ≤ word % 9223372036854775808 := by omega
  dsimp only
  rw [if_neg (Nat.not_lt.2 hb), if_neg (Nat.not_lt.2 (Nat.le_of_lt h2)), if_neg (Nat.ne_of_gt h2)]
  exact ⟨_, _, rfl⟩
theorem nan_cut (t : Nat) : nanL ((t % 2) * 2 ^ 63 + 0x7ff0000000000000 + 1 + (t / 2) % (2 ^ 52 - 1)) = true := by
  have hf : (t / 2) % (2 ^ 52 - 1) < 2 ^ 52 - 1 := Nat.mod_lt _ (by decide)
  have hs : t % 2 < 2 := Nat.mod_lt _ (by decide)
  generalize (t / 2) % (2 ^ 52 - 1) = f at *
  generalize t % 2 = s at *
  obtain ⟨a, u, h⟩ := read_nan (s * 2 ^ 63 + 0x7ff0000000000000 + 1 + f) (by omega)
  unfold nanL Ieee.Format.order
  rw [h]
  rfl
def farithL (op : BinOp) (x y : Nat) : Int := match floatBits op .f64 x y with | some r => dblBitsL r | none => 9221120237041090560
theorem run_farith (op : BinOp) (hop : op = .add ∨ op = .sub ∨ op = .mul ∨ op = .quo) (x y : Nat) (w : World) :
    ∃ r w', (binOp op 101 (.float .f64 x) (.float .f64 y)).run Try.prog w = .ok (.float .f64 r) w' ∧ dblBitsL r = farithL op x y ∧ Fresh w w' := by
  cases h : floatBits op .f64 x y with
  | some r => exact ⟨r, w, run_float_arith w op 101 .f64 x y r h, by simp [farithL, h], Fresh.refl _⟩
  | none =>
    have hn : ∃ r, (binOp op 101 (.float .f64 x) (.float .f64 y)).run Try.prog w = .ok (.float .f64 r) w.drew ∧ nanL r = true := by
      refine ⟨_, ?_, nan_cut (w.tape w.drawn (.nanBits .f64 x y))⟩
      unfold floatBits at h
      rcases hop with rfl | rfl | rfl | rfl <;> simp only at h <;> simp [binOp, Op.floatArith, h] <;> rfl
    obtain ⟨r, hr, hn⟩ := hn
    exact ⟨r, w.drew, hr, by simp [farithL, h, dblBitsL, hn], (Fresh.refl _).drew⟩
def doublesL (o x y : Int) : Int :=
  if o == 62 then farithL .add x.toNat y.toNat else if o == 63 then farithL .sub x.toNat y.toNat else if o == 64 then farithL .mul x.toNat y.toNat else if o == 65 then farithL .quo x.toNat y.toNat
  else flagL (fcompareL (o - 66 + 16) x.toNat y.toNat)
theorem doubles_any (o x y : Int) (ho : 62 ≤ o) (ho' : o ≤ 71) (w : World) :
    Calls Try.prog 90 #[.int .i64 o, .int .u64 x, .int .u64 y] w fun e w' => e = .returned (.int .u64 (doublesL o x y)) ∧ Fresh w w' := by
  obtain ⟨r1, w1, e1, d1, h1⟩ := run_farith .add (by simp) x.toNat y.toNat w
  obtain ⟨r2, w2, e2, d2, h2⟩ := run_farith .sub (by simp) x.toNat y.toNat w
  obtain ⟨r3, w3, e3, d3, h3⟩ := run_farith .mul (by simp) x.toNat y.toNat w
  obtain ⟨r4, w4, e4, d4, h4⟩ := run_farith .quo (by simp) x.toNat y.toNat w
  go_enter Try.func90, Try.ntmps90
  go_wp2_with (first | (go_at_call 102; refine (doubleBits_any _ _).mono ?_; rintro e w' ⟨rfl, rfl⟩) | (go_at_call 103; refine (compareF_any _ _ _ _).mono ?_; rintro e w' ⟨rfl, rfl⟩) | (go_at_call 58; refine (flag64_any _ _).mono ?_; rintro e w' ⟨rfl, rfl⟩))
  all_goals (go_returns; go_light)
  all_goals exact ⟨ret_int (by simp [doublesL, *]), by first | assumption | exact Fresh.refl _⟩
end Go.Proofs.Ytjbflmpnmobngaa.two
/- What mach's operations of two answer, of any values. -/
namespace Go.Proofs.Ytjbflmpnmobngaa.two
set_option linter.unusedSimpArgs false
set_option linter.unusedVariables false
open Go.RowKit

/-- The answer of an operation of two whose operands are of the kinds that they must be. -/
def bits2L (o k x y : Int) : Int × Bool :=
  if k == 3 then (doublesL o x y, true) else if k == 1 then (IntKind.u64.wrap (whole32 o (x % 4294967296) (y % 4294967296)).1, (whole32 o (x % 4294967296) (y % 4294967296)).2)
  else if isShiftL (o - 30) then whole64 (o - 30) x (y % 4294967296) else whole64 (o - 30) x y
set_option maxRecDepth 100000 in
theorem bits2_k3 (o x y : Int) (hx : 0 ≤ x) (hy : 0 ≤ y) (h1 : 62 ≤ o) (h2 : o ≤ 71) (w : World) :
    Calls Try.prog 65 #[.int .i64 o, .int .i64 3, .int .u64 x, .int .u64 y] w fun e w' => e = .returned (.tuple #[.int .u64 (bits2L o 3 x y).1, .bool (bits2L o 3 x y).2]) ∧ Fresh w w' := by
  go_enter Try.func65, Try.ntmps65
  go_wp2_with (first | (go_at_call 90; refine (doubles_any _ _ _ (by omega) (by omega) _).mono ?_; rintro e w1 ⟨rfl, h1⟩; obtain ⟨c1, f1⟩ := h1.cells))
  all_goals (go_returns; go_light)
  all_goals exact ⟨ret_pair (by simp [bits2L, *]), by first | assumption | exact Fresh.refl _⟩
set_option maxRecDepth 100000 in
theorem bits2_k1 (o x y : Int) (hx : 0 ≤ x) (hy : 0 ≤ y) (h1 : 1 ≤ o) (h2 : o ≤ 25) (w : World) :
    Calls Try.prog 65 #[.int .i64 o, .int .i64 1, .int .u64 x, .int .u64 y] w fun e w' => e = .returned (.tuple #[.int .u64 (bits2L o 1 x y).1, .bool (bits2L o 1 x y).2]) ∧ Fresh w w' := by
  have hx4 : 0 ≤ x % 4294967296 := by omega
  have hy4 : 0 ≤ y % 4294967296 := by omega
  go_enter Try.func65, Try.ntmps65
  go_wp2_with (first | (go_at_call 91; refine (whole32_any _ _ _ (by omega) (by omega) hx4 hy4 _).mono ?_; rintro e w' ⟨rfl, rfl⟩))
  all_goals (go_returns; go_light)
  all_goals exact ⟨ret_pair (by simp [bits2L, *]), by first | assumption | exact Fresh.refl _⟩
set_option maxRecDepth 100000 in
theorem bits2_k2s (o x y : Int) (hx : 0 ≤ x) (hy : 0 ≤ y) (h1 : 31 ≤ o) (h2 : o ≤ 55) (hs : isShiftL (o - 30) = true) (w : World) :
    Calls Try.prog 65 #[.int .i64 o, .int .i64 2, .int .u64 x, .int .u64 y] w fun e w' => e = .returned (.tuple #[.int .u64 (bits2L o 2 x y).1, .bool (bits2L o 2 x y).2]) ∧ Fresh w w' := by
  have hx4 : 0 ≤ x % 4294967296 := by omega
  have hy4 : 0 ≤ y % 4294967296 := by omega
  have ha : 1 ≤ o - 30 := by omega
  have hb : o - 30 ≤ 25 := by omega
  go_enter Try.func65, Try.ntmps65
  go_wp2_with (first | (go_at_call 92; refine (isShift_any _ _).mono ?_; rintro e w' ⟨rfl, rfl⟩) | (go_at_call 93; refine (whole64_any _ _ _ ha hb hx hy4 _).mono ?_; rintro e w' ⟨rfl, rfl⟩))
  all_goals (go_returns; go_light)
  all_goals exact ⟨ret_pair (by simp [bits2L, *]), by first | assumption | exact Fresh.refl _⟩
set_option maxRecDepth 100000 in
theorem bits2_k2n (o x y : Int) (hx : 0 ≤ x) (hy : 0 ≤ y) (h1 : 31 ≤ o) (h2 : o ≤ 55) (hs : isShiftL (o - 30) = false) (w : World) :
    Calls Try.prog 65 #[.int .i64 o, .int .i64 2, .int .u64 x, .int .u64 y] w fun e w' => e = .returned (.tuple #[.int .u64 (bits2L o 2 x y).1, .bool (bits2L o 2 x y).2]) ∧ Fresh w w' := by
  have ha : 1 ≤ o - 30 := by omega
  have hb : o - 30 ≤ 25 := by omega
  go_enter Try.func65, Try.ntmps65
  go_wp2_with (first | (go_at_call 92; refine (isShift_any _ _).mono ?_; rintro e w' ⟨rfl, rfl⟩) | (go_at_call 93; refine (whole64_any _ _ _ ha hb hx hy _).mono ?_; rintro e w' ⟨rfl, rfl⟩))
  all_goals (go_returns; go_light)
  all_goals exact ⟨ret_pair (by simp [bits2L, *]), by first | assumption | exact Fresh.refl _⟩
theorem bits2_any (o k x y : Int) (hx : 0 ≤ x) (hy : 0 ≤ y) (h : (k = 3 ∧ 62 ≤ o ∧ o ≤ 71) ∨ (k = 1 ∧ 1 ≤ o ∧ o ≤ 25) ∨ (k = 2 ∧ 31 ≤ o ∧ o ≤ 55)) (w : World) :
    Calls Try.prog 65 #[.int .i64 o, .int .i64 k, .int .u64 x, .int .u64 y] w fun e w' => e = .returned (.tuple #[.int .u64 (bits2L o k x y).1, .bool (bits2L o k x y).2]) ∧ Fresh w w' := by
  rcases h with ⟨rfl, h1, h2⟩ | ⟨rfl, h1, h2⟩ | ⟨rfl, h1, h2⟩
  · exact bits2_k3 o x y hx hy h1 h2 w
  · exact bits2_k1 o x y hx hy h1 h2 w
  · cases hs : isShiftL (o - 30)
    · exact bits2_k2n o x y hx hy h1 h2 hs w
    · exact bits2_k2s o x y hx hy h1 h2 hs w
end Go.Proofs.Ytjbflmpnmobngaa.two
/- What mach's Eval2 answers, of any values. -/
namespace Go.Proofs.Ytjbflmpnmobngaa.two
set_option linter.unusedSimpArgs false
set_option linter.unusedVariables false
open Go.RowKit

theorem shape_two (o : Int) (h : ((shapeL o).2.1 == 0) = false) : ((shapeL o).1 = 3 ∧ 62 ≤ o ∧ o ≤ 71) ∨ ((shapeL o).1 = 1 ∧ 1 ≤ o ∧ o ≤ 25) ∨ ((shapeL o).1 = 2 ∧ 31 ≤ o ∧ o ≤ 55) := by
  have h' : (shapeL o).2.1 ≠ 0 := by simpa using h
  clear h
  unfold shapeL at *
  by_cases a : 1 ≤ o ∧ o ≤ 25
  · rw [if_pos a]
    unfold wholeShapeL
    refine Or.inr (Or.inl ⟨?_, a.1, a.2⟩)
    repeat' split
    all_goals rfl
  · rw [if_neg a] at *
    by_cases b : 31 ≤ o ∧ o ≤ 55
    · rw [if_pos b]
      unfold wholeShapeL
      refine Or.inr (Or.inr ⟨?_, b.1, b.2⟩)
      repeat' split
      all_goals rfl
    · rw [if_neg b] at *
      by_cases c : o = 61
      · rw [if_pos c] at h'
        exact absurd rfl h'
      · rw [if_neg c] at *
        by_cases d : 62 ≤ o ∧ o ≤ 65
        · rw [if_pos d]
          exact Or.inl ⟨rfl, by omega, by omega⟩
        · rw [if_neg d] at *
          by_cases f : 66 ≤ o ∧ o ≤ 71
          · rw [if_pos f]
            exact Or.inl ⟨rfl, by omega, by omega⟩
          · rw [if_neg f] at h'
            exact absurd rfl h'
/-- What mach answers of an operation of two. -/
def eval2L (o k n b k' n' b' : Int) : (Int × Int × Int) × Bool :=
  if k == 4 || k' == 4 then pointersL o k n b k' n' b'
  else if (shapeL o).2.1 == 0 || k != (shapeL o).1 || k' != (shapeL o).2.1 then noneL
  else answerL (shapeL o).2.2 (bits2L o (shapeL o).1 n n').1 (bits2L o (shapeL o).1 n n').2
theorem eval2_z (o k n b k' n' b' : Int) (hn : 0 ≤ n) (hn' : 0 ≤ n') (h0 : ((shapeL o).2.1 == 0) = true) (w : World) :
    Calls Try.prog 47 #[.int .i64 o, .agg #[.int .i64 k, .int .u64 n, .int .i64 b], .agg #[.int .i64 k', .int .u64 n', .int .i64 b']] w fun e w' => e = .returned (.tuple #[.agg #[.int .i64 (eval2L o k n b k' n' b').1.1, .int .u64 (eval2L o k n b k' n' b').1.2.1, .int .i64 (eval2L o k n b k' n' b').1.2.2], .bool (eval2L o k n b k' n' b').2]) ∧ Fresh w w' := by
  go_enter Try.func47, Try.ntmps47
  go_wp2_with (first | (go_at_call 64; refine (pointers_any _ _ _ _ _ _ _ hn hn' _).mono ?_; rintro e w1 ⟨rfl, h1⟩; obtain ⟨c1, f1⟩ := h1.cells; have z1a := h1.z (n := w.heap.size) (by first | assumption | (simp; done) | (simp; assumption) | (simp; omega)); have z1b := h1.z (n := w.heap.size + 1) (by first | assumption | (simp; done) | (simp; assumption) | (simp; omega)); have z1c := h1.z (n := w.heap.size + 1 + 1) (by first | assumption | (simp; done) | (simp; assumption) | (simp; omega))) | (go_at_call 59; refine (shape_any _ _).mono ?_; rintro e w' ⟨rfl, rfl⟩))
  all_goals go_light
  all_goals first | (refine bodyPost_ret (v := ?_) ?_ rfl ?_; rotate_left 1; focus (simp [results, Try.results47, go_sem, *]; (try rfl); done)) | go_returns
  all_goals exact ⟨ret_valok (by (try subst_vars); first | (simp [eval2L, noneL, *]; done) | simp_all [eval2L, noneL]), by (repeat' first | with_reducible exact Fresh.refl _ | with_reducible assumption | with_reducible refine Fresh.alloc ?_ _ _ | with_reducible refine Fresh.drew ?_ | with_reducible refine Fresh.setCell ?_ ?_ _ | with_reducible refine Fresh.trans ?_ (by assumption) | (simp; done) | (simp; omega))⟩
theorem eval2_n (o k n b k' n' b' : Int) (hn : 0 ≤ n) (hn' : 0 ≤ n') (h0 : ((shapeL o).2.1 == 0) = false) (hsh : Hid (((shapeL o).1 = 3 ∧ 62 ≤ o ∧ o ≤ 71) ∨ ((shapeL o).1 = 1 ∧ 1 ≤ o ∧ o ≤ 25) ∨ ((shapeL o).1 = 2 ∧ 31 ≤ o ∧ o ≤ 55))) (w : World) :
    Calls Try.prog 47 #[.int .i64 o, .agg #[.int .i64 k, .int .u64 n, .int .i64 b], .agg #[.int .i64 k', .int .u64 n', .int .i64 b']] w fun e w' => e = .returned (.tuple #[.agg #[.int .i64 (eval2L o k n b k' n' b').1.1, .int .u64 (eval2L o k n b k' n' b').1.2.1, .int .i64 (eval2L o k n b k' n' b').1.2.2], .bool (eval2L o k n b k' n' b').2]) ∧ Fresh w w' := by
  go_enter Try.func47, Try.ntmps47
  go_wp2_with (first | (go_at_call 64; refine (pointers_any _ _ _ _ _ _ _ hn hn' _).mono ?_; rintro e w1 ⟨rfl, h1⟩; obtain ⟨c1, f1⟩ := h1.cells; have z1a := h1.z (n := w.heap.size) (by first | assumption | (simp; done) | (simp; assumption) | (simp; omega)); have z1b := h1.z (n := w.heap.size + 1) (by first | assumption | (simp; done) | (simp; assumption) | (simp; omega)); have z1c := h1.z (n := w.heap.size + 1 + 1) (by first | assumption | (simp; done) | (simp; assumption) | (simp; omega))) | (go_at_call 59; refine (shape_any _ _).mono ?_; rintro e w' ⟨rfl, rfl⟩) | (go_at_call 65; refine (bits2_any _ _ _ _ hn hn' hsh.out _).mono ?_; rintro e w2 ⟨rfl, h2⟩; obtain ⟨c2, f2⟩ := h2.cells; have z2a := h2.z (n := w.heap.size) (by first | assumption | (simp; done) | (simp; assumption) | (simp; omega)); have z2b := h2.z (n := w.heap.size + 1) (by first | assumption | (simp; done) | (simp; assumption) | (simp; omega)); have z2c := h2.z (n := w.heap.size + 1 + 1) (by first | assumption | (simp; done) | (simp; assumption) | (simp; omega))) | (go_at_call 57; refine (answer_any _ _ _ _).mono ?_; rintro e w3 ⟨rfl, h3⟩; obtain ⟨c3, f3⟩ := h3.cells; have z3a := h3.z (n := w.heap.size) (by first | assumption | (simp; done) | (simp; assumption) | (simp; omega)); have z3b := h3.z (n := w.heap.size + 1) (by first | assumption | (simp; done) | (simp; assumption) | (simp; omega)); have z3c := h3.z (n := w.heap.size + 1 + 1) (by first | assumption | (simp; done) | (simp; assumption) | (simp; omega))))
  all_goals go_light
  all_goals first | (refine bodyPost_ret (v := ?_) ?_ rfl ?_; rotate_left 1; focus (simp [results, Try.results47, go_sem, *]; (try rfl); done)) | go_returns
  all_goals exact ⟨ret_valok (by (try subst_vars); first | (simp [eval2L, noneL, *]; done) | simp_all [eval2L, noneL]), by (repeat' first | with_reducible exact Fresh.refl _ | with_reducible assumption | with_reducible refine Fresh.alloc ?_ _ _ | with_reducible refine Fresh.drew ?_ | with_reducible refine Fresh.setCell ?_ ?_ _ | with_reducible refine Fresh.trans ?_ (by assumption) | (simp; done) | (simp; omega))⟩
theorem eval2_any (o k n b k' n' b' : Int) (hn : 0 ≤ n) (hn' : 0 ≤ n') (w : World) :
    Calls Try.prog 47 #[.int .i64 o, .agg #[.int .i64 k, .int .u64 n, .int .i64 b], .agg #[.int .i64 k', .int .u64 n', .int .i64 b']] w fun e w' => e = .returned (.tuple #[.agg #[.int .i64 (eval2L o k n b k' n' b').1.1, .int .u64 (eval2L o k n b k' n' b').1.2.1, .int .i64 (eval2L o k n b k' n' b').1.2.2], .bool (eval2L o k n b k' n' b').2]) ∧ Fresh w w' := by
  cases h0 : (shapeL o).2.1 == 0
  · exact eval2_n o k n b k' n' b' hn hn' h0 (shape_two o h0) w
  · exact eval2_z o k n b k' n' b' hn hn' h0 w
end Go.Proofs.Ytjbflmpnmobngaa.two
