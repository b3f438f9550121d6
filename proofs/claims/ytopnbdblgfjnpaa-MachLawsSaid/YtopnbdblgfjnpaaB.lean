/- What the calls of mach on whole numbers of either width answer, and the shapes of the operations. Each is a contract of the call. -/
import Derived.Test.YtopnbdblgfjnpaaA
namespace Go.Proofs.Ytopnbdblgfjnpaa
set_option linter.unusedSimpArgs false
set_option linter.unusedVariables false
open Go.RowKit

def divS32 (b : Bool) (x y : Int) : Int × Bool := if y == 0 then (0, false) else if b then (x.tmod y, true) else (wrap32 (x.tdiv y), true)
def divS64 (b : Bool) (x y : Int) : Int × Bool := if y == 0 then (0, false) else if b then (x.tmod y, true) else (wrap64 (x.tdiv y), true)
def divU32 (b : Bool) (x y : Int) : Int × Bool := if y == 0 then (0, false) else if b then (x % y, true) else (x.tdiv y % 4294967296, true)
def divU64 (b : Bool) (x y : Int) : Int × Bool := if y == 0 then (0, false) else if b then (x % y, true) else (IntKind.u64.wrap (x.tdiv y), true)
def shiftT32 (o x y : Int) : Int × Bool := if y < 32 then (shift32 o x y, true) else (0, false)
def shiftT64 (o x y : Int) : Int × Bool := if y < 64 then (shift64 o x y, true) else (0, false)
def low32 (x : Int) : Bool := x != 0 && x == -x % 4294967296
def low64 (x : Int) : Bool := x != 0 && x == IntKind.u64.wrap (-x)
def whole32 (o x y : Int) : Int × Bool :=
  if 22 ≤ o then (flagL (compareL (o - 22 + 18) x y), true) else if 16 ≤ o then (flagL (compareL o (wrap32 x) (wrap32 y)), true)
  else if isShiftL o then shiftT32 o x y
  else if o == 6 || o == 8 then (if wrap32 y == -1 && low32 x then (0, false) else ((divS32 (o == 8) (wrap32 x) (wrap32 y)).1 % 4294967296, (divS32 (o == 8) (wrap32 x) (wrap32 y)).2))
  else if o == 7 || o == 9 then divU32 (o == 9) x y
  else (arith32 o x y, true)
def whole64 (o x y : Int) : Int × Bool :=
  if 22 ≤ o then (flagL (compareL (o - 22 + 18) x y), true) else if 16 ≤ o then (flagL (compareL o (wrap64 x) (wrap64 y)), true)
  else if isShiftL o then shiftT64 o x y
  else if o == 6 || o == 8 then (if wrap64 y == -1 && low64 x then (0, false) else (IntKind.u64.wrap (divS64 (o == 8) (wrap64 x) (wrap64 y)).1, (divS64 (o == 8) (wrap64 x) (wrap64 y)).2))
  else if o == 7 || o == 9 then divU64 (o == 9) x y
  else (arith64 o x y, true)
def turn32 (o x : Int) : Int := if o == 1 then -x % 4294967296 else bits BinOp.xor IntKind.u32 IntKind.u32.max x
def turn64 (o x : Int) : Int := if o == 1 then IntKind.u64.wrap (-x) else bits BinOp.xor IntKind.u64 IntKind.u64.max x

theorem divS32_any (b : Bool) (x y : Int)  (w : World) :
    Calls Try.prog 75 #[.bool b, .int .i32 x, .int .i32 y] w fun e w' => e = .returned (.tuple #[.int .i32 (divS32 b x y).1, .bool (divS32 b x y).2]) ∧ w = w' := by
  by_cases h0 : y = 0
  · subst h0
    go_enter Try.func75, Try.ntmps75
    go_wp2
    all_goals (go_returns; go_light; exact ⟨by simp [divS32], rfl⟩)
  · go_enter Try.func75, Try.ntmps75
    go_wp2
    all_goals (go_returns; go_light; exact ⟨by simp [divS32, *], rfl⟩)

theorem divS64_any (b : Bool) (x y : Int)  (w : World) :
    Calls Try.prog 82 #[.bool b, .int .i64 x, .int .i64 y] w fun e w' => e = .returned (.tuple #[.int .i64 (divS64 b x y).1, .bool (divS64 b x y).2]) ∧ w = w' := by
  by_cases h0 : y = 0
  · subst h0
    go_enter Try.func82, Try.ntmps82
    go_wp2
    all_goals (go_returns; go_light; exact ⟨by simp [divS64], rfl⟩)
  · go_enter Try.func82, Try.ntmps82
    go_wp2
    all_goals (go_returns; go_light; exact ⟨by simp [divS64, *], rfl⟩)

theorem divU32_any (b : Bool) (x y : Int) (hx : 0 ≤ x) (hy : 0 ≤ y) (w : World) :
    Calls Try.prog 76 #[.bool b, .int .u32 x, .int .u32 y] w fun e w' => e = .returned (.tuple #[.int .u32 (divU32 b x y).1, .bool (divU32 b x y).2]) ∧ w = w' := by
  by_cases h0 : y = 0
  · subst h0
    go_enter Try.func76, Try.ntmps76
    go_wp2
    all_goals (go_returns; go_light; exact ⟨by simp [divU32], rfl⟩)
  · have hy1 : 1 ≤ y := by omega
    go_enter Try.func76, Try.ntmps76
    go_wp2
    all_goals (go_returns; go_light; exact ⟨by simp [divU32, *], rfl⟩)

theorem divU64_any (b : Bool) (x y : Int) (hx : 0 ≤ x) (hy : 0 ≤ y) (w : World) :
    Calls Try.prog 83 #[.bool b, .int .u64 x, .int .u64 y] w fun e w' => e = .returned (.tuple #[.int .u64 (divU64 b x y).1, .bool (divU64 b x y).2]) ∧ w = w' := by
  by_cases h0 : y = 0
  · subst h0
    go_enter Try.func83, Try.ntmps83
    go_wp2
    all_goals (go_returns; go_light; exact ⟨by simp [divU64], rfl⟩)
  · have hy1 : 1 ≤ y := by omega
    go_enter Try.func83, Try.ntmps83
    go_wp2
    all_goals (go_returns; go_light; exact ⟨by simp [divU64, *], rfl⟩)

theorem shiftT32_any (o x y : Int) (hy : 0 ≤ y) (w : World) :
    Calls Try.prog 73 #[.int .i64 o, .int .u32 x, .int .u32 y] w fun e w' => e = .returned (.tuple #[.int .u32 (shiftT32 o x y).1, .bool (shiftT32 o x y).2]) ∧ w = w' := by
  by_cases h0 : 32 ≤ y
  · have h1 : ¬ y < 32 := by omega
    go_enter Try.func73, Try.ntmps73
    go_wp2_with (go_at_call 92; refine (width32_any _).mono ?_; rintro e w' ⟨rfl, rfl⟩)
    all_goals (go_returns; go_light; exact ⟨ret_pair (by simp (disch := omega) [shiftT32, if_neg]), rfl⟩)
  · have h1 : y < 32 := by omega
    go_enter Try.func73, Try.ntmps73
    go_wp2_with (go_at_call 92; refine (width32_any _).mono ?_; rintro e w' ⟨rfl, rfl⟩)
    all_goals (go_returns; go_light; exact ⟨by simp [shiftT32, shift32, *], rfl⟩)

theorem shiftT64_any (o x y : Int) (hy : 0 ≤ y) (w : World) :
    Calls Try.prog 80 #[.int .i64 o, .int .u64 x, .int .u64 y] w fun e w' => e = .returned (.tuple #[.int .u64 (shiftT64 o x y).1, .bool (shiftT64 o x y).2]) ∧ w = w' := by
  by_cases h0 : 64 ≤ y
  · have h1 : ¬ y < 64 := by omega
    go_enter Try.func80, Try.ntmps80
    go_wp2_with (go_at_call 93; refine (width64_any _).mono ?_; rintro e w' ⟨rfl, rfl⟩)
    all_goals (go_returns; go_light; exact ⟨ret_pair (by simp (disch := omega) [shiftT64, if_neg]), rfl⟩)
  · have h1 : y < 64 := by omega
    go_enter Try.func80, Try.ntmps80
    go_wp2_with (go_at_call 93; refine (width64_any _).mono ?_; rintro e w' ⟨rfl, rfl⟩)
    all_goals (go_returns; go_light; exact ⟨by simp [shiftT64, shift64, *], rfl⟩)

theorem turn32_any (o x : Int) (w : World) :
    Calls Try.prog 60 #[.int .i64 o, .int .u32 x] w fun e w' => e = .returned (.int .u32 (turn32 o x)) ∧ w = w' := by
  go_enter Try.func60, Try.ntmps60
  go_wp2
  all_goals first | (exfalso; revert ‹_ = true›; decide) | skip
  all_goals (go_returns; go_light; exact ⟨by simp [turn32, *], rfl⟩)

theorem turn64_any (o x : Int) (w : World) :
    Calls Try.prog 61 #[.int .i64 o, .int .u64 x] w fun e w' => e = .returned (.int .u64 (turn64 o x)) ∧ w = w' := by
  go_enter Try.func61, Try.ntmps61
  go_wp2
  all_goals first | (exfalso; revert ‹_ = true›; decide) | skip
  all_goals (go_returns; go_light; exact ⟨by simp [turn64, *], rfl⟩)

theorem low32_any (x : Int) (w : World) :
    Calls Try.prog 74 #[.int .u32 x] w fun e w' => e = .returned (.bool (low32 x)) ∧ w = w' := lowest32_any x w
theorem low64_any (x : Int) (w : World) :
    Calls Try.prog 81 #[.int .u64 x] w fun e w' => e = .returned (.bool (low64 x)) ∧ w = w' := lowest64_any x w
theorem whole32_any (o x y : Int) (ho : 1 ≤ o) (ho' : o ≤ 25) (hx : 0 ≤ x) (hy : 0 ≤ y) (w : World) :
    Calls Try.prog 56 #[.int .i64 o, .int .u32 x, .int .u32 y] w fun e w' => e = .returned (.tuple #[.int .u32 (whole32 o x y).1, .bool (whole32 o x y).2]) ∧ w = w' := by
  go_enter Try.func56, Try.ntmps56
  go_wp2_with (first | (go_at_call 70; refine (flag32_any _ _).mono ?_; rintro e w' ⟨rfl, rfl⟩) | (go_at_call 71; refine (compareU32_any _ _ _ _).mono ?_; rintro e w' ⟨rfl, rfl⟩) | (go_at_call 72; refine (compareI32_any _ _ _ _).mono ?_; rintro e w' ⟨rfl, rfl⟩) | (go_at_call 57; refine (isShift_any _ _).mono ?_; rintro e w' ⟨rfl, rfl⟩) | (go_at_call 73; refine (shiftT32_any _ _ _ hy _).mono ?_; rintro e w' ⟨rfl, rfl⟩) | (go_at_call 74; refine (low32_any _ _).mono ?_; rintro e w' ⟨rfl, rfl⟩) | (go_at_call 75; refine (divS32_any _ _ _ _).mono ?_; rintro e w' ⟨rfl, rfl⟩) | (go_at_call 76; refine (divU32_any _ _ _ hx hy _).mono ?_; rintro e w' ⟨rfl, rfl⟩) | (go_at_call 77; refine (arith32_any _ _ _ _).mono ?_; rintro e w' ⟨rfl, rfl⟩))
  all_goals (go_returns; go_light)
  all_goals exact ⟨ret_pair (by simp (disch := omega) [whole32, if_neg, *]), rfl⟩
theorem whole64_any (o x y : Int) (ho : 1 ≤ o) (ho' : o ≤ 25) (hx : 0 ≤ x) (hy : 0 ≤ y) (w : World) :
    Calls Try.prog 58 #[.int .i64 o, .int .u64 x, .int .u64 y] w fun e w' => e = .returned (.tuple #[.int .u64 (whole64 o x y).1, .bool (whole64 o x y).2]) ∧ w = w' := by
  go_enter Try.func58, Try.ntmps58
  go_wp2_with (first | (go_at_call 46; refine (flag64_any _ _).mono ?_; rintro e w' ⟨rfl, rfl⟩) | (go_at_call 78; refine (compareU64_any _ _ _ _).mono ?_; rintro e w' ⟨rfl, rfl⟩) | (go_at_call 79; refine (compareI64_any _ _ _ _).mono ?_; rintro e w' ⟨rfl, rfl⟩) | (go_at_call 57; refine (isShift_any _ _).mono ?_; rintro e w' ⟨rfl, rfl⟩) | (go_at_call 80; refine (shiftT64_any _ _ _ hy _).mono ?_; rintro e w' ⟨rfl, rfl⟩) | (go_at_call 81; refine (low64_any _ _).mono ?_; rintro e w' ⟨rfl, rfl⟩) | (go_at_call 82; refine (divS64_any _ _ _ _).mono ?_; rintro e w' ⟨rfl, rfl⟩) | (go_at_call 83; refine (divU64_any _ _ _ hx hy _).mono ?_; rintro e w' ⟨rfl, rfl⟩) | (go_at_call 84; refine (arith64_any _ _ _ _).mono ?_; rintro e w' ⟨rfl, rfl⟩))
  all_goals (go_returns; go_light)
  all_goals exact ⟨ret_pair (by simp (disch := omega) [whole64, if_neg, *]), rfl⟩
end Go.Proofs.Ytopnbdblgfjnpaa
