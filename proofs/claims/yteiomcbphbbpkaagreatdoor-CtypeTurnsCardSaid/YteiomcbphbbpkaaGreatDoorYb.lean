/- What the calls of mach on whole numbers of either width answer, and the shapes of the operations. Each is a contract of the call. -/
import Derived.Test.YteiomcbphbbpkaaGreatDoorYa
namespace Go.Proofs.YteiomcbphbbpkaaGreatDoor.mach
set_option linter.unusedSimpArgs false
set_option linter.unusedVariables false
open Go.RowKit

def divS32 (b : Bool) (x y : Int) : Int × Bool := if y == 0 then (0, false) else if b then (x.tmod y, true) else (wrap32 (x.tdiv y), true)
def divS64 (b : Bool) (x y : Int) : Int × Bool := if y == 0 then (0, false) else if b then (x.tmod y, true) else (wrap64 (x.tdiv y), true)
def divU32 (b : Bool) (x y : Int) : Int × Bool := if y == 0 then (0, false) else if b then (x % y, true) else (x.tdiv y % 4294967296, true)
def divU64 (b : Bool) (x y : Int) : Int × Bool := if y == 0 then (0, false) else if b then (x % y, true) else (IntKind.u64.wrap (x.tdiv y), true)
def shiftT32 (o x y : Int) : Int × Bool := if y < 32 then (shift32 o x y, true) else (0, false)
def shiftT64 (o x y : Int) : Int × Bool := if y < 64 then (shift64 o x y, true) else (0, false)
def low32 (x : Int) : Bool := x != 0 && x == -x % 4294967296
def low64 (x : Int) : Bool := x != 0 && x == IntKind.u64.wrap (-x)
def whole32 (o x y : Int) : Int × Bool :=
  if 22 ≤ o then (flagL (compareL (o - 22 + 18) x y), true) else if 16 ≤ o then (flagL (compareL o (wrap32 x) (wrap32 y)), true)
  else if isShiftL o then shiftT32 o x y
  else if o == 6 || o == 8 then (if wrap32 y == -1 && low32 x then (0, false) else ((divS32 (o == 8) (wrap32 x) (wrap32 y)).1 % 4294967296, (divS32 (o == 8) (wrap32 x) (wrap32 y)).2))
  else if o == 7 || o == 9 then divU32 (o == 9) x y
  else (arith32 o x y, true)
def whole64 (o x y : Int) : Int × Bool :=
  if 22 ≤ o then (flagL (compareL (o - 22 + 18) x y), true) else if 16 ≤ o then (flagL (compareL o (wrap64 x) (wrap64 y)), true)
  else if isShiftL o then shiftT64 o x y
  else if o == 6 || o == 8 then (if wrap64 y == -1 && low64 x then (0, false) else (IntKind.u64.wrap (divS64 (o == 8) (wrap64 x) (wrap64 y)).1, (divS64 (o == 8) (wrap64 x) (wrap64 y)).2))
  else if o == 7 || o == 9 then divU64 (o == 9) x y
  else (arith64 o x y, true)
def turn32 (o x : Int) : Int := if o == 1 then -x % 4294967296 else bits BinOp.xor IntKind.u32 IntKind.u32.max x
def turn64 (o x : Int) : Int := if o == 1 then IntKind.u64.wrap (-x) else bits BinOp.xor IntKind.u64 IntKind.u64.max x

theorem turn32_any (o x : Int) (w : World) :
    Calls Tryz.prog 75 #[.int .i64 o, .int .u32 x] w fun e w' => e = .returned (.int .u32 (turn32 o x)) ∧ w = w' := by
  go_enter Tryz.func75, Tryz.ntmps75
  go_wp2
  all_goals first | (exfalso; revert ‹_ = true›; decide) | skip
  all_goals (go_returns; go_light; exact ⟨by simp [turn32, *], rfl⟩)

theorem turn64_any (o x : Int) (w : World) :
    Calls Tryz.prog 76 #[.int .i64 o, .int .u64 x] w fun e w' => e = .returned (.int .u64 (turn64 o x)) ∧ w = w' := by
  go_enter Tryz.func76, Tryz.ntmps76
  go_wp2
  all_goals first | (exfalso; revert ‹_ = true›; decide) | skip
  all_goals (go_returns; go_light; exact ⟨by simp [turn64, *], rfl⟩)

end Go.Proofs.YteiomcbphbbpkaaGreatDoor.mach
