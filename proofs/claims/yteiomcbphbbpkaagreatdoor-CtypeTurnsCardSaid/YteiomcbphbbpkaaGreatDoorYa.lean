/- What the calls of mach that leave memory alone answer: the tables, and the operations of whole numbers of either width. Each is a contract of the call, for whatever arguments. -/
import Derived.Test.YteiomcbphbbpkaaGreatDoorCa
import Derived.Handy
import Derived.WalkLawsBesides
import Derived.WalkSpells
import Derived.Deep.Light
namespace Go.Proofs.YteiomcbphbbpkaaGreatDoor.mach
set_option linter.unusedSimpArgs false
set_option linter.unusedVariables false
open Go.RowKit

theorem ret_pair {k : IntKind} {a : Int} {c : Bool} {p : Int × Bool} (h : p = (a, c)) : Ending.returned (.tuple #[.int k a, .bool c]) = Ending.returned (.tuple #[.int k p.1, .bool p.2]) := by rw [h]
theorem ret_int {k : IntKind} {a b : Int} (h : b = a) : Ending.returned (.int k a) = Ending.returned (.int k b) := by rw [h]
theorem ret_bool {a b : Bool} (h : b = a) : Ending.returned (.bool a) = Ending.returned (.bool b) := by rw [h]
def isShiftL (o : Int) : Bool := o == 13 || o == 14 || o == 15
def compareL (o x y : Int) : Bool :=
  if o == 16 then x == y else if o == 17 then x != y else if o == 18 then decide (x < y) else if o == 19 then decide (x ≤ y) else if o == 20 then decide (y < x) else decide (y ≤ x)
def flagL (b : Bool) : Int := if b then 1 else 0
def arith32 (o x y : Int) : Int :=
  if o == 3 then (x + y) % 4294967296 else if o == 4 then (x - y) % 4294967296 else if o == 5 then x * y % 4294967296 else if o == 10 then bits BinOp.and IntKind.u32 x y else if o == 11 then bits BinOp.or IntKind.u32 x y else bits BinOp.xor IntKind.u32 x y
def arith64 (o x y : Int) : Int :=
  if o == 3 then IntKind.u64.wrap (x + y) else if o == 4 then IntKind.u64.wrap (x - y) else if o == 5 then IntKind.u64.wrap (x * y) else if o == 10 then bits BinOp.and IntKind.u64 x y else if o == 11 then bits BinOp.or IntKind.u64 x y else bits BinOp.xor IntKind.u64 x y
def shift32 (o x y : Int) : Int :=
  if o == 13 then x * 2 ^ y.toNat % 4294967296 else if o == 14 then wrap32 x / 2 ^ y.toNat % 4294967296 else x / 2 ^ y.toNat
def shift64 (o x y : Int) : Int :=
  if o == 13 then IntKind.u64.wrap (x * 2 ^ y.toNat) else if o == 14 then IntKind.u64.wrap (wrap64 x / 2 ^ y.toNat) else x / 2 ^ y.toNat
def extendL (o x : Int) : Int :=
  if o == 80 then IntKind.i8.wrap x % 4294967296 else if o == 81 then x % 256 else if o == 82 then IntKind.i16.wrap x % 4294967296 else if o == 83 then IntKind.u64.wrap (IntKind.u16.wrap x) else if o == 84 then IntKind.u64.wrap (wrap32 x) else x % 4294967296

theorem flag64_any (b : Bool) (w : World) :
    Calls Tryz.prog 51 #[.bool b] w fun e w' => e = .returned (.int .u64 (flagL b)) ∧ w = w' := by
  cases b <;>
  · go_enter Tryz.func51, Tryz.ntmps51
    go_wp2
    all_goals (go_returns; exact ⟨by simp [flagL], rfl⟩)
theorem isShift_any (o : Int) (w : World) :
    Calls Tryz.prog 88 #[.int .i64 o] w fun e w' => e = .returned (.bool (isShiftL o)) ∧ w = w' := by
  go_enter Tryz.func88, Tryz.ntmps88
  go_wp2
  all_goals (go_returns; go_light; exact ⟨by simp [isShiftL, *], rfl⟩)
theorem extend_any (o x : Int) (w : World) :
    Calls Tryz.prog 82 #[.int .i64 o, .int .u64 x] w fun e w' => e = .returned (.int .u64 (extendL o x)) ∧ w = w' := by
  go_enter Tryz.func82, Tryz.ntmps82
  go_wp2
  all_goals (go_returns; go_light; exact ⟨by simp [extendL, *], rfl⟩)
end Go.Proofs.YteiomcbphbbpkaaGreatDoor.mach
