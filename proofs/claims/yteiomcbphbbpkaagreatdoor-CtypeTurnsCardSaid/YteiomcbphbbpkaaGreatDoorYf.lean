/- Doubles: what the calls that take them answer. -/
import Derived.Test.YteiomcbphbbpkaaGreatDoorYd
namespace Go.Proofs.YteiomcbphbbpkaaGreatDoor.mach
set_option linter.unusedSimpArgs false
set_option linter.unusedVariables false
open Go.RowKit

theorem run_f64bits (x : Nat) (w : World) : (callFunc 80 #[.float .f64 x]).run Tryz.prog w = .ok (.value (.int .u64 x)) w := by
  rw [run_callFunc_standIn (fn := Tryz.f80) (e := Extern.MathFloatBits.float64bits) (by kernel_rfl) (by kernel_rfl) (by kernel_rfl) (by kernel_rfl) (by rfl)]
  rfl
theorem run_f64from (n : Int) (w : World) : (callFunc 79 #[.int .u64 n]).run Tryz.prog w = .ok (.value (.float .f64 n.toNat)) w := by
  rw [run_callFunc_standIn (fn := Tryz.f79) (e := Extern.MathFloatBits.float64frombits) (by kernel_rfl) (by kernel_rfl) (by kernel_rfl) (by kernel_rfl) (by rfl)]
  rfl
attribute [local go_sem ↓] run_f64bits run_f64from

def nanL (x : Nat) : Bool := FloatKind.f64.format.order x x != some Ordering.eq
def dblBitsL (x : Nat) : Int := if nanL x then 9221120237041090560 else x
def fcompareL (o : Int) (x y : Nat) : Bool :=
  if o == 16 then FloatKind.f64.format.order x y == some .eq else if o == 17 then FloatKind.f64.format.order x y != some .eq else if o == 18 then FloatKind.f64.format.order x y == some .lt
  else if o == 19 then FloatKind.f64.format.order x y == some .lt || FloatKind.f64.format.order x y == some .eq else if o == 20 then FloatKind.f64.format.order x y == some .gt
  else FloatKind.f64.format.order x y == some .gt || FloatKind.f64.format.order x y == some .eq
theorem read_nan (word : Nat) (h2 : 9218868437227405312 < word % 9223372036854775808) : ∃ s t, FloatKind.f64.format.read word = .nan s t := by
  have w1 : FloatKind.f64.format.signWeight = 9223372036854775808 := by decide
  have w2 : FloatKind.f64.format.binade = 4503599627370496 := by decide
  have w3 : FloatKind.f64.format.infRung = 9218868437227405312 := by decide
  unfold Ieee.Format.read
  rw [w1, w2, w3]
  have hb : 4503599627370496 ≤ word % 9223372036854775808 := by omega
  dsimp only
  rw [if_neg (Nat.not_lt.2 hb), if_neg (Nat.not_lt.2 (Nat.le_of_lt h2)), if_neg (Nat.ne_of_gt h2)]
  exact ⟨_, _, rfl⟩
theorem nan_cut (t : Nat) : nanL ((t % 2) * 2 ^ 63 + 0x7ff0000000000000 + 1 + (t / 2) % (2 ^ 52 - 1)) = true := by
  have hf : (t / 2) % (2 ^ 52 - 1) < 2 ^ 52 - 1 := Nat.mod_lt _ (by decide)
  have hs : t % 2 < 2 := Nat.mod_lt _ (by decide)
  generalize (t / 2) % (2 ^ 52 - 1) = f at *
  generalize t % 2 = s at *
  obtain ⟨a, u, h⟩ := read_nan (s * 2 ^ 63 + 0x7ff0000000000000 + 1 + f) (by omega)
  unfold nanL Ieee.Format.order
  rw [h]
  rfl
def farithL (op : BinOp) (x y : Nat) : Int := match floatBits op .f64 x y with | some r => dblBitsL r | none => 9221120237041090560
theorem run_farith (op : BinOp) (hop : op = .add ∨ op = .sub ∨ op = .mul ∨ op = .quo) (x y : Nat) (w : World) :
    ∃ r w', (binOp op 139 (.float .f64 x) (.float .f64 y)).run Tryz.prog w = .ok (.float .f64 r) w' ∧ dblBitsL r = farithL op x y ∧ Fresh w w' := by
  cases h : floatBits op .f64 x y with
  | some r => exact ⟨r, w, run_float_arith w op 139 .f64 x y r h, by simp [farithL, h], Fresh.refl _⟩
  | none =>
    have hn : ∃ r, (binOp op 139 (.float .f64 x) (.float .f64 y)).run Tryz.prog w = .ok (.float .f64 r) w.drew ∧ nanL r = true := by
      refine ⟨_, ?_, nan_cut (w.tape w.drawn (.nanBits .f64 x y))⟩
      unfold floatBits at h
      rcases hop with rfl | rfl | rfl | rfl <;> simp only at h <;> simp [binOp, Op.floatArith, h] <;> rfl
    obtain ⟨r, hr, hn⟩ := hn
    exact ⟨r, w.drew, hr, by simp [farithL, h, dblBitsL, hn], (Fresh.refl _).drew⟩
def doublesL (o x y : Int) : Int :=
  if o == 62 then farithL .add x.toNat y.toNat else if o == 63 then farithL .sub x.toNat y.toNat else if o == 64 then farithL .mul x.toNat y.toNat else if o == 65 then farithL .quo x.toNat y.toNat
  else flagL (fcompareL (o - 66 + 16) x.toNat y.toNat)
end Go.Proofs.YteiomcbphbbpkaaGreatDoor.mach
