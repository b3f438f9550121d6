/- Doubles: what the calls that take them answer. -/
import Derived.Test.YtopnbdblgfjnpaaD
namespace Go.Proofs.Ytopnbdblgfjnpaa
set_option linter.unusedSimpArgs false
set_option linter.unusedVariables false
open Go.RowKit

theorem run_f64bits (x : Nat) (w : World) : (callFunc 64 #[.float .f64 x]).run Try.prog w = .ok (.value (.int .u64 x)) w := by
  rw [run_callFunc_standIn (fn := Try.f64) (e := Extern.MathFloatBits.float64bits) (by kernel_rfl) (by kernel_rfl) (by kernel_rfl) (by kernel_rfl) (by rfl)]
  rfl
theorem run_f64from (n : Int) (w : World) : (callFunc 59 #[.int .u64 n]).run Try.prog w = .ok (.value (.float .f64 n.toNat)) w := by
  rw [run_callFunc_standIn (fn := Try.f59) (e := Extern.MathFloatBits.float64frombits) (by kernel_rfl) (by kernel_rfl) (by kernel_rfl) (by kernel_rfl) (by rfl)]
  rfl
attribute [local go_sem ↓] run_f64bits run_f64from

def nanL (x : Nat) : Bool := FloatKind.f64.format.order x x != some Ordering.eq
def dblBitsL (x : Nat) : Int := if nanL x then 9221120237041090560 else x
theorem isNaN_any (x : Nat) (w : World) :
    Calls Try.prog 91 #[.float .f64 x] w fun e w' => e = .returned (.bool (nanL x)) ∧ w = w' := by
  go_enter Try.func91, Try.ntmps91
  go_wp2
  all_goals (go_returns; go_light; exact ⟨rfl, rfl⟩)
theorem doubleBits_any (x : Nat) (w : World) :
    Calls Try.prog 68 #[.float .f64 x] w fun e w' => e = .returned (.int .u64 (dblBitsL x)) ∧ w = w' := by
  go_enter Try.func68, Try.ntmps68
  go_wp2_with (go_at_call 91; refine (isNaN_any _ _).mono ?_; rintro e w' ⟨rfl, rfl⟩)
  all_goals (go_returns; go_light)
  all_goals exact ⟨by simp [dblBitsL, *], rfl⟩
def fcompareL (o : Int) (x y : Nat) : Bool :=
  if o == 16 then FloatKind.f64.format.order x y == some .eq else if o == 17 then FloatKind.f64.format.order x y != some .eq else if o == 18 then FloatKind.f64.format.order x y == some .lt
  else if o == 19 then FloatKind.f64.format.order x y == some .lt || FloatKind.f64.format.order x y == some .eq else if o == 20 then FloatKind.f64.format.order x y == some .gt
  else FloatKind.f64.format.order x y == some .gt || FloatKind.f64.format.order x y == some .eq
theorem compareF_any (o : Int) (x y : Nat) (w : World) :
    Calls Try.prog 69 #[.int .i64 o, .float .f64 x, .float .f64 y] w fun e w' => e = .returned (.bool (fcompareL o x y)) ∧ w = w' := by
  go_enter Try.func69, Try.ntmps69
  go_wp2
  all_goals (go_returns; go_light)
  all_goals exact ⟨by simp [fcompareL, *], rfl⟩

theorem read_nan (word : Nat) (h2 : 9218868437227405312 < word % 9223372036854775808) : ∃ s t, FloatKind.f64.format.read word = .nan s t := by
  have w1 : FloatKind.f64.format.signWeight = 9223372036854775808 := by decide
  have w2 : FloatKind.f64.format.binade = 4503599627370496 := by decide
  have w3 : FloatKind.f64.format.infRung = 9218868437227405312 := by decide
  unfold Ieee.Format.read
  rw [w1, w2, w3]
  have hb : 4503599627370496 ≤ word % 9223372036854775808 := by omega
  dsimp only
  rw [if_neg (Nat.not_lt.2 hb), if_neg (Nat.not_lt.2 (Nat.le_of_lt h2)), if_neg (Nat.ne_of_gt h2)]
  exact ⟨_, _, rfl⟩
theorem nan_cut (t : Nat) : nanL ((t % 2) * 2 ^ 63 + 0x7ff0000000000000 + 1 + (t / 2) % (2 ^ 52 - 1)) = true := by
  have hf : (t / 2) % (2 ^ 52 - 1) < 2 ^ 52 - 1 := Nat.mod_lt _ (by decide)
  have hs : t % 2 < 2 := Nat.mod_lt _ (by decide)
  generalize (t / 2) % (2 ^ 52 - 1) = f at *
  generalize t % 2 = s at *
  obtain ⟨a, u, h⟩ := read_nan (s * 2 ^ 63 + 0x7ff0000000000000 + 1 + f) (by omega)
  unfold nanL Ieee.Format.order
  rw [h]
  rfl
def farithL (op : BinOp) (x y : Nat) : Int := match floatBits op .f64 x y with | some r => dblBitsL r | none => 9221120237041090560
theorem run_farith (op : BinOp) (hop : op = .add ∨ op = .sub ∨ op = .mul ∨ op = .quo) (x y : Nat) (w : World) :
    ∃ r w', (binOp op 54 (.float .f64 x) (.float .f64 y)).run Try.prog w = .ok (.float .f64 r) w' ∧ dblBitsL r = farithL op x y ∧ Fresh w w' := by
  cases h : floatBits op .f64 x y with
  | some r => exact ⟨r, w, run_float_arith w op 54 .f64 x y r h, by simp [farithL, h], Fresh.refl _⟩
  | none =>
    have hn : ∃ r, (binOp op 54 (.float .f64 x) (.float .f64 y)).run Try.prog w = .ok (.float .f64 r) w.drew ∧ nanL r = true := by
      refine ⟨_, ?_, nan_cut (w.tape w.drawn (.nanBits .f64 x y))⟩
      unfold floatBits at h
      rcases hop with rfl | rfl | rfl | rfl <;> simp only at h <;> simp [binOp, Op.floatArith, h] <;> rfl
    obtain ⟨r, hr, hn⟩ := hn
    exact ⟨r, w.drew, hr, by simp [farithL, h, dblBitsL, hn], (Fresh.refl _).drew⟩
def doublesL (o x y : Int) : Int :=
  if o == 62 then farithL .add x.toNat y.toNat else if o == 63 then farithL .sub x.toNat y.toNat else if o == 64 then farithL .mul x.toNat y.toNat else if o == 65 then farithL .quo x.toNat y.toNat
  else flagL (fcompareL (o - 66 + 16) x.toNat y.toNat)
theorem doubles_any (o x y : Int) (ho : 62 ≤ o) (ho' : o ≤ 71) (w : World) :
    Calls Try.prog 55 #[.int .i64 o, .int .u64 x, .int .u64 y] w fun e w' => e = .returned (.int .u64 (doublesL o x y)) ∧ Fresh w w' := by
  obtain ⟨r1, w1, e1, d1, h1⟩ := run_farith .add (by simp) x.toNat y.toNat w
  obtain ⟨r2, w2, e2, d2, h2⟩ := run_farith .sub (by simp) x.toNat y.toNat w
  obtain ⟨r3, w3, e3, d3, h3⟩ := run_farith .mul (by simp) x.toNat y.toNat w
  obtain ⟨r4, w4, e4, d4, h4⟩ := run_farith .quo (by simp) x.toNat y.toNat w
  go_enter Try.func55, Try.ntmps55
  go_wp2_with (first | (go_at_call 68; refine (doubleBits_any _ _).mono ?_; rintro e w' ⟨rfl, rfl⟩) | (go_at_call 69; refine (compareF_any _ _ _ _).mono ?_; rintro e w' ⟨rfl, rfl⟩) | (go_at_call 46; refine (flag64_any _ _).mono ?_; rintro e w' ⟨rfl, rfl⟩))
  all_goals (go_returns; go_light)
  all_goals exact ⟨ret_int (by simp [doublesL, *]), by first | assumption | exact Fresh.refl _⟩
end Go.Proofs.Ytopnbdblgfjnpaa
