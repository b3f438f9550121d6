/- LexAhead's function: there is an error in the second text. -/
import Derived.Test.YtcmfmfgedhfaeaaGreatDoorNd
import Derived.Deep.QuietTactic
import Derived.BigQuiet
import Derived.IntWalk
namespace Go.Proofs.YtcmfmfgedhfaeaaGreatDoor
set_option linter.unusedSimpArgs false
set_option linter.unusedVariables false
open Go.RowKit

set_option maxRecDepth 100000 in
set_option maxHeartbeats 8000000 in
theorem ahead_err (a b : ByteArray) (la : List Tk) (n : Nat) (le ce lb cb x : Int) (ha : tokensF a = .ok la) (hn : la.length = n + 1) (hlast : la[n]? = some (endT le ce)) (hb : tokensF b = .err lb cb x) (hab : tokensF ((a ++ ⟨#[10]⟩) ++ b) = .err (lb + le) cb x)
    (hx : (x == 0) = false) (hx2 : (x != 0) = true) (hx3 : ¬ x = 0) (hgt : le < lb + le) (hsm : (a.size : Int) + (b.size : Int) < 1048576) (hn2 : n < 4000000) (w : World) (hT : Tabs w) : Calls Tryz.prog 6 #[.string a, .string b] w fun e w' => e = .returned (.bool true) ∧ Fresh w w' := by
  have HT := Lib.hid hT
  have HA : Hid (∀ X, Tabs X → Calls Tryz.prog 8 #[.string a] X fun e w' => (∃ g cap, e = .returned (.tuple #[.slice (some ⟨g, 0, none⟩) (n + 1) cap, .agg #[.int .i64 0, .int .i64 0], .int .i64 0]) ∧ RowT w' g la) ∧ Fresh X w') := Lib.hid (fun X hX => by
    have := tok_ok a la ha (by intro h; rw [h] at hn; simp at hn) X hX
    rw [hn] at this
    exact this)
  have HB := Lib.hid hb
  have HAB := Lib.hid hab
  have HL := Lib.hid hlast
  obtain ⟨A, hA⟩ : ∃ A : Int, (a.size : Int) = A := ⟨_, rfl⟩
  obtain ⟨B, hB⟩ : ∃ B : Int, (b.size : Int) = B := ⟨_, rfl⟩
  have HS : Hid (0 ≤ A ∧ 0 ≤ B ∧ A + B < 1048576) := Lib.hid (by omega)
  have A0 : 0 ≤ A := HS.out.1
  have B0 : 0 ≤ B := HS.out.2.1
  have h1 : A + B ≤ 9223372036854775807 := by have := HS.out; omega
  have s3 : A + B < 1048576 := HS.out.2.2
  have HN2 := Lib.hid hn2
  have HGT := Lib.hid hgt
  have HX1 := Lib.hid hx
  have HX2 := Lib.hid hx2
  have HX3 := Lib.hid hx3
  clear hsm hn2 hgt hx hx2 hx3
  have h1 : (a.size : Int) + (b.size : Int) ≤ 9223372036854775807 := by have := HS.out; omega
  have s3 : decide ((1048576 : Int) ≤ (a.size : Int) + (b.size : Int)) = false := by have := HS.out; simp; omega
  have s3b : decide (1048576 ≤ a.size + b.size) = false := by have := HS.out; simp; omega
  clear hT ha hb hab hlast hn
  go_enter Tryz.func6, Tryz.ntmps6
  go_wp2_with fail
  go_at_call 7; refine (fixed_any _ HT.out).mono ?_; rintro e w1 ⟨rfl, f1⟩
  have F1 := Lib.hid f1
  clear f1
  go_wp2_with fail
  go_at_call 8; refine (HA.out _ (HT.out.fresh F1.out)).mono ?_; rintro e w2 ⟨⟨g, cap, rfl, hrow⟩, f2⟩
  have F2 := Lib.hid (F1.out.trans f2)
  have R2 := Lib.hid hrow
  clear f2 hrow
  go_upto_region 4 with fail
  have F3 := Lib.hid (F2.out.alloc #[.int .i64 0, .int .i64 0] 25)
  have R3 := Lib.hid (R2.out.fresh ((Fresh.refl w2).alloc #[.int .i64 0, .int .i64 0] 25))
  clear F2 R2
  generalize w2.alloc (.cells #[.int .i64 0, .int .i64 0] 25) = w3 at *
  go_wp2_with fail
  go_at_call 8; refine (tok_err b lb cb x HB.out _ (HT.out.fresh F3.out)).mono ?_; rintro e w4 ⟨rfl, f4⟩
  have F4 := Lib.hid (F3.out.trans f4)
  have R4 := Lib.hid (R3.out.fresh f4)
  clear f4 F3 R3
  go_upto_region 5 with fail
  have F5 := Lib.hid (F4.out.alloc #[.int .i64 lb, .int .i64 cb] 25)
  have R5 := Lib.hid (R4.out.fresh ((Fresh.refl w4).alloc #[.int .i64 lb, .int .i64 cb] 25))
  clear F4 R4
  generalize w4.alloc (.cells #[.int .i64 lb, .int .i64 cb] 25) = w5 at *
  go_upto_region 5 with fail
  go_upto_region 6 with fail
  have hx := HX1.out
  have hx2 := HX2.out
  have hx3 := HX3.out
  go_upto_region 7 with fail
  clear h1 s3
  have s1 : ¬ 9223372036854775807 < A + 1 := by have := HS.out; omega
  have s2 : ¬ 9223372036854775807 < A + 1 + B := by have := HS.out; omega
  go_wp2_with fail
  go_at_call 8; refine (tok_err _ _ cb x HAB.out _ (HT.out.fresh F5.out)).mono ?_; rintro e w6 ⟨rfl, f6⟩
  have F6 := Lib.hid (F5.out.trans f6)
  have R6 := Lib.hid (R5.out.fresh f6)
  clear f6 F5 R5
  go_upto_region 8 with fail
  have F7 := Lib.hid (F6.out.alloc #[.int .i64 (lb + le), .int .i64 cb] 25)
  have R7 := Lib.hid (R6.out.fresh ((Fresh.refl w6).alloc #[.int .i64 (lb + le), .int .i64 cb] 25))
  have B7 : Hid (Blk (w6.alloc (.cells #[.int .i64 (lb + le), .int .i64 cb] 25)) w6.heap.size [.int .i64 (lb + le), .int .i64 cb]) := Lib.hid (Blk.new w6 _ _)
  clear F6 R6
  generalize w6.alloc (.cells #[.int .i64 (lb + le), .int .i64 cb] 25) = w7 at *
  generalize w6.heap.size = p7 at *
  have hgt := HGT.out
  have c0 := B7.out.1 0 _ rfl
  have c1 := (R7.out n _ HL.out).2.1
  simp only [endT] at c1
  go_upto_region 9 with fail
  have hw1 : IntKind.i64.wrap ((n : Int) + 1 - 1) = (n : Int) := IntWalk.i64_in _ (by have := HN2.out; omega) |>.trans (by omega)
  have hw2 : IntKind.i64.wrap (n : Int) = (n : Int) := IntWalk.i64_in _ (by have := HN2.out; omega)
  have i1 : (n : Int) < (n : Int) + 1 := by omega
  have i0 : 0 ≤ (n : Int) := by omega
  go_quiet (fail)
  go_wp2_with fail
  go_ret
  exact ⟨rfl, F7.out.drewN _⟩
end Go.Proofs.YtcmfmfgedhfaeaaGreatDoor
