/- The calls whose answers the document fixes: they are answered so. -/
import Derived.Test.YtopnbdblgfjnpaaH
import Derived.Deep.RegionHeld3
namespace Go.Proofs.Ytopnbdblgfjnpaa
set_option linter.unusedSimpArgs false
set_option linter.unusedVariables false
open Go.RowKit

theorem int_lit (n m : Int) (h : n % 4294967296 = m) (w : World) :
    Calls Try.prog 28 #[.int .i32 n] w fun e w' => e = .returned (.agg #[.int .i64 1, .int .u64 m, .int .i64 0]) ∧ Fresh w w' := by
  subst h; exact int_any n w
theorem long_lit (n m : Int) (h : IntKind.u64.wrap n = m) (w : World) :
    Calls Try.prog 26 #[.int .i64 n] w fun e w' => e = .returned (.agg #[.int .i64 2, .int .u64 m, .int .i64 0]) ∧ Fresh w w' := by
  subst h; exact long_any n w
theorem ptr_lit (b o x y z : Int) (h : ptrL b o = (x, y, z)) (w : World) :
    Calls Try.prog 30 #[.int .i64 b, .int .i64 o] w fun e w' => e = .returned (.agg #[.int .i64 x, .int .u64 y, .int .i64 z]) ∧ Fresh w w' := by
  have := ptr_any b o w
  rw [h] at this
  exact this
theorem eval2_lit (o k n b k' n' b' x y z : Int) (c : Bool) (hn : 0 ≤ n) (hn' : 0 ≤ n') (h : eval2L o k n b k' n' b' = ((x, y, z), c)) (w : World) :
    Calls Try.prog 11 #[.int .i64 o, .agg #[.int .i64 k, .int .u64 n, .int .i64 b], .agg #[.int .i64 k', .int .u64 n', .int .i64 b']] w fun e w' => e = .returned (.tuple #[.agg #[.int .i64 x, .int .u64 y, .int .i64 z], .bool c]) ∧ Fresh w w' := by
  have := eval2_any o k n b k' n' b' hn hn' w
  rw [h] at this
  exact this
theorem shape_lit (o a b c : Int) (h : shapeL o = (a, b, c)) (w : World) :
    Calls Try.prog 20 #[.int .i64 o] w fun e w' => e = .returned (.tuple #[.int .i64 a, .int .i64 b, .int .i64 c]) ∧ w = w' := by
  have := shape_any o w
  rw [h] at this
  exact this
theorem size8_any (w : World) : Calls Try.prog 22 #[.int .i64 6] w fun e w' => e = .returned (.int .i64 8) ∧ w = w' := by
  go_enter Try.func22, Try.ntmps22
  go_wp2
  all_goals (go_returns; exact ⟨rfl, rfl⟩)
theorem Fresh.cellOf {W w1 : World} (h : Fresh W w1) {B i : Nat} (hB : B < W.heap.size) {v : Option Value} (hv : W.cell? ⟨B, i, none⟩ = v) : w1.cell? ⟨B, i, none⟩ = v := by rw [h.cells.1 B i hB, hv]
/-- A value that stands in a block of the call's own. -/
structure Own (w : World) (B : Nat) (k n b : Int) : Prop where
  size : B < w.heap.size
  c0 : w.cell? ⟨B, 0, none⟩ = some (.int .i64 k)
  c1 : w.cell? ⟨B, 1, none⟩ = some (.int .u64 n)
  c2 : w.cell? ⟨B, 2, none⟩ = some (.int .i64 b)
theorem Own.later {W w1 : World} {B : Nat} {k n b : Int} (h : Own W B k n b) (hf : Fresh W w1) : Own w1 B k n b :=
  ⟨hf.z h.size, hf.cellOf h.size h.c0, hf.cellOf h.size h.c1, hf.cellOf h.size h.c2⟩
theorem Own.drew {w : World} {B : Nat} {k n b : Int} (h : Own w B k n b) : Own w.drew B k n b := h.later (Fresh.refl w).drew
theorem Own.new (w : World) (k n b : Int) : Own (w.alloc (.cells #[.int .i64 k, .int .u64 n, .int .i64 b] 24)) w.heap.size k n b :=
  ⟨by simp, by simp [go_sem], by simp [go_sem], by simp [go_sem]⟩

set_option maxRecDepth 100000 in
set_option maxHeartbeats 4000000 in
theorem fixed_any (w : World) :
    Calls Try.prog 10 #[] w fun e w' => e = .returned (.bool true) ∧ Fresh w w' := by
  go_enter Try.func10, Try.ntmps10
  go_wp2_with fail
  go_at_call 28; refine (int_lit _ 2147483647 (by decide) _).mono ?_; rintro e w1 ⟨rfl, h1⟩
  go_wp2_with fail
  go_at_call 28; refine (int_lit _ 1 (by decide) _).mono ?_; rintro e w2 ⟨rfl, h2⟩
  go_wp2_with fail
  go_at_call 11; refine (eval2_lit _ _ _ _ _ _ _ 1 2147483648 0 true (by decide) (by decide) (by decide) _).mono ?_; rintro e w3 ⟨rfl, h3⟩
  go_wp2_with fail
  have o1 := Own.new w3 1 2147483648 0
  have f1 : Fresh w (w3.alloc (.cells #[.int .i64 1, .int .u64 2147483648, .int .i64 0] 24)) := ((h1.trans h2).trans h3).alloc _ _
  go_at_call 28; refine (int_lit _ 4294967289 (by decide) _).mono ?_; rintro e w4 ⟨rfl, h4⟩
  go_wp2_with fail
  go_at_call 28; refine (int_lit _ 2 (by decide) _).mono ?_; rintro e w5 ⟨rfl, h5⟩
  go_wp2_with fail
  go_at_call 11; refine (eval2_lit _ _ _ _ _ _ _ 1 4294967293 0 true (by decide) (by decide) (by decide +kernel) _).mono ?_; rintro e w6 ⟨rfl, h6⟩
  go_wp2_with fail
  have f6 := (((f1.trans h4).trans h5).trans h6)
  have p6 := ((o1.later h4).later h5).later h6
  have o2 := Own.new w6 1 4294967293 0
  have f2 := f6.alloc #[.int .i64 1, .int .u64 4294967293, .int .i64 0] 24
  have p2 := p6.later ((Fresh.refl w6).alloc #[.int .i64 1, .int .u64 4294967293, .int .i64 0] 24)
  clear f6 p6 f1 o1
  go_at_call 28; refine (int_lit _ 1 (by decide) _).mono ?_; rintro e w7 ⟨rfl, h7⟩
  go_wp2_with fail
  go_at_call 28; refine (int_lit _ 32 (by decide) _).mono ?_; rintro e w8 ⟨rfl, h8⟩
  go_wp2_with fail
  go_at_call 11; refine (eval2_lit _ _ _ _ _ _ _ 0 0 0 false (by decide) (by decide) (by decide) _).mono ?_; rintro e w9 ⟨rfl, h9⟩
  go_wp2_with fail
  have f9 := ((((f2.trans h7).trans h8).trans h9).alloc #[.int .i64 0, .int .u64 0, .int .i64 0] 24)
  have q1 := (((p2.later h7).later h8).later h9).later ((Fresh.refl w9).alloc #[.int .i64 0, .int .u64 0, .int .i64 0] 24)
  have q2 := (((o2.later h7).later h8).later h9).later ((Fresh.refl w9).alloc #[.int .i64 0, .int .u64 0, .int .i64 0] 24)
  clear f2 p2 o2
  go_at_call 30; refine (ptr_lit _ _ 4 16 3 (by decide) _).mono ?_; rintro e w10 ⟨rfl, h10⟩
  go_wp2_with fail
  go_at_call 30; refine (ptr_lit _ _ 4 4 3 (by decide) _).mono ?_; rintro e w11 ⟨rfl, h11⟩
  go_wp2_with fail
  go_at_call 11; refine (eval2_lit _ _ _ _ _ _ _ 2 12 0 true (by decide) (by decide) (by decide +kernel) _).mono ?_; rintro e w12 ⟨rfl, h12⟩
  go_wp2_with fail
  have f12 := ((((f9.trans h10).trans h11).trans h12).alloc #[.int .i64 2, .int .u64 12, .int .i64 0] 24)
  have r1 := (((q1.later h10).later h11).later h12).later ((Fresh.refl w12).alloc #[.int .i64 2, .int .u64 12, .int .i64 0] 24)
  have r2 := (((q2.later h10).later h11).later h12).later ((Fresh.refl w12).alloc #[.int .i64 2, .int .u64 12, .int .i64 0] 24)
  have r3 := Own.new w12 2 12 0
  clear f9 q1 q2
  go_at_call 20; refine (shape_lit _ 3 0 2 (by decide) _).mono ?_; rintro e w' ⟨rfl, rfl⟩
  go_wp2_with fail
  clear h1 h2 h3 h4 h5 h6 h7 h8 h9 h10 h11 h12
  generalize w12.alloc (.cells #[.int .i64 2, .int .u64 12, .int .i64 0] 24) = W at *
  generalize w3.heap.size = B1 at *
  generalize w6.heap.size = B2 at *
  generalize w12.heap.size = B3 at *
  have r1 := r1.drew
  have r2 := r2.drew
  have r3 := r3.drew
  go_region_held3 (fun w' => w'.cell? ⟨B1, 0, none⟩ = some (.int .i64 1) ∧ w'.cell? ⟨B1, 1, none⟩ = some (.int .u64 2147483648) ∧ w'.cell? ⟨B1, 2, none⟩ = some (.int .i64 0) ∧
      w'.cell? ⟨B2, 0, none⟩ = some (.int .i64 1) ∧ w'.cell? ⟨B2, 1, none⟩ = some (.int .u64 4294967293) ∧ w'.cell? ⟨B2, 2, none⟩ = some (.int .i64 0) ∧
      w'.cell? ⟨B3, 0, none⟩ = some (.int .i64 2) ∧ w'.cell? ⟨B3, 1, none⟩ = some (.int .u64 12) ∧ w'.cell? ⟨B3, 2, none⟩ = some (.int .i64 0))
    (exact ⟨r1.c0, r1.c1, r1.c2, r2.c0, r2.c1, r2.c2, r3.c0, r3.c1, r3.c2⟩)
    (first
      | (go_at_call 28; refine (int_lit _ 2147483648 (by decide) _).mono ?_; rintro e w1 ⟨rfl, h1⟩; have r1 := r1.later h1; have r2 := r2.later h1; have r3 := r3.later h1)
      | (go_at_call 28; refine (int_lit _ 4294967293 (by decide) _).mono ?_; rintro e w1 ⟨rfl, h1⟩; have r1 := r1.later h1; have r2 := r2.later h1; have r3 := r3.later h1)
      | (go_at_call 26; refine (long_lit _ 12 (by decide) _).mono ?_; rintro e w1 ⟨rfl, h1⟩; have r1 := r1.later h1; have r2 := r2.later h1; have r3 := r3.later h1)
      | (go_at_call 22; refine (size8_any _).mono ?_; rintro e w' ⟨rfl, rfl⟩))
  all_goals (try go_wp2)
  all_goals go_light
  all_goals go_returns
  all_goals exact ⟨rfl, by (repeat' first | with_reducible exact Fresh.refl _ | with_reducible assumption | with_reducible refine Fresh.alloc ?_ _ _ | with_reducible refine Fresh.drew ?_ | with_reducible refine Fresh.setCell ?_ ?_ _ | with_reducible refine Fresh.trans ?_ (by assumption) | (simp; done) | (simp; omega))⟩
end Go.Proofs.Ytopnbdblgfjnpaa
