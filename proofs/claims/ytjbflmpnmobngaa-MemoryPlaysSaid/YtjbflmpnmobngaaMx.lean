/- Pointers of unlike blocks that are in them; a memory beside values of the caller's own. -/
import Derived.Test.YtjbflmpnmobngaaMw
import Derived.Deep.DeepFit
namespace Go.Proofs.Ytjbflmpnmobngaa
set_option linter.unusedSimpArgs false
set_option linter.unusedVariables false
open Go.RowKit

variable {w w' : World} {M T mb N : Nat} {L : Nat → Prop} {made : Int} {S : Int → Option BS} {f : Int → Option Nat} {o : Int → Nat → Prop}
theorem in_mem (h : Mem w M T L made S) (n b : Int) (hb : Key b) (s : BS) (hs : S b = some s) (h0 : 0 ≤ wrap64 n) (h1 : wrap64 n < s.sz) :
    Calls Try.prog 49 #[.pointer (some ⟨M, 0, none⟩), .agg #[.int .i64 4, .int .u64 n, .int .i64 b]] w fun e w' => e = .returned (.bool true) ∧ Fresh w w' := by
  obtain ⟨mb, N, f, o, h⟩ := h
  cases hB : f b with
  | none => have := h.non b hB; rw [hs] at this; cases this
  | some B =>
    obtain ⟨s', hs', hBlk⟩ := h.som b B hB
    obtain rfl : s = s' := by rw [hs] at hs'; injection hs'
    exact in_ok M mb N (blkV f) 4 n b hb B s.sz (atL_some hB) h0 h1 w h.rep.mm hBlk.c0.1
theorem isEq46 (w : World) : Calls Try.prog 48 #[.int .i64 46] w fun e w' => e = .returned (.bool true) ∧ w = w' := isEq_any 46 w
/-- What 'in' answers of an address, whatever the world is then. -/
def Inside (M : Nat) (n b : Int) (w : World) : Prop := ∀ w1, Fresh w w1 → Calls Try.prog 49 #[.pointer (some ⟨M, 0, none⟩), .agg #[.int .i64 4, .int .u64 n, .int .i64 b]] w1 fun e w' => e = .returned (.bool true) ∧ Fresh w1 w'
theorem Inside.at' {n b : Int} (h : Inside M n b w) {w1 : World} (hf : Fresh w w1) : Calls Try.prog 49 #[.pointer (some ⟨M, 0, none⟩), .agg #[.int .i64 4, .int .u64 n, .int .i64 b]] w1 fun e w' => e = .returned (.bool true) ∧ Fresh w1 w' := h w1 hf
theorem int_f (n m : Int) (h : n % 4294967296 = m) (w : World) :
    Calls Try.prog 24 #[.int .i32 n] w fun e w' => e = .returned (.agg #[.int .i64 1, .int .u64 m, .int .i64 0]) ∧ Fresh w w' := by
  subst h
  refine (int_x n w).mono ?_
  rintro e w' ⟨he, rfl⟩
  exact ⟨he, (Fresh.refl _).alloc _ _⟩
theorem eval_apart (n b n' b' : Int) (hi : Inside M n b w) (hi' : Inside M n' b' w) (hbb : (b != b') = true) :
    Calls Try.prog 19 #[.pointer (some ⟨M, 0, none⟩), .int .i64 46, .agg #[.int .i64 4, .int .u64 n, .int .i64 b], .agg #[.int .i64 4, .int .u64 n', .int .i64 b']] w fun e w' => e = .returned (.tuple #[.agg #[.int .i64 1, .int .u64 0, .int .i64 0], .bool true]) ∧ Fresh w w' := by
  have HI := Lib.hid hi
  have HJ := Lib.hid hi'
  clear hi hi'
  go_enter Try.func19, Try.ntmps19
  go_wp2_with (first | (go_at_call 48; refine (isEq46 _).mono ?_; rintro e w' ⟨rfl, rfl⟩) | (go_at_call 49; (with_reducible refine (HI.out.at' (by (repeat' first | with_reducible exact Fresh.refl _ | with_reducible assumption | with_reducible refine Fresh.alloc ?_ _ _ | with_reducible refine Fresh.drew ?_ | with_reducible refine Fresh.setCell ?_ ?_ _ | with_reducible refine Fresh.trans ?_ (by assumption) | (simp; done) | (simp; omega)))).mono ?_); rintro e w1 ⟨rfl, h1⟩; obtain ⟨c1, f1⟩ := h1.cells; have z10 := h1.z (n := w.heap.size) (by first | assumption | (simp; done) | (simp; assumption) | (simp; omega)); have z11 := h1.z (n := w.heap.size + 1) (by first | assumption | (simp; done) | (simp; assumption) | (simp; omega)); have z12 := h1.z (n := w.heap.size + 1 + 1) (by first | assumption | (simp; done) | (simp; assumption) | (simp; omega))) | (go_at_call 49; (with_reducible refine (HJ.out.at' (by (repeat' first | with_reducible exact Fresh.refl _ | with_reducible assumption | with_reducible refine Fresh.alloc ?_ _ _ | with_reducible refine Fresh.drew ?_ | with_reducible refine Fresh.setCell ?_ ?_ _ | with_reducible refine Fresh.trans ?_ (by assumption) | (simp; done) | (simp; omega)))).mono ?_); rintro e w2 ⟨rfl, h2⟩; obtain ⟨c2, f2⟩ := h2.cells; have y10 := h2.z (n := w.heap.size) (by first | assumption | (simp; done) | (simp; assumption) | (simp; omega)); have y11 := h2.z (n := w.heap.size + 1) (by first | assumption | (simp; done) | (simp; assumption) | (simp; omega)); have y12 := h2.z (n := w.heap.size + 1 + 1) (by first | assumption | (simp; done) | (simp; assumption) | (simp; omega)); have a0 := (c2 (w.heap.size + 1 + 1) 0 z12).trans (c1 (w.heap.size + 1 + 1) 0 (by simp)); have a1 := (c2 (w.heap.size + 1 + 1) 1 z12).trans (c1 (w.heap.size + 1 + 1) 1 (by simp)); have a2 := (c2 (w.heap.size + 1 + 1) 2 z12).trans (c1 (w.heap.size + 1 + 1) 2 (by simp)); simp [go_sem] at a0 a1 a2) | (go_at_call 24; refine (int_f _ 0 (by decide) _).mono ?_; rintro e w3 ⟨rfl, h3⟩; have a0 := h3.cellOf y12 a0; have a1 := h3.cellOf y12 a1; have a2 := h3.cellOf y12 a2; have x12 := h3.z y12; obtain ⟨c3, f3⟩ := h3.cells))
  all_goals go_light
  all_goals (refine bodyPost_ret (v := ?_) ?_ rfl ?_; rotate_left 1; focus (simp [results, Try.results19, go_sem, *]; (try rfl); done))
  all_goals exact ⟨rfl, (by (repeat' first | with_reducible exact Fresh.refl _ | with_reducible assumption | with_reducible refine Fresh.alloc ?_ _ _ | with_reducible refine Fresh.drew ?_ | with_reducible refine Fresh.setCell ?_ ?_ _ | with_reducible refine Fresh.trans ?_ (by assumption) | (simp; done) | (simp; omega)))⟩
end Go.Proofs.Ytjbflmpnmobngaa
