/- What the calls of mach that make a value, or take pointers, answer; each makes new memory alone. -/
import Derived.Test.YtopnbdblgfjnpaaC
namespace Go.Proofs.Ytopnbdblgfjnpaa
set_option linter.unusedSimpArgs false
set_option linter.unusedVariables false
open Go.RowKit

/-- Nothing that was there has turned; what was laid since is not frozen. -/
structure Fresh (w w' : World) : Prop where
  below : Below w.heap.size w w'
  froz : ∀ a, w'.frozen? a = w.frozen? a
theorem Fresh.refl (w : World) : Fresh w w := ⟨Below.refl _ _, fun _ => rfl⟩
theorem Fresh.trans {a b c : World} (h : Fresh a b) (k : Fresh b c) : Fresh a c :=
  ⟨h.below.trans (k.below.mono h.below.size), fun x => (k.froz x).trans (h.froz x)⟩
theorem Fresh.alloc {a w : World} (h : Fresh a w) (c : Array Value) (t : TypeId) : Fresh a (w.alloc (.cells c t)) :=
  ⟨h.below.alloc h.below.size _, fun x => (((Grown.refl w).alloc c t).2.1 x).trans (h.froz x)⟩
theorem Fresh.setCell {a w : World} (h : Fresh a w) {p : Addr} (hp : a.heap.size ≤ p.block) (v : Value) : Fresh a (w.setCell p v) :=
  ⟨h.below.setCell hp v, fun x => by rw [← h.froz x]; simp [go_sem]⟩
theorem Fresh.drew {a w : World} (h : Fresh a w) : Fresh a w.drew := ⟨h.below.drew, fun x => h.froz x⟩
theorem Fresh.size {a w : World} (h : Fresh a w) : a.heap.size ≤ w.heap.size := h.below.size
theorem Fresh.z {X w1 : World} (h : Fresh X w1) {n : Nat} (hn : n < X.heap.size) : n < w1.heap.size := Nat.lt_of_lt_of_le hn h.size
theorem Fresh.cells {W w1 : World} (hb : Fresh W w1) : (∀ b o, b < W.heap.size → w1.cell? ⟨b, o, none⟩ = W.cell? ⟨b, o, none⟩) ∧ (∀ b o, w1.frozen? ⟨b, o, none⟩ = W.frozen? ⟨b, o, none⟩) :=
  ⟨fun b o h => hb.below.cell (p := ⟨b, o, none⟩) h, fun b o => hb.froz ⟨b, o, none⟩⟩

theorem ret_val {k n b : Int} {p : Int × Int × Int} (h : p = (k, n, b)) : Ending.returned (.agg #[.int .i64 k, .int .u64 n, .int .i64 b]) = Ending.returned (.agg #[.int .i64 p.1, .int .u64 p.2.1, .int .i64 p.2.2]) := by rw [h]
theorem ret_valok {k n b : Int} {c : Bool} {p : (Int × Int × Int) × Bool} (h : p = ((k, n, b), c)) : Ending.returned (.tuple #[.agg #[.int .i64 k, .int .u64 n, .int .i64 b], .bool c]) = Ending.returned (.tuple #[.agg #[.int .i64 p.1.1, .int .u64 p.1.2.1, .int .i64 p.1.2.2], .bool p.2]) := by rw [h]

def intL (n : Int) : Int × Int × Int := (1, n % 4294967296, 0)
def longL (n : Int) : Int × Int × Int := (2, IntKind.u64.wrap n, 0)
def ptrL (b o : Int) : Int × Int × Int := if b == 0 then (0, 0, 0) else (4, IntKind.u64.wrap o, b)
def answerL (k n : Int) (ok : Bool) : (Int × Int × Int) × Bool := if ok then ((k, n, 0), true) else ((0, 0, 0), false)

theorem int_any (n : Int) (w : World) :
    Calls Try.prog 28 #[.int .i32 n] w fun e w' => e = .returned (.agg #[.int .i64 (intL n).1, .int .u64 (intL n).2.1, .int .i64 (intL n).2.2]) ∧ Fresh w w' := by
  go_enter Try.func28, Try.ntmps28
  go_wp2
  go_returns
  exact ⟨ret_val rfl, (Fresh.refl _).alloc _ _⟩
theorem long_any (n : Int) (w : World) :
    Calls Try.prog 26 #[.int .i64 n] w fun e w' => e = .returned (.agg #[.int .i64 (longL n).1, .int .u64 (longL n).2.1, .int .i64 (longL n).2.2]) ∧ Fresh w w' := by
  go_enter Try.func26, Try.ntmps26
  go_wp2
  go_returns
  exact ⟨ret_val rfl, (Fresh.refl _).alloc _ _⟩
theorem ptr_any (b o : Int) (w : World) :
    Calls Try.prog 30 #[.int .i64 b, .int .i64 o] w fun e w' => e = .returned (.agg #[.int .i64 (ptrL b o).1, .int .u64 (ptrL b o).2.1, .int .i64 (ptrL b o).2.2]) ∧ Fresh w w' := by
  go_enter Try.func30, Try.ntmps30
  go_wp2
  all_goals (go_returns; go_light)
  all_goals exact ⟨ret_val (by simp [ptrL, *]), (Fresh.refl _).alloc _ _⟩
theorem answer_any (k n : Int) (ok : Bool) (w : World) :
    Calls Try.prog 35 #[.int .i64 k, .int .u64 n, .bool ok] w fun e w' => e = .returned (.tuple #[.agg #[.int .i64 (answerL k n ok).1.1, .int .u64 (answerL k n ok).1.2.1, .int .i64 (answerL k n ok).1.2.2], .bool (answerL k n ok).2]) ∧ Fresh w w' := by
  cases ok <;>
  · go_enter Try.func35, Try.ntmps35
    go_wp2
    all_goals (go_returns; go_light)
    all_goals exact ⟨ret_valok (by simp [answerL]), (Fresh.refl _).alloc _ _⟩
def nowhereL (k b : Int) : Bool := k == 4 && b == 0
theorem nowhere_any (k n b : Int) (w : World) :
    Calls Try.prog 52 #[.agg #[.int .i64 k, .int .u64 n, .int .i64 b]] w fun e w' => e = .returned (.bool (nowhereL k b)) ∧ Fresh w w' := by
  go_enter Try.func52, Try.ntmps52
  go_wp2
  all_goals (go_returns; go_light)
  all_goals exact ⟨ret_bool (by simp [nowhereL, *]), (Fresh.refl _).alloc _ _⟩
def palL (o n b y : Int) : (Int × Int × Int) × Bool :=
  if o == 33 then (ptrL b (wrap64 (IntKind.u64.wrap (n + y))), true) else if o == 34 then (ptrL b (wrap64 (IntKind.u64.wrap (n - y))), true)
  else if o == 46 && y == 0 then (intL 0, true) else if o == 47 && y == 0 then (intL 1, true) else ((0, 0, 0), false)
theorem pal_any (o k n b y : Int) (w : World) :
    Calls Try.prog 54 #[.int .i64 o, .agg #[.int .i64 k, .int .u64 n, .int .i64 b], .int .u64 y] w fun e w' => e = .returned (.tuple #[.agg #[.int .i64 (palL o n b y).1.1, .int .u64 (palL o n b y).1.2.1, .int .i64 (palL o n b y).1.2.2], .bool (palL o n b y).2]) ∧ Fresh w w' := by
  go_enter Try.func54, Try.ntmps54
  go_wp2_with (first
    | (go_at_call 30; refine (ptr_any _ _ _).mono ?_; rintro e w1 ⟨rfl, h1⟩; obtain ⟨c1, f1⟩ := h1.cells; have z1 := h1.size)
    | (go_at_call 28; refine (int_any _ _).mono ?_; rintro e w1 ⟨rfl, h1⟩; obtain ⟨c1, f1⟩ := h1.cells; have z1 := h1.size))
  all_goals (first | (refine bodyPost_ret (v := ?_) ?_ rfl ?_; rotate_left 1; focus (simp [results, Try.results54, go_sem, c1]; try rfl)) | go_returns)
  all_goals go_light
  all_goals exact ⟨ret_valok (by simp [palL, *]), by (repeat' first | with_reducible exact Fresh.refl _ | with_reducible assumption | with_reducible refine Fresh.alloc ?_ _ _ | with_reducible refine Fresh.drew ?_ | with_reducible refine Fresh.setCell ?_ ?_ _ | with_reducible refine Fresh.trans ?_ (by assumption) | (simp; done) | (simp; omega))⟩
end Go.Proofs.Ytopnbdblgfjnpaa
