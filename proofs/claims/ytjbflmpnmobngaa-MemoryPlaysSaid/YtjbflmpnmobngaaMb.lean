/- What calls leave behind; values that calls of mach make. -/
import Derived.Test.YtjbflmpnmobngaaMa
namespace Go.Proofs.Ytjbflmpnmobngaa
set_option linter.unusedSimpArgs false
set_option linter.unusedVariables false
open Go.RowKit

/-- Nothing that was there has turned; what was laid since is not frozen. -/
structure Fresh (w w' : World) : Prop where
  below : Below w.heap.size w w'
  froz : ∀ a, w'.frozen? a = w.frozen? a
theorem Fresh.refl (w : World) : Fresh w w := ⟨Below.refl _ _, fun _ => rfl⟩
theorem Fresh.trans {a b c : World} (h : Fresh a b) (k : Fresh b c) : Fresh a c :=
  ⟨h.below.trans (k.below.mono h.below.size), fun x => (k.froz x).trans (h.froz x)⟩
theorem Fresh.alloc {a w : World} (h : Fresh a w) (c : Array Value) (t : TypeId) : Fresh a (w.alloc (.cells c t)) :=
  ⟨h.below.alloc h.below.size _, fun x => (((Grown.refl w).alloc c t).2.1 x).trans (h.froz x)⟩
theorem Fresh.setCell {a w : World} (h : Fresh a w) {p : Addr} (hp : a.heap.size ≤ p.block) (v : Value) : Fresh a (w.setCell p v) :=
  ⟨h.below.setCell hp v, fun x => by rw [← h.froz x]; simp [go_sem]⟩
theorem Fresh.drew {a w : World} (h : Fresh a w) : Fresh a w.drew := ⟨h.below.drew, fun x => h.froz x⟩
theorem Fresh.size {a w : World} (h : Fresh a w) : a.heap.size ≤ w.heap.size := h.below.size
theorem Fresh.z {X w1 : World} (h : Fresh X w1) {n : Nat} (hn : n < X.heap.size) : n < w1.heap.size := Nat.lt_of_lt_of_le hn h.size
theorem Fresh.cells {W w1 : World} (hb : Fresh W w1) : (∀ b o, b < W.heap.size → w1.cell? ⟨b, o, none⟩ = W.cell? ⟨b, o, none⟩) ∧ (∀ b o, w1.frozen? ⟨b, o, none⟩ = W.frozen? ⟨b, o, none⟩) :=
  ⟨fun b o h => hb.below.cell (p := ⟨b, o, none⟩) h, fun b o => hb.froz ⟨b, o, none⟩⟩

theorem ret_pair {k : IntKind} {a : Int} {c : Bool} {p : Int × Bool} (h : p = (a, c)) : Ending.returned (.tuple #[.int k a, .bool c]) = Ending.returned (.tuple #[.int k p.1, .bool p.2]) := by rw [h]
theorem ret_int {k : IntKind} {a b : Int} (h : b = a) : Ending.returned (.int k a) = Ending.returned (.int k b) := by rw [h]
theorem ret_bool {a b : Bool} (h : b = a) : Ending.returned (.bool a) = Ending.returned (.bool b) := by rw [h]
theorem Fresh.cellOf {W w1 : World} (h : Fresh W w1) {B i : Nat} (hB : B < W.heap.size) {v : Option Value} (hv : W.cell? ⟨B, i, none⟩ = v) : w1.cell? ⟨B, i, none⟩ = v := by rw [h.cells.1 B i hB, hv]
/-- A value that stands in a block of the call's own. -/
structure Own (w : World) (B : Nat) (k n b : Int) : Prop where
  size : B < w.heap.size
  c0 : w.cell? ⟨B, 0, none⟩ = some (.int .i64 k)
  c1 : w.cell? ⟨B, 1, none⟩ = some (.int .u64 n)
  c2 : w.cell? ⟨B, 2, none⟩ = some (.int .i64 b)
theorem Own.later {W w1 : World} {B : Nat} {k n b : Int} (h : Own W B k n b) (hf : Fresh W w1) : Own w1 B k n b :=
  ⟨hf.z h.size, hf.cellOf h.size h.c0, hf.cellOf h.size h.c1, hf.cellOf h.size h.c2⟩
theorem Own.drew {w : World} {B : Nat} {k n b : Int} (h : Own w B k n b) : Own w.drew B k n b := h.later (Fresh.refl w).drew
theorem Own.new (w : World) (k n b : Int) : Own (w.alloc (.cells #[.int .i64 k, .int .u64 n, .int .i64 b] 24)) w.heap.size k n b :=
  ⟨by simp, by simp [go_sem], by simp [go_sem], by simp [go_sem]⟩

def sizeL (c : Int) : Int := if c = 1 ∨ c = 2 then 1 else if c = 3 ∨ c = 4 then 2 else if c = 5 then 4 else if c = 6 ∨ c = 7 then 8 else 0
def kindL (c : Int) : Int := if 1 ≤ c ∧ c ≤ 5 then 1 else if c = 6 then 2 else if c = 7 then 3 else 0
theorem size_any (c : Int) (w : World) : Calls Try.prog 26 #[.int .i64 c] w fun e w' => e = .returned (.int .i64 (sizeL c)) ∧ w = w' := by
  go_enter Try.func26, Try.ntmps26
  go_wp2
  all_goals (go_returns; go_light)
  all_goals (refine ⟨ret_int ?_, rfl⟩; (try simp only [beq_iff_eq, beq_eq_false_iff_ne] at *); unfold sizeL; repeat' split)
  all_goals first | rfl | omega
theorem kind_any (c : Int) (w : World) : Calls Try.prog 25 #[.int .i64 c] w fun e w' => e = .returned (.int .i64 (kindL c)) ∧ w = w' := by
  go_enter Try.func25, Try.ntmps25
  go_wp2
  all_goals (go_returns; go_light)
  all_goals (refine ⟨ret_int ?_, rfl⟩; (try simp only [beq_iff_eq, beq_eq_false_iff_ne] at *); unfold kindL; repeat' split)
  all_goals first | rfl | omega
theorem int_x (n : Int) (w : World) :
    Calls Try.prog 24 #[.int .i32 n] w fun e w' => e = .returned (.agg #[.int .i64 1, .int .u64 (n % 4294967296), .int .i64 0]) ∧ w.alloc (.cells #[.int .i64 1, .int .u64 (n % 4294967296), .int .i64 0] 32) = w' := by
  go_enter Try.func24, Try.ntmps24
  go_wp2
  go_returns
  exact ⟨rfl, rfl⟩
theorem long_x (n : Int) (w : World) :
    Calls Try.prog 29 #[.int .i64 n] w fun e w' => e = .returned (.agg #[.int .i64 2, .int .u64 (IntKind.u64.wrap n), .int .i64 0]) ∧ w.alloc (.cells #[.int .i64 2, .int .u64 (IntKind.u64.wrap n), .int .i64 0] 32) = w' := by
  go_enter Try.func29, Try.ntmps29
  go_wp2
  go_returns
  exact ⟨rfl, rfl⟩
theorem dbl_x (n : Int) (w : World) :
    Calls Try.prog 30 #[.int .u64 n] w fun e w' => e = .returned (.agg #[.int .i64 3, .int .u64 (n), .int .i64 0]) ∧ w.alloc (.cells #[.int .i64 3, .int .u64 (n), .int .i64 0] 32) = w' := by
  go_enter Try.func30, Try.ntmps30
  go_wp2
  go_returns
  exact ⟨rfl, rfl⟩
def ptrL (b o : Int) : Int × Int × Int := if b == 0 then (0, 0, 0) else (4, IntKind.u64.wrap o, b)
theorem ret_val {k n b : Int} {p : Int × Int × Int} (h : p = (k, n, b)) : Ending.returned (.agg #[.int .i64 k, .int .u64 n, .int .i64 b]) = Ending.returned (.agg #[.int .i64 p.1, .int .u64 p.2.1, .int .i64 p.2.2]) := by rw [h]
theorem ret_valok {k n b : Int} {c : Bool} {p : (Int × Int × Int) × Bool} (h : p = ((k, n, b), c)) : Ending.returned (.tuple #[.agg #[.int .i64 k, .int .u64 n, .int .i64 b], .bool c]) = Ending.returned (.tuple #[.agg #[.int .i64 p.1.1, .int .u64 p.1.2.1, .int .i64 p.1.2.2], .bool p.2]) := by rw [h]
theorem ptr_any (b o : Int) (w : World) :
    Calls Try.prog 23 #[.int .i64 b, .int .i64 o] w fun e w' => e = .returned (.agg #[.int .i64 (ptrL b o).1, .int .u64 (ptrL b o).2.1, .int .i64 (ptrL b o).2.2]) ∧ Fresh w w' := by
  go_enter Try.func23, Try.ntmps23
  go_wp2
  all_goals (go_returns; go_light)
  all_goals exact ⟨ret_val (by simp [ptrL, *]), (Fresh.refl _).alloc _ _⟩
def valueOfL (c n : Int) : Int × Int × Int :=
  if c == 1 then (1, IntKind.i8.wrap n % 4294967296, 0) else if c == 3 then (1, IntKind.i16.wrap n % 4294967296, 0) else if c == 6 then (2, IntKind.u64.wrap (wrap64 n), 0) else if c == 7 then (3, n, 0) else (1, wrap32 n % 4294967296, 0)
theorem wrapm (n : Int) : wrap32 n % 4294967296 = n % 4294967296 := by unfold wrap32; omega
theorem valueOf_any (c n : Int) (w : World) :
    Calls Try.prog 35 #[.int .i64 c, .int .u64 n] w fun e w' => e = .returned (.agg #[.int .i64 (valueOfL c n).1, .int .u64 (valueOfL c n).2.1, .int .i64 (valueOfL c n).2.2]) ∧ Fresh w w' := by
  go_enter Try.func35, Try.ntmps35
  go_wp2_with (first | (go_at_call 24; refine (int_x _ _).mono ?_; rintro e w' ⟨rfl, rfl⟩) | (go_at_call 29; refine (long_x _ _).mono ?_; rintro e w' ⟨rfl, rfl⟩) | (go_at_call 30; refine (dbl_x _ _).mono ?_; rintro e w' ⟨rfl, rfl⟩))
  all_goals (go_returns; go_light)
  all_goals exact ⟨ret_val (by simp [valueOfL, wrapm, *]), ((Fresh.refl _).alloc _ _).alloc _ _⟩
def fitsL (c k : Int) : Bool := k == 0 || k == kindL c || k == 4 && c == 6
theorem fits_any (c k : Int) (w : World) :
    Calls Try.prog 41 #[.int .i64 c, .int .i64 k] w fun e w' => e = .returned (.bool (fitsL c k)) ∧ w = w' := by
  go_enter Try.func41, Try.ntmps41
  go_wp2_with (go_at_call 25; refine (kind_any _ _).mono ?_; rintro e w' ⟨rfl, rfl⟩)
  all_goals (go_returns; go_light)
  all_goals exact ⟨ret_bool (by simp_all [fitsL]), rfl⟩
end Go.Proofs.Ytjbflmpnmobngaa
