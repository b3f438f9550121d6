/- What is loaded. -/
import Derived.Test.YtjbflmpnmobngaaMe
namespace Go.Proofs.Ytjbflmpnmobngaa
set_option linter.unusedSimpArgs false
set_option linter.unusedVariables false
open Go.RowKit

/-- An access that goes nowhere. -/
def Nowhere (M : Nat) (c k n b : Int) (w : World) : Prop := ∀ w1, Fresh w w1 → Calls Try.prog 33 #[.pointer (some ⟨M, 0, none⟩), .int .i64 c, .agg #[.int .i64 k, .int .u64 n, .int .i64 b]] w1 fun e w' => e = .returned (.tuple #[.pointer none, .int .i64 0]) ∧ Fresh w1 w'
/-- An access that goes to an offset of a block. -/
def Goes (M : Nat) (c k n b : Int) (B off : Nat) (w : World) : Prop := ∀ w1, Fresh w w1 → Calls Try.prog 33 #[.pointer (some ⟨M, 0, none⟩), .int .i64 c, .agg #[.int .i64 k, .int .u64 n, .int .i64 b]] w1 fun e w' => e = .returned (.tuple #[.pointer (some ⟨B, 0, none⟩), .int .i64 (off : Int)]) ∧ Fresh w1 w'
theorem Nowhere.later {M : Nat} {c k n b : Int} {w w' : World} (h : Nowhere M c k n b w) (hf : Fresh w w') : Nowhere M c k n b w' := fun w1 h1 => h w1 (hf.trans h1)
theorem Goes.later {M : Nat} {c k n b : Int} {B off : Nat} {w w' : World} (h : Goes M c k n b B off w) (hf : Fresh w w') : Goes M c k n b B off w' := fun w1 h1 => h w1 (hf.trans h1)
variable {w : World} {B : Nat} {sz : Int} {fx : Bool} {pg pt : Option Nat} {n1 n2 : Nat} {row : Int → Option Nat} {cell : Nat → Int} {ptr : Int → Option (Int × Int × Int)}
theorem look_p (h : BRep w B sz fx pg pt n1 n2 row cell ptr) {off : Nat} (hk : Key (off : Int)) {x y z : Int} (hp : ptr off = some (x, y, z)) :
    (Instr.lookup 61 (.map pt) (.int .i64 (off : Int)) true).run Try.prog w = .ok (.tuple #[.agg #[.int .i64 x, .int .u64 y, .int .i64 z], .bool true]) w := by
  rw [h.pts.look_ok Try.underlying61 (zero32 w) hk]
  simp [ptrV, hp, valOf]
theorem look_n (h : BRep w B sz fx pg pt n1 n2 row cell ptr) {off : Nat} (hk : Key (off : Int)) (hp : ptr off = none) :
    (Instr.lookup 61 (.map pt) (.int .i64 (off : Int)) true).run Try.prog w = .ok (.tuple #[.agg #[.int .i64 0, .int .u64 0, .int .i64 0], .bool false]) w := by
  rw [h.pts.look_ok Try.underlying61 (zero32 w) hk]
  simp [ptrV, hp]
theorem number_lit (off m : Nat) (v : Int) (hv : v = (m : Int)) (x : Int) (y : Bool) (hx : numV cell off m = x) (hy : allB cell off m = y) (hm : m ≤ 8) (hin : off % 4096 + m ≤ 4096) (hoff : (off : Int) + m ≤ sz) (hm0 : 0 < m) (h : BRep w B sz fx pg pt n1 n2 row cell ptr) :
    Calls Try.prog 34 #[.pointer (some ⟨B, 0, none⟩), .int .i64 (off : Int), .int .i64 v] w fun e w' => e = .returned (.tuple #[.int .u64 x, .bool y]) ∧ w = w' := by
  subst hv hx hy; exact number_any off m hm hin hoff hm0 h
theorem valueOf_lit (c n x y z : Int) (h : valueOfL c n = (x, y, z)) (w : World) :
    Calls Try.prog 35 #[.int .i64 c, .int .u64 n] w fun e w' => e = .returned (.agg #[.int .i64 x, .int .u64 y, .int .i64 z]) ∧ Fresh w w' := by
  have := valueOf_any c n w
  rw [h] at this
  exact this
set_option maxHeartbeats 1000000 in
set_option maxRecDepth 100000 in
theorem load_bad (M : Nat) (c k n b : Int) (hre : Nowhere M c k n b w) :
    Calls Try.prog 15 #[.pointer (some ⟨M, 0, none⟩), .int .i64 c, .agg #[.int .i64 k, .int .u64 n, .int .i64 b]] w fun e w' => e = .returned (.tuple #[.agg #[.int .i64 0, .int .u64 0, .int .i64 0], .bool false]) ∧ Fresh w w' := by
  have HR := Lib.hid hre
  clear hre
  go_enter Try.func15, Try.ntmps15
  go_wp2_with (go_at_call 33; refine (HR.out _ (by (repeat' first | with_reducible exact Fresh.refl _ | with_reducible assumption | with_reducible refine Fresh.alloc ?_ _ _ | with_reducible refine Fresh.drew ?_ | with_reducible refine Fresh.setCell ?_ ?_ _ | with_reducible refine Fresh.trans ?_ (by assumption) | (simp; done) | (simp; omega)))).mono ?_; rintro e w1 ⟨rfl, h1⟩; obtain ⟨c1, f1⟩ := h1.cells; have z10 := h1.z (n := w.heap.size) (by first | assumption | (simp; done) | (simp; assumption) | (simp; omega)); have z11 := h1.z (n := w.heap.size + 1) (by first | assumption | (simp; done) | (simp; assumption) | (simp; omega)))
  all_goals go_light
  all_goals first | (refine bodyPost_ret (v := ?_) ?_ rfl ?_; rotate_left 1; focus (simp [results, Try.results15, go_sem, *]; (try rfl); done)) | go_returns
  all_goals exact ⟨rfl, by (repeat' first | with_reducible exact Fresh.refl _ | with_reducible assumption | with_reducible refine Fresh.alloc ?_ _ _ | with_reducible refine Fresh.drew ?_ | with_reducible refine Fresh.setCell ?_ ?_ _ | with_reducible refine Fresh.trans ?_ (by assumption) | (simp; done) | (simp; omega))⟩
set_option maxHeartbeats 2000000 in
set_option maxRecDepth 100000 in
theorem load_p (M : Nat) (c k n b : Int) (off m : Nat) (hre : Goes M c k n b B off w) (hR : BRep w B sz fx pg pt n1 n2 row cell ptr) (hc : sizeL c = (m : Int)) (hm : m ≤ 8) (hin : off % 4096 + m ≤ 4096) (hoff : (off : Int) + m ≤ sz) (hm0 : 0 < m) (hc6 : c = 6) (x y z : Int) (hp : ptr off = some (x, y, z)) :
    Calls Try.prog 15 #[.pointer (some ⟨M, 0, none⟩), .int .i64 c, .agg #[.int .i64 k, .int .u64 n, .int .i64 b]] w fun e w' => e = .returned (.tuple #[.agg #[.int .i64 x, .int .u64 y, .int .i64 z], .bool true]) ∧ Fresh w w' := by
  have HR := Lib.hid hre
  have HB := Lib.hid hR
  have HC := Lib.hid hc
  have hk : Key (off : Int) := Key.mk (by have := hR.s1; omega) (by have := hR.s1; omega)
  have HK := Lib.hid hk
  have HH : Hid (m ≤ 8 ∧ off % 4096 + m ≤ 4096 ∧ (off : Int) + m ≤ sz ∧ 0 < m) := Lib.hid ⟨hm, hin, hoff, hm0⟩
  subst hc6
  have HP := Lib.hid hp
  clear hp
  have HX : Hid (numV cell off m = numV cell off m) := Lib.hid rfl
  have HY : Hid (allB cell off m = allB cell off m) := Lib.hid rfl
  have HV : Hid (valueOfL 6 0 = ((valueOfL 6 0).1, (valueOfL 6 0).2.1, (valueOfL 6 0).2.2)) := Lib.hid rfl
  clear hre hR hc hm hin hoff hm0 hk
  go_enter Try.func15, Try.ntmps15
  go_wp2_with (first | (go_at_call 33; refine (HR.out _ (by (repeat' first | with_reducible exact Fresh.refl _ | with_reducible assumption | with_reducible refine Fresh.alloc ?_ _ _ | with_reducible refine Fresh.drew ?_ | with_reducible refine Fresh.setCell ?_ ?_ _ | with_reducible refine Fresh.trans ?_ (by assumption) | (simp; done) | (simp; omega)))).mono ?_; rintro e w1 ⟨rfl, h1⟩; obtain ⟨c1, f1⟩ := h1.cells; have z10 := h1.z (n := w.heap.size) (by first | assumption | (simp; done) | (simp; assumption) | (simp; omega)); have z11 := h1.z (n := w.heap.size + 1) (by first | assumption | (simp; done) | (simp; assumption) | (simp; omega)); have RB := Lib.hid (HB.out.later (by (repeat' first | with_reducible exact Fresh.refl _ | with_reducible assumption | with_reducible refine Fresh.alloc ?_ _ _ | with_reducible refine Fresh.drew ?_ | with_reducible refine Fresh.setCell ?_ ?_ _ | with_reducible refine Fresh.trans ?_ (by assumption) | (simp; done) | (simp; omega)) : Fresh w w1)); have p3 := RB.out.c3; have hp := look_p RB.out HK.out HP.out) | (go_at_call 26; refine (size_lit _ _ HC.out _).mono ?_; rintro e w' ⟨rfl, rfl⟩) | (go_at_call 34; refine (number_lit off m _ rfl _ _ HX.out HY.out HH.out.1 HH.out.2.1 HH.out.2.2.1 HH.out.2.2.2 (RB.out.later (by (repeat' first | with_reducible exact Fresh.refl _ | with_reducible assumption | with_reducible refine Fresh.alloc ?_ _ _ | with_reducible refine Fresh.drew ?_ | with_reducible refine Fresh.setCell ?_ ?_ _ | with_reducible refine Fresh.trans ?_ (by assumption) | (simp; done) | (simp; omega))))).mono ?_; rintro e w' ⟨rfl, rfl⟩) | (go_at_call 35; refine (valueOf_lit _ _ _ _ _ HV.out _).mono ?_; rintro e w2 ⟨rfl, h2⟩; obtain ⟨c2, f2⟩ := h2.cells; have z20 := h2.z (n := w.heap.size) (by first | assumption | (simp; done) | (simp; assumption) | (simp; omega)); have z21 := h2.z (n := w.heap.size + 1) (by first | assumption | (simp; done) | (simp; assumption) | (simp; omega))))
  all_goals go_light
  all_goals first | (refine bodyPost_ret (v := ?_) ?_ rfl ?_; rotate_left 1; focus (simp [results, Try.results15, go_sem, *]; (try rfl); done)) | go_returns
  all_goals exact ⟨rfl, by (repeat' first | with_reducible exact Fresh.refl _ | with_reducible assumption | with_reducible refine Fresh.alloc ?_ _ _ | with_reducible refine Fresh.drew ?_ | with_reducible refine Fresh.setCell ?_ ?_ _ | with_reducible refine Fresh.trans ?_ (by assumption) | (simp; done) | (simp; omega))⟩
set_option maxHeartbeats 2000000 in
set_option maxRecDepth 100000 in
theorem load_e6 (M : Nat) (c k n b : Int) (off m : Nat) (hre : Goes M c k n b B off w) (hR : BRep w B sz fx pg pt n1 n2 row cell ptr) (hc : sizeL c = (m : Int)) (hm : m ≤ 8) (hin : off % 4096 + m ≤ 4096) (hoff : (off : Int) + m ≤ sz) (hm0 : 0 < m) (hc6 : (c == 6) = false) (x y z : Int) (hp : ptr off = some (x, y, z)) (hy : allB cell off m = false) :
    Calls Try.prog 15 #[.pointer (some ⟨M, 0, none⟩), .int .i64 c, .agg #[.int .i64 k, .int .u64 n, .int .i64 b]] w fun e w' => e = .returned (.tuple #[.agg #[.int .i64 0, .int .u64 0, .int .i64 0], .bool true]) ∧ Fresh w w' := by
  have HR := Lib.hid hre
  have HB := Lib.hid hR
  have HC := Lib.hid hc
  have hk : Key (off : Int) := Key.mk (by have := hR.s1; omega) (by have := hR.s1; omega)
  have HK := Lib.hid hk
  have HH : Hid (m ≤ 8 ∧ off % 4096 + m ≤ 4096 ∧ (off : Int) + m ≤ sz ∧ 0 < m) := Lib.hid ⟨hm, hin, hoff, hm0⟩
  have HP := Lib.hid hp
  clear hp
  have HX : Hid (numV cell off m = 0) := Lib.hid (by unfold numV; rw [hy]; rfl)
  have HY := Lib.hid hy
  clear hy
  have HV : Hid (valueOfL c 0 = ((valueOfL c 0).1, (valueOfL c 0).2.1, (valueOfL c 0).2.2)) := Lib.hid rfl
  clear hre hR hc hm hin hoff hm0 hk
  go_enter Try.func15, Try.ntmps15
  go_wp2_with (first | (go_at_call 33; refine (HR.out _ (by (repeat' first | with_reducible exact Fresh.refl _ | with_reducible assumption | with_reducible refine Fresh.alloc ?_ _ _ | with_reducible refine Fresh.drew ?_ | with_reducible refine Fresh.setCell ?_ ?_ _ | with_reducible refine Fresh.trans ?_ (by assumption) | (simp; done) | (simp; omega)))).mono ?_; rintro e w1 ⟨rfl, h1⟩; obtain ⟨c1, f1⟩ := h1.cells; have z10 := h1.z (n := w.heap.size) (by first | assumption | (simp; done) | (simp; assumption) | (simp; omega)); have z11 := h1.z (n := w.heap.size + 1) (by first | assumption | (simp; done) | (simp; assumption) | (simp; omega)); have RB := Lib.hid (HB.out.later (by (repeat' first | with_reducible exact Fresh.refl _ | with_reducible assumption | with_reducible refine Fresh.alloc ?_ _ _ | with_reducible refine Fresh.drew ?_ | with_reducible refine Fresh.setCell ?_ ?_ _ | with_reducible refine Fresh.trans ?_ (by assumption) | (simp; done) | (simp; omega)) : Fresh w w1)); have p3 := RB.out.c3; have hp := look_p RB.out HK.out HP.out) | (go_at_call 26; refine (size_lit _ _ HC.out _).mono ?_; rintro e w' ⟨rfl, rfl⟩) | (go_at_call 34; refine (number_lit off m _ rfl _ _ HX.out HY.out HH.out.1 HH.out.2.1 HH.out.2.2.1 HH.out.2.2.2 (RB.out.later (by (repeat' first | with_reducible exact Fresh.refl _ | with_reducible assumption | with_reducible refine Fresh.alloc ?_ _ _ | with_reducible refine Fresh.drew ?_ | with_reducible refine Fresh.setCell ?_ ?_ _ | with_reducible refine Fresh.trans ?_ (by assumption) | (simp; done) | (simp; omega))))).mono ?_; rintro e w' ⟨rfl, rfl⟩) | (go_at_call 35; refine (valueOf_lit _ _ _ _ _ HV.out _).mono ?_; rintro e w2 ⟨rfl, h2⟩; obtain ⟨c2, f2⟩ := h2.cells; have z20 := h2.z (n := w.heap.size) (by first | assumption | (simp; done) | (simp; assumption) | (simp; omega)); have z21 := h2.z (n := w.heap.size + 1) (by first | assumption | (simp; done) | (simp; assumption) | (simp; omega))))
  all_goals go_light
  all_goals first | (refine bodyPost_ret (v := ?_) ?_ rfl ?_; rotate_left 1; focus (simp [results, Try.results15, go_sem, *]; (try rfl); done)) | go_returns
  all_goals exact ⟨rfl, by (repeat' first | with_reducible exact Fresh.refl _ | with_reducible assumption | with_reducible refine Fresh.alloc ?_ _ _ | with_reducible refine Fresh.drew ?_ | with_reducible refine Fresh.setCell ?_ ?_ _ | with_reducible refine Fresh.trans ?_ (by assumption) | (simp; done) | (simp; omega))⟩
set_option maxHeartbeats 2000000 in
set_option maxRecDepth 100000 in
theorem load_e (M : Nat) (c k n b : Int) (off m : Nat) (hre : Goes M c k n b B off w) (hR : BRep w B sz fx pg pt n1 n2 row cell ptr) (hc : sizeL c = (m : Int)) (hm : m ≤ 8) (hin : off % 4096 + m ≤ 4096) (hoff : (off : Int) + m ≤ sz) (hm0 : 0 < m) (hp : ptr off = none) (hy : allB cell off m = false) :
    Calls Try.prog 15 #[.pointer (some ⟨M, 0, none⟩), .int .i64 c, .agg #[.int .i64 k, .int .u64 n, .int .i64 b]] w fun e w' => e = .returned (.tuple #[.agg #[.int .i64 0, .int .u64 0, .int .i64 0], .bool true]) ∧ Fresh w w' := by
  have HR := Lib.hid hre
  have HB := Lib.hid hR
  have HC := Lib.hid hc
  have hk : Key (off : Int) := Key.mk (by have := hR.s1; omega) (by have := hR.s1; omega)
  have HK := Lib.hid hk
  have HH : Hid (m ≤ 8 ∧ off % 4096 + m ≤ 4096 ∧ (off : Int) + m ≤ sz ∧ 0 < m) := Lib.hid ⟨hm, hin, hoff, hm0⟩
  have HP := Lib.hid hp
  clear hp
  have HX : Hid (numV cell off m = 0) := Lib.hid (by unfold numV; rw [hy]; rfl)
  have HY := Lib.hid hy
  clear hy
  have HV : Hid (valueOfL c 0 = ((valueOfL c 0).1, (valueOfL c 0).2.1, (valueOfL c 0).2.2)) := Lib.hid rfl
  clear hre hR hc hm hin hoff hm0 hk
  go_enter Try.func15, Try.ntmps15
  go_wp2_with (first | (go_at_call 33; refine (HR.out _ (by (repeat' first | with_reducible exact Fresh.refl _ | with_reducible assumption | with_reducible refine Fresh.alloc ?_ _ _ | with_reducible refine Fresh.drew ?_ | with_reducible refine Fresh.setCell ?_ ?_ _ | with_reducible refine Fresh.trans ?_ (by assumption) | (simp; done) | (simp; omega)))).mono ?_; rintro e w1 ⟨rfl, h1⟩; obtain ⟨c1, f1⟩ := h1.cells; have z10 := h1.z (n := w.heap.size) (by first | assumption | (simp; done) | (simp; assumption) | (simp; omega)); have z11 := h1.z (n := w.heap.size + 1) (by first | assumption | (simp; done) | (simp; assumption) | (simp; omega)); have RB := Lib.hid (HB.out.later (by (repeat' first | with_reducible exact Fresh.refl _ | with_reducible assumption | with_reducible refine Fresh.alloc ?_ _ _ | with_reducible refine Fresh.drew ?_ | with_reducible refine Fresh.setCell ?_ ?_ _ | with_reducible refine Fresh.trans ?_ (by assumption) | (simp; done) | (simp; omega)) : Fresh w w1)); have p3 := RB.out.c3; have hp := look_n RB.out HK.out HP.out) | (go_at_call 26; refine (size_lit _ _ HC.out _).mono ?_; rintro e w' ⟨rfl, rfl⟩) | (go_at_call 34; refine (number_lit off m _ rfl _ _ HX.out HY.out HH.out.1 HH.out.2.1 HH.out.2.2.1 HH.out.2.2.2 (RB.out.later (by (repeat' first | with_reducible exact Fresh.refl _ | with_reducible assumption | with_reducible refine Fresh.alloc ?_ _ _ | with_reducible refine Fresh.drew ?_ | with_reducible refine Fresh.setCell ?_ ?_ _ | with_reducible refine Fresh.trans ?_ (by assumption) | (simp; done) | (simp; omega))))).mono ?_; rintro e w' ⟨rfl, rfl⟩) | (go_at_call 35; refine (valueOf_lit _ _ _ _ _ HV.out _).mono ?_; rintro e w2 ⟨rfl, h2⟩; obtain ⟨c2, f2⟩ := h2.cells; have z20 := h2.z (n := w.heap.size) (by first | assumption | (simp; done) | (simp; assumption) | (simp; omega)); have z21 := h2.z (n := w.heap.size + 1) (by first | assumption | (simp; done) | (simp; assumption) | (simp; omega))))
  all_goals go_light
  all_goals first | (refine bodyPost_ret (v := ?_) ?_ rfl ?_; rotate_left 1; focus (simp [results, Try.results15, go_sem, *]; (try rfl); done)) | go_returns
  all_goals exact ⟨rfl, by (repeat' first | with_reducible exact Fresh.refl _ | with_reducible assumption | with_reducible refine Fresh.alloc ?_ _ _ | with_reducible refine Fresh.drew ?_ | with_reducible refine Fresh.setCell ?_ ?_ _ | with_reducible refine Fresh.trans ?_ (by assumption) | (simp; done) | (simp; omega))⟩
set_option maxHeartbeats 2000000 in
set_option maxRecDepth 100000 in
theorem load_v6 (M : Nat) (c k n b : Int) (off m : Nat) (hre : Goes M c k n b B off w) (hR : BRep w B sz fx pg pt n1 n2 row cell ptr) (hc : sizeL c = (m : Int)) (hm : m ≤ 8) (hin : off % 4096 + m ≤ 4096) (hoff : (off : Int) + m ≤ sz) (hm0 : 0 < m) (hc6 : (c == 6) = false) (x y z : Int) (hp : ptr off = some (x, y, z)) (hy : allB cell off m = true) (x' y' z' : Int) (hV : valueOfL c (accN cell off m) = (x', y', z')) :
    Calls Try.prog 15 #[.pointer (some ⟨M, 0, none⟩), .int .i64 c, .agg #[.int .i64 k, .int .u64 n, .int .i64 b]] w fun e w' => e = .returned (.tuple #[.agg #[.int .i64 x', .int .u64 y', .int .i64 z'], .bool true]) ∧ Fresh w w' := by
  have HR := Lib.hid hre
  have HB := Lib.hid hR
  have HC := Lib.hid hc
  have hk : Key (off : Int) := Key.mk (by have := hR.s1; omega) (by have := hR.s1; omega)
  have HK := Lib.hid hk
  have HH : Hid (m ≤ 8 ∧ off % 4096 + m ≤ 4096 ∧ (off : Int) + m ≤ sz ∧ 0 < m) := Lib.hid ⟨hm, hin, hoff, hm0⟩
  have HP := Lib.hid hp
  clear hp
  have HX : Hid (numV cell off m = accN cell off m) := Lib.hid (by unfold numV; rw [hy]; rfl)
  have HY := Lib.hid hy
  have HV := Lib.hid hV
  clear hy hV
  clear hre hR hc hm hin hoff hm0 hk
  go_enter Try.func15, Try.ntmps15
  go_wp2_with (first | (go_at_call 33; refine (HR.out _ (by (repeat' first | with_reducible exact Fresh.refl _ | with_reducible assumption | with_reducible refine Fresh.alloc ?_ _ _ | with_reducible refine Fresh.drew ?_ | with_reducible refine Fresh.setCell ?_ ?_ _ | with_reducible refine Fresh.trans ?_ (by assumption) | (simp; done) | (simp; omega)))).mono ?_; rintro e w1 ⟨rfl, h1⟩; obtain ⟨c1, f1⟩ := h1.cells; have z10 := h1.z (n := w.heap.size) (by first | assumption | (simp; done) | (simp; assumption) | (simp; omega)); have z11 := h1.z (n := w.heap.size + 1) (by first | assumption | (simp; done) | (simp; assumption) | (simp; omega)); have RB := Lib.hid (HB.out.later (by (repeat' first | with_reducible exact Fresh.refl _ | with_reducible assumption | with_reducible refine Fresh.alloc ?_ _ _ | with_reducible refine Fresh.drew ?_ | with_reducible refine Fresh.setCell ?_ ?_ _ | with_reducible refine Fresh.trans ?_ (by assumption) | (simp; done) | (simp; omega)) : Fresh w w1)); have p3 := RB.out.c3; have hp := look_p RB.out HK.out HP.out) | (go_at_call 26; refine (size_lit _ _ HC.out _).mono ?_; rintro e w' ⟨rfl, rfl⟩) | (go_at_call 34; refine (number_lit off m _ rfl _ _ HX.out HY.out HH.out.1 HH.out.2.1 HH.out.2.2.1 HH.out.2.2.2 (RB.out.later (by (repeat' first | with_reducible exact Fresh.refl _ | with_reducible assumption | with_reducible refine Fresh.alloc ?_ _ _ | with_reducible refine Fresh.drew ?_ | with_reducible refine Fresh.setCell ?_ ?_ _ | with_reducible refine Fresh.trans ?_ (by assumption) | (simp; done) | (simp; omega))))).mono ?_; rintro e w' ⟨rfl, rfl⟩) | (go_at_call 35; refine (valueOf_lit _ _ _ _ _ HV.out _).mono ?_; rintro e w2 ⟨rfl, h2⟩; obtain ⟨c2, f2⟩ := h2.cells; have z20 := h2.z (n := w.heap.size) (by first | assumption | (simp; done) | (simp; assumption) | (simp; omega)); have z21 := h2.z (n := w.heap.size + 1) (by first | assumption | (simp; done) | (simp; assumption) | (simp; omega))))
  all_goals go_light
  all_goals first | (refine bodyPost_ret (v := ?_) ?_ rfl ?_; rotate_left 1; focus (simp [results, Try.results15, go_sem, *]; (try rfl); done)) | go_returns
  all_goals exact ⟨rfl, by (repeat' first | with_reducible exact Fresh.refl _ | with_reducible assumption | with_reducible refine Fresh.alloc ?_ _ _ | with_reducible refine Fresh.drew ?_ | with_reducible refine Fresh.setCell ?_ ?_ _ | with_reducible refine Fresh.trans ?_ (by assumption) | (simp; done) | (simp; omega))⟩
set_option maxHeartbeats 2000000 in
set_option maxRecDepth 100000 in
theorem load_v (M : Nat) (c k n b : Int) (off m : Nat) (hre : Goes M c k n b B off w) (hR : BRep w B sz fx pg pt n1 n2 row cell ptr) (hc : sizeL c = (m : Int)) (hm : m ≤ 8) (hin : off % 4096 + m ≤ 4096) (hoff : (off : Int) + m ≤ sz) (hm0 : 0 < m) (hp : ptr off = none) (hy : allB cell off m = true) (x' y' z' : Int) (hV : valueOfL c (accN cell off m) = (x', y', z')) :
    Calls Try.prog 15 #[.pointer (some ⟨M, 0, none⟩), .int .i64 c, .agg #[.int .i64 k, .int .u64 n, .int .i64 b]] w fun e w' => e = .returned (.tuple #[.agg #[.int .i64 x', .int .u64 y', .int .i64 z'], .bool true]) ∧ Fresh w w' := by
  have HR := Lib.hid hre
  have HB := Lib.hid hR
  have HC := Lib.hid hc
  have hk : Key (off : Int) := Key.mk (by have := hR.s1; omega) (by have := hR.s1; omega)
  have HK := Lib.hid hk
  have HH : Hid (m ≤ 8 ∧ off % 4096 + m ≤ 4096 ∧ (off : Int) + m ≤ sz ∧ 0 < m) := Lib.hid ⟨hm, hin, hoff, hm0⟩
  have HP := Lib.hid hp
  clear hp
  have HX : Hid (numV cell off m = accN cell off m) := Lib.hid (by unfold numV; rw [hy]; rfl)
  have HY := Lib.hid hy
  have HV := Lib.hid hV
  clear hy hV
  clear hre hR hc hm hin hoff hm0 hk
  go_enter Try.func15, Try.ntmps15
  go_wp2_with (first | (go_at_call 33; refine (HR.out _ (by (repeat' first | with_reducible exact Fresh.refl _ | with_reducible assumption | with_reducible refine Fresh.alloc ?_ _ _ | with_reducible refine Fresh.drew ?_ | with_reducible refine Fresh.setCell ?_ ?_ _ | with_reducible refine Fresh.trans ?_ (by assumption) | (simp; done) | (simp; omega)))).mono ?_; rintro e w1 ⟨rfl, h1⟩; obtain ⟨c1, f1⟩ := h1.cells; have z10 := h1.z (n := w.heap.size) (by first | assumption | (simp; done) | (simp; assumption) | (simp; omega)); have z11 := h1.z (n := w.heap.size + 1) (by first | assumption | (simp; done) | (simp; assumption) | (simp; omega)); have RB := Lib.hid (HB.out.later (by (repeat' first | with_reducible exact Fresh.refl _ | with_reducible assumption | with_reducible refine Fresh.alloc ?_ _ _ | with_reducible refine Fresh.drew ?_ | with_reducible refine Fresh.setCell ?_ ?_ _ | with_reducible refine Fresh.trans ?_ (by assumption) | (simp; done) | (simp; omega)) : Fresh w w1)); have p3 := RB.out.c3; have hp := look_n RB.out HK.out HP.out) | (go_at_call 26; refine (size_lit _ _ HC.out _).mono ?_; rintro e w' ⟨rfl, rfl⟩) | (go_at_call 34; refine (number_lit off m _ rfl _ _ HX.out HY.out HH.out.1 HH.out.2.1 HH.out.2.2.1 HH.out.2.2.2 (RB.out.later (by (repeat' first | with_reducible exact Fresh.refl _ | with_reducible assumption | with_reducible refine Fresh.alloc ?_ _ _ | with_reducible refine Fresh.drew ?_ | with_reducible refine Fresh.setCell ?_ ?_ _ | with_reducible refine Fresh.trans ?_ (by assumption) | (simp; done) | (simp; omega))))).mono ?_; rintro e w' ⟨rfl, rfl⟩) | (go_at_call 35; refine (valueOf_lit _ _ _ _ _ HV.out _).mono ?_; rintro e w2 ⟨rfl, h2⟩; obtain ⟨c2, f2⟩ := h2.cells; have z20 := h2.z (n := w.heap.size) (by first | assumption | (simp; done) | (simp; assumption) | (simp; omega)); have z21 := h2.z (n := w.heap.size + 1) (by first | assumption | (simp; done) | (simp; assumption) | (simp; omega))))
  all_goals go_light
  all_goals first | (refine bodyPost_ret (v := ?_) ?_ rfl ?_; rotate_left 1; focus (simp [results, Try.results15, go_sem, *]; (try rfl); done)) | go_returns
  all_goals exact ⟨rfl, by (repeat' first | with_reducible exact Fresh.refl _ | with_reducible assumption | with_reducible refine Fresh.alloc ?_ _ _ | with_reducible refine Fresh.drew ?_ | with_reducible refine Fresh.setCell ?_ ?_ _ | with_reducible refine Fresh.trans ?_ (by assumption) | (simp; done) | (simp; omega))⟩
end Go.Proofs.Ytjbflmpnmobngaa
