/- What is stored. -/
import Derived.Test.YtjbflmpnmobngaaMn
namespace Go.Proofs.Ytjbflmpnmobngaa
set_option linter.unusedSimpArgs false
set_option linter.unusedVariables false
open Go.RowKit

variable {w w' : World} {B : Nat} {sz : Int} {fx : Bool} {pg pt : Option Nat} {n1 n2 T : Nat} {row : Int → Option Nat} {cell : Nat → Int} {ptr : Int → Option (Int × Int × Int)} {own : Nat → Prop}
theorem fits_lit (c k : Int) (y : Bool) (h : fitsL c k = y) (w : World) : Calls Try.prog 41 #[.int .i64 c, .int .i64 k] w fun e w' => e = .returned (.bool y) ∧ w = w' := by
  subst h; exact fits_any c k w
def Stored (B : Nat) (sz : Int) (fx : Bool) (N : Nat) (cell' : Nat → Int) (ptr' : Int → Option (Int × Int × Int)) (F : Nat → Prop) (w : World) (e : Ending) (w' : World) : Prop :=
  e = .returned (.bool true) ∧ ∃ pg' pt' n1' n2' row', n1' ≤ N + 1 ∧ n2' ≤ N + 1 ∧ (∀ k, owns B pg' pt' row' k → F k ∨ w.heap.size ≤ k) ∧ BRep w' B sz fx pg' pt' n1' n2' row' cell' ptr' ∧ Sep w' B pg' pt' row' ∧ Touch F w w'
/-- What an inner call leaves, whichever. -/
def Left (B : Nat) (sz : Int) (fx : Bool) (N : Nat) (cell' : Nat → Int) (ptr' : Int → Option (Int × Int × Int)) (F : Nat → Prop) (w : World) (w' : World) : Prop :=
  ∃ pg' pt' n1' n2' row', n1' ≤ N + 1 ∧ n2' ≤ N + 1 ∧ (∀ k, owns B pg' pt' row' k → F k ∨ w.heap.size ≤ k) ∧ BRep w' B sz fx pg' pt' n1' n2' row' cell' ptr' ∧ Sep w' B pg' pt' row' ∧ Touch F w w'
theorem Left.back {N : Nat} {cell' : Nat → Int} {ptr' : Int → Option (Int × Int × Int)} {F : Nat → Prop} {w1 : World} (h : Left B sz fx N cell' ptr' F w1 w') (hf : Fresh w w1) : Left B sz fx N cell' ptr' F w w' := by
  obtain ⟨pg', pt', n1', n2', row', a, b, c, d, e, f⟩ := h
  exact ⟨pg', pt', n1', n2', row', a, b, fun k hk => by rcases c k hk with g | g; exact Or.inl g; exact Or.inr (Nat.le_trans hf.size g), d, e, (hf.touch F).trans f⟩
theorem Sep.later (h : Sep w B pg pt row) (hR : BRep w B sz fx pg pt n1 n2 row cell ptr) (hf : Fresh w w') : Sep w' B pg pt row :=
  h.kept (fun k hk => hf.below.block k (owns_lt hR h hk)) hf.size
theorem empty_left (off m N : Nat) (v : Int) (hv : v = (m : Int)) (hN1 : n1 ≤ N) (hN2 : n2 ≤ N) (hm : m ≤ 8) (hin : off % 4096 + m ≤ 4096) (hoff : (off : Int) + m ≤ sz) (hm0 : 0 < m) (h : BRep w B sz fx pg pt n1 n2 row cell ptr) (hS : Sep w B pg pt row) :
    Calls Try.prog 42 #[.pointer (some ⟨B, 0, none⟩), .int .i64 (off : Int), .int .i64 v] w fun e w' => e = .returned (.tuple #[]) ∧ Left B sz fx N (emptyC cell off m) (delP ptr ((off : Int) - (off : Int) % 8)) (owns B pg pt row) w w' := by
  subst hv
  exact (empty_int (off : Int) off m rfl hm hin hoff hm0 h hS).mono fun e w' ⟨a, b, c, d⟩ =>
    ⟨a, pg, pt, n1, n2, row, by omega, by omega, fun k hk => Or.inl hk, b, c, d.mono fun k hk => by rcases hk with g | g; exact Or.inr (Or.inr (Or.inl g)); exact Or.inr (Or.inr (Or.inr g))⟩
theorem put_left (off m N : Nat) (v x : Int) (hx : 0 ≤ x) (hv : v = (m : Int)) (hN1 : n1 ≤ N) (hN2 : n2 ≤ N) (hN : N < maxLen) (hm : m ≤ 8) (hin : off % 4096 + m ≤ 4096) (hoff : (off : Int) + m ≤ sz) (hm0 : 0 < m) (h : BRep w B sz fx pg pt n1 n2 row cell ptr) (hS : Sep w B pg pt row) :
    Calls Try.prog 44 #[.pointer (some ⟨B, 0, none⟩), .int .i64 (off : Int), .int .i64 v, .int .u64 x] w fun e w' => e = .returned (.tuple #[]) ∧ Left B sz fx N (putC cell off m x) (delP ptr ((off : Int) - (off : Int) % 8)) (owns B pg pt row) w w' := by
  subst hv
  exact (put_int (off : Int) off m x hx rfl hm hin hoff hm0 (by omega) h hS).mono fun e w' ⟨a, q, n1', row', b, c, d, f, g⟩ =>
    ⟨a, some q, pt, n1', n2, row', by omega, by omega, c, d, f, g⟩
theorem point_left (off N : Nat) (x y z : Int) (hN1 : n1 ≤ N) (hN2 : n2 ≤ N) (hN : N < maxLen) (hin : off % 4096 + 8 ≤ 4096) (hoff : (off : Int) + 8 ≤ sz) (h : BRep w B sz fx pg pt n1 n2 row cell ptr) (hS : Sep w B pg pt row) :
    Calls Try.prog 43 #[.pointer (some ⟨B, 0, none⟩), .int .i64 (off : Int), .agg #[.int .i64 x, .int .u64 y, .int .i64 z]] w fun e w' => e = .returned (.tuple #[]) ∧ Left B sz fx N (emptyC cell off 8) (putP (delP ptr ((off : Int) - (off : Int) % 8)) off (x, y, z)) (owns B pg pt row) w w' := by
  cases pt with
  | none =>
    exact (point_none (off : Int) off rfl x y z hin hoff h hS).mono fun e w' ⟨a, q, n2', b, c, d, f, g⟩ =>
      ⟨a, pg, some q, n1, n2', row, by omega, by omega, fun k hk => by
        rcases hk with i | i | i | i
        · exact Or.inl (Or.inl i)
        · exact Or.inl (Or.inr (Or.inl i))
        · injection i with i; subst i; exact c
        · exact Or.inl (Or.inr (Or.inr (Or.inr i))), d, f, g⟩
  | some q =>
    exact (point_some (off : Int) off q rfl x y z hin hoff (by omega) h hS).mono fun e w' ⟨a, b, c, d⟩ =>
      ⟨a, pg, some q, n1, n2 + 1, row, by omega, by omega, fun k hk => Or.inl hk, b, c, d.mono fun k hk => by rcases hk with g | g; exact Or.inr (Or.inr (Or.inl g)); exact Or.inr (Or.inr (Or.inr g))⟩
set_option maxHeartbeats 1000000 in
set_option maxRecDepth 100000 in
theorem store_bad (M : Nat) (c k n b k' n' b' : Int) (hre : Nowhere M c k n b w) :
    Calls Try.prog 17 #[.pointer (some ⟨M, 0, none⟩), .int .i64 c, .agg #[.int .i64 k, .int .u64 n, .int .i64 b], .agg #[.int .i64 k', .int .u64 n', .int .i64 b']] w fun e w' => e = .returned (.bool false) ∧ Fresh w w' := by
  have HR := Lib.hid hre
  clear hre
  go_enter Try.func17, Try.ntmps17
  go_wp2_with (go_at_call 33; refine (HR.out _ (by (repeat' first | with_reducible exact Fresh.refl _ | with_reducible assumption | with_reducible refine Fresh.alloc ?_ _ _ | with_reducible refine Fresh.drew ?_ | with_reducible refine Fresh.setCell ?_ ?_ _ | with_reducible refine Fresh.trans ?_ (by assumption) | (simp; done) | (simp; omega)))).mono ?_; rintro e w1 ⟨rfl, h1⟩; obtain ⟨c1, f1⟩ := h1.cells; have z10 := h1.z (n := w.heap.size) (by first | assumption | (simp; done) | (simp; assumption) | (simp; omega)); have z11 := h1.z (n := w.heap.size + 1) (by first | assumption | (simp; done) | (simp; assumption) | (simp; omega)); have hw1 := (by (repeat' first | with_reducible exact Fresh.refl _ | with_reducible assumption | with_reducible refine Fresh.alloc ?_ _ _ | with_reducible refine Fresh.drew ?_ | with_reducible refine Fresh.setCell ?_ ?_ _ | with_reducible refine Fresh.trans ?_ (by assumption) | (simp; done) | (simp; omega)) : Fresh w w1))
  all_goals go_light
  all_goals go_returns
  all_goals exact ⟨rfl, by (repeat' first | with_reducible exact Fresh.refl _ | with_reducible assumption | with_reducible refine Fresh.alloc ?_ _ _ | with_reducible refine Fresh.drew ?_ | with_reducible refine Fresh.setCell ?_ ?_ _ | with_reducible refine Fresh.trans ?_ (by assumption) | (simp; done) | (simp; omega))⟩
set_option maxHeartbeats 1000000 in
set_option maxRecDepth 100000 in
theorem store_fixed (M : Nat) (c k n b k' n' b' : Int) (off : Nat) (hre : Goes M c k n b B off w) (hR : BRep w B sz true pg pt n1 n2 row cell ptr) :
    Calls Try.prog 17 #[.pointer (some ⟨M, 0, none⟩), .int .i64 c, .agg #[.int .i64 k, .int .u64 n, .int .i64 b], .agg #[.int .i64 k', .int .u64 n', .int .i64 b']] w fun e w' => e = .returned (.bool false) ∧ Fresh w w' := by
  have HR := Lib.hid hre
  have HB := Lib.hid hR
  clear hre hR
  go_enter Try.func17, Try.ntmps17
  go_wp2_with (go_at_call 33; refine (HR.out _ (by (repeat' first | with_reducible exact Fresh.refl _ | with_reducible assumption | with_reducible refine Fresh.alloc ?_ _ _ | with_reducible refine Fresh.drew ?_ | with_reducible refine Fresh.setCell ?_ ?_ _ | with_reducible refine Fresh.trans ?_ (by assumption) | (simp; done) | (simp; omega)))).mono ?_; rintro e w1 ⟨rfl, h1⟩; obtain ⟨c1, f1⟩ := h1.cells; have z10 := h1.z (n := w.heap.size) (by first | assumption | (simp; done) | (simp; assumption) | (simp; omega)); have z11 := h1.z (n := w.heap.size + 1) (by first | assumption | (simp; done) | (simp; assumption) | (simp; omega)); have hw1 := (by (repeat' first | with_reducible exact Fresh.refl _ | with_reducible assumption | with_reducible refine Fresh.alloc ?_ _ _ | with_reducible refine Fresh.drew ?_ | with_reducible refine Fresh.setCell ?_ ?_ _ | with_reducible refine Fresh.trans ?_ (by assumption) | (simp; done) | (simp; omega)) : Fresh w w1); have p1 := (HB.out.later hw1).c1)
  all_goals go_light
  all_goals go_returns
  all_goals exact ⟨rfl, by (repeat' first | with_reducible exact Fresh.refl _ | with_reducible assumption | with_reducible refine Fresh.alloc ?_ _ _ | with_reducible refine Fresh.drew ?_ | with_reducible refine Fresh.setCell ?_ ?_ _ | with_reducible refine Fresh.trans ?_ (by assumption) | (simp; done) | (simp; omega))⟩
set_option maxHeartbeats 1000000 in
set_option maxRecDepth 100000 in
theorem store_misfit (M : Nat) (c k n b k' n' b' : Int) (off : Nat) (hf : fitsL c k' = false) (hre : Goes M c k n b B off w) (hR : BRep w B sz false pg pt n1 n2 row cell ptr) :
    Calls Try.prog 17 #[.pointer (some ⟨M, 0, none⟩), .int .i64 c, .agg #[.int .i64 k, .int .u64 n, .int .i64 b], .agg #[.int .i64 k', .int .u64 n', .int .i64 b']] w fun e w' => e = .returned (.bool false) ∧ Fresh w w' := by
  have HR := Lib.hid hre
  have HB := Lib.hid hR
  have HF := Lib.hid hf
  clear hre hR hf
  go_enter Try.func17, Try.ntmps17
  go_wp2_with (first | (go_at_call 33; refine (HR.out _ (by (repeat' first | with_reducible exact Fresh.refl _ | with_reducible assumption | with_reducible refine Fresh.alloc ?_ _ _ | with_reducible refine Fresh.drew ?_ | with_reducible refine Fresh.setCell ?_ ?_ _ | with_reducible refine Fresh.trans ?_ (by assumption) | (simp; done) | (simp; omega)))).mono ?_; rintro e w1 ⟨rfl, h1⟩; obtain ⟨c1, f1⟩ := h1.cells; have z10 := h1.z (n := w.heap.size) (by first | assumption | (simp; done) | (simp; assumption) | (simp; omega)); have z11 := h1.z (n := w.heap.size + 1) (by first | assumption | (simp; done) | (simp; assumption) | (simp; omega)); have hw1 := (by (repeat' first | with_reducible exact Fresh.refl _ | with_reducible assumption | with_reducible refine Fresh.alloc ?_ _ _ | with_reducible refine Fresh.drew ?_ | with_reducible refine Fresh.setCell ?_ ?_ _ | with_reducible refine Fresh.trans ?_ (by assumption) | (simp; done) | (simp; omega)) : Fresh w w1); have p1 := (HB.out.later hw1).c1) | (go_at_call 41; refine (fits_lit _ _ _ HF.out _).mono ?_; rintro e w' ⟨rfl, rfl⟩))
  all_goals go_light
  all_goals go_returns
  all_goals exact ⟨rfl, by (repeat' first | with_reducible exact Fresh.refl _ | with_reducible assumption | with_reducible refine Fresh.alloc ?_ _ _ | with_reducible refine Fresh.drew ?_ | with_reducible refine Fresh.setCell ?_ ?_ _ | with_reducible refine Fresh.trans ?_ (by assumption) | (simp; done) | (simp; omega))⟩
set_option maxHeartbeats 2000000 in
set_option maxRecDepth 100000 in
theorem store_undef (M : Nat) (c k n b n' b' : Int) (off m N : Nat) (hf : fitsL c 0 = true) (hre : Goes M c k n b B off w) (hR : BRep w B sz false pg pt n1 n2 row cell ptr) (hS : Sep w B pg pt row) (hN1 : n1 ≤ N) (hN2 : n2 ≤ N) (hN : N < maxLen) (hc : sizeL c = (m : Int)) (hm : m ≤ 8) (hin : off % 4096 + m ≤ 4096) (hoff : (off : Int) + m ≤ sz) (hm0 : 0 < m) :
    Calls Try.prog 17 #[.pointer (some ⟨M, 0, none⟩), .int .i64 c, .agg #[.int .i64 k, .int .u64 n, .int .i64 b], .agg #[.int .i64 0, .int .u64 n', .int .i64 b']] w (Stored B sz false N (emptyC cell off m) (delP ptr ((off : Int) - (off : Int) % 8)) (owns B pg pt row) w) := by
  have HR := Lib.hid hre
  have HB := Lib.hid hR
  have HS := Lib.hid hS
  have HF := Lib.hid hf
  have HC := Lib.hid hc
  have HH : Hid (m ≤ 8 ∧ off % 4096 + m ≤ 4096 ∧ (off : Int) + m ≤ sz ∧ 0 < m) := Lib.hid ⟨hm, hin, hoff, hm0⟩
  have HN : Hid (n1 ≤ N ∧ n2 ≤ N ∧ N < maxLen) := Lib.hid ⟨hN1, hN2, hN⟩
  clear hre hR hS hf hc hm hin hoff hm0 hN1 hN2 hN
  go_enter Try.func17, Try.ntmps17
  go_wp2_with (first | (go_at_call 33; refine (HR.out _ (by (repeat' first | with_reducible exact Fresh.refl _ | with_reducible assumption | with_reducible refine Fresh.alloc ?_ _ _ | with_reducible refine Fresh.drew ?_ | with_reducible refine Fresh.setCell ?_ ?_ _ | with_reducible refine Fresh.trans ?_ (by assumption) | (simp; done) | (simp; omega)))).mono ?_; rintro e w1 ⟨rfl, h1⟩; obtain ⟨c1, f1⟩ := h1.cells; have z10 := h1.z (n := w.heap.size) (by first | assumption | (simp; done) | (simp; assumption) | (simp; omega)); have z11 := h1.z (n := w.heap.size + 1) (by first | assumption | (simp; done) | (simp; assumption) | (simp; omega)); have hw1 := (by (repeat' first | with_reducible exact Fresh.refl _ | with_reducible assumption | with_reducible refine Fresh.alloc ?_ _ _ | with_reducible refine Fresh.drew ?_ | with_reducible refine Fresh.setCell ?_ ?_ _ | with_reducible refine Fresh.trans ?_ (by assumption) | (simp; done) | (simp; omega)) : Fresh w w1); have p1 := (HB.out.later hw1).c1; have RB := Lib.hid (HB.out.later hw1); have RS := Lib.hid (HS.out.later HB.out hw1)) | (go_at_call 41; refine (fits_lit _ _ _ HF.out _).mono ?_; rintro e w' ⟨rfl, rfl⟩) | (go_at_call 26; refine (size_lit _ _ HC.out _).mono ?_; rintro e w' ⟨rfl, rfl⟩) | (go_at_call 42; refine (empty_left off m N _ rfl HN.out.1 HN.out.2.1 HH.out.1 HH.out.2.1 HH.out.2.2.1 HH.out.2.2.2 RB.out RS.out).mono ?_; rintro e w2 ⟨rfl, hl⟩))
  all_goals go_light
  all_goals go_returns
  all_goals exact ⟨rfl, hl.back hw1⟩
end Go.Proofs.Ytjbflmpnmobngaa
