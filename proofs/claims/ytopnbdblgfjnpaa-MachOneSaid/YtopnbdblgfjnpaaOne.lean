/-
  The program gives the document's answer at every operation of one, every Truth, Right and Same. No condition.
-/
import Derived.Test.YtopnbdblgfjnpaaOf
import Derived.Test.YtopnbdblgfjnpaaJ
import Derived.ProofKit
import Derived.OpenShut
import Derived.Lib.SmallJoins
namespace Go.Proofs.Ytopnbdblgfjnpaa.machOne
set_option linter.unusedSimpArgs false
set_option linter.unusedVariables false
open Go.ChangeShapes Go.WideShapes Go.ChangeAt Go.RowKit Go.Joins

theorem own : ownKnob Try.prog.godebug = none := by kernel_rfl
theorem cells24 : Try.prog.cellsOf 24 = 3 := by kernel_rfl
theorem u64_wf {n : Int} (h : (Lit.int .u64 n).wf = true) : 0 ≤ n ∧ n < 18446744073709551616 := by
  simp [Lit.wf, IntKind.min, IntKind.max, IntKind.signed, IntKind.bits] at h
  omega
theorem evalT_at (o k n b : Int) (w : World) : Calls Try.prog 13 #[.int .i64 o, .agg #[.int .i64 k, .int .u64 n, .int .i64 b]] w fun e w' =>
    ∃ (t : Nat) (x y z : Int) (c : Bool), e = .returned (.tuple #[.agg #[.int .i64 x, .int .u64 y, .int .i64 z], .bool c]) ∧ Fresh w w' ∧ TruncOf n.toNat t ∧ eval1L o k n t = ((x, y, z), c) :=
  (evalT_any o k n b w).mono fun e w' ⟨t, he, hf, hT⟩ => ⟨t, _, _, _, _, he, hf, hT, rfl⟩
theorem truth_at (k n b : Int) (x y : Bool) (h : truthL k n = (x, y)) (w : World) : Calls Try.prog 15 #[.agg #[.int .i64 k, .int .u64 n, .int .i64 b]] w fun e w' => e = .returned (.tuple #[.bool x, .bool y]) ∧ Fresh w w' := by
  have := truth_any k n b w
  rw [h] at this; exact this
theorem rtruth_at (k n b : Int) (x y : Bool) (h : truthL k n = (x, y)) (h0 : 0 ≤ n) (h1 : n < 18446744073709551616) (w : World) : Calls Try.prog 16 #[.agg #[.int .i64 k, .int .u64 n, .int .i64 b]] w fun e w' => e = .returned (.tuple #[.bool x, .bool y]) ∧ Fresh w w' := by
  have := rtruth_any k n b h0 h1 w
  rw [h] at this; exact this
theorem right_at (k n b : Int) (x : Bool) (h : rightL k n b = x) (w : World) : Calls Try.prog 17 #[.agg #[.int .i64 k, .int .u64 n, .int .i64 b]] w fun e w' => e = .returned (.bool x) ∧ Fresh w w' := by
  subst h; exact right_any k n b w
theorem rright_at (k n b : Int) (x : Bool) (h : rightL k n b = x) (w : World) : Calls Try.prog 18 #[.agg #[.int .i64 k, .int .u64 n, .int .i64 b]] w fun e w' => e = .returned (.bool x) ∧ Fresh w w' := by
  subst h; exact rright_any k n b w
theorem same_at (k n b k' n' b' : Int) (x : Bool) (h : sameL k n b k' n' b' = x) (w : World) :
    Calls Try.prog 19 #[.agg #[.int .i64 k, .int .u64 n, .int .i64 b], .agg #[.int .i64 k', .int .u64 n', .int .i64 b']] w fun e w' => e = .returned (.bool x) ∧ Fresh w w' := by
  subst h; exact same_any k n b k' n' b' w

set_option maxRecDepth 100000 in
set_option maxHeartbeats 4000000 in
theorem walk (a0 : Int) (k1 n1 b1 : Int) (k2 n2 b2 : Int) (w0 : (Lit.int .i64 a0).wf = true) (wk1 : (Lit.int .i64 k1).wf = true) (wn1 : (Lit.int .u64 n1).wf = true) (wb1 : (Lit.int .i64 b1).wf = true) (wk2 : (Lit.int .i64 k2).wf = true) (wn2 : (Lit.int .u64 n2).wf = true) (wb2 : (Lit.int .i64 b2).wf = true) (w : World) :
    Calls Try.prog 4 #[.int .i64 a0, .agg #[.int .i64 k1, .int .u64 n1, .int .i64 b1], .agg #[.int .i64 k2, .int .u64 n2, .int .i64 b2]] w fun e w' => e = .returned (.bool true) ∧ Fresh w w' := by
  have hn := Lib.hid (u64_wf wn1)
  obtain ⟨t1, t2, ht⟩ : ∃ x y, truthL k1 n1 = (x, y) := ⟨_, _, rfl⟩
  have HT := Lib.hid ht
  obtain ⟨r1, hr⟩ : ∃ x, rightL k1 n1 b1 = x := ⟨_, rfl⟩
  have HR := Lib.hid hr
  clear ht hr
  go_enter Try.func4, Try.ntmps4
  go_wp2_with fail
  go_at_call 10; refine (fixed_any _).mono ?_; rintro e w1 ⟨rfl, h1⟩; obtain ⟨c1, f1⟩ := h1.cells; have z10 := h1.z (n := w.heap.size) (by first | assumption | (simp; done) | (simp; assumption) | (simp; omega)); have z11 := h1.z (n := w.heap.size + 1) (by first | assumption | (simp; done) | (simp; assumption) | (simp; omega))
  have o1 := ((Own.new w k1 n1 b1).later ((Fresh.refl _).alloc #[.int .i64 k2, .int .u64 n2, .int .i64 b2] 24)).later h1
  have o2 := (Own.new (w.alloc (.cells #[.int .i64 k1, .int .u64 n1, .int .i64 b1] 24)) k2 n2 b2).later h1
  have g1 : Fresh w w1 := (((Fresh.refl w).alloc #[.int .i64 k1, .int .u64 n1, .int .i64 b1] 24).alloc #[.int .i64 k2, .int .u64 n2, .int .i64 b2] 24).trans h1
  go_wp2_with fail
  go_at_call 13; refine (evalT_at _ _ _ _ _).mono ?_; rintro e w2 ⟨t, x, y, z, c, rfl, h2, hT, hv⟩; have HV := Lib.hid hv; have HTT := Lib.hid hT; clear hv hT; obtain ⟨c2, f2⟩ := h2.cells; have z20 := h2.z (n := w.heap.size) (by first | assumption | (simp; done) | (simp; assumption) | (simp; omega)); have z21 := h2.z (n := w.heap.size + 1) (by first | assumption | (simp; done) | (simp; assumption) | (simp; omega))
  have g2 := g1.trans h2
  have p1 := (o1.later h2).later ((Fresh.refl _).alloc #[.int .i64 x, .int .u64 y, .int .i64 z] 24)
  have p2 := (o2.later h2).later ((Fresh.refl _).alloc #[.int .i64 x, .int .u64 y, .int .i64 z] 24)
  have p3 := Own.new w2 x y z
  have g2' := g2.alloc #[.int .i64 x, .int .u64 y, .int .i64 z] 24
  go_wp2_with fail
  go_at_call 14; refine (reval_at _ _ _ _ hn.out.1 hn.out.2 HTT.out _ _ _ _ HV.out _).mono ?_; rintro e w3 ⟨rfl, h3⟩; obtain ⟨c3, f3⟩ := h3.cells; have z30 := h3.z (n := w.heap.size) (by first | assumption | (simp; done) | (simp; assumption) | (simp; omega)); have z31 := h3.z (n := w.heap.size + 1) (by first | assumption | (simp; done) | (simp; assumption) | (simp; omega)); have z32 := h3.z (n := w2.heap.size) (by first | assumption | (simp; done) | (simp; assumption) | (simp; omega))
  have q1 := (p1.later h3).later ((Fresh.refl _).alloc #[.int .i64 x, .int .u64 y, .int .i64 z] 24)
  have q2 := (p2.later h3).later ((Fresh.refl _).alloc #[.int .i64 x, .int .u64 y, .int .i64 z] 24)
  have q3 := (p3.later h3).later ((Fresh.refl _).alloc #[.int .i64 x, .int .u64 y, .int .i64 z] 24)
  have q4 := Own.new w3 x y z
  have g3' := (g2'.trans h3).alloc #[.int .i64 x, .int .u64 y, .int .i64 z] 24
  clear o1 o2 p1 p2 p3 g1 g2 g2'
  go_wp2_with fail
  go_at_call 15; refine (truth_at _ _ _ _ _ HT.out _).mono ?_; rintro e w4 ⟨rfl, h4⟩; obtain ⟨c4, f4⟩ := h4.cells; have z40 := h4.z (n := w.heap.size) (by first | assumption | (simp; done) | (simp; assumption) | (simp; omega)); have z41 := h4.z (n := w.heap.size + 1) (by first | assumption | (simp; done) | (simp; assumption) | (simp; omega)); have z42 := h4.z (n := w2.heap.size) (by first | assumption | (simp; done) | (simp; assumption) | (simp; omega)); have z43 := h4.z (n := w3.heap.size) (by first | assumption | (simp; done) | (simp; assumption) | (simp; omega))
  go_wp2_with fail
  go_at_call 16; refine (rtruth_at _ _ _ _ _ HT.out hn.out.1 hn.out.2 _).mono ?_; rintro e w5 ⟨rfl, h5⟩; obtain ⟨c5, f5⟩ := h5.cells; have z50 := h5.z (n := w.heap.size) (by first | assumption | (simp; done) | (simp; assumption) | (simp; omega)); have z51 := h5.z (n := w.heap.size + 1) (by first | assumption | (simp; done) | (simp; assumption) | (simp; omega)); have z52 := h5.z (n := w2.heap.size) (by first | assumption | (simp; done) | (simp; assumption) | (simp; omega)); have z53 := h5.z (n := w3.heap.size) (by first | assumption | (simp; done) | (simp; assumption) | (simp; omega))
  go_wp2_with fail
  have r1 := (q1.later h4).later h5
  have r2 := (q2.later h4).later h5
  have r3 := (q3.later h4).later h5
  have r4 := (q4.later h4).later h5
  have g5 := (g3'.trans h4).trans h5
  clear q1 q2 q3 q4 g3'
  clear h1 h2 h3 h4 h5 c1 c2 c3 c4 c5 f1 f2 f3 f4 f5
  have r2 : Own w5 (w.heap.size + 1) k2 n2 b2 := by simpa using r2
  generalize w.heap.size + 1 = B2 at r2 ⊢
  generalize w.heap.size = B1 at r1 ⊢
  generalize w2.heap.size = B3 at r3 ⊢
  generalize w3.heap.size = B4 at r4 ⊢
  have r1 := r1.drew
  have r2 := r2.drew
  have r3 := r3.drew
  have r4 := r4.drew
  by_cases e1 : k1 = k2
  · by_cases e2 : n1 = n2
    · by_cases e3 : b1 = b2
      · obtain rfl := e1; obtain rfl := e2; obtain rfl := e3; have HS : Hid (sameL k1 n1 b1 k1 n1 b1 = true) := Lib.hid (by simp [sameL])
        go_region_held3 (fun w' => w'.cell? ⟨B1, 0, none⟩ = some (.int .i64 k1) ∧ w'.cell? ⟨B1, 1, none⟩ = some (.int .u64 n1) ∧ w'.cell? ⟨B1, 2, none⟩ = some (.int .i64 b1) ∧ w'.cell? ⟨B2, 0, none⟩ = some (.int .i64 k1) ∧ w'.cell? ⟨B2, 1, none⟩ = some (.int .u64 n1) ∧ w'.cell? ⟨B2, 2, none⟩ = some (.int .i64 b1) ∧ w'.cell? ⟨B3, 0, none⟩ = some (.int .i64 x) ∧ w'.cell? ⟨B3, 1, none⟩ = some (.int .u64 y) ∧ w'.cell? ⟨B3, 2, none⟩ = some (.int .i64 z) ∧ w'.cell? ⟨B4, 0, none⟩ = some (.int .i64 x) ∧ w'.cell? ⟨B4, 1, none⟩ = some (.int .u64 y) ∧ w'.cell? ⟨B4, 2, none⟩ = some (.int .i64 z)) (exact ⟨r1.c0, r1.c1, r1.c2, r2.c0, r2.c1, r2.c2, r3.c0, r3.c1, r3.c2, r4.c0, r4.c1, r4.c2⟩) (first | (go_at_call 17; refine (right_at _ _ _ _ HR.out _).mono ?_; rintro e w1 ⟨rfl, h1⟩; have r1 := r1.later h1; have r2 := r2.later h1; have r3 := r3.later h1; have r4 := r4.later h1) | (go_at_call 18; refine (rright_at _ _ _ _ HR.out _).mono ?_; rintro e w1 ⟨rfl, h1⟩; have r1 := r1.later h1; have r2 := r2.later h1; have r3 := r3.later h1; have r4 := r4.later h1) | (go_at_call 19; refine (same_at _ _ _ _ _ _ true HS.out _).mono ?_; rintro e w1 ⟨rfl, h1⟩; have r1 := r1.later h1; have r2 := r2.later h1; have r3 := r3.later h1; have r4 := r4.later h1))
        all_goals (try go_wp2)
        all_goals go_light
        all_goals go_returns
        all_goals exact ⟨rfl, (by (repeat' first | with_reducible exact Fresh.refl _ | with_reducible assumption | with_reducible refine Fresh.alloc ?_ _ _ | with_reducible refine Fresh.drew ?_ | with_reducible refine Fresh.setCell ?_ ?_ _ | with_reducible refine Fresh.trans ?_ (by assumption) | (simp; done) | (simp; omega)))⟩
      · obtain rfl := e1; obtain rfl := e2; have HS : Hid (sameL k1 n1 b1 k1 n1 b2 = false) := Lib.hid (by simp [sameL, e3])
        go_region_held3 (fun w' => w'.cell? ⟨B1, 0, none⟩ = some (.int .i64 k1) ∧ w'.cell? ⟨B1, 1, none⟩ = some (.int .u64 n1) ∧ w'.cell? ⟨B1, 2, none⟩ = some (.int .i64 b1) ∧ w'.cell? ⟨B2, 0, none⟩ = some (.int .i64 k1) ∧ w'.cell? ⟨B2, 1, none⟩ = some (.int .u64 n1) ∧ w'.cell? ⟨B2, 2, none⟩ = some (.int .i64 b2) ∧ w'.cell? ⟨B3, 0, none⟩ = some (.int .i64 x) ∧ w'.cell? ⟨B3, 1, none⟩ = some (.int .u64 y) ∧ w'.cell? ⟨B3, 2, none⟩ = some (.int .i64 z) ∧ w'.cell? ⟨B4, 0, none⟩ = some (.int .i64 x) ∧ w'.cell? ⟨B4, 1, none⟩ = some (.int .u64 y) ∧ w'.cell? ⟨B4, 2, none⟩ = some (.int .i64 z)) (exact ⟨r1.c0, r1.c1, r1.c2, r2.c0, r2.c1, r2.c2, r3.c0, r3.c1, r3.c2, r4.c0, r4.c1, r4.c2⟩) (first | (go_at_call 17; refine (right_at _ _ _ _ HR.out _).mono ?_; rintro e w1 ⟨rfl, h1⟩; have r1 := r1.later h1; have r2 := r2.later h1; have r3 := r3.later h1; have r4 := r4.later h1) | (go_at_call 18; refine (rright_at _ _ _ _ HR.out _).mono ?_; rintro e w1 ⟨rfl, h1⟩; have r1 := r1.later h1; have r2 := r2.later h1; have r3 := r3.later h1; have r4 := r4.later h1) | (go_at_call 19; refine (same_at _ _ _ _ _ _ false HS.out _).mono ?_; rintro e w1 ⟨rfl, h1⟩; have r1 := r1.later h1; have r2 := r2.later h1; have r3 := r3.later h1; have r4 := r4.later h1))
        all_goals (try go_wp2)
        all_goals go_light
        all_goals go_returns
        all_goals exact ⟨rfl, (by (repeat' first | with_reducible exact Fresh.refl _ | with_reducible assumption | with_reducible refine Fresh.alloc ?_ _ _ | with_reducible refine Fresh.drew ?_ | with_reducible refine Fresh.setCell ?_ ?_ _ | with_reducible refine Fresh.trans ?_ (by assumption) | (simp; done) | (simp; omega)))⟩
    · obtain rfl := e1; have HS : Hid (sameL k1 n1 b1 k1 n2 b2 = false) := Lib.hid (by simp [sameL, e2])
      go_region_held3 (fun w' => w'.cell? ⟨B1, 0, none⟩ = some (.int .i64 k1) ∧ w'.cell? ⟨B1, 1, none⟩ = some (.int .u64 n1) ∧ w'.cell? ⟨B1, 2, none⟩ = some (.int .i64 b1) ∧ w'.cell? ⟨B2, 0, none⟩ = some (.int .i64 k1) ∧ w'.cell? ⟨B2, 1, none⟩ = some (.int .u64 n2) ∧ w'.cell? ⟨B2, 2, none⟩ = some (.int .i64 b2) ∧ w'.cell? ⟨B3, 0, none⟩ = some (.int .i64 x) ∧ w'.cell? ⟨B3, 1, none⟩ = some (.int .u64 y) ∧ w'.cell? ⟨B3, 2, none⟩ = some (.int .i64 z) ∧ w'.cell? ⟨B4, 0, none⟩ = some (.int .i64 x) ∧ w'.cell? ⟨B4, 1, none⟩ = some (.int .u64 y) ∧ w'.cell? ⟨B4, 2, none⟩ = some (.int .i64 z)) (exact ⟨r1.c0, r1.c1, r1.c2, r2.c0, r2.c1, r2.c2, r3.c0, r3.c1, r3.c2, r4.c0, r4.c1, r4.c2⟩) (first | (go_at_call 17; refine (right_at _ _ _ _ HR.out _).mono ?_; rintro e w1 ⟨rfl, h1⟩; have r1 := r1.later h1; have r2 := r2.later h1; have r3 := r3.later h1; have r4 := r4.later h1) | (go_at_call 18; refine (rright_at _ _ _ _ HR.out _).mono ?_; rintro e w1 ⟨rfl, h1⟩; have r1 := r1.later h1; have r2 := r2.later h1; have r3 := r3.later h1; have r4 := r4.later h1) | (go_at_call 19; refine (same_at _ _ _ _ _ _ false HS.out _).mono ?_; rintro e w1 ⟨rfl, h1⟩; have r1 := r1.later h1; have r2 := r2.later h1; have r3 := r3.later h1; have r4 := r4.later h1))
      all_goals (try go_wp2)
      all_goals go_light
      all_goals go_returns
      all_goals exact ⟨rfl, (by (repeat' first | with_reducible exact Fresh.refl _ | with_reducible assumption | with_reducible refine Fresh.alloc ?_ _ _ | with_reducible refine Fresh.drew ?_ | with_reducible refine Fresh.setCell ?_ ?_ _ | with_reducible refine Fresh.trans ?_ (by assumption) | (simp; done) | (simp; omega)))⟩
  · have HS : Hid (sameL k1 n1 b1 k2 n2 b2 = false) := Lib.hid (by simp [sameL, e1])
    go_region_held3 (fun w' => w'.cell? ⟨B1, 0, none⟩ = some (.int .i64 k1) ∧ w'.cell? ⟨B1, 1, none⟩ = some (.int .u64 n1) ∧ w'.cell? ⟨B1, 2, none⟩ = some (.int .i64 b1) ∧ w'.cell? ⟨B2, 0, none⟩ = some (.int .i64 k2) ∧ w'.cell? ⟨B2, 1, none⟩ = some (.int .u64 n2) ∧ w'.cell? ⟨B2, 2, none⟩ = some (.int .i64 b2) ∧ w'.cell? ⟨B3, 0, none⟩ = some (.int .i64 x) ∧ w'.cell? ⟨B3, 1, none⟩ = some (.int .u64 y) ∧ w'.cell? ⟨B3, 2, none⟩ = some (.int .i64 z) ∧ w'.cell? ⟨B4, 0, none⟩ = some (.int .i64 x) ∧ w'.cell? ⟨B4, 1, none⟩ = some (.int .u64 y) ∧ w'.cell? ⟨B4, 2, none⟩ = some (.int .i64 z)) (exact ⟨r1.c0, r1.c1, r1.c2, r2.c0, r2.c1, r2.c2, r3.c0, r3.c1, r3.c2, r4.c0, r4.c1, r4.c2⟩) (first | (go_at_call 17; refine (right_at _ _ _ _ HR.out _).mono ?_; rintro e w1 ⟨rfl, h1⟩; have r1 := r1.later h1; have r2 := r2.later h1; have r3 := r3.later h1; have r4 := r4.later h1) | (go_at_call 18; refine (rright_at _ _ _ _ HR.out _).mono ?_; rintro e w1 ⟨rfl, h1⟩; have r1 := r1.later h1; have r2 := r2.later h1; have r3 := r3.later h1; have r4 := r4.later h1) | (go_at_call 19; refine (same_at _ _ _ _ _ _ false HS.out _).mono ?_; rintro e w1 ⟨rfl, h1⟩; have r1 := r1.later h1; have r2 := r2.later h1; have r3 := r3.later h1; have r4 := r4.later h1))
    all_goals (try go_wp2)
    all_goals go_light
    all_goals go_returns
    all_goals exact ⟨rfl, (by (repeat' first | with_reducible exact Fresh.refl _ | with_reducible assumption | with_reducible refine Fresh.alloc ?_ _ _ | with_reducible refine Fresh.drew ?_ | with_reducible refine Fresh.setCell ?_ ?_ _ | with_reducible refine Fresh.trans ?_ (by assumption) | (simp; done) | (simp; omega)))⟩
set_option maxRecDepth 100000 in
theorem lifted (os : Os) (started : os.Started) (H : Type) (enc : TypeId × Value → H) :
    ReturnsInHanded {} Try.checked os 4 .any (Rows.machOneSpec.pre6 enc Try.prog Try.f4 Rows.machOneRow.domain false) (Rows.machOneSpec.post enc Try.prog Try.f4 false true false false) := by
  refine returnsInHanded_of_change (C := Try.checked) own started (by kernel_rfl) Try.func4
    (ChangeSpec.witness6 (enc := enc) (C := Try.checked) false ⟨#[], #[.int .i64 0, .agg #[.int .i64 0, .int .u64 0, .int .i64 0], .agg #[.int .i64 0, .int .u64 0, .int .i64 0]], []⟩ 8 (by kernel_rfl) (by kernel_rfl) (by kernel_rfl) (by kernel_rfl)) ?_
  intro W base args ds gs before hval0 hW hcnd _
  have hval : ∀ (j : Nat) t v, Try.f4.params[j]? = some t → args[j]? = some v → Value.okWide Try.prog W .any base t v := hval0
  have hW' := hW
  obtain ⟨p, q, hA0, hV, rfl, hfz, hnd⟩ := hW
  have hA : DataW.TrodAll enc Try.prog W 0 (fun _ => true) true Try.f4.params.toList args.toList ds p := hA0
  rw [Try.params4] at hA hval
  obtain ⟨v0, vs0, d0, ds0, p0, q0, hargs, rfl, rfl, h0, r0⟩ := trodAll_cons hA
  obtain ⟨v1, vs1, d1, ds1, p1, q1, rfl, rfl, rfl, h1, r1⟩ := trodAll_cons r0
  obtain ⟨v2, vs2, d2, ds2, p2, q2, rfl, rfl, rfl, h2, r2⟩ := trodAll_cons r1
  obtain ⟨rfl, rfl, rfl⟩ := trodAll_nil r2
  obtain rfl : args = #[v0, v1, v2] := by cases args; simp_all
  obtain ⟨rfl, rfl⟩ := trodVars_none hV
  obtain ⟨a0, rfl, rfl, rfl, w0⟩ := open_int Try.underlying3 (hval 0 3 v0 rfl rfl) h0
  obtain ⟨x10, x11, x12, y10, y11, y12, m1, rfl, rfl, rfl, g10, g11, g12⟩ := open_agg3 Try.underlying24 (by kernel_rfl) cells24 (hval 1 24 v1 rfl rfl) h1
  obtain ⟨k1, e10, rfl, wk1⟩ := DataW.trod_int Try.underlying3 g10
  obtain ⟨n1, e11, rfl, wn1⟩ := DataW.trod_int Try.underlying22 g11
  obtain ⟨b1, e12, rfl, wb1⟩ := DataW.trod_int Try.underlying3 g12
  simp at e10 e11 e12
  subst e10 e11 e12
  obtain ⟨x20, x21, x22, y20, y21, y22, m2, rfl, rfl, rfl, g20, g21, g22⟩ := open_agg3 Try.underlying24 (by kernel_rfl) cells24 (hval 2 24 v2 rfl rfl) h2
  obtain ⟨k2, e20, rfl, wk2⟩ := DataW.trod_int Try.underlying3 g20
  obtain ⟨n2, e21, rfl, wn2⟩ := DataW.trod_int Try.underlying22 g21
  obtain ⟨b2, e22, rfl, wb2⟩ := DataW.trod_int Try.underlying3 g22
  simp at e20 e21 e22
  subst e20 e21 e22
  clear hA0 hval0
  simp only [List.append_nil] at hW'
  have structReads : ∀ (W' : World) (sp : Nat → Bool) (k n b : Int), (Lit.int .i64 k).wf = true → (Lit.int .u64 n).wf = true → (Lit.int .i64 b).wf = true →
      DataW.Trod enc Try.prog W' 0 sp true 24 (.agg #[.int .i64 k, .int .u64 n, .int .i64 b]) (.agg [.lit (.int .i64 k), .lit (.int .u64 n), .lit (.int .i64 b)]) [] := fun W' sp k n b wk wn wb =>
    shut_agg3 (y0 := (.lit (.int .i64 k), [])) (y1 := (.lit (.int .u64 n), [])) (y2 := (.lit (.int .i64 b), [])) Try.underlying24 (by kernel_rfl) cells24 ⟨1, by simp [DataW.trod, Try.underlying3, wk]⟩ ⟨1, by simp [DataW.trod, Try.underlying22, wn]⟩ ⟨1, by simp [DataW.trod, Try.underlying3, wb]⟩
  refine (walk a0 k1 n1 b1 k2 n2 b2 w0 wk1 wn1 wb1 wk2 wn2 wb2 W).mono fun e W' ⟨he, hg⟩ => ?_
  subst he
  exact ⟨_, rfl, post_of_same (pa := []) (pv := []) hW' (fun _ _ _ => (trodAll_cons_mk (shut_bool Try.underlying4 _) trodAll_mk0)) (fun sp _ => (trodAll_cons_mk (shut_int Try.underlying3 w0) (trodAll_cons_mk (structReads _ sp k1 n1 b1 wk1 wn1 wb1) (trodAll_cons_mk (structReads _ sp k2 n2 b2 wk2 wn2 wb2) trodAll_mk0)))) (fun _ _ => rfl) rfl
    (hg.below.frame _) hg.froz (ok_one (by kernel_rfl) rfl (okWide_bool_mk Try.underlying4 _))⟩

theorem over : Rows.machOneRow.holds Try.pinned (OpenSpec.ofChange Rows.machOneSpec) :=
  OpenClaim.holds_of_wide 4 Try.f4 rfl rfl rfl rfl rfl rfl rfl ⟨rfl, rfl, rfl, rfl, rfl⟩ rfl rfl rfl rfl rfl (by kernel_rfl) Try.func4 (by kernel_rfl)
    (of_decide_eq_true (by kernel_rfl)) (by unfold Func.isWrapper; first | (rw [if_pos (by decide +kernel)]; kernel_rfl) | (rw [if_neg (by decide +kernel)]; exact ⟨rfl, rfl⟩))
    (fun os started H enc _ => lifted os started H enc)

theorem proved : Rows.MachOneSaid :=
  over
#print axioms proved
end Go.Proofs.Ytopnbdblgfjnpaa.machOne
