/-
  What an operation answers is a right value of the kind that its shape tells, and is answered only of operands of its kinds. No condition.
-/
import Derived.Test.YtopnbdblgfjnpaaRa
import Derived.Test.YtopnbdblgfjnpaaJ
import Derived.ProofKit
import Derived.OpenShut
import Derived.Lib.SmallJoins
namespace Go.Proofs.Ytopnbdblgfjnpaa.machRight
set_option linter.unusedSimpArgs false
set_option linter.unusedVariables false
open Go.ChangeShapes Go.WideShapes Go.ChangeAt Go.RowKit Go.Joins

theorem own : ownKnob Try.prog.godebug = none := by kernel_rfl
theorem cells24 : Try.prog.cellsOf 24 = 3 := by kernel_rfl
theorem u64_wf {n : Int} (h : (Lit.int .u64 n).wf = true) : 0 ≤ n ∧ n < 18446744073709551616 := by
  simp [Lit.wf, IntKind.min, IntKind.max, IntKind.signed, IntKind.bits] at h
  omega

def Ans2 (o k k' : Int) (w : World) (e : Ending) (w' : World) : Prop := ∃ (x y z : Int) (c : Bool), e = .returned (.tuple #[.agg #[.int .i64 x, .int .u64 y, .int .i64 z], .bool c]) ∧ Fresh w w' ∧ rightL x y z = true ∧
  ((c = false ∧ x = 0) ∨ (c = true ∧ (shapeL o).2.1 ≠ 0 ∧ x = (shapeL o).2.2) ∨ (c = true ∧ (shapeL o).2.1 ≠ 0 ∧ x = 4 ∧ (k = 4 ∨ k' = 4)))
theorem ans2 (o k n b k' n' b' : Int) (hn : 0 ≤ n) (hN : n < 18446744073709551616) (hn' : 0 ≤ n') (hN' : n' < 18446744073709551616) (w : World) :
    Calls Try.prog 11 #[.int .i64 o, .agg #[.int .i64 k, .int .u64 n, .int .i64 b], .agg #[.int .i64 k', .int .u64 n', .int .i64 b']] w (Ans2 o k k' w) := by
  refine (eval2_any o k n b k' n' b' hn hn' w).mono fun e w' ⟨he, hf⟩ => ?_
  obtain ⟨g, h2⟩ := eval2_good o k n b k' n' b' hn hN hn' hN'
  refine ⟨_, _, _, _, he, hf, g.right, ?_⟩
  cases hc : (eval2L o k n b k' n' b').2
  · exact Or.inl ⟨rfl, g.none hc⟩
  · rcases g.kind hc with h | h
    · exact Or.inr (Or.inl ⟨rfl, h2 hc, h⟩)
    · exact Or.inr (Or.inr ⟨rfl, h2 hc, h.1, h.2⟩)
def Ans1 (o : Int) (w : World) (e : Ending) (w' : World) : Prop := ∃ (x y z : Int) (c : Bool), e = .returned (.tuple #[.agg #[.int .i64 x, .int .u64 y, .int .i64 z], .bool c]) ∧ Fresh w w' ∧ rightL x y z = true ∧
  ((c = false ∧ x = 0) ∨ (c = true ∧ (shapeL o).2.1 = 0 ∧ (shapeL o).1 ≠ 0 ∧ x = (shapeL o).2.2))
theorem ans1 (o k n b : Int) (w : World) : Calls Try.prog 13 #[.int .i64 o, .agg #[.int .i64 k, .int .u64 n, .int .i64 b]] w (Ans1 o w) := by
  refine (eval1_any o k n b w).mono fun e w' ⟨t, he, hf⟩ => ?_
  obtain ⟨g, h2⟩ := eval1_good o k n t
  refine ⟨_, _, _, _, he, hf, g.right, ?_⟩
  cases hc : (eval1L o k n t).2
  · exact Or.inl ⟨rfl, g.none hc⟩
  · rcases g.kind hc with h | h
    · exact Or.inr ⟨rfl, (h2 hc).1, (h2 hc).2, h⟩
    · exact absurd h.2 id
theorem beqf {a b : Int} (h : a ≠ b) : (a == b) = false := by simpa using h
theorem bnet {a b : Int} (h : a ≠ b) : (a != b) = true := by simpa using h
set_option linter.unusedVariables false in
set_option maxHeartbeats 4000000 in
theorem walk (a0 : Int) (k1 n1 b1 : Int) (k2 n2 b2 : Int) (w0 : (Lit.int .i64 a0).wf = true) (wk1 : (Lit.int .i64 k1).wf = true) (wn1 : (Lit.int .u64 n1).wf = true) (wb1 : (Lit.int .i64 b1).wf = true) (wk2 : (Lit.int .i64 k2).wf = true) (wn2 : (Lit.int .u64 n2).wf = true) (wb2 : (Lit.int .i64 b2).wf = true) (w : World) :
    Calls Try.prog 6 #[.int .i64 a0, .agg #[.int .i64 k1, .int .u64 n1, .int .i64 b1], .agg #[.int .i64 k2, .int .u64 n2, .int .i64 b2]] w fun e w' => e = .returned (.bool true) ∧ Fresh w w' := by
  have hn := u64_wf wn1
  have hn' := u64_wf wn2
  go_enter Try.func6, Try.ntmps6
  go_wp2_with (first | (go_at_call 10; refine (fixed_any _).mono ?_; rintro e w1 ⟨rfl, h1⟩; obtain ⟨c1, f1⟩ := h1.cells; have z1a := h1.z (n := w.heap.size) (by first | assumption | (simp; done) | (simp; assumption) | (simp; omega)); have z1b := h1.z (n := w.heap.size + 1) (by first | assumption | (simp; done) | (simp; assumption) | (simp; omega))) | (go_at_call 20; refine (shape_any _ _).mono ?_; rintro e w' ⟨rfl, rfl⟩))
  go_at_call 11; refine (ans2 _ _ _ _ _ _ _ hn.1 hn.2 hn'.1 hn'.2 _).mono ?_; rintro e w2 ⟨x2, y2, v2, k2', rfl, h2, r2, d2⟩; obtain ⟨c2, f2⟩ := h2.cells; have z2a := h2.z (n := w.heap.size) (by first | assumption | (simp; done) | (simp; assumption) | (simp; omega)); have z2b := h2.z (n := w.heap.size + 1) (by first | assumption | (simp; done) | (simp; assumption) | (simp; omega))
  go_wp2_with fail
  go_at_call 13; refine (ans1 _ _ _ _ _).mono ?_; rintro e w3 ⟨x3, y3, v3, k3', rfl, h3, r3, d3⟩; obtain ⟨c3, f3⟩ := h3.cells; have z3 := h3.z (n := w2.heap.size) (by first | assumption | (simp; done) | (simp; assumption) | (simp; omega)); have z3a := h3.z (n := w.heap.size) (by first | assumption | (simp; done) | (simp; assumption) | (simp; omega)); have z3b := h3.z (n := w.heap.size + 1) (by first | assumption | (simp; done) | (simp; assumption) | (simp; omega))
  rcases d2 with ⟨rfl, rfl⟩ | ⟨rfl, s2, rfl⟩ | ⟨rfl, s2, rfl, hk⟩
  · rcases d3 with ⟨rfl, rfl⟩ | ⟨rfl, s3, t3, rfl⟩
    · go_wp2_with (go_at_call 17; refine (right_any _ _ _ _).mono ?_; rintro e w4 ⟨rfl, h4⟩; obtain ⟨c4, f4⟩ := h4.cells; have z4 := h4.z (n := w2.heap.size) (by first | assumption | (simp; done) | (simp; assumption) | (simp; omega)); have y4 := h4.z (n := w3.heap.size) (by first | assumption | (simp; done) | (simp; assumption) | (simp; omega)); have za4 := h4.z (n := w.heap.size) (by first | assumption | (simp; done) | (simp; assumption) | (simp; omega)); have zb4 := h4.z (n := w.heap.size + 1) (by first | assumption | (simp; done) | (simp; assumption) | (simp; omega)))
      all_goals go_light
      all_goals go_returns
      all_goals exact ⟨by simp, by (repeat' first | with_reducible exact Fresh.refl _ | with_reducible assumption | with_reducible refine Fresh.alloc ?_ _ _ | with_reducible refine Fresh.drew ?_ | with_reducible refine Fresh.setCell ?_ ?_ _ | with_reducible refine Fresh.trans ?_ (by assumption) | (simp; done) | (simp; omega))⟩
    · have q1 := beqf t3
      have q2 : ((shapeL a0).2.1 != 0) = false := by simp [s3]
      go_wp2_with (go_at_call 17; refine (right_any _ _ _ _).mono ?_; rintro e w4 ⟨rfl, h4⟩; obtain ⟨c4, f4⟩ := h4.cells; have z4 := h4.z (n := w2.heap.size) (by first | assumption | (simp; done) | (simp; assumption) | (simp; omega)); have y4 := h4.z (n := w3.heap.size) (by first | assumption | (simp; done) | (simp; assumption) | (simp; omega)); have za4 := h4.z (n := w.heap.size) (by first | assumption | (simp; done) | (simp; assumption) | (simp; omega)); have zb4 := h4.z (n := w.heap.size + 1) (by first | assumption | (simp; done) | (simp; assumption) | (simp; omega)))
      all_goals go_light
      all_goals go_returns
      all_goals exact ⟨by simp, by (repeat' first | with_reducible exact Fresh.refl _ | with_reducible assumption | with_reducible refine Fresh.alloc ?_ _ _ | with_reducible refine Fresh.drew ?_ | with_reducible refine Fresh.setCell ?_ ?_ _ | with_reducible refine Fresh.trans ?_ (by assumption) | (simp; done) | (simp; omega))⟩
  · rcases d3 with ⟨rfl, rfl⟩ | ⟨rfl, s3, t3, rfl⟩
    · have q1 := beqf s2
      go_wp2_with (go_at_call 17; refine (right_any _ _ _ _).mono ?_; rintro e w4 ⟨rfl, h4⟩; obtain ⟨c4, f4⟩ := h4.cells; have z4 := h4.z (n := w2.heap.size) (by first | assumption | (simp; done) | (simp; assumption) | (simp; omega)); have y4 := h4.z (n := w3.heap.size) (by first | assumption | (simp; done) | (simp; assumption) | (simp; omega)); have za4 := h4.z (n := w.heap.size) (by first | assumption | (simp; done) | (simp; assumption) | (simp; omega)); have zb4 := h4.z (n := w.heap.size + 1) (by first | assumption | (simp; done) | (simp; assumption) | (simp; omega)))
      all_goals go_light
      all_goals go_returns
      all_goals exact ⟨by simp, by (repeat' first | with_reducible exact Fresh.refl _ | with_reducible assumption | with_reducible refine Fresh.alloc ?_ _ _ | with_reducible refine Fresh.drew ?_ | with_reducible refine Fresh.setCell ?_ ?_ _ | with_reducible refine Fresh.trans ?_ (by assumption) | (simp; done) | (simp; omega))⟩
    · exact absurd s3 s2
  · rcases d3 with ⟨rfl, rfl⟩ | ⟨rfl, s3, t3, rfl⟩
    · have q1 := beqf s2
      rcases hk with rfl | rfl
      all_goals
        go_wp2_with (go_at_call 17; refine (right_any _ _ _ _).mono ?_; rintro e w4 ⟨rfl, h4⟩; obtain ⟨c4, f4⟩ := h4.cells; have z4 := h4.z (n := w2.heap.size) (by first | assumption | (simp; done) | (simp; assumption) | (simp; omega)); have y4 := h4.z (n := w3.heap.size) (by first | assumption | (simp; done) | (simp; assumption) | (simp; omega)); have za4 := h4.z (n := w.heap.size) (by first | assumption | (simp; done) | (simp; assumption) | (simp; omega)); have zb4 := h4.z (n := w.heap.size + 1) (by first | assumption | (simp; done) | (simp; assumption) | (simp; omega)))
        all_goals go_light
        all_goals go_returns
        all_goals exact ⟨by first | (simp; done) | (simp [*]; done) | simp_all, by (repeat' first | with_reducible exact Fresh.refl _ | with_reducible assumption | with_reducible refine Fresh.alloc ?_ _ _ | with_reducible refine Fresh.drew ?_ | with_reducible refine Fresh.setCell ?_ ?_ _ | with_reducible refine Fresh.trans ?_ (by assumption) | (simp; done) | (simp; omega))⟩
    · exact absurd s3 s2

set_option maxRecDepth 100000 in
theorem lifted (os : Os) (started : os.Started) (H : Type) (enc : TypeId × Value → H) :
    ReturnsInHanded {} Try.checked os 6 .any (Rows.machRightSpec.pre6 enc Try.prog Try.f6 Rows.machRightRow.domain false) (Rows.machRightSpec.post enc Try.prog Try.f6 false true false false) := by
  refine returnsInHanded_of_change (C := Try.checked) own started (by kernel_rfl) Try.func6
    (ChangeSpec.witness6 (enc := enc) (C := Try.checked) false ⟨#[], #[.int .i64 0, .agg #[.int .i64 0, .int .u64 0, .int .i64 0], .agg #[.int .i64 0, .int .u64 0, .int .i64 0]], []⟩ 8 (by kernel_rfl) (by kernel_rfl) (by kernel_rfl) (by kernel_rfl)) ?_
  intro W base args ds gs before hval0 hW hcnd _
  have hval : ∀ (j : Nat) t v, Try.f6.params[j]? = some t → args[j]? = some v → Value.okWide Try.prog W .any base t v := hval0
  have hW' := hW
  obtain ⟨p, q, hA0, hV, rfl, hfz, hnd⟩ := hW
  have hA : DataW.TrodAll enc Try.prog W 0 (fun _ => true) true Try.f6.params.toList args.toList ds p := hA0
  rw [Try.params6] at hA hval
  obtain ⟨v0, vs0, d0, ds0, p0, q0, hargs, rfl, rfl, h0, r0⟩ := trodAll_cons hA
  obtain ⟨v1, vs1, d1, ds1, p1, q1, rfl, rfl, rfl, h1, r1⟩ := trodAll_cons r0
  obtain ⟨v2, vs2, d2, ds2, p2, q2, rfl, rfl, rfl, h2, r2⟩ := trodAll_cons r1
  obtain ⟨rfl, rfl, rfl⟩ := trodAll_nil r2
  obtain rfl : args = #[v0, v1, v2] := by cases args; simp_all
  obtain ⟨rfl, rfl⟩ := trodVars_none hV
  obtain ⟨a0, rfl, rfl, rfl, w0⟩ := open_int Try.underlying3 (hval 0 3 v0 rfl rfl) h0
  obtain ⟨x10, x11, x12, y10, y11, y12, m1, rfl, rfl, rfl, g10, g11, g12⟩ := open_agg3 Try.underlying24 (by kernel_rfl) cells24 (hval 1 24 v1 rfl rfl) h1
  obtain ⟨k1, e10, rfl, wk1⟩ := DataW.trod_int Try.underlying3 g10
  obtain ⟨n1, e11, rfl, wn1⟩ := DataW.trod_int Try.underlying22 g11
  obtain ⟨b1, e12, rfl, wb1⟩ := DataW.trod_int Try.underlying3 g12
  simp at e10 e11 e12
  subst e10 e11 e12
  obtain ⟨x20, x21, x22, y20, y21, y22, m2, rfl, rfl, rfl, g20, g21, g22⟩ := open_agg3 Try.underlying24 (by kernel_rfl) cells24 (hval 2 24 v2 rfl rfl) h2
  obtain ⟨k2, e20, rfl, wk2⟩ := DataW.trod_int Try.underlying3 g20
  obtain ⟨n2, e21, rfl, wn2⟩ := DataW.trod_int Try.underlying22 g21
  obtain ⟨b2, e22, rfl, wb2⟩ := DataW.trod_int Try.underlying3 g22
  simp at e20 e21 e22
  subst e20 e21 e22
  clear hA0 hval0
  simp only [List.append_nil] at hW'
  have structReads : ∀ (W' : World) (sp : Nat → Bool) (k n b : Int), (Lit.int .i64 k).wf = true → (Lit.int .u64 n).wf = true → (Lit.int .i64 b).wf = true →
      DataW.Trod enc Try.prog W' 0 sp true 24 (.agg #[.int .i64 k, .int .u64 n, .int .i64 b]) (.agg [.lit (.int .i64 k), .lit (.int .u64 n), .lit (.int .i64 b)]) [] := fun W' sp k n b wk wn wb =>
    shut_agg3 (y0 := (.lit (.int .i64 k), [])) (y1 := (.lit (.int .u64 n), [])) (y2 := (.lit (.int .i64 b), [])) Try.underlying24 (by kernel_rfl) cells24 ⟨1, by simp [DataW.trod, Try.underlying3, wk]⟩ ⟨1, by simp [DataW.trod, Try.underlying22, wn]⟩ ⟨1, by simp [DataW.trod, Try.underlying3, wb]⟩
  refine (walk a0 k1 n1 b1 k2 n2 b2 w0 wk1 wn1 wb1 wk2 wn2 wb2 W).mono fun e W' ⟨he, hg⟩ => ?_
  subst he
  exact ⟨_, rfl, post_of_same (pa := []) (pv := []) hW' (fun _ _ _ => (trodAll_cons_mk (shut_bool Try.underlying4 _) trodAll_mk0)) (fun sp _ => (trodAll_cons_mk (shut_int Try.underlying3 w0) (trodAll_cons_mk (structReads _ sp k1 n1 b1 wk1 wn1 wb1) (trodAll_cons_mk (structReads _ sp k2 n2 b2 wk2 wn2 wb2) trodAll_mk0)))) (fun _ _ => rfl) rfl
    (hg.below.frame _) hg.froz (ok_one (by kernel_rfl) rfl (okWide_bool_mk Try.underlying4 _))⟩

theorem over : Rows.machRightRow.holds Try.pinned (OpenSpec.ofChange Rows.machRightSpec) :=
  OpenClaim.holds_of_wide 6 Try.f6 rfl rfl rfl rfl rfl rfl rfl ⟨rfl, rfl, rfl, rfl, rfl⟩ rfl rfl rfl rfl rfl (by kernel_rfl) Try.func6 (by kernel_rfl)
    (of_decide_eq_true (by kernel_rfl)) (by unfold Func.isWrapper; first | (rw [if_pos (by decide +kernel)]; kernel_rfl) | (rw [if_neg (by decide +kernel)]; exact ⟨rfl, rfl⟩))
    (fun os started H enc _ => lifted os started H enc)

theorem proved : Rows.MachRightSaid :=
  over
#print axioms proved
end Go.Proofs.Ytopnbdblgfjnpaa.machRight
