/- A conversion's answer: the statement's own last words, plainly. -/
import Derived.Test.YteiomcbphbbpkaaGreatDoorZa
namespace Go.Proofs.YteiomcbphbbpkaaGreatDoor
set_option linter.unusedSimpArgs false
set_option linter.unusedVariables false
open Go.RowKit

def H8 : Hd := numHd 8 false
def knd (h : Hd) : Int := ckind (chunkOf h)
/-- What the statement's five conversions come to. -/
structure Five (a b : Hd) (X : Int) (q1 q2 q3 q4 q5 : (Int × Int × Int) × Bool) : Prop where
  x : 0 ≤ X ∧ X < 18446744073709551616
  t1 : TurnR (opsL H8 a) ((2, X, 0), true) q1
  t2 : TurnR (opsL a b) (q1.1, true) q2
  t3 : TurnR (opsL b H8) (q2.1, true) q3
  t4 : TurnR (opsL a H8) (q1.1, true) q4
  t5 : TurnR (opsL H8 b) (q4.1, true) q5
theorem mem8 : (8, false) ∈ I8 := by simp [I8]
theorem knd_n {p : Int × Bool} (hp : p ∈ I8) : knd (numHd p.1 p.2) = kd p.1 := by
  have h : (I8.all fun p => knd (numHd p.1 p.2) == kd p.1) = true := by kernel_rfl
  have := List.all_eq_true.1 h p hp
  simpa using this
theorem knd_d : knd (hd1 3) = 3 := by kernel_rfl
theorem kd_or (s : Int) : kd s = 1 ∨ kd s = 2 := by unfold kd; split <;> simp
/-- A whole number's conversion from a Long and back. -/
theorem five_nn {p r : Int × Bool} (hp : p ∈ I8) (hr : r ∈ I8) {X : Int} {q1 q2 q3 q4 q5 : (Int × Int × Int) × Bool} (h : Five (numHd p.1 p.2) (numHd r.1 r.2) X q1 q2 q3 q4 q5) :
    ∃ V W F : Int, q1 = ((kd p.1, V, 0), true) ∧ q2 = ((kd r.1, W, 0), true) ∧ (0 ≤ W ∧ W < (if r.1 = 8 then 18446744073709551616 else 4294967296)) ∧ q3 = ((2, backI r.1 r.2 W, 0), true) ∧ q4 = ((2, F, 0), true) ∧ (0 ≤ F ∧ F < 18446744073709551616) ∧ q5 = ((kd r.1, cutI r.1 r.2 F, 0), true) := by
  obtain ⟨hx, t1, t2, t3, t4, t5⟩ := h
  rw [show opsL H8 (numHd p.1 p.2) = wholeO 8 false p.1 p.2 from (ops_nn mem8 hp).1] at t1
  rw [(ops_nn hp hr).1] at t2
  rw [show opsL (numHd r.1 r.2) H8 = wholeO r.1 r.2 8 false from (ops_nn hr mem8).1] at t3
  rw [show opsL (numHd p.1 p.2) H8 = wholeO p.1 p.2 8 false from (ops_nn hp mem8).1] at t4
  rw [show opsL H8 (numHd r.1 r.2) = wholeO 8 false r.1 r.2 from (ops_nn mem8 hr).1] at t5
  obtain ⟨V, rfl, hV⟩ := whole_turn 8 p.1 false p.2 X (by simpa using hx) t1
  obtain ⟨W, rfl, hW⟩ := whole_turn p.1 r.1 p.2 r.2 V hV t2
  have e3 := back_turn hr W t3
  obtain ⟨F, rfl, hF⟩ := whole_turn p.1 8 p.2 false V hV t4
  have e5 := cut_turn hr F (by simpa using hF) t5
  exact ⟨V, W, F, rfl, rfl, hW, e3, rfl, by simpa using hF, e5⟩
/-- Of a whole number to a double. -/
theorem five_nd {p : Int × Bool} (hp : p ∈ I8) {X : Int} {q1 q2 q3 q4 q5 : (Int × Int × Int) × Bool} (h : Five (numHd p.1 p.2) (hd1 3) X q1 q2 q3 q4 q5) :
    ∃ V W F D : Int, q1 = ((kd p.1, V, 0), true) ∧ q2 = ((3, W, 0), true) ∧ q4 = ((2, F, 0), true) ∧ q5 = ((3, D, 0), true) := by
  obtain ⟨hx, t1, t2, t3, t4, t5⟩ := h
  rw [show opsL H8 (numHd p.1 p.2) = wholeO 8 false p.1 p.2 from (ops_nn mem8 hp).1] at t1
  rw [(ops_nd hp).1] at t2
  rw [show opsL (numHd p.1 p.2) H8 = wholeO p.1 p.2 8 false from (ops_nn hp mem8).1] at t4
  rw [show opsL H8 (hd1 3) = doubleO 8 false from (ops_nd mem8).1] at t5
  obtain ⟨V, rfl, hV⟩ := whole_turn 8 p.1 false p.2 X (by simpa using hx) t1
  obtain ⟨W, rfl⟩ := dbl_turn p.1 p.2 V t2
  obtain ⟨F, rfl, hF⟩ := whole_turn p.1 8 p.2 false V hV t4
  obtain ⟨D, rfl⟩ := dbl_turn 8 false F t5
  exact ⟨V, W, F, D, rfl, rfl, rfl, rfl⟩
/-- Of a double to a whole number. -/
theorem five_dn {r : Int × Bool} (hr : r ∈ I8) {X : Int} {q1 q2 q3 q4 q5 : (Int × Int × Int) × Bool} (h : Five (hd1 3) (numHd r.1 r.2) X q1 q2 q3 q4 q5) :
    ∃ D : Int, q1 = ((3, D, 0), true) ∧ (q2 = ((0, 0, 0), false) ∨ ∃ W : Int, q2 = ((kd r.1, W, 0), true) ∧ q3 = ((2, backI r.1 r.2 W, 0), true) ∧ (q4 = ((0, 0, 0), false) ∨ ∃ F : Int, q4 = ((2, F, 0), true) ∧ (0 ≤ F ∧ F < 18446744073709551616 → q5 = ((kd r.1, cutI r.1 r.2 F, 0), true)))) := by
  obtain ⟨hx, t1, t2, t3, t4, t5⟩ := h
  rw [show opsL H8 (hd1 3) = doubleO 8 false from (ops_nd mem8).1] at t1
  rw [(ops_nd hr).2.2.1] at t2
  rw [show opsL (numHd r.1 r.2) H8 = wholeO r.1 r.2 8 false from (ops_nn hr mem8).1] at t3
  rw [show opsL (hd1 3) H8 = cutO 8 false from (ops_nd mem8).2.2.1] at t4
  rw [show opsL H8 (numHd r.1 r.2) = wholeO 8 false r.1 r.2 from (ops_nn mem8 hr).1] at t5
  obtain ⟨D, rfl⟩ := dbl_turn 8 false X t1
  refine ⟨D, rfl, ?_⟩
  rcases cutd_turn r.1 r.2 D t2 with ⟨W, rfl⟩ | rfl
  · right
    refine ⟨W, rfl, back_turn hr W t3, ?_⟩
    rcases cutd_turn 8 false D t4 with ⟨F, rfl⟩ | rfl
    · exact Or.inr ⟨F, rfl, fun hF => cut_turn hr F hF t5⟩
    · exact Or.inl rfl
  · exact Or.inl rfl
/-- Of a double to itself. -/
theorem five_dd {X : Int} {q1 q2 q3 q4 q5 : (Int × Int × Int) × Bool} (h : Five (hd1 3) (hd1 3) X q1 q2 q3 q4 q5) :
    ∃ D : Int, q1 = ((3, D, 0), true) ∧ q2 = ((3, D, 0), true) ∧ (q4 = ((0, 0, 0), false) ∨ ∃ F E : Int, q4 = ((2, F, 0), true) ∧ q5 = ((3, E, 0), true)) := by
  obtain ⟨hx, t1, t2, t3, t4, t5⟩ := h
  rw [show opsL H8 (hd1 3) = doubleO 8 false from (ops_nd mem8).1] at t1 t5
  rw [ops_dd.1] at t2
  rw [show opsL (hd1 3) H8 = cutO 8 false from (ops_nd mem8).2.2.1] at t4
  obtain ⟨D, rfl⟩ := dbl_turn 8 false X t1
  obtain rfl := turn_nil t2
  refine ⟨D, rfl, rfl, ?_⟩
  rcases cutd_turn 8 false D t4 with ⟨F, rfl⟩ | rfl
  · obtain ⟨E, rfl⟩ := dbl_turn 8 false F t5
    exact Or.inr ⟨F, E, rfl, rfl⟩
  · exact Or.inl rfl
end Go.Proofs.YteiomcbphbbpkaaGreatDoor
