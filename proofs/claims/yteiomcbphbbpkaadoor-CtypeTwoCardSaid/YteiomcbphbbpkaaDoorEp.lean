/- The reference: the operations that turn numbers. -/
import Derived.Test.YteiomcbphbbpkaaDoorEo
namespace Go.Proofs.YteiomcbphbbpkaaDoor
set_option linter.unusedSimpArgs false
set_option linter.unusedVariables false
open Go.RowKit

theorem Ints.one1 (w : World) (c : Array Value) (t : TypeId) (n : Int) : Ints w.heap.size ((w.alloc (.cells c t)).alloc (.cells #[.int .i64 n] 3)) (.slice (some ⟨w.heap.size + 1, 0, none⟩) 1 1) [n] := by
  have := Ints.one w.heap.size (w.alloc (.cells c t)) n (by rw [World.size_alloc]; omega)
  simpa only [World.size_alloc] using this
theorem signR (s : Int) (u : Bool) (a b : Int) (w : World) : Calls Tryd.prog 67 #[.agg #[.int .i64 s, .bool u], .int .i64 a, .int .i64 b] w (Made w [sgn u a b]) := by
  cases u
  · have HL : Hid (sgn false a b = a) := Lib.hid rfl
    rw [HL.out]
    go_enter Tryd.func67, Tryd.ntmps67
    go_wp2
    go_returns
    exact ⟨⟨_, rfl, Ints.one1 _ _ _ _⟩, (by (repeat' first | with_reducible exact Fresh.refl _ | with_reducible assumption | with_reducible refine Fresh.alloc ?_ _ _ | with_reducible refine Fresh.drew ?_ | with_reducible refine Fresh.drewN ?_ _ | with_reducible refine Fresh.setCell ?_ ?_ _ | with_reducible refine Fresh.trans ?_ (by assumption) | (simp; done) | (simp; omega)))⟩
  · have HL : Hid (sgn true a b = b) := Lib.hid rfl
    rw [HL.out]
    go_enter Tryd.func67, Tryd.ntmps67
    go_wp2
    go_returns
    exact ⟨⟨_, rfl, Ints.one1 _ _ _ _⟩, (by (repeat' first | with_reducible exact Fresh.refl _ | with_reducible assumption | with_reducible refine Fresh.alloc ?_ _ _ | with_reducible refine Fresh.drew ?_ | with_reducible refine Fresh.drewN ?_ _ | with_reducible refine Fresh.setCell ?_ ?_ _ | with_reducible refine Fresh.trans ?_ (by assumption) | (simp; done) | (simp; omega)))⟩
theorem smallR (s : Int) (u : Bool) (w : World) : Calls Tryd.prog 68 #[.agg #[.int .i64 s, .bool u]] w (Made w (smallO s u)) := by
  by_cases h1 : s = 1
  · subst h1
    cases u
    · have HL : Hid (smallO 1 false = [80]) := Lib.hid rfl
      rw [HL.out]
      go_enter Tryd.func68, Tryd.ntmps68
      go_wp2
      go_returns
      exact ⟨⟨_, rfl, Ints.one1 _ _ _ _⟩, (by (repeat' first | with_reducible exact Fresh.refl _ | with_reducible assumption | with_reducible refine Fresh.alloc ?_ _ _ | with_reducible refine Fresh.drew ?_ | with_reducible refine Fresh.drewN ?_ _ | with_reducible refine Fresh.setCell ?_ ?_ _ | with_reducible refine Fresh.trans ?_ (by assumption) | (simp; done) | (simp; omega)))⟩
    · have HL : Hid (smallO 1 true = [81]) := Lib.hid rfl
      rw [HL.out]
      go_enter Tryd.func68, Tryd.ntmps68
      go_wp2
      go_returns
      exact ⟨⟨_, rfl, Ints.one1 _ _ _ _⟩, (by (repeat' first | with_reducible exact Fresh.refl _ | with_reducible assumption | with_reducible refine Fresh.alloc ?_ _ _ | with_reducible refine Fresh.drew ?_ | with_reducible refine Fresh.drewN ?_ _ | with_reducible refine Fresh.setCell ?_ ?_ _ | with_reducible refine Fresh.trans ?_ (by assumption) | (simp; done) | (simp; omega)))⟩
  · by_cases h2 : s = 2
    · subst h2
      clear h1
      cases u
      · have HL : Hid (smallO 2 false = [82]) := Lib.hid rfl
        rw [HL.out]
        go_enter Tryd.func68, Tryd.ntmps68
        go_wp2
        go_returns
        exact ⟨⟨_, rfl, Ints.one1 _ _ _ _⟩, (by (repeat' first | with_reducible exact Fresh.refl _ | with_reducible assumption | with_reducible refine Fresh.alloc ?_ _ _ | with_reducible refine Fresh.drew ?_ | with_reducible refine Fresh.drewN ?_ _ | with_reducible refine Fresh.setCell ?_ ?_ _ | with_reducible refine Fresh.trans ?_ (by assumption) | (simp; done) | (simp; omega)))⟩
      · have HL : Hid (smallO 2 true = [83]) := Lib.hid rfl
        rw [HL.out]
        go_enter Tryd.func68, Tryd.ntmps68
        go_wp2
        go_returns
        exact ⟨⟨_, rfl, Ints.one1 _ _ _ _⟩, (by (repeat' first | with_reducible exact Fresh.refl _ | with_reducible assumption | with_reducible refine Fresh.alloc ?_ _ _ | with_reducible refine Fresh.drew ?_ | with_reducible refine Fresh.drewN ?_ _ | with_reducible refine Fresh.setCell ?_ ?_ _ | with_reducible refine Fresh.trans ?_ (by assumption) | (simp; done) | (simp; omega)))⟩
    · have HL : Hid (smallO s u = []) := Lib.hid (by unfold smallO; rw [if_neg h1, if_neg h2])
      have q1 : (s == 1) = false := by simpa using h1
      have q2 : (s == 2) = false := by simpa using h2
      rw [HL.out]
      clear h1 h2
      go_enter Tryd.func68, Tryd.ntmps68
      go_wp2
      go_returns
      exact ⟨⟨_, rfl, Ints.nil ..⟩, (by (repeat' first | with_reducible exact Fresh.refl _ | with_reducible assumption | with_reducible refine Fresh.alloc ?_ _ _ | with_reducible refine Fresh.drew ?_ | with_reducible refine Fresh.drewN ?_ _ | with_reducible refine Fresh.setCell ?_ ?_ _ | with_reducible refine Fresh.trans ?_ (by assumption) | (simp; done) | (simp; omega)))⟩
/-- The reference's operations between arithmetic types. -/
def refO (t u : Hd) : List Int :=
  if t.kind = 3 then (if u.kind = 3 then [] else if u.size = 8 then [sgn u.flag 93 94] else if u.size = 4 then [sgn u.flag 91 92] else [91] ++ smallO u.size u.flag)
  else if u.kind = 3 then (if t.size = 8 then [sgn t.flag 89 90] else if t.size = 4 then [sgn t.flag 87 88] else [87])
  else if u.size = 8 then (if t.size = 8 then [] else [sgn t.flag 84 85])
  else if t.size = u.size ∧ t.flag = u.flag then [] else if t.size = 8 then [86] ++ smallO u.size u.flag else smallO u.size u.flag
theorem refO_all : (A9.all fun a => A9.all fun b => decide (refO a b = opsL a b) && opsOk a b) = true := by kernel_rfl
theorem refO_eq {a b : Hd} (ha : a ∈ A9) (hb : b ∈ A9) : refO a b = opsL a b ∧ opsOk a b = true := by
  have := List.all_eq_true.1 (List.all_eq_true.1 refO_all a ha) b hb
  simpa using this
end Go.Proofs.YteiomcbphbbpkaaDoor
