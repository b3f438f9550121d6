/- The reference: Ops. -/
import Derived.Test.YteiomcbphbbpkaaDoorEp
namespace Go.Proofs.YteiomcbphbbpkaaDoor
set_option linter.unusedSimpArgs false
set_option linter.unusedVariables false
open Go.RowKit

/-- What it answers. -/
def OpR (w : World) (l : List Int) (k : Bool) (e : Ending) (w' : World) : Prop := (∃ v, e = .returned (.tuple #[v, .bool k]) ∧ Ints w.heap.size w' v l) ∧ Fresh w w'
section
variable (t u : Hd) (p q : Option Addr) (n m cap mc : Nat) (w : World)
set_option maxRecDepth 100000 in
theorem opsR_ptr (ht : t.kind = 4) (hu : u.kind = 4) : Calls Tryd.prog 32 #[.agg #[.int .i64 t.kind, .int .i64 t.size, .int .i64 t.len, .bool t.flag, .string t.name, .slice p n cap], .agg #[.int .i64 u.kind, .int .i64 u.size, .int .i64 u.len, .bool u.flag, .string u.name, .slice q m mc]] w (OpR w [] true) := by
  obtain ⟨k, s, l, f, nm⟩ := t
  obtain ⟨k', s', l', f', nm'⟩ := u
  simp only at ht hu
  subst ht hu
  go_enter Tryd.func32, Tryd.ntmps32
  go_wp2_with fail
  refine bodyPost_ret (v := ?_) ?_ rfl ?_; rotate_left 1; focus (simp [results, Tryd.results32, go_sem, *]; (try rfl); done)
  exact ⟨⟨_, rfl, Ints.nil ..⟩, (by (repeat' first | with_reducible exact Fresh.refl _ | with_reducible assumption | with_reducible refine Fresh.alloc ?_ _ _ | with_reducible refine Fresh.drew ?_ | with_reducible refine Fresh.drewN ?_ _ | with_reducible refine Fresh.setCell ?_ ?_ _ | with_reducible refine Fresh.trans ?_ (by assumption) | (simp; done) | (simp; omega)))⟩
set_option maxRecDepth 100000 in
set_option maxHeartbeats 2000000 in
theorem opsR_no (hp : (t.kind == 4) = false ∨ ((t.kind == 4) = true ∧ (u.kind == 4) = false)) (hk : isArith t = false ∨ (isArith t = true ∧ isArith u = false)) : Calls Tryd.prog 32 #[.agg #[.int .i64 t.kind, .int .i64 t.size, .int .i64 t.len, .bool t.flag, .string t.name, .slice p n cap], .agg #[.int .i64 u.kind, .int .i64 u.size, .int .i64 u.len, .bool u.flag, .string u.name, .slice q m mc]] w (OpR w [] false) := by
  have HK := Lib.hid hk
  have X0 := Lib.hid (BY.new w t u p q n m cap mc)
  clear hk
  rcases hp with q1 | ⟨q1, q2⟩
  all_goals
    go_enter Tryd.func32, Tryd.ntmps32
    go_wp2_with fail
    go_at_call 62; refine (arE t p n cap _).mono ?_; rintro e w1 ⟨⟨s1, a1, d1, rfl⟩, h1⟩; have X1 := Lib.hid (X0.out.later h1); clear h1 X0
    obtain ⟨b0, b1, b2, b3, b4, b5, bf⟩ := X1.out.bb; have bz := cell_lt b0; simp only at bz
    go_wp2_with fail
    clear b0 b1 b2 b3 b4 b5 bf bz
    go_at_call 62; refine (arE u q m mc _).mono ?_; rintro e w2 ⟨⟨s2, a2, d2, rfl⟩, h2⟩; have X2 := Lib.hid ((X1.out.later ((Fresh.refl _).alloc #[.int .i64 s1, .bool a1] 62)).later h2); clear h2 X1
    go_upto_region 7 with fail
    rcases HK.out with q3 | ⟨q3, q4⟩
    · rw [q3]
      clear HK q3
      go_wp2_with fail
      refine bodyPost_ret (v := ?_) ?_ rfl ?_; rotate_left 1; focus (simp [results, Tryd.results32, go_sem, *]; (try rfl); done)
      exact ⟨⟨_, rfl, Ints.nil ..⟩, X2.out.fr.trans (by (repeat' first | with_reducible exact Fresh.refl _ | with_reducible assumption | with_reducible refine Fresh.alloc ?_ _ _ | with_reducible refine Fresh.drew ?_ | with_reducible refine Fresh.drewN ?_ _ | with_reducible refine Fresh.setCell ?_ ?_ _ | with_reducible refine Fresh.trans ?_ (by assumption) | (simp; done) | (simp; omega)))⟩
    · rw [q3, q4]
      clear HK q3 q4
      go_wp2_with fail
      refine bodyPost_ret (v := ?_) ?_ rfl ?_; rotate_left 1; focus (simp [results, Tryd.results32, go_sem, *]; (try rfl); done)
      exact ⟨⟨_, rfl, Ints.nil ..⟩, X2.out.fr.trans (by (repeat' first | with_reducible exact Fresh.refl _ | with_reducible assumption | with_reducible refine Fresh.alloc ?_ _ _ | with_reducible refine Fresh.drew ?_ | with_reducible refine Fresh.drewN ?_ _ | with_reducible refine Fresh.setCell ?_ ?_ _ | with_reducible refine Fresh.trans ?_ (by assumption) | (simp; done) | (simp; omega)))⟩
end
end Go.Proofs.YteiomcbphbbpkaaDoor
