/- The reference: arithmetic types, Promote of numbers. -/
import Derived.Test.YteiomcbphbbpkaaDoorEi
namespace Go.Proofs.YteiomcbphbbpkaaDoor
set_option linter.unusedSimpArgs false
set_option linter.unusedVariables false
open Go.RowKit

def numS (s : Int) : Bool := s == 1 || (s == 2 || (s == 4 || s == 8))
theorem numberR (s : Int) (u : Bool) (w : World) : Calls Tryd.prog 78 #[.agg #[.int .i64 s, .bool u]] w fun e w' => e = .returned (.bool (numS s)) ∧ Fresh w w' := by
  by_cases h1 : s = 1
  · subst h1
    go_enter Tryd.func78, Tryd.ntmps78
    go_wp2
    go_returns
    exact ⟨rfl, (by (repeat' first | with_reducible exact Fresh.refl _ | with_reducible assumption | with_reducible refine Fresh.alloc ?_ _ _ | with_reducible refine Fresh.drew ?_ | with_reducible refine Fresh.drewN ?_ _ | with_reducible refine Fresh.setCell ?_ ?_ _ | with_reducible refine Fresh.trans ?_ (by assumption) | (simp; done) | (simp; omega)))⟩
  · by_cases h2 : s = 2
    · subst h2
      go_enter Tryd.func78, Tryd.ntmps78
      go_wp2
      go_returns
      exact ⟨rfl, (by (repeat' first | with_reducible exact Fresh.refl _ | with_reducible assumption | with_reducible refine Fresh.alloc ?_ _ _ | with_reducible refine Fresh.drew ?_ | with_reducible refine Fresh.drewN ?_ _ | with_reducible refine Fresh.setCell ?_ ?_ _ | with_reducible refine Fresh.trans ?_ (by assumption) | (simp; done) | (simp; omega)))⟩
    · by_cases h4 : s = 4
      · subst h4
        go_enter Tryd.func78, Tryd.ntmps78
        go_wp2
        go_returns
        exact ⟨rfl, (by (repeat' first | with_reducible exact Fresh.refl _ | with_reducible assumption | with_reducible refine Fresh.alloc ?_ _ _ | with_reducible refine Fresh.drew ?_ | with_reducible refine Fresh.drewN ?_ _ | with_reducible refine Fresh.setCell ?_ ?_ _ | with_reducible refine Fresh.trans ?_ (by assumption) | (simp; done) | (simp; omega)))⟩
      · have q1 : (s == 1) = false := by simpa using h1
        have q2 : (s == 2) = false := by simpa using h2
        have q4 : (s == 4) = false := by simpa using h4
        have e : numS s = (s == 8) := by unfold numS; rw [q1, q2, q4]; rfl
        rw [e]
        clear h1 h2 h4 e
        go_enter Tryd.func78, Tryd.ntmps78
        go_wp2
        go_returns
        exact ⟨rfl, (by (repeat' first | with_reducible exact Fresh.refl _ | with_reducible assumption | with_reducible refine Fresh.alloc ?_ _ _ | with_reducible refine Fresh.drew ?_ | with_reducible refine Fresh.drewN ?_ _ | with_reducible refine Fresh.setCell ?_ ?_ _ | with_reducible refine Fresh.trans ?_ (by assumption) | (simp; done) | (simp; omega)))⟩
theorem isArith2 {h : Hd} (hk : h.kind = 2) : isArith h = numS h.size := by
  obtain ⟨k, s, l, f, nm⟩ := h
  simp only at hk
  subst hk
  by_cases h1 : s = 1
  · subst h1; cases f <;> kernel_rfl
  · by_cases h2 : s = 2
    · subst h2; cases f <;> kernel_rfl
    · by_cases h4 : s = 4
      · subst h4; cases f <;> kernel_rfl
      · by_cases h8 : s = 8
        · subst h8; cases f <;> kernel_rfl
        · simp [isArith, chunkOf, nchunk, numS, h1, h2, h4, h8]
section
variable (h : Hd) (p : Option Addr) (n cap : Nat) (w : World)
/-- What arithmetic answers. -/
def ArR (h : Hd) (w : World) (e : Ending) (w' : World) : Prop := e = .returned (.tuple #[.agg #[.int .i64 (if h.kind = 2 then h.size else 0), .bool (if h.kind = 2 then h.flag else false)], .bool (h.kind == 3), .bool (isArith h)]) ∧ Fresh w w'
theorem ar3 (hk : h.kind = 3) : Calls Tryd.prog 62 #[.agg #[.int .i64 h.kind, .int .i64 h.size, .int .i64 h.len, .bool h.flag, .string h.name, .slice p n cap]] w (ArR h w) := by
  have e : ArR h w = fun e w' => e = .returned (.tuple #[.agg #[.int .i64 0, .bool false], .bool true, .bool true]) ∧ Fresh w w' := by
    unfold ArR
    rw [if_neg (by omega), if_neg (by omega), show (h.kind == 3) = true by rw [hk]; rfl, show isArith h = true by unfold isArith chunkOf; rw [if_neg (by omega), if_pos hk, hk]; rfl]
  rw [e]
  obtain ⟨k, s, l, f, nm⟩ := h
  simp only at hk
  subst hk
  clear e
  go_enter Tryd.func62, Tryd.ntmps62
  go_wp2
  refine bodyPost_ret (v := ?_) ?_ rfl ?_; rotate_left 1; focus (simp [results, Tryd.results62, go_sem, *]; (try rfl); done)
  exact ⟨rfl, (by (repeat' first | with_reducible exact Fresh.refl _ | with_reducible assumption | with_reducible refine Fresh.alloc ?_ _ _ | with_reducible refine Fresh.drew ?_ | with_reducible refine Fresh.drewN ?_ _ | with_reducible refine Fresh.setCell ?_ ?_ _ | with_reducible refine Fresh.trans ?_ (by assumption) | (simp; done) | (simp; omega)))⟩
theorem ar0 (h2 : h.kind ≠ 2) (h3 : h.kind ≠ 3) : Calls Tryd.prog 62 #[.agg #[.int .i64 h.kind, .int .i64 h.size, .int .i64 h.len, .bool h.flag, .string h.name, .slice p n cap]] w (ArR h w) := by
  have e : ArR h w = fun e w' => e = .returned (.tuple #[.agg #[.int .i64 0, .bool false], .bool false, .bool false]) ∧ Fresh w w' := by
    unfold ArR
    rw [if_neg h2, if_neg h2, show (h.kind == 3) = false by simpa using h3, arith_not h2 h3]
  rw [e]
  have q2 : (h.kind == 2) = false := by simpa using h2
  have q3 : (h.kind == 3) = false := by simpa using h3
  clear e h2 h3
  go_enter Tryd.func62, Tryd.ntmps62
  go_wp2
  refine bodyPost_ret (v := ?_) ?_ rfl ?_; rotate_left 1; focus (simp [results, Tryd.results62, go_sem, *]; (try rfl); done)
  exact ⟨rfl, (by (repeat' first | with_reducible exact Fresh.refl _ | with_reducible assumption | with_reducible refine Fresh.alloc ?_ _ _ | with_reducible refine Fresh.drew ?_ | with_reducible refine Fresh.drewN ?_ _ | with_reducible refine Fresh.setCell ?_ ?_ _ | with_reducible refine Fresh.trans ?_ (by assumption) | (simp; done) | (simp; omega)))⟩
set_option maxRecDepth 100000 in
set_option maxHeartbeats 2000000 in
theorem ar2 (hk : h.kind = 2) : Calls Tryd.prog 62 #[.agg #[.int .i64 h.kind, .int .i64 h.size, .int .i64 h.len, .bool h.flag, .string h.name, .slice p n cap]] w (ArR h w) := by
  have e : ArR h w = fun e w' => e = .returned (.tuple #[.agg #[.int .i64 h.size, .bool h.flag], .bool false, .bool (numS h.size)]) ∧ Fresh w w' := by
    unfold ArR
    rw [if_pos hk, if_pos hk, show (h.kind == 3) = false by rw [hk]; rfl, isArith2 hk]
  rw [e]
  obtain ⟨k, s, l, f, nm⟩ := h
  simp only at hk
  subst hk
  clear e
  go_enter Tryd.func62, Tryd.ntmps62
  go_wp2_with fail
  go_at_call 53; refine (number_any ⟨2, s, l, f, nm⟩ p n cap _).mono ?_; rintro e w1 ⟨rfl, h1⟩
  have T2 := Lib.hid (show Blk w1 (w.heap.size + 1) [.int .i64 0, .bool false] from by have := (Blk.new (w.alloc (.cells #[.int .i64 2, .int .i64 s, .int .i64 l, .bool f, .string nm, .slice p n cap] 30)) #[.int .i64 0, .bool false] 62).fresh h1; simpa only [World.size_alloc] using this)
  have F1 := Lib.hid (show Fresh w w1 from (by (repeat' first | with_reducible exact Fresh.refl _ | with_reducible assumption | with_reducible refine Fresh.alloc ?_ _ _ | with_reducible refine Fresh.drew ?_ | with_reducible refine Fresh.drewN ?_ _ | with_reducible refine Fresh.setCell ?_ ?_ _ | with_reducible refine Fresh.trans ?_ (by assumption) | (simp; done) | (simp; omega))))
  have Hlt : Hid (w.heap.size + 2 ≤ w1.heap.size) := Lib.hid (by simpa using h1.size)
  clear h1
  go_upto_region 6 with fail
  have F2 : Hid (Fresh w (w1.alloc (.cells #[.int .i64 s, .bool f] 62))) := Lib.hid (F1.out.trans (by (repeat' first | with_reducible exact Fresh.refl _ | with_reducible assumption | with_reducible refine Fresh.alloc ?_ _ _ | with_reducible refine Fresh.drew ?_ | with_reducible refine Fresh.drewN ?_ _ | with_reducible refine Fresh.setCell ?_ ?_ _ | with_reducible refine Fresh.trans ?_ (by assumption) | (simp; done) | (simp; omega))))
  have T5 : Hid (Blk (w1.alloc (.cells #[.int .i64 s, .bool f] 62)) w1.heap.size [.int .i64 s, .bool f]) := Lib.hid (Blk.new w1 #[.int .i64 s, .bool f] 62)
  have T2 := Lib.hid (T2.out.fresh (show Fresh w1 (w1.alloc (.cells #[.int .i64 s, .bool f] 62)) from (by (repeat' first | with_reducible exact Fresh.refl _ | with_reducible assumption | with_reducible refine Fresh.alloc ?_ _ _ | with_reducible refine Fresh.drew ?_ | with_reducible refine Fresh.drewN ?_ _ | with_reducible refine Fresh.setCell ?_ ?_ _ | with_reducible refine Fresh.trans ?_ (by assumption) | (simp; done) | (simp; omega)))))
  have Hne : Hid (w.heap.size + 1 ≠ w1.heap.size) := Lib.hid (by have := F1.out.size; have := Hlt.out; omega)
  clear F1
  generalize (w1.alloc (.cells #[.int .i64 s, .bool f] 62)) = W at *
  generalize w1.heap.size = b5 at *
  have E : Hid (Fresh W W.drew) := Lib.hid (Fresh.refl W).drew
  have hb5 : w.heap.size + 1 ≠ b5 := Hne.out
  have hb6 := hb5.symm
  go_region_held3 (fun w' => w'.cell? ⟨b5, 0, none⟩ = some (.int .i64 s) ∧ w'.cell? ⟨b5, 1, none⟩ = some (.bool f)) (first | done | exact ⟨(T5.out.fresh E.out).1 0 _ rfl, (T5.out.fresh E.out).1 1 _ rfl⟩ | (have k0 := (T5.out.fresh E.out).1 0 _ rfl; have k1 := (T5.out.fresh E.out).1 1 _ rfl; simp [go_sem, *])) (first | (go_at_call 78; (with_reducible refine (numberR s f _).mono ?_); rintro e w2 ⟨rfl, h2⟩; have E := Lib.hid (E.out.trans h2); have x0 := (T2.out.fresh E.out).1 0 _ rfl; have x1 := (T2.out.fresh E.out).1 1 _ rfl; have xf := (T2.out.fresh E.out).2.1; have xz := (T2.out.fresh E.out).2.2; clear h2))
  all_goals go_wp2_with fail
  all_goals refine bodyPost_ret (v := ?_) ?_ rfl ?_; rotate_left 1; focus (simp [results, Tryd.results62, go_sem, *]; (try rfl); done)
  all_goals exact ⟨rfl, ((F2.out.trans E.out).setCell (by simp) _).setCell (by simp) _⟩
theorem ar_any : Calls Tryd.prog 62 #[.agg #[.int .i64 h.kind, .int .i64 h.size, .int .i64 h.len, .bool h.flag, .string h.name, .slice p n cap]] w (ArR h w) := by
  by_cases h2 : h.kind = 2
  · exact ar2 h p n cap w h2
  · by_cases h3 : h.kind = 3
    · exact ar3 h p n cap w h3
    · exact ar0 h p n cap w h2 h3
end
end Go.Proofs.YteiomcbphbbpkaaDoor
