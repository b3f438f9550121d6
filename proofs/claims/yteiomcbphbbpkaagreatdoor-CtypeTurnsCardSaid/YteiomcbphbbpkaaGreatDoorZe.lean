/- Has a number type this number? -/
import Derived.Test.YteiomcbphbbpkaaGreatDoorZd
namespace Go.Proofs.YteiomcbphbbpkaaGreatDoor
set_option linter.unusedSimpArgs false
set_option linter.unusedVariables false
open Go.RowKit
/-- What the call answers and leaves. -/
def Held (w : World) (s : Int) (u : Bool) (x : Int) (e : Ending) (w' : World) : Prop := (∃ t, e = .returned (.bool t) ∧ (t = true → holdsI s u x)) ∧ Fresh w w'
section
set_option maxRecDepth 100000
set_option maxHeartbeats 2000000
theorem holds_n (s : Int) (u : Bool) (hs : (s, u) ∈ I8) (x : Int) (p : Option Addr) (n cap : Nat) (w : World) : Calls Tryz.prog 11 #[TYV (numHd s u) p n cap, .int .i64 x] w (Held w s u x) := by
  go_enter Tryz.func11, Tryz.ntmps11
  go_wp2_with fail
  have HB := Lib.hid ((Blk.new w #[.int .i64 (numHd s u).kind, .int .i64 (numHd s u).size, .int .i64 (numHd s u).len, .bool (numHd s u).flag, .string (numHd s u).name, .slice p n cap] 25).six)
  have F0 : Fresh w (w.alloc (.cells #[.int .i64 (numHd s u).kind, .int .i64 (numHd s u).size, .int .i64 (numHd s u).len, .bool (numHd s u).flag, .string (numHd s u).name, .slice p n cap] 25)) := (Fresh.refl w).alloc _ _
  have Z0 : w.heap.size < (w.alloc (.cells #[.int .i64 (numHd s u).kind, .int .i64 (numHd s u).size, .int .i64 (numHd s u).len, .bool (numHd s u).flag, .string (numHd s u).name, .slice p n cap] 25)).heap.size := by simp
  generalize hW : (w.alloc (.cells #[.int .i64 (numHd s u).kind, .int .i64 (numHd s u).size, .int .i64 (numHd s u).len, .bool (numHd s u).flag, .string (numHd s u).name, .slice p n cap] 25)) = W at *
  clear hW
  have hE : Fresh W W.drew := (Fresh.refl W).drew
  go_region_held3 (fun w' => w'.cell? ⟨w.heap.size, 0, none⟩ = some (.int .i64 2) ∧ w'.cell? ⟨w.heap.size, 1, none⟩ = some (.int .i64 s) ∧ w'.cell? ⟨w.heap.size, 2, none⟩ = some (.int .i64 0) ∧ w'.cell? ⟨w.heap.size, 3, none⟩ = some (.bool u) ∧ w'.cell? ⟨w.heap.size, 4, none⟩ = some (.string ⟨#[]⟩) ∧ w'.cell? ⟨w.heap.size, 5, none⟩ = some (.slice p n cap)) (first | done | exact ⟨(HB.out.fresh (by (repeat' first | with_reducible exact Fresh.refl _ | with_reducible assumption | with_reducible refine Fresh.alloc ?_ _ _ | with_reducible refine Fresh.drew ?_ | with_reducible refine Fresh.drewN ?_ _ | with_reducible refine Fresh.setCell ?_ ?_ _ | with_reducible refine Fresh.trans ?_ (by assumption) | (simp; done) | (simp; omega)))).c0, (HB.out.fresh (by (repeat' first | with_reducible exact Fresh.refl _ | with_reducible assumption | with_reducible refine Fresh.alloc ?_ _ _ | with_reducible refine Fresh.drew ?_ | with_reducible refine Fresh.drewN ?_ _ | with_reducible refine Fresh.setCell ?_ ?_ _ | with_reducible refine Fresh.trans ?_ (by assumption) | (simp; done) | (simp; omega)))).c1, (HB.out.fresh (by (repeat' first | with_reducible exact Fresh.refl _ | with_reducible assumption | with_reducible refine Fresh.alloc ?_ _ _ | with_reducible refine Fresh.drew ?_ | with_reducible refine Fresh.drewN ?_ _ | with_reducible refine Fresh.setCell ?_ ?_ _ | with_reducible refine Fresh.trans ?_ (by assumption) | (simp; done) | (simp; omega)))).c2, (HB.out.fresh (by (repeat' first | with_reducible exact Fresh.refl _ | with_reducible assumption | with_reducible refine Fresh.alloc ?_ _ _ | with_reducible refine Fresh.drew ?_ | with_reducible refine Fresh.drewN ?_ _ | with_reducible refine Fresh.setCell ?_ ?_ _ | with_reducible refine Fresh.trans ?_ (by assumption) | (simp; done) | (simp; omega)))).c3, (HB.out.fresh (by (repeat' first | with_reducible exact Fresh.refl _ | with_reducible assumption | with_reducible refine Fresh.alloc ?_ _ _ | with_reducible refine Fresh.drew ?_ | with_reducible refine Fresh.drewN ?_ _ | with_reducible refine Fresh.setCell ?_ ?_ _ | with_reducible refine Fresh.trans ?_ (by assumption) | (simp; done) | (simp; omega)))).c4, (HB.out.fresh (by (repeat' first | with_reducible exact Fresh.refl _ | with_reducible assumption | with_reducible refine Fresh.alloc ?_ _ _ | with_reducible refine Fresh.drew ?_ | with_reducible refine Fresh.drewN ?_ _ | with_reducible refine Fresh.setCell ?_ ?_ _ | with_reducible refine Fresh.trans ?_ (by assumption) | (simp; done) | (simp; omega)))).c5⟩) (first | (go_at_call 29; (with_reducible refine (number_any ⟨2, s, 0, u, ⟨#[]⟩⟩ p n cap _).mono ?_); rintro e w2 ⟨rfl, h2⟩; have hE : Fresh W w2 := (by first | exact hE.trans h2 | exact ((Fresh.refl W).alloc _ _).drew.trans h2); have hz2 : W.heap.size ≤ w2.heap.size := hE.size; (try (have T18 := (Blk.new W #[.int .i64 0, .bool false] 36).fresh ((Fresh.refl _).drew.trans h2); have y0 := T18.1 0 _ rfl; have y1 := T18.1 1 _ rfl; have yf := T18.2.1; have yz := T18.2.2; clear T18)); have hb3 : w.heap.size < w2.heap.size := (by omega); clear h2))
  all_goals (clear HB Z0)
  all_goals (simp only [I8, List.mem_cons, Prod.mk.injEq, List.not_mem_nil, or_false] at hs; rcases hs with ⟨rfl, rfl⟩ | ⟨rfl, rfl⟩ | ⟨rfl, rfl⟩ | ⟨rfl, rfl⟩ | ⟨rfl, rfl⟩ | ⟨rfl, rfl⟩ | ⟨rfl, rfl⟩ | ⟨rfl, rfl⟩)
  all_goals go_wp2
  all_goals (refine bodyPost_ret (v := ?_) ?_ rfl ?_; rotate_left 1; focus (simp [results, Tryz.results11, go_sem, *]; (try rfl); done))
  all_goals (refine ⟨⟨_, rfl, ?_⟩, ?_⟩)
  all_goals first | (simp [holdsI]; done) | (simp [holdsI]; omega) | exact F0.trans (by (repeat' first | with_reducible exact Fresh.refl _ | with_reducible assumption | with_reducible refine Fresh.alloc ?_ _ _ | with_reducible refine Fresh.drew ?_ | with_reducible refine Fresh.drewN ?_ _ | with_reducible refine Fresh.setCell ?_ ?_ _ | with_reducible refine Fresh.trans ?_ (by assumption) | (simp; done) | (simp; omega)))
end
end Go.Proofs.YteiomcbphbbpkaaGreatDoor
