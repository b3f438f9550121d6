/- Tokens: walked whole. -/
import Derived.Test.YtcmfmfgedhfaeaaGreatDoorMb
namespace Go.Proofs.YtcmfmfgedhfaeaaGreatDoor
set_option linter.unusedSimpArgs false
set_option linter.unusedVariables false
open Go.RowKit

def brokT (s : ByteArray) : Option (Int × Int) → TR
  | some p => .err p.1 p.2 1
  | none => piecesF s s.size 0 0 1 1
/-- The tokens of a text. -/
def tokensF (s : ByteArray) : TR := if 1048576 < s.size then .err 0 0 1 else brokT s (brokF s s.size 0 1 1)
set_option maxRecDepth 100000 in
set_option maxHeartbeats 4000000 in
theorem tok_long (s : ByteArray) (h : 1048576 < (s.size : Int)) (w : World) : Calls Tryz.prog 8 #[.string s] w fun e w' => e = .returned (.tuple #[.slice none 0 0, .agg #[.int .i64 0, .int .i64 0], .int .i64 1]) ∧ Fresh w w' := by
  go_enter Tryz.func8, Tryz.ntmps8
  go_wp2_with fail
  refine bodyPost_ret (v := ?_) ?_ rfl ?_; rotate_left 1; focus (simp [results, Tryz.results8, go_sem, *]; (try rfl); done)
  exact ⟨rfl, (by repeat' first | with_reducible exact Fresh.refl _ | with_reducible refine Fresh.alloc ?_ _ _ | with_reducible refine Fresh.setCell ?_ ?_ _ | (simp; done) | omega)⟩
set_option maxRecDepth 100000 in
set_option maxHeartbeats 4000000 in
theorem tok_broken (s : ByteArray) (h : ¬ 1048576 < (s.size : Int)) (l c : Int) (w : World) (h15 : ∀ X, Calls Tryz.prog 15 #[.string s] X fun e w' => e = .returned (.tuple #[.agg #[.int .i64 l, .int .i64 c], .bool true]) ∧ Fresh X w') :
    Calls Tryz.prog 8 #[.string s] w fun e w' => e = .returned (.tuple #[.slice none 0 0, .agg #[.int .i64 l, .int .i64 c], .int .i64 1]) ∧ Fresh w w' := by
  have C := Lib.hid h15
  clear h15
  have F0 : Hid (Fresh w (w.alloc (.cells #[.int .i64 0, .int .i64 0] 25))) := Lib.hid ((Fresh.refl w).alloc _ _)
  go_enter Tryz.func8, Tryz.ntmps8
  go_wp2_with fail
  go_at_call 15; refine (C.out _).mono ?_; rintro e w1 ⟨rfl, f1⟩
  have F1 := Lib.hid (F0.out.trans f1)
  have R1 : Hid (Blk w1 w.heap.size [.int .i64 0, .int .i64 0]) := Lib.hid ((Blk.new w #[.int .i64 0, .int .i64 0] 25).fresh f1)
  clear f1 F0
  go_upto_region 5 with fail
  have F2 : Hid (Fresh w (w1.alloc (.cells #[.int .i64 l, .int .i64 c] 25))) := Lib.hid (F1.out.alloc _ _)
  have R2 : Hid (Blk (w1.alloc (.cells #[.int .i64 l, .int .i64 c] 25)) w.heap.size [.int .i64 0, .int .i64 0]) := Lib.hid (R1.out.fresh ((Fresh.refl w1).alloc _ _))
  have A2 : Hid (Blk (w1.alloc (.cells #[.int .i64 l, .int .i64 c] 25)) w1.heap.size [.int .i64 l, .int .i64 c]) := Lib.hid (Blk.new w1 #[.int .i64 l, .int .i64 c] 25)
  clear F1 R1
  generalize (w1.alloc (.cells #[.int .i64 l, .int .i64 c] 25)) = W2 at *
  generalize w1.heap.size = A at *
  have r0 := A2.out.1 0 _ rfl
  have r1 := A2.out.1 1 _ rfl
  have q0 := R2.out.1 0 _ rfl
  have q1 := R2.out.1 1 _ rfl
  have qf := R2.out.2.1
  go_region
  all_goals go_wp2_with fail
  all_goals (refine bodyPost_ret (v := ?_) ?_ rfl ?_; rotate_left 1; focus (simp [results, Tryz.results8, go_sem, *]; (try rfl); done))
  all_goals exact ⟨rfl, (by repeat' first | with_reducible exact F2.out | with_reducible refine Fresh.drew ?_ | with_reducible refine Fresh.setCell ?_ ?_ _ | (simp; done) | omega)⟩
set_option maxRecDepth 100000 in
set_option maxHeartbeats 4000000 in
theorem tok_pieces (s : ByteArray) (h : ¬ 1048576 < (s.size : Int)) (R : TR) (w : World) (hT : Tabs w) (h15 : ∀ X, Calls Tryz.prog 15 #[.string s] X fun e w' => e = .returned (.tuple #[.agg #[.int .i64 0, .int .i64 0], .bool false]) ∧ Fresh X w')
    (h16 : ∀ X, Tabs X → Calls Tryz.prog 16 #[.string s] X fun e w' => TokR R X e w' ∧ Fresh X w') :
    Calls Tryz.prog 8 #[.string s] w fun e w' => TokR R w e w' ∧ Fresh w w' := by
  have C := Lib.hid h15
  have D := Lib.hid h16
  have HT := Lib.hid hT
  clear h15 h16 hT
  have F0 : Hid (Fresh w (w.alloc (.cells #[.int .i64 0, .int .i64 0] 25))) := Lib.hid ((Fresh.refl w).alloc _ _)
  go_enter Tryz.func8, Tryz.ntmps8
  go_wp2_with fail
  go_at_call 15; refine (C.out _).mono ?_; rintro e w1 ⟨rfl, f1⟩
  have F1 := Lib.hid (F0.out.trans f1)
  have R1 : Hid (Blk w1 w.heap.size [.int .i64 0, .int .i64 0]) := Lib.hid ((Blk.new w #[.int .i64 0, .int .i64 0] 25).fresh f1)
  clear f1 F0
  go_upto_region 6 with fail
  have F2 : Hid (Fresh w (w1.alloc (.cells #[.int .i64 0, .int .i64 0] 25))) := Lib.hid (F1.out.alloc _ _)
  have R2 : Hid (Blk (w1.alloc (.cells #[.int .i64 0, .int .i64 0] 25)) w.heap.size [.int .i64 0, .int .i64 0]) := Lib.hid (R1.out.fresh ((Fresh.refl w1).alloc _ _))
  clear F1 R1
  generalize (w1.alloc (.cells #[.int .i64 0, .int .i64 0] 25)) = W2 at *
  go_wp2_with fail
  go_at_call 16; refine (D.out _ (HT.out.fresh F2.out)).mono ?_; rintro e w3 ⟨⟨h1, h2⟩, f3⟩
  have F3 := Lib.hid (F2.out.trans f3)
  have R3 := Lib.hid (R2.out.fresh f3)
  have HLE := Lib.hid F2.out.size
  clear f3
  cases R with
  | err l c x =>
    obtain rfl := h1 l c x rfl
    clear h1 h2
    have q0 := R3.out.1 0 _ rfl
    have q1 := R3.out.1 1 _ rfl
    have qf := R3.out.2.1
    go_wp2_with fail
    refine bodyPost_ret (v := ?_) ?_ rfl ?_; rotate_left 1; focus (simp [results, Tryz.results8, go_sem, *]; (try rfl); done)
    exact ⟨⟨(fun l9 c9 x9 h9 => by cases h9; rfl), (fun t9 h9 => by cases h9)⟩, (by repeat' first | with_reducible exact F3.out | with_reducible refine Fresh.setCell ?_ ?_ _ | (simp; done) | omega)⟩
  | ok ts =>
    obtain ⟨v, rfl, hown⟩ := h2 ts rfl
    have HO := Lib.hid hown
    clear h1 h2 hown
    have q0 := R3.out.1 0 _ rfl
    have q1 := R3.out.1 1 _ rfl
    have qf := R3.out.2.1
    go_wp2_with fail
    refine bodyPost_ret (v := ?_) ?_ rfl ?_; rotate_left 1; focus (simp [results, Tryz.results8, go_sem, *]; (try rfl); done)
    refine ⟨⟨(fun l9 c9 x9 h9 => by cases h9), fun t9 h9 => ?_⟩, (by repeat' first | with_reducible exact F3.out | with_reducible refine Fresh.setCell ?_ ?_ _ | (simp; done) | omega)⟩
    cases h9
    have hne : v.ownBlock ≠ some w.heap.size := fun e => by have := (HO.out.lt _ e).1; have := R2.out.2.2; omega
    exact ⟨v, rfl, own_base _ _ _ _ _ _ _ _ (own_set _ _ _ _ _ _ _ (own_set _ _ _ _ _ _ _ HO.out _ 0 _ hne) _ 1 _ hne) HLE.out⟩
theorem tokens_any (s : ByteArray) (w : World) (hT : Tabs w) : Calls Tryz.prog 8 #[.string s] w fun e w' => TokR (tokensF s) w e w' ∧ Fresh w w' := by
  unfold tokensF
  by_cases h : 1048576 < s.size
  · rw [if_pos h]
    exact (tok_long s (by omega) w).mono (fun e w' ⟨p, q⟩ => ⟨⟨(fun l9 c9 x9 h9 => by cases h9; exact p), (fun t9 h9 => by cases h9)⟩, q⟩)
  · rw [if_neg h]
    have h15 := fun X => broken_any s (by omega) X
    cases hb : brokF s s.size 0 1 1 with
    | some p =>
      rw [hb] at h15
      exact (tok_broken s (by omega) p.1 p.2 w h15).mono (fun e w' ⟨p, q⟩ => ⟨⟨(fun l9 c9 x9 h9 => by cases h9; exact p), (fun t9 h9 => by cases h9)⟩, q⟩)
    | none =>
      rw [hb] at h15
      exact tok_pieces s (by omega) _ w hT h15 (fun X hX => pieces_any s (by omega) X hX)
end Go.Proofs.YtcmfmfgedhfaeaaGreatDoor
