/- The reference's memory: sizes and kinds of chunks, whether an address is in its block, where a chunk stands. -/
import Derived.Test.YtjbflmpnmobngaaVb
import Derived.Deep.QuietTactic
import Derived.BigQuiet
namespace Go.Proofs.Ytjbflmpnmobngaa
set_option linter.unusedSimpArgs false
set_option linter.unusedVariables false
open Go.RowKit

section
set_option maxRecDepth 100000
set_option maxHeartbeats 2000000
theorem size1_any (c : Int) (w : World) : Calls Try.prog 37 #[.int .i64 c] w fun e w' => e = .returned (.int .i64 (sizeL c)) ∧ w = w' := by
  go_enter Try.func37, Try.ntmps37
  go_wp2
  all_goals (go_returns; go_light)
  all_goals (refine ⟨ret_int ?_, rfl⟩; (try simp only [beq_iff_eq, beq_eq_false_iff_ne] at *); unfold sizeL; repeat' split)
  all_goals first | rfl | omega
theorem kind1_any (c : Int) (w : World) : Calls Try.prog 45 #[.int .i64 c] w fun e w' => e = .returned (.int .i64 (kindL c)) ∧ w = w' := by
  go_enter Try.func45, Try.ntmps45
  go_wp2
  all_goals (go_returns; go_light)
  all_goals (refine ⟨ret_int ?_, rfl⟩; (try simp only [beq_iff_eq, beq_eq_false_iff_ne] at *); unfold kindL; repeat' split)
  all_goals first | rfl | omega
def inR (R : List (Option RB)) (k n b : Int) : Bool := if k = 4 then (match getR R b with | none => false | some r => decide (0 ≤ wrap64 n) && decide (wrap64 n < r.sz)) else false
def endsR (R : List (Option RB)) (n b : Int) : Bool := match getR R b with | none => false | some r => decide (0 ≤ wrap64 n) && decide (wrap64 n ≤ r.sz)
theorem inR_any {M G : Nat} {L : RL} (k n b : Int) (hb : -9223372036854775808 ≤ b ∧ b ≤ 9223372036854775807) (hL : L.length ≤ 2199023255552) (w : World) (h : RRow w M G L) :
    Calls Try.prog 52 #[.pointer (some ⟨M, 0, none⟩), .agg #[.int .i64 k, .int .u64 n, .int .i64 b]] w fun e w' => e = .returned (.bool (inR (plainR L) k n b)) ∧ Fresh w w' := by
  by_cases hk : k = 4
  · subst hk
    have f1 : Fresh w (w.alloc (.cells #[.int .i64 4, .int .u64 n, .int .i64 b] 32)) := (Fresh.refl w).alloc _ _
    have HS := Lib.hid (fun x t hv => sizeR_any b hb hL _ (h.fresh f1) x t hv)
    have hin : inR (plainR L) 4 n b = (match getR (plainR L) b with | none => false | some r => decide (0 ≤ wrap64 n) && decide (wrap64 n < r.sz)) := rfl
    rw [hin]
    have F := Lib.hid f1
    cases hg : getR (plainR L) b with
    | none =>
      have HC := Lib.hid (HS.out 0 false (by rw [hg]))
      clear HS hb hL h f1 hg hin
      go_enter Try.func52, Try.ntmps52
      go_wp2_with fail
      go_at_call 22; refine (HC.out).mono ?_; rintro e w1 ⟨rfl, rfl⟩
      go_wp2_with fail
      go_ret
      exact ⟨by first | rfl | (simp [h1]; done) | (simp; omega), F.out⟩
    | some r =>
      have HC := Lib.hid (HS.out r.sz true (by rw [hg]))
      clear HS hb hL h f1 hg hin
      dsimp only
      generalize r.sz = z at *
      by_cases h0 : 0 ≤ wrap64 n
      · by_cases h1 : wrap64 n < z
        · rw [decide_eq_true h0, decide_eq_true h1]
          go_enter Try.func52, Try.ntmps52
          go_wp2_with fail
          go_at_call 22; refine (HC.out).mono ?_; rintro e w1 ⟨rfl, rfl⟩
          go_wp2_with fail
          go_ret
          exact ⟨by first | rfl | (simp [h1]; done) | (simp; omega), F.out⟩
        · rw [decide_eq_true h0, decide_eq_false h1]
          go_enter Try.func52, Try.ntmps52
          go_wp2_with fail
          go_at_call 22; refine (HC.out).mono ?_; rintro e w1 ⟨rfl, rfl⟩
          go_wp2_with fail
          go_ret
          exact ⟨by first | rfl | (simp [h1]; done) | (simp; omega), F.out⟩
      · rw [decide_eq_false h0]
        have d0 : decide (0 ≤ wrap64 n) = false := decide_eq_false h0
        go_enter Try.func52, Try.ntmps52
        go_wp2_with fail
        go_at_call 22; refine (HC.out).mono ?_; rintro e w1 ⟨rfl, rfl⟩
        go_wp2_with fail
        go_ret
        exact ⟨by first | rfl | (simp [h1]; done) | (simp; omega), F.out⟩
  · have hin : inR (plainR L) k n b = false := by unfold inR; rw [if_neg hk]
    rw [hin]
    have hk2 : (k != 4) = true := by simpa using hk
    clear h hb hL
    go_enter Try.func52, Try.ntmps52
    go_wp2_with fail
    go_ret
    exact ⟨rfl, (Fresh.refl w).alloc _ _⟩
theorem endsR_any {M G : Nat} {L : RL} (k n b : Int) (hb : -9223372036854775808 ≤ b ∧ b ≤ 9223372036854775807) (hL : L.length ≤ 2199023255552) (w : World) (h : RRow w M G L) :
    Calls Try.prog 54 #[.pointer (some ⟨M, 0, none⟩), .agg #[.int .i64 k, .int .u64 n, .int .i64 b]] w fun e w' => e = .returned (.bool (endsR (plainR L) n b)) ∧ Fresh w w' := by
  have f1 : Fresh w (w.alloc (.cells #[.int .i64 k, .int .u64 n, .int .i64 b] 32)) := (Fresh.refl w).alloc _ _
  have HS := Lib.hid (fun x t hv => sizeR_any b hb hL _ (h.fresh f1) x t hv)
  have hin : endsR (plainR L) n b = (match getR (plainR L) b with | none => false | some r => decide (0 ≤ wrap64 n) && decide (wrap64 n ≤ r.sz)) := rfl
  rw [hin]
  have F := Lib.hid f1
  cases hg : getR (plainR L) b with
  | none =>
    have HC := Lib.hid (HS.out 0 false (by rw [hg]))
    clear HS hb hL h f1 hg hin
    go_enter Try.func54, Try.ntmps54
    go_wp2_with fail
    go_at_call 22; refine (HC.out).mono ?_; rintro e w1 ⟨rfl, rfl⟩
    go_wp2_with fail
    go_ret
    exact ⟨by first | rfl | (simp [h1]; done) | (simp; omega), F.out⟩
  | some r =>
    have HC := Lib.hid (HS.out r.sz true (by rw [hg]))
    clear HS hb hL h f1 hg hin
    dsimp only
    generalize r.sz = z at *
    by_cases h0 : 0 ≤ wrap64 n
    · by_cases h1 : wrap64 n ≤ z
      · rw [decide_eq_true h0, decide_eq_true h1]
        go_enter Try.func54, Try.ntmps54
        go_wp2_with fail
        go_at_call 22; refine (HC.out).mono ?_; rintro e w1 ⟨rfl, rfl⟩
        go_wp2_with fail
        go_ret
        exact ⟨by first | rfl | (simp [h1]; done) | (simp; omega), F.out⟩
      · rw [decide_eq_true h0, decide_eq_false h1]
        go_enter Try.func54, Try.ntmps54
        go_wp2_with fail
        go_at_call 22; refine (HC.out).mono ?_; rintro e w1 ⟨rfl, rfl⟩
        go_wp2_with fail
        go_ret
        exact ⟨by first | rfl | (simp [h1]; done) | (simp; omega), F.out⟩
    · rw [decide_eq_false h0]
      have d0 : decide (0 ≤ wrap64 n) = false := decide_eq_false h0
      go_enter Try.func54, Try.ntmps54
      go_wp2_with fail
      go_at_call 22; refine (HC.out).mono ?_; rintro e w1 ⟨rfl, rfl⟩
      go_wp2_with fail
      go_ret
      exact ⟨by first | rfl | (simp [h1]; done) | (simp; omega), F.out⟩
end
end Go.Proofs.Ytjbflmpnmobngaa
