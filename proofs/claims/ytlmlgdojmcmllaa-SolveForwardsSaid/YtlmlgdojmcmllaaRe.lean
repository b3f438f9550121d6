/- The nodes behind a node; a part of rows, made anew. -/
import Derived.Test.YtlmlgdojmcmllaaRd
namespace Go.Proofs.Ytlmlgdojmcmllaa
set_option linter.unusedSimpArgs false
set_option linter.unusedVariables false
open Go.RowKit
open Solve

theorem nodes_yes {n : Nat} {l : List Int} {k : Nat} (hk : k < l.length) (h : 0 ≤ l[k] ∧ l[k] < (n : Int)) : nodesOf n (l.take (k + 1)) = nodesOf n (l.take k) ++ [l[k].toNat] := by
  rw [List.take_succ_eq_append_getElem hk]
  unfold nodesOf
  rw [List.filterMap_append]
  simp [h]
theorem nodes_no {n : Nat} {l : List Int} {k : Nat} (hk : k < l.length) (h : ¬ (0 ≤ l[k] ∧ l[k] < (n : Int))) : nodesOf n (l.take (k + 1)) = nodesOf n (l.take k) := by
  rw [List.take_succ_eq_append_getElem hk]
  unfold nodesOf
  rw [List.filterMap_append]
  simp [h]
def ints (l : List Nat) : List Int := l.map (fun (k : Nat) => (k : Int))
theorem ints_len (l : List Nat) : (ints l).length = l.length := by simp [ints]
theorem ints_app (a b : List Nat) : ints (a ++ b) = ints a ++ ints b := by simp [ints]
theorem nodes_len (n : Nat) (l : List Int) : (nodesOf n l).length ≤ l.length := List.length_filterMap_le _ _
/-- A row that takes one number more. -/
theorem que_one {w : World} {base : Nat} {e : TypeId} {v : Value} {l : List Int} (h : Que w base e v (nums l)) (x : Int) (t : TypeId) : Que (w.alloc (.cells #[.int .i64 x] t)) base e v (nums l) := h.fresh ((Fresh.refl w).alloc _ _)
theorem row_len {g : Graph} {ok : Nat → Prop} {w : World} {u : Value} {i : Nat} (h : Ints ok w u (row g i)) : (row g i).length ≤ maxLen := by
  obtain ⟨p, cap, _, ⟨hc, hm⟩, _⟩ := h.form
  omega
set_option maxHeartbeats 4000000 in
theorem follows_any {ok ok' : Nat → Prop} (v : Value) (g : Graph) (i : Nat) (w : World) (hi : i < g.length) (hsz : (row g i).length * 8 ≤ 140737488355328) (h : Rows2 ok ok' w v g) :
    Calls Try.prog 30 #[v, .int .i64 i] w fun e w' => ∃ u, e = .returned u ∧ Que w' w.heap.size 3 u (nums (ints (fol g i))) ∧ Fresh w w' := by
  obtain ⟨p, cap, rfl, ⟨hc, hm⟩, hh⟩ := h.form
  obtain ⟨B, off, u, rfl, _, hcell, hu⟩ := hh i hi
  obtain ⟨q, cap', rfl, ⟨hc', hm'⟩, hh'⟩ := hu.form
  unfold maxLen at hm hm'
  have HC := Lib.hid hcell
  have HH := Lib.hid hh'
  clear hh h hu hh' hcell
  obtain ⟨i0, hi0, hz0, hz1, hz2⟩ := info_parts int_info
  obtain ⟨l, hl⟩ : ∃ l, l = row g i := ⟨_, rfl⟩
  have HL : Hid (nodesOf g.length l = fol g i) := Lib.hid (by rw [hl]; rfl)
  rw [← hl] at HH hc' hsz HC
  clear hl
  go_enter Try.func30, Try.ntmps30
  go_wp2
  go_loopw [5, 6] (fun x s wr => ∃ k : Nat, k ≤ l.length ∧ s = .int .i64 k ∧ Hid (Que wr w.heap.size 3 x (nums (ints (nodesOf g.length (l.take k))))) ∧ Hid (Fresh w wr)) (fun _ s _ => l.length - (intOf s).toNat)
  case atStart => exact ⟨0, Nat.zero_le _, rfl, Lib.hid (Que.nil _ _ _), Lib.hid (Fresh.refl w)⟩
  case round =>
    obtain ⟨k, hk, rfl, HQ, HF⟩ := hrel
    have c0 := HF.out.sts (fun _ => True) B _ _ trivial HC.out
    by_cases hlt : k < l.length
    · obtain ⟨B', off', rfl, _, hcell'⟩ := HH.out k hlt
      rw [getD_get hlt] at hcell'
      have c1 := HF.out.sts (fun _ => True) B' _ _ trivial hcell'
      clear hcell'
      by_cases h0 : 0 ≤ l[k]
      · by_cases h1 : l[k] < (g.length : Int)
        · have HN := Lib.hid (nodes_yes hlt ⟨h0, h1⟩)
          have HX : Hid ((l[k].toNat : Int) = l[k]) := Lib.hid (by omega)
          have hlen := nodes_len g.length (l.take k)
          have hlt2 : (l.take k).length ≤ k := List.length_take_le _ _
          go_wp2_with ((at_builtin; refine wpList_app _ rfl _ _ _ rfl w.heap.size 3 i0 (.int .i64 0) 8 Try.underlying28 hi0 hz0 hz1 hz2 rfl _ _ rfl (HQ.out.fresh ((Fresh.refl _).alloc _ _)) _ [.int .i64 l[k]] rfl (news_one _ _ _ _) (by intro y hy; simp at hy; subst hy; rfl) (by simp only [nums_len, ints_len, List.length_singleton, maxLen]; omega) (by simp only [nums_len, ints_len, List.length_singleton]; omega) (by simp; exact Nat.le_succ_of_le HF.out.size) ?_; intro v1 w1 hown1 hg1 hat1))
          have HQ1 : Hid (Que w1 w.heap.size 3 v1 (nums (ints (nodesOf g.length (l.take (k + 1)))))) := by
            refine Lib.hid ?_
            rw [HN.out, ints_app, nums_app]
            simpa [nums, ints, HX.out] using hown1
          have HF1 : Hid (Fresh w w1) := Lib.hid ((HF.out.alloc _ _).grown hg1 fun b hb => (HQ.out.lt b hb).1)
          clear hown1 hg1 hat1
          go_wp2
          go_roundw
          case rel => exact ⟨k + 1, by omega, by go_num, HQ1, HF1⟩
          case measure => simp [intOf]; omega
        · have HN := Lib.hid (nodes_no (n := g.length) hlt (fun h => h1 h.2))
          go_wp2
          go_roundw
          case rel => exact ⟨k + 1, by omega, by go_num, Lib.hid (by rw [HN.out]; exact HQ.out), HF⟩
          case measure => simp [intOf]; omega
      · have HN := Lib.hid (nodes_no (n := g.length) hlt (fun h => h0 h.1))
        go_wp2
        go_roundw
        case rel => exact ⟨k + 1, by omega, by go_num, Lib.hid (by rw [HN.out]; exact HQ.out), HF⟩
        case measure => simp [intOf]; omega
    · have HN : Hid (nodesOf g.length (l.take k) = fol g i) := Lib.hid (by rw [List.take_of_length_le (by omega)]; exact HL.out)
      go_wp2
      go_ret
      exact ⟨_, rfl, by rw [← HN.out]; exact HQ.out, HF.out⟩
end Go.Proofs.Ytlmlgdojmcmllaa
