/- The order, by the reference. -/
import Derived.Test.YtlmlgdojmcmllaaRj
namespace Go.Proofs.Ytlmlgdojmcmllaa
set_option linter.unusedSimpArgs false
set_option linter.unusedVariables false
open Go.RowKit
open Solve

def OrderB (g : Graph) (entry : Int) (l : List Nat) : Prop := (¬ (0 ≤ entry ∧ entry < (g.length : Int)) ∧ l = []) ∨ ((0 ≤ entry ∧ entry < (g.length : Int)) ∧ ∃ s l0, Visits g [entry.toNat] [] [] s l0 ∧ l = l0.reverse)
theorem OrderB.unique {g : Graph} {entry : Int} {a b : List Nat} (h : OrderB g entry a) (k : OrderB g entry b) : a = b := by
  rcases h with ⟨h1, rfl⟩ | ⟨h1, s, l0, hv, rfl⟩ <;> rcases k with ⟨k1, rfl⟩ | ⟨k1, s', l0', kv, rfl⟩
  · rfl
  · exact absurd k1 h1
  · exact absurd h1 k1
  · rw [(hv.unique kv).2]
def OrderPost (g : Graph) (entry : Int) (w : World) (e : Ending) (w' : World) : Prop := ∃ v, e = .returned v ∧ ∃ l, Que w' w.heap.size 3 v (nums (ints l)) ∧ OrderB g entry l ∧ Fresh w w'
theorem rev_step {l : List Nat} {k : Nat} (h : k < l.length) : (l.drop (k + 1)).reverse ++ [l[k]] = (l.drop k).reverse := by
  rw [List.drop_eq_getElem_cons h, List.reverse_cons]
theorem order_len {g : Graph} {e : Nat} {s l0 : List Nat} (h : Visits g [e] [] [] s l0) (he : e < g.length) (hl : g.length ≤ 40) : l0.length ≤ 40 := by
  have hnil : Nice g [] [] := ⟨by simp, by simp, by simp, by simp⟩
  have hni := nice_visits h hnil (by
    intro k hk
    have : k = e := by simpa using hk
    omega)
  have := hni.ls
  have := hni.sn
  omega
theorem order_pos {g : Graph} {e : Nat} {s l0 : List Nat} (h : Visits g [e] [] [] s l0) : 1 ≤ l0.length := by
  obtain ⟨A, hA⟩ := (visit_one h).1
  rw [hA]; simp
set_option maxHeartbeats 16000000 in
set_option maxRecDepth 100000 in
theorem orderR_any {ok ok' : Nat → Prop} (v : Value) (g : Graph) (entry : Int) (w : World) (hg : Sm g) (h : Rows2 ok ok' w v g) :
    Calls Try.prog 14 #[v, .int .i64 entry] w (OrderPost g entry w) := by
  have HR := Lib.hid (h.imp (a := (· < w.heap.size)) (b := (· < w.heap.size)) (fun _ hc _ => hc) (fun _ hc _ => hc))
  obtain ⟨p, cap, rfl, ⟨hc, hm⟩, _⟩ := h.form
  unfold maxLen at hm
  have hl := hg.len
  have HG := Lib.hid hg
  obtain ⟨i0, hi0, hz0, hz1, hz2⟩ := info_parts int_info
  clear h hg
  by_cases hin : 0 ≤ entry ∧ entry < (g.length : Int)
  · obtain ⟨e, rfl⟩ : ∃ e : Nat, entry = e := ⟨entry.toNat, by omega⟩
    have he : e < g.length := by omega
    have HIN := Lib.hid hin
    have hd0 : decide ((e : Int) < 0) = false := by simp
    have hd1 : decide (g.length ≤ e) = false := by simp; omega
    clear hin
    go_enter Try.func14, Try.ntmps14
    go_wp2_with (go_at_call 33; (with_reducible refine (walkR_any g HG.out w.heap.size _ g.length e [] [] _ _ _ (by simp) he (by simp) ⟨by simp, by simp, by simp, by simp⟩ (Nat.le_refl _) HR.out ⟨Que.nil _ _ _, Que.nil _ _ _, by intro b hb; simp [Value.ownBlock] at hb⟩).mono ?_); rintro e1 w1 ⟨sv, lv, s, l0, rfl, hv, ht, htr⟩; have HV := Lib.hid hv; have HL := Lib.hid ht.ql; have HF : Hid (Fresh w w1) := Lib.hid ⟨htr.bel⟩; clear hv ht htr; obtain ⟨q, cap', hq, ⟨hc', hm'⟩, _⟩ := HL.out.ints.form; unfold maxLen at hm'; rw [ints_len] at hq hc'; subst hq; have hlp := order_pos HV.out; have hln := order_len HV.out he hl)
    have HB : Hid (OrderB g e l0.reverse) := Lib.hid (Or.inr ⟨HIN.out, s, l0, by simpa using HV.out, rfl⟩)
    have HLI : Hid (Ints (fun _ => True) w1 (.slice q l0.length cap') (ints l0)) := Lib.hid HL.out.ints
    clear HL
    go_loopg [7, 8] l0.length (fun k s7 s8 wx => s8 = .int .i64 ((k : Int) - 1) ∧ k ≤ l0.length ∧ Hid (Que wx w1.heap.size 3 s7 (nums (ints ((l0.drop k).reverse)))) ∧ Hid (Fresh w1 wx))
    case atStart => exact ⟨rfl, by omega, Lib.hid (by rw [List.drop_length]; exact Que.nil _ _ _), Lib.hid (Fresh.refl _)⟩
    case round =>
      obtain ⟨rfl, hk, HQ, HF1⟩ := hrel
      cases gk with
      | zero =>
        have HQ' : Hid (Que wr w1.heap.size 3 u7 (nums (ints l0.reverse))) := Lib.hid (by have := HQ.out; rwa [List.drop_zero] at this)
        have hneg : ((0 : Nat) : Int) - 1 = -1 := by omega
        rw [hneg]
        clear hneg
        go_wp2
        go_ret
        exact ⟨_, rfl, _, HQ'.out.mono HF.out.size, HB.out, HF.out.trans HF1.out⟩
      | succ k =>
        have hkl : k < l0.length := by omega
        have HS := Lib.hid (rev_step hkl)
        obtain ⟨B', off', rfl, _, hcell⟩ := nodes_cell (HLI.out.fresh HF1.out) hkl
        obtain ⟨x, hx⟩ : ∃ x, x = l0[k] := ⟨_, rfl⟩
        rw [← hx] at hcell HS
        clear hx
        have hk1 : ((k + 1 : Nat) : Int) - 1 = (k : Int) := by omega
        rw [hk1]
        clear hk1
        have hdl : (l0.drop (k + 1)).length ≤ 40 := by rw [List.length_drop]; omega
        go_wp2_with (at_builtin; refine wpList_appF _ rfl (.tmp 30) (.tmp 35) _ rfl w1 3 i0 (.int .i64 0) 8 Try.underlying28 hi0 hz0 hz1 hz2 rfl _ _ rfl (HF1.out.alloc _ _) (HQ.out.alloc _ _) _ [Value.int IntKind.i64 (x : Int)] rfl (news_one _ _ _ _) (by intro y hy; simp at hy; subst hy; rfl) (by simp only [nums_len, ints_len, List.length_reverse, List.length_singleton, maxLen]; omega) (by simp only [nums_len, ints_len, List.length_reverse, List.length_singleton]; omega) ?_; intro v5 w5 hq5 hf5 _ _; have HQ5 : Hid (Que w5 w1.heap.size 3 v5 (nums (ints (l0.drop k).reverse))) := Lib.hid (by rw [← HS.out, ints_app, nums_app]; exact hq5); have HF5 := Lib.hid hf5; clear hq5 hf5)
        go_roundg k
        case measure => go_light; omega
        case rel => go_light; exact ⟨rfl, by omega, HQ5, HF5⟩
  · have HB : Hid (OrderB g entry []) := Lib.hid (Or.inl ⟨hin, rfl⟩)
    by_cases h0 : entry < 0
    · go_enter Try.func14, Try.ntmps14
      go_wp2
      go_ret
      exact ⟨_, rfl, [], Que.nil _ _ _, HB.out, Fresh.refl _⟩
    · have h1 : (g.length : Int) ≤ entry := by omega
      have hd : decide (entry < 0) = false := by simp; omega
      go_enter Try.func14, Try.ntmps14
      go_wp2
      go_ret
      exact ⟨_, rfl, [], Que.nil _ _ _, HB.out, Fresh.refl _⟩
end Go.Proofs.Ytlmlgdojmcmllaa
