/- A number put into a rising row. -/
import Derived.Test.YtlmlgdojmcmllaaRf
namespace Go.Proofs.Ytlmlgdojmcmllaa
set_option linter.unusedSimpArgs false
set_option linter.unusedVariables false
open Go.RowKit
open Solve

theorem take_upto {l : List Int} {x : Int} {k : Nat} (hk : k ≤ l.length) (h : ∀ j, j < k → l.getD j 0 < x) (he : k < l.length → ¬ l.getD k 0 < x) : l.takeWhile (· < x) = l.take k ∧ l.dropWhile (· < x) = l.drop k := by
  induction l generalizing k with
  | nil => simp
  | cons a l ih =>
    cases k with
    | zero =>
      have := he (by simp)
      simp only [List.getD_cons_zero] at this
      rw [List.takeWhile_cons_of_neg (by simpa using this), List.dropWhile_cons_of_neg (by simpa using this)]
      simp
    | succ k =>
      have h0 := h 0 (by omega)
      simp only [List.getD_cons_zero] at h0
      rw [List.takeWhile_cons_of_pos (by simpa using h0), List.dropWhile_cons_of_pos (by simpa using h0)]
      obtain ⟨e1, e2⟩ := ih (k := k) (by simpa using hk) (fun j hj => by have := h (j + 1) (by omega); simpa using this) (fun hl => by have := he (by simpa using hl); simpa using this)
      rw [e1, e2]; simp
/-- The later part of a row. -/
theorem Ints.drop {ok : Nat → Prop} {w : World} {B off : Nat} {l : List Int} {cap : Nat} (h : Ints ok w (.slice (some ⟨B, off, none⟩) l.length cap) l) (n : Nat) (hn : n ≤ l.length) :
    Ints ok w (.slice (some (if cap = n then ⟨B, off, none⟩ else ⟨B, off + n, none⟩)) (l.length - n) (cap - n)) (l.drop n) := by
  obtain ⟨p', cap', hv, ⟨hc, hm⟩, h⟩ := h
  rw [nums_len] at hv hc
  cases hv
  have hl : (nums (l.drop n)).length = l.length - n := by rw [nums_len, List.length_drop]
  refine ⟨_, cap - n, by rw [hl], ⟨by omega, by omega⟩, ?_⟩
  rcases h with h | ⟨B', off', hp, hB, hh⟩
  · left
    have := nums_len l
    rw [h] at this
    simp at this
    have : l = [] := List.eq_nil_of_length_eq_zero this.symm
    subst this; simp [nums]
  · cases hp
    by_cases e : n = l.length
    · left; rw [e]; simp [nums]
    · refine Or.inr ⟨B, off + n, by rw [if_neg (by omega)], hB, fun i u hu => ?_⟩
      have : nums (l.drop n) = (nums l).drop n := by simp [nums]
      rw [this, List.getElem?_drop] at hu
      rw [show off + n + i = off + (n + i) by omega]
      exact hh _ u hu
theorem addL_in {l : List Int} {x : Int} (h : has l x = true) : addL l x = l := by
  unfold addL
  rw [if_pos (by simpa [has] using h)]
theorem addL_out {l : List Int} {x : Int} {k : Nat} (h : has l x = false) (hk : k ≤ l.length) (h1 : ∀ j, j < k → l.getD j 0 < x) (he : k < l.length → ¬ l.getD k 0 < x) : addL l x = l.take k ++ [x] ++ l.drop k := by
  unfold addL
  rw [if_neg (by simpa [has] using h)]
  obtain ⟨e1, e2⟩ := take_upto hk h1 he
  rw [e1, e2]; simp
theorem add_end {w w1 w2 : World} {ok : Nat → Prop} {u : Value} {l : List Int} {k : Nat} {x : Int} (hF : Fresh w w1) (he : addL l x = l.take k ++ [x] ++ l.drop k) (hq : Que w2 w1.heap.size 3 u ([] ++ nums (l.take k) ++ [.int .i64 x] ++ nums (l.drop k))) : Ints (fun b => ok b ∨ w.heap.size ≤ b) w2 u (addL l x) := by
  have : nums (addL l x) = [] ++ nums (l.take k) ++ [.int .i64 x] ++ nums (l.drop k) := by rw [he]; simp [nums]
  unfold Ints
  rw [this]
  exact hq.row fun b hb => Or.inr (Nat.le_trans hF.size (hq.lt b hb).1)
set_option maxHeartbeats 8000000 in
theorem add_any {ok : Nat → Prop} (v : Value) (l : List Int) (x : Int) (w : World) (h : Ints ok w v l) (hsz : (l.length + 1) * 8 ≤ 140737488355328) :
    Calls Try.prog 36 #[v, .int .i64 x] w fun e w' => ∃ u, e = .returned u ∧ Ints (fun b => ok b ∨ w.heap.size ≤ b) w' u (addL l x) ∧ Fresh w w' := by
  obtain ⟨p, cap, rfl, ⟨hc, hm⟩, hh⟩ := h.form
  unfold maxLen at hm
  have HH := Lib.hid hh
  have HI := Lib.hid h
  clear hh h
  obtain ⟨i0, hi0, hz0, hz1, hz2⟩ := info_parts int_info
  go_enter Try.func36, Try.ntmps36
  cases hx : has l x with
  | true =>
    have HX := Lib.hid hx
    clear hx
    go_wp2_with (go_at_call 22; (with_reducible refine (has_any _ l x _ HI.out).mono ?_); rintro e w1 ⟨rfl, h1⟩; rw [HX.out]; have F1 := Lib.hid h1; clear h1)
    go_ret
    exact ⟨_, rfl, by rw [addL_in HX.out]; exact (HI.out.fresh F1.out).imp fun b _ hb => Or.inl hb, F1.out⟩
  | false =>
    have HX := Lib.hid hx
    clear hx
    go_wp2_with (go_at_call 22; (with_reducible refine (has_any _ l x _ HI.out).mono ?_); rintro e w1 ⟨rfl, h1⟩; rw [HX.out]; have F1 := Lib.hid h1; clear h1)
    go_loop [5] (fun s => ∃ k : Nat, k ≤ l.length ∧ s = .int .i64 k ∧ Hid (∀ j, j < k → l.getD j 0 < x)) (fun s => l.length - (intOf s).toNat)
    case atStart => exact ⟨0, by omega, rfl, Lib.hid (fun j hj => by omega)⟩
    case round =>
      obtain ⟨k, hk, rfl, HL⟩ := hrel
      by_cases hgo : k < l.length ∧ l.getD k 0 < x
      · obtain ⟨hlt, hl⟩ := hgo
        obtain ⟨B, off, rfl, _, hcell⟩ := HH.out k hlt
        rw [getD_get hlt] at hcell hl
        have c1 := F1.out.sts (fun _ => True) B _ _ trivial hcell
        have HN := Lib.hid (show ∀ j, j < k + 1 → l.getD j 0 < x from fun j hj => by
          by_cases e : j = k
          · rw [e, getD_get hlt]; exact hl
          · exact HL.out j (by omega))
        clear hcell
        have hd : decide (l[k] < x) = true := by simpa using hl
        go_wp2
        go_round
        case rel => exact ⟨k + 1, by omega, by go_num, HN⟩
        case measure => simp [intOf]; omega
      · have HE := Lib.hid (addL_out HX.out hk HL.out (fun h1 h2 => hgo ⟨h1, h2⟩))
        have HT := Lib.hid (HI.out.take k hk)
        by_cases hlt : k < l.length
        · obtain ⟨B, off, rfl, _, hcell⟩ := HH.out k hlt
          rw [getD_get hlt] at hcell
          have c1 := F1.out.sts (fun _ => True) B _ _ trivial hcell
          clear hcell
          have hd : decide (l[k] < x) = false := by
            have : ¬ l[k] < x := fun h => hgo ⟨hlt, by rw [getD_get hlt]; exact h⟩
            simpa using this
          have HG := Lib.hid hgo
          have HD : Hid (∀ {wx : World}, Fresh w1 wx → News wx (.slice (some ⟨B, off + k, none⟩) (l.length - k) (cap - k)) (nums (l.drop k))) := Lib.hid (fun hf => by
            have := (HI.out.drop k hk).fresh (F1.out.trans hf)
            rw [if_neg (by omega)] at this
            exact this.news)
          clear hgo
          go_wp2
          clear c1 hd
          have hkc : k ≤ cap := by omega
          have hck : ¬ cap = k := by omega
          go_region_held3 (fun _ => True) (trivial) (first | (refine step_appF _ rfl (.tmp 24) (.tmp 27) _ rfl w1 3 i0 (.int .i64 0) 8 Try.underlying28 hi0 hz0 hz1 hz2 rfl _ [] rfl (by (repeat' first | with_reducible exact Fresh.refl _ | with_reducible assumption | with_reducible refine Fresh.alloc ?_ _ _ | with_reducible refine Fresh.drew ?_ | with_reducible refine Fresh.drewN ?_ _ | with_reducible refine Fresh.setCell ?_ ?_ _ | (simp; done) | (simp; omega))) (by (repeat' first | (refine que_at _ _ _ _ _ ?_ ?_ <;> (simp; done)) | with_reducible refine Que.drew ?_ | with_reducible refine Que.alloc ?_ _ _)) _ (nums (l.take k)) rfl (HT.out.fresh (F1.out.trans (by (repeat' first | with_reducible exact Fresh.refl _ | with_reducible assumption | with_reducible refine Fresh.alloc ?_ _ _ | with_reducible refine Fresh.drew ?_ | with_reducible refine Fresh.drewN ?_ _ | with_reducible refine Fresh.setCell ?_ ?_ _ | (simp; done) | (simp; omega))))).news (nums_one _) (by simp only [nums_len, List.nil_append, List.length_append, List.length_nil, List.length_cons, List.length_take, List.length_drop, maxLen]; omega) (by simp only [nums_len, List.nil_append, List.length_append, List.length_nil, List.length_cons, List.length_take, List.length_drop, maxLen]; omega) ?_; intro v1 wa q1 e1 s1 _; have Q1 := Lib.hid q1; have E1 := Lib.hid e1; have S1 := Lib.hid s1; clear q1 e1 s1) | (refine step_appF _ rfl (.tmp 28) (.tmp 30) _ rfl w1 3 i0 (.int .i64 0) 8 Try.underlying28 hi0 hz0 hz1 hz2 rfl _ ([] ++ nums (l.take k)) rfl (by (repeat' first | with_reducible exact E1.out | with_reducible refine Fresh.drew ?_ | with_reducible refine Fresh.alloc ?_ _ _)) (by (repeat' first | with_reducible refine Que.drew ?_ | with_reducible refine Que.alloc ?_ _ _ | exact Q1.out)) _ [Value.int IntKind.i64 x] rfl (by (repeat' first | (refine news_at _ _ _ _ _ ?_; (simp; done)) | with_reducible refine News.drew ?_ | with_reducible refine News.alloc ?_ _ _ | (refine news_far ?_ S1.out (by first | (simp; done) | (show some _ ≠ some _; simp; done))))) (by intro u hu; simp at hu; subst hu; rfl) (by simp only [nums_len, List.nil_append, List.length_append, List.length_nil, List.length_cons, List.length_take, List.length_drop, maxLen]; omega) (by simp only [nums_len, List.nil_append, List.length_append, List.length_nil, List.length_cons, List.length_take, List.length_drop, maxLen]; omega) ?_; intro v2 wb q2 e2 s2 _; have Q2 := Lib.hid q2; have E2 := Lib.hid e2; clear q2 e2 s2) | (refine step_appF _ rfl (.tmp 31) (.tmp 34) _ rfl w1 3 i0 (.int .i64 0) 8 Try.underlying28 hi0 hz0 hz1 hz2 rfl _ ([] ++ nums (l.take k) ++ [Value.int IntKind.i64 x]) rfl E2.out Q2.out _ (nums (l.drop k)) rfl ((HD.out E2.out)) (nums_one _) (by simp only [nums_len, List.nil_append, List.length_append, List.length_nil, List.length_cons, List.length_take, List.length_drop, maxLen]; omega) (by simp only [nums_len, List.nil_append, List.length_append, List.length_nil, List.length_cons, List.length_take, List.length_drop, maxLen]; omega) ?_; intro v3 wc q3 e3 s3 _; have Q3 := Lib.hid q3; have E3 := Lib.hid e3; clear q3 e3 s3))
          all_goals
            go_wp2
            go_ret
            exact ⟨_, rfl, add_end F1.out HE.out Q3.out, F1.out.trans E3.out⟩
        · have HG := Lib.hid hgo
          clear hgo
          obtain rfl : k = l.length := by omega
          have HD : Hid (∀ {wx : World} (q : Option Addr) (c : Nat), News wx (.slice q 0 c) (nums (l.drop l.length))) := Lib.hid (fun q c => by rw [List.drop_length]; exact news_none _ _ _)
          go_wp2
          have hkc : l.length ≤ cap := by omega
          have HK := Lib.hid hk
          have hll : ¬ l.length < l.length := by omega
          by_cases hck : cap = l.length
          · subst hck
            go_region_held3 (fun _ => True) (trivial) (first | (refine step_appF _ rfl (.tmp 24) (.tmp 27) _ rfl w1 3 i0 (.int .i64 0) 8 Try.underlying28 hi0 hz0 hz1 hz2 rfl _ [] rfl (by (repeat' first | with_reducible exact Fresh.refl _ | with_reducible assumption | with_reducible refine Fresh.alloc ?_ _ _ | with_reducible refine Fresh.drew ?_ | with_reducible refine Fresh.drewN ?_ _ | with_reducible refine Fresh.setCell ?_ ?_ _ | (simp; done) | (simp; omega))) (by (repeat' first | (refine que_at _ _ _ _ _ ?_ ?_ <;> (simp; done)) | with_reducible refine Que.drew ?_ | with_reducible refine Que.alloc ?_ _ _)) _ (nums (l.take l.length)) rfl (HT.out.fresh (F1.out.trans (by (repeat' first | with_reducible exact Fresh.refl _ | with_reducible assumption | with_reducible refine Fresh.alloc ?_ _ _ | with_reducible refine Fresh.drew ?_ | with_reducible refine Fresh.drewN ?_ _ | with_reducible refine Fresh.setCell ?_ ?_ _ | (simp; done) | (simp; omega))))).news (nums_one _) (by simp only [nums_len, List.nil_append, List.length_append, List.length_nil, List.length_cons, List.length_take, List.length_drop, maxLen]; omega) (by simp only [nums_len, List.nil_append, List.length_append, List.length_nil, List.length_cons, List.length_take, List.length_drop, maxLen]; omega) ?_; intro v1 wa q1 e1 s1 _; have Q1 := Lib.hid q1; have E1 := Lib.hid e1; have S1 := Lib.hid s1; clear q1 e1 s1) | (refine step_appF _ rfl (.tmp 28) (.tmp 30) _ rfl w1 3 i0 (.int .i64 0) 8 Try.underlying28 hi0 hz0 hz1 hz2 rfl _ ([] ++ nums (l.take l.length)) rfl (by (repeat' first | with_reducible exact E1.out | with_reducible refine Fresh.drew ?_ | with_reducible refine Fresh.alloc ?_ _ _)) (by (repeat' first | with_reducible refine Que.drew ?_ | with_reducible refine Que.alloc ?_ _ _ | exact Q1.out)) _ [Value.int IntKind.i64 x] rfl (by (repeat' first | (refine news_at _ _ _ _ _ ?_; (simp; done)) | with_reducible refine News.drew ?_ | with_reducible refine News.alloc ?_ _ _ | (refine news_far ?_ S1.out (by first | (simp; done) | (show some _ ≠ some _; simp; done))))) (by intro u hu; simp at hu; subst hu; rfl) (by simp only [nums_len, List.nil_append, List.length_append, List.length_nil, List.length_cons, List.length_take, List.length_drop, maxLen]; omega) (by simp only [nums_len, List.nil_append, List.length_append, List.length_nil, List.length_cons, List.length_take, List.length_drop, maxLen]; omega) ?_; intro v2 wb q2 e2 s2 _; have Q2 := Lib.hid q2; have E2 := Lib.hid e2; clear q2 e2 s2) | (refine step_appF _ rfl (.tmp 31) (.tmp 34) _ rfl w1 3 i0 (.int .i64 0) 8 Try.underlying28 hi0 hz0 hz1 hz2 rfl _ ([] ++ nums (l.take l.length) ++ [Value.int IntKind.i64 x]) rfl E2.out Q2.out _ (nums (l.drop l.length)) rfl (HD.out _ _) (nums_one _) (by simp only [nums_len, List.nil_append, List.length_append, List.length_nil, List.length_cons, List.length_take, List.length_drop, maxLen]; omega) (by simp only [nums_len, List.nil_append, List.length_append, List.length_nil, List.length_cons, List.length_take, List.length_drop, maxLen]; omega) ?_; intro v3 wc q3 e3 s3 _; have Q3 := Lib.hid q3; have E3 := Lib.hid e3; clear q3 e3 s3))
            all_goals
              go_wp2
              go_ret
              exact ⟨_, rfl, add_end F1.out HE.out Q3.out, F1.out.trans E3.out⟩
          · go_region_held3 (fun _ => True) (trivial) (first | (refine step_appF _ rfl (.tmp 24) (.tmp 27) _ rfl w1 3 i0 (.int .i64 0) 8 Try.underlying28 hi0 hz0 hz1 hz2 rfl _ [] rfl (by (repeat' first | with_reducible exact Fresh.refl _ | with_reducible assumption | with_reducible refine Fresh.alloc ?_ _ _ | with_reducible refine Fresh.drew ?_ | with_reducible refine Fresh.drewN ?_ _ | with_reducible refine Fresh.setCell ?_ ?_ _ | (simp; done) | (simp; omega))) (by (repeat' first | (refine que_at _ _ _ _ _ ?_ ?_ <;> (simp; done)) | with_reducible refine Que.drew ?_ | with_reducible refine Que.alloc ?_ _ _)) _ (nums (l.take l.length)) rfl (HT.out.fresh (F1.out.trans (by (repeat' first | with_reducible exact Fresh.refl _ | with_reducible assumption | with_reducible refine Fresh.alloc ?_ _ _ | with_reducible refine Fresh.drew ?_ | with_reducible refine Fresh.drewN ?_ _ | with_reducible refine Fresh.setCell ?_ ?_ _ | (simp; done) | (simp; omega))))).news (nums_one _) (by simp only [nums_len, List.nil_append, List.length_append, List.length_nil, List.length_cons, List.length_take, List.length_drop, maxLen]; omega) (by simp only [nums_len, List.nil_append, List.length_append, List.length_nil, List.length_cons, List.length_take, List.length_drop, maxLen]; omega) ?_; intro v1 wa q1 e1 s1 _; have Q1 := Lib.hid q1; have E1 := Lib.hid e1; have S1 := Lib.hid s1; clear q1 e1 s1) | (refine step_appF _ rfl (.tmp 28) (.tmp 30) _ rfl w1 3 i0 (.int .i64 0) 8 Try.underlying28 hi0 hz0 hz1 hz2 rfl _ ([] ++ nums (l.take l.length)) rfl (by (repeat' first | with_reducible exact E1.out | with_reducible refine Fresh.drew ?_ | with_reducible refine Fresh.alloc ?_ _ _)) (by (repeat' first | with_reducible refine Que.drew ?_ | with_reducible refine Que.alloc ?_ _ _ | exact Q1.out)) _ [Value.int IntKind.i64 x] rfl (by (repeat' first | (refine news_at _ _ _ _ _ ?_; (simp; done)) | with_reducible refine News.drew ?_ | with_reducible refine News.alloc ?_ _ _ | (refine news_far ?_ S1.out (by first | (simp; done) | (show some _ ≠ some _; simp; done))))) (by intro u hu; simp at hu; subst hu; rfl) (by simp only [nums_len, List.nil_append, List.length_append, List.length_nil, List.length_cons, List.length_take, List.length_drop, maxLen]; omega) (by simp only [nums_len, List.nil_append, List.length_append, List.length_nil, List.length_cons, List.length_take, List.length_drop, maxLen]; omega) ?_; intro v2 wb q2 e2 s2 _; have Q2 := Lib.hid q2; have E2 := Lib.hid e2; clear q2 e2 s2) | (refine step_appF _ rfl (.tmp 31) (.tmp 34) _ rfl w1 3 i0 (.int .i64 0) 8 Try.underlying28 hi0 hz0 hz1 hz2 rfl _ ([] ++ nums (l.take l.length) ++ [Value.int IntKind.i64 x]) rfl E2.out Q2.out _ (nums (l.drop l.length)) rfl (HD.out _ _) (nums_one _) (by simp only [nums_len, List.nil_append, List.length_append, List.length_nil, List.length_cons, List.length_take, List.length_drop, maxLen]; omega) (by simp only [nums_len, List.nil_append, List.length_append, List.length_nil, List.length_cons, List.length_take, List.length_drop, maxLen]; omega) ?_; intro v3 wc q3 e3 s3 _; have Q3 := Lib.hid q3; have E3 := Lib.hid e3; clear q3 e3 s3))
            all_goals
              go_wp2
              go_ret
              exact ⟨_, rfl, add_end F1.out HE.out Q3.out, F1.out.trans E3.out⟩
theorem Ints.shape {ok : Nat → Prop} {w : World} {v : Value} {l : List Int} (h : Ints ok w v l) : ∃ q m c, v = .slice q m c := by
  obtain ⟨p, cap, hv, _, _⟩ := h.form
  exact ⟨p, _, cap, hv⟩
theorem add_sl {ok : Nat → Prop} (v : Value) (l : List Int) (x : Int) (w : World) (h : Ints ok w v l) (hsz : (l.length + 1) * 8 ≤ 140737488355328) :
    Calls Try.prog 36 #[v, .int .i64 x] w fun e w' => ∃ q m c, e = .returned (.slice q m c) ∧ Ints (fun b => ok b ∨ w.heap.size ≤ b) w' (.slice q m c) (addL l x) ∧ Fresh w w' :=
  (add_any v l x w h hsz).mono fun e w' ⟨u, he, hu, hf⟩ => by
    obtain ⟨q, m, c, rfl⟩ := hu.shape
    exact ⟨q, m, c, he, hu, hf⟩
end Go.Proofs.Ytlmlgdojmcmllaa
