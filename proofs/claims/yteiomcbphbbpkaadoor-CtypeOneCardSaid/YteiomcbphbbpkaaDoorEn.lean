/- The reference: Promote of numbers, Common. -/
import Derived.Test.YteiomcbphbbpkaaDoorEj
import Derived.Test.YteiomcbphbbpkaaDoorEm
namespace Go.Proofs.YteiomcbphbbpkaaDoor
set_option linter.unusedSimpArgs false
set_option linter.unusedVariables false
open Go.RowKit

theorem T6.later {w w' : World} {b : Nat} {v0 v1 v2 v3 v4 v5 : Value} (t : B6 w b v0 v1 v2 v3 v4 v5) (hf : Fresh w w') : B6 w' b v0 v1 v2 v3 v4 v5 := B6.fresh t hf
theorem B6.later {w w' : World} {b : Nat} {v0 v1 v2 v3 v4 v5 : Value} (t : B6 w b v0 v1 v2 v3 v4 v5) (hf : Fresh w w') : B6 w' b v0 v1 v2 v3 v4 v5 := B6.fresh t hf
section
variable (h : Hd) (p : Option Addr) (n cap : Nat) (w : World)
set_option maxRecDepth 100000 in
set_option maxHeartbeats 2000000 in
theorem promR (hk : h.kind = 2) : Calls Tryd.prog 27 #[.agg #[.int .i64 h.kind, .int .i64 h.size, .int .i64 h.len, .bool h.flag, .string h.name, .slice p n cap]] w fun e w' => (∃ p' n' c', e = .returned (.agg #[.int .i64 (pro h).kind, .int .i64 (pro h).size, .int .i64 (pro h).len, .bool (pro h).flag, .string (pro h).name, .slice p' n' c'])) ∧ Fresh w w' := by
  obtain ⟨k, s, l, f, nm⟩ := h
  simp only at hk
  subst hk
  have HS : Hid (isSmall ⟨2, s, l, f, nm⟩ = (s == 1 || s == 2)) := Lib.hid (by simp [isSmall])
  have B1 : Hid (B6 ((w.alloc (.cells #[.int .i64 2, .int .i64 s, .int .i64 l, .bool f, .string nm, .slice p n cap] 30)).alloc (.cells #[.int .i64 0, .int .i64 0, .int .i64 0, .bool false, .string ⟨#[]⟩, .slice none 0 0] 30)) w.heap.size (.int .i64 2) (.int .i64 s) (.int .i64 l) (.bool f) (.string nm) (.slice p n cap)) := Lib.hid (B6.fresh (Blk.new w #[.int .i64 2, .int .i64 s, .int .i64 l, .bool f, .string nm, .slice p n cap] 30).six (by (repeat' first | with_reducible exact Fresh.refl _ | with_reducible assumption | with_reducible refine Fresh.alloc ?_ _ _ | with_reducible refine Fresh.drew ?_ | with_reducible refine Fresh.drewN ?_ _ | with_reducible refine Fresh.setCell ?_ ?_ _ | with_reducible refine Fresh.trans ?_ (by assumption) | (simp; done) | (simp; omega))))
  have B2 : Hid (B6 ((w.alloc (.cells #[.int .i64 2, .int .i64 s, .int .i64 l, .bool f, .string nm, .slice p n cap] 30)).alloc (.cells #[.int .i64 0, .int .i64 0, .int .i64 0, .bool false, .string ⟨#[]⟩, .slice none 0 0] 30)) (w.heap.size + 1) (.int .i64 0) (.int .i64 0) (.int .i64 0) (.bool false) (.string ⟨#[]⟩) (.slice none 0 0)) := Lib.hid (by have := (Blk.new (w.alloc (.cells #[.int .i64 2, .int .i64 s, .int .i64 l, .bool f, .string nm, .slice p n cap] 30)) #[.int .i64 0, .int .i64 0, .int .i64 0, .bool false, .string ⟨#[]⟩, .slice none 0 0] 30).six; simpa only [World.size_alloc] using this)
  have F0 : Hid (Fresh w ((w.alloc (.cells #[.int .i64 2, .int .i64 s, .int .i64 l, .bool f, .string nm, .slice p n cap] 30)).alloc (.cells #[.int .i64 0, .int .i64 0, .int .i64 0, .bool false, .string ⟨#[]⟩, .slice none 0 0] 30))) := Lib.hid (by (repeat' first | with_reducible exact Fresh.refl _ | with_reducible assumption | with_reducible refine Fresh.alloc ?_ _ _ | with_reducible refine Fresh.drew ?_ | with_reducible refine Fresh.drewN ?_ _ | with_reducible refine Fresh.setCell ?_ ?_ _ | with_reducible refine Fresh.trans ?_ (by assumption) | (simp; done) | (simp; omega)))
  have hb1 : w.heap.size < ((w.alloc (.cells #[.int .i64 2, .int .i64 s, .int .i64 l, .bool f, .string nm, .slice p n cap] 30)).alloc (.cells #[.int .i64 0, .int .i64 0, .int .i64 0, .bool false, .string ⟨#[]⟩, .slice none 0 0] 30)).heap.size := by simp; omega
  have hb2 : w.heap.size + 1 < ((w.alloc (.cells #[.int .i64 2, .int .i64 s, .int .i64 l, .bool f, .string nm, .slice p n cap] 30)).alloc (.cells #[.int .i64 0, .int .i64 0, .int .i64 0, .bool false, .string ⟨#[]⟩, .slice none 0 0] 30)).heap.size := by simp
  go_enter Tryd.func27, Tryd.ntmps27
  go_upto_region 1 with fail
  generalize ((w.alloc (.cells #[.int .i64 2, .int .i64 s, .int .i64 l, .bool f, .string nm, .slice p n cap] 30)).alloc (.cells #[.int .i64 0, .int .i64 0, .int .i64 0, .bool false, .string ⟨#[]⟩, .slice none 0 0] 30)) = W at *
  go_cut [3, 4] (fun s3 s4 wx => s4 = .bool true ∧ Hid (∃ c, s3 = .pointer (some ⟨c, 0, none⟩) ∧ Fresh W wx ∧ Blk wx c [.int .i64 s, .bool f] ∧ W.heap.size ≤ c))
  case first =>
    have hE : Fresh W W.drew := (Fresh.refl W).drew
    have hz2 : W.heap.size ≤ W.drew.heap.size := Nat.le_refl _
    go_region_held3 (fun w' => w'.cell? ⟨w.heap.size, 0, none⟩ = some (.int .i64 2) ∧ w'.cell? ⟨w.heap.size, 1, none⟩ = some (.int .i64 s) ∧ w'.cell? ⟨w.heap.size, 2, none⟩ = some (.int .i64 l) ∧ w'.cell? ⟨w.heap.size, 3, none⟩ = some (.bool f) ∧ w'.cell? ⟨w.heap.size, 4, none⟩ = some (.string nm) ∧ w'.cell? ⟨w.heap.size, 5, none⟩ = some (.slice p n cap)) (first | done | with_reducible exact ⟨(B1.out.later (hE)).c0, (B1.out.later (hE)).c1, (B1.out.later (hE)).c2, (B1.out.later (hE)).c3, (B1.out.later (hE)).c4, (B1.out.later (hE)).c5⟩ | with_reducible exact ⟨(B1.out.later (((Fresh.refl W).alloc _ _).drew)).c0, (B1.out.later (((Fresh.refl W).alloc _ _).drew)).c1, (B1.out.later (((Fresh.refl W).alloc _ _).drew)).c2, (B1.out.later (((Fresh.refl W).alloc _ _).drew)).c3, (B1.out.later (((Fresh.refl W).alloc _ _).drew)).c4, (B1.out.later (((Fresh.refl W).alloc _ _).drew)).c5⟩ | with_reducible exact ⟨(B1.out.later (hE.alloc _ _)).c0, (B1.out.later (hE.alloc _ _)).c1, (B1.out.later (hE.alloc _ _)).c2, (B1.out.later (hE.alloc _ _)).c3, (B1.out.later (hE.alloc _ _)).c4, (B1.out.later (hE.alloc _ _)).c5⟩ | with_reducible exact ⟨(B1.out.later ((hE.setCell (Nat.le_refl _) _).setCell (Nat.le_refl _) _)).c0, (B1.out.later ((hE.setCell (Nat.le_refl _) _).setCell (Nat.le_refl _) _)).c1, (B1.out.later ((hE.setCell (Nat.le_refl _) _).setCell (Nat.le_refl _) _)).c2, (B1.out.later ((hE.setCell (Nat.le_refl _) _).setCell (Nat.le_refl _) _)).c3, (B1.out.later ((hE.setCell (Nat.le_refl _) _).setCell (Nat.le_refl _) _)).c4, (B1.out.later ((hE.setCell (Nat.le_refl _) _).setCell (Nat.le_refl _) _)).c5⟩ | with_reducible exact ⟨(B1.out.later ((hE.alloc _ _).setCell hz2 _)).c0, (B1.out.later ((hE.alloc _ _).setCell hz2 _)).c1, (B1.out.later ((hE.alloc _ _).setCell hz2 _)).c2, (B1.out.later ((hE.alloc _ _).setCell hz2 _)).c3, (B1.out.later ((hE.alloc _ _).setCell hz2 _)).c4, (B1.out.later ((hE.alloc _ _).setCell hz2 _)).c5⟩ | with_reducible exact ⟨(B1.out.later (((hE.alloc _ _).setCell hz2 _).setCell hz2 _)).c0, (B1.out.later (((hE.alloc _ _).setCell hz2 _).setCell hz2 _)).c1, (B1.out.later (((hE.alloc _ _).setCell hz2 _).setCell hz2 _)).c2, (B1.out.later (((hE.alloc _ _).setCell hz2 _).setCell hz2 _)).c3, (B1.out.later (((hE.alloc _ _).setCell hz2 _).setCell hz2 _)).c4, (B1.out.later (((hE.alloc _ _).setCell hz2 _).setCell hz2 _)).c5⟩) (first | (go_at_call 53; (with_reducible refine (number_any ⟨2, s, l, f, nm⟩ p n cap _).mono ?_); rintro e w2 ⟨rfl, h2⟩; have hE : Fresh W w2 := (by first | exact hE.trans h2 | exact ((Fresh.refl W).alloc _ _).drew.trans h2); have hz2 : W.heap.size ≤ w2.heap.size := hE.size; (try (have T18 := (Blk.new W #[.int .i64 0, .bool false] 62).fresh ((Fresh.refl _).drew.trans h2); have y0 := T18.1 0 _ rfl; have y1 := T18.1 1 _ rfl; have yf := T18.2.1; have yz := T18.2.2; clear T18)); have hb3 : w.heap.size < w2.heap.size := (by omega); have hb4 : w.heap.size + 1 < w2.heap.size := (by omega); clear h2))
    all_goals (go_wp2_with fail; go_meet)
    all_goals (refine ⟨rfl, Lib.hid ?_⟩)
    all_goals first
      | exact ⟨_, rfl, hE.alloc _ _, Blk.new w2 #[.int .i64 s, .bool f] 62, hz2⟩
      | exact ⟨W.heap.size, rfl, (hE.setCell (p := ⟨W.heap.size, 0, none⟩) (Nat.le_refl _) _).setCell (p := ⟨W.heap.size, 1, none⟩) (Nat.le_refl _) _, ⟨fun i v hv => by
          match i, hv with
          | 0, hv => simp at hv; subst hv; simp [go_sem, y0, y1]
          | 1, hv => simp at hv; subst hv; simp [go_sem, y0, y1], fun o => by simp [go_sem, yf], by simp [World.setCell]; exact yz⟩, Nat.le_refl _⟩
  case rest =>
    obtain ⟨rfl, HC⟩ := hcut
    obtain ⟨c, rfl, hf, hb, hc⟩ := HC.out
    have HF := Lib.hid hf
    have HB := Lib.hid hb
    have b1 := B1.out.later hf
    have b2 := B2.out.later hf
    have hz := hf.size
    clear HC hf hb
    obtain ⟨x0, x1, x2, x3, x4, x5, xf⟩ := b1
    obtain ⟨y0, y1, y2, y3, y4, y5, yf⟩ := b2
    have xz := cell_lt x0
    have yz := cell_lt y0
    simp only at xz yz
    have c0 := HB.out.1 0 _ rfl
    have c1 := HB.out.1 1 _ rfl
    have cz := HB.out.2.2
    cases hsm : (s == 1 || s == 2)
    · have HP : Hid (pro ⟨2, s, l, f, nm⟩ = ⟨2, s, l, f, nm⟩) := Lib.hid (by unfold pro; rw [HS.out, hsm]; rfl)
      obtain ⟨q1, q2⟩ : (s == 1) = false ∧ (s == 2) = false := by simpa using hsm
      clear hsm HS
      go_wp2_with fail
      refine bodyPost_ret (v := ?_) ?_ rfl ?_; rotate_left 1; focus (simp [results, Tryd.results27, go_sem, *]; (try rfl); done)
      rw [HP.out]
      exact ⟨⟨_, _, _, rfl⟩, (by repeat' first | with_reducible refine Fresh.setCell ?_ ?_ _ | exact F0.out.trans HF.out | (simp; done) | (simp; omega))⟩
    · have HP : Hid (pro ⟨2, s, l, f, nm⟩ = numHd 4 false) := Lib.hid (by unfold pro; rw [HS.out, hsm]; rfl)
      have hq : (s == 1) = true ∨ ((s == 1) = false ∧ (s == 2) = true) := by
        cases h1 : (s == 1)
        · right; rw [h1] at hsm; exact ⟨rfl, by simpa using hsm⟩
        · left; rfl
      clear hsm HS
      rcases hq with q1 | ⟨q1, q2⟩
      all_goals
        go_wp2_with fail
        clear x0 x1 x2 x3 x4 x5 xf xz c0 c1 cz
        go_at_call 36; refine (numT_any 4 false _).mono ?_; rintro e w3 ⟨rfl, h3⟩
        have H3 := Lib.hid (HF.out.trans h3)
        clear y0 y1 y2 y3 y4 y5 yf yz h3
        have b2 := B2.out.later H3.out
        obtain ⟨y0, y1, y2, y3, y4, y5, yf⟩ := b2
        have yz := cell_lt y0
        simp only at yz
        go_wp2_with fail
        refine bodyPost_ret (v := ?_) ?_ rfl ?_; rotate_left 1; focus (simp [results, Tryd.results27, go_sem, *]; (try rfl); done)
        rw [HP.out]
        exact ⟨⟨_, _, _, rfl⟩, (by repeat' first | with_reducible refine Fresh.setCell ?_ ?_ _ | exact F0.out.trans H3.out | (simp; done) | (simp; omega))⟩
end
end Go.Proofs.YteiomcbphbbpkaaDoor
