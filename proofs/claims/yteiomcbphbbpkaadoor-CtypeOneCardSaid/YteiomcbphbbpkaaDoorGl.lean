/- The reference: Chunk, Kind, Promote of what is no number. -/
import Derived.Test.YteiomcbphbbpkaaDoorEn
import Derived.Test.YteiomcbphbbpkaaDoorFx
namespace Go.Proofs.YteiomcbphbbpkaaDoor
set_option linter.unusedSimpArgs false
set_option linter.unusedVariables false
open Go.RowKit
section
variable (h : Hd) (p : Option Addr) (n cap : Nat) (w : World)
theorem chunkR_3 (hk : h.kind = 3) : Calls Tryd.prog 23 #[.agg #[.int .i64 h.kind, .int .i64 h.size, .int .i64 h.len, .bool h.flag, .string h.name, .slice p n cap]] w fun e w' => e = .returned (.int .i64 7) ∧ Fresh w w' := by
  have kk2 : (h.kind == 2) = false := by rw [hk]; rfl
  have kk3 : (h.kind == 3) = true := by rw [hk]; rfl
  have kk4 : (h.kind == 4) = false := by rw [hk]; rfl
  clear hk
  go_enter Tryd.func23, Tryd.ntmps23
  go_wp2_with fail
  go_returns
  exact ⟨rfl, (by (repeat' first | with_reducible exact Fresh.refl _ | with_reducible assumption | with_reducible refine Fresh.alloc ?_ _ _ | with_reducible refine Fresh.drew ?_ | with_reducible refine Fresh.drewN ?_ _ | with_reducible refine Fresh.setCell ?_ ?_ _ | with_reducible refine Fresh.trans ?_ (by assumption) | (simp; done) | (simp; omega)))⟩
theorem chunkR_4 (hk : h.kind = 4) : Calls Tryd.prog 23 #[.agg #[.int .i64 h.kind, .int .i64 h.size, .int .i64 h.len, .bool h.flag, .string h.name, .slice p n cap]] w fun e w' => e = .returned (.int .i64 6) ∧ Fresh w w' := by
  have kk2 : (h.kind == 2) = false := by rw [hk]; rfl
  have kk3 : (h.kind == 3) = false := by rw [hk]; rfl
  have kk4 : (h.kind == 4) = true := by rw [hk]; rfl
  clear hk
  go_enter Tryd.func23, Tryd.ntmps23
  go_wp2_with fail
  go_returns
  exact ⟨rfl, (by (repeat' first | with_reducible exact Fresh.refl _ | with_reducible assumption | with_reducible refine Fresh.alloc ?_ _ _ | with_reducible refine Fresh.drew ?_ | with_reducible refine Fresh.drewN ?_ _ | with_reducible refine Fresh.setCell ?_ ?_ _ | with_reducible refine Fresh.trans ?_ (by assumption) | (simp; done) | (simp; omega)))⟩
theorem chunkR_o (h2 : h.kind ≠ 2) (h3 : h.kind ≠ 3) (h4 : h.kind ≠ 4) : Calls Tryd.prog 23 #[.agg #[.int .i64 h.kind, .int .i64 h.size, .int .i64 h.len, .bool h.flag, .string h.name, .slice p n cap]] w fun e w' => e = .returned (.int .i64 0) ∧ Fresh w w' := by
  have kk2 : (h.kind == 2) = false := by simpa using h2
  have kk3 : (h.kind == 3) = false := by simpa using h3
  have kk4 : (h.kind == 4) = false := by simpa using h4
  clear h2 h3 h4
  go_enter Tryd.func23, Tryd.ntmps23
  go_wp2_with fail
  go_returns
  exact ⟨rfl, (by (repeat' first | with_reducible exact Fresh.refl _ | with_reducible assumption | with_reducible refine Fresh.alloc ?_ _ _ | with_reducible refine Fresh.drew ?_ | with_reducible refine Fresh.drewN ?_ _ | with_reducible refine Fresh.setCell ?_ ?_ _ | with_reducible refine Fresh.trans ?_ (by assumption) | (simp; done) | (simp; omega)))⟩
theorem chunkR_2 (hk : h.kind = 2) : Calls Tryd.prog 23 #[.agg #[.int .i64 h.kind, .int .i64 h.size, .int .i64 h.len, .bool h.flag, .string h.name, .slice p n cap]] w fun e w' => e = .returned (.int .i64 (nchunk h.size h.flag)) ∧ Fresh w w' := by
  obtain ⟨k, s, l, f, nm⟩ := h
  simp only at hk
  subst hk
  show Calls _ _ _ _ fun e w' => e = .returned (.int .i64 (nchunk s f)) ∧ Fresh w w'
  by_cases h1 : s = 1
  · subst h1
    cases f
    · go_enter Tryd.func23, Tryd.ntmps23
      go_wp2_with fail
      go_at_call 53; refine (number_any ⟨2, 1, l, false, nm⟩ p n cap _).mono ?_; rintro e w1 ⟨rfl, h1⟩
      go_wp2_with fail
      go_returns
      exact ⟨rfl, (by (repeat' first | with_reducible exact Fresh.refl _ | with_reducible assumption | with_reducible refine Fresh.alloc ?_ _ _ | with_reducible refine Fresh.drew ?_ | with_reducible refine Fresh.drewN ?_ _ | with_reducible refine Fresh.setCell ?_ ?_ _ | with_reducible refine Fresh.trans ?_ (by assumption) | (simp; done) | (simp; omega)))⟩
    · go_enter Tryd.func23, Tryd.ntmps23
      go_wp2_with fail
      go_at_call 53; refine (number_any ⟨2, 1, l, true, nm⟩ p n cap _).mono ?_; rintro e w1 ⟨rfl, h1⟩
      go_wp2_with fail
      go_returns
      exact ⟨rfl, (by (repeat' first | with_reducible exact Fresh.refl _ | with_reducible assumption | with_reducible refine Fresh.alloc ?_ _ _ | with_reducible refine Fresh.drew ?_ | with_reducible refine Fresh.drewN ?_ _ | with_reducible refine Fresh.setCell ?_ ?_ _ | with_reducible refine Fresh.trans ?_ (by assumption) | (simp; done) | (simp; omega)))⟩
  by_cases h2 : s = 2
  · subst h2
    cases f
    · go_enter Tryd.func23, Tryd.ntmps23
      go_wp2_with fail
      go_at_call 53; refine (number_any ⟨2, 2, l, false, nm⟩ p n cap _).mono ?_; rintro e w1 ⟨rfl, h1⟩
      go_wp2_with fail
      go_returns
      exact ⟨rfl, (by (repeat' first | with_reducible exact Fresh.refl _ | with_reducible assumption | with_reducible refine Fresh.alloc ?_ _ _ | with_reducible refine Fresh.drew ?_ | with_reducible refine Fresh.drewN ?_ _ | with_reducible refine Fresh.setCell ?_ ?_ _ | with_reducible refine Fresh.trans ?_ (by assumption) | (simp; done) | (simp; omega)))⟩
    · go_enter Tryd.func23, Tryd.ntmps23
      go_wp2_with fail
      go_at_call 53; refine (number_any ⟨2, 2, l, true, nm⟩ p n cap _).mono ?_; rintro e w1 ⟨rfl, h1⟩
      go_wp2_with fail
      go_returns
      exact ⟨rfl, (by (repeat' first | with_reducible exact Fresh.refl _ | with_reducible assumption | with_reducible refine Fresh.alloc ?_ _ _ | with_reducible refine Fresh.drew ?_ | with_reducible refine Fresh.drewN ?_ _ | with_reducible refine Fresh.setCell ?_ ?_ _ | with_reducible refine Fresh.trans ?_ (by assumption) | (simp; done) | (simp; omega)))⟩
  by_cases h4 : s = 4
  · subst h4
    cases f
    · go_enter Tryd.func23, Tryd.ntmps23
      go_wp2_with fail
      go_at_call 53; refine (number_any ⟨2, 4, l, false, nm⟩ p n cap _).mono ?_; rintro e w1 ⟨rfl, h1⟩
      go_wp2_with fail
      go_returns
      exact ⟨rfl, (by (repeat' first | with_reducible exact Fresh.refl _ | with_reducible assumption | with_reducible refine Fresh.alloc ?_ _ _ | with_reducible refine Fresh.drew ?_ | with_reducible refine Fresh.drewN ?_ _ | with_reducible refine Fresh.setCell ?_ ?_ _ | with_reducible refine Fresh.trans ?_ (by assumption) | (simp; done) | (simp; omega)))⟩
    · go_enter Tryd.func23, Tryd.ntmps23
      go_wp2_with fail
      go_at_call 53; refine (number_any ⟨2, 4, l, true, nm⟩ p n cap _).mono ?_; rintro e w1 ⟨rfl, h1⟩
      go_wp2_with fail
      go_returns
      exact ⟨rfl, (by (repeat' first | with_reducible exact Fresh.refl _ | with_reducible assumption | with_reducible refine Fresh.alloc ?_ _ _ | with_reducible refine Fresh.drew ?_ | with_reducible refine Fresh.drewN ?_ _ | with_reducible refine Fresh.setCell ?_ ?_ _ | with_reducible refine Fresh.trans ?_ (by assumption) | (simp; done) | (simp; omega)))⟩
  by_cases h8 : s = 8
  · subst h8
    cases f
    · go_enter Tryd.func23, Tryd.ntmps23
      go_wp2_with fail
      go_at_call 53; refine (number_any ⟨2, 8, l, false, nm⟩ p n cap _).mono ?_; rintro e w1 ⟨rfl, h1⟩
      go_wp2_with fail
      go_returns
      exact ⟨rfl, (by (repeat' first | with_reducible exact Fresh.refl _ | with_reducible assumption | with_reducible refine Fresh.alloc ?_ _ _ | with_reducible refine Fresh.drew ?_ | with_reducible refine Fresh.drewN ?_ _ | with_reducible refine Fresh.setCell ?_ ?_ _ | with_reducible refine Fresh.trans ?_ (by assumption) | (simp; done) | (simp; omega)))⟩
    · go_enter Tryd.func23, Tryd.ntmps23
      go_wp2_with fail
      go_at_call 53; refine (number_any ⟨2, 8, l, true, nm⟩ p n cap _).mono ?_; rintro e w1 ⟨rfl, h1⟩
      go_wp2_with fail
      go_returns
      exact ⟨rfl, (by (repeat' first | with_reducible exact Fresh.refl _ | with_reducible assumption | with_reducible refine Fresh.alloc ?_ _ _ | with_reducible refine Fresh.drew ?_ | with_reducible refine Fresh.drewN ?_ _ | with_reducible refine Fresh.setCell ?_ ?_ _ | with_reducible refine Fresh.trans ?_ (by assumption) | (simp; done) | (simp; omega)))⟩
  have e2 : nchunk s f = 0 := by unfold nchunk; rw [if_neg h1, if_neg h2, if_neg h4, if_neg h8]
  rw [e2]
  have q1 : (s == 1) = false := by simpa using h1
  have q2 : (s == 2) = false := by simpa using h2
  have q4 : (s == 4) = false := by simpa using h4
  have q8 : (s == 8) = false := by simpa using h8
  clear h1 h2 h4 h8 e2
  cases f
  · go_enter Tryd.func23, Tryd.ntmps23
    go_wp2_with fail
    go_at_call 53; refine (number_any ⟨2, s, l, false, nm⟩ p n cap _).mono ?_; rintro e w1 ⟨rfl, h1⟩
    go_wp2_with fail
    go_returns
    exact ⟨rfl, (by (repeat' first | with_reducible exact Fresh.refl _ | with_reducible assumption | with_reducible refine Fresh.alloc ?_ _ _ | with_reducible refine Fresh.drew ?_ | with_reducible refine Fresh.drewN ?_ _ | with_reducible refine Fresh.setCell ?_ ?_ _ | with_reducible refine Fresh.trans ?_ (by assumption) | (simp; done) | (simp; omega)))⟩
  · go_enter Tryd.func23, Tryd.ntmps23
    go_wp2_with fail
    go_at_call 53; refine (number_any ⟨2, s, l, true, nm⟩ p n cap _).mono ?_; rintro e w1 ⟨rfl, h1⟩
    go_wp2_with fail
    go_returns
    exact ⟨rfl, (by (repeat' first | with_reducible exact Fresh.refl _ | with_reducible assumption | with_reducible refine Fresh.alloc ?_ _ _ | with_reducible refine Fresh.drew ?_ | with_reducible refine Fresh.drewN ?_ _ | with_reducible refine Fresh.setCell ?_ ?_ _ | with_reducible refine Fresh.trans ?_ (by assumption) | (simp; done) | (simp; omega)))⟩
theorem chunkR_any : Calls Tryd.prog 23 #[.agg #[.int .i64 h.kind, .int .i64 h.size, .int .i64 h.len, .bool h.flag, .string h.name, .slice p n cap]] w fun e w' => e = .returned (.int .i64 (chunkOf h)) ∧ Fresh w w' := by
  unfold chunkOf
  by_cases h2 : h.kind = 2
  · rw [if_pos h2]; exact chunkR_2 h p n cap w h2
  rw [if_neg h2]
  by_cases h3 : h.kind = 3
  · rw [if_pos h3]; exact chunkR_3 h p n cap w h3
  rw [if_neg h3]
  by_cases h4 : h.kind = 4
  · rw [if_pos h4]; exact chunkR_4 h p n cap w h4
  rw [if_neg h4]
  exact chunkR_o h p n cap w h2 h3 h4
theorem chunk_bd : chunkOf h = 0 ∨ chunkOf h = 1 ∨ chunkOf h = 2 ∨ chunkOf h = 3 ∨ chunkOf h = 4 ∨ chunkOf h = 5 ∨ chunkOf h = 6 ∨ chunkOf h = 7 := by
  unfold chunkOf nchunk sgn
  cases h.flag <;> (repeat' split) <;> simp
theorem kindR_any : Calls Tryd.prog 25 #[.agg #[.int .i64 h.kind, .int .i64 h.size, .int .i64 h.len, .bool h.flag, .string h.name, .slice p n cap]] w fun e w' => e = .returned (.int .i64 (ckind (chunkOf h))) ∧ Fresh w w' := by
  have HC : Hid (∀ X, Calls Tryd.prog 23 #[.agg #[.int .i64 h.kind, .int .i64 h.size, .int .i64 h.len, .bool h.flag, .string h.name, .slice p n cap]] X fun e w' => e = .returned (.int .i64 (chunkOf h)) ∧ Fresh X w') := Lib.hid (fun X => chunkR_any h p n cap X)
  have hb := chunk_bd h
  generalize chunkOf h = c at *
  rcases hb with rfl | rfl | rfl | rfl | rfl | rfl | rfl | rfl
  all_goals
    go_enter Tryd.func25, Tryd.ntmps25
    go_wp2_with fail
    go_at_call 23; refine (HC.out _).mono ?_; rintro e w1 ⟨rfl, h1⟩
    go_wp2_with fail
    go_returns
    exact ⟨rfl, (by (repeat' first | with_reducible exact Fresh.refl _ | with_reducible assumption | with_reducible refine Fresh.alloc ?_ _ _ | with_reducible refine Fresh.drew ?_ | with_reducible refine Fresh.drewN ?_ _ | with_reducible refine Fresh.setCell ?_ ?_ _ | with_reducible refine Fresh.trans ?_ (by assumption) | (simp; done) | (simp; omega)))⟩
end
section
variable (h : Hd) (p : Option Addr) (n cap : Nat) (w : World)
set_option maxRecDepth 100000 in
set_option maxHeartbeats 8000000 in
theorem promR_not (hk : h.kind ≠ 2) : Calls Tryd.prog 27 #[.agg #[.int .i64 h.kind, .int .i64 h.size, .int .i64 h.len, .bool h.flag, .string h.name, .slice p n cap]] w fun e w' => e = .returned (.agg #[.int .i64 h.kind, .int .i64 h.size, .int .i64 h.len, .bool h.flag, .string h.name, .slice p n cap]) ∧ Fresh w w' := by
  have kk : (h.kind == 2) = false := by simpa using hk
  clear hk
  have B1 : Hid (B6 ((w.alloc (.cells #[.int .i64 h.kind, .int .i64 h.size, .int .i64 h.len, .bool h.flag, .string h.name, .slice p n cap] 30)).alloc (.cells #[.int .i64 0, .int .i64 0, .int .i64 0, .bool false, .string ⟨#[]⟩, .slice none 0 0] 30)) w.heap.size (.int .i64 h.kind) (.int .i64 h.size) (.int .i64 h.len) (.bool h.flag) (.string h.name) (.slice p n cap)) := Lib.hid (B6.fresh (Blk.new w #[.int .i64 h.kind, .int .i64 h.size, .int .i64 h.len, .bool h.flag, .string h.name, .slice p n cap] 30).six (by (repeat' first | with_reducible exact Fresh.refl _ | with_reducible assumption | with_reducible refine Fresh.alloc ?_ _ _ | with_reducible refine Fresh.drew ?_ | with_reducible refine Fresh.drewN ?_ _ | with_reducible refine Fresh.setCell ?_ ?_ _ | with_reducible refine Fresh.trans ?_ (by assumption) | (simp; done) | (simp; omega))))
  have B2 : Hid (B6 ((w.alloc (.cells #[.int .i64 h.kind, .int .i64 h.size, .int .i64 h.len, .bool h.flag, .string h.name, .slice p n cap] 30)).alloc (.cells #[.int .i64 0, .int .i64 0, .int .i64 0, .bool false, .string ⟨#[]⟩, .slice none 0 0] 30)) (w.heap.size + 1) (.int .i64 0) (.int .i64 0) (.int .i64 0) (.bool false) (.string ⟨#[]⟩) (.slice none 0 0)) := Lib.hid (by have := (Blk.new (w.alloc (.cells #[.int .i64 h.kind, .int .i64 h.size, .int .i64 h.len, .bool h.flag, .string h.name, .slice p n cap] 30)) #[.int .i64 0, .int .i64 0, .int .i64 0, .bool false, .string ⟨#[]⟩, .slice none 0 0] 30).six; simpa only [World.size_alloc] using this)
  have F0 : Hid (Fresh w ((w.alloc (.cells #[.int .i64 h.kind, .int .i64 h.size, .int .i64 h.len, .bool h.flag, .string h.name, .slice p n cap] 30)).alloc (.cells #[.int .i64 0, .int .i64 0, .int .i64 0, .bool false, .string ⟨#[]⟩, .slice none 0 0] 30))) := Lib.hid (by (repeat' first | with_reducible exact Fresh.refl _ | with_reducible assumption | with_reducible refine Fresh.alloc ?_ _ _ | with_reducible refine Fresh.drew ?_ | with_reducible refine Fresh.drewN ?_ _ | with_reducible refine Fresh.setCell ?_ ?_ _ | with_reducible refine Fresh.trans ?_ (by assumption) | (simp; done) | (simp; omega)))
  have hb1 : w.heap.size < ((w.alloc (.cells #[.int .i64 h.kind, .int .i64 h.size, .int .i64 h.len, .bool h.flag, .string h.name, .slice p n cap] 30)).alloc (.cells #[.int .i64 0, .int .i64 0, .int .i64 0, .bool false, .string ⟨#[]⟩, .slice none 0 0] 30)).heap.size := by simp; omega
  have hb2 : w.heap.size + 1 < ((w.alloc (.cells #[.int .i64 h.kind, .int .i64 h.size, .int .i64 h.len, .bool h.flag, .string h.name, .slice p n cap] 30)).alloc (.cells #[.int .i64 0, .int .i64 0, .int .i64 0, .bool false, .string ⟨#[]⟩, .slice none 0 0] 30)).heap.size := by simp
  go_enter Tryd.func27, Tryd.ntmps27
  go_upto_region 1 with fail
  generalize ((w.alloc (.cells #[.int .i64 h.kind, .int .i64 h.size, .int .i64 h.len, .bool h.flag, .string h.name, .slice p n cap] 30)).alloc (.cells #[.int .i64 0, .int .i64 0, .int .i64 0, .bool false, .string ⟨#[]⟩, .slice none 0 0] 30)) = W at *
  go_cut [3, 4] (fun s3 s4 wx => s4 = .bool false ∧ Hid (∃ c, s3 = .pointer (some ⟨c, 0, none⟩) ∧ Fresh W wx))
  case first =>
    have hE : Fresh W W.drew := (Fresh.refl W).drew
    have hz2 : W.heap.size ≤ W.drew.heap.size := Nat.le_refl _
    go_region_held3 (fun w' => w'.cell? ⟨w.heap.size, 0, none⟩ = some (.int .i64 h.kind) ∧ w'.cell? ⟨w.heap.size, 1, none⟩ = some (.int .i64 h.size) ∧ w'.cell? ⟨w.heap.size, 2, none⟩ = some (.int .i64 h.len) ∧ w'.cell? ⟨w.heap.size, 3, none⟩ = some (.bool h.flag) ∧ w'.cell? ⟨w.heap.size, 4, none⟩ = some (.string h.name) ∧ w'.cell? ⟨w.heap.size, 5, none⟩ = some (.slice p n cap)) (first | done | with_reducible exact ⟨(B1.out.later (hE)).c0, (B1.out.later (hE)).c1, (B1.out.later (hE)).c2, (B1.out.later (hE)).c3, (B1.out.later (hE)).c4, (B1.out.later (hE)).c5⟩ | with_reducible exact ⟨(B1.out.later (((Fresh.refl W).alloc _ _).drew)).c0, (B1.out.later (((Fresh.refl W).alloc _ _).drew)).c1, (B1.out.later (((Fresh.refl W).alloc _ _).drew)).c2, (B1.out.later (((Fresh.refl W).alloc _ _).drew)).c3, (B1.out.later (((Fresh.refl W).alloc _ _).drew)).c4, (B1.out.later (((Fresh.refl W).alloc _ _).drew)).c5⟩ | with_reducible exact ⟨(B1.out.later (hE.alloc _ _)).c0, (B1.out.later (hE.alloc _ _)).c1, (B1.out.later (hE.alloc _ _)).c2, (B1.out.later (hE.alloc _ _)).c3, (B1.out.later (hE.alloc _ _)).c4, (B1.out.later (hE.alloc _ _)).c5⟩ | with_reducible exact ⟨(B1.out.later ((hE.setCell (Nat.le_refl _) _).setCell (Nat.le_refl _) _)).c0, (B1.out.later ((hE.setCell (Nat.le_refl _) _).setCell (Nat.le_refl _) _)).c1, (B1.out.later ((hE.setCell (Nat.le_refl _) _).setCell (Nat.le_refl _) _)).c2, (B1.out.later ((hE.setCell (Nat.le_refl _) _).setCell (Nat.le_refl _) _)).c3, (B1.out.later ((hE.setCell (Nat.le_refl _) _).setCell (Nat.le_refl _) _)).c4, (B1.out.later ((hE.setCell (Nat.le_refl _) _).setCell (Nat.le_refl _) _)).c5⟩ | with_reducible exact ⟨(B1.out.later ((hE.alloc _ _).setCell hz2 _)).c0, (B1.out.later ((hE.alloc _ _).setCell hz2 _)).c1, (B1.out.later ((hE.alloc _ _).setCell hz2 _)).c2, (B1.out.later ((hE.alloc _ _).setCell hz2 _)).c3, (B1.out.later ((hE.alloc _ _).setCell hz2 _)).c4, (B1.out.later ((hE.alloc _ _).setCell hz2 _)).c5⟩ | with_reducible exact ⟨(B1.out.later (((hE.alloc _ _).setCell hz2 _).setCell hz2 _)).c0, (B1.out.later (((hE.alloc _ _).setCell hz2 _).setCell hz2 _)).c1, (B1.out.later (((hE.alloc _ _).setCell hz2 _).setCell hz2 _)).c2, (B1.out.later (((hE.alloc _ _).setCell hz2 _).setCell hz2 _)).c3, (B1.out.later (((hE.alloc _ _).setCell hz2 _).setCell hz2 _)).c4, (B1.out.later (((hE.alloc _ _).setCell hz2 _).setCell hz2 _)).c5⟩) (first | (go_at_call 53; (with_reducible refine (number_any h p n cap _).mono ?_); rintro e w2 ⟨rfl, h2⟩; have hE : Fresh W w2 := (by first | exact hE.trans h2 | exact ((Fresh.refl W).alloc _ _).drew.trans h2); have hz2 : W.heap.size ≤ w2.heap.size := hE.size; (try (have T18 := (Blk.new W #[.int .i64 0, .bool false] 62).fresh ((Fresh.refl _).drew.trans h2); have y0 := T18.1 0 _ rfl; have y1 := T18.1 1 _ rfl; have yf := T18.2.1; have yz := T18.2.2; clear T18)); have hb3 : w.heap.size < w2.heap.size := (by omega); have hb4 : w.heap.size + 1 < w2.heap.size := (by omega); clear h2))
    all_goals (go_wp2_with fail; go_meet)
    all_goals (refine ⟨rfl, Lib.hid ?_⟩)
    all_goals first
      | exact ⟨_, rfl, hE.alloc _ _⟩
      | exact ⟨W.heap.size, rfl, (hE.setCell (p := ⟨W.heap.size, 0, none⟩) (Nat.le_refl _) _).setCell (p := ⟨W.heap.size, 1, none⟩) (Nat.le_refl _) _⟩
  case rest =>
    obtain ⟨rfl, HC⟩ := hcut
    obtain ⟨c, rfl, hf⟩ := HC.out
    have HF := Lib.hid hf
    have b1 := B1.out.later hf
    have b2 := B2.out.later hf
    clear HC hf
    obtain ⟨x0, x1, x2, x3, x4, x5, xf⟩ := b1
    obtain ⟨y0, y1, y2, y3, y4, y5, yf⟩ := b2
    have xz := cell_lt x0
    have yz := cell_lt y0
    simp only at xz yz
    go_wp2_with fail
    refine bodyPost_ret (v := ?_) ?_ rfl ?_; rotate_left 1; focus (simp [results, Tryd.results27, go_sem, *]; (try rfl); done)
    exact ⟨rfl, (by repeat' first | with_reducible refine Fresh.setCell ?_ ?_ _ | exact F0.out.trans HF.out | (simp; done) | (simp; omega))⟩
end
end Go.Proofs.YteiomcbphbbpkaaDoor
