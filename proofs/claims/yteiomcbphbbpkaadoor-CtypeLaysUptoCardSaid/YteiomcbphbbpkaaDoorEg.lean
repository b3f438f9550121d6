/- The reference's Same at types without parts. -/
import Derived.Test.YteiomcbphbbpkaaDoorCr
namespace Go.Proofs.YteiomcbphbbpkaaDoor
set_option linter.unusedSimpArgs false
set_option linter.unusedVariables false
open Go.RowKit

section
variable (h : Hd) (p q : Option Addr) (n m cap mc : Nat) (w : World)
set_option maxRecDepth 100000 in
set_option maxHeartbeats 4000000 in
theorem sameR_num (hk : h.kind = 2) : Calls Tryd.prog 17 #[.agg #[.int .i64 h.kind, .int .i64 h.size, .int .i64 h.len, .bool h.flag, .string h.name, .slice p n cap], .agg #[.int .i64 h.kind, .int .i64 h.size, .int .i64 h.len, .bool h.flag, .string h.name, .slice q m mc]] w fun e w' => e = .returned (.bool true) ∧ Fresh w w' := by
  obtain ⟨k, s, l, f, nm⟩ := h
  simp only at hk
  subst hk
  have X0 := Lib.hid (BY.new w ⟨2, s, l, f, nm⟩ ⟨2, s, l, f, nm⟩ p q n m cap mc)
  have e1 : (s == s) = true := by simp
  have e2 : (f == f) = true := by simp
  go_enter Tryd.func17, Tryd.ntmps17
  go_wp2_with fail
  go_at_call 35; refine (none_any ⟨2, s, l, f, nm⟩ p n cap _).mono ?_; rintro e w1 ⟨rfl, h1⟩; have X1 := Lib.hid (X0.out.later h1); clear h1 X0
  obtain ⟨b0, b1, b2, b3, b4, b5, bf⟩ := X1.out.bb; have bz := cell_lt b0; simp only at bz
  go_wp2_with fail
  go_at_call 35; refine (none_any ⟨2, s, l, f, nm⟩ q m mc _).mono ?_; rintro e w2 ⟨rfl, h2⟩; have X2 := Lib.hid (X1.out.later h2); clear h2 X1 b0 b1 b2 b3 b4 b5 bf bz
  obtain ⟨a0, a1, a2, a3, a4, a5, af⟩ := X2.out.ba; have az := cell_lt a0; simp only at az
  go_wp2_with fail
  go_at_call 53; refine (number_any ⟨2, s, l, f, nm⟩ p n cap _).mono ?_; rintro e w3 ⟨rfl, h3⟩; have X3 := Lib.hid (X2.out.later h3); clear h3 X2 a0 a1 a2 a3 a4 a5 af az
  go_upto_region 31 with fail
  have X4 : Hid (BY w (w3.alloc (.cells #[.int .i64 s, .bool f] 62)) ⟨2, s, l, f, nm⟩ ⟨2, s, l, f, nm⟩ p q n m cap mc) := Lib.hid (X3.out.later (by (repeat' first | with_reducible exact Fresh.refl _ | with_reducible assumption | with_reducible refine Fresh.alloc ?_ _ _ | with_reducible refine Fresh.drew ?_ | with_reducible refine Fresh.drewN ?_ _ | with_reducible refine Fresh.setCell ?_ ?_ _ | with_reducible refine Fresh.trans ?_ (by assumption) | (simp; done) | (simp; omega))))
  have T5 : Hid (Blk (w3.alloc (.cells #[.int .i64 s, .bool f] 62)) w3.heap.size [.int .i64 s, .bool f]) := Lib.hid (Blk.new w3 #[.int .i64 s, .bool f] 62)
  have hb1 : w.heap.size + 1 < (w3.alloc (.cells #[.int .i64 s, .bool f] 62)).heap.size := by have := X4.out.lo; omega
  have hb2 : w3.heap.size < (w3.alloc (.cells #[.int .i64 s, .bool f] 62)).heap.size := T5.out.2.2
  clear X3
  generalize (w3.alloc (.cells #[.int .i64 s, .bool f] 62)) = W at *
  generalize w3.heap.size = b5 at *
  have hE : Fresh W W.drew := (Fresh.refl W).drew
  have hz2 : W.heap.size ≤ W.drew.heap.size := Nat.le_refl _
  go_region_held3 (fun w' => w'.cell? ⟨w.heap.size + 1, 0, none⟩ = some (.int .i64 2) ∧ w'.cell? ⟨w.heap.size + 1, 1, none⟩ = some (.int .i64 s) ∧ w'.cell? ⟨w.heap.size + 1, 2, none⟩ = some (.int .i64 l) ∧ w'.cell? ⟨w.heap.size + 1, 3, none⟩ = some (.bool f) ∧ w'.cell? ⟨w.heap.size + 1, 4, none⟩ = some (.string nm) ∧ w'.cell? ⟨w.heap.size + 1, 5, none⟩ = some (.slice q m mc)) (first | done | with_reducible exact ⟨(X4.out.later ((hE.setCell (Nat.le_refl _) _).setCell (Nat.le_refl _) _)).bb.c0, (X4.out.later ((hE.setCell (Nat.le_refl _) _).setCell (Nat.le_refl _) _)).bb.c1, (X4.out.later ((hE.setCell (Nat.le_refl _) _).setCell (Nat.le_refl _) _)).bb.c2, (X4.out.later ((hE.setCell (Nat.le_refl _) _).setCell (Nat.le_refl _) _)).bb.c3, (X4.out.later ((hE.setCell (Nat.le_refl _) _).setCell (Nat.le_refl _) _)).bb.c4, (X4.out.later ((hE.setCell (Nat.le_refl _) _).setCell (Nat.le_refl _) _)).bb.c5⟩ | with_reducible exact ⟨(X4.out.later (((Fresh.refl W).alloc _ _).drew)).bb.c0, (X4.out.later (((Fresh.refl W).alloc _ _).drew)).bb.c1, (X4.out.later (((Fresh.refl W).alloc _ _).drew)).bb.c2, (X4.out.later (((Fresh.refl W).alloc _ _).drew)).bb.c3, (X4.out.later (((Fresh.refl W).alloc _ _).drew)).bb.c4, (X4.out.later (((Fresh.refl W).alloc _ _).drew)).bb.c5⟩ | with_reducible exact ⟨(X4.out.later (hE)).bb.c0, (X4.out.later (hE)).bb.c1, (X4.out.later (hE)).bb.c2, (X4.out.later (hE)).bb.c3, (X4.out.later (hE)).bb.c4, (X4.out.later (hE)).bb.c5⟩ | with_reducible exact ⟨(X4.out.later (hE.alloc _ _)).bb.c0, (X4.out.later (hE.alloc _ _)).bb.c1, (X4.out.later (hE.alloc _ _)).bb.c2, (X4.out.later (hE.alloc _ _)).bb.c3, (X4.out.later (hE.alloc _ _)).bb.c4, (X4.out.later (hE.alloc _ _)).bb.c5⟩ | with_reducible exact ⟨(X4.out.later ((hE.alloc _ _).setCell hz2 _)).bb.c0, (X4.out.later ((hE.alloc _ _).setCell hz2 _)).bb.c1, (X4.out.later ((hE.alloc _ _).setCell hz2 _)).bb.c2, (X4.out.later ((hE.alloc _ _).setCell hz2 _)).bb.c3, (X4.out.later ((hE.alloc _ _).setCell hz2 _)).bb.c4, (X4.out.later ((hE.alloc _ _).setCell hz2 _)).bb.c5⟩ | with_reducible exact ⟨(X4.out.later (((hE.alloc _ _).setCell hz2 _).setCell hz2 _)).bb.c0, (X4.out.later (((hE.alloc _ _).setCell hz2 _).setCell hz2 _)).bb.c1, (X4.out.later (((hE.alloc _ _).setCell hz2 _).setCell hz2 _)).bb.c2, (X4.out.later (((hE.alloc _ _).setCell hz2 _).setCell hz2 _)).bb.c3, (X4.out.later (((hE.alloc _ _).setCell hz2 _).setCell hz2 _)).bb.c4, (X4.out.later (((hE.alloc _ _).setCell hz2 _).setCell hz2 _)).bb.c5⟩) (first | (go_at_call 53; (with_reducible refine (number_any ⟨2, s, l, f, nm⟩ q m mc _).mono ?_); rintro e w2 ⟨rfl, h2⟩; have hE : Fresh W w2 := (by first | exact hE.trans h2 | exact ((Fresh.refl W).alloc _ _).drew.trans h2); have hz2 : W.heap.size ≤ w2.heap.size := hE.size; (try (have T18 := (Blk.new W #[.int .i64 0, .bool false] 62).fresh ((Fresh.refl _).drew.trans h2); have y0 := T18.1 0 _ rfl; have y1 := T18.1 1 _ rfl; have yf := T18.2.1; have yz := T18.2.2; clear T18)); have hb3 : w.heap.size + 1 < w2.heap.size := (by omega); have hb4 : b5 < w2.heap.size := (by omega); clear h2))
  all_goals (have f5 := T5.out.fresh hE; have v0 := f5.1 0 _ rfl; have v1 := f5.1 1 _ rfl; have n1 : b5 ≠ W.heap.size := (by omega); have n2 : W.heap.size ≠ b5 := (by omega))
  all_goals (have n3 := Nat.ne_of_lt hb4; have n4 := (Nat.ne_of_lt hb4).symm; clear f5)
  all_goals go_wp2_with fail
  all_goals go_returns
  all_goals (refine ⟨by simp, X4.out.fr.trans ?_⟩)
  all_goals (first | exact hE.alloc _ _ | exact ((hE.alloc _ _).setCell hz2 _).setCell hz2 _ | exact (hE.setCell (p := ⟨W.heap.size, 0, none⟩) (Nat.le_refl _) _).setCell (p := ⟨W.heap.size, 1, none⟩) (Nat.le_refl _) _)
set_option maxRecDepth 100000 in
set_option maxHeartbeats 4000000 in
theorem sameR_flo (hk : h.kind = 3) : Calls Tryd.prog 17 #[.agg #[.int .i64 h.kind, .int .i64 h.size, .int .i64 h.len, .bool h.flag, .string h.name, .slice p n cap], .agg #[.int .i64 h.kind, .int .i64 h.size, .int .i64 h.len, .bool h.flag, .string h.name, .slice q m mc]] w fun e w' => e = .returned (.bool true) ∧ Fresh w w' := by
  obtain ⟨k, s, l, f, nm⟩ := h
  simp only at hk
  subst hk
  have X0 := Lib.hid (BY.new w ⟨3, s, l, f, nm⟩ ⟨3, s, l, f, nm⟩ p q n m cap mc)
  go_enter Tryd.func17, Tryd.ntmps17
  go_wp2_with fail
  go_at_call 35; refine (none_any ⟨3, s, l, f, nm⟩ p n cap _).mono ?_; rintro e w1 ⟨rfl, h1⟩; have X1 := Lib.hid (X0.out.later h1); clear h1 X0
  obtain ⟨b0, b1, b2, b3, b4, b5, bf⟩ := X1.out.bb; have bz := cell_lt b0; simp only at bz
  go_wp2_with fail
  go_at_call 35; refine (none_any ⟨3, s, l, f, nm⟩ q m mc _).mono ?_; rintro e w2 ⟨rfl, h2⟩; have X2 := Lib.hid (X1.out.later h2); clear h2 X1 b0 b1 b2 b3 b4 b5 bf bz
  obtain ⟨a0, a1, a2, a3, a4, a5, af⟩ := X2.out.ba; have az := cell_lt a0; simp only at az
  obtain ⟨b0, b1, b2, b3, b4, b5, bf⟩ := X2.out.bb; have bz := cell_lt b0; simp only at bz
  go_wp2_with fail
  go_returns
  exact ⟨rfl, X2.out.fr⟩
set_option maxRecDepth 100000 in
set_option maxHeartbeats 4000000 in
theorem sameR_none (hk : h.kind = 0) : Calls Tryd.prog 17 #[.agg #[.int .i64 h.kind, .int .i64 h.size, .int .i64 h.len, .bool h.flag, .string h.name, .slice p n cap], .agg #[.int .i64 h.kind, .int .i64 h.size, .int .i64 h.len, .bool h.flag, .string h.name, .slice q m mc]] w fun e w' => e = .returned (.bool true) ∧ Fresh w w' := by
  obtain ⟨k, s, l, f, nm⟩ := h
  simp only at hk
  subst hk
  have X0 := Lib.hid (BY.new w ⟨0, s, l, f, nm⟩ ⟨0, s, l, f, nm⟩ p q n m cap mc)
  go_enter Tryd.func17, Tryd.ntmps17
  go_wp2_with fail
  go_at_call 35; refine (none_any ⟨0, s, l, f, nm⟩ p n cap _).mono ?_; rintro e w1 ⟨rfl, h1⟩; have X1 := Lib.hid (X0.out.later h1); clear h1 X0
  obtain ⟨a0, a1, a2, a3, a4, a5, af⟩ := X1.out.ba; have az := cell_lt a0; simp only at az
  go_wp2_with fail
  go_at_call 35; refine (none_any ⟨0, s, l, f, nm⟩ p n cap _).mono ?_; rintro e w2 ⟨rfl, h2⟩; have X2 := Lib.hid (X1.out.later h2); clear h2 X1 a0 a1 a2 a3 a4 a5 af az
  obtain ⟨b0, b1, b2, b3, b4, b5, bf⟩ := X2.out.bb; have bz := cell_lt b0; simp only at bz
  go_wp2_with fail
  go_at_call 35; refine (none_any ⟨0, s, l, f, nm⟩ q m mc _).mono ?_; rintro e w3 ⟨rfl, h3⟩
  go_wp2_with fail
  go_returns
  exact ⟨rfl, X2.out.fr.trans h3⟩
theorem sameR_any (hk : h.kind = 0 ∨ h.kind = 2 ∨ h.kind = 3) : Calls Tryd.prog 17 #[.agg #[.int .i64 h.kind, .int .i64 h.size, .int .i64 h.len, .bool h.flag, .string h.name, .slice p n cap], .agg #[.int .i64 h.kind, .int .i64 h.size, .int .i64 h.len, .bool h.flag, .string h.name, .slice q m mc]] w fun e w' => e = .returned (.bool true) ∧ Fresh w w' := by
  rcases hk with hk | hk | hk
  · exact sameR_none h p q n m cap mc w hk
  · exact sameR_num h p q n m cap mc w hk
  · exact sameR_flo h p q n m cap mc w hk
end
end Go.Proofs.YteiomcbphbbpkaaDoor
