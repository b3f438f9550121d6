/- Blocks all of whose cells are stored anew. -/
import Derived.Test.YteiomcbphbbpkaaDoorCz
import Derived.Test.YteiomcbphbbpkaaDoorFx
import Derived.Deep.DeepCutAuto
namespace Go.Proofs.YteiomcbphbbpkaaDoor
set_option linter.unusedSimpArgs false
set_option linter.unusedVariables false
open Go.RowKit
theorem Blk.puts6 {w : World} {c : Nat} {z0 z1 z2 z3 z4 z5 v0 v1 v2 v3 v4 v5 : Value} (h : Blk w c [z0, z1, z2, z3, z4, z5]) : Blk ((((((w.setCell ⟨c, 0, none⟩ v0).setCell ⟨c, 1, none⟩ v1).setCell ⟨c, 2, none⟩ v2).setCell ⟨c, 3, none⟩ v3).setCell ⟨c, 4, none⟩ v4).setCell ⟨c, 5, none⟩ v5) c [v0, v1, v2, v3, v4, v5] := by
  have h0 := h.put (i := 0) (by simp) v0
  simp only [List.set_cons_zero, List.set_cons_succ] at h0
  have h1 := h0.put (i := 1) (by simp) v1
  simp only [List.set_cons_zero, List.set_cons_succ] at h1
  have h2 := h1.put (i := 2) (by simp) v2
  simp only [List.set_cons_zero, List.set_cons_succ] at h2
  have h3 := h2.put (i := 3) (by simp) v3
  simp only [List.set_cons_zero, List.set_cons_succ] at h3
  have h4 := h3.put (i := 4) (by simp) v4
  simp only [List.set_cons_zero, List.set_cons_succ] at h4
  have h5 := h4.put (i := 5) (by simp) v5
  simp only [List.set_cons_zero, List.set_cons_succ] at h5
  exact h5
theorem Fresh.puts6 {W w : World} {c : Nat} {v0 v1 v2 v3 v4 v5 : Value} (h : Fresh W w) (hc : W.heap.size ≤ c) : Fresh W ((((((w.setCell ⟨c, 0, none⟩ v0).setCell ⟨c, 1, none⟩ v1).setCell ⟨c, 2, none⟩ v2).setCell ⟨c, 3, none⟩ v3).setCell ⟨c, 4, none⟩ v4).setCell ⟨c, 5, none⟩ v5) :=
  ((((((h.setCell (p := ⟨c, 0, none⟩) hc v0).setCell (p := ⟨c, 1, none⟩) hc v1).setCell (p := ⟨c, 2, none⟩) hc v2).setCell (p := ⟨c, 3, none⟩) hc v3).setCell (p := ⟨c, 4, none⟩) hc v4).setCell (p := ⟨c, 5, none⟩) hc v5)
theorem Blk.puts7 {w : World} {c : Nat} {z0 z1 z2 z3 z4 z5 z6 v0 v1 v2 v3 v4 v5 v6 : Value} (h : Blk w c [z0, z1, z2, z3, z4, z5, z6]) : Blk (((((((w.setCell ⟨c, 0, none⟩ v0).setCell ⟨c, 1, none⟩ v1).setCell ⟨c, 2, none⟩ v2).setCell ⟨c, 3, none⟩ v3).setCell ⟨c, 4, none⟩ v4).setCell ⟨c, 5, none⟩ v5).setCell ⟨c, 6, none⟩ v6) c [v0, v1, v2, v3, v4, v5, v6] := by
  have h0 := h.put (i := 0) (by simp) v0
  simp only [List.set_cons_zero, List.set_cons_succ] at h0
  have h1 := h0.put (i := 1) (by simp) v1
  simp only [List.set_cons_zero, List.set_cons_succ] at h1
  have h2 := h1.put (i := 2) (by simp) v2
  simp only [List.set_cons_zero, List.set_cons_succ] at h2
  have h3 := h2.put (i := 3) (by simp) v3
  simp only [List.set_cons_zero, List.set_cons_succ] at h3
  have h4 := h3.put (i := 4) (by simp) v4
  simp only [List.set_cons_zero, List.set_cons_succ] at h4
  have h5 := h4.put (i := 5) (by simp) v5
  simp only [List.set_cons_zero, List.set_cons_succ] at h5
  have h6 := h5.put (i := 6) (by simp) v6
  simp only [List.set_cons_zero, List.set_cons_succ] at h6
  exact h6
theorem Fresh.puts7 {W w : World} {c : Nat} {v0 v1 v2 v3 v4 v5 v6 : Value} (h : Fresh W w) (hc : W.heap.size ≤ c) : Fresh W (((((((w.setCell ⟨c, 0, none⟩ v0).setCell ⟨c, 1, none⟩ v1).setCell ⟨c, 2, none⟩ v2).setCell ⟨c, 3, none⟩ v3).setCell ⟨c, 4, none⟩ v4).setCell ⟨c, 5, none⟩ v5).setCell ⟨c, 6, none⟩ v6) :=
  (((((((h.setCell (p := ⟨c, 0, none⟩) hc v0).setCell (p := ⟨c, 1, none⟩) hc v1).setCell (p := ⟨c, 2, none⟩) hc v2).setCell (p := ⟨c, 3, none⟩) hc v3).setCell (p := ⟨c, 4, none⟩) hc v4).setCell (p := ⟨c, 5, none⟩) hc v5).setCell (p := ⟨c, 6, none⟩) hc v6)
end Go.Proofs.YteiomcbphbbpkaaDoor
/- The reference's Same: what stands behind the look at the second type. -/
namespace Go.Proofs.YteiomcbphbbpkaaDoor
set_option linter.unusedSimpArgs false
set_option linter.unusedVariables false
open Go.RowKit

section
variable {ok ok2 : Nat → Prop} (a b : Hd) (ks js : Tys) (p q : Option Addr) (n m cap mc : Nat) (w0 w : World) (hf : Fresh w0 w) (hks : Kids ok w0 ks p n cap) (hjs : Kids ok2 w0 js q m mc) (hb0 : b.kind ≠ 0)
include hf hks hjs hb0
set_option maxRecDepth 100000 in
set_option maxHeartbeats 8000000 in
theorem sameR_b2 (ha : a.kind = 2) : Calls Tryd.prog 17 #[.agg #[.int .i64 a.kind, .int .i64 a.size, .int .i64 a.len, .bool a.flag, .string a.name, .slice p n cap], .agg #[.int .i64 b.kind, .int .i64 b.size, .int .i64 b.len, .bool b.flag, .string b.name, .slice q m mc]] w fun e w' => e = .returned (.bool ((b.kind == 2) && (a.size == b.size && a.flag == b.flag))) ∧ Fresh w w' := by
  have HA := Lib.hid ha
  have HF := Lib.hid hf
  have HK := Lib.hid hks
  have HJ := Lib.hid hjs
  have ka : (a.kind == 0) = false := by rw [ha]; rfl
  clear ha hf hks hjs
  have X0 := Lib.hid (BY.new w a b p q n m cap mc)
  have kq : (b.kind == 0) = false := by simpa using hb0
  clear hb0
  go_enter Tryd.func17, Tryd.ntmps17
  go_wp2_with fail
  go_at_call 35; refine (none_any a p n cap _).mono ?_; rintro e w1 ⟨rfl, h1⟩; have X1 := Lib.hid (X0.out.later h1); clear h1 X0
  obtain ⟨b0, b1, b2, b3, b4, b5, bf⟩ := X1.out.bb; have bz := cell_lt b0; simp only at bz
  rw [ka]
  go_wp2_with fail
  go_at_call 35; refine (none_any b q m mc _).mono ?_; rintro e w2 ⟨rfl, h2⟩; have X2 := Lib.hid (X1.out.later h2); clear h2 X1 b0 b1 b2 b3 b4 b5 bf bz
  rw [kq]
  obtain ⟨a0, a1, a2, a3, a4, a5, af⟩ := X2.out.ba; have az := cell_lt a0; simp only at az
  have kk4 : (a.kind == 4) = false := by rw [HA.out]; rfl
  have kk5 : (a.kind == 5) = false := by rw [HA.out]; rfl
  have kk7 : (a.kind == 7) = false := by rw [HA.out]; rfl
  have kk1 : (a.kind == 1) = false := by rw [HA.out]; rfl
  have kk3 : (a.kind == 3) = false := by rw [HA.out]; rfl
  have kk2 : (a.kind == 2) = true := by rw [HA.out]; rfl
  have kk6 : (a.kind == 6) = false := by rw [HA.out]; rfl
  go_wp2_with fail
  go_at_call 53; refine (number_any a p n cap _).mono ?_; rintro e w3 ⟨rfl, h3⟩; have X3 := Lib.hid (X2.out.later h3); clear h3 X2 a0 a1 a2 a3 a4 a5 af az kk4 kk5 kk7 kk1 kk3 kk2 kk6
  go_upto_region 31 with fail
  have X4 : Hid (BY w (w3.alloc (.cells #[.int .i64 a.size, .bool a.flag] 62)) a b p q n m cap mc) := Lib.hid (X3.out.later (by (repeat' first | with_reducible exact Fresh.refl _ | with_reducible assumption | with_reducible refine Fresh.alloc ?_ _ _ | with_reducible refine Fresh.drew ?_ | with_reducible refine Fresh.drewN ?_ _ | with_reducible refine Fresh.setCell ?_ ?_ _ | with_reducible refine Fresh.trans ?_ (by assumption) | (simp; done) | (simp; omega))))
  have T5 : Hid (Blk (w3.alloc (.cells #[.int .i64 a.size, .bool a.flag] 62)) w3.heap.size [.int .i64 a.size, .bool a.flag]) := Lib.hid (Blk.new w3 #[.int .i64 a.size, .bool a.flag] 62)
  have hb1 : w.heap.size + 1 < (w3.alloc (.cells #[.int .i64 a.size, .bool a.flag] 62)).heap.size := by have := X4.out.lo; omega
  clear X3
  generalize (w3.alloc (.cells #[.int .i64 a.size, .bool a.flag] 62)) = W at *
  generalize w3.heap.size = b5 at *
  go_cut [18, 19] (fun uy uk wx => uk = .bool (b.kind == 2) ∧ Hid (∃ c , uy = .pointer (some ⟨c, 0, none⟩) ∧ Fresh W wx ∧ Blk wx c [.int .i64 b.size, .bool b.flag] ∧ True))
  case first =>
    have hE : Fresh W W.drew := (Fresh.refl W).drew
    go_region_held3 (fun w' => w'.cell? ⟨w.heap.size + 1, 0, none⟩ = some (.int .i64 b.kind) ∧ w'.cell? ⟨w.heap.size + 1, 1, none⟩ = some (.int .i64 b.size) ∧ w'.cell? ⟨w.heap.size + 1, 2, none⟩ = some (.int .i64 b.len) ∧ w'.cell? ⟨w.heap.size + 1, 3, none⟩ = some (.bool b.flag) ∧ w'.cell? ⟨w.heap.size + 1, 4, none⟩ = some (.string b.name) ∧ w'.cell? ⟨w.heap.size + 1, 5, none⟩ = some (.slice q m mc)) (first | done | with_reducible exact ⟨(X4.out.later (hE)).bb.c0, (X4.out.later (hE)).bb.c1, (X4.out.later (hE)).bb.c2, (X4.out.later (hE)).bb.c3, (X4.out.later (hE)).bb.c4, (X4.out.later (hE)).bb.c5⟩ | with_reducible exact ⟨(X4.out.later (((Fresh.refl W).alloc _ _).drew)).bb.c0, (X4.out.later (((Fresh.refl W).alloc _ _).drew)).bb.c1, (X4.out.later (((Fresh.refl W).alloc _ _).drew)).bb.c2, (X4.out.later (((Fresh.refl W).alloc _ _).drew)).bb.c3, (X4.out.later (((Fresh.refl W).alloc _ _).drew)).bb.c4, (X4.out.later (((Fresh.refl W).alloc _ _).drew)).bb.c5⟩ | with_reducible exact ⟨(X4.out.later (hE.alloc _ _)).bb.c0, (X4.out.later (hE.alloc _ _)).bb.c1, (X4.out.later (hE.alloc _ _)).bb.c2, (X4.out.later (hE.alloc _ _)).bb.c3, (X4.out.later (hE.alloc _ _)).bb.c4, (X4.out.later (hE.alloc _ _)).bb.c5⟩ | with_reducible exact ⟨(X4.out.later (((hE).setCell (Nat.le_refl _) _).setCell (Nat.le_refl _) _)).bb.c0, (X4.out.later (((hE).setCell (Nat.le_refl _) _).setCell (Nat.le_refl _) _)).bb.c1, (X4.out.later (((hE).setCell (Nat.le_refl _) _).setCell (Nat.le_refl _) _)).bb.c2, (X4.out.later (((hE).setCell (Nat.le_refl _) _).setCell (Nat.le_refl _) _)).bb.c3, (X4.out.later (((hE).setCell (Nat.le_refl _) _).setCell (Nat.le_refl _) _)).bb.c4, (X4.out.later (((hE).setCell (Nat.le_refl _) _).setCell (Nat.le_refl _) _)).bb.c5⟩) (first | (go_at_call 53; (with_reducible refine (number_any b q m mc _).mono ?_); rintro e w2 ⟨rfl, h2⟩; have hE : Fresh W w2 := (by first | exact hE.trans h2 | exact ((Fresh.refl W).alloc _ _).drew.trans h2); (try (have T18 := (Blk.new W #[.int .i64 0, .bool false] 62).fresh ((Fresh.refl _).drew.trans h2); have y0 := T18.1 0 _ rfl; have y1 := T18.1 1 _ rfl; have yf := T18.2.1; have yz := T18.2.2; have HB3 := Lib.hid T18; clear T18)); have hz2 : W.heap.size ≤ w2.heap.size := hE.size; have hb3 : w.heap.size + 1 < w2.heap.size := (by omega); clear h2))
    all_goals (go_wp2_with fail; go_meet)
    all_goals (refine ⟨rfl, Lib.hid ?_⟩)
    all_goals (refine ⟨_, rfl, ?_, ?_, trivial⟩)
    all_goals first
      | with_reducible exact hE.alloc _ _
      | with_reducible exact Fresh.setCell (p := ⟨W.heap.size, 1, none⟩) (Fresh.setCell (p := ⟨W.heap.size, 0, none⟩) (hE) (Nat.le_refl _) _) (Nat.le_refl _) _
      | exact ((HB3.out.put (i := 0) (by simp) _).put (i := 1) (by simp) _)
      | exact Blk.new w2 #[.int .i64 b.size, .bool b.flag] 62
  case rest =>
    obtain ⟨rfl, HC⟩ := hcut
    obtain ⟨c, rfl, hf, hb, -⟩ := HC.out
    have F1 := Lib.hid (X4.out.fr.trans hf)
    have xb := T5.out.fresh hf
    have x0 := (xb).1 0 _ rfl; have x1 := (xb).1 1 _ rfl; have xz := (xb).2.2
    have y0 := (hb).1 0 _ rfl; have y1 := (hb).1 1 _ rfl; have yz := (hb).2.2
    skip
    clear HC xb hb hf T5 X4 
    rcases (Bool.eq_false_or_eq_true (b.kind == 2)).symm with ht | ht
    · go_wp2_with fail
      go_returns
      exact ⟨by rw [ht]; rfl, F1.out⟩
    · skip
      go_wp2_with fail
      all_goals go_returns
      all_goals (refine ⟨ret_bool ?_, F1.out⟩)
      all_goals simp [*]

end
end Go.Proofs.YteiomcbphbbpkaaDoor
/- The reference's Same: what stands behind the look at the second type. -/
namespace Go.Proofs.YteiomcbphbbpkaaDoor
set_option linter.unusedSimpArgs false
set_option linter.unusedVariables false
open Go.RowKit

section
variable {ok ok2 : Nat → Prop} (a b : Hd) (ks js : Tys) (p q : Option Addr) (n m cap mc : Nat) (w0 w : World) (hf : Fresh w0 w) (hks : Kids ok w0 ks p n cap) (hjs : Kids ok2 w0 js q m mc) (hb0 : b.kind ≠ 0)
include hf hks hjs hb0
set_option maxRecDepth 100000 in
set_option maxHeartbeats 8000000 in
theorem sameR_b4 (ha : a.kind = 4) (K : Bool) (kid : ∀ (X : World) (p' q' : Option Addr) (n' cap' m' mc' : Nat), Fresh w0 X → Kids ok w0 ks.kids p' n' cap' → Kids ok2 w0 js.kids q' m' mc' → Calls Tryd.prog 17 #[.agg #[.int .i64 ks.hd.kind, .int .i64 ks.hd.size, .int .i64 ks.hd.len, .bool ks.hd.flag, .string ks.hd.name, .slice p' n' cap'], .agg #[.int .i64 js.hd.kind, .int .i64 js.hd.size, .int .i64 js.hd.len, .bool js.hd.flag, .string js.hd.name, .slice q' m' mc']] X fun e w' => e = .returned (.bool K) ∧ Fresh X w') : Calls Tryd.prog 17 #[.agg #[.int .i64 a.kind, .int .i64 a.size, .int .i64 a.len, .bool a.flag, .string a.name, .slice p n cap], .agg #[.int .i64 b.kind, .int .i64 b.size, .int .i64 b.len, .bool b.flag, .string b.name, .slice q m mc]] w fun e w' => e = .returned (.bool ((b.kind == 4) && K)) ∧ Fresh w w' := by
  have KID := Lib.hid kid
  clear kid
  generalize hR : K = R
  have HRR := Lib.hid hR
  clear hR
  have HA := Lib.hid ha
  have HF := Lib.hid hf
  have HK := Lib.hid hks
  have HJ := Lib.hid hjs
  have ka : (a.kind == 0) = false := by rw [ha]; rfl
  clear ha hf hks hjs
  have X0 := Lib.hid (BY.new w a b p q n m cap mc)
  have kq : (b.kind == 0) = false := by simpa using hb0
  clear hb0
  go_enter Tryd.func17, Tryd.ntmps17
  go_wp2_with fail
  go_at_call 35; refine (none_any a p n cap _).mono ?_; rintro e w1 ⟨rfl, h1⟩; have X1 := Lib.hid (X0.out.later h1); clear h1 X0
  obtain ⟨b0, b1, b2, b3, b4, b5, bf⟩ := X1.out.bb; have bz := cell_lt b0; simp only at bz
  rw [ka]
  go_wp2_with fail
  go_at_call 35; refine (none_any b q m mc _).mono ?_; rintro e w2 ⟨rfl, h2⟩; have X2 := Lib.hid (X1.out.later h2); clear h2 X1 b0 b1 b2 b3 b4 b5 bf bz
  rw [kq]
  obtain ⟨a0, a1, a2, a3, a4, a5, af⟩ := X2.out.ba; have az := cell_lt a0; simp only at az
  have kk4 : (a.kind == 4) = true := by rw [HA.out]; rfl
  have kk5 : (a.kind == 5) = false := by rw [HA.out]; rfl
  have kk7 : (a.kind == 7) = false := by rw [HA.out]; rfl
  have kk1 : (a.kind == 1) = false := by rw [HA.out]; rfl
  have kk3 : (a.kind == 3) = false := by rw [HA.out]; rfl
  have kk2 : (a.kind == 2) = false := by rw [HA.out]; rfl
  have kk6 : (a.kind == 6) = false := by rw [HA.out]; rfl
  go_wp2_with fail
  go_at_call 50; refine (pointer_any a ks p n cap _ w0 (HF.out.trans (X2.out.fr.trans (by (repeat' first | with_reducible exact Fresh.refl _ | with_reducible assumption | with_reducible refine Fresh.alloc ?_ _ _ | with_reducible refine Fresh.drew ?_ | with_reducible refine Fresh.drewN ?_ _ | with_reducible refine Fresh.setCell ?_ ?_ _ | with_reducible refine Fresh.trans ?_ (by assumption) | (simp; done) | (simp; omega))))) HK.out).mono ?_; rintro e w3 ⟨⟨px, nx, cx, rfl, hkx⟩, h3⟩; have HX := Lib.hid hkx; clear hkx; have X3 := Lib.hid (X2.out.later h3); clear h3 X2 a0 a1 a2 a3 a4 a5 af az kk4 kk5 kk7 kk1 kk3 kk2 kk6
  go_upto_region 6 with fail
  have X4 : Hid (BY w (w3.alloc (.cells #[.int .i64 ks.hd.kind, .int .i64 ks.hd.size, .int .i64 ks.hd.len, .bool ks.hd.flag, .string ks.hd.name, .slice px nx cx] 71)) a b p q n m cap mc) := Lib.hid (X3.out.later (by (repeat' first | with_reducible exact Fresh.refl _ | with_reducible assumption | with_reducible refine Fresh.alloc ?_ _ _ | with_reducible refine Fresh.drew ?_ | with_reducible refine Fresh.drewN ?_ _ | with_reducible refine Fresh.setCell ?_ ?_ _ | with_reducible refine Fresh.trans ?_ (by assumption) | (simp; done) | (simp; omega))))
  have T5 : Hid (Blk (w3.alloc (.cells #[.int .i64 ks.hd.kind, .int .i64 ks.hd.size, .int .i64 ks.hd.len, .bool ks.hd.flag, .string ks.hd.name, .slice px nx cx] 71)) w3.heap.size [.int .i64 ks.hd.kind, .int .i64 ks.hd.size, .int .i64 ks.hd.len, .bool ks.hd.flag, .string ks.hd.name, .slice px nx cx]) := Lib.hid (Blk.new w3 #[.int .i64 ks.hd.kind, .int .i64 ks.hd.size, .int .i64 ks.hd.len, .bool ks.hd.flag, .string ks.hd.name, .slice px nx cx] 71)
  have hb1 : w.heap.size + 1 < (w3.alloc (.cells #[.int .i64 ks.hd.kind, .int .i64 ks.hd.size, .int .i64 ks.hd.len, .bool ks.hd.flag, .string ks.hd.name, .slice px nx cx] 71)).heap.size := by have := X4.out.lo; omega
  clear X3
  generalize (w3.alloc (.cells #[.int .i64 ks.hd.kind, .int .i64 ks.hd.size, .int .i64 ks.hd.len, .bool ks.hd.flag, .string ks.hd.name, .slice px nx cx] 71)) = W at *
  generalize w3.heap.size = b5 at *
  go_cut [6, 7] (fun uy uk wx => uk = .bool (b.kind == 4) ∧ Hid (∃ c py ny cy , uy = .pointer (some ⟨c, 0, none⟩) ∧ Fresh W wx ∧ Blk wx c [.int .i64 js.hd.kind, .int .i64 js.hd.size, .int .i64 js.hd.len, .bool js.hd.flag, .string js.hd.name, .slice py ny cy] ∧ Kids ok2 w0 js.kids py ny cy))
  case first =>
    have hE : Fresh W W.drew := (Fresh.refl W).drew
    go_region_held3 (fun w' => w'.cell? ⟨w.heap.size + 1, 0, none⟩ = some (.int .i64 b.kind) ∧ w'.cell? ⟨w.heap.size + 1, 1, none⟩ = some (.int .i64 b.size) ∧ w'.cell? ⟨w.heap.size + 1, 2, none⟩ = some (.int .i64 b.len) ∧ w'.cell? ⟨w.heap.size + 1, 3, none⟩ = some (.bool b.flag) ∧ w'.cell? ⟨w.heap.size + 1, 4, none⟩ = some (.string b.name) ∧ w'.cell? ⟨w.heap.size + 1, 5, none⟩ = some (.slice q m mc)) (first | done | with_reducible exact ⟨(X4.out.later (hE)).bb.c0, (X4.out.later (hE)).bb.c1, (X4.out.later (hE)).bb.c2, (X4.out.later (hE)).bb.c3, (X4.out.later (hE)).bb.c4, (X4.out.later (hE)).bb.c5⟩ | with_reducible exact ⟨(X4.out.later (((Fresh.refl W).alloc _ _).drew)).bb.c0, (X4.out.later (((Fresh.refl W).alloc _ _).drew)).bb.c1, (X4.out.later (((Fresh.refl W).alloc _ _).drew)).bb.c2, (X4.out.later (((Fresh.refl W).alloc _ _).drew)).bb.c3, (X4.out.later (((Fresh.refl W).alloc _ _).drew)).bb.c4, (X4.out.later (((Fresh.refl W).alloc _ _).drew)).bb.c5⟩ | with_reducible exact ⟨(X4.out.later (hE.alloc _ _)).bb.c0, (X4.out.later (hE.alloc _ _)).bb.c1, (X4.out.later (hE.alloc _ _)).bb.c2, (X4.out.later (hE.alloc _ _)).bb.c3, (X4.out.later (hE.alloc _ _)).bb.c4, (X4.out.later (hE.alloc _ _)).bb.c5⟩ | with_reducible exact ⟨(X4.out.later (((((((hE).setCell (Nat.le_refl _) _).setCell (Nat.le_refl _) _).setCell (Nat.le_refl _) _).setCell (Nat.le_refl _) _).setCell (Nat.le_refl _) _).setCell (Nat.le_refl _) _)).bb.c0, (X4.out.later (((((((hE).setCell (Nat.le_refl _) _).setCell (Nat.le_refl _) _).setCell (Nat.le_refl _) _).setCell (Nat.le_refl _) _).setCell (Nat.le_refl _) _).setCell (Nat.le_refl _) _)).bb.c1, (X4.out.later (((((((hE).setCell (Nat.le_refl _) _).setCell (Nat.le_refl _) _).setCell (Nat.le_refl _) _).setCell (Nat.le_refl _) _).setCell (Nat.le_refl _) _).setCell (Nat.le_refl _) _)).bb.c2, (X4.out.later (((((((hE).setCell (Nat.le_refl _) _).setCell (Nat.le_refl _) _).setCell (Nat.le_refl _) _).setCell (Nat.le_refl _) _).setCell (Nat.le_refl _) _).setCell (Nat.le_refl _) _)).bb.c3, (X4.out.later (((((((hE).setCell (Nat.le_refl _) _).setCell (Nat.le_refl _) _).setCell (Nat.le_refl _) _).setCell (Nat.le_refl _) _).setCell (Nat.le_refl _) _).setCell (Nat.le_refl _) _)).bb.c4, (X4.out.later (((((((hE).setCell (Nat.le_refl _) _).setCell (Nat.le_refl _) _).setCell (Nat.le_refl _) _).setCell (Nat.le_refl _) _).setCell (Nat.le_refl _) _).setCell (Nat.le_refl _) _)).bb.c5⟩) (first | (go_at_call 50; (with_reducible refine (pointer_any b js q m mc _ w0 (by first | exact HF.out.trans (X4.out.fr.trans hE) | exact HF.out.trans (X4.out.fr.trans ((Fresh.refl W).alloc _ _).drew)) HJ.out).mono ?_); rintro e w2 ⟨⟨py, ny, cy, rfl, hky⟩, h2⟩; have hE : Fresh W w2 := (by first | exact hE.trans h2 | exact ((Fresh.refl W).alloc _ _).drew.trans h2); (try (have T18 := (Blk.new W #[.int .i64 0, .int .i64 0, .int .i64 0, .bool false, .string ⟨#[]⟩, .slice none 0 0] 71).fresh ((Fresh.refl _).drew.trans h2); have y0 := T18.1 0 _ rfl; have y1 := T18.1 1 _ rfl; have y2 := T18.1 2 _ rfl; have y3 := T18.1 3 _ rfl; have y4 := T18.1 4 _ rfl; have y5 := T18.1 5 _ rfl; have yf := T18.2.1; have yz := T18.2.2; have HB3 := Lib.hid T18; clear T18)); have hz2 : W.heap.size ≤ w2.heap.size := hE.size; have hb3 : w.heap.size + 1 < w2.heap.size := (by omega); clear h2))
    all_goals (go_wp2_with fail; go_meet)
    all_goals (refine ⟨rfl, Lib.hid ?_⟩)
    all_goals (refine ⟨_, py, ny, cy, rfl, ?_, ?_, hky⟩)
    all_goals first
      | with_reducible exact hE.alloc _ _
      | with_reducible exact hE.puts6 (Nat.le_refl _)
      | with_reducible exact HB3.out.puts6
      | exact Blk.new w2 #[.int .i64 js.hd.kind, .int .i64 js.hd.size, .int .i64 js.hd.len, .bool js.hd.flag, .string js.hd.name, .slice py ny cy] 71
  case rest =>
    obtain ⟨rfl, HC⟩ := hcut
    obtain ⟨c, py, ny, cy, rfl, hf, hb, hky⟩ := HC.out
    have F1 := Lib.hid (X4.out.fr.trans hf)
    have xb := T5.out.fresh hf
    have x0 := (xb).1 0 _ rfl; have x1 := (xb).1 1 _ rfl; have x2 := (xb).1 2 _ rfl; have x3 := (xb).1 3 _ rfl; have x4 := (xb).1 4 _ rfl; have x5 := (xb).1 5 _ rfl; have xz := (xb).2.2
    have y0 := (hb).1 0 _ rfl; have y1 := (hb).1 1 _ rfl; have y2 := (hb).1 2 _ rfl; have y3 := (hb).1 3 _ rfl; have y4 := (hb).1 4 _ rfl; have y5 := (hb).1 5 _ rfl; have yz := (hb).2.2
    have HY := Lib.hid hky
    clear HC xb hb hf T5 X4 hky
    rcases (Bool.eq_false_or_eq_true (b.kind == 4)).symm with ht | ht
    · go_wp2_with fail
      go_returns
      exact ⟨by rw [ht]; rfl, F1.out⟩
    · skip
      have eR := HRR.out
      subst eR
      clear HRR
      go_wp2_with fail
      go_at_call 17; refine (KID.out _ px py nx cx ny cy (HF.out.trans F1.out) HX.out HY.out).mono ?_; rintro e w5 ⟨rfl, h5⟩
      go_wp2_with fail
      go_returns
      exact ⟨by rw [ht]; rfl, F1.out.trans h5⟩

end
end Go.Proofs.YteiomcbphbbpkaaDoor
/- The reference's Same: what stands behind the look at the second type. -/
namespace Go.Proofs.YteiomcbphbbpkaaDoor
set_option linter.unusedSimpArgs false
set_option linter.unusedVariables false
open Go.RowKit

section
variable {ok ok2 : Nat → Prop} (a b : Hd) (ks js : Tys) (p q : Option Addr) (n m cap mc : Nat) (w0 w : World) (hf : Fresh w0 w) (hks : Kids ok w0 ks p n cap) (hjs : Kids ok2 w0 js q m mc) (hb0 : b.kind ≠ 0)
include hf hks hjs hb0
set_option maxRecDepth 100000 in
set_option maxHeartbeats 8000000 in
theorem sameR_b5 (ha : a.kind = 5) (K : Bool) (kid : ∀ (X : World) (p' q' : Option Addr) (n' cap' m' mc' : Nat), Fresh w0 X → Kids ok w0 ks.kids p' n' cap' → Kids ok2 w0 js.kids q' m' mc' → Calls Tryd.prog 17 #[.agg #[.int .i64 ks.hd.kind, .int .i64 ks.hd.size, .int .i64 ks.hd.len, .bool ks.hd.flag, .string ks.hd.name, .slice p' n' cap'], .agg #[.int .i64 js.hd.kind, .int .i64 js.hd.size, .int .i64 js.hd.len, .bool js.hd.flag, .string js.hd.name, .slice q' m' mc']] X fun e w' => e = .returned (.bool K) ∧ Fresh X w') : Calls Tryd.prog 17 #[.agg #[.int .i64 a.kind, .int .i64 a.size, .int .i64 a.len, .bool a.flag, .string a.name, .slice p n cap], .agg #[.int .i64 b.kind, .int .i64 b.size, .int .i64 b.len, .bool b.flag, .string b.name, .slice q m mc]] w fun e w' => e = .returned (.bool ((b.kind == 5) && (a.len == b.len && K))) ∧ Fresh w w' := by
  have KID := Lib.hid kid
  clear kid
  have HR : Hid ((a.len == b.len) = true ∨ (a.len == b.len) = false) := Lib.hid (by cases (a.len == b.len) <;> simp)
  generalize hR : (a.len == b.len && K) = R
  have HRR := Lib.hid hR
  clear hR
  have HA := Lib.hid ha
  have HF := Lib.hid hf
  have HK := Lib.hid hks
  have HJ := Lib.hid hjs
  have ka : (a.kind == 0) = false := by rw [ha]; rfl
  clear ha hf hks hjs
  have X0 := Lib.hid (BY.new w a b p q n m cap mc)
  have kq : (b.kind == 0) = false := by simpa using hb0
  clear hb0
  go_enter Tryd.func17, Tryd.ntmps17
  go_wp2_with fail
  go_at_call 35; refine (none_any a p n cap _).mono ?_; rintro e w1 ⟨rfl, h1⟩; have X1 := Lib.hid (X0.out.later h1); clear h1 X0
  obtain ⟨b0, b1, b2, b3, b4, b5, bf⟩ := X1.out.bb; have bz := cell_lt b0; simp only at bz
  rw [ka]
  go_wp2_with fail
  go_at_call 35; refine (none_any b q m mc _).mono ?_; rintro e w2 ⟨rfl, h2⟩; have X2 := Lib.hid (X1.out.later h2); clear h2 X1 b0 b1 b2 b3 b4 b5 bf bz
  rw [kq]
  obtain ⟨a0, a1, a2, a3, a4, a5, af⟩ := X2.out.ba; have az := cell_lt a0; simp only at az
  have kk4 : (a.kind == 4) = false := by rw [HA.out]; rfl
  have kk5 : (a.kind == 5) = true := by rw [HA.out]; rfl
  have kk7 : (a.kind == 7) = false := by rw [HA.out]; rfl
  have kk1 : (a.kind == 1) = false := by rw [HA.out]; rfl
  have kk3 : (a.kind == 3) = false := by rw [HA.out]; rfl
  have kk2 : (a.kind == 2) = false := by rw [HA.out]; rfl
  have kk6 : (a.kind == 6) = false := by rw [HA.out]; rfl
  go_wp2_with fail
  go_at_call 51; refine (array_any a ks p n cap _ w0 (HF.out.trans (X2.out.fr.trans (by (repeat' first | with_reducible exact Fresh.refl _ | with_reducible assumption | with_reducible refine Fresh.alloc ?_ _ _ | with_reducible refine Fresh.drew ?_ | with_reducible refine Fresh.drewN ?_ _ | with_reducible refine Fresh.setCell ?_ ?_ _ | with_reducible refine Fresh.trans ?_ (by assumption) | (simp; done) | (simp; omega))))) HK.out).mono ?_; rintro e w3 ⟨⟨px, nx, cx, rfl, hkx⟩, h3⟩; have HX := Lib.hid hkx; clear hkx; have X3 := Lib.hid (X2.out.later h3); clear h3 X2 a0 a1 a2 a3 a4 a5 af az kk4 kk5 kk7 kk1 kk3 kk2 kk6
  go_upto_region 10 with fail
  have X4 : Hid (BY w (w3.alloc (.cells #[.int .i64 ks.hd.kind, .int .i64 ks.hd.size, .int .i64 ks.hd.len, .bool ks.hd.flag, .string ks.hd.name, .slice px nx cx, .int .i64 a.len] 69)) a b p q n m cap mc) := Lib.hid (X3.out.later (by (repeat' first | with_reducible exact Fresh.refl _ | with_reducible assumption | with_reducible refine Fresh.alloc ?_ _ _ | with_reducible refine Fresh.drew ?_ | with_reducible refine Fresh.drewN ?_ _ | with_reducible refine Fresh.setCell ?_ ?_ _ | with_reducible refine Fresh.trans ?_ (by assumption) | (simp; done) | (simp; omega))))
  have T5 : Hid (Blk (w3.alloc (.cells #[.int .i64 ks.hd.kind, .int .i64 ks.hd.size, .int .i64 ks.hd.len, .bool ks.hd.flag, .string ks.hd.name, .slice px nx cx, .int .i64 a.len] 69)) w3.heap.size [.int .i64 ks.hd.kind, .int .i64 ks.hd.size, .int .i64 ks.hd.len, .bool ks.hd.flag, .string ks.hd.name, .slice px nx cx, .int .i64 a.len]) := Lib.hid (Blk.new w3 #[.int .i64 ks.hd.kind, .int .i64 ks.hd.size, .int .i64 ks.hd.len, .bool ks.hd.flag, .string ks.hd.name, .slice px nx cx, .int .i64 a.len] 69)
  have hb1 : w.heap.size + 1 < (w3.alloc (.cells #[.int .i64 ks.hd.kind, .int .i64 ks.hd.size, .int .i64 ks.hd.len, .bool ks.hd.flag, .string ks.hd.name, .slice px nx cx, .int .i64 a.len] 69)).heap.size := by have := X4.out.lo; omega
  clear X3
  generalize (w3.alloc (.cells #[.int .i64 ks.hd.kind, .int .i64 ks.hd.size, .int .i64 ks.hd.len, .bool ks.hd.flag, .string ks.hd.name, .slice px nx cx, .int .i64 a.len] 69)) = W at *
  generalize w3.heap.size = b5 at *
  go_cut [9, 10] (fun uy uk wx => uk = .bool (b.kind == 5) ∧ Hid (∃ c py ny cy , uy = .pointer (some ⟨c, 0, none⟩) ∧ Fresh W wx ∧ Blk wx c [.int .i64 js.hd.kind, .int .i64 js.hd.size, .int .i64 js.hd.len, .bool js.hd.flag, .string js.hd.name, .slice py ny cy, .int .i64 b.len] ∧ Kids ok2 w0 js.kids py ny cy))
  case first =>
    have hE : Fresh W W.drew := (Fresh.refl W).drew
    go_region_held3 (fun w' => w'.cell? ⟨w.heap.size + 1, 0, none⟩ = some (.int .i64 b.kind) ∧ w'.cell? ⟨w.heap.size + 1, 1, none⟩ = some (.int .i64 b.size) ∧ w'.cell? ⟨w.heap.size + 1, 2, none⟩ = some (.int .i64 b.len) ∧ w'.cell? ⟨w.heap.size + 1, 3, none⟩ = some (.bool b.flag) ∧ w'.cell? ⟨w.heap.size + 1, 4, none⟩ = some (.string b.name) ∧ w'.cell? ⟨w.heap.size + 1, 5, none⟩ = some (.slice q m mc)) (first | done | with_reducible exact ⟨(X4.out.later (hE)).bb.c0, (X4.out.later (hE)).bb.c1, (X4.out.later (hE)).bb.c2, (X4.out.later (hE)).bb.c3, (X4.out.later (hE)).bb.c4, (X4.out.later (hE)).bb.c5⟩ | with_reducible exact ⟨(X4.out.later (((Fresh.refl W).alloc _ _).drew)).bb.c0, (X4.out.later (((Fresh.refl W).alloc _ _).drew)).bb.c1, (X4.out.later (((Fresh.refl W).alloc _ _).drew)).bb.c2, (X4.out.later (((Fresh.refl W).alloc _ _).drew)).bb.c3, (X4.out.later (((Fresh.refl W).alloc _ _).drew)).bb.c4, (X4.out.later (((Fresh.refl W).alloc _ _).drew)).bb.c5⟩ | with_reducible exact ⟨(X4.out.later (hE.alloc _ _)).bb.c0, (X4.out.later (hE.alloc _ _)).bb.c1, (X4.out.later (hE.alloc _ _)).bb.c2, (X4.out.later (hE.alloc _ _)).bb.c3, (X4.out.later (hE.alloc _ _)).bb.c4, (X4.out.later (hE.alloc _ _)).bb.c5⟩ | with_reducible exact ⟨(X4.out.later ((((((((hE).setCell (Nat.le_refl _) _).setCell (Nat.le_refl _) _).setCell (Nat.le_refl _) _).setCell (Nat.le_refl _) _).setCell (Nat.le_refl _) _).setCell (Nat.le_refl _) _).setCell (Nat.le_refl _) _)).bb.c0, (X4.out.later ((((((((hE).setCell (Nat.le_refl _) _).setCell (Nat.le_refl _) _).setCell (Nat.le_refl _) _).setCell (Nat.le_refl _) _).setCell (Nat.le_refl _) _).setCell (Nat.le_refl _) _).setCell (Nat.le_refl _) _)).bb.c1, (X4.out.later ((((((((hE).setCell (Nat.le_refl _) _).setCell (Nat.le_refl _) _).setCell (Nat.le_refl _) _).setCell (Nat.le_refl _) _).setCell (Nat.le_refl _) _).setCell (Nat.le_refl _) _).setCell (Nat.le_refl _) _)).bb.c2, (X4.out.later ((((((((hE).setCell (Nat.le_refl _) _).setCell (Nat.le_refl _) _).setCell (Nat.le_refl _) _).setCell (Nat.le_refl _) _).setCell (Nat.le_refl _) _).setCell (Nat.le_refl _) _).setCell (Nat.le_refl _) _)).bb.c3, (X4.out.later ((((((((hE).setCell (Nat.le_refl _) _).setCell (Nat.le_refl _) _).setCell (Nat.le_refl _) _).setCell (Nat.le_refl _) _).setCell (Nat.le_refl _) _).setCell (Nat.le_refl _) _).setCell (Nat.le_refl _) _)).bb.c4, (X4.out.later ((((((((hE).setCell (Nat.le_refl _) _).setCell (Nat.le_refl _) _).setCell (Nat.le_refl _) _).setCell (Nat.le_refl _) _).setCell (Nat.le_refl _) _).setCell (Nat.le_refl _) _).setCell (Nat.le_refl _) _)).bb.c5⟩) (first | (go_at_call 51; (with_reducible refine (array_any b js q m mc _ w0 (by first | exact HF.out.trans (X4.out.fr.trans hE) | exact HF.out.trans (X4.out.fr.trans ((Fresh.refl W).alloc _ _).drew)) HJ.out).mono ?_); rintro e w2 ⟨⟨py, ny, cy, rfl, hky⟩, h2⟩; have hE : Fresh W w2 := (by first | exact hE.trans h2 | exact ((Fresh.refl W).alloc _ _).drew.trans h2); (try (have T18 := (Blk.new W #[.int .i64 0, .int .i64 0, .int .i64 0, .bool false, .string ⟨#[]⟩, .slice none 0 0, .int .i64 0] 69).fresh ((Fresh.refl _).drew.trans h2); have y0 := T18.1 0 _ rfl; have y1 := T18.1 1 _ rfl; have y2 := T18.1 2 _ rfl; have y3 := T18.1 3 _ rfl; have y4 := T18.1 4 _ rfl; have y5 := T18.1 5 _ rfl; have y6 := T18.1 6 _ rfl; have yf := T18.2.1; have yz := T18.2.2; have HB3 := Lib.hid T18; clear T18)); have hz2 : W.heap.size ≤ w2.heap.size := hE.size; have hb3 : w.heap.size + 1 < w2.heap.size := (by omega); clear h2))
    all_goals (go_wp2_with fail; go_meet)
    all_goals (refine ⟨rfl, Lib.hid ?_⟩)
    all_goals (refine ⟨_, py, ny, cy, rfl, ?_, ?_, hky⟩)
    all_goals first
      | with_reducible exact hE.alloc _ _
      | with_reducible exact hE.puts7 (Nat.le_refl _)
      | with_reducible exact HB3.out.puts7
      | exact Blk.new w2 #[.int .i64 js.hd.kind, .int .i64 js.hd.size, .int .i64 js.hd.len, .bool js.hd.flag, .string js.hd.name, .slice py ny cy, .int .i64 b.len] 69
  case rest =>
    obtain ⟨rfl, HC⟩ := hcut
    obtain ⟨c, py, ny, cy, rfl, hf, hb, hky⟩ := HC.out
    have F1 := Lib.hid (X4.out.fr.trans hf)
    have xb := T5.out.fresh hf
    have x0 := (xb).1 0 _ rfl; have x1 := (xb).1 1 _ rfl; have x2 := (xb).1 2 _ rfl; have x3 := (xb).1 3 _ rfl; have x4 := (xb).1 4 _ rfl; have x5 := (xb).1 5 _ rfl; have x6 := (xb).1 6 _ rfl; have xz := (xb).2.2
    have y0 := (hb).1 0 _ rfl; have y1 := (hb).1 1 _ rfl; have y2 := (hb).1 2 _ rfl; have y3 := (hb).1 3 _ rfl; have y4 := (hb).1 4 _ rfl; have y5 := (hb).1 5 _ rfl; have y6 := (hb).1 6 _ rfl; have yz := (hb).2.2
    have HY := Lib.hid hky
    clear HC xb hb hf T5 X4 hky
    rcases (Bool.eq_false_or_eq_true (b.kind == 5)).symm with ht | ht
    · go_wp2_with fail
      go_returns
      exact ⟨by rw [ht]; rfl, F1.out⟩
    · skip
      rcases HR.out with e1 | e1
      · have eR := HRR.out
        rw [e1] at eR
        simp only [Bool.true_and] at eR
        subst eR
        clear HR HRR
        go_wp2_with fail
        go_at_call 17; refine (KID.out _ px py nx cx ny cy (HF.out.trans F1.out) HX.out HY.out).mono ?_; rintro e w5 ⟨rfl, h5⟩
        go_wp2_with fail
        go_returns
        exact ⟨by rw [ht]; rfl, F1.out.trans h5⟩
      · have eR := HRR.out
        rw [e1] at eR
        simp only [Bool.false_and] at eR
        subst eR
        clear HR HRR
        go_wp2_with fail
        go_returns
        exact ⟨by rw [ht]; rfl, F1.out⟩

end
end Go.Proofs.YteiomcbphbbpkaaDoor
/- The reference's Same: what stands behind the look at the second type. -/
namespace Go.Proofs.YteiomcbphbbpkaaDoor
set_option linter.unusedSimpArgs false
set_option linter.unusedVariables false
open Go.RowKit

section
variable {ok ok2 : Nat → Prop} (a b : Hd) (ks js : Tys) (p q : Option Addr) (n m cap mc : Nat) (w0 w : World) (hf : Fresh w0 w) (hks : Kids ok w0 ks p n cap) (hjs : Kids ok2 w0 js q m mc) (hb0 : b.kind ≠ 0)
include hf hks hjs hb0
set_option maxRecDepth 100000 in
set_option maxHeartbeats 8000000 in
theorem sameR_b6 (ha : a.kind = 6) : Calls Tryd.prog 17 #[.agg #[.int .i64 a.kind, .int .i64 a.size, .int .i64 a.len, .bool a.flag, .string a.name, .slice p n cap], .agg #[.int .i64 b.kind, .int .i64 b.size, .int .i64 b.len, .bool b.flag, .string b.name, .slice q m mc]] w fun e w' => e = .returned (.bool ((b.kind == 6) && (a.name.toList == b.name.toList && a.flag == b.flag))) ∧ Fresh w w' := by
  have HA := Lib.hid ha
  have HF := Lib.hid hf
  have HK := Lib.hid hks
  have HJ := Lib.hid hjs
  have ka : (a.kind == 0) = false := by rw [ha]; rfl
  clear ha hf hks hjs
  have X0 := Lib.hid (BY.new w a b p q n m cap mc)
  have kq : (b.kind == 0) = false := by simpa using hb0
  clear hb0
  go_enter Tryd.func17, Tryd.ntmps17
  go_wp2_with fail
  go_at_call 35; refine (none_any a p n cap _).mono ?_; rintro e w1 ⟨rfl, h1⟩; have X1 := Lib.hid (X0.out.later h1); clear h1 X0
  obtain ⟨b0, b1, b2, b3, b4, b5, bf⟩ := X1.out.bb; have bz := cell_lt b0; simp only at bz
  rw [ka]
  go_wp2_with fail
  go_at_call 35; refine (none_any b q m mc _).mono ?_; rintro e w2 ⟨rfl, h2⟩; have X2 := Lib.hid (X1.out.later h2); clear h2 X1 b0 b1 b2 b3 b4 b5 bf bz
  rw [kq]
  obtain ⟨a0, a1, a2, a3, a4, a5, af⟩ := X2.out.ba; have az := cell_lt a0; simp only at az
  have kk4 : (a.kind == 4) = false := by rw [HA.out]; rfl
  have kk5 : (a.kind == 5) = false := by rw [HA.out]; rfl
  have kk7 : (a.kind == 7) = false := by rw [HA.out]; rfl
  have kk1 : (a.kind == 1) = false := by rw [HA.out]; rfl
  have kk3 : (a.kind == 3) = false := by rw [HA.out]; rfl
  have kk2 : (a.kind == 2) = false := by rw [HA.out]; rfl
  have kk6 : (a.kind == 6) = true := by rw [HA.out]; rfl
  go_wp2_with fail
  go_at_call 54; refine (record_any a p n cap _).mono ?_; rintro e w3 ⟨rfl, h3⟩; have X3 := Lib.hid (X2.out.later h3); clear h3 X2 a0 a1 a2 a3 a4 a5 af az kk4 kk5 kk7 kk1 kk3 kk2 kk6
  go_upto_region 35 with fail
  have X4 : Hid (BY w (w3.alloc (.cells #[.string a.name, .bool a.flag] 67)) a b p q n m cap mc) := Lib.hid (X3.out.later (by (repeat' first | with_reducible exact Fresh.refl _ | with_reducible assumption | with_reducible refine Fresh.alloc ?_ _ _ | with_reducible refine Fresh.drew ?_ | with_reducible refine Fresh.drewN ?_ _ | with_reducible refine Fresh.setCell ?_ ?_ _ | with_reducible refine Fresh.trans ?_ (by assumption) | (simp; done) | (simp; omega))))
  have T5 : Hid (Blk (w3.alloc (.cells #[.string a.name, .bool a.flag] 67)) w3.heap.size [.string a.name, .bool a.flag]) := Lib.hid (Blk.new w3 #[.string a.name, .bool a.flag] 67)
  have hb1 : w.heap.size + 1 < (w3.alloc (.cells #[.string a.name, .bool a.flag] 67)).heap.size := by have := X4.out.lo; omega
  clear X3
  generalize (w3.alloc (.cells #[.string a.name, .bool a.flag] 67)) = W at *
  generalize w3.heap.size = b5 at *
  go_cut [21, 22] (fun uy uk wx => uk = .bool (b.kind == 6) ∧ Hid (∃ c , uy = .pointer (some ⟨c, 0, none⟩) ∧ Fresh W wx ∧ Blk wx c [.string b.name, .bool b.flag] ∧ True))
  case first =>
    have hE : Fresh W W.drew := (Fresh.refl W).drew
    go_region_held3 (fun w' => w'.cell? ⟨w.heap.size + 1, 0, none⟩ = some (.int .i64 b.kind) ∧ w'.cell? ⟨w.heap.size + 1, 1, none⟩ = some (.int .i64 b.size) ∧ w'.cell? ⟨w.heap.size + 1, 2, none⟩ = some (.int .i64 b.len) ∧ w'.cell? ⟨w.heap.size + 1, 3, none⟩ = some (.bool b.flag) ∧ w'.cell? ⟨w.heap.size + 1, 4, none⟩ = some (.string b.name) ∧ w'.cell? ⟨w.heap.size + 1, 5, none⟩ = some (.slice q m mc)) (first | done | with_reducible exact ⟨(X4.out.later (hE)).bb.c0, (X4.out.later (hE)).bb.c1, (X4.out.later (hE)).bb.c2, (X4.out.later (hE)).bb.c3, (X4.out.later (hE)).bb.c4, (X4.out.later (hE)).bb.c5⟩ | with_reducible exact ⟨(X4.out.later (((Fresh.refl W).alloc _ _).drew)).bb.c0, (X4.out.later (((Fresh.refl W).alloc _ _).drew)).bb.c1, (X4.out.later (((Fresh.refl W).alloc _ _).drew)).bb.c2, (X4.out.later (((Fresh.refl W).alloc _ _).drew)).bb.c3, (X4.out.later (((Fresh.refl W).alloc _ _).drew)).bb.c4, (X4.out.later (((Fresh.refl W).alloc _ _).drew)).bb.c5⟩ | with_reducible exact ⟨(X4.out.later (hE.alloc _ _)).bb.c0, (X4.out.later (hE.alloc _ _)).bb.c1, (X4.out.later (hE.alloc _ _)).bb.c2, (X4.out.later (hE.alloc _ _)).bb.c3, (X4.out.later (hE.alloc _ _)).bb.c4, (X4.out.later (hE.alloc _ _)).bb.c5⟩ | with_reducible exact ⟨(X4.out.later (((hE).setCell (Nat.le_refl _) _).setCell (Nat.le_refl _) _)).bb.c0, (X4.out.later (((hE).setCell (Nat.le_refl _) _).setCell (Nat.le_refl _) _)).bb.c1, (X4.out.later (((hE).setCell (Nat.le_refl _) _).setCell (Nat.le_refl _) _)).bb.c2, (X4.out.later (((hE).setCell (Nat.le_refl _) _).setCell (Nat.le_refl _) _)).bb.c3, (X4.out.later (((hE).setCell (Nat.le_refl _) _).setCell (Nat.le_refl _) _)).bb.c4, (X4.out.later (((hE).setCell (Nat.le_refl _) _).setCell (Nat.le_refl _) _)).bb.c5⟩) (first | (go_at_call 54; (with_reducible refine (record_any b q m mc _).mono ?_); rintro e w2 ⟨rfl, h2⟩; have hE : Fresh W w2 := (by first | exact hE.trans h2 | exact ((Fresh.refl W).alloc _ _).drew.trans h2); (try (have T18 := (Blk.new W #[.string ⟨#[]⟩, .bool false] 67).fresh ((Fresh.refl _).drew.trans h2); have y0 := T18.1 0 _ rfl; have y1 := T18.1 1 _ rfl; have yf := T18.2.1; have yz := T18.2.2; have HB3 := Lib.hid T18; clear T18)); have hz2 : W.heap.size ≤ w2.heap.size := hE.size; have hb3 : w.heap.size + 1 < w2.heap.size := (by omega); clear h2))
    all_goals (go_wp2_with fail; go_meet)
    all_goals (refine ⟨rfl, Lib.hid ?_⟩)
    all_goals (refine ⟨_, rfl, ?_, ?_, trivial⟩)
    all_goals first
      | with_reducible exact hE.alloc _ _
      | with_reducible exact Fresh.setCell (p := ⟨W.heap.size, 1, none⟩) (Fresh.setCell (p := ⟨W.heap.size, 0, none⟩) (hE) (Nat.le_refl _) _) (Nat.le_refl _) _
      | exact ((HB3.out.put (i := 0) (by simp) _).put (i := 1) (by simp) _)
      | exact Blk.new w2 #[.string b.name, .bool b.flag] 67
  case rest =>
    obtain ⟨rfl, HC⟩ := hcut
    obtain ⟨c, rfl, hf, hb, -⟩ := HC.out
    have F1 := Lib.hid (X4.out.fr.trans hf)
    have xb := T5.out.fresh hf
    have x0 := (xb).1 0 _ rfl; have x1 := (xb).1 1 _ rfl; have xz := (xb).2.2
    have y0 := (hb).1 0 _ rfl; have y1 := (hb).1 1 _ rfl; have yz := (hb).2.2
    skip
    clear HC xb hb hf T5 X4 
    rcases (Bool.eq_false_or_eq_true (b.kind == 6)).symm with ht | ht
    · go_wp2_with fail
      go_returns
      exact ⟨by rw [ht]; rfl, F1.out⟩
    · skip
      go_wp2_with fail
      all_goals go_returns
      all_goals (refine ⟨ret_bool ?_, F1.out⟩)
      all_goals simp [*]

end
end Go.Proofs.YteiomcbphbbpkaaDoor
/- The reference's Same: what stands behind the look at the second type. -/
namespace Go.Proofs.YteiomcbphbbpkaaDoor
set_option linter.unusedSimpArgs false
set_option linter.unusedVariables false
open Go.RowKit

/-- The reference's Same of this type and any well formed one. -/
def SameSpecR (a : Hd) (ks : Tys) : Prop := ∀ (ok ok2 : Nat → Prop) (b : Hd) (js : Tys) (p q : Option Addr) (n m cap mc : Nat) (w0 w : World), Fresh w0 w → Kids ok w0 ks p n cap → Kids ok2 w0 js q m mc → WFh b js → js.wf →
  Calls Tryd.prog 17 #[.agg #[.int .i64 a.kind, .int .i64 a.size, .int .i64 a.len, .bool a.flag, .string a.name, .slice p n cap], .agg #[.int .i64 b.kind, .int .i64 b.size, .int .i64 b.len, .bool b.flag, .string b.name, .slice q m mc]] w fun e w' => e = .returned (.bool (eqT a ks b js)) ∧ Fresh w w'
def AllSR : Tys → Prop
  | .nil => True
  | .cons h k r => SameSpecR h k ∧ AllSR r
section
variable {ok ok2 : Nat → Prop} (a b : Hd) (ks js : Tys) (p q : Option Addr) (n m cap mc : Nat) (w0 w : World) (hf : Fresh w0 w) (hks : Kids ok w0 ks p n cap) (hjs : Kids ok2 w0 js q m mc) (hb0 : b.kind ≠ 0)
include hf hks hjs hb0
set_option maxRecDepth 100000 in
set_option maxHeartbeats 16000000 in
theorem sameR_b7 (ha : a.kind = 7) (K : Bool) (kid : ∀ (X : World) (p' q' : Option Addr) (n' cap' m' mc' : Nat), Fresh w0 X → Kids ok w0 ks.kids p' n' cap' → Kids ok2 w0 js.kids q' m' mc' → Calls Tryd.prog 17 #[.agg #[.int .i64 ks.hd.kind, .int .i64 ks.hd.size, .int .i64 ks.hd.len, .bool ks.hd.flag, .string ks.hd.name, .slice p' n' cap'], .agg #[.int .i64 js.hd.kind, .int .i64 js.hd.size, .int .i64 js.hd.len, .bool js.hd.flag, .string js.hd.name, .slice q' m' mc']] X fun e w' => e = .returned (.bool K) ∧ Fresh X w') (hall : AllSR ks.rest) (hwf : js.rest.wf) : Calls Tryd.prog 17 #[.agg #[.int .i64 a.kind, .int .i64 a.size, .int .i64 a.len, .bool a.flag, .string a.name, .slice p n cap], .agg #[.int .i64 b.kind, .int .i64 b.size, .int .i64 b.len, .bool b.flag, .string b.name, .slice q m mc]] w fun e w' => e = .returned (.bool ((b.kind == 7) && (K && eqRow ks.rest js.rest))) ∧ Fresh w w' := by
  have KID := Lib.hid kid
  have HAL := Lib.hid hall
  have HWF := Lib.hid hwf
  clear kid hall hwf
  have HA := Lib.hid ha
  have HF := Lib.hid hf
  have HK := Lib.hid hks
  have HJ := Lib.hid hjs
  have ka : (a.kind == 0) = false := by rw [ha]; rfl
  clear ha hf hks hjs
  have X0 := Lib.hid (BY.new w a b p q n m cap mc)
  have kq : (b.kind == 0) = false := by simpa using hb0
  clear hb0
  go_enter Tryd.func17, Tryd.ntmps17
  go_wp2_with fail
  go_at_call 35; refine (none_any a p n cap _).mono ?_; rintro e w1 ⟨rfl, h1⟩; have X1 := Lib.hid (X0.out.later h1); clear h1 X0
  obtain ⟨b0, b1, b2, b3, b4, b5, bf⟩ := X1.out.bb; have bz := cell_lt b0; simp only at bz
  rw [ka]
  go_wp2_with fail
  go_at_call 35; refine (none_any b q m mc _).mono ?_; rintro e w2 ⟨rfl, h2⟩; have X2 := Lib.hid (X1.out.later h2); clear h2 X1 b0 b1 b2 b3 b4 b5 bf bz
  rw [kq]
  obtain ⟨a0, a1, a2, a3, a4, a5, af⟩ := X2.out.ba; have az := cell_lt a0; simp only at az
  have kk4 : (a.kind == 4) = false := by rw [HA.out]; rfl
  have kk5 : (a.kind == 5) = false := by rw [HA.out]; rfl
  have kk7 : (a.kind == 7) = true := by rw [HA.out]; rfl
  have kk1 : (a.kind == 1) = false := by rw [HA.out]; rfl
  have kk3 : (a.kind == 3) = false := by rw [HA.out]; rfl
  have kk2 : (a.kind == 2) = false := by rw [HA.out]; rfl
  have kk6 : (a.kind == 6) = false := by rw [HA.out]; rfl
  go_wp2_with fail
  go_at_call 52; refine (function_any a ks p n cap _ w0 (HF.out.trans (X2.out.fr.trans (by (repeat' first | with_reducible exact Fresh.refl _ | with_reducible assumption | with_reducible refine Fresh.alloc ?_ _ _ | with_reducible refine Fresh.drew ?_ | with_reducible refine Fresh.drewN ?_ _ | with_reducible refine Fresh.setCell ?_ ?_ _ | with_reducible refine Fresh.trans ?_ (by assumption) | (simp; done) | (simp; omega))))) HK.out).mono ?_; rintro e w3 ⟨⟨px, nx, cx, qx, mx, dx, rfl, hkx, hrx⟩, h3⟩; have HX := Lib.hid hkx; have HXR := Lib.hid hrx; clear hkx hrx; have X3 := Lib.hid (X2.out.later h3); clear h3 X2 a0 a1 a2 a3 a4 a5 af az kk4 kk5 kk7 kk1 kk3 kk2 kk6
  go_upto_region 14 with fail
  have X4 : Hid (BY w (w3.alloc (.cells #[.int .i64 ks.hd.kind, .int .i64 ks.hd.size, .int .i64 ks.hd.len, .bool ks.hd.flag, .string ks.hd.name, .slice px nx cx, .slice qx mx dx] 85)) a b p q n m cap mc) := Lib.hid (X3.out.later (by (repeat' first | with_reducible exact Fresh.refl _ | with_reducible assumption | with_reducible refine Fresh.alloc ?_ _ _ | with_reducible refine Fresh.drew ?_ | with_reducible refine Fresh.drewN ?_ _ | with_reducible refine Fresh.setCell ?_ ?_ _ | with_reducible refine Fresh.trans ?_ (by assumption) | (simp; done) | (simp; omega))))
  have T5 : Hid (Blk (w3.alloc (.cells #[.int .i64 ks.hd.kind, .int .i64 ks.hd.size, .int .i64 ks.hd.len, .bool ks.hd.flag, .string ks.hd.name, .slice px nx cx, .slice qx mx dx] 85)) w3.heap.size [.int .i64 ks.hd.kind, .int .i64 ks.hd.size, .int .i64 ks.hd.len, .bool ks.hd.flag, .string ks.hd.name, .slice px nx cx, .slice qx mx dx]) := Lib.hid (Blk.new w3 #[.int .i64 ks.hd.kind, .int .i64 ks.hd.size, .int .i64 ks.hd.len, .bool ks.hd.flag, .string ks.hd.name, .slice px nx cx, .slice qx mx dx] 85)
  have hb1 : w.heap.size + 1 < (w3.alloc (.cells #[.int .i64 ks.hd.kind, .int .i64 ks.hd.size, .int .i64 ks.hd.len, .bool ks.hd.flag, .string ks.hd.name, .slice px nx cx, .slice qx mx dx] 85)).heap.size := by have := X4.out.lo; omega
  clear X3
  generalize (w3.alloc (.cells #[.int .i64 ks.hd.kind, .int .i64 ks.hd.size, .int .i64 ks.hd.len, .bool ks.hd.flag, .string ks.hd.name, .slice px nx cx, .slice qx mx dx] 85)) = W at *
  generalize w3.heap.size = b5 at *
  go_cut [12, 13] (fun uy uk wx => uk = .bool (b.kind == 7) ∧ Hid (∃ c py ny cy qy my dy , uy = .pointer (some ⟨c, 0, none⟩) ∧ Fresh W wx ∧ Blk wx c [.int .i64 js.hd.kind, .int .i64 js.hd.size, .int .i64 js.hd.len, .bool js.hd.flag, .string js.hd.name, .slice py ny cy, .slice qy my dy] ∧ (Kids ok2 w0 js.kids py ny cy ∧ Kids ok2 w0 js.rest qy my dy)))
  case first =>
    have hE : Fresh W W.drew := (Fresh.refl W).drew
    go_region_held3 (fun w' => w'.cell? ⟨w.heap.size + 1, 0, none⟩ = some (.int .i64 b.kind) ∧ w'.cell? ⟨w.heap.size + 1, 1, none⟩ = some (.int .i64 b.size) ∧ w'.cell? ⟨w.heap.size + 1, 2, none⟩ = some (.int .i64 b.len) ∧ w'.cell? ⟨w.heap.size + 1, 3, none⟩ = some (.bool b.flag) ∧ w'.cell? ⟨w.heap.size + 1, 4, none⟩ = some (.string b.name) ∧ w'.cell? ⟨w.heap.size + 1, 5, none⟩ = some (.slice q m mc)) (first | done | with_reducible exact ⟨(X4.out.later (hE)).bb.c0, (X4.out.later (hE)).bb.c1, (X4.out.later (hE)).bb.c2, (X4.out.later (hE)).bb.c3, (X4.out.later (hE)).bb.c4, (X4.out.later (hE)).bb.c5⟩ | with_reducible exact ⟨(X4.out.later (((Fresh.refl W).alloc _ _).drew)).bb.c0, (X4.out.later (((Fresh.refl W).alloc _ _).drew)).bb.c1, (X4.out.later (((Fresh.refl W).alloc _ _).drew)).bb.c2, (X4.out.later (((Fresh.refl W).alloc _ _).drew)).bb.c3, (X4.out.later (((Fresh.refl W).alloc _ _).drew)).bb.c4, (X4.out.later (((Fresh.refl W).alloc _ _).drew)).bb.c5⟩ | with_reducible exact ⟨(X4.out.later (hE.alloc _ _)).bb.c0, (X4.out.later (hE.alloc _ _)).bb.c1, (X4.out.later (hE.alloc _ _)).bb.c2, (X4.out.later (hE.alloc _ _)).bb.c3, (X4.out.later (hE.alloc _ _)).bb.c4, (X4.out.later (hE.alloc _ _)).bb.c5⟩ | with_reducible exact ⟨(X4.out.later ((((((((hE).setCell (Nat.le_refl _) _).setCell (Nat.le_refl _) _).setCell (Nat.le_refl _) _).setCell (Nat.le_refl _) _).setCell (Nat.le_refl _) _).setCell (Nat.le_refl _) _).setCell (Nat.le_refl _) _)).bb.c0, (X4.out.later ((((((((hE).setCell (Nat.le_refl _) _).setCell (Nat.le_refl _) _).setCell (Nat.le_refl _) _).setCell (Nat.le_refl _) _).setCell (Nat.le_refl _) _).setCell (Nat.le_refl _) _).setCell (Nat.le_refl _) _)).bb.c1, (X4.out.later ((((((((hE).setCell (Nat.le_refl _) _).setCell (Nat.le_refl _) _).setCell (Nat.le_refl _) _).setCell (Nat.le_refl _) _).setCell (Nat.le_refl _) _).setCell (Nat.le_refl _) _).setCell (Nat.le_refl _) _)).bb.c2, (X4.out.later ((((((((hE).setCell (Nat.le_refl _) _).setCell (Nat.le_refl _) _).setCell (Nat.le_refl _) _).setCell (Nat.le_refl _) _).setCell (Nat.le_refl _) _).setCell (Nat.le_refl _) _).setCell (Nat.le_refl _) _)).bb.c3, (X4.out.later ((((((((hE).setCell (Nat.le_refl _) _).setCell (Nat.le_refl _) _).setCell (Nat.le_refl _) _).setCell (Nat.le_refl _) _).setCell (Nat.le_refl _) _).setCell (Nat.le_refl _) _).setCell (Nat.le_refl _) _)).bb.c4, (X4.out.later ((((((((hE).setCell (Nat.le_refl _) _).setCell (Nat.le_refl _) _).setCell (Nat.le_refl _) _).setCell (Nat.le_refl _) _).setCell (Nat.le_refl _) _).setCell (Nat.le_refl _) _).setCell (Nat.le_refl _) _)).bb.c5⟩) (first | (go_at_call 52; (with_reducible refine (function_any b js q m mc _ w0 (by first | exact HF.out.trans (X4.out.fr.trans hE) | exact HF.out.trans (X4.out.fr.trans ((Fresh.refl W).alloc _ _).drew)) HJ.out).mono ?_); rintro e w2 ⟨⟨py, ny, cy, qy, my, dy, rfl, hky, hry⟩, h2⟩; have hE : Fresh W w2 := (by first | exact hE.trans h2 | exact ((Fresh.refl W).alloc _ _).drew.trans h2); (try (have T18 := (Blk.new W #[.int .i64 0, .int .i64 0, .int .i64 0, .bool false, .string ⟨#[]⟩, .slice none 0 0, .slice none 0 0] 85).fresh ((Fresh.refl _).drew.trans h2); have y0 := T18.1 0 _ rfl; have y1 := T18.1 1 _ rfl; have y2 := T18.1 2 _ rfl; have y3 := T18.1 3 _ rfl; have y4 := T18.1 4 _ rfl; have y5 := T18.1 5 _ rfl; have y6 := T18.1 6 _ rfl; have yf := T18.2.1; have yz := T18.2.2; have HB3 := Lib.hid T18; clear T18)); have hz2 : W.heap.size ≤ w2.heap.size := hE.size; have hb3 : w.heap.size + 1 < w2.heap.size := (by omega); clear h2))
    all_goals (go_wp2_with fail; go_meet)
    all_goals (refine ⟨rfl, Lib.hid ?_⟩)
    all_goals (refine ⟨_, py, ny, cy, qy, my, dy, rfl, ?_, ?_, ⟨hky, hry⟩⟩)
    all_goals first
      | with_reducible exact hE.alloc _ _
      | with_reducible exact hE.puts7 (Nat.le_refl _)
      | with_reducible exact HB3.out.puts7
      | exact Blk.new w2 #[.int .i64 js.hd.kind, .int .i64 js.hd.size, .int .i64 js.hd.len, .bool js.hd.flag, .string js.hd.name, .slice py ny cy, .slice qy my dy] 85
  case rest =>
    obtain ⟨rfl, HC⟩ := hcut
    obtain ⟨c, py, ny, cy, qy, my, dy, rfl, hf, hb, hky⟩ := HC.out
    have F1 := Lib.hid (X4.out.fr.trans hf)
    have F0 := Lib.hid hf
    have HB0 := Lib.hid hb
    have xb := T5.out.fresh hf
    have x0 := (xb).1 0 _ rfl; have x1 := (xb).1 1 _ rfl; have x2 := (xb).1 2 _ rfl; have x3 := (xb).1 3 _ rfl; have x4 := (xb).1 4 _ rfl; have x5 := (xb).1 5 _ rfl; have x6 := (xb).1 6 _ rfl; have xz := (xb).2.2
    have y0 := (hb).1 0 _ rfl; have y1 := (hb).1 1 _ rfl; have y2 := (hb).1 2 _ rfl; have y3 := (hb).1 3 _ rfl; have y4 := (hb).1 4 _ rfl; have y5 := (hb).1 5 _ rfl; have y6 := (hb).1 6 _ rfl; have yz := (hb).2.2
    have HY := Lib.hid hky
    clear HC xb hb hf X4 hky
    rcases (Bool.eq_false_or_eq_true (b.kind == 7)).symm with ht | ht
    · go_wp2_with fail
      go_returns
      exact ⟨by rw [ht]; rfl, F1.out⟩
    · skip
      have XB := Lib.hid (T5.out.fresh F0.out)
      have YB := Lib.hid HB0.out
      go_wp2_with fail
      go_at_call 17; refine (KID.out _ px py nx cx ny cy (HF.out.trans F1.out) HX.out HY.out.1).mono ?_; rintro e w5 ⟨rfl, h5⟩
      have XB := Lib.hid (XB.out.fresh h5)
      have YB := Lib.hid (YB.out.fresh h5)
      have F5 := Lib.hid (F1.out.trans h5)
      have x6 := XB.out.1 6 _ rfl
      have y6 := YB.out.1 6 _ rfl
      have xz := XB.out.2.2
      have yz := YB.out.2.2
      clear x0 x1 x2 x3 x4 x5 y0 y1 y2 y3 y4 y5 h5
      cases K
      · go_wp2_with fail
        go_returns
        exact ⟨by rw [ht]; rfl, F5.out⟩
      have hxl : mx = ks.rest.length := HXR.out.1
      have hyl : my = js.rest.length := HY.out.2.1
      by_cases hmy : mx = my
      · subst hmy
        have HN := Lib.hid hxl
        have HM := Lib.hid hyl
        have hcap : dx ≤ 9223372036854775807 := HXR.out.2.2.1
        have hnc : mx ≤ dx := HXR.out.2.1
        have hmc : mx ≤ dy := HY.out.2.2.1
        have hcap2 : dy ≤ 9223372036854775807 := HY.out.2.2.2.1
        obtain ⟨xs, hx, hxl2, hxp⟩ := HXR.out.cells
        obtain ⟨ys, hy, hyl2, hyp⟩ := HY.out.2.cells
        have HP1 : Hid (mx = 0 ∨ ∃ B off, qx = some ⟨B, off, none⟩) := Lib.hid (by
          rcases hxp with ⟨-, h, -⟩ | ⟨B, off, e, -⟩
          · exact Or.inl h
          · exact Or.inr ⟨B, off, e⟩)
        have HP2 : Hid (mx = 0 ∨ ∃ B off, qy = some ⟨B, off, none⟩) := Lib.hid (by
          rcases hyp with ⟨-, h, -⟩ | ⟨B, off, e, -⟩
          · exact Or.inl h
          · exact Or.inr ⟨B, off, e⟩)
        have R1 : Hid (RestAt w0 qx 0 xs) := Lib.hid (by
          intro B off e j u hu
          rcases hxp with ⟨e', -⟩ | ⟨B', off', e', h⟩
          · rw [e] at e'; cases e'
          · rw [e] at e'; cases e'
            have := h j u hu
            rw [Go.WideShapes.add_plain] at this
            simpa using this)
        have R2 : Hid (RestAt w0 qy 0 ys) := Lib.hid (by
          intro B off e j u hu
          rcases hyp with ⟨e', -⟩ | ⟨B', off', e', h⟩
          · rw [e] at e'; cases e'
          · rw [e] at e'; cases e'
            have := h j u hu
            rw [Go.WideShapes.add_plain] at this
            simpa using this)
        have HXS := Lib.hid hx
        have HYS := Lib.hid hy
        clear hx hxl hxl2 hxp hy hyl hyl2 hyp
        go_wp2_with fail
        go_loopw [14] (fun i wr => ∃ (k : Nat) (r1 r2 : Tys) (zs1 zs2 : List Value), k ≤ mx ∧ i = .int .i64 k ∧ Hid (eqRow ks.rest js.rest = eqRow r1 r2 ∧ r1.length = mx - k ∧ r2.length = mx - k ∧ AllSR r1 ∧ r2.wf) ∧ Hid (r1.cells ok w0 zs1 ∧ r2.cells ok2 w0 zs2 ∧ RestAt w0 qx k zs1 ∧ RestAt w0 qy k zs2) ∧ Hid (Fresh w5 wr)) (fun i _ => mx - (intOf i).toNat)
        case atStart => exact ⟨0, ks.rest, js.rest, xs, ys, by omega, rfl, Lib.hid ⟨rfl, HN.out.symm, HM.out.symm, HAL.out, HWF.out⟩, Lib.hid ⟨HXS.out, HYS.out, R1.out, R2.out⟩, Lib.hid (Fresh.refl w5)⟩
        case round =>
          obtain ⟨k, r1, r2, zs1, zs2, hk, rfl, HI, HC, FW⟩ := hrel
          have x6 := (XB.out.fresh FW.out).1 6 _ rfl
          have y6 := (YB.out.fresh FW.out).1 6 _ rfl
          have xz := cell_lt x6
          have yz := cell_lt y6
          simp only at xz yz
          by_cases hlt : k < mx
          · cases r1 with
            | nil => exfalso; have := HI.out.2.1; simp [Tys.length] at this; omega
            | cons h1 k1 r1' =>
              cases r2 with
              | nil => exfalso; have := HI.out.2.2.1; simp [Tys.length] at this; omega
              | cons h2 k2 r2' =>
                obtain ⟨⟨p1, n1, c1, zs1', rfl, hk1, hr1⟩, ⟨p2, n2, c2, zs2', rfl, hk2, hr2⟩, ha1, ha2⟩ := HC.out
                obtain ⟨B1, off1, rfl⟩ := HP1.out.resolve_left (by omega)
                obtain ⟨B2, off2, rfl⟩ := HP2.out.resolve_left (by omega)
                obtain ⟨a0, a1, a2, a3, a4, a5, ar⟩ := six_at (ha1 B1 off1 rfl)
                obtain ⟨b0, b1, b2, b3, b4, b5', br⟩ := six_at (ha2 B2 off2 rfl)
                have S1 : Hid (RestAt w0 (some ⟨B1, off1, none⟩) (k + 1) zs1') := Lib.hid (fun B off e j u hu => by
                  cases e
                  have := ar j u hu
                  rwa [show off1 + k * 6 + 6 + j = off1 + (k + 1) * 6 + j by omega] at this)
                have S2 : Hid (RestAt w0 (some ⟨B2, off2, none⟩) (k + 1) zs2') := Lib.hid (fun B off e j u hu => by
                  cases e
                  have := br j u hu
                  rwa [show off2 + k * 6 + 6 + j = off2 + (k + 1) * 6 + j by omega] at this)
                have FX := HF.out.trans (F5.out.trans FW.out)
                have a0 := FX.at' a0
                have a1 := FX.at' a1
                have a2 := FX.at' a2
                have a3 := FX.at' a3
                have a4 := FX.at' a4
                have a5 := FX.at' a5
                have b0 := FX.at' b0
                have b1 := FX.at' b1
                have b2 := FX.at' b2
                have b3 := FX.at' b3
                have b4 := FX.at' b4
                have b5' := FX.at' b5'
                have HFX := Lib.hid FX
                have CS : Hid (∀ X, Fresh w0 X → Calls Tryd.prog 17 #[.agg #[.int .i64 h1.kind, .int .i64 h1.size, .int .i64 h1.len, .bool h1.flag, .string h1.name, .slice p1 n1 c1], .agg #[.int .i64 h2.kind, .int .i64 h2.size, .int .i64 h2.len, .bool h2.flag, .string h2.name, .slice p2 n2 c2]] X fun e w' => e = .returned (.bool (eqT h1 k1 h2 k2)) ∧ Fresh X w') := Lib.hid (fun X hX => HI.out.2.2.2.1.1 ok ok2 h2 k2 p1 p2 n1 n2 c1 c2 w0 X hX hk1 hk2 HI.out.2.2.2.2.1.1 HI.out.2.2.2.2.1.2)
                have HI2 : Hid (eqRow ks.rest js.rest = (eqT h1 k1 h2 k2 && eqRow r1' r2') ∧ r1'.length = mx - (k + 1) ∧ r2'.length = mx - (k + 1) ∧ AllSR r1' ∧ r2'.wf) := Lib.hid (by
                  obtain ⟨i1, i2, i3, i4, i5⟩ := HI.out
                  refine ⟨i1, ?_, ?_, i4.2, i5.2⟩
                  · simp [Tys.length] at i2; omega
                  · simp [Tys.length] at i3; omega)
                have HC2 := Lib.hid (And.intro hr1 hr2)
                have hlt' : (k : Int) < (mx : Int) := by omega
                clear ar br ha1 ha2 hk1 hk2 hr1 hr2 HI HC FX
                generalize eqT h1 k1 h2 k2 = t at *
                go_wp2_with fail
                go_upto_region 20 with fail
                have E : Hid (Fresh wr wr.drew) := Lib.hid (Fresh.refl wr).drew
                go_region_held3 (fun w' => w'.cell? ⟨b5, 6, none⟩ = some (.slice (some ⟨B1, off1, none⟩) mx dx) ∧ w'.cell? ⟨c, 6, none⟩ = some (.slice (some ⟨B2, off2, none⟩) mx dy) ∧ w'.cell? ⟨B1, off1 + k * 6, none⟩ = some (.int .i64 h1.kind) ∧ w'.cell? ⟨B1, off1 + k * 6 + 1, none⟩ = some (.int .i64 h1.size) ∧ w'.cell? ⟨B1, off1 + k * 6 + 2, none⟩ = some (.int .i64 h1.len) ∧ w'.cell? ⟨B1, off1 + k * 6 + 3, none⟩ = some (.bool h1.flag) ∧ w'.cell? ⟨B1, off1 + k * 6 + 4, none⟩ = some (.string h1.name) ∧ w'.cell? ⟨B1, off1 + k * 6 + 5, none⟩ = some (.slice p1 n1 c1) ∧ w'.cell? ⟨B2, off2 + k * 6, none⟩ = some (.int .i64 h2.kind) ∧ w'.cell? ⟨B2, off2 + k * 6 + 1, none⟩ = some (.int .i64 h2.size) ∧ w'.cell? ⟨B2, off2 + k * 6 + 2, none⟩ = some (.int .i64 h2.len) ∧ w'.cell? ⟨B2, off2 + k * 6 + 3, none⟩ = some (.bool h2.flag) ∧ w'.cell? ⟨B2, off2 + k * 6 + 4, none⟩ = some (.string h2.name) ∧ w'.cell? ⟨B2, off2 + k * 6 + 5, none⟩ = some (.slice p2 n2 c2)) (first | done | exact ⟨E.out.at' x6, E.out.at' y6, E.out.at' a0, E.out.at' a1, E.out.at' a2, E.out.at' a3, E.out.at' a4, E.out.at' a5, E.out.at' b0, E.out.at' b1, E.out.at' b2, E.out.at' b3, E.out.at' b4, E.out.at' b5'⟩) (first | (go_at_call 17; (with_reducible refine (CS.out _ (HFX.out.trans E.out)).mono ?_); rintro e w7 ⟨rfl, h7⟩; have E := Lib.hid (E.out.trans h7); clear h7))
                all_goals
                  clear a0 a1 a2 a3 a4 a5 b0 b1 b2 b3 b4 b5' CS
                  have FE := Lib.hid (FW.out.trans E.out)
                  cases t
                  · have hz : eqRow ks.rest js.rest = false := HI2.out.1
                    go_wp2_with fail
                    go_returns
                    exact ⟨by rw [ht, hz]; rfl, F5.out.trans FE.out⟩
                  · go_wp2_with fail
                    go_roundw
                    case rel => exact ⟨k + 1, r1', r2', zs1', zs2', by omega, by go_num, Lib.hid ⟨by rw [HI2.out.1]; rfl, HI2.out.2.1, HI2.out.2.2.1, HI2.out.2.2.2.1, HI2.out.2.2.2.2⟩, Lib.hid ⟨HC2.out.1, HC2.out.2, S1.out, S2.out⟩, FE⟩
                    case measure => simp [intOf]; omega
          · obtain rfl : k = mx := by omega
            have hR : eqRow ks.rest js.rest = true := by
              obtain ⟨i1, i2, i3, -, -⟩ := HI.out
              rw [i1]
              cases r1 with
              | nil =>
                cases r2 with
                | nil => rfl
                | cons _ _ _ => simp [Tys.length] at i3
              | cons _ _ _ => simp [Tys.length] at i2
            go_wp2_with fail
            go_returns
            exact ⟨by rw [ht, hR]; rfl, F5.out.trans FW.out⟩
      · have hl : eqRow ks.rest js.rest = false := eqRow_len (by rw [← hxl, ← hyl]; exact hmy)
        have q1 : ((mx : Int) != (my : Int)) = true := by simp; omega
        have HZ := Lib.hid hl
        clear hl hxl hyl hmy
        go_wp2_with fail
        go_returns
        exact ⟨by rw [ht, HZ.out]; rfl, F5.out⟩

end
end Go.Proofs.YteiomcbphbbpkaaDoor
/- The reference's Same: none, void, double ahead of any type. -/
namespace Go.Proofs.YteiomcbphbbpkaaDoor
set_option linter.unusedSimpArgs false
set_option linter.unusedVariables false
open Go.RowKit

section
variable (a b : Hd) (p q : Option Addr) (n m cap mc : Nat) (w : World)
set_option maxRecDepth 100000 in
set_option maxHeartbeats 4000000 in
theorem sameR_b1 (ha : a.kind = 1) (hb0 : b.kind ≠ 0) : Calls Tryd.prog 17 #[.agg #[.int .i64 a.kind, .int .i64 a.size, .int .i64 a.len, .bool a.flag, .string a.name, .slice p n cap], .agg #[.int .i64 b.kind, .int .i64 b.size, .int .i64 b.len, .bool b.flag, .string b.name, .slice q m mc]] w fun e w' => e = .returned (.bool (b.kind == 1)) ∧ Fresh w w' := by
  have HA := Lib.hid ha
  have ka : (a.kind == 0) = false := by rw [ha]; rfl
  clear ha
  have X0 := Lib.hid (BY.new w a b p q n m cap mc)
  have kq : (b.kind == 0) = false := by simpa using hb0
  clear hb0
  go_enter Tryd.func17, Tryd.ntmps17
  go_wp2_with fail
  go_at_call 35; refine (none_any a p n cap _).mono ?_; rintro e w1 ⟨rfl, h1⟩; have X1 := Lib.hid (X0.out.later h1); clear h1 X0
  obtain ⟨b0, b1, b2, b3, b4, b5, bf⟩ := X1.out.bb; have bz := cell_lt b0; simp only at bz
  rw [ka]
  go_wp2_with fail
  go_at_call 35; refine (none_any b q m mc _).mono ?_; rintro e w2 ⟨rfl, h2⟩; have X2 := Lib.hid (X1.out.later h2); clear h2 X1 b0 b1 b2 b3 b4 b5 bf bz
  rw [kq]
  obtain ⟨a0, a1, a2, a3, a4, a5, af⟩ := X2.out.ba; have az := cell_lt a0; simp only at az
  obtain ⟨b0, b1, b2, b3, b4, b5, bf⟩ := X2.out.bb; have bz := cell_lt b0; simp only at bz
  have kk4 : (a.kind == 4) = false := by rw [HA.out]; rfl
  have kk5 : (a.kind == 5) = false := by rw [HA.out]; rfl
  have kk7 : (a.kind == 7) = false := by rw [HA.out]; rfl
  have kk1 : (a.kind == 1) = true := by rw [HA.out]; rfl
  have kk3 : (a.kind == 3) = false := by rw [HA.out]; rfl
  have kk2 : (a.kind == 2) = false := by rw [HA.out]; rfl
  have kk6 : (a.kind == 6) = false := by rw [HA.out]; rfl
  go_wp2_with fail
  go_returns
  exact ⟨rfl, X2.out.fr⟩
set_option maxRecDepth 100000 in
set_option maxHeartbeats 4000000 in
theorem sameR_b3 (ha : a.kind = 3) (hb0 : b.kind ≠ 0) : Calls Tryd.prog 17 #[.agg #[.int .i64 a.kind, .int .i64 a.size, .int .i64 a.len, .bool a.flag, .string a.name, .slice p n cap], .agg #[.int .i64 b.kind, .int .i64 b.size, .int .i64 b.len, .bool b.flag, .string b.name, .slice q m mc]] w fun e w' => e = .returned (.bool (b.kind == 3)) ∧ Fresh w w' := by
  have HA := Lib.hid ha
  have ka : (a.kind == 0) = false := by rw [ha]; rfl
  clear ha
  have X0 := Lib.hid (BY.new w a b p q n m cap mc)
  have kq : (b.kind == 0) = false := by simpa using hb0
  clear hb0
  go_enter Tryd.func17, Tryd.ntmps17
  go_wp2_with fail
  go_at_call 35; refine (none_any a p n cap _).mono ?_; rintro e w1 ⟨rfl, h1⟩; have X1 := Lib.hid (X0.out.later h1); clear h1 X0
  obtain ⟨b0, b1, b2, b3, b4, b5, bf⟩ := X1.out.bb; have bz := cell_lt b0; simp only at bz
  rw [ka]
  go_wp2_with fail
  go_at_call 35; refine (none_any b q m mc _).mono ?_; rintro e w2 ⟨rfl, h2⟩; have X2 := Lib.hid (X1.out.later h2); clear h2 X1 b0 b1 b2 b3 b4 b5 bf bz
  rw [kq]
  obtain ⟨a0, a1, a2, a3, a4, a5, af⟩ := X2.out.ba; have az := cell_lt a0; simp only at az
  obtain ⟨b0, b1, b2, b3, b4, b5, bf⟩ := X2.out.bb; have bz := cell_lt b0; simp only at bz
  have kk4 : (a.kind == 4) = false := by rw [HA.out]; rfl
  have kk5 : (a.kind == 5) = false := by rw [HA.out]; rfl
  have kk7 : (a.kind == 7) = false := by rw [HA.out]; rfl
  have kk1 : (a.kind == 1) = false := by rw [HA.out]; rfl
  have kk3 : (a.kind == 3) = true := by rw [HA.out]; rfl
  have kk2 : (a.kind == 2) = false := by rw [HA.out]; rfl
  have kk6 : (a.kind == 6) = false := by rw [HA.out]; rfl
  go_wp2_with fail
  go_returns
  exact ⟨rfl, X2.out.fr⟩
set_option maxRecDepth 100000 in
set_option maxHeartbeats 4000000 in
theorem sameR_a0 (ha : a.kind = 0) : Calls Tryd.prog 17 #[.agg #[.int .i64 a.kind, .int .i64 a.size, .int .i64 a.len, .bool a.flag, .string a.name, .slice p n cap], .agg #[.int .i64 b.kind, .int .i64 b.size, .int .i64 b.len, .bool b.flag, .string b.name, .slice q m mc]] w fun e w' => e = .returned (.bool (b.kind == 0)) ∧ Fresh w w' := by
  have ka : (a.kind == 0) = true := by rw [ha]; rfl
  clear ha
  have X0 := Lib.hid (BY.new w a b p q n m cap mc)
  go_enter Tryd.func17, Tryd.ntmps17
  go_wp2_with fail
  go_at_call 35; refine (none_any a p n cap _).mono ?_; rintro e w1 ⟨rfl, h1⟩; have X1 := Lib.hid (X0.out.later h1); clear h1 X0
  obtain ⟨a0, a1, a2, a3, a4, a5, af⟩ := X1.out.ba; have az := cell_lt a0; simp only at az
  rw [ka]
  go_wp2_with fail
  go_at_call 35; refine (none_any a p n cap _).mono ?_; rintro e w2 ⟨rfl, h2⟩; have X2 := Lib.hid (X1.out.later h2); clear h2 X1 a0 a1 a2 a3 a4 a5 af az
  obtain ⟨b0, b1, b2, b3, b4, b5, bf⟩ := X2.out.bb; have bz := cell_lt b0; simp only at bz
  rw [ka]
  go_wp2_with fail
  go_at_call 35; refine (none_any b q m mc _).mono ?_; rintro e w3 ⟨rfl, h3⟩
  go_wp2_with fail
  go_returns
  exact ⟨rfl, X2.out.fr.trans h3⟩
set_option maxRecDepth 100000 in
set_option maxHeartbeats 4000000 in
theorem sameR_o0 (ha : a.kind ≠ 0) (hb : b.kind = 0) : Calls Tryd.prog 17 #[.agg #[.int .i64 a.kind, .int .i64 a.size, .int .i64 a.len, .bool a.flag, .string a.name, .slice p n cap], .agg #[.int .i64 b.kind, .int .i64 b.size, .int .i64 b.len, .bool b.flag, .string b.name, .slice q m mc]] w fun e w' => e = .returned (.bool false) ∧ Fresh w w' := by
  have ka : (a.kind == 0) = false := by simpa using ha
  have kb : (b.kind == 0) = true := by rw [hb]; rfl
  clear ha hb
  have X0 := Lib.hid (BY.new w a b p q n m cap mc)
  go_enter Tryd.func17, Tryd.ntmps17
  go_wp2_with fail
  go_at_call 35; refine (none_any a p n cap _).mono ?_; rintro e w1 ⟨rfl, h1⟩; have X1 := Lib.hid (X0.out.later h1); clear h1 X0
  obtain ⟨b0, b1, b2, b3, b4, b5, bf⟩ := X1.out.bb; have bz := cell_lt b0; simp only at bz
  rw [ka]
  go_wp2_with fail
  go_at_call 35; refine (none_any b q m mc _).mono ?_; rintro e w2 ⟨rfl, h2⟩; have X2 := Lib.hid (X1.out.later h2); clear h2 X1 b0 b1 b2 b3 b4 b5 bf bz
  obtain ⟨a0, a1, a2, a3, a4, a5, af⟩ := X2.out.ba; have az := cell_lt a0; simp only at az
  rw [kb]
  go_wp2_with fail
  go_at_call 35; refine (none_any a p n cap _).mono ?_; rintro e w3 ⟨rfl, h3⟩
  rw [ka]
  go_wp2_with fail
  go_returns
  exact ⟨rfl, X2.out.fr.trans h3⟩
end
end Go.Proofs.YteiomcbphbbpkaaDoor
/- The reference's Same of every two types that are made. -/
namespace Go.Proofs.YteiomcbphbbpkaaDoor
set_option linter.unusedSimpArgs false
set_option linter.unusedVariables false
open Go.RowKit

theorem wf_hd {js : Tys} (h : js.wf) : WFh js.hd js.kids ∧ js.kids.wf ∧ js.rest.wf := by
  cases js with
  | nil => exact ⟨Or.inl ⟨rfl, rfl⟩, trivial, trivial⟩
  | cons a k r => exact ⟨h.1.1, h.1.2, h.2⟩
theorem kf {a b : Int} (h : a ≠ b) : (a == b) = false := by simpa using h
theorem sameR_of (a : Hd) (ks : Tys) (hwa : WFh a ks) (hall : AllSR ks) : SameSpecR a ks := by
  intro ok ok2 b js p q n m cap mc w0 w hf hks hjs hwb hwj
  have hbd := hwb.bd
  by_cases ha0 : a.kind = 0
  · obtain ⟨rfl, rfl⟩ := hwa.k0 ha0
    have := sameR_a0 Hd.zero b p q n m cap mc w rfl
    by_cases hb : b.kind = 0
    · obtain ⟨rfl, rfl⟩ := hwb.k0 hb
      rw [eqT_refl]
      exact this
    · rw [eqT_no (show Hd.zero.kind ≠ b.kind from fun e => hb e.symm)]
      rw [show (b.kind == 0) = false by simpa using hb] at this
      exact this
  by_cases hb0 : b.kind = 0
  · rw [eqT_no (show a.kind ≠ b.kind by omega)]
    exact sameR_o0 a b p q n m cap mc w ha0 hb0
  rcases hwa with ⟨rfl, rfl⟩ | ⟨rfl, rfl⟩ | ⟨s, u, rfl, rfl⟩ | ⟨rfl, rfl⟩ | ⟨rfl, hl⟩ | ⟨l, rfl, hl⟩ | ⟨nm, u, rfl, rfl⟩ | ⟨rfl, hl⟩
  · exact absurd rfl ha0
  · have := sameR_b1 (hd1 1) b p q n m cap mc w rfl hb0
    by_cases hb : b.kind = 1
    · obtain ⟨rfl, rfl⟩ := hwb.k1 hb
      rw [eqT_refl]
      exact this
    · rw [eqT_no (show (hd1 1).kind ≠ b.kind from fun e => hb e.symm)]
      rw [kf hb] at this
      exact this
  · have := sameR_b2 (numHd s u) b .nil js p q n m cap mc w0 w hf hks hjs hb0 rfl
    by_cases hb : b.kind = 2
    · obtain ⟨s', u', rfl, rfl⟩ := hwb.k2 hb
      have e : eqT (numHd s u) .nil (numHd s' u') .nil = (s == s' && u == u') := by simp [eqT, eqH, eqRow, numHd]
      rw [e]
      exact this
    · rw [eqT_no (show (numHd s u).kind ≠ b.kind from fun e => hb e.symm)]
      rw [kf hb, Bool.false_and] at this
      exact this
  · have := sameR_b3 (hd1 3) b p q n m cap mc w rfl hb0
    by_cases hb : b.kind = 3
    · obtain ⟨rfl, rfl⟩ := hwb.k3 hb
      rw [eqT_refl]
      exact this
    · rw [eqT_no (show (hd1 3).kind ≠ b.kind from fun e => hb e.symm)]
      rw [kf hb] at this
      exact this
  · obtain ⟨a1, k1, rfl⟩ := len1 hl
    by_cases hb : b.kind = 4
    · obtain ⟨rfl, hl'⟩ := hwb.k4 hb
      obtain ⟨b1, j1, rfl⟩ := len1 hl'
      have e : eqT (hd1 4) (.cons a1 k1 .nil) (hd1 4) (.cons b1 j1 .nil) = eqT a1 k1 b1 j1 := by simp [eqT, eqRow, eqH_refl]
      rw [e]
      exact sameR_b4 (hd1 4) (hd1 4) (.cons a1 k1 .nil) (.cons b1 j1 .nil) p q n m cap mc w0 w hf hks hjs hb0 rfl (eqT a1 k1 b1 j1) (fun X p' q' n' c' m' mc' hX h1 h2 => hall.1 ok ok2 b1 j1 p' q' n' m' c' mc' w0 X hX h1 h2 hwj.1.1 hwj.1.2)
    · rw [eqT_no (show (hd1 4).kind ≠ b.kind from fun e => hb e.symm)]
      have := sameR_b4 (hd1 4) b (.cons a1 k1 .nil) js p q n m cap mc w0 w hf hks hjs hb0 rfl (eqT a1 k1 js.hd js.kids) (fun X p' q' n' c' m' mc' hX h1 h2 => hall.1 ok ok2 js.hd js.kids p' q' n' m' c' mc' w0 X hX h1 h2 (wf_hd hwj).1 (wf_hd hwj).2.1)
      rw [kf hb, Bool.false_and] at this
      exact this
  · obtain ⟨a1, k1, rfl⟩ := len1 hl
    by_cases hb : b.kind = 5
    · obtain ⟨l', rfl, hl'⟩ := hwb.k5 hb
      obtain ⟨b1, j1, rfl⟩ := len1 hl'
      have e : eqT (arrHd l) (.cons a1 k1 .nil) (arrHd l') (.cons b1 j1 .nil) = (l == l' && eqT a1 k1 b1 j1) := by simp [eqT, eqRow, eqH, arrHd]
      rw [e]
      exact sameR_b5 (arrHd l) (arrHd l') (.cons a1 k1 .nil) (.cons b1 j1 .nil) p q n m cap mc w0 w hf hks hjs hb0 rfl (eqT a1 k1 b1 j1) (fun X p' q' n' c' m' mc' hX h1 h2 => hall.1 ok ok2 b1 j1 p' q' n' m' c' mc' w0 X hX h1 h2 hwj.1.1 hwj.1.2)
    · rw [eqT_no (show (arrHd l).kind ≠ b.kind from fun e => hb e.symm)]
      have := sameR_b5 (arrHd l) b (.cons a1 k1 .nil) js p q n m cap mc w0 w hf hks hjs hb0 rfl (eqT a1 k1 js.hd js.kids) (fun X p' q' n' c' m' mc' hX h1 h2 => hall.1 ok ok2 js.hd js.kids p' q' n' m' c' mc' w0 X hX h1 h2 (wf_hd hwj).1 (wf_hd hwj).2.1)
      rw [kf hb, Bool.false_and] at this
      exact this
  · have := sameR_b6 (recHd nm u) b .nil js p q n m cap mc w0 w hf hks hjs hb0 rfl
    by_cases hb : b.kind = 6
    · obtain ⟨nm', u', rfl, rfl⟩ := hwb.k6 hb
      have e : eqT (recHd nm u) .nil (recHd nm' u') .nil = (nm.toList == nm'.toList && u == u') := by
        rw [ByteArray.toList_eq, ByteArray.toList_eq]
        simp only [eqT, eqH, eqRow, recHd]
        cases (nm.data.toList == nm'.data.toList) <;> cases (u == u') <;> simp
      rw [e]
      exact this
    · rw [eqT_no (show (recHd nm u).kind ≠ b.kind from fun e => hb e.symm)]
      rw [kf hb, Bool.false_and] at this
      exact this
  · obtain ⟨a1, k1, r1, rfl⟩ := len_pos hl
    by_cases hb : b.kind = 7
    · obtain ⟨rfl, hl'⟩ := hwb.k7 hb
      obtain ⟨b1, j1, s1, rfl⟩ := len_pos hl'
      have e : eqT (hd1 7) (.cons a1 k1 r1) (hd1 7) (.cons b1 j1 s1) = (eqT a1 k1 b1 j1 && eqRow r1 s1) := by simp [eqT, eqRow, eqH_refl]
      rw [e]
      exact sameR_b7 (hd1 7) (hd1 7) (.cons a1 k1 r1) (.cons b1 j1 s1) p q n m cap mc w0 w hf hks hjs hb0 rfl (eqT a1 k1 b1 j1) (fun X p' q' n' c' m' mc' hX h1 h2 => hall.1 ok ok2 b1 j1 p' q' n' m' c' mc' w0 X hX h1 h2 hwj.1.1 hwj.1.2) hall.2 hwj.2
    · rw [eqT_no (show (hd1 7).kind ≠ b.kind from fun e => hb e.symm)]
      have := sameR_b7 (hd1 7) b (.cons a1 k1 r1) js p q n m cap mc w0 w hf hks hjs hb0 rfl (eqT a1 k1 js.hd js.kids) (fun X p' q' n' c' m' mc' hX h1 h2 => hall.1 ok ok2 js.hd js.kids p' q' n' m' c' mc' w0 X hX h1 h2 (wf_hd hwj).1 (wf_hd hwj).2.1) hall.2 (wf_hd hwj).2.2
      rw [kf hb, Bool.false_and] at this
      exact this
theorem allSR : ∀ ks : Tys, ks.wf → AllSR ks
  | .nil, _ => trivial
  | .cons h k r, hw => ⟨sameR_of h k hw.1.1 (allSR k hw.1.2), allSR r hw.2⟩
/-- THE REFERENCE'S Same. -/
theorem sameRR_any (a : Hd) (ks : Tys) (hwa : WFh a ks) (hw : ks.wf) : SameSpecR a ks := sameR_of a ks hwa (allSR ks hw)
end Go.Proofs.YteiomcbphbbpkaaDoor
