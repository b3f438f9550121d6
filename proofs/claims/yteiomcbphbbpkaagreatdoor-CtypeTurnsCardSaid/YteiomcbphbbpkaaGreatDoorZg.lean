/- The statement's walk. -/
import Derived.Test.YteiomcbphbbpkaaGreatDoorZf
import Derived.Deep.DeepCutAuto
namespace Go.Proofs.YteiomcbphbbpkaaGreatDoor
set_option linter.unusedSimpArgs false
set_option linter.unusedVariables false
open Go.RowKit
theorem ok8a {a : Hd} (ha : a ∈ A9) : opsOk ⟨2, 8, 0, false, ⟨#[]⟩⟩ a = true := ok_all H8 mem_H8 a ha
theorem ok8b {a : Hd} (ha : a ∈ A9) : opsOk a ⟨2, 8, 0, false, ⟨#[]⟩⟩ = true := ok_all a ha H8 mem_H8
theorem turn_total : ∀ (l : List Int) (p : (Int × Int × Int) × Bool), ∃ q, TurnR l p q
  | [], p => ⟨p, rfl⟩
  | o :: os, p => by
    unfold TurnR
    by_cases h : p.2 = true
    · obtain ⟨q, hq⟩ := turn_total os (mach.eval1L o p.1.1 p.1.2.1 0)
      exact ⟨q, by rw [if_pos h]; exact ⟨0, hq⟩⟩
    · obtain ⟨q, hq⟩ := turn_total os p
      exact ⟨q, by rw [if_neg h]; exact hq⟩
theorem u64_le (n : Int) : 0 ≤ IntKind.u64.wrap n ∧ IntKind.u64.wrap n < 18446744073709551616 := by rw [IntKind.wrap_u64]; omega
theorem five_of {a b : Hd} {n : Int} {q1 q2 : (Int × Int × Int) × Bool} (t1 : TurnR (opsL H8 a) ((2, IntKind.u64.wrap n, 0), true) q1) (t2 : TurnR (opsL a b) (q1.1, true) q2) : ∃ q3 q4 q5, Five a b (IntKind.u64.wrap n) q1 q2 q3 q4 q5 := by
  obtain ⟨q3, t3⟩ := turn_total (opsL b H8) (q2.1, true)
  obtain ⟨q4, t4⟩ := turn_total (opsL a H8) (q1.1, true)
  obtain ⟨q5, t5⟩ := turn_total (opsL H8 b) (q4.1, true)
  exact ⟨q3, q4, q5, u64_le n, t1, t2, t3, t4, t5⟩
theorem kind1 (h : Hd) (p : Option Addr) (n cap : Nat) (hp : NK p n cap) (w : World) : Calls Tryz.prog 9 #[TYV h p n cap] w fun e w' => e = .returned (.int .i64 (ckind (chunkOf h))) ∧ Fresh w w' :=
  kind_any h .nil p n cap w w (Fresh.refl _) (hp (fun _ => True) w)
def Done (w : World) (e : Ending) (w' : World) : Prop := e = .returned (.bool true) ∧ Fresh w w'
theorem nine_le (x : Int) : 1 ≤ wrap64 (1 + wrap64 ((IntKind.u64.wrap x).tmod 9)) ∧ wrap64 (1 + wrap64 ((IntKind.u64.wrap x).tmod 9)) ≤ 9 := by
  have h : 0 ≤ IntKind.u64.wrap x := by rw [IntKind.wrap_u64]; omega
  rw [Int.tmod_eq_emod_of_nonneg h]
  have h1 : 0 ≤ IntKind.u64.wrap x % 9 := by omega
  have h2 : IntKind.u64.wrap x % 9 < 9 := by omega
  generalize IntKind.u64.wrap x % 9 = k at *
  unfold wrap64
  omega
theorem one2 (x : Int) (w : World) : Calls Tryz.prog 5 #[.slice (some ⟨w.heap.size, 0, none⟩) 1 1] (w.alloc (.cells #[.int .i64 (wrap64 (1 + wrap64 ((IntKind.u64.wrap x).tmod 9)))] 3)) fun e w' => (∃ h p' n' cap', h ∈ A9 ∧ e = .returned (TYV h p' n' cap') ∧ NK p' n' cap') ∧ Fresh w w' := by
  refine (one1 _ (nine_le x).1 (nine_le x).2 _ _ _ _ (Fresh.refl _) ⟨rfl, Nat.le_refl _, by decide, Or.inr ⟨_, 0, rfl, fun j hj => ?_⟩⟩).mono ?_
  · obtain rfl : j = 0 := by omega
    exact (Blk.new w #[.int .i64 (wrap64 (1 + wrap64 ((IntKind.u64.wrap x).tmod 9)))] 3).1 0 _ rfl
  · rintro e w' ⟨h, hf⟩
    exact ⟨h, ((Fresh.refl w).alloc _ _).trans hf⟩
section
set_option maxRecDepth 100000
set_option maxHeartbeats 4000000
theorem turns_any (hfix : ∀ w, Calls Tryz.prog 4 #[] w fun e w' => e = .returned (.bool true) ∧ Fresh w w') (x y n : Int) (w : World) : Calls Tryz.prog 3 #[.int .i64 x, .int .i64 y, .int .i64 n] w (Done w) := by
  go_enter Tryz.func3, Tryz.ntmps3
  go_wp2_with fail
  go_at_call 4; refine (hfix _).mono ?_; rintro e w1 ⟨rfl, h1⟩
  go_wp2_with fail
  go_at_call 5; refine (one2 _ _).mono ?_; rintro e w2 ⟨⟨a, p, pn, pc, ha, rfl, hp⟩, h2⟩
  go_upto_region 4 with fail
  have HA := Lib.hid ((Blk.new w2 #[.int .i64 a.kind, .int .i64 a.size, .int .i64 a.len, .bool a.flag, .string a.name, .slice p pn pc] 25).six)
  have F3 : Hid (Fresh w (w2.alloc (.cells #[.int .i64 a.kind, .int .i64 a.size, .int .i64 a.len, .bool a.flag, .string a.name, .slice p pn pc] 25))) := Lib.hid ((h1.trans h2).alloc _ _)
  have Z3 : Hid (w2.heap.size < (w2.alloc (.cells #[.int .i64 a.kind, .int .i64 a.size, .int .i64 a.len, .bool a.flag, .string a.name, .slice p pn pc] 25)).heap.size) := Lib.hid (by simp)
  clear h1 h2
  generalize (w2.alloc (.cells #[.int .i64 a.kind, .int .i64 a.size, .int .i64 a.len, .bool a.flag, .string a.name, .slice p pn pc] 25)) = w3 at *
  generalize w2.heap.size = B1 at *
  go_wp2_with fail
  go_at_call 5; refine (one2 _ _).mono ?_; rintro e w4 ⟨⟨b, q, qn, qc, hb, rfl, hq⟩, h4⟩
  go_upto_region 5 with fail
  have HA := Lib.hid (HA.out.fresh (h4.alloc #[.int .i64 b.kind, .int .i64 b.size, .int .i64 b.len, .bool b.flag, .string b.name, .slice q qn qc] 25))
  have HB := Lib.hid ((Blk.new w4 #[.int .i64 b.kind, .int .i64 b.size, .int .i64 b.len, .bool b.flag, .string b.name, .slice q qn qc] 25).six)
  have F5 : Hid (Fresh w (w4.alloc (.cells #[.int .i64 b.kind, .int .i64 b.size, .int .i64 b.len, .bool b.flag, .string b.name, .slice q qn qc] 25))) := Lib.hid ((F3.out.trans h4).alloc _ _)
  have Z5 : Hid (B1 < w4.heap.size ∧ w4.heap.size < (w4.alloc (.cells #[.int .i64 b.kind, .int .i64 b.size, .int .i64 b.len, .bool b.flag, .string b.name, .slice q qn qc] 25)).heap.size) := Lib.hid ⟨by have := Z3.out; have := h4.size; omega, by simp⟩
  clear h4 F3 Z3
  generalize (w4.alloc (.cells #[.int .i64 b.kind, .int .i64 b.size, .int .i64 b.len, .bool b.flag, .string b.name, .slice q qn qc] 25)) = W at *
  generalize w4.heap.size = B2 at *
  go_cut [9, 10] (fun s9 s10 wx => Hid (∃ (r : (Int × Int × Int) × Bool) (g : Nat), TurnR (opsL H8 a) ((2, IntKind.u64.wrap n, 0), true) r ∧ s9 = .pointer (some ⟨g, 0, none⟩) ∧ s10 = .bool r.2 ∧ Fresh W wx ∧ Blk wx g (L3 r.1)))
  case first =>
    have hE : Fresh W W.drew := (Fresh.refl W).drew
    go_region_held3 (fun w' => w'.cell? ⟨B1, 0, none⟩ = some (.int .i64 a.kind) ∧ w'.cell? ⟨B1, 1, none⟩ = some (.int .i64 a.size) ∧ w'.cell? ⟨B1, 2, none⟩ = some (.int .i64 a.len) ∧ w'.cell? ⟨B1, 3, none⟩ = some (.bool a.flag) ∧ w'.cell? ⟨B1, 4, none⟩ = some (.string a.name) ∧ w'.cell? ⟨B1, 5, none⟩ = some (.slice p pn pc)) (first | done | exact ⟨(HA.out.fresh (by (repeat' first | with_reducible exact Fresh.refl _ | with_reducible assumption | with_reducible refine Fresh.alloc ?_ _ _ | with_reducible refine Fresh.drew ?_ | with_reducible refine Fresh.drewN ?_ _ | with_reducible refine Fresh.setCell ?_ ?_ _ | with_reducible refine Fresh.trans ?_ (by assumption) | (simp; done) | (simp; omega)))).c0, (HA.out.fresh (by (repeat' first | with_reducible exact Fresh.refl _ | with_reducible assumption | with_reducible refine Fresh.alloc ?_ _ _ | with_reducible refine Fresh.drew ?_ | with_reducible refine Fresh.drewN ?_ _ | with_reducible refine Fresh.setCell ?_ ?_ _ | with_reducible refine Fresh.trans ?_ (by assumption) | (simp; done) | (simp; omega)))).c1, (HA.out.fresh (by (repeat' first | with_reducible exact Fresh.refl _ | with_reducible assumption | with_reducible refine Fresh.alloc ?_ _ _ | with_reducible refine Fresh.drew ?_ | with_reducible refine Fresh.drewN ?_ _ | with_reducible refine Fresh.setCell ?_ ?_ _ | with_reducible refine Fresh.trans ?_ (by assumption) | (simp; done) | (simp; omega)))).c2, (HA.out.fresh (by (repeat' first | with_reducible exact Fresh.refl _ | with_reducible assumption | with_reducible refine Fresh.alloc ?_ _ _ | with_reducible refine Fresh.drew ?_ | with_reducible refine Fresh.drewN ?_ _ | with_reducible refine Fresh.setCell ?_ ?_ _ | with_reducible refine Fresh.trans ?_ (by assumption) | (simp; done) | (simp; omega)))).c3, (HA.out.fresh (by (repeat' first | with_reducible exact Fresh.refl _ | with_reducible assumption | with_reducible refine Fresh.alloc ?_ _ _ | with_reducible refine Fresh.drew ?_ | with_reducible refine Fresh.drewN ?_ _ | with_reducible refine Fresh.setCell ?_ ?_ _ | with_reducible refine Fresh.trans ?_ (by assumption) | (simp; done) | (simp; omega)))).c4, (HA.out.fresh (by (repeat' first | with_reducible exact Fresh.refl _ | with_reducible assumption | with_reducible refine Fresh.alloc ?_ _ _ | with_reducible refine Fresh.drew ?_ | with_reducible refine Fresh.drewN ?_ _ | with_reducible refine Fresh.setCell ?_ ?_ _ | with_reducible refine Fresh.trans ?_ (by assumption) | (simp; done) | (simp; omega)))).c5⟩)      (first | (go_at_call 7; (with_reducible refine (longOf_any n _).mono ?_); rintro e wn ⟨rfl, hn⟩; have hE : Fresh W wn := (by first | exact hE.trans hn | exact ((Fresh.refl W).alloc _ _).drew.trans hn | exact (hE.alloc _ _).trans hn); (first | (have T18 := T18.fresh hn) | (have T18 := (Blk.new _ #[.int .i64 0, .int .u64 0, .int .i64 0] 31).fresh hn) | (have T18 := (Blk.new _ #[.int .i64 0, .int .u64 0, .int .i64 0] 31).fresh ((Fresh.refl _).drew.trans hn)) | skip); (try (have y0 := T18.1 0 _ rfl; have y1 := T18.1 1 _ rfl; have y2 := T18.1 2 _ rfl; have yf := T18.2.1; have yz := T18.2.2)); have hzn : W.heap.size ≤ wn.heap.size := hE.size; clear hn)      | (go_at_call 8; (with_reducible refine (numT_any _ _ _).mono ?_); rintro e wn ⟨rfl, hn⟩; have hE : Fresh W wn := (by first | exact hE.trans hn | exact ((Fresh.refl W).alloc _ _).drew.trans hn | exact (hE.alloc _ _).trans hn); (first | (have T18 := T18.fresh hn) | (have T18 := (Blk.new _ #[.int .i64 0, .int .u64 0, .int .i64 0] 31).fresh hn) | (have T18 := (Blk.new _ #[.int .i64 0, .int .u64 0, .int .i64 0] 31).fresh ((Fresh.refl _).drew.trans hn)) | skip); (try (have y0 := T18.1 0 _ rfl; have y1 := T18.1 1 _ rfl; have y2 := T18.1 2 _ rfl; have yf := T18.2.1; have yz := T18.2.2)); have hzn : W.heap.size ≤ wn.heap.size := hE.size; clear hn)      | (go_at_call 6; (with_reducible refine (turned1 (2, IntKind.u64.wrap n, 0) ⟨2, 8, 0, false, ⟨#[]⟩⟩ a (ok8a ha) none p 0 pn 0 pc NK.none hp _).mono ?_); rintro e wn ⟨⟨r, hr, rfl⟩, hn⟩; have hE : Fresh W wn := (by first | exact hE.trans hn | exact ((Fresh.refl W).alloc _ _).drew.trans hn | exact (hE.alloc _ _).trans hn); (first | (have T18 := T18.fresh hn) | (have T18 := (Blk.new _ #[.int .i64 0, .int .u64 0, .int .i64 0] 31).fresh hn) | (have T18 := (Blk.new _ #[.int .i64 0, .int .u64 0, .int .i64 0] 31).fresh ((Fresh.refl _).drew.trans hn)) | skip); (try (have y0 := T18.1 0 _ rfl; have y1 := T18.1 1 _ rfl; have y2 := T18.1 2 _ rfl; have yf := T18.2.1; have yz := T18.2.2)); have hzn : W.heap.size ≤ wn.heap.size := hE.size; clear hn))
    all_goals (go_wp2_with fail; go_meet)
    all_goals (refine Lib.hid ⟨r, _, hr, rfl, rfl, ?_, ?_⟩)
    all_goals first | first | exact Blk.new _ #[.int .i64 r.1.1, .int .u64 r.1.2.1, .int .i64 r.1.2.2] 31 | exact (((T18.putt (i := 0) (by simp) _).putt (i := 1) (by simp) _).putt (i := 2) (by simp) _) | exact (by (repeat' first | with_reducible exact Fresh.refl _ | with_reducible assumption | with_reducible refine Fresh.alloc ?_ _ _ | with_reducible refine Fresh.drew ?_ | with_reducible refine Fresh.drewN ?_ _ | with_reducible refine Fresh.setCell ?_ ?_ _ | with_reducible refine Fresh.trans ?_ (by assumption) | (simp; done) | (simp; omega)))
  case rest =>
    obtain ⟨r1, g1, t1, rfl, rfl, hf5, hb1⟩ := hcut.out
    have HA5 := Lib.hid (HA.out.fresh hf5)
    have HB5 := Lib.hid (HB.out.fresh hf5)
    have F6 := Lib.hid (F5.out.trans hf5)
    have H1 := Lib.hid hb1
    clear hcut hf5 hb1 F5 HA HB
    obtain ⟨a0, a1, a2, a3, a4, a5, af⟩ := HA5.out
    obtain ⟨b0, b1, b2, b3, b4, b5, bf⟩ := HB5.out
    have v0 := H1.out.1 0 _ rfl; have v1 := H1.out.1 1 _ rfl; have v2 := H1.out.1 2 _ rfl
    go_wp2_with fail
    clear a0 a1 a2 a3 a4 a5 af b0 b1 b2 b3 b4 b5 bf v0 v1 v2
    go_at_call 6; refine (turned1 r1.1 a b (ok_all _ ha _ hb) p q pn qn pc qc hp hq _).mono ?_; rintro e w7 ⟨⟨r2, t2, rfl⟩, h7⟩
    go_upto_region 7 with fail
    have hh := h7.alloc #[.int .i64 r2.1.1, .int .u64 r2.1.2.1, .int .i64 r2.1.2.2] 31
    have HA := Lib.hid (HA5.out.fresh hh)
    have HB := Lib.hid (HB5.out.fresh hh)
    have F7 := Lib.hid (F6.out.trans hh)
    have H1 := Lib.hid (H1.out.fresh hh)
    have H2 : Hid (Blk _ _ (L3 r2.1)) := Lib.hid (Blk.new w7 #[.int .i64 r2.1.1, .int .u64 r2.1.2.1, .int .i64 r2.1.2.2] 31)
    clear hh h7 HA5 HB5 F6
    generalize (w7.alloc (.cells #[.int .i64 r2.1.1, .int .u64 r2.1.2.1, .int .i64 r2.1.2.2] 31)) = W at *
    generalize w7.heap.size = g2 at *
    obtain ⟨q3, q4, q5, h5⟩ := five_of t1 t2
    have E1 := end1 h5 ha hb
    clear h5 q3 q4 q5
    obtain ⟨v1, k1⟩ := r1
    obtain ⟨v2, k2⟩ := r2
    have G1 : k1 = true ∧ k2 = true ∨ (ckind (chunkOf a) = 3 ∧ (k1 = false ∨ k2 = false)) := by
      cases k1 <;> cases k2 <;> simp_all [knd]
    rcases G1 with ⟨rfl, rfl⟩ | ⟨hk, hkk⟩
    · skip
      go_upto_region 9 with fail
      go_cut [13, 14] (fun s9 s10 wx => Hid (∃ (r : (Int × Int × Int) × Bool) (g : Nat), TurnR (opsL b H8) (v2, true) r ∧ s9 = .pointer (some ⟨g, 0, none⟩) ∧ s10 = .bool r.2 ∧ Fresh W wx ∧ Blk wx g (L3 r.1)))
      case first =>
        have hE : Fresh W W.drew := (Fresh.refl W).drew
        go_region_held3 (fun w' => w'.cell? ⟨g2, 0, none⟩ = some (.int .i64 v2.1) ∧ w'.cell? ⟨g2, 1, none⟩ = some (.int .u64 v2.2.1) ∧ w'.cell? ⟨g2, 2, none⟩ = some (.int .i64 v2.2.2) ∧ w'.cell? ⟨B2, 0, none⟩ = some (.int .i64 b.kind) ∧ w'.cell? ⟨B2, 1, none⟩ = some (.int .i64 b.size) ∧ w'.cell? ⟨B2, 2, none⟩ = some (.int .i64 b.len) ∧ w'.cell? ⟨B2, 3, none⟩ = some (.bool b.flag) ∧ w'.cell? ⟨B2, 4, none⟩ = some (.string b.name) ∧ w'.cell? ⟨B2, 5, none⟩ = some (.slice q qn qc)) (first | done | exact ⟨(H2.out.fresh (by (repeat' first | with_reducible exact Fresh.refl _ | with_reducible assumption | with_reducible refine Fresh.alloc ?_ _ _ | with_reducible refine Fresh.drew ?_ | with_reducible refine Fresh.drewN ?_ _ | with_reducible refine Fresh.setCell ?_ ?_ _ | with_reducible refine Fresh.trans ?_ (by assumption) | (simp; done) | (simp; omega)))).1 0 _ rfl, (H2.out.fresh (by (repeat' first | with_reducible exact Fresh.refl _ | with_reducible assumption | with_reducible refine Fresh.alloc ?_ _ _ | with_reducible refine Fresh.drew ?_ | with_reducible refine Fresh.drewN ?_ _ | with_reducible refine Fresh.setCell ?_ ?_ _ | with_reducible refine Fresh.trans ?_ (by assumption) | (simp; done) | (simp; omega)))).1 1 _ rfl, (H2.out.fresh (by (repeat' first | with_reducible exact Fresh.refl _ | with_reducible assumption | with_reducible refine Fresh.alloc ?_ _ _ | with_reducible refine Fresh.drew ?_ | with_reducible refine Fresh.drewN ?_ _ | with_reducible refine Fresh.setCell ?_ ?_ _ | with_reducible refine Fresh.trans ?_ (by assumption) | (simp; done) | (simp; omega)))).1 2 _ rfl, (HB.out.fresh (by (repeat' first | with_reducible exact Fresh.refl _ | with_reducible assumption | with_reducible refine Fresh.alloc ?_ _ _ | with_reducible refine Fresh.drew ?_ | with_reducible refine Fresh.drewN ?_ _ | with_reducible refine Fresh.setCell ?_ ?_ _ | with_reducible refine Fresh.trans ?_ (by assumption) | (simp; done) | (simp; omega)))).c0, (HB.out.fresh (by (repeat' first | with_reducible exact Fresh.refl _ | with_reducible assumption | with_reducible refine Fresh.alloc ?_ _ _ | with_reducible refine Fresh.drew ?_ | with_reducible refine Fresh.drewN ?_ _ | with_reducible refine Fresh.setCell ?_ ?_ _ | with_reducible refine Fresh.trans ?_ (by assumption) | (simp; done) | (simp; omega)))).c1, (HB.out.fresh (by (repeat' first | with_reducible exact Fresh.refl _ | with_reducible assumption | with_reducible refine Fresh.alloc ?_ _ _ | with_reducible refine Fresh.drew ?_ | with_reducible refine Fresh.drewN ?_ _ | with_reducible refine Fresh.setCell ?_ ?_ _ | with_reducible refine Fresh.trans ?_ (by assumption) | (simp; done) | (simp; omega)))).c2, (HB.out.fresh (by (repeat' first | with_reducible exact Fresh.refl _ | with_reducible assumption | with_reducible refine Fresh.alloc ?_ _ _ | with_reducible refine Fresh.drew ?_ | with_reducible refine Fresh.drewN ?_ _ | with_reducible refine Fresh.setCell ?_ ?_ _ | with_reducible refine Fresh.trans ?_ (by assumption) | (simp; done) | (simp; omega)))).c3, (HB.out.fresh (by (repeat' first | with_reducible exact Fresh.refl _ | with_reducible assumption | with_reducible refine Fresh.alloc ?_ _ _ | with_reducible refine Fresh.drew ?_ | with_reducible refine Fresh.drewN ?_ _ | with_reducible refine Fresh.setCell ?_ ?_ _ | with_reducible refine Fresh.trans ?_ (by assumption) | (simp; done) | (simp; omega)))).c4, (HB.out.fresh (by (repeat' first | with_reducible exact Fresh.refl _ | with_reducible assumption | with_reducible refine Fresh.alloc ?_ _ _ | with_reducible refine Fresh.drew ?_ | with_reducible refine Fresh.drewN ?_ _ | with_reducible refine Fresh.setCell ?_ ?_ _ | with_reducible refine Fresh.trans ?_ (by assumption) | (simp; done) | (simp; omega)))).c5⟩)          (first | (go_at_call 8; (with_reducible refine (numT_any _ _ _).mono ?_); rintro e wn ⟨rfl, hn⟩; have hE : Fresh W wn := (by first | exact hE.trans hn | exact ((Fresh.refl W).alloc _ _).drew.trans hn | exact (hE.alloc _ _).trans hn); (first | (have T18 := T18.fresh hn) | (have T18 := (Blk.new _ #[.int .i64 0, .int .u64 0, .int .i64 0] 31).fresh hn) | (have T18 := (Blk.new _ #[.int .i64 0, .int .u64 0, .int .i64 0] 31).fresh ((Fresh.refl _).drew.trans hn)) | skip); (try (have y0 := T18.1 0 _ rfl; have y1 := T18.1 1 _ rfl; have y2 := T18.1 2 _ rfl; have yf := T18.2.1; have yz := T18.2.2)); have hzn : W.heap.size ≤ wn.heap.size := hE.size; clear hn)          | (go_at_call 6; (with_reducible refine (turned1 v2 b ⟨2, 8, 0, false, ⟨#[]⟩⟩ (ok8b hb) q none qn 0 qc 0 hq NK.none _).mono ?_); rintro e wn ⟨⟨r, hr, rfl⟩, hn⟩; have hE : Fresh W wn := (by first | exact hE.trans hn | exact ((Fresh.refl W).alloc _ _).drew.trans hn | exact (hE.alloc _ _).trans hn); (first | (have T18 := T18.fresh hn) | (have T18 := (Blk.new _ #[.int .i64 0, .int .u64 0, .int .i64 0] 31).fresh hn) | (have T18 := (Blk.new _ #[.int .i64 0, .int .u64 0, .int .i64 0] 31).fresh ((Fresh.refl _).drew.trans hn)) | skip); (try (have y0 := T18.1 0 _ rfl; have y1 := T18.1 1 _ rfl; have y2 := T18.1 2 _ rfl; have yf := T18.2.1; have yz := T18.2.2)); have hzn : W.heap.size ≤ wn.heap.size := hE.size; clear hn))
        all_goals (go_wp2_with fail; go_meet)
        all_goals (refine Lib.hid ⟨r, _, hr, rfl, rfl, ?_, ?_⟩)
        all_goals first | first | exact Blk.new _ #[.int .i64 r.1.1, .int .u64 r.1.2.1, .int .i64 r.1.2.2] 31 | exact (((T18.putt (i := 0) (by simp) _).putt (i := 1) (by simp) _).putt (i := 2) (by simp) _) | exact (by (repeat' first | with_reducible exact Fresh.refl _ | with_reducible assumption | with_reducible refine Fresh.alloc ?_ _ _ | with_reducible refine Fresh.drew ?_ | with_reducible refine Fresh.drewN ?_ _ | with_reducible refine Fresh.setCell ?_ ?_ _ | with_reducible refine Fresh.trans ?_ (by assumption) | (simp; done) | (simp; omega)))
      case rest =>
        obtain ⟨r3, g3, t3, rfl, rfl, hf, hb3⟩ := hcut.out
        have HA := Lib.hid (HA.out.fresh hf)
        have HB := Lib.hid (HB.out.fresh hf)
        have F7 := Lib.hid (F7.out.trans hf)
        have H1 := Lib.hid (H1.out.fresh hf)
        have H2 := Lib.hid (H2.out.fresh hf)
        have H3 := Lib.hid hb3
        clear hcut hf hb3
        go_upto_region 10 with fail
        generalize wc = W at *
        go_cut [15, 16] (fun s9 s10 wx => Hid (∃ (r : (Int × Int × Int) × Bool) (g : Nat), TurnR (opsL a H8) (v1, true) r ∧ s9 = .pointer (some ⟨g, 0, none⟩) ∧ s10 = .bool r.2 ∧ Fresh W wx ∧ Blk wx g (L3 r.1)))
        case first =>
          have hE : Fresh W W.drew := (Fresh.refl W).drew
          go_region_held3 (fun w' => w'.cell? ⟨g1, 0, none⟩ = some (.int .i64 v1.1) ∧ w'.cell? ⟨g1, 1, none⟩ = some (.int .u64 v1.2.1) ∧ w'.cell? ⟨g1, 2, none⟩ = some (.int .i64 v1.2.2) ∧ w'.cell? ⟨B1, 0, none⟩ = some (.int .i64 a.kind) ∧ w'.cell? ⟨B1, 1, none⟩ = some (.int .i64 a.size) ∧ w'.cell? ⟨B1, 2, none⟩ = some (.int .i64 a.len) ∧ w'.cell? ⟨B1, 3, none⟩ = some (.bool a.flag) ∧ w'.cell? ⟨B1, 4, none⟩ = some (.string a.name) ∧ w'.cell? ⟨B1, 5, none⟩ = some (.slice p pn pc)) (first | done | exact ⟨(H1.out.fresh (by (repeat' first | with_reducible exact Fresh.refl _ | with_reducible assumption | with_reducible refine Fresh.alloc ?_ _ _ | with_reducible refine Fresh.drew ?_ | with_reducible refine Fresh.drewN ?_ _ | with_reducible refine Fresh.setCell ?_ ?_ _ | with_reducible refine Fresh.trans ?_ (by assumption) | (simp; done) | (simp; omega)))).1 0 _ rfl, (H1.out.fresh (by (repeat' first | with_reducible exact Fresh.refl _ | with_reducible assumption | with_reducible refine Fresh.alloc ?_ _ _ | with_reducible refine Fresh.drew ?_ | with_reducible refine Fresh.drewN ?_ _ | with_reducible refine Fresh.setCell ?_ ?_ _ | with_reducible refine Fresh.trans ?_ (by assumption) | (simp; done) | (simp; omega)))).1 1 _ rfl, (H1.out.fresh (by (repeat' first | with_reducible exact Fresh.refl _ | with_reducible assumption | with_reducible refine Fresh.alloc ?_ _ _ | with_reducible refine Fresh.drew ?_ | with_reducible refine Fresh.drewN ?_ _ | with_reducible refine Fresh.setCell ?_ ?_ _ | with_reducible refine Fresh.trans ?_ (by assumption) | (simp; done) | (simp; omega)))).1 2 _ rfl, (HA.out.fresh (by (repeat' first | with_reducible exact Fresh.refl _ | with_reducible assumption | with_reducible refine Fresh.alloc ?_ _ _ | with_reducible refine Fresh.drew ?_ | with_reducible refine Fresh.drewN ?_ _ | with_reducible refine Fresh.setCell ?_ ?_ _ | with_reducible refine Fresh.trans ?_ (by assumption) | (simp; done) | (simp; omega)))).c0, (HA.out.fresh (by (repeat' first | with_reducible exact Fresh.refl _ | with_reducible assumption | with_reducible refine Fresh.alloc ?_ _ _ | with_reducible refine Fresh.drew ?_ | with_reducible refine Fresh.drewN ?_ _ | with_reducible refine Fresh.setCell ?_ ?_ _ | with_reducible refine Fresh.trans ?_ (by assumption) | (simp; done) | (simp; omega)))).c1, (HA.out.fresh (by (repeat' first | with_reducible exact Fresh.refl _ | with_reducible assumption | with_reducible refine Fresh.alloc ?_ _ _ | with_reducible refine Fresh.drew ?_ | with_reducible refine Fresh.drewN ?_ _ | with_reducible refine Fresh.setCell ?_ ?_ _ | with_reducible refine Fresh.trans ?_ (by assumption) | (simp; done) | (simp; omega)))).c2, (HA.out.fresh (by (repeat' first | with_reducible exact Fresh.refl _ | with_reducible assumption | with_reducible refine Fresh.alloc ?_ _ _ | with_reducible refine Fresh.drew ?_ | with_reducible refine Fresh.drewN ?_ _ | with_reducible refine Fresh.setCell ?_ ?_ _ | with_reducible refine Fresh.trans ?_ (by assumption) | (simp; done) | (simp; omega)))).c3, (HA.out.fresh (by (repeat' first | with_reducible exact Fresh.refl _ | with_reducible assumption | with_reducible refine Fresh.alloc ?_ _ _ | with_reducible refine Fresh.drew ?_ | with_reducible refine Fresh.drewN ?_ _ | with_reducible refine Fresh.setCell ?_ ?_ _ | with_reducible refine Fresh.trans ?_ (by assumption) | (simp; done) | (simp; omega)))).c4, (HA.out.fresh (by (repeat' first | with_reducible exact Fresh.refl _ | with_reducible assumption | with_reducible refine Fresh.alloc ?_ _ _ | with_reducible refine Fresh.drew ?_ | with_reducible refine Fresh.drewN ?_ _ | with_reducible refine Fresh.setCell ?_ ?_ _ | with_reducible refine Fresh.trans ?_ (by assumption) | (simp; done) | (simp; omega)))).c5⟩)            (first | (go_at_call 8; (with_reducible refine (numT_any _ _ _).mono ?_); rintro e wn ⟨rfl, hn⟩; have hE : Fresh W wn := (by first | exact hE.trans hn | exact ((Fresh.refl W).alloc _ _).drew.trans hn | exact (hE.alloc _ _).trans hn); (first | (have T18 := T18.fresh hn) | (have T18 := (Blk.new _ #[.int .i64 0, .int .u64 0, .int .i64 0] 31).fresh hn) | (have T18 := (Blk.new _ #[.int .i64 0, .int .u64 0, .int .i64 0] 31).fresh ((Fresh.refl _).drew.trans hn)) | skip); (try (have y0 := T18.1 0 _ rfl; have y1 := T18.1 1 _ rfl; have y2 := T18.1 2 _ rfl; have yf := T18.2.1; have yz := T18.2.2)); have hzn : W.heap.size ≤ wn.heap.size := hE.size; clear hn)            | (go_at_call 6; (with_reducible refine (turned1 v1 a ⟨2, 8, 0, false, ⟨#[]⟩⟩ (ok8b ha) p none pn 0 pc 0 hp NK.none _).mono ?_); rintro e wn ⟨⟨r, hr, rfl⟩, hn⟩; have hE : Fresh W wn := (by first | exact hE.trans hn | exact ((Fresh.refl W).alloc _ _).drew.trans hn | exact (hE.alloc _ _).trans hn); (first | (have T18 := T18.fresh hn) | (have T18 := (Blk.new _ #[.int .i64 0, .int .u64 0, .int .i64 0] 31).fresh hn) | (have T18 := (Blk.new _ #[.int .i64 0, .int .u64 0, .int .i64 0] 31).fresh ((Fresh.refl _).drew.trans hn)) | skip); (try (have y0 := T18.1 0 _ rfl; have y1 := T18.1 1 _ rfl; have y2 := T18.1 2 _ rfl; have yf := T18.2.1; have yz := T18.2.2)); have hzn : W.heap.size ≤ wn.heap.size := hE.size; clear hn))
          all_goals (go_wp2_with fail; go_meet)
          all_goals (refine Lib.hid ⟨r, _, hr, rfl, rfl, ?_, ?_⟩)
          all_goals first | first | exact Blk.new _ #[.int .i64 r.1.1, .int .u64 r.1.2.1, .int .i64 r.1.2.2] 31 | exact (((T18.putt (i := 0) (by simp) _).putt (i := 1) (by simp) _).putt (i := 2) (by simp) _) | exact (by (repeat' first | with_reducible exact Fresh.refl _ | with_reducible assumption | with_reducible refine Fresh.alloc ?_ _ _ | with_reducible refine Fresh.drew ?_ | with_reducible refine Fresh.drewN ?_ _ | with_reducible refine Fresh.setCell ?_ ?_ _ | with_reducible refine Fresh.trans ?_ (by assumption) | (simp; done) | (simp; omega)))
        case rest =>
          obtain ⟨r4, g4, t4, rfl, rfl, hf, hb4⟩ := hcut.out
          have HA := Lib.hid (HA.out.fresh hf)
          have HB := Lib.hid (HB.out.fresh hf)
          have F7 := Lib.hid (F7.out.trans hf)
          have H1 := Lib.hid (H1.out.fresh hf)
          have H2 := Lib.hid (H2.out.fresh hf)
          have H3 := Lib.hid (H3.out.fresh hf)
          have H4 := Lib.hid hb4
          clear hcut hf hb4
          generalize wc = W at *
          obtain ⟨v3, k3⟩ := r3
          obtain ⟨v4, k4⟩ := r4
          go_upto_region 11 with fail
          have HE : Hid (Fresh W W.drew) := Lib.hid (Fresh.refl W).drew
          go_region_held3 (fun w' => w'.cell? ⟨g4, 1, none⟩ = some (.int .u64 v4.2.1) ∧ w'.cell? ⟨g3, 1, none⟩ = some (.int .u64 v3.2.1)) (first | done | exact ⟨(H4.out.fresh (by (repeat' first | with_reducible exact Fresh.refl _ | with_reducible assumption | with_reducible refine Fresh.alloc ?_ _ _ | with_reducible refine Fresh.drew ?_ | with_reducible refine Fresh.drewN ?_ _ | with_reducible refine Fresh.setCell ?_ ?_ _ | with_reducible refine Fresh.trans ?_ (by assumption) | (simp; done) | (simp; omega)))).1 1 _ rfl, (H3.out.fresh (by (repeat' first | with_reducible exact Fresh.refl _ | with_reducible assumption | with_reducible refine Fresh.alloc ?_ _ _ | with_reducible refine Fresh.drew ?_ | with_reducible refine Fresh.drewN ?_ _ | with_reducible refine Fresh.setCell ?_ ?_ _ | with_reducible refine Fresh.trans ?_ (by assumption) | (simp; done) | (simp; omega)))).1 1 _ rfl⟩) (fail)
          all_goals go_upto_region 12 with fail
          have E2 : (v2.1 = 3 ∨ v1.1 = 3) ∨ (v2.1 = knd b ∧ rightB v2 = true ∧ k3 = true ∧ k4 = true) := by
            obtain ⟨q5, t5⟩ := turn_total (opsL H8 b) (v4, true)
            exact end2 (q1 := (v1, true)) (q2 := (v2, true)) (q3 := (v3, k3)) (q4 := (v4, k4)) (q5 := q5) ⟨u64_le n, t1, t2, t3, t4, t5⟩ ha hb rfl rfl
          obtain ⟨hk2, hr2⟩ : v2.1 = ckind (chunkOf b) ∧ rightB v2 = true := by
            obtain ⟨q5, t5⟩ := turn_total (opsL H8 b) (v4, true)
            exact end0 (q1 := (v1, true)) (q2 := (v2, true)) (q3 := (v3, k3)) (q4 := (v4, k4)) (q5 := q5) ⟨u64_le n, t1, t2, t3, t4, t5⟩ ha hb rfl
          have HK2 := Lib.hid hk2
          have HR2 := Lib.hid hr2
          clear hk2 hr2
          have hd : Fresh W W.drew := (Fresh.refl W).drew
          have HA := Lib.hid (HA.out.fresh hd)
          have HB := Lib.hid (HB.out.fresh hd)
          have F7 := Lib.hid (F7.out.trans hd)
          have H1 := Lib.hid (H1.out.fresh hd)
          have H2 := Lib.hid (H2.out.fresh hd)
          have H3 := Lib.hid (H3.out.fresh hd)
          have H4 := Lib.hid (H4.out.fresh hd)
          clear hd HE
          generalize W.drew = W at *
          have hE : Fresh W W.drew := (Fresh.refl W).drew
          cases k3
          · have E3 : v2.1 = 3 ∨ v1.1 = 3 := by simpa using E2
            refine wp_region_held_drew (S := fun w' => w'.cell? ⟨g2, 0, none⟩ = some (.int .i64 v2.1) ∧ w'.cell? ⟨g2, 1, none⟩ = some (.int .u64 v2.2.1) ∧ w'.cell? ⟨g2, 2, none⟩ = some (.int .i64 v2.2.2) ∧ w'.cell? ⟨B2, 0, none⟩ = some (.int .i64 b.kind) ∧ w'.cell? ⟨B2, 1, none⟩ = some (.int .i64 b.size) ∧ w'.cell? ⟨B2, 2, none⟩ = some (.int .i64 b.len) ∧ w'.cell? ⟨B2, 3, none⟩ = some (.bool b.flag) ∧ w'.cell? ⟨B2, 4, none⟩ = some (.string b.name) ∧ w'.cell? ⟨B2, 5, none⟩ = some (.slice q qn qc)) (by kernel_rfl) (by first | done | exact ⟨(H2.out.fresh (by (repeat' first | with_reducible exact Fresh.refl _ | with_reducible assumption | with_reducible refine Fresh.alloc ?_ _ _ | with_reducible refine Fresh.drew ?_ | with_reducible refine Fresh.drewN ?_ _ | with_reducible refine Fresh.setCell ?_ ?_ _ | with_reducible refine Fresh.trans ?_ (by assumption) | (simp; done) | (simp; omega)))).1 0 _ rfl, (H2.out.fresh (by (repeat' first | with_reducible exact Fresh.refl _ | with_reducible assumption | with_reducible refine Fresh.alloc ?_ _ _ | with_reducible refine Fresh.drew ?_ | with_reducible refine Fresh.drewN ?_ _ | with_reducible refine Fresh.setCell ?_ ?_ _ | with_reducible refine Fresh.trans ?_ (by assumption) | (simp; done) | (simp; omega)))).1 1 _ rfl, (H2.out.fresh (by (repeat' first | with_reducible exact Fresh.refl _ | with_reducible assumption | with_reducible refine Fresh.alloc ?_ _ _ | with_reducible refine Fresh.drew ?_ | with_reducible refine Fresh.drewN ?_ _ | with_reducible refine Fresh.setCell ?_ ?_ _ | with_reducible refine Fresh.trans ?_ (by assumption) | (simp; done) | (simp; omega)))).1 2 _ rfl, (HB.out.fresh (by (repeat' first | with_reducible exact Fresh.refl _ | with_reducible assumption | with_reducible refine Fresh.alloc ?_ _ _ | with_reducible refine Fresh.drew ?_ | with_reducible refine Fresh.drewN ?_ _ | with_reducible refine Fresh.setCell ?_ ?_ _ | with_reducible refine Fresh.trans ?_ (by assumption) | (simp; done) | (simp; omega)))).c0, (HB.out.fresh (by (repeat' first | with_reducible exact Fresh.refl _ | with_reducible assumption | with_reducible refine Fresh.alloc ?_ _ _ | with_reducible refine Fresh.drew ?_ | with_reducible refine Fresh.drewN ?_ _ | with_reducible refine Fresh.setCell ?_ ?_ _ | with_reducible refine Fresh.trans ?_ (by assumption) | (simp; done) | (simp; omega)))).c1, (HB.out.fresh (by (repeat' first | with_reducible exact Fresh.refl _ | with_reducible assumption | with_reducible refine Fresh.alloc ?_ _ _ | with_reducible refine Fresh.drew ?_ | with_reducible refine Fresh.drewN ?_ _ | with_reducible refine Fresh.setCell ?_ ?_ _ | with_reducible refine Fresh.trans ?_ (by assumption) | (simp; done) | (simp; omega)))).c2, (HB.out.fresh (by (repeat' first | with_reducible exact Fresh.refl _ | with_reducible assumption | with_reducible refine Fresh.alloc ?_ _ _ | with_reducible refine Fresh.drew ?_ | with_reducible refine Fresh.drewN ?_ _ | with_reducible refine Fresh.setCell ?_ ?_ _ | with_reducible refine Fresh.trans ?_ (by assumption) | (simp; done) | (simp; omega)))).c3, (HB.out.fresh (by (repeat' first | with_reducible exact Fresh.refl _ | with_reducible assumption | with_reducible refine Fresh.alloc ?_ _ _ | with_reducible refine Fresh.drew ?_ | with_reducible refine Fresh.drewN ?_ _ | with_reducible refine Fresh.setCell ?_ ?_ _ | with_reducible refine Fresh.trans ?_ (by assumption) | (simp; done) | (simp; omega)))).c4, (HB.out.fresh (by (repeat' first | with_reducible exact Fresh.refl _ | with_reducible assumption | with_reducible refine Fresh.alloc ?_ _ _ | with_reducible refine Fresh.drew ?_ | with_reducible refine Fresh.drewN ?_ _ | with_reducible refine Fresh.setCell ?_ ?_ _ | with_reducible refine Fresh.trans ?_ (by assumption) | (simp; done) | (simp; omega)))).c5⟩) (fun hHeld => ?_)
            refine wpAnyH_take (i := 0) (oi := ?o1) (v := ?v1) ?h1 (by kernel_rfl) (by kernel_rfl) (by kernel_rfl) ?q1 ?y1 (by assumption) ?r1
            case h1 => simp only [List.getElem?_toArray, List.getElem?_cons_zero, List.getElem?_cons_succ]; rfl
            case y1 => (refine Or.inl ⟨by rfl, ?_⟩; intro w hSw; (try dsimp only at hSw); go_simp; (try with_reducible rfl))
            case q1 => exact fun _ _ _ h => h
            try simp only [Act.put, List.setIfInBounds_toArray, List.set_cons_zero, List.set_cons_succ]
            refine wpAnyH_take (i := 1) (oi := ?o2) (v := ?v2) ?h2 (by kernel_rfl) (by kernel_rfl) (by kernel_rfl) ?q2 ?y2 (by assumption) ?r2
            case h2 => simp only [List.getElem?_toArray, List.getElem?_cons_zero, List.getElem?_cons_succ]; rfl
            case y2 => (refine Or.inl ⟨by rfl, ?_⟩; intro w hSw; (try dsimp only at hSw); go_simp; (try with_reducible rfl))
            case q2 => exact fun _ _ _ h => h
            try simp only [Act.put, List.setIfInBounds_toArray, List.set_cons_zero, List.set_cons_succ]
            refine wpAnyH_take (i := 2) (oi := ?o3) (v := ?v3) ?h3 (by kernel_rfl) (by kernel_rfl) (by kernel_rfl) ?q3 ?y3 (by assumption) ?r3
            case h3 => simp only [List.getElem?_toArray, List.getElem?_cons_zero, List.getElem?_cons_succ]; rfl
            case y3 => (refine Or.inl ⟨by rfl, ?_⟩; intro w hSw; (try dsimp only at hSw); go_simp; (try with_reducible rfl))
            case q3 => exact fun _ _ _ h => h
            try simp only [Act.put, List.setIfInBounds_toArray, List.set_cons_zero, List.set_cons_succ]
            refine wpAnyH_ready (rs := [3]) (by kernel_rfl) (by simp) ?_
            refine AllReadyH.cons rfl (fun K hK => ?_) ?_
            · go_simp
              go_at_call 9; (with_reducible refine (kind1 b q qn qc hq _).mono ?_); rintro e wn ⟨rfl, hn⟩; rw [← HK2.out]; have hE : Fresh W wn := (by exact hE.trans hn); clear hn
              go_wp2_with fail
              refine hK.out _ _ (by first | done | exact ⟨(H2.out.fresh (by (repeat' first | with_reducible exact Fresh.refl _ | with_reducible assumption | with_reducible refine Fresh.alloc ?_ _ _ | with_reducible refine Fresh.drew ?_ | with_reducible refine Fresh.drewN ?_ _ | with_reducible refine Fresh.setCell ?_ ?_ _ | with_reducible refine Fresh.trans ?_ (by assumption) | (simp; done) | (simp; omega)))).1 0 _ rfl, (H2.out.fresh (by (repeat' first | with_reducible exact Fresh.refl _ | with_reducible assumption | with_reducible refine Fresh.alloc ?_ _ _ | with_reducible refine Fresh.drew ?_ | with_reducible refine Fresh.drewN ?_ _ | with_reducible refine Fresh.setCell ?_ ?_ _ | with_reducible refine Fresh.trans ?_ (by assumption) | (simp; done) | (simp; omega)))).1 1 _ rfl, (H2.out.fresh (by (repeat' first | with_reducible exact Fresh.refl _ | with_reducible assumption | with_reducible refine Fresh.alloc ?_ _ _ | with_reducible refine Fresh.drew ?_ | with_reducible refine Fresh.drewN ?_ _ | with_reducible refine Fresh.setCell ?_ ?_ _ | with_reducible refine Fresh.trans ?_ (by assumption) | (simp; done) | (simp; omega)))).1 2 _ rfl, (HB.out.fresh (by (repeat' first | with_reducible exact Fresh.refl _ | with_reducible assumption | with_reducible refine Fresh.alloc ?_ _ _ | with_reducible refine Fresh.drew ?_ | with_reducible refine Fresh.drewN ?_ _ | with_reducible refine Fresh.setCell ?_ ?_ _ | with_reducible refine Fresh.trans ?_ (by assumption) | (simp; done) | (simp; omega)))).c0, (HB.out.fresh (by (repeat' first | with_reducible exact Fresh.refl _ | with_reducible assumption | with_reducible refine Fresh.alloc ?_ _ _ | with_reducible refine Fresh.drew ?_ | with_reducible refine Fresh.drewN ?_ _ | with_reducible refine Fresh.setCell ?_ ?_ _ | with_reducible refine Fresh.trans ?_ (by assumption) | (simp; done) | (simp; omega)))).c1, (HB.out.fresh (by (repeat' first | with_reducible exact Fresh.refl _ | with_reducible assumption | with_reducible refine Fresh.alloc ?_ _ _ | with_reducible refine Fresh.drew ?_ | with_reducible refine Fresh.drewN ?_ _ | with_reducible refine Fresh.setCell ?_ ?_ _ | with_reducible refine Fresh.trans ?_ (by assumption) | (simp; done) | (simp; omega)))).c2, (HB.out.fresh (by (repeat' first | with_reducible exact Fresh.refl _ | with_reducible assumption | with_reducible refine Fresh.alloc ?_ _ _ | with_reducible refine Fresh.drew ?_ | with_reducible refine Fresh.drewN ?_ _ | with_reducible refine Fresh.setCell ?_ ?_ _ | with_reducible refine Fresh.trans ?_ (by assumption) | (simp; done) | (simp; omega)))).c3, (HB.out.fresh (by (repeat' first | with_reducible exact Fresh.refl _ | with_reducible assumption | with_reducible refine Fresh.alloc ?_ _ _ | with_reducible refine Fresh.drew ?_ | with_reducible refine Fresh.drewN ?_ _ | with_reducible refine Fresh.setCell ?_ ?_ _ | with_reducible refine Fresh.trans ?_ (by assumption) | (simp; done) | (simp; omega)))).c4, (HB.out.fresh (by (repeat' first | with_reducible exact Fresh.refl _ | with_reducible assumption | with_reducible refine Fresh.alloc ?_ _ _ | with_reducible refine Fresh.drew ?_ | with_reducible refine Fresh.drewN ?_ _ | with_reducible refine Fresh.setCell ?_ ?_ _ | with_reducible refine Fresh.trans ?_ (by assumption) | (simp; done) | (simp; omega)))).c5⟩) (fun hHeld => ?_)
              clear hK K
              try simp only [Act.put, List.setIfInBounds_toArray, List.set_cons_zero, List.set_cons_succ]
              refine wpAnyH_take (i := 4) (oi := ?o4) (v := ?v4) ?h4 (by kernel_rfl) (by kernel_rfl) (by kernel_rfl) ?q4 ?y4 (by assumption) ?r4
              case h4 => simp only [List.getElem?_toArray, List.getElem?_cons_zero, List.getElem?_cons_succ]; rfl
              case y4 => (refine Or.inl ⟨by rfl, ?_⟩; intro w hSw; (try dsimp only at hSw); go_simp; (try with_reducible rfl))
              case q4 => exact fun _ _ _ h => h
              try simp only [Act.put, List.setIfInBounds_toArray, List.set_cons_zero, List.set_cons_succ]
              refine wpAnyH_take (i := 5) (oi := ?o5) (v := ?v5) ?h5 (by kernel_rfl) (by kernel_rfl) (by kernel_rfl) ?q5 ?y5 (by assumption) ?r5
              case h5 => simp only [List.getElem?_toArray, List.getElem?_cons_zero, List.getElem?_cons_succ]; rfl
              case y5 => (refine Or.inl ⟨by rfl, ?_⟩; intro w hSw; (try dsimp only at hSw); go_simp; (try with_reducible rfl))
              case q5 => exact fun _ _ _ h => h
              try simp only [Act.put, List.setIfInBounds_toArray, List.set_cons_zero, List.set_cons_succ]
              refine wpAnyH_take (i := 6) (oi := ?o6) (v := ?v6) ?h6 (by kernel_rfl) (by kernel_rfl) (by kernel_rfl) ?q6 ?y6 (by assumption) ?r6
              case h6 => simp only [List.getElem?_toArray, List.getElem?_cons_zero, List.getElem?_cons_succ]; rfl
              case y6 => (refine Or.inl ⟨by rfl, ?_⟩; intro w hSw; (try dsimp only at hSw); go_simp; (try with_reducible rfl))
              case q6 => exact fun _ _ _ h => h
              try simp only [Act.put, List.setIfInBounds_toArray, List.set_cons_zero, List.set_cons_succ]
              refine wpAnyH_ready (rs := [7]) (by kernel_rfl) (by simp) ?_
              refine AllReadyH.cons rfl (fun K hK => ?_) ?_
              · go_simp
                go_at_call 10; (with_reducible refine (right_any v2 _).mono ?_); rintro e wn ⟨rfl, hn⟩; rw [HR2.out]; have hE : Fresh W wn := (by exact hE.trans hn); clear hn
                go_wp2_with fail
                refine hK.out _ _ (by first | done | exact ⟨(H2.out.fresh (by (repeat' first | with_reducible exact Fresh.refl _ | with_reducible assumption | with_reducible refine Fresh.alloc ?_ _ _ | with_reducible refine Fresh.drew ?_ | with_reducible refine Fresh.drewN ?_ _ | with_reducible refine Fresh.setCell ?_ ?_ _ | with_reducible refine Fresh.trans ?_ (by assumption) | (simp; done) | (simp; omega)))).1 0 _ rfl, (H2.out.fresh (by (repeat' first | with_reducible exact Fresh.refl _ | with_reducible assumption | with_reducible refine Fresh.alloc ?_ _ _ | with_reducible refine Fresh.drew ?_ | with_reducible refine Fresh.drewN ?_ _ | with_reducible refine Fresh.setCell ?_ ?_ _ | with_reducible refine Fresh.trans ?_ (by assumption) | (simp; done) | (simp; omega)))).1 1 _ rfl, (H2.out.fresh (by (repeat' first | with_reducible exact Fresh.refl _ | with_reducible assumption | with_reducible refine Fresh.alloc ?_ _ _ | with_reducible refine Fresh.drew ?_ | with_reducible refine Fresh.drewN ?_ _ | with_reducible refine Fresh.setCell ?_ ?_ _ | with_reducible refine Fresh.trans ?_ (by assumption) | (simp; done) | (simp; omega)))).1 2 _ rfl, (HB.out.fresh (by (repeat' first | with_reducible exact Fresh.refl _ | with_reducible assumption | with_reducible refine Fresh.alloc ?_ _ _ | with_reducible refine Fresh.drew ?_ | with_reducible refine Fresh.drewN ?_ _ | with_reducible refine Fresh.setCell ?_ ?_ _ | with_reducible refine Fresh.trans ?_ (by assumption) | (simp; done) | (simp; omega)))).c0, (HB.out.fresh (by (repeat' first | with_reducible exact Fresh.refl _ | with_reducible assumption | with_reducible refine Fresh.alloc ?_ _ _ | with_reducible refine Fresh.drew ?_ | with_reducible refine Fresh.drewN ?_ _ | with_reducible refine Fresh.setCell ?_ ?_ _ | with_reducible refine Fresh.trans ?_ (by assumption) | (simp; done) | (simp; omega)))).c1, (HB.out.fresh (by (repeat' first | with_reducible exact Fresh.refl _ | with_reducible assumption | with_reducible refine Fresh.alloc ?_ _ _ | with_reducible refine Fresh.drew ?_ | with_reducible refine Fresh.drewN ?_ _ | with_reducible refine Fresh.setCell ?_ ?_ _ | with_reducible refine Fresh.trans ?_ (by assumption) | (simp; done) | (simp; omega)))).c2, (HB.out.fresh (by (repeat' first | with_reducible exact Fresh.refl _ | with_reducible assumption | with_reducible refine Fresh.alloc ?_ _ _ | with_reducible refine Fresh.drew ?_ | with_reducible refine Fresh.drewN ?_ _ | with_reducible refine Fresh.setCell ?_ ?_ _ | with_reducible refine Fresh.trans ?_ (by assumption) | (simp; done) | (simp; omega)))).c3, (HB.out.fresh (by (repeat' first | with_reducible exact Fresh.refl _ | with_reducible assumption | with_reducible refine Fresh.alloc ?_ _ _ | with_reducible refine Fresh.drew ?_ | with_reducible refine Fresh.drewN ?_ _ | with_reducible refine Fresh.setCell ?_ ?_ _ | with_reducible refine Fresh.trans ?_ (by assumption) | (simp; done) | (simp; omega)))).c4, (HB.out.fresh (by (repeat' first | with_reducible exact Fresh.refl _ | with_reducible assumption | with_reducible refine Fresh.alloc ?_ _ _ | with_reducible refine Fresh.drew ?_ | with_reducible refine Fresh.drewN ?_ _ | with_reducible refine Fresh.setCell ?_ ?_ _ | with_reducible refine Fresh.trans ?_ (by assumption) | (simp; done) | (simp; omega)))).c5⟩) (fun hHeld => ?_)
                clear hK K
                try simp only [Act.put, List.setIfInBounds_toArray, List.set_cons_zero, List.set_cons_succ]
                refine wpAnyH_take (i := 8) (oi := ?o7) (v := ?v7) ?h7 (by kernel_rfl) (by kernel_rfl) (by kernel_rfl) ?q7 ?y7 (by assumption) ?r7
                case h7 => simp only [List.getElem?_toArray, List.getElem?_cons_zero, List.getElem?_cons_succ]; rfl
                case y7 => (refine Or.inl ⟨by rfl, ?_⟩; intro w hSw; (try dsimp only at hSw); go_simp; (try with_reducible rfl))
                case q7 => exact fun _ _ _ h => h
                try simp only [Act.put, List.setIfInBounds_toArray, List.set_cons_zero, List.set_cons_succ]
                refine wpAnyH_take (i := 9) (oi := ?o8) (v := ?v8) ?h8 (by kernel_rfl) (by kernel_rfl) (by kernel_rfl) ?q8 ?y8 (by assumption) ?r8
                case h8 => simp only [List.getElem?_toArray, List.getElem?_cons_zero, List.getElem?_cons_succ]; rfl
                case y8 => (refine Or.inl ⟨by rfl, ?_⟩; intro w hSw; (try dsimp only at hSw); go_simp; (try with_reducible rfl))
                case q8 => exact fun _ _ _ h => h
                try simp only [Act.put, List.setIfInBounds_toArray, List.set_cons_zero, List.set_cons_succ]
                refine wpAnyH_take (i := 10) (oi := ?o9) (v := ?v9) ?h9 (by kernel_rfl) (by kernel_rfl) (by kernel_rfl) ?q9 ?y9 (by assumption) ?r9
                case h9 => simp only [List.getElem?_toArray, List.getElem?_cons_zero, List.getElem?_cons_succ]; rfl
                case y9 => (refine Or.inl ⟨by rfl, ?_⟩; intro w hSw; (try dsimp only at hSw); go_simp; (try with_reducible rfl))
                case q9 => exact fun _ _ _ h => h
                try simp only [Act.put, List.setIfInBounds_toArray, List.set_cons_zero, List.set_cons_succ]
                refine wpAnyH_take (i := 11) (oi := ?o10) (v := ?v10) ?h10 (by kernel_rfl) (by kernel_rfl) (by kernel_rfl) ?q10 ?y10 (by assumption) ?r10
                case h10 => simp only [List.getElem?_toArray, List.getElem?_cons_zero, List.getElem?_cons_succ]; rfl
                case y10 => (refine Or.inl ⟨by rfl, ?_⟩; intro w hSw; (try dsimp only at hSw); go_simp; (try with_reducible rfl))
                case q10 => exact fun _ _ _ h => h
                try simp only [Act.put, List.setIfInBounds_toArray, List.set_cons_zero, List.set_cons_succ]
                refine wpAnyH_take (i := 12) (oi := ?o11) (v := ?v11) ?h11 (by kernel_rfl) (by kernel_rfl) (by kernel_rfl) ?q11 ?y11 (by assumption) ?r11
                case h11 => simp only [List.getElem?_toArray, List.getElem?_cons_zero, List.getElem?_cons_succ]; rfl
                case y11 => (refine Or.inl ⟨by rfl, ?_⟩; intro w hSw; (try dsimp only at hSw); go_simp; (try with_reducible rfl))
                case q11 => exact fun _ _ _ h => h
                try simp only [Act.put, List.setIfInBounds_toArray, List.set_cons_zero, List.set_cons_succ]
                refine wpAnyH_take (i := 13) (oi := ?o12) (v := ?v12) ?h12 (by kernel_rfl) (by kernel_rfl) (by kernel_rfl) ?q12 ?y12 (by assumption) ?r12
                case h12 => simp only [List.getElem?_toArray, List.getElem?_cons_zero, List.getElem?_cons_succ]; rfl
                case y12 => (refine Or.inl ⟨by rfl, ?_⟩; intro w hSw; (try dsimp only at hSw); go_simp; (try with_reducible rfl))
                case q12 => exact fun _ _ _ h => h
                try simp only [Act.put, List.setIfInBounds_toArray, List.set_cons_zero, List.set_cons_succ]
                refine wpAnyH_take (i := 14) (oi := ?o13) (v := ?v13) ?h13 (by kernel_rfl) (by kernel_rfl) (by kernel_rfl) ?q13 ?y13 (by assumption) ?r13
                case h13 => simp only [List.getElem?_toArray, List.getElem?_cons_zero, List.getElem?_cons_succ]; rfl
                case y13 => (refine Or.inl ⟨by rfl, ?_⟩; intro w hSw; (try dsimp only at hSw); go_simp; (try with_reducible rfl))
                case q13 => exact fun _ _ _ h => h
                try simp only [Act.put, List.setIfInBounds_toArray, List.set_cons_zero, List.set_cons_succ]
                refine wpAnyH_take (i := 15) (oi := ?o14) (v := undef) ?h14 (by kernel_rfl) (by kernel_rfl) (by kernel_rfl) ?q14 ?y14 (by assumption) ?r14
                case h14 => simp only [List.getElem?_toArray, List.getElem?_cons_zero, List.getElem?_cons_succ]; rfl
                case y14 => exact Or.inr ⟨by rfl, rfl⟩
                case q14 => exact fun _ _ _ h => h
                try simp only [Act.put, List.setIfInBounds_toArray, List.set_cons_zero, List.set_cons_succ]
                refine wpAnyH_take (i := 16) (oi := ?o15) (v := undef) ?h15 (by kernel_rfl) (by kernel_rfl) (by kernel_rfl) ?q15 ?y15 (by assumption) ?r15
                case h15 => simp only [List.getElem?_toArray, List.getElem?_cons_zero, List.getElem?_cons_succ]; rfl
                case y15 => exact Or.inr ⟨by rfl, rfl⟩
                case q15 => exact fun _ _ _ h => h
                try simp only [Act.put, List.setIfInBounds_toArray, List.set_cons_zero, List.set_cons_succ]
                refine wpAnyH_take (i := 17) (oi := ?o16) (v := ?v16) ?h16 (by kernel_rfl) (by kernel_rfl) (by kernel_rfl) ?q16 ?y16 (by assumption) ?r16
                case h16 => simp only [List.getElem?_toArray, List.getElem?_cons_zero, List.getElem?_cons_succ]; rfl
                case y16 => (refine Or.inl ⟨by rfl, ?_⟩; intro w hSw; (try dsimp only at hSw); go_simp; (try with_reducible rfl))
                case q16 => exact fun _ _ _ h => h
                try simp only [Act.put, List.setIfInBounds_toArray, List.set_cons_zero, List.set_cons_succ]
                refine wpAnyH_done (by kernel_rfl) ?_ _
                have u0 := (H2.out.fresh hE).1 0 _ rfl
                have u1 := (H1.out.fresh hE).1 0 _ rfl
                by_cases h2 : v2.1 = 3
                · rw [h2] at u0
                  go_wp2_with fail
                  go_returns
                  exact ⟨by first | rfl | simp, F7.out.trans hE⟩
                · have h1 := E3.resolve_left h2
                  have hn2 : (v2.1 == 3) = false := by simpa using h2
                  clear h2 E3 E2
                  rw [h1] at u1
                  go_wp2_with fail
                  go_returns
                  exact ⟨by first | rfl | simp, F7.out.trans hE⟩
              exact AllReadyH.nil
            exact AllReadyH.nil
          · cases k4
            · have E3 : v2.1 = 3 ∨ v1.1 = 3 := by simpa using E2
              go_region_held3 (fun w' => w'.cell? ⟨g2, 0, none⟩ = some (.int .i64 v2.1) ∧ w'.cell? ⟨g2, 1, none⟩ = some (.int .u64 v2.2.1) ∧ w'.cell? ⟨g2, 2, none⟩ = some (.int .i64 v2.2.2) ∧ w'.cell? ⟨B2, 0, none⟩ = some (.int .i64 b.kind) ∧ w'.cell? ⟨B2, 1, none⟩ = some (.int .i64 b.size) ∧ w'.cell? ⟨B2, 2, none⟩ = some (.int .i64 b.len) ∧ w'.cell? ⟨B2, 3, none⟩ = some (.bool b.flag) ∧ w'.cell? ⟨B2, 4, none⟩ = some (.string b.name) ∧ w'.cell? ⟨B2, 5, none⟩ = some (.slice q qn qc)) (first | done | exact ⟨(H2.out.fresh (by (repeat' first | with_reducible exact Fresh.refl _ | with_reducible assumption | with_reducible refine Fresh.alloc ?_ _ _ | with_reducible refine Fresh.drew ?_ | with_reducible refine Fresh.drewN ?_ _ | with_reducible refine Fresh.setCell ?_ ?_ _ | with_reducible refine Fresh.trans ?_ (by assumption) | (simp; done) | (simp; omega)))).1 0 _ rfl, (H2.out.fresh (by (repeat' first | with_reducible exact Fresh.refl _ | with_reducible assumption | with_reducible refine Fresh.alloc ?_ _ _ | with_reducible refine Fresh.drew ?_ | with_reducible refine Fresh.drewN ?_ _ | with_reducible refine Fresh.setCell ?_ ?_ _ | with_reducible refine Fresh.trans ?_ (by assumption) | (simp; done) | (simp; omega)))).1 1 _ rfl, (H2.out.fresh (by (repeat' first | with_reducible exact Fresh.refl _ | with_reducible assumption | with_reducible refine Fresh.alloc ?_ _ _ | with_reducible refine Fresh.drew ?_ | with_reducible refine Fresh.drewN ?_ _ | with_reducible refine Fresh.setCell ?_ ?_ _ | with_reducible refine Fresh.trans ?_ (by assumption) | (simp; done) | (simp; omega)))).1 2 _ rfl, (HB.out.fresh (by (repeat' first | with_reducible exact Fresh.refl _ | with_reducible assumption | with_reducible refine Fresh.alloc ?_ _ _ | with_reducible refine Fresh.drew ?_ | with_reducible refine Fresh.drewN ?_ _ | with_reducible refine Fresh.setCell ?_ ?_ _ | with_reducible refine Fresh.trans ?_ (by assumption) | (simp; done) | (simp; omega)))).c0, (HB.out.fresh (by (repeat' first | with_reducible exact Fresh.refl _ | with_reducible assumption | with_reducible refine Fresh.alloc ?_ _ _ | with_reducible refine Fresh.drew ?_ | with_reducible refine Fresh.drewN ?_ _ | with_reducible refine Fresh.setCell ?_ ?_ _ | with_reducible refine Fresh.trans ?_ (by assumption) | (simp; done) | (simp; omega)))).c1, (HB.out.fresh (by (repeat' first | with_reducible exact Fresh.refl _ | with_reducible assumption | with_reducible refine Fresh.alloc ?_ _ _ | with_reducible refine Fresh.drew ?_ | with_reducible refine Fresh.drewN ?_ _ | with_reducible refine Fresh.setCell ?_ ?_ _ | with_reducible refine Fresh.trans ?_ (by assumption) | (simp; done) | (simp; omega)))).c2, (HB.out.fresh (by (repeat' first | with_reducible exact Fresh.refl _ | with_reducible assumption | with_reducible refine Fresh.alloc ?_ _ _ | with_reducible refine Fresh.drew ?_ | with_reducible refine Fresh.drewN ?_ _ | with_reducible refine Fresh.setCell ?_ ?_ _ | with_reducible refine Fresh.trans ?_ (by assumption) | (simp; done) | (simp; omega)))).c3, (HB.out.fresh (by (repeat' first | with_reducible exact Fresh.refl _ | with_reducible assumption | with_reducible refine Fresh.alloc ?_ _ _ | with_reducible refine Fresh.drew ?_ | with_reducible refine Fresh.drewN ?_ _ | with_reducible refine Fresh.setCell ?_ ?_ _ | with_reducible refine Fresh.trans ?_ (by assumption) | (simp; done) | (simp; omega)))).c4, (HB.out.fresh (by (repeat' first | with_reducible exact Fresh.refl _ | with_reducible assumption | with_reducible refine Fresh.alloc ?_ _ _ | with_reducible refine Fresh.drew ?_ | with_reducible refine Fresh.drewN ?_ _ | with_reducible refine Fresh.setCell ?_ ?_ _ | with_reducible refine Fresh.trans ?_ (by assumption) | (simp; done) | (simp; omega)))).c5⟩) (first | (go_at_call 9; (with_reducible refine (kind1 b q qn qc hq _).mono ?_); rintro e wn ⟨rfl, hn⟩; rw [← HK2.out]; have hE : Fresh W wn := (by exact hE.trans hn); clear hn) | (go_at_call 10; (with_reducible refine (right_any v2 _).mono ?_); rintro e wn ⟨rfl, hn⟩; rw [HR2.out]; have hE : Fresh W wn := (by exact hE.trans hn); clear hn))
              have u0 := (H2.out.fresh hE).1 0 _ rfl
              have u1 := (H1.out.fresh hE).1 0 _ rfl
              by_cases h2 : v2.1 = 3
              · rw [h2] at u0
                go_wp2_with fail
                go_returns
                exact ⟨by first | rfl | simp, F7.out.trans hE⟩
              · have h1 := E3.resolve_left h2
                have hn2 : (v2.1 == 3) = false := by simpa using h2
                clear h2 E3 E2
                rw [h1] at u1
                go_wp2_with fail
                go_returns
                exact ⟨by first | rfl | simp, F7.out.trans hE⟩
            · go_region_held3 (fun w' => w'.cell? ⟨g2, 0, none⟩ = some (.int .i64 v2.1) ∧ w'.cell? ⟨g2, 1, none⟩ = some (.int .u64 v2.2.1) ∧ w'.cell? ⟨g2, 2, none⟩ = some (.int .i64 v2.2.2) ∧ w'.cell? ⟨B2, 0, none⟩ = some (.int .i64 b.kind) ∧ w'.cell? ⟨B2, 1, none⟩ = some (.int .i64 b.size) ∧ w'.cell? ⟨B2, 2, none⟩ = some (.int .i64 b.len) ∧ w'.cell? ⟨B2, 3, none⟩ = some (.bool b.flag) ∧ w'.cell? ⟨B2, 4, none⟩ = some (.string b.name) ∧ w'.cell? ⟨B2, 5, none⟩ = some (.slice q qn qc)) (first | done | exact ⟨(H2.out.fresh (by (repeat' first | with_reducible exact Fresh.refl _ | with_reducible assumption | with_reducible refine Fresh.alloc ?_ _ _ | with_reducible refine Fresh.drew ?_ | with_reducible refine Fresh.drewN ?_ _ | with_reducible refine Fresh.setCell ?_ ?_ _ | with_reducible refine Fresh.trans ?_ (by assumption) | (simp; done) | (simp; omega)))).1 0 _ rfl, (H2.out.fresh (by (repeat' first | with_reducible exact Fresh.refl _ | with_reducible assumption | with_reducible refine Fresh.alloc ?_ _ _ | with_reducible refine Fresh.drew ?_ | with_reducible refine Fresh.drewN ?_ _ | with_reducible refine Fresh.setCell ?_ ?_ _ | with_reducible refine Fresh.trans ?_ (by assumption) | (simp; done) | (simp; omega)))).1 1 _ rfl, (H2.out.fresh (by (repeat' first | with_reducible exact Fresh.refl _ | with_reducible assumption | with_reducible refine Fresh.alloc ?_ _ _ | with_reducible refine Fresh.drew ?_ | with_reducible refine Fresh.drewN ?_ _ | with_reducible refine Fresh.setCell ?_ ?_ _ | with_reducible refine Fresh.trans ?_ (by assumption) | (simp; done) | (simp; omega)))).1 2 _ rfl, (HB.out.fresh (by (repeat' first | with_reducible exact Fresh.refl _ | with_reducible assumption | with_reducible refine Fresh.alloc ?_ _ _ | with_reducible refine Fresh.drew ?_ | with_reducible refine Fresh.drewN ?_ _ | with_reducible refine Fresh.setCell ?_ ?_ _ | with_reducible refine Fresh.trans ?_ (by assumption) | (simp; done) | (simp; omega)))).c0, (HB.out.fresh (by (repeat' first | with_reducible exact Fresh.refl _ | with_reducible assumption | with_reducible refine Fresh.alloc ?_ _ _ | with_reducible refine Fresh.drew ?_ | with_reducible refine Fresh.drewN ?_ _ | with_reducible refine Fresh.setCell ?_ ?_ _ | with_reducible refine Fresh.trans ?_ (by assumption) | (simp; done) | (simp; omega)))).c1, (HB.out.fresh (by (repeat' first | with_reducible exact Fresh.refl _ | with_reducible assumption | with_reducible refine Fresh.alloc ?_ _ _ | with_reducible refine Fresh.drew ?_ | with_reducible refine Fresh.drewN ?_ _ | with_reducible refine Fresh.setCell ?_ ?_ _ | with_reducible refine Fresh.trans ?_ (by assumption) | (simp; done) | (simp; omega)))).c2, (HB.out.fresh (by (repeat' first | with_reducible exact Fresh.refl _ | with_reducible assumption | with_reducible refine Fresh.alloc ?_ _ _ | with_reducible refine Fresh.drew ?_ | with_reducible refine Fresh.drewN ?_ _ | with_reducible refine Fresh.setCell ?_ ?_ _ | with_reducible refine Fresh.trans ?_ (by assumption) | (simp; done) | (simp; omega)))).c3, (HB.out.fresh (by (repeat' first | with_reducible exact Fresh.refl _ | with_reducible assumption | with_reducible refine Fresh.alloc ?_ _ _ | with_reducible refine Fresh.drew ?_ | with_reducible refine Fresh.drewN ?_ _ | with_reducible refine Fresh.setCell ?_ ?_ _ | with_reducible refine Fresh.trans ?_ (by assumption) | (simp; done) | (simp; omega)))).c4, (HB.out.fresh (by (repeat' first | with_reducible exact Fresh.refl _ | with_reducible assumption | with_reducible refine Fresh.alloc ?_ _ _ | with_reducible refine Fresh.drew ?_ | with_reducible refine Fresh.drewN ?_ _ | with_reducible refine Fresh.setCell ?_ ?_ _ | with_reducible refine Fresh.trans ?_ (by assumption) | (simp; done) | (simp; omega)))).c5⟩) (first | (go_at_call 9; (with_reducible refine (kind1 b q qn qc hq _).mono ?_); rintro e wn ⟨rfl, hn⟩; rw [← HK2.out]; have hE : Fresh W wn := (by exact hE.trans hn); clear hn) | (go_at_call 10; (with_reducible refine (right_any v2 _).mono ?_); rintro e wn ⟨rfl, hn⟩; rw [HR2.out]; have hE : Fresh W wn := (by exact hE.trans hn); clear hn))
              have HB := Lib.hid (HB.out.fresh hE)
              have F7 := Lib.hid (F7.out.trans hE)
              have H2 := Lib.hid (H2.out.fresh hE)
              have H4 := Lib.hid (H4.out.fresh hE)
              clear hE HA H1 H3 E2
              go_upto_region 14 with fail
              generalize wn = W at *
              go_cut [19, 20] (fun s9 s10 wx => Hid (∃ (r : (Int × Int × Int) × Bool) (g : Nat), TurnR (opsL H8 b) (v4, true) r ∧ s9 = .pointer (some ⟨g, 0, none⟩) ∧ s10 = .bool r.2 ∧ Fresh W wx ∧ Blk wx g (L3 r.1)))
              case first =>
                have hE : Fresh W W.drew := (Fresh.refl W).drew
                go_region_held3 (fun w' => w'.cell? ⟨g4, 0, none⟩ = some (.int .i64 v4.1) ∧ w'.cell? ⟨g4, 1, none⟩ = some (.int .u64 v4.2.1) ∧ w'.cell? ⟨g4, 2, none⟩ = some (.int .i64 v4.2.2) ∧ w'.cell? ⟨B2, 0, none⟩ = some (.int .i64 b.kind) ∧ w'.cell? ⟨B2, 1, none⟩ = some (.int .i64 b.size) ∧ w'.cell? ⟨B2, 2, none⟩ = some (.int .i64 b.len) ∧ w'.cell? ⟨B2, 3, none⟩ = some (.bool b.flag) ∧ w'.cell? ⟨B2, 4, none⟩ = some (.string b.name) ∧ w'.cell? ⟨B2, 5, none⟩ = some (.slice q qn qc)) (first | done | exact ⟨(H4.out.fresh (by (repeat' first | with_reducible exact Fresh.refl _ | with_reducible assumption | with_reducible refine Fresh.alloc ?_ _ _ | with_reducible refine Fresh.drew ?_ | with_reducible refine Fresh.drewN ?_ _ | with_reducible refine Fresh.setCell ?_ ?_ _ | with_reducible refine Fresh.trans ?_ (by assumption) | (simp; done) | (simp; omega)))).1 0 _ rfl, (H4.out.fresh (by (repeat' first | with_reducible exact Fresh.refl _ | with_reducible assumption | with_reducible refine Fresh.alloc ?_ _ _ | with_reducible refine Fresh.drew ?_ | with_reducible refine Fresh.drewN ?_ _ | with_reducible refine Fresh.setCell ?_ ?_ _ | with_reducible refine Fresh.trans ?_ (by assumption) | (simp; done) | (simp; omega)))).1 1 _ rfl, (H4.out.fresh (by (repeat' first | with_reducible exact Fresh.refl _ | with_reducible assumption | with_reducible refine Fresh.alloc ?_ _ _ | with_reducible refine Fresh.drew ?_ | with_reducible refine Fresh.drewN ?_ _ | with_reducible refine Fresh.setCell ?_ ?_ _ | with_reducible refine Fresh.trans ?_ (by assumption) | (simp; done) | (simp; omega)))).1 2 _ rfl, (HB.out.fresh (by (repeat' first | with_reducible exact Fresh.refl _ | with_reducible assumption | with_reducible refine Fresh.alloc ?_ _ _ | with_reducible refine Fresh.drew ?_ | with_reducible refine Fresh.drewN ?_ _ | with_reducible refine Fresh.setCell ?_ ?_ _ | with_reducible refine Fresh.trans ?_ (by assumption) | (simp; done) | (simp; omega)))).c0, (HB.out.fresh (by (repeat' first | with_reducible exact Fresh.refl _ | with_reducible assumption | with_reducible refine Fresh.alloc ?_ _ _ | with_reducible refine Fresh.drew ?_ | with_reducible refine Fresh.drewN ?_ _ | with_reducible refine Fresh.setCell ?_ ?_ _ | with_reducible refine Fresh.trans ?_ (by assumption) | (simp; done) | (simp; omega)))).c1, (HB.out.fresh (by (repeat' first | with_reducible exact Fresh.refl _ | with_reducible assumption | with_reducible refine Fresh.alloc ?_ _ _ | with_reducible refine Fresh.drew ?_ | with_reducible refine Fresh.drewN ?_ _ | with_reducible refine Fresh.setCell ?_ ?_ _ | with_reducible refine Fresh.trans ?_ (by assumption) | (simp; done) | (simp; omega)))).c2, (HB.out.fresh (by (repeat' first | with_reducible exact Fresh.refl _ | with_reducible assumption | with_reducible refine Fresh.alloc ?_ _ _ | with_reducible refine Fresh.drew ?_ | with_reducible refine Fresh.drewN ?_ _ | with_reducible refine Fresh.setCell ?_ ?_ _ | with_reducible refine Fresh.trans ?_ (by assumption) | (simp; done) | (simp; omega)))).c3, (HB.out.fresh (by (repeat' first | with_reducible exact Fresh.refl _ | with_reducible assumption | with_reducible refine Fresh.alloc ?_ _ _ | with_reducible refine Fresh.drew ?_ | with_reducible refine Fresh.drewN ?_ _ | with_reducible refine Fresh.setCell ?_ ?_ _ | with_reducible refine Fresh.trans ?_ (by assumption) | (simp; done) | (simp; omega)))).c4, (HB.out.fresh (by (repeat' first | with_reducible exact Fresh.refl _ | with_reducible assumption | with_reducible refine Fresh.alloc ?_ _ _ | with_reducible refine Fresh.drew ?_ | with_reducible refine Fresh.drewN ?_ _ | with_reducible refine Fresh.setCell ?_ ?_ _ | with_reducible refine Fresh.trans ?_ (by assumption) | (simp; done) | (simp; omega)))).c5⟩)                  (first | (go_at_call 8; (with_reducible refine (numT_any _ _ _).mono ?_); rintro e wn ⟨rfl, hn⟩; have hE : Fresh W wn := (by first | exact hE.trans hn | exact ((Fresh.refl W).alloc _ _).drew.trans hn | exact (hE.alloc _ _).trans hn); (first | (have T18 := T18.fresh hn) | (have T18 := (Blk.new _ #[.int .i64 0, .int .u64 0, .int .i64 0] 31).fresh hn) | (have T18 := (Blk.new _ #[.int .i64 0, .int .u64 0, .int .i64 0] 31).fresh ((Fresh.refl _).drew.trans hn)) | skip); (try (have y0 := T18.1 0 _ rfl; have y1 := T18.1 1 _ rfl; have y2 := T18.1 2 _ rfl; have yf := T18.2.1; have yz := T18.2.2)); have hzn : W.heap.size ≤ wn.heap.size := hE.size; clear hn)                  | (go_at_call 6; (with_reducible refine (turned1 v4 ⟨2, 8, 0, false, ⟨#[]⟩⟩ b (ok8a hb) none q 0 qn 0 qc NK.none hq _).mono ?_); rintro e wn ⟨⟨r, hr, rfl⟩, hn⟩; have hE : Fresh W wn := (by first | exact hE.trans hn | exact ((Fresh.refl W).alloc _ _).drew.trans hn | exact (hE.alloc _ _).trans hn); (first | (have T18 := T18.fresh hn) | (have T18 := (Blk.new _ #[.int .i64 0, .int .u64 0, .int .i64 0] 31).fresh hn) | (have T18 := (Blk.new _ #[.int .i64 0, .int .u64 0, .int .i64 0] 31).fresh ((Fresh.refl _).drew.trans hn)) | skip); (try (have y0 := T18.1 0 _ rfl; have y1 := T18.1 1 _ rfl; have y2 := T18.1 2 _ rfl; have yf := T18.2.1; have yz := T18.2.2)); have hzn : W.heap.size ≤ wn.heap.size := hE.size; clear hn))
                all_goals (go_wp2_with fail; go_meet)
                all_goals (refine Lib.hid ⟨r, _, hr, rfl, rfl, ?_, ?_⟩)
                all_goals first | first | exact Blk.new _ #[.int .i64 r.1.1, .int .u64 r.1.2.1, .int .i64 r.1.2.2] 31 | exact (((T18.putt (i := 0) (by simp) _).putt (i := 1) (by simp) _).putt (i := 2) (by simp) _) | exact (by (repeat' first | with_reducible exact Fresh.refl _ | with_reducible assumption | with_reducible refine Fresh.alloc ?_ _ _ | with_reducible refine Fresh.drew ?_ | with_reducible refine Fresh.drewN ?_ _ | with_reducible refine Fresh.setCell ?_ ?_ _ | with_reducible refine Fresh.trans ?_ (by assumption) | (simp; done) | (simp; omega)))
              case rest =>
                obtain ⟨r5, g5, t5, rfl, rfl, hf, hb5⟩ := hcut.out
                have HB := Lib.hid (HB.out.fresh hf)
                have F7 := Lib.hid (F7.out.trans hf)
                have H2 := Lib.hid (H2.out.fresh hf)
                have H5 := Lib.hid hb5
                clear hcut hf hb5 H4
                obtain ⟨v5, k5⟩ := r5
                have EE : Hid (v5.1 = 3 ∨ ∃ p ∈ I8, b = numHd p.1 p.2 ∧ (v5 = v2 → holdsI p.1 p.2 (wrap64 v4.2.1) → wrap64 v4.2.1 = wrap64 v3.2.1)) := Lib.hid (end3 (q1 := (v1, true)) (q2 := (v2, true)) (q3 := (v3, true)) (q4 := (v4, true)) (q5 := (v5, k5)) ⟨u64_le n, t1, t2, t3, t4, t5⟩ ha hb rfl rfl)
                clear t1 t2 t3 t4 t5 HK2 HR2
                generalize wc = W at *
                obtain ⟨b0, b1, b2, b3, b4, b5, bf⟩ := HB.out
                have c0 := H2.out.1 0 _ rfl; have c1 := H2.out.1 1 _ rfl; have c2 := H2.out.1 2 _ rfl
                have d0 := H5.out.1 0 _ rfl; have d1 := H5.out.1 1 _ rfl; have d2 := H5.out.1 2 _ rfl
                go_wp2_with fail
                all_goals first
                  | (go_returns; exact ⟨by first | rfl | simp, F7.out⟩)
                  | (go_at_call 11
                     rename_i e1 e2 e3 ne n3 _ _
                     rcases EE.out with h3 | ⟨pp, hpp, hbb, hh⟩
                     · exact absurd (e1.symm.trans h3) n3
                     · have hv : v5 = v2 := Prod.ext e1 (Prod.ext e2 e3)
                       have hno : ¬ holdsI pp.1 pp.2 (wrap64 v4.2.1) := fun h => ne (hh hv h)
                       clear hh hv EE
                       subst hbb
                       refine (holds_n pp.1 pp.2 hpp (wrap64 v4.2.1) q qn qc _).mono ?_
                       rintro e w9 ⟨⟨t, rfl, ht⟩, h9⟩
                       obtain rfl : t = false := by
                         cases t
                         · rfl
                         · exact absurd (ht rfl) hno
                       go_wp2_with fail
                       go_returns
                       exact ⟨by first | rfl | simp, F7.out.trans h9⟩)
    · obtain ⟨a0, a1, a2, a3, a4, a5, af⟩ := HA.out
      cases k1
      · go_wp2_with fail
        go_at_call 9; refine (kind_any a .nil p pn pc _ _ (Fresh.refl _) (hp (fun _ => True) _)).mono ?_; rintro e w8 ⟨rfl, h8⟩
        rw [hk]
        go_wp2_with fail
        go_returns
        exact ⟨rfl, F7.out.trans h8⟩
      · cases k2
        · go_wp2_with fail
          go_at_call 9; refine (kind_any a .nil p pn pc _ _ (Fresh.refl _) (hp (fun _ => True) _)).mono ?_; rintro e w8 ⟨rfl, h8⟩
          rw [hk]
          go_wp2_with fail
          go_returns
          exact ⟨rfl, F7.out.trans h8⟩
        · simp at hkk
end
end Go.Proofs.YteiomcbphbbpkaaGreatDoor
