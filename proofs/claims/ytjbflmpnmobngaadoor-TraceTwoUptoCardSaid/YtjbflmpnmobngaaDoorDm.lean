/- The fixed calls are answered as they should be. -/
import Derived.Test.YtjbflmpnmobngaaDoorDl
namespace Go.Proofs.YtjbflmpnmobngaaDoor
set_option linter.unusedSimpArgs false
set_option linter.unusedVariables false
open Go.RowKit

theorem call_no (V vo vc : Nat) (w : World) :
    Calls Tryd.prog 7 #[.string put, .agg #[.slice none 0 0, .int .i64 0], .slice (some ⟨V, vo, none⟩) 1 vc, .slice none 0 0, .int .i64 0] w fun e w' => e = .returned (.tuple #[.agg #[.string ⟨#[]⟩, .slice none 0 0, .int .i64 0, .int .u64 0, .int .i64 0], .bool false]) ∧ Fresh w w' := by
  go_enter Tryd.func7, Tryd.ntmps7
  go_wp2_with (go_at_call 21; refine (eqKinds_no V vo vc _).mono ?_; rintro e w' ⟨rfl, rfl⟩)
  all_goals (refine bodyPost_ret (v := ?_) ?_ rfl ?_; rotate_left 1; focus (simp [results, Tryd.results7, go_sem, *]; (try rfl); done))
  exact ⟨rfl, (by (repeat' first | with_reducible exact Fresh.refl _ | with_reducible assumption | with_reducible refine Fresh.alloc ?_ _ _ | with_reducible refine Fresh.drew ?_ | with_reducible refine Fresh.setCell ?_ ?_ _ | with_reducible refine Fresh.trans ?_ (by assumption) | (simp; done) | (simp; omega)))⟩
/-- The event in a block. -/
structure EvB (X g cap : Nat) (w : World) : Prop where
  e0 : w.cell? ⟨X, 0, none⟩ = some (.string put)
  e1 : w.cell? ⟨X, 1, none⟩ = some (.slice (some ⟨g, 0, none⟩) 1 cap)
  e2 : w.cell? ⟨X, 2, none⟩ = some (.int .i64 1)
  e3 : w.cell? ⟨X, 3, none⟩ = some (.int .u64 1)
  e4 : w.cell? ⟨X, 4, none⟩ = some (.int .i64 0)
theorem EvB.stays {X g cap : Nat} {w w' : World} (h : EvB X g cap w) (k : Stays w w') : EvB X g cap w' := ⟨k _ _ _ h.e0, k _ _ _ h.e1, k _ _ _ h.e2, k _ _ _ h.e3, k _ _ _ h.e4⟩
theorem OneAt.stays {A off : Nat} {w w' : World} (h : OneAt A off w) (k : Stays w w') : OneAt A off w' := ⟨k _ _ _ h.a0, k _ _ _ h.a1, k _ _ _ h.a2⟩
/-- All that the last statement reads. -/
structure Fx (O X E T g cap : Nat) (w : World) : Prop where
  one : OneAt O 0 w
  ev : EvB X g cap w
  sl : EvB E g cap w
  arg : OneAt g 0 w
  t0 : w.cell? ⟨T, 0, none⟩ = some (.slice (some ⟨E, 0, none⟩) 1 1)
  t1 : w.cell? ⟨T, 1, none⟩ = some (.int .i64 1)
  t2 : w.cell? ⟨T, 2, none⟩ = some (.int .i32 0)
  t3 : w.cell? ⟨T, 3, none⟩ = some (.int .i64 0)
theorem Fx.stays {O X E T g cap : Nat} {w w' : World} (h : Fx O X E T g cap w) (k : Stays w w') : Fx O X E T g cap w' :=
  ⟨h.one.stays k, h.ev.stays k, h.sl.stays k, h.arg.stays k, k _ _ _ h.t0, k _ _ _ h.t1, k _ _ _ h.t2, k _ _ _ h.t3⟩
theorem Fx.shown {O X E T g cap : Nat} {w : World} (h : Fx O X E T g cap w) : Shown E 0 g 0 cap w := ⟨h.sl.e0, h.sl.e1, h.sl.e2, h.sl.e3, h.sl.e4, h.arg.a0, h.arg.a1, h.arg.a2⟩
def ev1 (g cap : Nat) : Ev := ⟨put, some ⟨g, 0, none⟩, 1, cap, fun _ => ⟨1, 1, 0⟩, ⟨1, 1, 0⟩⟩
def oc1 (E g cap : Nat) : Oc := ⟨some ⟨E, 0, none⟩, 1, 1, fun _ => ev1 g cap, 1, 0, 0⟩
def oc0 (st : Int) : Oc := ⟨none, 0, 0, fun _ => ev1 0 0, st, 0, 0⟩
theorem Fx.evok {O X E T g cap : Nat} {w : World} (h : Fx O X E T g cap w) (h1 : 1 ≤ cap) (h2 : cap ≤ maxLen) : (ev1 g cap).okAt w :=
  ⟨Or.inr ⟨g, 0, rfl, fun i hi => by
    obtain rfl : i = 0 := by have : i < 1 := hi; omega
    exact ⟨h.arg.a0, h.arg.a1, h.arg.a2⟩⟩, h1, h2⟩
theorem Fx.ocok {O X E T g cap : Nat} {w : World} (h : Fx O X E T g cap w) (h1 : 1 ≤ cap) (h2 : cap ≤ maxLen) : (oc1 E g cap).okAt w :=
  ⟨Or.inr ⟨E, 0, rfl, fun i hi => by
    obtain rfl : i = 0 := by have : i < 1 := hi; omega
    exact ⟨⟨h.sl.e0, h.sl.e1, h.sl.e2, h.sl.e3, h.sl.e4⟩, h.evok h1 h2⟩⟩, Nat.le_refl _, (show (1:Nat) ≤ maxLen by decide)⟩
theorem oc0_ok (st : Int) (w : World) : (oc0 st).okAt w := ⟨Or.inl rfl, Nat.le_refl _, Nat.zero_le _⟩
theorem field_3 (w : World) : Sem.run Tryd.prog (Instr.field 30 (Value.agg #[.int .i64 3, .int .u64 0, .int .i64 0]) 0) w = .ok (.int .i64 3) w := by first | rfl | kernel_rfl
theorem shown_eq : (⟨shown.toArray⟩ : ByteArray) = ⟨#[112, 117, 116, 40, 49, 41, 32, 61, 32, 49, 10, 101, 120, 105, 116, 101, 100, 32, 48, 10]⟩ := by kernel_rfl
theorem se1 (g cap : Nat) : sameE (ev1 g cap) (ev1 g cap) = true := by kernel_rfl
theorem so1 (E g cap : Nat) : sameO (oc1 E g cap) (oc1 E g cap) = true := by kernel_rfl
theorem be1 (E g cap : Nat) : begO (oc0 0) (oc1 E g cap) = true := by kernel_rfl
theorem rf1 (E g cap : Nat) : refO (oc1 E g cap) (oc0 0) = true := by kernel_rfl
theorem rf2 (E g cap : Nat) : refO (oc1 E g cap) (oc0 2) = false := by kernel_rfl
theorem Fx.below {O X E T g cap : Nat} {w w' : World} (h : Fx O X E T g cap w) (k : Below w.heap.size w w') : Fx O X E T g cap w' :=
  h.stays (stays_below k)
theorem refO_lit2 (a b : Oc) (t : Bool) (h : refO a b = t) (w : World) (ha : a.okAt w) (hb : b.okAt w) :
    Calls Tryd.prog 17 #[.agg #[.slice a.p a.n a.cap, .int .i64 a.st, .int .i32 a.code, .int .i64 a.steps], .agg #[.slice b.p b.n b.cap, .int .i64 b.st, .int .i32 b.code, .int .i64 b.steps]] w fun e w' => e = .returned (.bool t) ∧ Fresh w w' := by
  subst h; exact refO_any a b w ha hb
set_option maxRecDepth 100000 in
set_option maxHeartbeats 8000000 in
theorem fixed_any (w : World) : Calls Tryd.prog 6 #[] w fun e w' => e = .returned (.bool true) ∧ Below w.heap.size w w' := by
  go_enter Tryd.func6, Tryd.ntmps6
  go_wp2_with fail
  have f4 : Fresh w ((((w.alloc (.cells #[.int .i64 1, .int .u64 1, .int .i64 0] 30)).alloc (.cells #[.int .i64 1] 3)).alloc (.cells #[.int .i64 1, .int .u64 1, .int .i64 0] 30)).alloc (.cells #[.int .i64 4294967297] 2)) := (by (repeat' first | with_reducible exact Fresh.refl _ | with_reducible assumption | with_reducible refine Fresh.alloc ?_ _ _ | with_reducible refine Fresh.drew ?_ | with_reducible refine Fresh.setCell ?_ ?_ _ | with_reducible refine Fresh.trans ?_ (by assumption) | (simp; done) | (simp; omega)))
  have O4 : OneAt w.heap.size 0 ((((w.alloc (.cells #[.int .i64 1, .int .u64 1, .int .i64 0] 30)).alloc (.cells #[.int .i64 1] 3)).alloc (.cells #[.int .i64 1, .int .u64 1, .int .i64 0] 30)).alloc (.cells #[.int .i64 4294967297] 2)) := ⟨by simp [go_sem], by simp [go_sem], by simp [go_sem]⟩
  have V4 : OneAt (w.heap.size + 1 + 1) 0 ((((w.alloc (.cells #[.int .i64 1, .int .u64 1, .int .i64 0] 30)).alloc (.cells #[.int .i64 1] 3)).alloc (.cells #[.int .i64 1, .int .u64 1, .int .i64 0] 30)).alloc (.cells #[.int .i64 4294967297] 2)) := ⟨by simp [go_sem], by simp [go_sem], by simp [go_sem]⟩
  have p4 : ((((w.alloc (.cells #[.int .i64 1, .int .u64 1, .int .i64 0] 30)).alloc (.cells #[.int .i64 1] 3)).alloc (.cells #[.int .i64 1, .int .u64 1, .int .i64 0] 30)).alloc (.cells #[.int .i64 4294967297] 2)).cell? ⟨w.heap.size + 1, 0, none⟩ = some (.int .i64 1) := by simp [go_sem]
  have c4 : ((((w.alloc (.cells #[.int .i64 1, .int .u64 1, .int .i64 0] 30)).alloc (.cells #[.int .i64 1] 3)).alloc (.cells #[.int .i64 1, .int .u64 1, .int .i64 0] 30)).alloc (.cells #[.int .i64 4294967297] 2)).cell? ⟨w.heap.size + 1 + 1 + 1, 0, none⟩ = some (.int .i64 4294967297) := by simp [go_sem]
  have H4 := Lib.hid (And.intro f4 (And.intro O4 (And.intro V4 (And.intro p4 c4))))
  clear f4 O4 V4 p4 c4
  go_at_call 7; refine (call_1 (w.heap.size + 1) 0 1 (w.heap.size + 1 + 1) 0 1 (w.heap.size + 1 + 1 + 1) 0 1 (by decide) (by decide) (by decide) (by decide) _ H4.out.2.2.2.1 H4.out.2.2.1 H4.out.2.2.2.2).mono ?_; rintro e w5 ⟨g, cap, rfl, k1, k2, k3, k4⟩
  have HC := Lib.hid (And.intro k1 k2)
  have HB5 := Lib.hid (H4.out.1.below.trans (k4.mono H4.out.1.size))
  have HO5 := Lib.hid (H4.out.2.1.below k4)
  have HG5 := Lib.hid k3
  have hz5 : w.heap.size < w5.heap.size := by have := cell_lt HO5.out.a0; simpa using this
  clear k1 k2 k3 k4 H4
  obtain ⟨o0, o1, o2⟩ := HO5.out
  go_wp2_with fail
  clear o0 o1 o2
  have E5 : EvB w5.heap.size g cap ((w5.alloc (.cells #[.string put, .slice (some ⟨g, 0, none⟩) 1 cap, .int .i64 1, .int .u64 1, .int .i64 0] 32)).alloc (.cells #[.int .i64 1, .int .u64 1, .int .i64 0] 30)) := ⟨by simp [go_sem], by simp [go_sem], by simp [go_sem], by simp [go_sem], by simp [go_sem]⟩
  have f5 : Fresh w5 ((w5.alloc (.cells #[.string put, .slice (some ⟨g, 0, none⟩) 1 cap, .int .i64 1, .int .u64 1, .int .i64 0] 32)).alloc (.cells #[.int .i64 1, .int .u64 1, .int .i64 0] 30)) := (by (repeat' first | with_reducible exact Fresh.refl _ | with_reducible assumption | with_reducible refine Fresh.alloc ?_ _ _ | with_reducible refine Fresh.drew ?_ | with_reducible refine Fresh.setCell ?_ ?_ _ | with_reducible refine Fresh.trans ?_ (by assumption) | (simp; done) | (simp; omega)))
  go_at_call 7; refine (call_no (w5.heap.size + 1) 0 1 _).mono ?_; rintro e w6 ⟨rfl, h6⟩
  have HE6 := Lib.hid (E5.stays (stays_frs h6))
  have F6 := Lib.hid (f5.trans h6)
  clear E5 f5 h6
  have hz6 : w5.heap.size < w6.heap.size := by have := cell_lt HE6.out.e0; simpa using this
  have hz7 : w5.heap.size < w6.heap.size + 1 := by omega
  have hz8 : w5.heap.size < w6.heap.size + 1 + 1 := by omega
  have hw6 : w.heap.size < w6.heap.size := by omega
  have hw7 : w.heap.size < w6.heap.size + 1 := by omega
  have hw8 : w.heap.size < w6.heap.size + 1 + 1 := by omega
  have HO6 := Lib.hid (OneAt.stays HO5.out (stays_frs F6.out))
  have HG6 := Lib.hid (OneAt.stays HG5.out (stays_frs F6.out))
  obtain ⟨e0, e1, e2, e3, e4⟩ := HE6.out
  obtain ⟨o0, o1, o2⟩ := HO6.out
  go_wp2_with fail
  clear e0 e1 e2 e3 e4 o0 o1 o2
  have f8 : Fresh w6 (((w6.alloc (.cells #[.string ⟨#[]⟩, .slice none 0 0, .int .i64 0, .int .u64 0, .int .i64 0] 32)).alloc (.cells #[.string put, .slice (some ⟨g, 0, none⟩) 1 cap, .int .i64 1, .int .u64 1, .int .i64 0] 32)).alloc (.cells #[.slice (some ⟨w6.heap.size + 1, 0, none⟩) 1 1, .int .i64 1, .int .i32 0, .int .i64 0] 40)) := (by (repeat' first | with_reducible exact Fresh.refl _ | with_reducible assumption | with_reducible refine Fresh.alloc ?_ _ _ | with_reducible refine Fresh.drew ?_ | with_reducible refine Fresh.setCell ?_ ?_ _ | with_reducible refine Fresh.trans ?_ (by assumption) | (simp; done) | (simp; omega)))
  have FX : Fx w.heap.size w5.heap.size (w6.heap.size + 1) (w6.heap.size + 1 + 1) g cap (((w6.alloc (.cells #[.string ⟨#[]⟩, .slice none 0 0, .int .i64 0, .int .u64 0, .int .i64 0] 32)).alloc (.cells #[.string put, .slice (some ⟨g, 0, none⟩) 1 cap, .int .i64 1, .int .u64 1, .int .i64 0] 32)).alloc (.cells #[.slice (some ⟨w6.heap.size + 1, 0, none⟩) 1 1, .int .i64 1, .int .i32 0, .int .i64 0] 40)) :=
    ⟨HO6.out.stays (stays_frs f8), HE6.out.stays (stays_frs f8), ⟨by simp [go_sem], by simp [go_sem], by simp [go_sem], by simp [go_sem], by simp [go_sem]⟩, HG6.out.stays (stays_frs f8), by simp [go_sem], by simp [go_sem], by simp [go_sem], by simp [go_sem]⟩
  have HF := Lib.hid FX
  have HB8 := Lib.hid (HB5.out.trans ((F6.out.trans f8).below.mono (Nat.le_of_lt hz5)))
  have hz9 : w.heap.size ≤ (((w6.alloc (.cells #[.string ⟨#[]⟩, .slice none 0 0, .int .i64 0, .int .u64 0, .int .i64 0] 32)).alloc (.cells #[.string put, .slice (some ⟨g, 0, none⟩) 1 cap, .int .i64 1, .int .u64 1, .int .i64 0] 32)).alloc (.cells #[.slice (some ⟨w6.heap.size + 1, 0, none⟩) 1 1, .int .i64 1, .int .i32 0, .int .i64 0] 40)).heap.size := by simp; omega
  have HZ := Lib.hid hz9
  clear f8 FX hz9
  go_at_call 19; refine (text_1 (w6.heap.size + 1) 0 1 g 0 cap _ HF.out.shown).mono ?_; rintro e w9 ⟨rfl, k9⟩
  rw [shown_eq]
  have H9 := Lib.hid (HF.out.below k9)
  have B9 := Lib.hid (HB8.out.trans (k9.mono HZ.out))
  clear k9 HF HB8 HZ HO6 HG6 HE6 F6 HB5 HO5 HG5
  obtain ⟨-, ⟨e0, e1, e2, e3, e4⟩, -, -, t0, t1, t2, t3⟩ := H9.out
  go_wp2_with fail
  go_at_call 15; refine (sameO_lit (oc1 (w6.heap.size + 1) g cap) (oc1 (w6.heap.size + 1) g cap) true (so1 _ _ _) _ (H9.out.ocok HC.out.1 HC.out.2) (H9.out.ocok HC.out.1 HC.out.2)).mono ?_; rintro e w10 ⟨rfl, k10⟩
  have H10 := Lib.hid (H9.out.stays (stays_frs k10))
  have B10 := Lib.hid (B9.out.trans (k10.below.mono B9.out.size))
  clear k10 H9 B9 e0 e1 e2 e3 e4 t0 t1 t2 t3
  obtain ⟨-, ⟨e0, e1, e2, e3, e4⟩, -, -, t0, t1, t2, t3⟩ := H10.out
  go_wp2_with fail
  go_at_call 13; refine (begins_lit (oc0 0) (oc1 (w6.heap.size + 1) g cap) true (be1 _ _ _) _ (oc0_ok _ _) (H10.out.ocok HC.out.1 HC.out.2)).mono ?_; rintro e w11 ⟨rfl, k11⟩
  have H11 := Lib.hid (H10.out.stays (stays_frs k11))
  have B11 := Lib.hid (B10.out.trans (k11.below.mono B10.out.size))
  clear k11 H10 B10 e0 e1 e2 e3 e4 t0 t1 t2 t3
  obtain ⟨-, ⟨e0, e1, e2, e3, e4⟩, -, -, t0, t1, t2, t3⟩ := H11.out
  go_wp2_with fail
  go_at_call 10; refine (sameEvent_lit (ev1 g cap) (ev1 g cap) true (se1 _ _) _ (H11.out.evok HC.out.1 HC.out.2) (H11.out.evok HC.out.1 HC.out.2)).mono ?_; rintro e w12 ⟨rfl, k12⟩
  have H12 := Lib.hid (H11.out.stays (stays_frs k12))
  have B12 := Lib.hid (B11.out.trans (k12.below.mono B11.out.size))
  clear k12 H11 B11 e0 e1 e2 e3 e4 t0 t1 t2 t3
  obtain ⟨-, ⟨e0, e1, e2, e3, e4⟩, -, -, t0, t1, t2, t3⟩ := H12.out
  go_wp2_with fail
  go_at_call 17; refine (refO_lit2 (oc1 (w6.heap.size + 1) g cap) (oc0 0) true (rf1 _ _ _) _ (H12.out.ocok HC.out.1 HC.out.2) (oc0_ok _ _)).mono ?_; rintro e w13 ⟨rfl, k13⟩
  have H13 := Lib.hid (H12.out.stays (stays_frs k13))
  have B13 := Lib.hid (B12.out.trans (k13.below.mono B12.out.size))
  clear k13 H12 B12 e0 e1 e2 e3 e4 t0 t1 t2 t3
  obtain ⟨-, ⟨e0, e1, e2, e3, e4⟩, -, -, t0, t1, t2, t3⟩ := H13.out
  go_wp2_with fail
  go_at_call 17; refine (refO_lit2 (oc1 (w6.heap.size + 1) g cap) (oc0 2) false (rf2 _ _ _) _ (H13.out.ocok HC.out.1 HC.out.2) (oc0_ok _ _)).mono ?_; rintro e w14 ⟨rfl, k14⟩
  have H14 := Lib.hid (H13.out.stays (stays_frs k14))
  have B14 := Lib.hid (B13.out.trans (k14.below.mono B13.out.size))
  clear k14 H13 B13 e0 e1 e2 e3 e4 t0 t1 t2 t3
  obtain ⟨-, ⟨e0, e1, e2, e3, e4⟩, -, -, t0, t1, t2, t3⟩ := H14.out
  go_wp2_with fail
  go_at_call 11; refine (answer_3 _).mono ?_; rintro e w15 ⟨rfl, k15⟩
  have B15 := Lib.hid (B14.out.trans (k15.below.mono B14.out.size))
  clear k15
  go_wp2_with fail
  rw [field_3]
  go_wp2_with fail
  all_goals (refine bodyPost_ret (v := ?_) ?_ rfl ?_; rotate_left 1; focus (simp [results, Tryd.results6, go_sem, *]; (try rfl); done))
  exact ⟨rfl, B15.out⟩
end Go.Proofs.YtjbflmpnmobngaaDoor
