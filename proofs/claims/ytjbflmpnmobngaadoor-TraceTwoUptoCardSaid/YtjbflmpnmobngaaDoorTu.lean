/- TraceTwo's function. -/
import Derived.Test.YtjbflmpnmobngaaDoorTt
import Derived.Test.YtjbflmpnmobngaaDoorTk
import Derived.Test.YtjbflmpnmobngaaDoorDm
namespace Go.Proofs.YtjbflmpnmobngaaDoor
set_option linter.unusedSimpArgs false
set_option linter.unusedVariables false
open Go.RowKit

def Oc.row (o : Oc) : Array Value := #[.slice o.p o.n o.cap, .int .i64 o.st, .int .i32 o.code, .int .i64 o.steps]
/-- Both outcomes in their boxes. -/
structure Q2 (w : World) (a b : Oc) (c d : Nat) (X : World) : Prop where
  ba : Box X c 40 a.row
  bb : Box X d 40 b.row
  oa : a.okAt X
  ob : b.okAt X
  tb : Tab X
  b : Below w.heap.size w X
theorem Q2.below {w : World} {a b : Oc} {c d : Nat} {X Y : World} (h : Q2 w a b c d X) (k : Below X.heap.size X Y) : Q2 w a b c d Y :=
  ⟨h.ba.later k, h.bb.later k, h.oa.stays (stays_below k), h.ob.stays (stays_below k), h.tb.later k, h.b.trans (k.mono h.b.size)⟩
theorem Q2.all {w : World} {p q : Option Addr} {n m cap cap' : Nat} {f g : Nat → Ev} {st code steps st' code' steps' : Int} {c d : Nat} {X : World} (h : Q2 w ⟨p, n, cap, f, st, code, steps⟩ ⟨q, m, cap', g, st', code', steps'⟩ c d X) :
    X.cell? ⟨c, 0, none⟩ = some (.slice p n cap) ∧ X.cell? ⟨c, 1, none⟩ = some (.int .i64 st) ∧ X.cell? ⟨c, 2, none⟩ = some (.int .i32 code) ∧ X.cell? ⟨c, 3, none⟩ = some (.int .i64 steps) ∧ X.cell? ⟨d, 0, none⟩ = some (.slice q m cap') ∧ X.cell? ⟨d, 1, none⟩ = some (.int .i64 st') ∧ X.cell? ⟨d, 2, none⟩ = some (.int .i32 code') ∧ X.cell? ⟨d, 3, none⟩ = some (.int .i64 steps') :=
  ⟨h.ba.cell 0 _ rfl, h.ba.cell 1 _ rfl, h.ba.cell 2 _ rfl, h.ba.cell 3 _ rfl, h.bb.cell 0 _ rfl, h.bb.cell 1 _ rfl, h.bb.cell 2 _ rfl, h.bb.cell 3 _ rfl⟩
set_option maxRecDepth 100000 in
set_option maxHeartbeats 16000000 in
theorem two_any (a b : Oc) (w : World) (ha : a.okAt w) (hb : b.okAt w) (na : a.nums) (ht : Tab w) (hl : (outT a).length ≤ 140737488355328) :
    Calls Tryd.prog 4 #[.agg #[.slice a.p a.n a.cap, .int .i64 a.st, .int .i32 a.code, .int .i64 a.steps], .agg #[.slice b.p b.n b.cap, .int .i64 b.st, .int .i32 b.code, .int .i64 b.steps]] w
      fun e w' => e = .returned (.bool true) ∧ Below w.heap.size w w' := by
  obtain ⟨p, n, cap, f, st, code, steps⟩ := a
  obtain ⟨q, m, cap', g, st', code', steps'⟩ := b
  have Q0 : Hid (Q2 w ⟨p, n, cap, f, st, code, steps⟩ ⟨q, m, cap', g, st', code', steps'⟩ w.heap.size (w.heap.size + 1) ((w.alloc (.cells #[.slice p n cap, .int .i64 st, .int .i32 code, .int .i64 steps] 40)).alloc (.cells #[.slice q m cap', .int .i64 st', .int .i32 code', .int .i64 steps'] 40))) := Lib.hid
    ⟨(Box.new w _ _).later ((Fresh.refl _).alloc _ _).below, by have := Box.new (w.alloc (.cells #[.slice p n cap, .int .i64 st, .int .i32 code, .int .i64 steps] 40)) #[.slice q m cap', .int .i64 st', .int .i32 code', .int .i64 steps'] 40; simpa [Oc.row] using this, ha.later (((Fresh.refl w).alloc _ _).alloc _ _), hb.later (((Fresh.refl w).alloc _ _).alloc _ _), ht.later (((Fresh.refl w).alloc _ _).alloc _ _).below, (((Fresh.refl w).alloc _ _).alloc _ _).below⟩
  obtain ⟨t1, h1⟩ : ∃ t, t = begE n m f g := ⟨_, rfl⟩
  obtain ⟨t2, h2⟩ : ∃ t, t = sameO ⟨p, n, cap, f, st, code, steps⟩ ⟨q, m, cap', g, st', code', steps'⟩ := ⟨_, rfl⟩
  obtain ⟨t3, h3⟩ : ∃ t, t = refO ⟨p, n, cap, f, st, code, steps⟩ ⟨q, m, cap', g, st', code', steps'⟩ := ⟨_, rfl⟩
  obtain ⟨tx, h4⟩ : ∃ t, t = (⟨(outT ⟨p, n, cap, f, st, code, steps⟩).toArray⟩ : ByteArray) := ⟨_, rfl⟩
  have C13 : Hid (∀ X, Q2 w ⟨p, n, cap, f, st, code, steps⟩ ⟨q, m, cap', g, st', code', steps'⟩ w.heap.size (w.heap.size + 1) X → Calls Tryd.prog 13 #[.slice p n cap, .slice q m cap'] X fun e w' => e = .returned (.bool t1) ∧ Below X.heap.size X w') := Lib.hid (fun X h => by
    rw [h1]
    refine (begins_any p q n m cap cap' f g (Nat.le_trans h.oa.2.1 h.oa.2.2) (Nat.le_trans h.ob.2.1 h.ob.2.2) h.oa.2.1 h.ob.2.1 h.ob.2.2 X h.oa.1 h.ob.1).mono ?_
    rintro e w' ⟨rfl, k⟩
    exact ⟨rfl, k.below⟩)
  have C14 : Hid (∀ X, Q2 w ⟨p, n, cap, f, st, code, steps⟩ ⟨q, m, cap', g, st', code', steps'⟩ w.heap.size (w.heap.size + 1) X → Calls Tryd.prog 14 #[.slice p n cap, .slice q m cap'] X fun e w' => e = .returned (.bool t1) ∧ Below X.heap.size X w') := Lib.hid (fun X h => by
    rw [h1]
    refine (beginsR_any p q n m cap cap' f g (Nat.le_trans h.oa.2.1 h.oa.2.2) (Nat.le_trans h.ob.2.1 h.ob.2.2) h.oa.2.1 h.ob.2.1 X h.oa.1 h.ob.1).mono ?_
    rintro e w' ⟨rfl, k⟩
    exact ⟨rfl, k.below⟩)
  have C15 : Hid (∀ X, Q2 w ⟨p, n, cap, f, st, code, steps⟩ ⟨q, m, cap', g, st', code', steps'⟩ w.heap.size (w.heap.size + 1) X → Calls Tryd.prog 15 #[.agg #[.slice p n cap, .int .i64 st, .int .i32 code, .int .i64 steps], .agg #[.slice q m cap', .int .i64 st', .int .i32 code', .int .i64 steps']] X fun e w' => e = .returned (.bool t2) ∧ Below X.heap.size X w') := Lib.hid (fun X h => by
    rw [h2]
    refine (sameO_any _ _ X h.oa h.ob).mono ?_
    rintro e w' ⟨rfl, k⟩
    exact ⟨rfl, k.below⟩)
  have C16 : Hid (∀ X, Q2 w ⟨p, n, cap, f, st, code, steps⟩ ⟨q, m, cap', g, st', code', steps'⟩ w.heap.size (w.heap.size + 1) X → Calls Tryd.prog 16 #[.agg #[.slice p n cap, .int .i64 st, .int .i32 code, .int .i64 steps], .agg #[.slice q m cap', .int .i64 st', .int .i32 code', .int .i64 steps']] X fun e w' => e = .returned (.bool t2) ∧ Below X.heap.size X w') := Lib.hid (fun X h => by
    rw [h2]
    refine (sameOR_any _ _ X h.oa h.ob).mono ?_
    rintro e w' ⟨rfl, k⟩
    exact ⟨rfl, k.below⟩)
  have C17 : Hid (∀ X, Q2 w ⟨p, n, cap, f, st, code, steps⟩ ⟨q, m, cap', g, st', code', steps'⟩ w.heap.size (w.heap.size + 1) X → Calls Tryd.prog 17 #[.agg #[.slice p n cap, .int .i64 st, .int .i32 code, .int .i64 steps], .agg #[.slice q m cap', .int .i64 st', .int .i32 code', .int .i64 steps']] X fun e w' => e = .returned (.bool t3) ∧ Below X.heap.size X w') := Lib.hid (fun X h => by
    rw [h3]
    refine (refO_any _ _ X h.oa h.ob).mono ?_
    rintro e w' ⟨rfl, k⟩
    exact ⟨rfl, k.below⟩)
  have C18 : Hid (∀ X, Q2 w ⟨p, n, cap, f, st, code, steps⟩ ⟨q, m, cap', g, st', code', steps'⟩ w.heap.size (w.heap.size + 1) X → Calls Tryd.prog 18 #[.agg #[.slice p n cap, .int .i64 st, .int .i32 code, .int .i64 steps], .agg #[.slice q m cap', .int .i64 st', .int .i32 code', .int .i64 steps']] X fun e w' => e = .returned (.bool t3) ∧ Below X.heap.size X w') := Lib.hid (fun X h => by
    rw [h3]
    refine (refOR_any _ _ X h.oa h.ob).mono ?_
    rintro e w' ⟨rfl, k⟩
    exact ⟨rfl, k.below⟩)
  have C19 : Hid (∀ X, Q2 w ⟨p, n, cap, f, st, code, steps⟩ ⟨q, m, cap', g, st', code', steps'⟩ w.heap.size (w.heap.size + 1) X → Calls Tryd.prog 19 #[.agg #[.slice p n cap, .int .i64 st, .int .i32 code, .int .i64 steps]] X fun e w' => e = .returned (.string tx) ∧ Below X.heap.size X w') := Lib.hid (fun X h => by
    rw [h4]
    exact textP_any _ X h.oa na h.tb hl)
  have C20 : Hid (∀ X, Q2 w ⟨p, n, cap, f, st, code, steps⟩ ⟨q, m, cap', g, st', code', steps'⟩ w.heap.size (w.heap.size + 1) X → Calls Tryd.prog 20 #[.agg #[.slice p n cap, .int .i64 st, .int .i32 code, .int .i64 steps]] X fun e w' => e = .returned (.string tx) ∧ Below X.heap.size X w') := Lib.hid (fun X h => by
    rw [h4]
    exact textR_any _ X h.oa na hl)
  clear ha hb na ht hl h1 h2 h3 h4
  simp only
  go_enter Tryd.func4, Tryd.ntmps4
  go_upto_region 1 with fail
  generalize ((w.alloc (.cells #[.slice p n cap, .int .i64 st, .int .i32 code, .int .i64 steps] 40)).alloc (.cells #[.slice q m cap', .int .i64 st', .int .i32 code', .int .i64 steps'] 40)) = X at *
  go_wp2_with fail
  go_at_call 6; refine (fixed_any _).mono ?_; rintro e w6 ⟨rfl, k6⟩
  have Q6 := Lib.hid (Q0.out.below k6)
  clear k6
  go_upto_region 3 with fail
  have Qd := Lib.hid (Q6.out.below (Fresh.refl w6).drew.below)
  go_region_held3 (fun w' => w'.cell? ⟨w.heap.size, 0, none⟩ = some (.slice p n cap) ∧ w'.cell? ⟨w.heap.size, 1, none⟩ = some (.int .i64 st) ∧ w'.cell? ⟨w.heap.size, 2, none⟩ = some (.int .i32 code) ∧ w'.cell? ⟨w.heap.size, 3, none⟩ = some (.int .i64 steps) ∧ w'.cell? ⟨w.heap.size + 1, 0, none⟩ = some (.slice q m cap') ∧ w'.cell? ⟨w.heap.size + 1, 1, none⟩ = some (.int .i64 st') ∧ w'.cell? ⟨w.heap.size + 1, 2, none⟩ = some (.int .i32 code') ∧ w'.cell? ⟨w.heap.size + 1, 3, none⟩ = some (.int .i64 steps')) (first | with_reducible exact Qd.out.all | with_reducible exact P13.out.all | with_reducible exact P14.out.all | with_reducible exact P15.out.all | with_reducible exact P16.out.all | with_reducible exact P17.out.all | with_reducible exact P18.out.all | with_reducible exact P19.out.all | with_reducible exact P20.out.all) (first | (go_at_call 13; (with_reducible refine (C13.out _ Qd.out).mono ?_); rintro e w13 ⟨rfl, h13⟩; have P13 := Lib.hid (Qd.out.below h13); clear h13) | (go_at_call 14; (with_reducible refine (C14.out _ P13.out).mono ?_); rintro e w14 ⟨rfl, h14⟩; have P14 := Lib.hid (P13.out.below h14); clear h14) | (go_at_call 15; (with_reducible refine (C15.out _ P14.out).mono ?_); rintro e w15 ⟨rfl, h15⟩; have P15 := Lib.hid (P14.out.below h15); clear h15) | (go_at_call 16; (with_reducible refine (C16.out _ P15.out).mono ?_); rintro e w16 ⟨rfl, h16⟩; have P16 := Lib.hid (P15.out.below h16); clear h16) | (go_at_call 17; (with_reducible refine (C17.out _ P16.out).mono ?_); rintro e w17 ⟨rfl, h17⟩; have P17 := Lib.hid (P16.out.below h17); clear h17) | (go_at_call 18; (with_reducible refine (C18.out _ P17.out).mono ?_); rintro e w18 ⟨rfl, h18⟩; have P18 := Lib.hid (P17.out.below h18); clear h18) | (go_at_call 19; (with_reducible refine (C19.out _ P18.out).mono ?_); rintro e w19 ⟨rfl, h19⟩; have P19 := Lib.hid (P18.out.below h19); clear h19) | (go_at_call 20; (with_reducible refine (C20.out _ P19.out).mono ?_); rintro e w20 ⟨rfl, h20⟩; have P20 := Lib.hid (P19.out.below h20); clear h20))
  all_goals (go_wp2_with fail)
  all_goals go_returns
  all_goals exact ⟨rfl, P20.out.b⟩
end Go.Proofs.YtjbflmpnmobngaaDoor
