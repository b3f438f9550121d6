/- The walk of the statement on order, as far as the fixed calls answer as they should. -/
import Derived.Test.YtjbflmpnmobngaaDoorDe
import Derived.Deep.RegionHeld3
import Derived.Deep.DeepCutAuto
namespace Go.Proofs.YtjbflmpnmobngaaDoor.traceOrder
set_option linter.unusedSimpArgs false
set_option linter.unusedVariables false
open Go.RowKit

def Oc.agg (o : Oc) : Value := .agg #[.slice o.p o.n o.cap, .int .i64 o.st, .int .i32 o.code, .int .i64 o.steps]
/-- An outcome that stands in a block. -/
structure OBox (w : World) (B : Nat) (o : Oc) : Prop where
  c0 : w.cell? ⟨B, 0, none⟩ = some (.slice o.p o.n o.cap)
  c1 : w.cell? ⟨B, 1, none⟩ = some (.int .i64 o.st)
  c2 : w.cell? ⟨B, 2, none⟩ = some (.int .i32 o.code)
  c3 : w.cell? ⟨B, 3, none⟩ = some (.int .i64 o.steps)
theorem OBox.stays {w w' : World} {B : Nat} {o : Oc} (h : OBox w B o) (hf : Stays w w') : OBox w' B o := ⟨hf _ _ _ h.c0, hf _ _ _ h.c1, hf _ _ _ h.c2, hf _ _ _ h.c3⟩
theorem stays_fresh {w w' : World} (h : Fresh w w') : Stays w w' := stays_below h.below
theorem OBox.new (w : World) (o : Oc) : OBox (w.alloc (.cells #[.slice o.p o.n o.cap, .int .i64 o.st, .int .i32 o.code, .int .i64 o.steps] 40)) w.heap.size o :=
  ⟨by simp [go_sem], by simp [go_sem], by simp [go_sem], by simp [go_sem]⟩
theorem refO_lit (a b : Oc) (t : Bool) (h : refO a b = t) (w : World) (ha : a.okAt w) (hb : b.okAt w) :
    Calls Tryd.prog 17 #[.agg #[.slice a.p a.n a.cap, .int .i64 a.st, .int .i32 a.code, .int .i64 a.steps], .agg #[.slice b.p b.n b.cap, .int .i64 b.st, .int .i32 b.code, .int .i64 b.steps]] w fun e w' => e = .returned (.bool t) ∧ Fresh w w' := by
  subst h; exact refO_any a b w ha hb
/-- Three outcomes as they stand. -/
structure Three (w : World) (X Y Z : Nat) (a b c : Oc) : Prop where
  ba : OBox w X a
  bb : OBox w Y b
  bc : OBox w Z c
  oa : a.okAt w
  ob : b.okAt w
  oc : c.okAt w
theorem Three.stays {w w' : World} {X Y Z : Nat} {a b c : Oc} (h : Three w X Y Z a b c) (hf : Stays w w') : Three w' X Y Z a b c :=
  ⟨h.ba.stays hf, h.bb.stays hf, h.bc.stays hf, h.oa.stays hf, h.ob.stays hf, h.oc.stays hf⟩
theorem Three.fresh {w w' : World} {X Y Z : Nat} {a b c : Oc} (h : Three w X Y Z a b c) (hf : Fresh w w') : Three w' X Y Z a b c := h.stays (stays_fresh hf)

set_option maxRecDepth 100000 in
set_option maxHeartbeats 40000000 in
theorem walk (hfix : ∀ w : World, Calls Tryd.prog 6 #[] w fun e w' => e = .returned (.bool true) ∧ Below w.heap.size w w') (a b c : Oc) (w : World) (ha : a.okAt w) (hb : b.okAt w) (hc : c.okAt w) :
    Calls Tryd.prog 5 #[.agg #[.slice a.p a.n a.cap, .int .i64 a.st, .int .i32 a.code, .int .i64 a.steps], .agg #[.slice b.p b.n b.cap, .int .i64 b.st, .int .i32 b.code, .int .i64 b.steps], .agg #[.slice c.p c.n c.cap, .int .i64 c.st, .int .i32 c.code, .int .i64 c.steps]] w
      fun e w' => e = .returned (.bool true) ∧ Below w.heap.size w w' := by
  have HFX := Lib.hid hfix
  clear hfix
  have f1 : Fresh w (w.alloc (.cells #[.slice a.p a.n a.cap, .int .i64 a.st, .int .i32 a.code, .int .i64 a.steps] 40)) := (Fresh.refl w).alloc _ _
  have f2 := f1.alloc #[.slice b.p b.n b.cap, .int .i64 b.st, .int .i32 b.code, .int .i64 b.steps] 40
  have f3 := f2.alloc #[.slice c.p c.n c.cap, .int .i64 c.st, .int .i32 c.code, .int .i64 c.steps] 40
  have t3 : Three (((w.alloc (.cells #[.slice a.p a.n a.cap, .int .i64 a.st, .int .i32 a.code, .int .i64 a.steps] 40)).alloc (.cells #[.slice b.p b.n b.cap, .int .i64 b.st, .int .i32 b.code, .int .i64 b.steps] 40)).alloc (.cells #[.slice c.p c.n c.cap, .int .i64 c.st, .int .i32 c.code, .int .i64 c.steps] 40)) w.heap.size (w.heap.size + 1) (w.heap.size + 1 + 1) a b c := by
    refine ⟨((OBox.new w a).stays (stays_fresh ((Fresh.refl _).alloc _ _))).stays (stays_fresh ((Fresh.refl _).alloc _ _)), ?_, ?_, ha.stays (stays_fresh f3), hb.stays (stays_fresh f3), hc.stays (stays_fresh f3)⟩
    · have := (OBox.new (w.alloc (.cells #[.slice a.p a.n a.cap, .int .i64 a.st, .int .i32 a.code, .int .i64 a.steps] 40)) b).stays (stays_fresh ((Fresh.refl _).alloc #[.slice c.p c.n c.cap, .int .i64 c.st, .int .i32 c.code, .int .i64 c.steps] 40))
      simpa using this
    · have := OBox.new ((w.alloc (.cells #[.slice a.p a.n a.cap, .int .i64 a.st, .int .i32 a.code, .int .i64 a.steps] 40)).alloc (.cells #[.slice b.p b.n b.cap, .int .i64 b.st, .int .i32 b.code, .int .i64 b.steps] 40)) c
      simpa using this
  have T3 := Lib.hid t3
  have F3 := Lib.hid f3
  clear f1 f2 f3 t3 ha hb hc
  go_enter Tryd.func5, Tryd.ntmps5
  go_wp2_with fail
  go_at_call 6; refine (HFX.out _).mono ?_; rintro e w1 ⟨rfl, hb1⟩
  have T := Lib.hid (T3.out.stays (stays_below hb1))
  have HB : Hid (Below w.heap.size w w1) := Lib.hid (F3.out.below.trans (hb1.mono F3.out.size))
  clear hb1 T3 F3
  go_wp2_with fail
  go_cut [7, 8] (fun s7 s8 wx => s7 = .bool (begO a b) ∧ s8 = .bool (begO b a) ∧ Hid (Fresh w1 wx))
  case first =>
    have E : Hid (Fresh w1 w1.drew) := Lib.hid (Fresh.refl w1).drew
    go_region_held3 (fun w' => w'.cell? ⟨w.heap.size, 0, none⟩ = some (.slice a.p a.n a.cap) ∧ w'.cell? ⟨w.heap.size + 1, 0, none⟩ = some (.slice b.p b.n b.cap)) (exact ⟨(T.out.fresh E.out).ba.c0, (T.out.fresh E.out).bb.c0⟩) (first | (go_at_call 13; (with_reducible refine (begins_lit a b (begO a b) rfl _ (T.out.fresh E.out).oa (T.out.fresh E.out).ob).mono ?_); rintro e w2 ⟨rfl, h2⟩; have E := Lib.hid (E.out.trans h2)) | (go_at_call 13; (with_reducible refine (begins_lit b a (begO b a) rfl _ (T.out.fresh E.out).ob (T.out.fresh E.out).oa).mono ?_); rintro e w2 ⟨rfl, h2⟩; have E := Lib.hid (E.out.trans h2)))
    all_goals (go_wp2_with fail; go_meet)
    all_goals exact ⟨rfl, rfl, E⟩
  case rest =>
    obtain ⟨rfl, rfl, E⟩ := hcut
    go_upto_region 4 with fail
    go_cut [7, 8, 59] (fun s7 s8 s59 wx => s59 = .bool false ∧ Hid (Fresh w1 wx))
    case first =>
      obtain ⟨a0, a1, a2, a3⟩ := (T.out.fresh E.out).ba
      go_wp2_with fail
      clear a0 a1 a2 a3
      go_at_call 13; refine (begins_lit a a true (begO_refl a) _ (T.out.fresh E.out).oa (T.out.fresh E.out).oa).mono ?_; rintro e w3 ⟨rfl, h3⟩
      have E3 := Lib.hid (E.out.trans h3)
      clear h3 E
      obtain ⟨a0, a1, a2, a3⟩ := (T.out.fresh E3.out).ba
      obtain ⟨b0, b1, b2, b3⟩ := (T.out.fresh E3.out).bb
      obtain ⟨c0, c1, c2, c3⟩ := (T.out.fresh E3.out).bc
      cases hx : begO a b
      · clear hx
        go_wp2_with fail
        go_meet
        exact ⟨rfl, E3⟩
      · cases hz : begO b c
        · have HZ := Lib.hid hz
          have HXY := Lib.hid (fun hy : begO b a = true => begO_anti hx hy)
          clear hx hz
          cases hy : begO b a
          · clear hy
            go_wp2_with (go_at_call 13; refine (begins_lit b c _ HZ.out _ (T.out.fresh E3.out).ob (T.out.fresh E3.out).oc).mono ?_; rintro e w4 ⟨rfl, h4⟩)
            go_meet
            exact ⟨rfl, Lib.hid (E3.out.trans h4)⟩
          · have hn : ((a.n : Int) != (b.n : Int)) = false := by simp [HXY.out hy]
            clear hy
            go_wp2_with (go_at_call 13; refine (begins_lit b c _ HZ.out _ (T.out.fresh E3.out).ob (T.out.fresh E3.out).oc).mono ?_; rintro e w4 ⟨rfl, h4⟩)
            go_meet
            exact ⟨rfl, Lib.hid (E3.out.trans h4)⟩
        · have HZ := Lib.hid hz
          have HU := Lib.hid (begO_trans hx hz)
          have HXY := Lib.hid (fun hy : begO b a = true => begO_anti hx hy)
          clear hx hz
          cases hy : begO b a
          · clear hy
            go_wp2_with fail
            go_at_call 13; refine (begins_lit b c _ HZ.out _ (T.out.fresh E3.out).ob (T.out.fresh E3.out).oc).mono ?_; rintro e w4 ⟨rfl, h4⟩
            have E4 := Lib.hid (E3.out.trans h4)
            clear h4 a0 a1 a2 a3 b0 b1 b2 b3 c0 c1 c2 c3
            obtain ⟨a0, a1, a2, a3⟩ := (T.out.fresh E4.out).ba
            obtain ⟨c0, c1, c2, c3⟩ := (T.out.fresh E4.out).bc
            go_wp2_with fail
            go_at_call 13; refine (begins_lit a c _ HU.out _ (T.out.fresh E4.out).oa (T.out.fresh E4.out).oc).mono ?_; rintro e w5 ⟨rfl, h5⟩
            go_wp2_with fail
            go_meet
            exact ⟨rfl, Lib.hid (E4.out.trans h5)⟩
          · have hn : ((a.n : Int) != (b.n : Int)) = false := by simp [HXY.out hy]
            clear hy
            go_wp2_with fail
            go_at_call 13; refine (begins_lit b c _ HZ.out _ (T.out.fresh E3.out).ob (T.out.fresh E3.out).oc).mono ?_; rintro e w4 ⟨rfl, h4⟩
            have E4 := Lib.hid (E3.out.trans h4)
            clear h4 a0 a1 a2 a3 b0 b1 b2 b3 c0 c1 c2 c3
            obtain ⟨a0, a1, a2, a3⟩ := (T.out.fresh E4.out).ba
            obtain ⟨c0, c1, c2, c3⟩ := (T.out.fresh E4.out).bc
            go_wp2_with fail
            go_at_call 13; refine (begins_lit a c _ HU.out _ (T.out.fresh E4.out).oa (T.out.fresh E4.out).oc).mono ?_; rintro e w5 ⟨rfl, h5⟩
            go_wp2_with fail
            go_meet
            exact ⟨rfl, Lib.hid (E4.out.trans h5)⟩
    case rest =>
      obtain ⟨rfl, E'⟩ := hcut
      clear E
      obtain ⟨b0, b1, b2, b3⟩ := (T.out.fresh E'.out).bb
      have hst : (b.st = 0 ∨ b.st = 2 ∨ b.st = 3) ∨ (b.st ≠ 0 ∧ b.st ≠ 2 ∧ b.st ≠ 3) := by omega
      rcases hst with hst | ⟨n0, n2, n3⟩
      · have HB2 := Lib.hid (HB.out.trans (E'.out.below.mono HB.out.size))
        rcases hst with h | h | h
        all_goals
          have g0 := Lib.hid h
          clear h
        · have g1 : (b.st == 0) = true := by simp [g0.out]
          go_wp2
          go_returns
          exact ⟨rfl, HB2.out⟩
        · have g1 : (b.st == 0) = false := by simp [g0.out]
          have g2 : (b.st == 3) = false := by simp [g0.out]
          have g3 : (b.st == 2) = true := by simp [g0.out]
          go_wp2
          go_returns
          exact ⟨rfl, HB2.out⟩
        · have g1 : (b.st == 0) = false := by simp [g0.out]
          have g2 : (b.st == 3) = true := by simp [g0.out]
          go_wp2
          go_returns
          exact ⟨rfl, HB2.out⟩
      · have HR := Lib.hid (fun h k => refO_trans (a := a) (b := b) (c := c) n0 n2 n3 h k)
        have g0 : (b.st == 0) = false := by simpa using n0
        have g2 : (b.st == 2) = false := by simpa using n2
        have g3 : (b.st == 3) = false := by simpa using n3
        clear n0 n2 n3
        obtain ⟨a0, a1, a2, a3⟩ := (T.out.fresh E'.out).ba
        go_wp2_with fail
        clear a0 a1 a2 a3 b0 b1 b2 b3
        cases h1 : refO a b
        · have H1 := Lib.hid h1
          clear h1
          go_at_call 17; refine (refO_lit a b _ H1.out _ (T.out.fresh E'.out).oa (T.out.fresh E'.out).ob).mono ?_; rintro e w3 ⟨rfl, h3⟩
          have HB2 := Lib.hid (HB.out.trans ((E'.out.trans h3).below.mono HB.out.size))
          go_wp2
          go_returns
          exact ⟨rfl, HB2.out⟩
        · have H1 := Lib.hid h1
          clear h1
          go_at_call 17; refine (refO_lit a b _ H1.out _ (T.out.fresh E'.out).oa (T.out.fresh E'.out).ob).mono ?_; rintro e w3 ⟨rfl, h3⟩
          have E3 := Lib.hid (E'.out.trans h3)
          clear h3 E'
          obtain ⟨b0, b1, b2, b3⟩ := (T.out.fresh E3.out).bb
          obtain ⟨c0, c1, c2, c3⟩ := (T.out.fresh E3.out).bc
          go_wp2_with fail
          clear b0 b1 b2 b3 c0 c1 c2 c3
          cases h2 : refO b c
          · have H2 := Lib.hid h2
            clear h2
            go_at_call 17; refine (refO_lit b c _ H2.out _ (T.out.fresh E3.out).ob (T.out.fresh E3.out).oc).mono ?_; rintro e w4 ⟨rfl, h4⟩
            have HB2 := Lib.hid (HB.out.trans ((E3.out.trans h4).below.mono HB.out.size))
            go_wp2
            go_returns
            exact ⟨rfl, HB2.out⟩
          · have H2 := Lib.hid h2
            have H3 := Lib.hid (HR.out H1.out h2)
            clear h2
            go_at_call 17; refine (refO_lit b c _ H2.out _ (T.out.fresh E3.out).ob (T.out.fresh E3.out).oc).mono ?_; rintro e w4 ⟨rfl, h4⟩
            have E4 := Lib.hid (E3.out.trans h4)
            clear h4 E3
            obtain ⟨a0, a1, a2, a3⟩ := (T.out.fresh E4.out).ba
            obtain ⟨c0, c1, c2, c3⟩ := (T.out.fresh E4.out).bc
            go_wp2_with fail
            clear a0 a1 a2 a3 c0 c1 c2 c3
            go_at_call 17; refine (refO_lit a c _ H3.out _ (T.out.fresh E4.out).oa (T.out.fresh E4.out).oc).mono ?_; rintro e w5 ⟨rfl, h5⟩
            have HB2 := Lib.hid (HB.out.trans ((E4.out.trans h5).below.mono HB.out.size))
            go_wp2
            go_returns
            exact ⟨rfl, HB2.out⟩
end Go.Proofs.YtjbflmpnmobngaaDoor.traceOrder
