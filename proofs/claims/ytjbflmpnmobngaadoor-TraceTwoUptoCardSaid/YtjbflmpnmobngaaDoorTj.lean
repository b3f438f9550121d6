/- The reference's Begins, SameTrace. -/
import Derived.Test.YtjbflmpnmobngaaDoorDd
import Derived.Test.YtjbflmpnmobngaaDoorTc
namespace Go.Proofs.YtjbflmpnmobngaaDoor
set_option linter.unusedSimpArgs false
set_option linter.unusedVariables false
open Go.RowKit

/-- An event's cells in a row. -/
structure EvCl (w : World) (B o : Nat) (e : Ev) : Prop where
  c0 : w.cell? ⟨B, o, none⟩ = some (.string e.nm)
  c1 : w.cell? ⟨B, o + 1, none⟩ = some (.slice e.p e.n e.cap)
  c2 : w.cell? ⟨B, o + 2, none⟩ = some (.int .i64 e.r.k)
  c3 : w.cell? ⟨B, o + 3, none⟩ = some (.int .u64 e.r.n)
  c4 : w.cell? ⟨B, o + 4, none⟩ = some (.int .i64 e.r.b)
theorem EvCl.later {w w' : World} {B o : Nat} {e : Ev} (h : EvCl w B o e) (hf : Fresh w w') : EvCl w' B o e := ⟨hf.at' h.c0, hf.at' h.c1, hf.at' h.c2, hf.at' h.c3, hf.at' h.c4⟩
/-- Two events. -/
structure EvTw (w : World) (B o : Nat) (e : Ev) (B' o' : Nat) (e' : Ev) : Prop where
  a : EvCl w B o e
  b : EvCl w B' o' e'
theorem EvTw.later {w w' : World} {B o : Nat} {e : Ev} {B' o' : Nat} {e' : Ev} (h : EvTw w B o e B' o' e') (hf : Fresh w w') : EvTw w' B o e B' o' e' := ⟨h.a.later hf, h.b.later hf⟩
theorem EvTw.all {w : World} {B o : Nat} {e : Ev} {B' o' : Nat} {e' : Ev} (h : EvTw w B o e B' o' e') : w.cell? ⟨B, o, none⟩ = some (.string e.nm) ∧ w.cell? ⟨B, o + 1, none⟩ = some (.slice e.p e.n e.cap) ∧ w.cell? ⟨B, o + 2, none⟩ = some (.int .i64 e.r.k) ∧ w.cell? ⟨B, o + 3, none⟩ = some (.int .u64 e.r.n) ∧ w.cell? ⟨B, o + 4, none⟩ = some (.int .i64 e.r.b) ∧ w.cell? ⟨B', o', none⟩ = some (.string e'.nm) ∧ w.cell? ⟨B', o' + 1, none⟩ = some (.slice e'.p e'.n e'.cap) ∧ w.cell? ⟨B', o' + 2, none⟩ = some (.int .i64 e'.r.k) ∧ w.cell? ⟨B', o' + 3, none⟩ = some (.int .u64 e'.r.n) ∧ w.cell? ⟨B', o' + 4, none⟩ = some (.int .i64 e'.r.b) := ⟨h.a.c0, h.a.c1, h.a.c2, h.a.c3, h.a.c4, h.b.c0, h.b.c1, h.b.c2, h.b.c3, h.b.c4⟩
theorem sameER_lit (a b : Ev) (t : Bool) (h : sameE a b = t) (w : World) (ha : a.okAt w) (hb : b.okAt w) :
    Calls Tryd.prog 9 #[.agg #[.string a.nm, .slice a.p a.n a.cap, .int .i64 a.r.k, .int .u64 a.r.n, .int .i64 a.r.b], .agg #[.string b.nm, .slice b.p b.n b.cap, .int .i64 b.r.k, .int .u64 b.r.n, .int .i64 b.r.b]] w
      fun e w' => e = .returned (.bool t) ∧ Fresh w w' := by
  subst h; exact sameER_any a b w ha hb
set_option maxRecDepth 100000 in
set_option maxHeartbeats 8000000 in
theorem beginsR_any (p q : Option Addr) (n m cap cap' : Nat) (f g : Nat → Ev) (hn : n ≤ maxLen) (hm : m ≤ maxLen) (hc : n ≤ cap) (hc' : m ≤ cap') (w : World) (h1 : EvsAt w p n f) (h2 : EvsAt w q m g) :
    Calls Tryd.prog 14 #[.slice p n cap, .slice q m cap'] w fun e w' => e = .returned (.bool (begE n m f g)) ∧ Fresh w w' := by
  unfold maxLen at hn hm
  by_cases hnm : n ≤ m
  rotate_left
  · have HB : Hid (begE n m f g = false) := Lib.hid (by simp [begE, hnm])
    have hd : (m : Int) < (n : Int) := by omega
    clear h1 h2
    go_enter Tryd.func14, Tryd.ntmps14
    go_wp2_with fail
    go_returns
    exact ⟨ret_bool HB.out, Fresh.refl _⟩
  have hd : ¬ (m : Int) < (n : Int) := by omega
  have H1 := Lib.hid h1
  have H2 := Lib.hid h2
  clear h1 h2
  go_enter Tryd.func14, Tryd.ntmps14
  go_wp2_with fail
  go_loopw [5] (fun i wr => ∃ k : Nat, k ≤ n ∧ i = .int .i64 k ∧ Hid (Fresh w wr) ∧ Hid (∀ j, j < k → sameE (f j) (g j) = true)) (fun i _ => n - (intOf i).toNat)
  case atStart => exact ⟨0, by omega, rfl, Lib.hid (Fresh.refl w), Lib.hid (fun j hj => by omega)⟩
  case round =>
    obtain ⟨k, hk, rfl, HF, HS⟩ := hrel
    by_cases hlt : k < n
    · obtain ⟨B, off, rfl, hc1⟩ := H1.out.resolve_left (by omega)
      obtain ⟨B', off', rfl, hc2⟩ := H2.out.resolve_left (by omega)
      have q1 := hc1 k hlt
      have q2 := hc2 k (by omega)
      have HO := Lib.hid (And.intro (q1.2.later HF.out) (q2.2.later HF.out))
      have HT : Hid (EvTw wr B (off + k * 5) (f k) B' (off' + k * 5) (g k)) := Lib.hid ⟨⟨HF.out.at' q1.1.1, HF.out.at' q1.1.2.1, HF.out.at' q1.1.2.2.1, HF.out.at' q1.1.2.2.2.1, HF.out.at' q1.1.2.2.2.2⟩, ⟨HF.out.at' q2.1.1, HF.out.at' q2.1.2.1, HF.out.at' q2.1.2.2.1, HF.out.at' q2.1.2.2.2.1, HF.out.at' q2.1.2.2.2.2⟩⟩
      have HTd : Hid (EvTw wr.drew B (off + k * 5) (f k) B' (off' + k * 5) (g k)) := Lib.hid (HT.out.later (Fresh.refl wr).drew)
      clear hc1 hc2 q1 q2
      have z0 := cell_lt HT.out.a.c0
      have z1 := cell_lt HT.out.b.c0
      simp only at z0 z1
      have hlt' : (k : Int) < (n : Int) := by omega
      have hlt2 : (k : Int) < (m : Int) := by omega
      have HE : Hid (sameE (f k) (g k) = false → begE n m f g = false) := Lib.hid (fun hs => by simp only [begE]; rw [eqE_not hlt hs]; simp)
      have HY : Hid (sameE (f k) (g k) = true → ∀ j, j < k + 1 → sameE (f j) (g j) = true) := Lib.hid (fun hs j hj => by
        by_cases q : j = k
        · rw [q]; exact hs
        · exact HS.out j (by omega))
      have C : Hid (∀ X, Fresh wr X → Calls Tryd.prog 9 #[.agg #[.string (f k).nm, .slice (f k).p (f k).n (f k).cap, .int .i64 (f k).r.k, .int .u64 (f k).r.n, .int .i64 (f k).r.b], .agg #[.string (g k).nm, .slice (g k).p (g k).n (g k).cap, .int .i64 (g k).r.k, .int .u64 (g k).r.n, .int .i64 (g k).r.b]] X fun e w' => e = .returned (.bool (sameE (f k) (g k))) ∧ Fresh X w') := Lib.hid (fun X hX => sameER_any (f k) (g k) X (HO.out.1.later hX) (HO.out.2.later hX))
      have HD : Hid (Fresh wr wr.drew) := Lib.hid (Fresh.refl wr).drew
      generalize sameE (f k) (g k) = t at *
      generalize f k = E at *
      generalize g k = E' at *
      clear HO HS
      have HTc : Hid (∀ X, Fresh wr X → EvTw X B (off + k * 5) E B' (off' + k * 5) E') := Lib.hid (fun X hX => HT.out.later hX)
      go_upto_region 6 with fail
      cases t
      · go_region_held3 (fun w' => w'.cell? ⟨B, off + k * 5, none⟩ = some (.string E.nm) ∧ w'.cell? ⟨B, off + k * 5 + 1, none⟩ = some (.slice E.p E.n E.cap) ∧ w'.cell? ⟨B, off + k * 5 + 2, none⟩ = some (.int .i64 E.r.k) ∧ w'.cell? ⟨B, off + k * 5 + 3, none⟩ = some (.int .u64 E.r.n) ∧ w'.cell? ⟨B, off + k * 5 + 4, none⟩ = some (.int .i64 E.r.b) ∧ w'.cell? ⟨B', off' + k * 5, none⟩ = some (.string E'.nm) ∧ w'.cell? ⟨B', off' + k * 5 + 1, none⟩ = some (.slice E'.p E'.n E'.cap) ∧ w'.cell? ⟨B', off' + k * 5 + 2, none⟩ = some (.int .i64 E'.r.k) ∧ w'.cell? ⟨B', off' + k * 5 + 3, none⟩ = some (.int .u64 E'.r.n) ∧ w'.cell? ⟨B', off' + k * 5 + 4, none⟩ = some (.int .i64 E'.r.b)) (first | with_reducible exact HTd.out.all | with_reducible exact HT9.out.all) (first | (go_at_call 9; (with_reducible refine (C.out _ HD.out).mono ?_); rintro e w9 ⟨rfl, h9⟩; have F9 := Lib.hid (HD.out.trans h9); have HT9 := Lib.hid (HTc.out _ F9.out); clear h9))
        all_goals (go_wp2_with fail)
        all_goals go_returns
        all_goals exact ⟨ret_bool (HE.out (by simp)), HF.out.trans F9.out⟩
      · go_region_held3 (fun w' => w'.cell? ⟨B, off + k * 5, none⟩ = some (.string E.nm) ∧ w'.cell? ⟨B, off + k * 5 + 1, none⟩ = some (.slice E.p E.n E.cap) ∧ w'.cell? ⟨B, off + k * 5 + 2, none⟩ = some (.int .i64 E.r.k) ∧ w'.cell? ⟨B, off + k * 5 + 3, none⟩ = some (.int .u64 E.r.n) ∧ w'.cell? ⟨B, off + k * 5 + 4, none⟩ = some (.int .i64 E.r.b) ∧ w'.cell? ⟨B', off' + k * 5, none⟩ = some (.string E'.nm) ∧ w'.cell? ⟨B', off' + k * 5 + 1, none⟩ = some (.slice E'.p E'.n E'.cap) ∧ w'.cell? ⟨B', off' + k * 5 + 2, none⟩ = some (.int .i64 E'.r.k) ∧ w'.cell? ⟨B', off' + k * 5 + 3, none⟩ = some (.int .u64 E'.r.n) ∧ w'.cell? ⟨B', off' + k * 5 + 4, none⟩ = some (.int .i64 E'.r.b)) (first | with_reducible exact HTd.out.all | with_reducible exact HT9.out.all) (first | (go_at_call 9; (with_reducible refine (C.out _ HD.out).mono ?_); rintro e w9 ⟨rfl, h9⟩; have F9 := Lib.hid (HD.out.trans h9); have HT9 := Lib.hid (HTc.out _ F9.out); clear h9))
        all_goals (go_wp2_with fail)
        all_goals go_roundw
        all_goals first
          | exact ⟨k + 1, by omega, by go_num, Lib.hid (HF.out.trans F9.out), Lib.hid (HY.out (by simp))⟩
          | (simp [intOf]; omega)
    · obtain rfl : k = n := by omega
      have HE : Hid (begE k m f g = true) := Lib.hid (by simp only [begE]; rw [eqE_yes HS.out]; simp [hnm])
      go_wp2_with fail
      go_returns
      exact ⟨ret_bool HE.out, HF.out⟩
theorem beginsR_lit (a b : Oc) (t : Bool) (h : begO a b = t) (w : World) (ha : a.okAt w) (hb : b.okAt w) :
    Calls Tryd.prog 14 #[.slice a.p a.n a.cap, .slice b.p b.n b.cap] w fun e w' => e = .returned (.bool t) ∧ Fresh w w' := by
  subst h; exact beginsR_any a.p b.p a.n b.n a.cap b.cap a.f b.f (Nat.le_trans ha.2.1 ha.2.2) (Nat.le_trans hb.2.1 hb.2.2) ha.2.1 hb.2.1 w ha.1 hb.1
theorem sameTraceR_any (a b : Oc) (w : World) (ha : a.okAt w) (hb : b.okAt w) :
    Calls Tryd.prog 34 #[.slice a.p a.n a.cap, .slice b.p b.n b.cap] w fun e w' => e = .returned (.bool (eqE a.n b.n a.f b.f)) ∧ Fresh w w' := by
  obtain ⟨t, ht⟩ : ∃ t, t = eqE a.n b.n a.f b.f := ⟨_, rfl⟩
  have hn : a.n = b.n ∨ (a.n ≠ b.n ∧ t = false) := by
    by_cases h : a.n = b.n
    · exact Or.inl h
    · exact Or.inr ⟨h, by rw [ht]; simp [eqE, h]⟩
  have C : Hid (a.n = b.n → Calls Tryd.prog 14 #[.slice a.p a.n a.cap, .slice b.p b.n b.cap] w fun e w' => e = .returned (.bool t) ∧ Fresh w w') := Lib.hid (fun h => beginsR_lit a b t (by rw [ht]; unfold begO begE; rw [h]; simp) w ha hb)
  rw [← ht]
  clear ht ha hb
  obtain ⟨p, n, cap, f, st, code, steps⟩ := a
  obtain ⟨p', n', cap', f', st', code', steps'⟩ := b
  simp only at hn C ⊢
  rcases hn with hn | ⟨hn, rfl⟩
  · subst hn
    have C1 := Lib.hid (C.out (by trivial))
    go_enter Tryd.func34, Tryd.ntmps34
    go_wp2_with fail
    go_at_call 14; refine (C1.out).mono ?_; rintro e w1 ⟨rfl, h1⟩
    go_wp2_with fail
    go_returns
    exact ⟨rfl, h1⟩
  · have hq : ((n : Int) == (n' : Int)) = false := by simp; omega
    go_enter Tryd.func34, Tryd.ntmps34
    go_wp2_with fail
    go_returns
    exact ⟨rfl, Fresh.refl _⟩
theorem sameTraceR_lit (a b : Oc) (t : Bool) (h : eqE a.n b.n a.f b.f = t) (w : World) (ha : a.okAt w) (hb : b.okAt w) :
    Calls Tryd.prog 34 #[.slice a.p a.n a.cap, .slice b.p b.n b.cap] w fun e w' => e = .returned (.bool t) ∧ Fresh w w' := by
  subst h; exact sameTraceR_any a b w ha hb
set_option maxRecDepth 100000 in
set_option maxHeartbeats 4000000 in
/-- The reference's Same. -/
theorem sameOR_any (a b : Oc) (w : World) (ha : a.okAt w) (hb : b.okAt w) :
    Calls Tryd.prog 16 #[.agg #[.slice a.p a.n a.cap, .int .i64 a.st, .int .i32 a.code, .int .i64 a.steps], .agg #[.slice b.p b.n b.cap, .int .i64 b.st, .int .i32 b.code, .int .i64 b.steps]] w fun e w' => e = .returned (.bool (sameO a b)) ∧ Fresh w w' := by
  obtain ⟨t, ht⟩ : ∃ t, t = eqE a.n b.n a.f b.f := ⟨_, rfl⟩
  have C : Hid (∀ X, Fresh w X → Calls Tryd.prog 34 #[.slice a.p a.n a.cap, .slice b.p b.n b.cap] X fun e w' => e = .returned (.bool t) ∧ Fresh X w') := Lib.hid (fun X hX => sameTraceR_lit a b t ht.symm X (ha.later hX) (hb.later hX))
  have HX : Hid (sameO a b = (a.st == b.st && (a.code == b.code && t))) := Lib.hid (by rw [ht]; rfl)
  rw [HX.out]
  clear HX ht ha hb
  obtain ⟨p, n, cap, f, st, code, steps⟩ := a
  obtain ⟨p', n', cap', f', st', code', steps'⟩ := b
  simp only at C ⊢
  by_cases h1 : st = st'
  · by_cases h2 : code = code'
    · subst h1 h2
      have e0 : (st == st && (code == code && t)) = t := by simp
      rw [e0]
      go_enter Tryd.func16, Tryd.ntmps16
      go_wp2_with fail
      go_at_call 34; refine (C.out _ (by (repeat' first | with_reducible exact Fresh.refl _ | with_reducible assumption | with_reducible refine Fresh.alloc ?_ _ _ | with_reducible refine Fresh.drew ?_ | with_reducible refine Fresh.drewN ?_ _ | with_reducible refine Fresh.setCell ?_ ?_ _ | with_reducible refine Fresh.trans ?_ (by assumption) | (simp; done) | (simp; omega)))).mono ?_; rintro e w1 ⟨rfl, h1⟩
      go_wp2_with fail
      go_returns
      exact ⟨rfl, (by (repeat' first | with_reducible exact Fresh.refl _ | with_reducible assumption | with_reducible refine Fresh.alloc ?_ _ _ | with_reducible refine Fresh.drew ?_ | with_reducible refine Fresh.drewN ?_ _ | with_reducible refine Fresh.setCell ?_ ?_ _ | with_reducible refine Fresh.trans ?_ (by assumption) | (simp; done) | (simp; omega)))⟩
    · subst h1
      have e0 : (st == st && (code == code' && t)) = false := by simp [h2]
      rw [e0]
      go_enter Tryd.func16, Tryd.ntmps16
      go_wp2_with fail
      go_returns
      exact ⟨rfl, (by (repeat' first | with_reducible exact Fresh.refl _ | with_reducible assumption | with_reducible refine Fresh.alloc ?_ _ _ | with_reducible refine Fresh.drew ?_ | with_reducible refine Fresh.drewN ?_ _ | with_reducible refine Fresh.setCell ?_ ?_ _ | with_reducible refine Fresh.trans ?_ (by assumption) | (simp; done) | (simp; omega)))⟩
  · have e0 : (st == st' && (code == code' && t)) = false := by simp [h1]
    rw [e0]
    go_enter Tryd.func16, Tryd.ntmps16
    go_wp2_with fail
    go_returns
    exact ⟨rfl, (by (repeat' first | with_reducible exact Fresh.refl _ | with_reducible assumption | with_reducible refine Fresh.alloc ?_ _ _ | with_reducible refine Fresh.drew ?_ | with_reducible refine Fresh.drewN ?_ _ | with_reducible refine Fresh.setCell ?_ ?_ _ | with_reducible refine Fresh.trans ?_ (by assumption) | (simp; done) | (simp; omega)))⟩
end Go.Proofs.YtjbflmpnmobngaaDoor
