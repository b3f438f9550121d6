/- The reference's SameEvent. -/
import Derived.Test.YtjbflmpnmobngaaDoorDb
import Derived.Deep.RegionHeld3
namespace Go.Proofs.YtjbflmpnmobngaaDoor
set_option linter.unusedSimpArgs false
set_option linter.unusedVariables false
open Go.RowKit

/-- Both events in their boxes. -/
structure EvBx (w : World) (b : Nat) (e : Ev) : Prop where
  c0 : w.cell? ⟨b, 0, none⟩ = some (.string e.nm)
  c1 : w.cell? ⟨b, 1, none⟩ = some (.slice e.p e.n e.cap)
  c2 : w.cell? ⟨b, 2, none⟩ = some (.int .i64 e.r.k)
  c3 : w.cell? ⟨b, 3, none⟩ = some (.int .u64 e.r.n)
  c4 : w.cell? ⟨b, 4, none⟩ = some (.int .i64 e.r.b)
theorem EvBx.later {w w' : World} {b : Nat} {e : Ev} (h : EvBx w b e) (hf : Fresh w w') : EvBx w' b e := ⟨hf.at' h.c0, hf.at' h.c1, hf.at' h.c2, hf.at' h.c3, hf.at' h.c4⟩
theorem neq3 {a b : V3} (h : sameV a b = false) : a.k ≠ b.k ∨ a.n ≠ b.n ∨ a.b ≠ b.b := by
  by_cases h1 : a.k = b.k
  · by_cases h2 : a.n = b.n
    · by_cases h3 : a.b = b.b
      · simp [sameV, h1, h2, h3] at h
      · exact Or.inr (Or.inr h3)
    · exact Or.inr (Or.inl h2)
  · exact Or.inl h1
set_option maxRecDepth 100000 in
set_option maxHeartbeats 4000000 in
theorem sameER_loop (nm nm' : ByteArray) (hnm : nm.toList = nm'.toList) (rk rn rb : Int) (p p' : Option Addr) (n cap cap' : Nat) (f f' : Nat → V3) (w : World) (h1 : ValsAt w p n f) (h2 : ValsAt w p' n f') (hn1 : n ≤ cap) (hn2 : n ≤ cap') (hm1 : cap ≤ maxLen) (hm2 : cap' ≤ maxLen) :
    Calls Tryd.prog 9 #[.agg #[.string nm, .slice p n cap, .int .i64 rk, .int .u64 rn, .int .i64 rb], .agg #[.string nm', .slice p' n cap', .int .i64 rk, .int .u64 rn, .int .i64 rb]] w
      fun e w' => e = .returned (.bool (eqV n n f f')) ∧ Fresh w w' := by
  unfold maxLen at hm1 hm2
  have H1 := Lib.hid h1
  have H2 := Lib.hid h2
  clear h1 h2
  go_enter Tryd.func9, Tryd.ntmps9
  go_upto_region 3 with fail
  have F0 : Hid (Fresh w ((w.alloc (.cells #[.string nm, .slice p n cap, .int .i64 rk, .int .u64 rn, .int .i64 rb] 32)).alloc (.cells #[.string nm', .slice p' n cap', .int .i64 rk, .int .u64 rn, .int .i64 rb] 32))) := Lib.hid (by (repeat' first | with_reducible exact Fresh.refl _ | with_reducible assumption | with_reducible refine Fresh.alloc ?_ _ _ | with_reducible refine Fresh.drew ?_ | with_reducible refine Fresh.drewN ?_ _ | with_reducible refine Fresh.setCell ?_ ?_ _ | with_reducible refine Fresh.trans ?_ (by assumption) | (simp; done) | (simp; omega)))
  have B0 : Hid (EvBx ((w.alloc (.cells #[.string nm, .slice p n cap, .int .i64 rk, .int .u64 rn, .int .i64 rb] 32)).alloc (.cells #[.string nm', .slice p' n cap', .int .i64 rk, .int .u64 rn, .int .i64 rb] 32)) w.heap.size ⟨nm, p, n, cap, f, ⟨rk, rn, rb⟩⟩) := Lib.hid ⟨by simp [go_sem], by simp [go_sem], by simp [go_sem], by simp [go_sem], by simp [go_sem]⟩
  have B1 : Hid (EvBx ((w.alloc (.cells #[.string nm, .slice p n cap, .int .i64 rk, .int .u64 rn, .int .i64 rb] 32)).alloc (.cells #[.string nm', .slice p' n cap', .int .i64 rk, .int .u64 rn, .int .i64 rb] 32)) (w.heap.size + 1) ⟨nm', p', n, cap', f', ⟨rk, rn, rb⟩⟩) := Lib.hid ⟨by simp [go_sem], by simp [go_sem], by simp [go_sem], by simp [go_sem], by simp [go_sem]⟩
  generalize ((w.alloc (.cells #[.string nm, .slice p n cap, .int .i64 rk, .int .u64 rn, .int .i64 rb] 32)).alloc (.cells #[.string nm', .slice p' n cap', .int .i64 rk, .int .u64 rn, .int .i64 rb] 32)) = W at *
  generalize w.heap.size + 1 = b1 at *
  generalize w.heap.size = b0 at *
  go_wp2_with fail
  go_loopw [5] (fun i wr => ∃ k : Nat, k ≤ n ∧ i = .int .i64 k ∧ Hid (Fresh W wr) ∧ Hid (∀ j, j < k → sameV (f j) (f' j) = true)) (fun i _ => n - (intOf i).toNat)
  case atStart => exact ⟨0, by omega, rfl, Lib.hid (Fresh.refl W), Lib.hid (fun j hj => by omega)⟩
  case round =>
    obtain ⟨k, hk, rfl, HF, HS⟩ := hrel
    have x1 := (B0.out.later HF.out).c1
    have y1 := (B1.out.later HF.out).c1
    simp only at x1 y1
    by_cases hlt : k < n
    · obtain ⟨B, off, rfl, hc1⟩ := H1.out.resolve_left (by omega)
      obtain ⟨B', off', rfl, hc2⟩ := H2.out.resolve_left (by omega)
      have HG := F0.out.trans HF.out
      obtain ⟨q0, q1, q2⟩ := hc1 k hlt
      obtain ⟨t0, t1, t2⟩ := hc2 k hlt
      have a0 := HG.at' q0
      have a1 := HG.at' q1
      have a2 := HG.at' q2
      have d0 := HG.at' t0
      have d1 := HG.at' t1
      have d2 := HG.at' t2
      have z0 := cell_lt a0
      have z1 := cell_lt d0
      simp only at z0 z1
      clear hc1 hc2 q0 q1 q2 t0 t1 t2 HG
      have hlt' : (k : Int) < (n : Int) := by omega
      obtain ⟨V, hV⟩ : ∃ V, V = f k := ⟨_, rfl⟩
      obtain ⟨V', hV'⟩ : ∃ V, V = f' k := ⟨_, rfl⟩
      rw [← hV] at a0 a1 a2
      rw [← hV'] at d0 d1 d2
      have HV := Lib.hid hV
      have HV' := Lib.hid hV'
      clear hV hV'
      obtain ⟨vk, vn, vb⟩ := V
      obtain ⟨vk', vn', vb'⟩ := V'
      simp only at a0 a1 a2 d0 d1 d2
      by_cases k1 : vk = vk'
      rotate_left
      · have HE : Hid (eqV n n f f' = false) := Lib.hid (eqV_not hlt (by rw [← HV.out, ← HV'.out]; simp [sameV, k1]))
        go_upto_region 6 with fail
        go_region
        go_wp2_with fail
        go_returns
        exact ⟨ret_bool HE.out, F0.out.trans (HF.out.drew)⟩
      by_cases k2 : vn = vn'
      rotate_left
      · have HE : Hid (eqV n n f f' = false) := Lib.hid (eqV_not hlt (by rw [← HV.out, ← HV'.out]; simp [sameV, k1, k2]))
        go_upto_region 6 with fail
        go_region
        go_wp2_with fail
        go_returns
        exact ⟨ret_bool HE.out, F0.out.trans (HF.out.drew)⟩
      by_cases k3 : vb = vb'
      rotate_left
      · have HE : Hid (eqV n n f f' = false) := Lib.hid (eqV_not hlt (by rw [← HV.out, ← HV'.out]; simp [sameV, k1, k2, k3]))
        go_upto_region 6 with fail
        go_region
        go_wp2_with fail
        go_returns
        exact ⟨ret_bool HE.out, F0.out.trans (HF.out.drew)⟩
      have HT : Hid (sameV (f k) (f' k) = true) := Lib.hid (by rw [← HV.out, ← HV'.out]; simp [sameV, k1, k2, k3])
      go_upto_region 6 with fail
      go_region
      go_wp2_with fail
      go_roundw
      case rel => exact ⟨k + 1, by omega, by go_num, Lib.hid HF.out.drew, Lib.hid (fun j hj => by
        by_cases q : j = k
        · rw [q]; exact HT.out
        · exact HS.out j (by omega))⟩
      case measure => simp [intOf]; omega
    · obtain rfl : k = n := by omega
      have HE := Lib.hid (eqV_yes HS.out)
      go_wp2
      go_returns
      exact ⟨ret_bool HE.out, F0.out.trans HF.out⟩
set_option maxRecDepth 100000 in
set_option maxHeartbeats 4000000 in
theorem sameER_any (a b : Ev) (w : World) (ha : a.okAt w) (hb : b.okAt w) :
    Calls Tryd.prog 9 #[.agg #[.string a.nm, .slice a.p a.n a.cap, .int .i64 a.r.k, .int .u64 a.r.n, .int .i64 a.r.b], .agg #[.string b.nm, .slice b.p b.n b.cap, .int .i64 b.r.k, .int .u64 b.r.n, .int .i64 b.r.b]] w
      fun e w' => e = .returned (.bool (sameE a b)) ∧ Fresh w w' := by
  obtain ⟨nm, p, n, cap, f, ⟨rk, rn, rb⟩⟩ := a
  obtain ⟨nm', p', n', cap', f', ⟨rk', rn', rb'⟩⟩ := b
  have HA := Lib.hid ha
  have HB := Lib.hid hb
  clear ha hb
  simp only
  have no : ∀ (h : ¬ (nm.toList = nm'.toList ∧ rk = rk' ∧ rn = rn' ∧ rb = rb' ∧ n = n')), sameE ⟨nm, p, n, cap, f, ⟨rk, rn, rb⟩⟩ ⟨nm', p', n', cap', f', ⟨rk', rn', rb'⟩⟩ = false := by
    intro h
    cases hs : sameE ⟨nm, p, n, cap, f, ⟨rk, rn, rb⟩⟩ ⟨nm', p', n', cap', f', ⟨rk', rn', rb'⟩⟩
    · rfl
    · exfalso
      simp [sameE, sameV, eqV] at hs
      exact h ⟨hs.1, hs.2.1.1, hs.2.1.2.1, hs.2.1.2.2, hs.2.2.1⟩
  have NO := Lib.hid no
  clear no
  by_cases h0 : nm.toList = nm'.toList
  · by_cases h1 : rk = rk'
    · by_cases h2 : rn = rn'
      · by_cases h3 : rb = rb'
        · by_cases h4 : n = n'
          · subst h1 h2 h3 h4
            have := sameER_loop nm nm' h0 rk rn rb p p' n cap cap' f f' w HA.out.1 HB.out.1 HA.out.2.1 HB.out.2.1 HA.out.2.2 HB.out.2.2
            have e : sameE ⟨nm, p, n, cap, f, ⟨rk, rn, rb⟩⟩ ⟨nm', p', n, cap', f', ⟨rk, rn, rb⟩⟩ = eqV n n f f' := by simp [sameE, sameV, h0]
            rw [e]
            exact this
          · have HX := Lib.hid (NO.out (fun h => h4 h.2.2.2.2))
            have hne : ((n : Int) != (n' : Int)) = true := by simp; omega
            clear h4 NO
            subst h1 h2 h3
            go_enter Tryd.func9, Tryd.ntmps9
            go_wp2_with fail
            go_returns
            exact ⟨ret_bool HX.out, (by (repeat' first | with_reducible exact Fresh.refl _ | with_reducible assumption | with_reducible refine Fresh.alloc ?_ _ _ | with_reducible refine Fresh.drew ?_ | with_reducible refine Fresh.drewN ?_ _ | with_reducible refine Fresh.setCell ?_ ?_ _ | with_reducible refine Fresh.trans ?_ (by assumption) | (simp; done) | (simp; omega)))⟩
        · have HX := Lib.hid (NO.out (fun h => h3 h.2.2.2.1))
          clear NO
          subst h1 h2
          go_enter Tryd.func9, Tryd.ntmps9
          go_wp2_with fail
          go_returns
          exact ⟨ret_bool HX.out, (by (repeat' first | with_reducible exact Fresh.refl _ | with_reducible assumption | with_reducible refine Fresh.alloc ?_ _ _ | with_reducible refine Fresh.drew ?_ | with_reducible refine Fresh.drewN ?_ _ | with_reducible refine Fresh.setCell ?_ ?_ _ | with_reducible refine Fresh.trans ?_ (by assumption) | (simp; done) | (simp; omega)))⟩
      · have HX := Lib.hid (NO.out (fun h => h2 h.2.2.1))
        clear NO
        subst h1
        go_enter Tryd.func9, Tryd.ntmps9
        go_wp2_with fail
        go_returns
        exact ⟨ret_bool HX.out, (by (repeat' first | with_reducible exact Fresh.refl _ | with_reducible assumption | with_reducible refine Fresh.alloc ?_ _ _ | with_reducible refine Fresh.drew ?_ | with_reducible refine Fresh.drewN ?_ _ | with_reducible refine Fresh.setCell ?_ ?_ _ | with_reducible refine Fresh.trans ?_ (by assumption) | (simp; done) | (simp; omega)))⟩
    · have HX := Lib.hid (NO.out (fun h => h1 h.2.1))
      clear NO
      go_enter Tryd.func9, Tryd.ntmps9
      go_wp2_with fail
      go_returns
      exact ⟨ret_bool HX.out, (by (repeat' first | with_reducible exact Fresh.refl _ | with_reducible assumption | with_reducible refine Fresh.alloc ?_ _ _ | with_reducible refine Fresh.drew ?_ | with_reducible refine Fresh.drewN ?_ _ | with_reducible refine Fresh.setCell ?_ ?_ _ | with_reducible refine Fresh.trans ?_ (by assumption) | (simp; done) | (simp; omega)))⟩
  · have HX := Lib.hid (NO.out (fun h => h0 h.1))
    clear NO
    go_enter Tryd.func9, Tryd.ntmps9
    go_wp2_with fail
    go_returns
    exact ⟨ret_bool HX.out, (by (repeat' first | with_reducible exact Fresh.refl _ | with_reducible assumption | with_reducible refine Fresh.alloc ?_ _ _ | with_reducible refine Fresh.drew ?_ | with_reducible refine Fresh.drewN ?_ _ | with_reducible refine Fresh.setCell ?_ ?_ _ | with_reducible refine Fresh.trans ?_ (by assumption) | (simp; done) | (simp; omega)))⟩
end Go.Proofs.YtjbflmpnmobngaaDoor
