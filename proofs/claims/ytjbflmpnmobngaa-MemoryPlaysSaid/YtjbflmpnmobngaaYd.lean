/- Eval2 on both sides: the same plain answer. -/
import Derived.Test.YtjbflmpnmobngaaWc
import Derived.Test.YtjbflmpnmobngaaVg
import Derived.Test.YtjbflmpnmobngaaVl
import Derived.Test.YtjbflmpnmobngaaVo
import Derived.Test.YtjbflmpnmobngaaVi
import Derived.Test.YtjbflmpnmobngaaMy
import Derived.Deep.DeepCutAuto
import Derived.Deep.CutRange
import Derived.Test.YtjbflmpnmobngaaLs
import Derived.Deep.Slices
import Derived.SizedLaws
namespace Go.Proofs.Ytjbflmpnmobngaa
set_option linter.unusedSimpArgs false
set_option linter.unusedVariables false
open Go.RowKit

theorem bEq {a b : Int} (h : a = b) : (a == b) = true := by simpa using h
theorem bEqF {a b : Int} (h : a ≠ b) : (a == b) = false := by simpa using h
theorem bNe {a b : Int} (h : a ≠ b) : (a != b) = true := by simpa using h
theorem bNeF {a b : Int} (h : a = b) : (a != b) = false := by simpa using h
theorem isEq_val (o : Int) (v : Bool) (h : (o == 46 || o == 47) = v) (w : World) : Calls Try.prog 48 #[.int .i64 o] w fun e w' => e = .returned (.bool v) ∧ w = w' := by subst h; exact isEq_any o w
theorem isOrd_val (o : Int) (v : Bool) (h : (decide (48 ≤ o) && decide (o ≤ 55)) = v) (w : World) : Calls Try.prog 50 #[.int .i64 o] w fun e w' => e = .returned (.bool v) ∧ w = w' := by subst h; exact isOrd_any o w
theorem ord_t {o : Int} (h : 48 ≤ o ∧ o ≤ 55) : (decide (48 ≤ o) && decide (o ≤ 55)) = true := by simp [h.1, h.2]
theorem ord_f {o : Int} (h : ¬ (48 ≤ o ∧ o ≤ 55)) : (decide (48 ≤ o) && decide (o ≤ 55)) = false := by
  rw [Bool.and_eq_false_iff, decide_eq_false_iff_not, decide_eq_false_iff_not]; omega
section
variable {w : World} {M T : Nat} {L : Nat → Prop} {made : Int} {S : Int → Option BS} {R : List (Option RB)}
theorem eval_mem (h : Mem w M T L made S) (hr : RelM S made R) (o k n b k' n' b' : Int) (hb : Key b) (hb' : Key b') (hn : 0 ≤ n) (hn' : 0 ≤ n') (x y z : Int) (t : Bool)
    (hv : evF (inR R 4 n b) (inR R 4 n' b') (endsR R n b) (endsR R n' b') o k n b k' n' b' = ((x, y, z), t)) :
    Calls Try.prog 19 #[.pointer (some ⟨M, 0, none⟩), .int .i64 o, .agg #[.int .i64 k, .int .u64 n, .int .i64 b], .agg #[.int .i64 k', .int .u64 n', .int .i64 b']] w fun e w' => e = .returned (.tuple #[.agg #[.int .i64 x, .int .u64 y, .int .i64 z], .bool t]) ∧ Fresh w w' := by
  have E := Lib.hid (EB.start w k n b k' n' b')
  have ev : ∀ {x y z : Int} {t : Bool}, two.eval2L o k n b k' n' b' = ((x, y, z), t) → Hid (∀ X, Calls Try.prog 47 #[.int .i64 o, .agg #[.int .i64 k, .int .u64 n, .int .i64 b], .agg #[.int .i64 k', .int .u64 n', .int .i64 b']] X fun e w' => e = .returned (.tuple #[.agg #[.int .i64 x, .int .u64 y, .int .i64 z], .bool t]) ∧ Fresh X w') := fun e => Lib.hid fun X => by
    have := two.eval2_any o k n b k' n' b' hn hn' X
    rw [e] at this
    exact this
  by_cases hk : k = 4
  · by_cases hk' : k' = 4
    · subst hk hk'
      by_cases ho : o = 46 ∨ o = 47
      · have EQ := Lib.hid (isEq_val o true (by rcases ho with rfl | rfl <;> rfl))
        have OD := Lib.hid (isOrd_val o false (ord_f (by omega)))
        by_cases hbb : b = b'
        · exact p_b o 4 n b 4 n' b' x y z t E rfl rfl (ev ((evF_else (fun e => e.2.1 hbb) (fun e => by omega)).symm.trans hv)) EQ OD (bNeF hbb)
        · have hbn := bNe hbb
          cases i1 : inR R 4 n b with
          | false =>
            exact p_c o 4 n b 4 n' b' x y z t E rfl rfl (ev ((evF_else (fun e => by rw [i1] at e; exact Bool.noConfusion e.2.2.1) (fun e => by omega)).symm.trans hv)) EQ OD (Lib.hid fun X f => in_rel (h.later f) hr n b hb false i1) hbn
          | true =>
            cases i2 : inR R 4 n' b' with
            | false =>
              exact p_d o 4 n b 4 n' b' x y z t E rfl rfl (ev ((evF_else (fun e => by rw [i2] at e; exact Bool.noConfusion e.2.2.2) (fun e => by omega)).symm.trans hv)) EQ OD (Lib.hid fun X f => in_rel (h.later f) hr n b hb true i1) (Lib.hid fun X f => in_rel (h.later f) hr n' b' hb' false i2) hbn
            | true =>
              rw [evF_apart ho hbb i1 i2] at hv
              have I1 := Lib.hid fun X f => in_rel (w := X) (h.later f) hr n b hb true i1
              have I2 := Lib.hid fun X f => in_rel (w := X) (h.later f) hr n' b' hb' true i2
              rcases ho with rfl | rfl
              · simp only [show ¬ (46 : Int) = 47 by decide, if_false, Prod.mk.injEq] at hv
                obtain ⟨⟨rfl, rfl, rfl⟩, rfl⟩ := hv
                exact p_e0 46 4 n b 4 n' b' 1 0 0 true E rfl rfl EQ I1 I2 hbn rfl
              · simp only [if_true, Prod.mk.injEq] at hv
                obtain ⟨⟨rfl, rfl, rfl⟩, rfl⟩ := hv
                exact p_e1 47 4 n b 4 n' b' 1 1 0 true E rfl rfl EQ I1 I2 hbn rfl
      · have EQ := Lib.hid (isEq_val o false (by rw [bEqF (fun e => ho (Or.inl e)), bEqF (fun e => ho (Or.inr e))]; rfl))
        by_cases hd : 48 ≤ o ∧ o ≤ 55
        · have OD := Lib.hid (isOrd_val o true (ord_t hd))
          cases e1 : endsR R n b with
          | false =>
            rw [evF_no hd (fun e => by rw [e1] at e; exact Bool.noConfusion e.1)] at hv
            simp only [Prod.mk.injEq] at hv
            obtain ⟨⟨rfl, rfl, rfl⟩, rfl⟩ := hv
            exact p_f o 4 n b 4 n' b' 0 0 0 false E rfl rfl EQ OD (Lib.hid fun X f => ends_rel (h.later f) hr n b hb false e1)
          | true =>
            cases e2 : endsR R n' b' with
            | false =>
              rw [evF_no hd (fun e => by rw [e2] at e; exact Bool.noConfusion e.2)] at hv
              simp only [Prod.mk.injEq] at hv
              obtain ⟨⟨rfl, rfl, rfl⟩, rfl⟩ := hv
              exact p_g o 4 n b 4 n' b' 0 0 0 false E rfl rfl EQ OD (Lib.hid fun X f => ends_rel (h.later f) hr n b hb true e1) (Lib.hid fun X f => ends_rel (h.later f) hr n' b' hb' false e2)
            | true =>
              exact p_h o 4 n b 4 n' b' x y z t E rfl rfl (ev ((evF_else (fun e => ho e.1) (fun e => e.2 ⟨e1, e2⟩)).symm.trans hv)) EQ OD (Lib.hid fun X f => ends_rel (h.later f) hr n b hb true e1) (Lib.hid fun X f => ends_rel (h.later f) hr n' b' hb' true e2)
        · exact p_a o 4 n b 4 n' b' x y z t E rfl rfl (ev ((evF_else (fun e => ho e.1) (fun e => hd e.1)).symm.trans hv)) EQ (Lib.hid (isOrd_val o false (ord_f hd)))
    · exact p_k2 o k n b k' n' b' x y z t E (ev ((evF_kind (fun e => hk' e.2)).symm.trans hv)) (bNeF hk) (bNe hk')
  · exact p_k1 o k n b k' n' b' x y z t E (ev ((evF_kind (fun e => hk e.1)).symm.trans hv)) (bNe hk)
end
theorem in_nk {R : List (Option RB)} {k n b : Int} (h : inR R k n b = true) : k = 4 := by
  unfold inR at h
  split at h
  · assumption
  · cases h
theorem evalR_any {w : World} {M N : Nat} {v : Value} {L : RL} (h : RMem w M N v L) (o k n b k' n' b' : Int) (ho' : -9223372036854775808 ≤ o ∧ o ≤ 9223372036854775807) (hb : -9223372036854775808 ≤ b ∧ b ≤ 9223372036854775807) (hb' : -9223372036854775808 ≤ b' ∧ b' ≤ 9223372036854775807) (hL : L.length ≤ 2199023255552) (hn : 0 ≤ n) (hN : n < 18446744073709551616) (hn' : 0 ≤ n') (hN' : n' < 18446744073709551616) (x y z : Int) (t : Bool)
    (hv : evF (inR (plainR L) 4 n b) (inR (plainR L) 4 n' b') (endsR (plainR L) n b) (endsR (plainR L) n' b') o k n b k' n' b' = ((x, y, z), t)) :
    Calls Try.prog 20 #[.pointer (some ⟨M, 0, none⟩), .int .i64 o, .agg #[.int .i64 k, .int .u64 n, .int .i64 b], .agg #[.int .i64 k', .int .u64 n', .int .i64 b']] w fun e w' => e = .returned (.tuple #[.agg #[.int .i64 x, .int .u64 y, .int .i64 z], .bool t]) ∧ Fresh w w' := by
  obtain ⟨G, hrow, -⟩ := h.row
  have E := Lib.hid (EB.start w k n b k' n' b')
  have ev : ∀ {x y z : Int} {t : Bool}, two.eval2L o k n b k' n' b' = ((x, y, z), t) → Hid (∀ X, Calls Try.prog 55 #[.int .i64 o, .agg #[.int .i64 k, .int .u64 n, .int .i64 b], .agg #[.int .i64 k', .int .u64 n', .int .i64 b']] X fun e w' => e = .returned (.tuple #[.agg #[.int .i64 x, .int .u64 y, .int .i64 z], .bool t]) ∧ Fresh X w') := fun e => Lib.hid fun X => by
    have := two.reval2_any o k n b k' n' b' hn hN hn' hN' X
    rw [e] at this
    exact this
  have IN : ∀ (k n b : Int) (hb : -9223372036854775808 ≤ b ∧ b ≤ 9223372036854775807) (c : Bool), inR (plainR L) k n b = c → Hid (∀ X, Fresh w X → Calls Try.prog 52 #[.pointer (some ⟨M, 0, none⟩), .agg #[.int .i64 k, .int .u64 n, .int .i64 b]] X fun e w' => e = .returned (.bool c) ∧ Fresh X w') := fun k n b hb c hc => Lib.hid fun X f => by
    subst hc; exact inR_any k n b hb hL X (hrow.fresh f)
  have EN : ∀ (k n b : Int) (hb : -9223372036854775808 ≤ b ∧ b ≤ 9223372036854775807) (c : Bool), endsR (plainR L) n b = c → Hid (∀ X, Fresh w X → Calls Try.prog 54 #[.pointer (some ⟨M, 0, none⟩), .agg #[.int .i64 k, .int .u64 n, .int .i64 b]] X fun e w' => e = .returned (.bool c) ∧ Fresh X w') := fun k n b hb c hc => Lib.hid fun X f => by
    subst hc; exact endsR_any k n b hb hL X (hrow.fresh f)
  have OF := fun hd => Lib.hid (ordered_any o ho' false (ord_f hd))
  have kin : ∀ {k n b : Int}, k ≠ 4 → inR (plainR L) k n b = false := fun {k n b} hk => by
    cases hc : inR (plainR L) k n b with
    | false => rfl
    | true => exact absurd (in_nk hc) hk
  by_cases ho : o = 46 ∨ o = 47
  · have OD := OF (by omega)
    by_cases hbb : b = b'
    · have hev : two.eval2L o k n b k' n' b' = ((x, y, z), t) := by
        by_cases hk : k = 4 ∧ k' = 4
        · obtain ⟨rfl, rfl⟩ := hk
          exact (evF_else (fun e => e.2.1 hbb) (fun e => by omega)).symm.trans hv
        · exact (evF_kind hk).symm.trans hv
      by_cases h6 : o = 46
      · exact r_b6 o k n b k' n' b' x y z t E (ev hev) OD (bEq h6) (bNeF hbb)
      · exact r_b7 o k n b k' n' b' x y z t E (ev hev) OD (bEqF h6) (bEq (by omega)) (bNeF hbb)
    · have hbn := bNe hbb
      cases i1 : inR (plainR L) k n b with
      | false =>
        have hev : two.eval2L o k n b k' n' b' = ((x, y, z), t) := by
          by_cases hk : k = 4 ∧ k' = 4
          · obtain ⟨rfl, rfl⟩ := hk
            exact (evF_else (fun e => by rw [i1] at e; exact Bool.noConfusion e.2.2.1) (fun e => by omega)).symm.trans hv
          · exact (evF_kind hk).symm.trans hv
        by_cases h6 : o = 46
        · exact r_c6 o k n b k' n' b' x y z t E (ev hev) OD (IN k n b hb false i1) (bEq h6) hbn
        · exact r_c7 o k n b k' n' b' x y z t E (ev hev) OD (IN k n b hb false i1) (bEqF h6) (bEq (by omega)) hbn
      | true =>
        obtain rfl := in_nk i1
        cases i2 : inR (plainR L) k' n' b' with
        | false =>
          have hev : two.eval2L o 4 n b k' n' b' = ((x, y, z), t) := by
            by_cases hk : k' = 4
            · subst hk
              exact (evF_else (fun e => by rw [i2] at e; exact Bool.noConfusion e.2.2.2) (fun e => by omega)).symm.trans hv
            · exact (evF_kind (fun e => hk e.2)).symm.trans hv
          by_cases h6 : o = 46
          · exact r_d6 o 4 n b k' n' b' x y z t E (ev hev) OD (IN 4 n b hb true i1) (IN k' n' b' hb' false i2) (bEq h6) hbn
          · exact r_d7 o 4 n b k' n' b' x y z t E (ev hev) OD (IN 4 n b hb true i1) (IN k' n' b' hb' false i2) (bEqF h6) (bEq (by omega)) hbn
        | true =>
          obtain rfl := in_nk i2
          rw [evF_apart ho hbb i1 i2] at hv
          rcases ho with rfl | rfl
          · simp only [show ¬ (46 : Int) = 47 by decide, if_false, Prod.mk.injEq] at hv
            obtain ⟨⟨rfl, rfl, rfl⟩, rfl⟩ := hv
            exact r_e6 46 4 n b 4 n' b' 1 0 0 true E (IN 4 n b hb true i1) (IN 4 n' b' hb' true i2) rfl rfl hbn
          · simp only [if_true, Prod.mk.injEq] at hv
            obtain ⟨⟨rfl, rfl, rfl⟩, rfl⟩ := hv
            exact r_e7 47 4 n b 4 n' b' 1 1 0 true E (IN 4 n b hb true i1) (IN 4 n' b' hb' true i2) rfl rfl hbn
  · have h6 := bEqF (fun e => ho (Or.inl e))
    have h7 := bEqF (fun e => ho (Or.inr e))
    by_cases hd : 48 ≤ o ∧ o ≤ 55
    · have OD := Lib.hid (ordered_any o ho' true (ord_t hd))
      by_cases hk : k = 4
      · by_cases hk' : k' = 4
        · subst hk hk'
          cases e1 : endsR (plainR L) n b with
          | false =>
            rw [evF_no hd (fun e => by rw [e1] at e; exact Bool.noConfusion e.1)] at hv
            simp only [Prod.mk.injEq] at hv
            obtain ⟨⟨rfl, rfl, rfl⟩, rfl⟩ := hv
            exact r_f o 4 n b 4 n' b' 0 0 0 false E OD (EN 4 n b hb false e1) h6 h7 rfl rfl
          | true =>
            cases e2 : endsR (plainR L) n' b' with
            | false =>
              rw [evF_no hd (fun e => by rw [e2] at e; exact Bool.noConfusion e.2)] at hv
              simp only [Prod.mk.injEq] at hv
              obtain ⟨⟨rfl, rfl, rfl⟩, rfl⟩ := hv
              exact r_g o 4 n b 4 n' b' 0 0 0 false E OD (EN 4 n b hb true e1) (EN 4 n' b' hb' false e2) h6 h7 rfl rfl
            | true =>
              exact r_h o 4 n b 4 n' b' x y z t E (ev ((evF_else (fun e => ho e.1) (fun e => e.2 ⟨e1, e2⟩)).symm.trans hv)) OD (EN 4 n b hb true e1) (EN 4 n' b' hb' true e2) h6 h7 rfl rfl
        · exact r_k2 o k n b k' n' b' x y z t E (ev ((evF_kind (fun e => hk' e.2)).symm.trans hv)) OD h6 h7 (bEq hk) (bEqF hk')
      · exact r_k1 o k n b k' n' b' x y z t E (ev ((evF_kind (fun e => hk e.1)).symm.trans hv)) OD h6 h7 (bEqF hk)
    · have hev : two.eval2L o k n b k' n' b' = ((x, y, z), t) := by
        by_cases hk : k = 4 ∧ k' = 4
        · obtain ⟨rfl, rfl⟩ := hk
          exact (evF_else (fun e => ho e.1) (fun e => hd e.1)).symm.trans hv
        · exact (evF_kind hk).symm.trans hv
      exact r_o o k n b k' n' b' x y z t E (ev hev) (OF hd) h6 h7
end Go.Proofs.Ytjbflmpnmobngaa
/- The reference's memory: Load, whatever is asked. -/
namespace Go.Proofs.Ytjbflmpnmobngaa
set_option linter.unusedSimpArgs false
set_option linter.unusedVariables false
open Go.RowKit

section
set_option maxRecDepth 100000
set_option maxHeartbeats 4000000
theorem load_no {w : World} {M N : Nat} {v : Value} {L : RL} (h : RMem w M N v L) (c k n b : Int) (hb : -9223372036854775808 ≤ b ∧ b ≤ 9223372036854775807) (hL : L.length ≤ 2199023255552) (hr : reachR (plainR L) c k n b = none) :
    Calls Try.prog 16 #[.pointer (some ⟨M, 0, none⟩), .int .i64 c, .agg #[.int .i64 k, .int .u64 n, .int .i64 b]] w fun e w' => e = .returned (.tuple #[.agg #[.int .i64 0, .int .u64 0, .int .i64 0], .bool false]) ∧ Fresh w w' := by
  obtain ⟨G, hrow, hv⟩ := h.row
  have f2 : Fresh w ((w.alloc (.cells #[.int .i64 k, .int .u64 n, .int .i64 b] 32)).alloc (.cells #[.int .i64 0, .int .u64 0, .int .i64 0] 32)) := ((Fresh.refl w).alloc _ _).alloc _ _
  have hzs : ∀ b r, getR (plainR L) b = some r → r.sz ≤ 16777216 := fun b r hg => by
    obtain ⟨q, hd, f, rfl, hq, hi⟩ := getR_some hg
    exact (h.live q r hd f hi).2.2.2
  have re := reaches_any c k n b hb hL hzs _ (hrow.fresh f2)
  rw [hr] at re
  simp only [offV] at re
  have RE := Lib.hid re
  have S0 := Lib.hid (fun w' f => LS.start (w' := w') w k n b ⟨0, fun _ => 0, fun _ => 0, fun _ => none, false⟩ 0 f)
  have hzf : Hid (∀ o, w.frozen? ⟨w.heap.size + 1, o, none⟩ = false) := Lib.hid (fun o => by simp [World.frozen?])
  clear hr h hrow hv f2 hzs hb re
  go_enter Try.func16, Try.ntmps16
  go_wp2_with fail
  go_at_call 36; refine (RE.out).mono ?_; rintro e w1 ⟨rfl, h1⟩
  have Y := Lib.hid (S0.out _ h1)
  clear h1 RE S0
  have q0 := Y.out.z.c0
  have q1 := Y.out.z.c1
  have q2 := Y.out.z.c2
  have qf := fun o => Y.out.zf hzf.out o
  go_wp2_with fail
  all_goals (refine bodyPost_ret (v := ?_) ?_ rfl ?_; rotate_left 1; focus (simp [results, Try.results16, go_sem, *]; (try rfl); done))
  all_goals exact ⟨rfl, (by (repeat' first | with_reducible exact Y.out.fr | with_reducible refine Fresh.alloc ?_ _ _ | with_reducible refine Fresh.drew ?_ | with_reducible refine Fresh.setCell ?_ ?_ _ | (simp; done) | (simp; omega)))⟩
theorem loadR_any {w : World} {M N : Nat} {v : Value} {L : RL} (h : RMem w M N v L) (c k n b : Int) (hb : -9223372036854775808 ≤ b ∧ b ≤ 9223372036854775807) (hL : L.length ≤ 2199023255552) (x y z : Int) (t : Bool) (hv : loadR (plainR L) c k n b = ((x, y, z), t)) :
    Calls Try.prog 16 #[.pointer (some ⟨M, 0, none⟩), .int .i64 c, .agg #[.int .i64 k, .int .u64 n, .int .i64 b]] w fun e w' => e = .returned (.tuple #[.agg #[.int .i64 x, .int .u64 y, .int .i64 z], .bool t]) ∧ Fresh w w' := by
  unfold loadR at hv
  cases hr : reachR (plainR L) c k n b with
  | none =>
    rw [hr] at hv
    injection hv with hv ht
    injection hv with hx hv
    injection hv with hy hz
    subst hx hy hz ht
    exact load_no h c k n b hb hL hr
  | some s =>
    obtain ⟨r, off⟩ := s
    obtain ⟨hk, hg, hs0, hs1, hal⟩ := reachR_some hr
    subst hk
    rw [hr] at hv
    simp only [Prod.mk.injEq] at hv
    obtain ⟨hv, ht⟩ := hv
    subst ht
    have hsz := sizeL_cases c
    have := load_loops h c n b hb hL r off (sizeL c).toNat hr (by omega) (by omega)
    rw [hv] at this
    exact this
end
end Go.Proofs.Ytjbflmpnmobngaa
/- The reference's memory: Store, whatever is asked. -/
namespace Go.Proofs.Ytjbflmpnmobngaa
set_option linter.unusedSimpArgs false
set_option linter.unusedVariables false
open Go.RowKit

theorem storeR_any {w : World} {M N : Nat} {v : Value} {L : RL} (h : RMem w M N v L) (c k n b k' n' b' : Int) (hn' : 0 ≤ n') (hN : N + 8 ≤ maxLen) (hb : -9223372036854775808 ≤ b ∧ b ≤ 9223372036854775807) (hL : L.length ≤ 2199023255552) :
    Calls Try.prog 18 #[.pointer (some ⟨M, 0, none⟩), .int .i64 c, .agg #[.int .i64 k, .int .u64 n, .int .i64 b], .agg #[.int .i64 k', .int .u64 n', .int .i64 b']] w fun e w' => e = .returned (.bool (storeR (plainR L) c k n b k' n' b').1) ∧ LeftR M v L (storeR (plainR L) c k n b k' n' b').2 (N + 8) w w' := by
  cases hr : reachR (plainR L) c k n b with
  | none =>
    have e : storeR (plainR L) c k n b k' n' b' = (false, plainR L) := by unfold storeR; rw [hr]
    rw [e]
    refine (store_no h c k n b k' n' b' hb hL hr).mono ?_
    rintro e w' ⟨he, hf⟩
    exact ⟨he, Left.same h hf (by omega)⟩
  | some s =>
    obtain ⟨r, off⟩ := s
    obtain ⟨hk, hg, hs0, hs1, hal⟩ := reachR_hit hr
    subst hk
    have hsz := sizeL_cases c
    exact store_yes h c n b k' n' b' hn' hN hb hL r off (sizeL c).toNat hr (by omega) (by omega)
end Go.Proofs.Ytjbflmpnmobngaa
/- Two memories beside one another. -/
namespace Go.Proofs.Ytjbflmpnmobngaa
set_option linter.unusedSimpArgs false
set_option linter.unusedVariables false
open Go.RowKit

variable {W w w' : World} {M T : Nat} {L L' : Nat → Prop} {made : Int} {S : Int → Option BS}
/-- What turned is none of its own; what is not its own may be more since, where it was laid since. -/
theorem Mem.beside {F : Nat → Prop} (h : Mem w M T L made S) (ht : Touch F w w') (hF : ∀ k, F k → L k) (hL : ∀ k, L' k → L k ∨ w.heap.size ≤ k ∧ k < w'.heap.size) : Mem w' M T L' made S := by
  obtain ⟨mb, N, f, o, h⟩ := h
  have nM : ¬ F M := fun e => h.lM (hF _ e)
  have nmb : ¬ F mb := fun e => h.lmb (hF _ e)
  refine ⟨mb, N, f, o, h.rep.kept (ht.block M h.rep.ltM nM) (ht.block mb h.rep.ltmb nmb), h.nT, h.non, fun i B hi => ?_, h.apart, fun i B hi k hk => ⟨(h.own i B hi k hk).1, (h.own i B hi k hk).2.1, fun hl => ?_⟩, fun hl => ?_, fun hl => ?_, fun k hl => ?_⟩
  · obtain ⟨s, hs, hB⟩ := h.som i B hi
    exact ⟨s, hs, hB.touched ht fun k hk e => (h.own i B hi k hk).2.2 (hF _ e)⟩
  · rcases hL k hl with g | g
    · exact (h.own i B hi k hk).2.2 g
    · have := h.ownlt hi hk; omega
  · rcases hL M hl with g | g
    · exact h.lM g
    · have := h.rep.ltM; omega
  · rcases hL mb hl with g | g
    · exact h.lmb g
    · have := h.rep.ltmb; omega
  · rcases hL k hl with g | g
    · exact Nat.lt_of_lt_of_le (h.lt k g) ht.size
    · exact g.2
/-- The program's memory, the reference's, and boxes P of the caller's; all laid since W. -/
structure Two (W w : World) (P : Nat → Prop) (M T : Nat) (made : Int) (S : Int → Option BS) (M2 N : Nat) (v : Value) (Lr : RL) : Prop where
  mem : Mem w M T (fun k => k < W.heap.size ∨ ownQ M2 v Lr k ∨ P k) made S
  ref : RMem w M2 N v Lr
  fr : Touch (fun k => W.heap.size ≤ k) W w
  ge : ∀ k, ownQ M2 v Lr k → W.heap.size ≤ k
  px : ∀ k, P k → W.heap.size ≤ k ∧ k < w.heap.size ∧ ¬ ownQ M2 v Lr k
variable {P : Nat → Prop} {M2 N : Nat} {v : Value} {Lr : RL}
theorem Two.out (h : Two W w P M T made S M2 N v Lr) : Fresh W w := Touch.fresh_of (Fresh.refl W) h.fr (fun _ h => h)
/-- A call of the program's memory. -/
theorem Two.prog (h : Two W w P M T made S M2 N v Lr) {T' : Nat} {made' : Int} {S' : Int → Option BS} (hl : Leaves M T' (fun k => k < W.heap.size ∨ ownQ M2 v Lr k ∨ P k) made' S' w w') :
    Two W w' P M T' made' S' M2 N v Lr ∧ Touch (fun k => ¬ P k) w w' := by
  obtain ⟨hm, ht⟩ := hl
  refine ⟨⟨hm, h.ref.touched ht (fun k hk e => e (Or.inr (Or.inl hk))), h.fr.trans (ht.mono fun k hk => Nat.le_of_not_lt fun g => hk (Or.inl g)), h.ge, fun k hk => ⟨(h.px k hk).1, Nat.lt_of_lt_of_le (h.px k hk).2.1 ht.size, (h.px k hk).2.2⟩⟩, ht.mono fun k hk g => hk (Or.inr (Or.inr g))⟩
/-- What makes new memory alone. -/
theorem Two.fresh (h : Two W w P M T made S M2 N v Lr) (hf : Fresh w w') : Two W w' P M T made S M2 N v Lr ∧ Touch (fun k => ¬ P k) w w' := h.prog ⟨h.mem.later hf, hf.touch _⟩
/-- A call of the reference's memory. -/
theorem Two.refc (h : Two W w P M T made S M2 N v Lr) {R' : List (Option RB)} {N' : Nat} (hl : LeftR M2 v Lr R' N' w w') :
    ∃ v' Lr', plainR Lr' = R' ∧ Two W w' P M T made S M2 N' v' Lr' ∧ Touch (fun k => ¬ P k) w w' := by
  obtain ⟨v', L', hm, hR, ht, ho⟩ := hl
  have ge' : ∀ k, ownQ M2 v' L' k → W.heap.size ≤ k := fun k hk => by
    rcases ho k hk with g | g
    · exact h.ge k g
    · exact Nat.le_trans h.out.size g
  refine ⟨v', L', hR, ⟨h.mem.beside ht (fun k hk => Or.inr (Or.inl hk)) (fun k hk => ?_), hm, h.fr.trans (ht.mono fun k hk => h.ge k hk), ge', fun k hk => ⟨(h.px k hk).1, Nat.lt_of_lt_of_le (h.px k hk).2.1 ht.size, fun g => ?_⟩⟩, ht.mono fun k hk g => (h.px k g).2.2 hk⟩
  · rcases hk with g | g | g
    · exact Or.inl (Or.inl g)
    · rcases ho k g with q | q
      · exact Or.inl (Or.inr (Or.inl q))
      · exact Or.inr ⟨q, own_lt hm k g⟩
    · exact Or.inl (Or.inr (Or.inr g))
  · rcases ho k g with q | q
    · exact (h.px k hk).2.2 q
    · have := (h.px k hk).2.1; omega
/-- A box more. -/
theorem Two.box (h : Two W w P M T made S M2 N v Lr) (c : Array Value) (t : TypeId) : Two W (w.alloc (.cells c t)) (fun k => P k ∨ k = w.heap.size) M T made S M2 N v Lr := by
  have hf : Fresh w (w.alloc (.cells c t)) := (Fresh.refl w).alloc _ _
  refine ⟨h.mem.beside (F := fun _ => False) (hf.touch _) (fun _ e => e.elim) (fun k hk => ?_), h.ref.fresh hf, h.fr.fresh hf, h.ge, fun k hk => ?_⟩
  · rcases hk with g | g | g | g
    · exact Or.inl (Or.inl g)
    · exact Or.inl (Or.inr (Or.inl g))
    · exact Or.inl (Or.inr (Or.inr g))
    · exact Or.inr ⟨by omega, by simp; omega⟩
  · rcases hk with g | g
    · exact ⟨(h.px k g).1, Nat.lt_of_lt_of_le (h.px k g).2.1 hf.size, (h.px k g).2.2⟩
    · refine ⟨by have := h.out.size; omega, by simp; omega, fun q => by have := own_lt h.ref k q; omega⟩
/-- Boxes are forgotten. -/
theorem Two.less (h : Two W w P M T made S M2 N v Lr) {P' : Nat → Prop} (hp : ∀ k, P' k → P k) : Two W w P' M T made S M2 N v Lr :=
  ⟨h.mem.beside (F := fun _ => False) ((Fresh.refl w).touch _) (fun _ e => e.elim) (fun k hk => Or.inl (hk.imp id (Or.imp id (hp k)))), h.ref, h.fr, h.ge, fun k hk => h.px k (hp k hk)⟩
theorem Two.mono (h : Two W w P M T made S M2 N v Lr) {T' N' : Nat} (hT : T ≤ T') (hN : N ≤ N') : Two W w P M T' made S M2 N' v Lr :=
  ⟨h.mem.mono hT, h.ref.mono hN, h.fr, h.ge, h.px⟩
/-- A box of nine values: one call of the script. -/
structure B9 (w : World) (B : Nat) (c0 c1 c2 k n b k' n' b' : Int) : Prop where
  size : B < w.heap.size
  c0 : w.cell? ⟨B, 0, none⟩ = some (.int .i64 c0)
  c1 : w.cell? ⟨B, 1, none⟩ = some (.int .i64 c1)
  c2 : w.cell? ⟨B, 2, none⟩ = some (.int .i64 c2)
  c3 : w.cell? ⟨B, 3, none⟩ = some (.int .i64 k)
  c4 : w.cell? ⟨B, 4, none⟩ = some (.int .u64 n)
  c5 : w.cell? ⟨B, 5, none⟩ = some (.int .i64 b)
  c6 : w.cell? ⟨B, 6, none⟩ = some (.int .i64 k')
  c7 : w.cell? ⟨B, 7, none⟩ = some (.int .u64 n')
  c8 : w.cell? ⟨B, 8, none⟩ = some (.int .i64 b')
theorem B9.keep {B : Nat} {c0 c1 c2 k n b k' n' b' : Int} {F : Nat → Prop} (h : B9 w B c0 c1 c2 k n b k' n' b') (ht : Touch F w w') (hB : ¬ F B) : B9 w' B c0 c1 c2 k n b k' n' b' :=
  ⟨Nat.lt_of_lt_of_le h.size ht.size, ht.cellOf hB h.c0, ht.cellOf hB h.c1, ht.cellOf hB h.c2, ht.cellOf hB h.c3, ht.cellOf hB h.c4, ht.cellOf hB h.c5, ht.cellOf hB h.c6, ht.cellOf hB h.c7, ht.cellOf hB h.c8⟩
theorem B9.new (w : World) (c0 c1 c2 k n b k' n' b' : Int) : B9 (w.alloc (.cells #[.int .i64 c0, .int .i64 c1, .int .i64 c2, .int .i64 k, .int .u64 n, .int .i64 b, .int .i64 k', .int .u64 n', .int .i64 b'] 34)) w.heap.size c0 c1 c2 k n b k' n' b' :=
  ⟨by simp, by simp [go_sem], by simp [go_sem], by simp [go_sem], by simp [go_sem], by simp [go_sem], by simp [go_sem], by simp [go_sem], by simp [go_sem], by simp [go_sem]⟩
theorem Own.keep {B : Nat} {k n b : Int} {F : Nat → Prop} (h : Own w B k n b) (ht : Touch F w w') (hB : ¬ F B) : Own w' B k n b :=
  ⟨Nat.lt_of_lt_of_le h.size ht.size, ht.cellOf hB h.c0, ht.cellOf hB h.c1, ht.cellOf hB h.c2⟩
end Go.Proofs.Ytjbflmpnmobngaa
/- The calls of either memory, beside the other. -/
namespace Go.Proofs.Ytjbflmpnmobngaa
set_option linter.unusedSimpArgs false
set_option linter.unusedVariables false
open Go.RowKit

section
set_option maxRecDepth 100000
theorem allocR_no (M : Nat) (size : Int) (h : size < 0 ∨ 16777216 < size) (w : World) :
    Calls Try.prog 10 #[.pointer (some ⟨M, 0, none⟩), .int .i64 size] w fun e w' => e = .returned (.int .i64 0) ∧ w = w' := by
  rcases h with h | h
  · have d0 : decide (size < 0) = true := decide_eq_true h
    clear h
    go_enter Try.func10, Try.ntmps10
    go_wp2_with fail
    all_goals (go_ret; exact ⟨rfl, rfl⟩)
  · have d0 : ¬ size < 0 := by omega
    have d1 : 16777216 < size := h
    clear h
    go_enter Try.func10, Try.ntmps10
    go_wp2_with fail
    all_goals (go_ret; exact ⟨rfl, rfl⟩)
end
variable {W w : World} {P : Nat → Prop} {M T : Nat} {made : Int} {S : Int → Option BS} {M2 N : Nat} {v : Value} {Lr : RL}
/-- What a call of the program's memory leaves, beside the reference's. -/
def StepP (W w : World) (P : Nat → Prop) (M T : Nat) (made : Int) (S : Int → Option BS) (M2 N : Nat) (v : Value) (Lr : RL) (x : Value) (e : Ending) (w' : World) : Prop :=
  e = .returned x ∧ Two W w' P M T made S M2 N v Lr ∧ Touch (fun k => ¬ P k) w w'
/-- What a call of the reference's leaves. -/
def StepR (W w : World) (P : Nat → Prop) (M T : Nat) (made : Int) (S : Int → Option BS) (M2 N : Nat) (R : List (Option RB)) (x : Value) (e : Ending) (w' : World) : Prop :=
  e = .returned x ∧ ∃ v' Lr', plainR Lr' = R ∧ Two W w' P M T made S M2 N v' Lr' ∧ Touch (fun k => ¬ P k) w w'
theorem Two.c9 (h : Two W w P M T made S M2 N v Lr) (size : Int) (hT : T < maxLen) (hmd : made ≤ 2199023255552) (h0 : 0 ≤ size) (hs : size ≤ 16777216) :
    Calls Try.prog 9 #[.pointer (some ⟨M, 0, none⟩), .int .i64 size] w (StepP W w P M (T + 1) (made + 1) (putS S (made + 1) ⟨size, false, noCell, noPtr⟩) M2 N v Lr (.int .i64 (made + 1))) := by
  refine (alloc_mem h.mem hT hmd size h0 hs).mono ?_
  rintro e w' ⟨he, hl⟩
  exact ⟨he, h.prog hl⟩
theorem Two.c10 (h : Two W w P M T made S M2 N v Lr) (size : Nat) (hs : size ≤ 16777216) (hL : Lr.length < 2199023255552) (m : Int) (hm : m = Lr.length) :
    Calls Try.prog 10 #[.pointer (some ⟨M2, 0, none⟩), .int .i64 (size : Int)] w (StepR W w P M T made S M2 N (plainR Lr ++ [some (zRB size)]) (.int .i64 (m + 1))) := by
  subst hm
  refine (allocR_yes h.ref size hs hL).mono ?_
  rintro e w' ⟨he, hl⟩
  exact ⟨he, h.refc hl⟩
theorem Two.c10z (h : Two W w P M T made S M2 N v Lr) (hL : Lr.length < 2199023255552) (m : Int) (hm : m = Lr.length) :
    Calls Try.prog 10 #[.pointer (some ⟨M2, 0, none⟩), .int .i64 0] w (StepR W w P M T made S M2 N (plainR Lr ++ [some (zRB 0)]) (.int .i64 (m + 1))) := h.c10 0 (by omega) hL m hm
theorem Two.c11 (h : Two W w P M T made S M2 N v Lr) (n : Int) (hn : Key n) (x : Bool) (hx : (freeS S n).1 = x) :
    Calls Try.prog 11 #[.pointer (some ⟨M, 0, none⟩), .int .i64 n] w (StepP W w P M T made (freeS S n).2 M2 N v Lr (.bool x)) := by
  refine (free_mem h.mem n hn x _ (Prod.ext hx rfl)).mono ?_
  rintro e w' ⟨he, hl⟩
  exact ⟨he, h.prog hl⟩
theorem Two.c12 (h : Two W w P M T made S M2 N v Lr) (n : Int) (hn : -9223372036854775808 ≤ n ∧ n ≤ 9223372036854775807) (hL : Lr.length ≤ 2199023255552) (x : Bool) (hx : (getR (plainR Lr) n).isSome = x) :
    Calls Try.prog 12 #[.pointer (some ⟨M2, 0, none⟩), .int .i64 n] w (StepR W w P M T made S M2 N (freeRF (plainR Lr) n) (.bool x)) := by
  subst hx
  refine (freeR_any h.ref n hn hL).mono ?_
  rintro e w' ⟨he, hl⟩
  exact ⟨he, h.refc hl⟩
theorem Two.c13 (h : Two W w P M T made S M2 N v Lr) (n : Int) (hn : Key n) (x : Bool) (hx : (fixS S n).1 = x) :
    Calls Try.prog 13 #[.pointer (some ⟨M, 0, none⟩), .int .i64 n] w (StepP W w P M T made (fixS S n).2 M2 N v Lr (.bool x)) := by
  refine (fix_mem h.mem n hn x _ (Prod.ext hx rfl)).mono ?_
  rintro e w' ⟨he, hl⟩
  exact ⟨he, h.prog hl⟩
theorem Two.c14 (h : Two W w P M T made S M2 N v Lr) (n : Int) (hn : -9223372036854775808 ≤ n ∧ n ≤ 9223372036854775807) (hL : Lr.length ≤ 2199023255552) (x : Bool) (hx : (getR (plainR Lr) n).isSome = x) :
    Calls Try.prog 14 #[.pointer (some ⟨M2, 0, none⟩), .int .i64 n] w (StepR W w P M T made S M2 N (fixRF (plainR Lr) n) (.bool x)) := by
  subst hx
  refine (fixR_any h.ref n hn hL).mono ?_
  rintro e w' ⟨he, hl⟩
  exact ⟨he, h.refc hl⟩
theorem Two.c15 (h : Two W w P M T made S M2 N v Lr) (c k n b : Int) (hb : Key b) (x y z : Int) (t : Bool) (hv : loadS S c k n b = ((x, y, z), t)) :
    Calls Try.prog 15 #[.pointer (some ⟨M, 0, none⟩), .int .i64 c, .agg #[.int .i64 k, .int .u64 n, .int .i64 b]] w (StepP W w P M T made S M2 N v Lr (.tuple #[.agg #[.int .i64 x, .int .u64 y, .int .i64 z], .bool t])) := by
  refine (load_mem h.mem c k n b hb x y z t hv).mono ?_
  rintro e w' ⟨he, hf⟩
  exact ⟨he, h.fresh hf⟩
theorem Two.c16 (h : Two W w P M T made S M2 N v Lr) (c k n b : Int) (hb : -9223372036854775808 ≤ b ∧ b ≤ 9223372036854775807) (hL : Lr.length ≤ 2199023255552) (x y z : Int) (t : Bool) (hv : loadR (plainR Lr) c k n b = ((x, y, z), t)) :
    Calls Try.prog 16 #[.pointer (some ⟨M2, 0, none⟩), .int .i64 c, .agg #[.int .i64 k, .int .u64 n, .int .i64 b]] w (StepP W w P M T made S M2 N v Lr (.tuple #[.agg #[.int .i64 x, .int .u64 y, .int .i64 z], .bool t])) := by
  refine (loadR_any h.ref c k n b hb hL x y z t hv).mono ?_
  rintro e w' ⟨he, hf⟩
  exact ⟨he, h.fresh hf⟩
theorem Two.c17 (h : Two W w P M T made S M2 N v Lr) (hT : T < maxLen) (c k n b k' n' b' : Int) (hb : Key b) (hn : 0 ≤ n') (x : Bool) (hx : (storeS S c k n b k' n' b').1 = x) :
    Calls Try.prog 17 #[.pointer (some ⟨M, 0, none⟩), .int .i64 c, .agg #[.int .i64 k, .int .u64 n, .int .i64 b], .agg #[.int .i64 k', .int .u64 n', .int .i64 b']] w (StepP W w P M (T + 1) made (storeS S c k n b k' n' b').2 M2 N v Lr (.bool x)) := by
  refine (store_mem h.mem hT c k n b k' n' b' hb hn x _ (Prod.ext hx rfl)).mono ?_
  rintro e w' ⟨he, hl⟩
  exact ⟨he, h.prog hl⟩
theorem Two.c18 (h : Two W w P M T made S M2 N v Lr) (hN : N + 8 ≤ maxLen) (c k n b k' n' b' : Int) (hb : -9223372036854775808 ≤ b ∧ b ≤ 9223372036854775807) (hn : 0 ≤ n') (hL : Lr.length ≤ 2199023255552) (x : Bool) (hx : (storeR (plainR Lr) c k n b k' n' b').1 = x) :
    Calls Try.prog 18 #[.pointer (some ⟨M2, 0, none⟩), .int .i64 c, .agg #[.int .i64 k, .int .u64 n, .int .i64 b], .agg #[.int .i64 k', .int .u64 n', .int .i64 b']] w (StepR W w P M T made S M2 (N + 8) (storeR (plainR Lr) c k n b k' n' b').2 (.bool x)) := by
  subst hx
  refine (storeR_any h.ref c k n b k' n' b' hn hN hb hL).mono ?_
  rintro e w' ⟨he, hl⟩
  exact ⟨he, h.refc hl⟩
theorem Two.c19 (h : Two W w P M T made S M2 N v Lr) (hr : RelM S made (plainR Lr)) (o k n b k' n' b' : Int) (hb : Key b) (hb' : Key b') (hn : 0 ≤ n) (hn' : 0 ≤ n') (x y z : Int) (t : Bool)
    (hv : evF (inR (plainR Lr) 4 n b) (inR (plainR Lr) 4 n' b') (endsR (plainR Lr) n b) (endsR (plainR Lr) n' b') o k n b k' n' b' = ((x, y, z), t)) :
    Calls Try.prog 19 #[.pointer (some ⟨M, 0, none⟩), .int .i64 o, .agg #[.int .i64 k, .int .u64 n, .int .i64 b], .agg #[.int .i64 k', .int .u64 n', .int .i64 b']] w (StepP W w P M T made S M2 N v Lr (.tuple #[.agg #[.int .i64 x, .int .u64 y, .int .i64 z], .bool t])) := by
  refine (eval_mem h.mem hr o k n b k' n' b' hb hb' hn hn' x y z t hv).mono ?_
  rintro e w' ⟨he, hf⟩
  exact ⟨he, h.fresh hf⟩
theorem Two.c20 (h : Two W w P M T made S M2 N v Lr) (o k n b k' n' b' : Int) (ho' : -9223372036854775808 ≤ o ∧ o ≤ 9223372036854775807) (hb : -9223372036854775808 ≤ b ∧ b ≤ 9223372036854775807) (hb' : -9223372036854775808 ≤ b' ∧ b' ≤ 9223372036854775807) (hL : Lr.length ≤ 2199023255552) (hn : 0 ≤ n) (hN : n < 18446744073709551616) (hn' : 0 ≤ n') (hN' : n' < 18446744073709551616) (x y z : Int) (t : Bool)
    (hv : evF (inR (plainR Lr) 4 n b) (inR (plainR Lr) 4 n' b') (endsR (plainR Lr) n b) (endsR (plainR Lr) n' b') o k n b k' n' b' = ((x, y, z), t)) :
    Calls Try.prog 20 #[.pointer (some ⟨M2, 0, none⟩), .int .i64 o, .agg #[.int .i64 k, .int .u64 n, .int .i64 b], .agg #[.int .i64 k', .int .u64 n', .int .i64 b']] w (StepP W w P M T made S M2 N v Lr (.tuple #[.agg #[.int .i64 x, .int .u64 y, .int .i64 z], .bool t])) := by
  refine (evalR_any h.ref o k n b k' n' b' ho' hb hb' hL hn hN hn' hN' x y z t hv).mono ?_
  rintro e w' ⟨he, hf⟩
  exact ⟨he, h.fresh hf⟩
theorem Two.c21 (h : Two W w P M T made S M2 N v Lr) (n : Int) (hn : Key n) (x : Int) (t : Bool) (hv : sizeS S n = (x, t)) :
    Calls Try.prog 21 #[.pointer (some ⟨M, 0, none⟩), .int .i64 n] w fun e w' => e = .returned (.tuple #[.int .i64 x, .bool t]) ∧ w = w' := size_mem h.mem n hn x t hv
theorem Two.c22 (h : Two W w P M T made S M2 N v Lr) (hr : RelM S made (plainR Lr)) (n : Int) (hn : -9223372036854775808 ≤ n ∧ n ≤ 9223372036854775807) (hL : Lr.length ≤ 2199023255552) (x : Int) (t : Bool) (hv : sizeS S n = (x, t)) :
    Calls Try.prog 22 #[.pointer (some ⟨M2, 0, none⟩), .int .i64 n] w fun e w' => e = .returned (.tuple #[.int .i64 x, .bool t]) ∧ w = w' := by
  obtain ⟨G, hrow, -⟩ := h.ref.row
  refine (sizeR_any n hn hL w hrow x t ((sizeM_rel hr n).symm.trans hv)).mono ?_
  rintro e w' ⟨he, hw⟩
  exact ⟨he, hw.symm⟩
end Go.Proofs.Ytjbflmpnmobngaa
/- The walk of the statement on rows of calls: what begins it, and what its rounds keep. -/
namespace Go.Proofs.Ytjbflmpnmobngaa
set_option linter.unusedSimpArgs false
set_option linter.unusedVariables false
open Go.RowKit

/-- One call of the script. -/
structure Op9 where
  c0 : Int
  c1 : Int
  c2 : Int
  k : Int
  n : Int
  b : Int
  k' : Int
  n' : Int
  b' : Int
def i64B (x : Int) : Prop := -9223372036854775808 ≤ x ∧ x ≤ 9223372036854775807
def u64B (x : Int) : Prop := 0 ≤ x ∧ x < 18446744073709551616
structure Op9.ok (o : Op9) : Prop where
  c1 : i64B o.c1
  n : u64B o.n
  b : i64B o.b
  n' : u64B o.n'
  b' : i64B o.b'
/-- The script's rows, as they came in. -/
structure ScriptAt (w : World) (B off n : Nat) (g : Nat → Op9) : Prop where
  c0 : ∀ i, i < n → w.cell? ⟨B, off + i * 9, none⟩ = some (.int .i64 (g i).c0)
  c1 : ∀ i, i < n → w.cell? ⟨B, off + i * 9 + 1, none⟩ = some (.int .i64 (g i).c1)
  c2 : ∀ i, i < n → w.cell? ⟨B, off + i * 9 + 2, none⟩ = some (.int .i64 (g i).c2)
  c3 : ∀ i, i < n → w.cell? ⟨B, off + i * 9 + 3, none⟩ = some (.int .i64 (g i).k)
  c4 : ∀ i, i < n → w.cell? ⟨B, off + i * 9 + 4, none⟩ = some (.int .u64 (g i).n)
  c5 : ∀ i, i < n → w.cell? ⟨B, off + i * 9 + 5, none⟩ = some (.int .i64 (g i).b)
  c6 : ∀ i, i < n → w.cell? ⟨B, off + i * 9 + 6, none⟩ = some (.int .i64 (g i).k')
  c7 : ∀ i, i < n → w.cell? ⟨B, off + i * 9 + 7, none⟩ = some (.int .u64 (g i).n')
  c8 : ∀ i, i < n → w.cell? ⟨B, off + i * 9 + 8, none⟩ = some (.int .i64 (g i).b')
  ok : ∀ i, i < n → (g i).ok
theorem ScriptAt.fresh {w w' : World} {B off n : Nat} {g : Nat → Op9} (h : ScriptAt w B off n g) (f : Fresh w w') : ScriptAt w' B off n g :=
  ⟨fun i hi => fresh_at f (h.c0 i hi), fun i hi => fresh_at f (h.c1 i hi), fun i hi => fresh_at f (h.c2 i hi), fun i hi => fresh_at f (h.c3 i hi), fun i hi => fresh_at f (h.c4 i hi), fun i hi => fresh_at f (h.c5 i hi), fun i hi => fresh_at f (h.c6 i hi), fun i hi => fresh_at f (h.c7 i hi), fun i hi => fresh_at f (h.c8 i hi), h.ok⟩
/-- What a round keeps. -/
def LoopR (W w : World) (M M2 j : Nat) : Prop := ∃ made S v Lr, RelM S made (plainR Lr) ∧ Lr.length ≤ j ∧ Two W w (fun _ => False) M j made S M2 (8 * j) v Lr
/-- .. and what stands behind the calls of a round. -/
def RoundR (W w : World) (M M2 j Bx : Nat) (o : Op9) : Prop := ∃ made S v Lr, RelM S made (plainR Lr) ∧ Lr.length ≤ j ∧ Two W w (fun k => k = Bx) M j made S M2 (8 * j) v Lr ∧ B9 w Bx o.c0 o.c1 o.c2 o.k o.n o.b o.k' o.n' o.b'
theorem Two.start {w0 w1 : World} {M : Nat} (h : Mem w1 M 0 (fun k => k < w0.heap.size) 0 noS) (hf : Fresh w0 w1) : LoopR w0 (w1.alloc (.cells #[.slice none 0 0] 29)) M w1.heap.size 0 := by
  have f2 : Fresh w1 (w1.alloc (.cells #[.slice none 0 0] 29)) := (Fresh.refl w1).alloc _ _
  have hq : ∀ k, ownQ w1.heap.size (.slice none 0 0) [] k → k = w1.heap.size := fun k hk => by
    rcases hk with rfl | g | ⟨a, g⟩
    · rfl
    · cases g
    · simp [blocksR] at g
  refine ⟨0, noS, .slice none 0 0, [], relM_new, Nat.le_refl _, ⟨h.beside (F := fun _ => False) (f2.touch _) (fun _ e => e.elim) (fun k hk => ?_), ⟨by simp [go_sem], World.ownsRow_nil .., by simp [Value.ownBlock], fun o => World.frozen?_alloc_new _ _ _ _, by simp, fun a b x ha => by simp [blocksR] at ha, fun a x ha => by simp [blocksR] at ha, fun i r hd f hi => by simp at hi⟩, (hf.trans f2).touch _, fun k hk => by rw [hq k hk]; exact hf.size, fun k hk => hk.elim⟩⟩
  rcases hk with g | g | g
  · exact Or.inl g
  · rw [hq k g]; exact Or.inr ⟨Nat.le_refl _, by simp⟩
  · exact g.elim
theorem LoopR.round {W w : World} {M M2 j : Nat} (h : LoopR W w M M2 j) (o : Op9) :
    RoundR W (w.alloc (.cells #[.int .i64 o.c0, .int .i64 o.c1, .int .i64 o.c2, .int .i64 o.k, .int .u64 o.n, .int .i64 o.b, .int .i64 o.k', .int .u64 o.n', .int .i64 o.b'] 34)) M M2 j w.heap.size o := by
  obtain ⟨made, S, v, Lr, h1, h2, h3⟩ := h
  exact ⟨made, S, v, Lr, h1, h2, (h3.box _ _).less (fun k hk => Or.inr hk), B9.new ..⟩
theorem RoundR.loop {W w : World} {M M2 j Bx : Nat} {o : Op9} (h : RoundR W w M M2 j Bx o) : LoopR W w M M2 j := by
  obtain ⟨made, S, v, Lr, h1, h2, h3, h4⟩ := h
  exact ⟨made, S, v, Lr, h1, h2, h3.less (fun k hk => hk.elim)⟩
theorem LoopR.out {W w : World} {M M2 j : Nat} (h : LoopR W w M M2 j) : Fresh W w := by
  obtain ⟨made, S, v, Lr, h1, h2, h3⟩ := h
  exact h3.out
theorem LoopR.drew {W w : World} {M M2 j : Nat} (h : LoopR W w M M2 j) {w' : World} (f : Fresh w w') : LoopR W w' M M2 j := by
  obtain ⟨made, S, v, Lr, h1, h2, h3⟩ := h
  exact ⟨made, S, v, Lr, h1, h2, (h3.fresh f).1⟩
theorem RoundR.later {W w w' : World} {M M2 j Bx : Nat} {o : Op9} (h : RoundR W w M M2 j Bx o) (f : Fresh w w') : RoundR W w' M M2 j Bx o := by
  obtain ⟨made, S, v, Lr, h1, h2, h3, h4⟩ := h
  exact ⟨made, S, v, Lr, h1, h2, (h3.fresh f).1, h4.keep (f.touch fun _ => False) (fun e => e)⟩
theorem RoundR.up {W w : World} {M M2 j Bx : Nat} {o : Op9} (h : RoundR W w M M2 j Bx o) : RoundR W w M M2 (j + 1) Bx o := by
  obtain ⟨made, S, v, Lr, h1, h2, h3, h4⟩ := h
  exact ⟨made, S, v, Lr, h1, by omega, h3.mono (by omega) (by omega), h4⟩
theorem RoundR.of {W w' : World} {M M2 j Bx T N : Nat} {o : Op9} {made : Int} {S : Int → Option BS} {v : Value} {Lr : RL} (h : Two W w' (fun k => k = Bx) M T made S M2 N v Lr) (hT : T ≤ j) (hN : N ≤ 8 * j) (hr : RelM S made (plainR Lr)) (hl : Lr.length ≤ j) (hb : B9 w' Bx o.c0 o.c1 o.c2 o.k o.n o.b o.k' o.n' o.b') : RoundR W w' M M2 j Bx o :=
  ⟨made, S, v, Lr, hr, hl, h.mono hT hN, hb⟩
theorem RoundR.bx {W w : World} {M M2 j Bx : Nat} {o : Op9} (h : RoundR W w M M2 j Bx o) : B9 w Bx o.c0 o.c1 o.c2 o.k o.n o.b o.k' o.n' o.b' := by
  obtain ⟨made, S, v, Lr, h1, h2, h3, h4⟩ := h
  exact h4
theorem B9.later {w w' : World} {Bx : Nat} {c0 c1 c2 k n b k' n' b' : Int} (h : B9 w Bx c0 c1 c2 k n b k' n' b') (f : Fresh w w') : B9 w' Bx c0 c1 c2 k n b k' n' b' := h.keep (f.touch fun _ => False) (fun e => e)
theorem Two.later {W w w' : World} {P : Nat → Prop} {M T : Nat} {made : Int} {S : Int → Option BS} {M2 N : Nat} {v : Value} {Lr : RL} (h : Two W w P M T made S M2 N v Lr) (f : Fresh w w') : Two W w' P M T made S M2 N v Lr := (h.fresh f).1
theorem rel_alloc {made : Int} {S : Int → Option BS} {Lr : RL} {j : Nat} (hR : RelM S made (plainR Lr)) (hl : Lr.length ≤ j) (sz : Nat) (Lr' : RL) (e : plainR Lr' = plainR Lr ++ [some (zRB sz)]) : RelM (putS S (made + 1) ⟨sz, false, noCell, noPtr⟩) (made + 1) (plainR Lr') ∧ Lr'.length ≤ j + 1 := by
  constructor
  · rw [e]
    exact relM_alloc hR sz ⟨sz, false, noCell, noPtr⟩ rfl rfl (fun _ => rfl) (fun _ => rfl)
  · have := congrArg List.length e
    rw [List.length_append, plainR_len, plainR_len] at this
    simp at this
    omega
theorem setRB_len (R : List (Option RB)) (b : Int) (o : Option RB) : (setRB R b o).length = R.length := by unfold setRB; rw [List.length_set]
theorem rel_free {made : Int} {S : Int → Option BS} {Lr : RL} {j : Nat} (hR : RelM S made (plainR Lr)) (hl : Lr.length ≤ j) (n : Int) (Lr' : RL) (e : plainR Lr' = freeRF (plainR Lr) n) : RelM (freeS S n).2 made (plainR Lr') ∧ Lr'.length ≤ j + 1 := by
  have hlen : (freeRF (plainR Lr) n).length = (plainR Lr).length := by unfold freeRF; split; rfl; exact setRB_len ..
  constructor
  · rw [e]; exact (freeM_rel hR n).2
  · have := congrArg List.length e
    rw [hlen, plainR_len, plainR_len] at this
    omega
theorem rel_fix {made : Int} {S : Int → Option BS} {Lr : RL} {j : Nat} (hR : RelM S made (plainR Lr)) (hl : Lr.length ≤ j) (n : Int) (Lr' : RL) (e : plainR Lr' = fixRF (plainR Lr) n) : RelM (fixS S n).2 made (plainR Lr') ∧ Lr'.length ≤ j + 1 := by
  have hlen : (fixRF (plainR Lr) n).length = (plainR Lr).length := by unfold fixRF; split; rfl; exact setRB_len ..
  constructor
  · rw [e]; exact (fixM_rel hR n).2
  · have := congrArg List.length e
    rw [hlen, plainR_len, plainR_len] at this
    omega
theorem rel_store {made : Int} {S : Int → Option BS} {Lr : RL} {j : Nat} (hR : RelM S made (plainR Lr)) (hl : Lr.length ≤ j) (c k n b k' n' b' : Int) (Lr' : RL) (e : plainR Lr' = (storeR (plainR Lr) c k n b k' n' b').2) : RelM (storeS S c k n b k' n' b').2 made (plainR Lr') ∧ Lr'.length ≤ j + 1 := by
  have hlen : (storeR (plainR Lr) c k n b k' n' b').2.length = (plainR Lr).length := by
    unfold storeR
    split
    · rfl
    · split
      · rfl
      · exact setRB_len ..
  constructor
  · rw [e]; exact (storeM_rel hR c k n b k' n' b').2
  · have := congrArg List.length e
    rw [hlen, plainR_len, plainR_len] at this
    omega
theorem B9.seven {w : World} {Bx : Nat} {c0 c1 c2 k n b k' n' b' : Int} (h : B9 w Bx c0 c1 c2 k n b k' n' b') : w.cell? ⟨Bx, 2, none⟩ = some (.int .i64 c2) ∧ w.cell? ⟨Bx, 3, none⟩ = some (.int .i64 k) ∧ w.cell? ⟨Bx, 4, none⟩ = some (.int .u64 n) ∧ w.cell? ⟨Bx, 5, none⟩ = some (.int .i64 b) ∧ w.cell? ⟨Bx, 6, none⟩ = some (.int .i64 k') ∧ w.cell? ⟨Bx, 7, none⟩ = some (.int .u64 n') ∧ w.cell? ⟨Bx, 8, none⟩ = some (.int .i64 b') := ⟨h.c2, h.c3, h.c4, h.c5, h.c6, h.c7, h.c8⟩
theorem B9.next {w w' : World} {Bx : Nat} {c0 c1 c2 k n b k' n' b' : Int} (h : B9 w Bx c0 c1 c2 k n b k' n' b') (ht : Touch (fun k => ¬ k = Bx) w w') : B9 w' Bx c0 c1 c2 k n b k' n' b' := h.keep ht (fun e => e rfl)
end Go.Proofs.Ytjbflmpnmobngaa
/- A row of calls that came in. -/
namespace Go.Proofs.Ytjbflmpnmobngaa.memoryPlays
set_option linter.unusedSimpArgs false
set_option linter.unusedVariables false
set_option maxRecDepth 100000
open Go.ChangeShapes Go.WideShapes Go.ChangeAt Go.RowKit Go.Joins

instance : Inhabited Op9 := ⟨⟨0, 0, 0, 0, 0, 0, 0, 0, 0⟩⟩
theorem cells30 : Try.prog.cellsOf 30 = 1 := by kernel_rfl
theorem cells34 : Try.prog.cellsOf 34 = 9 := by kernel_rfl
theorem bytes34 : Try.prog.bytesOf 34 = 72 := by kernel_rfl
section
variable {H : Type} {enc : TypeId × Value → H} {W : World} {sp : Nat → Bool} {held : Bool}
theorem row_cells {a : Addr} {C m : Nat} (hC : 0 < C) (hm : 0 < m) {p : Nat → List Value → Prop} (h : ∀ i, i < m → ∃ cs, W.cells? 0 (a.add (i * C)) C = some cs ∧ p i cs) :
    ∃ b off, a = ⟨b, off, none⟩ ∧ ∀ i, i < m → ∃ cs : List Value, cs.length = C ∧ p i cs ∧ ∀ j, j < C → W.cell? ⟨b, off + i * C + j, none⟩ = cs[j]? := by
  obtain ⟨b, off, spot⟩ := a
  have hspot : spot = none := by
    obtain ⟨cs, h1, _⟩ := h 0 hm
    obtain ⟨_, hl, hc⟩ := World.cells?_some h1
    have h2 := hc 0 hC
    have h3 : cs[0]? = some (cs[0]'(by omega)) := List.getElem?_eq_getElem (by omega)
    rw [h3] at h2
    simpa [Addr.add] using World.cell?_spot h2
  subst hspot
  refine ⟨b, off, rfl, fun i hi => ?_⟩
  obtain ⟨cs, h1, h2⟩ := h i hi
  obtain ⟨_, hl, hc⟩ := World.cells?_some h1
  refine ⟨cs, hl, h2, fun j hj => ?_⟩
  have := hc j hj
  rwa [Go.WideShapes.add_plain, Go.WideShapes.add_plain] at this
theorem open_val {n : Nat} {cs : List Value} {x : DataW H × List MemPlace} (h : DataW.trod enc Try.prog W 0 sp held n 32 cs = some x) :
    ∃ k m b : Int, cs = [.int .i64 k, .int .u64 m, .int .i64 b] ∧ u64B m ∧ i64B b := by
  obtain ⟨xs, n', -, hxx, hl, hx, hf⟩ := DataW.trod_struct Try.underlying32 h
  rw [cells32] at hl
  match cs, hl with
  | [c0, c1, c2], _ =>
    have hxl : xs.length = 3 := hx
    match xs, hxl with
    | [y0, y1, y2], _ =>
      have h0 := hf 0 _ rfl
      have h1 := hf 1 _ rfl
      have h2 := hf 2 _ rfl
      simp [cells3, cells30] at h0 h1 h2
      obtain ⟨k, e0, z0, -⟩ := DataW.trod_int Try.underlying3 h0
      obtain ⟨m, e1, z1, wm⟩ := DataW.trod_int Try.underlying30 h1
      obtain ⟨b, e2, z2, wb⟩ := DataW.trod_int Try.underlying3 h2
      simp at e0 e1 e2
      subst e0 e1 e2
      have h3 := bounds_u64 wm
      have h4 := bounds_i64 wb
      exact ⟨k, m, b, rfl, ⟨by omega, by omega⟩, ⟨by omega, by omega⟩⟩
theorem open_op {n : Nat} {cs : List Value} {x : DataW H × List MemPlace} (h : DataW.trod enc Try.prog W 0 sp held n 34 cs = some x) :
    ∃ o : Op9, cs = [.int .i64 o.c0, .int .i64 o.c1, .int .i64 o.c2, .int .i64 o.k, .int .u64 o.n, .int .i64 o.b, .int .i64 o.k', .int .u64 o.n', .int .i64 o.b'] ∧ o.ok := by
  obtain ⟨xs, n', -, hxx, hl, hx, hf⟩ := DataW.trod_struct Try.underlying34 h
  rw [cells34] at hl
  match cs, hl with
  | [c0, c1, c2, c3, c4, c5, c6, c7, c8], _ =>
    have hxl : xs.length = 5 := hx
    match xs, hxl with
    | [y0, y1, y2, y3, y4], _ =>
      have h0 := hf 0 _ rfl
      have h1 := hf 1 _ rfl
      have h2 := hf 2 _ rfl
      have h3 := hf 3 _ rfl
      have h4 := hf 4 _ rfl
      simp [cells3, cells32] at h0 h1 h2 h3 h4
      obtain ⟨a, e0, z0, -⟩ := DataW.trod_int Try.underlying3 h0
      obtain ⟨N, e1, z1, wN⟩ := DataW.trod_int Try.underlying3 h1
      obtain ⟨C, e2, z2, -⟩ := DataW.trod_int Try.underlying3 h2
      obtain ⟨k, m, b, e3, hm, hb⟩ := open_val h3
      obtain ⟨k', m', b', e4, hm', hb'⟩ := open_val h4
      simp at e0 e1 e2 e3 e4
      obtain ⟨e30, e31, e32⟩ := e3
      obtain ⟨e40, e41, e42⟩ := e4
      subst e0 e1 e2 e30 e31 e32 e40 e41 e42
      have h5 := bounds_i64 wN
      exact ⟨⟨a, N, C, k, m, b, k', m', b'⟩, rfl, ⟨⟨by dsimp only; omega, by dsimp only; omega⟩, hm, hb, hm', hb'⟩⟩
theorem open_script {v : Value} {d : DataW H} {ps : List MemPlace} (hok : Value.okWide Try.prog W .any 0 22 v) (h : DataW.Trod enc Try.prog W 0 (fun _ => true) true 22 v d ps) :
    (∃ a cap, v = .slice a 0 cap) ∨ ∃ (B off n cap : Nat) (g : Nat → Op9), v = .slice (some ⟨B, off, none⟩) n cap ∧ n ≤ cap ∧ cap ≤ maxLen ∧ ScriptAt W B off n g ∧ ∃ elems spare, d = .slice elems spare ∧ n = elems.length := by
  obtain ⟨a0, len0, cap0, rfl⟩ := okWide_slice Try.underlying22 hok
  obtain ⟨fuel, hf⟩ := h
  rcases Deep.open_slice Try.underlying22 hf with ⟨e, -⟩ | ⟨a, len, cap, m, n', D, Pl, e, -, hl, hm, hmm, hx, hi⟩
  · simp [Value.cells] at e
    obtain ⟨rfl, rfl, rfl⟩ := e
    exact Or.inl ⟨_, _, rfl⟩
  · simp [Value.cells] at e
    obtain ⟨rfl, rfl, rfl⟩ := e
    simp at hmm
    by_cases hz : len0 = 0
    · subst hz
      exact Or.inl ⟨_, _, rfl⟩
    rw [cells34] at hi
    obtain ⟨b, off, rfl, hc⟩ := row_cells (by decide) (by omega) hi
    obtain ⟨g, hg⟩ := Deep.choose_lt (α := Op9) (n := len0) (p := fun i o => (W.cell? ⟨b, off + i * 9, none⟩ = some (.int .i64 o.c0) ∧ W.cell? ⟨b, off + i * 9 + 1, none⟩ = some (.int .i64 o.c1) ∧ W.cell? ⟨b, off + i * 9 + 2, none⟩ = some (.int .i64 o.c2) ∧
      W.cell? ⟨b, off + i * 9 + 3, none⟩ = some (.int .i64 o.k) ∧ W.cell? ⟨b, off + i * 9 + 4, none⟩ = some (.int .u64 o.n) ∧ W.cell? ⟨b, off + i * 9 + 5, none⟩ = some (.int .i64 o.b) ∧
      W.cell? ⟨b, off + i * 9 + 6, none⟩ = some (.int .i64 o.k') ∧ W.cell? ⟨b, off + i * 9 + 7, none⟩ = some (.int .u64 o.n') ∧ W.cell? ⟨b, off + i * 9 + 8, none⟩ = some (.int .i64 o.b')) ∧ o.ok) (fun i hlt => by
      obtain ⟨cs, -, ht, hcell⟩ := hc i (by omega)
      obtain ⟨o, rfl, ho⟩ := open_op ht
      exact ⟨o, ⟨hcell 0 (by decide), hcell 1 (by decide), hcell 2 (by decide), hcell 3 (by decide), hcell 4 (by decide), hcell 5 (by decide), hcell 6 (by decide), hcell 7 (by decide), hcell 8 (by decide)⟩, ho⟩)
    refine Or.inr ⟨b, off, len0, cap0, g, rfl, hl, hm, ⟨fun i hi => (hg i hi).1.1, fun i hi => (hg i hi).1.2.1, fun i hi => (hg i hi).1.2.2.1, fun i hi => (hg i hi).1.2.2.2.1, fun i hi => (hg i hi).1.2.2.2.2.1, fun i hi => (hg i hi).1.2.2.2.2.2.1, fun i hi => (hg i hi).1.2.2.2.2.2.2.1, fun i hi => (hg i hi).1.2.2.2.2.2.2.2.1, fun i hi => (hg i hi).1.2.2.2.2.2.2.2.2, fun i hi => (hg i hi).2⟩, (List.range len0).map D, _, congrArg Prod.fst hx, by simp⟩
end
/-- The reach's bound on how many calls come in. -/
theorem reach_b {H : Type} {ts : List TypeId} {ds : List (DataW H)} {m : Nat} (hsz : (DataW.weightsEach Try.prog ts ds).all (· ≤ reachBytes) = true) (ht : ts[0]? = some 22) (hd : ∃ elems spare, ds[0]? = some (.slice elems spare) ∧ m = elems.length) : m ≤ 1954687338211 := by
  obtain ⟨elems, spare, hd, rfl⟩ := hd
  have := sized_slice hsz ht hd Try.underlying22
  rw [bytes34] at this
  have hr : reachBytes = 140737488351232 := by decide
  rw [hr] at this
  omega
end Go.Proofs.Ytjbflmpnmobngaa.memoryPlays
