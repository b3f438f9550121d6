/- The reference's memory: Store. -/
import Derived.Test.YtjbflmpnmobngaaVn
import Derived.Deep.RegionLaw
import Derived.Deep.CutRange
import Derived.Deep.QuietTactic
import Derived.BigQuiet
namespace Go.Proofs.Ytjbflmpnmobngaa
set_option linter.unusedSimpArgs false
set_option linter.unusedVariables false
open Go.RowKit

theorem reachR_hit {R : List (Option RB)} {c k n b : Int} {r : RB} {off : Nat} (h : reachR R c k n b = some (r, off)) : k = 4 ∧ getR R b = some r ∧ sizeL c ≠ 0 ∧ (off : Int) + sizeL c ≤ r.sz ∧ (off : Int) % sizeL c = 0 := by
  unfold reachR at h
  split at h
  · cases h
  · rename_i h0
    split at h
    · cases h
    · rename_i r' hr
      split at h
      · cases h
      · rename_i h1
        simp only [Option.some.injEq, Prod.mk.injEq] at h
        obtain ⟨rfl, rfl⟩ := h
        refine ⟨by omega, hr, by omega, by omega, ?_⟩
        rw [Int.toNat_of_nonneg (by omega)]
        omega
theorem kind1_q (c : Int) (w : World) : Calls Try.prog 45 #[.int .i64 c] w fun e w' => e = .returned (.int .i64 (kindL c)) ∧ w' = w := (kind1_any c w).mono fun e w' ⟨a, b⟩ => ⟨a, b.symm⟩
theorem fits_no {c k : Int} (h : fitsL c k = false) : (k == 0) = false ∧ (k == kindL c) = false ∧ ((k == 4) = false ∨ (c == 6) = false) := by
  unfold fitsL at h
  simp only [Bool.or_eq_false_iff, Bool.and_eq_false_iff] at h
  exact ⟨h.1.1, h.1.2, h.2⟩
section
set_option maxRecDepth 100000
set_option maxHeartbeats 8000000
theorem store_no {w : World} {M N : Nat} {v : Value} {L : RL} (h : RMem w M N v L) (c k n b k' n' b' : Int) (hb : -9223372036854775808 ≤ b ∧ b ≤ 9223372036854775807) (hL : L.length ≤ 2199023255552) (hr : reachR (plainR L) c k n b = none) :
    Calls Try.prog 18 #[.pointer (some ⟨M, 0, none⟩), .int .i64 c, .agg #[.int .i64 k, .int .u64 n, .int .i64 b], .agg #[.int .i64 k', .int .u64 n', .int .i64 b']] w fun e w' => e = .returned (.bool false) ∧ Fresh w w' := by
  obtain ⟨G, hrow, hv⟩ := h.row
  have f2 : Fresh w ((w.alloc (.cells #[.int .i64 k, .int .u64 n, .int .i64 b] 32)).alloc (.cells #[.int .i64 k', .int .u64 n', .int .i64 b'] 32)) := ((Fresh.refl w).alloc _ _).alloc _ _
  have hzs : ∀ b r, getR (plainR L) b = some r → r.sz ≤ 16777216 := fun b r hg => by
    obtain ⟨q, hd, f, rfl, hq, hi⟩ := getR_some hg
    exact (h.live q r hd f hi).2.2.2
  have re := reaches_any c k n b hb hL hzs _ (hrow.fresh f2)
  rw [hr] at re
  simp only [offV] at re
  have RE := Lib.hid re
  have F2 := Lib.hid f2
  clear hr h hrow hv f2 hzs hb re hL
  go_enter Try.func18, Try.ntmps18
  go_wp2_with fail
  go_at_call 36; refine (RE.out).mono ?_; rintro e w1 ⟨rfl, h1⟩
  have Y := Lib.hid (F2.out.trans h1)
  clear h1 RE
  go_upto_region 2 with fail
  go_quiet (fail)
  go_wp2_with fail
  go_ret
  exact ⟨rfl, Y.out.drewN _⟩
theorem store_yes {w : World} {M N : Nat} {v : Value} {L : RL} (h : RMem w M N v L) (c n b k' n' b' : Int) (hn' : 0 ≤ n') (hN : N + 8 ≤ maxLen) (hb : -9223372036854775808 ≤ b ∧ b ≤ 9223372036854775807) (hL : L.length ≤ 2199023255552) (r : RB) (off m : Nat) (hr : reachR (plainR L) c 4 n b = some (r, off)) (hm : sizeL c = (m : Int)) (hm8 : m ≤ 8) :
    Calls Try.prog 18 #[.pointer (some ⟨M, 0, none⟩), .int .i64 c, .agg #[.int .i64 4, .int .u64 n, .int .i64 b], .agg #[.int .i64 k', .int .u64 n', .int .i64 b']] w fun e w' => e = .returned (.bool (storeR (plainR L) c 4 n b k' n' b').1) ∧ LeftR M v L (storeR (plainR L) c 4 n b k' n' b').2 (N + 8) w w' := by
  have hsr : storeR (plainR L) c 4 n b k' n' b' = if r.fx = true ∨ fitsL c k' = false then (false, plainR L) else (true, setRB (plainR L) b (some (putRB r off k' n' b' m))) := by
    unfold storeR
    rw [hr, hm]
    rfl
  obtain ⟨-, hg, hs0, hs1, hal⟩ := reachR_hit hr
  obtain ⟨q, hd, f, rfl, hq, hi⟩ := getR_some hg
  obtain ⟨hblk, -, -, hsz⟩ := h.live q r hd f hi
  obtain ⟨G, hrow, hv⟩ := h.row
  obtain ⟨cap, rfl, hfr⟩ := hv (fun e => by rw [e] at hq; simp at hq)
  have f2 : Fresh w ((w.alloc (.cells #[.int .i64 4, .int .u64 n, .int .i64 ((q : Int) + 1)] 32)).alloc (.cells #[.int .i64 k', .int .u64 n', .int .i64 b'] 32)) := ((Fresh.refl w).alloc _ _).alloc _ _
  have hzs : ∀ b r, getR (plainR L) b = some r → r.sz ≤ 16777216 := fun b r hg => by
    obtain ⟨q, hd, f, rfl, hq, hi⟩ := getR_some hg
    exact (h.live q r hd f hi).2.2.2
  have re := reaches_any c 4 n ((q : Int) + 1) hb hL hzs _ (hrow.fresh f2)
  rw [hr] at re
  simp only [offV] at re
  have RE := Lib.hid re
  have SZ := Lib.hid (fun X => size1_any c X)
  rw [hm] at SZ
  have F2 := Lib.hid f2
  have S0 := Lib.hid (fun w' g => SS.start (w' := w') h hi 4 n ((q : Int) + 1) k' n' b' g)
  have hoff : off + m ≤ r.sz := by omega
  have HSR := Lib.hid hsr
  have HI := Lib.hid hi
  have HN := Lib.hid hN
  have LF := Lib.hid (fun w' g => Left.same (w' := w') (N' := N + 8) h g (by omega))
  have hm0 : 0 < m := by omega
  have hwq : IntKind.i64.wrap ((q : Int) + 1 - 1) = (q : Int) := (IntWalk.i64_in _ (by omega)).trans (by omega)
  have hxq : (q : Int) + 1 - 1 = (q : Int) := by omega
  have hw3 : IntKind.i64.wrap (q : Int) = (q : Int) := IntWalk.i64_in _ (by omega)
  have hql : (q : Int) < (L.length : Int) := by omega
  have hq0 : (0 : Int) ≤ (q : Int) := by omega
  have KN := Lib.hid (fun X => kind1_q c X)
  clear hr hg hs0 hs1 hal h hrow hv hfr hblk hi f2 hzs hb hm hN re hsr
  go_enter Try.func18, Try.ntmps18
  go_wp2_with fail
  go_at_call 36; refine (RE.out).mono ?_; rintro e w1 ⟨rfl, h1⟩
  have X := Lib.hid (S0.out _ h1)
  have F1 := Lib.hid (F2.out.trans h1)
  clear h1 RE S0 F2
  go_upto_region 2 with fail
  obtain ⟨x0, l0, l1, l2, l3, l4⟩ := X.out.row hq
  have a2 := X.out.a.c2
  by_cases hfx : r.fx = true
  · have HV : Hid (storeR (plainR L) c 4 n ((q : Int) + 1) k' n' b' = (false, plainR L)) := Lib.hid (by rw [HSR.out, if_pos (Or.inl hfx)])
    rw [hfx] at l4
    clear hfx
    go_quiet (fail)
    go_wp2_with fail
    go_ret
    rw [HV.out]
    exact ⟨rfl, LF.out _ (F1.out.drewN _)⟩
  have hfx' : r.fx = false := by simpa using hfx
  rw [hfx'] at l4
  go_quiet (fail)
  clear x0 l0 l1 l2 l3 l4 a2
  have X2 := Lib.hid (X.out.later ((Fresh.refl w1).drewN nq))
  have F2 := Lib.hid (F1.out.drewN nq)
  clear X F1
  generalize w1.drewN nq = w2 at *
  have z0 := X2.out.z.c0
  have HFX := Lib.hid hfx
  clear hfx hfx'
  by_cases k0 : k' = 0
  · have HV : Hid (storeR (plainR L) c 4 n ((q : Int) + 1) k' n' b' = (true, setRB (plainR L) ((q : Int) + 1) (some (putRB r off k' n' b' m)))) := Lib.hid (by
      rw [HSR.out, if_neg]
      rintro (e | e)
      · exact HFX.out e
      · unfold fitsL at e; rw [k0] at e; simp at e)
    subst k0
    have RC1 : Hid (∀ i, cellR 0 n' b' i = .none) := Lib.hid (fun i => by unfold cellR; rw [if_pos rfl])
    go_wp2_with fail
    go_quiet ((go_at_call 45; exact Calls.quiet_of_same (KN.out _)))
    have X3 := Lib.hid (X2.out.later ((Fresh.refl w2).drewN nq))
    clear X2 z0
    generalize w2.drewN nq = w3 at *
    go_wp2_with fail
    go_loopw [11] (fun s11 wz => ∃ i : Nat, i ≤ m ∧ s11 = .int .i64 i ∧ Hid (SS w wz M (N + i) (.slice (some ⟨G, 0, none⟩) L.length cap) L q (putRB r off 0 n' b' i) hd f 4 n ((q : Int) + 1) 0 n' b')) (fun s11 _ => m - (intOf s11).toNat)
    case atStart => exact ⟨0, by omega, rfl, X3⟩
    case round =>
      obtain ⟨i, hi, rfl, Y⟩ := hrel
      clear X3
      by_cases hlt : i < m
      · obtain ⟨p, hp⟩ : ∃ p : Nat, p = off + i := ⟨_, rfl⟩
        obtain ⟨ri, hri⟩ : ∃ ri, ri = putRB r off 0 n' b' i := ⟨_, rfl⟩
        rw [← hri] at Y
        have hz : ri.sz = r.sz ∧ ri.fx = r.fx := hri ▸ putRB_sz r off 0 n' b' i
        have HR : Hid (putRB r off 0 n' b' (i + 1) = setR ri p (cellR 0 n' b' i)) := Lib.hid (by rw [hri, hp]; rfl)
        have hps : p < ri.sz := by omega
        have HP := Lib.hid hp
        have HPS := Lib.hid hps
        clear hri hp hps
        have z0 := Y.out.z.c0
        have z1 := Y.out.z.c1
        have z2 := Y.out.z.c2
        have zs := Y.out.z.size
        go_wp2_with fail
        go_at_call 37; refine (SZ.out _).mono ?_; rintro e w4 ⟨rfl, rfl⟩
        go_upto_region 15 with fail
        clear z0 z1 z2
        have y0 : (wr.alloc (.cells #[.int .i64 0, .int .u8 0, .int .i64 0, .int .u64 0, .int .i64 0, .int .i64 0] 76)).cell? ⟨wr.heap.size, 0, none⟩ = some (.int .i64 0) := by simp [go_sem]
        have y1 : (wr.alloc (.cells #[.int .i64 0, .int .u8 0, .int .i64 0, .int .u64 0, .int .i64 0, .int .i64 0] 76)).cell? ⟨wr.heap.size, 1, none⟩ = some (.int .u8 0) := by simp [go_sem]
        have y2 : (wr.alloc (.cells #[.int .i64 0, .int .u8 0, .int .i64 0, .int .u64 0, .int .i64 0, .int .i64 0] 76)).cell? ⟨wr.heap.size, 2, none⟩ = some (.int .i64 0) := by simp [go_sem]
        have y3 : (wr.alloc (.cells #[.int .i64 0, .int .u8 0, .int .i64 0, .int .u64 0, .int .i64 0, .int .i64 0] 76)).cell? ⟨wr.heap.size, 3, none⟩ = some (.int .u64 0) := by simp [go_sem]
        have y4 : (wr.alloc (.cells #[.int .i64 0, .int .u8 0, .int .i64 0, .int .u64 0, .int .i64 0, .int .i64 0] 76)).cell? ⟨wr.heap.size, 4, none⟩ = some (.int .i64 0) := by simp [go_sem]
        have y5 : (wr.alloc (.cells #[.int .i64 0, .int .u8 0, .int .i64 0, .int .u64 0, .int .i64 0, .int .i64 0] 76)).cell? ⟨wr.heap.size, 5, none⟩ = some (.int .i64 0) := by simp [go_sem]
        have X4 := Lib.hid (Y.out.later ((Fresh.refl wr).alloc #[.int .i64 0, .int .u8 0, .int .i64 0, .int .u64 0, .int .i64 0, .int .i64 0] 76))
        have HX : Hid (cellR 0 n' b' i = .none) := Lib.hid (by rw [RC1.out])
        generalize wr.alloc (.cells #[.int .i64 0, .int .u8 0, .int .i64 0, .int .u64 0, .int .i64 0, .int .i64 0] 76) = W at *
        have XD := X4.out.later (Fresh.refl W).drew
        have cs := set_any true ri.fx .none (show RC.none.by' < 256 by decide) p HPS.out (XD.blk hq).2.2.2 (by have := HN.out; omega) (XD.ne hq).1 (XD.ne hq).2.1 (XD.ne hq).2.2 W.drew (XD.blk hq).2.1 (XD.blk hq).2.2.1 (XD.blk hq).1
        rw [rc_none] at cs
        have CS := Lib.hid cs
        obtain ⟨x0, l0, l1, l2, l3, l4⟩ := X4.out.row hq
        have a2 := X4.out.a.c2
        have hwo : IntKind.i64.wrap ((off : Int) + (i : Int)) = (p : Int) := (IntWalk.i64_in _ (by omega)).trans (by have := HP.out; omega)
        have hw5 : IntKind.i64.wrap (p : Int) = (p : Int) := IntWalk.i64_in _ (by have := HP.out; omega)
        have hcast : (off : Int) + (i : Int) = (p : Int) := by have := HP.out; omega
        clear cs XD hz Y
        go_region_law (go_simp; go_at_call 46; ((with_reducible refine (CS.out).mono ?_); rintro e w5 ⟨rfl, hrb, ht⟩; have X5 := Lib.hid (X4.out.set hq (Fresh.refl W).drew hrb ht rfl rfl); clear hrb ht x0 l0 l1 l2 l3 l4 a2 y0 y1 y2 y3 y4 y5))
        all_goals
          rw [← HX.out, ← HR.out] at X5
          clear hwo hw5 hcast
          go_wp2_with fail
          go_roundw
          case rel => exact ⟨i + 1, by omega, by go_num, X5⟩
          case measure => simp [intOf]; omega
      · have hij : i = m := by omega
        subst hij
        have LE := Lib.hid (Y.out.left (N' := N + 8) HI.out (by omega))
        go_wp2_with fail
        go_at_call 37; refine (SZ.out _).mono ?_; rintro e w4 ⟨rfl, rfl⟩
        go_wp2_with fail
        go_ret
        rw [HV.out]
        exact ⟨rfl, LE.out⟩
  by_cases kk : k' = kindL c
  · have k4 : k' ≠ 4 := by rw [kk]; unfold kindL; (repeat' split) <;> decide
    have HV : Hid (storeR (plainR L) c 4 n ((q : Int) + 1) k' n' b' = (true, setRB (plainR L) ((q : Int) + 1) (some (putRB r off k' n' b' m)))) := Lib.hid (by
      rw [HSR.out, if_neg]
      rintro (e | e)
      · exact HFX.out e
      · unfold fitsL at e; rw [← kk] at e; simp at e)
    have n0 : (k' != 0) = true := by simpa using k0
    have nk : (k' != kindL c) = false := by simp [kk]
    have e0 : (k' == 0) = false := by simpa using k0
    have e4 : (k' == 4) = false := by simpa using k4
    have RC1 : Hid (∀ i, cellR k' n' b' i = .byte (n' / 2 ^ (8 * i) % 256).toNat) := Lib.hid (fun i => by unfold cellR; rw [if_neg k0, if_neg k4])
    clear k0 kk k4
    go_wp2_with fail
    go_quiet ((go_at_call 45; exact Calls.quiet_of_same (KN.out _)))
    have X3 := Lib.hid (X2.out.later ((Fresh.refl w2).drewN nq))
    clear X2 z0
    generalize w2.drewN nq = w3 at *
    go_wp2_with fail
    go_loopw [11] (fun s11 wz => ∃ i : Nat, i ≤ m ∧ s11 = .int .i64 i ∧ Hid (SS w wz M (N + i) (.slice (some ⟨G, 0, none⟩) L.length cap) L q (putRB r off k' n' b' i) hd f 4 n ((q : Int) + 1) k' n' b')) (fun s11 _ => m - (intOf s11).toNat)
    case atStart => exact ⟨0, by omega, rfl, X3⟩
    case round =>
      obtain ⟨i, hi, rfl, Y⟩ := hrel
      clear X3
      by_cases hlt : i < m
      · obtain ⟨p, hp⟩ : ∃ p : Nat, p = off + i := ⟨_, rfl⟩
        obtain ⟨ri, hri⟩ : ∃ ri, ri = putRB r off k' n' b' i := ⟨_, rfl⟩
        rw [← hri] at Y
        have hz : ri.sz = r.sz ∧ ri.fx = r.fx := hri ▸ putRB_sz r off k' n' b' i
        have HR : Hid (putRB r off k' n' b' (i + 1) = setR ri p (cellR k' n' b' i)) := Lib.hid (by rw [hri, hp]; rfl)
        have hps : p < ri.sz := by omega
        have HP := Lib.hid hp
        have HPS := Lib.hid hps
        clear hri hp hps
        have z0 := Y.out.z.c0
        have z1 := Y.out.z.c1
        have z2 := Y.out.z.c2
        have zs := Y.out.z.size
        go_wp2_with fail
        go_at_call 37; refine (SZ.out _).mono ?_; rintro e w4 ⟨rfl, rfl⟩
        go_upto_region 15 with fail
        clear z0 z1 z2
        obtain ⟨x, hx⟩ : ∃ x, x = n' / 2 ^ (8 * i) % 256 := ⟨_, rfl⟩
        have hx0 : 0 ≤ x := by rw [hx]; exact Int.emod_nonneg _ (by decide)
        have hx1 : x < 256 := by rw [hx]; exact Int.emod_lt_of_pos _ (by decide)
        rw [← hx]
        have y0 : (wr.alloc (.cells #[.int .i64 1, .int .u8 x, .int .i64 0, .int .u64 0, .int .i64 0, .int .i64 0] 76)).cell? ⟨wr.heap.size, 0, none⟩ = some (.int .i64 1) := by simp [go_sem]
        have y1 : (wr.alloc (.cells #[.int .i64 1, .int .u8 x, .int .i64 0, .int .u64 0, .int .i64 0, .int .i64 0] 76)).cell? ⟨wr.heap.size, 1, none⟩ = some (.int .u8 x) := by simp [go_sem]
        have y2 : (wr.alloc (.cells #[.int .i64 1, .int .u8 x, .int .i64 0, .int .u64 0, .int .i64 0, .int .i64 0] 76)).cell? ⟨wr.heap.size, 2, none⟩ = some (.int .i64 0) := by simp [go_sem]
        have y3 : (wr.alloc (.cells #[.int .i64 1, .int .u8 x, .int .i64 0, .int .u64 0, .int .i64 0, .int .i64 0] 76)).cell? ⟨wr.heap.size, 3, none⟩ = some (.int .u64 0) := by simp [go_sem]
        have y4 : (wr.alloc (.cells #[.int .i64 1, .int .u8 x, .int .i64 0, .int .u64 0, .int .i64 0, .int .i64 0] 76)).cell? ⟨wr.heap.size, 4, none⟩ = some (.int .i64 0) := by simp [go_sem]
        have y5 : (wr.alloc (.cells #[.int .i64 1, .int .u8 x, .int .i64 0, .int .u64 0, .int .i64 0, .int .i64 0] 76)).cell? ⟨wr.heap.size, 5, none⟩ = some (.int .i64 0) := by simp [go_sem]
        have X4 := Lib.hid (Y.out.later ((Fresh.refl wr).alloc #[.int .i64 1, .int .u8 x, .int .i64 0, .int .u64 0, .int .i64 0, .int .i64 0] 76))
        have HX : Hid (cellR k' n' b' i = (.byte x.toNat)) := Lib.hid (by rw [RC1.out, ← hx])
        generalize wr.alloc (.cells #[.int .i64 1, .int .u8 x, .int .i64 0, .int .u64 0, .int .i64 0, .int .i64 0] 76) = W at *
        have XD := X4.out.later (Fresh.refl W).drew
        have cs := set_any true ri.fx (.byte x.toNat) (show x.toNat < 256 by omega) p HPS.out (XD.blk hq).2.2.2 (by have := HN.out; omega) (XD.ne hq).1 (XD.ne hq).2.1 (XD.ne hq).2.2 W.drew (XD.blk hq).2.1 (XD.blk hq).2.2.1 (XD.blk hq).1
        rw [rc_byte x hx0 hx1] at cs
        have CS := Lib.hid cs
        obtain ⟨x0, l0, l1, l2, l3, l4⟩ := X4.out.row hq
        have a2 := X4.out.a.c2
        have hwo : IntKind.i64.wrap ((off : Int) + (i : Int)) = (p : Int) := (IntWalk.i64_in _ (by omega)).trans (by have := HP.out; omega)
        have hw5 : IntKind.i64.wrap (p : Int) = (p : Int) := IntWalk.i64_in _ (by have := HP.out; omega)
        have hcast : (off : Int) + (i : Int) = (p : Int) := by have := HP.out; omega
        clear cs XD hz Y hx hx0 hx1
        go_region_law (go_simp; go_at_call 46; ((with_reducible refine (CS.out).mono ?_); rintro e w5 ⟨rfl, hrb, ht⟩; have X5 := Lib.hid (X4.out.set hq (Fresh.refl W).drew hrb ht rfl rfl); clear hrb ht x0 l0 l1 l2 l3 l4 a2 y0 y1 y2 y3 y4 y5))
        all_goals
          rw [← HX.out, ← HR.out] at X5
          clear hwo hw5 hcast
          go_wp2_with fail
          go_roundw
          case rel => exact ⟨i + 1, by omega, by go_num, X5⟩
          case measure => simp [intOf]; omega
      · have hij : i = m := by omega
        subst hij
        have LE := Lib.hid (Y.out.left (N' := N + 8) HI.out (by omega))
        go_wp2_with fail
        go_at_call 37; refine (SZ.out _).mono ?_; rintro e w4 ⟨rfl, rfl⟩
        go_wp2_with fail
        go_ret
        rw [HV.out]
        exact ⟨rfl, LE.out⟩
  by_cases k4 : k' = 4
  · by_cases c6 : c = 6
    · have HV : Hid (storeR (plainR L) c 4 n ((q : Int) + 1) k' n' b' = (true, setRB (plainR L) ((q : Int) + 1) (some (putRB r off k' n' b' m)))) := Lib.hid (by
        rw [HSR.out, if_neg]
        rintro (e | e)
        · exact HFX.out e
        · unfold fitsL at e; rw [k4, c6] at e; simp at e)
      subst k4 c6
      have RC1 : Hid (∀ i, cellR 4 n' b' i = .piece (4, n', b') i) := Lib.hid (fun i => by unfold cellR; rw [if_neg (by decide), if_pos rfl])
      have n0 : ((4 : Int) != 0) = true := by decide
      have KN2 : Hid (kindL 6 = 2) := Lib.hid rfl
      rw [KN2.out] at KN
      clear k0
      go_wp2_with fail
      go_quiet ((go_at_call 45; exact Calls.quiet_of_same (KN.out _)))
      have X3 := Lib.hid (X2.out.later ((Fresh.refl w2).drewN nq))
      clear X2 z0
      generalize w2.drewN nq = w3 at *
      go_wp2_with fail
      go_loopw [11] (fun s11 wz => ∃ i : Nat, i ≤ m ∧ s11 = .int .i64 i ∧ Hid (SS w wz M (N + i) (.slice (some ⟨G, 0, none⟩) L.length cap) L q (putRB r off 4 n' b' i) hd f 4 n ((q : Int) + 1) 4 n' b')) (fun s11 _ => m - (intOf s11).toNat)
      case atStart => exact ⟨0, by omega, rfl, X3⟩
      case round =>
        obtain ⟨i, hi, rfl, Y⟩ := hrel
        clear X3
        by_cases hlt : i < m
        · obtain ⟨p, hp⟩ : ∃ p : Nat, p = off + i := ⟨_, rfl⟩
          obtain ⟨ri, hri⟩ : ∃ ri, ri = putRB r off 4 n' b' i := ⟨_, rfl⟩
          rw [← hri] at Y
          have hz : ri.sz = r.sz ∧ ri.fx = r.fx := hri ▸ putRB_sz r off 4 n' b' i
          have HR : Hid (putRB r off 4 n' b' (i + 1) = setR ri p (cellR 4 n' b' i)) := Lib.hid (by rw [hri, hp]; rfl)
          have hps : p < ri.sz := by omega
          have HP := Lib.hid hp
          have HPS := Lib.hid hps
          clear hri hp hps
          have z0 := Y.out.z.c0
          have z1 := Y.out.z.c1
          have z2 := Y.out.z.c2
          have zs := Y.out.z.size
          go_wp2_with fail
          go_at_call 37; refine (SZ.out _).mono ?_; rintro e w4 ⟨rfl, rfl⟩
          go_upto_region 15 with fail
          clear z0 z1 z2
          have y0 : (wr.alloc (.cells #[.int .i64 2, .int .u8 0, .int .i64 4, .int .u64 n', .int .i64 b', .int .i64 (i : Int)] 76)).cell? ⟨wr.heap.size, 0, none⟩ = some (.int .i64 2) := by simp [go_sem]
          have y1 : (wr.alloc (.cells #[.int .i64 2, .int .u8 0, .int .i64 4, .int .u64 n', .int .i64 b', .int .i64 (i : Int)] 76)).cell? ⟨wr.heap.size, 1, none⟩ = some (.int .u8 0) := by simp [go_sem]
          have y2 : (wr.alloc (.cells #[.int .i64 2, .int .u8 0, .int .i64 4, .int .u64 n', .int .i64 b', .int .i64 (i : Int)] 76)).cell? ⟨wr.heap.size, 2, none⟩ = some (.int .i64 4) := by simp [go_sem]
          have y3 : (wr.alloc (.cells #[.int .i64 2, .int .u8 0, .int .i64 4, .int .u64 n', .int .i64 b', .int .i64 (i : Int)] 76)).cell? ⟨wr.heap.size, 3, none⟩ = some (.int .u64 n') := by simp [go_sem]
          have y4 : (wr.alloc (.cells #[.int .i64 2, .int .u8 0, .int .i64 4, .int .u64 n', .int .i64 b', .int .i64 (i : Int)] 76)).cell? ⟨wr.heap.size, 4, none⟩ = some (.int .i64 b') := by simp [go_sem]
          have y5 : (wr.alloc (.cells #[.int .i64 2, .int .u8 0, .int .i64 4, .int .u64 n', .int .i64 b', .int .i64 (i : Int)] 76)).cell? ⟨wr.heap.size, 5, none⟩ = some (.int .i64 (i : Int)) := by simp [go_sem]
          have X4 := Lib.hid (Y.out.later ((Fresh.refl wr).alloc #[.int .i64 2, .int .u8 0, .int .i64 4, .int .u64 n', .int .i64 b', .int .i64 (i : Int)] 76))
          have HX : Hid (cellR 4 n' b' i = (.piece (4, n', b') i)) := Lib.hid (by rw [RC1.out])
          generalize wr.alloc (.cells #[.int .i64 2, .int .u8 0, .int .i64 4, .int .u64 n', .int .i64 b', .int .i64 (i : Int)] 76) = W at *
          have XD := X4.out.later (Fresh.refl W).drew
          have cs := set_any true ri.fx (.piece (4, n', b') i) (show (RC.piece (4, n', b') i).by' < 256 by show 0 < 256; decide) p HPS.out (XD.blk hq).2.2.2 (by have := HN.out; omega) (XD.ne hq).1 (XD.ne hq).2.1 (XD.ne hq).2.2 W.drew (XD.blk hq).2.1 (XD.blk hq).2.2.1 (XD.blk hq).1
          rw [rc_piece 4 n' b' i] at cs
          have CS := Lib.hid cs
          obtain ⟨x0, l0, l1, l2, l3, l4⟩ := X4.out.row hq
          have a2 := X4.out.a.c2
          have hwo : IntKind.i64.wrap ((off : Int) + (i : Int)) = (p : Int) := (IntWalk.i64_in _ (by omega)).trans (by have := HP.out; omega)
          have hw5 : IntKind.i64.wrap (p : Int) = (p : Int) := IntWalk.i64_in _ (by have := HP.out; omega)
          have hcast : (off : Int) + (i : Int) = (p : Int) := by have := HP.out; omega
          clear cs XD hz Y
          go_region_law (go_simp; go_at_call 46; ((with_reducible refine (CS.out).mono ?_); rintro e w5 ⟨rfl, hrb, ht⟩; have X5 := Lib.hid (X4.out.set hq (Fresh.refl W).drew hrb ht rfl rfl); clear hrb ht x0 l0 l1 l2 l3 l4 a2 y0 y1 y2 y3 y4 y5))
          all_goals
            rw [← HX.out, ← HR.out] at X5
            clear hwo hw5 hcast
            go_wp2_with fail
            go_roundw
            case rel => exact ⟨i + 1, by omega, by go_num, X5⟩
            case measure => simp [intOf]; omega
        · have hij : i = m := by omega
          subst hij
          have LE := Lib.hid (Y.out.left (N' := N + 8) HI.out (by omega))
          go_wp2_with fail
          go_at_call 37; refine (SZ.out _).mono ?_; rintro e w4 ⟨rfl, rfl⟩
          go_wp2_with fail
          go_ret
          rw [HV.out]
          exact ⟨rfl, LE.out⟩
    · have HV : Hid (storeR (plainR L) c 4 n ((q : Int) + 1) k' n' b' = (false, plainR L)) := Lib.hid (by
        rw [HSR.out, if_pos]
        right
        unfold fitsL
        simp [k0, kk, c6])
      have n0 : (k' != 0) = true := by simpa using k0
      have nk : (k' != kindL c) = true := by simpa using kk
      have n4 : (k' != 4) = false := by simp [k4]
      have n6 : (c != 6) = true := by simpa using c6
      clear k0 kk k4 c6
      go_wp2_with fail
      go_quiet ((go_at_call 45; exact Calls.quiet_of_same (KN.out _)))
      go_wp2_with fail
      go_ret
      rw [HV.out]
      exact ⟨rfl, LF.out _ (F2.out.drewN _)⟩
  · have HV : Hid (storeR (plainR L) c 4 n ((q : Int) + 1) k' n' b' = (false, plainR L)) := Lib.hid (by
      rw [HSR.out, if_pos]
      right
      unfold fitsL
      simp [k0, kk, k4])
    have n0 : (k' != 0) = true := by simpa using k0
    have nk : (k' != kindL c) = true := by simpa using kk
    have n4 : (k' != 4) = true := by simpa using k4
    clear k0 kk k4
    go_wp2_with fail
    go_quiet ((go_at_call 45; exact Calls.quiet_of_same (KN.out _)))
    go_wp2_with fail
    go_ret
    rw [HV.out]
    exact ⟨rfl, LF.out _ (F2.out.drewN _)⟩
end
end Go.Proofs.Ytjbflmpnmobngaa
