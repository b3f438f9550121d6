/- The reference's memory: Load. -/
import Derived.Test.YtjbflmpnmobngaaVk
import Derived.Deep.RegionLaw
import Derived.Deep.CutRange
import Derived.Deep.QuietTactic
import Derived.BigQuiet
namespace Go.Proofs.Ytjbflmpnmobngaa
set_option linter.unusedSimpArgs false
set_option linter.unusedVariables false
open Go.RowKit

/-- append of one, in a region that drew ahead of a call. -/
theorem step_app2 {P : Program} {Y : World} {cs : Array Value} {ops : Array Oper} {o : Oper} {a : Act} {K : Act → World → Prop} {Q : Exit → Act → World → Prop} {E : Prop} (hgd : o.guard = none) (s x : Operand) (t : TypeId)
    (ho : o.op = .call { callee := .builtin .append, args := #[s, x], argTypes := #[t, t] })
    (base : Nat) (e : TypeId) (z : Value) (size bytes : Nat) (ht : P.underlying t = some (.slice e)) (hinfo : (P.info? e).map (fun i => (i.zero, i.size, i.bytes)) = some (some z, size, bytes)) (hzs : z.cells.size = size) (hsz : 0 < size)
    (v : Value) (n : Nat) (xs : List Value) (hs : a.eval s = v) (hown : Y.ownsRow base e size v n xs)
    (hx : a.eval x = .slice (some ⟨Y.heap.size, 0, none⟩) 1 1) (hcs : cs.size = size) (h1 : ∀ u ∈ cs.toList, u.oneCell' = true)
    (h63 : n + 1 ≤ maxLen) (hbytes : ((n + 1) + (n + 1) / 4 + 192) * bytes ≤ 281474976710656) (hbase : base ≤ Y.heap.size)
    (h : ∀ v' w', w'.ownsRow base e size v' (n + 1) (xs ++ cs.toList) → Touch (fun k => v.ownBlock = some k) (Y.alloc (.cells cs e)) w' → K (a.put o.dst v') w') :
    if Region.wanted o (yielded ops a.tmps) = true then Oper.wp P o a (Y.alloc (.cells cs e)) K Q else E := by
  have hw : Region.wanted o (yielded ops a.tmps) = true := by simp [Region.wanted, hgd]
  rw [if_pos hw]
  obtain ⟨i, hi, hzz⟩ := Option.map_eq_some_iff.1 hinfo
  simp only [Prod.mk.injEq] at hzz
  obtain ⟨hz, hsz', hby⟩ := hzz
  have hn : ∀ j u, cs.toList[j]? = some u → (Y.alloc (.cells cs e)).cell? ((⟨Y.heap.size, 0, none⟩ : Addr).add j) = some u := fun j u hj => by
    have hadd : (⟨Y.heap.size, 0, none⟩ : Addr).add j = ⟨Y.heap.size, j, none⟩ := by unfold Addr.add; split <;> simp_all
    rw [hadd, cell_of_row _ _ _ cs e (0, 0) (heap_alloc_new Y _)]
    simpa using hj
  have hl : cs.toList.length = 1 * size := by simpa using hcs
  have hown' : (Y.alloc (.cells cs e)).ownsRow base e size v n xs := hown.alloc (.cells cs e)
  obtain ⟨v', w', hr, h2, h3, h4⟩ := run_append_own_wide (P := P) (Y.alloc (.cells cs e)) base t o.type e i z size bytes ht hi hz hsz' hby hzs hsz v n xs hown' ⟨Y.heap.size, 0, none⟩ 1 1 cs.toList hl hn h1 h63 hbytes (by simp; omega)
  obtain ⟨r1, _⟩ := push_where (P := P) ht hi hz hsz' (own_base hown' (Nat.zero_le _)) hl hn h1 h63 (by rw [hby]; exact hbytes) hr
  unfold Oper.wp execOp
  simp only [ho, resolve, invoke, builtin, Sem.run_bind, Sem.run_pure, Result.andThen_ok, List.map_toArray, List.map_cons, List.map_nil, hs, hx, hr]
  exact h v' w' h2 r1
theorem reachR_some {R : List (Option RB)} {c k n b : Int} {r : RB} {off : Nat} (h : reachR R c k n b = some (r, off)) : k = 4 ∧ getR R b = some r ∧ sizeL c ≠ 0 ∧ (off : Int) + sizeL c ≤ r.sz ∧ (off : Int) % sizeL c = 0 := by
  unfold reachR at h
  split at h
  · cases h
  · rename_i h0
    split at h
    · cases h
    · rename_i r' hr
      split at h
      · cases h
      · rename_i h1
        simp only [Option.some.injEq, Prod.mk.injEq] at h
        obtain ⟨rfl, rfl⟩ := h
        refine ⟨by omega, hr, by omega, by omega, ?_⟩
        rw [Int.toNat_of_nonneg (by omega)]
        omega
section
set_option maxRecDepth 100000
set_option maxHeartbeats 8000000
theorem load_loops {w : World} {M N : Nat} {v : Value} {L : RL} (h : RMem w M N v L) (c n b : Int) (hb : -9223372036854775808 ≤ b ∧ b ≤ 9223372036854775807) (hL : L.length ≤ 2199023255552) (r : RB) (off m : Nat) (hr : reachR (plainR L) c 4 n b = some (r, off)) (hm : sizeL c = (m : Int)) (hm8 : m ≤ 8) :
    Calls Try.prog 16 #[.pointer (some ⟨M, 0, none⟩), .int .i64 c, .agg #[.int .i64 4, .int .u64 n, .int .i64 b]] w fun e w' => e = .returned (.tuple #[.agg #[.int .i64 (loadRB r c off m).1, .int .u64 (loadRB r c off m).2.1, .int .i64 (loadRB r c off m).2.2], .bool true]) ∧ Fresh w w' := by
  obtain ⟨-, hg, hs0, hs1, hal⟩ := reachR_some hr
  obtain ⟨q, hd, f, rfl, hq, hi⟩ := getR_some hg
  obtain ⟨hblk, -, -, hsz⟩ := h.live q r hd f hi
  obtain ⟨G, hrow, hv⟩ := h.row
  obtain ⟨cap, rfl, hfr⟩ := hv (fun e => by rw [e] at hq; simp at hq)
  have f2 : Fresh w ((w.alloc (.cells #[.int .i64 4, .int .u64 n, .int .i64 ((q : Int) + 1)] 32)).alloc (.cells #[.int .i64 0, .int .u64 0, .int .i64 0] 32)) := ((Fresh.refl w).alloc _ _).alloc _ _
  have hzs : ∀ b r, getR (plainR L) b = some r → r.sz ≤ 16777216 := fun b r hg => by
    obtain ⟨q, hd, f, rfl, hq, hi⟩ := getR_some hg
    exact (h.live q r hd f hi).2.2.2
  have re := reaches_any c 4 n ((q : Int) + 1) hb hL hzs _ (hrow.fresh f2)
  rw [hr] at re
  simp only [offV] at re
  have RE := Lib.hid re
  clear re
  have SZ := Lib.hid (fun X => size1_any c X)
  rw [hm] at SZ
  have HROW := Lib.hid hrow
  have HBLK := Lib.hid hblk
  have HI := Lib.hid hi
  have S0 := Lib.hid (fun w' f => LS.start (w' := w') w 4 n ((q : Int) + 1) r off f)
  have hm0 : 0 < m := by omega
  have HC7 : Hid (c = 1 ∨ c = 2 ∨ c = 3 ∨ c = 4 ∨ c = 5 ∨ c = 6 ∨ c = 7) := Lib.hid (by unfold sizeL at hs0; (repeat' split at hs0) <;> omega)
  have hoff : off + m ≤ r.sz := by omega
  have hzf : Hid (∀ o, w.frozen? ⟨w.heap.size + 1, o, none⟩ = false) := Lib.hid (fun o => by simp [World.frozen?])
  have hc0 := h.c0
  have HC0 := Lib.hid hc0
  clear hr hg hs0 hs1 hal h hrow hv hfr hblk hi f2 hzs hb hm hc0
  go_enter Try.func16, Try.ntmps16
  go_wp2_with fail
  go_at_call 36; refine (RE.out).mono ?_; rintro e w1 ⟨rfl, h1⟩
  replace S0 := Lib.hid (S0.out _ h1)
  clear h1 RE
  go_wp2_with fail
  go_at_call 37; refine (SZ.out _).mono ?_; rintro e w2 ⟨rfl, rfl⟩
  go_wp2_with fail
  go_loopw [11, 12] (fun s11 s12 wr => ∃ j : Nat, j ≤ m ∧ s12 = .int .i64 j ∧ Hid (LS w wr 4 n ((q : Int) + 1) s11 j r off)) (fun _ s12 _ => m - (intOf s12).toNat)
  case atStart => exact ⟨0, by omega, rfl, S0⟩
  case round =>
    obtain ⟨j, hj, rfl, X⟩ := hrel
    generalize u11 = v at *
    clear S0
    by_cases hlt : j < m
    · have a2 := X.out.a.c2
      have x0 := fresh_at X.out.fr HC0.out
      have rw' := HROW.out.fresh X.out.fr
      have l0 := rw'.at' q _ 0 _ HI.out rfl (by decide)
      have l1 := rw'.at' q _ 1 _ HI.out rfl (by decide)
      have l2 := rw'.at' q _ 2 _ HI.out rfl (by decide)
      have l3 := rw'.at' q _ 3 _ HI.out rfl (by decide)
      have l4 := rw'.at' q _ 4 _ HI.out rfl (by decide)
      rw [Nat.add_zero] at l0
      have HB2 := Lib.hid (HBLK.out.fresh X.out.fr)
      obtain ⟨p, hp⟩ : ∃ p : Nat, p = off + j := ⟨_, rfl⟩
      have CC := Lib.hid (cell_any true r.fx p (by omega) hsz _ (HB2.out.fresh (Fresh.refl wr).drew))
      have CS := Lib.hid (cellV_six HBLK.out p)
      have hwq : IntKind.i64.wrap ((q : Int) + 1 - 1) = (q : Int) := (IntWalk.i64_in _ (by omega)).trans (by omega)
      have hxq : (q : Int) + 1 - 1 = (q : Int) := by omega
      have hw3 : IntKind.i64.wrap (q : Int) = (q : Int) := IntWalk.i64_in _ (by omega)
      have hw4 : IntKind.i64.wrap (p : Int) = (p : Int) := IntWalk.i64_in _ (by omega)
      have hwo : IntKind.i64.wrap ((off : Int) + (j : Int)) = (p : Int) := (IntWalk.i64_in _ (by omega)).trans (by omega)
      have hcast : (off : Int) + (j : Int) = (p : Int) := by omega
      have hql : (q : Int) < (L.length : Int) := by omega
      have hq0 : (0 : Int) ≤ (q : Int) := by omega
      clear rw' HB2
      rw [CS.out] at CC
      have HP := Lib.hid hp
      clear CS hp
      go_wp2_with fail
      go_region_law (first | (go_simp; go_at_call 38; ((with_reducible refine (CC.out).mono ?_); rintro e w2 ⟨rfl, h2⟩); have X2 := Lib.hid (X.out.later ((Fresh.refl wr).drew.trans h2)); have H2 := Lib.hid h2; clear h2 a2 x0 l0 l1 l2 l3 l4) | (refine step_app2 (Y := w2) (cs := #[.int .i64 (r.kd p : Int), .int .u8 (b6 r p), .int .i64 (pcD r p).1.1, .int .u64 (pcD r p).1.2.1, .int .i64 (pcD r p).1.2.2, .int .i64 ((pcD r p).2 : Int)]) (by rfl) (.tmp 34) (.tmp 48) 74 (by rfl) (w.heap.size + 2) 76 zCell 6 48 Try.underlying74 info76 rfl (by decide) v j (rowC r off j) (by rfl) X2.out.own (by rfl) rfl (by simp [Value.oneCell']) (by unfold maxLen; omega) (by omega) (by have := X2.out.a.size; have := X2.out.z.size; omega) ?_; intro v' w3 ho ht))
      all_goals
        have X3 := Lib.hid (X2.out.next (Y := w2.alloc (.cells #[.int .i64 (r.kd p : Int), .int .u8 (b6 r p), .int .i64 (pcD r p).1.1, .int .u64 (pcD r p).1.2.1, .int .i64 (pcD r p).1.2.2, .int .i64 ((pcD r p).2 : Int)] 76)) ((Fresh.refl w2).alloc _ _) (by rw [← HP.out]; exact ho) ht)
        clear ho ht
        go_wp2_with fail
        go_roundw
        case rel => exact ⟨j + 1, by omega, by go_num, X3⟩
        case measure => simp [intOf]; omega
    · obtain rfl : j = m := by omega
      clear hlt hj
      obtain ⟨g, gcap, rfl, -⟩ := X.out.cells hm0
      go_wp2_with fail
      go_loopw [13, 14, 15, 16] (fun s13 s14 s15 s16 wz => ∃ i : Nat, i ≤ j ∧ s13 = .int .i64 (cntB r off i : Int) ∧ s14 = .int .i64 (cntP r off i : Int) ∧ s15 = .int .u64 (accR r off i) ∧ s16 = .int .i64 i ∧ Hid (LS w wz 4 n ((q : Int) + 1) (.slice (some ⟨g, 0, none⟩) j gcap) j r off)) (fun _ _ _ s16 _ => j - (intOf s16).toNat)
      case atStart => exact ⟨0, by omega, rfl, rfl, rfl, rfl, X⟩
      case round =>
        obtain ⟨i, hi, rfl, rfl, rfl, rfl, Y⟩ := hrel
        clear X
        by_cases hlt : i < j
        · obtain ⟨p, hp⟩ : ∃ p : Nat, p = off + i := ⟨_, rfl⟩
          have HP := Lib.hid hp
          have d0 := Y.out.at6 (m := 0) hlt (by decide) rfl
          have d1 := Y.out.at6 (m := 1) hlt (by decide) rfl
          have d2 := Y.out.at6 (m := 2) hlt (by decide) rfl
          have d3 := Y.out.at6 (m := 3) hlt (by decide) rfl
          have d4 := Y.out.at6 (m := 4) hlt (by decide) rfl
          have d5 := Y.out.at6 (m := 5) hlt (by decide) rfl
          have z2 := Y.out.at6 (i := 0) (m := 2) hm0 (by decide) rfl
          have z3 := Y.out.at6 (i := 0) (m := 3) hm0 (by decide) rfl
          have z4 := Y.out.at6 (i := 0) (m := 4) hm0 (by decide) rfl
          rw [← hp] at d0 d1 d2 d3 d4 d5
          simp only [Nat.zero_mul, Nat.zero_add, Nat.add_zero] at d0 z2 z3 z4
          have hB := cntB_le r off i
          have hQ := cntP_le r off i
          have b1 : IntKind.i64.wrap ((cntB r off i : Int) + 1) = (cntB r off i : Int) + 1 := IntWalk.i64_in _ (by omega)
          have b2 : IntKind.i64.wrap ((cntP r off i : Int) + 1) = (cntP r off i : Int) + 1 := IntWalk.i64_in _ (by omega)
          clear hp
          have LT : Hid (∀ k, LS w (wr.drewN k) 4 n ((q : Int) + 1) (.slice (some ⟨g, 0, none⟩) j gcap) j r off) := Lib.hid fun k => Y.out.later ((Fresh.refl wr).drewN k)
          by_cases k1 : r.kd p = 1
          · rw [k1] at d0
            have e1 := Lib.hid (steps_1 r off i p HP.out k1)
            have e6 : b6 r p = (r.by' p : Int) := by unfold b6; rw [if_neg (by omega)]
            rw [e6] at d1
            clear e6 k1
            go_upto_region 18 with fail
            clear b1 b2 hB hQ
            go_quiet (fail)
            go_wp2_with fail
            go_roundw
            case rel => exact ⟨i + 1, by omega, by rw [e1.out.1]; go_num, by rw [e1.out.2.1], by rw [e1.out.2.2], by go_num, LT.out _⟩
            case measure => simp [intOf]; omega
          · by_cases k2 : r.kd p = 2
            · by_cases k3 : (pcD r p).2 = i
              · by_cases k4 : (pcD r p).1 = (pcD r off).1
                · have e1 := Lib.hid (steps_p r off i p HP.out k1 true (by rw [k2, k3, k4]; simp))
                  have eq := eq_yes (pcD r off).1.1 (pcD r off).1.2.1 (pcD r off).1.2.2
                  rw [k2] at d0
                  rw [k3] at d5
                  rw [k4] at d2 d3 d4
                  clear k1 k2 k3 k4
                  go_upto_region 18 with fail
                  clear b1 hB hQ
                  go_quiet (fail)
                  go_wp2_with fail
                  go_roundw
                  case rel => exact ⟨i + 1, by omega, by rw [e1.out.1], by rw [e1.out.2.1]; go_num, by rw [e1.out.2.2], by go_num, LT.out _⟩
                  case measure => simp [intOf]; omega
                · have e1 := Lib.hid (steps_p r off i p HP.out k1 false (by rw [k2, k3, decide_eq_false k4]; simp))
                  have eq := eq_no (pcD r p).1.1 (pcD r p).1.2.1 (pcD r p).1.2.2 (pcD r off).1.1 (pcD r off).1.2.1 (pcD r off).1.2.2 (fun e => k4 e)
                  rw [k2] at d0
                  rw [k3] at d5
                  clear k1 k2 k3 k4
                  go_upto_region 18 with fail
                  clear b1 hB hQ
                  go_quiet (fail)
                  go_wp2_with fail
                  go_roundw
                  case rel => exact ⟨i + 1, by omega, by rw [e1.out.1], by rw [e1.out.2.1]; go_num, by rw [e1.out.2.2], by go_num, LT.out _⟩
                  case measure => simp [intOf]; omega
              · have e1 := Lib.hid (steps_p r off i p HP.out k1 false (by rw [k2, decide_eq_false k3]; simp))
                have e5 : ((((pcD r p).2 : Int)) == (i : Int)) = false := by simp only [beq_eq_false_iff_ne]; omega
                rw [k2] at d0
                generalize (pcD r p).2 = ix at *
                clear k1 k2 k3 z2 z3 z4
                go_upto_region 18 with fail
                clear b1 b2 hB hQ
                go_quiet (fail)
                go_wp2_with fail
                go_roundw
                case rel => exact ⟨i + 1, by omega, by rw [e1.out.1], by rw [e1.out.2.1]; go_num, by rw [e1.out.2.2], by go_num, LT.out _⟩
                case measure => simp [intOf]; omega
            · have e1 := Lib.hid (steps_p r off i p HP.out k1 false (by rw [decide_eq_false k2]; simp))
              have e5 : ((r.kd p : Int) == 1) = false := by simp only [beq_eq_false_iff_ne]; omega
              have e6 : ((r.kd p : Int) == 2) = false := by simp only [beq_eq_false_iff_ne]; omega
              generalize r.kd p = kk at *
              clear k1 k2 z2 z3 z4 d2 d3 d4 d5 d1
              go_upto_region 18 with fail
              clear b1 b2 hB hQ
              go_quiet (fail)
              go_wp2_with fail
              go_roundw
              case rel => exact ⟨i + 1, by omega, by rw [e1.out.1], by rw [e1.out.2.1]; go_num, by rw [e1.out.2.2], by go_num, LT.out _⟩
              case measure => simp [intOf]; omega
        · have hij : i = j := by omega
          subst hij
          clear hlt hi
          have z2 := Y.out.at6 (i := 0) (m := 2) hm0 (by decide) rfl
          have z3 := Y.out.at6 (i := 0) (m := 3) hm0 (by decide) rfl
          have z4 := Y.out.at6 (i := 0) (m := 4) hm0 (by decide) rfl
          simp only [Nat.zero_mul, Nat.zero_add, Nat.add_zero] at z2 z3 z4
          have q0 := Y.out.z.c0
          have q1 := Y.out.z.c1
          have q2 := Y.out.z.c2
          have qf := fun o => Y.out.zf hzf.out o
          have HM0 := Lib.hid hm0
          clear hm8 hm0 hoff hsz hL hq
          by_cases hA : c = 6 ∧ cntP r off i = 8
          · obtain ⟨rfl, hP⟩ := hA
            have HV : Hid (loadRB r 6 off i = (pcD r off).1) := Lib.hid (by unfold loadRB; rw [if_pos ⟨rfl, hP⟩, P0_D])
            have e8 : ((cntP r off i : Int) == 8) = true := by rw [hP]; rfl
            clear hP
            go_upto_region 21 with fail
            have hm0 := HM0.out
            go_wp2_with fail
            all_goals (refine bodyPost_ret (v := ?_) ?_ rfl ?_; rotate_left 1; focus (simp [results, Try.results16, go_sem, *]; (try rfl); done))
            all_goals exact ⟨by rw [HV.out], (by (repeat' first | with_reducible exact Y.out.fr | with_reducible refine Fresh.alloc ?_ _ _ | with_reducible refine Fresh.drew ?_ | with_reducible refine Fresh.setCell ?_ ?_ _ | (simp; done) | (simp; omega)))⟩
          · have e8 : c = 6 → ((cntP r off i : Int) == 8) = false := fun e => by simp only [beq_eq_false_iff_ne]; intro h8; exact hA ⟨e, by omega⟩
            by_cases hB : cntB r off i < i
            · have HB := Lib.hid hB
              have HV : Hid (loadRB r c off i = (0, 0, 0)) := Lib.hid (by unfold loadRB; rw [if_neg hA, if_pos hB])
              clear hA z2 z3 z4 hB
              by_cases c6 : c = 6
              · have e9 := e8 c6
                subst c6
                clear e8
                go_upto_region 22 with fail
                have hB := HB.out
                go_wp2_with fail
                all_goals (refine bodyPost_ret (v := ?_) ?_ rfl ?_; rotate_left 1; focus (simp [results, Try.results16, go_sem, *]; (try rfl); done))
                all_goals exact ⟨by rw [HV.out], (by (repeat' first | with_reducible exact Y.out.fr | with_reducible refine Fresh.alloc ?_ _ _ | with_reducible refine Fresh.drew ?_ | with_reducible refine Fresh.setCell ?_ ?_ _ | (simp; done) | (simp; omega)))⟩
              · have e6 : (c == 6) = false := by simpa using c6
                clear e8 c6
                go_upto_region 22 with fail
                have hB := HB.out
                go_wp2_with fail
                all_goals (refine bodyPost_ret (v := ?_) ?_ rfl ?_; rotate_left 1; focus (simp [results, Try.results16, go_sem, *]; (try rfl); done))
                all_goals exact ⟨by rw [HV.out], (by (repeat' first | with_reducible exact Y.out.fr | with_reducible refine Fresh.alloc ?_ _ _ | with_reducible refine Fresh.drew ?_ | with_reducible refine Fresh.setCell ?_ ?_ _ | (simp; done) | (simp; omega)))⟩
            · have HB := Lib.hid hB
              have HV : Hid (loadRB r c off i = valueOfL c (accR r off i)) := Lib.hid (by unfold loadRB; rw [if_neg hA, if_neg hB])
              clear hA z2 z3 z4 hB
              rcases HC7.out with rfl | rfl | rfl | rfl | rfl | rfl | rfl
              case inr.inr.inr.inr.inr.inl =>
                have e9 := e8 rfl
                clear e8
                go_upto_region 22 with fail
                have hB := HB.out
                go_wp2_with fail
                clear q0 q1 q2 qf
                go_at_call 40; refine (long40 _ _).mono ?_; rintro e w2 ⟨rfl, h2⟩
                have Y2 := Lib.hid (Y.out.later h2)
                have q0 := Y2.out.z.c0
                have q1 := Y2.out.z.c1
                have q2 := Y2.out.z.c2
                have qf := fun o => Y2.out.zf hzf.out o
                clear h2
                go_wp2_with fail
                all_goals (refine bodyPost_ret (v := ?_) ?_ rfl ?_; rotate_left 1; focus (simp [results, Try.results16, go_sem, *]; (try rfl); done))
                all_goals exact ⟨by rw [HV.out]; first | rfl | exact ret_valok (p := (valueOfL _ _, true)) (by simp [valueOfL, wrapm]), (by (repeat' first | with_reducible exact Y2.out.fr | with_reducible exact Y.out.fr | with_reducible refine Fresh.alloc ?_ _ _ | with_reducible refine Fresh.drew ?_ | with_reducible refine Fresh.setCell ?_ ?_ _ | (simp; done) | (simp; omega)))⟩
              case inr.inr.inr.inr.inr.inr =>
                clear e8
                have Y2 := Y
                go_upto_region 22 with fail
                have hB := HB.out
                go_wp2_with fail
                all_goals (refine bodyPost_ret (v := ?_) ?_ rfl ?_; rotate_left 1; focus (simp [results, Try.results16, go_sem, *]; (try rfl); done))
                all_goals exact ⟨by rw [HV.out]; first | rfl | exact ret_valok (p := (valueOfL _ _, true)) (by simp [valueOfL, wrapm]), (by (repeat' first | with_reducible exact Y2.out.fr | with_reducible exact Y.out.fr | with_reducible refine Fresh.alloc ?_ _ _ | with_reducible refine Fresh.drew ?_ | with_reducible refine Fresh.setCell ?_ ?_ _ | (simp; done) | (simp; omega)))⟩
              all_goals clear e8
              all_goals go_upto_region 22 with fail
              all_goals have hB := HB.out
              all_goals go_wp2_with fail
              all_goals clear q0 q1 q2 qf
              all_goals
                go_at_call 39; refine (int39 _ _).mono ?_; rintro e w2 ⟨rfl, h2⟩
                have Y2 := Lib.hid (Y.out.later h2)
                have q0 := Y2.out.z.c0
                have q1 := Y2.out.z.c1
                have q2 := Y2.out.z.c2
                have qf := fun o => Y2.out.zf hzf.out o
                clear h2
                go_wp2_with fail
                all_goals (refine bodyPost_ret (v := ?_) ?_ rfl ?_; rotate_left 1; focus (simp [results, Try.results16, go_sem, *]; (try rfl); done))
                all_goals exact ⟨by rw [HV.out]; first | rfl | exact ret_valok (p := (valueOfL _ _, true)) (by simp [valueOfL, wrapm]), (by (repeat' first | with_reducible exact Y2.out.fr | with_reducible exact Y.out.fr | with_reducible refine Fresh.alloc ?_ _ _ | with_reducible refine Fresh.drew ?_ | with_reducible refine Fresh.setCell ?_ ?_ _ | (simp; done) | (simp; omega)))⟩
end
end Go.Proofs.Ytjbflmpnmobngaa
