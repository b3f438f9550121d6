/- The walk of the statement on rows of calls. -/
import Derived.Test.YtjbflmpnmobngaaYd
import Derived.Deep.CutRange
import Derived.Deep.CutBlock
namespace Go.Proofs.Ytjbflmpnmobngaa.memoryPlays
set_option linter.unusedSimpArgs false
set_option linter.unusedVariables false
open Go.RowKit

theorem key {x : Int} (h : i64B x) : Key x := Key.mk (by unfold i64B at h; omega) (by unfold i64B at h; omega)
set_option maxRecDepth 100000 in
set_option maxHeartbeats 40000000 in
theorem walk (B off n cap : Nat) (g : Nat → Op9) (hn : n ≤ 1954687338211) (hcap : n ≤ cap) (hm : cap ≤ maxLen) (w : World) (hc : ScriptAt w B off n g) :
    Calls Try.prog 3 #[.slice (some ⟨B, off, none⟩) n cap] w fun e w' => e = .returned (.bool true) ∧ Fresh w w' := by
  unfold maxLen at hm
  have HC := Lib.hid hc
  clear hc
  go_enter Try.func3, Try.ntmps3
  go_wp2_with fail
  go_at_call 7; refine (fixed_any _).mono ?_; rintro e w0 ⟨rfl, h0⟩
  have HF := Lib.hid h0
  replace HC := Lib.hid (ScriptAt.fresh HC.out h0)
  clear h0
  go_wp2_with fail
  go_at_call 8; refine (new_mem (w := w0) (L := fun k => k < w0.heap.size) (fun k hk => hk)).mono ?_; rintro e w1 ⟨rfl, hm1, hf1⟩
  have E0 := Lib.hid (Two.start hm1 hf1)
  clear hm1 hf1
  generalize w0.heap.size + 1 = M at *
  generalize hM2 : w1.heap.size = M2 at *
  go_wp2_with fail
  go_loopw [2, 5, 28] (fun s2 s5 s28 wr => ∃ (j : Nat) (tt : Int), j ≤ n ∧ s28 = .int .i64 j ∧ s5 = .int .i64 tt ∧ 0 ≤ tt ∧ tt ≤ 65536 ∧ s2 = .bool false ∧ Hid (LoopR w0 wr M M2 j)) (fun _ _ s28 _ => n - (intOf s28).toNat)
  case atStart => exact ⟨0, 0, by omega, rfl, rfl, by omega, by omega, rfl, E0⟩
  case round =>
    obtain ⟨j, tt, hj, rfl, rfl, ht0, ht1, rfl, E⟩ := hrel
    clear E0
    by_cases hlt : j < n
    · have sc := HC.out.fresh E.out.out
      obtain ⟨o, ho⟩ : ∃ o, o = g j := ⟨_, rfl⟩
      have c0 := sc.c0 j hlt
      have c1 := sc.c1 j hlt
      have c2 := sc.c2 j hlt
      have c3 := sc.c3 j hlt
      have c4 := sc.c4 j hlt
      have c5 := sc.c5 j hlt
      have c6 := sc.c6 j hlt
      have c7 := sc.c7 j hlt
      have c8 := sc.c8 j hlt
      rw [← ho] at c0 c1 c2 c3 c4 c5 c6 c7 c8
      have OK : Hid o.ok := Lib.hid (by rw [ho]; exact sc.ok j hlt)
      have E1 := Lib.hid (E.out.round o)
      clear ho sc
      obtain ⟨z0, z1, z2, k, n1, b, k', n', b'⟩ := o
      dsimp only at c0 c1 c2 c3 c4 c5 c6 c7 c8
      go_upto_region 9 with fail
      clear c0 c1 c2 c3 c4 c5 c6 c7 c8
      have BX := E1.out.bx
      dsimp only at BX E1
      have x0 := BX.c0
      generalize wr.alloc (.cells #[.int .i64 z0, .int .i64 z1, .int .i64 z2, .int .i64 k, .int .u64 n1, .int .i64 b, .int .i64 k', .int .u64 n', .int .i64 b'] 34) = w2 at *
      generalize wr.heap.size = Bx at *
      have HBX := Lib.hid BX
      clear BX E
      go_upto_block 2 with fail
      clear x0
      go_cut [2, 5, 8, 9, 10, 11, 12, 13, 14, 15, 16] from 34 to 159 (fun s2 s5 s8 s9 s10 s11 s12 s13 s14 s15 s16 wx => ∃ tt : Int, s2 = .bool false ∧ s5 = .int .i64 tt ∧ 0 ≤ tt ∧ tt ≤ 65536 ∧ s8 = .bool true ∧ Hid (RoundR w0 wx M M2 (j + 1) Bx ⟨z0, z1, z2, k, n1, b, k', n', b'⟩))
      case first =>
        obtain ⟨made, S, v, Lr, hR, hl, h2, -⟩ := E1.out
        have T2 := Lib.hid h2
        have HL := Lib.hid hl
        have HR := Lib.hid hR
        have BX := HBX
        clear h2 hl hR HBX
        by_cases k1 : z0 = 1
        · subst k1
          have x1 := BX.out.c1
          by_cases hp : 0 < z1 ∧ z1 ≤ 16777216
          · obtain ⟨p0, p1⟩ := hp
            by_cases hq : 65536 < tt + z1
            · go_wp2_with fail
              go_ret
              exact ⟨rfl, HF.out.trans E1.out.loop.out⟩
            · obtain ⟨sz, hsz⟩ : ∃ sz : Nat, z1 = (sz : Int) := ⟨z1.toNat, by omega⟩
              subst hsz
              go_upto_region 15 with fail
              clear x1
              have RA := Lib.hid (fun Lr' e => rel_alloc HR.out HL.out sz Lr' e)
              have HM : Hid (made = Lr.length) := Lib.hid (by have := HR.out.made; rw [plainR_len] at this; exact this)
              go_region_held3 (fun w' => w'.cell? ⟨Bx, 1, none⟩ = some (.int .i64 (sz : Int))) (exact (BX.out.later (by (repeat' first | with_reducible exact Fresh.refl _ | with_reducible assumption | with_reducible refine Fresh.drew ?_))).c1) (first | (go_at_call 9; (refine ((T2.out.later (by (repeat' first | with_reducible exact Fresh.refl _ | with_reducible assumption | with_reducible refine Fresh.drew ?_))).c9 (sz : Int) (by unfold maxLen; omega) (by have := HM.out; have := HL.out; omega) (by omega) (by omega)).mono ?_); rintro e w9 ⟨rfl, q9, t9⟩; replace BX := Lib.hid ((BX.out.later (by (repeat' first | with_reducible exact Fresh.refl _ | with_reducible assumption | with_reducible refine Fresh.drew ?_))).next t9); replace T2 := Lib.hid q9; clear q9 t9) | (go_at_call 10; (refine ((T2.out.later (by (repeat' first | with_reducible exact Fresh.refl _ | with_reducible assumption | with_reducible refine Fresh.drew ?_))).c10 sz (by omega) (by have := HL.out; omega) made HM.out).mono ?_); rintro e w10 ⟨rfl, v', Lr', hR', q10, t10⟩; replace BX := Lib.hid ((BX.out.later (by (repeat' first | with_reducible exact Fresh.refl _ | with_reducible assumption | with_reducible refine Fresh.drew ?_))).next t10); replace T2 := Lib.hid q10; have HR' := Lib.hid hR'; clear q10 t10 hR'))
              all_goals (go_wp2_with fail; go_meet)
              all_goals exact ⟨_, rfl, rfl, by omega, by omega, by first | rfl | (simp; done), Lib.hid (RoundR.of T2.out (by omega) (by omega) (RA.out _ HR'.out).1 (RA.out _ HR'.out).2 BX.out)⟩
          · by_cases h0 : z1 = 0
            · subst h0
              have HI := Lib.hid (show 0 ≤ tt ∧ tt ≤ 65536 ∧ j < n ∧ n ≤ 1954687338211 from ⟨ht0, ht1, hlt, hn⟩)
              clear hp ht0 ht1 hlt hn hj hcap hm
              go_upto_region 15 with fail
              clear x1
              obtain ⟨ht0, ht1, hlt, hn⟩ := HI.out
              have RA := Lib.hid (fun Lr' e => rel_alloc HR.out HL.out 0 Lr' e)
              have HM : Hid (made = Lr.length) := Lib.hid (by have := HR.out.made; rw [plainR_len] at this; exact this)
              go_region_held3 (fun w' => w'.cell? ⟨Bx, 1, none⟩ = some (.int .i64 0)) (exact (BX.out.later (by (repeat' first | with_reducible exact Fresh.refl _ | with_reducible assumption | with_reducible refine Fresh.drew ?_))).c1) (first | (go_at_call 9; (refine ((T2.out.later (by (repeat' first | with_reducible exact Fresh.refl _ | with_reducible assumption | with_reducible refine Fresh.drew ?_))).c9 0 (by unfold maxLen; omega) (by have := HM.out; have := HL.out; omega) (by omega) (by omega)).mono ?_); rintro e w9 ⟨rfl, q9, t9⟩; replace BX := Lib.hid ((BX.out.later (by (repeat' first | with_reducible exact Fresh.refl _ | with_reducible assumption | with_reducible refine Fresh.drew ?_))).next t9); replace T2 := Lib.hid q9; clear q9 t9) | (go_at_call 10; (refine ((T2.out.later (by (repeat' first | with_reducible exact Fresh.refl _ | with_reducible assumption | with_reducible refine Fresh.drew ?_))).c10z (by have := HL.out; omega) made HM.out).mono ?_); rintro e w10 ⟨rfl, v', Lr', hR', q10, t10⟩; replace BX := Lib.hid ((BX.out.later (by (repeat' first | with_reducible exact Fresh.refl _ | with_reducible assumption | with_reducible refine Fresh.drew ?_))).next t10); replace T2 := Lib.hid q10; have HR' := Lib.hid hR'; clear q10 t10 hR'))
              all_goals (go_wp2_with fail; go_meet)
              all_goals exact ⟨_, rfl, rfl, by omega, by omega, by first | rfl | (simp; done), Lib.hid (RoundR.of T2.out (by omega) (by omega) (RA.out _ HR'.out).1 (RA.out _ HR'.out).2 BX.out)⟩
            · have hno : z1 < 0 ∨ 16777216 < z1 := by omega
              have HNO := Lib.hid hno
              by_cases hneg : z1 < 0
              · have d0 : decide ((0 : Int) < z1) = false := decide_eq_false (by omega)
                clear hp h0 hno hneg
                have HI := Lib.hid (show 0 ≤ tt ∧ tt ≤ 65536 ∧ j < n ∧ n ≤ 1954687338211 from ⟨ht0, ht1, hlt, hn⟩)
                clear ht0 ht1 hlt hn hj hcap hm
                go_upto_region 15 with fail
                clear x1 d0
                obtain ⟨ht0, ht1, hlt, hn⟩ := HI.out
                go_region_held3 (fun w' => w'.cell? ⟨Bx, 1, none⟩ = some (.int .i64 z1)) (exact (BX.out.later (by (repeat' first | with_reducible exact Fresh.refl _ | with_reducible assumption | with_reducible refine Fresh.drew ?_))).c1) (first | (go_at_call 9; (refine (alloc_no z1 HNO.out _).mono ?_); rintro e w9 ⟨rfl, rfl⟩) | (go_at_call 10; (refine (allocR_no M2 z1 HNO.out _).mono ?_); rintro e w10 ⟨rfl, rfl⟩))
                all_goals (go_wp2_with fail; go_meet)
                all_goals exact ⟨_, rfl, rfl, by omega, by omega, by first | rfl | (simp; done), Lib.hid (E1.out.up.later (by (repeat' first | with_reducible exact Fresh.refl _ | with_reducible assumption | with_reducible refine Fresh.drew ?_)))⟩
              · have d0 : 0 < z1 := by omega
                have d1 : ¬ z1 ≤ 16777216 := by omega
                clear hp h0 hno hneg
                have HI := Lib.hid (show 0 ≤ tt ∧ tt ≤ 65536 ∧ j < n ∧ n ≤ 1954687338211 from ⟨ht0, ht1, hlt, hn⟩)
                clear ht0 ht1 hlt hn hj hcap hm
                go_upto_region 15 with fail
                clear x1 d0 d1
                obtain ⟨ht0, ht1, hlt, hn⟩ := HI.out
                go_region_held3 (fun w' => w'.cell? ⟨Bx, 1, none⟩ = some (.int .i64 z1)) (exact (BX.out.later (by (repeat' first | with_reducible exact Fresh.refl _ | with_reducible assumption | with_reducible refine Fresh.drew ?_))).c1) (first | (go_at_call 9; (refine (alloc_no z1 HNO.out _).mono ?_); rintro e w9 ⟨rfl, rfl⟩) | (go_at_call 10; (refine (allocR_no M2 z1 HNO.out _).mono ?_); rintro e w10 ⟨rfl, rfl⟩))
                all_goals (go_wp2_with fail; go_meet)
                all_goals exact ⟨_, rfl, rfl, by omega, by omega, by first | rfl | (simp; done), Lib.hid (E1.out.up.later (by (repeat' first | with_reducible exact Fresh.refl _ | with_reducible assumption | with_reducible refine Fresh.drew ?_)))⟩
        by_cases k2 : z0 = 2
        · subst k2
          clear k1
          go_upto_region 17 with fail
          obtain ⟨x, hx⟩ : ∃ x, x = (getR (plainR Lr) z1).isSome := ⟨_, rfl⟩
          have HX := Lib.hid hx.symm
          have HY : Hid ((freeS S z1).1 = x) := Lib.hid (by rw [hx]; exact (freeM_rel HR.out z1).1)
          clear hx
          have RA := Lib.hid (fun Lr' e => rel_free HR.out HL.out z1 Lr' e)
          go_region_held3 (fun w' => w'.cell? ⟨Bx, 1, none⟩ = some (.int .i64 z1)) (exact (BX.out.later (by (repeat' first | with_reducible exact Fresh.refl _ | with_reducible assumption | with_reducible refine Fresh.drew ?_))).c1) (first | (go_at_call 11; (refine ((T2.out.later (by (repeat' first | with_reducible exact Fresh.refl _ | with_reducible assumption | with_reducible refine Fresh.drew ?_))).c11 z1 (key OK.out.c1) x HY.out).mono ?_); rintro e w11 ⟨rfl, q9, t9⟩; replace BX := Lib.hid ((BX.out.later (by (repeat' first | with_reducible exact Fresh.refl _ | with_reducible assumption | with_reducible refine Fresh.drew ?_))).next t9); replace T2 := Lib.hid q9; clear q9 t9) | (go_at_call 12; (refine ((T2.out.later (by (repeat' first | with_reducible exact Fresh.refl _ | with_reducible assumption | with_reducible refine Fresh.drew ?_))).c12 z1 OK.out.c1 (by have := HL.out; omega) x HX.out).mono ?_); rintro e w12 ⟨rfl, v', Lr', hR', q10, t10⟩; replace BX := Lib.hid ((BX.out.later (by (repeat' first | with_reducible exact Fresh.refl _ | with_reducible assumption | with_reducible refine Fresh.drew ?_))).next t10); replace T2 := Lib.hid q10; have HR' := Lib.hid hR'; clear q10 t10 hR'))
          all_goals (go_wp2_with fail; go_meet)
          all_goals exact ⟨_, rfl, rfl, by omega, by omega, by first | rfl | (simp; done), Lib.hid (RoundR.of T2.out (by omega) (by omega) (RA.out _ HR'.out).1 (RA.out _ HR'.out).2 BX.out)⟩
        by_cases k3 : z0 = 3
        · subst k3
          clear k1 k2
          go_upto_region 19 with fail
          obtain ⟨x, hx⟩ : ∃ x, x = (getR (plainR Lr) z1).isSome := ⟨_, rfl⟩
          have HX := Lib.hid hx.symm
          have HY : Hid ((fixS S z1).1 = x) := Lib.hid (by rw [hx]; exact (fixM_rel HR.out z1).1)
          clear hx
          have RA := Lib.hid (fun Lr' e => rel_fix HR.out HL.out z1 Lr' e)
          go_region_held3 (fun w' => w'.cell? ⟨Bx, 1, none⟩ = some (.int .i64 z1)) (exact (BX.out.later (by (repeat' first | with_reducible exact Fresh.refl _ | with_reducible assumption | with_reducible refine Fresh.drew ?_))).c1) (first | (go_at_call 13; (refine ((T2.out.later (by (repeat' first | with_reducible exact Fresh.refl _ | with_reducible assumption | with_reducible refine Fresh.drew ?_))).c13 z1 (key OK.out.c1) x HY.out).mono ?_); rintro e w13 ⟨rfl, q9, t9⟩; replace BX := Lib.hid ((BX.out.later (by (repeat' first | with_reducible exact Fresh.refl _ | with_reducible assumption | with_reducible refine Fresh.drew ?_))).next t9); replace T2 := Lib.hid q9; clear q9 t9) | (go_at_call 14; (refine ((T2.out.later (by (repeat' first | with_reducible exact Fresh.refl _ | with_reducible assumption | with_reducible refine Fresh.drew ?_))).c14 z1 OK.out.c1 (by have := HL.out; omega) x HX.out).mono ?_); rintro e w14 ⟨rfl, v', Lr', hR', q10, t10⟩; replace BX := Lib.hid ((BX.out.later (by (repeat' first | with_reducible exact Fresh.refl _ | with_reducible assumption | with_reducible refine Fresh.drew ?_))).next t10); replace T2 := Lib.hid q10; have HR' := Lib.hid hR'; clear q10 t10 hR'))
          all_goals (go_wp2_with fail; go_meet)
          all_goals exact ⟨_, rfl, rfl, by omega, by omega, by first | rfl | (simp; done), Lib.hid (RoundR.of T2.out (by omega) (by omega) (RA.out _ HR'.out).1 (RA.out _ HR'.out).2 BX.out)⟩
        by_cases k4 : z0 = 4
        · subst k4
          clear k1 k2 k3
          obtain ⟨x, y, z, t, hv⟩ : ∃ x y z t, loadS S z2 k n1 b = ((x, y, z), t) := ⟨_, _, _, _, rfl⟩
          have CP := Lib.hid (load_mem T2.out.mem z2 k n1 b (key OK.out.b) x y z t hv)
          have CR := Lib.hid (fun X f => loadR_any (w := X) (T2.out.later f).ref z2 k n1 b OK.out.b (by have := HL.out; omega) x y z t ((loadM_rel HR.out z2 k n1 b).symm.trans hv))
          clear hv
          have FQ := Lib.hid (Fresh.refl w2)
          have x2 := (BX.out.later FQ.out).c2
          have x3 := (BX.out.later FQ.out).c3
          have x4 := (BX.out.later FQ.out).c4
          have x5 := (BX.out.later FQ.out).c5
          go_wp2_with fail
          clear x2 x3 x4 x5
          go_at_call 15; refine (CP.out).mono ?_; rintro e w9 ⟨rfl, f9⟩
          replace FQ := Lib.hid (f9.alloc #[.int .i64 x, .int .u64 y, .int .i64 z] 32)
          have O1 := Lib.hid (Own.new' w9 x y z)
          clear f9
          have x2 := (BX.out.later FQ.out).c2
          have x3 := (BX.out.later FQ.out).c3
          have x4 := (BX.out.later FQ.out).c4
          have x5 := (BX.out.later FQ.out).c5
          go_wp2_with fail
          clear x2 x3 x4 x5
          generalize w9.alloc (.cells #[.int .i64 x, .int .u64 y, .int .i64 z] 32) = wa at *
          generalize w9.heap.size = B1 at *
          go_at_call 16; refine (CR.out _ FQ.out).mono ?_; rintro e w10 ⟨rfl, f10⟩
          replace FQ := Lib.hid ((FQ.out.trans f10).alloc #[.int .i64 x, .int .u64 y, .int .i64 z] 32)
          have o2 := Own.new' w10 x y z
          have o1 := (O1.out.later f10).later ((Fresh.refl w10).alloc #[.int .i64 x, .int .u64 y, .int .i64 z] 32)
          clear O1
          obtain ⟨d0, d1, d2⟩ := own_cells o1
          obtain ⟨e0, e1, e2⟩ := own_cells o2
          have eq := eq_yes x y z
          have htt : (t == t) = true := by cases t <;> rfl
          clear o1 o2 f10
          go_wp2_with fail
          go_meet
          exact ⟨_, rfl, rfl, by omega, by omega, by first | rfl | (simp; done), Lib.hid (E1.out.up.later FQ.out)⟩
        by_cases k5 : z0 = 5
        · subst k5
          clear k1 k2 k3 k4
          go_upto_region 25 with fail
          obtain ⟨x, hx⟩ : ∃ x, x = (storeR (plainR Lr) z2 k n1 b k' n' b').1 := ⟨_, rfl⟩
          have HX := Lib.hid hx.symm
          have HY : Hid ((storeS S z2 k n1 b k' n' b').1 = x) := Lib.hid (by rw [hx]; exact (storeM_rel HR.out z2 k n1 b k' n' b').1)
          clear hx
          have RA := Lib.hid (fun Lr' e => rel_store HR.out HL.out z2 k n1 b k' n' b' Lr' e)
          go_region_held3 (fun w' => w'.cell? ⟨Bx, 2, none⟩ = some (.int .i64 z2) ∧ w'.cell? ⟨Bx, 3, none⟩ = some (.int .i64 k) ∧ w'.cell? ⟨Bx, 4, none⟩ = some (.int .u64 n1) ∧ w'.cell? ⟨Bx, 5, none⟩ = some (.int .i64 b) ∧ w'.cell? ⟨Bx, 6, none⟩ = some (.int .i64 k') ∧ w'.cell? ⟨Bx, 7, none⟩ = some (.int .u64 n') ∧ w'.cell? ⟨Bx, 8, none⟩ = some (.int .i64 b')) (exact (BX.out.later (by (repeat' first | with_reducible exact Fresh.refl _ | with_reducible assumption | with_reducible refine Fresh.drew ?_))).seven) (first | (go_at_call 17; (refine ((T2.out.later (by (repeat' first | with_reducible exact Fresh.refl _ | with_reducible assumption | with_reducible refine Fresh.drew ?_))).c17 (by unfold maxLen; omega) z2 k n1 b k' n' b' (key OK.out.b) OK.out.n'.1 x HY.out).mono ?_); rintro e w17 ⟨rfl, q9, t9⟩; replace BX := Lib.hid ((BX.out.later (by (repeat' first | with_reducible exact Fresh.refl _ | with_reducible assumption | with_reducible refine Fresh.drew ?_))).next t9); replace T2 := Lib.hid q9; clear q9 t9) | (go_at_call 18; (refine ((T2.out.later (by (repeat' first | with_reducible exact Fresh.refl _ | with_reducible assumption | with_reducible refine Fresh.drew ?_))).c18 (by unfold maxLen; omega) z2 k n1 b k' n' b' OK.out.b OK.out.n'.1 (by have := HL.out; omega) x HX.out).mono ?_); rintro e w18 ⟨rfl, v', Lr', hR', q10, t10⟩; replace BX := Lib.hid ((BX.out.later (by (repeat' first | with_reducible exact Fresh.refl _ | with_reducible assumption | with_reducible refine Fresh.drew ?_))).next t10); replace T2 := Lib.hid q10; have HR' := Lib.hid hR'; clear q10 t10 hR'))
          all_goals (go_wp2_with fail; go_meet)
          all_goals exact ⟨_, rfl, rfl, by omega, by omega, by first | rfl | (simp; done), Lib.hid (RoundR.of T2.out (by omega) (by omega) (RA.out _ HR'.out).1 (RA.out _ HR'.out).2 BX.out)⟩
        by_cases k6 : z0 = 6
        · subst k6
          clear k1 k2 k3 k4 k5
          obtain ⟨x, y, z, t, hv⟩ : ∃ x y z t, evF (inR (plainR Lr) 4 n1 b) (inR (plainR Lr) 4 n' b') (endsR (plainR Lr) n1 b) (endsR (plainR Lr) n' b') z1 k n1 b k' n' b' = ((x, y, z), t) := ⟨_, _, _, _, rfl⟩
          have CP := Lib.hid (eval_mem T2.out.mem HR.out z1 k n1 b k' n' b' (key OK.out.b) (key OK.out.b') OK.out.n.1 OK.out.n'.1 x y z t hv)
          have CR := Lib.hid (fun X f => evalR_any (w := X) (T2.out.later f).ref z1 k n1 b k' n' b' OK.out.c1 OK.out.b OK.out.b' (by have := HL.out; omega) OK.out.n.1 OK.out.n.2 OK.out.n'.1 OK.out.n'.2 x y z t hv)
          clear hv
          have FQ := Lib.hid (Fresh.refl w2)
          have x1 := (BX.out.later FQ.out).c1
          have x3 := (BX.out.later FQ.out).c3
          have x4 := (BX.out.later FQ.out).c4
          have x5 := (BX.out.later FQ.out).c5
          have x6 := (BX.out.later FQ.out).c6
          have x7 := (BX.out.later FQ.out).c7
          have x8 := (BX.out.later FQ.out).c8
          go_wp2_with fail
          clear x1 x3 x4 x5 x6 x7 x8
          go_at_call 19; refine (CP.out).mono ?_; rintro e w9 ⟨rfl, f9⟩
          replace FQ := Lib.hid (f9.alloc #[.int .i64 x, .int .u64 y, .int .i64 z] 32)
          have O1 := Lib.hid (Own.new' w9 x y z)
          clear f9
          have x1 := (BX.out.later FQ.out).c1
          have x3 := (BX.out.later FQ.out).c3
          have x4 := (BX.out.later FQ.out).c4
          have x5 := (BX.out.later FQ.out).c5
          have x6 := (BX.out.later FQ.out).c6
          have x7 := (BX.out.later FQ.out).c7
          have x8 := (BX.out.later FQ.out).c8
          go_wp2_with fail
          clear x1 x3 x4 x5 x6 x7 x8
          generalize w9.alloc (.cells #[.int .i64 x, .int .u64 y, .int .i64 z] 32) = wa at *
          generalize w9.heap.size = B1 at *
          go_at_call 20; refine (CR.out _ FQ.out).mono ?_; rintro e w10 ⟨rfl, f10⟩
          replace FQ := Lib.hid ((FQ.out.trans f10).alloc #[.int .i64 x, .int .u64 y, .int .i64 z] 32)
          have o2 := Own.new' w10 x y z
          have o1 := (O1.out.later f10).later ((Fresh.refl w10).alloc #[.int .i64 x, .int .u64 y, .int .i64 z] 32)
          clear O1
          obtain ⟨d0, d1, d2⟩ := own_cells o1
          obtain ⟨e0, e1, e2⟩ := own_cells o2
          have eq := eq_yes x y z
          have htt : (t == t) = true := by cases t <;> rfl
          clear o1 o2 f10
          go_wp2_with fail
          go_meet
          exact ⟨_, rfl, rfl, by omega, by omega, by first | rfl | (simp; done), Lib.hid (E1.out.up.later FQ.out)⟩
        have b1 : (z0 == 1) = false := by simpa using k1
        have b2 : (z0 == 2) = false := by simpa using k2
        have b3 : (z0 == 3) = false := by simpa using k3
        have b4 : (z0 == 4) = false := by simpa using k4
        have b5 : (z0 == 5) = false := by simpa using k5
        have b6 : (z0 == 6) = false := by simpa using k6
        clear k1 k2 k3 k4 k5 k6
        go_wp2_with fail
        go_meet
        exact ⟨_, rfl, rfl, by omega, by omega, rfl, Lib.hid E1.out.up⟩
      case rest =>
        obtain ⟨tt, rfl, rfl, ht0, ht1, rfl, E2⟩ := hcut
        obtain ⟨made, S, v, Lr, hR, hl, h2, bx⟩ := E2.out
        have x1 := bx.c1
        dsimp only at x1
        obtain ⟨x, t, hs⟩ : ∃ x t, sizeS S z1 = (x, t) := ⟨_, _, rfl⟩
        have C21 := Lib.hid (h2.c21 z1 (key OK.out.c1) x t hs)
        have C22 := Lib.hid (h2.c22 hR z1 OK.out.c1 (by omega) x t hs)
        have ht : (t != t) = false := by cases t <;> rfl
        have EL := Lib.hid E2.out.loop
        clear hR hl h2 bx hs E2
        go_wp2_with fail
        go_at_call 21; refine (C21.out).mono ?_; rintro e wq ⟨rfl, rfl⟩
        go_wp2_with fail
        go_at_call 22; refine (C22.out).mono ?_; rintro e wq ⟨rfl, rfl⟩
        go_wp2_with fail
        go_roundw
        case rel => exact ⟨j + 1, _, by omega, by go_num, rfl, ht0, ht1, rfl, EL⟩
        case measure => simp [intOf]; omega
    · go_wp2_with fail
      go_returns
      exact ⟨rfl, HF.out.trans E.out.out⟩
set_option maxRecDepth 100000 in
set_option maxHeartbeats 40000000 in
theorem walk0 (p : Option Addr) (cap : Nat) (w : World) :
    Calls Try.prog 3 #[.slice p 0 cap] w fun e w' => e = .returned (.bool true) ∧ Fresh w w' := by
  go_enter Try.func3, Try.ntmps3
  go_wp2_with fail
  go_at_call 7; refine (fixed_any _).mono ?_; rintro e w0 ⟨rfl, h0⟩
  have HF := Lib.hid h0
  clear h0
  go_wp2_with fail
  go_at_call 8; refine (new_mem (w := w0) (L := fun k => k < w0.heap.size) (fun k hk => hk)).mono ?_; rintro e w1 ⟨rfl, hm1, hf1⟩
  have E0 := Lib.hid (Two.start hm1 hf1)
  clear hm1 hf1
  go_wp2_with fail
  go_loopw [2, 5, 28] (fun s2 s5 s28 wr => s28 = .int .i64 0 ∧ s5 = .int .i64 0 ∧ s2 = .bool false ∧ Hid (Fresh w0 wr)) (fun _ _ s28 _ => 0)
  case atStart => exact ⟨rfl, rfl, rfl, Lib.hid E0.out.out⟩
  case round =>
    obtain ⟨rfl, rfl, rfl, E⟩ := hrel
    clear E0
    go_wp2_with fail
    go_returns
    exact ⟨rfl, HF.out.trans E.out⟩
end Go.Proofs.Ytjbflmpnmobngaa.memoryPlays
