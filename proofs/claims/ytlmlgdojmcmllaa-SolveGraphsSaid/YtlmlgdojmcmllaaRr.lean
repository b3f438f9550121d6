/- Looked for node by node: a number that is needed. -/
import Derived.Test.YtlmlgdojmcmllaaRq
namespace Go.Proofs.Ytlmlgdojmcmllaa
set_option linter.unusedSimpArgs false
set_option linter.unusedVariables false
open Go.RowKit
open Solve

theorem que_form {w : World} {base : Nat} {e : TypeId} {v : Value} {x : Nat} {q : List Nat} (h : Que w base e v (nums (ints (x :: q)))) :
    ∃ g off cap, v = .slice (some ⟨g, off, none⟩) (q.length + 1) cap ∧ q.length + 1 ≤ cap ∧ cap ≤ maxLen ∧ w.cell? ⟨g, off, none⟩ = some (.int .i64 (x : Int)) ∧
      Que w base e (.slice (some (if cap = 1 then ⟨g, off, none⟩ else ⟨g, off + 1, none⟩)) q.length (cap - 1)) (nums (ints q)) := by
  have hq : Que w base e v (.int .i64 (x : Int) :: nums (ints q)) := h
  have hc := h
  have hl : (nums (ints (x :: q))).length = q.length + 1 := by rw [nums_len, ints_len]; simp
  have hl2 : (nums (ints q)).length = q.length := by rw [nums_len, ints_len]
  rcases hc with ⟨_, h0⟩ | ⟨g, off, cap, cur, hv, hb, hg, hn, hm, hs, ht⟩
  · rw [h0] at hl; simp at hl
  · rw [hl] at hv hn
    refine ⟨g, off, cap, hv, hn, hm, ?_, ?_⟩
    · rw [cell_of_row w g off cur e (0, 0) hg]
      have := ht 0 (.int .i64 (x : Int)) rfl
      simpa using this
    · subst hv
      by_cases h1 : cap = 1
      · subst h1
        have hq0 : q = [] := List.eq_nil_of_length_eq_zero (by omega)
        subst hq0
        rw [if_pos rfl]
        exact Que.tail_end (x := .int .i64 (x : Int)) hq
      · rw [if_neg h1]
        have := Que.tail (x := .int .i64 (x : Int)) (xs := nums (ints q)) (by rw [hl2]; exact hq)
        rwa [hl2] at this
theorem que_nil_form {w : World} {base : Nat} {e : TypeId} {v : Value} (h : Que w base e v []) : ∃ p cap, v = .slice p 0 cap := by
  rcases h with ⟨hv, _⟩ | ⟨g, off, cap, cur, hv, _⟩
  · exact ⟨none, 0, hv⟩
  · exact ⟨_, cap, hv⟩
/-- A queue and its marks, in memory. -/
structure QM (w wx : World) (B : Nat) (v : Value) (b : List Bool) (q : List Nat) : Prop where
  m : Mrk wx B 4 b
  q : Que wx (B + 1) 3 v (nums (ints q))
  f : Fresh w wx
theorem QM.fresh {w a c : World} {B : Nat} {v : Value} {b : List Bool} {q : List Nat} (h : QM w a B v b q) (hf : Fresh a c) : QM w c B v b q := ⟨h.m.fresh hf, h.q.fresh hf, h.f.trans hf⟩
theorem QM.mark {w a : World} {B : Nat} {v : Value} {b : List Bool} {q : List Nat} (h : QM w a B v b q) (hB : w.heap.size ≤ B) (k : Nat) : QM w (a.setCell ⟨B, k, none⟩ (.bool true)) B v (b.set k true) q :=
  ⟨h.m.set k true, h.q.set (fun e => by have := (h.q.lt _ e).1; simp at this; omega) _, h.f.setCell (p := ⟨B, k, none⟩) hB _⟩
theorem QM.push {w a wa a' : World} {B : Nat} {v v' : Value} {b : List Bool} {q : List Nat} {k : Nat} (h : QM w a B v b q) (hB : w.heap.size ≤ B) (hf : Fresh a wa) (hq : Que a' (B + 1) 3 v' (nums (ints q) ++ [Value.int IntKind.i64 (k : Int)])) (hg : wa.grownBy a' v.ownBlock) : QM w a' B v' b (q ++ [k]) := by
  have h1 := h.fresh hf
  refine ⟨⟨?_⟩, by rw [ints_app, nums_app]; exact hq, h1.f.grown hg fun x hx => by have := (h1.q.lt x hx).1; omega⟩
  rw [hg.block B h1.m.lt (fun e => by have := (h1.q.lt B e.symm).1; omega)]
  exact h1.m.blk
theorem qm_start (w : World) (n i : Nat) : QM w ((w.alloc (.cells ((Array.replicate n (Value.bool false)).setIfInBounds i (Value.bool true)) 4)).alloc (.cells #[Value.int IntKind.i64 (i : Int)] 3)) w.heap.size (.slice (some ⟨w.heap.size + 1, 0, none⟩) 1 1) ((List.replicate n false).set i true) [i] := by
  refine ⟨(mrk_start w _ n i).fresh ((Fresh.refl _).alloc _ _), ?_, ((Fresh.refl w).alloc _ _).alloc _ _⟩
  have h := Que.made_full (w.alloc (.cells ((Array.replicate n (Value.bool false)).setIfInBounds i (Value.bool true)) 4)) 3 [Value.int IntKind.i64 (i : Int)] (w.heap.size + 1) (by simp) (by simp [maxLen])
  simpa [nums, ints] using h
theorem back_row {u : Graph} {j : Nat} {x : Int} (h : ¬ j < u.length) : x ∉ row u j := by rw [row_out (by omega)]; simp
theorem row_cell {ok ok' : Nat → Prop} {w : World} {p : Option Addr} {n cap : Nat} {g : Graph} (h : Rows2 ok ok' w (.slice p n cap) g) {i : Nat} (hi : i < g.length) :
    ∃ B off q c, p = some ⟨B, off, none⟩ ∧ w.cell? ⟨B, off + i, none⟩ = some (.slice q (row g i).length c) ∧ Ints ok' w (.slice q (row g i).length c) (row g i) ∧ c ≤ maxLen := by
  obtain ⟨p', cap', hv, _, hh⟩ := h.form
  cases hv
  obtain ⟨B, off, u, hp, _, hc, hu⟩ := hh i hi
  obtain ⟨q, c, rfl, ⟨_, hm⟩, _⟩ := hu.form
  exact ⟨B, off, q, c, hp, hc, hu, hm⟩
set_option maxHeartbeats 32000000 in
set_option maxRecDepth 100000 in
theorem way_any (vn vu vs : Value) (g u s : Graph) (i0 : Nat) (x : Int) (w : World) (hg : Sm g) (hn : Rows2 T T w vn g) (hu : Rows2 T T w vu u) (hs : Rows2 T T w vs s) (hi : i0 < g.length) (hx : BackP g u s i0 x) :
    Calls Try.prog 23 #[vn, vu, vs, .int .i64 i0, .int .i64 x] w fun e w' => e = .returned (.bool true) ∧ Fresh w w' := by
  obtain ⟨pn, cn, rfl, ⟨hcn, hmn⟩, _⟩ := hn.form
  obtain ⟨pu, cu, rfl, ⟨hcu, hmu⟩, _⟩ := hu.form
  obtain ⟨ps, cs, rfl, ⟨hcs, hms⟩, _⟩ := hs.form
  have HN := Lib.hid (rows_low hn)
  have HU := Lib.hid hu
  have HS := Lib.hid hs
  have HX := Lib.hid hx
  have hl := hg.len
  have HG := Lib.hid hg
  have hmk := run_marks g.length (by omega)
  unfold maxLen at hmn hmu hms
  obtain ⟨ii, hi0, hz0, hz1, hz2⟩ := info_parts int_info
  clear hn hu hs hx hg
  go_enter Try.func23, Try.ntmps23
  go_wp2
  clear hmk
  have HSL : Hid (unseen ((List.replicate g.length false).set i0 true) ≤ 40) := Lib.hid (by have := unseen_le ((List.replicate g.length false).set i0 true); simp at this; omega)
  go_loopg [12] (2 * unseen ((List.replicate g.length false).set i0 true) + 1) (fun k s12 wx => ∃ (b : List Bool) (q : List Nat), Hid (k = 2 * unseen b + q.length) ∧ k ≤ 81 ∧ Hid (QM w wx w.heap.size s12 b q) ∧ Hid (Seek g u s x b q) ∧ Hid (flag b i0 = true))
  case atStart =>
    have := HSL.out
    exact ⟨_, [i0], Lib.hid rfl, by omega, Lib.hid (qm_start w _ _), Lib.hid (way_start hi), Lib.hid (by rw [flag_set (by simpa using hi)]; simp)⟩
  case round =>
    obtain ⟨b, q, HK, hk81, HQ, HW, HFL⟩ := hrel
    cases q with
    | nil => exact absurd HX.out (way_end HW.out i0 HFL.out)
    | cons j q =>
      obtain ⟨gq, off, cap, hv, hcap, hcm, hcell, hq'⟩ := que_form HQ.out.q
      subst hv
      have hjl : j < g.length := (HW.out.lt j (by simp)).1
      have HM := Lib.hid HQ.out.m
      have HF := Lib.hid HQ.out.f
      have HQ' := Lib.hid hq'
      have hql : q.length ≤ 81 := by have := HK.out; simp at this; omega
      unfold maxLen at hcm
      clear hq'
      obtain ⟨Bn, offn, qn, ccn, rfl, hcn1, hrn, hmn1⟩ := row_cell (HN.out.fresh HF.out) hjl
      have HRN := Lib.hid hrn
      have HCN := Lib.hid hcn1
      have hrl := HG.out.row j
      unfold maxLen at hmn1
      clear hrn hcn1
      obtain ⟨A, hA⟩ : ∃ A, A = (if cap = 1 then (⟨gq, off, none⟩ : Addr) else ⟨gq, off + 1, none⟩) := ⟨_, rfl⟩
      have HA := Lib.hid hA
      have HQ1 : Hid (QM w wr w.heap.size (.slice (some A) q.length (cap - 1)) b q) := Lib.hid ⟨HM.out, by rw [HA.out]; exact HQ'.out, HF.out⟩
      clear hA HQ'
      go_upto_region 6 with fail
      go_cut [12] from 30 to 31 (fun s12 wx => s12 = .slice (some A) q.length (cap - 1) ∧ wr = wx)
      case first =>
        by_cases h1 : cap = 1
        · have hA2 : A = ⟨gq, off, none⟩ := by rw [HA.out, if_pos h1]
          subst hA2
          subst h1
          have hq0 : q = [] := List.eq_nil_of_length_eq_zero (by omega)
          subst hq0
          go_wp2
          go_meet
          exact ⟨rfl, rfl⟩
        · have hA2 : A = ⟨gq, off + 1, none⟩ := by rw [HA.out, if_neg h1]
          subst hA2
          have hc1 : (1 : Nat) ≤ cap := by omega
          have hc2 : ¬ cap = 1 := h1
          go_wp2
          go_meet
          exact ⟨rfl, rfl⟩
      case rest =>
        obtain ⟨rfl, rfl⟩ := hcut
        clear hcell
        go_upto_region 7 with fail
        go_cut [43] from 32 to 43 (fun s43 wx => s43 = .bool (has (row u j) x) ∧ Hid (Fresh wr wx))
        case first =>
          by_cases hju : j < u.length
          · obtain ⟨Bu, offu, qu, ccu, rfl, hcu1, hru, hmu1⟩ := row_cell (HU.out.fresh HF.out) hju
            have HRU := Lib.hid hru
            clear hru
            go_wp2_with (go_at_call 22; (with_reducible refine (has_any _ (row u j) x _ HRU.out).mono ?_); rintro e1 w1 ⟨rfl, h1⟩; have E := Lib.hid h1; clear h1)
            go_meet
            exact ⟨rfl, E⟩
          · have HH := Lib.hid (show has (row u j) x = false by simpa [has] using back_row (x := x) hju)
            have hd : decide ((j : Int) < (u.length : Int)) = false := by simp; omega
            go_wp2
            go_meet
            exact ⟨by rw [HH.out], Lib.hid (Fresh.refl _)⟩
        case rest =>
          obtain ⟨rfl, E1⟩ := hcut
          cases hxu : has (row u j) x with
          | true =>
            have HF2 := Lib.hid (HF.out.trans E1.out)
            clear hxu
            go_wp2
            go_ret
            exact ⟨rfl, HF2.out⟩
          | false =>
            have hxu' : x ∉ row u j := by simpa [has] using hxu
            have HXU := Lib.hid hxu'
            clear hxu hxu'
            go_upto_region 9 with fail
            go_cut [55] from 44 to 55 (fun s55 wx => s55 = .bool (has (row s j) x) ∧ Hid (Fresh wr wx))
            case first =>
              by_cases hju : j < s.length
              · obtain ⟨Bu, offu, qu, ccu, rfl, hcu1, hru, hmu1⟩ := row_cell (HS.out.fresh (HF.out.trans E1.out)) hju
                have HRU := Lib.hid hru
                clear hru
                go_wp2_with (go_at_call 22; (with_reducible refine (has_any _ (row s j) x _ HRU.out).mono ?_); rintro e1 w1 ⟨rfl, h1⟩; have E := Lib.hid (E1.out.trans h1); clear h1)
                go_meet
                exact ⟨rfl, E⟩
              · have HH := Lib.hid (show has (row s j) x = false by simpa [has] using back_row (x := x) hju)
                have hd : decide ((j : Int) < (s.length : Int)) = false := by simp; omega
                go_wp2
                go_meet
                exact ⟨by rw [HH.out], E1⟩
            case rest =>
              obtain ⟨rfl, E2⟩ := hcut
              clear E1
              cases hxs : has (row s j) x with
              | true =>
                have HW2 := Lib.hid (way_skip HW.out HXU.out (by simpa [has] using hxs))
                have HQ2 := Lib.hid (HQ1.out.fresh E2.out)
                clear hxs
                go_wp2
                go_roundg (2 * unseen b + q.length)
                case measure => go_light; have := HK.out; simp at this; omega
                case rel => go_light; exact ⟨b, q, Lib.hid rfl, by have := HK.out; simp at this; omega, HQ2, HW2, HFL⟩
              | false =>
                clear hxs
                have HQ2 := Lib.hid (HQ1.out.fresh E2.out)
                have HRN2 := Lib.hid (HRN.out.fresh E2.out)
                have hcn2 := E2.out.sts T _ _ _ trivial HCN.out
                go_wp2
                have hbl : b.length = g.length := HW.out.len
                have HBL := Lib.hid hbl
                clear hbl
                go_loopg [12, 61] (row g j).length (fun k s12 s61 wx => ∃ (b' : List Bool) (q' : List Nat) (n : Nat), s61 = .int .i64 n ∧ n ≤ (row g j).length ∧ k = (row g j).length - n ∧ Hid (QM w wx w.heap.size s12 b' q') ∧ Hid (Push g b q (nodesOf g.length ((row g j).take n)) (b', q')))
                case atStart => exact ⟨b, q, 0, rfl, by omega, rfl, HQ2, Lib.hid (push_nil g b q)⟩
                case round =>
                  have HF0 := HF
                  clear HQ2 HRN2 hcn2 E2 HM HF HQ1
                  obtain ⟨b', q', n, rfl, hn, rfl, HQ2, HP⟩ := hrel
                  have HF := Lib.hid HQ2.out.f
                  have hq81 : q'.length ≤ 81 := by have h1 := HP.out.size; have h2 := HK.out; simp at h1 h2; omega
                  by_cases hnl : n < (row g j).length
                  · obtain ⟨B6, off6, rfl, hB6, hc6⟩ := ints_cell (HRN.out.sts (two_sts HF0.out HF.out)) hnl
                    by_cases hz0 : 0 ≤ (row g j)[n] ∧ (row g j)[n] < (g.length : Int)
                    · have HT := Lib.hid (nodes_yes hnl hz0)
                      obtain ⟨z, hz⟩ : ∃ z : Nat, (row g j)[n] = (z : Int) := ⟨(row g j)[n].toNat, by omega⟩
                      rw [hz] at hc6 HT
                      have hzl : z < g.length := by omega
                      have hzb : z < b'.length := by rw [HP.out.len, HBL.out]; exact hzl
                      have HZB := Lib.hid (show z < b.length by rw [HBL.out]; exact hzl)
                      have mz := HQ2.out.m.cell hzb
                      have mf := HQ2.out.m.frozen z
                      have HPS := Lib.hid (HP.out.snoc HZB.out)
                      have HT2 : Hid (nodesOf g.length ((row g j).take (n + 1)) = nodesOf g.length ((row g j).take n) ++ [z]) := Lib.hid (by rw [HT.out]; simp)
                      rw [← HT2.out] at HPS
                      clear hz hz0 HT
                      cases hbz : flag b' z with
                      | true =>
                        rw [hbz] at mz
                        have HP2 : Hid (Push g b q (nodesOf g.length ((row g j).take (n + 1))) (b', q')) := Lib.hid (by have := HPS.out; unfold pushW at this; simpa [hbz] using this)
                        clear hbz
                        go_wp2
                        go_roundg ((row g j).length - (n + 1))
                        case measure => go_light; omega
                        case rel => go_light; exact ⟨b', q', n + 1, by go_num, by omega, rfl, HQ2, HP2⟩
                      | false =>
                        rw [hbz] at mz
                        have HP2 : Hid (Push g b q (nodesOf g.length ((row g j).take (n + 1))) (b'.set z true, q' ++ [z])) := Lib.hid (by have := HPS.out; unfold pushW at this; simpa [hbz] using this)
                        have HQ3 := Lib.hid (HQ2.out.mark (Nat.le_refl _) z)
                        clear hbz
                        go_wp2_with (at_builtin; refine wpList_app _ rfl (.tmp 83) (.tmp 85) _ rfl (w.heap.size + 1) 3 ii (.int .i64 0) 8 Try.underlying28 hi0 hz0 hz1 hz2 rfl _ _ rfl (HQ3.out.q.alloc _ _) _ [Value.int IntKind.i64 (z : Int)] rfl (news_at _ _ _ _ _ (by simp)) (by intro y hy; simp at hy; subst hy; rfl) (by simp only [nums_len, ints_len, List.length_singleton, maxLen]; omega) (by simp only [nums_len, ints_len, List.length_singleton]; omega) (by have := HQ3.out.m.lt; simp at this ⊢; omega) ?_; intro v5 w5 hq5 hg5 ha5; have HQ4 := Lib.hid (HQ3.out.push (Nat.le_refl _) ((Fresh.refl _).alloc _ _) hq5 hg5); clear hq5 hg5 ha5)
                        go_roundg ((row g j).length - (n + 1))
                        case measure => go_light; omega
                        case rel => go_light; exact ⟨_, _, n + 1, by go_num, by omega, rfl, HQ4, HP2⟩
                    · have HT := Lib.hid (nodes_no (n := g.length) hnl hz0)
                      have HP2 : Hid (Push g b q (nodesOf g.length ((row g j).take (n + 1))) (b', q')) := Lib.hid (by rw [HT.out]; exact HP.out)
                      obtain ⟨z, hz⟩ : ∃ z : Int, (row g j)[n] = z := ⟨_, rfl⟩
                      rw [hz] at hc6 hz0
                      clear hz
                      by_cases hz1' : 0 ≤ z
                      · have hd : decide (z < (g.length : Int)) = false := by simp; omega
                        clear hz0
                        go_wp2
                        go_roundg ((row g j).length - (n + 1))
                        case measure => go_light; omega
                        case rel => go_light; exact ⟨b', q', n + 1, by go_num, by omega, rfl, HQ2, HP2⟩
                      · clear hz0
                        go_wp2
                        go_roundg ((row g j).length - (n + 1))
                        case measure => go_light; omega
                        case rel => go_light; exact ⟨b', q', n + 1, by go_num, by omega, rfl, HQ2, HP2⟩
                  · have HP2 : Hid (Push g b q (fol g j) (b', q')) := Lib.hid (by
                      have := HP.out
                      rw [List.take_of_length_le (by omega)] at this
                      exact this)
                    have HW2 := Lib.hid (way_push HW.out HXU.out HP2.out)
                    have HFL2 := Lib.hid (HP2.out.mono i0 HFL.out)
                    go_wp2
                    go_roundg (2 * unseen b' + q'.length)
                    case measure => go_light; have h1 := HK.out; have h2 := HP2.out.size; simp at h1 h2; omega
                    case rel => go_light; exact ⟨b', q', Lib.hid rfl, by have h1 := HK.out; have h2 := HP2.out.size; simp at h1 h2; omega, HQ2, HW2, HFL2⟩
end Go.Proofs.Ytlmlgdojmcmllaa
