/- The statement on the order, out of what is asked of the program's own calls. -/
import Derived.Test.YtlmlgdojmcmllaaRt
namespace Go.Proofs.Ytlmlgdojmcmllaa
set_option linter.unusedSimpArgs false
set_option linter.unusedVariables false
open Go.RowKit
open Solve

theorem flag_or {b : List Bool} {l : List Nat} {i : Nat} (h : flag b i = true ↔ i ∈ l) : flag b i = decide (i ∈ l) := by
  by_cases e : i ∈ l
  · rw [h.2 e]; simp [e]
  · have : ¬ flag b i = true := fun x => e (h.1 x)
    simp only [Bool.not_eq_true] at this
    rw [this]; simp [e]
set_option maxHeartbeats 64000000 in
set_option maxRecDepth 100000 in
theorem orders_any {o1 o2 : Nat → Prop} (hfix : FixC) (hO : OrderC 13) (hR : ReachC 10) (vn : Value) (g0 : Graph) (entry : Int) (w : World) (hn : Rows2 o1 o2 w vn g0) :
    Calls Try.prog 6 #[vn, .int .i64 entry] w fun e w' => e = .returned (.bool true) ∧ Fresh w w' := by
  have HFX := Lib.hid hfix
  have HPO := Lib.hid hO
  have HPR := Lib.hid hR
  have HN := Lib.hid hn.any
  have H0 : Hid (∀ (w : World) (n : Nat), Nm (w.alloc (.cells (List.replicate n (.int .i64 0)).toArray 3)) w.heap.size 3 (List.replicate n 0)) := Lib.hid (fun w n => Nm.new w _ n)
  clear hfix hO hR hn
  go_enter Try.func6, Try.ntmps6
  go_wp2_with fail
  go_at_call 8; (with_reducible refine (HFX.out _).mono ?_); rintro e w1 ⟨rfl, h1⟩; have E1 := Lib.hid h1; clear h1
  go_wp2_with fail
  go_at_call 9; (with_reducible refine (few_any _ g0 _ (HN.out.fresh E1.out)).mono ?_); rintro e w2 ⟨n1, rfl, hn, h2⟩; have HN1 := Lib.hid hn.any; have E2 := Lib.hid (E1.out.trans h2); clear hn h2 E1 HN
  have HSG := Lib.hid (sm_few g0)
  obtain ⟨g, hg⟩ : ∃ g, g = fewG g0 := ⟨_, rfl⟩
  rw [← hg] at HSG HN1
  clear hg
  have hl := HSG.out.len
  go_wp2_with fail
  go_at_call 13; (with_reducible refine (HPO.out _ g entry _ HSG.out HN1.out).mono ?_); rintro e w3 ⟨o1, l, rfl, ho, hb, h2⟩; have HO := Lib.hid ho; have HOB := Lib.hid hb; have HN2 := Lib.hid (HN1.out.fresh h2); have E3 := Lib.hid (E2.out.trans h2); clear ho hb h2 E2 HN1
  go_wp2_with fail
  go_at_call 10; (with_reducible refine (HPR.out _ g entry _ HSG.out HN2.out).mono ?_); rintro e w4 ⟨q1, c1, b, rfl, hr, hb, h2⟩; have HRB := Lib.hid hb; have HM := Lib.hid hr; have HN3 := Lib.hid (HN2.out.fresh h2); have HO3 := Lib.hid (HO.out.fresh h2); have E4 := Lib.hid (E3.out.trans h2); clear hr hb h2 E3 HN2 HO
  have HOK := Lib.hid (ord_ok HOB.out HRB.out)
  obtain ⟨pg, cg, hvg, ⟨hcg, hmg⟩, _⟩ := HN3.out.form
  obtain ⟨po, co, hvo, ⟨hco, hmo⟩, _⟩ := HO3.out.form
  rw [ints_len] at hvo hco
  have hbl : b.length = g.length := HRB.out.1
  have hml := marks_len b
  have HBL := Lib.hid hbl
  rw [hml, hbl] at HM
  rw [hml, hbl]
  have hll : l.length ≤ 40 := by
    have := nat_sub (b := List.range g.length) HOK.out.nodup fun x hx => List.mem_range.2 (HOK.out.lt x hx)
    rw [List.length_range] at this
    omega
  have hmk := run_ints g.length (by omega)
  unfold maxLen at hmg hmo
  subst hvg hvo
  clear hbl hml
  go_wp2_with fail
  clear hmk
  obtain ⟨w5, hw5⟩ : ∃ w5, w5 = w4.alloc (.cells (List.replicate g.length (.int .i64 0)).toArray 3) := ⟨_, rfl⟩
  have HP0 : Hid (Nm w5 w4.heap.size 3 (List.replicate g.length 0)) := Lib.hid (by rw [hw5]; exact H0.out w4 _)
  have HF5 : Hid (Fresh w4 w5) := Lib.hid (by rw [hw5]; exact (Fresh.refl _).alloc _ _)
  have HPL0 := Lib.hid (Pl.start l g.length)
  go_loopg [29] l.length (fun k s29 wx => ∃ (j : Nat) (pl : List Int), s29 = .int .i64 j ∧ j ≤ l.length ∧ k = l.length - j ∧ Hid (Nm wx w4.heap.size 3 pl) ∧ Hid (Pl l g.length j pl) ∧ Hid (Fresh w4 wx))
  case atStart => exact ⟨0, _, rfl, by omega, rfl, Lib.hid (by have := H0.out w4 g.length; simpa using this), HPL0, Lib.hid ((Fresh.refl w4).alloc _ _)⟩
  case round =>
    clear HP0 HF5 HPL0 hw5
    obtain ⟨j, pl, rfl, hj, rfl, HP, HPL, HF⟩ := hrel
    by_cases hjl : j < l.length
    · obtain ⟨B6, off6, rfl, _, hc6⟩ := nodes_cell (HO3.out.fresh HF.out) hjl
      obtain ⟨x, hx⟩ : ∃ x, x = l[j] := ⟨_, rfl⟩
      rw [← hx] at hc6
      have hxl : x < g.length := by rw [hx]; exact HOK.out.lt _ (List.getElem_mem hjl)
      have hxt : x ∉ l.take j := by
        rw [hx]; intro h
        obtain ⟨i, hi, e⟩ := List.mem_iff_getElem.1 h
        rw [List.length_take] at hi
        rw [List.getElem_take] at e
        have := (List.getElem_inj HOK.out.nodup).1 e
        omega
      have hp0 := HP.out.cell (i := x) (by rw [HPL.out.len]; exact hxl)
      rw [HPL.out.no x hxl hxt] at hp0
      have hpf := HP.out.frozen x
      have HPS := Lib.hid (HPL.out.step HOK.out.nodup hjl HOK.out.lt)
      rw [← hx] at HPS
      have HHD : Hid (j = 0 → (x : Int) = entry) := Lib.hid (fun h0 => by subst h0; rw [hx]; exact HOK.out.head hjl)
      have HP2 := Lib.hid (HP.out.set x ((j : Int) + 1))
      have HF2 := Lib.hid (HF.out.setCell (p := ⟨w4.heap.size, x, none⟩) (Nat.le_refl _) (.int .i64 ((j : Int) + 1)))
      have hd1 : decide ((x : Int) < 0) = false := by simp
      have hd2 : decide (g.length ≤ x) = false := by simp; omega
      clear hx hxt
      by_cases h0 : j = 0
      · have hxe2 : ((x : Int) != entry) = false := by simp [HHD.out h0]
        have hz : ((j : Int) == 0) = true := by simp [h0]
        clear h0
        go_wp2
        go_roundg (l.length - (j + 1))
        case measure => go_light; omega
        case rel => go_light; exact ⟨j + 1, _, by go_num, by omega, rfl, HP2, HPS, HF2⟩
      · have hz : ((j : Int) == 0) = false := by simp [h0]
        clear h0
        go_wp2
        go_roundg (l.length - (j + 1))
        case measure => go_light; omega
        case rel => go_light; exact ⟨j + 1, _, by go_num, by omega, rfl, HP2, HPS, HF2⟩
    · obtain rfl : j = l.length := by omega
      have hpll := HPL.out.len
      have HPLL := Lib.hid hpll
      clear hpll
      go_wp2
      obtain ⟨w6, rfl⟩ : ∃ w6 : World, w6 = wr := ⟨_, rfl⟩
      go_loopw [66] (fun s66 wr => ∃ i : Nat, i ≤ g.length ∧ s66 = .int .i64 i ∧ Hid (Fresh w6 wr)) (fun s66 _ => g.length - (intOf s66).toNat)
      case atStart => exact ⟨0, by omega, rfl, Lib.hid (Fresh.refl _)⟩
      case round =>
        obtain ⟨i, hi, rfl, HF6⟩ := hrel
        by_cases hlt : i < g.length
        · have HFW := Lib.hid (HF.out.trans HF6.out)
          obtain ⟨Bq, offq, rfl, hcq⟩ := marks_cell (HM.out.fresh HFW.out) (i := i) (by rw [HBL.out]; exact hlt)
          have hcp := (HP.out.fresh HF6.out).cell (i := i) (by rw [HPLL.out]; exact hlt)
          obtain ⟨Bg, offg, rfl⟩ := ptr_of HN3.out (by omega)
          obtain ⟨qg, ccg, hcg1, hrg, hlg1, hmg1⟩ := row_cell2 (HN3.out.fresh HF.out) hlt
          have HRG0 := Lib.hid hrg
          have HCG0 := Lib.hid hcg1
          have HRGA : Hid (∀ {wz : World}, Fresh w6 wz → Ints T wz (.slice qg (row g i).length ccg) (row g i)) := Lib.hid (fun hf => hrg.fresh hf)
          have hrgl := HSG.out.row i
          unfold maxLen at hmg1
          clear hrg hcg1
          have hfl := flag_or (HOK.out.mem i)
          obtain ⟨p, hp⟩ : ∃ p, p = pl.getD i 0 := ⟨_, rfl⟩
          rw [← hp] at hcp
          have HPP := Lib.hid hp
          have hpos := HPL.out.pos hlt
          rw [← hp] at hpos
          clear hp
          go_wp2
          go_cut [78] from 69 to 78 (fun s78 wx => s78 = .bool false ∧ Hid (Fresh w6 wx))
          case first =>
            by_cases hil : i ∈ l
            · have hp1 : 0 < p := hpos.2 hil
              rw [show flag b i = true by rw [hfl]; simpa using hil] at hcq
              clear hfl hpos
              go_quiet (fail)
              go_wp2
              go_meet
              exact ⟨rfl, Lib.hid (HF6.out.drewN _)⟩
            · have hp1 : ¬ 0 < p := fun h => hil (hpos.1 h)
              have hp2 : decide (0 < p) = false := by simpa using hp1
              rw [show flag b i = false by rw [hfl]; simpa using hil] at hcq
              clear hfl hpos hp1
              go_quiet (fail)
              go_wp2
              go_meet
              exact ⟨rfl, Lib.hid (HF6.out.drewN _)⟩
          case rest =>
            obtain ⟨rfl, HF7⟩ := hcut
            clear HF6 HFW hcp hcq
            have hcg1 := HF7.out.sts T _ _ _ trivial HCG0.out
            go_wp2
            clear hcg1
            have HRG1 := Lib.hid (HRGA.out HF7.out)
            have HF8 := HF7
            clear HF7 HRG0
            go_loopw [84] (fun s84 wr => ∃ n : Nat, n ≤ (row g i).length ∧ s84 = .int .i64 n ∧ Hid (Fresh w6 wr) ∧ Hid (Ints T wr (.slice qg (row g i).length ccg) (row g i))) (fun s84 _ => (row g i).length - (intOf s84).toNat)
            case atStart => exact ⟨0, by omega, rfl, HF8, HRG1⟩
            case round =>
              clear HF8 HRG1
              obtain ⟨n, hn, rfl, HF7, HRG⟩ := hrel
              by_cases hnl : n < (row g i).length
              · obtain ⟨B6, off6, rfl, _, hc6⟩ := ints_cell HRG.out hnl
                by_cases hz0 : 0 ≤ (row g i)[n] ∧ (row g i)[n] < (g.length : Int)
                · obtain ⟨z, hz⟩ : ∃ z : Nat, (row g i)[n] = (z : Int) := ⟨(row g i)[n].toNat, by omega⟩
                  have HZF : Hid (z ∈ fol g i) := Lib.hid (mem_nodesOf.2 ⟨by rw [← hz]; exact List.getElem_mem hnl, by omega⟩)
                  rw [hz] at hc6
                  have hzl : z < g.length := by omega
                  have hd1 : decide ((z : Int) < 0) = false := by simp
                  have hd2 : decide (g.length ≤ z) = false := by simp; omega
                  obtain ⟨Bq', offq', hq', hcq⟩ := marks_cell (HM.out.fresh (HF.out.trans HF7.out)) (i := i) (by rw [HBL.out]; exact hlt)
                  injection hq' with hq'
                  injection hq' with e7 e8 _
                  subst e7 e8
                  have hcpi := (HP.out.fresh HF7.out).cell (i := i) (by rw [HPLL.out]; exact hlt)
                  have hcpz := (HP.out.fresh HF7.out).cell (i := z) (by rw [HPLL.out]; exact hzl)
                  rw [← HPP.out] at hcpi
                  obtain ⟨pz, hpz⟩ : ∃ pz, pz = pl.getD z 0 := ⟨_, rfl⟩
                  rw [← hpz] at hcpz
                  have HPZ := Lib.hid hpz
                  clear hz hz0 hpz
                  by_cases hil : i ∈ l
                  · rw [show flag b i = true from (HOK.out.mem i).2 hil] at hcq
                    have hzm : z ∈ l := HOK.out.closed HRB.out hil HZF.out
                    by_cases hgt : p < pz
                    · clear hfl hpos hil hzm
                      go_wp2
                      go_quiet (fail)
                      go_wp2
                      go_roundw
                      case rel => exact ⟨n + 1, by omega, by go_num, Lib.hid (HF7.out.drewN _), Lib.hid (HRG.out.fresh ((Fresh.refl _).drewN _))⟩
                      case measure => simp [intOf]; omega
                    · have hpath := HPL.out.back HOK.out hil hzm HZF.out (by rw [← HPP.out, ← HPZ.out]; exact hgt)
                      have HPA := Lib.hid hpath
                      have hgd : decide (p < pz) = false := by simpa using hgt
                      clear hfl hpos hil hzm hpath hgt
                      go_wp2
                      go_quiet (fail)
                      go_wp2_with (go_at_call 10; (with_reducible refine (HPR.out _ g (z : Int) _ HSG.out (HN3.out.fresh ((HF.out.trans HF7.out).drewN _))).mono ?_); rintro e1 w7 ⟨q9, c9, b9, rfl, hr9, hb9, h9⟩; have HB9 := Lib.hid hb9; have HF9 := Lib.hid (HF7.out.trans (((Fresh.refl _).drewN _).trans h9)); have HRG9 := Lib.hid (HRG.out.fresh (((Fresh.refl _).drewN _).trans h9)); have hfl9 : flag b9 i = true := (hb9.2 i).2 ⟨by omega, by omega, by simpa using HPA.out⟩; obtain ⟨B9, off9, hq9, hc9⟩ := marks_cell hr9 (flag_lt hfl9); rw [hfl9] at hc9; subst hq9; have hle9 : b9.length = g.length := hb9.1; have hml9 := marks_len b9; rw [hle9] at hml9; rw [hml9]; clear hr9 hb9 h9 hfl9 hle9 hml9)
                      go_roundw
                      case rel => exact ⟨n + 1, by omega, by go_num, HF9, HRG9⟩
                      case measure => simp [intOf]; omega
                  · rw [show flag b i = false by rw [hfl]; simpa using hil] at hcq
                    clear hfl hpos hil
                    go_wp2
                    go_quiet (fail)
                    go_wp2
                    go_roundw
                    case rel => exact ⟨n + 1, by omega, by go_num, Lib.hid (HF7.out.drewN _), Lib.hid (HRG.out.fresh ((Fresh.refl _).drewN _))⟩
                    case measure => simp [intOf]; omega
                · obtain ⟨z, hz⟩ : ∃ z : Int, (row g i)[n] = z := ⟨_, rfl⟩
                  rw [hz] at hc6 hz0
                  clear hz
                  by_cases hzn : z < 0
                  · clear hz0 hfl hpos
                    go_wp2
                    go_quiet (fail)
                    go_wp2
                    go_roundw
                    case rel => exact ⟨n + 1, by omega, by go_num, Lib.hid (HF7.out.drewN _), Lib.hid (HRG.out.fresh ((Fresh.refl _).drewN _))⟩
                    case measure => simp [intOf]; omega
                  · have hzg : (g.length : Int) ≤ z := by omega
                    have hd1 : decide (z < 0) = false := by simp; omega
                    clear hz0 hzn hfl hpos
                    go_wp2
                    go_quiet (fail)
                    go_wp2
                    go_roundw
                    case rel => exact ⟨n + 1, by omega, by go_num, Lib.hid (HF7.out.drewN _), Lib.hid (HRG.out.fresh ((Fresh.refl _).drewN _))⟩
                    case measure => simp [intOf]; omega
              · go_wp2
                go_roundw
                case rel => exact ⟨i + 1, by omega, by go_num, HF7⟩
                case measure => simp [intOf]; omega
        · go_wp2
          go_ret
          exact ⟨rfl, E4.out.trans (HF.out.trans HF6.out)⟩
end Go.Proofs.Ytlmlgdojmcmllaa
