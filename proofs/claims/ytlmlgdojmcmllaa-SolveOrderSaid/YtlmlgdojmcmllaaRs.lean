/- The statement on least sets, out of what is asked of the program's own calls. -/
import Derived.Test.YtlmlgdojmcmllaaRr
namespace Go.Proofs.Ytlmlgdojmcmllaa
set_option linter.unusedSimpArgs false
set_option linter.unusedVariables false
open Go.RowKit
open Solve

theorem rising_at {l : List Int} (h : Inc l) {k : Nat} (hk : k + 1 < l.length) : l[k]'(by omega) < l[k + 1] := List.pairwise_iff_getElem.1 h k (k + 1) (by omega) hk (by omega)
theorem row_cell2 {ok ok' : Nat → Prop} {w : World} {B off n cap : Nat} {g : Graph} (h : Rows2 ok ok' w (.slice (some ⟨B, off, none⟩) n cap) g) {i : Nat} (hi : i < g.length) :
    ∃ q c, w.cell? ⟨B, off + i, none⟩ = some (.slice q (row g i).length c) ∧ Ints ok' w (.slice q (row g i).length c) (row g i) ∧ (row g i).length ≤ c ∧ c ≤ maxLen := by
  obtain ⟨p', cap', hv, _, hh⟩ := h.form
  cases hv
  obtain ⟨B', off', u, hp, _, hc, hu⟩ := hh i hi
  cases hp
  obtain ⟨q, c, rfl, ⟨h1, hm⟩, _⟩ := hu.form
  exact ⟨q, c, hc, hu, h1, hm⟩
theorem ptr_of {ok ok' : Nat → Prop} {w : World} {p : Option Addr} {n cap : Nat} {g : Graph} (h : Rows2 ok ok' w (.slice p n cap) g) (hi : 0 < g.length) : ∃ B off, p = some ⟨B, off, none⟩ := by
  obtain ⟨p', cap', hv, _, hh⟩ := h.form
  cases hv
  obtain ⟨B', off', u, hp, _⟩ := hh 0 hi
  exact ⟨B', off', hp⟩
structure R3 (w : World) (vg vu vs vi : Value) (g u s ls : Graph) : Prop where
  g : Rows2 T T w vg g
  u : Rows2 T T w vu u
  s : Rows2 T T w vs s
  i : Rows2 T T w vi ls
theorem R3.fresh {w w' : World} {vg vu vs vi : Value} {g u s ls : Graph} (h : R3 w vg vu vs vi g u s ls) (hf : Fresh w w') : R3 w' vg vu vs vi g u s ls := ⟨h.g.fresh hf, h.u.fresh hf, h.s.fresh hf, h.i.fresh hf⟩
theorem has_yes {l : List Int} {x : Int} (h : x ∈ l) : has l x = true := by simpa [has] using h
set_option maxHeartbeats 64000000 in
set_option maxRecDepth 100000 in
theorem least_any {o1 o2 o3 o4 o5 o6 : Nat → Prop} (hfix : FixC) (hB : BackC 18) (vn vu vs : Value) (g0 u0 s0 : Graph) (w : World) (hn : Rows2 o1 o2 w vn g0) (hu : Rows2 o3 o4 w vu u0) (hs : Rows2 o5 o6 w vs s0) (wu : Wd u0) (ws : Wd s0) :
    Calls Try.prog 5 #[vn, vu, vs] w fun e w' => e = .returned (.bool true) ∧ Fresh w w' := by
  have HFX := Lib.hid hfix
  have HPB := Lib.hid hB
  have HN := Lib.hid hn.any
  have HU := Lib.hid hu.any
  have HS := Lib.hid hs.any
  have HWU := Lib.hid (wd_few wu)
  have HWS := Lib.hid (wd_few ws)
  clear hfix hB hn hu hs wu ws
  go_enter Try.func5, Try.ntmps5
  go_wp2_with fail
  go_at_call 8; (with_reducible refine (HFX.out _).mono ?_); rintro e w1 ⟨rfl, h1⟩; have E1 := Lib.hid h1; clear h1
  go_wp2_with fail
  go_at_call 9; (with_reducible refine (few_any _ g0 _ (HN.out.fresh E1.out)).mono ?_); rintro e w2 ⟨n1, rfl, hn, h2⟩; have HN1 := Lib.hid hn.any; have E2 := Lib.hid (E1.out.trans h2); clear hn h2 E1 HN
  go_wp2_with fail
  go_at_call 9; (with_reducible refine (few_any _ u0 _ (HU.out.fresh E2.out)).mono ?_); rintro e w3 ⟨u1, rfl, hn, h2⟩; have HU1 := Lib.hid hn.any; have HN2 := Lib.hid (HN1.out.fresh h2); have E3 := Lib.hid (E2.out.trans h2); clear hn h2 E2 HU HN1
  go_wp2_with fail
  go_at_call 9; (with_reducible refine (few_any _ s0 _ (HS.out.fresh E3.out)).mono ?_); rintro e w4 ⟨s1, rfl, hn, h2⟩; have HS1 := Lib.hid hn.any; have HN3 := Lib.hid (HN2.out.fresh h2); have HU3 := Lib.hid (HU1.out.fresh h2); have E4 := Lib.hid (E3.out.trans h2); clear hn h2 E3 HS HN2 HU1
  have HSG := Lib.hid (sm_few g0)
  have HSU := Lib.hid (sm_few u0)
  have HSS := Lib.hid (sm_few s0)
  obtain ⟨g, hg⟩ : ∃ g, g = fewG g0 := ⟨_, rfl⟩
  obtain ⟨u, hu⟩ : ∃ u, u = fewG u0 := ⟨_, rfl⟩
  obtain ⟨s, hs⟩ : ∃ s, s = fewG s0 := ⟨_, rfl⟩
  rw [← hg] at HSG HN3
  rw [← hu] at HSU HU3 HWU
  rw [← hs] at HSS HS1 HWS
  clear hg hu hs
  have hl := HSG.out.len
  go_wp2_with fail
  go_at_call 18; (with_reducible refine (HPB.out _ _ _ g u s _ HSG.out HSU.out HSS.out HWU.out HWS.out HN3.out HU3.out HS1.out).mono ?_); rintro e w5 ⟨i1, ls, rfl, ho, hb, h2⟩; have HR : Hid (R3 w5 n1 u1 s1 i1 g u s ls) := Lib.hid ⟨HN3.out.fresh h2, HU3.out.fresh h2, HS1.out.fresh h2, ho⟩; have HX := Lib.hid hb; have E5 := Lib.hid (E4.out.trans h2); clear ho hb h2 E4 HN3 HU3 HS1
  obtain ⟨pg, cg, hvg, ⟨hcg, hmg⟩, _⟩ := HR.out.g.form
  obtain ⟨pu, cu, hvu, ⟨hcu, hmu⟩, _⟩ := HR.out.u.form
  obtain ⟨ps, cs, hvs, ⟨hcs, hms⟩, _⟩ := HR.out.s.form
  obtain ⟨pi, ci, hvi, ⟨hci, hmi⟩, _⟩ := HR.out.i.form
  have hll := HX.out.len
  rw [hll] at hvi hci
  have HLL := Lib.hid hll
  have hul := HSU.out.len
  have hsl := HSS.out.len
  unfold maxLen at hmg hmu hms hmi
  subst hvg hvu hvs hvi
  clear hll
  go_wp2
  go_loopw [36] (fun s36 wr => ∃ i : Nat, i ≤ g.length ∧ s36 = .int .i64 i ∧ Hid (Fresh w5 wr)) (fun s36 _ => g.length - (intOf s36).toNat)
  case atStart => exact ⟨0, by omega, rfl, Lib.hid (Fresh.refl _)⟩
  case round =>
    obtain ⟨i, hi, rfl, HF⟩ := hrel
    by_cases hlt : i < g.length
    · obtain ⟨Bg, offg, rfl⟩ := ptr_of HR.out.g (by omega)
      obtain ⟨Bi, offi, rfl⟩ := ptr_of HR.out.i (by rw [HLL.out]; omega)
      have HIL := Lib.hid (show i < ls.length by rw [HLL.out]; exact hlt)
      go_upto_if 42 with fail
      go_cut [8] from 42 to 59 (fun s8 wx => s8 = .int .i64 i ∧ Hid (Fresh w5 wx))
      case first =>
        by_cases hju : i < u.length
        · obtain ⟨Bu, offu, rfl⟩ := ptr_of HR.out.u (by omega)
          obtain ⟨qu, ccu, hcu1, hru, hlu1, hmu1⟩ := row_cell2 (HR.out.fresh HF.out).u hju
          have HRU := Lib.hid hru
          have hrl := HSU.out.row i
          unfold maxLen at hmu1
          clear hru
          have hd : decide (i < u.length) = true := by simpa using hju
          rw [hd]
          go_wp2
          clear hcu1
          have HF0 := HF
          clear HF
          go_loopw [48] (fun s48 wr => ∃ k : Nat, k ≤ (row u i).length ∧ s48 = .int .i64 k ∧ Hid (Fresh w5 wr) ∧ Hid (Ints T wr (.slice qu (row u i).length ccu) (row u i))) (fun s48 _ => (row u i).length - (intOf s48).toNat)
          case atStart => exact ⟨0, by omega, rfl, HF0, HRU⟩
          case round =>
            obtain ⟨k, hk, rfl, HF, HRU2⟩ := hrel
            by_cases hkl : k < (row u i).length
            · obtain ⟨qi, cci, hci1, hri, hli1, hmi1⟩ := row_cell2 (HR.out.fresh HF.out).i HIL.out
              have HRI := Lib.hid hri
              obtain ⟨B6, off6, rfl, _, hc6⟩ := ints_cell HRU2.out hkl
              have HH := Lib.hid (has_yes ((HX.out.iff i _).2 (.use (s := s) hlt (List.getElem_mem hkl))))
              obtain ⟨x, hx⟩ : ∃ x, x = (row u i)[k] := ⟨_, rfl⟩
              rw [← hx] at hc6 HH
              clear hri hx
              unfold maxLen at hmi1
              go_wp2_with (go_at_call 22; (with_reducible refine (has_any _ (row ls i) x _ HRI.out).mono ?_); rintro e1 w6 ⟨rfl, h1⟩; rw [HH.out]; have E := Lib.hid h1; clear h1)
              go_roundw
              case rel => exact ⟨k + 1, by omega, by go_num, Lib.hid (HF.out.trans E.out), Lib.hid (HRU2.out.fresh E.out)⟩
              case measure => simp [intOf]; omega
            · go_wp2
              go_meet
              exact ⟨rfl, HF⟩
        · have hd : decide ((i : Int) < (u.length : Int)) = false := by simp; omega
          go_wp2
          go_meet
          exact ⟨rfl, HF⟩
      case rest =>
        clear HF
        obtain ⟨rfl, HF⟩ := hcut
        obtain ⟨qi, cci, hci1, hri, hli1, hmi1⟩ := row_cell2 (HR.out.fresh HF.out).i HIL.out
        have HRI0 := Lib.hid hri
        have hrle : (row ls i).length ≤ 1000 := by
          have h1 : (row ls i).length ≤ u.flatten.length := len_sub (HX.out.inc i).nodup fun x hx => back_univ i x ((HX.out.iff i x).1 hx)
          have h2 := flat_len HSU.out
          omega
        clear hri
        unfold maxLen at hmi1
        go_wp2
        clear hci1
        have HF0 := HF
        clear HF
        go_loopw [65] (fun s65 wr => ∃ k : Nat, k ≤ (row ls i).length ∧ s65 = .int .i64 k ∧ Hid (Fresh w5 wr) ∧ Hid (Ints T wr (.slice qi (row ls i).length cci) (row ls i))) (fun s65 _ => (row ls i).length - (intOf s65).toNat)
        case atStart => exact ⟨0, by omega, rfl, HF0, HRI0⟩
        case round =>
          obtain ⟨k, hk, rfl, HF, HRI⟩ := hrel
          by_cases hkl : k < (row ls i).length
          · obtain ⟨B6, off6, rfl, _, hc6⟩ := ints_cell HRI.out hkl
            have HBK := Lib.hid ((HX.out.iff i _).1 (List.getElem_mem hkl))
            have HFW := HF
            cases k with
            | zero =>
              obtain ⟨x, hx⟩ : ∃ x, x = (row ls i)[0] := ⟨_, rfl⟩
              rw [← hx] at hc6 HBK
              clear hx
              rw [Nat.add_zero] at hc6
              go_wp2_with (go_at_call 23; (with_reducible refine (way_any _ _ _ g u s i x _ HSG.out (HR.out.fresh HF.out).g (HR.out.fresh HF.out).u (HR.out.fresh HF.out).s hlt HBK.out).mono ?_); rintro e1 w6 ⟨rfl, h1⟩; have E := Lib.hid h1; clear h1)
              go_roundw
              case rel => exact ⟨0 + 1, by omega, by go_num, Lib.hid (HF.out.trans E.out), Lib.hid (HRI.out.fresh E.out)⟩
              case measure => simp [intOf]; omega
            | succ k =>
              have HLT := Lib.hid (rising_at (HX.out.inc i) hkl)
              have hc7 := (ints_cell HRI.out (j := k) (by omega))
              obtain ⟨B7, off7, hq7, _, hc7⟩ := hc7
              injection hq7 with hq7
              injection hq7 with e7 e8 _
              subst e7 e8
              obtain ⟨qi2, cci2, hci2, hri2, hli2, hmi2⟩ := row_cell2 (HR.out.fresh HF.out).i HIL.out
              obtain ⟨B8, off8, rfl, _, hc8⟩ := ints_cell hri2 (j := k) (by omega)
              obtain ⟨x, hx⟩ : ∃ x, x = (row ls i)[k + 1] := ⟨_, rfl⟩
              obtain ⟨y, hy⟩ : ∃ y, y = (row ls i)[k]'(by omega) := ⟨_, rfl⟩
              rw [← hx] at hc6 HBK HLT
              rw [← hy] at hc7 hc8 HLT
              clear hx hy hri2
              have hdx : decide (x ≤ y) = false := by have := HLT.out; simp; omega
              have hkk : ((k + 1 : Nat) : Int) = (k : Int) + 1 := by omega
              unfold maxLen at hmi2
              go_wp2_with (go_at_call 23; (with_reducible refine (way_any _ _ _ g u s i x _ HSG.out (HR.out.fresh HF.out).g (HR.out.fresh HF.out).u (HR.out.fresh HF.out).s hlt HBK.out).mono ?_); rintro e1 w6 ⟨rfl, h1⟩; have E := Lib.hid h1; clear h1)
              go_roundw
              case rel => exact ⟨k + 1 + 1, by omega, by go_num, Lib.hid (HF.out.trans E.out), Lib.hid (HRI.out.fresh E.out)⟩
              case measure => simp [intOf]; omega
          · obtain ⟨qg, ccg, hcg1, hrg, hlg1, hmg1⟩ := row_cell2 (HR.out.fresh HF.out).g hlt
            have HRG0 := Lib.hid hrg
            have hrgl := HSG.out.row i
            unfold maxLen at hmg1
            clear hrg
            go_wp2
            clear hcg1
            have HF0 := HF
            clear HF HRI HRI0
            go_loopw [99] (fun s99 wr => ∃ n : Nat, n ≤ (row g i).length ∧ s99 = .int .i64 n ∧ Hid (Fresh w5 wr) ∧ Hid (Ints T wr (.slice qg (row g i).length ccg) (row g i))) (fun s99 _ => (row g i).length - (intOf s99).toNat)
            case atStart => exact ⟨0, by omega, rfl, HF0, HRG0⟩
            case round =>
              clear HF0 HRG0
              obtain ⟨n, hn, rfl, HF, HRG⟩ := hrel
              by_cases hnl : n < (row g i).length
              · obtain ⟨B6, off6, rfl, _, hc6⟩ := ints_cell HRG.out hnl
                by_cases hz0 : 0 ≤ (row g i)[n] ∧ (row g i)[n] < (g.length : Int)
                · obtain ⟨z, hz⟩ : ∃ z : Nat, (row g i)[n] = (z : Int) := ⟨(row g i)[n].toNat, by omega⟩
                  have HZF : Hid (z ∈ fol g i) := Lib.hid (mem_nodesOf.2 ⟨by rw [← hz]; exact List.getElem_mem hnl, by omega⟩)
                  rw [hz] at hc6
                  have hzl : z < g.length := by omega
                  have hd1 : decide ((z : Int) < 0) = false := by simp
                  have hd2 : decide (g.length ≤ z) = false := by simp; omega
                  obtain ⟨qz, ccz, hcz1, hrz, hlz1, hmz1⟩ := row_cell2 (HR.out.fresh HF.out).i (i := z) (by rw [HLL.out]; exact hzl)
                  have hzle : (row ls z).length ≤ 1000 := by
                    have h1 : (row ls z).length ≤ u.flatten.length := len_sub (HX.out.inc z).nodup fun x hx => back_univ z x ((HX.out.iff z x).1 hx)
                    have h2 := flat_len HSU.out
                    omega
                  have HRZ0 := Lib.hid hrz
                  unfold maxLen at hmz1
                  clear hz hz0 hrz
                  go_wp2
                  clear hcz1 hc6
                  have HF0 := HF
                  have HRG0 := HRG
                  clear HF HRG
                  go_loopw [116] (fun s116 wr => ∃ m : Nat, m ≤ (row ls z).length ∧ s116 = .int .i64 m ∧ Hid (Fresh w5 wr) ∧ Hid (Ints T wr (.slice (some ⟨B6, off6, none⟩) (row g i).length ccg) (row g i)) ∧ Hid (Ints T wr (.slice qz (row ls z).length ccz) (row ls z))) (fun s116 _ => (row ls z).length - (intOf s116).toNat)
                  case atStart => exact ⟨0, by omega, rfl, HF0, HRG0, HRZ0⟩
                  case round =>
                    clear HF0 HRG0 HRZ0
                    obtain ⟨m, hm, rfl, HF, HRG, HRZ⟩ := hrel
                    by_cases hml : m < (row ls z).length
                    · obtain ⟨B9, off9, rfl, _, hc9⟩ := ints_cell HRZ.out hml
                      have HBZ := Lib.hid ((HX.out.iff z _).1 (List.getElem_mem hml))
                      obtain ⟨x, hx⟩ : ∃ x, x = (row ls z)[m] := ⟨_, rfl⟩
                      rw [← hx] at hc9 HBZ
                      obtain ⟨qi, cci, hci1, hri, hli1, hmi1⟩ := row_cell2 (HR.out.fresh HF.out).i HIL.out
                      have HRI := Lib.hid hri
                      unfold maxLen at hmi1
                      clear hx hri
                      by_cases hin : x ∈ row ls i
                      · have HH := Lib.hid (has_yes hin)
                        clear hin
                        go_wp2_with (go_at_call 22; (with_reducible refine (has_any _ (row ls i) x _ HRI.out).mono ?_); rintro e1 w6 ⟨rfl, h1⟩; rw [HH.out]; have E := Lib.hid h1; clear h1)
                        go_roundw
                        case rel => exact ⟨m + 1, by omega, by go_num, Lib.hid (HF.out.trans E.out), Lib.hid (HRG.out.fresh E.out), Lib.hid (HRZ.out.fresh E.out)⟩
                        case measure => simp [intOf]; omega
                      · have hxs : x ∈ row s i := by
                          by_cases h : x ∈ row s i
                          · exact h
                          · exact absurd ((HX.out.iff i x).2 (.pass HZF.out HBZ.out h)) hin
                        have his : i < s.length := by
                          by_cases h : i < s.length
                          · exact h
                          · exact absurd hxs (back_row h)
                        have HH := Lib.hid (show has (row ls i) x = false by simpa [has] using hin)
                        have HH2 := Lib.hid (has_yes hxs)
                        clear hin hxs
                        have hd3 : decide (s.length ≤ i) = false := by simp; omega
                        obtain ⟨Bs, offs, hps⟩ := ptr_of HR.out.s (by omega)
                        subst hps
                        obtain ⟨qs2, ccs2, hcs1, hrs, hls1, hms1⟩ := row_cell2 (HR.out.fresh HF.out).s his
                        have HRS := Lib.hid hrs
                        have HCS := Lib.hid hcs1
                        unfold maxLen at hms1
                        clear hrs hcs1
                        go_wp2_with (first | (go_at_call 22; (with_reducible refine (has_any _ (row ls i) x _ HRI.out).mono ?_); rintro e1 w6 ⟨rfl, h1⟩; rw [HH.out]; have E := Lib.hid h1; clear h1; have hcs1 := E.out.sts T _ _ _ trivial HCS.out) | (go_at_call 22; (with_reducible refine (has_any _ (row s i) x _ (HRS.out.fresh E.out)).mono ?_); rintro e1 w7 ⟨rfl, h1⟩; rw [HH2.out]; have E2 := Lib.hid (E.out.trans h1); clear h1))
                        go_roundw
                        case rel => exact ⟨m + 1, by omega, by go_num, Lib.hid (HF.out.trans E2.out), Lib.hid (HRG.out.fresh E2.out), Lib.hid (HRZ.out.fresh E2.out)⟩
                        case measure => simp [intOf]; omega
                    · go_wp2
                      go_roundw
                      case rel => exact ⟨n + 1, by omega, by go_num, HF, HRG⟩
                      case measure => simp [intOf]; omega
                · obtain ⟨z, hz⟩ : ∃ z : Int, (row g i)[n] = z := ⟨_, rfl⟩
                  rw [hz] at hc6 hz0
                  clear hz
                  by_cases hzn : z < 0
                  · clear hz0
                    go_wp2
                    go_roundw
                    case rel => exact ⟨n + 1, by omega, by go_num, HF, HRG⟩
                    case measure => simp [intOf]; omega
                  · have hzg : (g.length : Int) ≤ z := by omega
                    have hd1 : decide (z < 0) = false := by simp; omega
                    clear hz0
                    go_wp2
                    go_roundw
                    case rel => exact ⟨n + 1, by omega, by go_num, HF, HRG⟩
                    case measure => simp [intOf]; omega
              · go_wp2
                go_roundw
                case rel => exact ⟨i + 1, by omega, by go_num, HF⟩
                case measure => simp [intOf]; omega
    · go_wp2
      go_ret
      exact ⟨rfl, E5.out.trans HF.out⟩
end Go.Proofs.Ytlmlgdojmcmllaa
