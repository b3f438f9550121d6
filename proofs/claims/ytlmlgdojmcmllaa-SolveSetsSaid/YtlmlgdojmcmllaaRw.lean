/- The statement on sets along the arrows, out of what is asked of the program's own calls. -/
import Derived.Test.YtlmlgdojmcmllaaRv
namespace Go.Proofs.Ytlmlgdojmcmllaa
set_option linter.unusedSimpArgs false
set_option linter.unusedVariables false
open Go.RowKit
open Solve

theorem fwd_path {g : Graph} {e : Nat} {st : List Int} {m en : Graph} {i : Nat} {x : Int} (h : FwdP g e st m en i x) : Path g e i := by
  induction h with
  | start _ => exact Path.refl _
  | make hp hk _ => exact hp.step hk
  | pass hp hk _ _ _ => exact hp.step hk
theorem fwd_lt {g : Graph} {e : Nat} {st : List Int} {m en : Graph} {i : Nat} {x : Int} (he : e < g.length) (h : FwdP g e st m en i x) : i < g.length := (fwd_path h).lt he
theorem comes_q (vn vst vm ve : Value) (qb : Option Addr) (nb cb : Nat) (g : Graph) (b : List Bool) (entry : Int) (st : List Int) (m en : Graph) (t0 : Nat) (x : Int) (w : World) (hg : Sm g) (hn : Rows2 T T w vn g) (hb : Row T w (.slice qb nb cb) (marks b)) (hs : Ints T w vst st) (hu : Rows2 T T w vm m) (hv : Rows2 T T w ve en)
    (hr : ReachB g entry b) (hx : FwdQ g entry st m en t0 x) :
    Calls Try.prog 24 #[vn, .slice qb nb cb, .int .i64 entry, vst, vm, ve, .int .i64 t0, .int .i64 x] w fun e w' => e = .returned (.bool true) ∧ Fresh w w' := by
  obtain ⟨e, rfl⟩ : ∃ e : Nat, entry = e := ⟨entry.toNat, by have := hx.1; omega⟩
  have he : e < g.length := by have := hx.1; omega
  have hp : FwdP g e st m en t0 x := by simpa using hx.2
  exact comes_any vn vst vm ve qb nb cb g b e st m en t0 x w hg he hn hb hs hu hv hr.1 (fun i => (hr.2 i).trans ⟨fun h => by simpa using h.2.2, fun h => ⟨by omega, by omega, by simpa using h⟩⟩) (fwd_lt he hp) hp
structure R5 (w : World) (vg vst vm ve vi vb : Value) (g : Graph) (st : List Int) (m en ls : Graph) (b : List Bool) : Prop where
  g : Rows2 T T w vg g
  s : Ints T w vst st
  m : Rows2 T T w vm m
  e : Rows2 T T w ve en
  i : Rows2 T T w vi ls
  b : Row T w vb (marks b)
theorem R5.fresh {w w' : World} {vg vst vm ve vi vb : Value} {g : Graph} {st : List Int} {m en ls : Graph} {b : List Bool} (h : R5 w vg vst vm ve vi vb g st m en ls b) (hf : Fresh w w') : R5 w' vg vst vm ve vi vb g st m en ls b :=
  ⟨h.g.fresh hf, h.s.fresh hf, h.m.fresh hf, h.e.fresh hf, h.i.fresh hf, h.b.fresh hf⟩
theorem fwdQ_univ {g : Graph} {entry : Int} {st : List Int} {m en ls : Graph} (h : Exact g.length (FwdQ g entry st m en) ls) (i : Nat) : (row ls i).length ≤ (st ++ m.flatten).length :=
  len_sub (h.inc i).nodup fun x hx => fwd_univ i x ((h.iff i x).1 hx).2
set_option maxHeartbeats 128000000 in
set_option maxRecDepth 100000 in
theorem forwards_any {o1 o2 o3 o4 o5 o6 o7 : Nat → Prop} (hfix : FixC) (hF : FwdC 20) (hR : ReachC 10) (vn vst vm ve : Value) (g0 m0 e0 : Graph) (entry : Int) (st0 : List Int) (w : World) (hn : Rows2 o1 o2 w vn g0) (hs : Ints o3 w vst st0) (hm : Rows2 o4 o5 w vm m0) (he : Rows2 o6 o7 w ve e0) (wst : WdL st0) (wm : Wd m0) (we : Wd e0) :
    Calls Try.prog 7 #[vn, .int .i64 entry, vst, vm, ve] w fun e w' => e = .returned (.bool true) ∧ Fresh w w' := by
  have HFX := Lib.hid hfix
  have HPF := Lib.hid hF
  have HPR := Lib.hid hR
  have HS0 : Hid (Rs w vn vm ve vst g0 m0 e0 st0) := Lib.hid ⟨hn.any, hm.any, he.any, hs.any⟩
  obtain ⟨qs, cs, rfl, ⟨hcs, hms⟩, _⟩ := hs.form
  unfold maxLen at hms
  have HWT := Lib.hid (wdL_take wst 20)
  have HWM := Lib.hid (wd_few wm)
  have HWE := Lib.hid (wd_few we)
  clear hfix hF hR hn hs hm he wst wm we
  go_enter Try.func7, Try.ntmps7
  go_wp2_with fail
  go_at_call 8; (with_reducible refine (HFX.out _).mono ?_); rintro e w1 ⟨rfl, h1⟩; have E1 := Lib.hid h1; have HS1 := Lib.hid (HS0.out.fresh h1); clear h1 HS0
  go_wp2_with fail
  go_at_call 9; (with_reducible refine (few_any _ g0 _ HS1.out.n).mono ?_); rintro e w2 ⟨n1, rfl, hn, h2⟩; have HN := Lib.hid hn.any; have HS2 := Lib.hid (HS1.out.fresh h2); have E2 := Lib.hid (E1.out.trans h2); clear hn h2 E1 HS1
  go_wp2_with fail
  go_at_call 9; (with_reducible refine (few_any _ m0 _ HS2.out.a).mono ?_); rintro e w3 ⟨a1, rfl, hn, h2⟩; have HA := Lib.hid hn.any; have HN' := Lib.hid (HN.out.fresh h2); have HS3 := Lib.hid (HS2.out.fresh h2); have E3 := Lib.hid (E2.out.trans h2); clear hn h2 E2 HS2 HN
  go_wp2_with fail
  go_at_call 9; (with_reducible refine (few_any _ e0 _ HS3.out.b).mono ?_); rintro e w4 ⟨b1, rfl, hn, h2⟩; have HX : Hid (Rs w4 n1 a1 b1 (.slice qs st0.length cs) (fewG g0) (fewG m0) (fewG e0) st0) := Lib.hid ⟨HN'.out.fresh h2, HA.out.fresh h2, hn.any, HS3.out.s.fresh h2⟩; have E4 := Lib.hid (E3.out.trans h2); clear hn h2 E3 HS3 HN' HA
  go_upto_if 34 with fail
  go_cut [2] (fun s2 wx => ∃ n, s2 = .slice qs n cs ∧ wx = w4 ∧ n ≤ 20 ∧ Hid (Rs w4 n1 a1 b1 (.slice qs n cs) (fewG g0) (fewG m0) (fewG e0) (st0.take 20)))
  case first =>
    by_cases h20 : 20 < st0.length
    · have HX' : Hid (Rs w4 n1 a1 b1 (.slice qs 20 cs) (fewG g0) (fewG m0) (fewG e0) (st0.take 20)) := Lib.hid ⟨HX.out.n, HX.out.a, HX.out.b, HX.out.s.take 20 (by omega)⟩
      have h20c : 20 ≤ cs := by omega
      go_wp2
      go_meet
      exact ⟨_, rfl, rfl, by omega, HX'⟩
    · have HX' : Hid (Rs w4 n1 a1 b1 (.slice qs st0.length cs) (fewG g0) (fewG m0) (fewG e0) (st0.take 20)) := Lib.hid (by rw [List.take_of_length_le (by omega)]; exact HX.out)
      go_wp2
      go_meet
      exact ⟨_, rfl, rfl, by omega, HX'⟩
  case rest =>
    obtain ⟨n, rfl, rfl, hn20, HX'⟩ := hcut
    clear HX
    have HSG := Lib.hid (sm_few g0)
    have HSM := Lib.hid (sm_few m0)
    have HSE := Lib.hid (sm_few e0)
    have hsl := take20_len st0
    obtain ⟨g, hg⟩ : ∃ g, g = fewG g0 := ⟨_, rfl⟩
    obtain ⟨m, ha⟩ : ∃ a, a = fewG m0 := ⟨_, rfl⟩
    obtain ⟨en, hb⟩ : ∃ b, b = fewG e0 := ⟨_, rfl⟩
    obtain ⟨st, ht⟩ : ∃ t, t = st0.take 20 := ⟨_, rfl⟩
    rw [← hg] at HX' HSG
    rw [← ha] at HX' HSM HWM
    rw [← hb] at HX' HSE HWE
    rw [← ht] at HX' hsl HWT
    clear hg ha hb ht
    have hnt : n = st.length := by
      have := HX'.out.s.form
      obtain ⟨_, _, h9, _⟩ := this
      injection h9
    subst hnt
    have hl := HSG.out.len
    have hel := HSE.out.len
    go_wp2_with fail
    go_at_call 20; (with_reducible refine (HPF.out _ _ _ _ g entry st m en _ HSG.out hsl HSM.out HSE.out HWT.out HWM.out HWE.out HX'.out.n HX'.out.s HX'.out.a HX'.out.b).mono ?_); rintro e w5 ⟨i1, ls, rfl, ho, hb, h2⟩; have HI := Lib.hid ho; have HEX := Lib.hid hb; have HX5 := Lib.hid (HX'.out.fresh h2); have E5 := Lib.hid (E4.out.trans h2); clear ho hb h2 E4 HX'
    go_wp2_with fail
    go_at_call 10; (with_reducible refine (HPR.out _ g entry _ HSG.out HX5.out.n).mono ?_); rintro e w6 ⟨qb, cb, b, rfl, hr, hb, h2⟩; have HRB := Lib.hid hb; have HR : Hid (R5 w6 n1 (.slice qs st.length cs) a1 b1 i1 (.slice qb (marks b).length cb) g st m en ls b) := Lib.hid ⟨HX5.out.n.fresh h2, HX5.out.s.fresh h2, HX5.out.a.fresh h2, HX5.out.b.fresh h2, HI.out.fresh h2, hr⟩; have E6 := Lib.hid (E5.out.trans h2); clear hr hb h2 E5 HX5 HI
    obtain ⟨pg, cg, hvg, ⟨hcg, hmg⟩, _⟩ := HR.out.g.form
    obtain ⟨pe, ce, hve, ⟨hce, hme⟩, _⟩ := HR.out.e.form
    obtain ⟨pi, ci, hvi, ⟨hci, hmi⟩, _⟩ := HR.out.i.form
    have hbl : b.length = g.length := HRB.out.1
    have hml := marks_len b
    rw [hbl] at hml
    rw [hml] at HR
    rw [hml]
    have hll := HEX.out.len
    rw [hll] at hvi hci
    have HLL := Lib.hid hll
    have HBL := Lib.hid hbl
    unfold maxLen at hmg hme hmi
    subst hvg hve hvi
    clear hll hbl hml
    go_wp2
    go_loopw [60] (fun s60 wr => ∃ i : Nat, i ≤ g.length ∧ s60 = .int .i64 i ∧ Hid (Fresh w6 wr)) (fun s60 _ => g.length - (intOf s60).toNat)
    case atStart => exact ⟨0, by omega, rfl, Lib.hid (Fresh.refl _)⟩
    case round =>
      obtain ⟨i, hi, rfl, HF⟩ := hrel
      by_cases hlt : i < g.length
      · obtain ⟨Bg, offg, rfl⟩ := ptr_of HR.out.g (by omega)
        obtain ⟨Bi, offi, rfl⟩ := ptr_of HR.out.i (by rw [HLL.out]; omega)
        obtain ⟨Bb, offb, hqb, _⟩ := marks_cell HR.out.b (i := i) (by rw [HBL.out]; exact hlt)
        subst hqb
        have HIL := Lib.hid (show i < ls.length by rw [HLL.out]; exact hlt)
        have HBI := Lib.hid (show i < b.length by rw [HBL.out]; exact hlt)
        obtain ⟨qi, cci, hci1, hri, hli1, hmi1⟩ := row_cell2 (HR.out.fresh HF.out).i HIL.out
        have HRI0 := Lib.hid hri
        have hrle : (row ls i).length ≤ 1000 := by
          have h1 := fwdQ_univ HEX.out i
          have h2 := fwd_len hsl HSM.out
          omega
        clear hri
        unfold maxLen at hmi1
        go_wp2
        clear hci1
        have HF0 := HF
        clear HF
        go_loopw [68] (fun s68 wr => ∃ k : Nat, k ≤ (row ls i).length ∧ s68 = .int .i64 k ∧ Hid (Fresh w6 wr) ∧ Hid (Ints T wr (.slice qi (row ls i).length cci) (row ls i))) (fun s68 _ => (row ls i).length - (intOf s68).toNat)
        case atStart => exact ⟨0, by omega, rfl, HF0, HRI0⟩
        case round =>
          obtain ⟨k, hk, rfl, HF, HRI⟩ := hrel
          by_cases hkl : k < (row ls i).length
          · obtain ⟨B6, off6, rfl, _, hc6⟩ := ints_cell HRI.out hkl
            have HBK := Lib.hid ((HEX.out.iff i _).1 (List.getElem_mem hkl))
            have hfb : flag b i = true := (HRB.out.2 i).2 ⟨HBK.out.1.1, HBK.out.1.2, fwd_path HBK.out.2⟩
            obtain ⟨Bb', offb', hqb, hcb⟩ := marks_cell (HR.out.fresh HF.out).b (i := i) HBI.out
            injection hqb with hqb
            injection hqb with e7 e8 _
            subst e7 e8
            rw [hfb] at hcb
            clear hfb
            cases k with
            | zero =>
              obtain ⟨x, hx⟩ : ∃ x, x = (row ls i)[0] := ⟨_, rfl⟩
              rw [← hx] at hc6 HBK
              clear hx
              rw [Nat.add_zero] at hc6
              go_wp2_with (go_at_call 24; (with_reducible refine (comes_q _ _ _ _ _ _ _ g b entry st m en i x _ HSG.out (HR.out.fresh HF.out).g (HR.out.fresh HF.out).b (HR.out.fresh HF.out).s (HR.out.fresh HF.out).m (HR.out.fresh HF.out).e HRB.out HBK.out).mono ?_); rintro e1 w7 ⟨rfl, h1⟩; have E := Lib.hid h1; clear h1)
              go_roundw
              case rel => exact ⟨0 + 1, by omega, by go_num, Lib.hid (HF.out.trans E.out), Lib.hid (HRI.out.fresh E.out)⟩
              case measure => simp [intOf]; omega
            | succ k =>
              have HLT := Lib.hid (rising_at (HEX.out.inc i) hkl)
              have hc7 := (ints_cell HRI.out (j := k) (by omega))
              obtain ⟨B7, off7, hq7, _, hc7⟩ := hc7
              injection hq7 with hq7
              injection hq7 with e7 e8 _
              subst e7 e8
              obtain ⟨qi2, cci2, hci2, hri2, hli2, hmi2⟩ := row_cell2 (HR.out.fresh HF.out).i HIL.out
              obtain ⟨B8, off8, rfl, _, hc8⟩ := ints_cell hri2 (j := k) (by omega)
              obtain ⟨x, hx⟩ : ∃ x, x = (row ls i)[k + 1] := ⟨_, rfl⟩
              obtain ⟨y, hy⟩ : ∃ y, y = (row ls i)[k]'(by omega) := ⟨_, rfl⟩
              rw [← hx] at hc6 HBK HLT
              rw [← hy] at hc7 hc8 HLT
              clear hx hy hri2
              have hdx : decide (x ≤ y) = false := by have := HLT.out; simp; omega
              have hkk : ((k + 1 : Nat) : Int) = (k : Int) + 1 := by omega
              unfold maxLen at hmi2
              go_wp2_with (go_at_call 24; (with_reducible refine (comes_q _ _ _ _ _ _ _ g b entry st m en i x _ HSG.out (HR.out.fresh HF.out).g (HR.out.fresh HF.out).b (HR.out.fresh HF.out).s (HR.out.fresh HF.out).m (HR.out.fresh HF.out).e HRB.out HBK.out).mono ?_); rintro e1 w7 ⟨rfl, h1⟩; have E := Lib.hid h1; clear h1)
              go_roundw
              case rel => exact ⟨k + 1 + 1, by omega, by go_num, Lib.hid (HF.out.trans E.out), Lib.hid (HRI.out.fresh E.out)⟩
              case measure => simp [intOf]; omega
          · obtain ⟨qg, ccg, hcg1, hrg, hlg1, hmg1⟩ := row_cell2 (HR.out.fresh HF.out).g hlt
            have HRG0 := Lib.hid hrg
            have hrgl := HSG.out.row i
            unfold maxLen at hmg1
            clear hrg
            go_wp2
            clear hcg1
            have HF0 := HF
            clear HF HRI HRI0
            go_loopw [112] (fun s112 wr => ∃ n : Nat, n ≤ (row g i).length ∧ s112 = .int .i64 n ∧ Hid (Fresh w6 wr) ∧ Hid (Ints T wr (.slice qg (row g i).length ccg) (row g i))) (fun s112 _ => (row g i).length - (intOf s112).toNat)
            case atStart => exact ⟨0, by omega, rfl, HF0, HRG0⟩
            case round =>
              clear HF0 HRG0
              obtain ⟨n, hn, rfl, HF, HRG⟩ := hrel
              by_cases hnl : n < (row g i).length
              · obtain ⟨B6, off6, rfl, _, hc6⟩ := ints_cell HRG.out hnl
                by_cases hz0 : 0 ≤ (row g i)[n] ∧ (row g i)[n] < (g.length : Int)
                · obtain ⟨z, hz⟩ : ∃ z : Nat, (row g i)[n] = (z : Int) := ⟨(row g i)[n].toNat, by omega⟩
                  have HZF : Hid (z ∈ fol g i) := Lib.hid (mem_nodesOf.2 ⟨by rw [← hz]; exact List.getElem_mem hnl, by omega⟩)
                  rw [hz] at hc6
                  have hzl : z < g.length := by omega
                  have hd1 : decide ((z : Int) < 0) = false := by simp
                  have hd2 : decide (g.length ≤ z) = false := by simp; omega
                  have HZL := Lib.hid (show z < ls.length by rw [HLL.out]; exact hzl)
                  obtain ⟨Bb', offb', hqb, hcb⟩ := marks_cell (HR.out.fresh HF.out).b (i := i) HBI.out
                  injection hqb with hqb
                  injection hqb with e7 e8 _
                  subst e7 e8
                  clear hz hz0
                  cases hfb : flag b i with
                  | false =>
                    rw [hfb] at hcb
                    clear hfb
                    go_wp2
                    go_roundw
                    case rel => exact ⟨n + 1, by omega, by go_num, HF, HRG⟩
                    case measure => simp [intOf]; omega
                  | true =>
                    rw [hfb] at hcb
                    have HVP := Lib.hid ((HRB.out.2 i).1 hfb)
                    clear hfb
                    obtain ⟨qi, cci, hci1, hri, hli1, hmi1⟩ := row_cell2 (HR.out.fresh HF.out).i HIL.out
                    have HRI0 := Lib.hid hri
                    unfold maxLen at hmi1
                    clear hri
                    go_wp2
                    clear hci1 hc6 hcb
                    have HF0 := HF
                    have HRG0 := HRG
                    clear HF HRG
                    go_loopw [136] (fun s136 wr => ∃ k : Nat, k ≤ (row ls i).length ∧ s136 = .int .i64 k ∧ Hid (Fresh w6 wr) ∧ Hid (Ints T wr (.slice (some ⟨B6, off6, none⟩) (row g i).length ccg) (row g i)) ∧ Hid (Ints T wr (.slice qi (row ls i).length cci) (row ls i))) (fun s136 _ => (row ls i).length - (intOf s136).toNat)
                    case atStart => exact ⟨0, by omega, rfl, HF0, HRG0, HRI0⟩
                    case round =>
                      clear HF0 HRG0 HRI0
                      obtain ⟨k, hk, rfl, HF, HRG, HRI⟩ := hrel
                      by_cases hkl : k < (row ls i).length
                      · obtain ⟨B9, off9, rfl, _, hc9⟩ := ints_cell HRI.out hkl
                        have HBK := Lib.hid ((HEX.out.iff i _).1 (List.getElem_mem hkl))
                        obtain ⟨x, hx⟩ : ∃ x, x = (row ls i)[k] := ⟨_, rfl⟩
                        rw [← hx] at hc9 HBK
                        clear hx
                        obtain ⟨qz, ccz, hcz1, hrz, hlz1, hmz1⟩ := row_cell2 (HR.out.fresh HF.out).i HZL.out
                        have HRZ := Lib.hid hrz
                        have HCZ := Lib.hid hcz1
                        unfold maxLen at hmz1
                        clear hrz hcz1
                        by_cases hie : i < en.length
                        · have hd3 : decide (en.length ≤ i) = false := by simp; omega
                          obtain ⟨Be, offe, hpe⟩ := ptr_of HR.out.e (by omega)
                          subst hpe
                          obtain ⟨qe, cce, hce1, hre, hle1, hme1⟩ := row_cell2 (HR.out.fresh HF.out).e hie
                          have HRE := Lib.hid hre
                          unfold maxLen at hme1
                          clear hre
                          by_cases hxe : x ∈ row en i
                          · have HH := Lib.hid (has_yes hxe)
                            clear hxe
                            go_wp2_with (go_at_call 22; (with_reducible refine (has_any _ (row en i) x _ HRE.out).mono ?_); rintro e1 w7 ⟨rfl, h1⟩; rw [HH.out]; have E := Lib.hid h1; clear h1; have hcz1 := E.out.sts T _ _ _ trivial HCZ.out)
                            go_roundw
                            case rel => exact ⟨k + 1, by omega, by go_num, Lib.hid (HF.out.trans E.out), Lib.hid (HRG.out.fresh E.out), Lib.hid (HRI.out.fresh E.out)⟩
                            case measure => simp [intOf]; omega
                          · have HH := Lib.hid (show has (row en i) x = false by simpa [has] using hxe)
                            have HH2 := Lib.hid (has_yes ((HEX.out.iff z x).2 ⟨HBK.out.1, .pass HVP.out.2.2 HZF.out HBK.out.2 hxe⟩))
                            clear hxe
                            go_wp2_with (first | (go_at_call 22; (with_reducible refine (has_any _ (row en i) x _ HRE.out).mono ?_); rintro e1 w7 ⟨rfl, h1⟩; rw [HH.out]; have E := Lib.hid h1; clear h1; have hcz1 := E.out.sts T _ _ _ trivial HCZ.out) | (go_at_call 22; (with_reducible refine (has_any _ (row ls z) x _ (HRZ.out.fresh E.out)).mono ?_); rintro e1 w8 ⟨rfl, h1⟩; rw [HH2.out]; have E2 := Lib.hid (E.out.trans h1); clear h1))
                            go_roundw
                            case rel => exact ⟨k + 1, by omega, by go_num, Lib.hid (HF.out.trans E2.out), Lib.hid (HRG.out.fresh E2.out), Lib.hid (HRI.out.fresh E2.out)⟩
                            case measure => simp [intOf]; omega
                        · have hxe : x ∉ row en i := back_row hie
                          have HH2 := Lib.hid (has_yes ((HEX.out.iff z x).2 ⟨HBK.out.1, .pass HVP.out.2.2 HZF.out HBK.out.2 hxe⟩))
                          have hcz1 := HCZ.out
                          have hie2 : en.length ≤ i := by omega
                          clear hxe
                          go_wp2_with (go_at_call 22; (with_reducible refine (has_any _ (row ls z) x _ HRZ.out).mono ?_); rintro e1 w8 ⟨rfl, h1⟩; rw [HH2.out]; have E2 := Lib.hid h1; clear h1)
                          go_roundw
                          case rel => exact ⟨k + 1, by omega, by go_num, Lib.hid (HF.out.trans E2.out), Lib.hid (HRG.out.fresh E2.out), Lib.hid (HRI.out.fresh E2.out)⟩
                          case measure => simp [intOf]; omega
                      · have hml := HSM.out.row i
                        go_wp2_with (go_at_call 25; (with_reducible refine (set_sl _ m i _ (HR.out.fresh HF.out).m).mono ?_); rintro e1 w7 ⟨qm, cm, rfl, h1, rfl⟩; have HRM0 := Lib.hid h1; obtain ⟨_, _, _, ⟨hmc1, hmc2⟩, _⟩ := h1.form; clear h1)
                        have HF0 := HF
                        have HRG0 := HRG
                        clear HF HRG HRI
                        go_loopw [167] (fun s167 wr => ∃ k : Nat, k ≤ (row m i).length ∧ s167 = .int .i64 k ∧ Hid (Fresh w6 wr) ∧ Hid (Ints T wr (.slice (some ⟨B6, off6, none⟩) (row g i).length ccg) (row g i)) ∧ Hid (Ints T wr (.slice qm (row m i).length cm) (row m i))) (fun s167 _ => (row m i).length - (intOf s167).toNat)
                        case atStart => exact ⟨0, by omega, rfl, HF0, HRG0, HRM0⟩
                        case round =>
                          clear HF0 HRG0 HRM0
                          obtain ⟨k, hk, rfl, HF, HRG, HRM⟩ := hrel
                          by_cases hkl : k < (row m i).length
                          · obtain ⟨B9, off9, rfl, _, hc9⟩ := ints_cell HRM.out hkl
                            have HH2 := Lib.hid (has_yes ((HEX.out.iff z _).2 ⟨⟨HVP.out.1, HVP.out.2.1⟩, .make HVP.out.2.2 HZF.out (List.getElem_mem hkl)⟩))
                            obtain ⟨x, hx⟩ : ∃ x, x = (row m i)[k] := ⟨_, rfl⟩
                            rw [← hx] at hc9 HH2
                            clear hx
                            obtain ⟨qz, ccz, hcz1, hrz, hlz1, hmz1⟩ := row_cell2 (HR.out.fresh HF.out).i HZL.out
                            have HRZ := Lib.hid hrz
                            unfold maxLen at hmz1
                            clear hrz
                            go_wp2_with (go_at_call 22; (with_reducible refine (has_any _ (row ls z) x _ HRZ.out).mono ?_); rintro e1 w8 ⟨rfl, h1⟩; rw [HH2.out]; have E2 := Lib.hid h1; clear h1)
                            go_roundw
                            case rel => exact ⟨k + 1, by omega, by go_num, Lib.hid (HF.out.trans E2.out), Lib.hid (HRG.out.fresh E2.out), Lib.hid (HRM.out.fresh E2.out)⟩
                            case measure => simp [intOf]; omega
                          · go_wp2
                            go_roundw
                            case rel => exact ⟨n + 1, by omega, by go_num, HF, HRG⟩
                            case measure => simp [intOf]; omega
                · obtain ⟨z, hz⟩ : ∃ z : Int, (row g i)[n] = z := ⟨_, rfl⟩
                  rw [hz] at hc6 hz0
                  clear hz
                  by_cases hzn : z < 0
                  · clear hz0
                    go_wp2
                    go_roundw
                    case rel => exact ⟨n + 1, by omega, by go_num, HF, HRG⟩
                    case measure => simp [intOf]; omega
                  · have hzg : (g.length : Int) ≤ z := by omega
                    have hd1 : decide (z < 0) = false := by simp; omega
                    clear hz0 hzn
                    go_wp2
                    go_roundw
                    case rel => exact ⟨n + 1, by omega, by go_num, HF, HRG⟩
                    case measure => simp [intOf]; omega
              · go_wp2
                go_roundw
                case rel => exact ⟨i + 1, by omega, by go_num, HF⟩
                case measure => simp [intOf]; omega
      · have HST0 := Lib.hid (HR.out.fresh HF.out).s
        go_wp2
        have HF0 := HF
        clear HF
        go_loopw [183] (fun s183 wr => ∃ k : Nat, k ≤ st.length ∧ s183 = .int .i64 k ∧ Hid (Fresh w6 wr) ∧ Hid (Ints T wr (.slice qs st.length cs) st)) (fun s183 _ => st.length - (intOf s183).toNat)
        case atStart => exact ⟨0, by omega, rfl, HF0, HST0⟩
        case round =>
          clear HF0 HST0
          obtain ⟨k, hk, rfl, HF, HST⟩ := hrel
          by_cases hkl : k < st.length
          · obtain ⟨B9, off9, rfl, _, hc9⟩ := ints_cell HST.out hkl
            by_cases hv : 0 ≤ entry ∧ entry < (g.length : Int)
            · obtain ⟨e, rfl⟩ : ∃ e : Nat, entry = e := ⟨entry.toNat, by omega⟩
              have hee : e < g.length := by omega
              have HH2 := Lib.hid (has_yes ((HEX.out.iff e _).2 ⟨hv, by simpa using FwdP.start (m := m) (e := en) (g := g) (entry := e) (List.getElem_mem hkl)⟩))
              obtain ⟨x, hx⟩ : ∃ x, x = st[k] := ⟨_, rfl⟩
              rw [← hx] at hc9 HH2
              obtain ⟨Bi, offi, rfl⟩ := ptr_of HR.out.i (by rw [HLL.out]; omega)
              obtain ⟨qz, ccz, hcz1, hrz, hlz1, hmz1⟩ := row_cell2 (HR.out.fresh HF.out).i (i := e) (by rw [HLL.out]; exact hee)
              have HRZ := Lib.hid hrz
              unfold maxLen at hmz1
              clear hx hrz hv
              go_wp2_with (go_at_call 22; (with_reducible refine (has_any _ (row ls e) x _ HRZ.out).mono ?_); rintro e1 w8 ⟨rfl, h1⟩; rw [HH2.out]; have E2 := Lib.hid h1; clear h1)
              go_roundw
              case rel => exact ⟨k + 1, by omega, by go_num, Lib.hid (HF.out.trans E2.out), Lib.hid (HST.out.fresh E2.out)⟩
              case measure => simp [intOf]; omega
            · obtain ⟨x, hx⟩ : ∃ x, x = st[k] := ⟨_, rfl⟩
              rw [← hx] at hc9
              clear hx
              by_cases h0 : 0 ≤ entry
              · have hd : decide (entry < (g.length : Int)) = false := by simp; omega
                clear hv
                go_wp2
                go_roundw
                case rel => exact ⟨k + 1, by omega, by go_num, HF, HST⟩
                case measure => simp [intOf]; omega
              · have hd : decide (0 ≤ entry) = false := by simpa using h0
                clear hv
                go_wp2
                go_roundw
                case rel => exact ⟨k + 1, by omega, by go_num, HF, HST⟩
                case measure => simp [intOf]; omega
          · go_wp2
            go_ret
            exact ⟨rfl, E6.out.trans HF.out⟩
end Go.Proofs.Ytlmlgdojmcmllaa
