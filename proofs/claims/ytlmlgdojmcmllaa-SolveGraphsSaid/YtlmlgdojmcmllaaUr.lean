/- Forward walked; the fixed calls. -/
import Derived.Test.YtlmlgdojmcmllaaUq
namespace Go.Proofs.Ytlmlgdojmcmllaa
set_option linter.unusedSimpArgs false
set_option linter.unusedVariables false
open Go.RowKit
open Solve

set_option maxHeartbeats 8000000 in
set_option maxRecDepth 100000 in
theorem fwdP_any : FwdC 20 := by
  intro v vst vm ve g entry st m en w hg hst hm hen wst wm we h h1 h2 h3
  have HG := Lib.hid hg
  have HSM := Lib.hid hm
  have HSE := Lib.hid hen
  have HWT := Lib.hid wst
  have HWM := Lib.hid wm
  have HWE := Lib.hid we
  have HR := Lib.hid h
  have HT := Lib.hid h1
  have HM := Lib.hid h2
  have HE := Lib.hid h3
  have hgl := hg.len
  clear hg hm hen wst wm we h h1 h2 h3
  go_enter Try.func20, Try.ntmps20
  go_upto_region 2 with (first | (go_at_call 40; (refine (reached_any v g entry _ HG.out HR.out).mono ?_); rintro e w1 ⟨vb, A, b, rfl, hb, hx, hy, hf⟩; have HB := Lib.hid hb; have HX := Lib.hid hx; have HY := Lib.hid hy; have HF1 := Lib.hid hf; clear hb hx hy hf) | (go_at_call 37; (refine (newFlow_any vb vm ve A m en _ (by have := HX.out.1; omega) HSM.out HSE.out HWM.out HWE.out HB.out (HM.out.fresh HF1.out) (HE.out.fresh HF1.out)).mono ?_); rintro e w2 ⟨fb, mb, eb, B1, B2, nm, ne, Fm, Fe, Rm, Re, V1, V2, s1, s2, s3, rfl, hN⟩; have HN := Lib.hid hN; clear hN))
  have HT2 := Lib.hid (HT.out.fresh (HF1.out.trans HN.out.fr))
  go_upto_region 3 with (go_at_call 41; (refine (newSet_any vst st _ (by omega) (fun x hx => HWT.out x hx) HT2.out).mono ?_); rintro e w3 ⟨bb, rfl, hs, hbb, hf⟩; have HS := Lib.hid hs; have HBB := Lib.hid hbb; have HF3 := Lib.hid hf; have h3 : w3.heap[fb]? = some (.cells #[vb, .map (some mb), .map (some eb), .int .i64 0, .map none, .pointer (some ⟨B1, 0, none⟩), .pointer (some ⟨B2, 0, none⟩)] 62 (0, 0)) := (hf.below.block _ (heap_lt HN.out.h)).trans HN.out.h; have H3 := Lib.hid h3; have c3 : w3.cell? ⟨fb, 3, none⟩ = some (.int .i64 0) := (by rw [cell_of_row w3 fb 3 _ 62 (0, 0) h3]; rfl); have c4 : w3.cell? ⟨fb, 4, none⟩ = some (.map none) := (by rw [cell_of_row w3 fb 4 _ 62 (0, 0) h3]; rfl); have f3 := frozen_of h3 3; have f4 := frozen_of h3 4; clear hs hbb hf h3)
  obtain ⟨w4, hw4⟩ : ∃ w4, w4 = (w3.setCell ⟨fb, 3, none⟩ (.int .i64 entry)).setCell ⟨fb, 4, none⟩ (.map (some bb)) := ⟨_, rfl⟩
  rw [← hw4]
  have HK4 : Hid (Keep (· = fb) w2 w4) := Lib.hid (by rw [hw4]; exact ((Keep.of HF3.out).setCell (D := (· = fb)) (p := ⟨fb, 3, none⟩) rfl _).setCell (D := (· = fb)) (p := ⟨fb, 4, none⟩) rfl _)
  have HH4 : Hid (w4.heap[fb]? = some (.cells #[vb, .map (some mb), .map (some eb), .int .i64 entry, .map (some bb), .pointer (some ⟨B1, 0, none⟩), .pointer (some ⟨B2, 0, none⟩)] 62 (0, 0))) := Lib.hid (by rw [hw4, heap_set (heap_set H3.out 3 _) 4 _]; rfl)
  have HS4 : Hid (SetO w4 (some bb) 1000 (fun z => decide (z ∈ st))) := Lib.hid (by
    have hne : bb ≠ fb := by have := heap_lt HN.out.h; have := HBB.out; omega
    rw [hw4]
    refine HS.out.block fun k e => ?_
    injection e with e
    subst e
    rw [Below.heap_setCell _ _ _ _ hne, Below.heap_setCell _ _ _ _ hne])
  clear hw4 c3 c4 f3 f4
  obtain ⟨R, hF⟩ := HN.out.flow (wz := w4) (so := some bb) (S := fun z => decide (z ∈ st)) (entry := entry) (by have := HX.out.1; omega) HB.out HK4.out HH4.out HS4.out (fun k e => by injection e with e; rw [← e]; exact HBB.out)
  have HF := Lib.hid hF
  have cf5 := hF.flo.cs.2.2.2.2.2.1
  clear hF
  go_wp2_with (go_at_call 38; (refine (setsP_any _ true B1 rfl _ R V1 V2 [] [] HF.out).mono ?_); rintro e w5 ⟨x, k, rfl, hr, hx, hk⟩; have HK := Lib.hid hr; have HEX := Lib.hid hx; have HKP := Lib.hid hk; clear hr hx hk)
  go_ret
  have hz1 := HF1.out.size
  obtain ⟨q1, q2, q3, q4⟩ := HN.out.s
  refine ⟨_, k, rfl, HK.out, fwd_exact2 (d := FD.mk vb mb eb (some bb) nm ne Fm Fe A (hof m A.length) (hof en A.length) entry (fun z => decide (z ∈ st)) fb B1 B2) HX.out HY.out HWT.out HWM.out rfl rfl rfl rfl rfl HEX.out, HKP.out.fresh (HK4.out.fresh (HF1.out.trans HN.out.fr) fun z hz => by omega) fun z hz => ?_⟩
  rcases hz with hz | hz
  · have := HN.out.r3 z hz; omega
  · have := HN.out.r4 z hz; omega
/-- The fixed calls. -/
theorem fixC_any : FixC := fixed_of reachP_any orderP_any beforeP_any backP_any fwdP_any
end Go.Proofs.Ytlmlgdojmcmllaa
