/- Backward, by the program. -/
import Derived.Test.YtlmlgdojmcmllaaUo
namespace Go.Proofs.Ytlmlgdojmcmllaa
set_option linter.unusedSimpArgs false
set_option linter.unusedVariables false
open Go.RowKit
open Solve

theorem back_ab {g u s ls : Graph} (hls : Exact g.length (BefP g) ls) {i : Nat} {y : Int} : AB ls false 0 (hof u ls.length y) (hof s ls.length y) false i ↔ BackP g u s i y := by
  have hn := hls.len
  have hfol : ∀ i c, c ∈ fol ls i ↔ i ∈ fol g c := fun i c => by
    unfold fol
    rw [mem_nodesOf, hn]
    show (c : Int) ∈ row ls i ∧ c < g.length ↔ _
    rw [hls.iff]
    constructor
    · rintro ⟨⟨a, h1, h2⟩, _⟩
      obtain rfl : c = a := by omega
      exact h2
    · intro h
      exact ⟨⟨c, rfl, h⟩, fol_from h⟩
  have hh : ∀ (t : Graph) (i : Nat), hof t ls.length y (i : Int) = true ↔ i < g.length ∧ y ∈ row t i := fun t i => by
    unfold hof
    rw [decide_eq_true_iff, hn]
    simp
  constructor
  · intro h
    have key : ∀ b i, AB ls false 0 (hof u ls.length y) (hof s ls.length y) b i → (b = false → BackP g u s i y) ∧ (b = true → ∃ k, k ∈ fol g i ∧ BackP g u s k y) := by
      intro b i hab
      induction hab with
      | start h _ _ => cases h
      | step h1 h2 ih => exact ⟨(fun e => by cases e), fun _ => ⟨_, (hfol _ _).1 h2, ih.1 rfl⟩⟩
      | make h1 h2 => exact ⟨fun _ => .use ((hh u _).1 h1).1 ((hh u _).1 h1).2, fun e => by cases e⟩
      | pass h1 h2 ih =>
        refine ⟨fun _ => ?_, fun e => by cases e⟩
        obtain ⟨k, hk, hb⟩ := ih.2 rfl
        refine .pass hk hb fun hy => ?_
        have := (hh s _).2 ⟨fol_from hk, hy⟩
        rw [this] at h2; cases h2
    exact (key _ _ h).1 rfl
  · intro h
    induction h with
    | @use i x hi hx => exact .make ((hh u i).2 ⟨hi, hx⟩) (by rw [hn]; exact hi)
    | @pass i k x hk _ he ih =>
      refine .pass (.step (ih hh) ((hfol k i).2 hk)) ?_
      cases hq : hof s ls.length x (i : Int) with
      | false => rfl
      | true => exact absurd ((hh s i).1 hq).2 he
theorem back_exact {g u s ls k : Graph} {d : FD} (hls : Exact g.length (BefP g) ls) (wu : Wd u) (hA : d.A = ls) (hM : d.M = hof u ls.length) (hE : d.E = hof s ls.length) (hen : d.entry = 0) (hS : d.S = fun _ => false) (h : Exact d.A.length (SdP d false) k) : Exact g.length (BackP g u s) k := by
  refine ⟨by rw [h.len, hA, hls.len], h.inc, fun i y => ?_⟩
  rw [h.iff]
  unfold SdP
  rw [hA, hM, hE, hen, hS]
  rw [back_ab hls]
  refine ⟨fun e => e.2, fun e => ⟨?_, e⟩⟩
  induction e with
  | @use i x hi hx => exact wu i x hx
  | pass _ _ _ ih => exact ih
set_option maxHeartbeats 8000000 in
set_option maxRecDepth 100000 in
theorem backP_any : BackC 18 := by
  intro v vu vs g u s w hg hu hs wu ws h h1 h2
  have HG := Lib.hid hg
  have HSU := Lib.hid hu
  have HSS := Lib.hid hs
  have HWU := Lib.hid wu
  have HWS := Lib.hid ws
  have HR := Lib.hid h
  have HU := Lib.hid h1
  have HS := Lib.hid h2
  have hgl := hg.len
  clear hg hu hs wu ws h h1 h2
  go_enter Try.func18, Try.ntmps18
  go_upto_region 2 with (first | (go_at_call 16; (refine (beforeP_any v g _ HG.out HR.out).mono ?_); rintro e w1 ⟨vb, ls, rfl, hb, hx, hf⟩; have HB := Lib.hid hb; have HX := Lib.hid hx; have HF1 := Lib.hid hf; clear hb hx hf) | (go_at_call 37; (refine (newFlow_any vb vu vs ls u s _ (by have := HX.out.len; omega) HSU.out HSS.out HWU.out HWS.out HB.out (HU.out.fresh HF1.out) (HS.out.fresh HF1.out)).mono ?_); rintro e w2 ⟨fb, mb, eb, B1, B2, nm, ne, Fm, Fe, Rm, Re, V1, V2, s1, s2, s3, rfl, hN⟩; have HN := Lib.hid hN; clear hN))
  obtain ⟨R, hF⟩ := HN.out.flow (wz := w2) (so := none) (S := fun _ => false) (entry := 0) (by have := HX.out.len; omega) HB.out (Keep.refl _ _) HN.out.h (by obtain ⟨n0, f0, a1, a2, a3⟩ := SetO.none w2; exact ⟨n0, f0, by omega, a2, a3⟩) (fun b e => by cases e)
  have HF := Lib.hid hF
  have cf6 := hF.flo.cs.2.2.2.2.2.2
  clear hF
  go_wp2_with (go_at_call 38; (refine (setsP_any _ false B2 rfl _ R V1 V2 [] [] HF.out).mono ?_); rintro e w3 ⟨x, k, rfl, hr, hx, hk⟩; have HK := Lib.hid hr; have HE := Lib.hid hx; have HKP := Lib.hid hk; clear hr hx hk)
  go_ret
  refine ⟨_, k, rfl, HK.out, back_exact (d := FD.mk vb mb eb none nm ne Fm Fe ls (hof u ls.length) (hof s ls.length) 0 (fun _ => false) fb B1 B2) HX.out HWU.out rfl rfl rfl rfl rfl HE.out, HKP.out.fresh (HF1.out.trans HN.out.fr) fun z hz => ?_⟩
  have hz1 := HF1.out.size
  obtain ⟨q1, q2, q3, q4⟩ := HN.out.s
  rcases hz with hz | hz
  · have := HN.out.r3 z hz; omega
  · have := HN.out.r4 z hz; omega
end Go.Proofs.Ytlmlgdojmcmllaa
