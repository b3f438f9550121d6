/- A new flow. -/
import Derived.Test.YtlmlgdojmcmllaaUn
namespace Go.Proofs.Ytlmlgdojmcmllaa
set_option linter.unusedSimpArgs false
set_option linter.unusedVariables false
open Go.RowKit
open Solve

/-- A flow as it was just made. -/
structure NF (w w' : World) (va : Value) (A m en : Graph) (fb mb eb B1 B2 nm ne : Nat) (Fm Fe : Int → Option Value) (Rm Re V1 V2 : Nat → Prop) (s1 s2 s3 : Nat) : Prop where
  h : w'.heap[fb]? = some (.cells #[va, .map (some mb), .map (some eb), .int .i64 0, .map none, .pointer (some ⟨B1, 0, none⟩), .pointer (some ⟨B2, 0, none⟩)] 62 (0, 0))
  hm : HoldF w' Rm mb nm 1000 Fm (hof m A.length)
  he : HoldF w' Re eb ne 1000 Fe (hof en A.length)
  nm : nm ≤ 1000
  v1 : Vst w' V1 B1 A.length []
  v2 : Vst w' V2 B2 A.length []
  r1 : ∀ k, Rm k → w.heap.size ≤ k ∧ k < s1
  r2 : ∀ k, Re k → s1 ≤ k ∧ k < s2
  r3 : ∀ k, V1 k → s2 ≤ k ∧ k < s3
  r4 : ∀ k, V2 k → s3 ≤ k ∧ k < fb
  s : w.heap.size ≤ s1 ∧ s1 ≤ s2 ∧ s2 ≤ s3 ∧ s3 ≤ fb
  fr : Fresh w w'
theorem HoldF.in' {w : World} {R : Nat → Prop} {b n c : Nat} {F : Int → Option Value} {H : Int → Int → Bool} (h : HoldF w R b n c F H) {R' : Nat → Prop} (hr : ∀ k, R k → R' k) (hl : ∀ k, R' k → k < w.heap.size) : HoldF w R' b n c F H := h.grow hr hl
/-- What only the flow's own block may have turned since. -/
theorem NF.flow {w w' wz : World} {va : Value} {A m en : Graph} {fb mb eb B1 B2 nm ne : Nat} {Fm Fe : Int → Option Value} {Rm Re V1 V2 : Nat → Prop} {s1 s2 s3 : Nat} (h : NF w w' va A m en fb mb eb B1 B2 nm ne Fm Fe Rm Re V1 V2 s1 s2 s3) (hA : A.length ≤ 1000) (hrows : Rows2 T T w va A)
    {entry : Int} {so : Option Nat} {S : Int → Bool} (hk : Keep (· = fb) w' wz) (hz : wz.heap[fb]? = some (.cells #[va, .map (some mb), .map (some eb), .int .i64 entry, .map so, .pointer (some ⟨B1, 0, none⟩), .pointer (some ⟨B2, 0, none⟩)] 62 (0, 0))) (hs : SetO wz so 1000 S) (hso : ∀ b, so = some b → w'.heap.size ≤ b) :
    ∃ R, Fst ⟨va, mb, eb, so, nm, ne, Fm, Fe, A, hof m A.length, hof en A.length, entry, S, fb, B1, B2⟩ wz (W V1 V2) wz R V1 V2 [] [] := by
  obtain ⟨q1, q2, q3, q4⟩ := h.s
  have hfb := heap_lt h.h
  have hsz := hk.size
  have hf := h.fr.size
  have dm : ∀ k, Rm k → ¬ k = fb := fun k hk' e => by have := h.r1 k hk'; omega
  have de : ∀ k, Re k → ¬ k = fb := fun k hk' e => by have := h.r2 k hk'; omega
  have d1 : ∀ k, V1 k → ¬ k = fb := fun k hk' e => by have := h.r3 k hk'; omega
  have d2 : ∀ k, V2 k → ¬ k = fb := fun k hk' e => by have := h.r4 k hk'; omega
  have hm := h.hm.keep hk dm
  have he := h.he.keep hk de
  have v1 := h.v1.keep hk d1
  have v2 := h.v2.keep hk d2
  have rows : Rows2 (fun k => k < w.heap.size) (fun k => k < w.heap.size) wz va A := by
    have r0 : Rows2 (fun k => k < w.heap.size) (fun k => k < w.heap.size) w va A := hrows.imp (fun c hc _ => hc) (fun c hc _ => hc)
    have st : Sts (fun k => k < w.heap.size) w wz := fun b o v hb hv => hk.cell (fun e => by omega) ((h.fr.sts (fun _ => True)) _ _ _ trivial hv)
    exact r0.sts st st
  have hlt : ∀ k, (k < w.heap.size ∨ Rm k ∨ Re k ∨ k = fb ∨ so = some k) → k < wz.heap.size := fun k hr => by
    rcases hr with r | r | r | r | r
    · omega
    · exact hm.lt k r
    · exact he.lt k r
    · omega
    · exact hs.lt k r
  have n1 : ∀ k, V1 k → ¬ (k < w.heap.size ∨ Rm k ∨ Re k ∨ k = fb ∨ so = some k) := fun k hv hr => by
    have := h.r3 k hv
    rcases hr with r | r | r | r | r
    · omega
    · have := h.r1 k r; omega
    · have := h.r2 k r; omega
    · omega
    · have := hso k r; omega
  have n2 : ∀ k, V2 k → ¬ (k < w.heap.size ∨ Rm k ∨ Re k ∨ k = fb ∨ so = some k) := fun k hv hr => by
    have := h.r4 k hv
    rcases hr with r | r | r | r | r
    · omega
    · have := h.r1 k r; omega
    · have := h.r2 k r; omega
    · omega
    · have := hso k r; omega
  exact ⟨fun k => k < w.heap.size ∨ Rm k ∨ Re k ∨ k = fb ∨ so = some k, ⟨⟨hz, Or.inr (Or.inr (Or.inr (Or.inl rfl))), rows.imp (fun c _ hc => Or.inl hc) (fun c _ hc => Or.inl hc), hm.grow (fun k hr => Or.inr (Or.inl hr)) hlt, he.grow (fun k hr => Or.inr (Or.inr (Or.inl hr))) hlt, hs, fun b e => Or.inr (Or.inr (Or.inr (Or.inr e))), hlt, hA, h.nm⟩, v1, v2, n1, n2,
    fun k a b => by have := h.r3 k a; have := h.r4 k b; omega, Keep.refl _ _, fun k hv => Or.inl (Or.inl hv), fun k hv => Or.inl (Or.inr hv)⟩⟩
set_option maxHeartbeats 8000000 in
set_option maxRecDepth 100000 in
theorem newFlow_any (va vm ve : Value) (A m en : Graph) (w : World) (hA : A.length ≤ 1000) (hm : Sm m) (he : Sm en) (wm : Wd m) (we : Wd en) (h : Rows2 T T w va A) (h1 : Rows2 T T w vm m) (h2 : Rows2 T T w ve en) :
    Calls Try.prog 37 #[va, vm, ve] w fun e w' => ∃ fb mb eb B1 B2 nm ne Fm Fe Rm Re V1 V2 s1 s2 s3, e = .returned (.pointer (some ⟨fb, 0, none⟩)) ∧ NF w w' va A m en fb mb eb B1 B2 nm ne Fm Fe Rm Re V1 V2 s1 s2 s3 := by
  have HA := Lib.hid h
  have HM := Lib.hid h1
  have HE := Lib.hid h2
  have HS := Lib.hid hm
  have HT := Lib.hid he
  have HWM := Lib.hid wm
  have HWE := Lib.hid we
  obtain ⟨p, cap, rfl, ⟨hc, hmx⟩, _⟩ := h.form
  unfold maxLen at hmx
  clear h h1 h2 hm he wm we
  go_enter Try.func37, Try.ntmps37
  have tok1 : True := trivial
  have tok2 : True := trivial
  go_wp2_with (first | (go_at_call 42; have _t := tok1; (refine (holders_any vm m A.length _ HS.out hA HWM.out HM.out).mono ?_); rintro e w1 ⟨rfl, R1, n1, F1, hn1, hh1, hb1, hf1⟩; have HH1 := Lib.hid hh1; have HB1 := Lib.hid hb1; have HF1 := Lib.hid hf1; have HN1 := Lib.hid hn1; clear tok1 _t hh1 hb1 hf1 hn1) | (go_at_call 42; (refine (holders_any ve en A.length _ HT.out hA HWE.out (HE.out.fresh HF1.out)).mono ?_); rintro e w2 ⟨rfl, R2, n2, F2, hn2, hh2, hb2, hf2⟩; have HH2 := Lib.hid hh2; have HB2 := Lib.hid hb2; have HF2 := Lib.hid hf2; clear hh2 hb2 hf2 hn2) | (go_at_call 26; have _t := tok2; (refine (newVisit_any A.length hA _).mono ?_); rintro e w3 ⟨V1, B1, rfl, hV, hb, h1⟩; have HV3 := Lib.hid hV; have HB3 := Lib.hid hb; have HF3 := Lib.hid h1; clear hV hb h1 tok2 _t) | (go_at_call 26; (refine (newVisit_any A.length hA _).mono ?_); rintro e w4 ⟨V2, B2, rfl, hV, hb, h1⟩; have HV4 := Lib.hid hV; have HB4 := Lib.hid hb; have HF4 := Lib.hid h1; clear hV hb h1))
  go_ret
  have z1 := HF1.out.size
  have z2 := HF2.out.size
  have z3 := HF3.out.size
  have z4 := HF4.out.size
  have f5 : ∀ (cs : Array Value), Fresh w4 (w4.alloc (.cells cs 62)) := fun cs => (Fresh.refl w4).alloc _ _
  refine ⟨w4.heap.size, w.heap.size, w1.heap.size, B1, B2, n1, n2, F1, F2, R1, R2, V1, V2, w1.heap.size, w2.heap.size, w3.heap.size, by simp, heap_alloc_new w4 _, ((HH1.out.fresh (HF2.out.trans (HF3.out.trans HF4.out))).fresh (f5 _)), ((HH2.out.fresh (HF3.out.trans HF4.out)).fresh (f5 _)), HN1.out, ((HV3.out.fresh HF4.out).fresh (f5 _)), HV4.out.fresh (f5 _), fun k hk => ⟨HB1.out k hk, HH1.out.lt k hk⟩, fun k hk => ⟨HB2.out k hk, HH2.out.lt k hk⟩, fun k hk => ⟨HB3.out k hk, HV3.out.lt k hk⟩, fun k hk => ⟨HB4.out k hk, HV4.out.lt k hk⟩, ⟨z1, z2, z3, z4⟩, (HF1.out.trans (HF2.out.trans (HF3.out.trans HF4.out))).trans (f5 _)⟩
end Go.Proofs.Ytlmlgdojmcmllaa
