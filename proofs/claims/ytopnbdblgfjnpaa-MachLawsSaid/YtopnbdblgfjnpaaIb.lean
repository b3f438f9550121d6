/- What Trunc answers of any double, and that its bounds are the double's own. -/
import Derived.Test.YtopnbdblgfjnpaaIa
import Derived.Test.YtopnbdblgfjnpaaM
namespace Go.Proofs.Ytopnbdblgfjnpaa
set_option linter.unusedSimpArgs false
set_option linter.unusedVariables false
open Ieee Go.RowKit
attribute [local irreducible] units bigP

structure TruncOf (x t : Nat) : Prop where
  nan : ∀ s u, double.read x = .nan s u → ∃ s' u', double.read t = .nan s' u'
  inf : ∀ s, double.read x = .infinity s → double.read t = .infinity s
  number : ∀ s m e, double.read x = .number s m e → t = double.write ((Datum.number s m e).integral .zero)
theorem read_inf (s : Bool) : double.read (double.write (.infinity s)) = .infinity s := by cases s <;> decide
theorem read_quiet (s : Bool) (u : Nat) : ∃ s' u', double.read (double.write (.nan s (double.quiet u))) = .nan s' u' := by
  have w2 : double.binade = 4503599627370496 := by decide
  have w3 : double.infRung = 9218868437227405312 := by decide
  have w4 : double.leastPlace = -1074 := by decide
  have hq : 0 < double.quiet u % 4503599627370496 := by
    have e : double.quiet u % 2 ^ 52 = (u % 2 ^ 52) ||| (2 ^ 51 % 2 ^ 52) := Nat.or_mod_two_pow
    have h2 : 2 ^ 51 % 2 ^ 52 ≤ (u % 2 ^ 52) ||| (2 ^ 51 % 2 ^ 52) := Nat.right_le_or
    rw [← e] at h2
    exact Nat.lt_of_lt_of_le (by decide) h2
  have hlt : double.quiet u % 4503599627370496 < 4503599627370496 := Nat.mod_lt _ (by decide)
  unfold Format.write
  dsimp only
  rw [w2, w3]
  generalize double.quiet u % 4503599627370496 = f at *
  obtain ⟨p1, p2⟩ := word_parts s (9218868437227405312 + f) (by omega)
  unfold Format.read
  rw [p1, p2, w2, w3, w4]
  dsimp only
  rw [if_neg (by omega), if_neg (by omega), if_neg (by omega)]
  exact ⟨_, _, rfl⟩
theorem run_truncOf (x : Nat) (w : World) : ∃ t w', (callFunc 89 #[.float .f64 x]).run Try.prog w = .ok (.value (.float .f64 t)) w' ∧ Fresh w w' ∧ TruncOf x t := by
  rw [run_callFunc_standIn (fn := Try.f89) (e := Extern.MathFloor.toIntegral "math.archTrunc" .zero) (by kernel_rfl) (by kernel_rfl) (by kernel_rfl) (by kernel_rfl) (by rfl)]
  generalize hT : Extern.MathFloor.toIntegral "math.archTrunc" .zero #[.float .f64 x] = T
  unfold Extern.MathFloor.toIntegral at hT
  conv at hT => lhs; whnf
  cases h : FloatKind.f64.decode x with
  | nan s t =>
    have hr : double.read x = .nan s t := h
    simp only [h] at hT
    by_cases hq : FloatKind.f64.format.quiet t = t
    · rw [if_pos hq] at hT; subst hT
      exact ⟨x, w, rfl, Fresh.refl _, ⟨fun s' u' h' => ⟨s', u', h'⟩, fun s' h' => h', fun s' m e h' => by rw [hr] at h'; cases h'⟩⟩
    · rw [if_neg hq] at hT; subst hT
      refine ⟨_, w.drew, rfl, (Fresh.refl _).drew, ⟨fun s' u' h' => ?_, fun s' h' => ?_, fun s' m e h' => ?_⟩⟩
      · split
        · exact ⟨s', u', h'⟩
        · exact read_quiet s t
      · rw [hr] at h'; cases h'
      · rw [hr] at h'; cases h'
  | number s m e =>
    have hr : double.read x = .number s m e := h
    simp only [h] at hT; subst hT
    refine ⟨_, w, rfl, Fresh.refl _, ⟨fun s' u' h' => ?_, fun s' h' => ?_, fun s' m' e' h' => ?_⟩⟩
    · rw [hr] at h'; cases h'
    · rw [hr] at h'; cases h'
    · rw [hr] at h'; cases h'; rfl
  | infinity s =>
    have hr : double.read x = .infinity s := h
    simp only [h] at hT; subst hT
    refine ⟨_, w, rfl, Fresh.refl _, ⟨fun s' u' h' => ?_, fun s' h' => ?_, fun s' m' e' h' => ?_⟩⟩
    · rw [hr] at h'; cases h'
    · rw [hr] at h'; cases h'; exact read_inf s
    · rw [hr] at h'; cases h'
/-- Within (lo, hi), as the document's own answers ask. -/
def refW (x lo hi : Nat) : Bool := (FloatKind.f64.format.order x lo == some .gt) && (FloatKind.f64.format.order x hi == some .lt)
theorem not_number {x lo hi ml mh : Nat} {sl sh : Bool} {el eh : Int} (rl : double.read lo = .number sl ml el) (rh : double.read hi = .number sh mh eh)
    (h : (∃ s u, double.read x = .nan s u) ∨ (∃ s, double.read x = .infinity s)) : refW x lo hi = false ∧ winL x lo hi = false := by
  have hf : FloatKind.f64.format = double := rfl
  unfold refW winL
  rw [hf]
  rcases h with ⟨s, u, hr⟩ | ⟨s, hr⟩
  · simp [Format.order, hr, Datum.order]
  · rw [Format.order, Format.order, hr, rl, rh]
    cases s <;> simp [Datum.order]
theorem trunc_not {x t : Nat} (h : TruncOf x t) (hx : (∃ s u, double.read x = .nan s u) ∨ (∃ s, double.read x = .infinity s)) :
    (∃ s u, double.read t = .nan s u) ∨ (∃ s, double.read t = .infinity s) := by
  rcases hx with ⟨s, u, hr⟩ | ⟨s, hr⟩
  · exact Or.inl (h.nan s u hr)
  · exact Or.inr ⟨s, h.inf s hr⟩
theorem same31 {x t : Nat} (h : TruncOf x t) : winL t 13970166044103278592 4746794007248502784 = refW x 13970166044105375744 4746794007248502784 := by
  rcases read_cases x with hx | hx | ⟨s, m, e, hr, hm, he, he'⟩
  · rw [(not_number (lo := 13970166044103278592) (hi := 4746794007248502784) (by rfl) (by rfl) (trunc_not h (Or.inl hx))).2, (not_number (lo := 13970166044105375744) (hi := 4746794007248502784) (by rfl) (by rfl) (Or.inl hx)).1]
  · rw [(not_number (lo := 13970166044103278592) (hi := 4746794007248502784) (by rfl) (by rfl) (trunc_not h (Or.inr hx))).2, (not_number (lo := 13970166044105375744) (hi := 4746794007248502784) (by rfl) (by rfl) (Or.inr hx)).1]
  · exact trunc31 hr hm he he' (h.number s m e hr)
theorem same32 {x t : Nat} (h : TruncOf x t) : winL t 0 4751297606875873280 = refW x 13830554455654793216 4751297606875873280 := by
  rcases read_cases x with hx | hx | ⟨s, m, e, hr, hm, he, he'⟩
  · rw [(not_number (lo := 0) (hi := 4751297606875873280) (by rfl) (by rfl) (trunc_not h (Or.inl hx))).2, (not_number (lo := 13830554455654793216) (hi := 4751297606875873280) (by rfl) (by rfl) (Or.inl hx)).1]
  · rw [(not_number (lo := 0) (hi := 4751297606875873280) (by rfl) (by rfl) (trunc_not h (Or.inr hx))).2, (not_number (lo := 13830554455654793216) (hi := 4751297606875873280) (by rfl) (by rfl) (Or.inr hx)).1]
  · exact trunc32 hr hm he he' (h.number s m e hr)
theorem same63 {x t : Nat} (h : TruncOf x t) : winL t 14114281232179134464 4890909195324358656 = refW x 14114281232179134465 4890909195324358656 := by
  rcases read_cases x with hx | hx | ⟨s, m, e, hr, hm, he, he'⟩
  · rw [(not_number (lo := 14114281232179134464) (hi := 4890909195324358656) (by rfl) (by rfl) (trunc_not h (Or.inl hx))).2, (not_number (lo := 14114281232179134465) (hi := 4890909195324358656) (by rfl) (by rfl) (Or.inl hx)).1]
  · rw [(not_number (lo := 14114281232179134464) (hi := 4890909195324358656) (by rfl) (by rfl) (trunc_not h (Or.inr hx))).2, (not_number (lo := 14114281232179134465) (hi := 4890909195324358656) (by rfl) (by rfl) (Or.inr hx)).1]
  · exact trunc63 hr hm he he' (h.number s m e hr)
theorem same64 {x t : Nat} (h : TruncOf x t) : winL t 0 4895412794951729152 = refW x 13830554455654793216 4895412794951729152 := by
  rcases read_cases x with hx | hx | ⟨s, m, e, hr, hm, he, he'⟩
  · rw [(not_number (lo := 0) (hi := 4895412794951729152) (by rfl) (by rfl) (trunc_not h (Or.inl hx))).2, (not_number (lo := 13830554455654793216) (hi := 4895412794951729152) (by rfl) (by rfl) (Or.inl hx)).1]
  · rw [(not_number (lo := 0) (hi := 4895412794951729152) (by rfl) (by rfl) (trunc_not h (Or.inr hx))).2, (not_number (lo := 13830554455654793216) (hi := 4895412794951729152) (by rfl) (by rfl) (Or.inr hx)).1]
  · exact trunc64 hr hm he he' (h.number s m e hr)
end Go.Proofs.Ytopnbdblgfjnpaa
