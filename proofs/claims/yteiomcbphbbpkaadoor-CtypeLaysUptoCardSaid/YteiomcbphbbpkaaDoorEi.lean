/- Types that are made: how many parts; which arithmetic ones; what their common types are. -/
import Derived.Test.YteiomcbphbbpkaaDoorEg
namespace Go.Proofs.YteiomcbphbbpkaaDoor
set_option linter.unusedSimpArgs false
set_option linter.unusedVariables false
open Go.RowKit

theorem Tys.small_append : ∀ {a b : Tys}, a.small → b.small → (a.append b).small
  | .nil, _, _, h => h
  | .cons _ _ _, _, h, k => ⟨h.1, Tys.small_append h.2 k⟩
theorem params_small {f : Nat → Mk} (hf : ∀ i, (f i).ks.small ∧ (f i).ks.length ≤ 9) : ∀ c j, (params f c j).1.small
  | 0, _ => trivial
  | c + 1, j => Tys.small_append (params_small hf c j) ⟨⟨(hf _).2, (hf _).1⟩, trivial⟩
theorem mkT_small (zs : Nat → Int) (n : Nat) : ∀ d i, (mkT zs n d i).ks.small ∧ (mkT zs n d i).ks.length ≤ 9
  | 0, _ => ⟨trivial, by simp [mkT, Tys.length]⟩
  | d + 1, i => by
    have ih := mkT_small zs n d
    unfold mkT mkS
    split
    · exact ⟨trivial, by simp [Tys.length]⟩
    · repeat' split
      all_goals first | exact ⟨trivial, by simp [Tys.length]⟩ | exact ⟨⟨⟨(ih _).2, (ih _).1⟩, trivial⟩, by simp [Tys.length]⟩ | skip
      unfold mkM
      repeat' split
      all_goals first | exact ⟨trivial, by simp [Tys.length]⟩ | exact ⟨⟨⟨(ih _).2, (ih _).1⟩, trivial⟩, by simp [Tys.length]⟩ | skip
      refine ⟨⟨⟨(ih _).2, (ih _).1⟩, params_small ih _ _⟩, ?_⟩
      simp only [Tys.length, params_len]
      omega
def eqH (a b : Hd) : Bool := a.kind == b.kind && a.size == b.size && a.len == b.len && a.flag == b.flag && a.name.data.toList == b.name.data.toList
theorem eqH_eq {a b : Hd} (h : eqH a b = true) : a = b := by
  obtain ⟨k, s, l, f, nm⟩ := a
  obtain ⟨k', s', l', f', nm'⟩ := b
  simp only [eqH, Bool.and_eq_true, beq_iff_eq] at h
  obtain ⟨⟨⟨⟨rfl, rfl⟩, rfl⟩, rfl⟩, h5⟩ := h
  have : nm = nm' := by
    obtain ⟨⟨d⟩⟩ := nm
    obtain ⟨⟨d'⟩⟩ := nm'
    simp only at h5
    rw [h5]
  rw [this]
/-- The arithmetic types. -/
def A9 : List Hd := [numHd 1 false, numHd 1 true, numHd 2 false, numHd 2 true, numHd 4 false, numHd 4 true, numHd 8 false, numHd 8 true, hd1 3]
theorem arith_not {h : Hd} (h2 : h.kind ≠ 2) (h3 : h.kind ≠ 3) : isArith h = false := by
  unfold isArith chunkOf
  rw [if_neg h2, if_neg h3]
  by_cases h4 : h.kind = 4
  · simp [h4]
  · simp [h4]
theorem numHd3 : isArith (numHd 3 false) = false := by kernel_rfl
theorem mkT_arith (zs : Nat → Int) (n : Nat) : ∀ d i, isArith (mkT zs n d i).h = true → (mkT zs n d i).h ∈ A9
  | 0, _, h => by
    rw [show (mkT zs n 0 _).h = Hd.zero from rfl, arith_not (by decide) (by decide)] at h
    cases h
  | d + 1, i, h => by
    have ih := mkT_arith zs n d
    revert h
    unfold mkT mkS
    repeat' split
    all_goals intro h
    all_goals (try dsimp only at h ⊢)
    all_goals first
      | (simp [A9]; done)
      | (cases hu : (zs i % 2 == 0) <;> simp [A9] <;> done)
      | (exfalso; rw [numHd3] at h; cases h)
      | (exfalso; rw [arith_not (h := hd1 1) (by decide) (by decide)] at h; cases h)
      | (exfalso; rw [arith_not (h := hd1 4) (by decide) (by decide)] at h; cases h)
      | (exfalso; rw [arith_not (h := Hd.zero) (by decide) (by decide)] at h; cases h)
      | skip
    all_goals exfalso
    all_goals (first | (rw [arith_not (h := Hd.zero) (by decide) (by decide)] at h; cases h) | revert h)
    unfold mkM
    repeat' split
    all_goals intro h
    all_goals (rw [arith_not (by simp [hd1, arrHd, recHd]) (by simp [hd1, arrHd, recHd])] at h; cases h)
/-- What holds of the common type of two arithmetic ones. -/
def chk (a b : Hd) : Bool :=
  comOk a b && eqH (comHd a b) (comHd b a) && eqH (comHd (comHd a b) a) (comHd a b) && comOk (comHd a b) a && eqH (comHd (comHd a b) b) (comHd a b) && comOk (comHd a b) b && eqH (pro (comHd a b)) (comHd a b) && eqH (comHd a a) (pro a) && comOk a a &&
    ((comHd a b).kind == 2 || (comHd a b).kind == 3) && ((pro a).kind == 2 || (pro a).kind == 3)
theorem chk_all : (A9.all fun a => A9.all fun b => chk a b) = true := by kernel_rfl
structure Chk (a b : Hd) : Prop where
  ok : comOk a b = true
  sym : comHd b a = comHd a b
  left : comHd (comHd a b) a = comHd a b
  lok : comOk (comHd a b) a = true
  right : comHd (comHd a b) b = comHd a b
  rok : comOk (comHd a b) b = true
  pro' : pro (comHd a b) = comHd a b
  self : comHd a a = pro a
  sok : comOk a a = true
  kind : (comHd a b).kind = 2 ∨ (comHd a b).kind = 3
  pk : (pro a).kind = 2 ∨ (pro a).kind = 3
theorem chk_of {a b : Hd} (ha : a ∈ A9) (hb : b ∈ A9) : Chk a b := by
  have h := List.all_eq_true.1 (List.all_eq_true.1 chk_all a ha) b hb
  simp only [chk, Bool.and_eq_true, Bool.or_eq_true, beq_iff_eq] at h
  obtain ⟨⟨⟨⟨⟨⟨⟨⟨⟨⟨h1, h2⟩, h3⟩, h4⟩, h5⟩, h6⟩, h7⟩, h8⟩, h9⟩, h10⟩, h11⟩ := h
  exact ⟨h1, (eqH_eq h2).symm, eqH_eq h3, h4, eqH_eq h5, h6, eqH_eq h7, eqH_eq h8, h9, h10, h11⟩
theorem com_not {a b : Hd} (h : comOk a b = false) : comHd a b = Hd.zero := by
  unfold comOk at h
  unfold comHd
  rw [h]
  rfl
theorem comOk_sym (a b : Hd) : comOk b a = comOk a b := Bool.and_comm _ _
theorem comOk_A9 (zs ys : Nat → Int) (n m : Nat) (h : comOk (one zs n).h (one ys m).h = true) : Chk (one zs n).h (one ys m).h := by
  unfold comOk at h
  rw [Bool.and_eq_true] at h
  exact chk_of (mkT_arith zs n 61 0 h.1) (mkT_arith ys m 61 0 h.2)
end Go.Proofs.YteiomcbphbbpkaaDoor
