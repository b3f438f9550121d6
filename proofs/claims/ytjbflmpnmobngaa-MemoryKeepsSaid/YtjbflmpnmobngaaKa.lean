/- What was stored is loaded again: the plain facts. -/
import Derived.Test.YtjbflmpnmobngaaMy
namespace Go.Proofs.Ytjbflmpnmobngaa
set_option linter.unusedSimpArgs false
set_option linter.unusedVariables false
open Go.RowKit

def byteV (x : Int) : Int × Int × Int := if allB (fun _ => x) 0 1 = true then valueOfL 2 (accN (fun _ => x) 0 1) else (0, 0, 0)
theorem reach_in (S : Int → Option BS) (c n b : Int) (s : BS) (hs : S b = some s) (hg : goesB s c n = true) : reachS S c 4 n b = some (s, (wrap64 n).toNat) := by
  unfold reachS; rw [if_pos rfl, hs]; simp only [hg, if_true]
theorem wrap_small (i : Nat) (h : i < 64) : wrap64 (i : Int) = i := by unfold wrap64; omega
theorem goes_byte (s : BS) (i : Nat) (h : i < 64) (hi : (i : Int) < s.sz) : goesB s 2 i = true := by
  unfold goesB
  rw [wrap_small i h]
  simp [sizeL]
  omega
theorem load_byte (S : Int → Option BS) (s : BS) (hs : S 1 = some s) (i : Nat) (h : i < 64) (hi : (i : Int) < s.sz) : loadS S 2 4 i 1 = (byteV (s.cell i), true) := by
  unfold loadS
  rw [reach_in S 2 i 1 s hs (goes_byte s i h hi), wrap_small i h]
  simp only [Int.toNat_natCast]
  rw [show (sizeL 2).toNat = 1 from rfl, if_neg (by decide)]
  unfold byteV
  simp only
  rw [allB_shift s.cell (fun _ => s.cell i) i 0 1 (fun j hj => by congr 1; omega), accN_shift s.cell (fun _ => s.cell i) i 0 1 (fun j hj => by congr 1; omega)]
  split <;> rfl
/-- Cells outside stay. -/
theorem storeB_cell (s : BS) (c : Int) (off : Nat) (k' n' b' : Int) (j : Nat) (hj : j < off ∨ off + (sizeL c).toNat ≤ j) (h4 : k' = 4 → (sizeL c).toNat = 8) : (storeB s c off k' n' b').cell j = s.cell j := by
  unfold storeB
  split
  · simp only [emptyC]; rw [if_neg (by omega)]
  · split
    · have := h4 (by assumption)
      simp only [emptyC]; rw [if_neg (by omega)]
    · simp only [putC]; rw [if_neg (by omega)]
/-- The block as it stands while it is filled. -/
def Fill (S : Int → Option BS) (z : Int) : Prop := ∃ s, S 1 = some s ∧ s.sz = z ∧ s.fx = false
def cellS (S : Int → Option BS) (i : Nat) : Int := match S 1 with | none => 0 | some s => s.cell i
theorem Fill.load {S : Int → Option BS} {z : Int} (h : Fill S z) (i : Nat) (hi : i < 64) (hz : (i : Int) < z) : loadS S 2 4 i 1 = (byteV (cellS S i), true) := by
  obtain ⟨s, hs, rfl, _⟩ := h
  rw [load_byte S s hs i hi hz]; simp [cellS, hs]
theorem Fill.put {S : Int → Option BS} {z : Int} (h : Fill S z) (i : Nat) (hi : i < 64) (hz : (i : Int) < z) (f : Int) :
    (storeS S 2 4 i 1 1 f 0).1 = true ∧ Fill (storeS S 2 4 i 1 1 f 0).2 z ∧ ∀ j, j ≠ i → cellS (storeS S 2 4 i 1 1 f 0).2 j = cellS S j := by
  obtain ⟨s, hs, rfl, hf⟩ := h
  have e : storeS S 2 4 i 1 1 f 0 = (true, putS S 1 (storeB s 2 i 1 f 0)) := by
    unfold storeS
    rw [reach_in S 2 i 1 s hs (goes_byte s i hi hz), wrap_small i hi]
    simp [hf, show fitsL 2 1 = true from rfl]
  rw [e]
  refine ⟨rfl, ⟨_, by simp [putS], (storeB_sz s 2 i 1 f 0).1, (storeB_sz s 2 i 1 f 0).2.trans hf⟩, fun j hj => ?_⟩
  simp only [cellS, putS, if_pos, hs]
  exact storeB_cell s 2 i 1 f 0 j (by rw [show (sizeL 2).toNat = 1 from rfl]; omega) (by omega)
/-- Where an access lies, whether it is stored there. -/
def canS (S : Int → Option BS) (c U : Int) : Bool := (reachS S c 4 U 1).isSome
theorem load_can (S : Int → Option BS) (c U : Int) : (loadS S c 4 U 1).2 = canS S c U := by
  unfold loadS canS
  cases reachS S c 4 U 1 with
  | none => rfl
  | some p =>
    obtain ⟨s, off⟩ := p
    simp only [Option.isSome_some]
    split
    · rfl
    · split <;> rfl
theorem reach_fx {S : Int → Option BS} {z : Int} (h : Fill S z) {c U : Int} {s : BS} {off : Nat} (hr : reachS S c 4 U 1 = some (s, off)) : s.fx = false ∧ s.sz = z ∧ S 1 = some s := by
  have hh := hit_of hr
  obtain ⟨t, ht, rfl, hf⟩ := h
  have : t = s := by have := hh.hs; rw [ht] at this; injection this
  subst this
  exact ⟨hf, rfl, ht⟩
theorem store_can {S : Int → Option BS} {z : Int} (h : Fill S z) (c U k' n' b' : Int) : (storeS S c 4 U 1 k' n' b').1 = (canS S c U && fitsL c k') := by
  unfold storeS canS
  cases hr : reachS S c 4 U 1 with
  | none => rfl
  | some p =>
    obtain ⟨s, off⟩ := p
    have hf := (reach_fx h hr).1
    cases hx : fitsL c k' <;> simp [hf]
theorem store_not {S : Int → Option BS} (c U k' n' b' : Int) (hv : (storeS S c 4 U 1 k' n' b').1 = false) : (storeS S c 4 U 1 k' n' b').2 = S := by
  unfold storeS at hv ⊢
  split
  · rfl
  · rename_i hr
    rw [hr] at hv
    simp only at hv ⊢
    split
    · rfl
    · rename_i hn
      rw [if_neg hn] at hv
      cases hv
/-- What a store leaves, where it is done. -/
theorem store_yes {S : Int → Option BS} {z : Int} (h : Fill S z) (c U k' n' b' : Int) (hv : (storeS S c 4 U 1 k' n' b').1 = true) :
    ∃ s off, reachS S c 4 U 1 = some (s, off) ∧ S 1 = some s ∧ s.sz = z ∧ s.fx = false ∧ fitsL c k' = true ∧ (storeS S c 4 U 1 k' n' b').2 = putS S 1 (storeB s c off k' n' b') := by
  cases hr : reachS S c 4 U 1 with
  | none => rw [storeS, hr] at hv; cases hv
  | some p =>
    obtain ⟨s, off⟩ := p
    obtain ⟨hf, hz, hs⟩ := reach_fx h hr
    have hc := store_can h c U k' n' b'
    rw [hv] at hc
    have hft : fitsL c k' = true := by
      cases hx : fitsL c k' with
      | true => rfl
      | false => rw [hx] at hc; simp at hc
    exact ⟨s, off, rfl, hs, hz, hf, hft, by simp [storeS, hr, hf, hft]⟩
theorem store_fill {S : Int → Option BS} {z : Int} (h : Fill S z) (c U k' n' b' : Int) : Fill (storeS S c 4 U 1 k' n' b').2 z := by
  cases hv : (storeS S c 4 U 1 k' n' b').1 with
  | false => rw [store_not c U k' n' b' hv]; exact h
  | true =>
    obtain ⟨s, off, hr, hs, hz, hf, hft, e⟩ := store_yes h c U k' n' b' hv
    rw [e]
    exact ⟨_, by simp [putS], (storeB_sz s c off k' n' b').1.trans hz, (storeB_sz s c off k' n' b').2.trans hf⟩
theorem fits_8 {c k' : Int} (h : fitsL c k' = true) (h4 : k' = 4) : (sizeL c).toNat = 8 := by
  subst h4
  rw [fits4 c h]; rfl
/-- A byte that doesn't belong to what is stored stays as it was. -/
theorem store_apart {S : Int → Option BS} {z : Int} (h : Fill S z) (c U k' n' b' : Int) (j : Nat) (hj : (storeS S c 4 U 1 k' n' b').1 = true → (j : Int) < wrap64 U ∨ wrap64 U + sizeL c ≤ j) :
    cellS (storeS S c 4 U 1 k' n' b').2 j = cellS S j := by
  cases hv : (storeS S c 4 U 1 k' n' b').1 with
  | false => rw [store_not c U k' n' b' hv]
  | true =>
    obtain ⟨s, off, hr, hs, hz, hf, hft, e⟩ := store_yes h c U k' n' b' hv
    have hh := hit_of hr
    have hj' := hj hv
    have ho := hh.of
    have hg : (off : Int) = wrap64 U := by
      unfold reachS at hr
      rw [if_pos rfl, hs] at hr
      simp only at hr
      split at hr
      · rename_i hg
        unfold goesB at hg
        simp only [Bool.and_eq_true, decide_eq_true_eq] at hg
        omega
      · cases hr
    rw [e]
    simp only [cellS, putS, if_pos, hs]
    refine storeB_cell s c off k' n' b' j ?_ (fits_8 hft)
    have := sizeL_cases c
    omega

/-- A right value of a kind. -/
def RightV (k n b : Int) : Prop := (k = 0 → n = 0 ∧ b = 0) ∧ (k = 1 → n < 4294967296 ∧ b = 0) ∧ (k = 2 → b = 0) ∧ (k = 3 → b = 0)
/-- What the statement makes of the value that was stored, by the chunk. -/
def extL (c k n b : Int) : Int × Int × Int :=
  if k = 0 then (0, 0, 0)
  else if c = 1 then (1, IntKind.u32.wrap (IntKind.i8.wrap n), 0) else if c = 2 then (1, n % 256, 0) else if c = 3 then (1, IntKind.u32.wrap (IntKind.i16.wrap n), 0) else if c = 4 then (1, n % 65536, 0) else (k, n, b)
theorem chunk_cases' (c : Int) : c = 1 ∨ c = 2 ∨ c = 3 ∨ c = 4 ∨ c = 5 ∨ c = 6 ∨ c = 7 ∨ sizeL c = 0 := by
  unfold sizeL; repeat' split
  all_goals omega
theorem fits_cases {c k : Int} (h : fitsL c k = true) (hs : sizeL c ≠ 0) : k = 0 ∨ (k = 4 ∧ c = 6) ∨ (c = 1 ∧ k = 1) ∨ (c = 2 ∧ k = 1) ∨ (c = 3 ∧ k = 1) ∨ (c = 4 ∧ k = 1) ∨ (c = 5 ∧ k = 1) ∨ (c = 6 ∧ k = 2) ∨ (c = 7 ∧ k = 3) := by
  unfold fitsL at h
  simp only [Bool.or_eq_true, beq_iff_eq, Bool.and_eq_true] at h
  rcases h with (h | h) | h
  · exact Or.inl h
  · rcases chunk_cases' c with rfl | rfl | rfl | rfl | rfl | rfl | rfl | q
    · simp [kindL] at h; simp [h]
    · simp [kindL] at h; simp [h]
    · simp [kindL] at h; simp [h]
    · simp [kindL] at h; simp [h]
    · simp [kindL] at h; simp [h]
    · simp [kindL] at h; simp [h]
    · simp [kindL] at h; simp [h]
    · exact absurd q hs
  · exact Or.inr (Or.inl h)
theorem put_num (cell : Nat → Int) (off m : Nat) (hm : m ≤ 8) (n : Int) (h0 : 0 ≤ n) (h1 : n < 18446744073709551616) : accN (putC cell off m n) off m = n % 2 ^ (8 * m) ∧ allB (putC cell off m n) off m = true := by
  obtain ⟨X, rfl⟩ : ∃ X : Nat, n = X := ⟨n.toNat, by omega⟩
  have hg : ∀ i, i < m → putC cell off m (X : Int) (off + i) = byteN (X : Int) i := fun i hi => by
    unfold putC; rw [if_pos (by omega)]; congr 1; omega
  exact ⟨by rw [accN_put X (by omega) _ _ m hm hg]; simp, allB_put X _ _ m hg⟩
theorem empty_none (cell : Nat → Int) (off m : Nat) (hm : 0 < m) : allB (emptyC cell off m) off m = false := by
  refine allB_false _ _ m 0 hm ?_
  unfold emptyC; rw [if_pos (by omega)]
theorem load_stored {S : Int → Option BS} {z : Int} (h : Fill S z) (c U k' n' b' : Int) (h0 : 0 ≤ n') (h1 : n' < 18446744073709551616) (hR : RightV k' n' b') (hv : (storeS S c 4 U 1 k' n' b').1 = true) :
    loadS (storeS S c 4 U 1 k' n' b').2 c 4 U 1 = (extL c k' n' b', true) := by
  obtain ⟨s, off, hr, hs, hz, hf, hft, e⟩ := store_yes h c U k' n' b' hv
  have hh := hit_of hr
  have hS0 : sizeL c ≠ 0 := by have := hh.c; have := hh.m0; omega
  have hr2 : reachS (putS S 1 (storeB s c off k' n' b')) c 4 U 1 = some (storeB s c off k' n' b', off) := by
    unfold reachS at hr ⊢
    rw [if_pos rfl, hs] at hr
    simp only at hr
    rw [if_pos rfl]
    simp only [putS, if_pos]
    split at hr
    · rename_i hg
      have : goesB (storeB s c off k' n' b') c U = true := by
        unfold goesB at hg ⊢; rw [(storeB_sz s c off k' n' b').1]; exact hg
      rw [if_pos this]
      injection hr with hr
      rw [(Prod.mk.inj hr).2]
    · cases hr
  rw [e, loadS, hr2]
  simp only
  have hm0 := hh.m0
  have hm8 := hh.m8
  have h8 : (off : Int) - (off : Int) % 8 = (off : Int) ∨ sizeL c ≠ 8 := by
    by_cases q : sizeL c = 8
    · left
      unfold reachS at hr
      rw [if_pos rfl, hs] at hr
      simp only at hr
      split at hr
      · rename_i hg
        injection hr with hr
        have ho := (Prod.mk.inj hr).2
        unfold goesB at hg
        simp only [Bool.and_eq_true, decide_eq_true_eq, beq_iff_eq] at hg
        obtain ⟨⟨⟨_, g1⟩, g2⟩, _⟩ := hg
        rw [q] at g2
        omega
      · cases hr
    · right; exact q
  rcases fits_cases hft hS0 with rfl | ⟨rfl, rfl⟩ | ⟨rfl, rfl⟩ | ⟨rfl, rfl⟩ | ⟨rfl, rfl⟩ | ⟨rfl, rfl⟩ | ⟨rfl, rfl⟩ | ⟨rfl, rfl⟩ | ⟨rfl, rfl⟩
  · simp only [storeB, if_pos, extL]
    rw [empty_none s.cell off _ hm0]
    by_cases c6 : c = 6
    · subst c6
      rw [if_pos rfl, show delP s.ptr ((off : Int) - (off : Int) % 8) (off : Int) = none by unfold delP; rw [if_pos]; rcases h8 with q | q; exact q.symm; exact absurd rfl q]
      simp
    · rw [if_neg c6]; simp
  · simp [storeB, extL, putP]
  · obtain ⟨e1, e2⟩ := put_num s.cell off (sizeL 1).toNat (by decide) n' h0 h1
    simp [storeB, extL, e1, e2]
    simp [valueOfL, sizeL, IntKind.wrap, IntKind.bits, IntKind.signed]
  · obtain ⟨e1, e2⟩ := put_num s.cell off (sizeL 2).toNat (by decide) n' h0 h1
    simp [storeB, extL, e1, e2]
    simp [valueOfL, sizeL, wrap32]
    omega
  · obtain ⟨e1, e2⟩ := put_num s.cell off (sizeL 3).toNat (by decide) n' h0 h1
    simp [storeB, extL, e1, e2]
    simp [valueOfL, sizeL, IntKind.wrap, IntKind.bits, IntKind.signed]
  · obtain ⟨e1, e2⟩ := put_num s.cell off (sizeL 4).toNat (by decide) n' h0 h1
    simp [storeB, extL, e1, e2]
    simp [valueOfL, sizeL, wrap32]
    omega
  · obtain ⟨e1, e2⟩ := put_num s.cell off (sizeL 5).toNat (by decide) n' h0 h1
    obtain ⟨r1, r2⟩ := hR.2.1 rfl
    simp [storeB, extL, e1, e2]
    simp [valueOfL, sizeL, wrap32]
    omega
  · obtain ⟨e1, e2⟩ := put_num s.cell off (sizeL 6).toNat (by decide) n' h0 h1
    have r := hR.2.2.1 rfl
    have hd : delP s.ptr ((off : Int) - (off : Int) % 8) (off : Int) = none := by unfold delP; rw [if_pos]; rcases h8 with q | q; exact q.symm; exact absurd rfl q
    simp [storeB, extL, e1, e2, hd]
    simp [valueOfL, sizeL, wrap64, IntKind.wrap, IntKind.bits, IntKind.signed]
    omega
  · obtain ⟨e1, e2⟩ := put_num s.cell off (sizeL 7).toNat (by decide) n' h0 h1
    have r := hR.2.2.2 rfl
    simp [storeB, extL, e1, e2]
    simp [valueOfL, sizeL]
    omega
end Go.Proofs.Ytjbflmpnmobngaa
