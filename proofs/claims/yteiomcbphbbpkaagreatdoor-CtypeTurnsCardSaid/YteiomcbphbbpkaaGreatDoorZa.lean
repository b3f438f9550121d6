/- What comes of a value by a conversion's operations, plainly. -/
import Derived.Test.YteiomcbphbbpkaaGreatDoorCq
import Derived.Test.YteiomcbphbbpkaaGreatDoorYo
namespace Go.Proofs.YteiomcbphbbpkaaGreatDoor
set_option linter.unusedSimpArgs false
set_option linter.unusedVariables false
open Go.RowKit

/-- The arithmetic types. -/
def A9 : List Hd := [numHd 1 false, numHd 1 true, numHd 2 false, numHd 2 true, numHd 4 false, numHd 4 true, numHd 8 false, numHd 8 true, hd1 3]
/-- What comes of a value by a row of operations: once one has no meaning the rest is passed over. -/
def TurnR : List Int → (Int × Int × Int) × Bool → (Int × Int × Int) × Bool → Prop
  | [], p, q => q = p
  | o :: os, p, q => if p.2 = true then ∃ t : Nat, TurnR os (mach.eval1L o p.1.1 p.1.2.1 t) q else TurnR os p q
theorem turn_no : ∀ (os : List Int) (v : Int × Int × Int) (q : (Int × Int × Int) × Bool), TurnR os (v, false) q → q = (v, false)
  | [], v, q, h => h
  | o :: os, v, q, h => by
    unfold TurnR at h
    rw [if_neg (by simp)] at h
    exact turn_no os v q h
theorem turn_cons {o : Int} {os : List Int} {k x b : Int} {q : (Int × Int × Int) × Bool} (h : TurnR (o :: os) ((k, x, b), true) q) : ∃ t : Nat, TurnR os (mach.eval1L o k x t) q := by
  unfold TurnR at h
  rw [if_pos rfl] at h
  exact h
theorem turn_nil {p q : (Int × Int × Int) × Bool} (h : TurnR [] p q) : q = p := h
open mach in
theorem e80 (x : Int) (t : Nat) : eval1L 80 1 x t = ((1, IntKind.i8.wrap x % 4294967296, 0), true) := by simp [eval1L, show shapeL 80 = (1, 0, 1) by decide, bits1L, answerL, extendL]
open mach in
theorem e81 (x : Int) (t : Nat) : eval1L 81 1 x t = ((1, x % 256, 0), true) := by simp [eval1L, show shapeL 81 = (1, 0, 1) by decide, bits1L, answerL, extendL]
open mach in
theorem e82 (x : Int) (t : Nat) : eval1L 82 1 x t = ((1, IntKind.i16.wrap x % 4294967296, 0), true) := by simp [eval1L, show shapeL 82 = (1, 0, 1) by decide, bits1L, answerL, extendL]
open mach in
theorem e83 (x : Int) (t : Nat) : eval1L 83 1 x t = ((1, IntKind.u64.wrap (IntKind.u16.wrap x), 0), true) := by simp [eval1L, show shapeL 83 = (1, 0, 1) by decide, bits1L, answerL, extendL]
open mach in
theorem e84 (x : Int) (t : Nat) : eval1L 84 1 x t = ((2, IntKind.u64.wrap (wrap32 x), 0), true) := by simp [eval1L, show shapeL 84 = (1, 0, 2) by decide, bits1L, answerL, extendL]
open mach in
theorem e85 (x : Int) (t : Nat) : eval1L 85 1 x t = ((2, x % 4294967296, 0), true) := by simp [eval1L, show shapeL 85 = (1, 0, 2) by decide, bits1L, answerL, extendL]
open mach in
theorem e86 (x : Int) (t : Nat) : eval1L 86 2 x t = ((1, x % 4294967296, 0), true) := by simp [eval1L, show shapeL 86 = (2, 0, 1) by decide, bits1L, answerL, extendL]
open mach in
theorem e87 (x : Int) (t : Nat) : ∃ y, eval1L 87 1 x t = ((3, y, 0), true) := ⟨_, by simp only [eval1L, show shapeL 87 = (1, 0, 3) by decide, bits1L, answerL]; rfl⟩
open mach in
theorem e88 (x : Int) (t : Nat) : ∃ y, eval1L 88 1 x t = ((3, y, 0), true) := ⟨_, by simp only [eval1L, show shapeL 88 = (1, 0, 3) by decide, bits1L, answerL]; rfl⟩
open mach in
theorem e89 (x : Int) (t : Nat) : ∃ y, eval1L 89 2 x t = ((3, y, 0), true) := ⟨_, by simp only [eval1L, show shapeL 89 = (2, 0, 3) by decide, bits1L, answerL]; rfl⟩
open mach in
theorem e90 (x : Int) (t : Nat) : ∃ y, eval1L 90 2 x t = ((3, y, 0), true) := ⟨_, by simp only [eval1L, show shapeL 90 = (2, 0, 3) by decide, bits1L, answerL]; rfl⟩
open mach in
theorem cutA (o r x : Int) (t : Nat) (h : eval1L o 3 x t = answerL r (cutL o t).1 (cutL o t).2) : (∃ y, eval1L o 3 x t = ((r, y, 0), true)) ∨ eval1L o 3 x t = ((0, 0, 0), false) := by
  rw [h]
  unfold answerL
  cases (cutL o t).2
  · exact Or.inr rfl
  · exact Or.inl ⟨_, rfl⟩
open mach in
theorem e91 (x : Int) (t : Nat) : (∃ y, eval1L 91 3 x t = ((1, y, 0), true)) ∨ eval1L 91 3 x t = ((0, 0, 0), false) := cutA 91 1 x t (by simp only [eval1L, show shapeL 91 = (3, 0, 1) by decide, bits1L]; rfl)
open mach in
theorem e92 (x : Int) (t : Nat) : (∃ y, eval1L 92 3 x t = ((1, y, 0), true)) ∨ eval1L 92 3 x t = ((0, 0, 0), false) := cutA 92 1 x t (by simp only [eval1L, show shapeL 92 = (3, 0, 1) by decide, bits1L]; rfl)
open mach in
theorem e93 (x : Int) (t : Nat) : (∃ y, eval1L 93 3 x t = ((2, y, 0), true)) ∨ eval1L 93 3 x t = ((0, 0, 0), false) := cutA 93 2 x t (by simp only [eval1L, show shapeL 93 = (3, 0, 2) by decide, bits1L]; rfl)
open mach in
theorem e94 (x : Int) (t : Nat) : (∃ y, eval1L 94 3 x t = ((2, y, 0), true)) ∨ eval1L 94 3 x t = ((0, 0, 0), false) := cutA 94 2 x t (by simp only [eval1L, show shapeL 94 = (3, 0, 2) by decide, bits1L]; rfl)
/-- The whole numbers' types: size and sign. -/
def I8 : List (Int × Bool) := [(1, false), (1, true), (2, false), (2, true), (4, false), (4, true), (8, false), (8, true)]
def kd (s : Int) : Int := if s = 8 then 2 else 1
/-- A Long cut to a type; a type's value as a Long. -/
def cutI (s : Int) (u : Bool) (x : Int) : Int :=
  if s = 8 then x else if s = 4 then x % 4294967296
  else if s = 2 then (if u then IntKind.u64.wrap (IntKind.u16.wrap (x % 4294967296)) else IntKind.i16.wrap (x % 4294967296) % 4294967296)
  else (if u then x % 4294967296 % 256 else IntKind.i8.wrap (x % 4294967296) % 4294967296)
def backI (s : Int) (u : Bool) (y : Int) : Int := if s = 8 then y else if u then y % 4294967296 else IntKind.u64.wrap (wrap32 y)
def holdsI (s : Int) (u : Bool) (n : Int) : Prop :=
  if s = 8 then (u = true → 0 ≤ n) else if u = true then 0 ≤ n ∧ n < 2 ^ (8 * s).toNat else - 2 ^ (8 * s - 1).toNat ≤ n ∧ n < 2 ^ (8 * s - 1).toNat
theorem back_cut {s : Int} {u : Bool} (h : (s, u) ∈ I8) (x : Int) (hx : 0 ≤ x ∧ x < 18446744073709551616) (hh : holdsI s u (wrap64 x)) : backI s u (cutI s u x) = x := by
  simp only [I8, List.mem_cons, Prod.mk.injEq, List.not_mem_nil, or_false] at h
  rcases h with ⟨rfl, rfl⟩ | ⟨rfl, rfl⟩ | ⟨rfl, rfl⟩ | ⟨rfl, rfl⟩ | ⟨rfl, rfl⟩ | ⟨rfl, rfl⟩ | ⟨rfl, rfl⟩ | ⟨rfl, rfl⟩ <;> simp [holdsI, backI, cutI, IntKind.wrap, IntKind.bits, IntKind.signed, wrap32, wrap64] at hh ⊢ <;> omega
/-- A whole number's value: its kind and its bits in their bounds. -/
def Fits (s : Int) (p : Int × Int × Int) : Prop := p.1 = kd s ∧ p.2.2 = 0 ∧ 0 ≤ p.2.1 ∧ p.2.1 < (if s = 8 then 18446744073709551616 else 4294967296)
theorem cut_turn {s : Int} {u : Bool} (h : (s, u) ∈ I8) (x : Int) (hx : 0 ≤ x ∧ x < 18446744073709551616) {q : (Int × Int × Int) × Bool} (hq : TurnR (wholeO 8 false s u) ((2, x, 0), true) q) : q = ((kd s, cutI s u x, 0), true) := by
  simp only [I8, List.mem_cons, Prod.mk.injEq, List.not_mem_nil, or_false] at h
  rcases h with ⟨rfl, rfl⟩ | ⟨rfl, rfl⟩ | ⟨rfl, rfl⟩ | ⟨rfl, rfl⟩ | ⟨rfl, rfl⟩ | ⟨rfl, rfl⟩ | ⟨rfl, rfl⟩ | ⟨rfl, rfl⟩
  · obtain ⟨t, hq⟩ := turn_cons (o := 86) (k := 2) hq; rw [e86] at hq; obtain ⟨t, hq⟩ := turn_cons (o := 80) (k := 1) hq; rw [e80] at hq; exact turn_nil hq
  · obtain ⟨t, hq⟩ := turn_cons (o := 86) (k := 2) hq; rw [e86] at hq; obtain ⟨t, hq⟩ := turn_cons (o := 81) (k := 1) hq; rw [e81] at hq; exact turn_nil hq
  · obtain ⟨t, hq⟩ := turn_cons (o := 86) (k := 2) hq; rw [e86] at hq; obtain ⟨t, hq⟩ := turn_cons (o := 82) (k := 1) hq; rw [e82] at hq; exact turn_nil hq
  · obtain ⟨t, hq⟩ := turn_cons (o := 86) (k := 2) hq; rw [e86] at hq; obtain ⟨t, hq⟩ := turn_cons (o := 83) (k := 1) hq; rw [e83] at hq; exact turn_nil hq
  · obtain ⟨t, hq⟩ := turn_cons (o := 86) (k := 2) hq; rw [e86] at hq; exact turn_nil hq
  · obtain ⟨t, hq⟩ := turn_cons (o := 86) (k := 2) hq; rw [e86] at hq; exact turn_nil hq
  · exact turn_nil hq
  · exact turn_nil hq
theorem back_turn {s : Int} {u : Bool} (h : (s, u) ∈ I8) (y : Int) {q : (Int × Int × Int) × Bool} (hq : TurnR (wholeO s u 8 false) ((kd s, y, 0), true) q) : q = ((2, backI s u y, 0), true) := by
  simp only [I8, List.mem_cons, Prod.mk.injEq, List.not_mem_nil, or_false] at h
  rcases h with ⟨rfl, rfl⟩ | ⟨rfl, rfl⟩ | ⟨rfl, rfl⟩ | ⟨rfl, rfl⟩ | ⟨rfl, rfl⟩ | ⟨rfl, rfl⟩ | ⟨rfl, rfl⟩ | ⟨rfl, rfl⟩
  · obtain ⟨t, hq⟩ := turn_cons (o := 84) (k := 1) hq; rw [e84] at hq; exact turn_nil hq
  · obtain ⟨t, hq⟩ := turn_cons (o := 85) (k := 1) hq; rw [e85] at hq; exact turn_nil hq
  · obtain ⟨t, hq⟩ := turn_cons (o := 84) (k := 1) hq; rw [e84] at hq; exact turn_nil hq
  · obtain ⟨t, hq⟩ := turn_cons (o := 85) (k := 1) hq; rw [e85] at hq; exact turn_nil hq
  · obtain ⟨t, hq⟩ := turn_cons (o := 84) (k := 1) hq; rw [e84] at hq; exact turn_nil hq
  · obtain ⟨t, hq⟩ := turn_cons (o := 85) (k := 1) hq; rw [e85] at hq; exact turn_nil hq
  · exact turn_nil hq
  · exact turn_nil hq
theorem small_turn {s : Int} {u : Bool} (x : Int) (hx : 0 ≤ x ∧ x < 4294967296) {q : (Int × Int × Int) × Bool} (hq : TurnR (smallO s u) ((1, x, 0), true) q) : ∃ y, q = ((1, y, 0), true) ∧ 0 ≤ y ∧ y < 4294967296 := by
  unfold smallO at hq
  split at hq
  · cases u
    · obtain ⟨t, hq⟩ := turn_cons (o := 80) (k := 1) hq
      rw [e80] at hq
      exact ⟨_, turn_nil hq, by omega, by omega⟩
    · obtain ⟨t, hq⟩ := turn_cons (o := 81) (k := 1) hq
      rw [e81] at hq
      exact ⟨_, turn_nil hq, by omega, by omega⟩
  · split at hq
    · cases u
      · obtain ⟨t, hq⟩ := turn_cons (o := 82) (k := 1) hq
        rw [e82] at hq
        exact ⟨_, turn_nil hq, by omega, by omega⟩
      · obtain ⟨t, hq⟩ := turn_cons (o := 83) (k := 1) hq
        rw [e83] at hq
        exact ⟨_, turn_nil hq, by simp [IntKind.wrap, IntKind.bits, IntKind.signed]; omega, by simp [IntKind.wrap, IntKind.bits, IntKind.signed]; omega⟩
    · exact ⟨x, turn_nil hq, hx⟩
theorem kd8 : kd 8 = 2 := rfl
theorem kdn {s : Int} (h : ¬ s = 8) : kd s = 1 := by unfold kd; rw [if_neg h]
/-- A whole number turned into another type is one of that type. -/
theorem whole_turn (s s' : Int) (u u' : Bool) (x : Int) (hx : 0 ≤ x ∧ x < (if s = 8 then 18446744073709551616 else 4294967296)) {q : (Int × Int × Int) × Bool} (hq : TurnR (wholeO s u s' u') ((kd s, x, 0), true) q) :
    ∃ y, q = ((kd s', y, 0), true) ∧ 0 ≤ y ∧ y < (if s' = 8 then 18446744073709551616 else 4294967296) := by
  unfold wholeO at hq
  by_cases h8 : s' = 8
  · subst h8
    rw [if_pos rfl] at hq
    by_cases g8 : s = 8
    · subst g8
      rw [if_pos rfl] at hq hx
      exact ⟨x, turn_nil hq, by rw [if_pos rfl]; exact hx⟩
    · rw [if_neg g8] at hq hx
      rw [kdn g8] at hq
      rw [if_pos rfl]
      cases u
      · obtain ⟨t, hq⟩ := turn_cons (o := 84) (k := 1) hq
        rw [e84] at hq
        exact ⟨_, turn_nil hq, by simp [IntKind.wrap_u64]; omega, by simp [IntKind.wrap_u64]; omega⟩
      · obtain ⟨t, hq⟩ := turn_cons (o := 85) (k := 1) hq
        rw [e85] at hq
        exact ⟨_, turn_nil hq, by omega, by omega⟩
  · rw [if_neg h8] at hq
    rw [kdn h8, if_neg h8]
    by_cases g8 : s = 8
    · subst g8
      rw [if_pos rfl, kd8] at hq
      obtain ⟨t, hq⟩ := turn_cons (o := 86) (k := 2) hq
      rw [e86] at hq
      exact small_turn _ (by omega) hq
    · rw [if_neg g8, kdn g8] at hq
      rw [if_neg g8] at hx
      split at hq
      · exact ⟨x, turn_nil hq, hx⟩
      · exact small_turn _ hx hq
theorem dbl_turn (s : Int) (u : Bool) (x : Int) {q : (Int × Int × Int) × Bool} (hq : TurnR (doubleO s u) ((kd s, x, 0), true) q) : ∃ y, q = ((3, y, 0), true) := by
  unfold doubleO at hq
  by_cases h8 : s = 8
  · subst h8
    rw [if_pos rfl, kd8] at hq
    cases u
    · obtain ⟨t, hq⟩ := turn_cons (o := 89) (k := 2) hq
      obtain ⟨y, hy⟩ := e89 x t
      rw [hy] at hq
      exact ⟨y, turn_nil hq⟩
    · obtain ⟨t, hq⟩ := turn_cons (o := 90) (k := 2) hq
      obtain ⟨y, hy⟩ := e90 x t
      rw [hy] at hq
      exact ⟨y, turn_nil hq⟩
  · rw [if_neg h8, kdn h8] at hq
    split at hq
    · cases u
      · obtain ⟨t, hq⟩ := turn_cons (o := 87) (k := 1) hq
        obtain ⟨y, hy⟩ := e87 x t
        rw [hy] at hq
        exact ⟨y, turn_nil hq⟩
      · obtain ⟨t, hq⟩ := turn_cons (o := 88) (k := 1) hq
        obtain ⟨y, hy⟩ := e88 x t
        rw [hy] at hq
        exact ⟨y, turn_nil hq⟩
    · obtain ⟨t, hq⟩ := turn_cons (o := 87) (k := 1) hq
      obtain ⟨y, hy⟩ := e87 x t
      rw [hy] at hq
      exact ⟨y, turn_nil hq⟩
theorem small_any {s : Int} {u : Bool} (x : Int) {q : (Int × Int × Int) × Bool} (hq : TurnR (smallO s u) ((1, x, 0), true) q) : ∃ y, q = ((1, y, 0), true) := by
  unfold smallO at hq
  split at hq
  · cases u
    · obtain ⟨t, hq⟩ := turn_cons (o := 80) (k := 1) hq
      rw [e80] at hq
      exact ⟨_, turn_nil hq⟩
    · obtain ⟨t, hq⟩ := turn_cons (o := 81) (k := 1) hq
      rw [e81] at hq
      exact ⟨_, turn_nil hq⟩
  · split at hq
    · cases u
      · obtain ⟨t, hq⟩ := turn_cons (o := 82) (k := 1) hq
        rw [e82] at hq
        exact ⟨_, turn_nil hq⟩
      · obtain ⟨t, hq⟩ := turn_cons (o := 83) (k := 1) hq
        rw [e83] at hq
        exact ⟨_, turn_nil hq⟩
    · exact ⟨x, turn_nil hq⟩
theorem cutd_turn (s : Int) (u : Bool) (x : Int) {q : (Int × Int × Int) × Bool} (hq : TurnR (cutO s u) ((3, x, 0), true) q) : (∃ y, q = ((kd s, y, 0), true)) ∨ q = ((0, 0, 0), false) := by
  unfold cutO at hq
  by_cases h8 : s = 8
  · subst h8
    rw [if_pos rfl] at hq
    cases u
    · obtain ⟨t, hq⟩ := turn_cons (o := 93) (k := 3) hq
      rcases e93 x t with ⟨y, hy⟩ | hy
      · rw [hy] at hq; exact Or.inl ⟨y, turn_nil hq⟩
      · rw [hy] at hq; exact Or.inr (turn_nil hq)
    · obtain ⟨t, hq⟩ := turn_cons (o := 94) (k := 3) hq
      rcases e94 x t with ⟨y, hy⟩ | hy
      · rw [hy] at hq; exact Or.inl ⟨y, turn_nil hq⟩
      · rw [hy] at hq; exact Or.inr (turn_nil hq)
  · rw [if_neg h8] at hq
    rw [kdn h8]
    split at hq
    · cases u
      · obtain ⟨t, hq⟩ := turn_cons (o := 91) (k := 3) hq
        rcases e91 x t with ⟨y, hy⟩ | hy
        · rw [hy] at hq; exact Or.inl ⟨y, turn_nil hq⟩
        · rw [hy] at hq; exact Or.inr (turn_nil hq)
      · obtain ⟨t, hq⟩ := turn_cons (o := 92) (k := 3) hq
        rcases e92 x t with ⟨y, hy⟩ | hy
        · rw [hy] at hq; exact Or.inl ⟨y, turn_nil hq⟩
        · rw [hy] at hq; exact Or.inr (turn_nil hq)
    · obtain ⟨t, hq⟩ := turn_cons (o := 91) (k := 3) hq
      rcases e91 x t with ⟨y, hy⟩ | hy
      · rw [hy] at hq; exact Or.inl (small_any y hq)
      · rw [hy] at hq; exact Or.inr (turn_no _ _ _ hq)
/-- The operations between two arithmetic types. -/
theorem ops_nn_all : (I8.all fun p => I8.all fun r => (opsL (numHd p.1 p.2) (numHd r.1 r.2) == wholeO p.1 p.2 r.1 r.2) && opsOk (numHd p.1 p.2) (numHd r.1 r.2)) = true := by kernel_rfl
theorem ops_nd_all : (I8.all fun p => (opsL (numHd p.1 p.2) (hd1 3) == doubleO p.1 p.2) && opsOk (numHd p.1 p.2) (hd1 3) && (opsL (hd1 3) (numHd p.1 p.2) == cutO p.1 p.2) && opsOk (hd1 3) (numHd p.1 p.2)) = true := by kernel_rfl
theorem ops_dd : opsL (hd1 3) (hd1 3) = [] ∧ opsOk (hd1 3) (hd1 3) = true := ⟨by kernel_rfl, by kernel_rfl⟩
theorem ops_nn {p r : Int × Bool} (hp : p ∈ I8) (hr : r ∈ I8) : opsL (numHd p.1 p.2) (numHd r.1 r.2) = wholeO p.1 p.2 r.1 r.2 ∧ opsOk (numHd p.1 p.2) (numHd r.1 r.2) = true := by
  have := List.all_eq_true.1 (List.all_eq_true.1 ops_nn_all p hp) r hr
  simp only [Bool.and_eq_true, beq_iff_eq] at this
  exact this
theorem ops_nd {p : Int × Bool} (hp : p ∈ I8) : opsL (numHd p.1 p.2) (hd1 3) = doubleO p.1 p.2 ∧ opsOk (numHd p.1 p.2) (hd1 3) = true ∧ opsL (hd1 3) (numHd p.1 p.2) = cutO p.1 p.2 ∧ opsOk (hd1 3) (numHd p.1 p.2) = true := by
  have := List.all_eq_true.1 ops_nd_all p hp
  simp only [Bool.and_eq_true, beq_iff_eq] at this
  exact ⟨this.1.1.1, this.1.1.2, this.1.2, this.2⟩
theorem a9_cases {h : Hd} (hh : h ∈ A9) : (∃ p ∈ I8, h = numHd p.1 p.2) ∨ h = hd1 3 := by
  simp only [A9, List.mem_cons, List.not_mem_nil, or_false] at hh
  rcases hh with rfl | rfl | rfl | rfl | rfl | rfl | rfl | rfl | rfl
  · exact Or.inl ⟨(1, false), by simp [I8], rfl⟩
  · exact Or.inl ⟨(1, true), by simp [I8], rfl⟩
  · exact Or.inl ⟨(2, false), by simp [I8], rfl⟩
  · exact Or.inl ⟨(2, true), by simp [I8], rfl⟩
  · exact Or.inl ⟨(4, false), by simp [I8], rfl⟩
  · exact Or.inl ⟨(4, true), by simp [I8], rfl⟩
  · exact Or.inl ⟨(8, false), by simp [I8], rfl⟩
  · exact Or.inl ⟨(8, true), by simp [I8], rfl⟩
  · exact Or.inr rfl
end Go.Proofs.YteiomcbphbbpkaaGreatDoor
