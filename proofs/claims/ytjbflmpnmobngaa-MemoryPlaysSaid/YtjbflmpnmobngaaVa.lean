/- The reference's memory, plainly: every byte a cell; what it holds against what the program's memory holds. -/
import Derived.Test.YtjbflmpnmobngaaMw
namespace Go.Proofs.Ytjbflmpnmobngaa
set_option linter.unusedSimpArgs false
set_option linter.unusedVariables false
open Go.RowKit

/-- A block of the reference: of each byte its kind (0, 1, 2) and the byte; the pointers' pieces: the whole pointer and which byte of it. -/
structure RB where
  sz : Nat
  kd : Nat → Nat
  by' : Nat → Nat
  pc : Nat → Option ((Int × Int × Int) × Nat)
  fx : Bool
/-- All eight bytes from g on are one pointer's. -/
def Whole (r : RB) (g : Nat) (v : Int × Int × Int) : Prop := ∀ i, i < 8 → r.kd (g + i) = 2 ∧ r.pc (g + i) = some (v, i)
/-- Two blocks that hold the same. -/
structure Rel (s : BS) (r : RB) : Prop where
  sz : s.sz = r.sz
  fx : s.fx = r.fx
  cl : ∀ o, o < r.sz → (s.cell o ≠ 0 ↔ r.kd o = 1)
  by1 : ∀ o, o < r.sz → r.kd o = 1 → s.cell o = 256 + r.by' o ∧ r.by' o < 256
  pr : ∀ g, g % 8 = 0 → g + 8 ≤ r.sz → ∀ v, s.ptr (g : Int) = some v ↔ Whole r g v
  k2 : ∀ o, r.kd o = 2 → ∃ v i, r.pc o = some (v, i)
/-- A byte's cell is put there. -/
inductive RC where
  | none
  | byte (x : Nat)
  | piece (v : Int × Int × Int) (i : Nat)
def RC.kd : RC → Nat
  | .none => 0
  | .byte _ => 1
  | .piece _ _ => 2
def RC.by' : RC → Nat
  | .byte x => x
  | _ => 0
def setR (r : RB) (o : Nat) (c : RC) : RB :=
  { r with kd := fun x => if x = o then c.kd else r.kd x, by' := fun x => if x = o then c.by' else r.by' x,
           pc := fun x => if x = o then (match c with | .piece v i => some (v, i) | _ => if r.kd o = 2 then none else r.pc o) else r.pc x }
/-- What Store puts at its byte i. -/
def cellR (k n b : Int) (i : Nat) : RC := if k = 0 then .none else if k = 4 then .piece (4, n, b) i else .byte (n / 2 ^ (8 * i) % 256).toNat
def putRB (r : RB) (off : Nat) (k n b : Int) : Nat → RB
  | 0 => r
  | m + 1 => setR (putRB r off k n b m) (off + m) (cellR k n b m)
theorem putRB_sz (r : RB) (off : Nat) (k n b : Int) : ∀ m, (putRB r off k n b m).sz = r.sz ∧ (putRB r off k n b m).fx = r.fx
  | 0 => ⟨rfl, rfl⟩
  | m + 1 => putRB_sz r off k n b m
theorem putRB_out (r : RB) (off : Nat) (k n b : Int) : ∀ m o, ¬ (off ≤ o ∧ o < off + m) → (putRB r off k n b m).kd o = r.kd o ∧ (putRB r off k n b m).by' o = r.by' o ∧ (putRB r off k n b m).pc o = r.pc o
  | 0, o, _ => ⟨rfl, rfl, rfl⟩
  | m + 1, o, h => by
    have ih := putRB_out r off k n b m o (by omega)
    simp only [putRB, setR]
    rw [if_neg (by omega), if_neg (by omega), if_neg (by omega)]
    exact ih
theorem putRB_in (r : RB) (off : Nat) (k n b : Int) : ∀ m i, i < m → (putRB r off k n b m).kd (off + i) = (cellR k n b i).kd ∧ (putRB r off k n b m).by' (off + i) = (cellR k n b i).by' ∧ (∀ v j, cellR k n b i = .piece v j → (putRB r off k n b m).pc (off + i) = some (v, j))
  | 0, i, h => absurd h (by omega)
  | m + 1, i, h => by
    by_cases hi : i = m
    · subst hi
      simp only [putRB, setR, if_true]
      refine ⟨trivial, trivial, fun v j e => ?_⟩
      rw [e]
    · have ih := putRB_in r off k n b m i (by omega)
      simp only [putRB, setR]
      rw [if_neg (by omega), if_neg (by omega), if_neg (by omega)]
      exact ih
theorem piece_of {k n b : Int} {i : Nat} (h : (cellR k n b i).kd = 2) : k = 4 ∧ cellR k n b i = .piece (4, n, b) i := by
  unfold cellR at h ⊢
  split at h
  · cases h
  · rename_i h0
    rw [if_neg h0]
    split at h
    · rename_i h4; exact ⟨h4, by rw [if_pos h4]⟩
    · cases h
/-- A store on both sides. -/
theorem store_rel {s : BS} {r : RB} (h : Rel s r) (c : Int) (off m : Nat) (k n b : Int) (hm : sizeL c = m) (h0 : m ≠ 0) (ha : off % m = 0) (hr : off + m ≤ r.sz) (h4 : k = 4 → c = 6) : Rel (storeB s c off k n b) (putRB r off k n b m) := by
  have hmm : m = 1 ∨ m = 2 ∨ m = 4 ∨ m = 8 := by
    have := sizeL_cases c
    omega
  have htn : (sizeL c).toNat = m := by rw [hm]; simp
  have h46 : k = 4 → m = 8 := fun e => by
    have e6 := h4 e
    subst e6
    have : sizeL 6 = 8 := rfl
    omega
  obtain ⟨q1, q2⟩ := putRB_sz r off k n b m
  have hcell : ∀ o, (storeB s c off k n b).cell o = if off ≤ o ∧ o < off + m then (if k = 0 ∨ k = 4 then 0 else byteN n (o - off)) else s.cell o := fun o => by
    unfold storeB
    by_cases k0 : k = 0
    · rw [if_pos k0]
      simp only [emptyC, htn, k0, true_or, if_true]
    · rw [if_neg k0]
      by_cases k4 : k = 4
      · rw [if_pos k4]
        have := h46 k4
        subst this
        simp only [emptyC, k4, or_true, if_true]
      · rw [if_neg k4]
        simp only [putC, htn, k0, k4, or_self, if_false]
  have hptr : ∀ g : Int, (storeB s c off k n b).ptr g = if k = 4 ∧ g = off then some (4, n, b) else if g = (off : Int) - (off : Int) % 8 then none else s.ptr g := fun g => by
    unfold storeB
    by_cases k0 : k = 0
    · rw [if_pos k0, if_neg (by omega)]
      rfl
    · rw [if_neg k0]
      by_cases k4 : k = 4
      · rw [if_pos k4]
        simp only [putP, delP, k4, true_and]
      · rw [if_neg k4, if_neg (fun e => k4 e.1)]
        rfl
  have hsz : (storeB s c off k n b).sz = s.sz ∧ (storeB s c off k n b).fx = s.fx := by
    unfold storeB
    repeat' split
    all_goals exact ⟨rfl, rfl⟩
  have byp : ∀ x : Int, ∀ i : Nat, byteN x i ≠ 0 ∧ byteN x i = 256 + ((x / 2 ^ (8 * i) % 256).toNat : Int) ∧ (x / 2 ^ (8 * i) % 256).toNat < 256 := fun x i => by
    have h1 : 0 ≤ x / 2 ^ (8 * i) % 256 := Int.emod_nonneg _ (by decide)
    have h2 : x / 2 ^ (8 * i) % 256 < 256 := Int.emod_lt_of_pos _ (by decide)
    unfold byteN
    omega
  have inn : ∀ o, off ≤ o → o < off + m → ∃ i, i < m ∧ o = off + i := fun o h1 h2 => ⟨o - off, by omega, by omega⟩
  refine ⟨by rw [hsz.1, q1]; exact h.sz, by rw [hsz.2, q2]; exact h.fx, fun o ho => ?_, fun o ho hk => ?_, fun g hg hgs v => ?_, fun o hk => ?_⟩
  · rw [q1] at ho
    rw [hcell]
    by_cases hin : off ≤ o ∧ o < off + m
    · rw [if_pos hin]
      obtain ⟨i, hi, rfl⟩ := inn o hin.1 hin.2
      rw [(putRB_in r off k n b m i hi).1, Nat.add_sub_cancel_left]
      unfold cellR
      by_cases k0 : k = 0
      · rw [if_pos (Or.inl k0), if_pos k0]; simp [RC.kd]
      · by_cases k4 : k = 4
        · rw [if_pos (Or.inr k4), if_neg k0, if_pos k4]; simp [RC.kd]
        · rw [if_neg (fun e => e.elim k0 k4), if_neg k0, if_neg k4]
          exact ⟨fun _ => rfl, fun _ => (byp n i).1⟩
    · rw [if_neg hin, (putRB_out r off k n b m o hin).1]
      exact h.cl o ho
  · rw [q1] at ho
    rw [hcell]
    by_cases hin : off ≤ o ∧ o < off + m
    · rw [if_pos hin]
      obtain ⟨i, hi, rfl⟩ := inn o hin.1 hin.2
      obtain ⟨p1, p2, p3⟩ := putRB_in r off k n b m i hi
      rw [p1] at hk
      rw [p2, Nat.add_sub_cancel_left]
      unfold cellR at hk ⊢
      by_cases k0 : k = 0
      · rw [if_pos k0] at hk; cases hk
      · by_cases k4 : k = 4
        · rw [if_neg k0, if_pos k4] at hk; cases hk
        · rw [if_neg (fun e => e.elim k0 k4), if_neg k0, if_neg k4]
          exact (byp n i).2
    · rw [if_neg hin]
      obtain ⟨p1, p2, p3⟩ := putRB_out r off k n b m o hin
      rw [p1] at hk
      rw [p2]
      exact h.by1 o ho hk
  · rw [q1] at hgs
    rw [hptr]
    by_cases hG : (g : Int) = (off : Int) - (off : Int) % 8
    · by_cases k4 : k = 4
      · have m8 := h46 k4
        subst m8
        have hgo : g = off := by omega
        subst hgo
        rw [if_pos ⟨k4, rfl⟩]
        have hw : Whole (putRB r g k n b 8) g (4, n, b) := fun i hi => by
          obtain ⟨p1, p2, p3⟩ := putRB_in r g k n b 8 i hi
          have hc : cellR k n b i = .piece (4, n, b) i := by unfold cellR; rw [if_neg (by omega), if_pos k4]
          exact ⟨by rw [p1, hc]; rfl, p3 _ _ hc⟩
        constructor
        · intro e
          simp only [Option.some.injEq] at e
          rw [← e]
          exact hw
        · intro e
          have e1 := (e 0 (by decide)).2
          rw [(hw 0 (by decide)).2] at e1
          simp only [Option.some.injEq, Prod.mk.injEq] at e1
          obtain ⟨⟨a1, a2, a3⟩, _⟩ := e1
          simp only [Option.some.injEq]
      · rw [if_neg (fun e => k4 e.1), if_pos hG]
        constructor
        · intro e; cases e
        · intro e
          have hi : off - g < 8 := by omega
          have e1 := (e (off - g) hi).1
          have e2 : g + (off - g) = off + 0 := by omega
          rw [e2, (putRB_in r off k n b m 0 (by omega)).1] at e1
          exact absurd (piece_of e1).1 k4
    · have hne : ¬ (k = 4 ∧ (g : Int) = off) := fun e => by
        have m8 := h46 e.1
        subst m8
        omega
      rw [if_neg hne, if_neg hG, h.pr g hg hgs v]
      have hout : ∀ i, i < 8 → ¬ (off ≤ g + i ∧ g + i < off + m) := fun i hi => by
        rcases hmm with rfl | rfl | rfl | rfl <;> omega
      constructor
      · intro e i hi
        obtain ⟨p1, p2, p3⟩ := putRB_out r off k n b m (g + i) (hout i hi)
        rw [p1, p3]
        exact e i hi
      · intro e i hi
        obtain ⟨p1, p2, p3⟩ := putRB_out r off k n b m (g + i) (hout i hi)
        have := e i hi
        rw [p1, p3] at this
        exact this
  · by_cases hin : off ≤ o ∧ o < off + m
    · obtain ⟨i, hi, rfl⟩ := inn o hin.1 hin.2
      obtain ⟨p1, p2, p3⟩ := putRB_in r off k n b m i hi
      rw [p1] at hk
      exact ⟨_, _, p3 _ _ (piece_of hk).2⟩
    · obtain ⟨p1, p2, p3⟩ := putRB_out r off k n b m o hin
      rw [p1] at hk
      rw [p3]
      exact h.k2 o hk
/-- Load's counts over the first m bytes: the bytes, the pieces of the first one's pointer, the number. -/
def cntB (r : RB) (off : Nat) : Nat → Nat
  | 0 => 0
  | m + 1 => cntB r off m + if r.kd (off + m) = 1 then 1 else 0
def P0 (r : RB) (off : Nat) : Int × Int × Int := if r.kd off = 2 then ((r.pc off).getD ((0, 0, 0), 0)).1 else (0, 0, 0)
def isP (r : RB) (off m : Nat) : Bool := decide (r.kd (off + m) = 2) && decide (((r.pc (off + m)).getD ((0, 0, 0), 0)).2 = m) && decide (((r.pc (off + m)).getD ((0, 0, 0), 0)).1 = P0 r off)
def cntP (r : RB) (off : Nat) : Nat → Nat
  | 0 => 0
  | m + 1 => cntP r off m + if isP r off m = true then 1 else 0
def accR (r : RB) (off : Nat) : Nat → Int
  | 0 => 0
  | m + 1 => if r.kd (off + m) = 1 then bits .or .u64 (accR r off m) (IntKind.u64.wrap ((r.by' (off + m) : Int) * 2 ^ (8 * m))) else accR r off m
def loadRB (r : RB) (c : Int) (off m : Nat) : Int × Int × Int := if c = 6 ∧ cntP r off m = 8 then P0 r off else if cntB r off m < m then (0, 0, 0) else valueOfL c (accR r off m)
def orV : Option (Int × Int × Int) → Int × Int × Int → Int × Int × Int
  | some p, _ => p
  | none, d => d
def loadSB (s : BS) (c : Int) (off m : Nat) : Int × Int × Int :=
  orV (if c = 6 then s.ptr (off : Int) else none) (if allB s.cell off m = true then valueOfL c (accN s.cell off m) else (0, 0, 0))
theorem cntB_le (r : RB) (off : Nat) : ∀ m, cntB r off m ≤ m
  | 0 => Nat.le_refl _
  | m + 1 => by
    have := cntB_le r off m
    unfold cntB
    split <;> omega
theorem cntP_le (r : RB) (off : Nat) : ∀ m, cntP r off m ≤ m
  | 0 => Nat.le_refl _
  | m + 1 => by
    have := cntP_le r off m
    unfold cntP
    split <;> omega
theorem cntB_all (r : RB) (off : Nat) : ∀ m, cntB r off m = m ↔ ∀ i, i < m → r.kd (off + i) = 1
  | 0 => by simp [cntB]
  | m + 1 => by
    have ih := cntB_all r off m
    have hle := cntB_le r off m
    unfold cntB
    constructor
    · intro e i hi
      by_cases hk : r.kd (off + m) = 1
      · rw [if_pos hk] at e
        by_cases him : i = m
        · subst him; exact hk
        · exact ih.1 (by omega) i (by omega)
      · rw [if_neg hk] at e; omega
    · intro e
      rw [if_pos (e m (by omega)), ih.2 (fun i hi => e i (by omega))]
theorem cntP_all (r : RB) (off : Nat) : ∀ m, cntP r off m = m ↔ ∀ i, i < m → isP r off i = true
  | 0 => by simp [cntP]
  | m + 1 => by
    have ih := cntP_all r off m
    have hle := cntP_le r off m
    unfold cntP
    constructor
    · intro e i hi
      by_cases hk : isP r off m = true
      · rw [if_pos hk] at e
        by_cases him : i = m
        · subst him; exact hk
        · exact ih.1 (by omega) i (by omega)
      · rw [if_neg hk] at e; omega
    · intro e
      rw [if_pos (e m (by omega)), ih.2 (fun i hi => e i (by omega))]
theorem whole_P {r : RB} {off : Nat} {v : Int × Int × Int} (h : Whole r off v) : P0 r off = v ∧ ∀ i, i < 8 → isP r off i = true := by
  have h0 := h 0 (by decide)
  rw [Nat.add_zero] at h0
  have hp : P0 r off = v := by unfold P0; rw [if_pos h0.1, h0.2]; rfl
  refine ⟨hp, fun i hi => ?_⟩
  have hi' := h i hi
  unfold isP
  rw [hi'.1, hi'.2, hp]
  simp
theorem P_whole {r : RB} {off : Nat} (hk : ∀ o, r.kd o = 2 → ∃ v i, r.pc o = some (v, i)) (h : ∀ i, i < 8 → isP r off i = true) : Whole r off (P0 r off) := fun i hi => by
  have := h i hi
  simp only [isP, Bool.and_eq_true, decide_eq_true_eq] at this
  obtain ⟨⟨h1, h2⟩, h3⟩ := this
  obtain ⟨v, j, e⟩ := hk _ h1
  rw [e] at h2 h3
  simp only [Option.getD_some] at h2 h3
  exact ⟨h1, by rw [e, h2, h3]⟩
theorem acc_rel {s : BS} {r : RB} (h : Rel s r) (off : Nat) : ∀ m, off + m ≤ r.sz → (∀ i, i < m → r.kd (off + i) = 1) → accR r off m = accN s.cell off m
  | 0, _, _ => rfl
  | m + 1, hs, hk => by
    have ih := acc_rel h off m (by omega) (fun i hi => hk i (by omega))
    obtain ⟨b1, b2⟩ := h.by1 (off + m) (by omega) (hk m (by omega))
    unfold accR accN
    rw [if_pos (hk m (by omega)), ih, b1]
    congr 2
    congr 1
    omega
/-- A load on both sides. -/
theorem load_rel {s : BS} {r : RB} (h : Rel s r) (c : Int) (off m : Nat) (hm : sizeL c = m) (h0 : m ≠ 0) (ha : off % m = 0) (hr : off + m ≤ r.sz) : loadSB s c off m = loadRB r c off m := by
  have hall : allB s.cell off m = true ↔ cntB r off m = m := by
    rw [cntB_all]
    unfold allB
    rw [List.all_eq_true]
    constructor
    · intro e i hi
      have := e i (List.mem_range.2 hi)
      exact (h.cl (off + i) (by omega)).1 (by simpa using this)
    · intro e i hi
      have hi := List.mem_range.1 hi
      have := (h.cl (off + i) (by omega)).2 (e i hi)
      simpa using this
  have rest : (if allB s.cell off m = true then valueOfL c (accN s.cell off m) else (0, 0, 0)) = if cntB r off m < m then (0, 0, 0) else valueOfL c (accR r off m) := by
    have hle := cntB_le r off m
    by_cases hb : allB s.cell off m = true
    · have he := hall.1 hb
      rw [if_pos hb, if_neg (by omega), acc_rel h off m hr ((cntB_all r off m).1 he)]
    · have he : cntB r off m ≠ m := fun e => hb (hall.2 e)
      rw [if_neg hb, if_pos (by omega)]
  unfold loadSB loadRB
  rw [rest]
  by_cases c6 : c = 6
  · have m8 : m = 8 := by
      subst c6
      have : sizeL 6 = 8 := rfl
      omega
    subst m8
    rw [if_pos (show c = 6 from c6)]
    have hp := h.pr off ha hr
    cases hv : s.ptr (off : Int) with
    | some v =>
      have hw := (hp v).1 hv
      have hP := whole_P hw
      rw [if_pos (show c = 6 ∧ cntP r off 8 = 8 from ⟨c6, (cntP_all r off 8).2 hP.2⟩), hP.1]
      rfl
    | none =>
      have hn : ¬ (c = 6 ∧ cntP r off 8 = 8) := fun e => by
        have := (hp _).2 (P_whole h.k2 ((cntP_all r off 8).1 e.2))
        rw [hv] at this
        cases this
      rw [if_neg hn]
      rfl
  · rw [if_neg (show ¬ c = 6 from c6), if_neg (show ¬ (c = 6 ∧ cntP r off m = 8) from fun e => c6 e.1)]
    rfl
/-- The reference's blocks, one behind the other; a dead one is none. -/
def getR (R : List (Option RB)) (b : Int) : Option RB := if 1 ≤ b ∧ b ≤ R.length then (R.getD (b - 1).toNat none) else none
def setRB (R : List (Option RB)) (b : Int) (o : Option RB) : List (Option RB) := R.set (b - 1).toNat o
/-- Two memories that hold the same. -/
structure RelM (S : Int → Option BS) (made : Int) (R : List (Option RB)) : Prop where
  made : made = R.length
  no : ∀ b, getR R b = none → S b = none
  yes : ∀ b r, getR R b = some r → ∃ s, S b = some s ∧ Rel s r
theorem getR_set (R : List (Option RB)) (b x : Int) (o : Option RB) (hb : 1 ≤ b ∧ b ≤ R.length) : getR (setRB R b o) x = if x = b then o else getR R x := by
  unfold getR setRB
  rw [List.length_set]
  by_cases hx : x = b
  · subst hx
    rw [if_pos hb, if_pos rfl, List.getD_eq_getElem?_getD, List.getElem?_set_self (by omega)]
    rfl
  · rw [if_neg hx]
    by_cases h : 1 ≤ x ∧ x ≤ (R.length : Int)
    · rw [if_pos h, if_pos h, List.getD_eq_getElem?_getD, List.getD_eq_getElem?_getD, List.getElem?_set_ne (by omega)]
    · rw [if_neg h, if_neg h]
theorem getR_in {R : List (Option RB)} {b : Int} {r : RB} (h : getR R b = some r) : 1 ≤ b ∧ b ≤ R.length := by
  unfold getR at h
  split at h
  · assumption
  · cases h
theorem getR_push (R : List (Option RB)) (o : Option RB) (x : Int) : getR (R ++ [o]) x = if x = R.length + 1 then o else getR R x := by
  unfold getR
  rw [List.length_append, List.length_cons, List.length_nil]
  by_cases hx : x = R.length + 1
  · rw [if_pos hx, if_pos (by omega), List.getD_eq_getElem?_getD, List.getElem?_append_right (by omega)]
    rw [show (x - 1).toNat - R.length = 0 by omega]
    rfl
  · rw [if_neg hx]
    by_cases h : 1 ≤ x ∧ x ≤ (R.length : Int)
    · rw [if_pos (by omega), if_pos h, List.getD_eq_getElem?_getD, List.getD_eq_getElem?_getD, List.getElem?_append_left (by omega)]
    · rw [if_neg (by omega), if_neg h]
theorem relM_new : RelM noS 0 [] := ⟨rfl, fun _ _ => rfl, fun b r h => by have := getR_in h; simp at this; omega⟩
theorem relM_put {S : Int → Option BS} {made : Int} {R : List (Option RB)} (h : RelM S made R) {b : Int} {r : RB} (hb : getR R b = some r) {s' : BS} {r' : RB} (hr : Rel s' r') : RelM (putS S b s') made (setRB R b (some r')) := by
  have hin := getR_in hb
  refine ⟨by rw [h.made]; unfold setRB; rw [List.length_set], fun x hx => ?_, fun x y hx => ?_⟩
  · rw [getR_set R b x _ hin] at hx
    split at hx
    · cases hx
    · rename_i hn
      unfold putS
      rw [if_neg hn]
      exact h.no x hx
  · rw [getR_set R b x _ hin] at hx
    unfold putS
    split at hx
    · rename_i hn
      rw [if_pos hn]
      simp only [Option.some.injEq] at hx
      exact ⟨s', rfl, hx ▸ hr⟩
    · rename_i hn
      rw [if_neg hn]
      exact h.yes x y hx
theorem relM_del {S : Int → Option BS} {made : Int} {R : List (Option RB)} (h : RelM S made R) {b : Int} {r : RB} (hb : getR R b = some r) : RelM (delS S b) made (setRB R b none) := by
  have hin := getR_in hb
  refine ⟨by rw [h.made]; unfold setRB; rw [List.length_set], fun x hx => ?_, fun x y hx => ?_⟩
  · rw [getR_set R b x _ hin] at hx
    unfold delS
    split at hx
    · rename_i hn; rw [if_pos hn]
    · rename_i hn
      rw [if_neg hn]
      exact h.no x hx
  · rw [getR_set R b x _ hin] at hx
    unfold delS
    split at hx
    · cases hx
    · rename_i hn
      rw [if_neg hn]
      exact h.yes x y hx
/-- A new block on both sides. -/
theorem relM_alloc {S : Int → Option BS} {made : Int} {R : List (Option RB)} (h : RelM S made R) (size : Nat) (s : BS) (hs : s.sz = size) (hf : s.fx = false) (hc : ∀ o, s.cell o = 0) (hp : ∀ o, s.ptr o = none) :
    RelM (putS S (made + 1) s) (made + 1) (R ++ [some ⟨size, fun _ => 0, fun _ => 0, fun _ => none, false⟩]) := by
  refine ⟨by rw [h.made, List.length_append]; rfl, fun x hx => ?_, fun x y hx => ?_⟩
  · rw [getR_push] at hx
    unfold putS
    split at hx
    · cases hx
    · rename_i hn
      rw [if_neg (by rw [h.made]; exact hn)]
      exact h.no x hx
  · rw [getR_push] at hx
    unfold putS
    split at hx
    · rename_i hn
      rw [if_pos (by rw [h.made]; exact hn)]
      simp only [Option.some.injEq] at hx
      subst hx
      refine ⟨s, rfl, hs, hf, fun o _ => ?_, fun o _ hk => (by cases hk), fun g _ _ v => ?_, fun o hk => (by cases hk)⟩
      · rw [hc]; simp
      · rw [hp]
        constructor
        · intro e; cases e
        · intro e; have := (e 0 (by decide)).1; cases this
    · rename_i hn
      rw [if_neg (by rw [h.made]; exact hn)]
      exact h.yes x y hx
/-- Where a chunk stands, if it does, as the reference says it. -/
def reachR (R : List (Option RB)) (c k n b : Int) : Option (RB × Nat) :=
  if sizeL c = 0 ∨ k ≠ 4 then none
  else match getR R b with
    | none => none
    | some r => if wrap64 n < 0 ∨ r.sz < wrap64 n ∨ (r.sz : Int) - wrap64 n < sizeL c ∨ wrap64 n % sizeL c ≠ 0 then none else some (r, (wrap64 n).toNat)
theorem reach_rel {S : Int → Option BS} {made : Int} {R : List (Option RB)} (h : RelM S made R) (c k n b : Int) :
    (reachR R c k n b = none ∧ reachS S c k n b = none) ∨ ∃ r s off, reachR R c k n b = some (r, off) ∧ reachS S c k n b = some (s, off) ∧ Rel s r ∧ getR R b = some r ∧ sizeL c ≠ 0 ∧ (off : Int) % sizeL c = 0 ∧ (off : Int) + sizeL c ≤ r.sz := by
  have hsz := sizeL_cases c
  unfold reachR reachS
  by_cases hk : k = 4
  · rw [if_pos hk]
    by_cases hc : sizeL c = 0
    · refine Or.inl ⟨by rw [if_pos (Or.inl hc)], ?_⟩
      cases S b with
      | none => rfl
      | some s => simp [goesB, hc]
    · rw [if_neg (by omega)]
      cases hr : getR R b with
      | none => rw [h.no b hr]; exact Or.inl ⟨rfl, rfl⟩
      | some r =>
        obtain ⟨s, hs, hR⟩ := h.yes b r hr
        rw [hs]
        simp only
        have hz := hR.sz
        by_cases hg : goesB s c n = true
        · rw [if_pos hg]
          simp only [goesB, Bool.and_eq_true, decide_eq_true_eq, beq_iff_eq, bne_iff_ne] at hg
          obtain ⟨⟨⟨g1, g2⟩, g3⟩, g4⟩ := hg
          right
          refine ⟨r, s, (wrap64 n).toNat, ?_, rfl, hR, rfl, hc, ?_, ?_⟩
          · rw [if_neg (by omega)]
          · rw [Int.toNat_of_nonneg g2]; exact g3
          · rw [Int.toNat_of_nonneg g2]; omega
        · rw [if_neg hg]
          refine Or.inl ⟨?_, rfl⟩
          rw [if_pos]
          apply Classical.byContradiction
          intro hn
          apply hg
          simp only [goesB, Bool.and_eq_true, decide_eq_true_eq, beq_iff_eq, bne_iff_ne]
          refine ⟨⟨⟨hc, by omega⟩, by omega⟩, by omega⟩
  · rw [if_neg hk, if_pos (Or.inr hk)]
    exact Or.inl ⟨rfl, rfl⟩
def loadR (R : List (Option RB)) (c k n b : Int) : (Int × Int × Int) × Bool :=
  match reachR R c k n b with
  | none => ((0, 0, 0), false)
  | some t => (loadRB t.1 c t.2 (sizeL c).toNat, true)
theorem loadS_B {S : Int → Option BS} {c k n b : Int} {s : BS} {off : Nat} (h : reachS S c k n b = some (s, off)) : loadS S c k n b = (loadSB s c off (sizeL c).toNat, true) := by
  unfold loadS
  rw [h]
  unfold loadSB
  simp only
  cases (if c = 6 then s.ptr (off : Int) else none) with
  | some p => rfl
  | none =>
    simp only [orV]
    split <;> rfl
theorem loadM_rel {S : Int → Option BS} {made : Int} {R : List (Option RB)} (h : RelM S made R) (c k n b : Int) : loadS S c k n b = loadR R c k n b := by
  rcases reach_rel h c k n b with ⟨h1, h2⟩ | ⟨r, s, off, h1, h2, hR, hg, h3, h4, h5⟩
  · unfold loadS loadR
    rw [h1, h2]
  · rw [loadS_B h2]
    unfold loadR
    rw [h1]
    simp only
    have hsz := sizeL_cases c
    have hm : sizeL c = ((sizeL c).toNat : Int) := by omega
    rw [load_rel hR c off (sizeL c).toNat hm (by omega) (by rw [hm] at h4; exact_mod_cast h4) (by omega)]
def storeR (R : List (Option RB)) (c k n b k' n' b' : Int) : Bool × List (Option RB) :=
  match reachR R c k n b with
  | none => (false, R)
  | some t => if t.1.fx = true ∨ fitsL c k' = false then (false, R) else (true, setRB R b (some (putRB t.1 t.2 k' n' b' (sizeL c).toNat)))
theorem storeM_rel {S : Int → Option BS} {made : Int} {R : List (Option RB)} (h : RelM S made R) (c k n b k' n' b' : Int) :
    (storeS S c k n b k' n' b').1 = (storeR R c k n b k' n' b').1 ∧ RelM (storeS S c k n b k' n' b').2 made (storeR R c k n b k' n' b').2 := by
  rcases reach_rel h c k n b with ⟨h1, h2⟩ | ⟨r, s, off, h1, h2, hR, hg, h3, h4, h5⟩
  · unfold storeS storeR
    rw [h1, h2]
    exact ⟨rfl, h⟩
  · have hsz := sizeL_cases c
    have hm : sizeL c = ((sizeL c).toNat : Int) := by omega
    unfold storeS storeR
    rw [h1, h2]
    simp only
    rw [hR.fx]
    by_cases hf : r.fx = true ∨ fitsL c k' = false
    · rw [if_pos hf, if_pos hf]
      exact ⟨rfl, h⟩
    · rw [if_neg hf, if_neg hf]
      refine ⟨rfl, relM_put h hg (store_rel hR c off (sizeL c).toNat k' n' b' hm (by omega) (by rw [hm] at h4; exact_mod_cast h4) (by omega) (fun e => ?_))⟩
      have hft : fitsL c k' = true := by
        cases hb : fitsL c k' with
        | true => rfl
        | false => exact absurd (Or.inr hb) hf
      subst e
      unfold fitsL kindL at hft
      simp only [Bool.or_eq_true, Bool.and_eq_true, beq_iff_eq] at hft
      rcases hft with (hft | hft) | hft
      · omega
      · exfalso
        split at hft
        · omega
        · split at hft
          · omega
          · split at hft <;> omega
      · exact hft.2
/-- The other calls. -/
theorem sizeM_rel {S : Int → Option BS} {made : Int} {R : List (Option RB)} (h : RelM S made R) (b : Int) : sizeS S b = match getR R b with | none => (0, false) | some r => ((r.sz : Int), true) := by
  unfold sizeS
  cases hr : getR R b with
  | none => rw [h.no b hr]
  | some r =>
    obtain ⟨s, hs, hR⟩ := h.yes b r hr
    rw [hs]
    simp only
    rw [hR.sz]
theorem fixM_rel {S : Int → Option BS} {made : Int} {R : List (Option RB)} (h : RelM S made R) (b : Int) :
    (fixS S b).1 = (getR R b).isSome ∧ RelM (fixS S b).2 made (match getR R b with | none => R | some r => setRB R b (some { r with fx := true })) := by
  unfold fixS
  cases hr : getR R b with
  | none => rw [h.no b hr]; exact ⟨rfl, h⟩
  | some r =>
    obtain ⟨s, hs, hR⟩ := h.yes b r hr
    rw [hs]
    exact ⟨rfl, relM_put h hr ⟨hR.sz, rfl, hR.cl, hR.by1, hR.pr, hR.k2⟩⟩
theorem freeM_rel {S : Int → Option BS} {made : Int} {R : List (Option RB)} (h : RelM S made R) (b : Int) :
    (freeS S b).1 = (getR R b).isSome ∧ RelM (freeS S b).2 made (match getR R b with | none => R | some _ => setRB R b none) := by
  unfold freeS
  cases hr : getR R b with
  | none => rw [h.no b hr]; exact ⟨rfl, h⟩
  | some r =>
    obtain ⟨s, hs, hR⟩ := h.yes b r hr
    rw [hs]
    exact ⟨rfl, relM_del h hr⟩
end Go.Proofs.Ytjbflmpnmobngaa
