/- Bytes that are put. -/
import Derived.Test.YtjbflmpnmobngaaMm
namespace Go.Proofs.Ytjbflmpnmobngaa
set_option linter.unusedSimpArgs false
set_option linter.unusedVariables false
open Go.RowKit

variable {w w' : World} {B : Nat} {sz : Int} {fx : Bool} {pg pt : Option Nat} {n1 n2 T : Nat} {row : Int → Option Nat} {cell : Nat → Int} {ptr : Int → Option (Int × Int × Int)} {own : Nat → Prop}
theorem page_any (p : Int) (hp0 : 0 ≤ p) (hp1 : p * 4096 < sz) (hT : n1 < maxLen) (h : BRep w B sz fx pg pt n1 n2 row cell ptr) (hS : Sep w B pg pt row) :
    Calls Try.prog 63 #[.pointer (some ⟨B, 0, none⟩), .int .i64 p] w (Paged B sz fx pt n1 n2 row cell ptr p (owns B pg pt row) w) := by
  cases pg with
  | none =>
    have up : ∀ e w1, Paged B sz fx pt 0 n2 row cell ptr p (owns B none pt row) w e w1 → Paged B sz fx pt n1 n2 row cell ptr p (owns B none pt row) w e w1 := fun e w1 ⟨q, r, n, row', a, b, c, d⟩ => ⟨q, r, n, row', a, b, by omega, d⟩
    by_cases hL : 4096 ≤ sz - p * 4096
    · exact (page0_full p hp0 hL h hS).mono up
    · exact (page0_part p hp0 (sz - p * 4096).toNat (by omega) (by omega) h hS).mono up
  | some q =>
    cases hr : row p with
    | none =>
      by_cases hL : 4096 ≤ sz - p * 4096
      · exact page_full p q hp0 hL hr hT h hS
      · exact page_part p q hp0 (sz - p * 4096).toNat (by omega) (by omega) hr hT h hS
    | some r =>
      exact (page_old p hp0 (by have := h.s1; omega) r hr h hS).mono fun e w1 ⟨he, hw⟩ => by
        subst hw
        exact ⟨q, r, n1, row, he, hr, by omega, fun k hk => Or.inl hk, h, hS, Touch.refl _ _⟩
def byteN (x : Int) (i : Nat) : Int := 256 + x / 2 ^ (8 * i) % 256
def putC (cell : Nat → Int) (off m : Nat) (x : Int) : Nat → Int := fun o => if off ≤ o ∧ o < off + m then byteN x (o - off) else cell o
def putR (g : Nat → Int) (a k : Nat) (x : Int) : Nat → Int := fun i => if a ≤ i ∧ i < a + k then byteN x (i - a) else g i
theorem putR_step (g : Nat → Int) (a k : Nat) (x : Int) : (fun i => if i = a + k then byteN x k else putR g a k x i) = putR g a (k + 1) x := by
  funext i
  unfold putR
  by_cases h1 : i = a + k
  · subst h1
    rw [if_pos rfl, if_pos (by omega)]
    congr 1
    omega
  · rw [if_neg h1]
    by_cases h2 : a ≤ i ∧ i < a + k
    · rw [if_pos h2, if_pos (by omega)]
    · rw [if_neg h2, if_neg (by omega)]
theorem putR_zero (g : Nat → Int) (a : Nat) (x : Int) : putR g a 0 x = g := by funext i; unfold putR; rw [if_neg (by omega)]
theorem or_nat : ∀ d : Nat, d < 256 → bits .or .u16 256 (d : Int) = 256 + (d : Int) := by decide +kernel
theorem or_byte (d : Int) (h0 : 0 ≤ d) (h1 : d < 256) : bits .or .u16 256 d = 256 + d := by
  obtain ⟨n, rfl⟩ : ∃ n : Nat, d = n := ⟨d.toNat, by omega⟩
  exact or_nat n (by omega)
def Put (B : Nat) (sz : Int) (fx : Bool) (pt : Option Nat) (N n2 : Nat) (cell' : Nat → Int) (ptr' : Int → Option (Int × Int × Int)) (F : Nat → Prop) (w : World) (e : Ending) (w' : World) : Prop :=
  e = .returned (.tuple #[]) ∧ ∃ q n1' row', n1' ≤ N + 1 ∧ (∀ k, owns B (some q) pt row' k → F k ∨ w.heap.size ≤ k) ∧ BRep w' B sz fx (some q) pt n1' n2 row' cell' ptr' ∧ Sep w' B (some q) pt row' ∧ Touch F w w'
theorem Paged.lit {p : Int} {v : Value} {e : Ending} {N : Nat} {F : Nat → Prop} (h : Paged B sz fx pt N n2 row cell ptr p F w e w') : ∃ q r n1' row', e = .returned (.slice (some ⟨r, 0, none⟩) (plen sz p) (plen sz p)) ∧ row' p = some r ∧ n1' ≤ N + 1 ∧ (∀ k, owns B (some q) pt row' k → F k ∨ w.heap.size ≤ k) ∧ BRep w' B sz fx (some q) pt n1' n2 row' cell ptr ∧ Sep w' B (some q) pt row' ∧ Touch F w w' := h
set_option maxRecDepth 100000 in
set_option maxHeartbeats 2000000 in
theorem put_int (o : Int) (off m : Nat) (x : Int) (hx0 : 0 ≤ x) (ho : o = (off : Int)) (hm : m ≤ 8) (hin : off % 4096 + m ≤ 4096) (hoff : (off : Int) + m ≤ sz) (hm0 : 0 < m) (hT : n1 < maxLen) (h : BRep w B sz fx pg pt n1 n2 row cell ptr) (hS : Sep w B pg pt row) :
    Calls Try.prog 44 #[.pointer (some ⟨B, 0, none⟩), .int .i64 o, .int .i64 (m : Int), .int .u64 x] w (Put B sz fx pt n1 n2 (putC cell off m x) (delP ptr (o - o % 8)) (owns B pg pt row) w) := by
  have s1 := h.s1
  have hq := quo_page o (by omega) (by omega)
  have hrm := rem_page o (by omega) (by omega)
  have h0 : 0 ≤ o := by omega
  obtain ⟨a, hao⟩ : ∃ a : Nat, off % 4096 = a := ⟨_, rfl⟩
  have ha : o % 4096 = (a : Int) := by omega
  have HF : Hid (Calls Try.prog 62 #[.pointer (some ⟨B, 0, none⟩), .int .i64 o] w fun e w' => e = .returned (.tuple #[]) ∧ BRep w' B sz fx pg pt n1 n2 row cell (delP ptr (o - o % 8)) ∧ Sep w' B pg pt row ∧ Touch (fun k => pt = some k) w w') := Lib.hid (by subst ho; exact forget_lit off (by omega) h hS)
  have HH : Hid (m ≤ 8 ∧ a + m ≤ 4096 ∧ o + m ≤ sz ∧ 0 < m) := Lib.hid ⟨hm, by omega, by omega, hm0⟩
  have HZ : Hid (0 ≤ o / 4096 ∧ o / 4096 * 4096 < sz ∧ n1 < maxLen) := Lib.hid ⟨by omega, by omega, hT⟩
  have HL : Hid (a + m ≤ plen sz (o / 4096)) := Lib.hid (by unfold plen; omega)
  have HP : Hid (∀ i, i < 4096 → putR (fun i => cell ((o / 4096).toNat * 4096 + i)) a m x i = putC cell off m x ((o / 4096).toNat * 4096 + i)) := Lib.hid (fun i hi => by
    unfold putR putC
    by_cases hx : a ≤ i ∧ i < a + m
    · rw [if_pos hx, if_pos (by omega)]
      congr 1
      omega
    · rw [if_neg hx, if_neg (by omega)])
  have HQ : Hid (∀ y, ¬ ((o / 4096).toNat * 4096 ≤ y ∧ y < (o / 4096).toNat * 4096 + 4096) → putC cell off m x y = cell y) := Lib.hid (fun y hy => by
    unfold putC
    rw [if_neg (by omega)])
  have HG : Hid (∀ y, putC cell off m x y = 0 ∨ 256 ≤ putC cell off m x y ∧ putC cell off m x y < 512) := Lib.hid (fun y => by
    unfold putC
    split
    · unfold byteN; exact Or.inr (by omega)
    · exact h.rng y)
  have ha4 : a < 4096 := by omega
  have HO : Hid (∀ k, owns B pg pt row k → k < w.heap.size) := Lib.hid (fun k hk => owns_lt h hS hk)
  clear h hS hm hin hoff hm0 s1 ho hao hT
  go_enter Try.func44, Try.ntmps44
  go_wp2_with (first | (go_at_call 62; refine HF.out.mono ?_; rintro e w1 ⟨rfl, r1, r2, r3⟩; have RB := Lib.hid r1; have RS := Lib.hid r2; clear r1 r2) | (go_at_call 63; refine (page_any _ HZ.out.1 HZ.out.2.1 HZ.out.2.2 RB.out RS.out).mono ?_; rintro e w2 ⟨q, r, n1', row', rfl, hr, hn1, hown, r1, r2, r4⟩; have HR := Lib.hid hr; have RB2 := Lib.hid r1; have RS2 := Lib.hid r2; have HW := Lib.hid hown; have HN := Lib.hid hn1; clear hr r1 r2 hown hn1))
  have W0 : Hid (Rowing w2 r (plen sz (o / 4096)) (fun i => cell ((o / 4096).toNat * 4096 + i)) w2) := Lib.hid ⟨Touch.refl _ _, fun i hi => RB2.out.rws _ r HR.out i hi⟩
  generalize hgl : plen sz (o / 4096) = L at *
  have HLe := Lib.hid hgl
  clear hgl
  go_loopw [21] (fun i wr => ∃ k : Nat, k ≤ m ∧ i = .int .i64 k ∧ Hid (Rowing w2 r L (putR (fun i => cell ((o / 4096).toNat * 4096 + i)) a k x) wr)) (fun i _ => m - (intOf i).toNat)
  case atStart => exact ⟨0, by omega, rfl, by rw [putR_zero]; exact W0⟩
  case round =>
    obtain ⟨k, hk, rfl, HWk⟩ := hrel
    by_cases hlt : k < m
    · have hb1 : a + k < L := by have := HL.out; omega
      have hb3 : m ≤ 8 := HH.out.1
      have hcl := HWk.out.c (a + k) hb1
      have hfz : wr.frozen? ⟨r, a + k, none⟩ = false := by rw [HWk.out.t.froz]; exact RS2.out.fr r (Or.inr (Or.inr (Or.inr ⟨_, HR.out⟩))) _
      generalize putR (fun i => cell ((o / 4096).toNat * 4096 + i)) a k x (a + k) = V at hcl
      have HW2 : Hid (Rowing w2 r L (putR (fun i => cell ((o / 4096).toNat * 4096 + i)) a (k + 1) x) (wr.setCell ⟨r, a + k, none⟩ (.int .u16 (byteN x k)))) := Lib.hid (by rw [← putR_step]; exact HWk.out.step _ hb1 _)
      go_wp2
      go_roundw
      case rel => exact ⟨k + 1, by omega, by go_num, by rw [or_byte _ (Int.emod_nonneg _ (by decide)) (Int.emod_lt_of_pos _ (by decide))]; exact HW2⟩
      case measure => simp [intOf]; omega
    · have hkm : k = m := by omega
      subst hkm
      clear hlt hk
      go_wp2
      go_returns
      obtain ⟨q1, q2⟩ := RB2.out.rowset RS2.out HR.out HWk.out.t (putC cell off k x) (by rw [HLe.out]; have := HL.out; have := HH.out; omega) (fun i hi => by rw [HLe.out] at hi; rw [← HP.out i (by have := plen_le sz (o / 4096); rw [HLe.out] at this; omega)]; exact HWk.out.c i hi) HQ.out HG.out
      have f1 : Touch (owns B pg pt row) w w1 := r3.mono fun y hy => Or.inr (Or.inr (Or.inl hy))
      refine ⟨rfl, q, n1', row', HN.out, fun y hy => ?_, q1, q2, (f1.trans r4).trans' HWk.out.t fun y hy => ?_⟩
      · rcases HW.out y hy with g | g
        · exact Or.inl g
        · exact Or.inr (Nat.le_trans f1.size g)
      · subst hy
        rcases HW.out y (Or.inr (Or.inr (Or.inr ⟨_, HR.out⟩))) with g | g
        · exact Or.inl g
        · exact Or.inr (Nat.le_trans f1.size g)
end Go.Proofs.Ytjbflmpnmobngaa
