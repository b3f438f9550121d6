/- The reference's Decimal: a number's numeral. -/
import Derived.Test.YtjbflmpnmobngaaDoorDa
import Derived.Lib.AppendIntMem
import Derived.Lib.ItoaLen
import Derived.Test.YtjbflmpnmobngaaDoorSh
namespace Go.Proofs.YtjbflmpnmobngaaDoor
set_option linter.unusedSimpArgs false
set_option linter.unusedVariables false
open Go.RowKit

theorem eqB {a : ByteArray} {l : List UInt8} (h : a.data.toList = l) : a = ⟨l.toArray⟩ := by
  subst h
  obtain ⟨d⟩ := a
  simp
def wordB (s : Int) : ByteArray := if s = 1 then ⟨#[99, 104, 97, 114]⟩ else if s = 2 then ⟨#[115, 104, 111, 114, 116]⟩ else if s = 4 then ⟨#[105, 110, 116]⟩ else if s = 8 then ⟨#[108, 111, 110, 103]⟩ else ⟨#[63]⟩
theorem catB (a b : ByteArray) : (a ++ b).data.toList = a.data.toList ++ b.data.toList := by
  rw [ByteArray.data_append, Array.toList_append]
/-- The digits of what is left; none of nothing. -/
def preD (v : Nat) : List UInt8 := if v = 0 then [] else Lib.decDigits v
theorem preD_step (v : Nat) : preD v ++ [] = preD v := by simp
theorem dec_step {v : Nat} (hv : 0 < v) (s : List UInt8) : preD v ++ s = preD (v / 10) ++ ([UInt8.ofNat (48 + v % 10)] ++ s) := by
  unfold preD
  rw [if_neg (by omega)]
  by_cases h : v < 10
  · rw [Lib.decDigits, dif_pos h, if_pos (by omega), Nat.mod_eq_of_lt h]; rfl
  · rw [Lib.decDigits, dif_neg h, if_neg (by omega), List.append_assoc]
theorem nDigits_le : ∀ (k u : Nat), u < 10 ^ (k + 1) → Lib.nDigits u ≤ k + 1
  | 0, u, h => by rw [Lib.nDigits_small (by simpa using h)]; exact Nat.le_refl _
  | k + 1, u, h => by
    by_cases h1 : u < 10
    · rw [Lib.nDigits_small h1]; omega
    · rw [Lib.nDigits_big h1]
      have := nDigits_le k (u / 10) (by rw [Nat.pow_succ] at h; omega)
      omega
def strLen : Value → Nat
  | .string b => b.size
  | _ => 0
@[simp] theorem strLen_list (l : List UInt8) : strLen (.string ⟨l.toArray⟩) = l.length := by simp [strLen, ByteArray.size]
@[simp] theorem strLen_arr (l : List UInt8) : ByteArray.size ⟨l.toArray⟩ = l.length := by simp [ByteArray.size]
theorem cell_one (w : World) (v : Value) (t : TypeId) : (w.alloc (.cells #[v] t)).cell? ⟨w.heap.size, 0, none⟩ = some v := by rw [World.cell?_alloc_at _ _ _ _ rfl]; rfl
theorem back_one (w : World) (d : UInt8) (c : Nat) (g : Nat) (hc : w.cell? ⟨g, 0, none⟩ = some (.int .u8 d.toNat)) : (convert 59 9 (.slice (some ⟨g, 0, none⟩) 1 c)).run Tryd.prog w = .ok (.string ⟨#[d]⟩) w :=
  run_convert_bytes_back w 59 9 5 ⟨g, 0, none⟩ c [d] Tryd.underlying59 Tryd.underlying5 Tryd.underlying9 (fun j hj => by
    have : j = 0 := by simp at hj; omega
    subst this
    simpa [Addr.add] using hc)
theorem dig_val (v : Nat) : ((UInt8.ofNat (48 + v % 10)).toNat : Int) = 48 + (v : Int) % 10 := by
  have : (UInt8.ofNat (48 + v % 10)).toNat = 48 + v % 10 := by
    simp only [UInt8.toNat_ofNat']
    omega
  rw [this]
  omega
theorem pre_zero : preD 0 = [] := rfl
theorem dec_len {U : Nat} (hU : U < 18446744073709551616) : (Lib.decDigits U).length ≤ 20 := by
  rw [Lib.decDigits_length]
  exact nDigits_le 19 U (by omega)
set_option maxRecDepth 100000 in
set_option maxHeartbeats 4000000 in
theorem decimal_nat (n : Int) (U : Nat) (s0 : Bool) (hU : U < 18446744073709551616) (hu : (if s0 then IntKind.u64.wrap (-(IntKind.u64.wrap n)) else IntKind.u64.wrap n) = (U : Int)) (hn : decide (n < 0) = s0) (w : World) :
    Calls Tryd.prog 43 #[.int .i64 n] w fun e w' => e = .returned (.string ⟨(if s0 then 45 :: Lib.decDigits U else Lib.decDigits U).toArray⟩) ∧ Fresh w w' := by
  have HD := Lib.hid (dec_len hU)
  have HLT := Lib.hid hU
  clear hU
  cases s0
  · simp only [if_true, if_false, Bool.false_eq_true] at hu
    have hn' : 0 ≤ n := by simpa using hn
    clear hn
    go_enter Tryd.func43, Tryd.ntmps43
    go_wp2_with fail
    go_loopw [3, 4] (fun u s wr => ∃ (v : Nat) (l : List UInt8), u = .int .u64 v ∧ s = .string ⟨l.toArray⟩ ∧ v ≤ U ∧ Hid ((l = [] ∧ v = U) ∨ (l ≠ [] ∧ preD v ++ l = Lib.decDigits U)) ∧ Hid (Fresh w wr)) (fun u s _ => 2 * (intOf u).toNat + (1 - strLen s))
    case atStart => exact ⟨U, [], by simp, rfl, Nat.le_refl _, Lib.hid (Or.inl ⟨rfl, rfl⟩), Lib.hid (Fresh.refl w)⟩
    case round =>
      obtain ⟨v, l, rfl, rfl, hv, HI, FW⟩ := hrel
      clear hu
      have HL : Hid (l.length ≤ 20) := Lib.hid (by
        rcases HI.out with ⟨rfl, -⟩ | ⟨-, h⟩
        · simp
        · have h2 := HD.out
          rw [← h, List.length_append] at h2
          omega)
      by_cases hv0 : 0 < v
      · have hlt0 : (0 : Int) < (v : Int) := by omega
        have HN : Hid (preD (v / 10) ++ ([UInt8.ofNat (48 + v % 10)] ++ l) = Lib.decDigits U) := Lib.hid (by
          rcases HI.out with ⟨rfl, rfl⟩ | ⟨-, h⟩
          · rw [← dec_step hv0]; simp [preD, show v ≠ 0 by omega]
          · rw [← dec_step hv0]; exact h)
        have dv := dig_val v
        have DV := Lib.hid dv
        clear dv
        generalize UInt8.ofNat (48 + v % 10) = d at *
        have cv := back_one (wr.alloc (.cells #[.int .u8 (48 + (v : Int) % 10)] 5)) d 1 wr.heap.size (by rw [cell_one, DV.out])
        have c1 : ¬ 9223372036854775807 < 1 + l.length := (by have := HL.out; omega)
        have ca : (⟨#[d]⟩ : ByteArray) ++ ⟨l.toArray⟩ = ⟨(d :: l).toArray⟩ := eqB (by rw [catB]; rfl)
        have CA := Lib.hid ca
        clear ca
        have ew : IntKind.u64.wrap ((v : Int) / 10) = ((v / 10 : Nat) : Int) := (by rw [IntKind.wrap_u64]; have := HLT.out; omega)
        go_wp2_with fail
        rw [CA.out]
        go_roundw
        case rel => exact ⟨v / 10, d :: l, by first | rfl | (rw [ew]; done) | go_num, rfl, by omega, Lib.hid (Or.inr ⟨by simp, HN.out⟩), Lib.hid (FW.out.trans (by (repeat' first | with_reducible exact Fresh.refl _ | with_reducible assumption | with_reducible refine Fresh.alloc ?_ _ _ | with_reducible refine Fresh.drew ?_ | with_reducible refine Fresh.drewN ?_ _ | with_reducible refine Fresh.setCell ?_ ?_ _ | with_reducible refine Fresh.trans ?_ (by assumption) | (simp; done) | (simp; omega))))⟩
        case measure => simp [intOf, strLen]; omega
      · obtain rfl : v = 0 := by omega
        by_cases hl0 : l = []
        · subst hl0
          have HN : Hid (U = 0) := Lib.hid (by
            rcases HI.out with ⟨-, h⟩ | ⟨h, -⟩
            · exact h.symm
            · exact absurd rfl h)
          have cv := back_one (wr.alloc (.cells #[.int .u8 48] 5)) 48 1 wr.heap.size (by rw [cell_one]; rfl)
          go_wp2_with fail
          go_roundw
          case rel => exact ⟨0, [48], rfl, rfl, by omega, Lib.hid (Or.inr ⟨by simp, by rw [HN.out]; kernel_rfl⟩), Lib.hid (FW.out.trans (by (repeat' first | with_reducible exact Fresh.refl _ | with_reducible assumption | with_reducible refine Fresh.alloc ?_ _ _ | with_reducible refine Fresh.drew ?_ | with_reducible refine Fresh.drewN ?_ _ | with_reducible refine Fresh.setCell ?_ ?_ _ | with_reducible refine Fresh.trans ?_ (by assumption) | (simp; done) | (simp; omega))))⟩
          case measure => simp [intOf, strLen, ByteArray.size]
        · have hl1 : l.isEmpty = false := by cases l <;> simp_all
          have HN : Hid (l = Lib.decDigits U) := Lib.hid (by
            rcases HI.out with ⟨h, -⟩ | ⟨-, h⟩
            · exact absurd h hl0
            · simpa [pre_zero] using h)
          have c1 : ¬ 9223372036854775807 < 1 + l.length := (by have := HL.out; omega)
          clear hl0
          go_wp2_with fail
          go_returns
          exact ⟨by rw [HN.out]; rfl, FW.out⟩
  · simp only [if_true, if_false, Bool.false_eq_true] at hu
    have hn' : n < 0 := by simpa using hn
    clear hn
    go_enter Tryd.func43, Tryd.ntmps43
    go_wp2_with fail
    go_loopw [3, 4] (fun u s wr => ∃ (v : Nat) (l : List UInt8), u = .int .u64 v ∧ s = .string ⟨l.toArray⟩ ∧ v ≤ U ∧ Hid ((l = [] ∧ v = U) ∨ (l ≠ [] ∧ preD v ++ l = Lib.decDigits U)) ∧ Hid (Fresh w wr)) (fun u s _ => 2 * (intOf u).toNat + (1 - strLen s))
    case atStart => exact ⟨U, [], by simp, rfl, Nat.le_refl _, Lib.hid (Or.inl ⟨rfl, rfl⟩), Lib.hid (Fresh.refl w)⟩
    case round =>
      obtain ⟨v, l, rfl, rfl, hv, HI, FW⟩ := hrel
      clear hu
      have HL : Hid (l.length ≤ 20) := Lib.hid (by
        rcases HI.out with ⟨rfl, -⟩ | ⟨-, h⟩
        · simp
        · have h2 := HD.out
          rw [← h, List.length_append] at h2
          omega)
      by_cases hv0 : 0 < v
      · have hlt0 : (0 : Int) < (v : Int) := by omega
        have HN : Hid (preD (v / 10) ++ ([UInt8.ofNat (48 + v % 10)] ++ l) = Lib.decDigits U) := Lib.hid (by
          rcases HI.out with ⟨rfl, rfl⟩ | ⟨-, h⟩
          · rw [← dec_step hv0]; simp [preD, show v ≠ 0 by omega]
          · rw [← dec_step hv0]; exact h)
        have dv := dig_val v
        have DV := Lib.hid dv
        clear dv
        generalize UInt8.ofNat (48 + v % 10) = d at *
        have cv := back_one (wr.alloc (.cells #[.int .u8 (48 + (v : Int) % 10)] 5)) d 1 wr.heap.size (by rw [cell_one, DV.out])
        have c1 : ¬ 9223372036854775807 < 1 + l.length := (by have := HL.out; omega)
        have ca : (⟨#[d]⟩ : ByteArray) ++ ⟨l.toArray⟩ = ⟨(d :: l).toArray⟩ := eqB (by rw [catB]; rfl)
        have CA := Lib.hid ca
        clear ca
        have ew : IntKind.u64.wrap ((v : Int) / 10) = ((v / 10 : Nat) : Int) := (by rw [IntKind.wrap_u64]; have := HLT.out; omega)
        go_wp2_with fail
        rw [CA.out]
        go_roundw
        case rel => exact ⟨v / 10, d :: l, by first | rfl | (rw [ew]; done) | go_num, rfl, by omega, Lib.hid (Or.inr ⟨by simp, HN.out⟩), Lib.hid (FW.out.trans (by (repeat' first | with_reducible exact Fresh.refl _ | with_reducible assumption | with_reducible refine Fresh.alloc ?_ _ _ | with_reducible refine Fresh.drew ?_ | with_reducible refine Fresh.drewN ?_ _ | with_reducible refine Fresh.setCell ?_ ?_ _ | with_reducible refine Fresh.trans ?_ (by assumption) | (simp; done) | (simp; omega))))⟩
        case measure => simp [intOf, strLen]; omega
      · obtain rfl : v = 0 := by omega
        by_cases hl0 : l = []
        · subst hl0
          have HN : Hid (U = 0) := Lib.hid (by
            rcases HI.out with ⟨-, h⟩ | ⟨h, -⟩
            · exact h.symm
            · exact absurd rfl h)
          have cv := back_one (wr.alloc (.cells #[.int .u8 48] 5)) 48 1 wr.heap.size (by rw [cell_one]; rfl)
          go_wp2_with fail
          go_roundw
          case rel => exact ⟨0, [48], rfl, rfl, by omega, Lib.hid (Or.inr ⟨by simp, by rw [HN.out]; kernel_rfl⟩), Lib.hid (FW.out.trans (by (repeat' first | with_reducible exact Fresh.refl _ | with_reducible assumption | with_reducible refine Fresh.alloc ?_ _ _ | with_reducible refine Fresh.drew ?_ | with_reducible refine Fresh.drewN ?_ _ | with_reducible refine Fresh.setCell ?_ ?_ _ | with_reducible refine Fresh.trans ?_ (by assumption) | (simp; done) | (simp; omega))))⟩
          case measure => simp [intOf, strLen, ByteArray.size]
        · have hl1 : l.isEmpty = false := by cases l <;> simp_all
          have HN : Hid (l = Lib.decDigits U) := Lib.hid (by
            rcases HI.out with ⟨h, -⟩ | ⟨-, h⟩
            · exact absurd h hl0
            · simpa [pre_zero] using h)
          have c1 : ¬ 9223372036854775807 < 1 + l.length := (by have := HL.out; omega)
          clear hl0
          go_wp2_with fail
          go_returns
          exact ⟨by rw [eqB (a := (⟨#[45]⟩ : ByteArray) ++ ⟨l.toArray⟩) (catB _ _), HN.out]; rfl, FW.out⟩
theorem decimal_any (n : Int) (h : -9223372036854775808 ≤ n ∧ n ≤ 9223372036854775807) (w : World) : Calls Tryd.prog 43 #[.int .i64 n] w fun e w' => e = .returned (.string ⟨(Lib.itoa n).toArray⟩) ∧ Fresh w w' := by
  by_cases hn : n < 0
  · have := decimal_nat n n.natAbs true (by omega) (by simp only [if_true]; rw [IntKind.wrap_u64, IntKind.wrap_u64]; omega) (by simpa using hn) w
    unfold Lib.itoa
    rw [if_pos hn]
    exact this
  · have := decimal_nat n n.toNat false (by omega) (by simp only [Bool.false_eq_true, if_false]; rw [IntKind.wrap_u64]; omega) (by simpa using hn) w
    unfold Lib.itoa
    rw [if_neg hn]
    exact this
end Go.Proofs.YtjbflmpnmobngaaDoor
