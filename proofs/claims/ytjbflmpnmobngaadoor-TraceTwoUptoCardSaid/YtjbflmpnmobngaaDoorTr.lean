/- A value's text: the reference. -/
import Derived.Test.YtjbflmpnmobngaaDoorTn
namespace Go.Proofs.YtjbflmpnmobngaaDoor
set_option linter.unusedSimpArgs false
set_option linter.unusedVariables false
open Go.RowKit

/-- The last k digits in sixteens. -/
def hexK (v : Nat) : Nat → List UInt8
  | 0 => []
  | k + 1 => hexK (v / 16) k ++ [hx (v % 16)]
theorem hexK_zero : ∀ k, hexK 0 k = List.replicate k 48
  | 0 => rfl
  | k + 1 => by
    simp only [hexK]
    rw [show 0 / 16 = 0 from rfl, hexK_zero k]
    rw [List.replicate_succ']
    rfl
theorem hexK_hexL : ∀ (k v : Nat), v < 16 ^ (k + 1) → hexK v (k + 1) = List.replicate (k + 1 - (hexL v).length) 48 ++ hexL v
  | 0, v, h => by
    have hv : v < 16 := by simpa using h
    rw [hexL, dif_pos hv]
    simp [hexK, Nat.mod_eq_of_lt hv]
  | k + 1, v, h => by
    by_cases hv : v < 16
    · rw [hexL, dif_pos hv]
      have h0 : v / 16 = 0 := by omega
      rw [hexK, h0, hexK_zero, Nat.mod_eq_of_lt hv]
      simp
    · rw [hexL, dif_neg hv, hexK, hexK_hexL k (v / 16) (by rw [Nat.pow_succ] at h; omega), List.length_append]
      rw [List.append_assoc]
      simp
theorem hex16_K (U : Nat) (h : U < 18446744073709551616) : hex16 U = [48, 120] ++ hexK U 16 := by
  rw [hexK_hexL 15 U (by simpa using h)]
  unfold hex16
  rw [List.append_assoc]
theorem hx16_all : ((List.range 16).all fun d => (⟨#[48, 49, 50, 51, 52, 53, 54, 55, 56, 57, 97, 98, 99, 100, 101, 102]⟩ : ByteArray).data[d]? == some (hx d)) = true := by kernel_rfl
theorem hx16_at (d : Nat) (hd : d < 16) (h : d < (⟨#[48, 49, 50, 51, 52, 53, 54, 55, 56, 57, 97, 98, 99, 100, 101, 102]⟩ : ByteArray).size) : (⟨#[48, 49, 50, 51, 52, 53, 54, 55, 56, 57, 97, 98, 99, 100, 101, 102]⟩ : ByteArray)[d]'h = hx d := by
  have := List.all_eq_true.1 hx16_all d (by simpa using hd)
  have h2 : (⟨#[48, 49, 50, 51, 52, 53, 54, 55, 56, 57, 97, 98, 99, 100, 101, 102]⟩ : ByteArray).data[d]? = some (hx d) := by simpa using this
  have h3 : (⟨#[48, 49, 50, 51, 52, 53, 54, 55, 56, 57, 97, 98, 99, 100, 101, 102]⟩ : ByteArray).data[d]? = some ((⟨#[48, 49, 50, 51, 52, 53, 54, 55, 56, 57, 97, 98, 99, 100, 101, 102]⟩ : ByteArray)[d]'h) := Array.getElem?_eq_getElem h
  rw [h3] at h2
  exact Option.some.inj h2
theorem hexK_len (v : Nat) : ∀ k, (hexK v k).length = k := by
  intro k
  induction k generalizing v with
  | zero => rfl
  | succ k ih => simp [hexK, ih]
set_option maxRecDepth 100000 in
set_option maxHeartbeats 8000000 in
theorem valueR_hex (U : Nat) (b : Int) (hU : U < 18446744073709551616) (w : World) :
    Calls Tryd.prog 42 #[.agg #[.int .i64 3, .int .u64 U, .int .i64 b]] w fun e w' => e = .returned (.string ⟨(hex16 U).toArray⟩) ∧ Fresh w w' := by
  have HU := Lib.hid hU
  have HX : Hid (hex16 U = [48, 120] ++ hexK U 16) := Lib.hid (hex16_K U hU)
  rw [HX.out]
  have F0 : Hid (Fresh w (w.alloc (.cells #[.int .i64 3, .int .u64 U, .int .i64 b] 30))) := Lib.hid (by (repeat' first | with_reducible exact Fresh.refl _ | with_reducible assumption | with_reducible refine Fresh.alloc ?_ _ _ | with_reducible refine Fresh.drew ?_ | with_reducible refine Fresh.drewN ?_ _ | with_reducible refine Fresh.setCell ?_ ?_ _ | with_reducible refine Fresh.trans ?_ (by assumption) | (simp; done) | (simp; omega)))
  have B1 : Hid ((w.alloc (.cells #[.int .i64 3, .int .u64 U, .int .i64 b] 30)).cell? ⟨w.heap.size, 1, none⟩ = some (.int .u64 U)) := Lib.hid (by simp [go_sem])
  clear hU HX
  go_enter Tryd.func42, Tryd.ntmps42
  go_upto_region 7 with fail
  generalize (w.alloc (.cells #[.int .i64 3, .int .u64 U, .int .i64 b] 30)) = X at *
  go_wp2_with fail
  go_loopw [3, 4] (fun s i wr => ∃ k : Nat, k ≤ 16 ∧ s = .string ⟨([48, 120] ++ hexK (U / 16 ^ (16 - k)) k).toArray⟩ ∧ i = .int .i64 (60 - 4 * (k : Int)) ∧ Hid (Fresh X wr)) (fun s i _ => 18 - strLen s)
  case atStart => exact ⟨0, by omega, rfl, rfl, Lib.hid (Fresh.refl X)⟩
  case round =>
    obtain ⟨k, hk, rfl, rfl, HF⟩ := hrel
    have c1 := HF.out.at' B1.out
    by_cases hlt : k < 16
    · have hks : k = 0 ∨ k = 1 ∨ k = 2 ∨ k = 3 ∨ k = 4 ∨ k = 5 ∨ k = 6 ∨ k = 7 ∨ k = 8 ∨ k = 9 ∨ k = 10 ∨ k = 11 ∨ k = 12 ∨ k = 13 ∨ k = 14 ∨ k = 15 := by omega
      clear hlt hk
      rcases hks with rfl | rfl | rfl | rfl | rfl | rfl | rfl | rfl | rfl | rfl | rfl | rfl | rfl | rfl | rfl | rfl
      · have hi0 : (60 : Int) - 4 * ((0 : Nat) : Int) = 60 := by decide
        have hi1 : (60 : Int) - 4 * ((0 + 1 : Nat) : Int) = 56 := by decide
        have HI1 := Lib.hid hi1
        rw [hi0]
        obtain ⟨sl, hsl⟩ : ∃ sl, sl = [48, 120] ++ hexK (U / 16 ^ (16 - 0)) 0 := ⟨_, rfl⟩
        have HSL := Lib.hid hsl
        have hsn : sl.length = 2 := by rw [hsl]; simp [hexK_len]
        rw [← hsl]
        obtain ⟨D, hDe⟩ : ∃ D, D = U / 1152921504606846976 % 16 := ⟨_, rfl⟩
        have HDE := Lib.hid hDe
        have hD : D < 16 := by rw [hDe]; exact Nat.mod_lt _ (by decide)
        have hD' : (D : Int) < 16 := by omega
        have e15 : bits BinOp.and IntKind.u64 ((U : Int) / 1152921504606846976) 15 = (D : Int) := by
          have := and15 (U / 1152921504606846976) (by have := HU.out; omega)
          rw [hDe]
          simpa using this
        have cv : ∀ h, (convert 59 9 (.slice (some ⟨wr.heap.size, 0, none⟩) 1 1)).run Tryd.prog (wr.alloc (.cells #[.int .u8 (((⟨#[48, 49, 50, 51, 52, 53, 54, 55, 56, 57, 97, 98, 99, 100, 101, 102]⟩ : ByteArray)[D]'h).toNat : Int)] 5)) = .ok (.string ⟨#[hx D]⟩) (wr.alloc (.cells #[.int .u8 (((⟨#[48, 49, 50, 51, 52, 53, 54, 55, 56, 57, 97, 98, 99, 100, 101, 102]⟩ : ByteArray)[D]'h).toNat : Int)] 5)) := fun h => by
          rw [hx16_at D hD h]
          exact back_one (wr.alloc (.cells #[.int .u8 ((hx D).toNat : Int)] 5)) (hx D) 1 wr.heap.size (by rw [cell_one])
        have c2 : ¬ 9223372036854775807 < sl.length + 1 := by omega
        have CA : Hid ((⟨sl.toArray⟩ : ByteArray) ++ ⟨#[hx D]⟩ = ⟨(sl ++ [hx D]).toArray⟩) := Lib.hid (eqB (by rw [catB]))
        have HN : Hid (sl ++ [hx D] = [48, 120] ++ hexK (U / 16 ^ (16 - (0 + 1))) (0 + 1)) := Lib.hid (by
          rw [hsl, hDe]
          simp only [hexK]
          first
            | rfl
            | (rw [show U / 16 ^ (16 - (0 + 1)) / 16 = U / 16 ^ (16 - 0) by rw [Nat.div_div_eq_div_mul], List.append_assoc]; done))
        clear hi0 hi1 hsl hDe
        go_wp2_with fail
        rw [CA.out]
        go_roundw
        case rel => exact ⟨0 + 1, by omega, by rw [HN.out], by first | rfl | (rw [HI1.out]; done) | (rw [HI1.out]; rfl), Lib.hid (HF.out.alloc _ _)⟩
        case measure => simp [strLen, ByteArray.size]; omega
      · have hi0 : (60 : Int) - 4 * ((1 : Nat) : Int) = 56 := by decide
        have hi1 : (60 : Int) - 4 * ((1 + 1 : Nat) : Int) = 52 := by decide
        have HI1 := Lib.hid hi1
        rw [hi0]
        obtain ⟨sl, hsl⟩ : ∃ sl, sl = [48, 120] ++ hexK (U / 16 ^ (16 - 1)) 1 := ⟨_, rfl⟩
        have HSL := Lib.hid hsl
        have hsn : sl.length = 3 := by rw [hsl]; simp [hexK_len]
        rw [← hsl]
        obtain ⟨D, hDe⟩ : ∃ D, D = U / 72057594037927936 % 16 := ⟨_, rfl⟩
        have HDE := Lib.hid hDe
        have hD : D < 16 := by rw [hDe]; exact Nat.mod_lt _ (by decide)
        have hD' : (D : Int) < 16 := by omega
        have e15 : bits BinOp.and IntKind.u64 ((U : Int) / 72057594037927936) 15 = (D : Int) := by
          have := and15 (U / 72057594037927936) (by have := HU.out; omega)
          rw [hDe]
          simpa using this
        have cv : ∀ h, (convert 59 9 (.slice (some ⟨wr.heap.size, 0, none⟩) 1 1)).run Tryd.prog (wr.alloc (.cells #[.int .u8 (((⟨#[48, 49, 50, 51, 52, 53, 54, 55, 56, 57, 97, 98, 99, 100, 101, 102]⟩ : ByteArray)[D]'h).toNat : Int)] 5)) = .ok (.string ⟨#[hx D]⟩) (wr.alloc (.cells #[.int .u8 (((⟨#[48, 49, 50, 51, 52, 53, 54, 55, 56, 57, 97, 98, 99, 100, 101, 102]⟩ : ByteArray)[D]'h).toNat : Int)] 5)) := fun h => by
          rw [hx16_at D hD h]
          exact back_one (wr.alloc (.cells #[.int .u8 ((hx D).toNat : Int)] 5)) (hx D) 1 wr.heap.size (by rw [cell_one])
        have c2 : ¬ 9223372036854775807 < sl.length + 1 := by omega
        have CA : Hid ((⟨sl.toArray⟩ : ByteArray) ++ ⟨#[hx D]⟩ = ⟨(sl ++ [hx D]).toArray⟩) := Lib.hid (eqB (by rw [catB]))
        have HN : Hid (sl ++ [hx D] = [48, 120] ++ hexK (U / 16 ^ (16 - (1 + 1))) (1 + 1)) := Lib.hid (by
          rw [hsl, hDe]
          simp only [hexK]
          first
            | rfl
            | (rw [show U / 16 ^ (16 - (1 + 1)) / 16 = U / 16 ^ (16 - 1) by rw [Nat.div_div_eq_div_mul], List.append_assoc]; done))
        clear hi0 hi1 hsl hDe
        go_wp2_with fail
        rw [CA.out]
        go_roundw
        case rel => exact ⟨1 + 1, by omega, by rw [HN.out], by first | rfl | (rw [HI1.out]; done) | (rw [HI1.out]; rfl), Lib.hid (HF.out.alloc _ _)⟩
        case measure => simp [strLen, ByteArray.size]; omega
      · have hi0 : (60 : Int) - 4 * ((2 : Nat) : Int) = 52 := by decide
        have hi1 : (60 : Int) - 4 * ((2 + 1 : Nat) : Int) = 48 := by decide
        have HI1 := Lib.hid hi1
        rw [hi0]
        obtain ⟨sl, hsl⟩ : ∃ sl, sl = [48, 120] ++ hexK (U / 16 ^ (16 - 2)) 2 := ⟨_, rfl⟩
        have HSL := Lib.hid hsl
        have hsn : sl.length = 4 := by rw [hsl]; simp [hexK_len]
        rw [← hsl]
        obtain ⟨D, hDe⟩ : ∃ D, D = U / 4503599627370496 % 16 := ⟨_, rfl⟩
        have HDE := Lib.hid hDe
        have hD : D < 16 := by rw [hDe]; exact Nat.mod_lt _ (by decide)
        have hD' : (D : Int) < 16 := by omega
        have e15 : bits BinOp.and IntKind.u64 ((U : Int) / 4503599627370496) 15 = (D : Int) := by
          have := and15 (U / 4503599627370496) (by have := HU.out; omega)
          rw [hDe]
          simpa using this
        have cv : ∀ h, (convert 59 9 (.slice (some ⟨wr.heap.size, 0, none⟩) 1 1)).run Tryd.prog (wr.alloc (.cells #[.int .u8 (((⟨#[48, 49, 50, 51, 52, 53, 54, 55, 56, 57, 97, 98, 99, 100, 101, 102]⟩ : ByteArray)[D]'h).toNat : Int)] 5)) = .ok (.string ⟨#[hx D]⟩) (wr.alloc (.cells #[.int .u8 (((⟨#[48, 49, 50, 51, 52, 53, 54, 55, 56, 57, 97, 98, 99, 100, 101, 102]⟩ : ByteArray)[D]'h).toNat : Int)] 5)) := fun h => by
          rw [hx16_at D hD h]
          exact back_one (wr.alloc (.cells #[.int .u8 ((hx D).toNat : Int)] 5)) (hx D) 1 wr.heap.size (by rw [cell_one])
        have c2 : ¬ 9223372036854775807 < sl.length + 1 := by omega
        have CA : Hid ((⟨sl.toArray⟩ : ByteArray) ++ ⟨#[hx D]⟩ = ⟨(sl ++ [hx D]).toArray⟩) := Lib.hid (eqB (by rw [catB]))
        have HN : Hid (sl ++ [hx D] = [48, 120] ++ hexK (U / 16 ^ (16 - (2 + 1))) (2 + 1)) := Lib.hid (by
          rw [hsl, hDe]
          simp only [hexK]
          first
            | rfl
            | (rw [show U / 16 ^ (16 - (2 + 1)) / 16 = U / 16 ^ (16 - 2) by rw [Nat.div_div_eq_div_mul], List.append_assoc]; done))
        clear hi0 hi1 hsl hDe
        go_wp2_with fail
        rw [CA.out]
        go_roundw
        case rel => exact ⟨2 + 1, by omega, by rw [HN.out], by first | rfl | (rw [HI1.out]; done) | (rw [HI1.out]; rfl), Lib.hid (HF.out.alloc _ _)⟩
        case measure => simp [strLen, ByteArray.size]; omega
      · have hi0 : (60 : Int) - 4 * ((3 : Nat) : Int) = 48 := by decide
        have hi1 : (60 : Int) - 4 * ((3 + 1 : Nat) : Int) = 44 := by decide
        have HI1 := Lib.hid hi1
        rw [hi0]
        obtain ⟨sl, hsl⟩ : ∃ sl, sl = [48, 120] ++ hexK (U / 16 ^ (16 - 3)) 3 := ⟨_, rfl⟩
        have HSL := Lib.hid hsl
        have hsn : sl.length = 5 := by rw [hsl]; simp [hexK_len]
        rw [← hsl]
        obtain ⟨D, hDe⟩ : ∃ D, D = U / 281474976710656 % 16 := ⟨_, rfl⟩
        have HDE := Lib.hid hDe
        have hD : D < 16 := by rw [hDe]; exact Nat.mod_lt _ (by decide)
        have hD' : (D : Int) < 16 := by omega
        have e15 : bits BinOp.and IntKind.u64 ((U : Int) / 281474976710656) 15 = (D : Int) := by
          have := and15 (U / 281474976710656) (by have := HU.out; omega)
          rw [hDe]
          simpa using this
        have cv : ∀ h, (convert 59 9 (.slice (some ⟨wr.heap.size, 0, none⟩) 1 1)).run Tryd.prog (wr.alloc (.cells #[.int .u8 (((⟨#[48, 49, 50, 51, 52, 53, 54, 55, 56, 57, 97, 98, 99, 100, 101, 102]⟩ : ByteArray)[D]'h).toNat : Int)] 5)) = .ok (.string ⟨#[hx D]⟩) (wr.alloc (.cells #[.int .u8 (((⟨#[48, 49, 50, 51, 52, 53, 54, 55, 56, 57, 97, 98, 99, 100, 101, 102]⟩ : ByteArray)[D]'h).toNat : Int)] 5)) := fun h => by
          rw [hx16_at D hD h]
          exact back_one (wr.alloc (.cells #[.int .u8 ((hx D).toNat : Int)] 5)) (hx D) 1 wr.heap.size (by rw [cell_one])
        have c2 : ¬ 9223372036854775807 < sl.length + 1 := by omega
        have CA : Hid ((⟨sl.toArray⟩ : ByteArray) ++ ⟨#[hx D]⟩ = ⟨(sl ++ [hx D]).toArray⟩) := Lib.hid (eqB (by rw [catB]))
        have HN : Hid (sl ++ [hx D] = [48, 120] ++ hexK (U / 16 ^ (16 - (3 + 1))) (3 + 1)) := Lib.hid (by
          rw [hsl, hDe]
          simp only [hexK]
          first
            | rfl
            | (rw [show U / 16 ^ (16 - (3 + 1)) / 16 = U / 16 ^ (16 - 3) by rw [Nat.div_div_eq_div_mul], List.append_assoc]; done))
        clear hi0 hi1 hsl hDe
        go_wp2_with fail
        rw [CA.out]
        go_roundw
        case rel => exact ⟨3 + 1, by omega, by rw [HN.out], by first | rfl | (rw [HI1.out]; done) | (rw [HI1.out]; rfl), Lib.hid (HF.out.alloc _ _)⟩
        case measure => simp [strLen, ByteArray.size]; omega
      · have hi0 : (60 : Int) - 4 * ((4 : Nat) : Int) = 44 := by decide
        have hi1 : (60 : Int) - 4 * ((4 + 1 : Nat) : Int) = 40 := by decide
        have HI1 := Lib.hid hi1
        rw [hi0]
        obtain ⟨sl, hsl⟩ : ∃ sl, sl = [48, 120] ++ hexK (U / 16 ^ (16 - 4)) 4 := ⟨_, rfl⟩
        have HSL := Lib.hid hsl
        have hsn : sl.length = 6 := by rw [hsl]; simp [hexK_len]
        rw [← hsl]
        obtain ⟨D, hDe⟩ : ∃ D, D = U / 17592186044416 % 16 := ⟨_, rfl⟩
        have HDE := Lib.hid hDe
        have hD : D < 16 := by rw [hDe]; exact Nat.mod_lt _ (by decide)
        have hD' : (D : Int) < 16 := by omega
        have e15 : bits BinOp.and IntKind.u64 ((U : Int) / 17592186044416) 15 = (D : Int) := by
          have := and15 (U / 17592186044416) (by have := HU.out; omega)
          rw [hDe]
          simpa using this
        have cv : ∀ h, (convert 59 9 (.slice (some ⟨wr.heap.size, 0, none⟩) 1 1)).run Tryd.prog (wr.alloc (.cells #[.int .u8 (((⟨#[48, 49, 50, 51, 52, 53, 54, 55, 56, 57, 97, 98, 99, 100, 101, 102]⟩ : ByteArray)[D]'h).toNat : Int)] 5)) = .ok (.string ⟨#[hx D]⟩) (wr.alloc (.cells #[.int .u8 (((⟨#[48, 49, 50, 51, 52, 53, 54, 55, 56, 57, 97, 98, 99, 100, 101, 102]⟩ : ByteArray)[D]'h).toNat : Int)] 5)) := fun h => by
          rw [hx16_at D hD h]
          exact back_one (wr.alloc (.cells #[.int .u8 ((hx D).toNat : Int)] 5)) (hx D) 1 wr.heap.size (by rw [cell_one])
        have c2 : ¬ 9223372036854775807 < sl.length + 1 := by omega
        have CA : Hid ((⟨sl.toArray⟩ : ByteArray) ++ ⟨#[hx D]⟩ = ⟨(sl ++ [hx D]).toArray⟩) := Lib.hid (eqB (by rw [catB]))
        have HN : Hid (sl ++ [hx D] = [48, 120] ++ hexK (U / 16 ^ (16 - (4 + 1))) (4 + 1)) := Lib.hid (by
          rw [hsl, hDe]
          simp only [hexK]
          first
            | rfl
            | (rw [show U / 16 ^ (16 - (4 + 1)) / 16 = U / 16 ^ (16 - 4) by rw [Nat.div_div_eq_div_mul], List.append_assoc]; done))
        clear hi0 hi1 hsl hDe
        go_wp2_with fail
        rw [CA.out]
        go_roundw
        case rel => exact ⟨4 + 1, by omega, by rw [HN.out], by first | rfl | (rw [HI1.out]; done) | (rw [HI1.out]; rfl), Lib.hid (HF.out.alloc _ _)⟩
        case measure => simp [strLen, ByteArray.size]; omega
      · have hi0 : (60 : Int) - 4 * ((5 : Nat) : Int) = 40 := by decide
        have hi1 : (60 : Int) - 4 * ((5 + 1 : Nat) : Int) = 36 := by decide
        have HI1 := Lib.hid hi1
        rw [hi0]
        obtain ⟨sl, hsl⟩ : ∃ sl, sl = [48, 120] ++ hexK (U / 16 ^ (16 - 5)) 5 := ⟨_, rfl⟩
        have HSL := Lib.hid hsl
        have hsn : sl.length = 7 := by rw [hsl]; simp [hexK_len]
        rw [← hsl]
        obtain ⟨D, hDe⟩ : ∃ D, D = U / 1099511627776 % 16 := ⟨_, rfl⟩
        have HDE := Lib.hid hDe
        have hD : D < 16 := by rw [hDe]; exact Nat.mod_lt _ (by decide)
        have hD' : (D : Int) < 16 := by omega
        have e15 : bits BinOp.and IntKind.u64 ((U : Int) / 1099511627776) 15 = (D : Int) := by
          have := and15 (U / 1099511627776) (by have := HU.out; omega)
          rw [hDe]
          simpa using this
        have cv : ∀ h, (convert 59 9 (.slice (some ⟨wr.heap.size, 0, none⟩) 1 1)).run Tryd.prog (wr.alloc (.cells #[.int .u8 (((⟨#[48, 49, 50, 51, 52, 53, 54, 55, 56, 57, 97, 98, 99, 100, 101, 102]⟩ : ByteArray)[D]'h).toNat : Int)] 5)) = .ok (.string ⟨#[hx D]⟩) (wr.alloc (.cells #[.int .u8 (((⟨#[48, 49, 50, 51, 52, 53, 54, 55, 56, 57, 97, 98, 99, 100, 101, 102]⟩ : ByteArray)[D]'h).toNat : Int)] 5)) := fun h => by
          rw [hx16_at D hD h]
          exact back_one (wr.alloc (.cells #[.int .u8 ((hx D).toNat : Int)] 5)) (hx D) 1 wr.heap.size (by rw [cell_one])
        have c2 : ¬ 9223372036854775807 < sl.length + 1 := by omega
        have CA : Hid ((⟨sl.toArray⟩ : ByteArray) ++ ⟨#[hx D]⟩ = ⟨(sl ++ [hx D]).toArray⟩) := Lib.hid (eqB (by rw [catB]))
        have HN : Hid (sl ++ [hx D] = [48, 120] ++ hexK (U / 16 ^ (16 - (5 + 1))) (5 + 1)) := Lib.hid (by
          rw [hsl, hDe]
          simp only [hexK]
          first
            | rfl
            | (rw [show U / 16 ^ (16 - (5 + 1)) / 16 = U / 16 ^ (16 - 5) by rw [Nat.div_div_eq_div_mul], List.append_assoc]; done))
        clear hi0 hi1 hsl hDe
        go_wp2_with fail
        rw [CA.out]
        go_roundw
        case rel => exact ⟨5 + 1, by omega, by rw [HN.out], by first | rfl | (rw [HI1.out]; done) | (rw [HI1.out]; rfl), Lib.hid (HF.out.alloc _ _)⟩
        case measure => simp [strLen, ByteArray.size]; omega
      · have hi0 : (60 : Int) - 4 * ((6 : Nat) : Int) = 36 := by decide
        have hi1 : (60 : Int) - 4 * ((6 + 1 : Nat) : Int) = 32 := by decide
        have HI1 := Lib.hid hi1
        rw [hi0]
        obtain ⟨sl, hsl⟩ : ∃ sl, sl = [48, 120] ++ hexK (U / 16 ^ (16 - 6)) 6 := ⟨_, rfl⟩
        have HSL := Lib.hid hsl
        have hsn : sl.length = 8 := by rw [hsl]; simp [hexK_len]
        rw [← hsl]
        obtain ⟨D, hDe⟩ : ∃ D, D = U / 68719476736 % 16 := ⟨_, rfl⟩
        have HDE := Lib.hid hDe
        have hD : D < 16 := by rw [hDe]; exact Nat.mod_lt _ (by decide)
        have hD' : (D : Int) < 16 := by omega
        have e15 : bits BinOp.and IntKind.u64 ((U : Int) / 68719476736) 15 = (D : Int) := by
          have := and15 (U / 68719476736) (by have := HU.out; omega)
          rw [hDe]
          simpa using this
        have cv : ∀ h, (convert 59 9 (.slice (some ⟨wr.heap.size, 0, none⟩) 1 1)).run Tryd.prog (wr.alloc (.cells #[.int .u8 (((⟨#[48, 49, 50, 51, 52, 53, 54, 55, 56, 57, 97, 98, 99, 100, 101, 102]⟩ : ByteArray)[D]'h).toNat : Int)] 5)) = .ok (.string ⟨#[hx D]⟩) (wr.alloc (.cells #[.int .u8 (((⟨#[48, 49, 50, 51, 52, 53, 54, 55, 56, 57, 97, 98, 99, 100, 101, 102]⟩ : ByteArray)[D]'h).toNat : Int)] 5)) := fun h => by
          rw [hx16_at D hD h]
          exact back_one (wr.alloc (.cells #[.int .u8 ((hx D).toNat : Int)] 5)) (hx D) 1 wr.heap.size (by rw [cell_one])
        have c2 : ¬ 9223372036854775807 < sl.length + 1 := by omega
        have CA : Hid ((⟨sl.toArray⟩ : ByteArray) ++ ⟨#[hx D]⟩ = ⟨(sl ++ [hx D]).toArray⟩) := Lib.hid (eqB (by rw [catB]))
        have HN : Hid (sl ++ [hx D] = [48, 120] ++ hexK (U / 16 ^ (16 - (6 + 1))) (6 + 1)) := Lib.hid (by
          rw [hsl, hDe]
          simp only [hexK]
          first
            | rfl
            | (rw [show U / 16 ^ (16 - (6 + 1)) / 16 = U / 16 ^ (16 - 6) by rw [Nat.div_div_eq_div_mul], List.append_assoc]; done))
        clear hi0 hi1 hsl hDe
        go_wp2_with fail
        rw [CA.out]
        go_roundw
        case rel => exact ⟨6 + 1, by omega, by rw [HN.out], by first | rfl | (rw [HI1.out]; done) | (rw [HI1.out]; rfl), Lib.hid (HF.out.alloc _ _)⟩
        case measure => simp [strLen, ByteArray.size]; omega
      · have hi0 : (60 : Int) - 4 * ((7 : Nat) : Int) = 32 := by decide
        have hi1 : (60 : Int) - 4 * ((7 + 1 : Nat) : Int) = 28 := by decide
        have HI1 := Lib.hid hi1
        rw [hi0]
        obtain ⟨sl, hsl⟩ : ∃ sl, sl = [48, 120] ++ hexK (U / 16 ^ (16 - 7)) 7 := ⟨_, rfl⟩
        have HSL := Lib.hid hsl
        have hsn : sl.length = 9 := by rw [hsl]; simp [hexK_len]
        rw [← hsl]
        obtain ⟨D, hDe⟩ : ∃ D, D = U / 4294967296 % 16 := ⟨_, rfl⟩
        have HDE := Lib.hid hDe
        have hD : D < 16 := by rw [hDe]; exact Nat.mod_lt _ (by decide)
        have hD' : (D : Int) < 16 := by omega
        have e15 : bits BinOp.and IntKind.u64 ((U : Int) / 4294967296) 15 = (D : Int) := by
          have := and15 (U / 4294967296) (by have := HU.out; omega)
          rw [hDe]
          simpa using this
        have cv : ∀ h, (convert 59 9 (.slice (some ⟨wr.heap.size, 0, none⟩) 1 1)).run Tryd.prog (wr.alloc (.cells #[.int .u8 (((⟨#[48, 49, 50, 51, 52, 53, 54, 55, 56, 57, 97, 98, 99, 100, 101, 102]⟩ : ByteArray)[D]'h).toNat : Int)] 5)) = .ok (.string ⟨#[hx D]⟩) (wr.alloc (.cells #[.int .u8 (((⟨#[48, 49, 50, 51, 52, 53, 54, 55, 56, 57, 97, 98, 99, 100, 101, 102]⟩ : ByteArray)[D]'h).toNat : Int)] 5)) := fun h => by
          rw [hx16_at D hD h]
          exact back_one (wr.alloc (.cells #[.int .u8 ((hx D).toNat : Int)] 5)) (hx D) 1 wr.heap.size (by rw [cell_one])
        have c2 : ¬ 9223372036854775807 < sl.length + 1 := by omega
        have CA : Hid ((⟨sl.toArray⟩ : ByteArray) ++ ⟨#[hx D]⟩ = ⟨(sl ++ [hx D]).toArray⟩) := Lib.hid (eqB (by rw [catB]))
        have HN : Hid (sl ++ [hx D] = [48, 120] ++ hexK (U / 16 ^ (16 - (7 + 1))) (7 + 1)) := Lib.hid (by
          rw [hsl, hDe]
          simp only [hexK]
          first
            | rfl
            | (rw [show U / 16 ^ (16 - (7 + 1)) / 16 = U / 16 ^ (16 - 7) by rw [Nat.div_div_eq_div_mul], List.append_assoc]; done))
        clear hi0 hi1 hsl hDe
        go_wp2_with fail
        rw [CA.out]
        go_roundw
        case rel => exact ⟨7 + 1, by omega, by rw [HN.out], by first | rfl | (rw [HI1.out]; done) | (rw [HI1.out]; rfl), Lib.hid (HF.out.alloc _ _)⟩
        case measure => simp [strLen, ByteArray.size]; omega
      · have hi0 : (60 : Int) - 4 * ((8 : Nat) : Int) = 28 := by decide
        have hi1 : (60 : Int) - 4 * ((8 + 1 : Nat) : Int) = 24 := by decide
        have HI1 := Lib.hid hi1
        rw [hi0]
        obtain ⟨sl, hsl⟩ : ∃ sl, sl = [48, 120] ++ hexK (U / 16 ^ (16 - 8)) 8 := ⟨_, rfl⟩
        have HSL := Lib.hid hsl
        have hsn : sl.length = 10 := by rw [hsl]; simp [hexK_len]
        rw [← hsl]
        obtain ⟨D, hDe⟩ : ∃ D, D = U / 268435456 % 16 := ⟨_, rfl⟩
        have HDE := Lib.hid hDe
        have hD : D < 16 := by rw [hDe]; exact Nat.mod_lt _ (by decide)
        have hD' : (D : Int) < 16 := by omega
        have e15 : bits BinOp.and IntKind.u64 ((U : Int) / 268435456) 15 = (D : Int) := by
          have := and15 (U / 268435456) (by have := HU.out; omega)
          rw [hDe]
          simpa using this
        have cv : ∀ h, (convert 59 9 (.slice (some ⟨wr.heap.size, 0, none⟩) 1 1)).run Tryd.prog (wr.alloc (.cells #[.int .u8 (((⟨#[48, 49, 50, 51, 52, 53, 54, 55, 56, 57, 97, 98, 99, 100, 101, 102]⟩ : ByteArray)[D]'h).toNat : Int)] 5)) = .ok (.string ⟨#[hx D]⟩) (wr.alloc (.cells #[.int .u8 (((⟨#[48, 49, 50, 51, 52, 53, 54, 55, 56, 57, 97, 98, 99, 100, 101, 102]⟩ : ByteArray)[D]'h).toNat : Int)] 5)) := fun h => by
          rw [hx16_at D hD h]
          exact back_one (wr.alloc (.cells #[.int .u8 ((hx D).toNat : Int)] 5)) (hx D) 1 wr.heap.size (by rw [cell_one])
        have c2 : ¬ 9223372036854775807 < sl.length + 1 := by omega
        have CA : Hid ((⟨sl.toArray⟩ : ByteArray) ++ ⟨#[hx D]⟩ = ⟨(sl ++ [hx D]).toArray⟩) := Lib.hid (eqB (by rw [catB]))
        have HN : Hid (sl ++ [hx D] = [48, 120] ++ hexK (U / 16 ^ (16 - (8 + 1))) (8 + 1)) := Lib.hid (by
          rw [hsl, hDe]
          simp only [hexK]
          first
            | rfl
            | (rw [show U / 16 ^ (16 - (8 + 1)) / 16 = U / 16 ^ (16 - 8) by rw [Nat.div_div_eq_div_mul], List.append_assoc]; done))
        clear hi0 hi1 hsl hDe
        go_wp2_with fail
        rw [CA.out]
        go_roundw
        case rel => exact ⟨8 + 1, by omega, by rw [HN.out], by first | rfl | (rw [HI1.out]; done) | (rw [HI1.out]; rfl), Lib.hid (HF.out.alloc _ _)⟩
        case measure => simp [strLen, ByteArray.size]; omega
      · have hi0 : (60 : Int) - 4 * ((9 : Nat) : Int) = 24 := by decide
        have hi1 : (60 : Int) - 4 * ((9 + 1 : Nat) : Int) = 20 := by decide
        have HI1 := Lib.hid hi1
        rw [hi0]
        obtain ⟨sl, hsl⟩ : ∃ sl, sl = [48, 120] ++ hexK (U / 16 ^ (16 - 9)) 9 := ⟨_, rfl⟩
        have HSL := Lib.hid hsl
        have hsn : sl.length = 11 := by rw [hsl]; simp [hexK_len]
        rw [← hsl]
        obtain ⟨D, hDe⟩ : ∃ D, D = U / 16777216 % 16 := ⟨_, rfl⟩
        have HDE := Lib.hid hDe
        have hD : D < 16 := by rw [hDe]; exact Nat.mod_lt _ (by decide)
        have hD' : (D : Int) < 16 := by omega
        have e15 : bits BinOp.and IntKind.u64 ((U : Int) / 16777216) 15 = (D : Int) := by
          have := and15 (U / 16777216) (by have := HU.out; omega)
          rw [hDe]
          simpa using this
        have cv : ∀ h, (convert 59 9 (.slice (some ⟨wr.heap.size, 0, none⟩) 1 1)).run Tryd.prog (wr.alloc (.cells #[.int .u8 (((⟨#[48, 49, 50, 51, 52, 53, 54, 55, 56, 57, 97, 98, 99, 100, 101, 102]⟩ : ByteArray)[D]'h).toNat : Int)] 5)) = .ok (.string ⟨#[hx D]⟩) (wr.alloc (.cells #[.int .u8 (((⟨#[48, 49, 50, 51, 52, 53, 54, 55, 56, 57, 97, 98, 99, 100, 101, 102]⟩ : ByteArray)[D]'h).toNat : Int)] 5)) := fun h => by
          rw [hx16_at D hD h]
          exact back_one (wr.alloc (.cells #[.int .u8 ((hx D).toNat : Int)] 5)) (hx D) 1 wr.heap.size (by rw [cell_one])
        have c2 : ¬ 9223372036854775807 < sl.length + 1 := by omega
        have CA : Hid ((⟨sl.toArray⟩ : ByteArray) ++ ⟨#[hx D]⟩ = ⟨(sl ++ [hx D]).toArray⟩) := Lib.hid (eqB (by rw [catB]))
        have HN : Hid (sl ++ [hx D] = [48, 120] ++ hexK (U / 16 ^ (16 - (9 + 1))) (9 + 1)) := Lib.hid (by
          rw [hsl, hDe]
          simp only [hexK]
          first
            | rfl
            | (rw [show U / 16 ^ (16 - (9 + 1)) / 16 = U / 16 ^ (16 - 9) by rw [Nat.div_div_eq_div_mul], List.append_assoc]; done))
        clear hi0 hi1 hsl hDe
        go_wp2_with fail
        rw [CA.out]
        go_roundw
        case rel => exact ⟨9 + 1, by omega, by rw [HN.out], by first | rfl | (rw [HI1.out]; done) | (rw [HI1.out]; rfl), Lib.hid (HF.out.alloc _ _)⟩
        case measure => simp [strLen, ByteArray.size]; omega
      · have hi0 : (60 : Int) - 4 * ((10 : Nat) : Int) = 20 := by decide
        have hi1 : (60 : Int) - 4 * ((10 + 1 : Nat) : Int) = 16 := by decide
        have HI1 := Lib.hid hi1
        rw [hi0]
        obtain ⟨sl, hsl⟩ : ∃ sl, sl = [48, 120] ++ hexK (U / 16 ^ (16 - 10)) 10 := ⟨_, rfl⟩
        have HSL := Lib.hid hsl
        have hsn : sl.length = 12 := by rw [hsl]; simp [hexK_len]
        rw [← hsl]
        obtain ⟨D, hDe⟩ : ∃ D, D = U / 1048576 % 16 := ⟨_, rfl⟩
        have HDE := Lib.hid hDe
        have hD : D < 16 := by rw [hDe]; exact Nat.mod_lt _ (by decide)
        have hD' : (D : Int) < 16 := by omega
        have e15 : bits BinOp.and IntKind.u64 ((U : Int) / 1048576) 15 = (D : Int) := by
          have := and15 (U / 1048576) (by have := HU.out; omega)
          rw [hDe]
          simpa using this
        have cv : ∀ h, (convert 59 9 (.slice (some ⟨wr.heap.size, 0, none⟩) 1 1)).run Tryd.prog (wr.alloc (.cells #[.int .u8 (((⟨#[48, 49, 50, 51, 52, 53, 54, 55, 56, 57, 97, 98, 99, 100, 101, 102]⟩ : ByteArray)[D]'h).toNat : Int)] 5)) = .ok (.string ⟨#[hx D]⟩) (wr.alloc (.cells #[.int .u8 (((⟨#[48, 49, 50, 51, 52, 53, 54, 55, 56, 57, 97, 98, 99, 100, 101, 102]⟩ : ByteArray)[D]'h).toNat : Int)] 5)) := fun h => by
          rw [hx16_at D hD h]
          exact back_one (wr.alloc (.cells #[.int .u8 ((hx D).toNat : Int)] 5)) (hx D) 1 wr.heap.size (by rw [cell_one])
        have c2 : ¬ 9223372036854775807 < sl.length + 1 := by omega
        have CA : Hid ((⟨sl.toArray⟩ : ByteArray) ++ ⟨#[hx D]⟩ = ⟨(sl ++ [hx D]).toArray⟩) := Lib.hid (eqB (by rw [catB]))
        have HN : Hid (sl ++ [hx D] = [48, 120] ++ hexK (U / 16 ^ (16 - (10 + 1))) (10 + 1)) := Lib.hid (by
          rw [hsl, hDe]
          simp only [hexK]
          first
            | rfl
            | (rw [show U / 16 ^ (16 - (10 + 1)) / 16 = U / 16 ^ (16 - 10) by rw [Nat.div_div_eq_div_mul], List.append_assoc]; done))
        clear hi0 hi1 hsl hDe
        go_wp2_with fail
        rw [CA.out]
        go_roundw
        case rel => exact ⟨10 + 1, by omega, by rw [HN.out], by first | rfl | (rw [HI1.out]; done) | (rw [HI1.out]; rfl), Lib.hid (HF.out.alloc _ _)⟩
        case measure => simp [strLen, ByteArray.size]; omega
      · have hi0 : (60 : Int) - 4 * ((11 : Nat) : Int) = 16 := by decide
        have hi1 : (60 : Int) - 4 * ((11 + 1 : Nat) : Int) = 12 := by decide
        have HI1 := Lib.hid hi1
        rw [hi0]
        obtain ⟨sl, hsl⟩ : ∃ sl, sl = [48, 120] ++ hexK (U / 16 ^ (16 - 11)) 11 := ⟨_, rfl⟩
        have HSL := Lib.hid hsl
        have hsn : sl.length = 13 := by rw [hsl]; simp [hexK_len]
        rw [← hsl]
        obtain ⟨D, hDe⟩ : ∃ D, D = U / 65536 % 16 := ⟨_, rfl⟩
        have HDE := Lib.hid hDe
        have hD : D < 16 := by rw [hDe]; exact Nat.mod_lt _ (by decide)
        have hD' : (D : Int) < 16 := by omega
        have e15 : bits BinOp.and IntKind.u64 ((U : Int) / 65536) 15 = (D : Int) := by
          have := and15 (U / 65536) (by have := HU.out; omega)
          rw [hDe]
          simpa using this
        have cv : ∀ h, (convert 59 9 (.slice (some ⟨wr.heap.size, 0, none⟩) 1 1)).run Tryd.prog (wr.alloc (.cells #[.int .u8 (((⟨#[48, 49, 50, 51, 52, 53, 54, 55, 56, 57, 97, 98, 99, 100, 101, 102]⟩ : ByteArray)[D]'h).toNat : Int)] 5)) = .ok (.string ⟨#[hx D]⟩) (wr.alloc (.cells #[.int .u8 (((⟨#[48, 49, 50, 51, 52, 53, 54, 55, 56, 57, 97, 98, 99, 100, 101, 102]⟩ : ByteArray)[D]'h).toNat : Int)] 5)) := fun h => by
          rw [hx16_at D hD h]
          exact back_one (wr.alloc (.cells #[.int .u8 ((hx D).toNat : Int)] 5)) (hx D) 1 wr.heap.size (by rw [cell_one])
        have c2 : ¬ 9223372036854775807 < sl.length + 1 := by omega
        have CA : Hid ((⟨sl.toArray⟩ : ByteArray) ++ ⟨#[hx D]⟩ = ⟨(sl ++ [hx D]).toArray⟩) := Lib.hid (eqB (by rw [catB]))
        have HN : Hid (sl ++ [hx D] = [48, 120] ++ hexK (U / 16 ^ (16 - (11 + 1))) (11 + 1)) := Lib.hid (by
          rw [hsl, hDe]
          simp only [hexK]
          first
            | rfl
            | (rw [show U / 16 ^ (16 - (11 + 1)) / 16 = U / 16 ^ (16 - 11) by rw [Nat.div_div_eq_div_mul], List.append_assoc]; done))
        clear hi0 hi1 hsl hDe
        go_wp2_with fail
        rw [CA.out]
        go_roundw
        case rel => exact ⟨11 + 1, by omega, by rw [HN.out], by first | rfl | (rw [HI1.out]; done) | (rw [HI1.out]; rfl), Lib.hid (HF.out.alloc _ _)⟩
        case measure => simp [strLen, ByteArray.size]; omega
      · have hi0 : (60 : Int) - 4 * ((12 : Nat) : Int) = 12 := by decide
        have hi1 : (60 : Int) - 4 * ((12 + 1 : Nat) : Int) = 8 := by decide
        have HI1 := Lib.hid hi1
        rw [hi0]
        obtain ⟨sl, hsl⟩ : ∃ sl, sl = [48, 120] ++ hexK (U / 16 ^ (16 - 12)) 12 := ⟨_, rfl⟩
        have HSL := Lib.hid hsl
        have hsn : sl.length = 14 := by rw [hsl]; simp [hexK_len]
        rw [← hsl]
        obtain ⟨D, hDe⟩ : ∃ D, D = U / 4096 % 16 := ⟨_, rfl⟩
        have HDE := Lib.hid hDe
        have hD : D < 16 := by rw [hDe]; exact Nat.mod_lt _ (by decide)
        have hD' : (D : Int) < 16 := by omega
        have e15 : bits BinOp.and IntKind.u64 ((U : Int) / 4096) 15 = (D : Int) := by
          have := and15 (U / 4096) (by have := HU.out; omega)
          rw [hDe]
          simpa using this
        have cv : ∀ h, (convert 59 9 (.slice (some ⟨wr.heap.size, 0, none⟩) 1 1)).run Tryd.prog (wr.alloc (.cells #[.int .u8 (((⟨#[48, 49, 50, 51, 52, 53, 54, 55, 56, 57, 97, 98, 99, 100, 101, 102]⟩ : ByteArray)[D]'h).toNat : Int)] 5)) = .ok (.string ⟨#[hx D]⟩) (wr.alloc (.cells #[.int .u8 (((⟨#[48, 49, 50, 51, 52, 53, 54, 55, 56, 57, 97, 98, 99, 100, 101, 102]⟩ : ByteArray)[D]'h).toNat : Int)] 5)) := fun h => by
          rw [hx16_at D hD h]
          exact back_one (wr.alloc (.cells #[.int .u8 ((hx D).toNat : Int)] 5)) (hx D) 1 wr.heap.size (by rw [cell_one])
        have c2 : ¬ 9223372036854775807 < sl.length + 1 := by omega
        have CA : Hid ((⟨sl.toArray⟩ : ByteArray) ++ ⟨#[hx D]⟩ = ⟨(sl ++ [hx D]).toArray⟩) := Lib.hid (eqB (by rw [catB]))
        have HN : Hid (sl ++ [hx D] = [48, 120] ++ hexK (U / 16 ^ (16 - (12 + 1))) (12 + 1)) := Lib.hid (by
          rw [hsl, hDe]
          simp only [hexK]
          first
            | rfl
            | (rw [show U / 16 ^ (16 - (12 + 1)) / 16 = U / 16 ^ (16 - 12) by rw [Nat.div_div_eq_div_mul], List.append_assoc]; done))
        clear hi0 hi1 hsl hDe
        go_wp2_with fail
        rw [CA.out]
        go_roundw
        case rel => exact ⟨12 + 1, by omega, by rw [HN.out], by first | rfl | (rw [HI1.out]; done) | (rw [HI1.out]; rfl), Lib.hid (HF.out.alloc _ _)⟩
        case measure => simp [strLen, ByteArray.size]; omega
      · have hi0 : (60 : Int) - 4 * ((13 : Nat) : Int) = 8 := by decide
        have hi1 : (60 : Int) - 4 * ((13 + 1 : Nat) : Int) = 4 := by decide
        have HI1 := Lib.hid hi1
        rw [hi0]
        obtain ⟨sl, hsl⟩ : ∃ sl, sl = [48, 120] ++ hexK (U / 16 ^ (16 - 13)) 13 := ⟨_, rfl⟩
        have HSL := Lib.hid hsl
        have hsn : sl.length = 15 := by rw [hsl]; simp [hexK_len]
        rw [← hsl]
        obtain ⟨D, hDe⟩ : ∃ D, D = U / 256 % 16 := ⟨_, rfl⟩
        have HDE := Lib.hid hDe
        have hD : D < 16 := by rw [hDe]; exact Nat.mod_lt _ (by decide)
        have hD' : (D : Int) < 16 := by omega
        have e15 : bits BinOp.and IntKind.u64 ((U : Int) / 256) 15 = (D : Int) := by
          have := and15 (U / 256) (by have := HU.out; omega)
          rw [hDe]
          simpa using this
        have cv : ∀ h, (convert 59 9 (.slice (some ⟨wr.heap.size, 0, none⟩) 1 1)).run Tryd.prog (wr.alloc (.cells #[.int .u8 (((⟨#[48, 49, 50, 51, 52, 53, 54, 55, 56, 57, 97, 98, 99, 100, 101, 102]⟩ : ByteArray)[D]'h).toNat : Int)] 5)) = .ok (.string ⟨#[hx D]⟩) (wr.alloc (.cells #[.int .u8 (((⟨#[48, 49, 50, 51, 52, 53, 54, 55, 56, 57, 97, 98, 99, 100, 101, 102]⟩ : ByteArray)[D]'h).toNat : Int)] 5)) := fun h => by
          rw [hx16_at D hD h]
          exact back_one (wr.alloc (.cells #[.int .u8 ((hx D).toNat : Int)] 5)) (hx D) 1 wr.heap.size (by rw [cell_one])
        have c2 : ¬ 9223372036854775807 < sl.length + 1 := by omega
        have CA : Hid ((⟨sl.toArray⟩ : ByteArray) ++ ⟨#[hx D]⟩ = ⟨(sl ++ [hx D]).toArray⟩) := Lib.hid (eqB (by rw [catB]))
        have HN : Hid (sl ++ [hx D] = [48, 120] ++ hexK (U / 16 ^ (16 - (13 + 1))) (13 + 1)) := Lib.hid (by
          rw [hsl, hDe]
          simp only [hexK]
          first
            | rfl
            | (rw [show U / 16 ^ (16 - (13 + 1)) / 16 = U / 16 ^ (16 - 13) by rw [Nat.div_div_eq_div_mul], List.append_assoc]; done))
        clear hi0 hi1 hsl hDe
        go_wp2_with fail
        rw [CA.out]
        go_roundw
        case rel => exact ⟨13 + 1, by omega, by rw [HN.out], by first | rfl | (rw [HI1.out]; done) | (rw [HI1.out]; rfl), Lib.hid (HF.out.alloc _ _)⟩
        case measure => simp [strLen, ByteArray.size]; omega
      · have hi0 : (60 : Int) - 4 * ((14 : Nat) : Int) = 4 := by decide
        have hi1 : (60 : Int) - 4 * ((14 + 1 : Nat) : Int) = 0 := by decide
        have HI1 := Lib.hid hi1
        rw [hi0]
        obtain ⟨sl, hsl⟩ : ∃ sl, sl = [48, 120] ++ hexK (U / 16 ^ (16 - 14)) 14 := ⟨_, rfl⟩
        have HSL := Lib.hid hsl
        have hsn : sl.length = 16 := by rw [hsl]; simp [hexK_len]
        rw [← hsl]
        obtain ⟨D, hDe⟩ : ∃ D, D = U / 16 % 16 := ⟨_, rfl⟩
        have HDE := Lib.hid hDe
        have hD : D < 16 := by rw [hDe]; exact Nat.mod_lt _ (by decide)
        have hD' : (D : Int) < 16 := by omega
        have e15 : bits BinOp.and IntKind.u64 ((U : Int) / 16) 15 = (D : Int) := by
          have := and15 (U / 16) (by have := HU.out; omega)
          rw [hDe]
          simpa using this
        have cv : ∀ h, (convert 59 9 (.slice (some ⟨wr.heap.size, 0, none⟩) 1 1)).run Tryd.prog (wr.alloc (.cells #[.int .u8 (((⟨#[48, 49, 50, 51, 52, 53, 54, 55, 56, 57, 97, 98, 99, 100, 101, 102]⟩ : ByteArray)[D]'h).toNat : Int)] 5)) = .ok (.string ⟨#[hx D]⟩) (wr.alloc (.cells #[.int .u8 (((⟨#[48, 49, 50, 51, 52, 53, 54, 55, 56, 57, 97, 98, 99, 100, 101, 102]⟩ : ByteArray)[D]'h).toNat : Int)] 5)) := fun h => by
          rw [hx16_at D hD h]
          exact back_one (wr.alloc (.cells #[.int .u8 ((hx D).toNat : Int)] 5)) (hx D) 1 wr.heap.size (by rw [cell_one])
        have c2 : ¬ 9223372036854775807 < sl.length + 1 := by omega
        have CA : Hid ((⟨sl.toArray⟩ : ByteArray) ++ ⟨#[hx D]⟩ = ⟨(sl ++ [hx D]).toArray⟩) := Lib.hid (eqB (by rw [catB]))
        have HN : Hid (sl ++ [hx D] = [48, 120] ++ hexK (U / 16 ^ (16 - (14 + 1))) (14 + 1)) := Lib.hid (by
          rw [hsl, hDe]
          simp only [hexK]
          first
            | rfl
            | (rw [show U / 16 ^ (16 - (14 + 1)) / 16 = U / 16 ^ (16 - 14) by rw [Nat.div_div_eq_div_mul], List.append_assoc]; done))
        clear hi0 hi1 hsl hDe
        go_wp2_with fail
        rw [CA.out]
        go_roundw
        case rel => exact ⟨14 + 1, by omega, by rw [HN.out], by first | rfl | (rw [HI1.out]; done) | (rw [HI1.out]; rfl), Lib.hid (HF.out.alloc _ _)⟩
        case measure => simp [strLen, ByteArray.size]; omega
      · have hi0 : (60 : Int) - 4 * ((15 : Nat) : Int) = 0 := by decide
        have hi1 : (60 : Int) - 4 * ((15 + 1 : Nat) : Int) = -4 := by decide
        have HI1 := Lib.hid hi1
        rw [hi0]
        obtain ⟨sl, hsl⟩ : ∃ sl, sl = [48, 120] ++ hexK (U / 16 ^ (16 - 15)) 15 := ⟨_, rfl⟩
        have HSL := Lib.hid hsl
        have hsn : sl.length = 17 := by rw [hsl]; simp [hexK_len]
        rw [← hsl]
        obtain ⟨D, hDe⟩ : ∃ D, D = U / 1 % 16 := ⟨_, rfl⟩
        have HDE := Lib.hid hDe
        have hD : D < 16 := by rw [hDe]; exact Nat.mod_lt _ (by decide)
        have hD' : (D : Int) < 16 := by omega
        have e15 : bits BinOp.and IntKind.u64 ((U : Int)) 15 = (D : Int) := by
          have := and15 (U / 1) (by have := HU.out; omega)
          rw [hDe]
          simpa using this
        have cv : ∀ h, (convert 59 9 (.slice (some ⟨wr.heap.size, 0, none⟩) 1 1)).run Tryd.prog (wr.alloc (.cells #[.int .u8 (((⟨#[48, 49, 50, 51, 52, 53, 54, 55, 56, 57, 97, 98, 99, 100, 101, 102]⟩ : ByteArray)[D]'h).toNat : Int)] 5)) = .ok (.string ⟨#[hx D]⟩) (wr.alloc (.cells #[.int .u8 (((⟨#[48, 49, 50, 51, 52, 53, 54, 55, 56, 57, 97, 98, 99, 100, 101, 102]⟩ : ByteArray)[D]'h).toNat : Int)] 5)) := fun h => by
          rw [hx16_at D hD h]
          exact back_one (wr.alloc (.cells #[.int .u8 ((hx D).toNat : Int)] 5)) (hx D) 1 wr.heap.size (by rw [cell_one])
        have c2 : ¬ 9223372036854775807 < sl.length + 1 := by omega
        have CA : Hid ((⟨sl.toArray⟩ : ByteArray) ++ ⟨#[hx D]⟩ = ⟨(sl ++ [hx D]).toArray⟩) := Lib.hid (eqB (by rw [catB]))
        have HN : Hid (sl ++ [hx D] = [48, 120] ++ hexK (U / 16 ^ (16 - (15 + 1))) (15 + 1)) := Lib.hid (by
          rw [hsl, hDe]
          simp only [hexK]
          first
            | rfl
            | (rw [show U / 16 ^ (16 - (15 + 1)) / 16 = U / 16 ^ (16 - 15) by rw [Nat.div_div_eq_div_mul], List.append_assoc]; done))
        clear hi0 hi1 hsl hDe
        go_wp2_with fail
        rw [CA.out]
        go_roundw
        case rel => exact ⟨15 + 1, by omega, by rw [HN.out], by first | rfl | (rw [HI1.out]; done) | (rw [HI1.out]; rfl), Lib.hid (HF.out.alloc _ _)⟩
        case measure => simp [strLen, ByteArray.size]; omega
    · obtain rfl : k = 16 := by omega
      have he : U / 16 ^ (16 - 16) = U := by simp
      rw [he]
      have hi16 : (60 : Int) - 4 * ((16 : Nat) : Int) = -4 := by decide
      rw [hi16]
      go_wp2_with fail
      go_returns
      exact ⟨rfl, F0.out.trans HF.out⟩
end Go.Proofs.YtjbflmpnmobngaaDoor
