/- strconv.ParseUint in eights and in sixteens. -/
import Derived.Test.YtcmfmfgedhfaeaaGreatDoorLa
import Derived.Test.YtcmfmfgedhfaeaaGreatDoorPc
import Derived.Lib.Strings
import Derived.Lib.Walk
import Derived.Lib.ConvBytes
import Derived.Lib.ParseIntBMem
import Derived.Lib.Hide
import Derived.Laws.Strings3
import Derived.Laws.Closers25
import Derived.Laws.Closers25b
import Derived.WalkKit
import Derived.BigCall
import Derived.BigGuard
namespace Go.Proofs.YtcmfmfgedhfaeaaGreatDoor
set_option linter.unusedSimpArgs false
set_option linter.unusedVariables false
open Go.RowKit

theorem lower_own (c : Int) (w : World) : Calls Tryz.prog 47 #[.int .u8 c] w fun e w' => e = .returned (.int .u8 (bits .or .u8 c 32)) ∧ w' = w := by
  go_enter Tryz.func47, Tryz.ntmps47
  go_wp2
  go_ret
  exact ⟨rfl, rfl⟩
theorem low_fin : ∀ n : Fin 256, bits .or .u8 (n.val : Int) 32 = ((n.val ||| 32 : Nat) : Int) ∧ (n.val ||| 32) < 256 ∧ (97 ≤ (n.val ||| 32) ∧ (n.val ||| 32) ≤ 122 → 65 ≤ n.val ∧ n.val ≠ 95) := by decide +kernel
theorem low_eq (c : UInt8) : bits .or .u8 (c.toNat : Int) 32 = ((c.toNat ||| 32 : Nat) : Int) := (low_fin ⟨c.toNat, c.toNat_lt⟩).1
theorem low_256 (c : UInt8) : (c.toNat ||| 32) < 256 := (low_fin ⟨c.toNat, c.toNat_lt⟩).2.1
theorem let_of (c : UInt8) (h : 97 ≤ (c.toNat ||| 32) ∧ (c.toNat ||| 32) ≤ 122) : 65 ≤ c.toNat ∧ c.toNat ≠ 95 := (low_fin ⟨c.toNat, c.toNat_lt⟩).2.2 h
set_option maxHeartbeats 32000000 in
set_option maxRecDepth 100000 in
theorem pu16_any (t : ByteArray) (hne : t.size ≠ 0) (hmax : t.size ≤ 9223372036854775806) (w : World) :
    Calls Tryz.prog 34 #[.string t, .int .i64 16, .int .i64 64] w fun e w' => e = .returned (Lib.uintTupleM 67 18446744073709551615 (puB 16 1152921504606846976 18446744073709551615 0 t.data.toList)) ∧ w' = Lib.bytesWorld w 5 t := by
  have hemp : t.toList.isEmpty = false := by
    rw [← decide_eq_emptyBytes]
    exact decide_eq_false (fun h => hne (by rw [h]; rfl))
  have hcv := Lib.run_convert_string_bytes (P := Tryz.prog) w 9 34 5 t (u := .string) Tryz.underlying9 Tryz.underlying34 Tryz.underlying5
  have hB : ∀ j, j < t.size → (Lib.bytesWorld w 5 t).cell? ⟨w.heap.size, j, none⟩ = some (.int .u8 (t.data.toList.getD j 0).toNat) := fun j hj => Lib.bytesWorld_cell w 5 t j hj
  obtain ⟨W1, hW1⟩ : ∃ W1, W1 = Lib.bytesWorld w 5 t := ⟨_, rfl⟩
  rw [← hW1] at hcv hB ⊢
  clear hW1
  obtain ⟨bs, hL⟩ : ∃ bs, bs = t.data.toList := ⟨_, rfl⟩
  have hLn : bs.length = t.size := by rw [hL, Lib.size_eq]
  rw [← hL] at hB ⊢
  clear hL
  have hmv : IntKind.u64.wrap (IntKind.u64.wrap 18446744073709551616 - 1) = 18446744073709551615 := by
    rw [IntKind.wrap_u64, IntKind.wrap_u64]
    decide
  go_enter Tryz.func34, Tryz.ntmps34
  go_wp2
  go_loop [12, 13, 101] (fun vu vn vi => ∃ (k acc : Nat) (a : Int), vu = .bool false ∧ vn = .int .u64 a ∧ vi = .int .i64 k ∧ k ≤ t.size ∧ Hid (a = (acc : Int) ∧ acc ≤ 18446744073709551615 ∧ puB 16 1152921504606846976 18446744073709551615 0 bs = puB 16 1152921504606846976 18446744073709551615 acc (bs.drop k)))
    (fun _ _ vi => t.size - (intOf vi).toNat)
  case atStart => exact ⟨0, 0, 0, rfl, rfl, rfl, by omega, rfl, by omega, rfl⟩
  case round =>
    obtain ⟨k, acc, a, rfl, rfl, rfl, hk, hh⟩ := hrel
    obtain ⟨ha, hacc, hdec⟩ := hh.out
    clear hh
    have a0 : 0 ≤ a := by omega
    have a1 : a ≤ 18446744073709551615 := by omega
    by_cases hkn : k < t.size
    · have hc := hB k hkn
      have hdrop : bs.drop k = bs[k]'(by omega) :: bs.drop (k + 1) := List.drop_eq_getElem_cons (by omega)
      have hget : bs.getD k 0 = bs[k]'(by omega) := by simp [List.getD, List.getElem?_eq_getElem (show k < bs.length by omega)]
      rw [hdrop] at hdec
      rw [hget] at hc
      generalize bs[k]'(by omega) = c at hc hdec
      have hc256 : c.toNat < 256 := c.toNat_lt
      clear hB hdrop hget
      by_cases hdig : 48 ≤ c.toNat ∧ c.toNat ≤ 57
      · have HDV : Hid (digV c.toNat = c.toNat - 48) := Lib.hid (by simp [digV, hdig])
        obtain ⟨hd0, hd1⟩ := hdig
        have HDN : Hid (48 ≤ c.toNat ∧ c.toNat ≤ 57) := Lib.hid ⟨hd0, hd1⟩
        have hbase : ¬ 16 ≤ (c.toNat - 48) := by have := HDN.out; omega
        have ibase : ((c.toNat : Int) - 48 : Int) < 16 := by have := HDN.out; omega
        by_cases hcut : 1152921504606846976 ≤ acc
        · have hF : puB 16 1152921504606846976 18446744073709551615 acc (c :: bs.drop (k + 1)) = .range := by simp only [puB]; rw [HDV.out, if_neg hbase, if_pos hcut]
          rw [hF] at hdec
          have icut : 1152921504606846976 ≤ a := by omega
          clear hcut hacc hF ha hbase
          go_wp2
          go_ret2
          first | exact ⟨rfl, rfl⟩ | exact ⟨by rw [hdec]; rfl, rfl⟩
        · have icut : a < 1152921504606846976 := by omega
          have hov : ¬ 18446744073709551615 < acc * 16 + (c.toNat - 48) := by have := HDN.out; omega
          have hF : puB 16 1152921504606846976 18446744073709551615 acc (c :: bs.drop (k + 1)) = puB 16 1152921504606846976 18446744073709551615 (acc * 16 + (c.toNat - 48)) (bs.drop (k + 1)) := by simp only [puB]; rw [HDV.out, if_neg hbase, if_neg hcut, if_neg hov]
          have HN : Hid (a * 16 + ((c.toNat : Int) - 48) = ((acc * 16 + (c.toNat - 48) : Nat) : Int) ∧ acc * 16 + (c.toNat - 48) ≤ 18446744073709551615 ∧ puB 16 1152921504606846976 18446744073709551615 0 bs = puB 16 1152921504606846976 18446744073709551615 (acc * 16 + (c.toNat - 48)) (bs.drop (k + 1))) := Lib.hid ⟨by have := HDN.out; omega, by have := HDN.out; omega, hdec.trans hF⟩
          have iov : a * 16 + ((c.toNat : Int) - 48) < 18446744073709551616 := by have := HDN.out; omega
          clear hcut hacc hF hov hdec ha hbase
          go_wp2
          refine ⟨⟨k + 1, acc * 16 + (c.toNat - 48), a * 16 + ((c.toNat : Int) - 48), rfl, (by first | rfl | (congr 1; omega)), (by first | rfl | (congr 1; omega)), by omega, HN⟩, by simp [intOf]; omega⟩
      · have LX := Lib.hid (low_eq c)
        obtain ⟨X, hX⟩ : ∃ X : Int, X = bits .or .u8 (c.toNat : Int) 32 := ⟨_, rfl⟩
        have low_X : ∀ W, Calls Tryz.prog 47 #[.int .u8 (c.toNat : Int)] W fun e w' => e = .returned (.int .u8 X) ∧ W = w' := fun W => (lower_own _ W).mono (by rintro e w' ⟨rfl, rfl⟩; exact ⟨by rw [hX], rfl⟩)
        have HX : Hid (X = ((c.toNat ||| 32 : Nat) : Int)) := Lib.hid (by rw [hX]; exact LX.out)
        clear hX LX
        by_cases hlet : 97 ≤ (c.toNat ||| 32) ∧ (c.toNat ||| 32) ≤ 122
        · have HDV : Hid (digV c.toNat = (c.toNat ||| 32) - 87) := Lib.hid (by simp [digV, hdig, hlet])
          have HDN : Hid (97 ≤ (c.toNat ||| 32) ∧ (c.toNat ||| 32) ≤ 122 ∧ X = ((c.toNat ||| 32 : Nat) : Int)) := Lib.hid ⟨hlet.1, hlet.2, HX.out⟩
          have x0 : 97 ≤ X := by have := HX.out; omega
          have x1 : X ≤ 122 := by have := HX.out; omega
          have hcl := let_of c hlet
          have c0 : 48 ≤ (c.toNat : Int) := by omega
          have c1 : ¬ (c.toNat : Int) ≤ 57 := by omega
          have c2 : ((c.toNat : Int) == 95) = false := by simp only [beq_eq_false_iff_ne]; omega
          clear hdig hlet hcl
          by_cases hbase : 16 ≤ ((c.toNat ||| 32) - 87)
          · have hF : puB 16 1152921504606846976 18446744073709551615 acc (c :: bs.drop (k + 1)) = Lib.NumEnd.syntax := by simp only [puB]; rw [HDV.out, if_pos hbase]
            rw [hF] at hdec
            have ibase : (16 : Int) ≤ X - 97 + 10 := by have := HDN.out; omega
            clear hacc hF ha hbase
            go_wp2_with (go_at_call 47; refine (low_X _).mono ?_; rintro e w' ⟨rfl, rfl⟩)
            go_ret2
            first | exact ⟨rfl, rfl⟩ | exact ⟨by rw [hdec]; rfl, rfl⟩
          · have ibase : (X - 97 + 10 : Int) < 16 := by have := HDN.out; omega
            by_cases hcut : 1152921504606846976 ≤ acc
            · have hF : puB 16 1152921504606846976 18446744073709551615 acc (c :: bs.drop (k + 1)) = .range := by simp only [puB]; rw [HDV.out, if_neg hbase, if_pos hcut]
              rw [hF] at hdec
              have icut : 1152921504606846976 ≤ a := by omega
              clear hcut hacc hF ha hbase
              go_wp2_with (go_at_call 47; refine (low_X _).mono ?_; rintro e w' ⟨rfl, rfl⟩)
              go_ret2
              first | exact ⟨rfl, rfl⟩ | exact ⟨by rw [hdec]; rfl, rfl⟩
            · have icut : a < 1152921504606846976 := by omega
              have hov : ¬ 18446744073709551615 < acc * 16 + ((c.toNat ||| 32) - 87) := by have := HDN.out; omega
              have hF : puB 16 1152921504606846976 18446744073709551615 acc (c :: bs.drop (k + 1)) = puB 16 1152921504606846976 18446744073709551615 (acc * 16 + ((c.toNat ||| 32) - 87)) (bs.drop (k + 1)) := by simp only [puB]; rw [HDV.out, if_neg hbase, if_neg hcut, if_neg hov]
              have HN : Hid (a * 16 + (X - 97 + 10) = ((acc * 16 + ((c.toNat ||| 32) - 87) : Nat) : Int) ∧ acc * 16 + ((c.toNat ||| 32) - 87) ≤ 18446744073709551615 ∧ puB 16 1152921504606846976 18446744073709551615 0 bs = puB 16 1152921504606846976 18446744073709551615 (acc * 16 + ((c.toNat ||| 32) - 87)) (bs.drop (k + 1))) := Lib.hid ⟨by have := HDN.out; omega, by have := HDN.out; omega, hdec.trans hF⟩
              have iov : a * 16 + (X - 97 + 10) < 18446744073709551616 := by have := HDN.out; omega
              clear hcut hacc hF hov hdec ha hbase
              go_wp2_with (go_at_call 47; refine (low_X _).mono ?_; rintro e w' ⟨rfl, rfl⟩)
              refine ⟨⟨k + 1, acc * 16 + ((c.toNat ||| 32) - 87), a * 16 + (X - 97 + 10), rfl, (by first | rfl | (congr 1; omega)), (by first | rfl | (congr 1; omega)), by omega, HN⟩, by simp [intOf]; omega⟩
        · have hF : puB 16 1152921504606846976 18446744073709551615 acc (c :: bs.drop (k + 1)) = Lib.NumEnd.syntax := by simp only [puB]; rw [show digV c.toNat = 255 by simp [digV, hdig, hlet], if_pos (by omega)]
          rw [hF] at hdec
          have hx : X < 97 ∨ 122 < X := by have := HX.out; omega
          have x256 := low_256 c
          have x0 : 0 ≤ X := by have := HX.out; omega
          have x9 : X < 256 := by have := HX.out; omega
          clear hacc hF ha x256
          have hcc : (c.toNat : Int) = 95 ∨ ((c.toNat : Int) == 95) = false := by simp only [beq_eq_false_iff_ne]; omega
          have hdd : (c.toNat : Int) < 48 ∨ (48 ≤ (c.toNat : Int) ∧ 57 < (c.toNat : Int)) := by omega
          clear hdig hlet
          obtain ⟨C, hC⟩ : ∃ C : Int, C = (c.toNat : Int) := ⟨_, rfl⟩
          rw [← hC] at low_X hc hcc hdd
          have C0 : 0 ≤ C := by omega
          have C1 : C < 256 := by omega
          clear hC HX
          rcases hcc with rfl | hcc
          all_goals rcases hx with hx | hx
          all_goals rcases hdd with hdd | ⟨hd0, hd1⟩
          all_goals first | (exfalso; omega) | skip
          all_goals go_wp2_with (go_at_call 47; refine (low_X _).mono ?_; rintro e w' ⟨rfl, rfl⟩)
          all_goals go_ret2
          all_goals first | exact ⟨rfl, rfl⟩ | exact ⟨by rw [hdec]; rfl, rfl⟩
    · have hkk : k = t.size := by omega
      subst hkk
      have hF : puB 16 1152921504606846976 18446744073709551615 acc (bs.drop t.size) = .ok acc := by rw [List.drop_eq_nil_of_le (by omega)]; rfl
      rw [hF] at hdec
      subst ha
      clear hacc hF a0 a1
      go_wp2
      go_ret2
      first | exact ⟨rfl, rfl⟩ | exact ⟨by rw [hdec]; rfl, rfl⟩
set_option maxHeartbeats 32000000 in
set_option maxRecDepth 100000 in
theorem pu8_any (t : ByteArray) (hne : t.size ≠ 0) (hmax : t.size ≤ 9223372036854775806) (w : World) :
    Calls Tryz.prog 34 #[.string t, .int .i64 8, .int .i64 64] w fun e w' => e = .returned (Lib.uintTupleM 67 18446744073709551615 (puB 8 2305843009213693952 18446744073709551615 0 t.data.toList)) ∧ w' = Lib.bytesWorld w 5 t := by
  have hemp : t.toList.isEmpty = false := by
    rw [← decide_eq_emptyBytes]
    exact decide_eq_false (fun h => hne (by rw [h]; rfl))
  have hcv := Lib.run_convert_string_bytes (P := Tryz.prog) w 9 34 5 t (u := .string) Tryz.underlying9 Tryz.underlying34 Tryz.underlying5
  have hB : ∀ j, j < t.size → (Lib.bytesWorld w 5 t).cell? ⟨w.heap.size, j, none⟩ = some (.int .u8 (t.data.toList.getD j 0).toNat) := fun j hj => Lib.bytesWorld_cell w 5 t j hj
  obtain ⟨W1, hW1⟩ : ∃ W1, W1 = Lib.bytesWorld w 5 t := ⟨_, rfl⟩
  rw [← hW1] at hcv hB ⊢
  clear hW1
  obtain ⟨bs, hL⟩ : ∃ bs, bs = t.data.toList := ⟨_, rfl⟩
  have hLn : bs.length = t.size := by rw [hL, Lib.size_eq]
  rw [← hL] at hB ⊢
  clear hL
  have hmv : IntKind.u64.wrap (IntKind.u64.wrap 18446744073709551616 - 1) = 18446744073709551615 := by
    rw [IntKind.wrap_u64, IntKind.wrap_u64]
    decide
  go_enter Tryz.func34, Tryz.ntmps34
  go_wp2
  go_loop [12, 13, 101] (fun vu vn vi => ∃ (k acc : Nat) (a : Int), vu = .bool false ∧ vn = .int .u64 a ∧ vi = .int .i64 k ∧ k ≤ t.size ∧ Hid (a = (acc : Int) ∧ acc ≤ 18446744073709551615 ∧ puB 8 2305843009213693952 18446744073709551615 0 bs = puB 8 2305843009213693952 18446744073709551615 acc (bs.drop k)))
    (fun _ _ vi => t.size - (intOf vi).toNat)
  case atStart => exact ⟨0, 0, 0, rfl, rfl, rfl, by omega, rfl, by omega, rfl⟩
  case round =>
    obtain ⟨k, acc, a, rfl, rfl, rfl, hk, hh⟩ := hrel
    obtain ⟨ha, hacc, hdec⟩ := hh.out
    clear hh
    have a0 : 0 ≤ a := by omega
    have a1 : a ≤ 18446744073709551615 := by omega
    by_cases hkn : k < t.size
    · have hc := hB k hkn
      have hdrop : bs.drop k = bs[k]'(by omega) :: bs.drop (k + 1) := List.drop_eq_getElem_cons (by omega)
      have hget : bs.getD k 0 = bs[k]'(by omega) := by simp [List.getD, List.getElem?_eq_getElem (show k < bs.length by omega)]
      rw [hdrop] at hdec
      rw [hget] at hc
      generalize bs[k]'(by omega) = c at hc hdec
      have hc256 : c.toNat < 256 := c.toNat_lt
      clear hB hdrop hget
      by_cases hdig : 48 ≤ c.toNat ∧ c.toNat ≤ 57
      · have HDV : Hid (digV c.toNat = c.toNat - 48) := Lib.hid (by simp [digV, hdig])
        obtain ⟨hd0, hd1⟩ := hdig
        have HDN : Hid (48 ≤ c.toNat ∧ c.toNat ≤ 57) := Lib.hid ⟨hd0, hd1⟩
        by_cases hbase : 8 ≤ (c.toNat - 48)
        · have hF : puB 8 2305843009213693952 18446744073709551615 acc (c :: bs.drop (k + 1)) = Lib.NumEnd.syntax := by simp only [puB]; rw [HDV.out, if_pos hbase]
          rw [hF] at hdec
          have ibase : (8 : Int) ≤ (c.toNat : Int) - 48 := by have := HDN.out; omega
          clear hacc hF ha hbase
          go_wp2
          go_ret2
          first | exact ⟨rfl, rfl⟩ | exact ⟨by rw [hdec]; rfl, rfl⟩
        · have ibase : ((c.toNat : Int) - 48 : Int) < 8 := by have := HDN.out; omega
          by_cases hcut : 2305843009213693952 ≤ acc
          · have hF : puB 8 2305843009213693952 18446744073709551615 acc (c :: bs.drop (k + 1)) = .range := by simp only [puB]; rw [HDV.out, if_neg hbase, if_pos hcut]
            rw [hF] at hdec
            have icut : 2305843009213693952 ≤ a := by omega
            clear hcut hacc hF ha hbase
            go_wp2
            go_ret2
            first | exact ⟨rfl, rfl⟩ | exact ⟨by rw [hdec]; rfl, rfl⟩
          · have icut : a < 2305843009213693952 := by omega
            have hov : ¬ 18446744073709551615 < acc * 8 + (c.toNat - 48) := by have := HDN.out; omega
            have hF : puB 8 2305843009213693952 18446744073709551615 acc (c :: bs.drop (k + 1)) = puB 8 2305843009213693952 18446744073709551615 (acc * 8 + (c.toNat - 48)) (bs.drop (k + 1)) := by simp only [puB]; rw [HDV.out, if_neg hbase, if_neg hcut, if_neg hov]
            have HN : Hid (a * 8 + ((c.toNat : Int) - 48) = ((acc * 8 + (c.toNat - 48) : Nat) : Int) ∧ acc * 8 + (c.toNat - 48) ≤ 18446744073709551615 ∧ puB 8 2305843009213693952 18446744073709551615 0 bs = puB 8 2305843009213693952 18446744073709551615 (acc * 8 + (c.toNat - 48)) (bs.drop (k + 1))) := Lib.hid ⟨by have := HDN.out; omega, by have := HDN.out; omega, hdec.trans hF⟩
            have iov : a * 8 + ((c.toNat : Int) - 48) < 18446744073709551616 := by have := HDN.out; omega
            clear hcut hacc hF hov hdec ha hbase
            go_wp2
            refine ⟨⟨k + 1, acc * 8 + (c.toNat - 48), a * 8 + ((c.toNat : Int) - 48), rfl, (by first | rfl | (congr 1; omega)), (by first | rfl | (congr 1; omega)), by omega, HN⟩, by simp [intOf]; omega⟩
      · have LX := Lib.hid (low_eq c)
        obtain ⟨X, hX⟩ : ∃ X : Int, X = bits .or .u8 (c.toNat : Int) 32 := ⟨_, rfl⟩
        have low_X : ∀ W, Calls Tryz.prog 47 #[.int .u8 (c.toNat : Int)] W fun e w' => e = .returned (.int .u8 X) ∧ W = w' := fun W => (lower_own _ W).mono (by rintro e w' ⟨rfl, rfl⟩; exact ⟨by rw [hX], rfl⟩)
        have HX : Hid (X = ((c.toNat ||| 32 : Nat) : Int)) := Lib.hid (by rw [hX]; exact LX.out)
        clear hX LX
        by_cases hlet : 97 ≤ (c.toNat ||| 32) ∧ (c.toNat ||| 32) ≤ 122
        · have HDV : Hid (digV c.toNat = (c.toNat ||| 32) - 87) := Lib.hid (by simp [digV, hdig, hlet])
          have HDN : Hid (97 ≤ (c.toNat ||| 32) ∧ (c.toNat ||| 32) ≤ 122 ∧ X = ((c.toNat ||| 32 : Nat) : Int)) := Lib.hid ⟨hlet.1, hlet.2, HX.out⟩
          have x0 : 97 ≤ X := by have := HX.out; omega
          have x1 : X ≤ 122 := by have := HX.out; omega
          have hcl := let_of c hlet
          have c0 : 48 ≤ (c.toNat : Int) := by omega
          have c1 : ¬ (c.toNat : Int) ≤ 57 := by omega
          have c2 : ((c.toNat : Int) == 95) = false := by simp only [beq_eq_false_iff_ne]; omega
          clear hdig hlet hcl
          have hF : puB 8 2305843009213693952 18446744073709551615 acc (c :: bs.drop (k + 1)) = Lib.NumEnd.syntax := by simp only [puB]; rw [HDV.out, if_pos (by have := HDN.out; omega)]
          rw [hF] at hdec
          have ibase : (8 : Int) ≤ X - 97 + 10 := by have := HDN.out; omega
          clear hacc hF ha
          go_wp2_with (go_at_call 47; refine (low_X _).mono ?_; rintro e w' ⟨rfl, rfl⟩)
          go_ret2
          first | exact ⟨rfl, rfl⟩ | exact ⟨by rw [hdec]; rfl, rfl⟩
        · have hF : puB 8 2305843009213693952 18446744073709551615 acc (c :: bs.drop (k + 1)) = Lib.NumEnd.syntax := by simp only [puB]; rw [show digV c.toNat = 255 by simp [digV, hdig, hlet], if_pos (by omega)]
          rw [hF] at hdec
          have hx : X < 97 ∨ 122 < X := by have := HX.out; omega
          have x256 := low_256 c
          have x0 : 0 ≤ X := by have := HX.out; omega
          have x9 : X < 256 := by have := HX.out; omega
          clear hacc hF ha x256
          have hcc : (c.toNat : Int) = 95 ∨ ((c.toNat : Int) == 95) = false := by simp only [beq_eq_false_iff_ne]; omega
          have hdd : (c.toNat : Int) < 48 ∨ (48 ≤ (c.toNat : Int) ∧ 57 < (c.toNat : Int)) := by omega
          clear hdig hlet
          obtain ⟨C, hC⟩ : ∃ C : Int, C = (c.toNat : Int) := ⟨_, rfl⟩
          rw [← hC] at low_X hc hcc hdd
          have C0 : 0 ≤ C := by omega
          have C1 : C < 256 := by omega
          clear hC HX
          rcases hcc with rfl | hcc
          all_goals rcases hx with hx | hx
          all_goals rcases hdd with hdd | ⟨hd0, hd1⟩
          all_goals first | (exfalso; omega) | skip
          all_goals go_wp2_with (go_at_call 47; refine (low_X _).mono ?_; rintro e w' ⟨rfl, rfl⟩)
          all_goals go_ret2
          all_goals first | exact ⟨rfl, rfl⟩ | exact ⟨by rw [hdec]; rfl, rfl⟩
    · have hkk : k = t.size := by omega
      subst hkk
      have hF : puB 8 2305843009213693952 18446744073709551615 acc (bs.drop t.size) = .ok acc := by rw [List.drop_eq_nil_of_le (by omega)]; rfl
      rw [hF] at hdec
      subst ha
      clear hacc hF a0 a1
      go_wp2
      go_ret2
      first | exact ⟨rfl, rfl⟩ | exact ⟨by rw [hdec]; rfl, rfl⟩
set_option maxHeartbeats 32000000 in
set_option maxRecDepth 100000 in
theorem pu16b_any (t : ByteArray) (hne : t.size ≠ 0) (hmax : t.size ≤ 9223372036854775806) (w : World) :
    Calls Tryz.prog 34 #[.string t, .int .i64 16, .int .i64 8] w fun e w' => e = .returned (Lib.uintTupleM 67 255 (puB 16 1152921504606846976 255 0 t.data.toList)) ∧ w' = Lib.bytesWorld w 5 t := by
  have hemp : t.toList.isEmpty = false := by
    rw [← decide_eq_emptyBytes]
    exact decide_eq_false (fun h => hne (by rw [h]; rfl))
  have hcv := Lib.run_convert_string_bytes (P := Tryz.prog) w 9 34 5 t (u := .string) Tryz.underlying9 Tryz.underlying34 Tryz.underlying5
  have hB : ∀ j, j < t.size → (Lib.bytesWorld w 5 t).cell? ⟨w.heap.size, j, none⟩ = some (.int .u8 (t.data.toList.getD j 0).toNat) := fun j hj => Lib.bytesWorld_cell w 5 t j hj
  obtain ⟨W1, hW1⟩ : ∃ W1, W1 = Lib.bytesWorld w 5 t := ⟨_, rfl⟩
  rw [← hW1] at hcv hB ⊢
  clear hW1
  obtain ⟨bs, hL⟩ : ∃ bs, bs = t.data.toList := ⟨_, rfl⟩
  have hLn : bs.length = t.size := by rw [hL, Lib.size_eq]
  rw [← hL] at hB ⊢
  clear hL
  have hmv : IntKind.u64.wrap (IntKind.u64.wrap 256 - 1) = 255 := by
    rw [IntKind.wrap_u64, IntKind.wrap_u64]
    decide
  go_enter Tryz.func34, Tryz.ntmps34
  go_wp2
  go_loop [12, 13, 101] (fun vu vn vi => ∃ (k acc : Nat) (a : Int), vu = .bool false ∧ vn = .int .u64 a ∧ vi = .int .i64 k ∧ k ≤ t.size ∧ Hid (a = (acc : Int) ∧ acc ≤ 255 ∧ puB 16 1152921504606846976 255 0 bs = puB 16 1152921504606846976 255 acc (bs.drop k)))
    (fun _ _ vi => t.size - (intOf vi).toNat)
  case atStart => exact ⟨0, 0, 0, rfl, rfl, rfl, by omega, rfl, by omega, rfl⟩
  case round =>
    obtain ⟨k, acc, a, rfl, rfl, rfl, hk, hh⟩ := hrel
    obtain ⟨ha, hacc, hdec⟩ := hh.out
    clear hh
    have a0 : 0 ≤ a := by omega
    have a1 : a ≤ 255 := by omega
    by_cases hkn : k < t.size
    · have hc := hB k hkn
      have hdrop : bs.drop k = bs[k]'(by omega) :: bs.drop (k + 1) := List.drop_eq_getElem_cons (by omega)
      have hget : bs.getD k 0 = bs[k]'(by omega) := by simp [List.getD, List.getElem?_eq_getElem (show k < bs.length by omega)]
      rw [hdrop] at hdec
      rw [hget] at hc
      generalize bs[k]'(by omega) = c at hc hdec
      have hc256 : c.toNat < 256 := c.toNat_lt
      clear hB hdrop hget
      by_cases hdig : 48 ≤ c.toNat ∧ c.toNat ≤ 57
      · have HDV : Hid (digV c.toNat = c.toNat - 48) := Lib.hid (by simp [digV, hdig])
        obtain ⟨hd0, hd1⟩ := hdig
        have HDN : Hid (48 ≤ c.toNat ∧ c.toNat ≤ 57) := Lib.hid ⟨hd0, hd1⟩
        have hbase : ¬ 16 ≤ (c.toNat - 48) := by have := HDN.out; omega
        have ibase : ((c.toNat : Int) - 48 : Int) < 16 := by have := HDN.out; omega
        by_cases hcut : 1152921504606846976 ≤ acc
        · have hF : puB 16 1152921504606846976 255 acc (c :: bs.drop (k + 1)) = .range := by simp only [puB]; rw [HDV.out, if_neg hbase, if_pos hcut]
          rw [hF] at hdec
          have icut : 1152921504606846976 ≤ a := by omega
          clear hcut hacc hF ha hbase
          exfalso; omega
        · have icut : a < 1152921504606846976 := by omega
          by_cases hov : 255 < acc * 16 + (c.toNat - 48)
          · have hF : puB 16 1152921504606846976 255 acc (c :: bs.drop (k + 1)) = .range := by simp only [puB]; rw [HDV.out, if_neg hbase, if_neg hcut, if_pos hov]
            rw [hF] at hdec
            have iov : 255 < a * 16 + ((c.toNat : Int) - 48) := by have := HDN.out; omega
            clear hcut hacc hF hov ha hbase
            go_wp2
            go_ret2
            first | exact ⟨rfl, rfl⟩ | exact ⟨by rw [hdec]; rfl, rfl⟩
          · have hov' : a * 16 + ((c.toNat : Int) - 48) ≤ 255 := by have := HDN.out; omega
            have hF : puB 16 1152921504606846976 255 acc (c :: bs.drop (k + 1)) = puB 16 1152921504606846976 255 (acc * 16 + (c.toNat - 48)) (bs.drop (k + 1)) := by simp only [puB]; rw [HDV.out, if_neg hbase, if_neg hcut, if_neg hov]
            have HN : Hid (a * 16 + ((c.toNat : Int) - 48) = ((acc * 16 + (c.toNat - 48) : Nat) : Int) ∧ acc * 16 + (c.toNat - 48) ≤ 255 ∧ puB 16 1152921504606846976 255 0 bs = puB 16 1152921504606846976 255 (acc * 16 + (c.toNat - 48)) (bs.drop (k + 1))) := Lib.hid ⟨by have := HDN.out; omega, by have := HDN.out; omega, hdec.trans hF⟩
            have iov : a * 16 + ((c.toNat : Int) - 48) < 18446744073709551616 := by have := HDN.out; omega
            clear hcut hacc hF hov hdec ha hbase
            go_wp2
            refine ⟨⟨k + 1, acc * 16 + (c.toNat - 48), a * 16 + ((c.toNat : Int) - 48), rfl, (by first | rfl | (congr 1; omega)), (by first | rfl | (congr 1; omega)), by omega, HN⟩, by simp [intOf]; omega⟩
      · have LX := Lib.hid (low_eq c)
        obtain ⟨X, hX⟩ : ∃ X : Int, X = bits .or .u8 (c.toNat : Int) 32 := ⟨_, rfl⟩
        have low_X : ∀ W, Calls Tryz.prog 47 #[.int .u8 (c.toNat : Int)] W fun e w' => e = .returned (.int .u8 X) ∧ W = w' := fun W => (lower_own _ W).mono (by rintro e w' ⟨rfl, rfl⟩; exact ⟨by rw [hX], rfl⟩)
        have HX : Hid (X = ((c.toNat ||| 32 : Nat) : Int)) := Lib.hid (by rw [hX]; exact LX.out)
        clear hX LX
        by_cases hlet : 97 ≤ (c.toNat ||| 32) ∧ (c.toNat ||| 32) ≤ 122
        · have HDV : Hid (digV c.toNat = (c.toNat ||| 32) - 87) := Lib.hid (by simp [digV, hdig, hlet])
          have HDN : Hid (97 ≤ (c.toNat ||| 32) ∧ (c.toNat ||| 32) ≤ 122 ∧ X = ((c.toNat ||| 32 : Nat) : Int)) := Lib.hid ⟨hlet.1, hlet.2, HX.out⟩
          have x0 : 97 ≤ X := by have := HX.out; omega
          have x1 : X ≤ 122 := by have := HX.out; omega
          have hcl := let_of c hlet
          have c0 : 48 ≤ (c.toNat : Int) := by omega
          have c1 : ¬ (c.toNat : Int) ≤ 57 := by omega
          have c2 : ((c.toNat : Int) == 95) = false := by simp only [beq_eq_false_iff_ne]; omega
          clear hdig hlet hcl
          by_cases hbase : 16 ≤ ((c.toNat ||| 32) - 87)
          · have hF : puB 16 1152921504606846976 255 acc (c :: bs.drop (k + 1)) = Lib.NumEnd.syntax := by simp only [puB]; rw [HDV.out, if_pos hbase]
            rw [hF] at hdec
            have ibase : (16 : Int) ≤ X - 97 + 10 := by have := HDN.out; omega
            clear hacc hF ha hbase
            go_wp2_with (go_at_call 47; refine (low_X _).mono ?_; rintro e w' ⟨rfl, rfl⟩)
            go_ret2
            first | exact ⟨rfl, rfl⟩ | exact ⟨by rw [hdec]; rfl, rfl⟩
          · have ibase : (X - 97 + 10 : Int) < 16 := by have := HDN.out; omega
            by_cases hcut : 1152921504606846976 ≤ acc
            · have hF : puB 16 1152921504606846976 255 acc (c :: bs.drop (k + 1)) = .range := by simp only [puB]; rw [HDV.out, if_neg hbase, if_pos hcut]
              rw [hF] at hdec
              have icut : 1152921504606846976 ≤ a := by omega
              clear hcut hacc hF ha hbase
              exfalso; omega
            · have icut : a < 1152921504606846976 := by omega
              by_cases hov : 255 < acc * 16 + ((c.toNat ||| 32) - 87)
              · have hF : puB 16 1152921504606846976 255 acc (c :: bs.drop (k + 1)) = .range := by simp only [puB]; rw [HDV.out, if_neg hbase, if_neg hcut, if_pos hov]
                rw [hF] at hdec
                have iov : 255 < a * 16 + (X - 97 + 10) := by have := HDN.out; omega
                clear hcut hacc hF hov ha hbase
                go_wp2_with (go_at_call 47; refine (low_X _).mono ?_; rintro e w' ⟨rfl, rfl⟩)
                go_ret2
                first | exact ⟨rfl, rfl⟩ | exact ⟨by rw [hdec]; rfl, rfl⟩
              · have hov' : a * 16 + (X - 97 + 10) ≤ 255 := by have := HDN.out; omega
                have hF : puB 16 1152921504606846976 255 acc (c :: bs.drop (k + 1)) = puB 16 1152921504606846976 255 (acc * 16 + ((c.toNat ||| 32) - 87)) (bs.drop (k + 1)) := by simp only [puB]; rw [HDV.out, if_neg hbase, if_neg hcut, if_neg hov]
                have HN : Hid (a * 16 + (X - 97 + 10) = ((acc * 16 + ((c.toNat ||| 32) - 87) : Nat) : Int) ∧ acc * 16 + ((c.toNat ||| 32) - 87) ≤ 255 ∧ puB 16 1152921504606846976 255 0 bs = puB 16 1152921504606846976 255 (acc * 16 + ((c.toNat ||| 32) - 87)) (bs.drop (k + 1))) := Lib.hid ⟨by have := HDN.out; omega, by have := HDN.out; omega, hdec.trans hF⟩
                have iov : a * 16 + (X - 97 + 10) < 18446744073709551616 := by have := HDN.out; omega
                clear hcut hacc hF hov hdec ha hbase
                go_wp2_with (go_at_call 47; refine (low_X _).mono ?_; rintro e w' ⟨rfl, rfl⟩)
                refine ⟨⟨k + 1, acc * 16 + ((c.toNat ||| 32) - 87), a * 16 + (X - 97 + 10), rfl, (by first | rfl | (congr 1; omega)), (by first | rfl | (congr 1; omega)), by omega, HN⟩, by simp [intOf]; omega⟩
        · have hF : puB 16 1152921504606846976 255 acc (c :: bs.drop (k + 1)) = Lib.NumEnd.syntax := by simp only [puB]; rw [show digV c.toNat = 255 by simp [digV, hdig, hlet], if_pos (by omega)]
          rw [hF] at hdec
          have hx : X < 97 ∨ 122 < X := by have := HX.out; omega
          have x256 := low_256 c
          have x0 : 0 ≤ X := by have := HX.out; omega
          have x9 : X < 256 := by have := HX.out; omega
          clear hacc hF ha x256
          have hcc : (c.toNat : Int) = 95 ∨ ((c.toNat : Int) == 95) = false := by simp only [beq_eq_false_iff_ne]; omega
          have hdd : (c.toNat : Int) < 48 ∨ (48 ≤ (c.toNat : Int) ∧ 57 < (c.toNat : Int)) := by omega
          clear hdig hlet
          obtain ⟨C, hC⟩ : ∃ C : Int, C = (c.toNat : Int) := ⟨_, rfl⟩
          rw [← hC] at low_X hc hcc hdd
          have C0 : 0 ≤ C := by omega
          have C1 : C < 256 := by omega
          clear hC HX
          rcases hcc with rfl | hcc
          all_goals rcases hx with hx | hx
          all_goals rcases hdd with hdd | ⟨hd0, hd1⟩
          all_goals first | (exfalso; omega) | skip
          all_goals go_wp2_with (go_at_call 47; refine (low_X _).mono ?_; rintro e w' ⟨rfl, rfl⟩)
          all_goals go_ret2
          all_goals first | exact ⟨rfl, rfl⟩ | exact ⟨by rw [hdec]; rfl, rfl⟩
    · have hkk : k = t.size := by omega
      subst hkk
      have hF : puB 16 1152921504606846976 255 acc (bs.drop t.size) = .ok acc := by rw [List.drop_eq_nil_of_le (by omega)]; rfl
      rw [hF] at hdec
      subst ha
      clear hacc hF a0 a1
      go_wp2
      go_ret2
      first | exact ⟨rfl, rfl⟩ | exact ⟨by rw [hdec]; rfl, rfl⟩
end Go.Proofs.YtcmfmfgedhfaeaaGreatDoor
