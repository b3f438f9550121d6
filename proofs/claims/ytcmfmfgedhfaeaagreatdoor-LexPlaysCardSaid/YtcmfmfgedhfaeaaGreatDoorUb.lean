/- The reference: a whole number. -/
import Derived.Test.YtcmfmfgedhfaeaaGreatDoorUa
import Derived.Deep.CutRange
import Derived.Deep.CutBlock
import Derived.Deep.RegionHeld3
namespace Go.Proofs.YtcmfmfgedhfaeaaGreatDoor
set_option linter.unusedSimpArgs false
set_option linter.unusedVariables false
open Go.RowKit

theorem ext_ext0 (s : ByteArray) (n : Nat) (h : n < s.size) : (s.extract 0 (n + 1)).extract 0 n = s.extract 0 n := by
  apply ByteArray.ext
  apply Array.toList_inj.1
  rw [Lib.extract_data, Lib.extract_data, Lib.extract_data]
  simp only [List.drop_zero, Nat.sub_zero, List.take_take]
  congr 1
  omega
theorem ext_size (s : ByteArray) (n : Nat) (h : n ≤ s.size) : (s.extract 0 n).size = n := by
  rw [size_list, Lib.extract_data, List.length_take, List.length_drop, ← size_list]
  omega
theorem ext_getD (s : ByteArray) (n k : Nat) (h : k < n) : (s.extract 0 n).data.toList.getD k 0 = s.data.toList.getD k 0 := by
  rw [Lib.extract_data, List.drop_zero, Nat.sub_zero, List.getD_eq_getElem?_getD, List.getD_eq_getElem?_getD, List.getElem?_take, if_pos h]
theorem ext_list0 (s : ByteArray) (n : Nat) : (s.extract 0 n).data.toList = s.data.toList.take n := by
  rw [Lib.extract_data, List.drop_zero, Nat.sub_zero]
theorem strip_acc (s : List UInt8) : ∀ (n u l : Nat), (stripL s n u l).2.1 ≤ u + n ∧ (stripL s n u l).2.2 ≤ l + n
  | 0, u, l => ⟨Nat.le_refl _, Nat.le_refl _⟩
  | n + 1, u, l => by
    unfold stripL
    split
    · have := strip_acc s n (u + 1) l; omega
    · split
      · have := strip_acc s n u (l + 1); omega
      · simp only; omega
theorem drop_get2 (s : ByteArray) (k : Nat) (h : k < s.size) : s.data.toList.drop k = (s[k]'h) :: s.data.toList.drop (k + 1) := by
  rw [get_L s k h, drop_cons _ _ (by rw [← size_list]; exact h)]
section
set_option maxRecDepth 100000
set_option maxHeartbeats 2000000
theorem wholeR_any (s : ByteArray) (hs : s.size ≤ 1048576) (w : World) : Calls Tryz.prog 44 #[.string s] w fun e w' => e = .returned (optV (wholeR s.data.toList)) ∧ Fresh w w' := by
  obtain ⟨R, hR⟩ : ∃ R, R = wholeR s.data.toList := ⟨_, rfl⟩
  rw [← hR]
  have HR := Lib.hid hR
  clear hR
  go_enter Tryz.func44, Tryz.ntmps44
  go_upto_block 0 with fail
  go_cut [0, 4, 5, 6] from 12 to 40 (fun vs vu vl _ wx => wx = w ∧ ∃ (n u l : Nat) (t : ByteArray), n ≤ s.size ∧ u ≤ s.size ∧ l ≤ s.size ∧ vs = .string t ∧ vu = .int .i64 u ∧ vl = .int .i64 l ∧ t.size = n ∧ Hid (wholeD t.data.toList u l = R))
  case first =>
    go_wp2_with fail
    go_loop [0, 4, 5] (fun vs vu vl => ∃ (n u l : Nat) (t : ByteArray), n ≤ s.size ∧ u + n ≤ s.size ∧ l + n ≤ s.size ∧ vs = .string t ∧ vu = .int .i64 u ∧ vl = .int .i64 l ∧ t.size = n ∧ Hid (t = s.extract 0 n) ∧ Hid (stripL s.data.toList n u l = stripL s.data.toList s.data.toList.length 0 0)) (fun vs _ _ => strLen vs)
    case atStart => exact ⟨s.size, 0, 0, s, Nat.le_refl _, by omega, by omega, rfl, rfl, rfl, rfl, Lib.hid (by simp), Lib.hid (by rw [← size_list])⟩
    case round =>
      obtain ⟨n, u, l, t, hn, hun, hln, rfl, rfl, rfl, htn, HT, HS⟩ := hrel
      have fin : stripL s.data.toList n u l = (n, u, l) → wholeD t.data.toList u l = R := fun h => by
        rw [h] at HS
        rw [HR.out]
        unfold wholeR
        rw [← HS.out]
        simp only
        rw [HT.out, ext_list0]
      have FIN := Lib.hid fin
      clear fin HR
      by_cases h0 : n = 0
      · have h1 : ¬ 0 < (t.size : Int) := by omega
        have h2 : t.size = 0 := by omega
        have hE := FIN.out (by rw [h0]; rfl)
        clear FIN HS
        go_wp2_with fail
        go_meet
        exact ⟨rfl, n, u, l, t, hn, by omega, by omega, rfl, rfl, rfl, htn, Lib.hid hE⟩
      · have h1 : 0 < (t.size : Int) := by omega
        obtain ⟨m, rfl⟩ : ∃ m, n = m + 1 := ⟨n - 1, by omega⟩
        have hm : m < t.size := by omega
        have hmI : (m : Int) < (t.size : Int) := by omega
        have hw1 : IntKind.i64.wrap ((t.size : Int) - 1) = (m : Int) := (IntWalk.i64_in _ (by omega)).trans (by omega)
        have hx1 : (t.size : Int) - 1 = (m : Int) := by omega
        have m0 : (0 : Int) ≤ (m : Int) := by omega
        have HC : Hid (t[m]'hm = s.data.toList.getD m 0) := Lib.hid (by rw [get_L, HT.out, ext_getD _ _ _ (by omega)])
        have HE : Hid (t.extract 0 m = s.extract 0 m) := Lib.hid (by rw [HT.out, ext_ext0 _ _ (by omega)])
        have HZ : Hid ((t.extract 0 m).size = m) := Lib.hid (ext_size _ _ (by omega))
        have sl1 : (m : Int) ≤ (t.size : Int) := by omega
        have hw4 : IntKind.i64.wrap ((u : Int) + 1) = (u : Int) + 1 := IntWalk.i64_in _ (by omega)
        have hw5 : IntKind.i64.wrap ((l : Int) + 1) = (l : Int) + 1 := IntWalk.i64_in _ (by omega)
        by_cases c1 : (t[m]'hm).toNat = 117 ∨ (t[m]'hm).toNat = 85
        · have HN : Hid (stripL s.data.toList m (u + 1) l = stripL s.data.toList s.data.toList.length 0 0) := Lib.hid (by
            rw [← HS.out]
            have e : s.data.toList.getD m 0 = 117 ∨ s.data.toList.getD m 0 = 85 := by rw [← HC.out]; exact c1.imp (u_nat _ 117 (by decide)).2 (u_nat _ 85 (by decide)).2
            simp only [stripL, e, if_true])
          rcases c1 with c1 | c1
          · have b1 : (((t[m]'hm).toNat : Int) == 117) = true := u8_eq _ 117 c1
            clear FIN HS HC c1
            go_wp2_with fail
            go_round
            case rel => exact ⟨m, u + 1, l, _, by omega, by omega, by omega, rfl, by go_num, rfl, HZ.out, HE, HN⟩
            case measure => simp only [strLen, Array.getD_eq_getD_getElem?]; simp [strLen, HZ.out]; omega
          · have b1 : (((t[m]'hm).toNat : Int) == 117) = false := u8_ne _ 117 (by omega)
            have b2 : (((t[m]'hm).toNat : Int) == 85) = true := u8_eq _ 85 c1
            clear FIN HS HC c1
            go_wp2_with fail
            go_round
            case rel => exact ⟨m, u + 1, l, _, by omega, by omega, by omega, rfl, by go_num, rfl, HZ.out, HE, HN⟩
            case measure => simp [strLen, HZ.out]; omega
        · have e1 : ¬ (s.data.toList.getD m 0 = 117 ∨ s.data.toList.getD m 0 = 85) := by rw [← HC.out]; exact fun e => c1 (e.imp (u_nat _ 117 (by decide)).1 (u_nat _ 85 (by decide)).1)
          have b1 : (((t[m]'hm).toNat : Int) == 117) = false := u8_ne _ 117 (fun e => c1 (Or.inl e))
          have b2 : (((t[m]'hm).toNat : Int) == 85) = false := u8_ne _ 85 (fun e => c1 (Or.inr e))
          by_cases c2 : (t[m]'hm).toNat = 108 ∨ (t[m]'hm).toNat = 76
          · have HN : Hid (stripL s.data.toList m u (l + 1) = stripL s.data.toList s.data.toList.length 0 0) := Lib.hid (by
              rw [← HS.out]
              have e : s.data.toList.getD m 0 = 108 ∨ s.data.toList.getD m 0 = 76 := by rw [← HC.out]; exact c2.imp (u_nat _ 108 (by decide)).2 (u_nat _ 76 (by decide)).2
              simp only [stripL, e1, if_false, e, if_true])
            rcases c2 with c2 | c2
            · have b3 : (((t[m]'hm).toNat : Int) == 108) = true := u8_eq _ 108 c2
              clear FIN HS HC c1 c2 e1
              go_wp2_with fail
              go_round
              case rel => exact ⟨m, u, l + 1, _, by omega, by omega, by omega, rfl, rfl, by go_num, HZ.out, HE, HN⟩
              case measure => simp [strLen, HZ.out]; omega
            · have b3 : (((t[m]'hm).toNat : Int) == 108) = false := u8_ne _ 108 (by omega)
              have b4 : (((t[m]'hm).toNat : Int) == 76) = true := u8_eq _ 76 c2
              clear FIN HS HC c1 c2 e1
              go_wp2_with fail
              go_round
              case rel => exact ⟨m, u, l + 1, _, by omega, by omega, by omega, rfl, rfl, by go_num, HZ.out, HE, HN⟩
              case measure => simp [strLen, HZ.out]; omega
          · have e2 : ¬ (s.data.toList.getD m 0 = 108 ∨ s.data.toList.getD m 0 = 76) := by rw [← HC.out]; exact fun e => c2 (e.imp (u_nat _ 108 (by decide)).1 (u_nat _ 76 (by decide)).1)
            have b3 : (((t[m]'hm).toNat : Int) == 108) = false := u8_ne _ 108 (fun e => c2 (Or.inl e))
            have b4 : (((t[m]'hm).toNat : Int) == 76) = false := u8_ne _ 76 (fun e => c2 (Or.inr e))
            have hE := FIN.out (by simp only [stripL, e1, e2, if_false])
            clear FIN HS HC c1 c2 e1 e2
            go_wp2_with fail
            go_meet
            exact ⟨rfl, m + 1, u, l, t, hn, by omega, by omega, rfl, rfl, rfl, htn, Lib.hid hE⟩
  case rest =>
    obtain ⟨rfl, n, u, l, t, hn, hu, hl, rfl, rfl, rfl, rfl, HD⟩ := hcut
    clear HR
    have HBR : Hid (baseR t.data.toList = (if 1 < t.data.toList.length ∧ t.data.toList.getD 0 0 = 48 then (if t.data.toList.getD 1 0 = 120 ∨ t.data.toList.getD 1 0 = 88 then (16, 2) else (8, 1)) else (10, 0))) := Lib.hid rfl
    go_upto_region 10 with fail
    go_cut [48] from 41 to 47 (fun v wx => wx = wc ∧ ∃ B : Bool, v = .bool B ∧ Hid (B = true ↔ (1 < t.data.toList.length ∧ t.data.toList.getD 0 0 = 48)))
    case first =>
      by_cases h1 : 1 < t.size
      · have l1 : (1 : Int) < (t.size : Int) := by omega
        have l0 : (0 : Int) < (t.size : Int) := by omega
        have h0 : 0 < t.size := by omega
        have HC := Lib.hid (get_L t 0 h0)
        by_cases c0 : (t[0]'h0).toNat = 48
        · have b0 : (((t[0]'h0).toNat : Int) == 48) = true := u8_eq _ 48 c0
          have HH : Hid (true = true ↔ (1 < t.data.toList.length ∧ t.data.toList.getD 0 0 = 48)) := Lib.hid (by
            rw [← HC.out, ← size_list]; exact ⟨fun _ => ⟨by omega, (u_nat _ 48 (by decide)).2 c0⟩, fun _ => rfl⟩)
          clear c0 HC HD HBR
          go_wp2_with fail
          go_meet
          exact ⟨rfl, _, rfl, Lib.hid (by first | exact HH.out | (simpa using HH.out) | (rw [b0]; exact HH.out))⟩
        · have b0 : (((t[0]'h0).toNat : Int) == 48) = false := u8_ne _ 48 c0
          have HH : Hid (false = true ↔ (1 < t.data.toList.length ∧ t.data.toList.getD 0 0 = 48)) := Lib.hid (by
            rw [← HC.out, ← size_list]; exact ⟨fun h => absurd h (by decide), fun h => absurd ((u_nat _ 48 (by decide)).1 h.2) c0⟩)
          clear c0 HC HD HBR
          go_wp2_with fail
          go_meet
          exact ⟨rfl, _, rfl, Lib.hid (by first | exact HH.out | (simpa using HH.out) | (rw [b0]; exact HH.out))⟩
      · have l1 : decide ((1 : Int) < (t.size : Int)) = false := decide_eq_false (by omega)
        have HH : Hid (false = true ↔ (1 < t.data.toList.length ∧ t.data.toList.getD 0 0 = 48)) := Lib.hid (by
          rw [← size_list]; exact ⟨fun h => absurd h (by decide), fun h => absurd h.1 (by omega)⟩)
        clear h1 HD HBR hs
        go_wp2_with fail
        go_meet
        exact ⟨rfl, _, rfl, Lib.hid (by first | exact HH.out | (simpa using HH.out) | (rw [b0]; exact HH.out))⟩
    case rest =>
    obtain ⟨rfl, B, rfl, HBB⟩ := hcut
    go_upto_if 48 with fail
    go_cut [7, 8] from 49 to 56 (fun vb vf wx => wx = wc ∧ ∃ (b f : Nat), vb = .int .i64 b ∧ vf = .int .i64 f ∧ Hid (baseR t.data.toList = (b, f)) ∧ (b = 8 ∨ b = 10 ∨ b = 16) ∧ f ≤ 2)
    case first =>
      cases B with
      | true =>
        have hB := HBB.out.1 rfl
        have hx1 : 1 < t.size := by have := hB.1; rw [← size_list] at this; exact this
        have l1 : (1 : Int) < (t.size : Int) := by omega
        have HC := Lib.hid (get_L t 1 hx1)
        by_cases c1 : (t[1]'hx1).toNat = 120
        · have b1 : (((t[1]'hx1).toNat : Int) == 120) = true := u8_eq _ 120 c1
          have hE : Hid (baseR t.data.toList = (16, 2)) := Lib.hid (by rw [HBR.out, if_pos hB, if_pos (Or.inl (by rw [← HC.out]; exact (u_nat _ 120 (by decide)).2 c1))])
          clear hB HBB HBR HC c1
          go_wp2_with fail
          go_meet
          exact ⟨rfl, 16, 2, rfl, rfl, hE, by omega, by omega⟩
        · have b1 : (((t[1]'hx1).toNat : Int) == 120) = false := u8_ne _ 120 c1
          by_cases c2 : (t[1]'hx1).toNat = 88
          · have b2 : (((t[1]'hx1).toNat : Int) == 88) = true := u8_eq _ 88 c2
            have hE : Hid (baseR t.data.toList = (16, 2)) := Lib.hid (by rw [HBR.out, if_pos hB, if_pos (Or.inr (by rw [← HC.out]; exact (u_nat _ 88 (by decide)).2 c2))])
            clear hB HBB HBR HC c1 c2
            go_wp2_with fail
            go_meet
            exact ⟨rfl, 16, 2, rfl, rfl, hE, by omega, by omega⟩
          · have b2 : (((t[1]'hx1).toNat : Int) == 88) = false := u8_ne _ 88 c2
            have hE : Hid (baseR t.data.toList = (8, 1)) := Lib.hid (by
              rw [HBR.out, if_pos hB, if_neg]
              rw [← HC.out]
              exact fun e => e.elim (fun e => c1 ((u_nat _ 120 (by decide)).1 e)) (fun e => c2 ((u_nat _ 88 (by decide)).1 e)))
            clear hB HBB HBR HC c1 c2
            go_wp2_with fail
            go_meet
            exact ⟨rfl, 8, 1, rfl, rfl, hE, by omega, by omega⟩
      | false =>
        have hE : Hid (baseR t.data.toList = (10, 0)) := Lib.hid (by rw [HBR.out, if_neg (fun h => absurd (HBB.out.2 h) (by decide))])
        clear HBB HBR
        go_wp2_with fail
        go_meet
        exact ⟨rfl, 10, 0, rfl, rfl, hE, by omega, by omega⟩
    case rest =>
      obtain ⟨rfl, b, f, rfl, rfl, HB, hb, hf⟩ := hcut
      have HW : Hid ((if 1 < u ∨ 1 < l ∨ t.size ≤ f then none else digR b 0 (t.data.toList.drop f)) = R) := Lib.hid (by
        rw [← HD.out]
        unfold wholeD
        rw [HB.out, ← size_list])
      clear HD HB HBR
      have hb8 : 8 ≤ b := by omega
      have hb16 : b ≤ 16 := by omega
      by_cases hu1 : 1 < u
      · have d1 : (1 : Int) < (u : Int) := by omega
        have hE : Hid (none = R) := Lib.hid (by rw [← HW.out, if_pos (Or.inl hu1)])
        clear HW hb hb8 hb16 hs hu1
        go_wp2_with fail
        go_ret2
        exact ⟨by rw [← hE.out]; rfl, Fresh.refl _⟩
      · have d1 : decide ((1 : Int) < (u : Int)) = false := decide_eq_false (by omega)
        by_cases hl1 : 1 < l
        · have d2 : (1 : Int) < (l : Int) := by omega
          have hE : Hid (none = R) := Lib.hid (by rw [← HW.out, if_pos (Or.inr (Or.inl hl1))])
          clear HW hb hb8 hb16 hs hu1 hl1
          go_wp2_with fail
          go_ret2
          exact ⟨by rw [← hE.out]; rfl, Fresh.refl _⟩
        · have d2 : decide ((1 : Int) < (l : Int)) = false := decide_eq_false (by omega)
          by_cases hf1 : t.size ≤ f
          · have d3 : (t.size : Int) ≤ (f : Int) := by omega
            have hE : Hid (none = R) := Lib.hid (by rw [← HW.out, if_pos (Or.inr (Or.inr hf1))])
            clear HW hb hb8 hb16 hs hu1 hl1 hf1
            go_wp2_with fail
            go_ret2
            exact ⟨by rw [← hE.out]; rfl, Fresh.refl _⟩
          · have d3 : decide ((t.size : Int) ≤ (f : Int)) = false := decide_eq_false (by omega)
            have HG : Hid (digR b 0 (t.data.toList.drop f) = R) := Lib.hid (by rw [← HW.out, if_neg (by omega)])
            have hfn : f ≤ t.size := by omega
            clear HW hu1 hl1
            go_wp2_with fail
            clear d1 d2 d3
            go_loop [9, 10] (fun va vi => ∃ (i acc : Nat), i ≤ t.size ∧ va = .int .u64 acc ∧ vi = .int .i64 i ∧ acc ≤ 18446744073709551615 ∧ Hid (digR b acc (t.data.toList.drop i) = R)) (fun _ vi => t.size - (intOf vi).toNat)
            case atStart => exact ⟨f, 0, hfn, rfl, rfl, by omega, HG⟩
            case round =>
              obtain ⟨i, acc, hi, rfl, rfl, hacc, HS⟩ := hrel
              clear HG
              by_cases hlt : i < t.size
              · have hltI : (i : Int) < (t.size : Int) := by omega
                have hit : i < t.size := by omega
                have hd := drop_get2 t i hit
                have HS2 : Hid (digR b acc ((t[i]'hit) :: t.data.toList.drop (i + 1)) = R) := Lib.hid (by rw [← hd]; exact HS.out)
                have D := Lib.hid (fun X => hexR_same ((t[i]'hit).toNat : Int) X)
                have HX : Hid (hexZ ((t[i]'hit).toNat : Int) < 0 ∨ (0 ≤ hexZ ((t[i]'hit).toNat : Int) ∧ hexZ ((t[i]'hit).toNat : Int) < 16)) := Lib.hid (by
                  by_cases hz : hexZ ((t[i]'hit).toNat : Int) < 0
                  · exact Or.inl hz
                  · have := (hexd _ hz).2.2.2.2.2
                    exact Or.inr (by omega))
                clear hd HS
                have HS3 : Hid ((if hexZ ((t[i]'hit).toNat : Int) < 0 ∨ b ≤ (hexZ ((t[i]'hit).toNat : Int)).toNat ∨ (18446744073709551615 - (hexZ ((t[i]'hit).toNat : Int)).toNat) / b < acc then none else digR b (acc * b + (hexZ ((t[i]'hit).toNat : Int)).toNat) (t.data.toList.drop (i + 1))) = R) := HS2
                clear HS2
                generalize hexZ ((t[i]'hit).toNat : Int) = z at *
                rcases HX.out with hz | ⟨hz, hz2⟩
                · have hE : Hid (none = R) := Lib.hid (by rw [← HS3.out, if_pos (Or.inl hz)])
                  clear HS3 HX hs hb hacc
                  go_wp2_with fail
                  go_at_call 61; refine (D.out _).mono ?_; rintro e w1 ⟨rfl, rfl⟩
                  go_wp2_with fail
                  go_ret2
                  exact ⟨by rw [← hE.out]; rfl, Fresh.refl _⟩
                · have z1 : decide (z < 0) = false := decide_eq_false (by omega)
                  by_cases hbz : (b : Int) ≤ z
                  · have hE : Hid (none = R) := Lib.hid (by rw [← HS3.out, if_pos (Or.inr (Or.inl (by omega)))])
                    clear HS3 HX hs hb hacc
                    go_wp2_with fail
                    go_at_call 61; refine (D.out _).mono ?_; rintro e w1 ⟨rfl, rfl⟩
                    go_wp2_with fail
                    go_ret2
                    exact ⟨by rw [← hE.out]; rfl, Fresh.refl _⟩
                  · obtain ⟨zt, rfl⟩ : ∃ zt : Nat, z = (zt : Int) := ⟨z.toNat, by omega⟩
                    have z2 : decide ((b : Int) ≤ (zt : Int)) = false := decide_eq_false hbz
                    have uw1 : IntKind.u64.wrap (zt : Int) = (zt : Int) := IntWalk.u64_in _ (by omega)
                    have uw2 : IntKind.u64.wrap (18446744073709551615 - (zt : Int)) = 18446744073709551615 - (zt : Int) := IntWalk.u64_in _ (by omega)
                    have uw3 : IntKind.u64.wrap (b : Int) = (b : Int) := IntWalk.u64_in _ (by omega)
                    have HQ : Hid ((18446744073709551615 - (zt : Int)) / (b : Int) = (((18446744073709551615 - zt) / b : Nat) : Int)) := Lib.hid (by
                      rw [Int.natCast_ediv]
                      congr 1
                      omega)
                    have HK : Hid ((18446744073709551615 - zt) / b < acc ↔ 18446744073709551615 - zt < acc * b) := Lib.hid (Nat.div_lt_iff_lt_mul (by omega))
                    have HZ : Hid (zt < 16 ∧ ¬ b ≤ zt) := Lib.hid ⟨by omega, by omega⟩
                    have HB2 : Hid (8 ≤ b ∧ b ≤ 16) := Lib.hid ⟨hb8, hb16⟩
                    have HA : Hid (acc ≤ 18446744073709551615) := Lib.hid hacc
                    have bz2 : ¬ (b : Int) = 0 := by omega
                    go_wp2_with fail
                    go_at_call 61; refine (D.out _).mono ?_; rintro e w1 ⟨rfl, rfl⟩
                    go_wp2_with fail
                    · rename_i hq
                      rw [HQ.out] at hq
                      have hE : Hid (none = R) := Lib.hid (by
                        rw [← HS3.out, if_pos (Or.inr (Or.inr _))]
                        rw [Int.toNat_natCast]
                        omega)
                      go_ret2
                      exact ⟨by rw [← hE.out]; rfl, Fresh.refl _⟩
                    · rename_i hq
                      rw [HQ.out] at hq
                      have hk : ¬ (18446744073709551615 - zt) / b < acc := by omega
                      have hm : ¬ 18446744073709551615 - zt < acc * b := fun h => hk (HK.out.2 h)
                      have HN : Hid (digR b (acc * b + zt) (t.data.toList.drop (i + 1)) = R) := Lib.hid (by
                        rw [← HS3.out, if_neg, Int.toNat_natCast]
                        rw [Int.toNat_natCast]
                        have := HZ.out
                        rintro (h | h | h)
                        · omega
                        · exact this.2 h
                        · exact hk h)
                      have hz := HZ.out
                      have e1 : IntKind.u64.wrap ((acc : Int) * (b : Int)) = ((acc * b : Nat) : Int) := (IntWalk.u64_in _ (by rw [← Int.natCast_mul]; omega)).trans (Int.natCast_mul _ _).symm
                      have e2 : IntKind.u64.wrap (((acc * b : Nat) : Int) + (zt : Int)) = ((acc * b + zt : Nat) : Int) := (IntWalk.u64_in _ (by omega)).trans (by omega)
                      go_round
                      case rel => exact ⟨i + 1, acc * b + zt, by omega, by rw [e1, e2], by go_num, by omega, HN⟩
                      case measure => simp [intOf]; omega
              · have hltI : ¬ (i : Int) < (t.size : Int) := by omega
                have hE : Hid (some acc = R) := Lib.hid (by rw [← HS.out, List.drop_eq_nil_of_le (by rw [← size_list]; omega)]; rfl)
                clear HS hs hb
                go_wp2_with fail
                go_ret2
                exact ⟨by rw [← hE.out]; rfl, Fresh.refl _⟩
end
end Go.Proofs.YtcmfmfgedhfaeaaGreatDoor
/- The reference: a number with a point. -/
namespace Go.Proofs.YtcmfmfgedhfaeaaGreatDoor
set_option linter.unusedSimpArgs false
set_option linter.unusedVariables false
open Ieee Go.RowKit

theorem run_from (n : Int) (w : World) : (callFunc 102 #[.int .u64 n]).run Tryz.prog w = .ok (.value (.float .f64 n.toNat)) w := by
  rw [run_callFunc_standIn (fn := Tryz.f102) (e := Extern.MathFloatBits.float64frombits) (by kernel_rfl) (by kernel_rfl) (by kernel_rfl) (by kernel_rfl) (by rfl)]
  rfl
attribute [local go_sem ↓] run_f64bits run_from
def nanR (x : Nat) : Bool := FloatKind.f64.format.order x x != some Ordering.eq
theorem nan_low (r : Nat) (h : r ≤ 9218868437227405312) : nanR r = false := by
  have hf : FloatKind.f64.format = double := rfl
  unfold nanR
  rw [hf]
  unfold Format.order
  rcases read_low r h with ⟨m, e, hr⟩ | hr
  · rw [hr]
    simp [Datum.order, compare, compareOfLessAndEq]
  · rw [hr]
    simp [Datum.order]
theorem near_le2 (n : Nat) (e : Int) : double.nearest false n e ≤ 9218868437227405312 := by
  have w3 : double.infRung = 9218868437227405312 := by decide
  by_cases h : n = 0
  · have : double.nearest false n e = double.word false 0 := by unfold Format.nearest; rw [if_pos h]
    rw [this, word_false]
    exact Nat.zero_le _
  · have : ∃ K, double.nearest false n e = double.word false (min K double.infRung) := by unfold Format.nearest; rw [if_neg h]; exact ⟨_, rfl⟩
    obtain ⟨K, hK⟩ := this
    rw [hK, word_false, w3]
    exact Nat.min_le_right _ _
theorem nan_int (n : Nat) : nanR (floatOfInt .f64 (n : Int)) = false := by
  rw [int_near]
  exact nan_low _ (near_le n)
theorem fq_le (n p : Nat) (hp : p ≤ 15) : fq n p ≤ 9218868437227405312 := by
  have w3 : double.infRung = 9218868437227405312 := by decide
  have hs := fq_some n p hp
  have ht := read_ten ⟨p, by omega⟩
  simp only at ht
  unfold floatBits at hs
  simp only at hs
  change double.div _ _ = some _ at hs
  unfold Format.div at hs
  cases hr : double.read (floatOfInt .f64 ((10 ^ p : Nat) : Int)) with
  | infinity s => rw [hr] at ht; simp at ht
  | nan s m => rw [hr] at ht; simp at ht
  | number s m e =>
    rw [hr] at ht hs
    cases s with
    | true => simp at ht
    | false =>
      have hm : m ≠ 0 := by simpa using ht
      rcases read_int n with ⟨m', e', h'⟩ | h'
      · rw [h'] at hs
        simp only [Datum.quotient, if_neg hm, Option.map_some, Option.some.injEq] at hs
        rw [← hs]
        exact near_le2 _ _
      · rw [h'] at hs
        simp only [Datum.quotient, Option.map_some, Option.some.injEq] at hs
        rw [← hs]
        show double.word false double.infRung ≤ _
        rw [word_false, w3]
        exact Nat.le_refl _
section
set_option maxRecDepth 100000
set_option maxHeartbeats 2000000
theorem dblR (x : Nat) (h : nanR x = false) (w : World) : Calls Tryz.prog 63 #[.float .f64 x] w fun e w' => e = .returned (.agg #[.int .i64 3, .int .u64 x, .int .i64 0]) ∧ Fresh w w' := by
  unfold nanR at h
  go_enter Tryz.func63, Tryz.ntmps63
  go_wp2
  all_goals (go_returns; go_light)
  all_goals exact ⟨by first | rfl | (simp [*]; done), (Fresh.refl _).alloc _ _⟩
theorem dblF (k n b : Int) (w : World) : Calls Tryz.prog 80 #[.agg #[.int .i64 k, .int .u64 n, .int .i64 b]] w fun e w' => e = .returned (.float .f64 n.toNat) ∧ w.alloc (.cells #[.int .i64 k, .int .u64 n, .int .i64 b] 81) = w' := by
  go_enter Tryz.func80, Tryz.ntmps80
  go_wp2
  all_goals (go_returns; exact ⟨rfl, rfl⟩)
theorem shapeR (w : World) : Calls Tryz.prog 77 #[.int .i64 65] w fun e w' => e = .returned (.tuple #[.int .i64 3, .int .i64 3, .int .i64 3]) ∧ Fresh w w' := by
  go_enter Tryz.func77, Tryz.ntmps77
  go_wp2_with fail
  go_returns
  exact ⟨rfl, Fresh.refl _⟩
theorem quoR65 (a b r : Nat) (hq : floatBits .quo .f64 a b = some r) (hn : nanR r = false) (w : World) : Calls Tryz.prog 79 #[.int .i64 65, .float .f64 a, .float .f64 b] w fun e w' => e = .returned (.agg #[.int .i64 3, .int .u64 r, .int .i64 0]) ∧ Fresh w w' := by
  have hr := fun t X => run_float_arith (P := Tryz.prog) X .quo t .f64 _ _ _ hq
  have D := Lib.hid (fun X => dblR r hn X)
  clear hq hn
  have A := Lib.hid (Blk.new w #[.int .i64 0, .int .u64 0, .int .i64 0] 81)
  go_enter Tryz.func79, Tryz.ntmps79
  go_wp2_with fail
  go_at_call 63; refine (D.out _).mono ?_; rintro e w1 ⟨rfl, f1⟩
  have B := A.out.fresh f1
  have r0 := B.1 0 _ rfl
  have r1 := B.1 1 _ rfl
  have r2 := B.1 2 _ rfl
  have rf := B.2.1
  have rz := B.2.2
  have F1 := Lib.hid (((Fresh.refl w).alloc _ _).trans f1)
  clear f1 B A
  go_wp2_with fail
  refine bodyPost_ret (v := ?_) ?_ rfl ?_; rotate_left 1; focus (simp [results, Tryz.results79, go_sem, *]; (try rfl); done)
  exact ⟨rfl, ((F1.out.setCell (Nat.le_refl _) _).setCell (Nat.le_refl _) _).setCell (Nat.le_refl _) _⟩
theorem evalR65 (a b r : Nat) (hq : floatBits .quo .f64 a b = some r) (hn : nanR r = false) (w : World) :
    Calls Tryz.prog 62 #[.int .i64 65, .agg #[.int .i64 3, .int .u64 a, .int .i64 0], .agg #[.int .i64 3, .int .u64 b, .int .i64 0]] w fun e w' => e = .returned (.tuple #[.agg #[.int .i64 3, .int .u64 r, .int .i64 0], .bool true]) ∧ Fresh w w' := by
  have Q := Lib.hid (fun X => quoR65 a b r hq hn X)
  have S := Lib.hid (fun X => shapeR X)
  have ea : ((a : Int)).toNat = a := Int.toNat_natCast a
  have eb : ((b : Int)).toNat = b := Int.toNat_natCast b
  clear hq hn
  go_enter Tryz.func62, Tryz.ntmps62
  go_upto_region 1 with fail
  have A1 := (((Blk.new w #[.int .i64 3, .int .u64 a, .int .i64 0] 81).fresh ((Fresh.refl _).alloc #[.int .i64 3, .int .u64 b, .int .i64 0] 81)).fresh ((Fresh.refl _).alloc #[.int .i64 0, .int .u64 0, .int .i64 0] 81))
  have A2 := ((Blk.new (w.alloc (.cells #[.int .i64 3, .int .u64 a, .int .i64 0] 81)) #[.int .i64 3, .int .u64 b, .int .i64 0] 81).fresh ((Fresh.refl _).alloc #[.int .i64 0, .int .u64 0, .int .i64 0] 81))
  have A3 := (Blk.new ((w.alloc (.cells #[.int .i64 3, .int .u64 a, .int .i64 0] 81)).alloc (.cells #[.int .i64 3, .int .u64 b, .int .i64 0] 81)) #[.int .i64 0, .int .u64 0, .int .i64 0] 81)
  have F3 : Fresh w (((w.alloc (.cells #[.int .i64 3, .int .u64 a, .int .i64 0] 81)).alloc (.cells #[.int .i64 3, .int .u64 b, .int .i64 0] 81)).alloc (.cells #[.int .i64 0, .int .u64 0, .int .i64 0] 81)) := (((Fresh.refl w).alloc _ _).alloc _ _).alloc _ _
  have a0 := A1.1 0 _ rfl
  have a1 := A1.1 1 _ rfl
  have a2 := A1.1 2 _ rfl
  have af := A1.2.1
  have az := A1.2.2
  have b0 := A2.1 0 _ rfl
  have b1 := A2.1 1 _ rfl
  have b2 := A2.1 2 _ rfl
  have bf := A2.2.1
  have bz := A2.2.2
  have r0 := A3.1 0 _ rfl
  have r1 := A3.1 1 _ rfl
  have r2 := A3.1 2 _ rfl
  have rf := A3.2.1
  have rz := A3.2.2
  simp only [World.size_alloc] at b0 b1 b2 bf bz r0 r1 r2 rf rz
  have FF := Lib.hid F3
  have HS3 : (((w.alloc (.cells #[.int .i64 3, .int .u64 a, .int .i64 0] 81)).alloc (.cells #[.int .i64 3, .int .u64 b, .int .i64 0] 81)).alloc (.cells #[.int .i64 0, .int .u64 0, .int .i64 0] 81)).heap.size = w.heap.size + 1 + 1 + 1 := by simp
  clear F3 A1 A2 A3
  generalize (((w.alloc (.cells #[.int .i64 3, .int .u64 a, .int .i64 0] 81)).alloc (.cells #[.int .i64 3, .int .u64 b, .int .i64 0] 81)).alloc (.cells #[.int .i64 0, .int .u64 0, .int .i64 0] 81)) = W3 at *
  go_wp2_with fail
  go_at_call 77; refine (S.out _).mono ?_; rintro e W4 ⟨rfl, f1⟩
  have F4 := Lib.hid (FF.out.trans f1)
  have c := f1.cells
  have a0 := f1.at' a0
  have a1 := f1.at' a1
  have a2 := f1.at' a2
  have b0 := f1.at' b0
  have b1 := f1.at' b1
  have b2 := f1.at' b2
  have r0 := f1.at' r0
  have r1 := f1.at' r1
  have r2 := f1.at' r2
  have rz4 : w.heap.size + 1 + 1 < W4.heap.size := f1.z (by omega)
  have f1 := Lib.hid f1
  clear FF S
  go_upto_region 12 with fail
  have rfz := f1.out.cells
  clear f1
  have rf : ∀ o, W4.frozen? ⟨w.heap.size + 1 + 1, o, none⟩ = false := fun o => by rw [rfz.2 _ _ (by omega)]; exact rf o
  clear rfz rz bz az HS3 c
  have rz5 : w.heap.size + 1 < W4.heap.size := by omega
  have rz6 : w.heap.size < W4.heap.size := by omega
  go_region_held3 (fun w' => w'.cell? ⟨w.heap.size, 0, none⟩ = some (.int .i64 3) ∧ w'.cell? ⟨w.heap.size, 1, none⟩ = some (.int .u64 a) ∧ w'.cell? ⟨w.heap.size, 2, none⟩ = some (.int .i64 0) ∧ w'.cell? ⟨w.heap.size + 1, 0, none⟩ = some (.int .i64 3) ∧ w'.cell? ⟨w.heap.size + 1, 1, none⟩ = some (.int .u64 b) ∧ w'.cell? ⟨w.heap.size + 1, 2, none⟩ = some (.int .i64 0))
    ((first | (simp [go_sem, *]; done) | ((repeat' apply And.intro) <;> first | (rw [c1 _ _ (by simp; omega)]; simp [go_sem, *]; done) | (simp [go_sem, *]; done))))
    (first | (go_at_call 80; refine (dblF _ _ _ _).mono ?_; rintro e w1 ⟨rfl, rfl⟩) | (go_at_call 79; refine (Q.out _).mono ?_; rintro e w1 ⟨rfl, h1⟩; have z1 : w.heap.size + 1 + 1 < w1.heap.size := h1.z (by first | assumption | (simp; omega)); obtain ⟨c1, f1⟩ := h1.cells))
  have F5 := F4.out
  go_wp2_with fail
  refine bodyPost_ret (v := ?_) ?_ rfl ?_; rotate_left 1; focus (simp [results, Tryz.results62, go_sem, *]; (try rfl); done)
  exact ⟨rfl, by (repeat' first | with_reducible exact Fresh.refl _ | with_reducible assumption | with_reducible refine Fresh.drew ?_ | with_reducible refine Fresh.drewN ?_ _ | with_reducible refine Fresh.alloc ?_ _ _ | with_reducible refine Fresh.setCell ?_ ?_ _ | with_reducible refine Fresh.trans ?_ (by assumption) | (simp; done) | (simp; omega))⟩
theorem ten_le2 (k p : Nat) (h : k ≤ p) (hp : p ≤ 15) : 10 ^ k ≤ 1000000000000000 := by
  have : 10 ^ k ≤ 10 ^ 15 := Nat.pow_le_pow_right (by decide) (by omega)
  exact Nat.le_trans this (by decide)
theorem dec_bnd (k acc : Nat) (n : Nat) (h : (acc + 1) * 10 ^ k ≤ n) : acc < n := by
  have : (acc + 1) * 1 ≤ (acc + 1) * 10 ^ k := Nat.mul_le_mul_left _ (Nat.pow_pos (by decide))
  omega
theorem floatR_any (s : ByteArray) (p : Nat) (hs : s.size ≤ 1048576) (hp : p ≤ 1048576) (w : World) : Calls Tryz.prog 45 #[.string s, .int .i64 p] w fun e w' => e = .returned (optV (flR s.data.toList p)) ∧ Fresh w w' := by
  by_cases h0 : s.size < 1
  · have hE : flR s.data.toList p = none := by
      unfold flR
      rw [if_pos (Or.inl (List.eq_nil_of_length_eq_zero (by rw [← size_list]; omega)))]
    have d0 : (s.size : Int) < 1 := by omega
    rw [hE]
    clear hs hp hE h0
    go_enter Tryz.func45, Tryz.ntmps45
    go_wp2_with fail
    go_ret2
    exact ⟨rfl, Fresh.refl _⟩
  have hne : s.data.toList ≠ [] := fun e => by
    have := congrArg List.length e
    rw [← size_list, List.length_nil] at this
    omega
  have d0 : decide ((s.size : Int) < 1) = false := decide_eq_false (by omega)
  have d0' : ¬ (s.size : Int) < 1 := by omega
  by_cases h1 : 15 < s.size
  · have hE : flR s.data.toList p = none := by
      unfold flR
      rw [if_pos (Or.inr (Or.inl (by rw [← size_list]; exact h1)))]
    have d1 : (15 : Int) < (s.size : Int) := by omega
    rw [hE]
    clear hs hp hE h0 h1 hne
    go_enter Tryz.func45, Tryz.ntmps45
    go_wp2_with fail
    go_ret2
    exact ⟨rfl, Fresh.refl _⟩
  have d1 : decide ((15 : Int) < (s.size : Int)) = false := decide_eq_false (by omega)
  have d1' : ¬ (15 : Int) < (s.size : Int) := by omega
  have d2 : decide ((p : Int) < 0) = false := decide_eq_false (by omega)
  have d2' : ¬ (p : Int) < 0 := by omega
  by_cases h2 : 15 < p
  · have hE : flR s.data.toList p = none := by
      unfold flR
      rw [if_pos (Or.inr (Or.inr h2))]
    have d3 : (15 : Int) < (p : Int) := by omega
    rw [hE]
    clear hs hp hE h0 h1 hne h2
    go_enter Tryz.func45, Tryz.ntmps45
    go_wp2_with fail
    go_ret2
    exact ⟨rfl, Fresh.refl _⟩
  have d3 : decide ((15 : Int) < (p : Int)) = false := decide_eq_false (by omega)
  have d3' : ¬ (15 : Int) < (p : Int) := by omega
  have hE : flR s.data.toList p = (decR 0 s.data.toList).map fun n => fq n p := by
    unfold flR
    rw [if_neg]
    rintro (h | h | h)
    · exact hne h
    · rw [← size_list] at h; exact h1 h
    · exact h2 h
  obtain ⟨R, hR⟩ : ∃ R, R = optV ((decR 0 s.data.toList).map fun n => fq n p) := ⟨_, rfl⟩
  rw [hE, ← hR]
  have HR := Lib.hid hR
  clear hR hE hne h0
  have H15 : Hid (s.size ≤ 15 ∧ p ≤ 15) := Lib.hid ⟨by omega, by omega⟩
  clear hs hp h1 h2
  go_enter Tryz.func45, Tryz.ntmps45
  go_wp2_with fail
  clear d0 d1 d2 d3 d0' d1' d2' d3'
  go_loop [6, 8] (fun vn vi => ∃ (i acc : Nat), i ≤ s.size ∧ vn = .int .i64 acc ∧ vi = .int .i64 i ∧ Hid ((acc + 1) * 10 ^ (s.size - i) ≤ 10 ^ 15) ∧ Hid (R = optV ((decR acc (s.data.toList.drop i)).map fun n => fq n p))) (fun _ vi => s.size - (intOf vi).toNat)
  case atStart => exact ⟨0, 0, Nat.zero_le _, rfl, rfl, Lib.hid (by have := H15.out; have : 10 ^ (s.size - 0) ≤ 10 ^ 15 := Nat.pow_le_pow_right (by decide) (by omega); omega), HR⟩
  case round =>
    obtain ⟨i, acc, hi, rfl, rfl, HA, HS⟩ := hrel
    clear HR
    have hs15 := H15.out.1
    have hab := dec_bnd _ _ _ HA.out
    have h15 : (10 : Nat) ^ 15 = 1000000000000000 := by decide
    by_cases hlt : i < s.size
    · have hltI : (i : Int) < (s.size : Int) := by omega
      have hd := drop_get2 s i hlt
      have HS2 : Hid (R = optV ((if digitZ ((s[i]'hlt).toNat : Int) = false then none else decR (acc * 10 + ((s[i]'hlt).toNat - 48)) (s.data.toList.drop (i + 1))).map fun n => fq n p)) := Lib.hid (by rw [HS.out, hd]; rfl)
      have HZ : Hid (digitZ ((s[i]'hlt).toNat : Int) = decide (48 ≤ (s[i]'hlt).toNat ∧ (s[i]'hlt).toNat ≤ 57)) := Lib.hid (digitZ_nat _)
      have D := Lib.hid (fun X => digitR_same ((s[i]'hlt).toNat : Int) X)
      have HA2 : Hid ((acc + 1) * 10 * 10 ^ (s.size - (i + 1)) ≤ 10 ^ 15) := Lib.hid (by
        have := HA.out
        rw [show s.size - i = (s.size - (i + 1)) + 1 by omega, Nat.pow_succ, Nat.mul_comm (10 ^ _) 10, ← Nat.mul_assoc] at this
        exact this)
      clear hd HS HA
      generalize digitZ ((s[i]'hlt).toNat : Int) = z at *
      cases z with
      | false =>
        have hE : Hid (optV none = R) := Lib.hid (by rw [HS2.out, if_pos rfl]; rfl)
        clear HS2 HZ
        go_wp2_with fail
        go_at_call 29; refine (D.out _).mono ?_; rintro e w1 ⟨rfl, rfl⟩
        go_wp2_with fail
        go_ret2
        exact ⟨by rw [← hE.out]; rfl, Fresh.refl _⟩
      | true =>
        have hz := of_decide_eq_true HZ.out.symm
        have hab2 := dec_bnd _ _ _ (Nat.le_trans (Nat.le_of_eq (by rw [show 10 * (acc + 1) - 1 + 1 = (acc + 1) * 10 by omega])) HA2.out : (10 * (acc + 1) - 1 + 1) * 10 ^ (s.size - (i + 1)) ≤ 10 ^ 15)
        have hx1 : IntKind.i64.wrap ((acc : Int) * 10) = (acc : Int) * 10 := IntWalk.i64_in _ (by omega)
        have hx2 : IntKind.u8.wrap (((s[i]'hlt).toNat : Int) - 48) = ((s[i]'hlt).toNat : Int) - 48 := IntWalk.u8_in _ (by omega)
        have hx3 : IntKind.i64.wrap (((s[i]'hlt).toNat : Int) - 48) = ((s[i]'hlt).toNat : Int) - 48 := IntWalk.i64_in _ (by omega)
        have hx4 : IntKind.i64.wrap ((acc : Int) * 10 + (((s[i]'hlt).toNat : Int) - 48)) = (acc : Int) * 10 + (((s[i]'hlt).toNat : Int) - 48) := IntWalk.i64_in _ (by omega)
        have HV : Hid ((acc : Int) * 10 + (((s[i]'hlt).toNat : Int) - 48) = ((acc * 10 + ((s[i]'hlt).toNat - 48) : Nat) : Int)) := Lib.hid (by omega)
        have HN : Hid (R = optV ((decR (acc * 10 + ((s[i]'hlt).toNat - 48)) (s.data.toList.drop (i + 1))).map fun n => fq n p)) := Lib.hid (by rw [HS2.out, if_neg (by decide)])
        have HAN : Hid ((acc * 10 + ((s[i]'hlt).toNat - 48) + 1) * 10 ^ (s.size - (i + 1)) ≤ 10 ^ 15) := Lib.hid (Nat.le_trans (Nat.mul_le_mul_right _ (by omega)) HA2.out)
        clear HS2 HZ HA2 hz hab hab2
        go_wp2_with fail
        go_at_call 29; refine (D.out _).mono ?_; rintro e w1 ⟨rfl, rfl⟩
        go_wp2_with fail
        go_round
        case rel => exact ⟨i + 1, acc * 10 + ((s[i]'hlt).toNat - 48), by omega, by rw [← HV.out], by go_num, HAN, HN⟩
        case measure => simp [intOf]; omega
    · have hltI : ¬ (i : Int) < (s.size : Int) := by omega
      have hE : Hid (R = optV (some (fq acc p))) := Lib.hid (by rw [HS.out, List.drop_eq_nil_of_le (by rw [← size_list]; omega)]; rfl)
      have HAC : Hid (acc < 1000000000000000) := Lib.hid hab
      clear HS HA hab
      go_wp2_with fail
      clear hi hltI hlt
      go_loop [7, 9] (fun vt vi => ∃ (k : Nat) (t : Int), k ≤ p ∧ vi = .int .i64 k ∧ vt = .int .i64 t ∧ Hid (t = ((10 ^ k : Nat) : Int))) (fun _ vi => p - (intOf vi).toNat)
      case atStart => exact ⟨0, 1, Nat.zero_le _, rfl, rfl, Lib.hid rfl⟩
      case round =>
        obtain ⟨k, t, hk, rfl, rfl, HT⟩ := hrel
        have hp15 := H15.out.2
        by_cases hlt : k < p
        · have hltI : (k : Int) < (p : Int) := by omega
          have t0 : 0 ≤ t := by rw [HT.out]; exact Int.natCast_nonneg _
          have t1 : t ≤ 1000000000000000 := by rw [HT.out]; exact Int.ofNat_le.2 (ten_le2 k p hk hp15)
          have HN : Hid (t * 10 = ((10 ^ (k + 1) : Nat) : Int)) := Lib.hid (by rw [HT.out, Nat.pow_succ]; push_cast; rfl)
          have hw : IntKind.i64.wrap (t * 10) = t * 10 := IntWalk.i64_in _ (by omega)
          clear HT
          go_wp2_with fail
          go_round
          case rel => exact ⟨k + 1, t * 10, by omega, by go_num, rfl, HN⟩
          case measure => simp [intOf]; omega
        · have hltI : ¬ (k : Int) < (p : Int) := by omega
          obtain rfl : k = p := by omega
          have hT : t = ((10 ^ k : Nat) : Int) := HT.out
          have D1 := Lib.hid (fun X => dblR _ (nan_int acc) X)
          have D2 := Lib.hid (fun X => dblR _ (nan_int (10 ^ k)) X)
          have EV := Lib.hid (fun X => evalR65 _ _ _ (fq_some acc k hp15) (nan_low _ (fq_le acc k hp15)) X)
          rw [← hT] at D2 EV
          clear hT HT hp15 hltI hlt hk HAC
          generalize fq acc k = Q at *
          have hE2 := hE.out
          clear hE h15 hs15
          go_wp2_with fail
          go_at_call 63; refine (D1.out _).mono ?_; rintro e w1 ⟨rfl, f1⟩
          have F1 := Lib.hid f1
          clear f1 D1
          go_wp2_with fail
          go_at_call 63; refine (D2.out _).mono ?_; rintro e w2 ⟨rfl, f2⟩
          have F2 := Lib.hid (F1.out.trans f2)
          clear f2 F1 D2
          go_wp2_with fail
          go_at_call 62; refine (EV.out _).mono ?_; rintro e w3 ⟨rfl, f3⟩
          have F3 := Lib.hid (F2.out.trans f3)
          clear f3 F2 EV
          go_wp2_with fail
          go_ret2
          exact ⟨by rw [hE2]; rfl, F3.out.alloc _ _⟩
end
end Go.Proofs.YtcmfmfgedhfaeaaGreatDoor
/- The reference: a number's token. -/
namespace Go.Proofs.YtcmfmfgedhfaeaaGreatDoor
set_option linter.unusedSimpArgs false
set_option linter.unusedVariables false
open Go.RowKit

def numO (l : List UInt8) : Option (Nat × Nat) := match wholeR l with
  | some n => some (3, n)
  | none => (dotR l l.length 1).map fun b => (4, b)
def NumR (s : ByteArray) (o : Option (Nat × Nat)) (e : Ending) : Prop := ∃ (k b : Int) (t : ByteArray), e = .returned (.tuple #[tokV k t b ⟨#[]⟩, .bool o.isSome]) ∧ ∀ r, o = some r → k = r.1 ∧ b = r.2 ∧ t = s
theorem ext_tail (s : ByteArray) (i : Nat) (h : i ≤ s.size) : (s.extract i s.size).data.toList = s.data.toList.drop i := by
  rw [Lib.extract_data, List.take_of_length_le]
  rw [List.length_drop, ← size_list]
  omega
theorem app_list (a b : ByteArray) : (a ++ b).data.toList = a.data.toList ++ b.data.toList := by simp
section
set_option maxRecDepth 100000
set_option maxHeartbeats 2000000
theorem numR_any (s : ByteArray) (hs : s.size ≤ 1048576) (w : World) : Calls Tryz.prog 31 #[.string s] w fun e w' => NumR s (numO s.data.toList) e ∧ Fresh w w' := by
  have C := Lib.hid (fun X => wholeR_any s hs X)
  have HO : Hid (numO s.data.toList = match wholeR s.data.toList with | some n => some (3, n) | none => (dotR s.data.toList s.data.toList.length 1).map fun b => (4, b)) := Lib.hid rfl
  have A := Lib.hid (Blk.new w #[.int .i64 0, .int .i64 0, .int .i64 0, .string ⟨#[]⟩, .int .u64 0, .string ⟨#[]⟩] 32)
  cases hW : wholeR s.data.toList with
  | some n =>
    have hO : numO s.data.toList = some (3, n) := by rw [HO.out, hW]
    rw [hO]
    rw [hW] at C
    have C := Lib.hid (show ∀ X, Calls Tryz.prog 44 #[.string s] X fun e w' => e = .returned (.tuple #[.int .u64 (n : Int), .bool true]) ∧ Fresh X w' from fun X => C.out X)
    clear HO hO hW hs
    go_enter Tryz.func31, Tryz.ntmps31
    go_wp2_with fail
    go_at_call 44; refine (C.out _).mono ?_; rintro e w1 ⟨rfl, f1⟩
    have B := A.out.fresh f1
    have r0 := B.1 0 _ rfl
    have r1 := B.1 1 _ rfl
    have r2 := B.1 2 _ rfl
    have r3 := B.1 3 _ rfl
    have r4 := B.1 4 _ rfl
    have r5 := B.1 5 _ rfl
    have rf := B.2.1
    have rz := B.2.2
    have F1 := Lib.hid (((Fresh.refl w).alloc _ _).trans f1)
    clear f1 B A C
    go_wp2_with fail
    refine bodyPost_ret (v := ?_) ?_ rfl ?_; rotate_left 1; focus (simp [results, Tryz.results31, go_sem, *]; (try rfl); done)
    exact ⟨⟨3, n, s, rfl, fun r hr => by simp only [Option.some.injEq] at hr; subst hr; exact ⟨rfl, rfl, rfl⟩⟩, by (repeat' first | with_reducible exact F1.out | with_reducible refine Fresh.setCell ?_ (Nat.le_refl _) _)⟩
  | none =>
    obtain ⟨D, hD⟩ : ∃ D, D = dotR s.data.toList s.data.toList.length 1 := ⟨_, rfl⟩
    have hO : numO s.data.toList = D.map fun b => (4, b) := by rw [HO.out, hW, hD]
    rw [hO]
    have HD := Lib.hid hD
    rw [hW] at C
    have C := Lib.hid (show ∀ X, Calls Tryz.prog 44 #[.string s] X fun e w' => e = .returned (.tuple #[.int .u64 0, .bool false]) ∧ Fresh X w' from fun X => C.out X)
    clear HO hO hW hD
    go_enter Tryz.func31, Tryz.ntmps31
    go_wp2_with fail
    go_at_call 44; refine (C.out _).mono ?_; rintro e w1 ⟨rfl, f1⟩
    have B := Lib.hid (A.out.fresh f1)
    have F1 := Lib.hid (((Fresh.refl w).alloc _ _).trans f1)
    clear f1 A C
    go_wp2_with fail
    go_loop [6] (fun vi => ∃ (i f : Nat), 1 ≤ i ∧ i ≤ s.size + 1 ∧ s.size ≤ i + f ∧ vi = .int .i64 i ∧ Hid (D = dotR s.data.toList f i)) (fun vi => s.size + 1 - (intOf vi).toNat)
    case atStart => exact ⟨1, s.size, Nat.le_refl _, by omega, by omega, rfl, Lib.hid (by rw [HD.out, ← size_list])⟩
    case round =>
      obtain ⟨i, f, hi1, hi, hif, rfl, HS⟩ := hrel
      clear HD
      by_cases hlt : i + 1 < s.size
      · have hltI : (i : Int) + 1 < (s.size : Int) := by omega
        have hii : i < s.size := by omega
        have hiI : (i : Int) < (s.size : Int) := by omega
        obtain ⟨f, rfl⟩ : ∃ g, f = g + 1 := ⟨f - 1, by omega⟩
        have HC := Lib.hid (get_L s i hii)
        by_cases hc : (s[i]'hii).toNat = 46
        · have b : (((s[i]'hii).toNat : Int) == 46) = true := u8_eq _ 46 hc
          have HE : Hid (D = flR (s.data.toList.take i ++ s.data.toList.drop (i + 1)) (s.size - i - 1)) := Lib.hid (by
            rw [HS.out]
            unfold dotR
            rw [if_pos (by rw [← size_list]; exact hlt), if_pos (by rw [← HC.out]; exact (u_nat _ 46 (by decide)).2 hc), ← size_list])
          have HL : Hid ((s.extract 0 i ++ s.extract (i + 1) s.size).data.toList = s.data.toList.take i ++ s.data.toList.drop (i + 1)) := Lib.hid (by rw [app_list, ext_list0, ext_tail _ _ (by omega)])
          have hz1 := ext_size s i (by omega)
          have hz2 : (s.extract (i + 1) s.size).size = s.size - (i + 1) := by rw [size_list, ext_tail _ _ (by omega), List.length_drop, ← size_list]
          have hsum : ¬ 9223372036854775807 < ((s.extract 0 i).size : Int) + ((s.extract (i + 1) s.size).size : Int) := by rw [hz1, hz2]; omega
          have FL := Lib.hid (fun X => floatR_any (s.extract 0 i ++ s.extract (i + 1) s.size) (s.size - i - 1) (by rw [size_list, HL.out, List.length_append, List.length_take, List.length_drop, ← size_list]; omega) (by omega) X)
          rw [HL.out, ← HE.out] at FL
          have hcast : ((s.size - i - 1 : Nat) : Int) = (s.size : Int) - (i : Int) - 1 := by omega
          rw [hcast] at FL
          have hw1 : IntKind.i64.wrap ((s.size : Int) - (i : Int)) = (s.size : Int) - (i : Int) := IntWalk.i64_in _ (by omega)
          have hw2 : IntKind.i64.wrap ((s.size : Int) - (i : Int) - 1) = (s.size : Int) - (i : Int) - 1 := IntWalk.i64_in _ (by omega)
          have hw3 : IntKind.i64.wrap ((i : Int) + 1) = (i : Int) + 1 := IntWalk.i64_in _ (by omega)
          have s1 : (i : Int) ≤ (s.size : Int) := by omega
          have s2 : (i : Int) + 1 ≤ (s.size : Int) := by omega
          have s3 : (0 : Int) ≤ (i : Int) + 1 := by omega
          have s4 : 0 ≤ (i : Int) + 1 ∧ (i : Int) + 1 ≤ (s.size : Int) := ⟨s3, s2⟩
          have hsum2 : (((s.extract 0 i).size : Int) + ((s.extract (i + 1) s.size).size : Int)) ≤ 9223372036854775807 := by omega
          have hcat : ∀ X, (Op.stringOp .add (s.extract 0 i) (s.extract (i + 1) s.size)).run Tryz.prog X = .ok (.string (s.extract 0 i ++ s.extract (i + 1) s.size)) X := fun X => Go.run_string_add_sum _ _ _ (by omega)
          have hmin : ¬ 9223372036854775807 < i + (s.size - (i + 1)) := by omega
          have hmin2 : min i s.size = i := by omega
          clear HE HL HS HC hc hcast hsum2
          cases D with
          | some q =>
            have FL := Lib.hid (show ∀ X, Calls Tryz.prog 45 #[.string (s.extract 0 i ++ s.extract (i + 1) s.size), .int .i64 ((s.size : Int) - (i : Int) - 1)] X fun e w' => e = .returned (.tuple #[.int .u64 (q : Int), .bool true]) ∧ Fresh X w' from fun X => FL.out X)
            go_upto_region 8 with fail
            go_region_held3 (fun w' => True) (trivial) ((go_at_call 45; refine (FL.out _).mono ?_; rintro e w2 ⟨rfl, f2⟩))
            have F12 : Fresh w1 w2 := by (repeat' first | with_reducible exact Fresh.refl _ | with_reducible refine Fresh.drew ?_ | with_reducible refine Fresh.drewN ?_ _ | with_reducible refine Fresh.trans ?_ (by assumption))
            have B2 := B.out.fresh F12
            have r0 := B2.1 0 _ rfl
            have r1 := B2.1 1 _ rfl
            have r2 := B2.1 2 _ rfl
            have r3 := B2.1 3 _ rfl
            have r4 := B2.1 4 _ rfl
            have r5 := B2.1 5 _ rfl
            have rf := B2.2.1
            have rz := B2.2.2
            have F2 := F1.out.trans F12
            clear f2 B2 B F12 F1
            go_wp2_with fail
            refine bodyPost_ret (v := ?_) ?_ rfl ?_; rotate_left 1; focus (simp [results, Tryz.results31, go_sem, *]; (try rfl); done)
            exact ⟨⟨4, q, s, rfl, fun r hr => by simp only [Option.map_some, Option.some.injEq] at hr; subst hr; exact ⟨rfl, rfl, rfl⟩⟩, by (repeat' first | with_reducible exact F2 | with_reducible refine Fresh.setCell ?_ (Nat.le_refl _) _)⟩
          | none =>
            have FL := Lib.hid (show ∀ X, Calls Tryz.prog 45 #[.string (s.extract 0 i ++ s.extract (i + 1) s.size), .int .i64 ((s.size : Int) - (i : Int) - 1)] X fun e w' => e = .returned (.tuple #[.int .u64 0, .bool false]) ∧ Fresh X w' from fun X => FL.out X)
            go_upto_region 8 with fail
            go_region_held3 (fun w' => True) (trivial) ((go_at_call 45; refine (FL.out _).mono ?_; rintro e w2 ⟨rfl, f2⟩))
            have F12 : Fresh w1 w2 := by (repeat' first | with_reducible exact Fresh.refl _ | with_reducible refine Fresh.drew ?_ | with_reducible refine Fresh.drewN ?_ _ | with_reducible refine Fresh.trans ?_ (by assumption))
            have B2 := B.out.fresh F12
            have r0 := B2.1 0 _ rfl
            have r1 := B2.1 1 _ rfl
            have r2 := B2.1 2 _ rfl
            have r3 := B2.1 3 _ rfl
            have r4 := B2.1 4 _ rfl
            have r5 := B2.1 5 _ rfl
            have rf := B2.2.1
            have rz := B2.2.2
            have F2 := F1.out.trans F12
            clear f2 B2 B F12 F1
            go_wp2_with fail
            refine bodyPost_ret (v := ?_) ?_ rfl ?_; rotate_left 1; focus (simp [results, Tryz.results31, go_sem, *]; (try rfl); done)
            exact ⟨⟨4, 0, s, rfl, fun r hr => by cases hr⟩, by (repeat' first | with_reducible exact F2 | with_reducible refine Fresh.setCell ?_ (Nat.le_refl _) _)⟩
        · have b : (((s[i]'hii).toNat : Int) == 46) = false := u8_ne _ 46 hc
          have HN : Hid (D = dotR s.data.toList f (i + 1)) := Lib.hid (by
            rw [HS.out]
            show dotR s.data.toList (f + 1) i = _
            unfold dotR
            rw [if_pos (by rw [← size_list]; exact hlt), if_neg (by rw [← HC.out]; exact fun e => hc ((u_nat _ 46 (by decide)).1 e))]
            cases f <;> rfl)
          clear HS HC hc
          go_wp2_with fail
          go_round
          case rel => exact ⟨i + 1, f, by omega, by omega, by omega, by go_num, HN⟩
          case measure => simp [intOf]; omega
      · have hltI : ¬ (i : Int) + 1 < (s.size : Int) := by omega
        have hE : D = none := by
          rw [HS.out]
          cases f with
          | zero => rfl
          | succ f => unfold dotR; rw [if_neg (by rw [← size_list]; exact hlt)]
        subst hE
        have r0 := B.out.1 0 _ rfl
        have r1 := B.out.1 1 _ rfl
        have r2 := B.out.1 2 _ rfl
        have r3 := B.out.1 3 _ rfl
        have r4 := B.out.1 4 _ rfl
        have r5 := B.out.1 5 _ rfl
        have rf := B.out.2.1
        have rz := B.out.2.2
        clear HS B
        go_wp2_with fail
        refine bodyPost_ret (v := ?_) ?_ rfl ?_; rotate_left 1; focus (simp [results, Tryz.results31, go_sem, *]; (try rfl); done)
        exact ⟨⟨0, 0, ⟨#[]⟩, rfl, fun r hr => by cases hr⟩, by (repeat' first | with_reducible exact F1.out | with_reducible refine Fresh.setCell ?_ (Nat.le_refl _) _)⟩
end
end Go.Proofs.YtcmfmfgedhfaeaaGreatDoor
