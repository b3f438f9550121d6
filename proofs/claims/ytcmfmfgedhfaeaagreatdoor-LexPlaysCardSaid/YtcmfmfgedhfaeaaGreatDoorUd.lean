/- The reference: the token at a text's beginning. -/
import Derived.Test.YtcmfmfgedhfaeaaGreatDoorUa
import Derived.Test.YtcmfmfgedhfaeaaGreatDoorUb
import Derived.Test.YtcmfmfgedhfaeaaGreatDoorUc
import Derived.Test.YtcmfmfgedhfaeaaGreatDoorLx
import Derived.Test.YtcmfmfgedhfaeaaGreatDoorMc
import Derived.Test.YtcmfmfgedhfaeaaGreatDoorNa
namespace Go.Proofs.YtcmfmfgedhfaeaaGreatDoor
set_option linter.unusedSimpArgs false
set_option linter.unusedVariables false
open Go.RowKit

theorem span_at (p : Int → Bool) (s : ByteArray) (k : Nat) (h : k < s.size) : spanL p (s.data.toList.drop k) = if p ((s[k]'h).toNat : Int) then 1 + spanL p (s.data.toList.drop (k + 1)) else 0 := by
  rw [drop_get s k h]; rfl
theorem span_end (p : Int → Bool) (s : ByteArray) (k : Nat) (h : ¬ k < s.size) : spanL p (s.data.toList.drop k) = 0 := by
  rw [List.drop_eq_nil_of_le (by rw [← size_list]; omega)]; rfl
theorem kind_fin : ∀ c : Fin 256, (letterZ (c.val : Int) = true → digitZ (c.val : Int) = false ∧ c.val ≠ 46) ∧ (digitZ (c.val : Int) = true → letterZ (c.val : Int) = false ∧ c.val ≠ 46 ∧ c.val ≠ 39 ∧ c.val ≠ 34) := by decide +kernel
section
set_option maxRecDepth 100000
set_option maxHeartbeats 2000000
theorem tokR_name (s : ByteArray) (h0 : 0 < s.size) (hs : s.size ≤ 1048576) (hc : letterZ ((s[0]'h0).toNat : Int) = true) (w : World) :
    Calls Tryz.prog 19 #[.string s] w fun e w' => e = .returned (prV s (nameL s.data.toList)) ∧ Fresh w w' := by
  have h0I : (0 : Int) < (s.size : Int) := by omega
  have D0 := Lib.hid (fun X => by have := letterR_same ((s[0]'h0).toNat : Int) X; rw [hc] at this; exact this)
  obtain ⟨n, hn⟩ : ∃ n, n = spanL nameZ s.data.toList := ⟨_, rfl⟩
  have hns : n ≤ s.size := by rw [hn, size_list]; exact spanL_le _ _
  have HN := Lib.hid hn
  have A := Lib.hid (Blk.new w #[.int .i64 0, .int .i64 0, .int .i64 0, .string ⟨#[]⟩, .int .u64 0, .string ⟨#[]⟩] 32)
  have F1 := Lib.hid ((Fresh.refl w).alloc #[.int .i64 0, .int .i64 0, .int .i64 0, .string ⟨#[]⟩, .int .u64 0, .string ⟨#[]⟩] 32)
  clear hn hc
  go_enter Tryz.func19, Tryz.ntmps19
  go_upto_region 5 with fail
  generalize w.alloc (.cells #[.int .i64 0, .int .i64 0, .int .i64 0, .string ⟨#[]⟩, .int .u64 0, .string ⟨#[]⟩] 32) = W1 at *
  go_wp2_with fail
  go_at_call 28; refine (D0.out _).mono ?_; rintro e w1 ⟨rfl, rfl⟩
  clear D0
  go_upto_block 1 with fail
  go_cut [4] from 17 to 37 (fun v wx => wx = w1 ∧ v = .int .i64 n)
  case first =>
    go_wp2_with fail
    go_loop [4] (fun v => ∃ k : Nat, v = .int .i64 k ∧ k ≤ s.size ∧ Hid (n = k + spanL nameZ (s.data.toList.drop k))) (fun v => s.size - (intOf v).toNat)
    case atStart => exact ⟨0, rfl, Nat.zero_le _, Lib.hid (by rw [HN.out, List.drop_zero, Nat.zero_add])⟩
    case round =>
      obtain ⟨k, rfl, hk, HS⟩ := hrel
      clear HN
      by_cases hlt : k < s.size
      · have hltI : (k : Int) < (s.size : Int) := by omega
        have HS2 : Hid (n = k + if (letterZ ((s[k]'hlt).toNat : Int) || digitZ ((s[k]'hlt).toNat : Int)) then 1 + spanL nameZ (s.data.toList.drop (k + 1)) else 0) := Lib.hid (by rw [HS.out, span_at _ _ _ hlt]; rfl)
        have D1 := Lib.hid (fun X => letterR_same ((s[k]'hlt).toNat : Int) X)
        have D2 := Lib.hid (fun X => digitR_same ((s[k]'hlt).toNat : Int) X)
        clear HS
        generalize letterZ ((s[k]'hlt).toNat : Int) = a at *
        generalize digitZ ((s[k]'hlt).toNat : Int) = b at *
        cases a with
        | true =>
          have HS3 : Hid (n = (k + 1) + spanL nameZ (s.data.toList.drop (k + 1))) := Lib.hid (by rw [HS2.out]; simp only [Bool.true_or, if_true]; omega)
          clear HS2 D2
          go_wp2_with fail
          go_at_call 28; refine (D1.out _).mono ?_; rintro e w2 ⟨rfl, rfl⟩
          go_wp2_with fail
          go_round
          case rel => exact ⟨k + 1, by go_num, by omega, HS3⟩
          case measure => simp [intOf]; omega
        | false =>
          cases b with
          | true =>
            have HS3 : Hid (n = (k + 1) + spanL nameZ (s.data.toList.drop (k + 1))) := Lib.hid (by rw [HS2.out]; simp only [Bool.or_true, if_true]; omega)
            clear HS2
            go_wp2_with fail
            go_at_call 28; refine (D1.out _).mono ?_; rintro e w2 ⟨rfl, rfl⟩
            go_wp2_with fail
            go_at_call 29; refine (D2.out _).mono ?_; rintro e w2 ⟨rfl, rfl⟩
            go_wp2_with fail
            go_round
            case rel => exact ⟨k + 1, by go_num, by omega, HS3⟩
            case measure => simp [intOf]; omega
          | false =>
            have HE : n = k := by rw [HS2.out]; simp
            subst HE
            clear HS2
            go_wp2_with fail
            go_at_call 28; refine (D1.out _).mono ?_; rintro e w2 ⟨rfl, rfl⟩
            go_wp2_with fail
            go_at_call 29; refine (D2.out _).mono ?_; rintro e w2 ⟨rfl, rfl⟩
            go_wp2_with fail
            go_meet
            exact ⟨rfl, rfl⟩
      · have hltI : decide ((k : Int) < (s.size : Int)) = false := decide_eq_false (by omega)
        have hltJ : ¬ (k : Int) < (s.size : Int) := by omega
        have HE : n = k := by rw [HS.out, span_end _ _ _ hlt]; rfl
        subst HE
        clear HS
        go_wp2_with fail
        go_meet
        exact ⟨rfl, rfl⟩
  case rest =>
    obtain ⟨rfl, rfl⟩ := hcut
    have HNL : Hid (nameL s.data.toList = if 64 < n then .err 7 else if s.data.toList.take n ∈ wordsL then .tok 2 n 0 [] else .tok 1 n 0 []) := Lib.hid (by unfold nameL; rw [← HN.out])
    have r0 := A.out.1 0 _ rfl
    have r1 := A.out.1 1 _ rfl
    have r2 := A.out.1 2 _ rfl
    have r3 := A.out.1 3 _ rfl
    have r4 := A.out.1 4 _ rfl
    have r5 := A.out.1 5 _ rfl
    have rf := A.out.2.1
    have rz := A.out.2.2
    by_cases h64 : 64 < n
    · have h64I : (64 : Int) < (n : Int) := by omega
      have hR : Hid (prV s (nameL s.data.toList) = .tuple #[tokV 0 ⟨#[]⟩ 0 ⟨#[]⟩, .int .i64 7]) := Lib.hid (by rw [HNL.out, if_pos h64]; rfl)
      clear HNL A HN
      go_wp2_with fail
      refine bodyPost_ret (v := ?_) ?_ rfl ?_; rotate_left 1; focus (simp [results, Tryz.results19, go_sem, *]; (try rfl); done)
      exact ⟨by rw [hR.out]; rfl, by (repeat' first | with_reducible exact F1.out | with_reducible refine Fresh.setCell ?_ (Nat.le_refl _) _)⟩
    · have h64I : ¬ (64 : Int) < (n : Int) := by omega
      have WD := Lib.hid (fun X => by have := wordR_any (s.extract 0 n) (by rw [ext_size _ _ hns]; omega) X; rw [ext_list0] at this; exact this)
      have s1 : (n : Int) ≤ (s.size : Int) := by omega
      have A2 := A
      clear r0 r1 r2 r3 r4 r5 rf rz
      by_cases hw : s.data.toList.take n ∈ wordsL
      · have hR : Hid (prV s (nameL s.data.toList) = .tuple #[tokV 2 (s.extract 0 n) 0 ⟨#[]⟩, .int .i64 0]) := Lib.hid (by rw [HNL.out, if_neg h64, if_pos hw]; rfl)
        rw [decide_eq_true hw] at WD
        clear HNL HN hw
        go_wp2_with fail
        go_at_call 30; refine (WD.out _).mono ?_; rintro e w2 ⟨rfl, f2⟩
        have B := A.out.fresh f2
        have r0 := B.1 0 _ rfl
        have r1 := B.1 1 _ rfl
        have r2 := B.1 2 _ rfl
        have r3 := B.1 3 _ rfl
        have r4 := B.1 4 _ rfl
        have r5 := B.1 5 _ rfl
        have rf := B.2.1
        have rz := B.2.2
        have F2 := Lib.hid (F1.out.trans f2)
        clear B A A2 f2 F1 WD
        go_wp2_with fail
        refine bodyPost_ret (v := ?_) ?_ rfl ?_; rotate_left 1; focus (simp [results, Tryz.results19, go_sem, *]; (try rfl); done)
        exact ⟨by rw [hR.out]; rfl, by (repeat' first | with_reducible exact F2.out | with_reducible refine Fresh.setCell ?_ (Nat.le_refl _) _)⟩
      · have hR : Hid (prV s (nameL s.data.toList) = .tuple #[tokV 1 (s.extract 0 n) 0 ⟨#[]⟩, .int .i64 0]) := Lib.hid (by rw [HNL.out, if_neg h64, if_neg hw]; rfl)
        rw [decide_eq_false hw] at WD
        clear HNL HN hw
        go_wp2_with fail
        go_at_call 30; refine (WD.out _).mono ?_; rintro e w2 ⟨rfl, f2⟩
        have B := A.out.fresh f2
        have r0 := B.1 0 _ rfl
        have r1 := B.1 1 _ rfl
        have r2 := B.1 2 _ rfl
        have r3 := B.1 3 _ rfl
        have r4 := B.1 4 _ rfl
        have r5 := B.1 5 _ rfl
        have rf := B.2.1
        have rz := B.2.2
        have F2 := Lib.hid (F1.out.trans f2)
        clear B A A2 f2 F1 WD
        go_wp2_with fail
        refine bodyPost_ret (v := ?_) ?_ rfl ?_; rotate_left 1; focus (simp [results, Tryz.results19, go_sem, *]; (try rfl); done)
        exact ⟨by rw [hR.out]; rfl, by (repeat' first | with_reducible exact F2.out | with_reducible refine Fresh.setCell ?_ (Nat.le_refl _) _)⟩
end
end Go.Proofs.YtcmfmfgedhfaeaaGreatDoor
/- The reference: the token at a text's beginning, the other kinds. -/
namespace Go.Proofs.YtcmfmfgedhfaeaaGreatDoor
set_option linter.unusedSimpArgs false
set_option linter.unusedVariables false
open Go.RowKit

theorem numL_O (l : List UInt8) (k : Nat) (hk : k = spanL numZ l) (h0 : (l.take k).getD 0 0 ≠ 46) : numL l = match numO (l.take k) with | some r => .tok r.1 k r.2 [] | none => .err 2 := by
  unfold numL numO
  rw [← hk, whole_eq]
  cases wholeL (l.take k) with
  | some v => rfl
  | none =>
    simp only
    rw [dot_eq _ h0]
    cases fracL (l.take k) <;> rfl
theorem quo_err (q : UInt8) (r : List UInt8) (x : Nat) (h : quoR q r = .err x) : x = 2 := by
  unfold quoR at h
  cases hz : qR q r.length r [] 0 0 with
  | none => rw [hz] at h; simp only [quoE, PR.err.injEq] at h; exact h.symm
  | some t =>
    rw [hz] at h
    simp only [quoE] at h
    split at h
    · simp only [PR.err.injEq] at h; exact h.symm
    · split at h <;> cases h
def zeroT : Array Value := #[.int .i64 0, .int .i64 0, .int .i64 0, .string ⟨#[]⟩, .int .u64 0, .string ⟨#[]⟩]
section
set_option maxRecDepth 100000
set_option maxHeartbeats 2000000
theorem tokR_num (s : ByteArray) (h0 : 0 < s.size) (hs : s.size ≤ 1048576) (hc : digitZ ((s[0]'h0).toNat : Int) = true) (w : World) :
    Calls Tryz.prog 19 #[.string s] w fun e w' => e = .returned (prV s (numL s.data.toList)) ∧ Fresh w w' := by
  have h0I : (0 : Int) < (s.size : Int) := by omega
  have hkf := (kind_fin ⟨(s[0]'h0).toNat, (s[0]'h0).toNat_lt⟩).2 hc
  simp only at hkf
  have D0 := Lib.hid (fun X => by have := letterR_same ((s[0]'h0).toNat : Int) X; rw [hkf.1] at this; exact this)
  have E0 := Lib.hid (fun X => by have := digitR_same ((s[0]'h0).toNat : Int) X; rw [hc] at this; exact this)
  have HK0 : Hid (s.data.toList.getD 0 0 ≠ 46) := Lib.hid (by rw [← get_L s 0 h0]; exact fun e => hkf.2.1 ((u_nat _ 46 (by decide)).1 e))
  have HN0 : Hid (1 ≤ spanL numZ s.data.toList) := Lib.hid (by
    have h := span_at numZ s 0 h0
    rw [List.drop_zero] at h
    rw [h, if_pos (by unfold numZ nameZ; rw [hc]; simp)]
    omega)
  obtain ⟨n, hn⟩ : ∃ n, n = spanL numZ s.data.toList := ⟨_, rfl⟩
  have hns : n ≤ s.size := by rw [hn, size_list]; exact spanL_le _ _
  have HN := Lib.hid hn
  have A := Lib.hid (Blk.new w #[.int .i64 0, .int .i64 0, .int .i64 0, .string ⟨#[]⟩, .int .u64 0, .string ⟨#[]⟩] 32)
  have F1 := Lib.hid ((Fresh.refl w).alloc #[.int .i64 0, .int .i64 0, .int .i64 0, .string ⟨#[]⟩, .int .u64 0, .string ⟨#[]⟩] 32)
  clear hn hc hkf
  go_enter Tryz.func19, Tryz.ntmps19
  go_upto_region 5 with fail
  generalize w.alloc (.cells #[.int .i64 0, .int .i64 0, .int .i64 0, .string ⟨#[]⟩, .int .u64 0, .string ⟨#[]⟩] 32) = W1 at *
  go_wp2_with fail
  go_at_call 28; refine (D0.out _).mono ?_; rintro e w1 ⟨rfl, rfl⟩
  go_wp2_with fail
  go_at_call 29; refine (E0.out _).mono ?_; rintro e w1 ⟨rfl, rfl⟩
  clear D0 E0
  go_upto_block 3 with fail
  go_cut [4] from 54 to 80 (fun v wx => wx = w1 ∧ v = .int .i64 n)
  case first =>
    go_wp2_with fail
    go_loop [4] (fun v => ∃ k : Nat, v = .int .i64 k ∧ k ≤ s.size ∧ Hid (n = k + spanL numZ (s.data.toList.drop k))) (fun v => s.size - (intOf v).toNat)
    case atStart => exact ⟨0, rfl, Nat.zero_le _, Lib.hid (by rw [HN.out, List.drop_zero, Nat.zero_add])⟩
    case round =>
      obtain ⟨k, rfl, hk, HS⟩ := hrel
      clear HN
      by_cases hlt : k < s.size
      · have hltI : (k : Int) < (s.size : Int) := by omega
        have HS2 : Hid (n = k + if (letterZ ((s[k]'hlt).toNat : Int) || digitZ ((s[k]'hlt).toNat : Int) || (((s[k]'hlt).toNat : Int) == 46)) then 1 + spanL numZ (s.data.toList.drop (k + 1)) else 0) := Lib.hid (by rw [HS.out, span_at _ _ _ hlt]; rfl)
        have D1 := Lib.hid (fun X => letterR_same ((s[k]'hlt).toNat : Int) X)
        have D2 := Lib.hid (fun X => digitR_same ((s[k]'hlt).toNat : Int) X)
        clear HS
        generalize letterZ ((s[k]'hlt).toNat : Int) = a at *
        generalize digitZ ((s[k]'hlt).toNat : Int) = b at *
        cases a with
        | true =>
          have HS3 : Hid (n = (k + 1) + spanL numZ (s.data.toList.drop (k + 1))) := Lib.hid (by rw [HS2.out]; simp only [Bool.true_or, if_true]; omega)
          clear HS2 D2
          go_wp2_with fail
          go_at_call 28; refine (D1.out _).mono ?_; rintro e w2 ⟨rfl, rfl⟩
          go_wp2_with fail
          go_round
          case rel => exact ⟨k + 1, by go_num, by omega, HS3⟩
          case measure => simp [intOf]; omega
        | false =>
          cases b with
          | true =>
            have HS3 : Hid (n = (k + 1) + spanL numZ (s.data.toList.drop (k + 1))) := Lib.hid (by rw [HS2.out]; simp only [Bool.or_true, Bool.true_or, if_true]; omega)
            clear HS2
            go_wp2_with fail
            go_at_call 28; refine (D1.out _).mono ?_; rintro e w2 ⟨rfl, rfl⟩
            go_wp2_with fail
            go_at_call 29; refine (D2.out _).mono ?_; rintro e w2 ⟨rfl, rfl⟩
            go_wp2_with fail
            go_round
            case rel => exact ⟨k + 1, by go_num, by omega, HS3⟩
            case measure => simp [intOf]; omega
          | false =>
            by_cases c46 : (s[k]'hlt).toNat = 46
            · have b1 : (((s[k]'hlt).toNat : Int) == 46) = true := u8_eq _ 46 c46
              have HS3 : Hid (n = (k + 1) + spanL numZ (s.data.toList.drop (k + 1))) := Lib.hid (by rw [HS2.out, b1]; simp only [Bool.or_true, if_true]; omega)
              clear HS2 c46
              go_wp2_with fail
              go_at_call 28; refine (D1.out _).mono ?_; rintro e w2 ⟨rfl, rfl⟩
              go_wp2_with fail
              go_at_call 29; refine (D2.out _).mono ?_; rintro e w2 ⟨rfl, rfl⟩
              go_wp2_with fail
              go_round
              case rel => exact ⟨k + 1, by go_num, by omega, HS3⟩
              case measure => simp [intOf]; omega
            · have b1 : (((s[k]'hlt).toNat : Int) == 46) = false := u8_ne _ 46 c46
              have HE : n = k := by rw [HS2.out, b1]; simp
              subst HE
              clear HS2 c46
              go_wp2_with fail
              go_at_call 28; refine (D1.out _).mono ?_; rintro e w2 ⟨rfl, rfl⟩
              go_wp2_with fail
              go_at_call 29; refine (D2.out _).mono ?_; rintro e w2 ⟨rfl, rfl⟩
              go_wp2_with fail
              go_meet
              exact ⟨rfl, rfl⟩
      · have hltI : decide ((k : Int) < (s.size : Int)) = false := decide_eq_false (by omega)
        have hltJ : ¬ (k : Int) < (s.size : Int) := by omega
        have HE : n = k := by rw [HS.out, span_end _ _ _ hlt]; rfl
        subst HE
        clear HS
        go_wp2_with fail
        go_meet
        exact ⟨rfl, rfl⟩
  case rest =>
    obtain ⟨rfl, rfl⟩ := hcut
    have HX : Hid (numL s.data.toList = match numO (s.data.toList.take n) with | some r => .tok r.1 n r.2 [] | none => .err 2) := Lib.hid (numL_O _ _ HN.out (by
      have h1 := HN0.out
      rw [← HN.out] at h1
      rw [List.getD_eq_getElem?_getD, List.getElem?_take, if_pos (by omega), ← List.getD_eq_getElem?_getD]
      exact HK0.out))
    have ND := Lib.hid (fun X => by have := numR_any (s.extract 0 n) (by rw [ext_size _ _ hns]; omega) X; rw [ext_list0] at this; exact this)
    have s1 : (n : Int) ≤ (s.size : Int) := by omega
    clear HN HN0 HK0
    generalize numO (s.data.toList.take n) = O at *
    go_wp2_with fail
    go_at_call 31; refine (ND.out _).mono ?_; rintro e w2 ⟨⟨k, b, t, rfl, hr⟩, f2⟩
    unfold tokV
    have B2 := Lib.hid (A.out.fresh f2)
    have F2 := Lib.hid (F1.out.trans f2)
    have H2 := Lib.hid (F1.out.size)
    clear f2 F1 A ND
    cases O with
    | some r =>
      obtain ⟨rfl, rfl, rfl⟩ := hr r rfl
      have hR : Hid (prV s (numL s.data.toList) = .tuple #[tokV r.1 (s.extract 0 n) r.2 ⟨#[]⟩, .int .i64 0]) := Lib.hid (by rw [HX.out]; rfl)
      clear HX hr
      obtain ⟨r1v, r2v⟩ := r
      simp only at hR
      go_upto_region 17 with fail
      have NE : w.heap.size ≠ w2.heap.size := fun e => by have := B2.out.2.2; omega
      have B3 := B2.out.fresh ((Fresh.refl w2).alloc #[.int .i64 r1v, .int .i64 0, .int .i64 0, .string (s.extract 0 n), .int .u64 r2v, .string ⟨#[]⟩] 32)
      have C3 := Blk.new w2 #[.int .i64 r1v, .int .i64 0, .int .i64 0, .string (s.extract 0 n), .int .u64 r2v, .string ⟨#[]⟩] 32
      have r0 := B3.1 0 _ rfl
      have r1 := B3.1 1 _ rfl
      have r2 := B3.1 2 _ rfl
      have r3 := B3.1 3 _ rfl
      have r4 := B3.1 4 _ rfl
      have r5 := B3.1 5 _ rfl
      have rf := B3.2.1
      have rz := B3.2.2
      have c0 := C3.1 0 _ rfl
      have c1 := C3.1 1 _ rfl
      have c2 := C3.1 2 _ rfl
      have c3 := C3.1 3 _ rfl
      have c4 := C3.1 4 _ rfl
      have c5 := C3.1 5 _ rfl
      have cf := C3.2.1
      have cz := C3.2.2
      have F3 := Lib.hid (F2.out.alloc #[.int .i64 r1v, .int .i64 0, .int .i64 0, .string (s.extract 0 n), .int .u64 r2v, .string ⟨#[]⟩] 32)
      clear B2 B3 C3 F2
      generalize w2.alloc (.cells #[.int .i64 r1v, .int .i64 0, .int .i64 0, .string (s.extract 0 n), .int .u64 r2v, .string ⟨#[]⟩] 32) = W3 at *
      generalize w2.heap.size = b2 at *
      go_wp2_with fail
      refine bodyPost_ret (v := ?_) ?_ rfl ?_; rotate_left 1; focus (simp [results, Tryz.results19, go_sem, *]; (try rfl); done)
      exact ⟨by rw [hR.out]; rfl, by (repeat' first | with_reducible exact F3.out | with_reducible refine Fresh.alloc ?_ _ _ | with_reducible refine Fresh.drew ?_ | with_reducible refine Fresh.setCell ?_ (Nat.le_refl _) _)⟩
    | none =>
      have hR : Hid (prV s (numL s.data.toList) = .tuple #[tokV 0 ⟨#[]⟩ 0 ⟨#[]⟩, .int .i64 2]) := Lib.hid (by rw [HX.out]; rfl)
      clear HX hr
      go_upto_region 17 with fail
      have B := B2.out.fresh ((Fresh.refl w2).alloc #[.int .i64 k, .int .i64 0, .int .i64 0, .string t, .int .u64 b, .string ⟨#[]⟩] 32)
      have r0 := B.1 0 _ rfl
      have r1 := B.1 1 _ rfl
      have r2 := B.1 2 _ rfl
      have r3 := B.1 3 _ rfl
      have r4 := B.1 4 _ rfl
      have r5 := B.1 5 _ rfl
      have rf := B.2.1
      have rz := B.2.2
      have F3 := Lib.hid (F2.out.alloc #[.int .i64 k, .int .i64 0, .int .i64 0, .string t, .int .u64 b, .string ⟨#[]⟩] 32)
      clear B B2 F2
      generalize w2.alloc (.cells #[.int .i64 k, .int .i64 0, .int .i64 0, .string t, .int .u64 b, .string ⟨#[]⟩] 32) = W3 at *
      go_wp2_with fail
      refine bodyPost_ret (v := ?_) ?_ rfl ?_; rotate_left 1; focus (simp [results, Tryz.results19, go_sem, *]; (try rfl); done)
      exact ⟨by rw [hR.out]; rfl, by (repeat' first | with_reducible exact F3.out | with_reducible refine Fresh.alloc ?_ _ _ | with_reducible refine Fresh.drew ?_ | with_reducible refine Fresh.setCell ?_ (Nat.le_refl _) _)⟩
theorem tokR_quo (s : ByteArray) (q : UInt8) (r : List UInt8) (hl : s.data.toList = q :: r) (hq : q = 39 ∨ q = 34) (hV : Val r) (h0 : 0 < s.size) (hs : s.size ≤ 1048576) (w : World) :
    Calls Tryz.prog 19 #[.string s] w fun e w' => e = .returned (prV s (quoR q r)) ∧ Fresh w w' := by
  have h0I : (0 : Int) < (s.size : Int) := by omega
  have hs0 : s[0]'h0 = q := by rw [get_L, hl]; rfl
  have hL : letterZ ((s[0]'h0).toNat : Int) = false := by rw [hs0]; rcases hq with rfl | rfl <;> decide
  have hD : digitZ ((s[0]'h0).toNat : Int) = false := by rw [hs0]; rcases hq with rfl | rfl <;> decide
  have D0 := Lib.hid (fun X => by have := letterR_same ((s[0]'h0).toNat : Int) X; rw [hL] at this; exact this)
  have E0 := Lib.hid (fun X => by have := digitR_same ((s[0]'h0).toNat : Int) X; rw [hD] at this; exact this)
  have QD := Lib.hid (fun X => quoR_any s q r hl hq hV hs X)
  have hb : ((((s[0]'h0).toNat : Int) == 39) = true) ∨ ((((s[0]'h0).toNat : Int) == 39) = false ∧ (((s[0]'h0).toNat : Int) == 34) = true) := by
    rw [hs0]; rcases hq with rfl | rfl
    · exact Or.inl (by decide)
    · exact Or.inr ⟨by decide, by decide⟩
  have A := Lib.hid (Blk.new w #[.int .i64 0, .int .i64 0, .int .i64 0, .string ⟨#[]⟩, .int .u64 0, .string ⟨#[]⟩] 32)
  have F1 := Lib.hid ((Fresh.refl w).alloc #[.int .i64 0, .int .i64 0, .int .i64 0, .string ⟨#[]⟩, .int .u64 0, .string ⟨#[]⟩] 32)
  have hP := quo_err q r
  generalize quoR q r = P at *
  clear hL hD hl hq hV hs0
  go_enter Tryz.func19, Tryz.ntmps19
  go_upto_region 5 with fail
  generalize w.alloc (.cells #[.int .i64 0, .int .i64 0, .int .i64 0, .string ⟨#[]⟩, .int .u64 0, .string ⟨#[]⟩] 32) = W1 at *
  go_wp2_with fail
  go_at_call 28; refine (D0.out _).mono ?_; rintro e w1 ⟨rfl, rfl⟩
  go_wp2_with fail
  go_at_call 29; refine (E0.out _).mono ?_; rintro e w1 ⟨rfl, rfl⟩
  clear D0 E0
  go_upto_region 19 with fail
  go_cut [90] from 91 to 98 (fun v wx => v = .bool true ∧ wx = w1)
  case first =>
    rcases hb with b1 | ⟨b1, b2⟩
    · go_wp2_with fail
      go_meet
      exact ⟨rfl, rfl⟩
    · go_wp2_with fail
      go_meet
      exact ⟨rfl, rfl⟩
  case rest =>
    obtain ⟨rfl, rfl⟩ := hcut
    clear hb
    cases P with
    | tok k n b d =>
      have QD := Lib.hid (show ∀ X, Calls Tryz.prog 32 #[.string s] X fun e w' => e = .returned (.tuple #[.agg #[.int .i64 k, .int .i64 0, .int .i64 0, .string (s.extract 0 n), .int .u64 b, .string ⟨d.toArray⟩], .bool true]) ∧ Fresh X w' from fun X => QD.out X)
      clear hP
      have hR : Hid (prV s (.tok k n b d) = .tuple #[tokV k (s.extract 0 n) b ⟨d.toArray⟩, .int .i64 0]) := Lib.hid rfl
      go_wp2_with fail
      go_at_call 32; refine (QD.out _).mono ?_; rintro e w2 ⟨rfl, f2⟩
      have B2 := Lib.hid (A.out.fresh f2)
      have F2 := Lib.hid (F1.out.trans f2)
      clear f2 F1 A QD
      go_upto_region 21 with fail
      have NE : w.heap.size ≠ w2.heap.size := fun e => by have := B2.out.2.2; omega
      have B3 := B2.out.fresh ((Fresh.refl w2).alloc #[.int .i64 k, .int .i64 0, .int .i64 0, .string (s.extract 0 n), .int .u64 b, .string ⟨d.toArray⟩] 32)
      have C3 := Blk.new w2 #[.int .i64 k, .int .i64 0, .int .i64 0, .string (s.extract 0 n), .int .u64 b, .string ⟨d.toArray⟩] 32
      have r0 := B3.1 0 _ rfl
      have r1 := B3.1 1 _ rfl
      have r2 := B3.1 2 _ rfl
      have r3 := B3.1 3 _ rfl
      have r4 := B3.1 4 _ rfl
      have r5 := B3.1 5 _ rfl
      have rf := B3.2.1
      have rz := B3.2.2
      have c0 := C3.1 0 _ rfl
      have c1 := C3.1 1 _ rfl
      have c2 := C3.1 2 _ rfl
      have c3 := C3.1 3 _ rfl
      have c4 := C3.1 4 _ rfl
      have c5 := C3.1 5 _ rfl
      have cf := C3.2.1
      have cz := C3.2.2
      have F3 := Lib.hid (F2.out.alloc #[.int .i64 k, .int .i64 0, .int .i64 0, .string (s.extract 0 n), .int .u64 b, .string ⟨d.toArray⟩] 32)
      clear B2 B3 C3 F2
      generalize w2.alloc (.cells #[.int .i64 k, .int .i64 0, .int .i64 0, .string (s.extract 0 n), .int .u64 b, .string ⟨d.toArray⟩] 32) = W3 at *
      generalize w2.heap.size = b2 at *
      go_wp2_with fail
      refine bodyPost_ret (v := ?_) ?_ rfl ?_; rotate_left 1; focus (simp [results, Tryz.results19, go_sem, *]; (try rfl); done)
      exact ⟨by rw [hR.out]; rfl, by (repeat' first | with_reducible exact F3.out | with_reducible refine Fresh.alloc ?_ _ _ | with_reducible refine Fresh.drew ?_ | with_reducible refine Fresh.setCell ?_ (Nat.le_refl _) _)⟩
    | err x =>
      have hx := hP x rfl
      subst hx
      have QD := Lib.hid (show ∀ X, Calls Tryz.prog 32 #[.string s] X fun e w' => e = .returned (.tuple #[.agg #[.int .i64 0, .int .i64 0, .int .i64 0, .string ⟨#[]⟩, .int .u64 0, .string ⟨#[]⟩], .bool false]) ∧ Fresh X w' from fun X => QD.out X)
      clear hP
      have hR : Hid (prV s (.err 2) = .tuple #[tokV 0 ⟨#[]⟩ 0 ⟨#[]⟩, .int .i64 2]) := Lib.hid rfl
      go_wp2_with fail
      go_at_call 32; refine (QD.out _).mono ?_; rintro e w2 ⟨rfl, f2⟩
      have B2 := Lib.hid (A.out.fresh f2)
      have F2 := Lib.hid (F1.out.trans f2)
      clear f2 F1 A QD
      go_upto_region 21 with fail
      have B3 := B2.out.fresh ((Fresh.refl w2).alloc #[.int .i64 0, .int .i64 0, .int .i64 0, .string ⟨#[]⟩, .int .u64 0, .string ⟨#[]⟩] 32)
      have r0 := B3.1 0 _ rfl
      have r1 := B3.1 1 _ rfl
      have r2 := B3.1 2 _ rfl
      have r3 := B3.1 3 _ rfl
      have r4 := B3.1 4 _ rfl
      have r5 := B3.1 5 _ rfl
      have rf := B3.2.1
      have rz := B3.2.2
      have F3 := Lib.hid (F2.out.alloc #[.int .i64 0, .int .i64 0, .int .i64 0, .string ⟨#[]⟩, .int .u64 0, .string ⟨#[]⟩] 32)
      clear B3 B2 F2
      generalize w2.alloc (.cells #[.int .i64 0, .int .i64 0, .int .i64 0, .string ⟨#[]⟩, .int .u64 0, .string ⟨#[]⟩] 32) = W3 at *
      go_wp2_with fail
      refine bodyPost_ret (v := ?_) ?_ rfl ?_; rotate_left 1; focus (simp [results, Tryz.results19, go_sem, *]; (try rfl); done)
      exact ⟨by rw [hR.out]; rfl, by (repeat' first | with_reducible exact F3.out | with_reducible refine Fresh.alloc ?_ _ _ | with_reducible refine Fresh.drew ?_ | with_reducible refine Fresh.setCell ?_ (Nat.le_refl _) _)⟩
theorem tokR_sign (s : ByteArray) (h0 : 0 < s.size) (hs : s.size ≤ 1048576) (hL : letterZ ((s[0]'h0).toNat : Int) = false) (hD : digitZ ((s[0]'h0).toNat : Int) = false) (h39 : (s[0]'h0).toNat ≠ 39) (h34 : (s[0]'h0).toNat ≠ 34) (w : World) :
    Calls Tryz.prog 19 #[.string s] w fun e w' => e = .returned (prV s (signL s.data.toList)) ∧ Fresh w w' := by
  have h0I : (0 : Int) < (s.size : Int) := by omega
  have D0 := Lib.hid (fun X => by have := letterR_same ((s[0]'h0).toNat : Int) X; rw [hL] at this; exact this)
  have E0 := Lib.hid (fun X => by have := digitR_same ((s[0]'h0).toNat : Int) X; rw [hD] at this; exact this)
  have SD := Lib.hid (fun X => signR_any s hs X)
  have hb1 : (((s[0]'h0).toNat : Int) == 39) = false := u8_ne _ 39 h39
  have hb2 : (((s[0]'h0).toNat : Int) == 34) = false := u8_ne _ 34 h34
  obtain ⟨e1, e2⟩ := sgn_eq s.data.toList
  have hSL : signL s.data.toList = if signNL s.data.toList (min 3 s.data.toList.length) = 0 then .err 2 else .tok 7 (signNL s.data.toList (min 3 s.data.toList.length)) 0 [] := rfl
  have A := Lib.hid (Blk.new w #[.int .i64 0, .int .i64 0, .int .i64 0, .string ⟨#[]⟩, .int .u64 0, .string ⟨#[]⟩] 32)
  have F1 := Lib.hid ((Fresh.refl w).alloc #[.int .i64 0, .int .i64 0, .int .i64 0, .string ⟨#[]⟩, .int .u64 0, .string ⟨#[]⟩] 32)
  generalize sgnW s.data.toList [] slit = G at *
  generalize signNL s.data.toList (min 3 s.data.toList.length) = n at *
  by_cases hn : n = 0
  · have hR : Hid (prV s (signL s.data.toList) = .tuple #[tokV 0 ⟨#[]⟩ 0 ⟨#[]⟩, .int .i64 2]) := Lib.hid (by rw [hSL, if_pos hn]; rfl)
    have hG : G = [] := List.eq_nil_of_length_eq_zero (by omega)
    subst hG
    clear hSL e1 e2 hL hD h39 h34 hn
    go_enter Tryz.func19, Tryz.ntmps19
    go_upto_region 5 with fail
    generalize w.alloc (.cells #[.int .i64 0, .int .i64 0, .int .i64 0, .string ⟨#[]⟩, .int .u64 0, .string ⟨#[]⟩] 32) = W1 at *
    go_wp2_with fail
    go_at_call 28; refine (D0.out _).mono ?_; rintro e w1 ⟨rfl, rfl⟩
    go_wp2_with fail
    go_at_call 29; refine (E0.out _).mono ?_; rintro e w1 ⟨rfl, rfl⟩
    clear D0 E0
    go_wp2_with fail
    go_at_call 33; refine (SD.out _).mono ?_; rintro e w2 ⟨rfl, f2⟩
    have B := A.out.fresh f2
    have r0 := B.1 0 _ rfl
    have r1 := B.1 1 _ rfl
    have r2 := B.1 2 _ rfl
    have r3 := B.1 3 _ rfl
    have r4 := B.1 4 _ rfl
    have r5 := B.1 5 _ rfl
    have rf := B.2.1
    have rz := B.2.2
    have F2 := Lib.hid (F1.out.trans f2)
    clear B A f2 F1 SD
    go_wp2_with fail
    refine bodyPost_ret (v := ?_) ?_ rfl ?_; rotate_left 1; focus (simp [results, Tryz.results19, go_sem, *]; (try rfl); done)
    exact ⟨by rw [hR.out]; rfl, by (repeat' first | with_reducible exact F2.out | with_reducible refine Fresh.alloc ?_ _ _ | with_reducible refine Fresh.drew ?_ | with_reducible refine Fresh.setCell ?_ (Nat.le_refl _) _)⟩
  · have hR : Hid (prV s (signL s.data.toList) = .tuple #[tokV 7 (s.extract 0 n) 0 ⟨#[]⟩, .int .i64 0]) := Lib.hid (by rw [hSL, if_neg hn]; rfl)
    have hX : (⟨G.toArray⟩ : ByteArray) = s.extract 0 n := (bytes_ext (s.extract 0 n) G (by rw [ext_list0, e1])).symm
    rw [hX] at SD
    have hne : ((s.extract 0 n).toList == []) = false := by
      rw [ByteArray.toList_eq, ext_list0, ← e1, beq_eq_false_iff_ne]
      exact fun e => hn (by rw [← e2, e]; rfl)
    have hne2 : ((s.extract 0 n).toList != []) = true := by simp only [bne, hne, Bool.not_false]
    have hne3 : (s.extract 0 n).toList.isEmpty = false := by
      cases h : (s.extract 0 n).toList with
      | nil => rw [h] at hne; simp at hne
      | cons a b => rfl
    generalize s.extract 0 n = T at *
    clear hSL e1 e2 hL hD h39 h34 hn hX
    go_enter Tryz.func19, Tryz.ntmps19
    go_upto_region 5 with fail
    generalize w.alloc (.cells #[.int .i64 0, .int .i64 0, .int .i64 0, .string ⟨#[]⟩, .int .u64 0, .string ⟨#[]⟩] 32) = W1 at *
    go_wp2_with fail
    go_at_call 28; refine (D0.out _).mono ?_; rintro e w1 ⟨rfl, rfl⟩
    go_wp2_with fail
    go_at_call 29; refine (E0.out _).mono ?_; rintro e w1 ⟨rfl, rfl⟩
    clear D0 E0
    go_wp2_with fail
    go_at_call 33; refine (SD.out _).mono ?_; rintro e w2 ⟨rfl, f2⟩
    have B := A.out.fresh f2
    have r0 := B.1 0 _ rfl
    have r1 := B.1 1 _ rfl
    have r2 := B.1 2 _ rfl
    have r3 := B.1 3 _ rfl
    have r4 := B.1 4 _ rfl
    have r5 := B.1 5 _ rfl
    have rf := B.2.1
    have rz := B.2.2
    have F2 := Lib.hid (F1.out.trans f2)
    clear B A f2 F1 SD
    go_wp2_with fail
    refine bodyPost_ret (v := ?_) ?_ rfl ?_; rotate_left 1; focus (simp [results, Tryz.results19, go_sem, *]; (try rfl); done)
    exact ⟨by rw [hR.out]; rfl, by (repeat' first | with_reducible exact F2.out | with_reducible refine Fresh.alloc ?_ _ _ | with_reducible refine Fresh.drew ?_ | with_reducible refine Fresh.setCell ?_ (Nat.le_refl _) _)⟩
end
end Go.Proofs.YtcmfmfgedhfaeaaGreatDoor
/- The reference: token, of any text. -/
namespace Go.Proofs.YtcmfmfgedhfaeaaGreatDoor
set_option linter.unusedSimpArgs false
set_option linter.unusedVariables false
open Go.RowKit

theorem tokR_any (s : ByteArray) (h0 : 0 < s.size) (hs : s.size ≤ 1048576) (hV : Val s.data.toList) (w : World) :
    Calls Tryz.prog 19 #[.string s] w fun e w' => e = .returned (prV s (pieceL s.data.toList)) ∧ Fresh w w' := by
  have hd := drop_get s 0 h0
  rw [List.drop_zero] at hd
  have hp : pieceL s.data.toList = if letterZ ((s[0]'h0).toNat : Int) then nameL s.data.toList else if digitZ ((s[0]'h0).toNat : Int) then numL s.data.toList else if (s[0]'h0).toNat = 39 then charL s.data.toList else if (s[0]'h0).toNat = 34 then textL s.data.toList else signL s.data.toList := by
    rw [hd]; rfl
  rw [hp]
  by_cases c1 : letterZ ((s[0]'h0).toNat : Int) = true
  · rw [if_pos c1]
    exact tokR_name s h0 hs c1 w
  · rw [if_neg c1]
    by_cases c2 : digitZ ((s[0]'h0).toNat : Int) = true
    · rw [if_pos c2]
      exact tokR_num s h0 hs c2 w
    · rw [if_neg c2]
      have hVr : ∀ q : UInt8, q.toNat < 128 → s[0]'h0 = q → Val (s.data.toList.drop (0 + 1)) := fun q hq he => by
        rw [hd, he] at hV
        exact val_lo hV hq
      by_cases c3 : (s[0]'h0).toNat = 39
      · have e : s[0]'h0 = 39 := (u_nat _ 39 (by decide)).2 c3
        rw [if_pos c3]
        have hl : s.data.toList = 39 :: s.data.toList.drop (0 + 1) := by rw [← e]; exact hd
        have := tokR_quo s 39 (s.data.toList.drop (0 + 1)) hl (Or.inl rfl) (hVr 39 (by decide) e) h0 hs w
        rw [quo_char _ (hVr 39 (by decide) e), ← hl] at this
        exact this
      · rw [if_neg c3]
        by_cases c4 : (s[0]'h0).toNat = 34
        · have e : s[0]'h0 = 34 := (u_nat _ 34 (by decide)).2 c4
          rw [if_pos c4]
          have hl : s.data.toList = 34 :: s.data.toList.drop (0 + 1) := by rw [← e]; exact hd
          have := tokR_quo s 34 (s.data.toList.drop (0 + 1)) hl (Or.inr rfl) (hVr 34 (by decide) e) h0 hs w
          rw [quo_text _ (hVr 34 (by decide) e), ← hl] at this
          exact this
        · rw [if_neg c4]
          exact tokR_sign s h0 hs (by simpa using c1) (by simpa using c2) c3 c4 w
end Go.Proofs.YtcmfmfgedhfaeaaGreatDoor
/- The reference: the tokens of a text. -/
namespace Go.Proofs.YtcmfmfgedhfaeaaGreatDoor
set_option linter.unusedSimpArgs false
set_option linter.unusedVariables false
open Go.RowKit

/-- The state in a round: A the place's block. -/
structure PT (w : World) (A : Nat) (wr : World) (l c : Int) (v : Value) (ts : List Tk) : Prop where
  at' : Blk wr A [.int .i64 l, .int .i64 c]
  out : Blk wr w.heap.size [.int .i64 0, .int .i64 0]
  own : wr.ownsRow (A + 1) 32 6 v ts.length (cellsT ts)
  fr : Fresh w wr
  lt : w.heap.size < A
theorem PT.later {w : World} {A : Nat} {wr w' : World} {l c : Int} {v : Value} {ts : List Tk} (h : PT w A wr l c v ts) (f : Fresh wr w') : PT w A w' l c v ts :=
  ⟨h.at'.fresh f, h.out.fresh f, f.own h.own, h.fr.trans f, h.lt⟩
theorem PT.set {w : World} {A : Nat} {wr : World} {l c l' c' : Int} {v : Value} {ts : List Tk} (h : PT w A wr l c v ts) :
    PT w A ((wr.setCell ⟨A, 0, none⟩ (.int .i64 l')).setCell ⟨A, 1, none⟩ (.int .i64 c')) l' c' v ts := by
  have e : ∀ k, k ≠ A → ((wr.setCell ⟨A, 0, none⟩ (.int .i64 l')).setCell ⟨A, 1, none⟩ (.int .i64 c')).heap[k]? = wr.heap[k]? := fun k hk => by
    rw [Below.heap_setCell _ _ _ _ (by simpa using hk), Below.heap_setCell _ _ _ _ (by simpa using hk)]
  refine ⟨h.at'.set2 _ _, h.out.same (e _ (by have := h.lt; omega)), ?_, (h.fr.setCell (by have := h.lt; simp; omega) _).setCell (by have := h.lt; simp; omega) _, h.lt⟩
  refine h.own.kept (row := some A) ⟨rfl, rfl, rfl, by simp [World.setCell], fun k _ hk => e k (fun x => hk (by simp [x]))⟩ (Or.inr ?_)
  intro hx
  have := h.own.lt A hx
  omega
theorem PT.grown {w : World} {A : Nat} {wr w' : World} {l c : Int} {v v' : Value} {ts : List Tk} (h : PT w A wr l c v ts) (t : Tk) (hown : w'.ownsRow (A + 1) 32 6 v' (ts.length + 1) (cellsT ts ++ t.cells)) (hg : wr.grownBy w' v.ownBlock) : PT w A w' l c v' (ts ++ [t]) := by
  have e : ∀ k, k < A + 1 → w'.heap[k]? = wr.heap[k]? := fun k hk => hg.block k (by have := h.at'.2.2; omega) (fun x => by have := (h.own.lt k x.symm).1; omega)
  refine ⟨h.at'.same (e A (by omega)), h.out.same (e _ (by have := h.lt; omega)), by rw [cellsT_append]; simpa [cellsT] using hown, h.fr.grown hg (fun k hk => by have := (h.own.lt k hk).1; have := h.lt; omega), h.lt⟩
theorem PT.put {w : World} {A : Nat} {wr : World} {l c : Int} {v : Value} {ts : List Tk} (h : PT w A wr l c v ts) (b : Nat) (hb : A < b) (hv : v.ownBlock ≠ some b) (o : Nat) (x : Value) :
    PT w A (wr.setCell ⟨b, o, none⟩ x) l c v ts := by
  have e : ∀ k, k ≠ b → (wr.setCell ⟨b, o, none⟩ x).heap[k]? = wr.heap[k]? := fun k hk => Below.heap_setCell _ _ _ _ (by simpa using hk)
  refine ⟨h.at'.same (e A (by omega)), h.out.same (e _ (by have := h.lt; omega)), ?_, h.fr.setCell (by have := h.lt; simp; omega) _, h.lt⟩
  exact h.own.kept (row := some b) ⟨rfl, rfl, rfl, by simp [World.setCell], fun k _ hk => e k (fun x => hk (by simp [x]))⟩ (Or.inr hv)
theorem blank_fin : ∀ c : Fin 256, (blankZ (c.val : Int) = true ∧ (c.val = 32 ∨ c.val = 9 ∨ c.val = 13 ∨ c.val = 10)) ∨ (blankZ (c.val : Int) = false ∧ c.val ≠ 32 ∧ c.val ≠ 9 ∧ c.val ≠ 13 ∧ c.val ≠ 10) := by decide +kernel
theorem blank_cases (c : UInt8) : (blankZ (c.toNat : Int) = true ∧ (c.toNat = 32 ∨ c.toNat = 9 ∨ c.toNat = 13 ∨ c.toNat = 10)) ∨ (blankZ (c.toNat : Int) = false ∧ c.toNat ≠ 32 ∧ c.toNat ≠ 9 ∧ c.toNat ≠ 13 ∧ c.toNat ≠ 10) := by
  have h := blank_fin ⟨c.toNat, c.toNat_lt⟩
  exact h
section
set_option maxRecDepth 100000
set_option maxHeartbeats 4000000
theorem tokR_long (s : ByteArray) (h : 1048576 < (s.size : Int)) (w : World) : Calls Tryz.prog 9 #[.string s] w fun e w' => e = .returned (.tuple #[.slice none 0 0, .agg #[.int .i64 0, .int .i64 0], .int .i64 1]) ∧ Fresh w w' := by
  have A1 := (Blk.new w #[.int .i64 0, .int .i64 0] 25).fresh ((Fresh.refl _).alloc #[.int .i64 1, .int .i64 1] 25)
  have F := Lib.hid (((Fresh.refl w).alloc #[.int .i64 0, .int .i64 0] 25).alloc #[.int .i64 1, .int .i64 1] 25)
  go_enter Tryz.func9, Tryz.ntmps9
  go_upto_region 2 with fail
  have q0 := A1.1 0 _ rfl
  have q1 := A1.1 1 _ rfl
  have qf := A1.2.1
  have qz := A1.2.2
  clear A1
  generalize (w.alloc (.cells #[.int .i64 0, .int .i64 0] 25)).alloc (.cells #[.int .i64 1, .int .i64 1] 25) = W2 at *
  go_wp2_with fail
  refine bodyPost_ret (v := ?_) ?_ rfl ?_; rotate_left 1; focus (simp [results, Tryz.results9, go_sem, *]; (try rfl); done)
  exact ⟨rfl, (by repeat' first | with_reducible exact F.out | with_reducible refine Fresh.setCell ?_ (Nat.le_refl _) _)⟩
theorem tokR_broken (s : ByteArray) (hs : s.size ≤ 1048576) (k : Nat) (hu : utL s.size s.data.toList = some k) (w : World) :
    Calls Tryz.prog 9 #[.string s] w fun e w' => e = .returned (.tuple #[.slice none 0 0, .agg #[.int .i64 (mov (s.data.toList.take k) 1 1).1, .int .i64 (mov (s.data.toList.take k) 1 1).2], .int .i64 1]) ∧ Fresh w w' := by
  have hk := (utL_le _ _ _ hu).1
  rw [← size_list] at hk
  have h : ¬ 1048576 < (s.size : Int) := by omega
  have U := Lib.hid (fun X => by
    have := utf8_any s hs X
    rw [utfF_L s _ _ (Nat.zero_le _), List.drop_zero, hu] at this
    simp only [utV, Int.natCast_zero, Int.zero_add] at this
    exact this)
  have hz := ext_size s k (by omega)
  have MV := Lib.hid (fun X => by
    have := moved_any (s.extract 0 k) (by omega) 1 1 (by omega) (by omega) X
    rw [movF_mov, ext_list0] at this
    exact this)
  generalize (mov (s.data.toList.take k) 1 1).1 = l' at *
  generalize (mov (s.data.toList.take k) 1 1).2 = c' at *
  have k0 : (0 : Int) ≤ (k : Int) := by omega
  have k1 : (k : Int) ≤ (s.size : Int) := by omega
  have A1 := (Blk.new w #[.int .i64 0, .int .i64 0] 25).fresh ((Fresh.refl _).alloc #[.int .i64 1, .int .i64 1] 25)
  have A2 := Blk.new (w.alloc (.cells #[.int .i64 0, .int .i64 0] 25)) #[.int .i64 1, .int .i64 1] 25
  have F := Lib.hid (((Fresh.refl w).alloc #[.int .i64 0, .int .i64 0] 25).alloc #[.int .i64 1, .int .i64 1] 25)
  have e1 : (w.alloc (.cells #[.int .i64 0, .int .i64 0] 25)).heap.size = w.heap.size + 1 := by simp
  rw [e1] at A2
  clear hu hz hs hk
  go_enter Tryz.func9, Tryz.ntmps9
  go_upto_region 2 with fail
  have HA1 := Lib.hid A1
  have HA2 := Lib.hid A2
  clear A1 A2 e1
  generalize (w.alloc (.cells #[.int .i64 0, .int .i64 0] 25)).alloc (.cells #[.int .i64 1, .int .i64 1] 25) = W2 at *
  obtain ⟨A, hA⟩ : ∃ A, A = w.heap.size + 1 := ⟨_, rfl⟩
  rw [← hA] at HA2 ⊢
  have HAe := Lib.hid hA
  clear hA
  go_wp2_with fail
  go_at_call 17; refine (U.out _).mono ?_; rintro e w1 ⟨rfl, f1⟩
  have B1 := HA1.out.fresh f1
  have B2 := HA2.out.fresh f1
  have F1 := F.out.trans f1
  clear f1 F HA1 HA2 U
  go_upto_region 6 with fail
  have r0 := B2.1 0 _ rfl
  have r1 := B2.1 1 _ rfl
  have rz := B2.2.2
  have HB1 := Lib.hid B1
  have NE : A ≠ w.heap.size := by have := HAe.out; omega
  have NE2 : w.heap.size ≠ A := fun e => NE e.symm
  clear B1 B2
  go_region_held3 (fun w' => w'.cell? ⟨A, 0, none⟩ = some (.int .i64 1) ∧ w'.cell? ⟨A, 1, none⟩ = some (.int .i64 1))
    ((first | (simp [go_sem, *]; done) | ((repeat' apply And.intro) <;> first | (rw [cM _ _ (by simp; omega)]; simp [go_sem, *]; done) | (simp [go_sem, *]; done))))
    ((go_at_call 18; refine (MV.out _).mono ?_; rintro e wm ⟨rfl, fm⟩; obtain ⟨cM, gM⟩ := fm.cells; have fw : Fresh w1 wm := (by (repeat' first | with_reducible exact Fresh.refl _ | with_reducible refine Fresh.drew ?_ | with_reducible refine Fresh.drewN ?_ _ | with_reducible refine Fresh.trans ?_ (by assumption))); have Bm := HB1.out.fresh fw; have q0 := Bm.1 0 _ rfl; have q1 := Bm.1 1 _ rfl; have qf := Bm.2.1; have qz := Bm.2.2; clear Bm))
  go_wp2_with fail
  refine bodyPost_ret (v := ?_) ?_ rfl ?_; rotate_left 1; focus (simp [results, Tryz.results9, go_sem, *]; (try rfl); done)
  exact ⟨rfl, by (repeat' first | with_reducible exact F1 | with_reducible refine Fresh.drew ?_ | with_reducible refine Fresh.drewN ?_ _ | with_reducible refine Fresh.setCell ?_ (Nat.le_refl _) _ | with_reducible refine Fresh.trans ?_ (by assumption))⟩
set_option maxHeartbeats 8000000 in
theorem tokR_loop (s : ByteArray) (hs : s.size ≤ 1048576) (hu : utL s.size s.data.toList = none) (hV : Val s.data.toList) (w : World) :
    Calls Tryz.prog 9 #[.string s] w fun e w' => TokR (pcs s.data.toList 0 1 1) w e w' ∧ Fresh w w' := by
  obtain ⟨R, hR⟩ : ∃ R, R = pcs s.data.toList 0 1 1 := ⟨_, rfl⟩
  rw [← hR]
  have HR := Lib.hid hR
  have HV := Lib.hid hV
  clear hR hV
  have h : ¬ 1048576 < (s.size : Int) := by omega
  have U := Lib.hid (fun X => by
    have := utf8_any s hs X
    rw [utfF_L s _ _ (Nat.zero_le _), List.drop_zero, hu] at this
    simp only [utV] at this
    exact this)
  have HSZ := Lib.hid hs
  have A1 := (Blk.new w #[.int .i64 0, .int .i64 0] 25).fresh ((Fresh.refl _).alloc #[.int .i64 1, .int .i64 1] 25)
  have A2 := Blk.new (w.alloc (.cells #[.int .i64 0, .int .i64 0] 25)) #[.int .i64 1, .int .i64 1] 25
  have F := Lib.hid (((Fresh.refl w).alloc #[.int .i64 0, .int .i64 0] 25).alloc #[.int .i64 1, .int .i64 1] 25)
  have e1 : (w.alloc (.cells #[.int .i64 0, .int .i64 0] 25)).heap.size = w.heap.size + 1 := by simp
  rw [e1] at A2
  clear hu hs
  go_enter Tryz.func9, Tryz.ntmps9
  go_upto_region 2 with fail
  have HA1 := Lib.hid A1
  have HA2 := Lib.hid A2
  clear A1 A2 e1
  generalize (w.alloc (.cells #[.int .i64 0, .int .i64 0] 25)).alloc (.cells #[.int .i64 1, .int .i64 1] 25) = W2 at *
  obtain ⟨A, hA⟩ : ∃ A, A = w.heap.size + 1 := ⟨_, rfl⟩
  rw [← hA] at HA2 ⊢
  have HAe := Lib.hid hA
  clear hA
  go_wp2_with fail
  go_at_call 17; refine (U.out _).mono ?_; rintro e w1 ⟨rfl, f1⟩
  have P0 : Hid (PT w A w1 1 1 (.slice none 0 0) []) := Lib.hid ⟨HA2.out.fresh f1, HA1.out.fresh f1, World.ownsRow_nil _ _ _ _, F.out.trans f1, by have := HAe.out; omega⟩
  clear f1 F HA1 HA2 U h
  go_wp2_with fail
  go_loopw [0, 4, 7] (fun vs v4 v wr => ∃ (T : ByteArray) (l c : Int) (ts : List Tk), vs = .string T ∧ v4 = .int .i64 0 ∧ T.size ≤ s.size ∧ Hid (TR.app ts (pcs T.data.toList 0 l c) = R) ∧ Hid (Val T.data.toList) ∧ (0 ≤ l ∧ l + T.size ≤ 1048577) ∧ (0 ≤ c ∧ c + T.size ≤ 1048577) ∧ ts.length + T.size ≤ 1048576 ∧ Hid (PT w A wr l c v ts)) (fun vs _ _ _ => strLen vs)
  case atStart => exact ⟨s, 1, 1, [], rfl, rfl, Nat.le_refl _, Lib.hid (by rw [TR.app_nil]; exact HR.out.symm), HV, by have := HSZ.out; omega, by have := HSZ.out; omega, by have := HSZ.out; simp; omega, P0⟩
  case round =>
    obtain ⟨T, l, c, ts, rfl, rfl, hTs, HS, HVT, hl, hc, htl, HP⟩ := hrel
    clear P0 HR HV
    by_cases hp : 0 < T.size
    · have hpI : (0 : Int) < (T.size : Int) := by omega
      have hd := drop_get T 0 hp
      rw [List.drop_zero] at hd
      go_upto_region 9 with fail
      go_cut [44] from 27 to 43 (fun v wx => v = .bool (blankZ ((T[0]'hp).toNat : Int)) ∧ wx = wr)
      case first =>
        rcases blank_cases (T[0]'hp) with ⟨hb, h1 | h1 | h1 | h1⟩ | ⟨hb, h1, h2, h3, h4⟩
        · have b1 : (((T[0]'hp).toNat : Int) == 32) = true := u8_eq _ 32 h1
          clear h1 HS hd
          go_wp2_with fail
          go_meet
          exact ⟨by rw [hb], rfl⟩
        · have b1 : (((T[0]'hp).toNat : Int) == 32) = false := u8_ne _ 32 (by omega)
          have b2 : (((T[0]'hp).toNat : Int) == 9) = true := u8_eq _ 9 h1
          clear h1 HS hd
          go_wp2_with fail
          go_meet
          exact ⟨by rw [hb], rfl⟩
        · have b1 : (((T[0]'hp).toNat : Int) == 32) = false := u8_ne _ 32 (by omega)
          have b2 : (((T[0]'hp).toNat : Int) == 9) = false := u8_ne _ 9 (by omega)
          have b3 : (((T[0]'hp).toNat : Int) == 13) = true := u8_eq _ 13 h1
          clear h1 HS hd
          go_wp2_with fail
          go_meet
          exact ⟨by rw [hb], rfl⟩
        · have b1 : (((T[0]'hp).toNat : Int) == 32) = false := u8_ne _ 32 (by omega)
          have b2 : (((T[0]'hp).toNat : Int) == 9) = false := u8_ne _ 9 (by omega)
          have b3 : (((T[0]'hp).toNat : Int) == 13) = false := u8_ne _ 13 (by omega)
          have b4 : (((T[0]'hp).toNat : Int) == 10) = true := u8_eq _ 10 h1
          clear h1 HS hd
          go_wp2_with fail
          go_meet
          exact ⟨by rw [hb], rfl⟩
        · have b1 : (((T[0]'hp).toNat : Int) == 32) = false := u8_ne _ 32 h1
          have b2 : (((T[0]'hp).toNat : Int) == 9) = false := u8_ne _ 9 h2
          have b3 : (((T[0]'hp).toNat : Int) == 13) = false := u8_ne _ 13 h3
          have b4 : (((T[0]'hp).toNat : Int) == 10) = false := u8_ne _ 10 h4
          clear h1 h2 h3 h4 HS hd
          go_wp2_with fail
          go_meet
          exact ⟨by rw [hb], rfl⟩
      case rest =>
        obtain ⟨rfl, rfl⟩ := hcut
        obtain ⟨V, hVw⟩ : ∃ V, V = wc := ⟨_, rfl⟩
        subst hVw
        cases hb : blankZ ((T[0]'hp).toNat : Int) with
        | true =>
          have hz := ext_size T 1 hp
          have hl1 : (T.extract 0 1).data.toList = [T[0]'hp] := by rw [ext_list0, hd]; rfl
          have MV := Lib.hid (fun X => by
            have := moved_any (T.extract 0 1) (by omega) l c (by omega) (by omega) X
            rw [movF_mov, hl1] at this
            exact this)
          have hlo : (T[0]'hp).toNat < 128 := by
            rcases blank_cases (T[0]'hp) with ⟨_, h1⟩ | ⟨h1, _⟩
            · omega
            · rw [hb] at h1; cases h1
          have HS2 : Hid (TR.app ts (pcs (T.data.toList.drop (0 + 1)) 0 (mov [T[0]'hp] l c).1 (mov [T[0]'hp] l c).2) = R) := Lib.hid (by
            have h9 := HS.out
            rw [hd, pcs_blank _ _ hb] at h9
            exact h9)
          have HV2 : Hid (Val (T.data.toList.drop (0 + 1))) := Lib.hid (by
            have := HVT.out
            rw [hd] at this
            exact val_lo this hlo)
          have hbd := mov_bnd 1 [T[0]'hp] (by simp) l c hl.1 hc.1
          simp only [List.length_cons, List.length_nil] at hbd
          have ht1 : (T.extract 1 T.size).data.toList = T.data.toList.drop (0 + 1) := ext_tail T 1 hp
          have HT1 : Hid ((T.extract 1 T.size).size = T.size - 1) := Lib.hid (by rw [size_list, ht1, List.length_drop, ← size_list])
          rw [← ht1] at HS2 HV2
          clear HS HVT hd hz hl1 hb hlo ht1
          generalize (mov [T[0]'hp] l c).1 = l' at *
          generalize (mov [T[0]'hp] l c).2 = c' at *
          have t1 : (1 : Int) ≤ (T.size : Int) := by omega
          go_upto_region 10 with fail
          have r0 := HP.out.at'.1 0 _ rfl
          have r1 := HP.out.at'.1 1 _ rfl
          have rf := HP.out.at'.2.1
          have rz := HP.out.at'.2.2
          go_region_with ((go_at_call 18; refine (MV.out _).mono ?_; rintro e wm ⟨rfl, fm⟩; have fw : Fresh V wm := (by (repeat' first | with_reducible exact Fresh.refl _ | with_reducible refine Fresh.drew ?_ | with_reducible refine Fresh.drewN ?_ _ | with_reducible refine Fresh.trans ?_ (by assumption))); have PM := Lib.hid (HP.out.later fw); have p0 := PM.out.at'.1 0 _ rfl; have p1 := PM.out.at'.1 1 _ rfl; have pf := PM.out.at'.2.1; have pz := PM.out.at'.2.2))
          have P5 : Hid (PT w A ((wm.setCell ⟨A, 0, none⟩ (.int .i64 l')).setCell ⟨A, 1, none⟩ (.int .i64 c')) l' c' u7 ts) := Lib.hid PM.out.set
          clear p0 p1 pf pz PM fw fm r0 r1 rf rz HP MV
          generalize ((wm.setCell ⟨A, 0, none⟩ (.int .i64 l')).setCell ⟨A, 1, none⟩ (.int .i64 c')) = W5 at *
          go_wp2_with fail
          go_roundw
          case rel => exact ⟨_, l', c', ts, rfl, rfl, by have := HT1.out; omega, HS2, HV2, by have := HT1.out; omega, by have := HT1.out; omega, by have := HT1.out; omega, P5⟩
          case measure => simp only [strLen]; have := HT1.out; simp [strLen, this]; omega
        | false =>
          have hpt := pcs_tok (T[0]'hp) (T.data.toList.drop (0 + 1)) hb (by have := HVT.out; rw [hd] at this; exact this) l c
          rw [← hd] at hpt
          have HS1 : Hid (TR.app ts (pcsE T.data.toList l c (pieceL T.data.toList)) = R) := Lib.hid (by rw [← HS.out, hpt])
          have TK := Lib.hid (fun X => tokR_any T hp (by have := HSZ.out; omega) HVT.out X)
          clear HS hpt
          cases hpc : pieceL T.data.toList with
          | err e =>
            have he := pieceL_err _ _ hpc
            have hne : ((e : Int) != 0) = true := by simp only [bne_iff_ne, ne_eq]; omega
            have hne2 : ((e : Int) == 0) = false := by simp only [beq_eq_false_iff_ne]; omega
            have HE : Hid (R = .err l c e) := Lib.hid (by rw [← HS1.out, hpc]; rfl)
            rw [hpc] at TK
            have TK := Lib.hid (show ∀ X, Calls Tryz.prog 19 #[.string T] X fun e' w' => e' = .returned (.tuple #[.agg #[.int .i64 0, .int .i64 0, .int .i64 0, .string ⟨#[]⟩, .int .u64 0, .string ⟨#[]⟩], .int .i64 e]) ∧ Fresh X w' from fun X => TK.out X)
            clear HS1 hpc he HVT hd hb
            go_wp2_with fail
            go_at_call 19; refine (TK.out _).mono ?_; rintro e3 w3 ⟨rfl, f3⟩
            have HQ3 := Lib.hid (HP.out.later f3)
            clear f3 HP TK
            go_upto_region 13 with fail
            have HQ4 := Lib.hid (HQ3.out.later ((Fresh.refl w3).alloc #[.int .i64 0, .int .i64 0, .int .i64 0, .string ⟨#[]⟩, .int .u64 0, .string ⟨#[]⟩] 32))
            clear HQ3
            generalize w3.alloc (.cells #[.int .i64 0, .int .i64 0, .int .i64 0, .string ⟨#[]⟩, .int .u64 0, .string ⟨#[]⟩] 32) = w4 at *
            go_upto_region 14 with fail
            have r0 := HQ4.out.at'.1 0 _ rfl
            have r1 := HQ4.out.at'.1 1 _ rfl
            have q0 := HQ4.out.out.1 0 _ rfl
            have q1 := HQ4.out.out.1 1 _ rfl
            have qf := HQ4.out.out.2.1
            go_region
            all_goals go_wp2_with fail
            all_goals (refine bodyPost_ret (v := ?_) ?_ rfl ?_; rotate_left 1; focus (simp [results, Tryz.results9, go_sem, *]; (try rfl); done))
            all_goals exact ⟨⟨(fun l9 c9 x9 h9 => by rw [HE.out] at h9; cases h9; rfl), (fun t9 h9 => by rw [HE.out] at h9; cases h9)⟩, (by repeat' first | with_reducible exact HQ4.out.fr | with_reducible refine Fresh.drew ?_ | with_reducible refine Fresh.setCell ?_ ?_ _ | (simp; done) | omega)⟩
          | tok kk nn bb dd =>
            have hl9 := piece_len _ _ _ _ _ hpc
            have ha9 := piece_al _ _ _ _ _ hpc
            have HV2 : Hid (Val (T.data.toList.drop nn)) := Lib.hid (val_al _ _ (Nat.le_refl _) nn ha9 HVT.out)
            rw [← size_list] at hl9
            have hzX := ext_size T nn hl9.2.1
            have hlX := ext_list0 T nn
            rw [hpc] at TK HS1
            have TK := Lib.hid (show ∀ X, Calls Tryz.prog 19 #[.string T] X fun e' w' => e' = .returned (.tuple #[.agg #[.int .i64 kk, .int .i64 0, .int .i64 0, .string (T.extract 0 nn), .int .u64 bb, .string ⟨dd.toArray⟩], .int .i64 0]) ∧ Fresh X w' from fun X => TK.out X)
            have hXe : (⟨(T.data.toList.take nn).toArray⟩ : ByteArray) = T.extract 0 nn := (bytes_ext _ _ hlX).symm
            have HCS : Hid ((tkL T.data.toList l c kk nn bb dd).cells = [.int .i64 kk, .int .i64 l, .int .i64 c, .string (T.extract 0 nn), .int .u64 bb, .string ⟨dd.toArray⟩]) := Lib.hid (by
              show [_, _, _, Value.string (⟨(T.data.toList.take nn).toArray⟩ : ByteArray), _, _] = _
              rw [hXe]; rfl)
            have HE : Hid (TR.app (ts ++ [tkL T.data.toList l c kk nn bb dd]) (pcs (T.data.toList.drop nn) 0 (mov (T.data.toList.take nn) l c).1 (mov (T.data.toList.take nn) l c).2) = R) := Lib.hid (by
              rw [← HS1.out, ← TR.app_app]; rfl)
            have hbd := mov_bnd _ (T.data.toList.take nn) (Nat.le_refl _) l c hl.1 hc.1
            rw [← hlX, ← size_list, hzX] at hbd
            have MV := Lib.hid (fun X => by
              have := moved_any (T.extract 0 nn) (by have := HSZ.out; omega) l c (by omega) (by omega) X
              rw [movF_mov] at this
              exact this)
            have hdT := ext_tail T nn hl9.2.1
            have hzT : (T.extract nn T.size).size = T.size - nn := by rw [size_list, hdT, List.length_drop, ← size_list]
            rw [← hdT] at HE HV2
            rw [← hlX] at HE
            clear HS1 hpc HVT hd hb hXe hlX hdT ha9
            generalize tkL T.data.toList l c kk nn bb dd = tk at *
            generalize (mov (T.extract 0 nn).data.toList l c).1 = l' at *
            generalize (mov (T.extract 0 nn).data.toList l c).2 = c' at *
            obtain ⟨TT, hTT⟩ : ∃ TT, TT = T.extract nn T.size := ⟨_, rfl⟩
            rw [← hTT] at HE HV2 hzT
            have HTT : Hid (TT = T.extract (T.extract 0 nn).size T.size) := Lib.hid (by rw [hzX]; exact hTT)
            clear hTT
            generalize T.extract 0 nn = XX at *
            generalize (⟨dd.toArray⟩ : ByteArray) = D at *
            have sl1 : (XX.size : Int) ≤ (T.size : Int) := by omega
            have HZX := Lib.hid hzX
            have HL9 := Lib.hid hl9
            have HZT := Lib.hid hzT
            clear hzX hl9 hzT
            go_wp2_with fail
            go_at_call 19; refine (TK.out _).mono ?_; rintro e3 w3 ⟨rfl, f3⟩
            have HQ3 := Lib.hid (HP.out.later f3)
            clear f3 HP TK
            go_upto_region 13 with fail
            have HQ4 := Lib.hid (HQ3.out.later ((Fresh.refl w3).alloc #[.int .i64 kk, .int .i64 0, .int .i64 0, .string XX, .int .u64 bb, .string D] 32))
            have HB4 : Hid (Blk (w3.alloc (.cells #[.int .i64 kk, .int .i64 0, .int .i64 0, .string XX, .int .u64 bb, .string D] 32)) w3.heap.size [.int .i64 kk, .int .i64 0, .int .i64 0, .string XX, .int .u64 bb, .string D]) := Lib.hid (Blk.new w3 #[.int .i64 kk, .int .i64 0, .int .i64 0, .string XX, .int .u64 bb, .string D] 32)
            have HNB : Hid (A < w3.heap.size ∧ u7.ownBlock ≠ some w3.heap.size) := Lib.hid ⟨HQ3.out.at'.2.2, fun e => by have := (HQ3.out.own.lt _ e).2; omega⟩
            clear HQ3
            generalize w3.alloc (.cells #[.int .i64 kk, .int .i64 0, .int .i64 0, .string XX, .int .u64 bb, .string D] 32) = w4 at *
            generalize w3.heap.size = tb at *
            have r0 := HQ4.out.at'.1 0 _ rfl
            have r1 := HQ4.out.at'.1 1 _ rfl
            have b0 := HB4.out.1 0 _ rfl
            have b1 := HB4.out.1 1 _ rfl
            have b2 := HB4.out.1 2 _ rfl
            have b3 := HB4.out.1 3 _ rfl
            have b4 := HB4.out.1 4 _ rfl
            have b5 := HB4.out.1 5 _ rfl
            have bf := HB4.out.2.1
            go_upto_region 16 with fail
            have HQ5 := Lib.hid ((HQ4.out.put tb HNB.out.1 HNB.out.2 1 (.int .i64 l)).put tb HNB.out.1 HNB.out.2 2 (.int .i64 c))
            have HB5 : Hid (Blk ((w4.setCell ⟨tb, 1, none⟩ (.int .i64 l)).setCell ⟨tb, 2, none⟩ (.int .i64 c)) tb [.int .i64 kk, .int .i64 l, .int .i64 c, .string XX, .int .u64 bb, .string D]) := Lib.hid (by
              refine ⟨fun i v hv => ?_, fun o => ?_, by simpa [World.setCell] using HB4.out.2.2⟩
              · match i, hv with
                | 0, hv => simp at hv; subst hv; simp [go_sem, b0, b1, b2]
                | 1, hv => simp at hv; subst hv; simp [go_sem, b0, b1, b2]
                | 2, hv => simp at hv; subst hv; simp [go_sem, b0, b1, b2]
                | 3, hv => simp at hv; subst hv; simp [go_sem, b3]
                | 4, hv => simp at hv; subst hv; simp [go_sem, b4]
                | 5, hv => simp at hv; subst hv; simp [go_sem, b5]
              · simp [go_sem, bf])
            clear r0 r1 b0 b1 b2 b3 b4 b5 bf HQ4 HB4
            generalize ((w4.setCell ⟨tb, 1, none⟩ (.int .i64 l)).setCell ⟨tb, 2, none⟩ (.int .i64 c)) = w5 at *
            have b0 := HB5.out.1 0 _ rfl
            have b1 := HB5.out.1 1 _ rfl
            have b2 := HB5.out.1 2 _ rfl
            have b3 := HB5.out.1 3 _ rfl
            have b4 := HB5.out.1 4 _ rfl
            have b5 := HB5.out.1 5 _ rfl
            obtain ⟨i0, hi, hz0, hz1, hz2⟩ := info_parts info32
            go_wp2_with (at_builtin; refine wpList_append_own _ rfl (.tmp 62) (.tmp 64) 23 rfl (A + 1) 32 i0 (.agg #[.int .i64 0, .int .i64 0, .int .i64 0, .string ⟨#[]⟩, .int .u64 0, .string ⟨#[]⟩]) 6 64 Tryz.underlying23 hi hz0 hz1 hz2 rfl (by decide) u7 ts.length (cellsT ts) rfl (HQ5.out.own.alloc _) ⟨w5.heap.size, 0, none⟩ 1 1 [.int .i64 kk, .int .i64 l, .int .i64 c, .string XX, .int .u64 bb, .string D] rfl rfl (World.news_of_block (cs := #[.int .i64 kk, .int .i64 l, .int .i64 c, .string XX, .int .u64 bb, .string D]) (t := 32) (fr := (0, 0)) (heap_alloc_new w5 _)) (by simp [Value.oneCell']) (by unfold maxLen; omega) (by omega) (by have := HQ5.out.at'.2.2; simp; omega) ?_)
            intro v6 w6 hown6 hgrow6 _
            have HQ6 := Lib.hid (((HQ5.out.later ((Fresh.refl w5).alloc #[.int .i64 kk, .int .i64 l, .int .i64 c, .string XX, .int .u64 bb, .string D] 32)).grown tk (by rw [HCS.out]; exact hown6) hgrow6))
            have b3' : w6.cell? ⟨tb, 3, none⟩ = some (.string XX) := by
              have h1 := ((Fresh.refl w5).alloc #[.int .i64 kk, .int .i64 l, .int .i64 c, .string XX, .int .u64 bb, .string D] 32).at' b3
              have htz := HB5.out.2.2
              have h2 := hgrow6.block tb (by simp; omega) (fun e => HNB.out.2 e.symm)
              simp only [World.cell?, h2] at h1 ⊢
              exact h1
            clear b0 b1 b2 b3 b4 b5 HQ5 HB5 hown6 hgrow6
            generalize hw2 : w6 = w7 at *
            clear hw2
            have r0 := HQ6.out.at'.1 0 _ rfl
            have r1 := HQ6.out.at'.1 1 _ rfl
            go_wp2_with fail
            clear r0 r1
            go_at_call 18; refine (MV.out _).mono ?_; rintro e4 w8 ⟨rfl, f4⟩
            have HQ8 := Lib.hid (HQ6.out.later f4)
            have b3'' := f4.at' b3'
            have HNT : Hid (tb ≠ A) := Lib.hid (by have := HNB.out.1; omega)
            clear f4 HQ6 b3' MV
            have r0 := HQ8.out.at'.1 0 _ rfl
            have r1 := HQ8.out.at'.1 1 _ rfl
            have rf := HQ8.out.at'.2.1
            go_upto_region 18 with fail
            have HQ9 : Hid (PT w A ((w8.setCell ⟨A, 0, none⟩ (.int .i64 l')).setCell ⟨A, 1, none⟩ (.int .i64 c')) l' c' v6 (ts ++ [tk])) := Lib.hid HQ8.out.set
            have b9 : ((w8.setCell ⟨A, 0, none⟩ (.int .i64 l')).setCell ⟨A, 1, none⟩ (.int .i64 c')).cell? ⟨tb, 3, none⟩ = some (.string XX) := by
              have e9 : ((w8.setCell ⟨A, 0, none⟩ (.int .i64 l')).setCell ⟨A, 1, none⟩ (.int .i64 c')).heap[tb]? = w8.heap[tb]? := by
                rw [Below.heap_setCell _ _ _ _ (by simpa using HNT.out), Below.heap_setCell _ _ _ _ (by simpa using HNT.out)]
              simp only [World.cell?, e9] at b3'' ⊢
              exact b3''
            clear r0 r1 rf b3'' HQ8
            generalize ((w8.setCell ⟨A, 0, none⟩ (.int .i64 l')).setCell ⟨A, 1, none⟩ (.int .i64 c')) = W9 at *
            go_wp2_with fail
            have hz9 := HZT.out
            have hx9 := HZX.out
            have hl9 := HL9.out
            go_roundw
            case rel => exact ⟨TT, l', c', ts ++ [tk], by rw [HTT.out], rfl, by omega, HE, HV2, by omega, by omega, by simp only [List.length_append, List.length_cons, List.length_nil]; omega, HQ9⟩
            case measure => first | (simp only [strLen]; rw [← HTT.out]; omega) | (rw [← HTT.out]; simp [strLen]; omega) | (rw [← HTT.out]; show TT.size < T.size; omega)
    · have hpI : ¬ (0 : Int) < (T.size : Int) := by omega
      have hnil : T.data.toList = [] := List.eq_nil_of_length_eq_zero (by rw [← size_list]; omega)
      have HE : Hid (R = .ok (ts ++ [endT l c])) := Lib.hid (by rw [← HS.out, hnil, pcs_nil]; rfl)
      have hlen : ts.length ≤ 1048576 := by omega
      clear HS HVT hnil
      have r0 := HP.out.at'.1 0 _ rfl
      have r1 := HP.out.at'.1 1 _ rfl
      obtain ⟨i0, hi, hz0, hz1, hz2⟩ := info_parts info32
      go_wp2_with (at_builtin; refine wpList_append_own _ rfl (.tmp 75) (.tmp 78) 23 rfl (A + 1) 32 i0 (.agg #[.int .i64 0, .int .i64 0, .int .i64 0, .string ⟨#[]⟩, .int .u64 0, .string ⟨#[]⟩]) 6 64 Tryz.underlying23 hi hz0 hz1 hz2 rfl (by decide) u7 ts.length (cellsT ts) rfl (HP.out.own.alloc _) ⟨wr.heap.size, 0, none⟩ 1 1 [.int .i64 8, .int .i64 l, .int .i64 c, .string ⟨#[]⟩, .int .u64 0, .string ⟨#[]⟩] rfl rfl (World.news_of_block (cs := #[.int .i64 8, .int .i64 l, .int .i64 c, .string ⟨#[]⟩, .int .u64 0, .string ⟨#[]⟩]) (t := 32) (fr := (0, 0)) (heap_alloc_new wr _)) (by simp [Value.oneCell']) (by unfold maxLen; omega) (by omega) (by have := HP.out.at'.2.2; simp; omega) ?_)
      intro v6 w6 hown6 hgrow6 _
      have HQ6 := Lib.hid (((HP.out.later ((Fresh.refl wr).alloc #[.int .i64 8, .int .i64 l, .int .i64 c, .string ⟨#[]⟩, .int .u64 0, .string ⟨#[]⟩] 32)).grown (endT l c) hown6 hgrow6))
      clear hown6 hgrow6 HP r0 r1
      have r0 := HQ6.out.out.1 0 _ rfl
      have r1 := HQ6.out.out.1 1 _ rfl
      have rf := HQ6.out.out.2.1
      go_wp2_with fail
      refine bodyPost_ret (v := ?_) ?_ rfl ?_; rotate_left 1; focus (simp [results, Tryz.results9, go_sem, *]; (try rfl); done)
      refine ⟨⟨(fun l9 c9 x9 h9 => by rw [HE.out] at h9; cases h9), fun t9 h9 => ?_⟩, (HQ6.out.fr.setCell (Nat.le_refl _) _).setCell (Nat.le_refl _) _⟩
      rw [HE.out] at h9
      cases h9
      refine ⟨v6, rfl, ?_⟩
      have hne : v6.ownBlock ≠ some w.heap.size := fun e => by have := (HQ6.out.own.lt _ e).1; have := HQ6.out.lt; omega
      exact own_base _ _ _ _ _ _ _ _ (own_set _ _ _ _ _ _ _ (own_set _ _ _ _ _ _ _ HQ6.out.own _ 0 _ hne) _ 1 _ hne) (by have := HQ6.out.lt; omega)
theorem tokensR_any (s : ByteArray) (w : World) : Calls Tryz.prog 9 #[.string s] w fun e w' => TokR (tokensF s) w e w' ∧ Fresh w w' := by
  by_cases h : 1048576 < s.size
  · refine (tokR_long s (by omega) w).mono ?_
    rintro e w' ⟨rfl, f⟩
    refine ⟨⟨fun l c x hx => ?_, fun ts ht => ?_⟩, f⟩
    · unfold tokensF at hx
      rw [if_pos h] at hx
      cases hx
      rfl
    · unfold tokensF at ht
      rw [if_pos h] at ht
      cases ht
  · have hT := tokensF_L s (by omega)
    have hb : brk s.data.toList 1 1 = (utL s.size s.data.toList).map fun k => mov (s.data.toList.take k) 1 1 := by
      unfold brk
      rw [← size_list]
      exact ut_brk _ _ _ _
    cases hu : utL s.size s.data.toList with
    | some k =>
      rw [hu] at hb
      rw [hb] at hT
      refine (tokR_broken s (by omega) k hu w).mono ?_
      rintro e w' ⟨rfl, f⟩
      refine ⟨⟨fun l c x hx => ?_, fun ts ht => ?_⟩, f⟩
      · rw [hT] at hx
        simp only [Option.map_some, brkT] at hx
        cases hx
        rfl
      · rw [hT] at ht
        simp only [Option.map_some, brkT] at ht
        cases ht
    | none =>
      rw [hu] at hb
      rw [hb] at hT
      rw [hT]
      exact tokR_loop s (by omega) hu ⟨1, 1, hb⟩ w
end
end Go.Proofs.YtcmfmfgedhfaeaaGreatDoor
