/- A sign's token. -/
import Derived.Test.YtcmfmfgedhfaeaaGreatDoorLh
namespace Go.Proofs.YtcmfmfgedhfaeaaGreatDoor
set_option linter.unusedSimpArgs false
set_option linter.unusedVariables false
open Go.RowKit

/-- How long the sign is; 0: none. -/
def signN (s : ByteArray) : Nat → Nat
  | 0 => 0
  | k + 1 => if (s.extract 0 (k + 1)).toList ∈ signsL then k + 1 else signN s k
def signR (s : ByteArray) (n : Nat) : Value := if n = 0 then .tuple #[tokV 0 ⟨#[]⟩ 0 ⟨#[]⟩, .int .i64 2] else .tuple #[tokV 7 (s.extract 0 n) 0 ⟨#[]⟩, .int .i64 0]
set_option maxRecDepth 100000 in
set_option maxHeartbeats 4000000 in
theorem signToken_any (s : ByteArray) (hs : s.size ≤ 9223372036854775807) (w : World) : Calls Tryz.prog 43 #[.string s] w fun e w' => e = .returned (signR s (signN s (min 3 s.size))) ∧ Fresh w w' := by
  obtain ⟨m, hm⟩ : ∃ m : Nat, m = min 3 s.size := ⟨_, rfl⟩
  have hms : m ≤ s.size ∧ m ≤ 3 ∧ (s.size < 3 → m = s.size) ∧ (¬ s.size < 3 → m = 3) := by omega
  obtain ⟨R, hR⟩ : ∃ R, R = signN s m := ⟨_, rfl⟩
  rw [← hm, ← hR]
  have HR := Lib.hid hR
  have HM := Lib.hid hm
  clear hR hm
  have R1 : Hid (Blk (w.alloc (.cells #[.int .i64 0, .int .i64 0, .int .i64 0, .string ⟨#[]⟩, .int .u64 0, .string ⟨#[]⟩] 32)) w.heap.size [.int .i64 0, .int .i64 0, .int .i64 0, .string ⟨#[]⟩, .int .u64 0, .string ⟨#[]⟩]) := Lib.hid (Blk.new w #[.int .i64 0, .int .i64 0, .int .i64 0, .string ⟨#[]⟩, .int .u64 0, .string ⟨#[]⟩] 32)
  have F1 : Hid (Fresh w (w.alloc (.cells #[.int .i64 0, .int .i64 0, .int .i64 0, .string ⟨#[]⟩, .int .u64 0, .string ⟨#[]⟩] 32))) := Lib.hid ((Fresh.refl w).alloc _ _)
  go_enter Tryz.func43, Tryz.ntmps43
  go_upto_region 1 with fail
  generalize (w.alloc (.cells #[.int .i64 0, .int .i64 0, .int .i64 0, .string ⟨#[]⟩, .int .u64 0, .string ⟨#[]⟩] 32)) = W1 at *
  by_cases h3 : s.size < 3
  · have h3' : (s.size : Int) < 3 := by omega
    go_wp2_with fail
    go_loopw [4] (fun i wr => ∃ k : Nat, k ≤ s.size ∧ k ≤ 3 ∧ i = .int .i64 k ∧ Hid (signN s k = R) ∧ Hid (Blk wr w.heap.size [.int .i64 0, .int .i64 0, .int .i64 0, .string ⟨#[]⟩, .int .u64 0, .string ⟨#[]⟩]) ∧ Hid (Fresh w wr)) (fun i _ => (intOf i).toNat)
    case atStart => exact ⟨m, by omega, by omega, by first | rfl | (congr 1; omega) | (rw [show m = s.size by omega]; rfl), Lib.hid HR.out.symm, R1, F1⟩
    case round =>
      obtain ⟨k, hk1, hk3, rfl, HS, HB, HF⟩ := hrel
      clear R1 F1
      by_cases hk : 0 < k
      · obtain ⟨k, rfl⟩ : ∃ j, k = j + 1 := ⟨k - 1, by omega⟩
        have hk' : (0 : Int) < ((k + 1 : Nat) : Int) := by omega
        have hks : ((k + 1 : Nat) : Int) ≤ (s.size : Int) := by omega
        obtain ⟨t, ht⟩ : ∃ t, t = decide ((s.extract 0 (k + 1)).toList ∈ signsL) := ⟨_, rfl⟩
        have D := Lib.hid (fun X => sign_any (s.extract 0 (k + 1)) X)
        rw [← ht] at D
        have HT := Lib.hid ht
        clear ht
        have HEX : Hid (∀ X, s.extract 0 (k + 1) = X → s.extract 0 (k + 1) = X) := Lib.hid (fun _ h => h)
        obtain ⟨K, hK⟩ : ∃ K, K = k + 1 := ⟨_, rfl⟩
        have HKK := Lib.hid hK
        rw [← hK] at D hk' hks hk1 hk3 HS HT
        rw [← hK]
        clear hK HEX
        cases t
        · have HE : Hid (signN s k = R) := Lib.hid (by have h1 := HT.out; have h2 := HS.out; rw [HKK.out] at h1 h2; simp at h1; simpa [signN, h1] using h2)
          go_wp2_with fail
          go_at_call 14; refine (D.out _).mono ?_; rintro e w2 ⟨rfl, f2⟩
          have R2 := Lib.hid (HB.out.fresh f2)
          have F2 := Lib.hid (HF.out.trans f2)
          clear f2
          go_wp2_with fail
          go_roundw
          case rel => exact ⟨k, by have := HKK.out; omega, by have := HKK.out; omega, by have := HKK.out; go_num, HE, R2, F2⟩
          case measure => have := HKK.out; simp [intOf]; omega
        · have HE : Hid (K = R) := Lib.hid (by have h1 := HT.out; have h2 := HS.out; rw [HKK.out] at h1 h2; simp at h1; rw [HKK.out]; simpa [signN, h1] using h2)
          go_wp2_with fail
          go_at_call 14; refine (D.out _).mono ?_; rintro e w2 ⟨rfl, f2⟩
          have R2 := Lib.hid (HB.out.fresh f2)
          have F2 := Lib.hid (HF.out.trans f2)
          clear f2
          have r0 := R2.out.1 0 _ rfl
          have r1 := R2.out.1 1 _ rfl
          have r2 := R2.out.1 2 _ rfl
          have r3 := R2.out.1 3 _ rfl
          have r4 := R2.out.1 4 _ rfl
          have r5 := R2.out.1 5 _ rfl
          have rf := R2.out.2.1
          go_wp2_with fail
          refine bodyPost_ret (v := ?_) ?_ rfl ?_; rotate_left 1; focus (simp [results, Tryz.results43, go_sem, *]; (try rfl); done)
          exact ⟨by rw [← HE.out]; have := HKK.out; simp [signR, tokV]; omega, (by repeat' first | with_reducible exact F2.out | with_reducible refine Fresh.setCell ?_ ?_ _ | (simp; done) | omega)⟩
      · obtain rfl : k = 0 := by omega
        have HE : Hid (0 = R) := Lib.hid (by have := HS.out; simpa [signN] using this)
        have r0 := HB.out.1 0 _ rfl
        have r1 := HB.out.1 1 _ rfl
        have r2 := HB.out.1 2 _ rfl
        have r3 := HB.out.1 3 _ rfl
        have r4 := HB.out.1 4 _ rfl
        have r5 := HB.out.1 5 _ rfl
        have rf := HB.out.2.1
        go_wp2_with fail
        refine bodyPost_ret (v := ?_) ?_ rfl ?_; rotate_left 1; focus (simp [results, Tryz.results43, go_sem, *]; (try rfl); done)
        exact ⟨by rw [← HE.out]; rfl, (by repeat' first | with_reducible exact HF.out | with_reducible refine Fresh.setCell ?_ ?_ _ | (simp; done) | omega)⟩
  · have h3' : ¬ (s.size : Int) < 3 := by omega
    go_wp2_with fail
    go_loopw [4] (fun i wr => ∃ k : Nat, k ≤ s.size ∧ k ≤ 3 ∧ i = .int .i64 k ∧ Hid (signN s k = R) ∧ Hid (Blk wr w.heap.size [.int .i64 0, .int .i64 0, .int .i64 0, .string ⟨#[]⟩, .int .u64 0, .string ⟨#[]⟩]) ∧ Hid (Fresh w wr)) (fun i _ => (intOf i).toNat)
    case atStart => exact ⟨m, by omega, by omega, by first | rfl | (congr 1; omega) | (rw [show m = 3 by omega]; rfl), Lib.hid HR.out.symm, R1, F1⟩
    case round =>
      obtain ⟨k, hk1, hk3, rfl, HS, HB, HF⟩ := hrel
      clear R1 F1
      by_cases hk : 0 < k
      · obtain ⟨k, rfl⟩ : ∃ j, k = j + 1 := ⟨k - 1, by omega⟩
        have hk' : (0 : Int) < ((k + 1 : Nat) : Int) := by omega
        have hks : ((k + 1 : Nat) : Int) ≤ (s.size : Int) := by omega
        obtain ⟨t, ht⟩ : ∃ t, t = decide ((s.extract 0 (k + 1)).toList ∈ signsL) := ⟨_, rfl⟩
        have D := Lib.hid (fun X => sign_any (s.extract 0 (k + 1)) X)
        rw [← ht] at D
        have HT := Lib.hid ht
        clear ht
        have HEX : Hid (∀ X, s.extract 0 (k + 1) = X → s.extract 0 (k + 1) = X) := Lib.hid (fun _ h => h)
        obtain ⟨K, hK⟩ : ∃ K, K = k + 1 := ⟨_, rfl⟩
        have HKK := Lib.hid hK
        rw [← hK] at D hk' hks hk1 hk3 HS HT
        rw [← hK]
        clear hK HEX
        cases t
        · have HE : Hid (signN s k = R) := Lib.hid (by have h1 := HT.out; have h2 := HS.out; rw [HKK.out] at h1 h2; simp at h1; simpa [signN, h1] using h2)
          go_wp2_with fail
          go_at_call 14; refine (D.out _).mono ?_; rintro e w2 ⟨rfl, f2⟩
          have R2 := Lib.hid (HB.out.fresh f2)
          have F2 := Lib.hid (HF.out.trans f2)
          clear f2
          go_wp2_with fail
          go_roundw
          case rel => exact ⟨k, by have := HKK.out; omega, by have := HKK.out; omega, by have := HKK.out; go_num, HE, R2, F2⟩
          case measure => have := HKK.out; simp [intOf]; omega
        · have HE : Hid (K = R) := Lib.hid (by have h1 := HT.out; have h2 := HS.out; rw [HKK.out] at h1 h2; simp at h1; rw [HKK.out]; simpa [signN, h1] using h2)
          go_wp2_with fail
          go_at_call 14; refine (D.out _).mono ?_; rintro e w2 ⟨rfl, f2⟩
          have R2 := Lib.hid (HB.out.fresh f2)
          have F2 := Lib.hid (HF.out.trans f2)
          clear f2
          have r0 := R2.out.1 0 _ rfl
          have r1 := R2.out.1 1 _ rfl
          have r2 := R2.out.1 2 _ rfl
          have r3 := R2.out.1 3 _ rfl
          have r4 := R2.out.1 4 _ rfl
          have r5 := R2.out.1 5 _ rfl
          have rf := R2.out.2.1
          go_wp2_with fail
          refine bodyPost_ret (v := ?_) ?_ rfl ?_; rotate_left 1; focus (simp [results, Tryz.results43, go_sem, *]; (try rfl); done)
          exact ⟨by rw [← HE.out]; have := HKK.out; simp [signR, tokV]; omega, (by repeat' first | with_reducible exact F2.out | with_reducible refine Fresh.setCell ?_ ?_ _ | (simp; done) | omega)⟩
      · obtain rfl : k = 0 := by omega
        have HE : Hid (0 = R) := Lib.hid (by have := HS.out; simpa [signN] using this)
        have r0 := HB.out.1 0 _ rfl
        have r1 := HB.out.1 1 _ rfl
        have r2 := HB.out.1 2 _ rfl
        have r3 := HB.out.1 3 _ rfl
        have r4 := HB.out.1 4 _ rfl
        have r5 := HB.out.1 5 _ rfl
        have rf := HB.out.2.1
        go_wp2_with fail
        refine bodyPost_ret (v := ?_) ?_ rfl ?_; rotate_left 1; focus (simp [results, Tryz.results43, go_sem, *]; (try rfl); done)
        exact ⟨by rw [← HE.out]; rfl, (by repeat' first | with_reducible exact HF.out | with_reducible refine Fresh.setCell ?_ ?_ _ | (simp; done) | omega)⟩
end Go.Proofs.YtcmfmfgedhfaeaaGreatDoor
