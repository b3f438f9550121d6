/- A name's token, a sign's token. -/
import Derived.Test.YtcmfmfgedhfaeaaGreatDoorLc
import Derived.Test.YtcmfmfgedhfaeaaGreatDoorLe
import Derived.Test.YtcmfmfgedhfaeaaGreatDoorLg
namespace Go.Proofs.YtcmfmfgedhfaeaaGreatDoor
set_option linter.unusedSimpArgs false
set_option linter.unusedVariables false
open Go.RowKit

theorem spanF_le (p : Int → Bool) (s : ByteArray) : ∀ f pos, spanF p s f pos ≤ s.size
  | 0, pos => Nat.le_refl _
  | f + 1, pos => by
    unfold spanF
    split
    · split
      · exact spanF_le p s f _
      · omega
    · exact Nat.le_refl _
/-- A token without its place. -/
def tokV (kind : Int) (text : ByteArray) (bits : Int) (data : ByteArray) : Value := .agg #[.int .i64 kind, .int .i64 0, .int .i64 0, .string text, .int .u64 bits, .string data]
def nameR (s : ByteArray) (n : Nat) : Value := if 64 < n then .tuple #[tokV 0 ⟨#[]⟩ 0 ⟨#[]⟩, .int .i64 7] else if (s.extract 0 n).toList ∈ wordsL then .tuple #[tokV 2 (s.extract 0 n) 0 ⟨#[]⟩, .int .i64 0] else .tuple #[tokV 1 (s.extract 0 n) 0 ⟨#[]⟩, .int .i64 0]
set_option maxRecDepth 100000 in
set_option maxHeartbeats 4000000 in
theorem nameToken_any (s : ByteArray) (hs : s.size ≤ 9223372036854775807) (w : World) : Calls Tryz.prog 38 #[.string s] w fun e w' => e = .returned (nameR s (spanF nameZ s s.size 0)) ∧ Fresh w w' := by
  have C := Lib.hid (fun X => span54_any s X)
  have hn := spanF_le nameZ s s.size 0
  generalize spanF nameZ s s.size 0 = n at *
  have hn' : (n : Int) ≤ (s.size : Int) := by omega
  go_enter Tryz.func38, Tryz.ntmps38
  go_wp2_with fail
  go_at_call 53; refine (C.out _).mono ?_; rintro e w1 ⟨rfl, f1⟩
  have F1 : Hid (Fresh w w1) := Lib.hid ((((Fresh.refl w).alloc _ _)).trans f1)
  have R1 : Hid (Blk w1 w.heap.size [.int .i64 0, .int .i64 0, .int .i64 0, .string ⟨#[]⟩, .int .u64 0, .string ⟨#[]⟩]) := Lib.hid ((Blk.new w #[.int .i64 0, .int .i64 0, .int .i64 0, .string ⟨#[]⟩, .int .u64 0, .string ⟨#[]⟩] 32).fresh f1)
  clear f1
  have hsz : (s.extract 0 n).size = n := by simp [ByteArray.size_extract]; omega
  have r0 := R1.out.1 0 _ rfl
  have r1 := R1.out.1 1 _ rfl
  have r2 := R1.out.1 2 _ rfl
  have r3 := R1.out.1 3 _ rfl
  have r4 := R1.out.1 4 _ rfl
  have r5 := R1.out.1 5 _ rfl
  have rf := R1.out.2.1
  by_cases h64 : 64 < n
  · have h64' : (64 : Int) < (n : Int) := by omega
    go_wp2_with fail
    refine bodyPost_ret (v := ?_) ?_ rfl ?_; rotate_left 1; focus (simp [results, Tryz.results38, go_sem, *]; (try rfl); done)
    exact ⟨by simp [nameR, h64, tokV], (by repeat' first | with_reducible exact F1.out | with_reducible exact F2.out | with_reducible refine Fresh.setCell ?_ ?_ _ | (simp; done) | omega)⟩
  · have h64' : ¬ (64 : Int) < (n : Int) := by omega
    obtain ⟨t, ht⟩ : ∃ t, t = decide ((s.extract 0 n).toList ∈ wordsL) := ⟨_, rfl⟩
    have D := Lib.hid (fun X => word_any (s.extract 0 n) X)
    rw [← ht] at D
    have HT := Lib.hid ht
    clear ht
    clear r0 r1 r2 r3 r4 r5 rf
    cases t
    · have HE : Hid (nameR s n = .tuple #[tokV 1 (s.extract 0 n) 0 ⟨#[]⟩, .int .i64 0]) := Lib.hid (by have := HT.out; simp at this; simp [nameR, h64, this])
      go_wp2_with fail
      go_at_call 13; refine (D.out _).mono ?_; rintro e w2 ⟨rfl, f2⟩
      have R2 := Lib.hid (R1.out.fresh f2)
      have F2 := Lib.hid (F1.out.trans f2)
      clear f2
      have r0 := R2.out.1 0 _ rfl
      have r1 := R2.out.1 1 _ rfl
      have r2 := R2.out.1 2 _ rfl
      have r3 := R2.out.1 3 _ rfl
      have r4 := R2.out.1 4 _ rfl
      have r5 := R2.out.1 5 _ rfl
      have rf := R2.out.2.1
      go_wp2_with fail
      refine bodyPost_ret (v := ?_) ?_ rfl ?_; rotate_left 1; focus (simp [results, Tryz.results38, go_sem, *]; (try rfl); done)
      exact ⟨by rw [HE.out]; rfl, (by repeat' first | with_reducible exact F1.out | with_reducible exact F2.out | with_reducible refine Fresh.setCell ?_ ?_ _ | (simp; done) | omega)⟩
    · have HE : Hid (nameR s n = .tuple #[tokV 2 (s.extract 0 n) 0 ⟨#[]⟩, .int .i64 0]) := Lib.hid (by have := HT.out; simp at this; simp [nameR, h64, this])
      go_wp2_with fail
      go_at_call 13; refine (D.out _).mono ?_; rintro e w2 ⟨rfl, f2⟩
      have R2 := Lib.hid (R1.out.fresh f2)
      have F2 := Lib.hid (F1.out.trans f2)
      clear f2
      have r0 := R2.out.1 0 _ rfl
      have r1 := R2.out.1 1 _ rfl
      have r2 := R2.out.1 2 _ rfl
      have r3 := R2.out.1 3 _ rfl
      have r4 := R2.out.1 4 _ rfl
      have r5 := R2.out.1 5 _ rfl
      have rf := R2.out.2.1
      go_wp2_with fail
      refine bodyPost_ret (v := ?_) ?_ rfl ?_; rotate_left 1; focus (simp [results, Tryz.results38, go_sem, *]; (try rfl); done)
      exact ⟨by rw [HE.out]; rfl, (by repeat' first | with_reducible exact F1.out | with_reducible exact F2.out | with_reducible refine Fresh.setCell ?_ ?_ _ | (simp; done) | omega)⟩
end Go.Proofs.YtcmfmfgedhfaeaaGreatDoor
