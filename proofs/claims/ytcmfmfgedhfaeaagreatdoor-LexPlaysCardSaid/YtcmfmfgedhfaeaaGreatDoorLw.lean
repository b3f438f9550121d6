/- A character's token, a text's token. -/
import Derived.Test.YtcmfmfgedhfaeaaGreatDoorLv
import Derived.Test.YtcmfmfgedhfaeaaGreatDoorLi
namespace Go.Proofs.YtcmfmfgedhfaeaaGreatDoor
set_option linter.unusedSimpArgs false
set_option linter.unusedVariables false
open Go.RowKit

def prV (s : ByteArray) : PR → Value
  | .err e => .tuple #[tokV 0 ⟨#[]⟩ 0 ⟨#[]⟩, .int .i64 e]
  | .tok k n b d => .tuple #[tokV k (s.extract 0 n) b ⟨d.toArray⟩, .int .i64 0]
theorem quotL_le (q : UInt8) (x : List UInt8) (h1 : 1 ≤ x.length) (n : Nat) (h : quotL q x = some n) : 2 ≤ n ∧ n ≤ x.length := by
  have hl := quoL_le (q.toNat : Int) (x.drop 1) false
  rw [List.length_drop] at hl
  unfold quotL at h
  simp only at h
  split at h
  · cases h
  · rename_i hc
    simp only [Option.some.injEq] at h
    have : ¬ (1 + quoL (q.toNat : Int) false (x.drop 1) = x.length) := fun e => hc (Or.inl e)
    omega
def charL (x : List UInt8) : PR := match quotL 39 x with
  | none => .err 2
  | some n => match onlyL ((x.drop 1).take (n - 1 - 1)) with
    | none => .err 2
    | some r => .tok 5 n r []
def textL (x : List UInt8) : PR := match quotL 34 x with
  | none => .err 2
  | some n => match bytesL (n - 1 - 1 + 1) ((x.drop 1).take (n - 1 - 1)) with
    | none => .err 2
    | some d => .tok 6 n 0 d
set_option maxRecDepth 100000 in
set_option maxHeartbeats 4000000 in
theorem char_0 (s : ByteArray) (n : Nat) (r : Nat) (h58 : ∀ X, Calls Tryz.prog 58 #[.string s, .int .i32 39] X fun e w' => e = .returned (quoV none) ∧ Fresh X w') (w : World) (hT : Tabs w) :
    Calls Tryz.prog 41 #[.string s] w fun e w' => e = .returned (prV s (.err 2)) ∧ Fresh w w' := by
  have A := Lib.hid h58
  have HT := Lib.hid hT
  clear h58 hT
  have hf : Hid (Fresh w (w.alloc (.cells #[.int .i64 0, .int .i64 0, .int .i64 0, .string ⟨#[]⟩, .int .u64 0, .string ⟨#[]⟩] 32))) := Lib.hid ((Fresh.refl w).alloc _ _)
  go_enter Tryz.func41, Tryz.ntmps41
  go_wp2_with fail
  go_at_call 58; refine (A.out _).mono ?_; rintro e w1 ⟨rfl, f1⟩
  have F1 := Lib.hid (hf.out.trans f1)
  have R1 : Hid (Blk w1 w.heap.size [.int .i64 0, .int .i64 0, .int .i64 0, .string ⟨#[]⟩, .int .u64 0, .string ⟨#[]⟩]) := Lib.hid ((Blk.new w #[.int .i64 0, .int .i64 0, .int .i64 0, .string ⟨#[]⟩, .int .u64 0, .string ⟨#[]⟩] 32).fresh f1)
  clear f1 hf
  unfold quoV
  dsimp only
  have r0 := R1.out.1 0 _ rfl
  have r1 := R1.out.1 1 _ rfl
  have r2 := R1.out.1 2 _ rfl
  have r3 := R1.out.1 3 _ rfl
  have r4 := R1.out.1 4 _ rfl
  have r5 := R1.out.1 5 _ rfl
  have rf := R1.out.2.1
  go_wp2_with fail
  refine bodyPost_ret (v := ?_) ?_ rfl ?_; rotate_left 1; focus (simp [results, Tryz.results41, go_sem, *]; (try rfl); done)
  exact ⟨rfl, (by repeat' first | with_reducible exact F1.out | with_reducible refine Fresh.setCell ?_ ?_ _ | (simp; done) | omega)⟩
set_option maxRecDepth 100000 in
set_option maxHeartbeats 4000000 in
theorem char_1 (s : ByteArray) (n : Nat) (r : Nat) (h58 : ∀ X, Calls Tryz.prog 58 #[.string s, .int .i32 39] X fun e w' => e = .returned (quoV (some n)) ∧ Fresh X w')
    (hnI : 2 ≤ (n : Int)) (hnS : (n : Int) ≤ (s.size : Int)) (hs : (s.size : Int) ≤ 1048576) (m : Nat) (hm : (n : Int) - 1 = (m : Int)) (hm1 : 1 ≤ (m : Int)) (hm2 : (m : Int) ≤ (s.size : Int))
    (hin : ∀ X, Tabs X → Calls Tryz.prog 59 #[.string (s.extract 1 m)] X fun e w' => OnlyR none e ∧ Fresh X w') (w : World) (hT : Tabs w) :
    Calls Tryz.prog 41 #[.string s] w fun e w' => e = .returned (prV s (.err 2)) ∧ Fresh w w' := by
  have A := Lib.hid h58
  have HT := Lib.hid hT
  clear h58 hT
  have B := Lib.hid hin
  clear hin
  have hf : Hid (Fresh w (w.alloc (.cells #[.int .i64 0, .int .i64 0, .int .i64 0, .string ⟨#[]⟩, .int .u64 0, .string ⟨#[]⟩] 32))) := Lib.hid ((Fresh.refl w).alloc _ _)
  go_enter Tryz.func41, Tryz.ntmps41
  go_wp2_with fail
  go_at_call 58; refine (A.out _).mono ?_; rintro e w1 ⟨rfl, f1⟩
  have F1 := Lib.hid (hf.out.trans f1)
  have R1 : Hid (Blk w1 w.heap.size [.int .i64 0, .int .i64 0, .int .i64 0, .string ⟨#[]⟩, .int .u64 0, .string ⟨#[]⟩]) := Lib.hid ((Blk.new w #[.int .i64 0, .int .i64 0, .int .i64 0, .string ⟨#[]⟩, .int .u64 0, .string ⟨#[]⟩] 32).fresh f1)
  clear f1 hf
  unfold quoV
  dsimp only
  go_wp2_with fail
  go_at_call 59; refine (B.out _ (HT.out.fresh F1.out)).mono ?_; rintro e w2 ⟨⟨k1, k2⟩, f2⟩
  have F2 := Lib.hid (F1.out.trans f2)
  have R2 := Lib.hid (R1.out.fresh f2)
  clear f2
  obtain ⟨r9, rfl⟩ := k2 rfl
  clear k1 k2
  have r0 := R2.out.1 0 _ rfl
  have r1 := R2.out.1 1 _ rfl
  have r2 := R2.out.1 2 _ rfl
  have r3 := R2.out.1 3 _ rfl
  have r4 := R2.out.1 4 _ rfl
  have r5 := R2.out.1 5 _ rfl
  have rf := R2.out.2.1
  go_wp2_with fail
  refine bodyPost_ret (v := ?_) ?_ rfl ?_; rotate_left 1; focus (simp [results, Tryz.results41, go_sem, *]; (try rfl); done)
  exact ⟨rfl, (by repeat' first | with_reducible exact F2.out | with_reducible refine Fresh.setCell ?_ ?_ _ | (simp; done) | omega)⟩
set_option maxRecDepth 100000 in
set_option maxHeartbeats 4000000 in
theorem char_2 (s : ByteArray) (n : Nat) (r : Nat) (h58 : ∀ X, Calls Tryz.prog 58 #[.string s, .int .i32 39] X fun e w' => e = .returned (quoV (some n)) ∧ Fresh X w')
    (hnI : 2 ≤ (n : Int)) (hnS : (n : Int) ≤ (s.size : Int)) (hs : (s.size : Int) ≤ 1048576) (m : Nat) (hm : (n : Int) - 1 = (m : Int)) (hm1 : 1 ≤ (m : Int)) (hm2 : (m : Int) ≤ (s.size : Int))
    (hin : ∀ X, Tabs X → Calls Tryz.prog 59 #[.string (s.extract 1 m)] X fun e w' => OnlyR (some r) e ∧ Fresh X w') (hr0 : 0 ≤ (r : Int)) (hr1 : (r : Int) ≤ 1114111) (w : World) (hT : Tabs w) :
    Calls Tryz.prog 41 #[.string s] w fun e w' => e = .returned (prV s (.tok 5 n r [])) ∧ Fresh w w' := by
  have A := Lib.hid h58
  have HT := Lib.hid hT
  clear h58 hT
  have B := Lib.hid hin
  clear hin
  have hf : Hid (Fresh w (w.alloc (.cells #[.int .i64 0, .int .i64 0, .int .i64 0, .string ⟨#[]⟩, .int .u64 0, .string ⟨#[]⟩] 32))) := Lib.hid ((Fresh.refl w).alloc _ _)
  go_enter Tryz.func41, Tryz.ntmps41
  go_wp2_with fail
  go_at_call 58; refine (A.out _).mono ?_; rintro e w1 ⟨rfl, f1⟩
  have F1 := Lib.hid (hf.out.trans f1)
  have R1 : Hid (Blk w1 w.heap.size [.int .i64 0, .int .i64 0, .int .i64 0, .string ⟨#[]⟩, .int .u64 0, .string ⟨#[]⟩]) := Lib.hid ((Blk.new w #[.int .i64 0, .int .i64 0, .int .i64 0, .string ⟨#[]⟩, .int .u64 0, .string ⟨#[]⟩] 32).fresh f1)
  clear f1 hf
  unfold quoV
  dsimp only
  go_wp2_with fail
  go_at_call 59; refine (B.out _ (HT.out.fresh F1.out)).mono ?_; rintro e w2 ⟨⟨k1, k2⟩, f2⟩
  have F2 := Lib.hid (F1.out.trans f2)
  have R2 := Lib.hid (R1.out.fresh f2)
  clear f2
  obtain rfl := k1 r rfl
  clear k1 k2
  have r0 := R2.out.1 0 _ rfl
  have r1 := R2.out.1 1 _ rfl
  have r2 := R2.out.1 2 _ rfl
  have r3 := R2.out.1 3 _ rfl
  have r4 := R2.out.1 4 _ rfl
  have r5 := R2.out.1 5 _ rfl
  have rf := R2.out.2.1
  go_wp2_with fail
  refine bodyPost_ret (v := ?_) ?_ rfl ?_; rotate_left 1; focus (simp [results, Tryz.results41, go_sem, *]; (try rfl); done)
  exact ⟨rfl, (by repeat' first | with_reducible exact F2.out | with_reducible refine Fresh.setCell ?_ ?_ _ | (simp; done) | omega)⟩
set_option maxRecDepth 100000 in
set_option maxHeartbeats 4000000 in
theorem text_0 (s : ByteArray) (n : Nat) (d : List UInt8) (h58 : ∀ X, Calls Tryz.prog 58 #[.string s, .int .i32 34] X fun e w' => e = .returned (quoV none) ∧ Fresh X w') (w : World) (hT : Tabs w) :
    Calls Tryz.prog 42 #[.string s] w fun e w' => e = .returned (prV s (.err 2)) ∧ Fresh w w' := by
  have A := Lib.hid h58
  have HT := Lib.hid hT
  clear h58 hT
  have hf : Hid (Fresh w (w.alloc (.cells #[.int .i64 0, .int .i64 0, .int .i64 0, .string ⟨#[]⟩, .int .u64 0, .string ⟨#[]⟩] 32))) := Lib.hid ((Fresh.refl w).alloc _ _)
  go_enter Tryz.func42, Tryz.ntmps42
  go_wp2_with fail
  go_at_call 58; refine (A.out _).mono ?_; rintro e w1 ⟨rfl, f1⟩
  have F1 := Lib.hid (hf.out.trans f1)
  have R1 : Hid (Blk w1 w.heap.size [.int .i64 0, .int .i64 0, .int .i64 0, .string ⟨#[]⟩, .int .u64 0, .string ⟨#[]⟩]) := Lib.hid ((Blk.new w #[.int .i64 0, .int .i64 0, .int .i64 0, .string ⟨#[]⟩, .int .u64 0, .string ⟨#[]⟩] 32).fresh f1)
  clear f1 hf
  unfold quoV
  dsimp only
  have r0 := R1.out.1 0 _ rfl
  have r1 := R1.out.1 1 _ rfl
  have r2 := R1.out.1 2 _ rfl
  have r3 := R1.out.1 3 _ rfl
  have r4 := R1.out.1 4 _ rfl
  have r5 := R1.out.1 5 _ rfl
  have rf := R1.out.2.1
  go_wp2_with fail
  refine bodyPost_ret (v := ?_) ?_ rfl ?_; rotate_left 1; focus (simp [results, Tryz.results42, go_sem, *]; (try rfl); done)
  exact ⟨rfl, (by repeat' first | with_reducible exact F1.out | with_reducible refine Fresh.setCell ?_ ?_ _ | (simp; done) | omega)⟩
set_option maxRecDepth 100000 in
set_option maxHeartbeats 4000000 in
theorem text_1 (s : ByteArray) (n : Nat) (d : List UInt8) (h58 : ∀ X, Calls Tryz.prog 58 #[.string s, .int .i32 34] X fun e w' => e = .returned (quoV (some n)) ∧ Fresh X w')
    (hnI : 2 ≤ (n : Int)) (hnS : (n : Int) ≤ (s.size : Int)) (hs : (s.size : Int) ≤ 1048576) (m : Nat) (hm : (n : Int) - 1 = (m : Int)) (hm1 : 1 ≤ (m : Int)) (hm2 : (m : Int) ≤ (s.size : Int))
    (hin : ∀ X, Tabs X → Calls Tryz.prog 60 #[.string (s.extract 1 m)] X fun e w' => e = .returned (txtV none) ∧ Fresh X w') (w : World) (hT : Tabs w) :
    Calls Tryz.prog 42 #[.string s] w fun e w' => e = .returned (prV s (.err 2)) ∧ Fresh w w' := by
  have A := Lib.hid h58
  have HT := Lib.hid hT
  clear h58 hT
  have B := Lib.hid hin
  clear hin
  have hf : Hid (Fresh w (w.alloc (.cells #[.int .i64 0, .int .i64 0, .int .i64 0, .string ⟨#[]⟩, .int .u64 0, .string ⟨#[]⟩] 32))) := Lib.hid ((Fresh.refl w).alloc _ _)
  go_enter Tryz.func42, Tryz.ntmps42
  go_wp2_with fail
  go_at_call 58; refine (A.out _).mono ?_; rintro e w1 ⟨rfl, f1⟩
  have F1 := Lib.hid (hf.out.trans f1)
  have R1 : Hid (Blk w1 w.heap.size [.int .i64 0, .int .i64 0, .int .i64 0, .string ⟨#[]⟩, .int .u64 0, .string ⟨#[]⟩]) := Lib.hid ((Blk.new w #[.int .i64 0, .int .i64 0, .int .i64 0, .string ⟨#[]⟩, .int .u64 0, .string ⟨#[]⟩] 32).fresh f1)
  clear f1 hf
  unfold quoV
  dsimp only
  go_wp2_with fail
  go_at_call 60; refine (B.out _ (HT.out.fresh F1.out)).mono ?_; rintro e w2 ⟨rfl, f2⟩
  have F2 := Lib.hid (F1.out.trans f2)
  have R2 := Lib.hid (R1.out.fresh f2)
  clear f2
  unfold txtV
  dsimp only
  have r0 := R2.out.1 0 _ rfl
  have r1 := R2.out.1 1 _ rfl
  have r2 := R2.out.1 2 _ rfl
  have r3 := R2.out.1 3 _ rfl
  have r4 := R2.out.1 4 _ rfl
  have r5 := R2.out.1 5 _ rfl
  have rf := R2.out.2.1
  go_wp2_with fail
  refine bodyPost_ret (v := ?_) ?_ rfl ?_; rotate_left 1; focus (simp [results, Tryz.results42, go_sem, *]; (try rfl); done)
  exact ⟨rfl, (by repeat' first | with_reducible exact F2.out | with_reducible refine Fresh.setCell ?_ ?_ _ | (simp; done) | omega)⟩
set_option maxRecDepth 100000 in
set_option maxHeartbeats 4000000 in
theorem text_2 (s : ByteArray) (n : Nat) (d : List UInt8) (h58 : ∀ X, Calls Tryz.prog 58 #[.string s, .int .i32 34] X fun e w' => e = .returned (quoV (some n)) ∧ Fresh X w')
    (hnI : 2 ≤ (n : Int)) (hnS : (n : Int) ≤ (s.size : Int)) (hs : (s.size : Int) ≤ 1048576) (m : Nat) (hm : (n : Int) - 1 = (m : Int)) (hm1 : 1 ≤ (m : Int)) (hm2 : (m : Int) ≤ (s.size : Int))
    (hin : ∀ X, Tabs X → Calls Tryz.prog 60 #[.string (s.extract 1 m)] X fun e w' => e = .returned (txtV (some d)) ∧ Fresh X w') (w : World) (hT : Tabs w) :
    Calls Tryz.prog 42 #[.string s] w fun e w' => e = .returned (prV s (.tok 6 n 0 d)) ∧ Fresh w w' := by
  have A := Lib.hid h58
  have HT := Lib.hid hT
  clear h58 hT
  have B := Lib.hid hin
  clear hin
  have hf : Hid (Fresh w (w.alloc (.cells #[.int .i64 0, .int .i64 0, .int .i64 0, .string ⟨#[]⟩, .int .u64 0, .string ⟨#[]⟩] 32))) := Lib.hid ((Fresh.refl w).alloc _ _)
  go_enter Tryz.func42, Tryz.ntmps42
  go_wp2_with fail
  go_at_call 58; refine (A.out _).mono ?_; rintro e w1 ⟨rfl, f1⟩
  have F1 := Lib.hid (hf.out.trans f1)
  have R1 : Hid (Blk w1 w.heap.size [.int .i64 0, .int .i64 0, .int .i64 0, .string ⟨#[]⟩, .int .u64 0, .string ⟨#[]⟩]) := Lib.hid ((Blk.new w #[.int .i64 0, .int .i64 0, .int .i64 0, .string ⟨#[]⟩, .int .u64 0, .string ⟨#[]⟩] 32).fresh f1)
  clear f1 hf
  unfold quoV
  dsimp only
  go_wp2_with fail
  go_at_call 60; refine (B.out _ (HT.out.fresh F1.out)).mono ?_; rintro e w2 ⟨rfl, f2⟩
  have F2 := Lib.hid (F1.out.trans f2)
  have R2 := Lib.hid (R1.out.fresh f2)
  clear f2
  unfold txtV
  dsimp only
  have r0 := R2.out.1 0 _ rfl
  have r1 := R2.out.1 1 _ rfl
  have r2 := R2.out.1 2 _ rfl
  have r3 := R2.out.1 3 _ rfl
  have r4 := R2.out.1 4 _ rfl
  have r5 := R2.out.1 5 _ rfl
  have rf := R2.out.2.1
  go_wp2_with fail
  refine bodyPost_ret (v := ?_) ?_ rfl ?_; rotate_left 1; focus (simp [results, Tryz.results42, go_sem, *]; (try rfl); done)
  exact ⟨rfl, (by repeat' first | with_reducible exact F2.out | with_reducible refine Fresh.setCell ?_ ?_ _ | (simp; done) | omega)⟩
theorem sub_list (s : ByteArray) (n : Nat) : (s.extract 1 (n - 1)).data.toList = (s.data.toList.drop 1).take (n - 1 - 1) := by rw [Lib.extract_data]
theorem decL_le (l : List UInt8) : (Lib.decodeL l).1 ≤ 1114111 := Lib.decodeL_rune l
theorem onlyL_le (l : List UInt8) (r : Nat) (h : onlyL l = some r) : r ≤ 1114111 := by
  unfold onlyL at h
  split at h
  · split at h
    · simp only [Option.some.injEq] at h
      have := (escL_le (Lib.trimPrefix l [92])).1
      omega
    · cases h
  · split at h
    · simp only [Option.some.injEq] at h
      have := decL_le l
      omega
    · cases h
theorem char_any (s : ByteArray) (h1 : 1 ≤ s.size) (hs : s.size ≤ 1048576) (w : World) (hT : Tabs w) :
    Calls Tryz.prog 41 #[.string s] w fun e w' => e = .returned (prV s (charL s.data.toList)) ∧ Fresh w w' := by
  have h58 := fun X => quoted_any s 39 (by decide) h1 hs X
  have hle := fun n h => quotL_le 39 s.data.toList (by rw [← size_list]; exact h1) n h
  rw [← size_list] at hle
  unfold charL
  cases hq : quotL 39 s.data.toList with
  | none => rw [hq] at h58; exact char_0 s 0 0 h58 w hT
  | some n =>
    rw [hq] at h58
    obtain ⟨h2, h3⟩ := hle n hq
    have hin := fun X hX => only_any (s.extract 1 (n - 1)) (by simp [ByteArray.size_extract]; omega) X hX
    rw [sub_list] at hin
    have hol := onlyL_le ((s.data.toList.drop 1).take (n - 1 - 1))
    simp only
    cases ho : onlyL ((s.data.toList.drop 1).take (n - 1 - 1)) with
    | none => rw [ho] at hin; exact char_1 s n 0 h58 (by omega) (by omega) (by omega) (n - 1) (by omega) (by omega) (by omega) hin w hT
    | some r => rw [ho] at hin; exact char_2 s n r h58 (by omega) (by omega) (by omega) (n - 1) (by omega) (by omega) (by omega) hin (by omega) (by have := hol r ho; omega) w hT
theorem text_any (s : ByteArray) (h1 : 1 ≤ s.size) (hs : s.size ≤ 1048576) (w : World) (hT : Tabs w) :
    Calls Tryz.prog 42 #[.string s] w fun e w' => e = .returned (prV s (textL s.data.toList)) ∧ Fresh w w' := by
  have h58 := fun X => quoted_any s 34 (by decide) h1 hs X
  have hle := fun n h => quotL_le 34 s.data.toList (by rw [← size_list]; exact h1) n h
  rw [← size_list] at hle
  unfold textL
  cases hq : quotL 34 s.data.toList with
  | none => rw [hq] at h58; exact text_0 s 0 [] h58 w hT
  | some n =>
    rw [hq] at h58
    obtain ⟨h2, h3⟩ := hle n hq
    have hin := fun X hX => bytes_any (s.extract 1 (n - 1)) (by simp [ByteArray.size_extract]; omega) X hX
    have hsz : (s.extract 1 (n - 1)).size = n - 1 - 1 := by simp [ByteArray.size_extract]; omega
    rw [sub_list, hsz] at hin
    simp only
    cases ho : bytesL (n - 1 - 1 + 1) ((s.data.toList.drop 1).take (n - 1 - 1)) with
    | none => rw [ho] at hin; exact text_1 s n [] h58 (by omega) (by omega) (by omega) (n - 1) (by omega) (by omega) (by omega) hin w hT
    | some d => rw [ho] at hin; exact text_2 s n d h58 (by omega) (by omega) (by omega) (n - 1) (by omega) (by omega) (by omega) hin w hT
end Go.Proofs.YtcmfmfgedhfaeaaGreatDoor
