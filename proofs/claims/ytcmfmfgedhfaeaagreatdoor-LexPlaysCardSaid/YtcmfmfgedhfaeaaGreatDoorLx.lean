/- piece: the token at a text's beginning. -/
import Derived.Test.YtcmfmfgedhfaeaaGreatDoorLw
namespace Go.Proofs.YtcmfmfgedhfaeaaGreatDoor
set_option linter.unusedSimpArgs false
set_option linter.unusedVariables false
open Go.RowKit

def nameL (x : List UInt8) : PR := if 64 < spanL nameZ x then .err 7 else if x.take (spanL nameZ x) ∈ wordsL then .tok 2 (spanL nameZ x) 0 [] else .tok 1 (spanL nameZ x) 0 []
def numL (x : List UInt8) : PR := match wholeL (x.take (spanL numZ x)) with
  | some v => .tok 3 (spanL numZ x) v []
  | none => match fracL (x.take (spanL numZ x)) with
    | some v => .tok 4 (spanL numZ x) v []
    | none => .err 2
def signNL (x : List UInt8) : Nat → Nat
  | 0 => 0
  | k + 1 => if x.take (k + 1) ∈ signsL then k + 1 else signNL x k
def signL (x : List UInt8) : PR := if signNL x (min 3 x.length) = 0 then .err 2 else .tok 7 (signNL x (min 3 x.length)) 0 []
def pieceL : List UInt8 → PR
  | [] => .err 2
  | c :: r => if letterZ (c.toNat : Int) then nameL (c :: r) else if digitZ (c.toNat : Int) then numL (c :: r) else if c.toNat = 39 then charL (c :: r) else if c.toNat = 34 then textL (c :: r) else signL (c :: r)
theorem ext_list (s : ByteArray) (n : Nat) : (s.extract 0 n).toList = s.data.toList.take n := by rw [ByteArray.toList_eq, Lib.extract_data]; simp
theorem signN_L (s : ByteArray) : ∀ k, signN s k = signNL s.data.toList k
  | 0 => rfl
  | k + 1 => by simp only [signN, signNL, ext_list, signN_L s k]
theorem name_p (s : ByteArray) (hs : s.size ≤ 1048576) (w : World) : Calls Tryz.prog 38 #[.string s] w fun e w' => e = .returned (prV s (nameL s.data.toList)) ∧ Fresh w w' := by
  have h := nameToken_any s (by omega) w
  rw [spanF_L nameZ nameZ_hi s s.size 0 (by omega) (by omega)] at h
  simp only [Nat.zero_add, List.drop_zero] at h
  refine h.mono (fun e w' ⟨p, q⟩ => ⟨?_, q⟩)
  rw [p]
  unfold nameR nameL
  rw [ext_list]
  split
  · rfl
  · split
    · rfl
    · rfl
theorem num_p (s : ByteArray) (hs : s.size ≤ 1048576) (w : World) (hT : Tabs w) : Calls Tryz.prog 40 #[.string s] w fun e w' => e = .returned (prV s (numL s.data.toList)) ∧ Fresh w w' := by
  refine (numTok_any s hs w hT).mono (fun e w' ⟨p, q⟩ => ⟨?_, q⟩)
  rw [p]
  unfold numR numL
  cases wholeL (s.data.toList.take (spanL numZ s.data.toList)) with
  | some v => rfl
  | none => cases fracL (s.data.toList.take (spanL numZ s.data.toList)) <;> rfl
theorem sign_p (s : ByteArray) (hs : s.size ≤ 1048576) (w : World) : Calls Tryz.prog 43 #[.string s] w fun e w' => e = .returned (prV s (signL s.data.toList)) ∧ Fresh w w' := by
  refine (signToken_any s (by omega) w).mono (fun e w' ⟨p, q⟩ => ⟨?_, q⟩)
  rw [p, signN_L, size_list]
  unfold signR signL
  split
  · rfl
  · rfl
theorem prV_tup (s : ByteArray) (P : PR) : ∃ (k : Int) (t : ByteArray) (b : Int) (d : ByteArray) (x : Int), prV s P = .tuple #[.agg #[.int .i64 k, .int .i64 0, .int .i64 0, .string t, .int .u64 b, .string d], .int .i64 x] := by
  cases P with
  | err e => exact ⟨0, ⟨#[]⟩, 0, ⟨#[]⟩, e, rfl⟩
  | tok k n b d => exact ⟨k, s.extract 0 n, b, ⟨d.toArray⟩, 0, rfl⟩
set_option maxRecDepth 100000 in
set_option maxHeartbeats 4000000 in
theorem piece_name (s : ByteArray) (r : Int) (h1 : letterZ r = true) (V : Value) (k : Int) (t : ByteArray) (b : Int) (d : ByteArray) (x : Int) (hV : V = .tuple #[.agg #[.int .i64 k, .int .i64 0, .int .i64 0, .string t, .int .u64 b, .string d], .int .i64 x])
    (hc : ∀ X, Tabs X → Calls Tryz.prog 38 #[.string s] X fun e w' => e = .returned V ∧ Fresh X w') (w : World) (hT : Tabs w) :
    Calls Tryz.prog 27 #[.string s, .int .i32 r] w fun e w' => e = .returned V ∧ Fresh w w' := by
  subst hV
  have A := Lib.hid hc
  have HT := Lib.hid hT
  have C7 : Hid (∀ X, Calls Tryz.prog 37 #[.int .i32 r] X fun e w' => e = .returned (.bool true) ∧ Fresh X w') := Lib.hid (fun X => by have := isLetter_any r X; rw [h1] at this; exact this)
  clear h1 hc hT
  have hf : Hid (Fresh w (w.alloc (.cells #[.int .i64 0, .int .i64 0, .int .i64 0, .string ⟨#[]⟩, .int .u64 0, .string ⟨#[]⟩] 32))) := Lib.hid ((Fresh.refl w).alloc _ _)
  go_enter Tryz.func27, Tryz.ntmps27
  go_wp2_with fail
  go_at_call 37; refine (C7.out _).mono ?_; rintro e w1 ⟨rfl, f1⟩
  have F1 := Lib.hid (hf.out.trans f1)
  have R1 : Hid (Blk w1 w.heap.size [.int .i64 0, .int .i64 0, .int .i64 0, .string ⟨#[]⟩, .int .u64 0, .string ⟨#[]⟩]) := Lib.hid ((Blk.new w #[.int .i64 0, .int .i64 0, .int .i64 0, .string ⟨#[]⟩, .int .u64 0, .string ⟨#[]⟩] 32).fresh f1)
  clear f1 hf
  go_wp2_with fail
  go_at_call 38; refine (A.out _ (HT.out.fresh F1.out)).mono ?_; rintro e w3 ⟨rfl, f3⟩
  have F3 := Lib.hid (F1.out.trans f3)
  have R3 := Lib.hid (R1.out.fresh f3)
  clear f3 F1 R1
  have r0 := R3.out.1 0 _ rfl
  have r1 := R3.out.1 1 _ rfl
  have r2 := R3.out.1 2 _ rfl
  have r3 := R3.out.1 3 _ rfl
  have r4 := R3.out.1 4 _ rfl
  have r5 := R3.out.1 5 _ rfl
  have rf := R3.out.2.1
  go_wp2_with fail
  refine bodyPost_ret (v := ?_) ?_ rfl ?_; rotate_left 1; focus (simp [results, Tryz.results27, go_sem, *]; (try rfl); done)
  exact ⟨rfl, (by repeat' first | with_reducible exact F3.out | with_reducible refine Fresh.setCell ?_ ?_ _ | (simp; done) | omega)⟩
set_option maxRecDepth 100000 in
set_option maxHeartbeats 4000000 in
theorem piece_num (s : ByteArray) (r : Int) (h1 : letterZ r = false) (h2 : digitZ r = true) (V : Value) (k : Int) (t : ByteArray) (b : Int) (d : ByteArray) (x : Int) (hV : V = .tuple #[.agg #[.int .i64 k, .int .i64 0, .int .i64 0, .string t, .int .u64 b, .string d], .int .i64 x])
    (hc : ∀ X, Tabs X → Calls Tryz.prog 40 #[.string s] X fun e w' => e = .returned V ∧ Fresh X w') (w : World) (hT : Tabs w) :
    Calls Tryz.prog 27 #[.string s, .int .i32 r] w fun e w' => e = .returned V ∧ Fresh w w' := by
  subst hV
  have A := Lib.hid hc
  have HT := Lib.hid hT
  have C7 : Hid (∀ X, Calls Tryz.prog 37 #[.int .i32 r] X fun e w' => e = .returned (.bool false) ∧ Fresh X w') := Lib.hid (fun X => by have := isLetter_any r X; rw [h1] at this; exact this)
  clear h1 hc hT
  have C9 : Hid (∀ X, Calls Tryz.prog 39 #[.int .i32 r] X fun e w' => e = .returned (.bool true) ∧ Fresh X w') := Lib.hid (fun X => by have := isDigit_any r X; rw [h2] at this; exact this)
  clear h2
  have hf : Hid (Fresh w (w.alloc (.cells #[.int .i64 0, .int .i64 0, .int .i64 0, .string ⟨#[]⟩, .int .u64 0, .string ⟨#[]⟩] 32))) := Lib.hid ((Fresh.refl w).alloc _ _)
  go_enter Tryz.func27, Tryz.ntmps27
  go_wp2_with fail
  go_at_call 37; refine (C7.out _).mono ?_; rintro e w1 ⟨rfl, f1⟩
  have F1 := Lib.hid (hf.out.trans f1)
  have R1 : Hid (Blk w1 w.heap.size [.int .i64 0, .int .i64 0, .int .i64 0, .string ⟨#[]⟩, .int .u64 0, .string ⟨#[]⟩]) := Lib.hid ((Blk.new w #[.int .i64 0, .int .i64 0, .int .i64 0, .string ⟨#[]⟩, .int .u64 0, .string ⟨#[]⟩] 32).fresh f1)
  clear f1 hf
  go_wp2_with fail
  go_at_call 39; refine (C9.out _).mono ?_; rintro e w2 ⟨rfl, f2⟩
  have F2 := Lib.hid (F1.out.trans f2)
  have R2 := Lib.hid (R1.out.fresh f2)
  clear f2 F1 R1
  go_wp2_with fail
  go_at_call 40; refine (A.out _ (HT.out.fresh F2.out)).mono ?_; rintro e w3 ⟨rfl, f3⟩
  have F3 := Lib.hid (F2.out.trans f3)
  have R3 := Lib.hid (R2.out.fresh f3)
  clear f3 F2 R2
  have r0 := R3.out.1 0 _ rfl
  have r1 := R3.out.1 1 _ rfl
  have r2 := R3.out.1 2 _ rfl
  have r3 := R3.out.1 3 _ rfl
  have r4 := R3.out.1 4 _ rfl
  have r5 := R3.out.1 5 _ rfl
  have rf := R3.out.2.1
  go_wp2_with fail
  refine bodyPost_ret (v := ?_) ?_ rfl ?_; rotate_left 1; focus (simp [results, Tryz.results27, go_sem, *]; (try rfl); done)
  exact ⟨rfl, (by repeat' first | with_reducible exact F3.out | with_reducible refine Fresh.setCell ?_ ?_ _ | (simp; done) | omega)⟩
set_option maxRecDepth 100000 in
set_option maxHeartbeats 4000000 in
theorem piece_char (s : ByteArray) (r : Int) (h1 : letterZ r = false) (h2 : digitZ r = false) (h3 : (r == 39) = true) (V : Value) (k : Int) (t : ByteArray) (b : Int) (d : ByteArray) (x : Int) (hV : V = .tuple #[.agg #[.int .i64 k, .int .i64 0, .int .i64 0, .string t, .int .u64 b, .string d], .int .i64 x])
    (hc : ∀ X, Tabs X → Calls Tryz.prog 41 #[.string s] X fun e w' => e = .returned V ∧ Fresh X w') (w : World) (hT : Tabs w) :
    Calls Tryz.prog 27 #[.string s, .int .i32 r] w fun e w' => e = .returned V ∧ Fresh w w' := by
  subst hV
  have A := Lib.hid hc
  have HT := Lib.hid hT
  have C7 : Hid (∀ X, Calls Tryz.prog 37 #[.int .i32 r] X fun e w' => e = .returned (.bool false) ∧ Fresh X w') := Lib.hid (fun X => by have := isLetter_any r X; rw [h1] at this; exact this)
  clear h1 hc hT
  have C9 : Hid (∀ X, Calls Tryz.prog 39 #[.int .i32 r] X fun e w' => e = .returned (.bool false) ∧ Fresh X w') := Lib.hid (fun X => by have := isDigit_any r X; rw [h2] at this; exact this)
  clear h2
  have hf : Hid (Fresh w (w.alloc (.cells #[.int .i64 0, .int .i64 0, .int .i64 0, .string ⟨#[]⟩, .int .u64 0, .string ⟨#[]⟩] 32))) := Lib.hid ((Fresh.refl w).alloc _ _)
  go_enter Tryz.func27, Tryz.ntmps27
  go_wp2_with fail
  go_at_call 37; refine (C7.out _).mono ?_; rintro e w1 ⟨rfl, f1⟩
  have F1 := Lib.hid (hf.out.trans f1)
  have R1 : Hid (Blk w1 w.heap.size [.int .i64 0, .int .i64 0, .int .i64 0, .string ⟨#[]⟩, .int .u64 0, .string ⟨#[]⟩]) := Lib.hid ((Blk.new w #[.int .i64 0, .int .i64 0, .int .i64 0, .string ⟨#[]⟩, .int .u64 0, .string ⟨#[]⟩] 32).fresh f1)
  clear f1 hf
  go_wp2_with fail
  go_at_call 39; refine (C9.out _).mono ?_; rintro e w2 ⟨rfl, f2⟩
  have F2 := Lib.hid (F1.out.trans f2)
  have R2 := Lib.hid (R1.out.fresh f2)
  clear f2 F1 R1
  go_wp2_with fail
  go_at_call 41; refine (A.out _ (HT.out.fresh F2.out)).mono ?_; rintro e w3 ⟨rfl, f3⟩
  have F3 := Lib.hid (F2.out.trans f3)
  have R3 := Lib.hid (R2.out.fresh f3)
  clear f3 F2 R2
  have r0 := R3.out.1 0 _ rfl
  have r1 := R3.out.1 1 _ rfl
  have r2 := R3.out.1 2 _ rfl
  have r3 := R3.out.1 3 _ rfl
  have r4 := R3.out.1 4 _ rfl
  have r5 := R3.out.1 5 _ rfl
  have rf := R3.out.2.1
  go_wp2_with fail
  refine bodyPost_ret (v := ?_) ?_ rfl ?_; rotate_left 1; focus (simp [results, Tryz.results27, go_sem, *]; (try rfl); done)
  exact ⟨rfl, (by repeat' first | with_reducible exact F3.out | with_reducible refine Fresh.setCell ?_ ?_ _ | (simp; done) | omega)⟩
set_option maxRecDepth 100000 in
set_option maxHeartbeats 4000000 in
theorem piece_text (s : ByteArray) (r : Int) (h1 : letterZ r = false) (h2 : digitZ r = false) (h3 : (r == 39) = false) (h4 : (r == 34) = true) (V : Value) (k : Int) (t : ByteArray) (b : Int) (d : ByteArray) (x : Int) (hV : V = .tuple #[.agg #[.int .i64 k, .int .i64 0, .int .i64 0, .string t, .int .u64 b, .string d], .int .i64 x])
    (hc : ∀ X, Tabs X → Calls Tryz.prog 42 #[.string s] X fun e w' => e = .returned V ∧ Fresh X w') (w : World) (hT : Tabs w) :
    Calls Tryz.prog 27 #[.string s, .int .i32 r] w fun e w' => e = .returned V ∧ Fresh w w' := by
  subst hV
  have A := Lib.hid hc
  have HT := Lib.hid hT
  have C7 : Hid (∀ X, Calls Tryz.prog 37 #[.int .i32 r] X fun e w' => e = .returned (.bool false) ∧ Fresh X w') := Lib.hid (fun X => by have := isLetter_any r X; rw [h1] at this; exact this)
  clear h1 hc hT
  have C9 : Hid (∀ X, Calls Tryz.prog 39 #[.int .i32 r] X fun e w' => e = .returned (.bool false) ∧ Fresh X w') := Lib.hid (fun X => by have := isDigit_any r X; rw [h2] at this; exact this)
  clear h2
  have hf : Hid (Fresh w (w.alloc (.cells #[.int .i64 0, .int .i64 0, .int .i64 0, .string ⟨#[]⟩, .int .u64 0, .string ⟨#[]⟩] 32))) := Lib.hid ((Fresh.refl w).alloc _ _)
  go_enter Tryz.func27, Tryz.ntmps27
  go_wp2_with fail
  go_at_call 37; refine (C7.out _).mono ?_; rintro e w1 ⟨rfl, f1⟩
  have F1 := Lib.hid (hf.out.trans f1)
  have R1 : Hid (Blk w1 w.heap.size [.int .i64 0, .int .i64 0, .int .i64 0, .string ⟨#[]⟩, .int .u64 0, .string ⟨#[]⟩]) := Lib.hid ((Blk.new w #[.int .i64 0, .int .i64 0, .int .i64 0, .string ⟨#[]⟩, .int .u64 0, .string ⟨#[]⟩] 32).fresh f1)
  clear f1 hf
  go_wp2_with fail
  go_at_call 39; refine (C9.out _).mono ?_; rintro e w2 ⟨rfl, f2⟩
  have F2 := Lib.hid (F1.out.trans f2)
  have R2 := Lib.hid (R1.out.fresh f2)
  clear f2 F1 R1
  go_wp2_with fail
  go_at_call 42; refine (A.out _ (HT.out.fresh F2.out)).mono ?_; rintro e w3 ⟨rfl, f3⟩
  have F3 := Lib.hid (F2.out.trans f3)
  have R3 := Lib.hid (R2.out.fresh f3)
  clear f3 F2 R2
  have r0 := R3.out.1 0 _ rfl
  have r1 := R3.out.1 1 _ rfl
  have r2 := R3.out.1 2 _ rfl
  have r3 := R3.out.1 3 _ rfl
  have r4 := R3.out.1 4 _ rfl
  have r5 := R3.out.1 5 _ rfl
  have rf := R3.out.2.1
  go_wp2_with fail
  refine bodyPost_ret (v := ?_) ?_ rfl ?_; rotate_left 1; focus (simp [results, Tryz.results27, go_sem, *]; (try rfl); done)
  exact ⟨rfl, (by repeat' first | with_reducible exact F3.out | with_reducible refine Fresh.setCell ?_ ?_ _ | (simp; done) | omega)⟩
set_option maxRecDepth 100000 in
set_option maxHeartbeats 4000000 in
theorem piece_sign (s : ByteArray) (r : Int) (h1 : letterZ r = false) (h2 : digitZ r = false) (h3 : (r == 39) = false) (h4 : (r == 34) = false) (V : Value) (k : Int) (t : ByteArray) (b : Int) (d : ByteArray) (x : Int) (hV : V = .tuple #[.agg #[.int .i64 k, .int .i64 0, .int .i64 0, .string t, .int .u64 b, .string d], .int .i64 x])
    (hc : ∀ X, Tabs X → Calls Tryz.prog 43 #[.string s] X fun e w' => e = .returned V ∧ Fresh X w') (w : World) (hT : Tabs w) :
    Calls Tryz.prog 27 #[.string s, .int .i32 r] w fun e w' => e = .returned V ∧ Fresh w w' := by
  subst hV
  have A := Lib.hid hc
  have HT := Lib.hid hT
  have C7 : Hid (∀ X, Calls Tryz.prog 37 #[.int .i32 r] X fun e w' => e = .returned (.bool false) ∧ Fresh X w') := Lib.hid (fun X => by have := isLetter_any r X; rw [h1] at this; exact this)
  clear h1 hc hT
  have C9 : Hid (∀ X, Calls Tryz.prog 39 #[.int .i32 r] X fun e w' => e = .returned (.bool false) ∧ Fresh X w') := Lib.hid (fun X => by have := isDigit_any r X; rw [h2] at this; exact this)
  clear h2
  have hf : Hid (Fresh w (w.alloc (.cells #[.int .i64 0, .int .i64 0, .int .i64 0, .string ⟨#[]⟩, .int .u64 0, .string ⟨#[]⟩] 32))) := Lib.hid ((Fresh.refl w).alloc _ _)
  go_enter Tryz.func27, Tryz.ntmps27
  go_wp2_with fail
  go_at_call 37; refine (C7.out _).mono ?_; rintro e w1 ⟨rfl, f1⟩
  have F1 := Lib.hid (hf.out.trans f1)
  have R1 : Hid (Blk w1 w.heap.size [.int .i64 0, .int .i64 0, .int .i64 0, .string ⟨#[]⟩, .int .u64 0, .string ⟨#[]⟩]) := Lib.hid ((Blk.new w #[.int .i64 0, .int .i64 0, .int .i64 0, .string ⟨#[]⟩, .int .u64 0, .string ⟨#[]⟩] 32).fresh f1)
  clear f1 hf
  go_wp2_with fail
  go_at_call 39; refine (C9.out _).mono ?_; rintro e w2 ⟨rfl, f2⟩
  have F2 := Lib.hid (F1.out.trans f2)
  have R2 := Lib.hid (R1.out.fresh f2)
  clear f2 F1 R1
  go_wp2_with fail
  go_at_call 43; refine (A.out _ (HT.out.fresh F2.out)).mono ?_; rintro e w3 ⟨rfl, f3⟩
  have F3 := Lib.hid (F2.out.trans f3)
  have R3 := Lib.hid (R2.out.fresh f3)
  clear f3 F2 R2
  have r0 := R3.out.1 0 _ rfl
  have r1 := R3.out.1 1 _ rfl
  have r2 := R3.out.1 2 _ rfl
  have r3 := R3.out.1 3 _ rfl
  have r4 := R3.out.1 4 _ rfl
  have r5 := R3.out.1 5 _ rfl
  have rf := R3.out.2.1
  go_wp2_with fail
  refine bodyPost_ret (v := ?_) ?_ rfl ?_; rotate_left 1; focus (simp [results, Tryz.results27, go_sem, *]; (try rfl); done)
  exact ⟨rfl, (by repeat' first | with_reducible exact F3.out | with_reducible refine Fresh.setCell ?_ ?_ _ | (simp; done) | omega)⟩
theorem piece_any (s : ByteArray) (h1 : 1 ≤ s.size) (hs : s.size ≤ 1048576) (w : World) (hT : Tabs w) :
    Calls Tryz.prog 27 #[.string s, .int .i32 (Utf8.decode s 0).1] w fun e w' => e = .returned (prV s (pieceL s.data.toList)) ∧ Fresh w w' := by
  have hl : s.data.toList = s.data.toList.getD 0 0 :: s.data.toList.drop 1 := by
    have := drop_cons s.data.toList 0 (by rw [← size_list]; omega)
    simpa using this
  have hp : pieceL s.data.toList = if letterZ ((s.data.toList.getD 0 0).toNat : Int) then nameL s.data.toList else if digitZ ((s.data.toList.getD 0 0).toNat : Int) then numL s.data.toList else if (s.data.toList.getD 0 0).toNat = 39 then charL s.data.toList else if (s.data.toList.getD 0 0).toNat = 34 then textL s.data.toList else signL s.data.toList := by
    generalize s.data.toList.getD 0 0 = c at *
    generalize s.data.toList.drop 1 = r at *
    rw [hl]
    rfl
  rw [hp]
  clear hl hp
  obtain ⟨r, hr⟩ : ∃ r : Int, r = ((Utf8.decode s 0).1 : Int) := ⟨_, rfl⟩
  rw [← hr]
  have key : (letterZ r = letterZ ((s.data.toList.getD 0 0).toNat : Int)) ∧ (digitZ r = digitZ ((s.data.toList.getD 0 0).toNat : Int)) ∧ ((r == 39) = decide ((s.data.toList.getD 0 0).toNat = 39)) ∧ ((r == 34) = decide ((s.data.toList.getD 0 0).toNat = 34)) := by
    by_cases hb : (s.data.toList.getD 0 0).toNat < 128
    · rw [dec_lo s 0 hb] at hr
      subst hr
      refine ⟨rfl, rfl, ?_, ?_⟩
      · rw [Bool.eq_iff_iff]; simp only [beq_iff_eq, decide_eq_true_eq]; omega
      · rw [Bool.eq_iff_iff]; simp only [beq_iff_eq, decide_eq_true_eq]; omega
    · have hd := (dec_hi s 0 (by omega) hb).1
      refine ⟨by rw [letterZ_hi r (by omega), letterZ_hi _ (by omega)], by rw [digitZ_hi r (by omega), digitZ_hi _ (by omega)], ?_, ?_⟩
      · rw [Bool.eq_iff_iff]; simp only [beq_iff_eq, decide_eq_true_eq]; omega
      · rw [Bool.eq_iff_iff]; simp only [beq_iff_eq, decide_eq_true_eq]; omega
  clear hr
  generalize s.data.toList.getD 0 0 = c at *
  obtain ⟨k1, k2, k3, k4⟩ := key
  cases c1 : letterZ (c.toNat : Int) with
  | true =>
    rw [if_pos rfl]
    obtain ⟨k, t, b, d, x, hV⟩ := prV_tup s (nameL s.data.toList)
    exact piece_name s r (k1.trans c1) _ k t b d x hV (fun X _ => name_p s hs X) w hT
  | false =>
    rw [if_neg (by decide)]
    cases c2 : digitZ (c.toNat : Int) with
    | true =>
      rw [if_pos rfl]
      obtain ⟨k, t, b, d, x, hV⟩ := prV_tup s (numL s.data.toList)
      exact piece_num s r (k1.trans c1) (k2.trans c2) _ k t b d x hV (fun X hX => num_p s hs X hX) w hT
    | false =>
      rw [if_neg (by decide)]
      by_cases c3 : c.toNat = 39
      · rw [if_pos c3]
        obtain ⟨k, t, b, d, x, hV⟩ := prV_tup s (charL s.data.toList)
        exact piece_char s r (k1.trans c1) (k2.trans c2) (by rw [k3]; simpa using c3) _ k t b d x hV (fun X hX => char_any s h1 hs X hX) w hT
      · rw [if_neg c3]
        by_cases c4 : c.toNat = 34
        · rw [if_pos c4]
          obtain ⟨k, t, b, d, x, hV⟩ := prV_tup s (textL s.data.toList)
          exact piece_text s r (k1.trans c1) (k2.trans c2) (by rw [k3]; simpa using c3) (by rw [k4]; simpa using c4) _ k t b d x hV (fun X hX => text_any s h1 hs X hX) w hT
        · rw [if_neg c4]
          obtain ⟨k, t, b, d, x, hV⟩ := prV_tup s (signL s.data.toList)
          exact piece_sign s r (k1.trans c1) (k2.trans c2) (by rw [k3]; simpa using c3) (by rw [k4]; simpa using c4) _ k t b d x hV (fun X hX => sign_p s hs X) w hT
end Go.Proofs.YtcmfmfgedhfaeaaGreatDoor
