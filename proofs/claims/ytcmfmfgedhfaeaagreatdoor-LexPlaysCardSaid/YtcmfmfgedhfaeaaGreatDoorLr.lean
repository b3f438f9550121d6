/- quoted: how many bytes up to the closing quote. -/
import Derived.Test.YtcmfmfgedhfaeaaGreatDoorLq
namespace Go.Proofs.YtcmfmfgedhfaeaaGreatDoor
set_option linter.unusedSimpArgs false
set_option linter.unusedVariables false
open Go.RowKit

def quoV : Option Nat → Value
  | some n => .tuple #[.int .i64 n, .bool true]
  | none => .tuple #[.int .i64 0, .bool false]
set_option maxRecDepth 100000 in
set_option maxHeartbeats 4000000 in
theorem quoted_end (s : ByteArray) (q : Int) (n E : Nat) (h1 : 1 ≤ (s.size : Int)) (hE : 1 + (n : Int) = (E : Int)) (hs : (s.size : Int) ≤ 1048576) (hle : (E : Int) ≤ (s.size : Int))
    (h53 : ∀ (a b : Nat) X, a ≠ b → X.cell? ⟨a, 0, none⟩ = some (.int .i32 q) → Blk X b [.bool false] → Calls Tryz.prog 53 #[.string (s.extract 1 s.size), .func (.func 70) #[] #[.pointer (some ⟨a, 0, none⟩), .pointer (some ⟨b, 0, none⟩)]] X fun e w' => e = .returned (.int .i64 n) ∧ Kq b X w') (w : World)
    (heq : ((E : Int) == (s.size : Int)) = true) :
    Calls Tryz.prog 58 #[.string s, .int .i32 q] w fun e w' => e = .returned (quoV none) ∧ Fresh w w' := by
  have C := Lib.hid h53
  clear h53
  go_enter Tryz.func58, Tryz.ntmps58
  go_upto_region 2 with fail
  have HF : Hid (Fresh w ((w.alloc (.cells #[.int .i32 q] 21)).alloc (.cells #[.bool false] 4))) := Lib.hid (((Fresh.refl w).alloc _ _).alloc _ _)
  have HB : Hid (Blk ((w.alloc (.cells #[.int .i32 q] 21)).alloc (.cells #[.bool false] 4)) (w.heap.size + 1) [.bool false]) := Lib.hid (by
    have := Blk.new (w.alloc (.cells #[.int .i32 q] 21)) #[.bool false] 4
    simpa using this)
  have HA : Hid (((w.alloc (.cells #[.int .i32 q] 21)).alloc (.cells #[.bool false] 4)).cell? ⟨w.heap.size, 0, none⟩ = some (.int .i32 q)) := Lib.hid (((Fresh.refl _).alloc _ _).at' ((Blk.new w #[.int .i32 q] 21).1 0 _ rfl))
  have HN : Hid (w.heap.size ≠ w.heap.size + 1 ∧ w.heap.size ≤ w.heap.size + 1) := Lib.hid ⟨by omega, by omega⟩
  generalize (w.alloc (.cells #[.int .i32 q] 21)).alloc (.cells #[.bool false] 4) = W at *
  generalize hA : w.heap.size = A at *
  generalize hBB : A + 1 = B at *
  clear hBB
  have HW := Lib.hid hA
  clear hA
  go_wp2_with fail
  go_at_call 53; refine (C.out _ _ _ HN.out.1 HA.out HB.out).mono ?_; rintro e w1 ⟨rfl, f1⟩
  have HA1 := f1.cell HN.out.1 HA.out
  have HF1 := Lib.hid (f1.fresh HF.out (by rw [HW.out]; exact HN.out.2))
  clear f1 HA HB HF
  go_wp2_with fail
  go_quiet (fail)
  go_wp2_with fail
  go_ret2
  exact ⟨rfl, HF1.out.drewN _⟩
set_option maxRecDepth 100000 in
set_option maxHeartbeats 4000000 in
theorem quoted_no (s : ByteArray) (q : Int) (n E : Nat) (h1 : 1 ≤ (s.size : Int)) (hE : 1 + (n : Int) = (E : Int)) (hs : (s.size : Int) ≤ 1048576) (hle : (E : Int) ≤ (s.size : Int))
    (h53 : ∀ (a b : Nat) X, a ≠ b → X.cell? ⟨a, 0, none⟩ = some (.int .i32 q) → Blk X b [.bool false] → Calls Tryz.prog 53 #[.string (s.extract 1 s.size), .func (.func 70) #[] #[.pointer (some ⟨a, 0, none⟩), .pointer (some ⟨b, 0, none⟩)]] X fun e w' => e = .returned (.int .i64 n) ∧ Kq b X w') (w : World)
    (hne : ((E : Int) == (s.size : Int)) = false) (hlt : E < s.size) (hlt2 : (E : Int) < (s.size : Int)) (hb : (wrap32 ((s[E]'hlt).toNat : Int) != q) = true) :
    Calls Tryz.prog 58 #[.string s, .int .i32 q] w fun e w' => e = .returned (quoV none) ∧ Fresh w w' := by
  have C := Lib.hid h53
  clear h53
  go_enter Tryz.func58, Tryz.ntmps58
  go_upto_region 2 with fail
  have HF : Hid (Fresh w ((w.alloc (.cells #[.int .i32 q] 21)).alloc (.cells #[.bool false] 4))) := Lib.hid (((Fresh.refl w).alloc _ _).alloc _ _)
  have HB : Hid (Blk ((w.alloc (.cells #[.int .i32 q] 21)).alloc (.cells #[.bool false] 4)) (w.heap.size + 1) [.bool false]) := Lib.hid (by
    have := Blk.new (w.alloc (.cells #[.int .i32 q] 21)) #[.bool false] 4
    simpa using this)
  have HA : Hid (((w.alloc (.cells #[.int .i32 q] 21)).alloc (.cells #[.bool false] 4)).cell? ⟨w.heap.size, 0, none⟩ = some (.int .i32 q)) := Lib.hid (((Fresh.refl _).alloc _ _).at' ((Blk.new w #[.int .i32 q] 21).1 0 _ rfl))
  have HN : Hid (w.heap.size ≠ w.heap.size + 1 ∧ w.heap.size ≤ w.heap.size + 1) := Lib.hid ⟨by omega, by omega⟩
  generalize (w.alloc (.cells #[.int .i32 q] 21)).alloc (.cells #[.bool false] 4) = W at *
  generalize hA : w.heap.size = A at *
  generalize hBB : A + 1 = B at *
  clear hBB
  have HW := Lib.hid hA
  clear hA
  go_wp2_with fail
  go_at_call 53; refine (C.out _ _ _ HN.out.1 HA.out HB.out).mono ?_; rintro e w1 ⟨rfl, f1⟩
  have HA1 := f1.cell HN.out.1 HA.out
  have HF1 := Lib.hid (f1.fresh HF.out (by rw [HW.out]; exact HN.out.2))
  clear f1 HA HB HF
  go_wp2_with fail
  go_quiet (fail)
  go_wp2_with fail
  go_ret2
  exact ⟨rfl, HF1.out.drewN _⟩
set_option maxRecDepth 100000 in
set_option maxHeartbeats 4000000 in
theorem quoted_yes (s : ByteArray) (q : Int) (n E : Nat) (h1 : 1 ≤ (s.size : Int)) (hE : 1 + (n : Int) = (E : Int)) (hs : (s.size : Int) ≤ 1048576) (hle : (E : Int) ≤ (s.size : Int))
    (h53 : ∀ (a b : Nat) X, a ≠ b → X.cell? ⟨a, 0, none⟩ = some (.int .i32 q) → Blk X b [.bool false] → Calls Tryz.prog 53 #[.string (s.extract 1 s.size), .func (.func 70) #[] #[.pointer (some ⟨a, 0, none⟩), .pointer (some ⟨b, 0, none⟩)]] X fun e w' => e = .returned (.int .i64 n) ∧ Kq b X w') (w : World)
    (hne : ((E : Int) == (s.size : Int)) = false) (hlt : E < s.size) (hlt2 : (E : Int) < (s.size : Int)) (hb : (wrap32 ((s[E]'hlt).toNat : Int) != q) = false) :
    Calls Tryz.prog 58 #[.string s, .int .i32 q] w fun e w' => e = .returned (quoV (some (E + 1))) ∧ Fresh w w' := by
  have C := Lib.hid h53
  clear h53
  go_enter Tryz.func58, Tryz.ntmps58
  go_upto_region 2 with fail
  have HF : Hid (Fresh w ((w.alloc (.cells #[.int .i32 q] 21)).alloc (.cells #[.bool false] 4))) := Lib.hid (((Fresh.refl w).alloc _ _).alloc _ _)
  have HB : Hid (Blk ((w.alloc (.cells #[.int .i32 q] 21)).alloc (.cells #[.bool false] 4)) (w.heap.size + 1) [.bool false]) := Lib.hid (by
    have := Blk.new (w.alloc (.cells #[.int .i32 q] 21)) #[.bool false] 4
    simpa using this)
  have HA : Hid (((w.alloc (.cells #[.int .i32 q] 21)).alloc (.cells #[.bool false] 4)).cell? ⟨w.heap.size, 0, none⟩ = some (.int .i32 q)) := Lib.hid (((Fresh.refl _).alloc _ _).at' ((Blk.new w #[.int .i32 q] 21).1 0 _ rfl))
  have HN : Hid (w.heap.size ≠ w.heap.size + 1 ∧ w.heap.size ≤ w.heap.size + 1) := Lib.hid ⟨by omega, by omega⟩
  generalize (w.alloc (.cells #[.int .i32 q] 21)).alloc (.cells #[.bool false] 4) = W at *
  generalize hA : w.heap.size = A at *
  generalize hBB : A + 1 = B at *
  clear hBB
  have HW := Lib.hid hA
  clear hA
  go_wp2_with fail
  go_at_call 53; refine (C.out _ _ _ HN.out.1 HA.out HB.out).mono ?_; rintro e w1 ⟨rfl, f1⟩
  have HA1 := f1.cell HN.out.1 HA.out
  have HF1 := Lib.hid (f1.fresh HF.out (by rw [HW.out]; exact HN.out.2))
  clear f1 HA HB HF
  go_wp2_with fail
  go_quiet (fail)
  go_wp2_with fail
  go_ret2
  exact ⟨rfl, HF1.out.drewN _⟩
theorem quoted_any (s : ByteArray) (q : UInt8) (hq : q.toNat < 128) (h1 : 1 ≤ s.size) (hs : s.size ≤ 1048576) (w : World) :
    Calls Tryz.prog 58 #[.string s, .int .i32 (q.toNat : Int)] w fun e w' => e = .returned (quoV (quotL q s.data.toList)) ∧ Fresh w w' := by
  have hsz := size_list s
  have hx : (s.extract 1 s.size).data.toList = s.data.toList.drop 1 := Lib.extract_to_end s 1
  have hxs : (s.extract 1 s.size).size = s.size - 1 := by simp [ByteArray.size_extract]
  have h53 : ∀ (a b : Nat) X, a ≠ b → X.cell? ⟨a, 0, none⟩ = some (.int .i32 (q.toNat : Int)) → Blk X b [.bool false] → Calls Tryz.prog 53 #[.string (s.extract 1 s.size), .func (.func 70) #[] #[.pointer (some ⟨a, 0, none⟩), .pointer (some ⟨b, 0, none⟩)]] X fun e w' => e = .returned (.int .i64 (quoL (q.toNat : Int) false (s.data.toList.drop 1) : Nat)) ∧ Kq b X w' := fun a b X hab ha hb => by
    have := spanQ_any (s.extract 1 s.size) (q.toNat : Int) a b X hab ha hb
    rw [quoF_L _ (by omega) _ _ _ _ (by omega) (by omega), hx] at this
    simpa using this
  have hle : quoL (q.toNat : Int) false (s.data.toList.drop 1) ≤ s.size - 1 := by
    have := quoL_le (q.toNat : Int) (s.data.toList.drop 1) false
    rw [List.length_drop, ← hsz] at this
    exact this
  unfold quotL
  simp only [← hsz]
  generalize quoL (q.toNat : Int) false (s.data.toList.drop 1) = n at *
  by_cases c1 : 1 + n = s.size
  · rw [if_pos (Or.inl c1)]
    exact quoted_end s _ n (1 + n) (by omega) (by push_cast; rfl) (by omega) (by omega) h53 w (by simp; omega)
  · have hlt : 1 + n < s.size := by omega
    by_cases c2 : s.data.toList.getD (1 + n) 0 ≠ q
    · rw [if_pos (Or.inr c2)]
      rw [getD_at _ _ hlt] at c2
      refine quoted_no s _ n (1 + n) (by omega) (by push_cast; rfl) (by omega) (by omega) h53 w (by simp only [beq_eq_false_iff_ne]; omega) hlt (by omega) ?_
      have h256 := (s[1 + n]'hlt).toNat_lt
      have : (s[1 + n]'hlt).toNat ≠ q.toNat := fun h => c2 (UInt8.toNat_inj.1 h)
      simp only [bne_iff_ne, ne_eq]
      unfold wrap32
      omega
    · have c3 : s[1 + n]'hlt = q := by rw [getD_at _ _ hlt] at c2; exact Classical.not_not.1 c2
      rw [if_neg (fun h => h.elim c1 c2)]
      refine quoted_yes s _ n (1 + n) (by omega) (by push_cast; rfl) (by omega) (by omega) h53 w (by simp only [beq_eq_false_iff_ne]; omega) hlt (by omega) ?_
      rw [c3]
      simp only [bne_eq_false_iff_eq]
      unfold wrap32
      omega
end Go.Proofs.YtcmfmfgedhfaeaaGreatDoor
