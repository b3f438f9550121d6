/- What the document's own Eval1 answers, operation by operation: mach's answers. -/
import Derived.Test.YtopnbdblgfjnpaaOd
namespace Go.Proofs.Ytopnbdblgfjnpaa
set_option linter.unusedSimpArgs false
set_option linter.unusedVariables false
open Ieee Go.RowKit
attribute [local irreducible] units bigP
attribute [local go_sem ↓] run_f64bits run_f64from

theorem shapeR_lit (o a b c : Int) (h : shapeL o = (a, b, c)) (w : World) :
    Calls Try.prog 21 #[.int .i64 o] w fun e w' => e = .returned (.tuple #[.int .i64 a, .int .i64 b, .int .i64 c]) ∧ w = w' := by
  have := shapeR_any o w
  rw [h] at this
  exact this

theorem word_le_num (s : Bool) (r : Nat) (h : r ≤ 9218868437227405312) : nanL (double.word s r) = false := by
  have w2 : double.binade = 4503599627370496 := by decide
  have w3 : double.infRung = 9218868437227405312 := by decide
  have w4 : double.leastPlace = -1074 := by decide
  have hf : FloatKind.f64.format = double := rfl
  obtain ⟨p1, p2⟩ := word_parts s r (by omega)
  unfold nanL
  rw [hf]
  have key : ∀ x, (∃ m e, double.read x = .number s m e ∧ -1074 ≤ e) ∨ double.read x = .infinity s → (double.order x x != some .eq) = false := by
    intro x hx
    rcases hx with ⟨m, e, hr, he⟩ | hr
    · rw [order_num hr hr he he]
      simp [compare, compareOfLessAndEq]
    · unfold Format.order
      rw [hr]
      cases s <;> decide
  refine key _ ?_
  unfold Format.read
  rw [p1, p2, w2, w3, w4]
  dsimp only
  by_cases a : r < 4503599627370496
  · rw [if_pos a]; exact Or.inl ⟨_, _, rfl, by omega⟩
  · rw [if_neg a]
    by_cases b : r < 9218868437227405312
    · rw [if_pos b]; exact Or.inl ⟨_, _, rfl, by omega⟩
    · rw [if_neg b, if_pos (by omega)]; exact Or.inr rfl
theorem near_num (s : Bool) (m : Nat) (e : Int) : nanL (double.nearest s m e) = false := by
  have w3 : double.infRung = 9218868437227405312 := by decide
  unfold Format.nearest
  split
  · exact word_le_num s 0 (by decide)
  · dsimp only
    rw [w3]
    exact word_le_num s _ (Nat.min_le_right _ _)
theorem dbl_of (n : Int) : dblBitsL (floatOfInt .f64 n) = (floatOfInt .f64 n : Int) := by
  have h : nanL (floatOfInt .f64 n) = false := near_num (decide (n < 0)) n.natAbs 0
  simp [dblBitsL, h]
theorem wrap32_mod (n : Int) : wrap32 (n % 4294967296) = wrap32 n := by unfold wrap32; omega
theorem v1 (n : Int) : IntKind.u64.wrap (-(n % 4294967296) % 4294967296) = wrap32 (-wrap32 (n % 4294967296)) % 4294967296 := by
  simp [wrap32, IntKind.wrap, IntKind.bits, IntKind.signed]; omega
theorem v80 (n : Int) : IntKind.i8.wrap n % 4294967296 = wrap32 (IntKind.i8.wrap (n % 4294967296)) % 4294967296 := by
  simp [wrap32, IntKind.wrap, IntKind.bits, IntKind.signed]
theorem v82 (n : Int) : IntKind.i16.wrap n % 4294967296 = wrap32 (IntKind.i16.wrap (n % 4294967296)) % 4294967296 := by
  simp [wrap32, IntKind.wrap, IntKind.bits, IntKind.signed]
theorem v83 (n : Int) : IntKind.u64.wrap (IntKind.u16.wrap n) = wrap32 (IntKind.u16.wrap (n % 4294967296)) % 4294967296 := by
  simp [wrap32, IntKind.wrap, IntKind.bits, IntKind.signed]; omega
theorem v84 (n : Int) : IntKind.u64.wrap (wrap32 n) = IntKind.u64.wrap (wrap64 (wrap32 (n % 4294967296))) := by
  simp [wrap32, wrap64, IntKind.wrap, IntKind.bits, IntKind.signed]
theorem v85 (n : Int) : n % 4294967296 = IntKind.u64.wrap (n % 4294967296) := by
  simp [wrap32, wrap64, IntKind.wrap, IntKind.bits, IntKind.signed]; omega
theorem v31 (n : Int) : IntKind.u64.wrap (-n) = IntKind.u64.wrap (wrap64 (-wrap64 n)) := by
  simp [wrap32, wrap64, IntKind.wrap, IntKind.bits, IntKind.signed]; omega
theorem v86 (n : Int) : n % 4294967296 = wrap32 (n % 4294967296) % 4294967296 := by
  simp [wrap32]
theorem not_bits {b : Nat} (x y : Int) (h : BitVec.ofInt b x = BitVec.ofInt b y) : ((BitVec.ofInt b x).toNat : Int) = (BitVec.ofInt b y).toNat := by rw [h]
theorem v32 (n : Int) : bits BinOp.xor IntKind.u64 IntKind.u64.max n = IntKind.u64.wrap (bits BinOp.xor IntKind.i64 (-1) (wrap64 n)) := by
  have e1 : BitVec.ofInt 64 IntKind.u64.max = BitVec.ofInt 64 (-1) := by decide
  have e2 : BitVec.ofInt 64 (wrap64 n) = BitVec.ofInt 64 n := by
    apply BitVec.eq_of_toNat_eq
    rw [BitVec.toNat_ofInt, BitVec.toNat_ofInt]
    unfold wrap64
    congr 1
    omega
  show IntKind.u64.wrap ((BitVec.ofInt 64 IntKind.u64.max ^^^ BitVec.ofInt 64 n).toNat : Int) = IntKind.u64.wrap (IntKind.i64.wrap ((BitVec.ofInt 64 (-1) ^^^ BitVec.ofInt 64 (wrap64 n)).toNat : Int))
  rw [e1, e2]
  generalize ((BitVec.ofInt 64 (-1) ^^^ BitVec.ofInt 64 n).toNat : Int) = z
  simp [IntKind.wrap, IntKind.bits, IntKind.signed]; omega
theorem v2 (n : Int) : IntKind.u64.wrap (bits BinOp.xor IntKind.u32 IntKind.u32.max (n % 4294967296)) = bits BinOp.xor IntKind.i32 (-1) (wrap32 (n % 4294967296)) % 4294967296 := by
  have e1 : BitVec.ofInt 32 IntKind.u32.max = BitVec.ofInt 32 (-1) := by decide
  have e2 : BitVec.ofInt 32 (wrap32 (n % 4294967296)) = BitVec.ofInt 32 (n % 4294967296) := by
    apply BitVec.eq_of_toNat_eq
    rw [BitVec.toNat_ofInt, BitVec.toNat_ofInt]
    unfold wrap32
    congr 1
    omega
  show IntKind.u64.wrap (IntKind.u32.wrap ((BitVec.ofInt 32 IntKind.u32.max ^^^ BitVec.ofInt 32 (n % 4294967296)).toNat : Int)) = IntKind.i32.wrap ((BitVec.ofInt 32 (-1) ^^^ BitVec.ofInt 32 (wrap32 (n % 4294967296))).toNat : Int) % 4294967296
  rw [e1, e2]
  have hz := (BitVec.ofInt 32 (-1) ^^^ BitVec.ofInt 32 (n % 4294967296)).isLt
  generalize (BitVec.ofInt 32 (-1) ^^^ BitVec.ofInt 32 (n % 4294967296)).toNat = z at *
  simp [IntKind.wrap, IntKind.bits, IntKind.signed]; omega
theorem sh1 : shapeL 1 = (1, 0, 1) := by decide
theorem sh2 : shapeL 2 = (1, 0, 1) := by decide
theorem sh31 : shapeL 31 = (2, 0, 2) := by decide
theorem sh32 : shapeL 32 = (2, 0, 2) := by decide
theorem sh61 : shapeL 61 = (3, 0, 3) := by decide
theorem sh80 : shapeL 80 = (1, 0, 1) := by decide
theorem sh81 : shapeL 81 = (1, 0, 1) := by decide
theorem sh82 : shapeL 82 = (1, 0, 1) := by decide
theorem sh83 : shapeL 83 = (1, 0, 1) := by decide
theorem sh84 : shapeL 84 = (1, 0, 2) := by decide
theorem sh85 : shapeL 85 = (1, 0, 2) := by decide
theorem sh86 : shapeL 86 = (2, 0, 1) := by decide
theorem sh87 : shapeL 87 = (1, 0, 3) := by decide
theorem sh88 : shapeL 88 = (1, 0, 3) := by decide
theorem sh89 : shapeL 89 = (2, 0, 3) := by decide
theorem sh90 : shapeL 90 = (2, 0, 3) := by decide
theorem sh91 : shapeL 91 = (3, 0, 1) := by decide
theorem sh92 : shapeL 92 = (3, 0, 1) := by decide
theorem sh93 : shapeL 93 = (3, 0, 2) := by decide
theorem sh94 : shapeL 94 = (3, 0, 2) := by decide
set_option maxRecDepth 100000 in
set_option maxHeartbeats 800000 in
theorem reval_1 (n b : Int) (h0 : 0 ≤ n) (hN : n < 18446744073709551616) (w : World) :
    Calls Try.prog 14 #[.int .i64 1, .agg #[.int .i64 1, .int .u64 n, .int .i64 b]] w (EvalT 1 1 n w) := by
  obtain ⟨t0, _, _, _, ht0⟩ := run_truncOf n.toNat w
  have H0 := Lib.hid h0
  have HN := Lib.hid hN
  clear h0 hN
  go_enter Try.func14, Try.ntmps14
  go_wp2_with (first | (go_at_call 21; refine (shapeR_lit 1 1 0 1 sh1 _).mono ?_; rintro e w' ⟨rfl, rfl⟩) | (go_at_call 41; refine (ru32_any _ _ _ _).mono ?_; rintro e w' ⟨rfl, rfl⟩) | (go_at_call 40; refine (ri32_any _ _ _ _).mono ?_; rintro e w' ⟨rfl, rfl⟩) | (go_at_call 39; refine (ri64_any _ _ _ _).mono ?_; rintro e w' ⟨rfl, rfl⟩) | (go_at_call 38; refine (rdbl_any _ _ _ _).mono ?_; rintro e w' ⟨rfl, rfl⟩) | (go_at_call 29; refine (rInt_any _ _).mono ?_; rintro e w1 ⟨rfl, h1⟩; obtain ⟨c1, f1⟩ := h1.cells; have z1a := h1.z (n := w.heap.size) (by first | assumption | (simp; done) | (simp; assumption) | (simp; omega)); have z1b := h1.z (n := w.heap.size + 1) (by first | assumption | (simp; done) | (simp; assumption) | (simp; omega))) | (go_at_call 27; refine (rLong_any _ _).mono ?_; rintro e w1 ⟨rfl, h1⟩; obtain ⟨c1, f1⟩ := h1.cells; have z1a := h1.z (n := w.heap.size) (by first | assumption | (simp; done) | (simp; assumption) | (simp; omega)); have z1b := h1.z (n := w.heap.size + 1) (by first | assumption | (simp; done) | (simp; assumption) | (simp; omega))) | (go_at_call 48; refine (rDbl_any _ _).mono ?_; rintro e w1 ⟨rfl, h1⟩; obtain ⟨c1, f1⟩ := h1.cells; have z1a := h1.z (n := w.heap.size) (by first | assumption | (simp; done) | (simp; assumption) | (simp; omega)); have z1b := h1.z (n := w.heap.size + 1) (by first | assumption | (simp; done) | (simp; assumption) | (simp; omega))))
  all_goals go_light
  all_goals first | (refine bodyPost_ret (v := ?_) ?_ rfl ?_; rotate_left 1; focus (simp [results, Try.results14, go_sem, *]; (try rfl); done)) | go_returns
  all_goals exact ⟨t0, ret_valok (by clear ht0; simp [eval1L, sh1, bits1L, answerL, turn32, turn64, extendL, doubleL, intL, longL, noneL]; exact v1 n), (by (repeat' first | with_reducible exact Fresh.refl _ | with_reducible assumption | with_reducible refine Fresh.alloc ?_ _ _ | with_reducible refine Fresh.drew ?_ | with_reducible refine Fresh.setCell ?_ ?_ _ | with_reducible refine Fresh.trans ?_ (by assumption) | (simp; done) | (simp; omega))), ht0⟩
set_option maxRecDepth 100000 in
set_option maxHeartbeats 800000 in
theorem reval_2 (n b : Int) (h0 : 0 ≤ n) (hN : n < 18446744073709551616) (w : World) :
    Calls Try.prog 14 #[.int .i64 2, .agg #[.int .i64 1, .int .u64 n, .int .i64 b]] w (EvalT 2 1 n w) := by
  obtain ⟨t0, _, _, _, ht0⟩ := run_truncOf n.toNat w
  have H0 := Lib.hid h0
  have HN := Lib.hid hN
  clear h0 hN
  go_enter Try.func14, Try.ntmps14
  go_wp2_with (first | (go_at_call 21; refine (shapeR_lit 2 1 0 1 sh2 _).mono ?_; rintro e w' ⟨rfl, rfl⟩) | (go_at_call 41; refine (ru32_any _ _ _ _).mono ?_; rintro e w' ⟨rfl, rfl⟩) | (go_at_call 40; refine (ri32_any _ _ _ _).mono ?_; rintro e w' ⟨rfl, rfl⟩) | (go_at_call 39; refine (ri64_any _ _ _ _).mono ?_; rintro e w' ⟨rfl, rfl⟩) | (go_at_call 38; refine (rdbl_any _ _ _ _).mono ?_; rintro e w' ⟨rfl, rfl⟩) | (go_at_call 29; refine (rInt_any _ _).mono ?_; rintro e w1 ⟨rfl, h1⟩; obtain ⟨c1, f1⟩ := h1.cells; have z1a := h1.z (n := w.heap.size) (by first | assumption | (simp; done) | (simp; assumption) | (simp; omega)); have z1b := h1.z (n := w.heap.size + 1) (by first | assumption | (simp; done) | (simp; assumption) | (simp; omega))) | (go_at_call 27; refine (rLong_any _ _).mono ?_; rintro e w1 ⟨rfl, h1⟩; obtain ⟨c1, f1⟩ := h1.cells; have z1a := h1.z (n := w.heap.size) (by first | assumption | (simp; done) | (simp; assumption) | (simp; omega)); have z1b := h1.z (n := w.heap.size + 1) (by first | assumption | (simp; done) | (simp; assumption) | (simp; omega))) | (go_at_call 48; refine (rDbl_any _ _).mono ?_; rintro e w1 ⟨rfl, h1⟩; obtain ⟨c1, f1⟩ := h1.cells; have z1a := h1.z (n := w.heap.size) (by first | assumption | (simp; done) | (simp; assumption) | (simp; omega)); have z1b := h1.z (n := w.heap.size + 1) (by first | assumption | (simp; done) | (simp; assumption) | (simp; omega))))
  all_goals go_light
  all_goals first | (refine bodyPost_ret (v := ?_) ?_ rfl ?_; rotate_left 1; focus (simp [results, Try.results14, go_sem, *]; (try rfl); done)) | go_returns
  all_goals exact ⟨t0, ret_valok (by clear ht0; simp [eval1L, sh2, bits1L, answerL, turn32, turn64, extendL, doubleL, intL, longL, noneL]; exact v2 n), (by (repeat' first | with_reducible exact Fresh.refl _ | with_reducible assumption | with_reducible refine Fresh.alloc ?_ _ _ | with_reducible refine Fresh.drew ?_ | with_reducible refine Fresh.setCell ?_ ?_ _ | with_reducible refine Fresh.trans ?_ (by assumption) | (simp; done) | (simp; omega))), ht0⟩
set_option maxRecDepth 100000 in
set_option maxHeartbeats 800000 in
theorem reval_80 (n b : Int) (h0 : 0 ≤ n) (hN : n < 18446744073709551616) (w : World) :
    Calls Try.prog 14 #[.int .i64 80, .agg #[.int .i64 1, .int .u64 n, .int .i64 b]] w (EvalT 80 1 n w) := by
  obtain ⟨t0, _, _, _, ht0⟩ := run_truncOf n.toNat w
  have H0 := Lib.hid h0
  have HN := Lib.hid hN
  clear h0 hN
  go_enter Try.func14, Try.ntmps14
  go_wp2_with (first | (go_at_call 21; refine (shapeR_lit 80 1 0 1 sh80 _).mono ?_; rintro e w' ⟨rfl, rfl⟩) | (go_at_call 41; refine (ru32_any _ _ _ _).mono ?_; rintro e w' ⟨rfl, rfl⟩) | (go_at_call 40; refine (ri32_any _ _ _ _).mono ?_; rintro e w' ⟨rfl, rfl⟩) | (go_at_call 39; refine (ri64_any _ _ _ _).mono ?_; rintro e w' ⟨rfl, rfl⟩) | (go_at_call 38; refine (rdbl_any _ _ _ _).mono ?_; rintro e w' ⟨rfl, rfl⟩) | (go_at_call 29; refine (rInt_any _ _).mono ?_; rintro e w1 ⟨rfl, h1⟩; obtain ⟨c1, f1⟩ := h1.cells; have z1a := h1.z (n := w.heap.size) (by first | assumption | (simp; done) | (simp; assumption) | (simp; omega)); have z1b := h1.z (n := w.heap.size + 1) (by first | assumption | (simp; done) | (simp; assumption) | (simp; omega))) | (go_at_call 27; refine (rLong_any _ _).mono ?_; rintro e w1 ⟨rfl, h1⟩; obtain ⟨c1, f1⟩ := h1.cells; have z1a := h1.z (n := w.heap.size) (by first | assumption | (simp; done) | (simp; assumption) | (simp; omega)); have z1b := h1.z (n := w.heap.size + 1) (by first | assumption | (simp; done) | (simp; assumption) | (simp; omega))) | (go_at_call 48; refine (rDbl_any _ _).mono ?_; rintro e w1 ⟨rfl, h1⟩; obtain ⟨c1, f1⟩ := h1.cells; have z1a := h1.z (n := w.heap.size) (by first | assumption | (simp; done) | (simp; assumption) | (simp; omega)); have z1b := h1.z (n := w.heap.size + 1) (by first | assumption | (simp; done) | (simp; assumption) | (simp; omega))))
  all_goals go_light
  all_goals first | (refine bodyPost_ret (v := ?_) ?_ rfl ?_; rotate_left 1; focus (simp [results, Try.results14, go_sem, *]; (try rfl); done)) | go_returns
  all_goals exact ⟨t0, ret_valok (by clear ht0; simp [eval1L, sh80, bits1L, answerL, turn32, turn64, extendL, doubleL, intL, longL, noneL]; exact v80 n), (by (repeat' first | with_reducible exact Fresh.refl _ | with_reducible assumption | with_reducible refine Fresh.alloc ?_ _ _ | with_reducible refine Fresh.drew ?_ | with_reducible refine Fresh.setCell ?_ ?_ _ | with_reducible refine Fresh.trans ?_ (by assumption) | (simp; done) | (simp; omega))), ht0⟩
set_option maxRecDepth 100000 in
set_option maxHeartbeats 800000 in
theorem reval_81 (n b : Int) (h0 : 0 ≤ n) (hN : n < 18446744073709551616) (w : World) :
    Calls Try.prog 14 #[.int .i64 81, .agg #[.int .i64 1, .int .u64 n, .int .i64 b]] w (EvalT 81 1 n w) := by
  obtain ⟨t0, _, _, _, ht0⟩ := run_truncOf n.toNat w
  have H0 := Lib.hid h0
  have HN := Lib.hid hN
  clear h0 hN
  go_enter Try.func14, Try.ntmps14
  go_wp2_with (first | (go_at_call 21; refine (shapeR_lit 81 1 0 1 sh81 _).mono ?_; rintro e w' ⟨rfl, rfl⟩) | (go_at_call 41; refine (ru32_any _ _ _ _).mono ?_; rintro e w' ⟨rfl, rfl⟩) | (go_at_call 40; refine (ri32_any _ _ _ _).mono ?_; rintro e w' ⟨rfl, rfl⟩) | (go_at_call 39; refine (ri64_any _ _ _ _).mono ?_; rintro e w' ⟨rfl, rfl⟩) | (go_at_call 38; refine (rdbl_any _ _ _ _).mono ?_; rintro e w' ⟨rfl, rfl⟩) | (go_at_call 29; refine (rInt_any _ _).mono ?_; rintro e w1 ⟨rfl, h1⟩; obtain ⟨c1, f1⟩ := h1.cells; have z1a := h1.z (n := w.heap.size) (by first | assumption | (simp; done) | (simp; assumption) | (simp; omega)); have z1b := h1.z (n := w.heap.size + 1) (by first | assumption | (simp; done) | (simp; assumption) | (simp; omega))) | (go_at_call 27; refine (rLong_any _ _).mono ?_; rintro e w1 ⟨rfl, h1⟩; obtain ⟨c1, f1⟩ := h1.cells; have z1a := h1.z (n := w.heap.size) (by first | assumption | (simp; done) | (simp; assumption) | (simp; omega)); have z1b := h1.z (n := w.heap.size + 1) (by first | assumption | (simp; done) | (simp; assumption) | (simp; omega))) | (go_at_call 48; refine (rDbl_any _ _).mono ?_; rintro e w1 ⟨rfl, h1⟩; obtain ⟨c1, f1⟩ := h1.cells; have z1a := h1.z (n := w.heap.size) (by first | assumption | (simp; done) | (simp; assumption) | (simp; omega)); have z1b := h1.z (n := w.heap.size + 1) (by first | assumption | (simp; done) | (simp; assumption) | (simp; omega))))
  all_goals go_light
  all_goals first | (refine bodyPost_ret (v := ?_) ?_ rfl ?_; rotate_left 1; focus (simp [results, Try.results14, go_sem, *]; (try rfl); done)) | go_returns
  all_goals exact ⟨t0, ret_valok (by clear ht0; simp [eval1L, sh81, bits1L, answerL, turn32, turn64, extendL, doubleL, intL, longL, noneL]; omega), (by (repeat' first | with_reducible exact Fresh.refl _ | with_reducible assumption | with_reducible refine Fresh.alloc ?_ _ _ | with_reducible refine Fresh.drew ?_ | with_reducible refine Fresh.setCell ?_ ?_ _ | with_reducible refine Fresh.trans ?_ (by assumption) | (simp; done) | (simp; omega))), ht0⟩
set_option maxRecDepth 100000 in
set_option maxHeartbeats 800000 in
theorem reval_82 (n b : Int) (h0 : 0 ≤ n) (hN : n < 18446744073709551616) (w : World) :
    Calls Try.prog 14 #[.int .i64 82, .agg #[.int .i64 1, .int .u64 n, .int .i64 b]] w (EvalT 82 1 n w) := by
  obtain ⟨t0, _, _, _, ht0⟩ := run_truncOf n.toNat w
  have H0 := Lib.hid h0
  have HN := Lib.hid hN
  clear h0 hN
  go_enter Try.func14, Try.ntmps14
  go_wp2_with (first | (go_at_call 21; refine (shapeR_lit 82 1 0 1 sh82 _).mono ?_; rintro e w' ⟨rfl, rfl⟩) | (go_at_call 41; refine (ru32_any _ _ _ _).mono ?_; rintro e w' ⟨rfl, rfl⟩) | (go_at_call 40; refine (ri32_any _ _ _ _).mono ?_; rintro e w' ⟨rfl, rfl⟩) | (go_at_call 39; refine (ri64_any _ _ _ _).mono ?_; rintro e w' ⟨rfl, rfl⟩) | (go_at_call 38; refine (rdbl_any _ _ _ _).mono ?_; rintro e w' ⟨rfl, rfl⟩) | (go_at_call 29; refine (rInt_any _ _).mono ?_; rintro e w1 ⟨rfl, h1⟩; obtain ⟨c1, f1⟩ := h1.cells; have z1a := h1.z (n := w.heap.size) (by first | assumption | (simp; done) | (simp; assumption) | (simp; omega)); have z1b := h1.z (n := w.heap.size + 1) (by first | assumption | (simp; done) | (simp; assumption) | (simp; omega))) | (go_at_call 27; refine (rLong_any _ _).mono ?_; rintro e w1 ⟨rfl, h1⟩; obtain ⟨c1, f1⟩ := h1.cells; have z1a := h1.z (n := w.heap.size) (by first | assumption | (simp; done) | (simp; assumption) | (simp; omega)); have z1b := h1.z (n := w.heap.size + 1) (by first | assumption | (simp; done) | (simp; assumption) | (simp; omega))) | (go_at_call 48; refine (rDbl_any _ _).mono ?_; rintro e w1 ⟨rfl, h1⟩; obtain ⟨c1, f1⟩ := h1.cells; have z1a := h1.z (n := w.heap.size) (by first | assumption | (simp; done) | (simp; assumption) | (simp; omega)); have z1b := h1.z (n := w.heap.size + 1) (by first | assumption | (simp; done) | (simp; assumption) | (simp; omega))))
  all_goals go_light
  all_goals first | (refine bodyPost_ret (v := ?_) ?_ rfl ?_; rotate_left 1; focus (simp [results, Try.results14, go_sem, *]; (try rfl); done)) | go_returns
  all_goals exact ⟨t0, ret_valok (by clear ht0; simp [eval1L, sh82, bits1L, answerL, turn32, turn64, extendL, doubleL, intL, longL, noneL]; exact v82 n), (by (repeat' first | with_reducible exact Fresh.refl _ | with_reducible assumption | with_reducible refine Fresh.alloc ?_ _ _ | with_reducible refine Fresh.drew ?_ | with_reducible refine Fresh.setCell ?_ ?_ _ | with_reducible refine Fresh.trans ?_ (by assumption) | (simp; done) | (simp; omega))), ht0⟩
set_option maxRecDepth 100000 in
set_option maxHeartbeats 800000 in
theorem reval_83 (n b : Int) (h0 : 0 ≤ n) (hN : n < 18446744073709551616) (w : World) :
    Calls Try.prog 14 #[.int .i64 83, .agg #[.int .i64 1, .int .u64 n, .int .i64 b]] w (EvalT 83 1 n w) := by
  obtain ⟨t0, _, _, _, ht0⟩ := run_truncOf n.toNat w
  have H0 := Lib.hid h0
  have HN := Lib.hid hN
  clear h0 hN
  go_enter Try.func14, Try.ntmps14
  go_wp2_with (first | (go_at_call 21; refine (shapeR_lit 83 1 0 1 sh83 _).mono ?_; rintro e w' ⟨rfl, rfl⟩) | (go_at_call 41; refine (ru32_any _ _ _ _).mono ?_; rintro e w' ⟨rfl, rfl⟩) | (go_at_call 40; refine (ri32_any _ _ _ _).mono ?_; rintro e w' ⟨rfl, rfl⟩) | (go_at_call 39; refine (ri64_any _ _ _ _).mono ?_; rintro e w' ⟨rfl, rfl⟩) | (go_at_call 38; refine (rdbl_any _ _ _ _).mono ?_; rintro e w' ⟨rfl, rfl⟩) | (go_at_call 29; refine (rInt_any _ _).mono ?_; rintro e w1 ⟨rfl, h1⟩; obtain ⟨c1, f1⟩ := h1.cells; have z1a := h1.z (n := w.heap.size) (by first | assumption | (simp; done) | (simp; assumption) | (simp; omega)); have z1b := h1.z (n := w.heap.size + 1) (by first | assumption | (simp; done) | (simp; assumption) | (simp; omega))) | (go_at_call 27; refine (rLong_any _ _).mono ?_; rintro e w1 ⟨rfl, h1⟩; obtain ⟨c1, f1⟩ := h1.cells; have z1a := h1.z (n := w.heap.size) (by first | assumption | (simp; done) | (simp; assumption) | (simp; omega)); have z1b := h1.z (n := w.heap.size + 1) (by first | assumption | (simp; done) | (simp; assumption) | (simp; omega))) | (go_at_call 48; refine (rDbl_any _ _).mono ?_; rintro e w1 ⟨rfl, h1⟩; obtain ⟨c1, f1⟩ := h1.cells; have z1a := h1.z (n := w.heap.size) (by first | assumption | (simp; done) | (simp; assumption) | (simp; omega)); have z1b := h1.z (n := w.heap.size + 1) (by first | assumption | (simp; done) | (simp; assumption) | (simp; omega))))
  all_goals go_light
  all_goals first | (refine bodyPost_ret (v := ?_) ?_ rfl ?_; rotate_left 1; focus (simp [results, Try.results14, go_sem, *]; (try rfl); done)) | go_returns
  all_goals exact ⟨t0, ret_valok (by clear ht0; simp [eval1L, sh83, bits1L, answerL, turn32, turn64, extendL, doubleL, intL, longL, noneL]; exact v83 n), (by (repeat' first | with_reducible exact Fresh.refl _ | with_reducible assumption | with_reducible refine Fresh.alloc ?_ _ _ | with_reducible refine Fresh.drew ?_ | with_reducible refine Fresh.setCell ?_ ?_ _ | with_reducible refine Fresh.trans ?_ (by assumption) | (simp; done) | (simp; omega))), ht0⟩
set_option maxRecDepth 100000 in
set_option maxHeartbeats 800000 in
theorem reval_84 (n b : Int) (h0 : 0 ≤ n) (hN : n < 18446744073709551616) (w : World) :
    Calls Try.prog 14 #[.int .i64 84, .agg #[.int .i64 1, .int .u64 n, .int .i64 b]] w (EvalT 84 1 n w) := by
  obtain ⟨t0, _, _, _, ht0⟩ := run_truncOf n.toNat w
  have H0 := Lib.hid h0
  have HN := Lib.hid hN
  clear h0 hN
  go_enter Try.func14, Try.ntmps14
  go_wp2_with (first | (go_at_call 21; refine (shapeR_lit 84 1 0 2 sh84 _).mono ?_; rintro e w' ⟨rfl, rfl⟩) | (go_at_call 41; refine (ru32_any _ _ _ _).mono ?_; rintro e w' ⟨rfl, rfl⟩) | (go_at_call 40; refine (ri32_any _ _ _ _).mono ?_; rintro e w' ⟨rfl, rfl⟩) | (go_at_call 39; refine (ri64_any _ _ _ _).mono ?_; rintro e w' ⟨rfl, rfl⟩) | (go_at_call 38; refine (rdbl_any _ _ _ _).mono ?_; rintro e w' ⟨rfl, rfl⟩) | (go_at_call 29; refine (rInt_any _ _).mono ?_; rintro e w1 ⟨rfl, h1⟩; obtain ⟨c1, f1⟩ := h1.cells; have z1a := h1.z (n := w.heap.size) (by first | assumption | (simp; done) | (simp; assumption) | (simp; omega)); have z1b := h1.z (n := w.heap.size + 1) (by first | assumption | (simp; done) | (simp; assumption) | (simp; omega))) | (go_at_call 27; refine (rLong_any _ _).mono ?_; rintro e w1 ⟨rfl, h1⟩; obtain ⟨c1, f1⟩ := h1.cells; have z1a := h1.z (n := w.heap.size) (by first | assumption | (simp; done) | (simp; assumption) | (simp; omega)); have z1b := h1.z (n := w.heap.size + 1) (by first | assumption | (simp; done) | (simp; assumption) | (simp; omega))) | (go_at_call 48; refine (rDbl_any _ _).mono ?_; rintro e w1 ⟨rfl, h1⟩; obtain ⟨c1, f1⟩ := h1.cells; have z1a := h1.z (n := w.heap.size) (by first | assumption | (simp; done) | (simp; assumption) | (simp; omega)); have z1b := h1.z (n := w.heap.size + 1) (by first | assumption | (simp; done) | (simp; assumption) | (simp; omega))))
  all_goals go_light
  all_goals first | (refine bodyPost_ret (v := ?_) ?_ rfl ?_; rotate_left 1; focus (simp [results, Try.results14, go_sem, *]; (try rfl); done)) | go_returns
  all_goals exact ⟨t0, ret_valok (by clear ht0; simp [eval1L, sh84, bits1L, answerL, turn32, turn64, extendL, doubleL, intL, longL, noneL]; exact v84 n), (by (repeat' first | with_reducible exact Fresh.refl _ | with_reducible assumption | with_reducible refine Fresh.alloc ?_ _ _ | with_reducible refine Fresh.drew ?_ | with_reducible refine Fresh.setCell ?_ ?_ _ | with_reducible refine Fresh.trans ?_ (by assumption) | (simp; done) | (simp; omega))), ht0⟩
set_option maxRecDepth 100000 in
set_option maxHeartbeats 800000 in
theorem reval_85 (n b : Int) (h0 : 0 ≤ n) (hN : n < 18446744073709551616) (w : World) :
    Calls Try.prog 14 #[.int .i64 85, .agg #[.int .i64 1, .int .u64 n, .int .i64 b]] w (EvalT 85 1 n w) := by
  obtain ⟨t0, _, _, _, ht0⟩ := run_truncOf n.toNat w
  have H0 := Lib.hid h0
  have HN := Lib.hid hN
  clear h0 hN
  go_enter Try.func14, Try.ntmps14
  go_wp2_with (first | (go_at_call 21; refine (shapeR_lit 85 1 0 2 sh85 _).mono ?_; rintro e w' ⟨rfl, rfl⟩) | (go_at_call 41; refine (ru32_any _ _ _ _).mono ?_; rintro e w' ⟨rfl, rfl⟩) | (go_at_call 40; refine (ri32_any _ _ _ _).mono ?_; rintro e w' ⟨rfl, rfl⟩) | (go_at_call 39; refine (ri64_any _ _ _ _).mono ?_; rintro e w' ⟨rfl, rfl⟩) | (go_at_call 38; refine (rdbl_any _ _ _ _).mono ?_; rintro e w' ⟨rfl, rfl⟩) | (go_at_call 29; refine (rInt_any _ _).mono ?_; rintro e w1 ⟨rfl, h1⟩; obtain ⟨c1, f1⟩ := h1.cells; have z1a := h1.z (n := w.heap.size) (by first | assumption | (simp; done) | (simp; assumption) | (simp; omega)); have z1b := h1.z (n := w.heap.size + 1) (by first | assumption | (simp; done) | (simp; assumption) | (simp; omega))) | (go_at_call 27; refine (rLong_any _ _).mono ?_; rintro e w1 ⟨rfl, h1⟩; obtain ⟨c1, f1⟩ := h1.cells; have z1a := h1.z (n := w.heap.size) (by first | assumption | (simp; done) | (simp; assumption) | (simp; omega)); have z1b := h1.z (n := w.heap.size + 1) (by first | assumption | (simp; done) | (simp; assumption) | (simp; omega))) | (go_at_call 48; refine (rDbl_any _ _).mono ?_; rintro e w1 ⟨rfl, h1⟩; obtain ⟨c1, f1⟩ := h1.cells; have z1a := h1.z (n := w.heap.size) (by first | assumption | (simp; done) | (simp; assumption) | (simp; omega)); have z1b := h1.z (n := w.heap.size + 1) (by first | assumption | (simp; done) | (simp; assumption) | (simp; omega))))
  all_goals go_light
  all_goals first | (refine bodyPost_ret (v := ?_) ?_ rfl ?_; rotate_left 1; focus (simp [results, Try.results14, go_sem, *]; (try rfl); done)) | go_returns
  all_goals exact ⟨t0, ret_valok (by clear ht0; simp [eval1L, sh85, bits1L, answerL, turn32, turn64, extendL, doubleL, intL, longL, noneL]; exact v85 n), (by (repeat' first | with_reducible exact Fresh.refl _ | with_reducible assumption | with_reducible refine Fresh.alloc ?_ _ _ | with_reducible refine Fresh.drew ?_ | with_reducible refine Fresh.setCell ?_ ?_ _ | with_reducible refine Fresh.trans ?_ (by assumption) | (simp; done) | (simp; omega))), ht0⟩
set_option maxRecDepth 100000 in
set_option maxHeartbeats 800000 in
theorem reval_87 (n b : Int) (h0 : 0 ≤ n) (hN : n < 18446744073709551616) (w : World) :
    Calls Try.prog 14 #[.int .i64 87, .agg #[.int .i64 1, .int .u64 n, .int .i64 b]] w (EvalT 87 1 n w) := by
  obtain ⟨t0, _, _, _, ht0⟩ := run_truncOf n.toNat w
  have H0 := Lib.hid h0
  have HN := Lib.hid hN
  clear h0 hN
  go_enter Try.func14, Try.ntmps14
  go_wp2_with (first | (go_at_call 21; refine (shapeR_lit 87 1 0 3 sh87 _).mono ?_; rintro e w' ⟨rfl, rfl⟩) | (go_at_call 41; refine (ru32_any _ _ _ _).mono ?_; rintro e w' ⟨rfl, rfl⟩) | (go_at_call 40; refine (ri32_any _ _ _ _).mono ?_; rintro e w' ⟨rfl, rfl⟩) | (go_at_call 39; refine (ri64_any _ _ _ _).mono ?_; rintro e w' ⟨rfl, rfl⟩) | (go_at_call 38; refine (rdbl_any _ _ _ _).mono ?_; rintro e w' ⟨rfl, rfl⟩) | (go_at_call 29; refine (rInt_any _ _).mono ?_; rintro e w1 ⟨rfl, h1⟩; obtain ⟨c1, f1⟩ := h1.cells; have z1a := h1.z (n := w.heap.size) (by first | assumption | (simp; done) | (simp; assumption) | (simp; omega)); have z1b := h1.z (n := w.heap.size + 1) (by first | assumption | (simp; done) | (simp; assumption) | (simp; omega))) | (go_at_call 27; refine (rLong_any _ _).mono ?_; rintro e w1 ⟨rfl, h1⟩; obtain ⟨c1, f1⟩ := h1.cells; have z1a := h1.z (n := w.heap.size) (by first | assumption | (simp; done) | (simp; assumption) | (simp; omega)); have z1b := h1.z (n := w.heap.size + 1) (by first | assumption | (simp; done) | (simp; assumption) | (simp; omega))) | (go_at_call 48; refine (rDbl_any _ _).mono ?_; rintro e w1 ⟨rfl, h1⟩; obtain ⟨c1, f1⟩ := h1.cells; have z1a := h1.z (n := w.heap.size) (by first | assumption | (simp; done) | (simp; assumption) | (simp; omega)); have z1b := h1.z (n := w.heap.size + 1) (by first | assumption | (simp; done) | (simp; assumption) | (simp; omega))))
  all_goals go_light
  all_goals first | (refine bodyPost_ret (v := ?_) ?_ rfl ?_; rotate_left 1; focus (simp [results, Try.results14, go_sem, *]; (try rfl); done)) | go_returns
  all_goals exact ⟨t0, ret_valok (by clear ht0; simp [eval1L, sh87, bits1L, answerL, turn32, turn64, extendL, doubleL, intL, longL, noneL]; rw [wrap32_mod, dbl_of]), (by (repeat' first | with_reducible exact Fresh.refl _ | with_reducible assumption | with_reducible refine Fresh.alloc ?_ _ _ | with_reducible refine Fresh.drew ?_ | with_reducible refine Fresh.setCell ?_ ?_ _ | with_reducible refine Fresh.trans ?_ (by assumption) | (simp; done) | (simp; omega))), ht0⟩
set_option maxRecDepth 100000 in
set_option maxHeartbeats 800000 in
theorem reval_88 (n b : Int) (h0 : 0 ≤ n) (hN : n < 18446744073709551616) (w : World) :
    Calls Try.prog 14 #[.int .i64 88, .agg #[.int .i64 1, .int .u64 n, .int .i64 b]] w (EvalT 88 1 n w) := by
  obtain ⟨t0, _, _, _, ht0⟩ := run_truncOf n.toNat w
  have H0 := Lib.hid h0
  have HN := Lib.hid hN
  clear h0 hN
  go_enter Try.func14, Try.ntmps14
  go_wp2_with (first | (go_at_call 21; refine (shapeR_lit 88 1 0 3 sh88 _).mono ?_; rintro e w' ⟨rfl, rfl⟩) | (go_at_call 41; refine (ru32_any _ _ _ _).mono ?_; rintro e w' ⟨rfl, rfl⟩) | (go_at_call 40; refine (ri32_any _ _ _ _).mono ?_; rintro e w' ⟨rfl, rfl⟩) | (go_at_call 39; refine (ri64_any _ _ _ _).mono ?_; rintro e w' ⟨rfl, rfl⟩) | (go_at_call 38; refine (rdbl_any _ _ _ _).mono ?_; rintro e w' ⟨rfl, rfl⟩) | (go_at_call 29; refine (rInt_any _ _).mono ?_; rintro e w1 ⟨rfl, h1⟩; obtain ⟨c1, f1⟩ := h1.cells; have z1a := h1.z (n := w.heap.size) (by first | assumption | (simp; done) | (simp; assumption) | (simp; omega)); have z1b := h1.z (n := w.heap.size + 1) (by first | assumption | (simp; done) | (simp; assumption) | (simp; omega))) | (go_at_call 27; refine (rLong_any _ _).mono ?_; rintro e w1 ⟨rfl, h1⟩; obtain ⟨c1, f1⟩ := h1.cells; have z1a := h1.z (n := w.heap.size) (by first | assumption | (simp; done) | (simp; assumption) | (simp; omega)); have z1b := h1.z (n := w.heap.size + 1) (by first | assumption | (simp; done) | (simp; assumption) | (simp; omega))) | (go_at_call 48; refine (rDbl_any _ _).mono ?_; rintro e w1 ⟨rfl, h1⟩; obtain ⟨c1, f1⟩ := h1.cells; have z1a := h1.z (n := w.heap.size) (by first | assumption | (simp; done) | (simp; assumption) | (simp; omega)); have z1b := h1.z (n := w.heap.size + 1) (by first | assumption | (simp; done) | (simp; assumption) | (simp; omega))))
  all_goals go_light
  all_goals first | (refine bodyPost_ret (v := ?_) ?_ rfl ?_; rotate_left 1; focus (simp [results, Try.results14, go_sem, *]; (try rfl); done)) | go_returns
  all_goals exact ⟨t0, ret_valok (by clear ht0; simp [eval1L, sh88, bits1L, answerL, turn32, turn64, extendL, doubleL, intL, longL, noneL]; rw [dbl_of]), (by (repeat' first | with_reducible exact Fresh.refl _ | with_reducible assumption | with_reducible refine Fresh.alloc ?_ _ _ | with_reducible refine Fresh.drew ?_ | with_reducible refine Fresh.setCell ?_ ?_ _ | with_reducible refine Fresh.trans ?_ (by assumption) | (simp; done) | (simp; omega))), ht0⟩
set_option maxRecDepth 100000 in
set_option maxHeartbeats 800000 in
theorem reval_31 (n b : Int) (h0 : 0 ≤ n) (hN : n < 18446744073709551616) (w : World) :
    Calls Try.prog 14 #[.int .i64 31, .agg #[.int .i64 2, .int .u64 n, .int .i64 b]] w (EvalT 31 2 n w) := by
  obtain ⟨t0, _, _, _, ht0⟩ := run_truncOf n.toNat w
  have H0 := Lib.hid h0
  have HN := Lib.hid hN
  clear h0 hN
  go_enter Try.func14, Try.ntmps14
  go_wp2_with (first | (go_at_call 21; refine (shapeR_lit 31 2 0 2 sh31 _).mono ?_; rintro e w' ⟨rfl, rfl⟩) | (go_at_call 41; refine (ru32_any _ _ _ _).mono ?_; rintro e w' ⟨rfl, rfl⟩) | (go_at_call 40; refine (ri32_any _ _ _ _).mono ?_; rintro e w' ⟨rfl, rfl⟩) | (go_at_call 39; refine (ri64_any _ _ _ _).mono ?_; rintro e w' ⟨rfl, rfl⟩) | (go_at_call 38; refine (rdbl_any _ _ _ _).mono ?_; rintro e w' ⟨rfl, rfl⟩) | (go_at_call 29; refine (rInt_any _ _).mono ?_; rintro e w1 ⟨rfl, h1⟩; obtain ⟨c1, f1⟩ := h1.cells; have z1a := h1.z (n := w.heap.size) (by first | assumption | (simp; done) | (simp; assumption) | (simp; omega)); have z1b := h1.z (n := w.heap.size + 1) (by first | assumption | (simp; done) | (simp; assumption) | (simp; omega))) | (go_at_call 27; refine (rLong_any _ _).mono ?_; rintro e w1 ⟨rfl, h1⟩; obtain ⟨c1, f1⟩ := h1.cells; have z1a := h1.z (n := w.heap.size) (by first | assumption | (simp; done) | (simp; assumption) | (simp; omega)); have z1b := h1.z (n := w.heap.size + 1) (by first | assumption | (simp; done) | (simp; assumption) | (simp; omega))) | (go_at_call 48; refine (rDbl_any _ _).mono ?_; rintro e w1 ⟨rfl, h1⟩; obtain ⟨c1, f1⟩ := h1.cells; have z1a := h1.z (n := w.heap.size) (by first | assumption | (simp; done) | (simp; assumption) | (simp; omega)); have z1b := h1.z (n := w.heap.size + 1) (by first | assumption | (simp; done) | (simp; assumption) | (simp; omega))))
  all_goals go_light
  all_goals first | (refine bodyPost_ret (v := ?_) ?_ rfl ?_; rotate_left 1; focus (simp [results, Try.results14, go_sem, *]; (try rfl); done)) | go_returns
  all_goals exact ⟨t0, ret_valok (by clear ht0; simp [eval1L, sh31, bits1L, answerL, turn32, turn64, extendL, doubleL, intL, longL, noneL]; exact v31 n), (by (repeat' first | with_reducible exact Fresh.refl _ | with_reducible assumption | with_reducible refine Fresh.alloc ?_ _ _ | with_reducible refine Fresh.drew ?_ | with_reducible refine Fresh.setCell ?_ ?_ _ | with_reducible refine Fresh.trans ?_ (by assumption) | (simp; done) | (simp; omega))), ht0⟩
set_option maxRecDepth 100000 in
set_option maxHeartbeats 800000 in
theorem reval_32 (n b : Int) (h0 : 0 ≤ n) (hN : n < 18446744073709551616) (w : World) :
    Calls Try.prog 14 #[.int .i64 32, .agg #[.int .i64 2, .int .u64 n, .int .i64 b]] w (EvalT 32 2 n w) := by
  obtain ⟨t0, _, _, _, ht0⟩ := run_truncOf n.toNat w
  have H0 := Lib.hid h0
  have HN := Lib.hid hN
  clear h0 hN
  go_enter Try.func14, Try.ntmps14
  go_wp2_with (first | (go_at_call 21; refine (shapeR_lit 32 2 0 2 sh32 _).mono ?_; rintro e w' ⟨rfl, rfl⟩) | (go_at_call 41; refine (ru32_any _ _ _ _).mono ?_; rintro e w' ⟨rfl, rfl⟩) | (go_at_call 40; refine (ri32_any _ _ _ _).mono ?_; rintro e w' ⟨rfl, rfl⟩) | (go_at_call 39; refine (ri64_any _ _ _ _).mono ?_; rintro e w' ⟨rfl, rfl⟩) | (go_at_call 38; refine (rdbl_any _ _ _ _).mono ?_; rintro e w' ⟨rfl, rfl⟩) | (go_at_call 29; refine (rInt_any _ _).mono ?_; rintro e w1 ⟨rfl, h1⟩; obtain ⟨c1, f1⟩ := h1.cells; have z1a := h1.z (n := w.heap.size) (by first | assumption | (simp; done) | (simp; assumption) | (simp; omega)); have z1b := h1.z (n := w.heap.size + 1) (by first | assumption | (simp; done) | (simp; assumption) | (simp; omega))) | (go_at_call 27; refine (rLong_any _ _).mono ?_; rintro e w1 ⟨rfl, h1⟩; obtain ⟨c1, f1⟩ := h1.cells; have z1a := h1.z (n := w.heap.size) (by first | assumption | (simp; done) | (simp; assumption) | (simp; omega)); have z1b := h1.z (n := w.heap.size + 1) (by first | assumption | (simp; done) | (simp; assumption) | (simp; omega))) | (go_at_call 48; refine (rDbl_any _ _).mono ?_; rintro e w1 ⟨rfl, h1⟩; obtain ⟨c1, f1⟩ := h1.cells; have z1a := h1.z (n := w.heap.size) (by first | assumption | (simp; done) | (simp; assumption) | (simp; omega)); have z1b := h1.z (n := w.heap.size + 1) (by first | assumption | (simp; done) | (simp; assumption) | (simp; omega))))
  all_goals go_light
  all_goals first | (refine bodyPost_ret (v := ?_) ?_ rfl ?_; rotate_left 1; focus (simp [results, Try.results14, go_sem, *]; (try rfl); done)) | go_returns
  all_goals exact ⟨t0, ret_valok (by clear ht0; simp [eval1L, sh32, bits1L, answerL, turn32, turn64, extendL, doubleL, intL, longL, noneL]; exact v32 n), (by (repeat' first | with_reducible exact Fresh.refl _ | with_reducible assumption | with_reducible refine Fresh.alloc ?_ _ _ | with_reducible refine Fresh.drew ?_ | with_reducible refine Fresh.setCell ?_ ?_ _ | with_reducible refine Fresh.trans ?_ (by assumption) | (simp; done) | (simp; omega))), ht0⟩
set_option maxRecDepth 100000 in
set_option maxHeartbeats 800000 in
theorem reval_86 (n b : Int) (h0 : 0 ≤ n) (hN : n < 18446744073709551616) (w : World) :
    Calls Try.prog 14 #[.int .i64 86, .agg #[.int .i64 2, .int .u64 n, .int .i64 b]] w (EvalT 86 2 n w) := by
  obtain ⟨t0, _, _, _, ht0⟩ := run_truncOf n.toNat w
  have H0 := Lib.hid h0
  have HN := Lib.hid hN
  clear h0 hN
  go_enter Try.func14, Try.ntmps14
  go_wp2_with (first | (go_at_call 21; refine (shapeR_lit 86 2 0 1 sh86 _).mono ?_; rintro e w' ⟨rfl, rfl⟩) | (go_at_call 41; refine (ru32_any _ _ _ _).mono ?_; rintro e w' ⟨rfl, rfl⟩) | (go_at_call 40; refine (ri32_any _ _ _ _).mono ?_; rintro e w' ⟨rfl, rfl⟩) | (go_at_call 39; refine (ri64_any _ _ _ _).mono ?_; rintro e w' ⟨rfl, rfl⟩) | (go_at_call 38; refine (rdbl_any _ _ _ _).mono ?_; rintro e w' ⟨rfl, rfl⟩) | (go_at_call 29; refine (rInt_any _ _).mono ?_; rintro e w1 ⟨rfl, h1⟩; obtain ⟨c1, f1⟩ := h1.cells; have z1a := h1.z (n := w.heap.size) (by first | assumption | (simp; done) | (simp; assumption) | (simp; omega)); have z1b := h1.z (n := w.heap.size + 1) (by first | assumption | (simp; done) | (simp; assumption) | (simp; omega))) | (go_at_call 27; refine (rLong_any _ _).mono ?_; rintro e w1 ⟨rfl, h1⟩; obtain ⟨c1, f1⟩ := h1.cells; have z1a := h1.z (n := w.heap.size) (by first | assumption | (simp; done) | (simp; assumption) | (simp; omega)); have z1b := h1.z (n := w.heap.size + 1) (by first | assumption | (simp; done) | (simp; assumption) | (simp; omega))) | (go_at_call 48; refine (rDbl_any _ _).mono ?_; rintro e w1 ⟨rfl, h1⟩; obtain ⟨c1, f1⟩ := h1.cells; have z1a := h1.z (n := w.heap.size) (by first | assumption | (simp; done) | (simp; assumption) | (simp; omega)); have z1b := h1.z (n := w.heap.size + 1) (by first | assumption | (simp; done) | (simp; assumption) | (simp; omega))))
  all_goals go_light
  all_goals first | (refine bodyPost_ret (v := ?_) ?_ rfl ?_; rotate_left 1; focus (simp [results, Try.results14, go_sem, *]; (try rfl); done)) | go_returns
  all_goals exact ⟨t0, ret_valok (by clear ht0; simp [eval1L, sh86, bits1L, answerL, turn32, turn64, extendL, doubleL, intL, longL, noneL]; exact v86 n), (by (repeat' first | with_reducible exact Fresh.refl _ | with_reducible assumption | with_reducible refine Fresh.alloc ?_ _ _ | with_reducible refine Fresh.drew ?_ | with_reducible refine Fresh.setCell ?_ ?_ _ | with_reducible refine Fresh.trans ?_ (by assumption) | (simp; done) | (simp; omega))), ht0⟩
set_option maxRecDepth 100000 in
set_option maxHeartbeats 800000 in
theorem reval_89 (n b : Int) (h0 : 0 ≤ n) (hN : n < 18446744073709551616) (w : World) :
    Calls Try.prog 14 #[.int .i64 89, .agg #[.int .i64 2, .int .u64 n, .int .i64 b]] w (EvalT 89 2 n w) := by
  obtain ⟨t0, _, _, _, ht0⟩ := run_truncOf n.toNat w
  have H0 := Lib.hid h0
  have HN := Lib.hid hN
  clear h0 hN
  go_enter Try.func14, Try.ntmps14
  go_wp2_with (first | (go_at_call 21; refine (shapeR_lit 89 2 0 3 sh89 _).mono ?_; rintro e w' ⟨rfl, rfl⟩) | (go_at_call 41; refine (ru32_any _ _ _ _).mono ?_; rintro e w' ⟨rfl, rfl⟩) | (go_at_call 40; refine (ri32_any _ _ _ _).mono ?_; rintro e w' ⟨rfl, rfl⟩) | (go_at_call 39; refine (ri64_any _ _ _ _).mono ?_; rintro e w' ⟨rfl, rfl⟩) | (go_at_call 38; refine (rdbl_any _ _ _ _).mono ?_; rintro e w' ⟨rfl, rfl⟩) | (go_at_call 29; refine (rInt_any _ _).mono ?_; rintro e w1 ⟨rfl, h1⟩; obtain ⟨c1, f1⟩ := h1.cells; have z1a := h1.z (n := w.heap.size) (by first | assumption | (simp; done) | (simp; assumption) | (simp; omega)); have z1b := h1.z (n := w.heap.size + 1) (by first | assumption | (simp; done) | (simp; assumption) | (simp; omega))) | (go_at_call 27; refine (rLong_any _ _).mono ?_; rintro e w1 ⟨rfl, h1⟩; obtain ⟨c1, f1⟩ := h1.cells; have z1a := h1.z (n := w.heap.size) (by first | assumption | (simp; done) | (simp; assumption) | (simp; omega)); have z1b := h1.z (n := w.heap.size + 1) (by first | assumption | (simp; done) | (simp; assumption) | (simp; omega))) | (go_at_call 48; refine (rDbl_any _ _).mono ?_; rintro e w1 ⟨rfl, h1⟩; obtain ⟨c1, f1⟩ := h1.cells; have z1a := h1.z (n := w.heap.size) (by first | assumption | (simp; done) | (simp; assumption) | (simp; omega)); have z1b := h1.z (n := w.heap.size + 1) (by first | assumption | (simp; done) | (simp; assumption) | (simp; omega))))
  all_goals go_light
  all_goals first | (refine bodyPost_ret (v := ?_) ?_ rfl ?_; rotate_left 1; focus (simp [results, Try.results14, go_sem, *]; (try rfl); done)) | go_returns
  all_goals exact ⟨t0, ret_valok (by clear ht0; simp [eval1L, sh89, bits1L, answerL, turn32, turn64, extendL, doubleL, intL, longL, noneL]; rw [dbl_of]), (by (repeat' first | with_reducible exact Fresh.refl _ | with_reducible assumption | with_reducible refine Fresh.alloc ?_ _ _ | with_reducible refine Fresh.drew ?_ | with_reducible refine Fresh.setCell ?_ ?_ _ | with_reducible refine Fresh.trans ?_ (by assumption) | (simp; done) | (simp; omega))), ht0⟩
set_option maxRecDepth 100000 in
set_option maxHeartbeats 800000 in
theorem reval_90 (n b : Int) (h0 : 0 ≤ n) (hN : n < 18446744073709551616) (w : World) :
    Calls Try.prog 14 #[.int .i64 90, .agg #[.int .i64 2, .int .u64 n, .int .i64 b]] w (EvalT 90 2 n w) := by
  obtain ⟨t0, _, _, _, ht0⟩ := run_truncOf n.toNat w
  have H0 := Lib.hid h0
  have HN := Lib.hid hN
  clear h0 hN
  go_enter Try.func14, Try.ntmps14
  go_wp2_with (first | (go_at_call 21; refine (shapeR_lit 90 2 0 3 sh90 _).mono ?_; rintro e w' ⟨rfl, rfl⟩) | (go_at_call 41; refine (ru32_any _ _ _ _).mono ?_; rintro e w' ⟨rfl, rfl⟩) | (go_at_call 40; refine (ri32_any _ _ _ _).mono ?_; rintro e w' ⟨rfl, rfl⟩) | (go_at_call 39; refine (ri64_any _ _ _ _).mono ?_; rintro e w' ⟨rfl, rfl⟩) | (go_at_call 38; refine (rdbl_any _ _ _ _).mono ?_; rintro e w' ⟨rfl, rfl⟩) | (go_at_call 29; refine (rInt_any _ _).mono ?_; rintro e w1 ⟨rfl, h1⟩; obtain ⟨c1, f1⟩ := h1.cells; have z1a := h1.z (n := w.heap.size) (by first | assumption | (simp; done) | (simp; assumption) | (simp; omega)); have z1b := h1.z (n := w.heap.size + 1) (by first | assumption | (simp; done) | (simp; assumption) | (simp; omega))) | (go_at_call 27; refine (rLong_any _ _).mono ?_; rintro e w1 ⟨rfl, h1⟩; obtain ⟨c1, f1⟩ := h1.cells; have z1a := h1.z (n := w.heap.size) (by first | assumption | (simp; done) | (simp; assumption) | (simp; omega)); have z1b := h1.z (n := w.heap.size + 1) (by first | assumption | (simp; done) | (simp; assumption) | (simp; omega))) | (go_at_call 48; refine (rDbl_any _ _).mono ?_; rintro e w1 ⟨rfl, h1⟩; obtain ⟨c1, f1⟩ := h1.cells; have z1a := h1.z (n := w.heap.size) (by first | assumption | (simp; done) | (simp; assumption) | (simp; omega)); have z1b := h1.z (n := w.heap.size + 1) (by first | assumption | (simp; done) | (simp; assumption) | (simp; omega))))
  all_goals go_light
  all_goals first | (refine bodyPost_ret (v := ?_) ?_ rfl ?_; rotate_left 1; focus (simp [results, Try.results14, go_sem, *]; (try rfl); done)) | go_returns
  all_goals exact ⟨t0, ret_valok (by clear ht0; simp [eval1L, sh90, bits1L, answerL, turn32, turn64, extendL, doubleL, intL, longL, noneL]; rw [dbl_of]), (by (repeat' first | with_reducible exact Fresh.refl _ | with_reducible assumption | with_reducible refine Fresh.alloc ?_ _ _ | with_reducible refine Fresh.drew ?_ | with_reducible refine Fresh.setCell ?_ ?_ _ | with_reducible refine Fresh.trans ?_ (by assumption) | (simp; done) | (simp; omega))), ht0⟩
set_option maxRecDepth 100000 in
set_option maxHeartbeats 800000 in
theorem reval_61 (n b : Int) (h0 : 0 ≤ n) (hN : n < 18446744073709551616) (w : World) :
    Calls Try.prog 14 #[.int .i64 61, .agg #[.int .i64 3, .int .u64 n, .int .i64 b]] w (EvalT 61 3 n w) := by
  obtain ⟨t0, _, _, _, ht0⟩ := run_truncOf n.toNat w
  have H0 := Lib.hid h0
  have HN := Lib.hid hN
  clear h0 hN
  go_enter Try.func14, Try.ntmps14
  go_wp2_with (first | (go_at_call 21; refine (shapeR_lit 61 3 0 3 sh61 _).mono ?_; rintro e w' ⟨rfl, rfl⟩) | (go_at_call 41; refine (ru32_any _ _ _ _).mono ?_; rintro e w' ⟨rfl, rfl⟩) | (go_at_call 40; refine (ri32_any _ _ _ _).mono ?_; rintro e w' ⟨rfl, rfl⟩) | (go_at_call 39; refine (ri64_any _ _ _ _).mono ?_; rintro e w' ⟨rfl, rfl⟩) | (go_at_call 38; refine (rdbl_any _ _ _ _).mono ?_; rintro e w' ⟨rfl, rfl⟩) | (go_at_call 29; refine (rInt_any _ _).mono ?_; rintro e w1 ⟨rfl, h1⟩; obtain ⟨c1, f1⟩ := h1.cells; have z1a := h1.z (n := w.heap.size) (by first | assumption | (simp; done) | (simp; assumption) | (simp; omega)); have z1b := h1.z (n := w.heap.size + 1) (by first | assumption | (simp; done) | (simp; assumption) | (simp; omega))) | (go_at_call 27; refine (rLong_any _ _).mono ?_; rintro e w1 ⟨rfl, h1⟩; obtain ⟨c1, f1⟩ := h1.cells; have z1a := h1.z (n := w.heap.size) (by first | assumption | (simp; done) | (simp; assumption) | (simp; omega)); have z1b := h1.z (n := w.heap.size + 1) (by first | assumption | (simp; done) | (simp; assumption) | (simp; omega))) | (go_at_call 48; refine (rDbl_any _ _).mono ?_; rintro e w1 ⟨rfl, h1⟩; obtain ⟨c1, f1⟩ := h1.cells; have z1a := h1.z (n := w.heap.size) (by first | assumption | (simp; done) | (simp; assumption) | (simp; omega)); have z1b := h1.z (n := w.heap.size + 1) (by first | assumption | (simp; done) | (simp; assumption) | (simp; omega))))
  all_goals go_light
  all_goals first | (refine bodyPost_ret (v := ?_) ?_ rfl ?_; rotate_left 1; focus (simp [results, Try.results14, go_sem, *]; (try rfl); done)) | go_returns
  all_goals exact ⟨t0, ret_valok (by clear ht0; simp [eval1L, sh61, bits1L, answerL, turn32, turn64, extendL, doubleL, intL, longL, noneL]), (by (repeat' first | with_reducible exact Fresh.refl _ | with_reducible assumption | with_reducible refine Fresh.alloc ?_ _ _ | with_reducible refine Fresh.drew ?_ | with_reducible refine Fresh.setCell ?_ ?_ _ | with_reducible refine Fresh.trans ?_ (by assumption) | (simp; done) | (simp; omega))), ht0⟩
set_option maxRecDepth 100000 in
set_option maxHeartbeats 800000 in
theorem reval_91 (n b : Int) (h0 : 0 ≤ n) (hN : n < 18446744073709551616) (w : World) :
    Calls Try.prog 14 #[.int .i64 91, .agg #[.int .i64 3, .int .u64 n, .int .i64 b]] w (EvalT 91 3 n w) := by
  obtain ⟨t0, _, _, _, ht0⟩ := run_truncOf n.toNat w
  have H0 := Lib.hid h0
  have HN := Lib.hid hN
  clear h0 hN
  go_enter Try.func14, Try.ntmps14
  go_wp2_with (first | (go_at_call 21; refine (shapeR_lit 91 3 0 1 sh91 _).mono ?_; rintro e w' ⟨rfl, rfl⟩) | (go_at_call 41; refine (ru32_any _ _ _ _).mono ?_; rintro e w' ⟨rfl, rfl⟩) | (go_at_call 40; refine (ri32_any _ _ _ _).mono ?_; rintro e w' ⟨rfl, rfl⟩) | (go_at_call 39; refine (ri64_any _ _ _ _).mono ?_; rintro e w' ⟨rfl, rfl⟩) | (go_at_call 38; refine (rdbl_any _ _ _ _).mono ?_; rintro e w' ⟨rfl, rfl⟩) | (go_at_call 29; refine (rInt_any _ _).mono ?_; rintro e w1 ⟨rfl, h1⟩; obtain ⟨c1, f1⟩ := h1.cells; have z1a := h1.z (n := w.heap.size) (by first | assumption | (simp; done) | (simp; assumption) | (simp; omega)); have z1b := h1.z (n := w.heap.size + 1) (by first | assumption | (simp; done) | (simp; assumption) | (simp; omega))) | (go_at_call 27; refine (rLong_any _ _).mono ?_; rintro e w1 ⟨rfl, h1⟩; obtain ⟨c1, f1⟩ := h1.cells; have z1a := h1.z (n := w.heap.size) (by first | assumption | (simp; done) | (simp; assumption) | (simp; omega)); have z1b := h1.z (n := w.heap.size + 1) (by first | assumption | (simp; done) | (simp; assumption) | (simp; omega))) | (go_at_call 48; refine (rDbl_any _ _).mono ?_; rintro e w1 ⟨rfl, h1⟩; obtain ⟨c1, f1⟩ := h1.cells; have z1a := h1.z (n := w.heap.size) (by first | assumption | (simp; done) | (simp; assumption) | (simp; omega)); have z1b := h1.z (n := w.heap.size + 1) (by first | assumption | (simp; done) | (simp; assumption) | (simp; omega))) | (go_at_call 49; refine (rfrom_91 _ _).mono ?_; rintro e w1 ⟨t, rfl, h1, hT⟩; obtain ⟨c1, f1⟩ := h1.cells; have z1a := h1.z (n := w.heap.size) (by first | assumption | (simp; done) | (simp; assumption) | (simp; omega)); have z1b := h1.z (n := w.heap.size + 1) (by first | assumption | (simp; done) | (simp; assumption) | (simp; omega))))
  all_goals go_light
  all_goals first | (refine bodyPost_ret (v := ?_) ?_ rfl ?_; rotate_left 1; focus (simp [results, Try.results14, go_sem, *]; (try rfl); done)) | go_returns
  all_goals exact ⟨t, ret_valok (by clear hT ht0; simp [eval1L, sh91, bits1L, answerL, turn32, turn64, extendL, doubleL, intL, longL, noneL]), (by (repeat' first | with_reducible exact Fresh.refl _ | with_reducible assumption | with_reducible refine Fresh.alloc ?_ _ _ | with_reducible refine Fresh.drew ?_ | with_reducible refine Fresh.setCell ?_ ?_ _ | with_reducible refine Fresh.trans ?_ (by assumption) | (simp; done) | (simp; omega))), hT⟩
set_option maxRecDepth 100000 in
set_option maxHeartbeats 800000 in
theorem reval_92 (n b : Int) (h0 : 0 ≤ n) (hN : n < 18446744073709551616) (w : World) :
    Calls Try.prog 14 #[.int .i64 92, .agg #[.int .i64 3, .int .u64 n, .int .i64 b]] w (EvalT 92 3 n w) := by
  obtain ⟨t0, _, _, _, ht0⟩ := run_truncOf n.toNat w
  have H0 := Lib.hid h0
  have HN := Lib.hid hN
  clear h0 hN
  go_enter Try.func14, Try.ntmps14
  go_wp2_with (first | (go_at_call 21; refine (shapeR_lit 92 3 0 1 sh92 _).mono ?_; rintro e w' ⟨rfl, rfl⟩) | (go_at_call 41; refine (ru32_any _ _ _ _).mono ?_; rintro e w' ⟨rfl, rfl⟩) | (go_at_call 40; refine (ri32_any _ _ _ _).mono ?_; rintro e w' ⟨rfl, rfl⟩) | (go_at_call 39; refine (ri64_any _ _ _ _).mono ?_; rintro e w' ⟨rfl, rfl⟩) | (go_at_call 38; refine (rdbl_any _ _ _ _).mono ?_; rintro e w' ⟨rfl, rfl⟩) | (go_at_call 29; refine (rInt_any _ _).mono ?_; rintro e w1 ⟨rfl, h1⟩; obtain ⟨c1, f1⟩ := h1.cells; have z1a := h1.z (n := w.heap.size) (by first | assumption | (simp; done) | (simp; assumption) | (simp; omega)); have z1b := h1.z (n := w.heap.size + 1) (by first | assumption | (simp; done) | (simp; assumption) | (simp; omega))) | (go_at_call 27; refine (rLong_any _ _).mono ?_; rintro e w1 ⟨rfl, h1⟩; obtain ⟨c1, f1⟩ := h1.cells; have z1a := h1.z (n := w.heap.size) (by first | assumption | (simp; done) | (simp; assumption) | (simp; omega)); have z1b := h1.z (n := w.heap.size + 1) (by first | assumption | (simp; done) | (simp; assumption) | (simp; omega))) | (go_at_call 48; refine (rDbl_any _ _).mono ?_; rintro e w1 ⟨rfl, h1⟩; obtain ⟨c1, f1⟩ := h1.cells; have z1a := h1.z (n := w.heap.size) (by first | assumption | (simp; done) | (simp; assumption) | (simp; omega)); have z1b := h1.z (n := w.heap.size + 1) (by first | assumption | (simp; done) | (simp; assumption) | (simp; omega))) | (go_at_call 49; refine (rfrom_92 _ _).mono ?_; rintro e w1 ⟨t, rfl, h1, hT⟩; obtain ⟨c1, f1⟩ := h1.cells; have z1a := h1.z (n := w.heap.size) (by first | assumption | (simp; done) | (simp; assumption) | (simp; omega)); have z1b := h1.z (n := w.heap.size + 1) (by first | assumption | (simp; done) | (simp; assumption) | (simp; omega))))
  all_goals go_light
  all_goals first | (refine bodyPost_ret (v := ?_) ?_ rfl ?_; rotate_left 1; focus (simp [results, Try.results14, go_sem, *]; (try rfl); done)) | go_returns
  all_goals exact ⟨t, ret_valok (by clear hT ht0; simp [eval1L, sh92, bits1L, answerL, turn32, turn64, extendL, doubleL, intL, longL, noneL]), (by (repeat' first | with_reducible exact Fresh.refl _ | with_reducible assumption | with_reducible refine Fresh.alloc ?_ _ _ | with_reducible refine Fresh.drew ?_ | with_reducible refine Fresh.setCell ?_ ?_ _ | with_reducible refine Fresh.trans ?_ (by assumption) | (simp; done) | (simp; omega))), hT⟩
set_option maxRecDepth 100000 in
set_option maxHeartbeats 800000 in
theorem reval_93 (n b : Int) (h0 : 0 ≤ n) (hN : n < 18446744073709551616) (w : World) :
    Calls Try.prog 14 #[.int .i64 93, .agg #[.int .i64 3, .int .u64 n, .int .i64 b]] w (EvalT 93 3 n w) := by
  obtain ⟨t0, _, _, _, ht0⟩ := run_truncOf n.toNat w
  have H0 := Lib.hid h0
  have HN := Lib.hid hN
  clear h0 hN
  go_enter Try.func14, Try.ntmps14
  go_wp2_with (first | (go_at_call 21; refine (shapeR_lit 93 3 0 2 sh93 _).mono ?_; rintro e w' ⟨rfl, rfl⟩) | (go_at_call 41; refine (ru32_any _ _ _ _).mono ?_; rintro e w' ⟨rfl, rfl⟩) | (go_at_call 40; refine (ri32_any _ _ _ _).mono ?_; rintro e w' ⟨rfl, rfl⟩) | (go_at_call 39; refine (ri64_any _ _ _ _).mono ?_; rintro e w' ⟨rfl, rfl⟩) | (go_at_call 38; refine (rdbl_any _ _ _ _).mono ?_; rintro e w' ⟨rfl, rfl⟩) | (go_at_call 29; refine (rInt_any _ _).mono ?_; rintro e w1 ⟨rfl, h1⟩; obtain ⟨c1, f1⟩ := h1.cells; have z1a := h1.z (n := w.heap.size) (by first | assumption | (simp; done) | (simp; assumption) | (simp; omega)); have z1b := h1.z (n := w.heap.size + 1) (by first | assumption | (simp; done) | (simp; assumption) | (simp; omega))) | (go_at_call 27; refine (rLong_any _ _).mono ?_; rintro e w1 ⟨rfl, h1⟩; obtain ⟨c1, f1⟩ := h1.cells; have z1a := h1.z (n := w.heap.size) (by first | assumption | (simp; done) | (simp; assumption) | (simp; omega)); have z1b := h1.z (n := w.heap.size + 1) (by first | assumption | (simp; done) | (simp; assumption) | (simp; omega))) | (go_at_call 48; refine (rDbl_any _ _).mono ?_; rintro e w1 ⟨rfl, h1⟩; obtain ⟨c1, f1⟩ := h1.cells; have z1a := h1.z (n := w.heap.size) (by first | assumption | (simp; done) | (simp; assumption) | (simp; omega)); have z1b := h1.z (n := w.heap.size + 1) (by first | assumption | (simp; done) | (simp; assumption) | (simp; omega))) | (go_at_call 49; refine (rfrom_93 _ _).mono ?_; rintro e w1 ⟨t, rfl, h1, hT⟩; obtain ⟨c1, f1⟩ := h1.cells; have z1a := h1.z (n := w.heap.size) (by first | assumption | (simp; done) | (simp; assumption) | (simp; omega)); have z1b := h1.z (n := w.heap.size + 1) (by first | assumption | (simp; done) | (simp; assumption) | (simp; omega))))
  all_goals go_light
  all_goals first | (refine bodyPost_ret (v := ?_) ?_ rfl ?_; rotate_left 1; focus (simp [results, Try.results14, go_sem, *]; (try rfl); done)) | go_returns
  all_goals exact ⟨t, ret_valok (by clear hT ht0; simp [eval1L, sh93, bits1L, answerL, turn32, turn64, extendL, doubleL, intL, longL, noneL]), (by (repeat' first | with_reducible exact Fresh.refl _ | with_reducible assumption | with_reducible refine Fresh.alloc ?_ _ _ | with_reducible refine Fresh.drew ?_ | with_reducible refine Fresh.setCell ?_ ?_ _ | with_reducible refine Fresh.trans ?_ (by assumption) | (simp; done) | (simp; omega))), hT⟩
set_option maxRecDepth 100000 in
set_option maxHeartbeats 800000 in
theorem reval_94 (n b : Int) (h0 : 0 ≤ n) (hN : n < 18446744073709551616) (w : World) :
    Calls Try.prog 14 #[.int .i64 94, .agg #[.int .i64 3, .int .u64 n, .int .i64 b]] w (EvalT 94 3 n w) := by
  obtain ⟨t0, _, _, _, ht0⟩ := run_truncOf n.toNat w
  have H0 := Lib.hid h0
  have HN := Lib.hid hN
  clear h0 hN
  go_enter Try.func14, Try.ntmps14
  go_wp2_with (first | (go_at_call 21; refine (shapeR_lit 94 3 0 2 sh94 _).mono ?_; rintro e w' ⟨rfl, rfl⟩) | (go_at_call 41; refine (ru32_any _ _ _ _).mono ?_; rintro e w' ⟨rfl, rfl⟩) | (go_at_call 40; refine (ri32_any _ _ _ _).mono ?_; rintro e w' ⟨rfl, rfl⟩) | (go_at_call 39; refine (ri64_any _ _ _ _).mono ?_; rintro e w' ⟨rfl, rfl⟩) | (go_at_call 38; refine (rdbl_any _ _ _ _).mono ?_; rintro e w' ⟨rfl, rfl⟩) | (go_at_call 29; refine (rInt_any _ _).mono ?_; rintro e w1 ⟨rfl, h1⟩; obtain ⟨c1, f1⟩ := h1.cells; have z1a := h1.z (n := w.heap.size) (by first | assumption | (simp; done) | (simp; assumption) | (simp; omega)); have z1b := h1.z (n := w.heap.size + 1) (by first | assumption | (simp; done) | (simp; assumption) | (simp; omega))) | (go_at_call 27; refine (rLong_any _ _).mono ?_; rintro e w1 ⟨rfl, h1⟩; obtain ⟨c1, f1⟩ := h1.cells; have z1a := h1.z (n := w.heap.size) (by first | assumption | (simp; done) | (simp; assumption) | (simp; omega)); have z1b := h1.z (n := w.heap.size + 1) (by first | assumption | (simp; done) | (simp; assumption) | (simp; omega))) | (go_at_call 48; refine (rDbl_any _ _).mono ?_; rintro e w1 ⟨rfl, h1⟩; obtain ⟨c1, f1⟩ := h1.cells; have z1a := h1.z (n := w.heap.size) (by first | assumption | (simp; done) | (simp; assumption) | (simp; omega)); have z1b := h1.z (n := w.heap.size + 1) (by first | assumption | (simp; done) | (simp; assumption) | (simp; omega))) | (go_at_call 49; refine (rfrom_94 _ _).mono ?_; rintro e w1 ⟨t, rfl, h1, hT⟩; obtain ⟨c1, f1⟩ := h1.cells; have z1a := h1.z (n := w.heap.size) (by first | assumption | (simp; done) | (simp; assumption) | (simp; omega)); have z1b := h1.z (n := w.heap.size + 1) (by first | assumption | (simp; done) | (simp; assumption) | (simp; omega))))
  all_goals go_light
  all_goals first | (refine bodyPost_ret (v := ?_) ?_ rfl ?_; rotate_left 1; focus (simp [results, Try.results14, go_sem, *]; (try rfl); done)) | go_returns
  all_goals exact ⟨t, ret_valok (by clear hT ht0; simp [eval1L, sh94, bits1L, answerL, turn32, turn64, extendL, doubleL, intL, longL, noneL]), (by (repeat' first | with_reducible exact Fresh.refl _ | with_reducible assumption | with_reducible refine Fresh.alloc ?_ _ _ | with_reducible refine Fresh.drew ?_ | with_reducible refine Fresh.setCell ?_ ?_ _ | with_reducible refine Fresh.trans ?_ (by assumption) | (simp; done) | (simp; omega))), hT⟩
end Go.Proofs.Ytopnbdblgfjnpaa
