/- What the document's own answers give of whole numbers of 32 bits: cut to 32 bits, the same as mach's. -/
import Derived.Test.YtjbflmpnmobngaaYb
import Derived.Deep.RegionHeld3
import Derived.Test.YtjbflmpnmobngaaYa
namespace Go.Proofs.Ytjbflmpnmobngaa.two
set_option linter.unusedSimpArgs false
set_option linter.unusedVariables false
open Go.RowKit
theorem rwhole32_3 (x y : Int) (w : World) :
    Calls Try.prog 76 #[.int .i64 3, .int .u64 x, .int .u64 y, .int .i64 32] w (R32 3 x y w) := by
  have hX : 0 ≤ x % 4294967296 := by omega
  have hX' : x % 4294967296 < 4294967296 := by omega
  have hY : 0 ≤ y % 4294967296 := by omega
  have hY' : y % 4294967296 < 4294967296 := by omega
  have hm : ¬ wrap64 (wrap32 (x % 4294967296)) = -9223372036854775808 := by unfold wrap64 wrap32; omega
  by_cases hn : wrap64 (wrap32 (x % 4294967296)) = -2147483648 <;>
  · go_enter Try.func76, Try.ntmps76
    go_wp2
    all_goals (go_returns; go_light)
    all_goals exact R32_mk (by simp [whole32, isShiftL]) (fun _ => by simp [whole32, arith32, isShiftL, IntKind.wrap_u64]; try omega)
theorem rwhole32_4 (x y : Int) (w : World) :
    Calls Try.prog 76 #[.int .i64 4, .int .u64 x, .int .u64 y, .int .i64 32] w (R32 4 x y w) := by
  have hX : 0 ≤ x % 4294967296 := by omega
  have hX' : x % 4294967296 < 4294967296 := by omega
  have hY : 0 ≤ y % 4294967296 := by omega
  have hY' : y % 4294967296 < 4294967296 := by omega
  have hm : ¬ wrap64 (wrap32 (x % 4294967296)) = -9223372036854775808 := by unfold wrap64 wrap32; omega
  by_cases hn : wrap64 (wrap32 (x % 4294967296)) = -2147483648 <;>
  · go_enter Try.func76, Try.ntmps76
    go_wp2
    all_goals (go_returns; go_light)
    all_goals exact R32_mk (by simp [whole32, isShiftL]) (fun _ => by simp [whole32, arith32, isShiftL, IntKind.wrap_u64]; try omega)
theorem rwhole32_5 (x y : Int) (w : World) :
    Calls Try.prog 76 #[.int .i64 5, .int .u64 x, .int .u64 y, .int .i64 32] w (R32 5 x y w) := by
  have hX : 0 ≤ x % 4294967296 := by omega
  have hX' : x % 4294967296 < 4294967296 := by omega
  have hY : 0 ≤ y % 4294967296 := by omega
  have hY' : y % 4294967296 < 4294967296 := by omega
  have hm : ¬ wrap64 (wrap32 (x % 4294967296)) = -9223372036854775808 := by unfold wrap64 wrap32; omega
  by_cases hn : wrap64 (wrap32 (x % 4294967296)) = -2147483648 <;>
  · go_enter Try.func76, Try.ntmps76
    go_wp2
    all_goals (go_returns; go_light)
    all_goals exact R32_mk (by simp [whole32, isShiftL]) (fun _ => by simp only [IntKind.wrap_u64]; rw [Int.emod_emod_of_dvd _ (by decide)]; simp [whole32, arith32, isShiftL])
theorem rwhole32_10 (x y : Int) (w : World) :
    Calls Try.prog 76 #[.int .i64 10, .int .u64 x, .int .u64 y, .int .i64 32] w (R32 10 x y w) := by
  have hX : 0 ≤ x % 4294967296 := by omega
  have hX' : x % 4294967296 < 4294967296 := by omega
  have hY : 0 ≤ y % 4294967296 := by omega
  have hY' : y % 4294967296 < 4294967296 := by omega
  have hm : ¬ wrap64 (wrap32 (x % 4294967296)) = -9223372036854775808 := by unfold wrap64 wrap32; omega
  by_cases hn : wrap64 (wrap32 (x % 4294967296)) = -2147483648 <;>
  · go_enter Try.func76, Try.ntmps76
    go_wp2
    all_goals (go_returns; go_light)
    all_goals exact R32_mk (by simp [whole32, isShiftL]) (fun _ => by rw [bits_and32 hX hX' hY hY']; simp [whole32, arith32, isShiftL])
theorem rwhole32_11 (x y : Int) (w : World) :
    Calls Try.prog 76 #[.int .i64 11, .int .u64 x, .int .u64 y, .int .i64 32] w (R32 11 x y w) := by
  have hX : 0 ≤ x % 4294967296 := by omega
  have hX' : x % 4294967296 < 4294967296 := by omega
  have hY : 0 ≤ y % 4294967296 := by omega
  have hY' : y % 4294967296 < 4294967296 := by omega
  have hm : ¬ wrap64 (wrap32 (x % 4294967296)) = -9223372036854775808 := by unfold wrap64 wrap32; omega
  by_cases hn : wrap64 (wrap32 (x % 4294967296)) = -2147483648 <;>
  · go_enter Try.func76, Try.ntmps76
    go_wp2
    all_goals (go_returns; go_light)
    all_goals exact R32_mk (by simp [whole32, isShiftL]) (fun _ => by rw [bits_or32 hX hX' hY hY']; simp [whole32, arith32, isShiftL])
theorem rwhole32_12 (x y : Int) (w : World) :
    Calls Try.prog 76 #[.int .i64 12, .int .u64 x, .int .u64 y, .int .i64 32] w (R32 12 x y w) := by
  have hX : 0 ≤ x % 4294967296 := by omega
  have hX' : x % 4294967296 < 4294967296 := by omega
  have hY : 0 ≤ y % 4294967296 := by omega
  have hY' : y % 4294967296 < 4294967296 := by omega
  have hm : ¬ wrap64 (wrap32 (x % 4294967296)) = -9223372036854775808 := by unfold wrap64 wrap32; omega
  by_cases hn : wrap64 (wrap32 (x % 4294967296)) = -2147483648 <;>
  · go_enter Try.func76, Try.ntmps76
    go_wp2
    all_goals (go_returns; go_light)
    all_goals exact R32_mk (by simp [whole32, isShiftL]) (fun _ => by rw [bits_xor32 hX hX' hY hY']; simp [whole32, arith32, isShiftL])
theorem rwhole32_6 (x y : Int) (w : World) :
    Calls Try.prog 76 #[.int .i64 6, .int .u64 x, .int .u64 y, .int .i64 32] w (R32 6 x y w) := by
  have hX : 0 ≤ x % 4294967296 := by omega
  have hX' : x % 4294967296 < 4294967296 := by omega
  have hY : 0 ≤ y % 4294967296 := by omega
  have hY' : y % 4294967296 < 4294967296 := by omega
  have hm : ¬ wrap64 (wrap32 (x % 4294967296)) = -9223372036854775808 := by unfold wrap64 wrap32; omega
  by_cases hn : wrap64 (wrap32 (x % 4294967296)) = -2147483648 <;> by_cases hy0 : wrap64 (wrap32 (y % 4294967296)) = 0 <;> by_cases hy1 : wrap64 (wrap32 (y % 4294967296)) = -1
  all_goals
    go_enter Try.func76, Try.ntmps76
    go_wp2
    all_goals (go_returns; go_light)
    all_goals (have hl := low32_eq _ hX hX'; simp only [wrap64_32] at *)
    all_goals exact R32_mk (by simp_all [whole32, divS32, isShiftL]) (fun hc => by first | exact Bool.noConfusion hc | (simp_all [whole32, divS32, isShiftL, IntKind.wrap_u64, Int.tmod_eq_emod_of_nonneg]; try (unfold wrap64 wrap32; omega)))
theorem rwhole32_8 (x y : Int) (w : World) :
    Calls Try.prog 76 #[.int .i64 8, .int .u64 x, .int .u64 y, .int .i64 32] w (R32 8 x y w) := by
  have hX : 0 ≤ x % 4294967296 := by omega
  have hX' : x % 4294967296 < 4294967296 := by omega
  have hY : 0 ≤ y % 4294967296 := by omega
  have hY' : y % 4294967296 < 4294967296 := by omega
  have hm : ¬ wrap64 (wrap32 (x % 4294967296)) = -9223372036854775808 := by unfold wrap64 wrap32; omega
  by_cases hn : wrap64 (wrap32 (x % 4294967296)) = -2147483648 <;> by_cases hy0 : wrap64 (wrap32 (y % 4294967296)) = 0 <;> by_cases hy1 : wrap64 (wrap32 (y % 4294967296)) = -1
  all_goals
    go_enter Try.func76, Try.ntmps76
    go_wp2
    all_goals (go_returns; go_light)
    all_goals (have hl := low32_eq _ hX hX'; simp only [wrap64_32] at *)
    all_goals exact R32_mk (by simp_all [whole32, divS32, isShiftL]) (fun hc => by first | exact Bool.noConfusion hc | (simp_all [whole32, divS32, isShiftL, IntKind.wrap_u64, Int.tmod_eq_emod_of_nonneg]; try (unfold wrap64 wrap32; omega)))
theorem rwhole32_7 (x y : Int) (w : World) :
    Calls Try.prog 76 #[.int .i64 7, .int .u64 x, .int .u64 y, .int .i64 32] w (R32 7 x y w) := by
  have hX : 0 ≤ x % 4294967296 := by omega
  have hX' : x % 4294967296 < 4294967296 := by omega
  have hY : 0 ≤ y % 4294967296 := by omega
  have hY' : y % 4294967296 < 4294967296 := by omega
  have hm : ¬ wrap64 (wrap32 (x % 4294967296)) = -9223372036854775808 := by unfold wrap64 wrap32; omega
  by_cases hn : wrap64 (wrap32 (x % 4294967296)) = -2147483648 <;> by_cases hy0 : y % 4294967296 = 0
  all_goals
    (try have hy1 : 1 ≤ y % 4294967296 := by omega)
    go_enter Try.func76, Try.ntmps76
    go_wp2
    all_goals (go_returns; go_light)
    all_goals exact R32_mk (by simp [whole32, divU32, isShiftL, *]) (fun hc => by first | exact Bool.noConfusion hc | (simp [whole32, divU32, isShiftL, *]; try first | rw [Int.tdiv_eq_ediv_of_nonneg hX] | exact mod32 hX hY' hy1))
theorem rwhole32_9 (x y : Int) (w : World) :
    Calls Try.prog 76 #[.int .i64 9, .int .u64 x, .int .u64 y, .int .i64 32] w (R32 9 x y w) := by
  have hX : 0 ≤ x % 4294967296 := by omega
  have hX' : x % 4294967296 < 4294967296 := by omega
  have hY : 0 ≤ y % 4294967296 := by omega
  have hY' : y % 4294967296 < 4294967296 := by omega
  have hm : ¬ wrap64 (wrap32 (x % 4294967296)) = -9223372036854775808 := by unfold wrap64 wrap32; omega
  by_cases hn : wrap64 (wrap32 (x % 4294967296)) = -2147483648 <;> by_cases hy0 : y % 4294967296 = 0
  all_goals
    (try have hy1 : 1 ≤ y % 4294967296 := by omega)
    go_enter Try.func76, Try.ntmps76
    go_wp2
    all_goals (go_returns; go_light)
    all_goals exact R32_mk (by simp [whole32, divU32, isShiftL, *]) (fun hc => by first | exact Bool.noConfusion hc | (simp [whole32, divU32, isShiftL, *]; try first | rw [Int.tdiv_eq_ediv_of_nonneg hX] | exact mod32 hX hY' hy1))
end Go.Proofs.Ytjbflmpnmobngaa.two
/- The document's own answer of an operation of two, by the operation's kinds. -/
namespace Go.Proofs.Ytjbflmpnmobngaa.two
set_option linter.unusedSimpArgs false
set_option linter.unusedVariables false
open Go.RowKit

def longAns (p : Int × Bool) : (Int × Int × Int) × Bool := if p.2 then (longL (wrap64 p.1), true) else noneL
def intAns (p : Int × Bool) : (Int × Int × Int) × Bool := if p.2 then ((1, p.1, 0), true) else noneL
theorem shapeR_of (o a s r : Int) (h : shapeL o = (a, s, r)) (w : World) :
    Calls Try.prog 66 #[.int .i64 o] w fun e w' => e = .returned (.tuple #[.int .i64 a, .int .i64 s, .int .i64 r]) ∧ w = w' := by
  have := shapeR_any o w
  rw [h] at this
  exact this
theorem rwhole64_any (o x y : Int) (h1 : 3 ≤ o) (h2 : o ≤ 12) (hx : 0 ≤ x) (hx' : x < 18446744073709551616) (hy : 0 ≤ y) (w : World) :
    Calls Try.prog 76 #[.int .i64 o, .int .u64 x, .int .u64 y, .int .i64 64] w fun e w' => e = .returned (.tuple #[.int .u64 (whole64 o x y).1, .bool (whole64 o x y).2]) ∧ w = w' := by
  have h : o = 3 ∨ o = 4 ∨ o = 5 ∨ o = 6 ∨ o = 7 ∨ o = 8 ∨ o = 9 ∨ o = 10 ∨ o = 11 ∨ o = 12 := by omega
  rcases h with rfl | rfl | rfl | rfl | rfl | rfl | rfl | rfl | rfl | rfl
  · exact rwhole64_3 x y w
  · exact rwhole64_4 x y w
  · exact rwhole64_5 x y w
  · exact rwhole64_6 x y hx hx' w
  · exact rwhole64_7 x y hx hy w
  · exact rwhole64_8 x y hx hx' w
  · exact rwhole64_9 x y hx hy w
  · exact rwhole64_10 x y w
  · exact rwhole64_11 x y w
  · exact rwhole64_12 x y w
theorem rwhole32_any (o x y : Int) (h1 : 3 ≤ o) (h2 : o ≤ 12) (w : World) :
    Calls Try.prog 76 #[.int .i64 o, .int .u64 x, .int .u64 y, .int .i64 32] w (R32 o x y w) := by
  have h : o = 3 ∨ o = 4 ∨ o = 5 ∨ o = 6 ∨ o = 7 ∨ o = 8 ∨ o = 9 ∨ o = 10 ∨ o = 11 ∨ o = 12 := by omega
  rcases h with rfl | rfl | rfl | rfl | rfl | rfl | rfl | rfl | rfl | rfl
  · exact rwhole32_3 x y w
  · exact rwhole32_4 x y w
  · exact rwhole32_5 x y w
  · exact rwhole32_6 x y w
  · exact rwhole32_7 x y w
  · exact rwhole32_8 x y w
  · exact rwhole32_9 x y w
  · exact rwhole32_10 x y w
  · exact rwhole32_11 x y w
  · exact rwhole32_12 x y w
set_option maxRecDepth 100000 in
set_option maxHeartbeats 2000000 in
theorem re_z (o k n b k' n' b' : Int) (a r : Int) (hs : Hid (shapeL o = (a, 0, r))) (w : World) :
    Calls Try.prog 55 #[.int .i64 o, .agg #[.int .i64 k, .int .u64 n, .int .i64 b], .agg #[.int .i64 k', .int .u64 n', .int .i64 b']] w fun e w' => e = .returned (.tuple #[.agg #[.int .i64 (noneL).1.1, .int .u64 (noneL).1.2.1, .int .i64 (noneL).1.2.2], .bool (noneL).2]) ∧ Fresh w w' := by
  go_enter Try.func55, Try.ntmps55
  go_wp2_with (first | (go_at_call 66; refine (shapeR_of _ _ _ _ hs.out _).mono ?_; rintro e w' ⟨rfl, rfl⟩))
  all_goals go_light
  all_goals first | (refine bodyPost_ret (v := ?_) ?_ rfl ?_; rotate_left 1; focus (simp [results, Try.results55, go_sem, *]; (try rfl); done)) | go_returns
  all_goals exact ⟨ret_valok (by rfl), by (repeat' first | with_reducible exact Fresh.refl _ | with_reducible assumption | with_reducible refine Fresh.alloc ?_ _ _ | with_reducible refine Fresh.drew ?_ | with_reducible refine Fresh.setCell ?_ ?_ _ | with_reducible refine Fresh.trans ?_ (by assumption) | (simp; done) | (simp; omega))⟩
set_option maxRecDepth 100000 in
set_option maxHeartbeats 2000000 in
theorem re_n1 (o k n b k' n' b' : Int) (a s r : Int) (hs : Hid (shapeL o = (a, s, r))) (h0 : (s == 0) = false) (h2 : (s == 2) = false) (hk : (k != a) = true) (w : World) :
    Calls Try.prog 55 #[.int .i64 o, .agg #[.int .i64 k, .int .u64 n, .int .i64 b], .agg #[.int .i64 k', .int .u64 n', .int .i64 b']] w fun e w' => e = .returned (.tuple #[.agg #[.int .i64 (noneL).1.1, .int .u64 (noneL).1.2.1, .int .i64 (noneL).1.2.2], .bool (noneL).2]) ∧ Fresh w w' := by
  go_enter Try.func55, Try.ntmps55
  go_wp2_with (first | (go_at_call 66; refine (shapeR_of _ _ _ _ hs.out _).mono ?_; rintro e w' ⟨rfl, rfl⟩))
  all_goals go_light
  all_goals first | (refine bodyPost_ret (v := ?_) ?_ rfl ?_; rotate_left 1; focus (simp [results, Try.results55, go_sem, *]; (try rfl); done)) | go_returns
  all_goals exact ⟨ret_valok (by rfl), by (repeat' first | with_reducible exact Fresh.refl _ | with_reducible assumption | with_reducible refine Fresh.alloc ?_ _ _ | with_reducible refine Fresh.drew ?_ | with_reducible refine Fresh.setCell ?_ ?_ _ | with_reducible refine Fresh.trans ?_ (by assumption) | (simp; done) | (simp; omega))⟩
set_option maxRecDepth 100000 in
set_option maxHeartbeats 2000000 in
theorem re_n2 (o k n b k' n' b' : Int) (a s r : Int) (hs : Hid (shapeL o = (a, s, r))) (h0 : (s == 0) = false) (h2 : (s == 2) = false) (hk : (k != a) = false) (hk' : (k' != s) = true) (w : World) :
    Calls Try.prog 55 #[.int .i64 o, .agg #[.int .i64 k, .int .u64 n, .int .i64 b], .agg #[.int .i64 k', .int .u64 n', .int .i64 b']] w fun e w' => e = .returned (.tuple #[.agg #[.int .i64 (noneL).1.1, .int .u64 (noneL).1.2.1, .int .i64 (noneL).1.2.2], .bool (noneL).2]) ∧ Fresh w w' := by
  go_enter Try.func55, Try.ntmps55
  go_wp2_with (first | (go_at_call 66; refine (shapeR_of _ _ _ _ hs.out _).mono ?_; rintro e w' ⟨rfl, rfl⟩))
  all_goals go_light
  all_goals first | (refine bodyPost_ret (v := ?_) ?_ rfl ?_; rotate_left 1; focus (simp [results, Try.results55, go_sem, *]; (try rfl); done)) | go_returns
  all_goals exact ⟨ret_valok (by rfl), by (repeat' first | with_reducible exact Fresh.refl _ | with_reducible assumption | with_reducible refine Fresh.alloc ?_ _ _ | with_reducible refine Fresh.drew ?_ | with_reducible refine Fresh.setCell ?_ ?_ _ | with_reducible refine Fresh.trans ?_ (by assumption) | (simp; done) | (simp; omega))⟩
set_option maxRecDepth 100000 in
set_option maxHeartbeats 2000000 in
theorem re_n3 (o k n b k' n' b' : Int) (r : Int) (hs : Hid (shapeL o = (2, 2, r))) (h4 : (k == 4) = false) (h4' : (k' == 4) = false) (hk : (k != 2) = true) (ho : 31 ≤ o) (ho' : o ≤ 55) (w : World) :
    Calls Try.prog 55 #[.int .i64 o, .agg #[.int .i64 k, .int .u64 n, .int .i64 b], .agg #[.int .i64 k', .int .u64 n', .int .i64 b']] w fun e w' => e = .returned (.tuple #[.agg #[.int .i64 (noneL).1.1, .int .u64 (noneL).1.2.1, .int .i64 (noneL).1.2.2], .bool (noneL).2]) ∧ Fresh w w' := by
  go_enter Try.func55, Try.ntmps55
  go_wp2_with (first | (go_at_call 66; refine (shapeR_of _ _ _ _ hs.out _).mono ?_; rintro e w' ⟨rfl, rfl⟩))
  all_goals go_light
  all_goals first | (refine bodyPost_ret (v := ?_) ?_ rfl ?_; rotate_left 1; focus (simp [results, Try.results55, go_sem, *]; (try rfl); done)) | go_returns
  all_goals exact ⟨ret_valok (by rfl), by (repeat' first | with_reducible exact Fresh.refl _ | with_reducible assumption | with_reducible refine Fresh.alloc ?_ _ _ | with_reducible refine Fresh.drew ?_ | with_reducible refine Fresh.setCell ?_ ?_ _ | with_reducible refine Fresh.trans ?_ (by assumption) | (simp; done) | (simp; omega))⟩
set_option maxRecDepth 100000 in
set_option maxHeartbeats 2000000 in
theorem re_n4 (o k n b k' n' b' : Int) (r : Int) (hs : Hid (shapeL o = (2, 2, r))) (h4 : (k == 4) = false) (h4' : (k' == 4) = false) (hk : (k != 2) = false) (hk' : (k' != 2) = true) (ho : 31 ≤ o) (ho' : o ≤ 55) (w : World) :
    Calls Try.prog 55 #[.int .i64 o, .agg #[.int .i64 k, .int .u64 n, .int .i64 b], .agg #[.int .i64 k', .int .u64 n', .int .i64 b']] w fun e w' => e = .returned (.tuple #[.agg #[.int .i64 (noneL).1.1, .int .u64 (noneL).1.2.1, .int .i64 (noneL).1.2.2], .bool (noneL).2]) ∧ Fresh w w' := by
  go_enter Try.func55, Try.ntmps55
  go_wp2_with (first | (go_at_call 66; refine (shapeR_of _ _ _ _ hs.out _).mono ?_; rintro e w' ⟨rfl, rfl⟩))
  all_goals go_light
  all_goals first | (refine bodyPost_ret (v := ?_) ?_ rfl ?_; rotate_left 1; focus (simp [results, Try.results55, go_sem, *]; (try rfl); done)) | go_returns
  all_goals exact ⟨ret_valok (by rfl), by (repeat' first | with_reducible exact Fresh.refl _ | with_reducible assumption | with_reducible refine Fresh.alloc ?_ _ _ | with_reducible refine Fresh.drew ?_ | with_reducible refine Fresh.setCell ?_ ?_ _ | with_reducible refine Fresh.trans ?_ (by assumption) | (simp; done) | (simp; omega))⟩
set_option maxRecDepth 100000 in
set_option maxHeartbeats 2000000 in
theorem re_p1 (o k n b k' n' b' : Int) (r : Int) (hs : Hid (shapeL o = (2, 2, r))) (ho : 31 ≤ o) (ho' : o ≤ 55) (hk : (k == 4) = true) (ha : 1 ≤ o - 30) (hb : o - 30 ≤ 25) (hp : Hid (k = 4 ∨ k' = 4)) (hn : 0 ≤ n) (hN : n < 18446744073709551616) (hn' : 0 ≤ n') (hN' : n' < 18446744073709551616) (w : World) :
    Calls Try.prog 55 #[.int .i64 o, .agg #[.int .i64 k, .int .u64 n, .int .i64 b], .agg #[.int .i64 k', .int .u64 n', .int .i64 b']] w fun e w' => e = .returned (.tuple #[.agg #[.int .i64 (pointersL o k n b k' n' b').1.1, .int .u64 (pointersL o k n b k' n' b').1.2.1, .int .i64 (pointersL o k n b k' n' b').1.2.2], .bool (pointersL o k n b k' n' b').2]) ∧ Fresh w w' := by
  go_enter Try.func55, Try.ntmps55
  go_wp2_with (first | (go_at_call 66; refine (shapeR_of _ _ _ _ hs.out _).mono ?_; rintro e w' ⟨rfl, rfl⟩) | (go_at_call 67; refine (rpointers_any _ _ _ _ _ _ _ ha hb hp.out hn hN hn' hN' _).mono ?_; rintro e w1 ⟨rfl, h1⟩; obtain ⟨c1, f1⟩ := h1.cells; have z1a := h1.z (n := w.heap.size) (by first | assumption | (simp; done) | (simp; assumption) | (simp; omega)); have z1b := h1.z (n := w.heap.size + 1) (by first | assumption | (simp; done) | (simp; assumption) | (simp; omega)); have z1c := h1.z (n := w.heap.size + 1 + 1) (by first | assumption | (simp; done) | (simp; assumption) | (simp; omega))))
  all_goals go_light
  all_goals first | (refine bodyPost_ret (v := ?_) ?_ rfl ?_; rotate_left 1; focus (simp [results, Try.results55, go_sem, *]; (try rfl); done)) | go_returns
  all_goals exact ⟨ret_valok (by rfl), by (repeat' first | with_reducible exact Fresh.refl _ | with_reducible assumption | with_reducible refine Fresh.alloc ?_ _ _ | with_reducible refine Fresh.drew ?_ | with_reducible refine Fresh.setCell ?_ ?_ _ | with_reducible refine Fresh.trans ?_ (by assumption) | (simp; done) | (simp; omega))⟩
set_option maxRecDepth 100000 in
set_option maxHeartbeats 2000000 in
theorem re_p2 (o k n b k' n' b' : Int) (r : Int) (hs : Hid (shapeL o = (2, 2, r))) (ho : 31 ≤ o) (ho' : o ≤ 55) (hk : (k == 4) = false) (hk' : (k' == 4) = true) (ha : 1 ≤ o - 30) (hb : o - 30 ≤ 25) (hp : Hid (k = 4 ∨ k' = 4)) (hn : 0 ≤ n) (hN : n < 18446744073709551616) (hn' : 0 ≤ n') (hN' : n' < 18446744073709551616) (w : World) :
    Calls Try.prog 55 #[.int .i64 o, .agg #[.int .i64 k, .int .u64 n, .int .i64 b], .agg #[.int .i64 k', .int .u64 n', .int .i64 b']] w fun e w' => e = .returned (.tuple #[.agg #[.int .i64 (pointersL o k n b k' n' b').1.1, .int .u64 (pointersL o k n b k' n' b').1.2.1, .int .i64 (pointersL o k n b k' n' b').1.2.2], .bool (pointersL o k n b k' n' b').2]) ∧ Fresh w w' := by
  go_enter Try.func55, Try.ntmps55
  go_wp2_with (first | (go_at_call 66; refine (shapeR_of _ _ _ _ hs.out _).mono ?_; rintro e w' ⟨rfl, rfl⟩) | (go_at_call 67; refine (rpointers_any _ _ _ _ _ _ _ ha hb hp.out hn hN hn' hN' _).mono ?_; rintro e w1 ⟨rfl, h1⟩; obtain ⟨c1, f1⟩ := h1.cells; have z1a := h1.z (n := w.heap.size) (by first | assumption | (simp; done) | (simp; assumption) | (simp; omega)); have z1b := h1.z (n := w.heap.size + 1) (by first | assumption | (simp; done) | (simp; assumption) | (simp; omega)); have z1c := h1.z (n := w.heap.size + 1 + 1) (by first | assumption | (simp; done) | (simp; assumption) | (simp; omega))))
  all_goals go_light
  all_goals first | (refine bodyPost_ret (v := ?_) ?_ rfl ?_; rotate_left 1; focus (simp [results, Try.results55, go_sem, *]; (try rfl); done)) | go_returns
  all_goals exact ⟨ret_valok (by rfl), by (repeat' first | with_reducible exact Fresh.refl _ | with_reducible assumption | with_reducible refine Fresh.alloc ?_ _ _ | with_reducible refine Fresh.drew ?_ | with_reducible refine Fresh.setCell ?_ ?_ _ | with_reducible refine Fresh.trans ?_ (by assumption) | (simp; done) | (simp; omega))⟩
set_option maxRecDepth 100000 in
set_option maxHeartbeats 2000000 in
theorem re_w64 (o n b n' b' : Int) (hs : Hid (shapeL o = (2, 2, 2))) (ha : 3 ≤ o - 30) (hb : o - 30 ≤ 12) (ho : 33 ≤ o) (ho' : o ≤ 42) (hn : 0 ≤ n) (hN : n < 18446744073709551616) (hn' : 0 ≤ n') (w : World) :
    Calls Try.prog 55 #[.int .i64 o, .agg #[.int .i64 2, .int .u64 n, .int .i64 b], .agg #[.int .i64 2, .int .u64 n', .int .i64 b']] w fun e w' => e = .returned (.tuple #[.agg #[.int .i64 (longAns (whole64 (o - 30) n n')).1.1, .int .u64 (longAns (whole64 (o - 30) n n')).1.2.1, .int .i64 (longAns (whole64 (o - 30) n n')).1.2.2], .bool (longAns (whole64 (o - 30) n n')).2]) ∧ Fresh w w' := by
  go_enter Try.func55, Try.ntmps55
  go_wp2_with (first | (go_at_call 66; refine (shapeR_of _ _ _ _ hs.out _).mono ?_; rintro e w' ⟨rfl, rfl⟩) | (go_at_call 76; refine (rwhole64_any _ _ _ ha hb hn hN hn' _).mono ?_; rintro e w' ⟨rfl, rfl⟩) | (go_at_call 40; refine (rLong_any _ _).mono ?_; rintro e w2 ⟨rfl, h2⟩; obtain ⟨c2, f2⟩ := h2.cells; have z2a := h2.z (n := w.heap.size) (by first | assumption | (simp; done) | (simp; assumption) | (simp; omega)); have z2b := h2.z (n := w.heap.size + 1) (by first | assumption | (simp; done) | (simp; assumption) | (simp; omega)); have z2c := h2.z (n := w.heap.size + 1 + 1) (by first | assumption | (simp; done) | (simp; assumption) | (simp; omega))))
  all_goals go_light
  all_goals first | (refine bodyPost_ret (v := ?_) ?_ rfl ?_; rotate_left 1; focus (simp [results, Try.results55, go_sem, *]; (try rfl); done)) | go_returns
  all_goals exact ⟨ret_valok (by simp_all [longAns, noneL]), by (repeat' first | with_reducible exact Fresh.refl _ | with_reducible assumption | with_reducible refine Fresh.alloc ?_ _ _ | with_reducible refine Fresh.drew ?_ | with_reducible refine Fresh.setCell ?_ ?_ _ | with_reducible refine Fresh.trans ?_ (by assumption) | (simp; done) | (simp; omega))⟩
set_option maxRecDepth 100000 in
set_option maxHeartbeats 2000000 in
theorem re_s64 (o n b n' b' : Int) (hs : Hid (shapeL o = (2, 1, 2))) (ha : 13 ≤ o - 30) (hb : o - 30 ≤ 15) (ho : 43 ≤ o) (ho' : o ≤ 45) (w : World) :
    Calls Try.prog 55 #[.int .i64 o, .agg #[.int .i64 2, .int .u64 n, .int .i64 b], .agg #[.int .i64 1, .int .u64 n', .int .i64 b']] w fun e w' => e = .returned (.tuple #[.agg #[.int .i64 (longAns (shiftT64 (o - 30) n (n' % 4294967296))).1.1, .int .u64 (longAns (shiftT64 (o - 30) n (n' % 4294967296))).1.2.1, .int .i64 (longAns (shiftT64 (o - 30) n (n' % 4294967296))).1.2.2], .bool (longAns (shiftT64 (o - 30) n (n' % 4294967296))).2]) ∧ Fresh w w' := by
  go_enter Try.func55, Try.ntmps55
  go_wp2_with (first | (go_at_call 66; refine (shapeR_of _ _ _ _ hs.out _).mono ?_; rintro e w' ⟨rfl, rfl⟩) | (go_at_call 75; refine (rshift64_any _ _ _ _ ha hb _).mono ?_; rintro e w1 ⟨rfl, h1⟩; obtain ⟨c1, f1⟩ := h1.cells; have z1a := h1.z (n := w.heap.size) (by first | assumption | (simp; done) | (simp; assumption) | (simp; omega)); have z1b := h1.z (n := w.heap.size + 1) (by first | assumption | (simp; done) | (simp; assumption) | (simp; omega)); have z1c := h1.z (n := w.heap.size + 1 + 1) (by first | assumption | (simp; done) | (simp; assumption) | (simp; omega))) | (go_at_call 40; refine (rLong_any _ _).mono ?_; rintro e w2 ⟨rfl, h2⟩; obtain ⟨c2, f2⟩ := h2.cells; have z2a := h2.z (n := w.heap.size) (by first | assumption | (simp; done) | (simp; assumption) | (simp; omega)); have z2b := h2.z (n := w.heap.size + 1) (by first | assumption | (simp; done) | (simp; assumption) | (simp; omega)); have z2c := h2.z (n := w.heap.size + 1 + 1) (by first | assumption | (simp; done) | (simp; assumption) | (simp; omega))))
  all_goals go_light
  all_goals first | (refine bodyPost_ret (v := ?_) ?_ rfl ?_; rotate_left 1; focus (simp [results, Try.results55, go_sem, *]; (try rfl); done)) | go_returns
  all_goals exact ⟨ret_valok (by simp_all [longAns, noneL]), by (repeat' first | with_reducible exact Fresh.refl _ | with_reducible assumption | with_reducible refine Fresh.alloc ?_ _ _ | with_reducible refine Fresh.drew ?_ | with_reducible refine Fresh.setCell ?_ ?_ _ | with_reducible refine Fresh.trans ?_ (by assumption) | (simp; done) | (simp; omega))⟩
end Go.Proofs.Ytjbflmpnmobngaa.two
/- The document's own answer of an operation of two: whole numbers of 32 bits, comparisons, doubles. -/
namespace Go.Proofs.Ytjbflmpnmobngaa.two
set_option linter.unusedSimpArgs false
set_option linter.unusedVariables false
open Go.RowKit
theorem hidOf {p : Prop} (h : p) : Hid p := h
theorem int_ret {r m : Int} (h : r % 4294967296 = m) : intL (wrap32 (r % 4294967296)) = (1, m, 0) := by
  unfold intL wrap32
  have e : ((r % 4294967296 + 2147483648) % 4294967296 - 2147483648) % 4294967296 = m := by omega
  rw [e]
set_option maxRecDepth 100000 in
set_option maxHeartbeats 2000000 in
theorem re_w32 (o n b n' b' : Int) (hs : Hid (shapeL o = (1, 1, 1))) (ha : 3 ≤ o) (hb : o ≤ 12) (w : World) :
    Calls Try.prog 55 #[.int .i64 o, .agg #[.int .i64 1, .int .u64 n, .int .i64 b], .agg #[.int .i64 1, .int .u64 n', .int .i64 b']] w fun e w' => e = .returned (.tuple #[.agg #[.int .i64 (intAns (whole32 o (n % 4294967296) (n' % 4294967296))).1.1, .int .u64 (intAns (whole32 o (n % 4294967296) (n' % 4294967296))).1.2.1, .int .i64 (intAns (whole32 o (n % 4294967296) (n' % 4294967296))).1.2.2], .bool (intAns (whole32 o (n % 4294967296) (n' % 4294967296))).2]) ∧ Fresh w w' := by
  go_enter Try.func55, Try.ntmps55
  go_wp2_with (first | (go_at_call 66; refine (shapeR_of _ _ _ _ hs.out _).mono ?_; rintro e w' ⟨rfl, rfl⟩) | (go_at_call 76; refine (rwhole32_any _ _ _ ha hb _).mono ?_; rintro e w9 ⟨r32, rfl, hr, rfl⟩; have hR := hidOf hr; clear hr) | (go_at_call 39; refine (rInt_any _ _).mono ?_; rintro e w2 ⟨rfl, h2⟩; obtain ⟨c2, f2⟩ := h2.cells; have z2a := h2.z (n := w.heap.size) (by first | assumption | (simp; done) | (simp; assumption) | (simp; omega)); have z2b := h2.z (n := w.heap.size + 1) (by first | assumption | (simp; done) | (simp; assumption) | (simp; omega)); have z2c := h2.z (n := w.heap.size + 1 + 1) (by first | assumption | (simp; done) | (simp; assumption) | (simp; omega))))
  all_goals go_light
  all_goals first | (refine bodyPost_ret (v := ?_) ?_ rfl ?_; rotate_left 1; focus (simp [results, Try.results55, go_sem, *]; (try rfl); done)) | go_returns
  all_goals exact ⟨ret_valok (by have hR := hR.out; simp only [Bool.not_eq_true', Bool.not_eq_false'] at *; first | (simp_all [intAns, noneL]; done) | (rw [int_ret (hR ‹_›)]; simp_all [intAns])), by (repeat' first | with_reducible exact Fresh.refl _ | with_reducible assumption | with_reducible refine Fresh.alloc ?_ _ _ | with_reducible refine Fresh.drew ?_ | with_reducible refine Fresh.setCell ?_ ?_ _ | with_reducible refine Fresh.trans ?_ (by assumption) | (simp; done) | (simp; omega))⟩
set_option maxRecDepth 100000 in
set_option maxHeartbeats 2000000 in
theorem re_s32 (o n b n' b' : Int) (hs : Hid (shapeL o = (1, 1, 1))) (ha : 13 ≤ o) (hb : o ≤ 15) (w : World) :
    Calls Try.prog 55 #[.int .i64 o, .agg #[.int .i64 1, .int .u64 n, .int .i64 b], .agg #[.int .i64 1, .int .u64 n', .int .i64 b']] w fun e w' => e = .returned (.tuple #[.agg #[.int .i64 (intAns (shiftT32 o (n % 4294967296) (n' % 4294967296))).1.1, .int .u64 (intAns (shiftT32 o (n % 4294967296) (n' % 4294967296))).1.2.1, .int .i64 (intAns (shiftT32 o (n % 4294967296) (n' % 4294967296))).1.2.2], .bool (intAns (shiftT32 o (n % 4294967296) (n' % 4294967296))).2]) ∧ Fresh w w' := by
  go_enter Try.func55, Try.ntmps55
  go_wp2_with (first | (go_at_call 66; refine (shapeR_of _ _ _ _ hs.out _).mono ?_; rintro e w' ⟨rfl, rfl⟩) | (go_at_call 75; refine (rshift32_any _ _ _ _ ha hb _).mono ?_; rintro e w1 ⟨r32, rfl, hr, h1⟩; obtain ⟨c1, f1⟩ := h1.cells; have z1a := h1.z (n := w.heap.size) (by first | assumption | (simp; done) | (simp; assumption) | (simp; omega)); have z1b := h1.z (n := w.heap.size + 1) (by first | assumption | (simp; done) | (simp; assumption) | (simp; omega)); have z1c := h1.z (n := w.heap.size + 1 + 1) (by first | assumption | (simp; done) | (simp; assumption) | (simp; omega)); have hR := hidOf hr; clear hr) | (go_at_call 39; refine (rInt_any _ _).mono ?_; rintro e w2 ⟨rfl, h2⟩; obtain ⟨c2, f2⟩ := h2.cells; have z2a := h2.z (n := w.heap.size) (by first | assumption | (simp; done) | (simp; assumption) | (simp; omega)); have z2b := h2.z (n := w.heap.size + 1) (by first | assumption | (simp; done) | (simp; assumption) | (simp; omega)); have z2c := h2.z (n := w.heap.size + 1 + 1) (by first | assumption | (simp; done) | (simp; assumption) | (simp; omega))))
  all_goals go_light
  all_goals first | (refine bodyPost_ret (v := ?_) ?_ rfl ?_; rotate_left 1; focus (simp [results, Try.results55, go_sem, *]; (try rfl); done)) | go_returns
  all_goals exact ⟨ret_valok (by have hR := hR.out; simp only [Bool.not_eq_true', Bool.not_eq_false'] at *; first | (simp_all [intAns, noneL]; done) | (rw [int_ret (hR ‹_›)]; simp_all [intAns])), by (repeat' first | with_reducible exact Fresh.refl _ | with_reducible assumption | with_reducible refine Fresh.alloc ?_ _ _ | with_reducible refine Fresh.drew ?_ | with_reducible refine Fresh.setCell ?_ ?_ _ | with_reducible refine Fresh.trans ?_ (by assumption) | (simp; done) | (simp; omega))⟩
set_option maxRecDepth 100000 in
set_option maxHeartbeats 2000000 in
theorem re_c64s (o n b n' b' : Int) (hs : Hid (shapeL o = (2, 2, 1))) (ho : 46 ≤ o) (ho' : o ≤ 51) (w : World) :
    Calls Try.prog 55 #[.int .i64 o, .agg #[.int .i64 2, .int .u64 n, .int .i64 b], .agg #[.int .i64 2, .int .u64 n', .int .i64 b']] w fun e w' => e = .returned (.tuple #[.agg #[.int .i64 (((1, flagL (comparedL (o - 30) (decide (wrap64 n < wrap64 n')) (n == n')), 0), true)).1.1, .int .u64 (((1, flagL (comparedL (o - 30) (decide (wrap64 n < wrap64 n')) (n == n')), 0), true)).1.2.1, .int .i64 (((1, flagL (comparedL (o - 30) (decide (wrap64 n < wrap64 n')) (n == n')), 0), true)).1.2.2], .bool (((1, flagL (comparedL (o - 30) (decide (wrap64 n < wrap64 n')) (n == n')), 0), true)).2]) ∧ Fresh w w' := by
  go_enter Try.func55, Try.ntmps55
  go_wp2_with (first | (go_at_call 66; refine (shapeR_of _ _ _ _ hs.out _).mono ?_; rintro e w' ⟨rfl, rfl⟩))
  all_goals go_region_held3 (fun w' => w'.cell? ⟨w.heap.size, 0, none⟩ = some (.int .i64 2) ∧ w'.cell? ⟨w.heap.size, 1, none⟩ = some (.int .u64 n) ∧ w'.cell? ⟨w.heap.size, 2, none⟩ = some (.int .i64 b) ∧ w'.cell? ⟨w.heap.size + 1, 0, none⟩ = some (.int .i64 2) ∧ w'.cell? ⟨w.heap.size + 1, 1, none⟩ = some (.int .u64 n') ∧ w'.cell? ⟨w.heap.size + 1, 2, none⟩ = some (.int .i64 b'))
    (simp [go_sem, *])
    (first | (go_at_call 70; refine (ri64_any _ _ _ _).mono ?_; rintro e w' ⟨rfl, rfl⟩))
  all_goals (try go_wp2_with fail)
  all_goals (try go_wp2_with (first | (go_at_call 74; refine (compared_any _ _ _ _).mono ?_; rintro e w' ⟨rfl, rfl⟩) | (go_at_call 73; refine (yes_any _ _).mono ?_; rintro e w1 ⟨rfl, h1⟩; obtain ⟨c1, f1⟩ := h1.cells)))
  all_goals go_light
  all_goals first | (refine bodyPost_ret (v := ?_) ?_ rfl ?_; rotate_left 1; focus (simp [results, Try.results55, go_sem, *]; (try rfl); done)) | go_returns
  all_goals exact ⟨by simp, by (repeat' first | with_reducible exact Fresh.refl _ | with_reducible assumption | with_reducible refine Fresh.alloc ?_ _ _ | with_reducible refine Fresh.drew ?_ | with_reducible refine Fresh.setCell ?_ ?_ _ | with_reducible refine Fresh.trans ?_ (by assumption) | (simp; done) | (simp; omega))⟩
set_option maxRecDepth 100000 in
set_option maxHeartbeats 2000000 in
theorem re_c64u (o n b n' b' : Int) (hs : Hid (shapeL o = (2, 2, 1))) (ho : 52 ≤ o) (ho' : o ≤ 55) (w : World) :
    Calls Try.prog 55 #[.int .i64 o, .agg #[.int .i64 2, .int .u64 n, .int .i64 b], .agg #[.int .i64 2, .int .u64 n', .int .i64 b']] w fun e w' => e = .returned (.tuple #[.agg #[.int .i64 (((1, flagL (comparedL (o - 30) (decide (n < n')) (n == n')), 0), true)).1.1, .int .u64 (((1, flagL (comparedL (o - 30) (decide (n < n')) (n == n')), 0), true)).1.2.1, .int .i64 (((1, flagL (comparedL (o - 30) (decide (n < n')) (n == n')), 0), true)).1.2.2], .bool (((1, flagL (comparedL (o - 30) (decide (n < n')) (n == n')), 0), true)).2]) ∧ Fresh w w' := by
  go_enter Try.func55, Try.ntmps55
  go_wp2_with (first | (go_at_call 66; refine (shapeR_of _ _ _ _ hs.out _).mono ?_; rintro e w' ⟨rfl, rfl⟩))
  all_goals go_region_held3 (fun w' => w'.cell? ⟨w.heap.size, 0, none⟩ = some (.int .i64 2) ∧ w'.cell? ⟨w.heap.size, 1, none⟩ = some (.int .u64 n) ∧ w'.cell? ⟨w.heap.size, 2, none⟩ = some (.int .i64 b) ∧ w'.cell? ⟨w.heap.size + 1, 0, none⟩ = some (.int .i64 2) ∧ w'.cell? ⟨w.heap.size + 1, 1, none⟩ = some (.int .u64 n') ∧ w'.cell? ⟨w.heap.size + 1, 2, none⟩ = some (.int .i64 b'))
    (simp [go_sem, *])
    (first | (go_at_call 70; refine (ri64_any _ _ _ _).mono ?_; rintro e w' ⟨rfl, rfl⟩))
  all_goals (try go_wp2_with fail)
  all_goals (try go_wp2_with (first | (go_at_call 74; refine (compared_any _ _ _ _).mono ?_; rintro e w' ⟨rfl, rfl⟩) | (go_at_call 73; refine (yes_any _ _).mono ?_; rintro e w1 ⟨rfl, h1⟩; obtain ⟨c1, f1⟩ := h1.cells)))
  all_goals go_light
  all_goals first | (refine bodyPost_ret (v := ?_) ?_ rfl ?_; rotate_left 1; focus (simp [results, Try.results55, go_sem, *]; (try rfl); done)) | go_returns
  all_goals exact ⟨by simp, by (repeat' first | with_reducible exact Fresh.refl _ | with_reducible assumption | with_reducible refine Fresh.alloc ?_ _ _ | with_reducible refine Fresh.drew ?_ | with_reducible refine Fresh.setCell ?_ ?_ _ | with_reducible refine Fresh.trans ?_ (by assumption) | (simp; done) | (simp; omega))⟩
set_option maxRecDepth 100000 in
set_option maxHeartbeats 2000000 in
theorem re_c32s (o n b n' b' : Int) (hs : Hid (shapeL o = (1, 1, 1))) (ho : 16 ≤ o) (ho' : o ≤ 21) (w : World) :
    Calls Try.prog 55 #[.int .i64 o, .agg #[.int .i64 1, .int .u64 n, .int .i64 b], .agg #[.int .i64 1, .int .u64 n', .int .i64 b']] w fun e w' => e = .returned (.tuple #[.agg #[.int .i64 (((1, flagL (comparedL o (decide (wrap32 (n % 4294967296) < wrap32 (n' % 4294967296))) (n % 4294967296 == n' % 4294967296)), 0), true)).1.1, .int .u64 (((1, flagL (comparedL o (decide (wrap32 (n % 4294967296) < wrap32 (n' % 4294967296))) (n % 4294967296 == n' % 4294967296)), 0), true)).1.2.1, .int .i64 (((1, flagL (comparedL o (decide (wrap32 (n % 4294967296) < wrap32 (n' % 4294967296))) (n % 4294967296 == n' % 4294967296)), 0), true)).1.2.2], .bool (((1, flagL (comparedL o (decide (wrap32 (n % 4294967296) < wrap32 (n' % 4294967296))) (n % 4294967296 == n' % 4294967296)), 0), true)).2]) ∧ Fresh w w' := by
  go_enter Try.func55, Try.ntmps55
  go_wp2_with (first | (go_at_call 66; refine (shapeR_of _ _ _ _ hs.out _).mono ?_; rintro e w' ⟨rfl, rfl⟩))
  all_goals go_region_held3 (fun w' => w'.cell? ⟨w.heap.size, 0, none⟩ = some (.int .i64 1) ∧ w'.cell? ⟨w.heap.size, 1, none⟩ = some (.int .u64 n) ∧ w'.cell? ⟨w.heap.size, 2, none⟩ = some (.int .i64 b) ∧ w'.cell? ⟨w.heap.size + 1, 0, none⟩ = some (.int .i64 1) ∧ w'.cell? ⟨w.heap.size + 1, 1, none⟩ = some (.int .u64 n') ∧ w'.cell? ⟨w.heap.size + 1, 2, none⟩ = some (.int .i64 b'))
    (simp [go_sem, *])
    (first | (go_at_call 70; refine (ri64_any _ _ _ _).mono ?_; rintro e w' ⟨rfl, rfl⟩))
  all_goals (try go_wp2_with fail)
  all_goals go_region_held3 (fun w' => w'.cell? ⟨w.heap.size, 0, none⟩ = some (.int .i64 1) ∧ w'.cell? ⟨w.heap.size, 1, none⟩ = some (.int .u64 n) ∧ w'.cell? ⟨w.heap.size, 2, none⟩ = some (.int .i64 b) ∧ w'.cell? ⟨w.heap.size + 1, 0, none⟩ = some (.int .i64 1) ∧ w'.cell? ⟨w.heap.size + 1, 1, none⟩ = some (.int .u64 n') ∧ w'.cell? ⟨w.heap.size + 1, 2, none⟩ = some (.int .i64 b'))
    (simp [go_sem, *])
    (first | (go_at_call 71; refine (ri32_any _ _ _ _).mono ?_; rintro e w' ⟨rfl, rfl⟩) | (go_at_call 72; refine (ru32_any _ _ _ _).mono ?_; rintro e w' ⟨rfl, rfl⟩))
  all_goals (try go_wp2_with fail)
  all_goals (try go_wp2_with (first | (go_at_call 74; refine (compared_any _ _ _ _).mono ?_; rintro e w' ⟨rfl, rfl⟩) | (go_at_call 73; refine (yes_any _ _).mono ?_; rintro e w1 ⟨rfl, h1⟩; obtain ⟨c1, f1⟩ := h1.cells)))
  all_goals go_light
  all_goals first | (refine bodyPost_ret (v := ?_) ?_ rfl ?_; rotate_left 1; focus (simp [results, Try.results55, go_sem, *]; (try rfl); done)) | go_returns
  all_goals exact ⟨by simp, by (repeat' first | with_reducible exact Fresh.refl _ | with_reducible assumption | with_reducible refine Fresh.alloc ?_ _ _ | with_reducible refine Fresh.drew ?_ | with_reducible refine Fresh.setCell ?_ ?_ _ | with_reducible refine Fresh.trans ?_ (by assumption) | (simp; done) | (simp; omega))⟩
set_option maxRecDepth 100000 in
set_option maxHeartbeats 2000000 in
theorem re_c32u (o n b n' b' : Int) (hs : Hid (shapeL o = (1, 1, 1))) (ho : 22 ≤ o) (ho' : o ≤ 25) (w : World) :
    Calls Try.prog 55 #[.int .i64 o, .agg #[.int .i64 1, .int .u64 n, .int .i64 b], .agg #[.int .i64 1, .int .u64 n', .int .i64 b']] w fun e w' => e = .returned (.tuple #[.agg #[.int .i64 (((1, flagL (comparedL o (decide (n % 4294967296 < n' % 4294967296)) (n % 4294967296 == n' % 4294967296)), 0), true)).1.1, .int .u64 (((1, flagL (comparedL o (decide (n % 4294967296 < n' % 4294967296)) (n % 4294967296 == n' % 4294967296)), 0), true)).1.2.1, .int .i64 (((1, flagL (comparedL o (decide (n % 4294967296 < n' % 4294967296)) (n % 4294967296 == n' % 4294967296)), 0), true)).1.2.2], .bool (((1, flagL (comparedL o (decide (n % 4294967296 < n' % 4294967296)) (n % 4294967296 == n' % 4294967296)), 0), true)).2]) ∧ Fresh w w' := by
  go_enter Try.func55, Try.ntmps55
  go_wp2_with (first | (go_at_call 66; refine (shapeR_of _ _ _ _ hs.out _).mono ?_; rintro e w' ⟨rfl, rfl⟩))
  all_goals go_region_held3 (fun w' => w'.cell? ⟨w.heap.size, 0, none⟩ = some (.int .i64 1) ∧ w'.cell? ⟨w.heap.size, 1, none⟩ = some (.int .u64 n) ∧ w'.cell? ⟨w.heap.size, 2, none⟩ = some (.int .i64 b) ∧ w'.cell? ⟨w.heap.size + 1, 0, none⟩ = some (.int .i64 1) ∧ w'.cell? ⟨w.heap.size + 1, 1, none⟩ = some (.int .u64 n') ∧ w'.cell? ⟨w.heap.size + 1, 2, none⟩ = some (.int .i64 b'))
    (simp [go_sem, *])
    (first | (go_at_call 70; refine (ri64_any _ _ _ _).mono ?_; rintro e w' ⟨rfl, rfl⟩))
  all_goals (try go_wp2_with fail)
  all_goals go_region_held3 (fun w' => w'.cell? ⟨w.heap.size, 0, none⟩ = some (.int .i64 1) ∧ w'.cell? ⟨w.heap.size, 1, none⟩ = some (.int .u64 n) ∧ w'.cell? ⟨w.heap.size, 2, none⟩ = some (.int .i64 b) ∧ w'.cell? ⟨w.heap.size + 1, 0, none⟩ = some (.int .i64 1) ∧ w'.cell? ⟨w.heap.size + 1, 1, none⟩ = some (.int .u64 n') ∧ w'.cell? ⟨w.heap.size + 1, 2, none⟩ = some (.int .i64 b'))
    (simp [go_sem, *])
    (first | (go_at_call 71; refine (ri32_any _ _ _ _).mono ?_; rintro e w' ⟨rfl, rfl⟩) | (go_at_call 72; refine (ru32_any _ _ _ _).mono ?_; rintro e w' ⟨rfl, rfl⟩))
  all_goals (try go_wp2_with fail)
  all_goals go_region_held3 (fun w' => w'.cell? ⟨w.heap.size, 0, none⟩ = some (.int .i64 1) ∧ w'.cell? ⟨w.heap.size, 1, none⟩ = some (.int .u64 n) ∧ w'.cell? ⟨w.heap.size, 2, none⟩ = some (.int .i64 b) ∧ w'.cell? ⟨w.heap.size + 1, 0, none⟩ = some (.int .i64 1) ∧ w'.cell? ⟨w.heap.size + 1, 1, none⟩ = some (.int .u64 n') ∧ w'.cell? ⟨w.heap.size + 1, 2, none⟩ = some (.int .i64 b'))
    (simp [go_sem, *])
    (first | (go_at_call 72; refine (ru32_any _ _ _ _).mono ?_; rintro e w' ⟨rfl, rfl⟩))
  all_goals (try go_wp2_with (first | (go_at_call 74; refine (compared_any _ _ _ _).mono ?_; rintro e w' ⟨rfl, rfl⟩) | (go_at_call 73; refine (yes_any _ _).mono ?_; rintro e w1 ⟨rfl, h1⟩; obtain ⟨c1, f1⟩ := h1.cells)))
  all_goals go_light
  all_goals first | (refine bodyPost_ret (v := ?_) ?_ rfl ?_; rotate_left 1; focus (simp [results, Try.results55, go_sem, *]; (try rfl); done)) | go_returns
  all_goals exact ⟨by simp, by (repeat' first | with_reducible exact Fresh.refl _ | with_reducible assumption | with_reducible refine Fresh.alloc ?_ _ _ | with_reducible refine Fresh.drew ?_ | with_reducible refine Fresh.setCell ?_ ?_ _ | with_reducible refine Fresh.trans ?_ (by assumption) | (simp; done) | (simp; omega))⟩
set_option maxRecDepth 100000 in
set_option maxHeartbeats 2000000 in
theorem re_d (o n b n' b' : Int) (r : Int) (hs : Hid (shapeL o = (3, 3, r))) (ho : 62 ≤ o) (ho' : o ≤ 71) (w : World) :
    Calls Try.prog 55 #[.int .i64 o, .agg #[.int .i64 3, .int .u64 n, .int .i64 b], .agg #[.int .i64 3, .int .u64 n', .int .i64 b']] w fun e w' => e = .returned (.tuple #[.agg #[.int .i64 (((dblKind o, doublesL o n.toNat n'.toNat, 0), true)).1.1, .int .u64 (((dblKind o, doublesL o n.toNat n'.toNat, 0), true)).1.2.1, .int .i64 (((dblKind o, doublesL o n.toNat n'.toNat, 0), true)).1.2.2], .bool (((dblKind o, doublesL o n.toNat n'.toNat, 0), true)).2]) ∧ Fresh w w' := by
  go_enter Try.func55, Try.ntmps55
  go_wp2_with (first | (go_at_call 66; refine (shapeR_of _ _ _ _ hs.out _).mono ?_; rintro e w' ⟨rfl, rfl⟩))
  all_goals go_region_held3 (fun w' => w'.cell? ⟨w.heap.size, 0, none⟩ = some (.int .i64 3) ∧ w'.cell? ⟨w.heap.size, 1, none⟩ = some (.int .u64 n) ∧ w'.cell? ⟨w.heap.size, 2, none⟩ = some (.int .i64 b) ∧ w'.cell? ⟨w.heap.size + 1, 0, none⟩ = some (.int .i64 3) ∧ w'.cell? ⟨w.heap.size + 1, 1, none⟩ = some (.int .u64 n') ∧ w'.cell? ⟨w.heap.size + 1, 2, none⟩ = some (.int .i64 b'))
    (simp [go_sem, *])
    (first | (go_at_call 69; refine (rdbl_any _ _ _ _).mono ?_; rintro e w' ⟨rfl, rfl⟩) | (go_at_call 68; refine (rdoubles_any _ _ _ (by omega) (by omega) _).mono ?_; rintro e w1 ⟨rfl, h1⟩; obtain ⟨c1, f1⟩ := h1.cells))
  all_goals (try go_wp2_with fail)
  all_goals go_light
  all_goals first | (refine bodyPost_ret (v := ?_) ?_ rfl ?_; rotate_left 1; focus (simp [results, Try.results55, go_sem, *]; (try rfl); done)) | go_returns
  all_goals exact ⟨by simp, by (repeat' first | with_reducible exact Fresh.refl _ | with_reducible assumption | with_reducible refine Fresh.alloc ?_ _ _ | with_reducible refine Fresh.drew ?_ | with_reducible refine Fresh.setCell ?_ ?_ _ | with_reducible refine Fresh.trans ?_ (by assumption) | (simp; done) | (simp; omega))⟩
end Go.Proofs.Ytjbflmpnmobngaa.two
/- The document's own answer of an operation of two is mach's, whatever the operation and the values. -/
namespace Go.Proofs.Ytjbflmpnmobngaa.two
set_option linter.unusedSimpArgs false
set_option linter.unusedVariables false
open Go.RowKit

theorem pointersL_none (o k n b k' n' b' : Int) (h : o ≠ 33) (h' : o ≠ 34) (h2 : ¬ (46 ≤ o ∧ o ≤ 55)) : pointersL o k n b k' n' b' = noneL := by
  have e1 : (o == 33) = false := by simpa using h
  have e2 : (o == 34) = false := by simpa using h'
  have e3 : (o == 46) = false := by simp; omega
  have e4 : (o == 47) = false := by simp; omega
  have p : ∀ n b y, palL o n b y = noneL := by intro n b y; simp [palL, noneL, e1, e2, e3, e4]
  have t : twoL o n b n' b' = noneL := by unfold twoL; rw [e2, if_neg h2]; simp
  unfold pointersL
  simp only [p, t]
  repeat' split
  all_goals rfl
theorem wrap_id {m : Int} (h : 0 ≤ m ∧ m < 18446744073709551616) : IntKind.u64.wrap (wrap64 m) = m := by rw [IntKind.wrap_u64]; unfold wrap64; omega
theorem wrap_id' {m : Int} (h : 0 ≤ m ∧ m < 18446744073709551616) : IntKind.u64.wrap m = m := by rw [IntKind.wrap_u64]; omega
theorem longAns_eq {p : Int × Bool} (h : 0 ≤ p.1 ∧ p.1 < 18446744073709551616) : answerL 2 p.1 p.2 = longAns p := by
  unfold answerL longAns longL
  rw [wrap_id h]
  rfl
theorem intAns_eq {p : Int × Bool} (h : 0 ≤ p.1 ∧ p.1 < 4294967296) : answerL 1 (IntKind.u64.wrap p.1) p.2 = intAns p := by
  unfold answerL intAns
  rw [wrap_id' ⟨h.1, by omega⟩]
  rfl
theorem eval2L_of {o k n b k' n' b' a s r : Int} (hs : shapeL o = (a, s, r)) (hs0 : s ≠ 0) (hp : k ≠ 4 ∧ k' ≠ 4) (hk : k = a) (hk' : k' = s) : eval2L o k n b k' n' b' = answerL r (bits2L o a n n').1 (bits2L o a n n').2 := by
  subst hk hk'
  simp [eval2L, hs, hs0, hp.1, hp.2]
theorem eval2L_none {o k n b k' n' b' a s r : Int} (hs : shapeL o = (a, s, r)) (hp : k ≠ 4 ∧ k' ≠ 4) (hk : s = 0 ∨ k ≠ a ∨ k' ≠ s) : eval2L o k n b k' n' b' = noneL := by
  have : (s == 0 || k != a || k' != s) = true := by
    rcases hk with h | h | h <;> simp [h]
  simp only [eval2L, hs, this, if_true]
  simp [hp.1, hp.2]
theorem eval2L_noptr {o k n b k' n' b' a s r : Int} (hs : shapeL o = (a, s, r)) (h : o ≠ 33) (h' : o ≠ 34) (h2 : ¬ (46 ≤ o ∧ o ≤ 55)) (hk : s = 0 ∨ k ≠ a ∨ k' ≠ s) : eval2L o k n b k' n' b' = noneL := by
  have : (s == 0 || k != a || k' != s) = true := by
    rcases hk with h | h | h <;> simp [h]
  simp only [eval2L, hs, this, if_true, pointersL_none o k n b k' n' b' h h' h2]
  split <;> rfl
theorem shape_zero (o : Int) (h : o < 3 ∨ (25 < o ∧ o < 33) ∨ (55 < o ∧ o < 62) ∨ 71 < o) : ∃ a r, shapeL o = (a, 0, r) := by
  unfold shapeL
  by_cases c1 : 1 ≤ o ∧ o ≤ 25
  · rw [if_pos c1]; unfold wholeShapeL; rw [if_pos (by omega)]; exact ⟨_, _, rfl⟩
  · rw [if_neg c1]
    by_cases c2 : 31 ≤ o ∧ o ≤ 55
    · rw [if_pos c2]; unfold wholeShapeL; rw [if_pos (by omega)]; exact ⟨_, _, rfl⟩
    · rw [if_neg c2]
      by_cases c3 : o = 61
      · rw [if_pos c3]; exact ⟨_, _, rfl⟩
      · rw [if_neg c3, if_neg (by omega), if_neg (by omega)]; exact ⟨_, _, rfl⟩

theorem reval2_any (o k n b k' n' b' : Int) (hn : 0 ≤ n) (hN : n < 18446744073709551616) (hn' : 0 ≤ n') (hN' : n' < 18446744073709551616) (w : World) :
    Calls Try.prog 55 #[.int .i64 o, .agg #[.int .i64 k, .int .u64 n, .int .i64 b], .agg #[.int .i64 k', .int .u64 n', .int .i64 b']] w fun e w' => e = .returned (.tuple #[.agg #[.int .i64 (eval2L o k n b k' n' b').1.1, .int .u64 (eval2L o k n b k' n' b').1.2.1, .int .i64 (eval2L o k n b k' n' b').1.2.2], .bool (eval2L o k n b k' n' b').2]) ∧ Fresh w w' := by
  have bf : ∀ {x c : Int}, x ≠ c → (x == c) = false := fun h => by simpa using h
  have bt : ∀ {x c : Int}, x ≠ c → (x != c) = true := fun h => by simpa using h
  have bn : ∀ {x c : Int}, x = c → (x != c) = false := fun h => by simpa using h
  have hm : 0 ≤ n % 4294967296 ∧ n % 4294967296 < 4294967296 := by omega
  have hm' : 0 ≤ n' % 4294967296 ∧ n' % 4294967296 < 4294967296 := by omega
  by_cases z : o < 3 ∨ (25 < o ∧ o < 33) ∨ (55 < o ∧ o < 62) ∨ 71 < o
  · obtain ⟨a, r, hs⟩ := shape_zero o z
    exact valok_mono (re_z o k n b k' n' b' a r hs w) (eval2L_noptr hs (by omega) (by omega) (by omega) (Or.inl rfl))
  by_cases hd : 62 ≤ o
  · have hs : ∃ r, shapeL o = (3, 3, r) ∧ r = dblKind o := by
      by_cases h : o ≤ 65
      · exact ⟨3, shapeL_r62 o hd h, by simp [dblKind, h]⟩
      · exact ⟨1, shapeL_r66 o (by omega) (by omega), by simp [dblKind, h]⟩
    obtain ⟨r, hs, hr⟩ := hs
    by_cases hk : k = 3
    · by_cases hk' : k' = 3
      · subst hk hk'
        refine valok_mono (p := ((dblKind o, doublesL o n.toNat n'.toNat, 0), true)) (re_d o n b n' b' r hs hd (by omega) w) ?_
        rw [eval2L_of hs (by decide) (by decide) rfl rfl, hr]
        have e1 : (n.toNat : Int) = n := Int.toNat_of_nonneg hn
        have e2 : (n'.toNat : Int) = n' := Int.toNat_of_nonneg hn'
        rw [e1, e2]
        rfl
      · exact valok_mono (re_n2 o k n b k' n' b' 3 3 r hs (by decide) (by decide) (bn hk) (bt hk') w) (eval2L_noptr hs (by omega) (by omega) (by omega) (Or.inr (Or.inr hk')))
    · exact valok_mono (re_n1 o k n b k' n' b' 3 3 r hs (by decide) (by decide) (bt hk) w) (eval2L_noptr hs (by omega) (by omega) (by omega) (Or.inr (Or.inl hk)))
  by_cases hi : o ≤ 25
  · have hs : shapeL o = (1, 1, 1) := by
      by_cases h : o ≤ 12
      · exact shapeL_r3 o (by omega) h
      by_cases h : o ≤ 15
      · exact shapeL_r13 o (by omega) h
      · exact shapeL_r16 o (by omega) hi
    by_cases hk : k = 1
    · by_cases hk' : k' = 1
      · subst hk hk'
        have rng := whole32_range o (n % 4294967296) (n' % 4294967296) hm.1 hm.2 hm'.1 hm'.2
        have key : eval2L o 1 n b 1 n' b' = intAns (whole32 o (n % 4294967296) (n' % 4294967296)) := by
          rw [eval2L_of hs (by decide) (by decide) rfl rfl, ← intAns_eq rng]
          rfl
        by_cases h : o ≤ 12
        · exact valok_mono (re_w32 o n b n' b' hs (by omega) h w) key
        by_cases h : o ≤ 15
        · exact valok_mono (re_s32 o n b n' b' hs (by omega) h w) (by rw [key, whole32_shift o _ _ (by omega) h])
        by_cases h : o ≤ 21
        · refine valok_mono (p := ((1, flagL (comparedL o (decide (wrap32 (n % 4294967296) < wrap32 (n' % 4294967296))) (n % 4294967296 == n' % 4294967296)), 0), true)) (re_c32s o n b n' b' hs (by omega) h w) ?_
          have e : (n % 4294967296 == n' % 4294967296) = (wrap32 (n % 4294967296) == wrap32 (n' % 4294967296)) := by rw [Bool.eq_iff_iff]; simp only [beq_iff_eq]; unfold wrap32; omega
          rw [key, e, compare_signed o _ _ (by omega) h]
          unfold whole32
          rw [if_neg (by omega), if_pos (by omega)]
          rfl
        · refine valok_mono (p := ((1, flagL (comparedL o (decide (n % 4294967296 < n' % 4294967296)) (n % 4294967296 == n' % 4294967296)), 0), true)) (re_c32u o n b n' b' hs (by omega) hi w) ?_
          rw [key, compare_unsigned o _ _ (by omega) hi]
          unfold whole32
          rw [if_pos (by omega)]
          rfl
      · exact valok_mono (re_n2 o k n b k' n' b' 1 1 1 hs (by decide) (by decide) (bn hk) (bt hk') w) (eval2L_noptr hs (by omega) (by omega) (by omega) (Or.inr (Or.inr hk')))
    · exact valok_mono (re_n1 o k n b k' n' b' 1 1 1 hs (by decide) (by decide) (bt hk) w) (eval2L_noptr hs (by omega) (by omega) (by omega) (Or.inr (Or.inl hk)))
  by_cases hsh : 43 ≤ o ∧ o ≤ 45
  · have hs := shapeL_r43 o hsh.1 hsh.2
    by_cases hk : k = 2
    · by_cases hk' : k' = 1
      · subst hk hk'
        refine valok_mono (re_s64 o n b n' b' hs (by omega) (by omega) hsh.1 hsh.2 w) ?_
        have hS : isShiftL (o - 30) = true := by
          have h : o = 43 ∨ o = 44 ∨ o = 45 := by omega
          rcases h with rfl | rfl | rfl <;> rfl
        have e : bits2L o 2 n n' = shiftT64 (o - 30) n (n' % 4294967296) := by
          rw [← whole64_shift (o - 30) n (n' % 4294967296) (by omega) (by omega)]
          unfold bits2L
          rw [if_neg (by decide), if_neg (by decide), if_pos hS]
        rw [eval2L_of hs (by decide) (by decide) rfl rfl, e, longAns_eq (shift64_range (o - 30) n (n' % 4294967296) hn hN)]
      · exact valok_mono (re_n2 o k n b k' n' b' 2 1 2 hs (by decide) (by decide) (bn hk) (bt hk') w) (eval2L_noptr hs (by omega) (by omega) (by omega) (Or.inr (Or.inr hk')))
    · exact valok_mono (re_n1 o k n b k' n' b' 2 1 2 hs (by decide) (by decide) (bt hk) w) (eval2L_noptr hs (by omega) (by omega) (by omega) (Or.inr (Or.inl hk)))
  have hs : ∃ r, shapeL o = (2, 2, r) ∧ ((33 ≤ o ∧ o ≤ 42 ∧ r = 2) ∨ (46 ≤ o ∧ o ≤ 55 ∧ r = 1)) := by
    by_cases h : o ≤ 42
    · exact ⟨2, shapeL_r33 o (by omega) h, Or.inl ⟨by omega, h, rfl⟩⟩
    · exact ⟨1, shapeL_r46 o (by omega) (by omega), Or.inr ⟨by omega, by omega, rfl⟩⟩
  obtain ⟨r, hs, hr⟩ := hs
  by_cases k4 : k = 4
  · exact valok_mono (re_p1 o k n b k' n' b' r hs (by omega) (by omega) (by simpa using k4) (by omega) (by omega) (Or.inl k4) hn hN hn' hN' w) (by simp [eval2L, k4])
  by_cases k4' : k' = 4
  · exact valok_mono (re_p2 o k n b k' n' b' r hs (by omega) (by omega) (bf k4) (by simpa using k4') (by omega) (by omega) (Or.inr k4') hn hN hn' hN' w) (by simp [eval2L, k4'])
  by_cases hk : k = 2
  · by_cases hk' : k' = 2
    · subst hk hk'
      have hS : isShiftL (o - 30) = false := by rw [isShiftL_eq]; simp; omega
      have e : bits2L o 2 n n' = whole64 (o - 30) n n' := by
        unfold bits2L
        rw [if_neg (by decide), if_neg (by decide), hS]
        rfl
      have key := eval2L_of (n := n) (b := b) (n' := n') (b' := b') hs (by decide) (by decide) rfl rfl
      rcases hr with ⟨h1, h2, rfl⟩ | ⟨h1, h2, rfl⟩
      · refine valok_mono (re_w64 o n b n' b' hs (by omega) (by omega) h1 h2 hn hN hn' w) ?_
        rw [key, e, longAns_eq (whole64_range (o - 30) n n' hn hN hn' hN')]
      · by_cases h : o ≤ 51
        · refine valok_mono (p := ((1, flagL (comparedL (o - 30) (decide (wrap64 n < wrap64 n')) (n == n')), 0), true)) (re_c64s o n b n' b' hs h1 h w) ?_
          rw [key, e, beq64 hn hN hn' hN', compare_signed (o - 30) _ _ (by omega) (by omega)]
          unfold whole64
          rw [if_neg (by omega), if_pos (by omega)]
          rfl
        · refine valok_mono (p := ((1, flagL (comparedL (o - 30) (decide (n < n')) (n == n')), 0), true)) (re_c64u o n b n' b' hs (by omega) h2 w) ?_
          rw [key, e, compare_unsigned (o - 30) _ _ (by omega) (by omega)]
          unfold whole64
          rw [if_pos (by omega)]
          rfl
    · exact valok_mono (re_n4 o k n b k' n' b' r hs (bf k4) (bf k4') (bn hk) (bt hk') (by omega) (by omega) w) (eval2L_none hs ⟨k4, k4'⟩ (Or.inr (Or.inr hk')))
  · exact valok_mono (re_n3 o k n b k' n' b' r hs (bf k4) (bf k4') (bt hk) (by omega) (by omega) w) (eval2L_none hs ⟨k4, k4'⟩ (Or.inr (Or.inl hk)))
end Go.Proofs.Ytjbflmpnmobngaa.two
