/- What the document's own answers give of whole numbers of 32 bits: cut to 32 bits, the same as mach's. -/
import Derived.Test.YtopnbdblgfjnpaaS
namespace Go.Proofs.Ytopnbdblgfjnpaa
set_option linter.unusedSimpArgs false
set_option linter.unusedVariables false
open Go.RowKit
theorem rwhole32_3 (x y : Int) (w : World) :
    Calls Try.prog 45 #[.int .i64 3, .int .u64 x, .int .u64 y, .int .i64 32] w (R32 3 x y w) := by
  have hX : 0 ≤ x % 4294967296 := by omega
  have hX' : x % 4294967296 < 4294967296 := by omega
  have hY : 0 ≤ y % 4294967296 := by omega
  have hY' : y % 4294967296 < 4294967296 := by omega
  have hm : ¬ wrap64 (wrap32 (x % 4294967296)) = -9223372036854775808 := by unfold wrap64 wrap32; omega
  by_cases hn : wrap64 (wrap32 (x % 4294967296)) = -2147483648 <;>
  · go_enter Try.func45, Try.ntmps45
    go_wp2
    all_goals (go_returns; go_light)
    all_goals exact R32_mk (by simp [whole32, isShiftL]) (fun _ => by simp [whole32, arith32, isShiftL, IntKind.wrap_u64]; try omega)
theorem rwhole32_4 (x y : Int) (w : World) :
    Calls Try.prog 45 #[.int .i64 4, .int .u64 x, .int .u64 y, .int .i64 32] w (R32 4 x y w) := by
  have hX : 0 ≤ x % 4294967296 := by omega
  have hX' : x % 4294967296 < 4294967296 := by omega
  have hY : 0 ≤ y % 4294967296 := by omega
  have hY' : y % 4294967296 < 4294967296 := by omega
  have hm : ¬ wrap64 (wrap32 (x % 4294967296)) = -9223372036854775808 := by unfold wrap64 wrap32; omega
  by_cases hn : wrap64 (wrap32 (x % 4294967296)) = -2147483648 <;>
  · go_enter Try.func45, Try.ntmps45
    go_wp2
    all_goals (go_returns; go_light)
    all_goals exact R32_mk (by simp [whole32, isShiftL]) (fun _ => by simp [whole32, arith32, isShiftL, IntKind.wrap_u64]; try omega)
theorem rwhole32_5 (x y : Int) (w : World) :
    Calls Try.prog 45 #[.int .i64 5, .int .u64 x, .int .u64 y, .int .i64 32] w (R32 5 x y w) := by
  have hX : 0 ≤ x % 4294967296 := by omega
  have hX' : x % 4294967296 < 4294967296 := by omega
  have hY : 0 ≤ y % 4294967296 := by omega
  have hY' : y % 4294967296 < 4294967296 := by omega
  have hm : ¬ wrap64 (wrap32 (x % 4294967296)) = -9223372036854775808 := by unfold wrap64 wrap32; omega
  by_cases hn : wrap64 (wrap32 (x % 4294967296)) = -2147483648 <;>
  · go_enter Try.func45, Try.ntmps45
    go_wp2
    all_goals (go_returns; go_light)
    all_goals exact R32_mk (by simp [whole32, isShiftL]) (fun _ => by simp only [IntKind.wrap_u64]; rw [Int.emod_emod_of_dvd _ (by decide)]; simp [whole32, arith32, isShiftL])
theorem rwhole32_10 (x y : Int) (w : World) :
    Calls Try.prog 45 #[.int .i64 10, .int .u64 x, .int .u64 y, .int .i64 32] w (R32 10 x y w) := by
  have hX : 0 ≤ x % 4294967296 := by omega
  have hX' : x % 4294967296 < 4294967296 := by omega
  have hY : 0 ≤ y % 4294967296 := by omega
  have hY' : y % 4294967296 < 4294967296 := by omega
  have hm : ¬ wrap64 (wrap32 (x % 4294967296)) = -9223372036854775808 := by unfold wrap64 wrap32; omega
  by_cases hn : wrap64 (wrap32 (x % 4294967296)) = -2147483648 <;>
  · go_enter Try.func45, Try.ntmps45
    go_wp2
    all_goals (go_returns; go_light)
    all_goals exact R32_mk (by simp [whole32, isShiftL]) (fun _ => by rw [bits_and32 hX hX' hY hY']; simp [whole32, arith32, isShiftL])
theorem rwhole32_11 (x y : Int) (w : World) :
    Calls Try.prog 45 #[.int .i64 11, .int .u64 x, .int .u64 y, .int .i64 32] w (R32 11 x y w) := by
  have hX : 0 ≤ x % 4294967296 := by omega
  have hX' : x % 4294967296 < 4294967296 := by omega
  have hY : 0 ≤ y % 4294967296 := by omega
  have hY' : y % 4294967296 < 4294967296 := by omega
  have hm : ¬ wrap64 (wrap32 (x % 4294967296)) = -9223372036854775808 := by unfold wrap64 wrap32; omega
  by_cases hn : wrap64 (wrap32 (x % 4294967296)) = -2147483648 <;>
  · go_enter Try.func45, Try.ntmps45
    go_wp2
    all_goals (go_returns; go_light)
    all_goals exact R32_mk (by simp [whole32, isShiftL]) (fun _ => by rw [bits_or32 hX hX' hY hY']; simp [whole32, arith32, isShiftL])
theorem rwhole32_12 (x y : Int) (w : World) :
    Calls Try.prog 45 #[.int .i64 12, .int .u64 x, .int .u64 y, .int .i64 32] w (R32 12 x y w) := by
  have hX : 0 ≤ x % 4294967296 := by omega
  have hX' : x % 4294967296 < 4294967296 := by omega
  have hY : 0 ≤ y % 4294967296 := by omega
  have hY' : y % 4294967296 < 4294967296 := by omega
  have hm : ¬ wrap64 (wrap32 (x % 4294967296)) = -9223372036854775808 := by unfold wrap64 wrap32; omega
  by_cases hn : wrap64 (wrap32 (x % 4294967296)) = -2147483648 <;>
  · go_enter Try.func45, Try.ntmps45
    go_wp2
    all_goals (go_returns; go_light)
    all_goals exact R32_mk (by simp [whole32, isShiftL]) (fun _ => by rw [bits_xor32 hX hX' hY hY']; simp [whole32, arith32, isShiftL])
theorem rwhole32_6 (x y : Int) (w : World) :
    Calls Try.prog 45 #[.int .i64 6, .int .u64 x, .int .u64 y, .int .i64 32] w (R32 6 x y w) := by
  have hX : 0 ≤ x % 4294967296 := by omega
  have hX' : x % 4294967296 < 4294967296 := by omega
  have hY : 0 ≤ y % 4294967296 := by omega
  have hY' : y % 4294967296 < 4294967296 := by omega
  have hm : ¬ wrap64 (wrap32 (x % 4294967296)) = -9223372036854775808 := by unfold wrap64 wrap32; omega
  by_cases hn : wrap64 (wrap32 (x % 4294967296)) = -2147483648 <;> by_cases hy0 : wrap64 (wrap32 (y % 4294967296)) = 0 <;> by_cases hy1 : wrap64 (wrap32 (y % 4294967296)) = -1
  all_goals
    go_enter Try.func45, Try.ntmps45
    go_wp2
    all_goals (go_returns; go_light)
    all_goals (have hl := low32_eq _ hX hX'; simp only [wrap64_32] at *)
    all_goals exact R32_mk (by simp_all [whole32, divS32, isShiftL]) (fun hc => by first | exact Bool.noConfusion hc | (simp_all [whole32, divS32, isShiftL, IntKind.wrap_u64, Int.tmod_eq_emod_of_nonneg]; try (unfold wrap64 wrap32; omega)))
theorem rwhole32_8 (x y : Int) (w : World) :
    Calls Try.prog 45 #[.int .i64 8, .int .u64 x, .int .u64 y, .int .i64 32] w (R32 8 x y w) := by
  have hX : 0 ≤ x % 4294967296 := by omega
  have hX' : x % 4294967296 < 4294967296 := by omega
  have hY : 0 ≤ y % 4294967296 := by omega
  have hY' : y % 4294967296 < 4294967296 := by omega
  have hm : ¬ wrap64 (wrap32 (x % 4294967296)) = -9223372036854775808 := by unfold wrap64 wrap32; omega
  by_cases hn : wrap64 (wrap32 (x % 4294967296)) = -2147483648 <;> by_cases hy0 : wrap64 (wrap32 (y % 4294967296)) = 0 <;> by_cases hy1 : wrap64 (wrap32 (y % 4294967296)) = -1
  all_goals
    go_enter Try.func45, Try.ntmps45
    go_wp2
    all_goals (go_returns; go_light)
    all_goals (have hl := low32_eq _ hX hX'; simp only [wrap64_32] at *)
    all_goals exact R32_mk (by simp_all [whole32, divS32, isShiftL]) (fun hc => by first | exact Bool.noConfusion hc | (simp_all [whole32, divS32, isShiftL, IntKind.wrap_u64, Int.tmod_eq_emod_of_nonneg]; try (unfold wrap64 wrap32; omega)))
theorem rwhole32_7 (x y : Int) (w : World) :
    Calls Try.prog 45 #[.int .i64 7, .int .u64 x, .int .u64 y, .int .i64 32] w (R32 7 x y w) := by
  have hX : 0 ≤ x % 4294967296 := by omega
  have hX' : x % 4294967296 < 4294967296 := by omega
  have hY : 0 ≤ y % 4294967296 := by omega
  have hY' : y % 4294967296 < 4294967296 := by omega
  have hm : ¬ wrap64 (wrap32 (x % 4294967296)) = -9223372036854775808 := by unfold wrap64 wrap32; omega
  by_cases hn : wrap64 (wrap32 (x % 4294967296)) = -2147483648 <;> by_cases hy0 : y % 4294967296 = 0
  all_goals
    (try have hy1 : 1 ≤ y % 4294967296 := by omega)
    go_enter Try.func45, Try.ntmps45
    go_wp2
    all_goals (go_returns; go_light)
    all_goals exact R32_mk (by simp [whole32, divU32, isShiftL, *]) (fun hc => by first | exact Bool.noConfusion hc | (simp [whole32, divU32, isShiftL, *]; try first | rw [Int.tdiv_eq_ediv_of_nonneg hX] | exact mod32 hX hY' hy1))
theorem rwhole32_9 (x y : Int) (w : World) :
    Calls Try.prog 45 #[.int .i64 9, .int .u64 x, .int .u64 y, .int .i64 32] w (R32 9 x y w) := by
  have hX : 0 ≤ x % 4294967296 := by omega
  have hX' : x % 4294967296 < 4294967296 := by omega
  have hY : 0 ≤ y % 4294967296 := by omega
  have hY' : y % 4294967296 < 4294967296 := by omega
  have hm : ¬ wrap64 (wrap32 (x % 4294967296)) = -9223372036854775808 := by unfold wrap64 wrap32; omega
  by_cases hn : wrap64 (wrap32 (x % 4294967296)) = -2147483648 <;> by_cases hy0 : y % 4294967296 = 0
  all_goals
    (try have hy1 : 1 ≤ y % 4294967296 := by omega)
    go_enter Try.func45, Try.ntmps45
    go_wp2
    all_goals (go_returns; go_light)
    all_goals exact R32_mk (by simp [whole32, divU32, isShiftL, *]) (fun hc => by first | exact Bool.noConfusion hc | (simp [whole32, divU32, isShiftL, *]; try first | rw [Int.tdiv_eq_ediv_of_nonneg hX] | exact mod32 hX hY' hy1))
end Go.Proofs.Ytopnbdblgfjnpaa
