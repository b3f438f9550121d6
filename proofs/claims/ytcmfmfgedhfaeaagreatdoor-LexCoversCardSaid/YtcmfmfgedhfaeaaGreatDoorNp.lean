/- LexCovers' function where the text has an error. -/
import Derived.Test.YtcmfmfgedhfaeaaGreatDoorNo
import Derived.Test.YtcmfmfgedhfaeaaGreatDoorMd
namespace Go.Proofs.YtcmfmfgedhfaeaaGreatDoor
set_option linter.unusedSimpArgs false
set_option linter.unusedVariables false
open Go.RowKit

set_option maxRecDepth 100000 in
set_option maxHeartbeats 4000000 in
theorem covers_err1 (a : ByteArray) (l c : Int) (ha : tokensF a = .err l c 1) (w : World) (hT : Tabs w) : Calls Tryz.prog 4 #[.string a] w fun e w' => e = .returned (.bool true) ∧ Fresh w w' := by
  have HT := Lib.hid hT
  have HA := Lib.hid ha
  clear hT ha
  go_enter Tryz.func4, Tryz.ntmps4
  go_wp2_with fail
  go_at_call 7; refine (fixed_any _ HT.out).mono ?_; rintro e w1 ⟨rfl, f1⟩
  have F1 := Lib.hid f1
  clear f1
  go_wp2_with fail
  go_at_call 8; refine (tok_err a l c 1 HA.out _ (HT.out.fresh F1.out)).mono ?_; rintro e w2 ⟨rfl, f2⟩
  have F2 := Lib.hid (F1.out.trans f2)
  clear f2
  go_upto_region 4 with fail
  have F3 := Lib.hid (F2.out.alloc #[.int .i64 l, .int .i64 c] 25)
  generalize w2.alloc (.cells #[.int .i64 l, .int .i64 c] 25) = w3 at *
  go_wp2_with fail
  go_ret
  exact ⟨rfl, F3.out⟩
set_option maxRecDepth 100000 in
set_option maxHeartbeats 4000000 in
theorem covers_err2 (a : ByteArray) (l c x : Int) (ha : tokensF a = .err l c x) (hx : (x == 0) = false) (hx2 : (x != 0) = true) (hx3 : ¬ x = 0) (hx4 : (x == 1) = false) (hx5 : ¬ x = 1) (hl : 1 ≤ l) (hc : 1 ≤ c) (w : World) (hT : Tabs w) : Calls Tryz.prog 4 #[.string a] w fun e w' => e = .returned (.bool true) ∧ Fresh w w' := by
  have HT := Lib.hid hT
  have HA := Lib.hid ha
  clear hT ha
  go_enter Tryz.func4, Tryz.ntmps4
  go_wp2_with fail
  go_at_call 7; refine (fixed_any _ HT.out).mono ?_; rintro e w1 ⟨rfl, f1⟩
  have F1 := Lib.hid f1
  clear f1
  go_wp2_with fail
  go_at_call 8; refine (tok_err a l c x HA.out _ (HT.out.fresh F1.out)).mono ?_; rintro e w2 ⟨rfl, f2⟩
  have F2 := Lib.hid (F1.out.trans f2)
  clear f2
  go_upto_region 4 with fail
  have F3 := Lib.hid (F2.out.alloc #[.int .i64 l, .int .i64 c] 25)
  have b0 : (w2.alloc (.cells #[.int .i64 l, .int .i64 c] 25)).cell? ⟨w2.heap.size, 0, none⟩ = some (.int .i64 l) := by rw [World.cell?_alloc_at _ _ _ _ rfl]; rfl
  have b1 : (w2.alloc (.cells #[.int .i64 l, .int .i64 c] 25)).cell? ⟨w2.heap.size, 1, none⟩ = some (.int .i64 c) := by rw [World.cell?_alloc_at _ _ _ _ rfl]; rfl
  have bz := cell_lt b0
  generalize w2.alloc (.cells #[.int .i64 l, .int .i64 c] 25) = w3 at *
  go_wp2_with fail
  go_ret
  exact ⟨rfl, F3.out⟩
end Go.Proofs.YtcmfmfgedhfaeaaGreatDoor
