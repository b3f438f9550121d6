/- The memory's small calls: what they read. -/
import Derived.Test.YtjbflmpnmobngaaRows
import Derived.Test.YtjbflmpnmobngaaMf
import Derived.Handy
import Derived.WalkLawsBesides
import Derived.WalkSpells
import Derived.Deep.Light
import Derived.Deep.RegionHeld3
namespace Go.Proofs.Ytjbflmpnmobngaa
set_option linter.unusedSimpArgs false
set_option linter.unusedVariables false
open Go.RowKit

theorem zero59 (w : World) : (zeroValue 59).run Try.prog w = .ok (.pointer none) w := by kernel_rfl
theorem zero94 (w : World) : (zeroValue 94).run Try.prog w = .ok (.slice none 0 0) w := by kernel_rfl
theorem zero32 (w : World) : (zeroValue 32).run Try.prog w = .ok (.agg #[.int .i64 0, .int .u64 0, .int .i64 0]) w := by kernel_rfl
theorem ret_ptr {a b : Value} (h : b = a) : Ending.returned a = Ending.returned b := by rw [h]

theorem live_any (M mb N : Nat) (f : Int → Option Value) (n : Int) (hn : Key n) (w : World) (h0 : w.cell? ⟨M, 0, none⟩ = some (.map (some mb))) (hm : MapF Try.prog 3 w mb N f) :
    Calls Try.prog 31 #[.pointer (some ⟨M, 0, none⟩), .int .i64 n] w fun e w' => e = .returned ((f n).getD (.pointer none)) ∧ w = w' := by
  have hl := hm.look Try.underlying3 Try.underlying56 (zero59 w) hn
  clear hm
  go_enter Try.func31, Try.ntmps31
  go_wp2
  go_returns
  exact ⟨rfl, rfl⟩
theorem live_nil (n : Int) (w : World) :
    Calls Try.prog 31 #[.pointer none, .int .i64 n] w fun e w' => e = .returned (.pointer none) ∧ w = w' := by
  go_enter Try.func31, Try.ntmps31
  go_wp2
  go_returns
  exact ⟨rfl, rfl⟩
end Go.Proofs.Ytjbflmpnmobngaa
