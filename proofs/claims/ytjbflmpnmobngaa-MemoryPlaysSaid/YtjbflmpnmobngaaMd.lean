/- The number of a block's bytes. -/
import Derived.Test.YtjbflmpnmobngaaMc
import Derived.Deep.DeepCutAuto
namespace Go.Proofs.Ytjbflmpnmobngaa
set_option linter.unusedSimpArgs false
set_option linter.unusedVariables false
open Go.RowKit

def accN (g : Nat → Int) (a : Nat) : Nat → Int
  | 0 => 0
  | k + 1 => bits .or .u64 (accN g a k) (IntKind.u64.wrap (g (a + k) % 256 * 2 ^ (8 * k)))
def allB (g : Nat → Int) (a k : Nat) : Bool := (List.range k).all (fun i => g (a + i) != 0)
def numV (g : Nat → Int) (a k : Nat) : Int := if allB g a k then accN g a k else 0
theorem nil94 (w : World) : (binOp .eql 94 (.slice none 0 0) (.slice none 0 0)).run Try.prog w = .ok (.bool true) w := by kernel_rfl
theorem row94 (r L : Nat) (w : World) : (binOp .eql 94 (.slice (some ⟨r, 0, none⟩) L L) (.slice none 0 0)).run Try.prog w = .ok (.bool false) w := by kernel_rfl
theorem and_nat : ∀ d : Nat, d < 256 → bits .and .u16 (((256 + d : Nat) : Int)) 256 = 256 := by decide +kernel
theorem and_byte (x : Int) (h1 : 256 ≤ x) (h2 : x < 512) : bits .and .u16 x 256 = 256 := by
  obtain ⟨d, hd⟩ : ∃ d : Nat, x = ((256 + d : Nat) : Int) := ⟨(x - 256).toNat, by omega⟩
  subst hd
  exact and_nat d (by omega)
theorem allB_succ (g : Nat → Int) (a k : Nat) (h : allB g a k = true) (hz : ¬ g (a + k) = 0) : allB g a (k + 1) = true := by
  unfold allB at *
  rw [List.range_succ, List.all_append, h]
  simpa using hz
theorem allB_false (g : Nat → Int) (a m k : Nat) (hk : k < m) (hz : g (a + k) = 0) : allB g a m = false := by
  unfold allB
  rw [List.all_eq_false]
  exact ⟨k, by simpa using hk, by simpa using hz⟩
theorem ret_num {a b : Int} {c d : Bool} (h : b = a) (h' : d = c) : Ending.returned (.tuple #[.int .u64 a, .bool c]) = Ending.returned (.tuple #[.int .u64 b, .bool d]) := by rw [h, h']
theorem quo_page (off : Int) (h0 : 0 ≤ off) (h1 : off ≤ 16777216) : wrap64 (off.tdiv 4096) = off / 4096 := by
  rw [Int.tdiv_eq_ediv_of_nonneg h0]; unfold wrap64; omega
theorem rem_page (off : Int) (h0 : 0 ≤ off) (h1 : off ≤ 16777216) : wrap64 (off.tmod 4096) = off % 4096 := by
  rw [Int.tmod_eq_emod_of_nonneg h0]; unfold wrap64; omega
set_option maxRecDepth 100000 in
set_option maxHeartbeats 1000000 in
theorem number_none (B : Nat) (pg : Option Nat) (off n : Int) (h0 : 0 ≤ off) (h1 : off ≤ 16777216) (w : World) (c2 : w.cell? ⟨B, 2, none⟩ = some (.map pg)) (hl : (Instr.lookup 60 (.map pg) (.int .i64 (off / 4096)) false).run Try.prog w = .ok (.slice none 0 0) w) :
    Calls Try.prog 34 #[.pointer (some ⟨B, 0, none⟩), .int .i64 off, .int .i64 n] w fun e w' => e = .returned (.tuple #[.int .u64 0, .bool false]) ∧ w = w' := by
  have hq := quo_page off h0 h1
  have hn := nil94 w
  go_enter Try.func34, Try.ntmps34
  go_wp2
  go_returns
  exact ⟨rfl, rfl⟩
set_option maxRecDepth 100000 in
set_option maxHeartbeats 1000000 in
theorem number_row (B r L : Nat) (pg : Option Nat) (off : Int) (m a : Nat) (g : Nat → Int) (h0 : 0 ≤ off) (h1 : off ≤ 16777216) (hm : m ≤ 8) (ha : off % 4096 = (a : Int)) (hL : a + m ≤ L) (w : World) (c2 : w.cell? ⟨B, 2, none⟩ = some (.map pg))
    (hl : (Instr.lookup 60 (.map pg) (.int .i64 (off / 4096)) false).run Try.prog w = .ok (.slice (some ⟨r, 0, none⟩) L L) w)
    (hc : Hid (∀ i, i < L → w.cell? ⟨r, i, none⟩ = some (.int .u16 (g i)) ∧ (g i = 0 ∨ 256 ≤ g i ∧ g i < 512))) :
    Calls Try.prog 34 #[.pointer (some ⟨B, 0, none⟩), .int .i64 off, .int .i64 m] w fun e w' => e = .returned (.tuple #[.int .u64 (numV g a m), .bool (allB g a m)]) ∧ w = w' := by
  have hq := quo_page off h0 h1
  have hn := row94 r L w
  have hrm := (rem_page off h0 h1).trans ha
  go_enter Try.func34, Try.ntmps34
  go_wp2
  go_loop [10, 25] (fun acc i => ∃ k : Nat, k ≤ m ∧ i = .int .i64 k ∧ acc = .int .u64 (accN g a k) ∧ Hid (allB g a k = true)) (fun _ i => m - (intOf i).toNat)
  case atStart => exact ⟨0, by omega, rfl, rfl, rfl⟩
  case round =>
    obtain ⟨k, hk, rfl, rfl, hall⟩ := hrel
    by_cases hlt : k < m
    · obtain ⟨hcell, hr⟩ := hc.out (a + k) (by omega)
      by_cases hz : g (a + k) = 0
      · have hb : bits .and .u16 (g (a + k)) 256 = 0 := by rw [hz]; decide
        have HB := Lib.hid (allB_false g a m k hlt hz)
        clear hr hz
        go_wp2
        go_returns
        exact ⟨ret_num (by unfold numV; rw [HB.out]; rfl) HB.out, rfl⟩
      · have hb : bits .and .u16 (g (a + k)) 256 = 256 := and_byte _ (by omega) (by omega)
        have HA : Hid (allB g a (k + 1) = true) := Lib.hid (allB_succ g a k hall.out hz)
        clear hr hz
        go_wp2
        go_round
        case rel => exact ⟨k + 1, by omega, by go_num, rfl, HA⟩
        case measure => simp [intOf]; omega
    · have hkm : k = m := by omega
      subst hkm
      have HA := hall
      clear hall
      go_wp2
      go_returns
      exact ⟨ret_num (by unfold numV; rw [HA.out]; rfl) HA.out, rfl⟩
end Go.Proofs.Ytjbflmpnmobngaa
