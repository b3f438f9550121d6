/- The reference: Find, up. -/
import Derived.Test.YteiomcbphbbpkaaDoorCz
import Derived.Test.YteiomcbphbbpkaaDoorEm
namespace Go.Proofs.YteiomcbphbbpkaaDoor
set_option linter.unusedSimpArgs false
set_option linter.unusedVariables false
open Go.RowKit

def La.zero : La := ⟨⟨#[]⟩, false, none, 0, 0, 0, 0⟩
/-- The first layout of the name. -/
def IsF (f : Nat → La) (k : Nat) (nm : ByteArray) (l : La) (ok : Bool) : Prop :=
  (∃ i : Nat, i < k ∧ ok = true ∧ l = f i ∧ ((f i).nm.toList == nm.toList) = true ∧ ∀ j, j < i → ((f j).nm.toList == nm.toList) = false) ∨ (ok = false ∧ l = La.zero ∧ ∀ j, j < k → ((f j).nm.toList == nm.toList) = false)
set_option maxRecDepth 100000 in
set_option maxHeartbeats 4000000 in
theorem findR_any (f : Nat → La) (lp : Option Addr) (k lc : Nat) (nm : ByteArray) (w0 w : World) (hf : Fresh w0 w) (hl : LaysAt w0 lp k f) (hk0 : k ≤ lc) (hkc : lc ≤ maxLen) :
    Calls Tryd.prog 15 #[.slice lp k lc, .string nm] w fun e w' => (∃ l ok, e = .returned (.tuple #[.agg #[.string l.nm, .bool l.un, .slice l.p l.n l.cap, .int .i64 l.sz, .int .i64 l.al], .bool ok]) ∧ IsF f k nm l ok) ∧ Fresh w w' := by
  unfold maxLen at hkc
  have HL := Lib.hid hl
  have HF := Lib.hid hf
  have T0 := Lib.hid (Blk.new w #[.string ⟨#[]⟩, .bool false, .slice none 0 0, .int .i64 0, .int .i64 0] 36)
  clear hl hf
  go_enter Tryd.func15, Tryd.ntmps15
  go_wp2_with fail
  go_loopw [6] (fun i wr => ∃ j : Nat, j ≤ k ∧ i = .int .i64 j ∧ Hid (Fresh (w.alloc (.cells #[.string ⟨#[]⟩, .bool false, .slice none 0 0, .int .i64 0, .int .i64 0] 36)) wr) ∧ Hid (∀ m, m < j → ((f m).nm.toList == nm.toList) = false)) (fun i _ => k - (intOf i).toNat)
  case atStart => exact ⟨0, by omega, rfl, Lib.hid (Fresh.refl _), Lib.hid (fun j hj => by omega)⟩
  case round =>
    obtain ⟨j, hj, rfl, HW, HS⟩ := hrel
    have T1 := T0.out.fresh HW.out
    have y0 := T1.1 0 _ rfl
    have y1 := T1.1 1 _ rfl
    have y2 := T1.1 2 _ rfl
    have y3 := T1.1 3 _ rfl
    have y4 := T1.1 4 _ rfl
    have yf := T1.2.1
    have yz := T1.2.2
    clear T1
    by_cases hlt : j < k
    · obtain ⟨B, off, rfl, hc⟩ := HL.out.resolve_left (by omega)
      obtain ⟨c0, c1, c2, c3, c4⟩ := (hc j hlt).later (HF.out.trans (((Fresh.refl w).alloc _ _).trans HW.out))
      have hBw : B < w.heap.size := (HF.out.z (cell_lt (hc j hlt).1))
      have hne : B ≠ w.heap.size := by omega
      have z0 := cell_lt c0
      simp only at z0
      clear hc
      have hlt' : (j : Int) < (k : Int) := by omega
      cases ht : (f j).nm.toList == nm.toList
      · have HT := Lib.hid ht
        go_wp2_with fail
        go_roundw
        case rel => exact ⟨j + 1, by omega, by go_num, HW, Lib.hid (fun m hm => by
          by_cases q : m = j
          · rw [q]; exact HT.out
          · exact HS.out m (by omega))⟩
        case measure => simp [intOf]; omega
      · have HT := Lib.hid ht
        go_wp2_with fail
        refine bodyPost_ret (v := ?_) ?_ rfl ?_; rotate_left 1; focus (simp [results, Tryd.results15, go_sem, *]; (try rfl); done)
        exact ⟨⟨f j, true, rfl, Or.inl ⟨j, hlt, rfl, rfl, HT.out, HS.out⟩⟩, (by repeat' first | with_reducible refine Fresh.setCell ?_ ?_ _ | exact ((Fresh.refl w).alloc _ _).trans HW.out | (simp; done) | (simp; omega))⟩
    · obtain rfl : j = k := by omega
      go_wp2_with fail
      refine bodyPost_ret (v := ?_) ?_ rfl ?_; rotate_left 1; focus (simp [results, Tryd.results15, go_sem, *]; (try rfl); done)
      exact ⟨⟨La.zero, false, rfl, Or.inr ⟨rfl, rfl, HS.out⟩⟩, (by repeat' first | with_reducible refine Fresh.setCell ?_ ?_ _ | exact ((Fresh.refl w).alloc _ _).trans HW.out | (simp; done) | (simp; omega))⟩
theorem up_any (n a : Int) (h0 : 0 ≤ n) (h1 : n ≤ 1099511627776) (h2 : 1 ≤ a) (h3 : a ≤ 8) (w : World) : Calls Tryd.prog 71 #[.int .i64 n, .int .i64 a] w fun e w' => e = .returned (.int .i64 (mul n a)) ∧ Fresh w w' := by
  obtain rfl | rfl | rfl | rfl | rfl | rfl | rfl | rfl : a = 1 ∨ a = 2 ∨ a = 3 ∨ a = 4 ∨ a = 5 ∨ a = 6 ∨ a = 7 ∨ a = 8 := by omega
  · have e : mul n 1 = n := by unfold mul; omega
    rw [e]
    clear e h2 h3
    go_enter Tryd.func71, Tryd.ntmps71
    go_wp2_with fail
    go_returns
    exact ⟨rfl, (by (repeat' first | with_reducible exact Fresh.refl _ | with_reducible assumption | with_reducible refine Fresh.alloc ?_ _ _ | with_reducible refine Fresh.drew ?_ | with_reducible refine Fresh.drewN ?_ _ | with_reducible refine Fresh.setCell ?_ ?_ _ | with_reducible refine Fresh.trans ?_ (by assumption) | (simp; done) | (simp; omega)))⟩
  · by_cases hz : n % 2 = 0
    · have e : mul n 2 = n := by unfold mul; omega
      rw [e]
      have q : (n % 2 != 0) = false := by simpa using hz
      clear e h2 h3 hz
      go_enter Tryd.func71, Tryd.ntmps71
      go_wp2_with fail
      go_returns
      exact ⟨rfl, (by (repeat' first | with_reducible exact Fresh.refl _ | with_reducible assumption | with_reducible refine Fresh.alloc ?_ _ _ | with_reducible refine Fresh.drew ?_ | with_reducible refine Fresh.drewN ?_ _ | with_reducible refine Fresh.setCell ?_ ?_ _ | with_reducible refine Fresh.trans ?_ (by assumption) | (simp; done) | (simp; omega)))⟩
    · have e : mul n 2 = n + 2 - n % 2 := by unfold mul; omega
      rw [e]
      have q : (n % 2 != 0) = true := by simpa using hz
      clear e h2 h3 hz
      go_enter Tryd.func71, Tryd.ntmps71
      go_wp2_with fail
      go_returns
      exact ⟨rfl, (by (repeat' first | with_reducible exact Fresh.refl _ | with_reducible assumption | with_reducible refine Fresh.alloc ?_ _ _ | with_reducible refine Fresh.drew ?_ | with_reducible refine Fresh.drewN ?_ _ | with_reducible refine Fresh.setCell ?_ ?_ _ | with_reducible refine Fresh.trans ?_ (by assumption) | (simp; done) | (simp; omega)))⟩
  · by_cases hz : n % 3 = 0
    · have e : mul n 3 = n := by unfold mul; omega
      rw [e]
      have q : (n % 3 != 0) = false := by simpa using hz
      clear e h2 h3 hz
      go_enter Tryd.func71, Tryd.ntmps71
      go_wp2_with fail
      go_returns
      exact ⟨rfl, (by (repeat' first | with_reducible exact Fresh.refl _ | with_reducible assumption | with_reducible refine Fresh.alloc ?_ _ _ | with_reducible refine Fresh.drew ?_ | with_reducible refine Fresh.drewN ?_ _ | with_reducible refine Fresh.setCell ?_ ?_ _ | with_reducible refine Fresh.trans ?_ (by assumption) | (simp; done) | (simp; omega)))⟩
    · have e : mul n 3 = n + 3 - n % 3 := by unfold mul; omega
      rw [e]
      have q : (n % 3 != 0) = true := by simpa using hz
      clear e h2 h3 hz
      go_enter Tryd.func71, Tryd.ntmps71
      go_wp2_with fail
      go_returns
      exact ⟨rfl, (by (repeat' first | with_reducible exact Fresh.refl _ | with_reducible assumption | with_reducible refine Fresh.alloc ?_ _ _ | with_reducible refine Fresh.drew ?_ | with_reducible refine Fresh.drewN ?_ _ | with_reducible refine Fresh.setCell ?_ ?_ _ | with_reducible refine Fresh.trans ?_ (by assumption) | (simp; done) | (simp; omega)))⟩
  · by_cases hz : n % 4 = 0
    · have e : mul n 4 = n := by unfold mul; omega
      rw [e]
      have q : (n % 4 != 0) = false := by simpa using hz
      clear e h2 h3 hz
      go_enter Tryd.func71, Tryd.ntmps71
      go_wp2_with fail
      go_returns
      exact ⟨rfl, (by (repeat' first | with_reducible exact Fresh.refl _ | with_reducible assumption | with_reducible refine Fresh.alloc ?_ _ _ | with_reducible refine Fresh.drew ?_ | with_reducible refine Fresh.drewN ?_ _ | with_reducible refine Fresh.setCell ?_ ?_ _ | with_reducible refine Fresh.trans ?_ (by assumption) | (simp; done) | (simp; omega)))⟩
    · have e : mul n 4 = n + 4 - n % 4 := by unfold mul; omega
      rw [e]
      have q : (n % 4 != 0) = true := by simpa using hz
      clear e h2 h3 hz
      go_enter Tryd.func71, Tryd.ntmps71
      go_wp2_with fail
      go_returns
      exact ⟨rfl, (by (repeat' first | with_reducible exact Fresh.refl _ | with_reducible assumption | with_reducible refine Fresh.alloc ?_ _ _ | with_reducible refine Fresh.drew ?_ | with_reducible refine Fresh.drewN ?_ _ | with_reducible refine Fresh.setCell ?_ ?_ _ | with_reducible refine Fresh.trans ?_ (by assumption) | (simp; done) | (simp; omega)))⟩
  · by_cases hz : n % 5 = 0
    · have e : mul n 5 = n := by unfold mul; omega
      rw [e]
      have q : (n % 5 != 0) = false := by simpa using hz
      clear e h2 h3 hz
      go_enter Tryd.func71, Tryd.ntmps71
      go_wp2_with fail
      go_returns
      exact ⟨rfl, (by (repeat' first | with_reducible exact Fresh.refl _ | with_reducible assumption | with_reducible refine Fresh.alloc ?_ _ _ | with_reducible refine Fresh.drew ?_ | with_reducible refine Fresh.drewN ?_ _ | with_reducible refine Fresh.setCell ?_ ?_ _ | with_reducible refine Fresh.trans ?_ (by assumption) | (simp; done) | (simp; omega)))⟩
    · have e : mul n 5 = n + 5 - n % 5 := by unfold mul; omega
      rw [e]
      have q : (n % 5 != 0) = true := by simpa using hz
      clear e h2 h3 hz
      go_enter Tryd.func71, Tryd.ntmps71
      go_wp2_with fail
      go_returns
      exact ⟨rfl, (by (repeat' first | with_reducible exact Fresh.refl _ | with_reducible assumption | with_reducible refine Fresh.alloc ?_ _ _ | with_reducible refine Fresh.drew ?_ | with_reducible refine Fresh.drewN ?_ _ | with_reducible refine Fresh.setCell ?_ ?_ _ | with_reducible refine Fresh.trans ?_ (by assumption) | (simp; done) | (simp; omega)))⟩
  · by_cases hz : n % 6 = 0
    · have e : mul n 6 = n := by unfold mul; omega
      rw [e]
      have q : (n % 6 != 0) = false := by simpa using hz
      clear e h2 h3 hz
      go_enter Tryd.func71, Tryd.ntmps71
      go_wp2_with fail
      go_returns
      exact ⟨rfl, (by (repeat' first | with_reducible exact Fresh.refl _ | with_reducible assumption | with_reducible refine Fresh.alloc ?_ _ _ | with_reducible refine Fresh.drew ?_ | with_reducible refine Fresh.drewN ?_ _ | with_reducible refine Fresh.setCell ?_ ?_ _ | with_reducible refine Fresh.trans ?_ (by assumption) | (simp; done) | (simp; omega)))⟩
    · have e : mul n 6 = n + 6 - n % 6 := by unfold mul; omega
      rw [e]
      have q : (n % 6 != 0) = true := by simpa using hz
      clear e h2 h3 hz
      go_enter Tryd.func71, Tryd.ntmps71
      go_wp2_with fail
      go_returns
      exact ⟨rfl, (by (repeat' first | with_reducible exact Fresh.refl _ | with_reducible assumption | with_reducible refine Fresh.alloc ?_ _ _ | with_reducible refine Fresh.drew ?_ | with_reducible refine Fresh.drewN ?_ _ | with_reducible refine Fresh.setCell ?_ ?_ _ | with_reducible refine Fresh.trans ?_ (by assumption) | (simp; done) | (simp; omega)))⟩
  · by_cases hz : n % 7 = 0
    · have e : mul n 7 = n := by unfold mul; omega
      rw [e]
      have q : (n % 7 != 0) = false := by simpa using hz
      clear e h2 h3 hz
      go_enter Tryd.func71, Tryd.ntmps71
      go_wp2_with fail
      go_returns
      exact ⟨rfl, (by (repeat' first | with_reducible exact Fresh.refl _ | with_reducible assumption | with_reducible refine Fresh.alloc ?_ _ _ | with_reducible refine Fresh.drew ?_ | with_reducible refine Fresh.drewN ?_ _ | with_reducible refine Fresh.setCell ?_ ?_ _ | with_reducible refine Fresh.trans ?_ (by assumption) | (simp; done) | (simp; omega)))⟩
    · have e : mul n 7 = n + 7 - n % 7 := by unfold mul; omega
      rw [e]
      have q : (n % 7 != 0) = true := by simpa using hz
      clear e h2 h3 hz
      go_enter Tryd.func71, Tryd.ntmps71
      go_wp2_with fail
      go_returns
      exact ⟨rfl, (by (repeat' first | with_reducible exact Fresh.refl _ | with_reducible assumption | with_reducible refine Fresh.alloc ?_ _ _ | with_reducible refine Fresh.drew ?_ | with_reducible refine Fresh.drewN ?_ _ | with_reducible refine Fresh.setCell ?_ ?_ _ | with_reducible refine Fresh.trans ?_ (by assumption) | (simp; done) | (simp; omega)))⟩
  · by_cases hz : n % 8 = 0
    · have e : mul n 8 = n := by unfold mul; omega
      rw [e]
      have q : (n % 8 != 0) = false := by simpa using hz
      clear e h2 h3 hz
      go_enter Tryd.func71, Tryd.ntmps71
      go_wp2_with fail
      go_returns
      exact ⟨rfl, (by (repeat' first | with_reducible exact Fresh.refl _ | with_reducible assumption | with_reducible refine Fresh.alloc ?_ _ _ | with_reducible refine Fresh.drew ?_ | with_reducible refine Fresh.drewN ?_ _ | with_reducible refine Fresh.setCell ?_ ?_ _ | with_reducible refine Fresh.trans ?_ (by assumption) | (simp; done) | (simp; omega)))⟩
    · have e : mul n 8 = n + 8 - n % 8 := by unfold mul; omega
      rw [e]
      have q : (n % 8 != 0) = true := by simpa using hz
      clear e h2 h3 hz
      go_enter Tryd.func71, Tryd.ntmps71
      go_wp2_with fail
      go_returns
      exact ⟨rfl, (by (repeat' first | with_reducible exact Fresh.refl _ | with_reducible assumption | with_reducible refine Fresh.alloc ?_ _ _ | with_reducible refine Fresh.drew ?_ | with_reducible refine Fresh.drewN ?_ _ | with_reducible refine Fresh.setCell ?_ ?_ _ | with_reducible refine Fresh.trans ?_ (by assumption) | (simp; done) | (simp; omega)))⟩
end Go.Proofs.YteiomcbphbbpkaaDoor
