/- The text of the fixed outcome. -/
import Derived.Test.YtjbflmpnmobngaaDoorDh
namespace Go.Proofs.YtjbflmpnmobngaaDoor
set_option linter.unusedSimpArgs false
set_option linter.unusedVariables false
open Go.RowKit

def ended : ByteArray := ⟨#[101, 120, 105, 116, 101, 100, 32, 48]⟩
def shown : List UInt8 := [112, 117, 116, 40, 49, 41, 32, 61, 32, 49, 10, 101, 120, 105, 116, 101, 100, 32, 48, 10]
theorem shown_is : (h2 ++ Lib.strCells ended) ++ [.int .u8 10] = Lib.byteCells shown := by kernel_rfl
theorem Bld.is {R b : Nat} {bs : List Value} {w : World} (h : Bld R b bs w) (hR : b ≤ R) : Lib.IsBuilder 61 5 b b bs w := by
  obtain ⟨p, v, hp, hb, hown, hne⟩ := h
  have hown' : w.ownsRow b 5 1 v bs.length bs := by
    obtain ⟨h1, h2⟩ := hown
    refine ⟨h1, ?_⟩
    rcases h2 with h2 | ⟨g, cap, cur, q1, q2, q⟩
    · exact Or.inl h2
    · exact Or.inr ⟨g, cap, cur, q1, Nat.le_trans hR q2, q⟩
  rcases hp with rfl | rfl
  · exact Or.inl ⟨Nat.le_refl _, v, hb, hown', hne⟩
  · exact Or.inr ⟨Nat.le_refl _, v, hb, hown', hne⟩
/-- An outcome of one event 'put(1) = 1' lies in block E. -/
structure Shown (E eo A off cap : Nat) (w : World) : Prop where
  e0 : w.cell? ⟨E, eo, none⟩ = some (.string put)
  e1 : w.cell? ⟨E, eo + 1, none⟩ = some (.slice (some ⟨A, off, none⟩) 1 cap)
  e2 : w.cell? ⟨E, eo + 2, none⟩ = some (.int .i64 1)
  e3 : w.cell? ⟨E, eo + 3, none⟩ = some (.int .u64 1)
  e4 : w.cell? ⟨E, eo + 4, none⟩ = some (.int .i64 0)
  a0 : w.cell? ⟨A, off, none⟩ = some (.int .i64 1)
  a1 : w.cell? ⟨A, off + 1, none⟩ = some (.int .u64 1)
  a2 : w.cell? ⟨A, off + 2, none⟩ = some (.int .i64 0)
theorem Shown.stays {E eo A off cap : Nat} {w w' : World} (h : Shown E eo A off cap w) (k : Stays w w') : Shown E eo A off cap w' :=
  ⟨k _ _ _ h.e0, k _ _ _ h.e1, k _ _ _ h.e2, k _ _ _ h.e3, k _ _ _ h.e4, k _ _ _ h.a0, k _ _ _ h.a1, k _ _ _ h.a2⟩
/-- What stands while the text is written: k events are. -/
structure Tx (W : World) (E eo cap : Nat) (k : Nat) (w : World) : Prop where
  o0 : w.cell? ⟨W.heap.size, 0, none⟩ = some (.slice (some ⟨E, eo, none⟩) 1 cap)
  o1 : w.cell? ⟨W.heap.size, 1, none⟩ = some (.int .i64 1)
  o2 : w.cell? ⟨W.heap.size, 2, none⟩ = some (.int .i32 0)
  o3 : w.cell? ⟨W.heap.size, 3, none⟩ = some (.int .i64 0)
  bel : Below W.heap.size W w
  z : W.heap.size + 2 ≤ w.heap.size
  new : k = 0 → ∀ R, Bld R (W.heap.size + 1) [] w
  old : k = 1 → ∃ R, W.heap.size + 1 ≤ R ∧ R ≤ w.heap.size ∧ Bld R (W.heap.size + 1) h2 w
set_option maxRecDepth 100000 in
set_option maxHeartbeats 4000000 in
theorem text_1 (E eo cap A off cap' : Nat) (w : World) (h : Shown E eo A off cap' w) :
    Calls Tryd.prog 19 #[.agg #[.slice (some ⟨E, eo, none⟩) 1 cap, .int .i64 1, .int .i32 0, .int .i64 0]] w
      fun e w' => e = .returned (.string ⟨shown.toArray⟩) ∧ Below w.heap.size w w' := by
  have T0 : Tx w E eo cap 0 ((w.alloc (.cells #[.slice (some ⟨E, eo, none⟩) 1 cap, .int .i64 1, .int .i32 0, .int .i64 0] 40)).alloc (.cells #[.pointer none, .slice none 0 0] 61)) := by
    refine ⟨by simp [go_sem], by simp [go_sem], by simp [go_sem], by simp [go_sem], ((Below.refl _ _).alloc (Nat.le_refl _) _).alloc (by simp) _, by simp, fun _ R => ?_, fun q => by cases q⟩
    have := Bld.fresh R (w.alloc (.cells #[.slice (some ⟨E, eo, none⟩) 1 cap, .int .i64 1, .int .i32 0, .int .i64 0] 40))
    simpa using this
  have T := Lib.hid T0
  have HS := Lib.hid h
  have hE : E < w.heap.size := cell_lt h.e0
  have hA : A < w.heap.size := cell_lt h.a0
  clear T0 h
  go_enter Tryd.func19, Tryd.ntmps19
  go_wp2_with fail
  go_loopw [9] (fun i wr => ∃ k : Nat, k ≤ 1 ∧ i = .int .i64 k ∧ Hid (Tx w E eo cap k wr)) (fun i _ => 1 - (intOf i).toNat)
  case atStart => exact ⟨0, by omega, rfl, T⟩
  case round =>
    obtain ⟨k, hk, rfl, T1⟩ := hrel
    clear T
    by_cases hlt : k < 1
    · obtain rfl : k = 0 := by omega
      have S := Lib.hid (HS.out.stays (stays_below T1.out.bel))
      have e0 := S.out.e0
      have e1 := S.out.e1
      have e2 := S.out.e2
      have e3 := S.out.e3
      have e4 := S.out.e4
      go_wp2_with fail
      clear e0 e1 e2 e3 e4
      have hz := T1.out.z
      have hfr : Fresh wr (wr.alloc (.cells #[.string put, .slice (some ⟨A, off, none⟩) 1 cap', .int .i64 1, .int .u64 1, .int .i64 0] 32)) := (Fresh.refl wr).alloc _ _
      go_at_call 37; refine (event_1 (w.heap.size + 1) A off cap' _ ((T1.out.new rfl _).later hfr) (by simp; omega) (by simp; omega) (by omega) (hfr.at' S.out.a0) (hfr.at' S.out.a1) (hfr.at' S.out.a2)).mono ?_; rintro e w3 ⟨rfl, Q⟩
      have hzz : (wr.alloc (.cells #[.string put, .slice (some ⟨A, off, none⟩) 1 cap', .int .i64 1, .int .u64 1, .int .i64 0] 32)).heap.size = wr.heap.size + 1 := by simp
      have hqz := Q.c.z
      have TN : Hid (Tx w E eo cap 1 w3) := Lib.hid ⟨Q.k.cell (by omega) (by omega) (hfr.at' T1.out.o0), Q.k.cell (by omega) (by omega) (hfr.at' T1.out.o1), Q.k.cell (by omega) (by omega) (hfr.at' T1.out.o2), Q.k.cell (by omega) (by omega) (hfr.at' T1.out.o3),
        (T1.out.bel.trans (hfr.below.mono T1.out.bel.size)).trans (Q.k.below (by omega) (by omega) (by omega)), by omega, (fun q => by cases q), fun _ => ⟨_, by omega, hqz, Q.bl⟩⟩
      clear Q hzz hqz hfr T1 S hz
      go_wp2_with fail
      go_roundw
      case rel => exact ⟨1, by omega, by go_num, TN⟩
      case measure => simp [intOf]
    · obtain rfl : k = 1 := by omega
      obtain ⟨R, hR1, hR2, hBl⟩ := T1.out.old rfl
      have HB := Lib.hid hBl
      clear hBl
      have o0 := T1.out.o0
      have o1 := T1.out.o1
      have o2 := T1.out.o2
      have o3 := T1.out.o3
      have hbel := Lib.hid T1.out.bel
      have hz := T1.out.z
      clear T1 HS
      go_wp2_with fail
      clear o0 o1 o2 o3
      go_at_call 39; refine (endText_1 _ _ _ _ _).mono ?_; rintro e w3 ⟨rfl, q3⟩
      have hz3 := q3.size
      go_wp2_with fail
      go_at_call 38; refine (str_any R (w.heap.size + 1) _ ended _ (HB.out.later q3) (by decide) (by omega)).mono ?_; rintro e w4 ⟨rfl, b4, k4⟩
      have hz4 := k4.size
      have B4 := Lib.hid b4
      clear b4
      go_wp2_with fail
      go_at_call 40; refine (byte_any R (w.heap.size + 1) _ 10 _ B4.out (by decide) (by omega)).mono ?_; rintro e w5 ⟨rfl, b5, k5⟩
      have hz5 := k5.size
      rw [shown_is] at b5
      have B5 := Lib.hid b5
      clear b5
      go_wp2_with fail
      go_at_call 41; refine (Tryd.Builder_String_any (w.heap.size + 1) (w.heap.size + 1) shown _ (B5.out.is hR1) (by omega)).mono ?_; rintro e w6 ⟨rfl, k6⟩
      go_wp2
      go_returns
      exact ⟨rfl, (((hbel.out.trans (q3.below.mono hbel.out.size)).trans (k4.below (by omega) (by omega) (by omega))).trans (k5.below (by omega) (by omega) (by omega))).trans (k6.mono (by omega))⟩
end Go.Proofs.YtjbflmpnmobngaaDoor
