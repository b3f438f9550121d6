/- LexAhead's function: its calls; texts ahead that are none. -/
import Derived.Test.YtcmfmfgedhfaeaaGreatDoorNc
import Derived.Test.YtcmfmfgedhfaeaaGreatDoorMd
import Derived.Lib.AppendIntMem
namespace Go.Proofs.YtcmfmfgedhfaeaaGreatDoor
set_option linter.unusedSimpArgs false
set_option linter.unusedVariables false
open Go.RowKit

theorem cell_one (w : World) (v : Value) (t : TypeId) : (w.alloc (.cells #[v] t)).cell? ⟨w.heap.size, 0, none⟩ = some v := by rw [World.cell?_alloc_at _ _ _ _ rfl]; rfl
theorem back_one (w : World) (d : UInt8) (c : Nat) (g : Nat) (hc : w.cell? ⟨g, 0, none⟩ = some (.int .u8 d.toNat)) : (convert 34 9 (.slice (some ⟨g, 0, none⟩) 1 c)).run Tryz.prog w = .ok (.string ⟨#[d]⟩) w :=
  run_convert_bytes_back w 34 9 5 ⟨g, 0, none⟩ c [d] Tryz.underlying34 Tryz.underlying5 Tryz.underlying9 (fun j hj => by
    have : j = 0 := by simp at hj; omega
    subst this
    simpa [Addr.add] using hc)
set_option maxRecDepth 100000 in
set_option maxHeartbeats 4000000 in
theorem dec_zero (w : World) : Calls Tryz.prog 11 #[.int .i64 0] w fun e w' => e = .returned (.string ⟨#[48]⟩) ∧ Fresh w w' := by
  go_enter Tryz.func11, Tryz.ntmps11
  go_wp2_with fail
  go_loopw [3, 4] (fun u s wr => ∃ B : Bool, u = .int .u64 0 ∧ s = .string (if B then ⟨#[48]⟩ else ⟨#[]⟩) ∧ Hid (Fresh w wr)) (fun u s _ => 1 - strLen s)
  case atStart => exact ⟨false, rfl, rfl, Lib.hid (Fresh.refl w)⟩
  case round =>
    obtain ⟨B, rfl, rfl, HF⟩ := hrel
    cases B
    · have cv := back_one (wr.alloc (.cells #[.int .u8 48] 5)) 48 1 wr.heap.size (by rw [cell_one]; rfl)
      go_wp2_with fail
      go_roundw
      case rel => exact ⟨true, rfl, rfl, Lib.hid (HF.out.alloc _ _)⟩
      case measure => decide
    · go_wp2_with fail
      go_ret
      exact ⟨rfl, HF.out⟩
/-- Tokens' answer, whatever it is. -/
theorem tok_gen (s : ByteArray) (w : World) (hT : Tabs w) : Calls Tryz.prog 8 #[.string s] w fun e w' => (∃ v l c x, e = .returned (.tuple #[v, .agg #[.int .i64 l, .int .i64 c], .int .i64 x]) ∧ ((∃ l' c', tokensF s = .err l' c' x) ∨ (x = 0 ∧ ∃ ts, tokensF s = .ok ts))) ∧ Fresh w w' := by
  refine (tokens_any s w hT).mono ?_
  rintro e w' ⟨⟨h1, h2⟩, h3⟩
  refine ⟨?_, h3⟩
  cases hR : tokensF s with
  | err l c x => exact ⟨_, l, c, x, h1 l c x hR, Or.inl ⟨l, c, rfl⟩⟩
  | ok ts =>
    obtain ⟨v, hv, _⟩ := h2 ts hR
    exact ⟨v, 0, 0, 0, hv, Or.inr ⟨rfl, ts, rfl⟩⟩
/-- Tokens' answer where there is an error. -/
theorem tok_err (s : ByteArray) (l c x : Int) (hR : tokensF s = .err l c x) (w : World) (hT : Tabs w) : Calls Tryz.prog 8 #[.string s] w fun e w' => e = .returned (.tuple #[.slice none 0 0, .agg #[.int .i64 l, .int .i64 c], .int .i64 x]) ∧ Fresh w w' := by
  refine (tokens_any s w hT).mono ?_
  rintro e w' ⟨⟨h1, h2⟩, h3⟩
  exact ⟨h1 l c x hR, h3⟩
/-- The tokens' cells. -/
def RowT (w : World) (g : Nat) (ts : List Tk) : Prop := ∀ i t, ts[i]? = some t → w.cell? ⟨g, i * 6, none⟩ = some (.int .i64 t.k) ∧ w.cell? ⟨g, i * 6 + 1, none⟩ = some (.int .i64 t.l) ∧ w.cell? ⟨g, i * 6 + 2, none⟩ = some (.int .i64 t.c) ∧ w.cell? ⟨g, i * 6 + 3, none⟩ = some (.string t.text) ∧ w.cell? ⟨g, i * 6 + 4, none⟩ = some (.int .u64 t.bits) ∧ w.cell? ⟨g, i * 6 + 5, none⟩ = some (.string t.data)
theorem RowT.fresh {w w' : World} {g : Nat} {ts : List Tk} (h : RowT w g ts) (f : Fresh w w') : RowT w' g ts := fun i t hi => by
  obtain ⟨a, b, c, d, e, k⟩ := h i t hi
  exact ⟨f.at' a, f.at' b, f.at' c, f.at' d, f.at' e, f.at' k⟩
theorem cellsT_at : ∀ (ts : List Tk) (i : Nat) (t : Tk) (j : Nat) (u : Value), ts[i]? = some t → t.cells[j]? = some u → j < 6 → (cellsT ts)[i * 6 + j]? = some u
  | [], i, t, j, u, h, _, _ => by simp at h
  | a :: r, 0, t, j, u, h, hj, h6 => by
    simp at h; subst h
    simp only [cellsT, Nat.zero_mul, Nat.zero_add]
    rw [List.getElem?_append_left (by simp [Tk.cells]; omega)]
    exact hj
  | a :: r, i + 1, t, j, u, h, hj, h6 => by
    simp only [List.getElem?_cons_succ] at h
    have := cellsT_at r i t j u h hj h6
    simp only [cellsT]
    rw [List.getElem?_append_right (by simp [Tk.cells]; omega)]
    rw [show (i + 1) * 6 + j - a.cells.length = i * 6 + j by simp [Tk.cells]; omega]
    exact this
/-- Tokens' answer where there is none. -/
theorem tok_ok (s : ByteArray) (ts : List Tk) (hR : tokensF s = .ok ts) (hne : ts ≠ []) (w : World) (hT : Tabs w) : Calls Tryz.prog 8 #[.string s] w fun e w' => (∃ g cap, e = .returned (.tuple #[.slice (some ⟨g, 0, none⟩) ts.length cap, .agg #[.int .i64 0, .int .i64 0], .int .i64 0]) ∧ RowT w' g ts) ∧ Fresh w w' := by
  refine (tokens_any s w hT).mono ?_
  rintro e w' ⟨⟨h1, h2⟩, h3⟩
  refine ⟨?_, h3⟩
  obtain ⟨v, hv, hown⟩ := h2 ts hR
  obtain ⟨g, cap, rfl, h4, h5, hc⟩ := own_open _ _ _ _ _ hown (by simpa using hne)
  refine ⟨g, cap, hv, fun i t hi => ?_⟩
  exact ⟨by simpa using hc _ _ (cellsT_at ts i t 0 _ hi rfl (by decide)), hc _ _ (cellsT_at ts i t 1 _ hi rfl (by decide)), hc _ _ (cellsT_at ts i t 2 _ hi rfl (by decide)), hc _ _ (cellsT_at ts i t 3 _ hi rfl (by decide)), hc _ _ (cellsT_at ts i t 4 _ hi rfl (by decide)), hc _ _ (cellsT_at ts i t 5 _ hi rfl (by decide))⟩
set_option maxRecDepth 100000 in
set_option maxHeartbeats 4000000 in
/-- There is an error in the first text. -/
theorem ahead_none (a b : ByteArray) (l c x : Int) (ha : tokensF a = .err l c x) (hx : (x == 0) = false) (hx2 : (x != 0) = true) (hx3 : ¬ x = 0) (w : World) (hT : Tabs w) : Calls Tryz.prog 6 #[.string a, .string b] w fun e w' => e = .returned (.bool true) ∧ Fresh w w' := by
  have HT := Lib.hid hT
  have HA := Lib.hid ha
  clear hT ha
  go_enter Tryz.func6, Tryz.ntmps6
  go_wp2_with fail
  go_at_call 7; refine (fixed_any _ HT.out).mono ?_; rintro e w1 ⟨rfl, f1⟩
  have F1 := Lib.hid f1
  clear f1
  go_wp2_with fail
  go_at_call 8; refine (tok_err a l c x HA.out _ (HT.out.fresh F1.out)).mono ?_; rintro e w2 ⟨rfl, f2⟩
  have F2 := Lib.hid (F1.out.trans f2)
  clear f2
  go_upto_region 4 with fail
  have F3 := Lib.hid (F2.out.alloc #[.int .i64 l, .int .i64 c] 25)
  generalize w2.alloc (.cells #[.int .i64 l, .int .i64 c] 25) = w3 at *
  go_wp2_with fail
  go_at_call 8; refine (tok_gen b _ (HT.out.fresh F3.out)).mono ?_; rintro e w4 ⟨⟨v, lb, cb, xb, rfl, -⟩, f4⟩
  have F4 := Lib.hid (F3.out.trans f4)
  clear f4
  go_upto_region 5 with fail
  have F5 := Lib.hid (F4.out.alloc #[.int .i64 lb, .int .i64 cb] 25)
  generalize w4.alloc (.cells #[.int .i64 lb, .int .i64 cb] 25) = w5 at *
  go_wp2_with fail
  go_ret
  exact ⟨rfl, F5.out⟩
set_option maxRecDepth 100000 in
set_option maxHeartbeats 4000000 in
/-- The two are too long together. -/
theorem ahead_long (a b : ByteArray) (la : List Tk) (ha : tokensF a = .ok la) (hne : la ≠ []) (hab : (1048576 : Int) ≤ (a.size : Int) + (b.size : Int)) (h0 : ¬ 9223372036854775807 < (a.size : Int) + (b.size : Int)) (h1 : (a.size : Int) + (b.size : Int) ≤ 9223372036854775807) (w : World) (hT : Tabs w) : Calls Tryz.prog 6 #[.string a, .string b] w fun e w' => e = .returned (.bool true) ∧ Fresh w w' := by
  have HT := Lib.hid hT
  have HA := Lib.hid ha
  have HNE := Lib.hid hne
  clear hT ha hne
  go_enter Tryz.func6, Tryz.ntmps6
  go_wp2_with fail
  go_at_call 7; refine (fixed_any _ HT.out).mono ?_; rintro e w1 ⟨rfl, f1⟩
  have F1 := Lib.hid f1
  clear f1
  go_wp2_with fail
  go_at_call 8; refine (tok_ok a la HA.out HNE.out _ (HT.out.fresh F1.out)).mono ?_; rintro e w2 ⟨⟨g, cap, rfl, -⟩, f2⟩
  have F2 := Lib.hid (F1.out.trans f2)
  clear f2
  go_upto_region 4 with fail
  have F3 := Lib.hid (F2.out.alloc #[.int .i64 0, .int .i64 0] 25)
  generalize w2.alloc (.cells #[.int .i64 0, .int .i64 0] 25) = w3 at *
  go_wp2_with fail
  go_at_call 8; refine (tok_gen b _ (HT.out.fresh F3.out)).mono ?_; rintro e w4 ⟨⟨v, lb, cb, xb, rfl, -⟩, f4⟩
  have F4 := Lib.hid (F3.out.trans f4)
  clear f4
  go_upto_region 5 with fail
  have F5 := Lib.hid (F4.out.alloc #[.int .i64 lb, .int .i64 cb] 25)
  generalize w4.alloc (.cells #[.int .i64 lb, .int .i64 cb] 25) = w5 at *
  go_wp2_with fail
  go_ret
  exact ⟨rfl, F5.out⟩
end Go.Proofs.YtcmfmfgedhfaeaaGreatDoor
