/- LexPlays' function, whatever the text is. -/
import Derived.Test.YtcmfmfgedhfaeaaGreatDoorUd
import Derived.Test.YtcmfmfgedhfaeaaGreatDoorNt
import Derived.Test.YtcmfmfgedhfaeaaGreatDoorMd
import Derived.Test.YtcmfmfgedhfaeaaGreatDoorNk
namespace Go.Proofs.YtcmfmfgedhfaeaaGreatDoor
set_option linter.unusedSimpArgs false
set_option linter.unusedVariables false
open Go.RowKit

theorem behZ_le (l c r : Int) : l ≤ (behZ l c r).1 ∧ (behZ l c r).1 ≤ l + 1 := by
  unfold behZ
  split
  · simp only; omega
  · simp only; omega
/-- How many tokens there are, and in which lines. -/
theorem pcs_bound : ∀ (n : Nat) (x : List UInt8), x.length ≤ n → ∀ sk l c ts, pcs x sk l c = .ok ts → ts.length ≤ x.length + 1 ∧ ∀ t ∈ ts, l ≤ t.l ∧ t.l ≤ l + x.length
  | n, [], h, sk, l, c, ts, hp => by
    rw [pcs_nil] at hp
    cases hp
    refine ⟨by simp, fun t ht => ?_⟩
    simp at ht
    subst ht
    simp [endT]
  | 0, a :: x, h, _, _, _, _, _ => by simp at h
  | n + 1, a :: x0, h, sk, l, c, ts, hp => by
    obtain ⟨x, hx9⟩ : ∃ x, x = a :: x0 := ⟨_, rfl⟩
    rw [← hx9] at h hp ⊢
    have hx : x ≠ [] := by rw [hx9]; simp
    clear hx9
    have hw := decL_w x hx
    have hd : (x.drop (Lib.decodeL x).2).length = x.length - (Lib.decodeL x).2 := List.length_drop
    have hb := behZ_le l c (Lib.decodeL x).1
    rw [pcs_cons x hx] at hp
    split at hp
    · cases hpc : pieceL x with
      | err e => rw [hpc] at hp; simp [stepL] at hp
      | tok k n' b d =>
        rw [hpc] at hp
        simp only [stepL] at hp
        cases hr : pcs (x.drop (Lib.decodeL x).2) ((x.take n').length - (Lib.decodeL x).2) (behZ l c (Lib.decodeL x).1).1 (behZ l c (Lib.decodeL x).1).2 with
        | err _ _ _ => rw [hr] at hp; simp [TR.app] at hp
        | ok ts1 =>
          rw [hr] at hp
          simp only [TR.app, TR.ok.injEq] at hp
          obtain ⟨i1, i2⟩ := pcs_bound n _ (by omega) _ _ _ ts1 hr
          subst hp
          refine ⟨by simp only [List.cons_append, List.nil_append, List.length_cons]; omega, fun t ht => ?_⟩
          rcases List.mem_cons.1 ht with rfl | ht
          · simp only [tkL]; omega
          · have := i2 t ht; omega
    · obtain ⟨i1, i2⟩ := pcs_bound n _ (by omega) _ _ _ ts hp
      refine ⟨by omega, fun t ht => ?_⟩
      have := i2 t ht
      omega
theorem tok_size (s : ByteArray) (ts : List Tk) (h : tokensF s = .ok ts) : s.size ≤ 1048576 := by
  rcases Nat.lt_or_ge 1048576 s.size with h1 | h1
  · unfold tokensF at h; rw [if_pos h1] at h; cases h
  · exact h1
theorem tok_bound (s : ByteArray) (ts : List Tk) (h : tokensF s = .ok ts) : ts.length ≤ 1048577 ∧ ∀ t ∈ ts, 1 ≤ t.l ∧ t.l ≤ 1048577 := by
  have hs := tok_size s ts h
  rw [tokensF_L s hs] at h
  cases hb : brk s.data.toList 1 1 with
  | some p => rw [hb] at h; cases h
  | none =>
    rw [hb] at h
    obtain ⟨i1, i2⟩ := pcs_bound _ _ (Nat.le_refl _) _ _ _ ts h
    rw [← size_list] at i1 i2
    exact ⟨by omega, fun t ht => by have := i2 t ht; omega⟩
theorem tok_some (s : ByteArray) (ts : List Tk) (h : tokensF s = .ok ts) : ts ≠ [] := by
  have hs := tok_size s ts h
  rw [tokensF_L s hs] at h
  cases hb : brk s.data.toList 1 1 with
  | some p => rw [hb] at h; cases h
  | none =>
    rw [hb] at h
    exact pcs_ne _ 0 1 1 ts hb (Nat.zero_le _) h
/-- A row of tokens of a call's own, with its block. -/
def RowB (w w' : World) (g : Nat) (ts : List Tk) : Prop := w.heap.size ≤ g ∧ g < w'.heap.size ∧ RowT w' g ts ∧ (∀ o, w'.frozen? ⟨g, o, none⟩ = false)
theorem rowB_of (ts : List Tk) (hne : ts ≠ []) (w w' : World) (v : Value) (hown : w'.ownsRow w.heap.size 32 6 v ts.length (cellsT ts)) : ∃ g cap, v = .slice (some ⟨g, 0, none⟩) ts.length cap ∧ RowB w w' g ts := by
  obtain ⟨g, cap, rfl, h4, h5, hc⟩ := own_open _ _ _ _ _ hown (by simpa using hne)
  have hfz : ∀ o, w'.frozen? ⟨g, o, none⟩ = false := fun o => by
    rcases hown.2 with ⟨h, _⟩ | ⟨g', cap', cur, hv, _, hh, _⟩
    · cases h
    · injection hv with hv _ _
      injection hv with hv
      injection hv with hv _ _
      subst hv
      simp [World.frozen?, hh]
  refine ⟨g, cap, rfl, h4, h5, fun i t hi => ?_, hfz⟩
  exact ⟨by simpa using hc _ _ (cellsT_at ts i t 0 _ hi rfl (by decide)), hc _ _ (cellsT_at ts i t 1 _ hi rfl (by decide)), hc _ _ (cellsT_at ts i t 2 _ hi rfl (by decide)), hc _ _ (cellsT_at ts i t 3 _ hi rfl (by decide)), hc _ _ (cellsT_at ts i t 4 _ hi rfl (by decide)), hc _ _ (cellsT_at ts i t 5 _ hi rfl (by decide))⟩
/-- The state while the first row is written over. -/
structure LW (w : World) (g1 g2 g3 A4 A7 n : Nat) (ts : List Tk) (wr : World) : Prop where
  r2 : RowT wr g2 ts
  r3 : RowT wr g3 ts
  b4 : Blk wr A4 [.int .i64 0, .int .i64 0]
  b7 : Blk wr A7 [.int .i64 0, .int .i64 0]
  c1 : ∀ j, j < n * 6 → ∃ u, wr.cell? ⟨g1, j, none⟩ = some u
  f1 : ∀ o, wr.frozen? ⟨g1, o, none⟩ = false
  z1 : g1 < wr.heap.size
  fr : Fresh w wr
  ne : w.heap.size ≤ g1 ∧ g1 ≠ g2 ∧ g1 ≠ g3 ∧ g1 ≠ A4 ∧ g1 ≠ A7
theorem RowT.same {w w' : World} {g : Nat} {ts : List Tk} (h : RowT w g ts) (e : w'.heap[g]? = w.heap[g]?) : RowT w' g ts := fun i t hi => by
  obtain ⟨a, b, c, d, e', k⟩ := h i t hi
  simp only [World.cell?, e] at a b c d e' k ⊢
  exact ⟨a, b, c, d, e', k⟩
theorem LW.set {w : World} {g1 g2 g3 A4 A7 n : Nat} {ts : List Tk} {wr : World} (h : LW w g1 g2 g3 A4 A7 n ts wr) (o : Nat) (x : Value) : LW w g1 g2 g3 A4 A7 n ts (wr.setCell ⟨g1, o, none⟩ x) := by
  have e : ∀ k, g1 ≠ k → (wr.setCell ⟨g1, o, none⟩ x).heap[k]? = wr.heap[k]? := fun k hk => Below.heap_setCell _ _ _ _ (by simpa using fun e => hk e.symm)
  refine ⟨h.r2.same (e _ h.ne.2.1), h.r3.same (e _ h.ne.2.2.1), h.b4.same (e _ h.ne.2.2.2.1), h.b7.same (e _ h.ne.2.2.2.2), fun j hj => ?_, fun o' => ?_, by simpa [World.setCell] using h.z1, h.fr.setCell h.ne.1 _, h.ne⟩
  · obtain ⟨u, hu⟩ := h.c1 j hj
    exact cell?_setCell_some hu
  · have := h.f1 o'
    rw [World.frozen?_setCell]
    exact this
section
set_option maxRecDepth 100000
set_option maxHeartbeats 4000000
theorem same_none (w : World) : Calls Tryz.prog 10 #[.slice none 0 0, .slice none 0 0, .bool true] w fun e w' => e = .returned (.bool true) ∧ Fresh w w' := by
  go_enter Tryz.func10, Tryz.ntmps10
  go_wp2_with fail
  go_loopw [7, 8, 9, 17] (fun _ _ _ i wr => i = .int .i64 0 ∧ wr = w) (fun _ _ _ i _ => 0)
  case atStart => exact ⟨rfl, rfl⟩
  case round =>
    obtain ⟨rfl, rfl⟩ := hrel
    go_wp2_with fail
    go_ret
    exact ⟨rfl, Fresh.refl _⟩
theorem plays_err (a : ByteArray) (l c x : Int) (ha : tokensF a = .err l c x) (w : World) (hT : Tabs w) : Calls Tryz.prog 3 #[.string a] w fun e w' => e = .returned (.bool true) ∧ Fresh w w' := by
  have FX := Lib.hid (fun X hX => fixed_any X hX)
  have P := Lib.hid (fun X (hX : Tabs X) => ((tokens_any a X hX).mono (R' := fun e w' => e = .returned (.tuple #[.slice none 0 0, .agg #[.int .i64 l, .int .i64 c], .int .i64 x]) ∧ Fresh X w') (fun e w' h => ⟨h.1.1 l c x ha, h.2⟩)))
  have RR := Lib.hid (fun X => ((tokensR_any a X).mono (R' := fun e w' => e = .returned (.tuple #[.slice none 0 0, .agg #[.int .i64 l, .int .i64 c], .int .i64 x]) ∧ Fresh X w') (fun e w' h => ⟨h.1.1 l c x ha, h.2⟩)))
  have HT := Lib.hid hT
  clear hT ha
  go_enter Tryz.func3, Tryz.ntmps3
  go_wp2_with fail
  go_at_call 7; refine (FX.out _ HT.out).mono ?_; rintro e w1 ⟨rfl, f1⟩
  have F1 := Lib.hid f1
  clear f1 FX
  go_wp2_with fail
  go_at_call 8; refine (P.out _ (HT.out.fresh F1.out)).mono ?_; rintro e w2 ⟨rfl, f2⟩
  have F2 := Lib.hid (F1.out.trans f2)
  clear f2 F1
  go_upto_region 4 with fail
  have f3 : Fresh w2 (w2.alloc (.cells #[.int .i64 l, .int .i64 c] 25)) := (Fresh.refl _).alloc _ _
  have B4 := Lib.hid (Blk.new w2 #[.int .i64 l, .int .i64 c] 25)
  have F3 := Lib.hid (F2.out.trans f3)
  clear f3 F2
  generalize w2.alloc (.cells #[.int .i64 l, .int .i64 c] 25) = W3 at *
  generalize w2.heap.size = A4 at *
  go_wp2_with fail
  go_at_call 9; refine (RR.out _).mono ?_; rintro e w4 ⟨rfl, f4⟩
  have F4 := Lib.hid (F3.out.trans f4)
  have B4' := Lib.hid (B4.out.fresh f4)
  clear f4 F3 B4 RR
  go_upto_region 5 with fail
  have f5 : Fresh w4 (w4.alloc (.cells #[.int .i64 l, .int .i64 c] 25)) := (Fresh.refl _).alloc _ _
  have B7 := Lib.hid (Blk.new w4 #[.int .i64 l, .int .i64 c] 25)
  have B4 := Lib.hid (B4'.out.fresh f5)
  have F5 := Lib.hid (F4.out.trans f5)
  clear f5 F4 B4'
  generalize w4.alloc (.cells #[.int .i64 l, .int .i64 c] 25) = W5 at *
  generalize w4.heap.size = A7 at *
  go_wp2_with fail
  go_at_call 8; refine (P.out _ (HT.out.fresh F5.out)).mono ?_; rintro e w6 ⟨rfl, f6⟩
  have F6 := Lib.hid (F5.out.trans f6)
  have B4' := Lib.hid (B4.out.fresh f6)
  have B7' := Lib.hid (B7.out.fresh f6)
  clear f6 F5 B4 B7 P
  go_upto_region 6 with fail
  have f7 : Fresh w6 (w6.alloc (.cells #[.int .i64 l, .int .i64 c] 25)) := (Fresh.refl _).alloc _ _
  have F7 := Lib.hid (F6.out.trans f7)
  have B4 := Lib.hid (B4'.out.fresh f7)
  have B7 := Lib.hid (B7'.out.fresh f7)
  clear f7 F6 B4' B7'
  generalize w6.alloc (.cells #[.int .i64 l, .int .i64 c] 25) = W7 at *
  go_wp2_with fail
  go_at_call 10; refine (same_none _).mono ?_; rintro e w8 ⟨rfl, f8⟩
  have F8 := Lib.hid (F7.out.trans f8)
  have B4' := Lib.hid (B4.out.fresh f8)
  have B7' := Lib.hid (B7.out.fresh f8)
  clear f8 F7 B4 B7
  go_wp2_with fail
  go_loopw [39] (fun i wr => i = .int .i64 0 ∧ wr = w8) (fun _ _ => 0)
  case atStart => exact ⟨rfl, rfl⟩
  case round =>
    obtain ⟨rfl, rfl⟩ := hrel
    have r0 := B4'.out.1 0 _ rfl
    have r1 := B4'.out.1 1 _ rfl
    have q0 := B7'.out.1 0 _ rfl
    have q1 := B7'.out.1 1 _ rfl
    go_wp2_with fail
    go_at_call 10; refine (same_none _).mono ?_; rintro e w9 ⟨rfl, f9⟩
    have F9 := Lib.hid (F8.out.trans f9)
    clear f9
    go_wp2_with fail
    go_ret
    exact ⟨rfl, F9.out⟩
theorem plays_ok (a : ByteArray) (ts : List Tk) (ha : tokensF a = .ok ts) (w : World) (hT : Tabs w) : Calls Tryz.prog 3 #[.string a] w fun e w' => e = .returned (.bool true) ∧ Fresh w w' := by
  have hne := tok_some a ts ha
  obtain ⟨n, hn⟩ : ∃ n, n = ts.length := ⟨_, rfl⟩
  have hb : n ≤ 1048577 := by rw [hn]; exact (tok_bound a ts ha).1
  have FX := Lib.hid (fun X hX => fixed_any X hX)
  have P := Lib.hid (fun X (hX : Tabs X) => ((tokens_any a X hX).mono (R' := fun e w' => (∃ g cap, e = .returned (.tuple #[.slice (some ⟨g, 0, none⟩) n cap, .agg #[.int .i64 0, .int .i64 0], .int .i64 0]) ∧ RowB X w' g ts) ∧ Fresh X w') (fun e w' h => ⟨by
    obtain ⟨v, hv, hown⟩ := h.1.2 ts ha
    obtain ⟨g, cap, rfl, hr⟩ := rowB_of ts hne X w' v hown
    exact ⟨g, cap, by rw [hv, hn], hr⟩, h.2⟩)))
  have RR := Lib.hid (fun X => ((tokensR_any a X).mono (R' := fun e w' => (∃ g cap, e = .returned (.tuple #[.slice (some ⟨g, 0, none⟩) n cap, .agg #[.int .i64 0, .int .i64 0], .int .i64 0]) ∧ RowB X w' g ts) ∧ Fresh X w') (fun e w' h => ⟨by
    obtain ⟨v, hv, hown⟩ := h.1.2 ts ha
    obtain ⟨g, cap, rfl, hr⟩ := rowB_of ts hne X w' v hown
    exact ⟨g, cap, by rw [hv, hn], hr⟩, h.2⟩)))
  have SM := Lib.hid (fun (g h c d : Nat) (X : World) (h1 : RowT X g ts) (h2 : RowT X h ts) => same_places g h c d n ts ts hb (fun i hi => ⟨ts[i]'(by omega), ts[i]'(by omega), List.getElem?_eq_getElem (by omega), List.getElem?_eq_getElem (by omega), rfl⟩) X h1 h2)
  have HT := Lib.hid hT
  clear hT ha hne
  have HN := Lib.hid hn
  clear hn
  go_enter Tryz.func3, Tryz.ntmps3
  go_wp2_with fail
  go_at_call 7; refine (FX.out _ HT.out).mono ?_; rintro e w1 ⟨rfl, f1⟩
  have F1 := Lib.hid f1
  clear f1 FX
  go_wp2_with fail
  go_at_call 8; refine (P.out _ (HT.out.fresh F1.out)).mono ?_; rintro e w2 ⟨⟨g1, cap1, rfl, R1⟩, f2⟩
  have F2 := Lib.hid (F1.out.trans f2)
  have HG1 : Hid (w.heap.size ≤ g1) := Lib.hid (by have := R1.1; have := F1.out.size; omega)
  have HR1 := Lib.hid R1
  clear f2 F1 R1
  go_upto_region 4 with fail
  have f3 : Fresh w2 (w2.alloc (.cells #[.int .i64 0, .int .i64 0] 25)) := (Fresh.refl _).alloc _ _
  have B4 := Lib.hid (Blk.new w2 #[.int .i64 0, .int .i64 0] 25)
  have F3 := Lib.hid (F2.out.trans f3)
  have HRA : Hid (RowT (w2.alloc (.cells #[.int .i64 0, .int .i64 0] 25)) g1 ts ∧ (∀ o, (w2.alloc (.cells #[.int .i64 0, .int .i64 0] 25)).frozen? ⟨g1, o, none⟩ = false) ∧ g1 < w2.heap.size) := Lib.hid ⟨HR1.out.2.2.1.fresh f3, fun o => by rw [f3.cells.2 g1 o HR1.out.2.1]; exact HR1.out.2.2.2 o, HR1.out.2.1⟩
  have HS3 : Hid ((w2.alloc (.cells #[.int .i64 0, .int .i64 0] 25)).heap.size = w2.heap.size + 1) := Lib.hid (by simp)
  clear f3 F2 HR1
  generalize w2.alloc (.cells #[.int .i64 0, .int .i64 0] 25) = W3 at *
  generalize w2.heap.size = A4 at *
  go_wp2_with fail
  go_at_call 9; refine (RR.out _).mono ?_; rintro e w4 ⟨⟨g2, cap2, rfl, R2⟩, f4⟩
  have F4 := Lib.hid (F3.out.trans f4)
  have B4' := Lib.hid (B4.out.fresh f4)
  have HR2 := Lib.hid R2
  have HRB : Hid (RowT w4 g1 ts ∧ (∀ o, w4.frozen? ⟨g1, o, none⟩ = false) ∧ g1 < A4 ∧ A4 < g2) := Lib.hid ⟨HRA.out.1.fresh f4, fun o => by rw [f4.cells.2 g1 o (by have := HRA.out.2.2; have := HS3.out; omega)]; exact HRA.out.2.1 o, HRA.out.2.2, by have := R2.1; have := HS3.out; omega⟩
  clear f4 F3 B4 RR HRA HS3 R2
  go_upto_region 5 with fail
  have f5 : Fresh w4 (w4.alloc (.cells #[.int .i64 0, .int .i64 0] 25)) := (Fresh.refl _).alloc _ _
  have B7 := Lib.hid (Blk.new w4 #[.int .i64 0, .int .i64 0] 25)
  have B4 := Lib.hid (B4'.out.fresh f5)
  have F5 := Lib.hid (F4.out.trans f5)
  have HRC : Hid (RowT (w4.alloc (.cells #[.int .i64 0, .int .i64 0] 25)) g1 ts ∧ (∀ o, (w4.alloc (.cells #[.int .i64 0, .int .i64 0] 25)).frozen? ⟨g1, o, none⟩ = false) ∧ g1 < A4 ∧ A4 < g2 ∧ g2 < w4.heap.size) := Lib.hid ⟨HRB.out.1.fresh f5, fun o => by rw [f5.cells.2 g1 o (by have := HRB.out.2.2; have := HR2.out.2.1; omega)]; exact HRB.out.2.1 o, HRB.out.2.2.1, HRB.out.2.2.2, HR2.out.2.1⟩
  have HR2b : Hid (RowT (w4.alloc (.cells #[.int .i64 0, .int .i64 0] 25)) g2 ts) := Lib.hid (HR2.out.2.2.1.fresh f5)
  have HS5 : Hid ((w4.alloc (.cells #[.int .i64 0, .int .i64 0] 25)).heap.size = w4.heap.size + 1) := Lib.hid (by simp)
  clear f5 F4 B4' HRB HR2
  generalize w4.alloc (.cells #[.int .i64 0, .int .i64 0] 25) = W5 at *
  generalize w4.heap.size = A7 at *
  go_wp2_with fail
  go_at_call 8; refine (P.out _ (HT.out.fresh F5.out)).mono ?_; rintro e w6 ⟨⟨g3, cap3, rfl, R3⟩, f6⟩
  have F6 := Lib.hid (F5.out.trans f6)
  have B4' := Lib.hid (B4.out.fresh f6)
  have B7' := Lib.hid (B7.out.fresh f6)
  have HR2c := Lib.hid (HR2b.out.fresh f6)
  have HRD : Hid (RowT w6 g1 ts ∧ (∀ o, w6.frozen? ⟨g1, o, none⟩ = false) ∧ g1 < A4 ∧ A4 < g2 ∧ g2 < A7 ∧ A7 < g3 ∧ g3 < w6.heap.size ∧ RowT w6 g3 ts) := Lib.hid ⟨HRC.out.1.fresh f6, fun o => by rw [f6.cells.2 g1 o (by have := HRC.out.2.2; have := HS5.out; omega)]; exact HRC.out.2.1 o, HRC.out.2.2.1, HRC.out.2.2.2.1, HRC.out.2.2.2.2, by have := R3.1; have := HS5.out; omega, R3.2.1, R3.2.2.1⟩
  clear f6 F5 B4 B7 P HRC HR2b HS5 R3
  go_upto_region 6 with fail
  have f7 : Fresh w6 (w6.alloc (.cells #[.int .i64 0, .int .i64 0] 25)) := (Fresh.refl _).alloc _ _
  have F7 := Lib.hid (F6.out.trans f7)
  have B4 := Lib.hid (B4'.out.fresh f7)
  have B7 := Lib.hid (B7'.out.fresh f7)
  have HR2d := Lib.hid (HR2c.out.fresh f7)
  have HRE : Hid (RowT (w6.alloc (.cells #[.int .i64 0, .int .i64 0] 25)) g1 ts ∧ (∀ o, (w6.alloc (.cells #[.int .i64 0, .int .i64 0] 25)).frozen? ⟨g1, o, none⟩ = false) ∧ g1 < A4 ∧ A4 < g2 ∧ g2 < A7 ∧ A7 < g3 ∧ g1 < (w6.alloc (.cells #[.int .i64 0, .int .i64 0] 25)).heap.size ∧ RowT (w6.alloc (.cells #[.int .i64 0, .int .i64 0] 25)) g3 ts) := Lib.hid (by
    obtain ⟨h1, h2, h3, h4, h5, h6, h7, h8⟩ := HRD.out
    exact ⟨h1.fresh f7, fun o => by rw [f7.cells.2 g1 o (by omega)]; exact h2 o, h3, h4, h5, h6, by simp; omega, h8.fresh f7⟩)
  clear f7 F6 B4' B7' HR2c HRD
  generalize w6.alloc (.cells #[.int .i64 0, .int .i64 0] 25) = W7 at *
  go_wp2_with fail
  go_at_call 10; refine (SM.out g1 g2 _ _ _ HRE.out.1 HR2d.out).mono ?_; rintro e w8 ⟨rfl, f8⟩
  have HL : Hid (LW w g1 g2 g3 A4 A7 n ts w8) := Lib.hid (by
    obtain ⟨h1, h2, h3, h4, h5, h6, h7, h8⟩ := HRE.out
    refine ⟨HR2d.out.fresh f8, h8.fresh f8, B4.out.fresh f8, B7.out.fresh f8, fun j hj => ?_, fun o => by rw [f8.cells.2 g1 o h7]; exact h2 o, f8.z h7, F7.out.trans f8, HG1.out, by omega, by omega, by omega, by omega⟩
    have hq : j / 6 < ts.length := by rw [← HN.out]; omega
    obtain ⟨c0, c1, c2, c3, c4, c5⟩ := (h1.fresh f8) (j / 6) _ (List.getElem?_eq_getElem hq)
    have hm : j % 6 = 0 ∨ j % 6 = 1 ∨ j % 6 = 2 ∨ j % 6 = 3 ∨ j % 6 = 4 ∨ j % 6 = 5 := by omega
    rcases hm with h | h | h | h | h | h
    · exact ⟨_, by rw [show j = j / 6 * 6 by omega]; exact c0⟩
    · exact ⟨_, by rw [show j = j / 6 * 6 + 1 by omega]; exact c1⟩
    · exact ⟨_, by rw [show j = j / 6 * 6 + 2 by omega]; exact c2⟩
    · exact ⟨_, by rw [show j = j / 6 * 6 + 3 by omega]; exact c3⟩
    · exact ⟨_, by rw [show j = j / 6 * 6 + 4 by omega]; exact c4⟩
    · exact ⟨_, by rw [show j = j / 6 * 6 + 5 by omega]; exact c5⟩)
  clear f8 F7 B4 B7 HRE HR2d
  go_wp2_with fail
  go_loopw [39] (fun i wr => ∃ k : Nat, k ≤ n ∧ i = .int .i64 k ∧ Hid (LW w g1 g2 g3 A4 A7 n ts wr)) (fun i _ => n - (intOf i).toNat)
  case atStart => exact ⟨0, Nat.zero_le _, rfl, HL⟩
  case round =>
    obtain ⟨k, hk, rfl, HS⟩ := hrel
    clear HL
    by_cases hlt : k < n
    · have hltI : (k : Int) < (n : Int) := by omega
      have k0 : (0 : Int) ≤ (k : Int) := by omega
      obtain ⟨u0, c0⟩ := HS.out.c1 (k * 6) (by omega)
      obtain ⟨u1, c1⟩ := HS.out.c1 (k * 6 + 1) (by omega)
      obtain ⟨u2, c2⟩ := HS.out.c1 (k * 6 + 2) (by omega)
      obtain ⟨u3, c3⟩ := HS.out.c1 (k * 6 + 3) (by omega)
      obtain ⟨u4, c4⟩ := HS.out.c1 (k * 6 + 4) (by omega)
      obtain ⟨u5, c5⟩ := HS.out.c1 (k * 6 + 5) (by omega)
      have ff := HS.out.f1
      have hw1 : IntKind.i64.wrap ((k : Int) + 1) = (k : Int) + 1 := IntWalk.i64_in _ (by omega)
      go_upto_region 11 with fail
      have HS6 : Hid (LW w g1 g2 g3 A4 A7 n ts ((((((wr.setCell ⟨g1, k * 6, none⟩ (.int .i64 99)).setCell ⟨g1, k * 6 + 1, none⟩ (.int .i64 0)).setCell ⟨g1, k * 6 + 2, none⟩ (.int .i64 0)).setCell ⟨g1, k * 6 + 3, none⟩ (.string ⟨#[]⟩)).setCell ⟨g1, k * 6 + 4, none⟩ (.int .u64 0)).setCell ⟨g1, k * 6 + 5, none⟩ (.string ⟨#[]⟩))) := Lib.hid ((((((HS.out.set _ _).set _ _).set _ _).set _ _).set _ _).set _ _)
      clear c0 c1 c2 c3 c4 c5 ff HS
      generalize ((((((wr.setCell ⟨g1, k * 6, none⟩ (.int .i64 99)).setCell ⟨g1, k * 6 + 1, none⟩ (.int .i64 0)).setCell ⟨g1, k * 6 + 2, none⟩ (.int .i64 0)).setCell ⟨g1, k * 6 + 3, none⟩ (.string ⟨#[]⟩)).setCell ⟨g1, k * 6 + 4, none⟩ (.int .u64 0)).setCell ⟨g1, k * 6 + 5, none⟩ (.string ⟨#[]⟩)) = W9 at *
      go_wp2_with fail
      go_roundw
      case rel => exact ⟨k + 1, by omega, by go_num, HS6⟩
      case measure => simp [intOf]; omega
    · have hltI : ¬ (k : Int) < (n : Int) := by omega
      have r0 := HS.out.b4.1 0 _ rfl
      have r1 := HS.out.b4.1 1 _ rfl
      have q0 := HS.out.b7.1 0 _ rfl
      have q1 := HS.out.b7.1 1 _ rfl
      go_wp2_with fail
      go_at_call 10; refine (SM.out g3 g2 _ _ _ HS.out.r3 HS.out.r2).mono ?_; rintro e w9 ⟨rfl, f9⟩
      have F9 := Lib.hid (HS.out.fr.trans f9)
      clear f9
      go_wp2_with fail
      go_ret
      exact ⟨rfl, F9.out⟩
theorem plays_any (a : ByteArray) (w : World) (hT : Tabs w) : Calls Tryz.prog 3 #[.string a] w fun e w' => e = .returned (.bool true) ∧ Fresh w w' := by
  cases ha : tokensF a with
  | err l c x => exact plays_err a l c x ha w hT
  | ok ts => exact plays_ok a ts ha w hT
end
end Go.Proofs.YtcmfmfgedhfaeaaGreatDoor
