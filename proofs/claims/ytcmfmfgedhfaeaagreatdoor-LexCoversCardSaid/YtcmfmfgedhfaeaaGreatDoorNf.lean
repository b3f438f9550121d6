/- LexAhead's function: both texts have tokens. -/
import Derived.Test.YtcmfmfgedhfaeaaGreatDoorNe
namespace Go.Proofs.YtcmfmfgedhfaeaaGreatDoor
set_option linter.unusedSimpArgs false
set_option linter.unusedVariables false
open Go.RowKit

theorem RowT.kq {w w' : World} {g b : Nat} {ts : List Tk} (h : RowT w g ts) (k : Kq b w w') (hg : g ≠ b) : RowT w' g ts := fun i t hi => by
  obtain ⟨a1, a2, a3, a4, a5, a6⟩ := h i t hi
  exact ⟨k.cell hg a1, k.cell hg a2, k.cell hg a3, k.cell hg a4, k.cell hg a5, k.cell hg a6⟩
set_option maxRecDepth 100000 in
set_option maxHeartbeats 16000000 in
theorem ahead_ok (a b : ByteArray) (la lb lab : List Tk) (n m : Nat) (le ce : Int) (ha : tokensF a = .ok la) (hn : la.length = n + 1) (hlast : la[n]? = some (endT le ce)) (hb : tokensF b = .ok lb) (hm : lb.length = m) (hm1 : 1 ≤ m) (hab : tokensF ((a ++ ⟨#[10]⟩) ++ b) = .ok lab) (hnm : lab.length = n + m)
    (hle : 0 ≤ le ∧ le ≤ 4000000) (hfst : ∀ i, i < n → ∃ t, lab[i]? = some t ∧ la[i]? = some t) (hsnd : ∀ j, j < m → ∃ t, lb[j]? = some t ∧ lab[n + j]? = some (t.down le) ∧ 0 ≤ t.l ∧ t.l ≤ 4000000)
    (hsm : (a.size : Int) + (b.size : Int) < 1048576) (hn2 : n < 4000000) (hm2 : m < 4000000) (w : World) (hT : Tabs w) : Calls Tryz.prog 6 #[.string a, .string b] w fun e w' => e = .returned (.bool true) ∧ Fresh w w' := by
  have HT := Lib.hid hT
  have HA : Hid (∀ X, Tabs X → Calls Tryz.prog 8 #[.string a] X fun e w' => (∃ g cap, e = .returned (.tuple #[.slice (some ⟨g, 0, none⟩) (n + 1) cap, .agg #[.int .i64 0, .int .i64 0], .int .i64 0]) ∧ RowT w' g la) ∧ Fresh X w') := Lib.hid (fun X hX => by
    have := tok_ok a la ha (by intro h; rw [h] at hn; simp at hn) X hX
    rw [hn] at this
    exact this)
  have HB : Hid (∀ X, Tabs X → Calls Tryz.prog 8 #[.string b] X fun e w' => (∃ g cap, e = .returned (.tuple #[.slice (some ⟨g, 0, none⟩) m cap, .agg #[.int .i64 0, .int .i64 0], .int .i64 0]) ∧ RowT w' g lb) ∧ Fresh X w') := Lib.hid (fun X hX => by
    have := tok_ok b lb hb (by intro h; rw [h] at hm; simp at hm; omega) X hX
    rw [hm] at this
    exact this)
  have HAB : Hid (∀ X, Tabs X → Calls Tryz.prog 8 #[.string ((a ++ ⟨#[10]⟩) ++ b)] X fun e w' => (∃ g cap, e = .returned (.tuple #[.slice (some ⟨g, 0, none⟩) (n + m) cap, .agg #[.int .i64 0, .int .i64 0], .int .i64 0]) ∧ RowT w' g lab) ∧ Fresh X w') := Lib.hid (fun X hX => by
    have := tok_ok _ lab hab (by intro h; rw [h] at hnm; simp at hnm; omega) X hX
    rw [hnm] at this
    exact this)
  have HL := Lib.hid hlast
  obtain ⟨A, hA⟩ : ∃ A : Int, (a.size : Int) = A := ⟨_, rfl⟩
  obtain ⟨B, hB⟩ : ∃ B : Int, (b.size : Int) = B := ⟨_, rfl⟩
  have HS : Hid (0 ≤ A ∧ 0 ≤ B ∧ A + B < 1048576) := Lib.hid (by omega)
  have A0 : 0 ≤ A := HS.out.1
  have B0 : 0 ≤ B := HS.out.2.1
  have h1 : A + B ≤ 9223372036854775807 := by have := HS.out; omega
  have s3 : A + B < 1048576 := HS.out.2.2
  have HN2 := Lib.hid hn2
  have HM2 := Lib.hid hm2
  have HM1 := Lib.hid hm1
  have HLE := Lib.hid hle
  have HF := Lib.hid hfst
  have HSN := Lib.hid hsnd
  clear hT ha hb hab hlast hn hm hnm hsm hn2 hm2 hm1 hle hfst hsnd
  go_enter Tryz.func6, Tryz.ntmps6
  go_wp2_with fail
  go_at_call 7; refine (fixed_any _ HT.out).mono ?_; rintro e w1 ⟨rfl, f1⟩
  have F1 := Lib.hid f1
  clear f1
  go_wp2_with fail
  go_at_call 8; refine (HA.out _ (HT.out.fresh F1.out)).mono ?_; rintro e w2 ⟨⟨g, cap, rfl, hrow⟩, f2⟩
  have F2 := Lib.hid (F1.out.trans f2)
  have R2 := Lib.hid hrow
  clear f2 hrow
  go_upto_region 4 with fail
  have F3 := Lib.hid (F2.out.alloc #[.int .i64 0, .int .i64 0] 25)
  have R3 := Lib.hid (R2.out.fresh ((Fresh.refl w2).alloc #[.int .i64 0, .int .i64 0] 25))
  clear F2 R2
  generalize w2.alloc (.cells #[.int .i64 0, .int .i64 0] 25) = w3 at *
  go_wp2_with fail
  go_at_call 8; refine (HB.out _ (HT.out.fresh F3.out)).mono ?_; rintro e w4 ⟨⟨g2, cap2, rfl, hrow2⟩, f4⟩
  have F4 := Lib.hid (F3.out.trans f4)
  have R4 := Lib.hid (R3.out.fresh f4)
  have S4 := Lib.hid hrow2
  clear f4 F3 R3 hrow2
  go_upto_region 5 with fail
  have F5 := Lib.hid (F4.out.alloc #[.int .i64 0, .int .i64 0] 25)
  have R5 := Lib.hid (R4.out.fresh ((Fresh.refl w4).alloc #[.int .i64 0, .int .i64 0] 25))
  have S5 := Lib.hid (S4.out.fresh ((Fresh.refl w4).alloc #[.int .i64 0, .int .i64 0] 25))
  clear F4 R4 S4
  generalize w4.alloc (.cells #[.int .i64 0, .int .i64 0] 25) = w5 at *
  go_upto_region 7 with fail
  clear h1 s3
  have s1 : ¬ 9223372036854775807 < A + 1 := by have := HS.out; omega
  have s2 : ¬ 9223372036854775807 < A + 1 + B := by have := HS.out; omega
  go_wp2_with fail
  go_at_call 8; refine (HAB.out _ (HT.out.fresh F5.out)).mono ?_; rintro e w6 ⟨⟨g3, cap3, rfl, hrow3⟩, f6⟩
  have F6 := Lib.hid (F5.out.trans f6)
  have R6 := Lib.hid (R5.out.fresh f6)
  have S6 := Lib.hid (S5.out.fresh f6)
  have U6 := Lib.hid hrow3
  clear f6 F5 R5 S5 hrow3 s1 s2
  go_upto_region 8 with fail
  have F7 := Lib.hid (F6.out.alloc #[.int .i64 0, .int .i64 0] 25)
  have R7 := Lib.hid (R6.out.fresh ((Fresh.refl w6).alloc #[.int .i64 0, .int .i64 0] 25))
  have S7 := Lib.hid (S6.out.fresh ((Fresh.refl w6).alloc #[.int .i64 0, .int .i64 0] 25))
  have U7 := Lib.hid (U6.out.fresh ((Fresh.refl w6).alloc #[.int .i64 0, .int .i64 0] 25))
  clear F6 R6 S6 U6 HA HB HAB HS hA hB A0 B0
  generalize w6.alloc (.cells #[.int .i64 0, .int .i64 0] 25) = w7 at *
  have b1 : (n : Int) + (m : Int) ≤ 8000000 := by have := HN2.out; have := HM2.out; omega
  have b2 : (n : Int) + 1 ≤ 8000000 := by have := HN2.out; omega
  have n0 : 0 ≤ (n : Int) := by omega
  have m0 : 0 ≤ (m : Int) := by omega
  go_wp2_with fail
  go_loopw [14, 15, 16, 88] (fun _ _ _ i wr => ∃ k : Nat, k ≤ n + m ∧ i = .int .i64 k ∧ Hid (RowT wr g la) ∧ Hid (RowT wr g2 lb) ∧ Hid (RowT wr g3 lab) ∧ Hid (Fresh w wr)) (fun _ _ _ i _ => n + m - (intOf i).toNat)
  case atStart => exact ⟨0, by omega, rfl, R7, S7, U7, F7⟩
  case round =>
    obtain ⟨k, hk, rfl, HR, HSS, HU, HFF⟩ := hrel
    clear R7 S7 U7 F7
    by_cases hlt : k < n + m
    · have hltI : (k : Int) < (n : Int) + (m : Int) := by omega
      by_cases hkn : k < n
      · have hknI : (k : Int) < (n : Int) := by omega
        obtain ⟨t, ht1, ht2⟩ := HF.out k hkn
        obtain ⟨x0, x1, x2, x3, x4, x5⟩ := HU.out k t ht1
        obtain ⟨y0, y1, y2, y3, y4, y5⟩ := HR.out k t ht2
        clear ht1 ht2
        go_upto_region 17 with fail
        have FX : Fresh wr (wr.alloc (.cells #[.int .i64 t.k, .int .i64 t.l, .int .i64 t.c, .string t.text, .int .u64 t.bits, .string t.data] 32)) := (Fresh.refl wr).alloc _ _
        have HR8 := Lib.hid (HR.out.fresh FX)
        have HS8 := Lib.hid (HSS.out.fresh FX)
        have HU8 := Lib.hid (HU.out.fresh FX)
        have HF8 := Lib.hid (HFF.out.trans FX)
        have BX : Hid (Blk (wr.alloc (.cells #[.int .i64 t.k, .int .i64 t.l, .int .i64 t.c, .string t.text, .int .u64 t.bits, .string t.data] 32)) wr.heap.size [.int .i64 t.k, .int .i64 t.l, .int .i64 t.c, .string t.text, .int .u64 t.bits, .string t.data]) := Lib.hid (Blk.new wr _ _)
        have z0 := FX.at' y0
        have z1 := FX.at' y1
        have z2 := FX.at' y2
        have z3 := FX.at' y3
        have z4 := FX.at' y4
        have z5 := FX.at' y5
        clear FX x0 x1 x2 x3 x4 x5 y0 y1 y2 y3 y4 y5 HR HSS HU HFF
        generalize wr.alloc (.cells #[.int .i64 t.k, .int .i64 t.l, .int .i64 t.c, .string t.text, .int .u64 t.bits, .string t.data] 32) = w8 at *
        generalize wr.heap.size = px at *
        have b0 := BX.out.1 0 _ rfl
        have b1' := BX.out.1 1 _ rfl
        have b2' := BX.out.1 2 _ rfl
        have b3 := BX.out.1 3 _ rfl
        have b4 := BX.out.1 4 _ rfl
        have b5 := BX.out.1 5 _ rfl
        have hk1 : (k : Int) < (n : Int) + 1 := by omega
        go_quiet (fail)
        go_wp2_with fail
        clear z0 z1 z2 z3 z4 z5 b0 b1' b2' b3 b4 b5
        go_roundw
        case rel => exact ⟨k + 1, by omega, by go_num, Lib.hid (HR8.out.fresh ((Fresh.refl _).drewN _)), Lib.hid (HS8.out.fresh ((Fresh.refl _).drewN _)), Lib.hid (HU8.out.fresh ((Fresh.refl _).drewN _)), Lib.hid (HF8.out.drewN _)⟩
        case measure => simp [intOf]; omega
      · obtain ⟨j, rfl⟩ : ∃ j, k = n + j := ⟨k - n, by omega⟩
        have hj : j < m := by omega
        obtain ⟨t, ht1, ht2, htl⟩ := HSN.out j hj
        obtain ⟨x0, x1, x2, x3, x4, x5⟩ := HU.out (n + j) _ ht2
        obtain ⟨y0, y1, y2, y3, y4, y5⟩ := HSS.out j t ht1
        simp only [Tk.down] at x0 x1 x2 x3 x4 x5
        clear ht1 ht2
        have j0 : 0 ≤ (j : Int) := by omega
        have jm : (j : Int) < (m : Int) := by omega
        have hq : (n : Int) + (j : Int) - ((n : Int) + 1) + 1 = (j : Int) := by omega
        have hkn2 : ¬ (n : Int) + (j : Int) < (n : Int) := by omega
        have HTL := Lib.hid htl
        clear htl
        have HQ9 := Lib.hid hq
        clear hq
        go_upto_region 19 with fail
        have FX : Fresh wr (wr.alloc (.cells #[.int .i64 t.k, .int .i64 (t.l + le), .int .i64 t.c, .string t.text, .int .u64 t.bits, .string t.data] 32)) := (Fresh.refl wr).alloc _ _
        have HR8 := Lib.hid (HR.out.fresh FX)
        have HS8 := Lib.hid (HSS.out.fresh FX)
        have HU8 := Lib.hid (HU.out.fresh FX)
        have HF8 := Lib.hid (HFF.out.trans FX)
        have BX : Hid (Blk (wr.alloc (.cells #[.int .i64 t.k, .int .i64 (t.l + le), .int .i64 t.c, .string t.text, .int .u64 t.bits, .string t.data] 32)) wr.heap.size [.int .i64 t.k, .int .i64 (t.l + le), .int .i64 t.c, .string t.text, .int .u64 t.bits, .string t.data]) := Lib.hid (Blk.new wr _ _)
        have z0 := FX.at' y0
        have z1 := FX.at' y1
        have z2 := FX.at' y2
        have z3 := FX.at' y3
        have z4 := FX.at' y4
        have z5 := FX.at' y5
        clear FX x0 x1 x2 x3 x4 x5 y0 y1 y2 y3 y4 y5 HR HSS HU HFF
        generalize wr.alloc (.cells #[.int .i64 t.k, .int .i64 (t.l + le), .int .i64 t.c, .string t.text, .int .u64 t.bits, .string t.data] 32) = w8 at *
        generalize wr.heap.size = px at *
        obtain ⟨NI, hNI⟩ : ∃ NI : Int, (n : Int) = NI := ⟨_, rfl⟩
        obtain ⟨JI, hJI⟩ : ∃ JI : Int, (j : Int) = JI := ⟨_, rfl⟩
        obtain ⟨MI, hMI⟩ : ∃ MI : Int, (m : Int) = MI := ⟨_, rfl⟩
        have HB1 := Lib.hid b1
        have HB2 := Lib.hid b2
        have HN0 := Lib.hid n0
        have HM0 := Lib.hid m0
        have HJ0 := Lib.hid j0
        have HJM := Lib.hid jm
        have HK2 := Lib.hid hkn2
        have HLT := Lib.hid hlt
        have HLTI : Hid ((n : Int) + (j : Int) < (n : Int) + (m : Int)) := Lib.hid (by omega)
        clear b1 b2 n0 m0 j0 jm hkn2 hlt hltI
        have c1 : 0 ≤ NI := by have := HN0.out; omega
        have c2 : 0 ≤ JI := by have := HJ0.out; omega
        have c3 : JI < MI := by have := HJM.out; omega
        have c4 : NI + JI ≤ 8000000 := by have := HB1.out; have := HJM.out; omega
        have c5 : NI + JI - (NI + 1) + 1 = JI := by omega
        have c6 : JI.toNat = j := by omega
        go_upto_region 20 with fail
        subst hNI hJI hMI
        have FY : Fresh w8 (w8.alloc (.cells #[.int .i64 t.k, .int .i64 t.l, .int .i64 t.c, .string t.text, .int .u64 t.bits, .string t.data] 32)) := (Fresh.refl w8).alloc _ _
        have HR9 := Lib.hid (HR8.out.fresh FY)
        have HS9 := Lib.hid (HS8.out.fresh FY)
        have HU9 := Lib.hid (HU8.out.fresh FY)
        have HF9 := Lib.hid (HF8.out.trans FY)
        have BX9 := Lib.hid (BX.out.fresh FY)
        have BY9 : Hid (Blk (w8.alloc (.cells #[.int .i64 t.k, .int .i64 t.l, .int .i64 t.c, .string t.text, .int .u64 t.bits, .string t.data] 32)) w8.heap.size [.int .i64 t.k, .int .i64 t.l, .int .i64 t.c, .string t.text, .int .u64 t.bits, .string t.data]) := Lib.hid (Blk.new w8 _ _)
        have HPP : Hid (px ≠ w8.heap.size ∧ w.heap.size ≤ w8.heap.size ∧ g < w8.heap.size ∧ g2 < w8.heap.size ∧ g3 < w8.heap.size) := Lib.hid ⟨by have := BX.out.2.2; omega, HF8.out.size, cell_lt (HR8.out n _ HL.out).1, cell_lt z0, by
          obtain ⟨t', ht', -⟩ := HSN.out j hj
          obtain ⟨t2, -, h2, -⟩ := HSN.out j hj
          exact cell_lt (HU8.out (n + j) _ h2).1⟩
        clear FY z0 z1 z2 z3 z4 z5 HR8 HS8 HU8 HF8 BX c1 c2 c3 c4 c5 c6
        generalize w8.alloc (.cells #[.int .i64 t.k, .int .i64 t.l, .int .i64 t.c, .string t.text, .int .u64 t.bits, .string t.data] 32) = w9 at *
        generalize w8.heap.size = py at *
        have e1 := (HR9.out n _ HL.out).2.1
        simp only [endT] at e1
        have b1 := BY9.out.1 1 _ rfl
        have bf := BY9.out.2.1
        have hw1 : IntKind.i64.wrap ((n : Int) + 1 - 1) = (n : Int) := IntWalk.i64_in _ (by have := HN2.out; omega) |>.trans (by omega)
        have hw2 : IntKind.i64.wrap (n : Int) = (n : Int) := IntWalk.i64_in _ (by have := HN2.out; omega)
        have hw3 : IntKind.i64.wrap (t.l + le) = t.l + le := IntWalk.i64_in _ (by have := HTL.out; have := HLE.out; omega)
        have i1 : (n : Int) < (n : Int) + 1 := by omega
        have i0 : 0 ≤ (n : Int) := HN0.out
        go_region
        go_upto_region 21 with fail
        have KS := Kq.set py w9 1 (.int .i64 (t.l + le))
        have KD : Fresh (w9.setCell ⟨py, 1, none⟩ (.int .i64 (t.l + le))) (w9.setCell ⟨py, 1, none⟩ (.int .i64 (t.l + le))).drew := (Fresh.refl _).drew
        have HRa := Lib.hid ((HR9.out.kq KS (by have := HPP.out; omega)).fresh KD)
        have HSa := Lib.hid ((HS9.out.kq KS (by have := HPP.out; omega)).fresh KD)
        have HUa := Lib.hid ((HU9.out.kq KS (by have := HPP.out; omega)).fresh KD)
        have HFa := Lib.hid ((HF9.out.setCell (p := ⟨py, 1, none⟩) HPP.out.2.1 (.int .i64 (t.l + le))).trans KD)
        have BXa := Lib.hid ((BX9.out.other HPP.out.1 1 (.int .i64 (t.l + le))).fresh KD)
        have BYa : Hid (Blk (w9.setCell ⟨py, 1, none⟩ (.int .i64 (t.l + le))).drew py [.int .i64 t.k, .int .i64 (t.l + le), .int .i64 t.c, .string t.text, .int .u64 t.bits, .string t.data]) := Lib.hid (Blk.fresh (by
          have y0 := BY9.out.1 0 _ rfl
          have y1 := BY9.out.1 1 _ rfl
          have y2 := BY9.out.1 2 _ rfl
          have y3 := BY9.out.1 3 _ rfl
          have y4 := BY9.out.1 4 _ rfl
          have y5 := BY9.out.1 5 _ rfl
          refine ⟨fun i v hv => ?_, fun o => ?_, by simpa [World.setCell] using BY9.out.2.2⟩
          · match i, hv with
            | 0, hv => simp at hv; subst hv; simp [go_sem, y0, y1]
            | 1, hv => simp at hv; subst hv; simp [go_sem, y0, y1]
            | 2, hv => simp at hv; subst hv; simp [go_sem, y2, y1]
            | 3, hv => simp at hv; subst hv; simp [go_sem, y3, y1]
            | 4, hv => simp at hv; subst hv; simp [go_sem, y4, y1]
            | 5, hv => simp at hv; subst hv; simp [go_sem, y5, y1]
          · simp [go_sem, bf]) KD)
        clear KS KD HR9 HS9 HU9 HF9 BX9 BY9 e1 b1 bf hw1 hw2 hw3 i1 i0
        generalize (w9.setCell ⟨py, 1, none⟩ (.int .i64 (t.l + le))).drew = wa at *
        have x0 := BXa.out.1 0 _ rfl
        have x1 := BXa.out.1 1 _ rfl
        have x2 := BXa.out.1 2 _ rfl
        have x3 := BXa.out.1 3 _ rfl
        have x4 := BXa.out.1 4 _ rfl
        have x5 := BXa.out.1 5 _ rfl
        have y0 := BYa.out.1 0 _ rfl
        have y1 := BYa.out.1 1 _ rfl
        have y2 := BYa.out.1 2 _ rfl
        have y3 := BYa.out.1 3 _ rfl
        have y4 := BYa.out.1 4 _ rfl
        have y5 := BYa.out.1 5 _ rfl
        have q1 : (n : Int) + (j : Int) < (n : Int) + (m : Int) := HLTI.out
        have q2 := HB1.out
        have q3 := HN0.out
        have q4 := HJ0.out
        go_wp2_with fail
        clear x0 x1 x2 x3 x4 x5 y0 y1 y2 y3 y4 y5
        go_roundw
        case rel => exact ⟨n + j + 1, by omega, by go_num, HRa, HSa, HUa, HFa⟩
        case measure => simp [intOf]; have := HLT.out; omega
    · obtain rfl : k = n + m := by omega
      have hge : ¬ (n : Int) + (m : Int) < (n : Int) + (m : Int) := by omega
      go_wp2_with fail
      go_at_call 11; refine (dec_zero _).mono ?_; rintro e w9 ⟨rfl, f9⟩
      have HF9 := Lib.hid (HFF.out.trans f9)
      clear f9
      go_wp2_with fail
      go_ret
      exact ⟨rfl, HF9.out⟩
end Go.Proofs.YtcmfmfgedhfaeaaGreatDoor
