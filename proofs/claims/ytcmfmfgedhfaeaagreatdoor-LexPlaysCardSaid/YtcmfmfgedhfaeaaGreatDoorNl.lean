/- Two rows of tokens, held against one another. -/
import Derived.Test.YtcmfmfgedhfaeaaGreatDoorNd
import Derived.Test.YtcmfmfgedhfaeaaGreatDoorNk
import Derived.Outline
import Derived.Deep.CutRange
namespace Go.Proofs.YtcmfmfgedhfaeaaGreatDoor
set_option linter.unusedSimpArgs false
set_option linter.unusedVariables false
open Go.RowKit

set_option maxRecDepth 100000 in
set_option maxHeartbeats 16000000 in
theorem same_any (g1 g2 c1 c2 n : Nat) (ts us : List Tk) (hn : n ≤ 1048577) (h : ∀ i, i < n → ∃ t u, ts[i]? = some t ∧ us[i]? = some u ∧ t.bare = u.bare) (w : World) (h1 : RowT w g1 ts) (h2 : RowT w g2 us) :
    Calls Tryz.prog 10 #[.slice (some ⟨g1, 0, none⟩) n c1, .slice (some ⟨g2, 0, none⟩) n c2, .bool false] w fun e w' => e = .returned (.bool true) ∧ Fresh w w' := by
  have H := Lib.hid h
  have H1 := Lib.hid h1
  have H2 := Lib.hid h2
  have HN := Lib.hid hn
  clear h h1 h2
  go_enter Tryz.func10, Tryz.ntmps10
  go_wp2_with fail
  go_loopw [7, 8, 9, 17] (fun _ _ _ i wr => ∃ k : Nat, k ≤ n ∧ i = .int .i64 k ∧ Hid (RowT wr g1 ts) ∧ Hid (RowT wr g2 us) ∧ Hid (Fresh w wr)) (fun _ _ _ i _ => n - (intOf i).toNat)
  case atStart => exact ⟨0, by omega, rfl, H1, H2, Lib.hid (Fresh.refl w)⟩
  case round =>
    obtain ⟨k, hk, rfl, HR, HS, HF⟩ := hrel
    clear H1 H2
    by_cases hlt : k < n
    · obtain ⟨t, u, ht, hu, hb⟩ := H.out k hlt
      obtain ⟨x0, x1, x2, x3, x4, x5⟩ := HR.out k t ht
      obtain ⟨y0, y1, y2, y3, y4, y5⟩ := HS.out k u hu
      have hltI : (k : Int) < (n : Int) := by omega
      have k0 : 0 ≤ (k : Int) := by omega
      have gz1 : g1 < wr.heap.size := cell_lt x0
      have gz2 : g2 < wr.heap.size := cell_lt y0
      have gy1 : g1 < wr.heap.size + 1 := by omega
      have gy2 : g2 < wr.heap.size + 1 := by omega
      clear ht hu
      go_upto_region 6 with fail
      go_cut [8, 9] from 18 to 37 (fun s8 s9 wx => Hid (∃ a b, s8 = .pointer (some ⟨a, 0, none⟩) ∧ s9 = .pointer (some ⟨b, 0, none⟩) ∧ a ≠ b ∧ wr.heap.size ≤ a ∧ wr.heap.size ≤ b ∧ Fresh wr wx ∧ Blk wx a t.cells ∧ Blk wx b u.cells))
      case first =>
        go_region
        all_goals (go_wp2_with fail; go_meet)
        · refine Lib.hid ⟨_, _, rfl, rfl, by omega, Nat.le_refl _, by omega, (((Fresh.refl wr).alloc _ _).alloc _ _).drew, (Blk.new wr t.cells.toArray 32).fresh ((Fresh.refl _).alloc _ _).drew, ?_⟩
          have := Blk.new (wr.alloc (.cells t.cells.toArray 32)) u.cells.toArray 32
          have := this.fresh (Fresh.refl _).drew
          simpa only [World.size_alloc, Tk.cells] using this
        · refine Lib.hid ⟨_, _, rfl, rfl, by omega, by omega, Nat.le_refl _, (((Fresh.refl wr).alloc _ _).alloc _ _).drew, ?_, (Blk.new wr u.cells.toArray 32).fresh ((Fresh.refl _).alloc _ _).drew⟩
          have := Blk.new (wr.alloc (.cells u.cells.toArray 32)) t.cells.toArray 32
          have := this.fresh (Fresh.refl _).drew
          simpa only [World.size_alloc, Tk.cells] using this
      case rest =>
        obtain ⟨a, b, rfl, rfl, hab, ha, hb1, f, B1, B2⟩ := hcut.out
        have HE := Lib.hid f
        have hza := B1.2.2
        have hzb := B2.2.2
        clear hcut x0 x1 x2 x3 x4 x5 y0 y1 y2 y3 y4 y5 gz1 gz2 gy1 gy2 f
        obtain ⟨tk, tl, tc, tt, tb, td⟩ := t
        obtain ⟨uk, ul, uc, ut, ub, ud⟩ := u
        simp only [Tk.bare, Tk.mk.injEq] at hb
        obtain ⟨rfl, _, _, rfl, rfl, rfl⟩ := hb
        have a0 := B1.1 0 _ rfl
        have a1 := B1.1 1 _ rfl
        have a2 := B1.1 2 _ rfl
        have a3 := B1.1 3 _ rfl
        have a4 := B1.1 4 _ rfl
        have a5 := B1.1 5 _ rfl
        have af := B1.2.1
        have b0 := B2.1 0 _ rfl
        have b1 := B2.1 1 _ rfl
        have b2 := B2.1 2 _ rfl
        have b3 := B2.1 3 _ rfl
        have b4 := B2.1 4 _ rfl
        have b5 := B2.1 5 _ rfl
        have bf := B2.2.1
        have hba : b ≠ a := hab.symm
        clear B1 B2
        go_wp2_with fail
        go_roundw
        case rel =>
          have key : ∀ W, Fresh wr W → Hid (RowT W g1 ts) ∧ Hid (RowT W g2 us) ∧ Hid (Fresh w W) := fun W f => ⟨Lib.hid (HR.out.fresh f), Lib.hid (HS.out.fresh f), Lib.hid (HF.out.trans f)⟩
          refine ⟨k + 1, by omega, by rfl, key _ ?_⟩
          repeat' first
            | exact HE.out
            | with_reducible refine Fresh.setCell ?_ ?_ _
            | exact ha
            | exact hb1
        case measure =>
          show n - (((k : Int) + 1)).toNat < n - ((k : Int)).toNat
          omega
    · obtain rfl : k = n := by omega
      have hge : ¬ (k : Int) < (k : Int) := by omega
      go_wp2_with fail
      go_ret
      exact ⟨rfl, HF.out⟩
end Go.Proofs.YtcmfmfgedhfaeaaGreatDoor
