/- A thing put into the rows of the nodes where it stands. -/
import Derived.Test.YtlmlgdojmcmllaaUk
namespace Go.Proofs.Ytlmlgdojmcmllaa
set_option linter.unusedSimpArgs false
set_option linter.unusedVariables false
open Go.RowKit
open Solve

def BP (V : Nat → Prop) (b : Nat) (ls' : Graph) (w w' : World) : Prop := ∃ V', Bag w' V' b ls' ∧ (∀ k, V' k → V k ∨ w.heap.size ≤ k) ∧ Keep V w w'
set_option maxHeartbeats 8000000 in
set_option maxRecDepth 100000 in
theorem sets1_any (V : Nat → Prop) (b p5 p7 n : Nat) (ls : Graph) (x : Int) (i : Nat) (w : World) (hi : i < ls.length) (hn : ls.length = n) (hl : (row ls i).length ≤ 5000) (hB : Bag w V b ls) (h5 : w.heap[p5]? = some (.cells #[.slice (some ⟨b, 0, none⟩) n n] 22 (0, 0))) (h7 : w.heap[p7]? = some (.cells #[.int .i64 x] 3 (0, 0))) (hp : ¬ V p5 ∧ ¬ V p7) :
    Calls Try.prog 45 #[.int .i64 (i : Int), .pointer (some ⟨p5, 0, none⟩), .pointer (some ⟨p7, 0, none⟩)] w fun e w' => e = .returned (.tuple #[]) ∧ BP V b (ls.set i (row ls i ++ [x])) w w' := by
  subst hn
  have c5 : w.cell? ⟨p5, 0, none⟩ = some (.slice (some ⟨b, 0, none⟩) ls.length ls.length) := by rw [cell_of_row w p5 0 _ 22 (0, 0) h5]; rfl
  have c7 : w.cell? ⟨p7, 0, none⟩ = some (.int .i64 x) := by rw [cell_of_row w p7 0 _ 3 (0, 0) h7]; rfl
  obtain ⟨u, cu, hq, ⟨q2, c2, rfl, hc2, hm2⟩, hpush⟩ := hB.at' hi
  have HQ := Lib.hid hq
  have HP := Lib.hid hpush
  have hnl := nums_len (row ls i)
  obtain ⟨i0, hi0, hz0, hz1, hz2⟩ := info_parts int_info
  have z5 := cell_lt c5
  have z7 := cell_lt c7
  have zu := cell_lt cu
  simp only at z5 z7 zu
  obtain ⟨wa, hwa⟩ : ∃ wa, wa = (w.alloc (.cells #[.int .i64 x] 3)).drew := ⟨_, rfl⟩
  have HWA : Hid (Fresh w wa) := Lib.hid (by rw [hwa]; exact ((Fresh.refl _).alloc _ _).drew)
  have HNW : Hid (News wa (.slice (some ⟨w.heap.size, 0, none⟩) 1 1) [.int .i64 x]) := Lib.hid (by rw [hwa]; exact (news_one w (.int .i64 x) 3 1).drew)
  have HOW := Lib.hid (HQ.out.fresh HWA.out)
  have HW := Lib.hid hwa
  have HC5 : Hid (∀ (w5 : World) (u2 : Value), Keep V w (w5.setCell ⟨b, i, none⟩ u2) → w5.cell? ⟨p5, 0, none⟩ = some (.slice (some ⟨b, 0, none⟩) ls.length ls.length)) := Lib.hid (fun w5 u2 hk => by
    have hne : p5 ≠ b := fun e => hp.1 (e ▸ hB.vb)
    have : w5.heap[p5]? = some (.cells #[.slice (some ⟨b, 0, none⟩) ls.length ls.length] 22 (0, 0)) := (Below.heap_setCell w5 ⟨b, i, none⟩ u2 p5 hne).symm.trans ((hk.block p5 (heap_lt h5) hp.1).trans h5)
    rw [cell_of_row w5 p5 0 _ 22 (0, 0) this]; rfl)
  clear hB h5 h7 hq hpush hwa
  go_enter Try.func45, Try.ntmps45
  go_region_law (refine step_app _ (by rfl) (.tmp 9) (.tmp 11) 28 (by rfl) 0 3 i0 (.int .i64 0) 8 Try.underlying28 hi0 hz0 hz1 hz2 rfl (.slice q2 (row ls i).length c2) (nums (row ls i)) (by rfl) (by rw [← HW.out]; exact HOW.out) (.slice (some ⟨w.heap.size, 0, none⟩) 1 1) [.int .i64 x] (by rfl) (by rw [← HW.out]; exact HNW.out) (by intro y hy; simp at hy; subst hy; rfl) (by simp only [nums_len, List.length_singleton, maxLen]; omega) (by simp only [nums_len, List.length_singleton]; omega) (by simp) ?_; intro u2 w5 hq2 hg2 ha2; rw [← HW.out] at hg2 ha2; obtain ⟨c9, f9, ⟨q9, n9, cc9, rfl⟩, hBP⟩ := HP.out _ _ _ _ HWA.out hq2 hg2 ha2; have HBP := Lib.hid hBP; obtain ⟨_, _, _, hk9⟩ := hBP; have d5 := HC5.out _ _ hk9; clear hq2 hg2 ha2 hk9 cu c5 c7)
  all_goals
    go_end0
    obtain ⟨V', h1, h2, h3⟩ := HBP.out
    exact ⟨rfl, V', h1, h2, h3⟩
end Go.Proofs.Ytlmlgdojmcmllaa
