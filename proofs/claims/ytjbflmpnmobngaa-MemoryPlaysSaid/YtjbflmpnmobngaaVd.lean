/- The reference's memory: where a chunk stands, if it does. -/
import Derived.Test.YtjbflmpnmobngaaVc
namespace Go.Proofs.Ytjbflmpnmobngaa
set_option linter.unusedSimpArgs false
set_option linter.unusedVariables false
open Go.RowKit

theorem Fresh.drewN {a w : World} (h : Fresh a w) (n : Nat) : Fresh a (w.drewN n) := ⟨⟨h.below.os, h.below.tape, h.below.output, h.below.size, h.below.block⟩, fun x => h.froz x⟩
def offV : Option (RB × Nat) → Value
  | none => .tuple #[.int .i64 0, .bool false]
  | some t => .tuple #[.int .i64 (t.2 : Int), .bool true]
section
set_option maxRecDepth 100000
set_option maxHeartbeats 2000000
theorem reaches_any {M G : Nat} {L : RL} (c k n b : Int) (hb : -9223372036854775808 ≤ b ∧ b ≤ 9223372036854775807) (hL : L.length ≤ 2199023255552) (hz : ∀ b r, getR (plainR L) b = some r → r.sz ≤ 16777216) (w : World) (h : RRow w M G L) :
    Calls Try.prog 36 #[.pointer (some ⟨M, 0, none⟩), .int .i64 c, .agg #[.int .i64 k, .int .u64 n, .int .i64 b]] w fun e w' => e = .returned (offV (reachR (plainR L) c k n b)) ∧ Fresh w w' := by
  have f1 : Fresh w (w.alloc (.cells #[.int .i64 k, .int .u64 n, .int .i64 b] 32)) := (Fresh.refl w).alloc _ _
  have F := Lib.hid f1
  have SZ := Lib.hid (fun X => size1_any c X)
  have hsz := sizeL_cases c
  by_cases hc : sizeL c = 0
  · have hr : reachR (plainR L) c k n b = none := by unfold reachR; rw [if_pos (Or.inl hc)]
    rw [hr]
    rw [hc] at SZ
    clear hr h hz hb hL hsz hc f1
    go_enter Try.func36, Try.ntmps36
    go_wp2_with fail
    go_at_call 37; refine (SZ.out _).mono ?_; rintro e w1 ⟨rfl, rfl⟩
    go_wp2_with fail
    go_ret2
    exact ⟨rfl, F.out⟩
  · have b0 : (sizeL c == 0) = false := by simpa using hc
    by_cases hk : k = 4
    · subst hk
      have HL := Lib.hid (liveR_any b hb hL _ (h.fresh f1))
      have hr : reachR (plainR L) c 4 n b = (match getR (plainR L) b with | none => none | some r => if wrap64 n < 0 ∨ r.sz < wrap64 n ∨ (r.sz : Int) - wrap64 n < sizeL c ∨ wrap64 n % sizeL c ≠ 0 then none else some (r, (wrap64 n).toNat)) := by
        unfold reachR
        rw [if_neg (by omega)]
        cases getR (plainR L) b <;> rfl
      rw [hr]
      have hrow := h.fresh f1
      cases hg : getR (plainR L) b with
      | none =>
        rw [hg] at HL
        simp only [Option.isSome_none] at HL
        dsimp only
        clear hr h hz hb hL hsz hc f1 hg hrow
        generalize sizeL c = z at *
        go_enter Try.func36, Try.ntmps36
        go_wp2_with fail
        go_at_call 37; refine (SZ.out _).mono ?_; rintro e w1 ⟨rfl, rfl⟩
        go_wp2_with fail
        go_at_call 32; refine (HL.out).mono ?_; rintro e w1 ⟨rfl, rfl⟩
        go_wp2_with fail
        go_ret2
        exact ⟨rfl, F.out⟩
      | some r =>
        rw [hg] at HL
        simp only [Option.isSome_some] at HL
        dsimp only
        have hrz := hz b r hg
        have hin := getR_in hg
        unfold plainR at hin
        rw [List.length_map] at hin
        obtain ⟨s, ht, he⟩ := getR_plain L b hin.1 hin.2
        rw [hg] at he
        obtain ⟨m, hm⟩ : ∃ m : Nat, b = (m : Int) + 1 := ⟨(b - 1).toNat, by omega⟩
        subst hm
        rw [show ((m : Int) + 1 - 1).toNat = m by omega] at ht
        have hl := hrow.at' m s 0 (.slice (some ⟨s.2.1.K, 0, none⟩) r.sz r.sz) ht (by rw [← he]; rfl) (by decide)
        obtain ⟨p, cap, hcap, hpp⟩ := hrow.c0
        obtain rfl := hpp (fun e => by rw [e] at hin; simp at hin; omega)
        clear hpp
        rw [Nat.add_zero] at hl
        have hw : IntKind.i64.wrap ((m : Int) + 1 - 1) = (m : Int) := (IntWalk.i64_in _ (by omega)).trans (by omega)
        have hx : (m : Int) + 1 - 1 = (m : Int) := by omega
        have hw3 : IntKind.i64.wrap (m : Int) = (m : Int) := IntWalk.i64_in _ (by omega)
        have hw4 : wrap64 (m : Int) = (m : Int) := by unfold wrap64; omega
        have hnl : (m : Int) < (L.length : Int) := by omega
        have hn0 : (0 : Int) ≤ (m : Int) := by omega
        have hrn : -9223372036854775808 ≤ wrap64 n ∧ wrap64 n ≤ 9223372036854775807 := by unfold wrap64; omega
        clear hr h hz hb hL hc f1 hg hrow ht he hin
        generalize s.2.1.K = K at *
        generalize sizeL c = z at *
        obtain ⟨V, hVd⟩ : ∃ V, V = offV (if wrap64 n < 0 ∨ r.sz < wrap64 n ∨ (r.sz : Int) - wrap64 n < z ∨ wrap64 n % z ≠ 0 then none else some (r, (wrap64 n).toNat)) := ⟨_, rfl⟩
        rw [← hVd]
        have HVD := Lib.hid hVd
        clear hVd
        go_enter Try.func36, Try.ntmps36
        go_wp2_with fail
        go_at_call 37; refine (SZ.out _).mono ?_; rintro e w1 ⟨rfl, rfl⟩
        go_wp2_with fail
        go_at_call 32; refine (HL.out).mono ?_; rintro e w1 ⟨rfl, rfl⟩
        go_upto_region 4 with fail
        have x0 : (w.alloc (.cells #[.int .i64 4, .int .u64 n, .int .i64 ((m : Int) + 1)] 32)).cell? ⟨w.heap.size, 0, none⟩ = some (.int .i64 4) := by simp [go_sem]
        have x1 : (w.alloc (.cells #[.int .i64 4, .int .u64 n, .int .i64 ((m : Int) + 1)] 32)).cell? ⟨w.heap.size, 1, none⟩ = some (.int .u64 n) := by simp [go_sem]
        have x2 : (w.alloc (.cells #[.int .i64 4, .int .u64 n, .int .i64 ((m : Int) + 1)] 32)).cell? ⟨w.heap.size, 2, none⟩ = some (.int .i64 ((m : Int) + 1)) := by simp [go_sem]
        clear SZ HL
        generalize w.alloc (.cells #[.int .i64 4, .int .u64 n, .int .i64 ((m : Int) + 1)] 32) = W1 at *
        go_quiet (fail)
        clear x0 x1 x2 hl hcap hw hw3 hw4 hx hnl hn0
        generalize wrap64 n = o at *
        by_cases a1 : o < 0
        · have hR : Hid (V = .tuple #[.int .i64 0, .bool false]) := Lib.hid (by rw [HVD.out, if_pos (Or.inl a1)]; rfl)
          clear hsz hrz hrn b0
          go_wp2_with fail
          go_ret2
          exact ⟨by rw [hR.out]; rfl, F.out.drewN _⟩
        have d1 : decide (o < 0) = false := decide_eq_false a1
        by_cases a2 : (r.sz : Int) < o
        · have hR : Hid (V = .tuple #[.int .i64 0, .bool false]) := Lib.hid (by rw [HVD.out, if_pos (Or.inr (Or.inl a2))]; rfl)
          clear hsz hrz hrn b0
          go_wp2_with fail
          go_ret2
          exact ⟨by rw [hR.out]; rfl, F.out.drewN _⟩
        have d2 : decide ((r.sz : Int) < o) = false := decide_eq_false a2
        have hws : IntKind.i64.wrap ((r.sz : Int) - o) = (r.sz : Int) - o := IntWalk.i64_in _ (by omega)
        by_cases a3 : (r.sz : Int) - o < z
        · have hR : Hid (V = .tuple #[.int .i64 0, .bool false]) := Lib.hid (by rw [HVD.out, if_pos (Or.inr (Or.inr (Or.inl a3)))]; rfl)
          clear hsz hrz hrn b0 a1 a2
          go_wp2_with fail
          go_ret2
          exact ⟨by rw [hR.out]; rfl, F.out.drewN _⟩
        have d3 : decide ((r.sz : Int) - o < z) = false := decide_eq_false a3
        have htm : Int.tmod o z = o % z := Int.tmod_eq_emod_of_nonneg (by omega)
        have hz0 : ¬ z = 0 := by simpa using b0
        by_cases a4 : o % z = 0
        · have hR : Hid (V = .tuple #[.int .i64 o, .bool true]) := Lib.hid (by
            rw [HVD.out, if_neg (by rintro (e | e | e | e); exact a1 e; exact a2 e; exact a3 e; exact e a4)]
            show Value.tuple #[.int .i64 ((o.toNat : Nat) : Int), .bool true] = _
            rw [Int.toNat_of_nonneg (by omega)])
          have d4 : (Int.tmod o z != 0) = false := by rw [htm, a4]; rfl
          have d5 : (o % z != 0) = false := by rw [a4]; rfl
          clear hsz hrz hrn a1 a2 a3
          go_wp2_with fail
          go_ret2
          exact ⟨by rw [hR.out]; rfl, F.out.drewN _⟩
        · have hR : Hid (V = .tuple #[.int .i64 0, .bool false]) := Lib.hid (by rw [HVD.out, if_pos (Or.inr (Or.inr (Or.inr a4)))]; rfl)
          have d4 : (Int.tmod o z != 0) = true := by rw [htm]; simpa using a4
          have d5 : (o % z != 0) = true := by simpa using a4
          clear hsz hrz hrn a1 a2 a3
          go_wp2_with fail
          go_ret2
          exact ⟨by rw [hR.out]; rfl, F.out.drewN _⟩
    · have hr : reachR (plainR L) c k n b = none := by unfold reachR; rw [if_pos (Or.inr hk)]
      have hk2 : (k != 4) = true := by simpa using hk
      have hk3 : (k == 4) = false := by simpa using hk
      rw [hr]
      clear hr h hz hb hL hsz hc f1 hk
      generalize sizeL c = z at *
      go_enter Try.func36, Try.ntmps36
      go_wp2_with fail
      go_at_call 37; refine (SZ.out _).mono ?_; rintro e w1 ⟨rfl, rfl⟩
      go_wp2_with fail
      go_ret2
      exact ⟨rfl, F.out⟩
end
end Go.Proofs.Ytjbflmpnmobngaa
