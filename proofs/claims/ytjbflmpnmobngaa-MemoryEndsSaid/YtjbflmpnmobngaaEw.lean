/- The walk of the statement on blocks that have ended, and on fixed ones. -/
import Derived.Test.YtjbflmpnmobngaaMy
import Derived.Deep.DeepCutAuto
namespace Go.Proofs.Ytjbflmpnmobngaa.memoryEnds
set_option linter.unusedSimpArgs false
set_option linter.unusedVariables false
open Go.RowKit

theorem m1 {α : Type} {a : α} {l : List α} : a ∈ a :: l := List.mem_cons_self ..
theorem m2 {α : Type} {a b : α} {l : List α} : b ∈ a :: b :: l := by simp
theorem m3 {α : Type} {a b c : α} {l : List α} : c ∈ a :: b :: c :: l := by simp
theorem m4 {α : Type} {a b c d : α} {l : List α} : d ∈ a :: b :: c :: d :: l := by simp
/-- Blocks 1 to k are there. -/
def Full (S : Int → Option BS) (k : Int) : Prop := ∀ i, 1 ≤ i → i ≤ k → ∃ s, S i = some s
theorem Full.step {S : Int → Option BS} {k : Int} (h : Full S k) (s : BS) : Full (putS S (k + 1) s) (k + 1) := by
  intro i h1 h2
  by_cases e : i = k + 1
  · exact ⟨s, by simp [putS, e]⟩
  · obtain ⟨t, ht⟩ := h i h1 (by omega)
    exact ⟨t, by simp [putS, e, ht]⟩
theorem pick_b (a m : Int) (h0 : 0 < m) (h1 : m ≤ 50) : 1 ≤ 1 + wrap64 ((IntKind.u64.wrap a).tmod m) ∧ 1 + wrap64 ((IntKind.u64.wrap a).tmod m) ≤ m := by
  have : 0 ≤ IntKind.u64.wrap a := by simp [IntKind.wrap, IntKind.bits, IntKind.signed]; omega
  rw [Int.tmod_eq_emod_of_nonneg this]
  have h2 := Int.emod_nonneg (IntKind.u64.wrap a) (b := m) (by omega)
  have h3 := Int.emod_lt_of_pos (IntKind.u64.wrap a) h0
  unfold wrap64; omega
theorem ptr_b (b o : Int) (hb : 1 ≤ b) (w : World) : Calls Try.prog 23 #[.int .i64 b, .int .i64 o] w fun e w' => e = .returned (.agg #[.int .i64 4, .int .u64 (IntKind.u64.wrap o), .int .i64 b]) ∧ Fresh w w' :=
  ptr_f b o 4 _ b (by have : (b == 0) = false := by simp; omega
                      simp [ptrL, this]) w
theorem eqv (x y z : Int) (w : World) : (binOp .neq 32 (.agg #[.int .i64 x, .int .u64 y, .int .i64 z]) (.agg #[.int .i64 x, .int .u64 y, .int .i64 z])).run Try.prog w = .ok (.bool false) w := by
  simp [go_sem]
theorem mod100 (x : Int) : 0 ≤ wrap64 ((IntKind.u64.wrap x).tmod 100) ∧ wrap64 ((IntKind.u64.wrap x).tmod 100) ≤ 16777216 := by
  have : 0 ≤ IntKind.u64.wrap x := by simp [IntKind.wrap, IntKind.bits, IntKind.signed]; omega
  rw [Int.tmod_eq_emod_of_nonneg this]
  unfold wrap64; omega
def fixB (s : BS) : BS := { s with fx := true }
theorem goes_fix (s : BS) (c n : Int) : goesB (fixB s) c n = goesB s c n := rfl
theorem load_fix (S : Int → Option BS) (b c n : Int) (s : BS) (h : S b = some s) : loadS (putS S b (fixB s)) c 4 n b = loadS S c 4 n b := by
  unfold loadS reachS
  simp only [if_pos, putS, h]
  by_cases g : goesB s c n = true
  · rw [if_pos (show goesB (fixB s) c n = true from g), if_pos g]; rfl
  · rw [if_neg (show ¬ goesB (fixB s) c n = true from g), if_neg g]
theorem store_fix (S : Int → Option BS) (b c n k' n' b' : Int) (s : BS) : (storeS (putS S b (fixB s)) c 4 n b k' n' b').1 = false ∧ (storeS (putS S b (fixB s)) c 4 n b k' n' b').2 = putS S b (fixB s) := by
  unfold storeS reachS
  simp only [if_pos, putS]
  by_cases g : goesB (fixB s) c n = true
  · rw [if_pos g]; simp [fixB]
  · rw [if_neg g]; simp
theorem reach_del (S : Int → Option BS) (b c n : Int) : reachS (delS S b) c 4 n b = none := by
  unfold reachS; simp [delS]
theorem load_del (S : Int → Option BS) (b c n : Int) : loadS (delS S b) c 4 n b = ((0, 0, 0), false) := by
  unfold loadS; rw [reach_del]
theorem store_del (S : Int → Option BS) (b c n k' n' b' : Int) : (storeS (delS S b) c 4 n b k' n' b').1 = false ∧ (storeS (delS S b) c 4 n b k' n' b').2 = delS S b := by
  unfold storeS; rw [reach_del]; exact ⟨rfl, rfl⟩
theorem fix_yes {S : Int → Option BS} {b : Int} {s : BS} (h : S b = some s) : (fixS S b).1 = true ∧ (fixS S b).2 = putS S b (fixB s) := by
  unfold fixS; rw [h]; exact ⟨rfl, rfl⟩
theorem free_yes (S : Int → Option BS) (b : Int) (s : BS) : (freeS (putS S b s) b).1 = true ∧ (freeS (putS S b s) b).2 = delS (putS S b s) b := by
  unfold freeS; simp [putS]
theorem del_no (S : Int → Option BS) (b : Int) : (freeS (delS S b) b).1 = false ∧ (freeS (delS S b) b).2 = delS S b ∧ (fixS (delS S b) b).1 = false ∧ (fixS (delS S b) b).2 = delS S b ∧ sizeS (delS S b) b = (0, false) := by
  unfold freeS fixS sizeS; simp [delS]
variable {W w w' : World} {M T : Nat} {made : Int} {S : Int → Option BS} {l : List (Nat × Int × Int × Int)}
theorem Env.have' (h : Env W w M T made S l) {B : Nat} (hB : B < W.heap.size) {k n b : Int} (ho : Own w B k n b) : Env W w M T made S ((B, k, n, b) :: l) := by
  refine ⟨h.mem.locals (Fresh.refl w) fun k hk => ?_, fun x hx => ?_, h.fr⟩
  · rcases hk with g | ⟨x, hx, g⟩
    · exact Or.inl (Or.inl g)
    · rcases List.mem_cons.1 hx with rfl | hx
      · subst g; exact Or.inl (Or.inl hB)
      · exact Or.inl (Or.inr ⟨x, hx, g⟩)
  · rcases List.mem_cons.1 hx with rfl | hx
    · exact ho
    · exact h.own x hx
theorem Env.same (h : Env W w M T made S l) {S' : Int → Option BS} (e : S = S') {T' : Nat} (hT : T ≤ T') : Env W w M T' made S' l := by
  subst e; exact ⟨h.mem.mono hT, h.own, h.fr⟩
theorem Env.store_no (h : Env W w M T made S l) (hT : T < maxLen) (c k n b k' n' b' : Int) (hb : Key b) (hn : 0 ≤ n') (hv : (storeS S c k n b k' n' b').1 = false ∧ (storeS S c k n b k' n' b').2 = S) :
    Calls Try.prog 17 #[.pointer (some ⟨M, 0, none⟩), .int .i64 c, .agg #[.int .i64 k, .int .u64 n, .int .i64 b], .agg #[.int .i64 k', .int .u64 n', .int .i64 b']] w fun e w' => e = .returned (.bool false) ∧ Env W w' M (T + 1) made S l := by
  refine (h.store hT c k n b k' n' b' hb hn false hv.1).mono ?_
  rintro e w' ⟨he, hE⟩
  exact ⟨he, Env.same hE hv.2 (Nat.le_refl _)⟩
/-- The ints of a slice. -/
def IntsIn (w : World) (B off n : Nat) (g : Nat → Int) : Prop := ∀ j, j < n → w.cell? ⟨B, off + j, none⟩ = some (.int .i64 (g j))
theorem IntsIn.at' {B off n : Nat} {g : Nat → Int} (h : IntsIn w B off n g) (hf : Fresh w w') {j : Nat} (hj : j < n) : w'.cell? ⟨B, off + j, none⟩ = some (.int .i64 (g j)) := hf.cellOf (cell_lt (h j hj)) (h j hj)

set_option maxRecDepth 100000 in
set_option maxHeartbeats 40000000 in
theorem walk (B off n cap : Nat) (g : Nat → Int) (hn : 0 < n) (hcap : n ≤ cap) (hm : cap ≤ maxLen) (a1 a2 a3 k' n' b' : Int) (hx : 0 ≤ n') (w : World) (hc : IntsIn w B off n g) :
    Calls Try.prog 5 #[.slice (some ⟨B, off, none⟩) n cap, .int .i64 a1, .int .i64 a2, .int .i64 a3, .agg #[.int .i64 k', .int .u64 n', .int .i64 b']] w fun e w' => e = .returned (.bool true) ∧ Fresh w w' := by
  unfold maxLen at hm
  have HC := Lib.hid hc
  have HX := Lib.hid hx
  clear hc hx
  have o9 := Own.new' w k' n' b'
  go_enter Try.func5, Try.ntmps5
  go_wp2_with fail
  go_at_call 7; refine (fixed_any _).mono ?_; rintro e w0 ⟨rfl, h0⟩
  have hf0 : Fresh w w0 := ((Fresh.refl w).alloc _ _).trans h0
  replace o9 := Lib.hid (o9.later h0)
  have HF := Lib.hid hf0
  clear h0 hf0
  have hX : w.heap.size < w0.heap.size := o9.out.size
  generalize w.heap.size = X at *
  go_upto_if 28 with fail
  go_cut [0] (fun s0 wx => ∃ m : Nat, 0 < m ∧ m ≤ 50 ∧ m ≤ n ∧ s0 = .slice (some ⟨B, off, none⟩) m cap ∧ w0 = wx)
  case first =>
    go_wp2_with fail
    · go_meet
      exact ⟨50, by omega, by omega, by omega, rfl, rfl⟩
    · go_meet
      exact ⟨n, hn, by omega, by omega, rfl, rfl⟩
  case rest =>
    obtain ⟨m, hm0, hm50, hmn, rfl, rfl⟩ := hcut
    go_wp2_with fail
    go_at_call 8; refine (Env.new w0).mono ?_; rintro e w1 ⟨M, rfl, E1⟩
    have E := Lib.hid (Env.have' E1 hX (o9.out.later E1.out))
    clear E1
    go_wp2_with fail
    go_loopw [12, 34] (fun s12 i wr => ∃ (k : Nat) (S : Int → Option BS), k ≤ m ∧ i = .int .i64 k ∧ s12 = .int .i64 k ∧ Hid (Env w0 wr M k k S [(X, k', n', b')]) ∧ Hid (Full S k)) (fun _ i _ => m - (intOf i).toNat)
    case atStart => exact ⟨0, noS, by omega, rfl, rfl, E, Lib.hid (fun i h1 h2 => by omega)⟩
    case round =>
      obtain ⟨k, S, hk, rfl, rfl, E, HS⟩ := hrel
      by_cases hlt : k < m
      · have hcell := HC.out.at' (HF.out.trans E.out.out) (j := k) (by omega)
        go_wp2_with (go_at_call 9; refine (E.out.alloc _ _ rfl (by unfold maxLen; omega) (by omega) (mod100 _).1 (mod100 _).2).mono ?_; rintro e w2 ⟨rfl, E2⟩; replace E2 := Lib.hid E2)
        go_roundw
        case rel => exact ⟨k + 1, _, by omega, by go_num, by go_num, E2, Lib.hid (HS.out.step _)⟩
        case measure => simp [intOf]; omega
      · have hk50 : m ≤ 50 := hm50
        obtain rfl : k = m := by omega
        clear hn hcap hm hm50 hmn hlt hk
        have hm0' : (0 : Int) < (k : Int) := by omega
        have hk50' : (k : Int) ≤ 50 := by omega
        obtain ⟨hb1, hb2⟩ := pick_b a1 k hm0' hk50'
        go_wp2_with fail
        generalize 1 + wrap64 ((IntKind.u64.wrap a1).tmod (k : Int)) = b at *
        obtain ⟨s, hs⟩ := HS.out b hb1 hb2
        have kb : Key b := Key.mk (by omega) (by omega)
        have HS1 := Lib.hid (fix_yes hs)
        have HSL := Lib.hid (fun c n => load_fix S b c n s hs)
        have HB := Lib.hid kb
        obtain ⟨x, y, z, t, hL⟩ : ∃ x y z t, loadS S a2 4 (IntKind.u64.wrap a3) b = ((x, y, z), t) := ⟨_, _, _, _, rfl⟩
        have HL := Lib.hid hL
        clear HS hs kb hL hb2
        go_at_call 23; refine (ptr_b b a3 hb1 _).mono ?_; rintro e w3 ⟨rfl, h3⟩; have E3 := Lib.hid (E.out.fresh h3)
        generalize IntKind.u64.wrap a3 = U at *
        clear hb1 h3 E
        go_wp2_with fail
        have E4 := Lib.hid (E3.out.add 4 U b)
        clear E3
        go_at_call 15; refine (E4.out.load _ _ _ _ HB.out x y z t HL.out).mono ?_; rintro e w5 ⟨rfl, E5⟩; replace E5 := Lib.hid E5; clear E4
        go_wp2_with fail
        have E6 := Lib.hid (E5.out.add x y z)
        clear E5
        generalize w3.heap.size = P at *
        go_at_call 13; refine (E6.out.fix b HB.out true HS1.out.1).mono ?_; rintro e w7 ⟨rfl, E7'⟩; have E7 := Lib.hid (Env.same E7' HS1.out.2 (Nat.le_refl _)); clear E6 E7'
        generalize w5.heap.size = Q at *
        obtain ⟨c0, c1, c2⟩ := own_cells (E7.out.c m2)
        obtain ⟨d0, d1, d2⟩ := own_cells (E7.out.c m3)
        go_wp2_with fail
        clear c0 c1 c2 d0 d1 d2
        go_at_call 17; refine (Env.store_no E7.out (by unfold maxLen; omega) _ _ _ _ _ _ _ HB.out HX.out (store_fix S b a2 U k' n' b' s)).mono ?_; rintro e w8 ⟨rfl, E8⟩; replace E8 := Lib.hid E8; clear E7
        obtain ⟨c0, c1, c2⟩ := own_cells (E8.out.c m2)
        go_wp2_with fail
        clear c0 c1 c2
        go_at_call 15; refine (E8.out.load _ _ _ _ HB.out x y z t ((HSL.out a2 U).trans HL.out)).mono ?_; rintro e w9 ⟨rfl, E9⟩; replace E9 := Lib.hid E9; clear E8
        have E10 := Lib.hid (E9.out.add x y z)
        clear E9
        obtain ⟨c0, c1, c2⟩ := own_cells (E10.out.c m1)
        obtain ⟨d0, d1, d2⟩ := own_cells (E10.out.c m2)
        have heq := eqv x y z
        have ht : (t != t) = false := by cases t <;> rfl
        go_wp2_with fail
        clear c0 c1 c2 d0 d1 d2
        generalize w9.alloc (.cells #[.int .i64 x, .int .u64 y, .int .i64 z] 32) = wy at *
        generalize w9.heap.size = R at *
        go_at_call 11; refine (E10.out.free b HB.out true (free_yes S b (fixB s)).1).mono ?_; rintro e w11 ⟨rfl, E11'⟩; have E11 := Lib.hid (Env.same E11' (free_yes S b (fixB s)).2 (Nat.le_refl _)); clear E10 E11'
        generalize putS S b (fixB s) = S' at *
        have HD := Lib.hid (del_no S' b)
        go_wp2_with fail
        go_at_call 11; refine (E11.out.free b HB.out false HD.out.1).mono ?_; rintro e w12 ⟨rfl, E12'⟩; have E12 := Lib.hid (Env.same E12' HD.out.2.1 (Nat.le_refl _)); clear E11 E12'
        go_wp2_with fail
        go_at_call 13; refine (E12.out.fix b HB.out false HD.out.2.2.1).mono ?_; rintro e w13 ⟨rfl, E13'⟩; have E13 := Lib.hid (Env.same E13' HD.out.2.2.2.1 (Nat.le_refl _)); clear E12 E13'
        obtain ⟨c0, c1, c2⟩ := own_cells (E13.out.c m3)
        go_wp2_with fail
        clear c0 c1 c2
        go_at_call 15; refine (E13.out.load _ _ _ _ HB.out 0 0 0 false (load_del S' b a2 U)).mono ?_; rintro e w14 ⟨rfl, E14⟩; replace E14 := Lib.hid E14; clear E13
        go_wp2_with fail
        go_at_call 21; refine (size_mem E14.out.mem b HB.out 0 false HD.out.2.2.2.2).mono ?_; rintro e w' ⟨rfl, rfl⟩
        obtain ⟨c0, c1, c2⟩ := own_cells (E14.out.c m3)
        obtain ⟨d0, d1, d2⟩ := own_cells (E14.out.c m4)
        go_wp2_with fail
        clear c0 c1 c2 d0 d1 d2
        go_at_call 17; refine (Env.store_no E14.out (by unfold maxLen; omega) _ _ _ _ _ _ _ HB.out HX.out (store_del S' b a2 U k' n' b')).mono ?_; rintro e w15 ⟨rfl, E15⟩; replace E15 := Lib.hid E15; clear E14
        go_wp2_with fail
        go_at_call 9; refine (E15.out.alloc 1 _ rfl (by unfold maxLen; omega) (by omega) (by omega) (by omega)).mono ?_; rintro e w16 ⟨rfl, E16⟩; replace E16 := Lib.hid E16; clear E15
        go_wp2
        go_returns
        exact ⟨rfl, HF.out.trans E16.out.out⟩
set_option maxRecDepth 100000 in
set_option maxHeartbeats 40000000 in
theorem walk0 (p : Option Addr) (cap : Nat) (a1 a2 a3 k' n' b' : Int) (w : World) :
    Calls Try.prog 5 #[.slice p 0 cap, .int .i64 a1, .int .i64 a2, .int .i64 a3, .agg #[.int .i64 k', .int .u64 n', .int .i64 b']] w fun e w' => e = .returned (.bool true) ∧ Fresh w w' := by
  go_enter Try.func5, Try.ntmps5
  go_wp2_with fail
  go_at_call 7; refine (fixed_any _).mono ?_; rintro e w0 ⟨rfl, h0⟩
  have HF : Hid (Fresh w w0) := Lib.hid (((Fresh.refl w).alloc _ _).trans h0)
  clear h0
  go_wp2_with fail
  go_at_call 8; refine (Env.new w0).mono ?_; rintro e w1 ⟨M, rfl, E1⟩
  have E := Lib.hid E1
  clear E1
  go_wp2_with fail
  go_loopw [12, 34] (fun s12 i wr => i = .int .i64 0 ∧ s12 = .int .i64 0 ∧ Hid (Env w0 wr M 0 0 noS [])) (fun _ i _ => 0)
  case atStart => exact ⟨rfl, rfl, E⟩
  case round =>
    obtain ⟨rfl, rfl, E⟩ := hrel
    go_wp2
    go_returns
    exact ⟨rfl, HF.out.trans E.out.out⟩
end Go.Proofs.Ytjbflmpnmobngaa.memoryEnds
