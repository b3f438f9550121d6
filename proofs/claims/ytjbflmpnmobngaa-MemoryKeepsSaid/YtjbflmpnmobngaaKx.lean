/- The walk of the statement on what was stored. -/
import Derived.Test.YtjbflmpnmobngaaKc
import Derived.Deep.CutBlock
import Derived.Deep.DeepCutAuto
import Derived.Deep.QuietTactic
import Derived.BigQuiet
import Derived.Outline
import Derived.OpenShut
namespace Go.Proofs.Ytjbflmpnmobngaa.memoryKeeps
set_option linter.unusedSimpArgs false
set_option linter.unusedVariables false
open Go.RowKit

theorem m1 {α : Type} {a : α} {l : List α} : a ∈ a :: l := List.mem_cons_self ..
theorem m2 {α : Type} {a b : α} {l : List α} : b ∈ a :: b :: l := by simp
theorem m3 {α : Type} {a b c : α} {l : List α} : c ∈ a :: b :: c :: l := by simp
theorem m4 {α : Type} {a b c d : α} {l : List α} : d ∈ a :: b :: c :: d :: l := by simp
theorem mod64 (x : Int) : 0 ≤ wrap64 ((IntKind.u64.wrap x).tmod 64) ∧ wrap64 ((IntKind.u64.wrap x).tmod 64) < 64 := by
  have : 0 ≤ IntKind.u64.wrap x := by simp [IntKind.wrap, IntKind.bits, IntKind.signed]; omega
  rw [Int.tmod_eq_emod_of_nonneg this]
  unfold wrap64; omega
theorem kind_q (c : Int) (w : World) : Calls Try.prog 25 #[.int .i64 c] w fun e w' => e = .returned (.int .i64 (kindL c)) ∧ w' = w := by
  refine (kind_any c w).mono ?_
  rintro e w' ⟨he, rfl⟩
  exact ⟨he, rfl⟩
theorem fresh_drewN (w : World) (n : Nat) : Fresh w (w.drewN n) := ⟨below_drewN (Below.refl _ _) _, fun _ => rfl⟩
theorem tailR {W w : World} {M T R n : Nat} {made : Int} {S : Int → Option BS} {x : Nat × Int × Int × Int} {l : List (Nat × Int × Int × Int)} {g : Nat → Int × Int × Int} (h : EnvR W w M T made S (x :: l) R n g) : EnvR W w M T made S l R n g :=
  ⟨h.mem.locals (Fresh.refl w) (fun k hk => by
    rcases hk with q | ⟨y, hy, q⟩ | q
    · exact Or.inl (Or.inl q)
    · exact Or.inl (Or.inr (Or.inl ⟨y, List.mem_cons_of_mem _ hy, q⟩))
    · exact Or.inl (Or.inr (Or.inr q))), fun y hy => h.own y (List.mem_cons_of_mem _ hy), h.row, h.fr, fun y hy => h.ne y (List.mem_cons_of_mem _ hy), h.ge⟩
/-- Stored or not. -/
def stB (S : Int → Option BS) (c U k : Int) : Bool := canS S c U && fitsL c k
theorem eval1q_80 (n b q : Int) (h0 : 0 ≤ n) (h1 : n < 18446744073709551616) (hq : IntKind.u32.wrap (IntKind.i8.wrap n) = q) (w : World) : Calls Try.prog 28 #[.int .i64 80, .agg #[.int .i64 1, .int .u64 n, .int .i64 b]] w fun e w' => e = .returned (.tuple #[.agg #[.int .i64 1, .int .u64 q, .int .i64 0], .bool true]) ∧ Fresh w w' := by
  subst hq; exact eval1_80 n b h0 h1 w
theorem eval1q_81 (n b q : Int) (h0 : 0 ≤ n) (h1 : n < 18446744073709551616) (hq : n % 256 = q) (w : World) : Calls Try.prog 28 #[.int .i64 81, .agg #[.int .i64 1, .int .u64 n, .int .i64 b]] w fun e w' => e = .returned (.tuple #[.agg #[.int .i64 1, .int .u64 q, .int .i64 0], .bool true]) ∧ Fresh w w' := by
  subst hq; exact eval1_81 n b h0 h1 w
theorem eval1q_82 (n b q : Int) (h0 : 0 ≤ n) (h1 : n < 18446744073709551616) (hq : IntKind.u32.wrap (IntKind.i16.wrap n) = q) (w : World) : Calls Try.prog 28 #[.int .i64 82, .agg #[.int .i64 1, .int .u64 n, .int .i64 b]] w fun e w' => e = .returned (.tuple #[.agg #[.int .i64 1, .int .u64 q, .int .i64 0], .bool true]) ∧ Fresh w w' := by
  subst hq; exact eval1_82 n b h0 h1 w
theorem eval1q_83 (n b q : Int) (h0 : 0 ≤ n) (h1 : n < 18446744073709551616) (hq : n % 65536 = q) (w : World) : Calls Try.prog 28 #[.int .i64 83, .agg #[.int .i64 1, .int .u64 n, .int .i64 b]] w fun e w' => e = .returned (.tuple #[.agg #[.int .i64 1, .int .u64 q, .int .i64 0], .bool true]) ∧ Fresh w w' := by
  subst hq; exact eval1_83 n b h0 h1 w
theorem eqq (x y z : Int) (w : World) : (binOp .eql 32 (.agg #[.int .i64 x, .int .u64 y, .int .i64 z]) (.agg #[.int .i64 x, .int .u64 y, .int .i64 z])).run Try.prog w = .ok (.bool true) w := by
  simp [go_sem]
theorem eqv (x y z : Int) (w : World) : (binOp .neq 32 (.agg #[.int .i64 x, .int .u64 y, .int .i64 z]) (.agg #[.int .i64 x, .int .u64 y, .int .i64 z])).run Try.prog w = .ok (.bool false) w := by
  simp [go_sem]
theorem have' {W w : World} {M T : Nat} {made : Int} {S : Int → Option BS} {l : List (Nat × Int × Int × Int)} (h : Env W w M T made S l) {B : Nat} (hB : B < W.heap.size) {k n b : Int} (ho : Own w B k n b) : Env W w M T made S ((B, k, n, b) :: l) := by
  refine ⟨h.mem.locals (Fresh.refl w) fun k hk => ?_, fun x hx => ?_, h.fr⟩
  · rcases hk with g | ⟨x, hx, g⟩
    · exact Or.inl (Or.inl g)
    · rcases List.mem_cons.1 hx with rfl | hx
      · subst g; exact Or.inl (Or.inl hB)
      · exact Or.inl (Or.inr ⟨x, hx, g⟩)
  · rcases List.mem_cons.1 hx with rfl | hx
    · exact ho
    · exact h.own x hx
def SZ (z : Nat) : Int → Option BS := putS noS 1 ⟨(z : Int), false, noCell, noPtr⟩
theorem fill_sz (z : Nat) : Fill (SZ z) z := ⟨_, by simp [SZ, putS]; rfl, rfl, rfl⟩
/-- What stands behind the first loop. -/
def Was (S : Int → Option BS) (z i : Nat) (g : Nat → Int × Int × Int) : Prop := Fill S z ∧ ∀ j, j < i → g j = byteV (cellS S j)
/-- The bytes that came in. -/
def BytesIn (w : World) (B off n : Nat) (f : Nat → Int) : Prop := ∀ j, j < n → w.cell? ⟨B, off + j, none⟩ = some (.int .u8 (f j)) ∧ 0 ≤ f j ∧ f j < 256
theorem ptr_i (i : Nat) (h : i < 64) (w : World) : Calls Try.prog 23 #[.int .i64 1, .int .i64 (i : Int)] w fun e w' => e = .returned (.agg #[.int .i64 4, .int .u64 (i : Int), .int .i64 1]) ∧ Fresh w w' := by
  refine ptr_f 1 i 4 i 1 ?_ w
  have : IntKind.u64.wrap (i : Int) = i := by simp [IntKind.wrap, IntKind.bits, IntKind.signed]; omega
  simp [ptrL, this]
theorem int_b (f : Int) (h0 : 0 ≤ f) (h1 : f < 256) (w : World) : Calls Try.prog 24 #[.int .i32 f] w fun e w' => e = .returned (.agg #[.int .i64 1, .int .u64 f, .int .i64 0]) ∧ Fresh w w' := int_f f f (by omega) w

set_option maxRecDepth 100000 in
set_option maxHeartbeats 40000000 in
theorem walk (p : Option Addr) (fl cap : Nat) (f : Nat → Int) (hfl : fl ≤ maxLen) (a0 c a3 k' n' b' : Int) (hk3 : Key a3) (h0 : 0 ≤ n') (h1 : n' < 18446744073709551616) (w : World)
    (hp : fl = 0 ∨ ∃ B off, p = some ⟨B, off, none⟩ ∧ BytesIn w B off fl f ∧ fl ≤ cap ∧ cap ≤ maxLen) :
    Calls Try.prog 4 #[.int .i64 a0, .slice p fl cap, .int .i64 c, .int .i64 a3, .agg #[.int .i64 k', .int .u64 n', .int .i64 b']] w fun e w' => e = .returned (.bool true) ∧ Fresh w w' := by
  unfold maxLen at hfl
  have HP := Lib.hid hp
  have HX := Lib.hid (And.intro h0 h1)
  have HK := Lib.hid hk3
  clear hp h0 h1 hk3
  have o9 := Own.new' w k' n' b'
  go_enter Try.func4, Try.ntmps4
  go_wp2_with fail
  go_at_call 7; refine (fixed_any _).mono ?_; rintro e w0 ⟨rfl, h0⟩
  have hf0 : Fresh w w0 := ((Fresh.refl w).alloc _ _).trans h0
  have HZ0 : Hid (∀ o, w0.frozen? ⟨w.heap.size, o, none⟩ = false) := Lib.hid (fun o => by rw [h0.froz]; exact World.frozen?_alloc_new _ _ _ _)
  replace o9 := Lib.hid (o9.later h0)
  have HF := Lib.hid hf0
  clear h0 hf0
  have hX : w.heap.size < w0.heap.size := o9.out.size
  obtain ⟨X, hXe⟩ : ∃ X, w.heap.size = X := ⟨_, rfl⟩
  rw [hXe] at hX o9 HZ0 ⊢
  have HXE := Lib.hid hXe
  clear hXe
  go_wp2_with fail
  obtain ⟨z0, z1⟩ := mod64 a0
  generalize wrap64 ((IntKind.u64.wrap a0).tmod 64) = z at *
  obtain ⟨Z, rfl⟩ : ∃ Z : Nat, z = (Z : Int) := ⟨z.toNat, by omega⟩
  have hZ64 : Z < 64 := by omega
  clear z0 z1
  go_at_call 8; refine (Env.new w0).mono ?_; rintro e w1 ⟨M, rfl, E1⟩
  have E := Lib.hid (have' E1 hX (o9.out.later E1.out))
  clear E1
  go_wp2_with fail
  go_at_call 9; refine (E.out.alloc (Z : Int) 1 rfl (by unfold maxLen; omega) (by omega) (by omega) (by omega)).mono ?_; rintro e w2 ⟨rfl, E2⟩; replace E2 := Lib.hid E2; clear E
  have hmk := fun w => make46 Z (by omega) w
  have ER := Lib.hid (EnvR.start E2.out Z)
  clear E2
  go_upto_block 0 with fail
  clear hmk
  generalize w2.heap.size = R at *
  go_cut [13] (fun s13 wx => s13 = .slice (some ⟨R, 0, none⟩) Z Z ∧ ∃ S g, Hid (EnvR w0 wx M (Z + 1) 1 S [(X, k', n', b')] R Z g) ∧ Hid (Was S Z Z g))
  case first => as_aux_lemma =>
    go_wp2_with fail
    go_loopw [38] (fun i wr => ∃ (k : Nat) (S : Int → Option BS) (g : Nat → Int × Int × Int), k ≤ Z ∧ i = .int .i64 k ∧ Hid (EnvR w0 wr M (k + 1) 1 S [(X, k', n', b')] R Z g) ∧ Hid (Was S Z k g)) (fun i _ => Z - (intOf i).toNat)
    case atStart => exact ⟨0, SZ Z, fun _ => (0, 0, 0), by omega, rfl, ER, Lib.hid ⟨fill_sz Z, fun j hj => by omega⟩⟩
    case round =>
      obtain ⟨k, S, g, hk, rfl, E, HW⟩ := hrel
      clear ER
      by_cases hlt : k < Z
      · go_upto_if 44 with fail
        go_cut [14] (fun s14 wx => s14 = .int .i64 k ∧ ∃ S', Hid (EnvR w0 wx M (k + 2) 1 S' [(X, k', n', b')] R Z g) ∧ Hid (Was S' Z k g))
        case first =>
          by_cases hfk : k < fl
          · obtain ⟨B, off, rfl, HB, hcap, hcm⟩ := HP.out.resolve_left (by omega)
            unfold maxLen at hcm
            obtain ⟨hb, hb0, hb1⟩ := HB k hfk
            have HB0 := Lib.hid hb
            have HW1 := Lib.hid (HW.out.1.put k (by omega) (by omega) (f k))
            clear hb HB
            go_wp2_with fail
            replace E := Lib.hid E.out.drew
            go_region_held3 (fun w' => w'.cell? ⟨B, off + k, none⟩ = some (.int .u8 (f k))) (exact (HF.out.trans E.out.out).cellOf (cell_lt HB0.out) HB0.out) (first | (go_at_call 23; refine (ptr_i k (by omega) _).mono ?_; rintro e w5 ⟨rfl, h5⟩; have E := Lib.hid (E.out.fresh h5)) | (go_at_call 24; refine (int_f _ (f k) (by simp [IntKind.wrap, IntKind.bits, IntKind.signed] <;> omega) _).mono ?_; rintro e w5 ⟨rfl, h5⟩; have E := Lib.hid (E.out.fresh h5)) | (go_at_call 17; refine (E.out.store (by unfold maxLen; omega) _ _ _ _ _ _ _ k1 hb0 true HW1.out.1).mono ?_; rintro e w6 ⟨rfl, E6⟩; have E := Lib.hid E6))
            all_goals (try go_wp2_with fail)
            all_goals go_meet
            all_goals exact ⟨rfl, _, E, Lib.hid ⟨HW1.out.2.1, fun j hj => by rw [HW1.out.2.2 j (by omega)]; exact HW.out.2 j hj⟩⟩
          · go_wp2_with fail
            go_meet
            exact ⟨rfl, S, Lib.hid (E.out.mono (by omega)), HW⟩
        case rest =>
          obtain ⟨rfl, S', E', HW'⟩ := hcut
          clear E HW
          obtain ⟨x, y, v, hv⟩ : ∃ x y v, byteV (cellS S' k) = (x, y, v) := ⟨_, _, _, rfl⟩
          have HL := Lib.hid ((HW'.out.1.load k (by omega) (by omega)).trans (by rw [hv]))
          have HV := Lib.hid hv
          clear hv
          go_wp2_with fail
          go_at_call 23; refine (ptr_i k (by omega) _).mono ?_; rintro e w5 ⟨rfl, h5⟩; have E := Lib.hid (E'.out.fresh h5); clear E'
          go_wp2_with fail
          go_at_call 15; refine (E.out.load _ _ _ _ k1 x y v true HL.out).mono ?_; rintro e w6 ⟨rfl, E6⟩; replace E6 := Lib.hid E6; clear E
          have r0 := E6.out.row.c0 k hlt
          have r1 := E6.out.row.c1 k hlt
          have r2 := E6.out.row.c2 k hlt
          have rf := E6.out.row.fr (k * 3)
          have rf1 := E6.out.row.fr (k * 3 + 1)
          have rf2 := E6.out.row.fr (k * 3 + 2)
          go_wp2
          go_roundw
          case rel => exact ⟨k + 1, S', setG g k (x, y, v), by omega, by go_num, Lib.hid (E6.out.set k hlt x y v), Lib.hid ⟨HW'.out.1, fun j hj => by
            unfold setG
            by_cases q : j = k
            · rw [if_pos q, q, HV.out]
            · rw [if_neg q]; exact HW'.out.2 j (by omega)⟩⟩
          case measure => simp [intOf]; omega
      · obtain rfl : k = Z := by omega
        go_wp2_with fail
        go_meet
        exact ⟨rfl, S, g, E, HW⟩
  case rest =>
    obtain ⟨rfl, S, g, E, HW⟩ := hcut
    clear ER
    go_wp2_with fail
    go_at_call 23; refine (ptr_f 1 a3 4 (IntKind.u64.wrap a3) 1 (by simp [ptrL]) _).mono ?_; rintro e w5 ⟨rfl, h5⟩; have E5 := Lib.hid (E.out.fresh h5); clear E
    go_wp2_with fail
    have hU0 : wrap64 (IntKind.u64.wrap a3) = a3 := by
      have := bounds_i64 HK.out
      simp [IntKind.wrap, IntKind.bits, IntKind.signed, wrap64]; omega
    have HU := Lib.hid hU0
    clear hU0
    generalize IntKind.u64.wrap a3 = U at *
    have E6 := Lib.hid (E5.out.add 4 U 1)
    clear E5
    obtain ⟨x, y, v, t, hL⟩ : ∃ x y v t, loadS S c 4 U 1 = ((x, y, v), t) := ⟨_, _, _, _, rfl⟩
    have HT : Hid (t = canS S c U) := Lib.hid (by have := load_can S c U; rw [hL] at this; exact this)
    have HL := Lib.hid hL
    clear hL
    go_at_call 15; refine (E6.out.load _ _ _ _ k1 x y v t HL.out).mono ?_; rintro e w7 ⟨rfl, E7⟩; replace E7 := Lib.hid E7; clear E6
    have E8 := Lib.hid (E7.out.add x y v)
    generalize w5.heap.size = P at *
    obtain ⟨c0, c1, c2⟩ := own_cells (E8.out.c m2)
    obtain ⟨d0, d1, d2⟩ := own_cells (E8.out.c m3)
    clear E7 c0 c1 c2 d0 d1 d2
    have HFill := Lib.hid HW.out.1
    have HST := Lib.hid (store_can HW.out.1 c U k' n' b')
    go_upto_region 16 with fail
    go_cut [105] (fun s105 wx => s105 = .bool false ∧ Hid (EnvR w0 wx M (Z + 2) 1 (storeS S c 4 U 1 k' n' b').2 [(w7.heap.size, x, y, v), (P, 4, U, 1), (X, k', n', b')] R Z g))
    case first =>
      have E := Lib.hid E8.out.drew
      have HE := Lib.hid E8.out
      clear E8
      have HA : Hid (∀ b, (canS S c U && fitsL c k') = b → (storeS S c 4 U 1 k' n' b').1 = b) := Lib.hid (fun b hb => HST.out.trans hb)
      cases t
      · as_aux_lemma =>
          have HV : Hid ((storeS S c 4 U 1 k' n' b').1 = false) := Lib.hid (HA.out false (by rw [← HT.out]; rfl))
          refine wp_region_held_drew (S := (fun w' => w'.cell? ⟨P, 0, none⟩ = some (.int .i64 4) ∧ w'.cell? ⟨P, 1, none⟩ = some (.int .u64 U) ∧ w'.cell? ⟨P, 2, none⟩ = some (.int .i64 1) ∧ w'.cell? ⟨X, 0, none⟩ = some (.int .i64 k') ∧ w'.cell? ⟨X, 1, none⟩ = some (.int .u64 n') ∧ w'.cell? ⟨X, 2, none⟩ = some (.int .i64 b'))) (by kernel_rfl) ⟨(E.out.c m2).c0, (E.out.c m2).c1, (E.out.c m2).c2, (E.out.c m3).c0, (E.out.c m3).c1, (E.out.c m3).c2⟩ (fun hHeld => ?_)
          refine wpAnyH_take (i := 0) (oi := ?o1) (v := ?v1) ?h1 (by kernel_rfl) (by kernel_rfl) (by kernel_rfl) ?q1 ?y1 (by assumption) ?r1
          case h1 => simp only [List.getElem?_toArray, List.getElem?_cons_zero, List.getElem?_cons_succ]; rfl
          case y1 => (refine Or.inl ⟨by rfl, ?_⟩; intro w hSw; (try dsimp only at hSw); go_simp; (try with_reducible rfl))
          case q1 => exact fun _ _ _ h => h
          try simp only [Act.put, List.setIfInBounds_toArray, List.set_cons_zero, List.set_cons_succ]
          refine wpAnyH_take (i := 1) (oi := ?o2) (v := ?v2) ?h2 (by kernel_rfl) (by kernel_rfl) (by kernel_rfl) ?q2 ?y2 (by assumption) ?r2
          case h2 => simp only [List.getElem?_toArray, List.getElem?_cons_zero, List.getElem?_cons_succ]; rfl
          case y2 => (refine Or.inl ⟨by rfl, ?_⟩; intro w hSw; (try dsimp only at hSw); go_simp; (try with_reducible rfl))
          case q2 => exact fun _ _ _ h => h
          try simp only [Act.put, List.setIfInBounds_toArray, List.set_cons_zero, List.set_cons_succ]
          refine wpAnyH_take (i := 2) (oi := ?o3) (v := ?v3) ?h3 (by kernel_rfl) (by kernel_rfl) (by kernel_rfl) ?q3 ?y3 (by assumption) ?r3
          case h3 => simp only [List.getElem?_toArray, List.getElem?_cons_zero, List.getElem?_cons_succ]; rfl
          case y3 => (refine Or.inl ⟨by rfl, ?_⟩; intro w hSw; (try dsimp only at hSw); go_simp; (try with_reducible rfl))
          case q3 => exact fun _ _ _ h => h
          try simp only [Act.put, List.setIfInBounds_toArray, List.set_cons_zero, List.set_cons_succ]
          refine wpAnyH_take (i := 3) (oi := ?o4) (v := ?v4) ?h4 (by kernel_rfl) (by kernel_rfl) (by kernel_rfl) ?q4 ?y4 (by assumption) ?r4
          case h4 => simp only [List.getElem?_toArray, List.getElem?_cons_zero, List.getElem?_cons_succ]; rfl
          case y4 => (refine Or.inl ⟨by rfl, ?_⟩; intro w hSw; (try dsimp only at hSw); go_simp; (try with_reducible rfl))
          case q4 => exact fun _ _ _ h => h
          try simp only [Act.put, List.setIfInBounds_toArray, List.set_cons_zero, List.set_cons_succ]
          refine wpAnyH_take (i := 5) (oi := ?o5) (v := ?v5) ?h5 (by kernel_rfl) (by kernel_rfl) (by kernel_rfl) ?q5 ?y5 (by assumption) ?r5
          case h5 => simp only [List.getElem?_toArray, List.getElem?_cons_zero, List.getElem?_cons_succ]; rfl
          case y5 => (refine Or.inl ⟨by rfl, ?_⟩; intro w hSw; (try dsimp only at hSw); go_simp; (try with_reducible rfl))
          case q5 => exact fun _ _ _ h => h
          try simp only [Act.put, List.setIfInBounds_toArray, List.set_cons_zero, List.set_cons_succ]
          refine wpAnyH_ready (rs := [4]) (by kernel_rfl) (by simp) ?_
          refine AllReadyH.cons rfl (fun K hK => ?_) ?_
          · go_simp
            go_at_call 17; refine (E.out.store (by unfold maxLen; omega) _ _ _ _ _ _ _ k1 HX.out.1 false HV.out).mono ?_; rintro e w9 ⟨rfl, E9⟩; have E := Lib.hid E9
            go_wp2_with fail
            refine hK.out _ _ ⟨(E.out.c m2).c0, (E.out.c m2).c1, (E.out.c m2).c2, (E.out.c m3).c0, (E.out.c m3).c1, (E.out.c m3).c2⟩ (fun hHeld => ?_)
            clear hK K
            try simp only [Act.put, List.setIfInBounds_toArray, List.set_cons_zero, List.set_cons_succ]
            refine wpAnyH_take (i := 6) (oi := ?o6) (v := ?v6) ?h6 (by kernel_rfl) (by kernel_rfl) (by kernel_rfl) ?q6 ?y6 (by assumption) ?r6
            case h6 => simp only [List.getElem?_toArray, List.getElem?_cons_zero, List.getElem?_cons_succ]; rfl
            case y6 => (refine Or.inl ⟨by rfl, ?_⟩; intro w hSw; (try dsimp only at hSw); go_simp; (try with_reducible rfl))
            case q6 => exact fun _ _ _ h => h
            try simp only [Act.put, List.setIfInBounds_toArray, List.set_cons_zero, List.set_cons_succ]
            refine wpAnyH_take (i := 7) (oi := ?o7) (v := undef) ?h7 (by kernel_rfl) (by kernel_rfl) (by kernel_rfl) ?q7 ?y7 (by assumption) ?r7
            case h7 => simp only [List.getElem?_toArray, List.getElem?_cons_zero, List.getElem?_cons_succ]; rfl
            case y7 => exact Or.inr ⟨by rfl, rfl⟩
            case q7 => exact fun _ _ _ h => h
            try simp only [Act.put, List.setIfInBounds_toArray, List.set_cons_zero, List.set_cons_succ]
            refine wpAnyH_take (i := 8) (oi := ?o8) (v := undef) ?h8 (by kernel_rfl) (by kernel_rfl) (by kernel_rfl) ?q8 ?y8 (by assumption) ?r8
            case h8 => simp only [List.getElem?_toArray, List.getElem?_cons_zero, List.getElem?_cons_succ]; rfl
            case y8 => exact Or.inr ⟨by rfl, rfl⟩
            case q8 => exact fun _ _ _ h => h
            try simp only [Act.put, List.setIfInBounds_toArray, List.set_cons_zero, List.set_cons_succ]
            refine wpAnyH_take (i := 9) (oi := ?o9) (v := undef) ?h9 (by kernel_rfl) (by kernel_rfl) (by kernel_rfl) ?q9 ?y9 (by assumption) ?r9
            case h9 => simp only [List.getElem?_toArray, List.getElem?_cons_zero, List.getElem?_cons_succ]; rfl
            case y9 => exact Or.inr ⟨by rfl, rfl⟩
            case q9 => exact fun _ _ _ h => h
            try simp only [Act.put, List.setIfInBounds_toArray, List.set_cons_zero, List.set_cons_succ]
            refine wpAnyH_take (i := 10) (oi := ?o10) (v := undef) ?h10 (by kernel_rfl) (by kernel_rfl) (by kernel_rfl) ?q10 ?y10 (by assumption) ?r10
            case h10 => simp only [List.getElem?_toArray, List.getElem?_cons_zero, List.getElem?_cons_succ]; rfl
            case y10 => exact Or.inr ⟨by rfl, rfl⟩
            case q10 => exact fun _ _ _ h => h
            try simp only [Act.put, List.setIfInBounds_toArray, List.set_cons_zero, List.set_cons_succ]
            refine wpAnyH_take (i := 11) (oi := ?o11) (v := undef) ?h11 (by kernel_rfl) (by kernel_rfl) (by kernel_rfl) ?q11 ?y11 (by assumption) ?r11
            case h11 => simp only [List.getElem?_toArray, List.getElem?_cons_zero, List.getElem?_cons_succ]; rfl
            case y11 => exact Or.inr ⟨by rfl, rfl⟩
            case q11 => exact fun _ _ _ h => h
            try simp only [Act.put, List.setIfInBounds_toArray, List.set_cons_zero, List.set_cons_succ]
            refine wpAnyH_take (i := 12) (oi := ?o12) (v := undef) ?h12 (by kernel_rfl) (by kernel_rfl) (by kernel_rfl) ?q12 ?y12 (by assumption) ?r12
            case h12 => simp only [List.getElem?_toArray, List.getElem?_cons_zero, List.getElem?_cons_succ]; rfl
            case y12 => exact Or.inr ⟨by rfl, rfl⟩
            case q12 => exact fun _ _ _ h => h
            try simp only [Act.put, List.setIfInBounds_toArray, List.set_cons_zero, List.set_cons_succ]
            refine wpAnyH_take (i := 13) (oi := ?o13) (v := undef) ?h13 (by kernel_rfl) (by kernel_rfl) (by kernel_rfl) ?q13 ?y13 (by assumption) ?r13
            case h13 => simp only [List.getElem?_toArray, List.getElem?_cons_zero, List.getElem?_cons_succ]; rfl
            case y13 => exact Or.inr ⟨by rfl, rfl⟩
            case q13 => exact fun _ _ _ h => h
            try simp only [Act.put, List.setIfInBounds_toArray, List.set_cons_zero, List.set_cons_succ]
            refine wpAnyH_take (i := 14) (oi := ?o14) (v := undef) ?h14 (by kernel_rfl) (by kernel_rfl) (by kernel_rfl) ?q14 ?y14 (by assumption) ?r14
            case h14 => simp only [List.getElem?_toArray, List.getElem?_cons_zero, List.getElem?_cons_succ]; rfl
            case y14 => exact Or.inr ⟨by rfl, rfl⟩
            case q14 => exact fun _ _ _ h => h
            try simp only [Act.put, List.setIfInBounds_toArray, List.set_cons_zero, List.set_cons_succ]
            refine wpAnyH_take (i := 15) (oi := ?o15) (v := undef) ?h15 (by kernel_rfl) (by kernel_rfl) (by kernel_rfl) ?q15 ?y15 (by assumption) ?r15
            case h15 => simp only [List.getElem?_toArray, List.getElem?_cons_zero, List.getElem?_cons_succ]; rfl
            case y15 => exact Or.inr ⟨by rfl, rfl⟩
            case q15 => exact fun _ _ _ h => h
            try simp only [Act.put, List.setIfInBounds_toArray, List.set_cons_zero, List.set_cons_succ]
            refine wpAnyH_take (i := 16) (oi := ?o16) (v := undef) ?h16 (by kernel_rfl) (by kernel_rfl) (by kernel_rfl) ?q16 ?y16 (by assumption) ?r16
            case h16 => simp only [List.getElem?_toArray, List.getElem?_cons_zero, List.getElem?_cons_succ]; rfl
            case y16 => exact Or.inr ⟨by rfl, rfl⟩
            case q16 => exact fun _ _ _ h => h
            try simp only [Act.put, List.setIfInBounds_toArray, List.set_cons_zero, List.set_cons_succ]
            refine wpAnyH_take (i := 17) (oi := ?o17) (v := undef) ?h17 (by kernel_rfl) (by kernel_rfl) (by kernel_rfl) ?q17 ?y17 (by assumption) ?r17
            case h17 => simp only [List.getElem?_toArray, List.getElem?_cons_zero, List.getElem?_cons_succ]; rfl
            case y17 => exact Or.inr ⟨by rfl, rfl⟩
            case q17 => exact fun _ _ _ h => h
            try simp only [Act.put, List.setIfInBounds_toArray, List.set_cons_zero, List.set_cons_succ]
            refine wpAnyH_take (i := 18) (oi := ?o18) (v := undef) ?h18 (by kernel_rfl) (by kernel_rfl) (by kernel_rfl) ?q18 ?y18 (by assumption) ?r18
            case h18 => simp only [List.getElem?_toArray, List.getElem?_cons_zero, List.getElem?_cons_succ]; rfl
            case y18 => exact Or.inr ⟨by rfl, rfl⟩
            case q18 => exact fun _ _ _ h => h
            try simp only [Act.put, List.setIfInBounds_toArray, List.set_cons_zero, List.set_cons_succ]
            refine wpAnyH_take (i := 19) (oi := ?o19) (v := undef) ?h19 (by kernel_rfl) (by kernel_rfl) (by kernel_rfl) ?q19 ?y19 (by assumption) ?r19
            case h19 => simp only [List.getElem?_toArray, List.getElem?_cons_zero, List.getElem?_cons_succ]; rfl
            case y19 => exact Or.inr ⟨by rfl, rfl⟩
            case q19 => exact fun _ _ _ h => h
            try simp only [Act.put, List.setIfInBounds_toArray, List.set_cons_zero, List.set_cons_succ]
            refine wpAnyH_take (i := 20) (oi := ?o20) (v := undef) ?h20 (by kernel_rfl) (by kernel_rfl) (by kernel_rfl) ?q20 ?y20 (by assumption) ?r20
            case h20 => simp only [List.getElem?_toArray, List.getElem?_cons_zero, List.getElem?_cons_succ]; rfl
            case y20 => exact Or.inr ⟨by rfl, rfl⟩
            case q20 => exact fun _ _ _ h => h
            try simp only [Act.put, List.setIfInBounds_toArray, List.set_cons_zero, List.set_cons_succ]
            refine wpAnyH_take (i := 21) (oi := ?o21) (v := undef) ?h21 (by kernel_rfl) (by kernel_rfl) (by kernel_rfl) ?q21 ?y21 (by assumption) ?r21
            case h21 => simp only [List.getElem?_toArray, List.getElem?_cons_zero, List.getElem?_cons_succ]; rfl
            case y21 => exact Or.inr ⟨by rfl, rfl⟩
            case q21 => exact fun _ _ _ h => h
            try simp only [Act.put, List.setIfInBounds_toArray, List.set_cons_zero, List.set_cons_succ]
            refine wpAnyH_take (i := 22) (oi := ?o22) (v := undef) ?h22 (by kernel_rfl) (by kernel_rfl) (by kernel_rfl) ?q22 ?y22 (by assumption) ?r22
            case h22 => simp only [List.getElem?_toArray, List.getElem?_cons_zero, List.getElem?_cons_succ]; rfl
            case y22 => exact Or.inr ⟨by rfl, rfl⟩
            case q22 => exact fun _ _ _ h => h
            try simp only [Act.put, List.setIfInBounds_toArray, List.set_cons_zero, List.set_cons_succ]
            refine wpAnyH_take (i := 23) (oi := ?o23) (v := undef) ?h23 (by kernel_rfl) (by kernel_rfl) (by kernel_rfl) ?q23 ?y23 (by assumption) ?r23
            case h23 => simp only [List.getElem?_toArray, List.getElem?_cons_zero, List.getElem?_cons_succ]; rfl
            case y23 => exact Or.inr ⟨by rfl, rfl⟩
            case q23 => exact fun _ _ _ h => h
            try simp only [Act.put, List.setIfInBounds_toArray, List.set_cons_zero, List.set_cons_succ]
            refine wpAnyH_take (i := 24) (oi := ?o24) (v := undef) ?h24 (by kernel_rfl) (by kernel_rfl) (by kernel_rfl) ?q24 ?y24 (by assumption) ?r24
            case h24 => simp only [List.getElem?_toArray, List.getElem?_cons_zero, List.getElem?_cons_succ]; rfl
            case y24 => exact Or.inr ⟨by rfl, rfl⟩
            case q24 => exact fun _ _ _ h => h
            try simp only [Act.put, List.setIfInBounds_toArray, List.set_cons_zero, List.set_cons_succ]
            refine wpAnyH_take (i := 25) (oi := ?o25) (v := undef) ?h25 (by kernel_rfl) (by kernel_rfl) (by kernel_rfl) ?q25 ?y25 (by assumption) ?r25
            case h25 => simp only [List.getElem?_toArray, List.getElem?_cons_zero, List.getElem?_cons_succ]; rfl
            case y25 => exact Or.inr ⟨by rfl, rfl⟩
            case q25 => exact fun _ _ _ h => h
            try simp only [Act.put, List.setIfInBounds_toArray, List.set_cons_zero, List.set_cons_succ]
            refine wpAnyH_take (i := 26) (oi := ?o26) (v := ?v26) ?h26 (by kernel_rfl) (by kernel_rfl) (by kernel_rfl) ?q26 ?y26 (by assumption) ?r26
            case h26 => simp only [List.getElem?_toArray, List.getElem?_cons_zero, List.getElem?_cons_succ]; rfl
            case y26 => (refine Or.inl ⟨by rfl, ?_⟩; intro w hSw; (try dsimp only at hSw); go_simp; (try with_reducible rfl))
            case q26 => exact fun _ _ _ h => h
            try simp only [Act.put, List.setIfInBounds_toArray, List.set_cons_zero, List.set_cons_succ]
            refine wpAnyH_take (i := 27) (oi := ?o27) (v := ?v27) ?h27 (by kernel_rfl) (by kernel_rfl) (by kernel_rfl) ?q27 ?y27 (by assumption) ?r27
            case h27 => simp only [List.getElem?_toArray, List.getElem?_cons_zero, List.getElem?_cons_succ]; rfl
            case y27 => (refine Or.inl ⟨by rfl, ?_⟩; intro w hSw; (try dsimp only at hSw); go_simp; (try with_reducible rfl))
            case q27 => exact fun _ _ _ h => h
            try simp only [Act.put, List.setIfInBounds_toArray, List.set_cons_zero, List.set_cons_succ]
            refine wpAnyH_done (by kernel_rfl) ?_ _
            all_goals go_wp2_with fail
            go_meet
            exact ⟨rfl, Lib.hid (E.out.mono (by omega))⟩
          exact AllReadyH.nil
      · by_cases hk0 : (k' == 0) = true
        · as_aux_lemma =>
            have HV : Hid ((storeS S c 4 U 1 k' n' b').1 = true) := Lib.hid (HA.out true (by rw [← HT.out]; simp [fitsL, *]))
            refine wp_region_held_drew (S := (fun w' => w'.cell? ⟨P, 0, none⟩ = some (.int .i64 4) ∧ w'.cell? ⟨P, 1, none⟩ = some (.int .u64 U) ∧ w'.cell? ⟨P, 2, none⟩ = some (.int .i64 1) ∧ w'.cell? ⟨X, 0, none⟩ = some (.int .i64 k') ∧ w'.cell? ⟨X, 1, none⟩ = some (.int .u64 n') ∧ w'.cell? ⟨X, 2, none⟩ = some (.int .i64 b'))) (by kernel_rfl) ⟨(E.out.c m2).c0, (E.out.c m2).c1, (E.out.c m2).c2, (E.out.c m3).c0, (E.out.c m3).c1, (E.out.c m3).c2⟩ (fun hHeld => ?_)
            refine wpAnyH_take (i := 0) (oi := ?o28) (v := ?v28) ?h28 (by kernel_rfl) (by kernel_rfl) (by kernel_rfl) ?q28 ?y28 (by assumption) ?r28
            case h28 => simp only [List.getElem?_toArray, List.getElem?_cons_zero, List.getElem?_cons_succ]; rfl
            case y28 => (refine Or.inl ⟨by rfl, ?_⟩; intro w hSw; (try dsimp only at hSw); go_simp; (try with_reducible rfl))
            case q28 => exact fun _ _ _ h => h
            try simp only [Act.put, List.setIfInBounds_toArray, List.set_cons_zero, List.set_cons_succ]
            refine wpAnyH_take (i := 1) (oi := ?o29) (v := ?v29) ?h29 (by kernel_rfl) (by kernel_rfl) (by kernel_rfl) ?q29 ?y29 (by assumption) ?r29
            case h29 => simp only [List.getElem?_toArray, List.getElem?_cons_zero, List.getElem?_cons_succ]; rfl
            case y29 => (refine Or.inl ⟨by rfl, ?_⟩; intro w hSw; (try dsimp only at hSw); go_simp; (try with_reducible rfl))
            case q29 => exact fun _ _ _ h => h
            try simp only [Act.put, List.setIfInBounds_toArray, List.set_cons_zero, List.set_cons_succ]
            refine wpAnyH_take (i := 2) (oi := ?o30) (v := ?v30) ?h30 (by kernel_rfl) (by kernel_rfl) (by kernel_rfl) ?q30 ?y30 (by assumption) ?r30
            case h30 => simp only [List.getElem?_toArray, List.getElem?_cons_zero, List.getElem?_cons_succ]; rfl
            case y30 => (refine Or.inl ⟨by rfl, ?_⟩; intro w hSw; (try dsimp only at hSw); go_simp; (try with_reducible rfl))
            case q30 => exact fun _ _ _ h => h
            try simp only [Act.put, List.setIfInBounds_toArray, List.set_cons_zero, List.set_cons_succ]
            refine wpAnyH_take (i := 3) (oi := ?o31) (v := ?v31) ?h31 (by kernel_rfl) (by kernel_rfl) (by kernel_rfl) ?q31 ?y31 (by assumption) ?r31
            case h31 => simp only [List.getElem?_toArray, List.getElem?_cons_zero, List.getElem?_cons_succ]; rfl
            case y31 => (refine Or.inl ⟨by rfl, ?_⟩; intro w hSw; (try dsimp only at hSw); go_simp; (try with_reducible rfl))
            case q31 => exact fun _ _ _ h => h
            try simp only [Act.put, List.setIfInBounds_toArray, List.set_cons_zero, List.set_cons_succ]
            refine wpAnyH_take (i := 5) (oi := ?o32) (v := ?v32) ?h32 (by kernel_rfl) (by kernel_rfl) (by kernel_rfl) ?q32 ?y32 (by assumption) ?r32
            case h32 => simp only [List.getElem?_toArray, List.getElem?_cons_zero, List.getElem?_cons_succ]; rfl
            case y32 => (refine Or.inl ⟨by rfl, ?_⟩; intro w hSw; (try dsimp only at hSw); go_simp; (try with_reducible rfl))
            case q32 => exact fun _ _ _ h => h
            try simp only [Act.put, List.setIfInBounds_toArray, List.set_cons_zero, List.set_cons_succ]
            refine wpAnyH_ready (rs := [4]) (by kernel_rfl) (by simp) ?_
            refine AllReadyH.cons rfl (fun K hK => ?_) ?_
            · go_simp
              go_at_call 17; refine (E.out.store (by unfold maxLen; omega) _ _ _ _ _ _ _ k1 HX.out.1 true HV.out).mono ?_; rintro e w9 ⟨rfl, E9⟩; have E := Lib.hid E9
              go_wp2_with fail
              refine hK.out _ _ ⟨(E.out.c m2).c0, (E.out.c m2).c1, (E.out.c m2).c2, (E.out.c m3).c0, (E.out.c m3).c1, (E.out.c m3).c2⟩ (fun hHeld => ?_)
              clear hK K
              try simp only [Act.put, List.setIfInBounds_toArray, List.set_cons_zero, List.set_cons_succ]
              refine wpAnyH_take (i := 6) (oi := ?o33) (v := ?v33) ?h33 (by kernel_rfl) (by kernel_rfl) (by kernel_rfl) ?q33 ?y33 (by assumption) ?r33
              case h33 => simp only [List.getElem?_toArray, List.getElem?_cons_zero, List.getElem?_cons_succ]; rfl
              case y33 => (refine Or.inl ⟨by rfl, ?_⟩; intro w hSw; (try dsimp only at hSw); go_simp; (try with_reducible rfl))
              case q33 => exact fun _ _ _ h => h
              try simp only [Act.put, List.setIfInBounds_toArray, List.set_cons_zero, List.set_cons_succ]
              refine wpAnyH_take (i := 7) (oi := ?o34) (v := ?v34) ?h34 (by kernel_rfl) (by kernel_rfl) (by kernel_rfl) ?q34 ?y34 (by assumption) ?r34
              case h34 => simp only [List.getElem?_toArray, List.getElem?_cons_zero, List.getElem?_cons_succ]; rfl
              case y34 => (refine Or.inl ⟨by rfl, ?_⟩; intro w hSw; (try dsimp only at hSw); go_simp; (try with_reducible rfl))
              case q34 => exact fun _ _ _ h => h
              try simp only [Act.put, List.setIfInBounds_toArray, List.set_cons_zero, List.set_cons_succ]
              refine wpAnyH_take (i := 8) (oi := ?o35) (v := ?v35) ?h35 (by kernel_rfl) (by kernel_rfl) (by kernel_rfl) ?q35 ?y35 (by assumption) ?r35
              case h35 => simp only [List.getElem?_toArray, List.getElem?_cons_zero, List.getElem?_cons_succ]; rfl
              case y35 => (refine Or.inl ⟨by rfl, ?_⟩; intro w hSw; (try dsimp only at hSw); go_simp; (try with_reducible rfl))
              case q35 => exact fun _ _ _ h => h
              try simp only [Act.put, List.setIfInBounds_toArray, List.set_cons_zero, List.set_cons_succ]
              refine wpAnyH_take (i := 9) (oi := ?o36) (v := ?v36) ?h36 (by kernel_rfl) (by kernel_rfl) (by kernel_rfl) ?q36 ?y36 (by assumption) ?r36
              case h36 => simp only [List.getElem?_toArray, List.getElem?_cons_zero, List.getElem?_cons_succ]; rfl
              case y36 => (refine Or.inl ⟨by rfl, ?_⟩; intro w hSw; (try dsimp only at hSw); go_simp; (try with_reducible rfl))
              case q36 => exact fun _ _ _ h => h
              try simp only [Act.put, List.setIfInBounds_toArray, List.set_cons_zero, List.set_cons_succ]
              refine wpAnyH_take (i := 10) (oi := ?o37) (v := ?v37) ?h37 (by kernel_rfl) (by kernel_rfl) (by kernel_rfl) ?q37 ?y37 (by assumption) ?r37
              case h37 => simp only [List.getElem?_toArray, List.getElem?_cons_zero, List.getElem?_cons_succ]; rfl
              case y37 => (refine Or.inl ⟨by rfl, ?_⟩; intro w hSw; (try dsimp only at hSw); go_simp; (try with_reducible rfl))
              case q37 => exact fun _ _ _ h => h
              try simp only [Act.put, List.setIfInBounds_toArray, List.set_cons_zero, List.set_cons_succ]
              refine wpAnyH_take (i := 11) (oi := ?o38) (v := undef) ?h38 (by kernel_rfl) (by kernel_rfl) (by kernel_rfl) ?q38 ?y38 (by assumption) ?r38
              case h38 => simp only [List.getElem?_toArray, List.getElem?_cons_zero, List.getElem?_cons_succ]; rfl
              case y38 => exact Or.inr ⟨by rfl, rfl⟩
              case q38 => exact fun _ _ _ h => h
              try simp only [Act.put, List.setIfInBounds_toArray, List.set_cons_zero, List.set_cons_succ]
              refine wpAnyH_take (i := 12) (oi := ?o39) (v := undef) ?h39 (by kernel_rfl) (by kernel_rfl) (by kernel_rfl) ?q39 ?y39 (by assumption) ?r39
              case h39 => simp only [List.getElem?_toArray, List.getElem?_cons_zero, List.getElem?_cons_succ]; rfl
              case y39 => exact Or.inr ⟨by rfl, rfl⟩
              case q39 => exact fun _ _ _ h => h
              try simp only [Act.put, List.setIfInBounds_toArray, List.set_cons_zero, List.set_cons_succ]
              refine wpAnyH_take (i := 13) (oi := ?o40) (v := undef) ?h40 (by kernel_rfl) (by kernel_rfl) (by kernel_rfl) ?q40 ?y40 (by assumption) ?r40
              case h40 => simp only [List.getElem?_toArray, List.getElem?_cons_zero, List.getElem?_cons_succ]; rfl
              case y40 => exact Or.inr ⟨by rfl, rfl⟩
              case q40 => exact fun _ _ _ h => h
              try simp only [Act.put, List.setIfInBounds_toArray, List.set_cons_zero, List.set_cons_succ]
              refine wpAnyH_take (i := 14) (oi := ?o41) (v := undef) ?h41 (by kernel_rfl) (by kernel_rfl) (by kernel_rfl) ?q41 ?y41 (by assumption) ?r41
              case h41 => simp only [List.getElem?_toArray, List.getElem?_cons_zero, List.getElem?_cons_succ]; rfl
              case y41 => exact Or.inr ⟨by rfl, rfl⟩
              case q41 => exact fun _ _ _ h => h
              try simp only [Act.put, List.setIfInBounds_toArray, List.set_cons_zero, List.set_cons_succ]
              refine wpAnyH_take (i := 15) (oi := ?o42) (v := undef) ?h42 (by kernel_rfl) (by kernel_rfl) (by kernel_rfl) ?q42 ?y42 (by assumption) ?r42
              case h42 => simp only [List.getElem?_toArray, List.getElem?_cons_zero, List.getElem?_cons_succ]; rfl
              case y42 => exact Or.inr ⟨by rfl, rfl⟩
              case q42 => exact fun _ _ _ h => h
              try simp only [Act.put, List.setIfInBounds_toArray, List.set_cons_zero, List.set_cons_succ]
              refine wpAnyH_take (i := 16) (oi := ?o43) (v := ?v43) ?h43 (by kernel_rfl) (by kernel_rfl) (by kernel_rfl) ?q43 ?y43 (by assumption) ?r43
              case h43 => simp only [List.getElem?_toArray, List.getElem?_cons_zero, List.getElem?_cons_succ]; rfl
              case y43 => (refine Or.inl ⟨by rfl, ?_⟩; intro w hSw; (try dsimp only at hSw); go_simp; (try with_reducible rfl))
              case q43 => exact fun _ _ _ h => h
              try simp only [Act.put, List.setIfInBounds_toArray, List.set_cons_zero, List.set_cons_succ]
              refine wpAnyH_take (i := 17) (oi := ?o44) (v := ?v44) ?h44 (by kernel_rfl) (by kernel_rfl) (by kernel_rfl) ?q44 ?y44 (by assumption) ?r44
              case h44 => simp only [List.getElem?_toArray, List.getElem?_cons_zero, List.getElem?_cons_succ]; rfl
              case y44 => (refine Or.inl ⟨by rfl, ?_⟩; intro w hSw; (try dsimp only at hSw); go_simp; (try with_reducible rfl))
              case q44 => exact fun _ _ _ h => h
              try simp only [Act.put, List.setIfInBounds_toArray, List.set_cons_zero, List.set_cons_succ]
              refine wpAnyH_take (i := 18) (oi := ?o45) (v := undef) ?h45 (by kernel_rfl) (by kernel_rfl) (by kernel_rfl) ?q45 ?y45 (by assumption) ?r45
              case h45 => simp only [List.getElem?_toArray, List.getElem?_cons_zero, List.getElem?_cons_succ]; rfl
              case y45 => exact Or.inr ⟨by rfl, rfl⟩
              case q45 => exact fun _ _ _ h => h
              try simp only [Act.put, List.setIfInBounds_toArray, List.set_cons_zero, List.set_cons_succ]
              refine wpAnyH_take (i := 19) (oi := ?o46) (v := undef) ?h46 (by kernel_rfl) (by kernel_rfl) (by kernel_rfl) ?q46 ?y46 (by assumption) ?r46
              case h46 => simp only [List.getElem?_toArray, List.getElem?_cons_zero, List.getElem?_cons_succ]; rfl
              case y46 => exact Or.inr ⟨by rfl, rfl⟩
              case q46 => exact fun _ _ _ h => h
              try simp only [Act.put, List.setIfInBounds_toArray, List.set_cons_zero, List.set_cons_succ]
              refine wpAnyH_take (i := 20) (oi := ?o47) (v := undef) ?h47 (by kernel_rfl) (by kernel_rfl) (by kernel_rfl) ?q47 ?y47 (by assumption) ?r47
              case h47 => simp only [List.getElem?_toArray, List.getElem?_cons_zero, List.getElem?_cons_succ]; rfl
              case y47 => exact Or.inr ⟨by rfl, rfl⟩
              case q47 => exact fun _ _ _ h => h
              try simp only [Act.put, List.setIfInBounds_toArray, List.set_cons_zero, List.set_cons_succ]
              refine wpAnyH_take (i := 21) (oi := ?o48) (v := undef) ?h48 (by kernel_rfl) (by kernel_rfl) (by kernel_rfl) ?q48 ?y48 (by assumption) ?r48
              case h48 => simp only [List.getElem?_toArray, List.getElem?_cons_zero, List.getElem?_cons_succ]; rfl
              case y48 => exact Or.inr ⟨by rfl, rfl⟩
              case q48 => exact fun _ _ _ h => h
              try simp only [Act.put, List.setIfInBounds_toArray, List.set_cons_zero, List.set_cons_succ]
              refine wpAnyH_take (i := 22) (oi := ?o49) (v := undef) ?h49 (by kernel_rfl) (by kernel_rfl) (by kernel_rfl) ?q49 ?y49 (by assumption) ?r49
              case h49 => simp only [List.getElem?_toArray, List.getElem?_cons_zero, List.getElem?_cons_succ]; rfl
              case y49 => exact Or.inr ⟨by rfl, rfl⟩
              case q49 => exact fun _ _ _ h => h
              try simp only [Act.put, List.setIfInBounds_toArray, List.set_cons_zero, List.set_cons_succ]
              refine wpAnyH_take (i := 23) (oi := ?o50) (v := undef) ?h50 (by kernel_rfl) (by kernel_rfl) (by kernel_rfl) ?q50 ?y50 (by assumption) ?r50
              case h50 => simp only [List.getElem?_toArray, List.getElem?_cons_zero, List.getElem?_cons_succ]; rfl
              case y50 => exact Or.inr ⟨by rfl, rfl⟩
              case q50 => exact fun _ _ _ h => h
              try simp only [Act.put, List.setIfInBounds_toArray, List.set_cons_zero, List.set_cons_succ]
              refine wpAnyH_take (i := 24) (oi := ?o51) (v := undef) ?h51 (by kernel_rfl) (by kernel_rfl) (by kernel_rfl) ?q51 ?y51 (by assumption) ?r51
              case h51 => simp only [List.getElem?_toArray, List.getElem?_cons_zero, List.getElem?_cons_succ]; rfl
              case y51 => exact Or.inr ⟨by rfl, rfl⟩
              case q51 => exact fun _ _ _ h => h
              try simp only [Act.put, List.setIfInBounds_toArray, List.set_cons_zero, List.set_cons_succ]
              refine wpAnyH_take (i := 25) (oi := ?o52) (v := ?v52) ?h52 (by kernel_rfl) (by kernel_rfl) (by kernel_rfl) ?q52 ?y52 (by assumption) ?r52
              case h52 => simp only [List.getElem?_toArray, List.getElem?_cons_zero, List.getElem?_cons_succ]; rfl
              case y52 => (refine Or.inl ⟨by rfl, ?_⟩; intro w hSw; (try dsimp only at hSw); go_simp; (try with_reducible rfl))
              case q52 => exact fun _ _ _ h => h
              try simp only [Act.put, List.setIfInBounds_toArray, List.set_cons_zero, List.set_cons_succ]
              refine wpAnyH_take (i := 26) (oi := ?o53) (v := ?v53) ?h53 (by kernel_rfl) (by kernel_rfl) (by kernel_rfl) ?q53 ?y53 (by assumption) ?r53
              case h53 => simp only [List.getElem?_toArray, List.getElem?_cons_zero, List.getElem?_cons_succ]; rfl
              case y53 => (refine Or.inl ⟨by rfl, ?_⟩; intro w hSw; (try dsimp only at hSw); go_simp; (try with_reducible rfl))
              case q53 => exact fun _ _ _ h => h
              try simp only [Act.put, List.setIfInBounds_toArray, List.set_cons_zero, List.set_cons_succ]
              refine wpAnyH_take (i := 27) (oi := ?o54) (v := ?v54) ?h54 (by kernel_rfl) (by kernel_rfl) (by kernel_rfl) ?q54 ?y54 (by assumption) ?r54
              case h54 => simp only [List.getElem?_toArray, List.getElem?_cons_zero, List.getElem?_cons_succ]; rfl
              case y54 => (refine Or.inl ⟨by rfl, ?_⟩; intro w hSw; (try dsimp only at hSw); go_simp; (try with_reducible rfl))
              case q54 => exact fun _ _ _ h => h
              try simp only [Act.put, List.setIfInBounds_toArray, List.set_cons_zero, List.set_cons_succ]
              refine wpAnyH_done (by kernel_rfl) ?_ _
              all_goals go_wp2_with fail
              go_meet
              exact ⟨rfl, Lib.hid (E.out.mono (by omega))⟩
            exact AllReadyH.nil
        · replace hk0 : (k' == 0) = false := by simpa using hk0
          by_cases hkk : (k' == kindL c) = true
          · as_aux_lemma =>
              have HV : Hid ((storeS S c 4 U 1 k' n' b').1 = true) := Lib.hid (HA.out true (by rw [← HT.out]; simp [fitsL, *]))
              refine wp_region_held_drew (S := (fun w' => w'.cell? ⟨P, 0, none⟩ = some (.int .i64 4) ∧ w'.cell? ⟨P, 1, none⟩ = some (.int .u64 U) ∧ w'.cell? ⟨P, 2, none⟩ = some (.int .i64 1) ∧ w'.cell? ⟨X, 0, none⟩ = some (.int .i64 k') ∧ w'.cell? ⟨X, 1, none⟩ = some (.int .u64 n') ∧ w'.cell? ⟨X, 2, none⟩ = some (.int .i64 b'))) (by kernel_rfl) ⟨(E.out.c m2).c0, (E.out.c m2).c1, (E.out.c m2).c2, (E.out.c m3).c0, (E.out.c m3).c1, (E.out.c m3).c2⟩ (fun hHeld => ?_)
              refine wpAnyH_take (i := 0) (oi := ?o55) (v := ?v55) ?h55 (by kernel_rfl) (by kernel_rfl) (by kernel_rfl) ?q55 ?y55 (by assumption) ?r55
              case h55 => simp only [List.getElem?_toArray, List.getElem?_cons_zero, List.getElem?_cons_succ]; rfl
              case y55 => (refine Or.inl ⟨by rfl, ?_⟩; intro w hSw; (try dsimp only at hSw); go_simp; (try with_reducible rfl))
              case q55 => exact fun _ _ _ h => h
              try simp only [Act.put, List.setIfInBounds_toArray, List.set_cons_zero, List.set_cons_succ]
              refine wpAnyH_take (i := 1) (oi := ?o56) (v := ?v56) ?h56 (by kernel_rfl) (by kernel_rfl) (by kernel_rfl) ?q56 ?y56 (by assumption) ?r56
              case h56 => simp only [List.getElem?_toArray, List.getElem?_cons_zero, List.getElem?_cons_succ]; rfl
              case y56 => (refine Or.inl ⟨by rfl, ?_⟩; intro w hSw; (try dsimp only at hSw); go_simp; (try with_reducible rfl))
              case q56 => exact fun _ _ _ h => h
              try simp only [Act.put, List.setIfInBounds_toArray, List.set_cons_zero, List.set_cons_succ]
              refine wpAnyH_take (i := 2) (oi := ?o57) (v := ?v57) ?h57 (by kernel_rfl) (by kernel_rfl) (by kernel_rfl) ?q57 ?y57 (by assumption) ?r57
              case h57 => simp only [List.getElem?_toArray, List.getElem?_cons_zero, List.getElem?_cons_succ]; rfl
              case y57 => (refine Or.inl ⟨by rfl, ?_⟩; intro w hSw; (try dsimp only at hSw); go_simp; (try with_reducible rfl))
              case q57 => exact fun _ _ _ h => h
              try simp only [Act.put, List.setIfInBounds_toArray, List.set_cons_zero, List.set_cons_succ]
              refine wpAnyH_take (i := 3) (oi := ?o58) (v := ?v58) ?h58 (by kernel_rfl) (by kernel_rfl) (by kernel_rfl) ?q58 ?y58 (by assumption) ?r58
              case h58 => simp only [List.getElem?_toArray, List.getElem?_cons_zero, List.getElem?_cons_succ]; rfl
              case y58 => (refine Or.inl ⟨by rfl, ?_⟩; intro w hSw; (try dsimp only at hSw); go_simp; (try with_reducible rfl))
              case q58 => exact fun _ _ _ h => h
              try simp only [Act.put, List.setIfInBounds_toArray, List.set_cons_zero, List.set_cons_succ]
              refine wpAnyH_take (i := 5) (oi := ?o59) (v := ?v59) ?h59 (by kernel_rfl) (by kernel_rfl) (by kernel_rfl) ?q59 ?y59 (by assumption) ?r59
              case h59 => simp only [List.getElem?_toArray, List.getElem?_cons_zero, List.getElem?_cons_succ]; rfl
              case y59 => (refine Or.inl ⟨by rfl, ?_⟩; intro w hSw; (try dsimp only at hSw); go_simp; (try with_reducible rfl))
              case q59 => exact fun _ _ _ h => h
              try simp only [Act.put, List.setIfInBounds_toArray, List.set_cons_zero, List.set_cons_succ]
              refine wpAnyH_ready (rs := [4]) (by kernel_rfl) (by simp) ?_
              refine AllReadyH.cons rfl (fun K hK => ?_) ?_
              · go_simp
                go_at_call 17; refine (E.out.store (by unfold maxLen; omega) _ _ _ _ _ _ _ k1 HX.out.1 true HV.out).mono ?_; rintro e w9 ⟨rfl, E9⟩; have E := Lib.hid E9
                go_wp2_with fail
                refine hK.out _ _ ⟨(E.out.c m2).c0, (E.out.c m2).c1, (E.out.c m2).c2, (E.out.c m3).c0, (E.out.c m3).c1, (E.out.c m3).c2⟩ (fun hHeld => ?_)
                clear hK K
                try simp only [Act.put, List.setIfInBounds_toArray, List.set_cons_zero, List.set_cons_succ]
                refine wpAnyH_take (i := 6) (oi := ?o60) (v := ?v60) ?h60 (by kernel_rfl) (by kernel_rfl) (by kernel_rfl) ?q60 ?y60 (by assumption) ?r60
                case h60 => simp only [List.getElem?_toArray, List.getElem?_cons_zero, List.getElem?_cons_succ]; rfl
                case y60 => (refine Or.inl ⟨by rfl, ?_⟩; intro w hSw; (try dsimp only at hSw); go_simp; (try with_reducible rfl))
                case q60 => exact fun _ _ _ h => h
                try simp only [Act.put, List.setIfInBounds_toArray, List.set_cons_zero, List.set_cons_succ]
                refine wpAnyH_take (i := 7) (oi := ?o61) (v := ?v61) ?h61 (by kernel_rfl) (by kernel_rfl) (by kernel_rfl) ?q61 ?y61 (by assumption) ?r61
                case h61 => simp only [List.getElem?_toArray, List.getElem?_cons_zero, List.getElem?_cons_succ]; rfl
                case y61 => (refine Or.inl ⟨by rfl, ?_⟩; intro w hSw; (try dsimp only at hSw); go_simp; (try with_reducible rfl))
                case q61 => exact fun _ _ _ h => h
                try simp only [Act.put, List.setIfInBounds_toArray, List.set_cons_zero, List.set_cons_succ]
                refine wpAnyH_take (i := 8) (oi := ?o62) (v := ?v62) ?h62 (by kernel_rfl) (by kernel_rfl) (by kernel_rfl) ?q62 ?y62 (by assumption) ?r62
                case h62 => simp only [List.getElem?_toArray, List.getElem?_cons_zero, List.getElem?_cons_succ]; rfl
                case y62 => (refine Or.inl ⟨by rfl, ?_⟩; intro w hSw; (try dsimp only at hSw); go_simp; (try with_reducible rfl))
                case q62 => exact fun _ _ _ h => h
                try simp only [Act.put, List.setIfInBounds_toArray, List.set_cons_zero, List.set_cons_succ]
                refine wpAnyH_take (i := 9) (oi := ?o63) (v := ?v63) ?h63 (by kernel_rfl) (by kernel_rfl) (by kernel_rfl) ?q63 ?y63 (by assumption) ?r63
                case h63 => simp only [List.getElem?_toArray, List.getElem?_cons_zero, List.getElem?_cons_succ]; rfl
                case y63 => (refine Or.inl ⟨by rfl, ?_⟩; intro w hSw; (try dsimp only at hSw); go_simp; (try with_reducible rfl))
                case q63 => exact fun _ _ _ h => h
                try simp only [Act.put, List.setIfInBounds_toArray, List.set_cons_zero, List.set_cons_succ]
                refine wpAnyH_take (i := 10) (oi := ?o64) (v := ?v64) ?h64 (by kernel_rfl) (by kernel_rfl) (by kernel_rfl) ?q64 ?y64 (by assumption) ?r64
                case h64 => simp only [List.getElem?_toArray, List.getElem?_cons_zero, List.getElem?_cons_succ]; rfl
                case y64 => (refine Or.inl ⟨by rfl, ?_⟩; intro w hSw; (try dsimp only at hSw); go_simp; (try with_reducible rfl))
                case q64 => exact fun _ _ _ h => h
                try simp only [Act.put, List.setIfInBounds_toArray, List.set_cons_zero, List.set_cons_succ]
                refine wpAnyH_take (i := 11) (oi := ?o65) (v := ?v65) ?h65 (by kernel_rfl) (by kernel_rfl) (by kernel_rfl) ?q65 ?y65 (by assumption) ?r65
                case h65 => simp only [List.getElem?_toArray, List.getElem?_cons_zero, List.getElem?_cons_succ]; rfl
                case y65 => (refine Or.inl ⟨by rfl, ?_⟩; intro w hSw; (try dsimp only at hSw); go_simp; (try with_reducible rfl))
                case q65 => exact fun _ _ _ h => h
                try simp only [Act.put, List.setIfInBounds_toArray, List.set_cons_zero, List.set_cons_succ]
                refine wpAnyH_take (i := 12) (oi := ?o66) (v := ?v66) ?h66 (by kernel_rfl) (by kernel_rfl) (by kernel_rfl) ?q66 ?y66 (by assumption) ?r66
                case h66 => simp only [List.getElem?_toArray, List.getElem?_cons_zero, List.getElem?_cons_succ]; rfl
                case y66 => (refine Or.inl ⟨by rfl, ?_⟩; intro w hSw; (try dsimp only at hSw); go_simp; (try with_reducible rfl))
                case q66 => exact fun _ _ _ h => h
                try simp only [Act.put, List.setIfInBounds_toArray, List.set_cons_zero, List.set_cons_succ]
                refine wpAnyH_take (i := 13) (oi := ?o67) (v := ?v67) ?h67 (by kernel_rfl) (by kernel_rfl) (by kernel_rfl) ?q67 ?y67 (by assumption) ?r67
                case h67 => simp only [List.getElem?_toArray, List.getElem?_cons_zero, List.getElem?_cons_succ]; rfl
                case y67 => (refine Or.inl ⟨by rfl, ?_⟩; intro w hSw; (try dsimp only at hSw); go_simp; (try with_reducible rfl))
                case q67 => exact fun _ _ _ h => h
                try simp only [Act.put, List.setIfInBounds_toArray, List.set_cons_zero, List.set_cons_succ]
                refine wpAnyH_ready (rs := [14]) (by kernel_rfl) (by simp) ?_
                refine AllReadyH.cons rfl (fun K hK => ?_) ?_
                · go_simp
                  go_at_call 25; refine (kind_any c _).mono ?_; rintro e w' ⟨rfl, rfl⟩
                  go_wp2_with fail
                  refine hK.out _ _ ⟨(E.out.c m2).c0, (E.out.c m2).c1, (E.out.c m2).c2, (E.out.c m3).c0, (E.out.c m3).c1, (E.out.c m3).c2⟩ (fun hHeld => ?_)
                  clear hK K
                  try simp only [Act.put, List.setIfInBounds_toArray, List.set_cons_zero, List.set_cons_succ]
                  refine wpAnyH_take (i := 15) (oi := ?o68) (v := ?v68) ?h68 (by kernel_rfl) (by kernel_rfl) (by kernel_rfl) ?q68 ?y68 (by assumption) ?r68
                  case h68 => simp only [List.getElem?_toArray, List.getElem?_cons_zero, List.getElem?_cons_succ]; rfl
                  case y68 => (refine Or.inl ⟨by rfl, ?_⟩; intro w hSw; (try dsimp only at hSw); go_simp; (try with_reducible rfl))
                  case q68 => exact fun _ _ _ h => h
                  try simp only [Act.put, List.setIfInBounds_toArray, List.set_cons_zero, List.set_cons_succ]
                  refine wpAnyH_take (i := 16) (oi := ?o69) (v := ?v69) ?h69 (by kernel_rfl) (by kernel_rfl) (by kernel_rfl) ?q69 ?y69 (by assumption) ?r69
                  case h69 => simp only [List.getElem?_toArray, List.getElem?_cons_zero, List.getElem?_cons_succ]; rfl
                  case y69 => (refine Or.inl ⟨by rfl, ?_⟩; intro w hSw; (try dsimp only at hSw); go_simp; (try with_reducible rfl))
                  case q69 => exact fun _ _ _ h => h
                  try simp only [Act.put, List.setIfInBounds_toArray, List.set_cons_zero, List.set_cons_succ]
                  refine wpAnyH_take (i := 17) (oi := ?o70) (v := ?v70) ?h70 (by kernel_rfl) (by kernel_rfl) (by kernel_rfl) ?q70 ?y70 (by assumption) ?r70
                  case h70 => simp only [List.getElem?_toArray, List.getElem?_cons_zero, List.getElem?_cons_succ]; rfl
                  case y70 => (refine Or.inl ⟨by rfl, ?_⟩; intro w hSw; (try dsimp only at hSw); go_simp; (try with_reducible rfl))
                  case q70 => exact fun _ _ _ h => h
                  try simp only [Act.put, List.setIfInBounds_toArray, List.set_cons_zero, List.set_cons_succ]
                  refine wpAnyH_take (i := 18) (oi := ?o71) (v := undef) ?h71 (by kernel_rfl) (by kernel_rfl) (by kernel_rfl) ?q71 ?y71 (by assumption) ?r71
                  case h71 => simp only [List.getElem?_toArray, List.getElem?_cons_zero, List.getElem?_cons_succ]; rfl
                  case y71 => exact Or.inr ⟨by rfl, rfl⟩
                  case q71 => exact fun _ _ _ h => h
                  try simp only [Act.put, List.setIfInBounds_toArray, List.set_cons_zero, List.set_cons_succ]
                  refine wpAnyH_take (i := 19) (oi := ?o72) (v := undef) ?h72 (by kernel_rfl) (by kernel_rfl) (by kernel_rfl) ?q72 ?y72 (by assumption) ?r72
                  case h72 => simp only [List.getElem?_toArray, List.getElem?_cons_zero, List.getElem?_cons_succ]; rfl
                  case y72 => exact Or.inr ⟨by rfl, rfl⟩
                  case q72 => exact fun _ _ _ h => h
                  try simp only [Act.put, List.setIfInBounds_toArray, List.set_cons_zero, List.set_cons_succ]
                  refine wpAnyH_take (i := 20) (oi := ?o73) (v := undef) ?h73 (by kernel_rfl) (by kernel_rfl) (by kernel_rfl) ?q73 ?y73 (by assumption) ?r73
                  case h73 => simp only [List.getElem?_toArray, List.getElem?_cons_zero, List.getElem?_cons_succ]; rfl
                  case y73 => exact Or.inr ⟨by rfl, rfl⟩
                  case q73 => exact fun _ _ _ h => h
                  try simp only [Act.put, List.setIfInBounds_toArray, List.set_cons_zero, List.set_cons_succ]
                  refine wpAnyH_take (i := 21) (oi := ?o74) (v := undef) ?h74 (by kernel_rfl) (by kernel_rfl) (by kernel_rfl) ?q74 ?y74 (by assumption) ?r74
                  case h74 => simp only [List.getElem?_toArray, List.getElem?_cons_zero, List.getElem?_cons_succ]; rfl
                  case y74 => exact Or.inr ⟨by rfl, rfl⟩
                  case q74 => exact fun _ _ _ h => h
                  try simp only [Act.put, List.setIfInBounds_toArray, List.set_cons_zero, List.set_cons_succ]
                  refine wpAnyH_take (i := 22) (oi := ?o75) (v := undef) ?h75 (by kernel_rfl) (by kernel_rfl) (by kernel_rfl) ?q75 ?y75 (by assumption) ?r75
                  case h75 => simp only [List.getElem?_toArray, List.getElem?_cons_zero, List.getElem?_cons_succ]; rfl
                  case y75 => exact Or.inr ⟨by rfl, rfl⟩
                  case q75 => exact fun _ _ _ h => h
                  try simp only [Act.put, List.setIfInBounds_toArray, List.set_cons_zero, List.set_cons_succ]
                  refine wpAnyH_take (i := 23) (oi := ?o76) (v := undef) ?h76 (by kernel_rfl) (by kernel_rfl) (by kernel_rfl) ?q76 ?y76 (by assumption) ?r76
                  case h76 => simp only [List.getElem?_toArray, List.getElem?_cons_zero, List.getElem?_cons_succ]; rfl
                  case y76 => exact Or.inr ⟨by rfl, rfl⟩
                  case q76 => exact fun _ _ _ h => h
                  try simp only [Act.put, List.setIfInBounds_toArray, List.set_cons_zero, List.set_cons_succ]
                  refine wpAnyH_take (i := 24) (oi := ?o77) (v := undef) ?h77 (by kernel_rfl) (by kernel_rfl) (by kernel_rfl) ?q77 ?y77 (by assumption) ?r77
                  case h77 => simp only [List.getElem?_toArray, List.getElem?_cons_zero, List.getElem?_cons_succ]; rfl
                  case y77 => exact Or.inr ⟨by rfl, rfl⟩
                  case q77 => exact fun _ _ _ h => h
                  try simp only [Act.put, List.setIfInBounds_toArray, List.set_cons_zero, List.set_cons_succ]
                  refine wpAnyH_take (i := 25) (oi := ?o78) (v := ?v78) ?h78 (by kernel_rfl) (by kernel_rfl) (by kernel_rfl) ?q78 ?y78 (by assumption) ?r78
                  case h78 => simp only [List.getElem?_toArray, List.getElem?_cons_zero, List.getElem?_cons_succ]; rfl
                  case y78 => (refine Or.inl ⟨by rfl, ?_⟩; intro w hSw; (try dsimp only at hSw); go_simp; (try with_reducible rfl))
                  case q78 => exact fun _ _ _ h => h
                  try simp only [Act.put, List.setIfInBounds_toArray, List.set_cons_zero, List.set_cons_succ]
                  refine wpAnyH_take (i := 26) (oi := ?o79) (v := ?v79) ?h79 (by kernel_rfl) (by kernel_rfl) (by kernel_rfl) ?q79 ?y79 (by assumption) ?r79
                  case h79 => simp only [List.getElem?_toArray, List.getElem?_cons_zero, List.getElem?_cons_succ]; rfl
                  case y79 => (refine Or.inl ⟨by rfl, ?_⟩; intro w hSw; (try dsimp only at hSw); go_simp; (try with_reducible rfl))
                  case q79 => exact fun _ _ _ h => h
                  try simp only [Act.put, List.setIfInBounds_toArray, List.set_cons_zero, List.set_cons_succ]
                  refine wpAnyH_take (i := 27) (oi := ?o80) (v := ?v80) ?h80 (by kernel_rfl) (by kernel_rfl) (by kernel_rfl) ?q80 ?y80 (by assumption) ?r80
                  case h80 => simp only [List.getElem?_toArray, List.getElem?_cons_zero, List.getElem?_cons_succ]; rfl
                  case y80 => (refine Or.inl ⟨by rfl, ?_⟩; intro w hSw; (try dsimp only at hSw); go_simp; (try with_reducible rfl))
                  case q80 => exact fun _ _ _ h => h
                  try simp only [Act.put, List.setIfInBounds_toArray, List.set_cons_zero, List.set_cons_succ]
                  refine wpAnyH_done (by kernel_rfl) ?_ _
                  all_goals go_wp2_with fail
                  go_meet
                  exact ⟨rfl, Lib.hid (E.out.mono (by omega))⟩
                exact AllReadyH.nil
              exact AllReadyH.nil
          · replace hkk : (k' == kindL c) = false := by simpa using hkk
            by_cases hk4 : (k' == 4) = true
            · by_cases hc6 : (c == 6) = true
              · as_aux_lemma =>
                  have HV : Hid ((storeS S c 4 U 1 k' n' b').1 = true) := Lib.hid (HA.out true (by rw [← HT.out]; simp [fitsL, *]))
                  refine wp_region_held_drew (S := (fun w' => w'.cell? ⟨P, 0, none⟩ = some (.int .i64 4) ∧ w'.cell? ⟨P, 1, none⟩ = some (.int .u64 U) ∧ w'.cell? ⟨P, 2, none⟩ = some (.int .i64 1) ∧ w'.cell? ⟨X, 0, none⟩ = some (.int .i64 k') ∧ w'.cell? ⟨X, 1, none⟩ = some (.int .u64 n') ∧ w'.cell? ⟨X, 2, none⟩ = some (.int .i64 b'))) (by kernel_rfl) ⟨(E.out.c m2).c0, (E.out.c m2).c1, (E.out.c m2).c2, (E.out.c m3).c0, (E.out.c m3).c1, (E.out.c m3).c2⟩ (fun hHeld => ?_)
                  refine wpAnyH_take (i := 0) (oi := ?o81) (v := ?v81) ?h81 (by kernel_rfl) (by kernel_rfl) (by kernel_rfl) ?q81 ?y81 (by assumption) ?r81
                  case h81 => simp only [List.getElem?_toArray, List.getElem?_cons_zero, List.getElem?_cons_succ]; rfl
                  case y81 => (refine Or.inl ⟨by rfl, ?_⟩; intro w hSw; (try dsimp only at hSw); go_simp; (try with_reducible rfl))
                  case q81 => exact fun _ _ _ h => h
                  try simp only [Act.put, List.setIfInBounds_toArray, List.set_cons_zero, List.set_cons_succ]
                  refine wpAnyH_take (i := 1) (oi := ?o82) (v := ?v82) ?h82 (by kernel_rfl) (by kernel_rfl) (by kernel_rfl) ?q82 ?y82 (by assumption) ?r82
                  case h82 => simp only [List.getElem?_toArray, List.getElem?_cons_zero, List.getElem?_cons_succ]; rfl
                  case y82 => (refine Or.inl ⟨by rfl, ?_⟩; intro w hSw; (try dsimp only at hSw); go_simp; (try with_reducible rfl))
                  case q82 => exact fun _ _ _ h => h
                  try simp only [Act.put, List.setIfInBounds_toArray, List.set_cons_zero, List.set_cons_succ]
                  refine wpAnyH_take (i := 2) (oi := ?o83) (v := ?v83) ?h83 (by kernel_rfl) (by kernel_rfl) (by kernel_rfl) ?q83 ?y83 (by assumption) ?r83
                  case h83 => simp only [List.getElem?_toArray, List.getElem?_cons_zero, List.getElem?_cons_succ]; rfl
                  case y83 => (refine Or.inl ⟨by rfl, ?_⟩; intro w hSw; (try dsimp only at hSw); go_simp; (try with_reducible rfl))
                  case q83 => exact fun _ _ _ h => h
                  try simp only [Act.put, List.setIfInBounds_toArray, List.set_cons_zero, List.set_cons_succ]
                  refine wpAnyH_take (i := 3) (oi := ?o84) (v := ?v84) ?h84 (by kernel_rfl) (by kernel_rfl) (by kernel_rfl) ?q84 ?y84 (by assumption) ?r84
                  case h84 => simp only [List.getElem?_toArray, List.getElem?_cons_zero, List.getElem?_cons_succ]; rfl
                  case y84 => (refine Or.inl ⟨by rfl, ?_⟩; intro w hSw; (try dsimp only at hSw); go_simp; (try with_reducible rfl))
                  case q84 => exact fun _ _ _ h => h
                  try simp only [Act.put, List.setIfInBounds_toArray, List.set_cons_zero, List.set_cons_succ]
                  refine wpAnyH_take (i := 5) (oi := ?o85) (v := ?v85) ?h85 (by kernel_rfl) (by kernel_rfl) (by kernel_rfl) ?q85 ?y85 (by assumption) ?r85
                  case h85 => simp only [List.getElem?_toArray, List.getElem?_cons_zero, List.getElem?_cons_succ]; rfl
                  case y85 => (refine Or.inl ⟨by rfl, ?_⟩; intro w hSw; (try dsimp only at hSw); go_simp; (try with_reducible rfl))
                  case q85 => exact fun _ _ _ h => h
                  try simp only [Act.put, List.setIfInBounds_toArray, List.set_cons_zero, List.set_cons_succ]
                  refine wpAnyH_ready (rs := [4]) (by kernel_rfl) (by simp) ?_
                  refine AllReadyH.cons rfl (fun K hK => ?_) ?_
                  · go_simp
                    go_at_call 17; refine (E.out.store (by unfold maxLen; omega) _ _ _ _ _ _ _ k1 HX.out.1 true HV.out).mono ?_; rintro e w9 ⟨rfl, E9⟩; have E := Lib.hid E9
                    go_wp2_with fail
                    refine hK.out _ _ ⟨(E.out.c m2).c0, (E.out.c m2).c1, (E.out.c m2).c2, (E.out.c m3).c0, (E.out.c m3).c1, (E.out.c m3).c2⟩ (fun hHeld => ?_)
                    clear hK K
                    try simp only [Act.put, List.setIfInBounds_toArray, List.set_cons_zero, List.set_cons_succ]
                    refine wpAnyH_take (i := 6) (oi := ?o86) (v := ?v86) ?h86 (by kernel_rfl) (by kernel_rfl) (by kernel_rfl) ?q86 ?y86 (by assumption) ?r86
                    case h86 => simp only [List.getElem?_toArray, List.getElem?_cons_zero, List.getElem?_cons_succ]; rfl
                    case y86 => (refine Or.inl ⟨by rfl, ?_⟩; intro w hSw; (try dsimp only at hSw); go_simp; (try with_reducible rfl))
                    case q86 => exact fun _ _ _ h => h
                    try simp only [Act.put, List.setIfInBounds_toArray, List.set_cons_zero, List.set_cons_succ]
                    refine wpAnyH_take (i := 7) (oi := ?o87) (v := ?v87) ?h87 (by kernel_rfl) (by kernel_rfl) (by kernel_rfl) ?q87 ?y87 (by assumption) ?r87
                    case h87 => simp only [List.getElem?_toArray, List.getElem?_cons_zero, List.getElem?_cons_succ]; rfl
                    case y87 => (refine Or.inl ⟨by rfl, ?_⟩; intro w hSw; (try dsimp only at hSw); go_simp; (try with_reducible rfl))
                    case q87 => exact fun _ _ _ h => h
                    try simp only [Act.put, List.setIfInBounds_toArray, List.set_cons_zero, List.set_cons_succ]
                    refine wpAnyH_take (i := 8) (oi := ?o88) (v := ?v88) ?h88 (by kernel_rfl) (by kernel_rfl) (by kernel_rfl) ?q88 ?y88 (by assumption) ?r88
                    case h88 => simp only [List.getElem?_toArray, List.getElem?_cons_zero, List.getElem?_cons_succ]; rfl
                    case y88 => (refine Or.inl ⟨by rfl, ?_⟩; intro w hSw; (try dsimp only at hSw); go_simp; (try with_reducible rfl))
                    case q88 => exact fun _ _ _ h => h
                    try simp only [Act.put, List.setIfInBounds_toArray, List.set_cons_zero, List.set_cons_succ]
                    refine wpAnyH_take (i := 9) (oi := ?o89) (v := ?v89) ?h89 (by kernel_rfl) (by kernel_rfl) (by kernel_rfl) ?q89 ?y89 (by assumption) ?r89
                    case h89 => simp only [List.getElem?_toArray, List.getElem?_cons_zero, List.getElem?_cons_succ]; rfl
                    case y89 => (refine Or.inl ⟨by rfl, ?_⟩; intro w hSw; (try dsimp only at hSw); go_simp; (try with_reducible rfl))
                    case q89 => exact fun _ _ _ h => h
                    try simp only [Act.put, List.setIfInBounds_toArray, List.set_cons_zero, List.set_cons_succ]
                    refine wpAnyH_take (i := 10) (oi := ?o90) (v := ?v90) ?h90 (by kernel_rfl) (by kernel_rfl) (by kernel_rfl) ?q90 ?y90 (by assumption) ?r90
                    case h90 => simp only [List.getElem?_toArray, List.getElem?_cons_zero, List.getElem?_cons_succ]; rfl
                    case y90 => (refine Or.inl ⟨by rfl, ?_⟩; intro w hSw; (try dsimp only at hSw); go_simp; (try with_reducible rfl))
                    case q90 => exact fun _ _ _ h => h
                    try simp only [Act.put, List.setIfInBounds_toArray, List.set_cons_zero, List.set_cons_succ]
                    refine wpAnyH_take (i := 11) (oi := ?o91) (v := ?v91) ?h91 (by kernel_rfl) (by kernel_rfl) (by kernel_rfl) ?q91 ?y91 (by assumption) ?r91
                    case h91 => simp only [List.getElem?_toArray, List.getElem?_cons_zero, List.getElem?_cons_succ]; rfl
                    case y91 => (refine Or.inl ⟨by rfl, ?_⟩; intro w hSw; (try dsimp only at hSw); go_simp; (try with_reducible rfl))
                    case q91 => exact fun _ _ _ h => h
                    try simp only [Act.put, List.setIfInBounds_toArray, List.set_cons_zero, List.set_cons_succ]
                    refine wpAnyH_take (i := 12) (oi := ?o92) (v := ?v92) ?h92 (by kernel_rfl) (by kernel_rfl) (by kernel_rfl) ?q92 ?y92 (by assumption) ?r92
                    case h92 => simp only [List.getElem?_toArray, List.getElem?_cons_zero, List.getElem?_cons_succ]; rfl
                    case y92 => (refine Or.inl ⟨by rfl, ?_⟩; intro w hSw; (try dsimp only at hSw); go_simp; (try with_reducible rfl))
                    case q92 => exact fun _ _ _ h => h
                    try simp only [Act.put, List.setIfInBounds_toArray, List.set_cons_zero, List.set_cons_succ]
                    refine wpAnyH_take (i := 13) (oi := ?o93) (v := ?v93) ?h93 (by kernel_rfl) (by kernel_rfl) (by kernel_rfl) ?q93 ?y93 (by assumption) ?r93
                    case h93 => simp only [List.getElem?_toArray, List.getElem?_cons_zero, List.getElem?_cons_succ]; rfl
                    case y93 => (refine Or.inl ⟨by rfl, ?_⟩; intro w hSw; (try dsimp only at hSw); go_simp; (try with_reducible rfl))
                    case q93 => exact fun _ _ _ h => h
                    try simp only [Act.put, List.setIfInBounds_toArray, List.set_cons_zero, List.set_cons_succ]
                    refine wpAnyH_ready (rs := [14]) (by kernel_rfl) (by simp) ?_
                    refine AllReadyH.cons rfl (fun K hK => ?_) ?_
                    · go_simp
                      go_at_call 25; refine (kind_any c _).mono ?_; rintro e w' ⟨rfl, rfl⟩
                      go_wp2_with fail
                      refine hK.out _ _ ⟨(E.out.c m2).c0, (E.out.c m2).c1, (E.out.c m2).c2, (E.out.c m3).c0, (E.out.c m3).c1, (E.out.c m3).c2⟩ (fun hHeld => ?_)
                      clear hK K
                      try simp only [Act.put, List.setIfInBounds_toArray, List.set_cons_zero, List.set_cons_succ]
                      refine wpAnyH_take (i := 15) (oi := ?o94) (v := ?v94) ?h94 (by kernel_rfl) (by kernel_rfl) (by kernel_rfl) ?q94 ?y94 (by assumption) ?r94
                      case h94 => simp only [List.getElem?_toArray, List.getElem?_cons_zero, List.getElem?_cons_succ]; rfl
                      case y94 => (refine Or.inl ⟨by rfl, ?_⟩; intro w hSw; (try dsimp only at hSw); go_simp; (try with_reducible rfl))
                      case q94 => exact fun _ _ _ h => h
                      try simp only [Act.put, List.setIfInBounds_toArray, List.set_cons_zero, List.set_cons_succ]
                      refine wpAnyH_take (i := 16) (oi := ?o95) (v := ?v95) ?h95 (by kernel_rfl) (by kernel_rfl) (by kernel_rfl) ?q95 ?y95 (by assumption) ?r95
                      case h95 => simp only [List.getElem?_toArray, List.getElem?_cons_zero, List.getElem?_cons_succ]; rfl
                      case y95 => (refine Or.inl ⟨by rfl, ?_⟩; intro w hSw; (try dsimp only at hSw); go_simp; (try with_reducible rfl))
                      case q95 => exact fun _ _ _ h => h
                      try simp only [Act.put, List.setIfInBounds_toArray, List.set_cons_zero, List.set_cons_succ]
                      refine wpAnyH_take (i := 17) (oi := ?o96) (v := ?v96) ?h96 (by kernel_rfl) (by kernel_rfl) (by kernel_rfl) ?q96 ?y96 (by assumption) ?r96
                      case h96 => simp only [List.getElem?_toArray, List.getElem?_cons_zero, List.getElem?_cons_succ]; rfl
                      case y96 => (refine Or.inl ⟨by rfl, ?_⟩; intro w hSw; (try dsimp only at hSw); go_simp; (try with_reducible rfl))
                      case q96 => exact fun _ _ _ h => h
                      try simp only [Act.put, List.setIfInBounds_toArray, List.set_cons_zero, List.set_cons_succ]
                      refine wpAnyH_take (i := 18) (oi := ?o97) (v := ?v97) ?h97 (by kernel_rfl) (by kernel_rfl) (by kernel_rfl) ?q97 ?y97 (by assumption) ?r97
                      case h97 => simp only [List.getElem?_toArray, List.getElem?_cons_zero, List.getElem?_cons_succ]; rfl
                      case y97 => (refine Or.inl ⟨by rfl, ?_⟩; intro w hSw; (try dsimp only at hSw); go_simp; (try with_reducible rfl))
                      case q97 => exact fun _ _ _ h => h
                      try simp only [Act.put, List.setIfInBounds_toArray, List.set_cons_zero, List.set_cons_succ]
                      refine wpAnyH_take (i := 19) (oi := ?o98) (v := ?v98) ?h98 (by kernel_rfl) (by kernel_rfl) (by kernel_rfl) ?q98 ?y98 (by assumption) ?r98
                      case h98 => simp only [List.getElem?_toArray, List.getElem?_cons_zero, List.getElem?_cons_succ]; rfl
                      case y98 => (refine Or.inl ⟨by rfl, ?_⟩; intro w hSw; (try dsimp only at hSw); go_simp; (try with_reducible rfl))
                      case q98 => exact fun _ _ _ h => h
                      try simp only [Act.put, List.setIfInBounds_toArray, List.set_cons_zero, List.set_cons_succ]
                      refine wpAnyH_take (i := 20) (oi := ?o99) (v := ?v99) ?h99 (by kernel_rfl) (by kernel_rfl) (by kernel_rfl) ?q99 ?y99 (by assumption) ?r99
                      case h99 => simp only [List.getElem?_toArray, List.getElem?_cons_zero, List.getElem?_cons_succ]; rfl
                      case y99 => (refine Or.inl ⟨by rfl, ?_⟩; intro w hSw; (try dsimp only at hSw); go_simp; (try with_reducible rfl))
                      case q99 => exact fun _ _ _ h => h
                      try simp only [Act.put, List.setIfInBounds_toArray, List.set_cons_zero, List.set_cons_succ]
                      refine wpAnyH_take (i := 21) (oi := ?o100) (v := ?v100) ?h100 (by kernel_rfl) (by kernel_rfl) (by kernel_rfl) ?q100 ?y100 (by assumption) ?r100
                      case h100 => simp only [List.getElem?_toArray, List.getElem?_cons_zero, List.getElem?_cons_succ]; rfl
                      case y100 => (refine Or.inl ⟨by rfl, ?_⟩; intro w hSw; (try dsimp only at hSw); go_simp; (try with_reducible rfl))
                      case q100 => exact fun _ _ _ h => h
                      try simp only [Act.put, List.setIfInBounds_toArray, List.set_cons_zero, List.set_cons_succ]
                      refine wpAnyH_take (i := 22) (oi := ?o101) (v := ?v101) ?h101 (by kernel_rfl) (by kernel_rfl) (by kernel_rfl) ?q101 ?y101 (by assumption) ?r101
                      case h101 => simp only [List.getElem?_toArray, List.getElem?_cons_zero, List.getElem?_cons_succ]; rfl
                      case y101 => (refine Or.inl ⟨by rfl, ?_⟩; intro w hSw; (try dsimp only at hSw); go_simp; (try with_reducible rfl))
                      case q101 => exact fun _ _ _ h => h
                      try simp only [Act.put, List.setIfInBounds_toArray, List.set_cons_zero, List.set_cons_succ]
                      refine wpAnyH_take (i := 23) (oi := ?o102) (v := ?v102) ?h102 (by kernel_rfl) (by kernel_rfl) (by kernel_rfl) ?q102 ?y102 (by assumption) ?r102
                      case h102 => simp only [List.getElem?_toArray, List.getElem?_cons_zero, List.getElem?_cons_succ]; rfl
                      case y102 => (refine Or.inl ⟨by rfl, ?_⟩; intro w hSw; (try dsimp only at hSw); go_simp; (try with_reducible rfl))
                      case q102 => exact fun _ _ _ h => h
                      try simp only [Act.put, List.setIfInBounds_toArray, List.set_cons_zero, List.set_cons_succ]
                      refine wpAnyH_take (i := 24) (oi := ?o103) (v := ?v103) ?h103 (by kernel_rfl) (by kernel_rfl) (by kernel_rfl) ?q103 ?y103 (by assumption) ?r103
                      case h103 => simp only [List.getElem?_toArray, List.getElem?_cons_zero, List.getElem?_cons_succ]; rfl
                      case y103 => (refine Or.inl ⟨by rfl, ?_⟩; intro w hSw; (try dsimp only at hSw); go_simp; (try with_reducible rfl))
                      case q103 => exact fun _ _ _ h => h
                      try simp only [Act.put, List.setIfInBounds_toArray, List.set_cons_zero, List.set_cons_succ]
                      refine wpAnyH_take (i := 25) (oi := ?o104) (v := ?v104) ?h104 (by kernel_rfl) (by kernel_rfl) (by kernel_rfl) ?q104 ?y104 (by assumption) ?r104
                      case h104 => simp only [List.getElem?_toArray, List.getElem?_cons_zero, List.getElem?_cons_succ]; rfl
                      case y104 => (refine Or.inl ⟨by rfl, ?_⟩; intro w hSw; (try dsimp only at hSw); go_simp; (try with_reducible rfl))
                      case q104 => exact fun _ _ _ h => h
                      try simp only [Act.put, List.setIfInBounds_toArray, List.set_cons_zero, List.set_cons_succ]
                      refine wpAnyH_take (i := 26) (oi := ?o105) (v := ?v105) ?h105 (by kernel_rfl) (by kernel_rfl) (by kernel_rfl) ?q105 ?y105 (by assumption) ?r105
                      case h105 => simp only [List.getElem?_toArray, List.getElem?_cons_zero, List.getElem?_cons_succ]; rfl
                      case y105 => (refine Or.inl ⟨by rfl, ?_⟩; intro w hSw; (try dsimp only at hSw); go_simp; (try with_reducible rfl))
                      case q105 => exact fun _ _ _ h => h
                      try simp only [Act.put, List.setIfInBounds_toArray, List.set_cons_zero, List.set_cons_succ]
                      refine wpAnyH_take (i := 27) (oi := ?o106) (v := ?v106) ?h106 (by kernel_rfl) (by kernel_rfl) (by kernel_rfl) ?q106 ?y106 (by assumption) ?r106
                      case h106 => simp only [List.getElem?_toArray, List.getElem?_cons_zero, List.getElem?_cons_succ]; rfl
                      case y106 => (refine Or.inl ⟨by rfl, ?_⟩; intro w hSw; (try dsimp only at hSw); go_simp; (try with_reducible rfl))
                      case q106 => exact fun _ _ _ h => h
                      try simp only [Act.put, List.setIfInBounds_toArray, List.set_cons_zero, List.set_cons_succ]
                      refine wpAnyH_done (by kernel_rfl) ?_ _
                      all_goals go_wp2_with fail
                      go_meet
                      exact ⟨rfl, Lib.hid (E.out.mono (by omega))⟩
                    exact AllReadyH.nil
                  exact AllReadyH.nil
              · replace hc6 : (c == 6) = false := by simpa using hc6
                as_aux_lemma =>
                  have HV : Hid ((storeS S c 4 U 1 k' n' b').1 = false) := Lib.hid (HA.out false (by rw [← HT.out]; simp [fitsL, *]))
                  refine wp_region_held_drew (S := (fun w' => w'.cell? ⟨P, 0, none⟩ = some (.int .i64 4) ∧ w'.cell? ⟨P, 1, none⟩ = some (.int .u64 U) ∧ w'.cell? ⟨P, 2, none⟩ = some (.int .i64 1) ∧ w'.cell? ⟨X, 0, none⟩ = some (.int .i64 k') ∧ w'.cell? ⟨X, 1, none⟩ = some (.int .u64 n') ∧ w'.cell? ⟨X, 2, none⟩ = some (.int .i64 b'))) (by kernel_rfl) ⟨(E.out.c m2).c0, (E.out.c m2).c1, (E.out.c m2).c2, (E.out.c m3).c0, (E.out.c m3).c1, (E.out.c m3).c2⟩ (fun hHeld => ?_)
                  refine wpAnyH_take (i := 0) (oi := ?o107) (v := ?v107) ?h107 (by kernel_rfl) (by kernel_rfl) (by kernel_rfl) ?q107 ?y107 (by assumption) ?r107
                  case h107 => simp only [List.getElem?_toArray, List.getElem?_cons_zero, List.getElem?_cons_succ]; rfl
                  case y107 => (refine Or.inl ⟨by rfl, ?_⟩; intro w hSw; (try dsimp only at hSw); go_simp; (try with_reducible rfl))
                  case q107 => exact fun _ _ _ h => h
                  try simp only [Act.put, List.setIfInBounds_toArray, List.set_cons_zero, List.set_cons_succ]
                  refine wpAnyH_take (i := 1) (oi := ?o108) (v := ?v108) ?h108 (by kernel_rfl) (by kernel_rfl) (by kernel_rfl) ?q108 ?y108 (by assumption) ?r108
                  case h108 => simp only [List.getElem?_toArray, List.getElem?_cons_zero, List.getElem?_cons_succ]; rfl
                  case y108 => (refine Or.inl ⟨by rfl, ?_⟩; intro w hSw; (try dsimp only at hSw); go_simp; (try with_reducible rfl))
                  case q108 => exact fun _ _ _ h => h
                  try simp only [Act.put, List.setIfInBounds_toArray, List.set_cons_zero, List.set_cons_succ]
                  refine wpAnyH_take (i := 2) (oi := ?o109) (v := ?v109) ?h109 (by kernel_rfl) (by kernel_rfl) (by kernel_rfl) ?q109 ?y109 (by assumption) ?r109
                  case h109 => simp only [List.getElem?_toArray, List.getElem?_cons_zero, List.getElem?_cons_succ]; rfl
                  case y109 => (refine Or.inl ⟨by rfl, ?_⟩; intro w hSw; (try dsimp only at hSw); go_simp; (try with_reducible rfl))
                  case q109 => exact fun _ _ _ h => h
                  try simp only [Act.put, List.setIfInBounds_toArray, List.set_cons_zero, List.set_cons_succ]
                  refine wpAnyH_take (i := 3) (oi := ?o110) (v := ?v110) ?h110 (by kernel_rfl) (by kernel_rfl) (by kernel_rfl) ?q110 ?y110 (by assumption) ?r110
                  case h110 => simp only [List.getElem?_toArray, List.getElem?_cons_zero, List.getElem?_cons_succ]; rfl
                  case y110 => (refine Or.inl ⟨by rfl, ?_⟩; intro w hSw; (try dsimp only at hSw); go_simp; (try with_reducible rfl))
                  case q110 => exact fun _ _ _ h => h
                  try simp only [Act.put, List.setIfInBounds_toArray, List.set_cons_zero, List.set_cons_succ]
                  refine wpAnyH_take (i := 5) (oi := ?o111) (v := ?v111) ?h111 (by kernel_rfl) (by kernel_rfl) (by kernel_rfl) ?q111 ?y111 (by assumption) ?r111
                  case h111 => simp only [List.getElem?_toArray, List.getElem?_cons_zero, List.getElem?_cons_succ]; rfl
                  case y111 => (refine Or.inl ⟨by rfl, ?_⟩; intro w hSw; (try dsimp only at hSw); go_simp; (try with_reducible rfl))
                  case q111 => exact fun _ _ _ h => h
                  try simp only [Act.put, List.setIfInBounds_toArray, List.set_cons_zero, List.set_cons_succ]
                  refine wpAnyH_ready (rs := [4]) (by kernel_rfl) (by simp) ?_
                  refine AllReadyH.cons rfl (fun K hK => ?_) ?_
                  · go_simp
                    go_at_call 17; refine (E.out.store (by unfold maxLen; omega) _ _ _ _ _ _ _ k1 HX.out.1 false HV.out).mono ?_; rintro e w9 ⟨rfl, E9⟩; have E := Lib.hid E9
                    go_wp2_with fail
                    refine hK.out _ _ ⟨(E.out.c m2).c0, (E.out.c m2).c1, (E.out.c m2).c2, (E.out.c m3).c0, (E.out.c m3).c1, (E.out.c m3).c2⟩ (fun hHeld => ?_)
                    clear hK K
                    try simp only [Act.put, List.setIfInBounds_toArray, List.set_cons_zero, List.set_cons_succ]
                    refine wpAnyH_take (i := 6) (oi := ?o112) (v := ?v112) ?h112 (by kernel_rfl) (by kernel_rfl) (by kernel_rfl) ?q112 ?y112 (by assumption) ?r112
                    case h112 => simp only [List.getElem?_toArray, List.getElem?_cons_zero, List.getElem?_cons_succ]; rfl
                    case y112 => (refine Or.inl ⟨by rfl, ?_⟩; intro w hSw; (try dsimp only at hSw); go_simp; (try with_reducible rfl))
                    case q112 => exact fun _ _ _ h => h
                    try simp only [Act.put, List.setIfInBounds_toArray, List.set_cons_zero, List.set_cons_succ]
                    refine wpAnyH_take (i := 7) (oi := ?o113) (v := ?v113) ?h113 (by kernel_rfl) (by kernel_rfl) (by kernel_rfl) ?q113 ?y113 (by assumption) ?r113
                    case h113 => simp only [List.getElem?_toArray, List.getElem?_cons_zero, List.getElem?_cons_succ]; rfl
                    case y113 => (refine Or.inl ⟨by rfl, ?_⟩; intro w hSw; (try dsimp only at hSw); go_simp; (try with_reducible rfl))
                    case q113 => exact fun _ _ _ h => h
                    try simp only [Act.put, List.setIfInBounds_toArray, List.set_cons_zero, List.set_cons_succ]
                    refine wpAnyH_take (i := 8) (oi := ?o114) (v := ?v114) ?h114 (by kernel_rfl) (by kernel_rfl) (by kernel_rfl) ?q114 ?y114 (by assumption) ?r114
                    case h114 => simp only [List.getElem?_toArray, List.getElem?_cons_zero, List.getElem?_cons_succ]; rfl
                    case y114 => (refine Or.inl ⟨by rfl, ?_⟩; intro w hSw; (try dsimp only at hSw); go_simp; (try with_reducible rfl))
                    case q114 => exact fun _ _ _ h => h
                    try simp only [Act.put, List.setIfInBounds_toArray, List.set_cons_zero, List.set_cons_succ]
                    refine wpAnyH_take (i := 9) (oi := ?o115) (v := ?v115) ?h115 (by kernel_rfl) (by kernel_rfl) (by kernel_rfl) ?q115 ?y115 (by assumption) ?r115
                    case h115 => simp only [List.getElem?_toArray, List.getElem?_cons_zero, List.getElem?_cons_succ]; rfl
                    case y115 => (refine Or.inl ⟨by rfl, ?_⟩; intro w hSw; (try dsimp only at hSw); go_simp; (try with_reducible rfl))
                    case q115 => exact fun _ _ _ h => h
                    try simp only [Act.put, List.setIfInBounds_toArray, List.set_cons_zero, List.set_cons_succ]
                    refine wpAnyH_take (i := 10) (oi := ?o116) (v := ?v116) ?h116 (by kernel_rfl) (by kernel_rfl) (by kernel_rfl) ?q116 ?y116 (by assumption) ?r116
                    case h116 => simp only [List.getElem?_toArray, List.getElem?_cons_zero, List.getElem?_cons_succ]; rfl
                    case y116 => (refine Or.inl ⟨by rfl, ?_⟩; intro w hSw; (try dsimp only at hSw); go_simp; (try with_reducible rfl))
                    case q116 => exact fun _ _ _ h => h
                    try simp only [Act.put, List.setIfInBounds_toArray, List.set_cons_zero, List.set_cons_succ]
                    refine wpAnyH_take (i := 11) (oi := ?o117) (v := ?v117) ?h117 (by kernel_rfl) (by kernel_rfl) (by kernel_rfl) ?q117 ?y117 (by assumption) ?r117
                    case h117 => simp only [List.getElem?_toArray, List.getElem?_cons_zero, List.getElem?_cons_succ]; rfl
                    case y117 => (refine Or.inl ⟨by rfl, ?_⟩; intro w hSw; (try dsimp only at hSw); go_simp; (try with_reducible rfl))
                    case q117 => exact fun _ _ _ h => h
                    try simp only [Act.put, List.setIfInBounds_toArray, List.set_cons_zero, List.set_cons_succ]
                    refine wpAnyH_take (i := 12) (oi := ?o118) (v := ?v118) ?h118 (by kernel_rfl) (by kernel_rfl) (by kernel_rfl) ?q118 ?y118 (by assumption) ?r118
                    case h118 => simp only [List.getElem?_toArray, List.getElem?_cons_zero, List.getElem?_cons_succ]; rfl
                    case y118 => (refine Or.inl ⟨by rfl, ?_⟩; intro w hSw; (try dsimp only at hSw); go_simp; (try with_reducible rfl))
                    case q118 => exact fun _ _ _ h => h
                    try simp only [Act.put, List.setIfInBounds_toArray, List.set_cons_zero, List.set_cons_succ]
                    refine wpAnyH_take (i := 13) (oi := ?o119) (v := ?v119) ?h119 (by kernel_rfl) (by kernel_rfl) (by kernel_rfl) ?q119 ?y119 (by assumption) ?r119
                    case h119 => simp only [List.getElem?_toArray, List.getElem?_cons_zero, List.getElem?_cons_succ]; rfl
                    case y119 => (refine Or.inl ⟨by rfl, ?_⟩; intro w hSw; (try dsimp only at hSw); go_simp; (try with_reducible rfl))
                    case q119 => exact fun _ _ _ h => h
                    try simp only [Act.put, List.setIfInBounds_toArray, List.set_cons_zero, List.set_cons_succ]
                    refine wpAnyH_ready (rs := [14]) (by kernel_rfl) (by simp) ?_
                    refine AllReadyH.cons rfl (fun K hK => ?_) ?_
                    · go_simp
                      go_at_call 25; refine (kind_any c _).mono ?_; rintro e w' ⟨rfl, rfl⟩
                      go_wp2_with fail
                      refine hK.out _ _ ⟨(E.out.c m2).c0, (E.out.c m2).c1, (E.out.c m2).c2, (E.out.c m3).c0, (E.out.c m3).c1, (E.out.c m3).c2⟩ (fun hHeld => ?_)
                      clear hK K
                      try simp only [Act.put, List.setIfInBounds_toArray, List.set_cons_zero, List.set_cons_succ]
                      refine wpAnyH_take (i := 15) (oi := ?o120) (v := ?v120) ?h120 (by kernel_rfl) (by kernel_rfl) (by kernel_rfl) ?q120 ?y120 (by assumption) ?r120
                      case h120 => simp only [List.getElem?_toArray, List.getElem?_cons_zero, List.getElem?_cons_succ]; rfl
                      case y120 => (refine Or.inl ⟨by rfl, ?_⟩; intro w hSw; (try dsimp only at hSw); go_simp; (try with_reducible rfl))
                      case q120 => exact fun _ _ _ h => h
                      try simp only [Act.put, List.setIfInBounds_toArray, List.set_cons_zero, List.set_cons_succ]
                      refine wpAnyH_take (i := 16) (oi := ?o121) (v := ?v121) ?h121 (by kernel_rfl) (by kernel_rfl) (by kernel_rfl) ?q121 ?y121 (by assumption) ?r121
                      case h121 => simp only [List.getElem?_toArray, List.getElem?_cons_zero, List.getElem?_cons_succ]; rfl
                      case y121 => (refine Or.inl ⟨by rfl, ?_⟩; intro w hSw; (try dsimp only at hSw); go_simp; (try with_reducible rfl))
                      case q121 => exact fun _ _ _ h => h
                      try simp only [Act.put, List.setIfInBounds_toArray, List.set_cons_zero, List.set_cons_succ]
                      refine wpAnyH_take (i := 17) (oi := ?o122) (v := ?v122) ?h122 (by kernel_rfl) (by kernel_rfl) (by kernel_rfl) ?q122 ?y122 (by assumption) ?r122
                      case h122 => simp only [List.getElem?_toArray, List.getElem?_cons_zero, List.getElem?_cons_succ]; rfl
                      case y122 => (refine Or.inl ⟨by rfl, ?_⟩; intro w hSw; (try dsimp only at hSw); go_simp; (try with_reducible rfl))
                      case q122 => exact fun _ _ _ h => h
                      try simp only [Act.put, List.setIfInBounds_toArray, List.set_cons_zero, List.set_cons_succ]
                      refine wpAnyH_take (i := 18) (oi := ?o123) (v := ?v123) ?h123 (by kernel_rfl) (by kernel_rfl) (by kernel_rfl) ?q123 ?y123 (by assumption) ?r123
                      case h123 => simp only [List.getElem?_toArray, List.getElem?_cons_zero, List.getElem?_cons_succ]; rfl
                      case y123 => (refine Or.inl ⟨by rfl, ?_⟩; intro w hSw; (try dsimp only at hSw); go_simp; (try with_reducible rfl))
                      case q123 => exact fun _ _ _ h => h
                      try simp only [Act.put, List.setIfInBounds_toArray, List.set_cons_zero, List.set_cons_succ]
                      refine wpAnyH_take (i := 19) (oi := ?o124) (v := ?v124) ?h124 (by kernel_rfl) (by kernel_rfl) (by kernel_rfl) ?q124 ?y124 (by assumption) ?r124
                      case h124 => simp only [List.getElem?_toArray, List.getElem?_cons_zero, List.getElem?_cons_succ]; rfl
                      case y124 => (refine Or.inl ⟨by rfl, ?_⟩; intro w hSw; (try dsimp only at hSw); go_simp; (try with_reducible rfl))
                      case q124 => exact fun _ _ _ h => h
                      try simp only [Act.put, List.setIfInBounds_toArray, List.set_cons_zero, List.set_cons_succ]
                      refine wpAnyH_take (i := 20) (oi := ?o125) (v := ?v125) ?h125 (by kernel_rfl) (by kernel_rfl) (by kernel_rfl) ?q125 ?y125 (by assumption) ?r125
                      case h125 => simp only [List.getElem?_toArray, List.getElem?_cons_zero, List.getElem?_cons_succ]; rfl
                      case y125 => (refine Or.inl ⟨by rfl, ?_⟩; intro w hSw; (try dsimp only at hSw); go_simp; (try with_reducible rfl))
                      case q125 => exact fun _ _ _ h => h
                      try simp only [Act.put, List.setIfInBounds_toArray, List.set_cons_zero, List.set_cons_succ]
                      refine wpAnyH_take (i := 21) (oi := ?o126) (v := ?v126) ?h126 (by kernel_rfl) (by kernel_rfl) (by kernel_rfl) ?q126 ?y126 (by assumption) ?r126
                      case h126 => simp only [List.getElem?_toArray, List.getElem?_cons_zero, List.getElem?_cons_succ]; rfl
                      case y126 => (refine Or.inl ⟨by rfl, ?_⟩; intro w hSw; (try dsimp only at hSw); go_simp; (try with_reducible rfl))
                      case q126 => exact fun _ _ _ h => h
                      try simp only [Act.put, List.setIfInBounds_toArray, List.set_cons_zero, List.set_cons_succ]
                      refine wpAnyH_take (i := 22) (oi := ?o127) (v := ?v127) ?h127 (by kernel_rfl) (by kernel_rfl) (by kernel_rfl) ?q127 ?y127 (by assumption) ?r127
                      case h127 => simp only [List.getElem?_toArray, List.getElem?_cons_zero, List.getElem?_cons_succ]; rfl
                      case y127 => (refine Or.inl ⟨by rfl, ?_⟩; intro w hSw; (try dsimp only at hSw); go_simp; (try with_reducible rfl))
                      case q127 => exact fun _ _ _ h => h
                      try simp only [Act.put, List.setIfInBounds_toArray, List.set_cons_zero, List.set_cons_succ]
                      refine wpAnyH_take (i := 23) (oi := ?o128) (v := ?v128) ?h128 (by kernel_rfl) (by kernel_rfl) (by kernel_rfl) ?q128 ?y128 (by assumption) ?r128
                      case h128 => simp only [List.getElem?_toArray, List.getElem?_cons_zero, List.getElem?_cons_succ]; rfl
                      case y128 => (refine Or.inl ⟨by rfl, ?_⟩; intro w hSw; (try dsimp only at hSw); go_simp; (try with_reducible rfl))
                      case q128 => exact fun _ _ _ h => h
                      try simp only [Act.put, List.setIfInBounds_toArray, List.set_cons_zero, List.set_cons_succ]
                      refine wpAnyH_take (i := 24) (oi := ?o129) (v := ?v129) ?h129 (by kernel_rfl) (by kernel_rfl) (by kernel_rfl) ?q129 ?y129 (by assumption) ?r129
                      case h129 => simp only [List.getElem?_toArray, List.getElem?_cons_zero, List.getElem?_cons_succ]; rfl
                      case y129 => (refine Or.inl ⟨by rfl, ?_⟩; intro w hSw; (try dsimp only at hSw); go_simp; (try with_reducible rfl))
                      case q129 => exact fun _ _ _ h => h
                      try simp only [Act.put, List.setIfInBounds_toArray, List.set_cons_zero, List.set_cons_succ]
                      refine wpAnyH_take (i := 25) (oi := ?o130) (v := ?v130) ?h130 (by kernel_rfl) (by kernel_rfl) (by kernel_rfl) ?q130 ?y130 (by assumption) ?r130
                      case h130 => simp only [List.getElem?_toArray, List.getElem?_cons_zero, List.getElem?_cons_succ]; rfl
                      case y130 => (refine Or.inl ⟨by rfl, ?_⟩; intro w hSw; (try dsimp only at hSw); go_simp; (try with_reducible rfl))
                      case q130 => exact fun _ _ _ h => h
                      try simp only [Act.put, List.setIfInBounds_toArray, List.set_cons_zero, List.set_cons_succ]
                      refine wpAnyH_take (i := 26) (oi := ?o131) (v := ?v131) ?h131 (by kernel_rfl) (by kernel_rfl) (by kernel_rfl) ?q131 ?y131 (by assumption) ?r131
                      case h131 => simp only [List.getElem?_toArray, List.getElem?_cons_zero, List.getElem?_cons_succ]; rfl
                      case y131 => (refine Or.inl ⟨by rfl, ?_⟩; intro w hSw; (try dsimp only at hSw); go_simp; (try with_reducible rfl))
                      case q131 => exact fun _ _ _ h => h
                      try simp only [Act.put, List.setIfInBounds_toArray, List.set_cons_zero, List.set_cons_succ]
                      refine wpAnyH_take (i := 27) (oi := ?o132) (v := ?v132) ?h132 (by kernel_rfl) (by kernel_rfl) (by kernel_rfl) ?q132 ?y132 (by assumption) ?r132
                      case h132 => simp only [List.getElem?_toArray, List.getElem?_cons_zero, List.getElem?_cons_succ]; rfl
                      case y132 => (refine Or.inl ⟨by rfl, ?_⟩; intro w hSw; (try dsimp only at hSw); go_simp; (try with_reducible rfl))
                      case q132 => exact fun _ _ _ h => h
                      try simp only [Act.put, List.setIfInBounds_toArray, List.set_cons_zero, List.set_cons_succ]
                      refine wpAnyH_done (by kernel_rfl) ?_ _
                      all_goals go_wp2_with fail
                      go_meet
                      exact ⟨rfl, Lib.hid (E.out.mono (by omega))⟩
                    exact AllReadyH.nil
                  exact AllReadyH.nil
            · replace hk4 : (k' == 4) = false := by simpa using hk4
              as_aux_lemma =>
                have HV : Hid ((storeS S c 4 U 1 k' n' b').1 = false) := Lib.hid (HA.out false (by rw [← HT.out]; simp [fitsL, *]))
                refine wp_region_held_drew (S := (fun w' => w'.cell? ⟨P, 0, none⟩ = some (.int .i64 4) ∧ w'.cell? ⟨P, 1, none⟩ = some (.int .u64 U) ∧ w'.cell? ⟨P, 2, none⟩ = some (.int .i64 1) ∧ w'.cell? ⟨X, 0, none⟩ = some (.int .i64 k') ∧ w'.cell? ⟨X, 1, none⟩ = some (.int .u64 n') ∧ w'.cell? ⟨X, 2, none⟩ = some (.int .i64 b'))) (by kernel_rfl) ⟨(E.out.c m2).c0, (E.out.c m2).c1, (E.out.c m2).c2, (E.out.c m3).c0, (E.out.c m3).c1, (E.out.c m3).c2⟩ (fun hHeld => ?_)
                refine wpAnyH_take (i := 0) (oi := ?o133) (v := ?v133) ?h133 (by kernel_rfl) (by kernel_rfl) (by kernel_rfl) ?q133 ?y133 (by assumption) ?r133
                case h133 => simp only [List.getElem?_toArray, List.getElem?_cons_zero, List.getElem?_cons_succ]; rfl
                case y133 => (refine Or.inl ⟨by rfl, ?_⟩; intro w hSw; (try dsimp only at hSw); go_simp; (try with_reducible rfl))
                case q133 => exact fun _ _ _ h => h
                try simp only [Act.put, List.setIfInBounds_toArray, List.set_cons_zero, List.set_cons_succ]
                refine wpAnyH_take (i := 1) (oi := ?o134) (v := ?v134) ?h134 (by kernel_rfl) (by kernel_rfl) (by kernel_rfl) ?q134 ?y134 (by assumption) ?r134
                case h134 => simp only [List.getElem?_toArray, List.getElem?_cons_zero, List.getElem?_cons_succ]; rfl
                case y134 => (refine Or.inl ⟨by rfl, ?_⟩; intro w hSw; (try dsimp only at hSw); go_simp; (try with_reducible rfl))
                case q134 => exact fun _ _ _ h => h
                try simp only [Act.put, List.setIfInBounds_toArray, List.set_cons_zero, List.set_cons_succ]
                refine wpAnyH_take (i := 2) (oi := ?o135) (v := ?v135) ?h135 (by kernel_rfl) (by kernel_rfl) (by kernel_rfl) ?q135 ?y135 (by assumption) ?r135
                case h135 => simp only [List.getElem?_toArray, List.getElem?_cons_zero, List.getElem?_cons_succ]; rfl
                case y135 => (refine Or.inl ⟨by rfl, ?_⟩; intro w hSw; (try dsimp only at hSw); go_simp; (try with_reducible rfl))
                case q135 => exact fun _ _ _ h => h
                try simp only [Act.put, List.setIfInBounds_toArray, List.set_cons_zero, List.set_cons_succ]
                refine wpAnyH_take (i := 3) (oi := ?o136) (v := ?v136) ?h136 (by kernel_rfl) (by kernel_rfl) (by kernel_rfl) ?q136 ?y136 (by assumption) ?r136
                case h136 => simp only [List.getElem?_toArray, List.getElem?_cons_zero, List.getElem?_cons_succ]; rfl
                case y136 => (refine Or.inl ⟨by rfl, ?_⟩; intro w hSw; (try dsimp only at hSw); go_simp; (try with_reducible rfl))
                case q136 => exact fun _ _ _ h => h
                try simp only [Act.put, List.setIfInBounds_toArray, List.set_cons_zero, List.set_cons_succ]
                refine wpAnyH_take (i := 5) (oi := ?o137) (v := ?v137) ?h137 (by kernel_rfl) (by kernel_rfl) (by kernel_rfl) ?q137 ?y137 (by assumption) ?r137
                case h137 => simp only [List.getElem?_toArray, List.getElem?_cons_zero, List.getElem?_cons_succ]; rfl
                case y137 => (refine Or.inl ⟨by rfl, ?_⟩; intro w hSw; (try dsimp only at hSw); go_simp; (try with_reducible rfl))
                case q137 => exact fun _ _ _ h => h
                try simp only [Act.put, List.setIfInBounds_toArray, List.set_cons_zero, List.set_cons_succ]
                refine wpAnyH_ready (rs := [4]) (by kernel_rfl) (by simp) ?_
                refine AllReadyH.cons rfl (fun K hK => ?_) ?_
                · go_simp
                  go_at_call 17; refine (E.out.store (by unfold maxLen; omega) _ _ _ _ _ _ _ k1 HX.out.1 false HV.out).mono ?_; rintro e w9 ⟨rfl, E9⟩; have E := Lib.hid E9
                  go_wp2_with fail
                  refine hK.out _ _ ⟨(E.out.c m2).c0, (E.out.c m2).c1, (E.out.c m2).c2, (E.out.c m3).c0, (E.out.c m3).c1, (E.out.c m3).c2⟩ (fun hHeld => ?_)
                  clear hK K
                  try simp only [Act.put, List.setIfInBounds_toArray, List.set_cons_zero, List.set_cons_succ]
                  refine wpAnyH_take (i := 6) (oi := ?o138) (v := ?v138) ?h138 (by kernel_rfl) (by kernel_rfl) (by kernel_rfl) ?q138 ?y138 (by assumption) ?r138
                  case h138 => simp only [List.getElem?_toArray, List.getElem?_cons_zero, List.getElem?_cons_succ]; rfl
                  case y138 => (refine Or.inl ⟨by rfl, ?_⟩; intro w hSw; (try dsimp only at hSw); go_simp; (try with_reducible rfl))
                  case q138 => exact fun _ _ _ h => h
                  try simp only [Act.put, List.setIfInBounds_toArray, List.set_cons_zero, List.set_cons_succ]
                  refine wpAnyH_take (i := 7) (oi := ?o139) (v := ?v139) ?h139 (by kernel_rfl) (by kernel_rfl) (by kernel_rfl) ?q139 ?y139 (by assumption) ?r139
                  case h139 => simp only [List.getElem?_toArray, List.getElem?_cons_zero, List.getElem?_cons_succ]; rfl
                  case y139 => (refine Or.inl ⟨by rfl, ?_⟩; intro w hSw; (try dsimp only at hSw); go_simp; (try with_reducible rfl))
                  case q139 => exact fun _ _ _ h => h
                  try simp only [Act.put, List.setIfInBounds_toArray, List.set_cons_zero, List.set_cons_succ]
                  refine wpAnyH_take (i := 8) (oi := ?o140) (v := ?v140) ?h140 (by kernel_rfl) (by kernel_rfl) (by kernel_rfl) ?q140 ?y140 (by assumption) ?r140
                  case h140 => simp only [List.getElem?_toArray, List.getElem?_cons_zero, List.getElem?_cons_succ]; rfl
                  case y140 => (refine Or.inl ⟨by rfl, ?_⟩; intro w hSw; (try dsimp only at hSw); go_simp; (try with_reducible rfl))
                  case q140 => exact fun _ _ _ h => h
                  try simp only [Act.put, List.setIfInBounds_toArray, List.set_cons_zero, List.set_cons_succ]
                  refine wpAnyH_take (i := 9) (oi := ?o141) (v := ?v141) ?h141 (by kernel_rfl) (by kernel_rfl) (by kernel_rfl) ?q141 ?y141 (by assumption) ?r141
                  case h141 => simp only [List.getElem?_toArray, List.getElem?_cons_zero, List.getElem?_cons_succ]; rfl
                  case y141 => (refine Or.inl ⟨by rfl, ?_⟩; intro w hSw; (try dsimp only at hSw); go_simp; (try with_reducible rfl))
                  case q141 => exact fun _ _ _ h => h
                  try simp only [Act.put, List.setIfInBounds_toArray, List.set_cons_zero, List.set_cons_succ]
                  refine wpAnyH_take (i := 10) (oi := ?o142) (v := ?v142) ?h142 (by kernel_rfl) (by kernel_rfl) (by kernel_rfl) ?q142 ?y142 (by assumption) ?r142
                  case h142 => simp only [List.getElem?_toArray, List.getElem?_cons_zero, List.getElem?_cons_succ]; rfl
                  case y142 => (refine Or.inl ⟨by rfl, ?_⟩; intro w hSw; (try dsimp only at hSw); go_simp; (try with_reducible rfl))
                  case q142 => exact fun _ _ _ h => h
                  try simp only [Act.put, List.setIfInBounds_toArray, List.set_cons_zero, List.set_cons_succ]
                  refine wpAnyH_take (i := 11) (oi := ?o143) (v := ?v143) ?h143 (by kernel_rfl) (by kernel_rfl) (by kernel_rfl) ?q143 ?y143 (by assumption) ?r143
                  case h143 => simp only [List.getElem?_toArray, List.getElem?_cons_zero, List.getElem?_cons_succ]; rfl
                  case y143 => (refine Or.inl ⟨by rfl, ?_⟩; intro w hSw; (try dsimp only at hSw); go_simp; (try with_reducible rfl))
                  case q143 => exact fun _ _ _ h => h
                  try simp only [Act.put, List.setIfInBounds_toArray, List.set_cons_zero, List.set_cons_succ]
                  refine wpAnyH_take (i := 12) (oi := ?o144) (v := ?v144) ?h144 (by kernel_rfl) (by kernel_rfl) (by kernel_rfl) ?q144 ?y144 (by assumption) ?r144
                  case h144 => simp only [List.getElem?_toArray, List.getElem?_cons_zero, List.getElem?_cons_succ]; rfl
                  case y144 => (refine Or.inl ⟨by rfl, ?_⟩; intro w hSw; (try dsimp only at hSw); go_simp; (try with_reducible rfl))
                  case q144 => exact fun _ _ _ h => h
                  try simp only [Act.put, List.setIfInBounds_toArray, List.set_cons_zero, List.set_cons_succ]
                  refine wpAnyH_take (i := 13) (oi := ?o145) (v := ?v145) ?h145 (by kernel_rfl) (by kernel_rfl) (by kernel_rfl) ?q145 ?y145 (by assumption) ?r145
                  case h145 => simp only [List.getElem?_toArray, List.getElem?_cons_zero, List.getElem?_cons_succ]; rfl
                  case y145 => (refine Or.inl ⟨by rfl, ?_⟩; intro w hSw; (try dsimp only at hSw); go_simp; (try with_reducible rfl))
                  case q145 => exact fun _ _ _ h => h
                  try simp only [Act.put, List.setIfInBounds_toArray, List.set_cons_zero, List.set_cons_succ]
                  refine wpAnyH_ready (rs := [14]) (by kernel_rfl) (by simp) ?_
                  refine AllReadyH.cons rfl (fun K hK => ?_) ?_
                  · go_simp
                    go_at_call 25; refine (kind_any c _).mono ?_; rintro e w' ⟨rfl, rfl⟩
                    go_wp2_with fail
                    refine hK.out _ _ ⟨(E.out.c m2).c0, (E.out.c m2).c1, (E.out.c m2).c2, (E.out.c m3).c0, (E.out.c m3).c1, (E.out.c m3).c2⟩ (fun hHeld => ?_)
                    clear hK K
                    try simp only [Act.put, List.setIfInBounds_toArray, List.set_cons_zero, List.set_cons_succ]
                    refine wpAnyH_take (i := 15) (oi := ?o146) (v := ?v146) ?h146 (by kernel_rfl) (by kernel_rfl) (by kernel_rfl) ?q146 ?y146 (by assumption) ?r146
                    case h146 => simp only [List.getElem?_toArray, List.getElem?_cons_zero, List.getElem?_cons_succ]; rfl
                    case y146 => (refine Or.inl ⟨by rfl, ?_⟩; intro w hSw; (try dsimp only at hSw); go_simp; (try with_reducible rfl))
                    case q146 => exact fun _ _ _ h => h
                    try simp only [Act.put, List.setIfInBounds_toArray, List.set_cons_zero, List.set_cons_succ]
                    refine wpAnyH_take (i := 16) (oi := ?o147) (v := ?v147) ?h147 (by kernel_rfl) (by kernel_rfl) (by kernel_rfl) ?q147 ?y147 (by assumption) ?r147
                    case h147 => simp only [List.getElem?_toArray, List.getElem?_cons_zero, List.getElem?_cons_succ]; rfl
                    case y147 => (refine Or.inl ⟨by rfl, ?_⟩; intro w hSw; (try dsimp only at hSw); go_simp; (try with_reducible rfl))
                    case q147 => exact fun _ _ _ h => h
                    try simp only [Act.put, List.setIfInBounds_toArray, List.set_cons_zero, List.set_cons_succ]
                    refine wpAnyH_take (i := 17) (oi := ?o148) (v := ?v148) ?h148 (by kernel_rfl) (by kernel_rfl) (by kernel_rfl) ?q148 ?y148 (by assumption) ?r148
                    case h148 => simp only [List.getElem?_toArray, List.getElem?_cons_zero, List.getElem?_cons_succ]; rfl
                    case y148 => (refine Or.inl ⟨by rfl, ?_⟩; intro w hSw; (try dsimp only at hSw); go_simp; (try with_reducible rfl))
                    case q148 => exact fun _ _ _ h => h
                    try simp only [Act.put, List.setIfInBounds_toArray, List.set_cons_zero, List.set_cons_succ]
                    refine wpAnyH_take (i := 18) (oi := ?o149) (v := ?v149) ?h149 (by kernel_rfl) (by kernel_rfl) (by kernel_rfl) ?q149 ?y149 (by assumption) ?r149
                    case h149 => simp only [List.getElem?_toArray, List.getElem?_cons_zero, List.getElem?_cons_succ]; rfl
                    case y149 => (refine Or.inl ⟨by rfl, ?_⟩; intro w hSw; (try dsimp only at hSw); go_simp; (try with_reducible rfl))
                    case q149 => exact fun _ _ _ h => h
                    try simp only [Act.put, List.setIfInBounds_toArray, List.set_cons_zero, List.set_cons_succ]
                    refine wpAnyH_take (i := 19) (oi := ?o150) (v := ?v150) ?h150 (by kernel_rfl) (by kernel_rfl) (by kernel_rfl) ?q150 ?y150 (by assumption) ?r150
                    case h150 => simp only [List.getElem?_toArray, List.getElem?_cons_zero, List.getElem?_cons_succ]; rfl
                    case y150 => (refine Or.inl ⟨by rfl, ?_⟩; intro w hSw; (try dsimp only at hSw); go_simp; (try with_reducible rfl))
                    case q150 => exact fun _ _ _ h => h
                    try simp only [Act.put, List.setIfInBounds_toArray, List.set_cons_zero, List.set_cons_succ]
                    refine wpAnyH_take (i := 20) (oi := ?o151) (v := ?v151) ?h151 (by kernel_rfl) (by kernel_rfl) (by kernel_rfl) ?q151 ?y151 (by assumption) ?r151
                    case h151 => simp only [List.getElem?_toArray, List.getElem?_cons_zero, List.getElem?_cons_succ]; rfl
                    case y151 => (refine Or.inl ⟨by rfl, ?_⟩; intro w hSw; (try dsimp only at hSw); go_simp; (try with_reducible rfl))
                    case q151 => exact fun _ _ _ h => h
                    try simp only [Act.put, List.setIfInBounds_toArray, List.set_cons_zero, List.set_cons_succ]
                    refine wpAnyH_take (i := 21) (oi := ?o152) (v := ?v152) ?h152 (by kernel_rfl) (by kernel_rfl) (by kernel_rfl) ?q152 ?y152 (by assumption) ?r152
                    case h152 => simp only [List.getElem?_toArray, List.getElem?_cons_zero, List.getElem?_cons_succ]; rfl
                    case y152 => (refine Or.inl ⟨by rfl, ?_⟩; intro w hSw; (try dsimp only at hSw); go_simp; (try with_reducible rfl))
                    case q152 => exact fun _ _ _ h => h
                    try simp only [Act.put, List.setIfInBounds_toArray, List.set_cons_zero, List.set_cons_succ]
                    refine wpAnyH_take (i := 22) (oi := ?o153) (v := undef) ?h153 (by kernel_rfl) (by kernel_rfl) (by kernel_rfl) ?q153 ?y153 (by assumption) ?r153
                    case h153 => simp only [List.getElem?_toArray, List.getElem?_cons_zero, List.getElem?_cons_succ]; rfl
                    case y153 => exact Or.inr ⟨by rfl, rfl⟩
                    case q153 => exact fun _ _ _ h => h
                    try simp only [Act.put, List.setIfInBounds_toArray, List.set_cons_zero, List.set_cons_succ]
                    refine wpAnyH_take (i := 23) (oi := ?o154) (v := undef) ?h154 (by kernel_rfl) (by kernel_rfl) (by kernel_rfl) ?q154 ?y154 (by assumption) ?r154
                    case h154 => simp only [List.getElem?_toArray, List.getElem?_cons_zero, List.getElem?_cons_succ]; rfl
                    case y154 => exact Or.inr ⟨by rfl, rfl⟩
                    case q154 => exact fun _ _ _ h => h
                    try simp only [Act.put, List.setIfInBounds_toArray, List.set_cons_zero, List.set_cons_succ]
                    refine wpAnyH_take (i := 24) (oi := ?o155) (v := ?v155) ?h155 (by kernel_rfl) (by kernel_rfl) (by kernel_rfl) ?q155 ?y155 (by assumption) ?r155
                    case h155 => simp only [List.getElem?_toArray, List.getElem?_cons_zero, List.getElem?_cons_succ]; rfl
                    case y155 => (refine Or.inl ⟨by rfl, ?_⟩; intro w hSw; (try dsimp only at hSw); go_simp; (try with_reducible rfl))
                    case q155 => exact fun _ _ _ h => h
                    try simp only [Act.put, List.setIfInBounds_toArray, List.set_cons_zero, List.set_cons_succ]
                    refine wpAnyH_take (i := 25) (oi := ?o156) (v := ?v156) ?h156 (by kernel_rfl) (by kernel_rfl) (by kernel_rfl) ?q156 ?y156 (by assumption) ?r156
                    case h156 => simp only [List.getElem?_toArray, List.getElem?_cons_zero, List.getElem?_cons_succ]; rfl
                    case y156 => (refine Or.inl ⟨by rfl, ?_⟩; intro w hSw; (try dsimp only at hSw); go_simp; (try with_reducible rfl))
                    case q156 => exact fun _ _ _ h => h
                    try simp only [Act.put, List.setIfInBounds_toArray, List.set_cons_zero, List.set_cons_succ]
                    refine wpAnyH_take (i := 26) (oi := ?o157) (v := ?v157) ?h157 (by kernel_rfl) (by kernel_rfl) (by kernel_rfl) ?q157 ?y157 (by assumption) ?r157
                    case h157 => simp only [List.getElem?_toArray, List.getElem?_cons_zero, List.getElem?_cons_succ]; rfl
                    case y157 => (refine Or.inl ⟨by rfl, ?_⟩; intro w hSw; (try dsimp only at hSw); go_simp; (try with_reducible rfl))
                    case q157 => exact fun _ _ _ h => h
                    try simp only [Act.put, List.setIfInBounds_toArray, List.set_cons_zero, List.set_cons_succ]
                    refine wpAnyH_take (i := 27) (oi := ?o158) (v := ?v158) ?h158 (by kernel_rfl) (by kernel_rfl) (by kernel_rfl) ?q158 ?y158 (by assumption) ?r158
                    case h158 => simp only [List.getElem?_toArray, List.getElem?_cons_zero, List.getElem?_cons_succ]; rfl
                    case y158 => (refine Or.inl ⟨by rfl, ?_⟩; intro w hSw; (try dsimp only at hSw); go_simp; (try with_reducible rfl))
                    case q158 => exact fun _ _ _ h => h
                    try simp only [Act.put, List.setIfInBounds_toArray, List.set_cons_zero, List.set_cons_succ]
                    refine wpAnyH_done (by kernel_rfl) ?_ _
                    all_goals go_wp2_with fail
                    go_meet
                    exact ⟨rfl, Lib.hid (E.out.mono (by omega))⟩
                  exact AllReadyH.nil
                exact AllReadyH.nil
    case rest =>
      obtain ⟨rfl, E⟩ := hcut
      clear E8
      have HQ : w7.heap.size < w7.heap.size + 1 := Nat.lt_succ_self _
      clear HQ
      generalize w7.heap.size = Q at *
      generalize hS' : (storeS S c 4 U 1 k' n' b').2 = S' at *
      have HS' := Lib.hid hS'
      clear hS'
      have HF2 : Hid (Fill S' Z) := Lib.hid (by rw [← HS'.out]; exact store_fill HFill.out c U k' n' b')
      go_wp2_with fail
      go_at_call 26; refine (size_any c _).mono ?_; rintro e w' ⟨rfl, rfl⟩
      go_upto_region 19 with fail
      go_cut [19] (fun s19 wx => s19 = .bool (stB S c U k') ∧ Hid (EnvR w0 wx M (Z + 2) 1 S' [(Q, x, y, v), (P, 4, U, 1), (X, k', n', b')] R Z g))
      case first => as_aux_lemma =>
        obtain ⟨d0, d1, d2⟩ := own_cells (E.out.c m3)
        have HTT := Lib.hid HT.out
        cases t
        · have hst : stB S c U k' = false := by unfold stB; rw [← HT.out]; rfl
          have HST2 := Lib.hid hst
          clear hst
          go_quiet ((go_at_call 25; exact Calls.quiet_of_same (kind_q _ _)))
          go_wp2_with fail
          go_meet
          exact ⟨by rw [HST2.out], Lib.hid (E.out.fresh (fresh_drewN _ _))⟩
        · by_cases hk0 : (k' == 0) = true
          · have HST2 : Hid (stB S c U k' = true) := Lib.hid (by unfold stB; rw [← HT.out]; simp [fitsL, *])
            go_quiet ((go_at_call 25; exact Calls.quiet_of_same (kind_q _ _)))
            go_wp2_with fail
            go_meet
            exact ⟨by rw [HST2.out], Lib.hid (E.out.fresh (fresh_drewN _ _))⟩
          · replace hk0 : (k' == 0) = false := by simpa using hk0
            by_cases hkk : (k' == kindL c) = true
            · have HST2 : Hid (stB S c U k' = true) := Lib.hid (by unfold stB; rw [← HT.out]; simp [fitsL, *])
              go_quiet ((go_at_call 25; exact Calls.quiet_of_same (kind_q _ _)))
              go_wp2_with fail
              go_meet
              exact ⟨by rw [HST2.out], Lib.hid (E.out.fresh (fresh_drewN _ _))⟩
            · replace hkk : (k' == kindL c) = false := by simpa using hkk
              by_cases hk4 : (k' == 4) = true
              · by_cases hc6 : (c == 6) = true
                · have HST2 : Hid (stB S c U k' = true) := Lib.hid (by unfold stB; rw [← HT.out]; simp [fitsL, *])
                  go_quiet ((go_at_call 25; exact Calls.quiet_of_same (kind_q _ _)))
                  go_wp2_with fail
                  go_meet
                  exact ⟨by rw [HST2.out], Lib.hid (E.out.fresh (fresh_drewN _ _))⟩
                · replace hc6 : (c == 6) = false := by simpa using hc6
                  have HST2 : Hid (stB S c U k' = false) := Lib.hid (by unfold stB; rw [← HT.out]; simp [fitsL, *])
                  go_quiet ((go_at_call 25; exact Calls.quiet_of_same (kind_q _ _)))
                  go_wp2_with fail
                  go_meet
                  exact ⟨by rw [HST2.out], Lib.hid (E.out.fresh (fresh_drewN _ _))⟩
              · replace hk4 : (k' == 4) = false := by simpa using hk4
                have HST2 : Hid (stB S c U k' = false) := Lib.hid (by unfold stB; rw [← HT.out]; simp [fitsL, *])
                go_quiet ((go_at_call 25; exact Calls.quiet_of_same (kind_q _ _)))
                go_wp2_with fail
                go_meet
                exact ⟨by rw [HST2.out], Lib.hid (E.out.fresh (fresh_drewN _ _))⟩
      case rest =>
        obtain ⟨rfl, E'⟩ := hcut
        clear E
        have HN := Lib.hid HST.out
        have HAp : Hid (∀ j : Nat, (stB S c U k' = true → (j : Int) < a3 ∨ a3 + sizeL c ≤ j) → cellS S' j = cellS S j) := Lib.hid (fun j hj => by
          rw [← HS'.out]
          refine store_apart HFill.out c U k' n' b' j (fun hv => ?_)
          rw [HU.out]
          exact hj (by unfold stB; rw [← HST.out]; exact hv))
        have HL2 : Hid (RightV k' n' b' → stB S c U k' = true → loadS S' c 4 U 1 = (extL c k' n' b', true)) := Lib.hid (fun hR hv => by
          rw [← HS'.out]
          exact load_stored HFill.out c U k' n' b' HX.out.1 HX.out.2 hR (by rw [HST.out]; exact hv))
        have HFits : Hid (stB S c U k' = true → fitsL c k' = true ∧ 0 ≤ a3 ∧ sizeL c ≠ 0) := Lib.hid (fun hv => by
          have hv' : (storeS S c 4 U 1 k' n' b').1 = true := by rw [HST.out]; exact hv
          obtain ⟨s, off, hr, hs, hz, hf, hft, e⟩ := store_yes HFill.out c U k' n' b' hv'
          have hh := hit_of hr
          refine ⟨hft, ?_, by have := hh.c; have := hh.m0; omega⟩
          unfold reachS at hr
          rw [if_pos rfl, hs] at hr
          simp only at hr
          split at hr
          · rename_i hg
            unfold goesB at hg
            simp only [Bool.and_eq_true, decide_eq_true_eq] at hg
            rw [HU.out] at hg
            exact hg.1.1.2
          · cases hr)
        have HFC : Hid (stB S c U k' = true → _) := Lib.hid (fun hv => fits_cases (HFits.out hv).1 (HFits.out hv).2.2)
        have hn9 := sizeL_cases c
        have hn0 : 0 ≤ sizeL c := by omega
        have hn8 : sizeL c ≤ 8 := by omega
        clear hn9
        generalize hst : stB S c U k' = st at *
        generalize sizeL c = n at *
        clear hst HT HL
        go_upto_block 2 with fail
        go_cut [13] (fun s13 wx => s13 = .slice (some ⟨R, 0, none⟩) Z Z ∧ Hid (EnvR w0 wx M (Z + 2) 1 S' [(Q, x, y, v), (P, 4, U, 1), (X, k', n', b')] R Z g))
        case first => as_aux_lemma =>
          go_wp2_with fail
          go_loopw [131] (fun i wr => ∃ (k : Nat), k ≤ Z ∧ i = .int .i64 k ∧ Hid (EnvR w0 wr M (Z + 2) 1 S' [(Q, x, y, v), (P, 4, U, 1), (X, k', n', b')] R Z g)) (fun i _ => Z - (intOf i).toNat)
          case atStart => exact ⟨0, by omega, rfl, E'⟩
          case round =>
            obtain ⟨k, hk, rfl, E⟩ := hrel
            clear E'
            by_cases hlt : k < Z
            · obtain ⟨p1, p2, p3, hv⟩ : ∃ p1 p2 p3, byteV (cellS S' k) = (p1, p2, p3) := ⟨_, _, _, rfl⟩
              have HL3 := Lib.hid ((HF2.out.load k (by omega) (by omega)).trans (by rw [hv]))
              have HG : Hid ((st = true → (k : Int) < a3 ∨ a3 + n ≤ k) → g k = (p1, p2, p3)) := Lib.hid (fun hj => by
                rw [HW.out.2 k hlt, ← HAp.out k hj, hv])
              clear hv
              have ha3 := bounds_i64 HK.out
              go_wp2_with fail
              go_at_call 23; refine (ptr_i k (by omega) _).mono ?_; rintro e w5 ⟨rfl, h5⟩; have E5 := Lib.hid (E.out.fresh h5); clear E h5
              go_wp2_with fail
              go_at_call 15; refine (E5.out.load _ _ _ _ k1 p1 p2 p3 true HL3.out).mono ?_; rintro e w6 ⟨rfl, E6⟩; replace E6 := Lib.hid E6; clear E5
              have E := Lib.hid (E6.out.add p1 p2 p3)
              clear E6
              obtain ⟨c0, c1, c2⟩ := own_cells (E.out.c m1)
              have r0 := E.out.row.c0 k hlt
              have r1 := E.out.row.c1 k hlt
              have r2 := E.out.row.c2 k hlt
              have heq := eqv p1 p2 p3
              have hway : (st = false) ∨ (st = true ∧ (k : Int) < a3) ∨ (st = true ∧ 0 ≤ a3 ∧ a3 ≤ (k : Int) ∧ a3 + n ≤ k) ∨ (st = true ∧ 0 ≤ a3 ∧ a3 ≤ (k : Int) ∧ (k : Int) < a3 + n) := by
                cases st
                · exact Or.inl rfl
                · have h3 := (HFits.out (by first | rfl | trivial)).2.1
                  right
                  by_cases h4 : (k : Int) < a3
                  · exact Or.inl ⟨rfl, h4⟩
                  · by_cases h5 : a3 + n ≤ (k : Int)
                    · exact Or.inr (Or.inl ⟨rfl, h3, by omega, h5⟩)
                    · exact Or.inr (Or.inr ⟨rfl, h3, by omega, by omega⟩)
              rcases hway with rfl | ⟨rfl, h1⟩ | ⟨rfl, h0, h1, h2⟩ | ⟨rfl, h0, h1, h2⟩
              · as_aux_lemma =>
                have hg := HG.out (fun h => by cases h)
                rw [hg] at r0 r1 r2
                clear hg
                go_wp2_with fail
                go_quiet (fail)
                go_wp2_with fail
                go_roundw
                case rel => exact ⟨k + 1, by omega, by go_num, Lib.hid ((tailR E.out).fresh (fresh_drewN _ _))⟩
                case measure => simp [intOf]; omega
              · as_aux_lemma =>
                have hg := HG.out (fun _ => Or.inl h1)
                rw [hg] at r0 r1 r2
                clear hg
                have hb : decide ((k : Int) < a3) = true := by simpa using h1
                go_wp2_with fail
                go_quiet (fail)
                go_wp2_with fail
                go_roundw
                case rel => exact ⟨k + 1, by omega, by go_num, Lib.hid ((tailR E.out).fresh (fresh_drewN _ _))⟩
                case measure => simp [intOf]; omega
              · as_aux_lemma =>
                have hg := HG.out (fun _ => Or.inr h2)
                rw [hg] at r0 r1 r2
                clear hg
                have hb : decide ((k : Int) < a3) = false := by simpa using h1
                have hb2 : decide (n ≤ (k : Int) - a3) = true := by simp; omega
                have hwr : IntKind.i64.wrap ((k : Int) - a3) = (k : Int) - a3 := by simp [IntKind.wrap, IntKind.bits, IntKind.signed]; omega
                go_wp2_with fail
                go_quiet (fail)
                go_wp2_with fail
                go_roundw
                case rel => exact ⟨k + 1, by omega, by go_num, Lib.hid ((tailR E.out).fresh (fresh_drewN _ _))⟩
                case measure => simp [intOf]; omega
              · as_aux_lemma =>
                have hb : decide ((k : Int) < a3) = false := by simpa using h1
                have hb2 : decide (n ≤ (k : Int) - a3) = false := by simp; omega
                have hwr : IntKind.i64.wrap ((k : Int) - a3) = (k : Int) - a3 := by simp [IntKind.wrap, IntKind.bits, IntKind.signed]; omega
                go_wp2_with fail
                go_quiet (fail)
                go_wp2_with fail
                go_roundw
                case rel => exact ⟨k + 1, by omega, by go_num, Lib.hid ((tailR E.out).fresh (fresh_drewN _ _))⟩
                case measure => simp [intOf]; omega
            · obtain rfl : k = Z := by omega
              go_wp2_with fail
              go_meet
              exact ⟨rfl, E⟩
        case rest =>
          obtain ⟨rfl, E⟩ := hcut
          clear E'
          obtain ⟨d0, d1, d2⟩ := own_cells (E.out.c m3)
          cases st
          · go_wp2
            go_returns
            exact ⟨rfl, HF.out.trans E.out.out⟩
          · go_wp2_with fail
            clear d0 d1 d2
            go_at_call 27; refine (right_any k' n' b' _).mono ?_; rintro e w9 ⟨rfl, h9⟩; have E9 := Lib.hid (E.out.fresh h9)
            clear E h9
            cases hr : rightL k' n' b'
            · go_wp2
              go_returns
              exact ⟨rfl, HF.out.trans E9.out.out⟩
            · have HR := Lib.hid (right_v hr)
              clear hr
              obtain ⟨c0, c1, c2⟩ := own_cells (E9.out.c m2)
              go_wp2_with fail
              clear c0 c1 c2
              obtain ⟨q1, q2, q3, hq⟩ : ∃ q1 q2 q3, extL c k' n' b' = (q1, q2, q3) := ⟨_, _, _, rfl⟩
              have HL4 := Lib.hid ((HL2.out HR.out (by first | rfl | trivial)).trans (by rw [hq]))
              have HQ := Lib.hid hq
              clear hq
              go_at_call 15; refine (E9.out.load _ _ _ _ k1 q1 q2 q3 true HL4.out).mono ?_; rintro e w10 ⟨rfl, E10⟩; replace E10 := Lib.hid E10; clear E9
              have HSZ := Lib.hid E10.out.out.size
              have E := Lib.hid (E10.out.add q1 q2 q3)
              clear E10
              have hfc := HFC.out (by first | rfl | trivial)
              have hdir : (c = 1 ∨ c = 2 ∨ c = 3 ∨ c = 4) ∧ (k' = 0 ∨ k' = 1) ∨ (¬ c = 1 ∧ ¬ c = 2 ∧ ¬ c = 3 ∧ ¬ c = 4) := by
                rcases hfc with h | h | h | h | h | h | h | h | h <;> omega
              clear hfc
              rcases hdir with ⟨hc, hk⟩ | ⟨e1, e2, e3, e4⟩
              · have hX0 := (E.out.out.froz ⟨X, 0, none⟩).trans (HZ0.out 0)
                have hX1 := (E.out.out.froz ⟨X, 1, none⟩).trans (HZ0.out 1)
                have hX2 := (E.out.out.froz ⟨X, 2, none⟩).trans (HZ0.out 2)
                have HXZ := Lib.hid (And.intro hX0 (And.intro hX1 hX2))
                clear hX0 hX1 hX2
                rcases hc with rfl | rfl | rfl | rfl
                all_goals rcases hk with rfl | rfl
                · as_aux_lemma =>
                  have hq := HQ.out
                  simp [extL] at hq
                  obtain ⟨rfl, rfl, rfl⟩ := hq
                  obtain ⟨d0, d1, d2⟩ := own_cells (E.out.c m4)
                  go_wp2_with fail
                  clear d0 d1 d2
                  go_at_call 28; refine (eval1u_80 _ _ _).mono ?_; rintro e w11 ⟨rfl, h11⟩; have E2 := Lib.hid (E.out.fresh h11)
                  obtain ⟨c0, c1, c2⟩ := own_cells (E2.out.c m1)
                  obtain ⟨d0, d1, d2⟩ := own_cells (E2.out.c m4)
                  have f0 := (h11.froz ⟨X, 0, none⟩).trans HXZ.out.1
                  have f1 := (h11.froz ⟨X, 1, none⟩).trans HXZ.out.2.1
                  have f2 := (h11.froz ⟨X, 2, none⟩).trans HXZ.out.2.2
                  have hne : w10.heap.size ≠ X := Nat.ne_of_gt (Nat.lt_of_lt_of_le hX HSZ.out)
                  have hfin : Fresh w w11 := HF.out.trans E2.out.out
                  clear h11 E2 E
                  go_wp2
                  go_returns
                  exact ⟨rfl, by (repeat' first | with_reducible assumption | with_reducible refine Fresh.setCell ?_ ?_ _ | exact Nat.le_of_eq HXE.out)⟩
                · as_aux_lemma =>
                  have hq : ((1, IntKind.u32.wrap (IntKind.i8.wrap n'), 0) : Int × Int × Int) = (q1, q2, q3) := HQ.out
                  injection hq with hq1 hq
                  injection hq with hq2 hq3
                  subst hq1 hq3
                  have HQ2 := Lib.hid hq2
                  clear hq2
                  obtain ⟨d0, d1, d2⟩ := own_cells (E.out.c m4)
                  go_wp2_with fail
                  clear d0 d1 d2
                  go_at_call 28; refine (eval1q_80 _ _ q2 HX.out.1 HX.out.2 HQ2.out _).mono ?_; rintro e w11 ⟨rfl, h11⟩; have E2 := Lib.hid (E.out.fresh h11)
                  obtain ⟨c0, c1, c2⟩ := own_cells (E2.out.c m1)
                  obtain ⟨d0, d1, d2⟩ := own_cells (E2.out.c m4)
                  have f0 := (h11.froz ⟨X, 0, none⟩).trans HXZ.out.1
                  have f1 := (h11.froz ⟨X, 1, none⟩).trans HXZ.out.2.1
                  have f2 := (h11.froz ⟨X, 2, none⟩).trans HXZ.out.2.2
                  have hne : w10.heap.size ≠ X := Nat.ne_of_gt (Nat.lt_of_lt_of_le hX HSZ.out)
                  have hfin : Fresh w w11 := HF.out.trans E2.out.out
                  clear h11 E2 E
                  go_wp2
                  go_returns
                  exact ⟨rfl, by (repeat' first | with_reducible assumption | with_reducible refine Fresh.setCell ?_ ?_ _ | exact Nat.le_of_eq HXE.out)⟩
                · as_aux_lemma =>
                  have hq := HQ.out
                  simp [extL] at hq
                  obtain ⟨rfl, rfl, rfl⟩ := hq
                  obtain ⟨d0, d1, d2⟩ := own_cells (E.out.c m4)
                  go_wp2_with fail
                  clear d0 d1 d2
                  go_at_call 28; refine (eval1u_81 _ _ _).mono ?_; rintro e w11 ⟨rfl, h11⟩; have E2 := Lib.hid (E.out.fresh h11)
                  obtain ⟨c0, c1, c2⟩ := own_cells (E2.out.c m1)
                  obtain ⟨d0, d1, d2⟩ := own_cells (E2.out.c m4)
                  have f0 := (h11.froz ⟨X, 0, none⟩).trans HXZ.out.1
                  have f1 := (h11.froz ⟨X, 1, none⟩).trans HXZ.out.2.1
                  have f2 := (h11.froz ⟨X, 2, none⟩).trans HXZ.out.2.2
                  have hne : w10.heap.size ≠ X := Nat.ne_of_gt (Nat.lt_of_lt_of_le hX HSZ.out)
                  have hfin : Fresh w w11 := HF.out.trans E2.out.out
                  clear h11 E2 E
                  go_wp2
                  go_returns
                  exact ⟨rfl, by (repeat' first | with_reducible assumption | with_reducible refine Fresh.setCell ?_ ?_ _ | exact Nat.le_of_eq HXE.out)⟩
                · as_aux_lemma =>
                  have hq : ((1, n' % 256, 0) : Int × Int × Int) = (q1, q2, q3) := HQ.out
                  injection hq with hq1 hq
                  injection hq with hq2 hq3
                  subst hq1 hq3
                  have HQ2 := Lib.hid hq2
                  clear hq2
                  obtain ⟨d0, d1, d2⟩ := own_cells (E.out.c m4)
                  go_wp2_with fail
                  clear d0 d1 d2
                  go_at_call 28; refine (eval1q_81 _ _ q2 HX.out.1 HX.out.2 HQ2.out _).mono ?_; rintro e w11 ⟨rfl, h11⟩; have E2 := Lib.hid (E.out.fresh h11)
                  obtain ⟨c0, c1, c2⟩ := own_cells (E2.out.c m1)
                  obtain ⟨d0, d1, d2⟩ := own_cells (E2.out.c m4)
                  have f0 := (h11.froz ⟨X, 0, none⟩).trans HXZ.out.1
                  have f1 := (h11.froz ⟨X, 1, none⟩).trans HXZ.out.2.1
                  have f2 := (h11.froz ⟨X, 2, none⟩).trans HXZ.out.2.2
                  have hne : w10.heap.size ≠ X := Nat.ne_of_gt (Nat.lt_of_lt_of_le hX HSZ.out)
                  have hfin : Fresh w w11 := HF.out.trans E2.out.out
                  clear h11 E2 E
                  go_wp2
                  go_returns
                  exact ⟨rfl, by (repeat' first | with_reducible assumption | with_reducible refine Fresh.setCell ?_ ?_ _ | exact Nat.le_of_eq HXE.out)⟩
                · as_aux_lemma =>
                  have hq := HQ.out
                  simp [extL] at hq
                  obtain ⟨rfl, rfl, rfl⟩ := hq
                  obtain ⟨d0, d1, d2⟩ := own_cells (E.out.c m4)
                  go_wp2_with fail
                  clear d0 d1 d2
                  go_at_call 28; refine (eval1u_82 _ _ _).mono ?_; rintro e w11 ⟨rfl, h11⟩; have E2 := Lib.hid (E.out.fresh h11)
                  obtain ⟨c0, c1, c2⟩ := own_cells (E2.out.c m1)
                  obtain ⟨d0, d1, d2⟩ := own_cells (E2.out.c m4)
                  have f0 := (h11.froz ⟨X, 0, none⟩).trans HXZ.out.1
                  have f1 := (h11.froz ⟨X, 1, none⟩).trans HXZ.out.2.1
                  have f2 := (h11.froz ⟨X, 2, none⟩).trans HXZ.out.2.2
                  have hne : w10.heap.size ≠ X := Nat.ne_of_gt (Nat.lt_of_lt_of_le hX HSZ.out)
                  have hfin : Fresh w w11 := HF.out.trans E2.out.out
                  clear h11 E2 E
                  go_wp2
                  go_returns
                  exact ⟨rfl, by (repeat' first | with_reducible assumption | with_reducible refine Fresh.setCell ?_ ?_ _ | exact Nat.le_of_eq HXE.out)⟩
                · as_aux_lemma =>
                  have hq : ((1, IntKind.u32.wrap (IntKind.i16.wrap n'), 0) : Int × Int × Int) = (q1, q2, q3) := HQ.out
                  injection hq with hq1 hq
                  injection hq with hq2 hq3
                  subst hq1 hq3
                  have HQ2 := Lib.hid hq2
                  clear hq2
                  obtain ⟨d0, d1, d2⟩ := own_cells (E.out.c m4)
                  go_wp2_with fail
                  clear d0 d1 d2
                  go_at_call 28; refine (eval1q_82 _ _ q2 HX.out.1 HX.out.2 HQ2.out _).mono ?_; rintro e w11 ⟨rfl, h11⟩; have E2 := Lib.hid (E.out.fresh h11)
                  obtain ⟨c0, c1, c2⟩ := own_cells (E2.out.c m1)
                  obtain ⟨d0, d1, d2⟩ := own_cells (E2.out.c m4)
                  have f0 := (h11.froz ⟨X, 0, none⟩).trans HXZ.out.1
                  have f1 := (h11.froz ⟨X, 1, none⟩).trans HXZ.out.2.1
                  have f2 := (h11.froz ⟨X, 2, none⟩).trans HXZ.out.2.2
                  have hne : w10.heap.size ≠ X := Nat.ne_of_gt (Nat.lt_of_lt_of_le hX HSZ.out)
                  have hfin : Fresh w w11 := HF.out.trans E2.out.out
                  clear h11 E2 E
                  go_wp2
                  go_returns
                  exact ⟨rfl, by (repeat' first | with_reducible assumption | with_reducible refine Fresh.setCell ?_ ?_ _ | exact Nat.le_of_eq HXE.out)⟩
                · as_aux_lemma =>
                  have hq := HQ.out
                  simp [extL] at hq
                  obtain ⟨rfl, rfl, rfl⟩ := hq
                  obtain ⟨d0, d1, d2⟩ := own_cells (E.out.c m4)
                  go_wp2_with fail
                  clear d0 d1 d2
                  go_at_call 28; refine (eval1u_83 _ _ _).mono ?_; rintro e w11 ⟨rfl, h11⟩; have E2 := Lib.hid (E.out.fresh h11)
                  obtain ⟨c0, c1, c2⟩ := own_cells (E2.out.c m1)
                  obtain ⟨d0, d1, d2⟩ := own_cells (E2.out.c m4)
                  have f0 := (h11.froz ⟨X, 0, none⟩).trans HXZ.out.1
                  have f1 := (h11.froz ⟨X, 1, none⟩).trans HXZ.out.2.1
                  have f2 := (h11.froz ⟨X, 2, none⟩).trans HXZ.out.2.2
                  have hne : w10.heap.size ≠ X := Nat.ne_of_gt (Nat.lt_of_lt_of_le hX HSZ.out)
                  have hfin : Fresh w w11 := HF.out.trans E2.out.out
                  clear h11 E2 E
                  go_wp2
                  go_returns
                  exact ⟨rfl, by (repeat' first | with_reducible assumption | with_reducible refine Fresh.setCell ?_ ?_ _ | exact Nat.le_of_eq HXE.out)⟩
                · as_aux_lemma =>
                  have hq : ((1, n' % 65536, 0) : Int × Int × Int) = (q1, q2, q3) := HQ.out
                  injection hq with hq1 hq
                  injection hq with hq2 hq3
                  subst hq1 hq3
                  have HQ2 := Lib.hid hq2
                  clear hq2
                  obtain ⟨d0, d1, d2⟩ := own_cells (E.out.c m4)
                  go_wp2_with fail
                  clear d0 d1 d2
                  go_at_call 28; refine (eval1q_83 _ _ q2 HX.out.1 HX.out.2 HQ2.out _).mono ?_; rintro e w11 ⟨rfl, h11⟩; have E2 := Lib.hid (E.out.fresh h11)
                  obtain ⟨c0, c1, c2⟩ := own_cells (E2.out.c m1)
                  obtain ⟨d0, d1, d2⟩ := own_cells (E2.out.c m4)
                  have f0 := (h11.froz ⟨X, 0, none⟩).trans HXZ.out.1
                  have f1 := (h11.froz ⟨X, 1, none⟩).trans HXZ.out.2.1
                  have f2 := (h11.froz ⟨X, 2, none⟩).trans HXZ.out.2.2
                  have hne : w10.heap.size ≠ X := Nat.ne_of_gt (Nat.lt_of_lt_of_le hX HSZ.out)
                  have hfin : Fresh w w11 := HF.out.trans E2.out.out
                  clear h11 E2 E
                  go_wp2
                  go_returns
                  exact ⟨rfl, by (repeat' first | with_reducible assumption | with_reducible refine Fresh.setCell ?_ ?_ _ | exact Nat.le_of_eq HXE.out)⟩
              · as_aux_lemma =>
                have hv : extL c k' n' b' = (k', n', b') := by
                  unfold extL
                  rw [if_neg e1, if_neg e2, if_neg e3, if_neg e4]
                  split
                  · rename_i h
                    obtain ⟨g1, g2⟩ := HR.out.1 h
                    rw [h, g1, g2]
                  · rfl
                obtain ⟨rfl, rfl, rfl⟩ : k' = q1 ∧ n' = q2 ∧ b' = q3 := by
                  have := hv.symm.trans HQ.out
                  simpa using this
                clear hv
                have g1 : (c == 1) = false := by simpa using e1
                have g2 : (c == 2) = false := by simpa using e2
                have g3 : (c == 3) = false := by simpa using e3
                have g4 : (c == 4) = false := by simpa using e4
                clear e1 e2 e3 e4
                obtain ⟨c0, c1, c2⟩ := own_cells (E.out.c m1)
                obtain ⟨d0, d1, d2⟩ := own_cells (E.out.c m4)
                have heq := eqq k' n' b'
                go_wp2
                go_returns
                exact ⟨rfl, HF.out.trans E.out.out⟩
end Go.Proofs.Ytjbflmpnmobngaa.memoryKeeps
