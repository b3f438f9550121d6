/- The fixed call of Call: it is answered. -/
import Derived.Test.YtjbflmpnmobngaaDoorDj
import Derived.Deep.RegionHeld3
namespace Go.Proofs.YtjbflmpnmobngaaDoor
set_option linter.unusedSimpArgs false
set_option linter.unusedVariables false
open Go.RowKit

/-- The value of the fixed calls at a place. -/
structure OneAt (A off : Nat) (w : World) : Prop where
  a0 : w.cell? ⟨A, off, none⟩ = some (.int .i64 1)
  a1 : w.cell? ⟨A, off + 1, none⟩ = some (.int .u64 1)
  a2 : w.cell? ⟨A, off + 2, none⟩ = some (.int .i64 0)
theorem OneAt.fresh {A off : Nat} {w w' : World} (h : OneAt A off w) (k : Fresh w w') : OneAt A off w' := ⟨k.at' h.a0, k.at' h.a1, k.at' h.a2⟩
set_option maxHeartbeats 2000000 in
theorem eqKinds_1 (V vo vc P po pc : Nat) (hvc : 1 ≤ vc) (hpc : 1 ≤ pc) (w : World) (hv : OneAt V vo w) (hp : w.cell? ⟨P, po, none⟩ = some (.int .i64 1)) :
    Calls Tryd.prog 21 #[.slice (some ⟨V, vo, none⟩) 1 vc, .slice (some ⟨P, po, none⟩) 1 pc, .func (.func 22) #[] #[]] w fun e w' => e = .returned (.bool true) ∧ Fresh w w' := by
  have HV := Lib.hid hv
  have HP := Lib.hid hp
  clear hv hp
  go_enter Tryd.func21, Tryd.ntmps21
  go_wp2_with fail
  go_loopw [17] (fun i wr => ∃ k : Nat, k ≤ 1 ∧ i = .int .i64 k ∧ Hid (Fresh w wr)) (fun i _ => 1 - (intOf i).toNat)
  case atStart => exact ⟨0, by omega, rfl, Lib.hid (Fresh.refl w)⟩
  case round =>
    obtain ⟨k, hk, rfl, HF⟩ := hrel
    by_cases hlt : k < 1
    · obtain rfl : k = 0 := by omega
      obtain ⟨a0, a1, a2⟩ := HV.out.fresh HF.out
      have b0 := HF.out.at' HP.out
      have z0 := cell_lt b0
      simp only at z0
      go_wp2_with (go_at_call 22; refine (isOf_1 _).mono ?_; rintro e w1 ⟨rfl, h1⟩)
      go_roundw
      case rel => exact ⟨1, by omega, by go_num, Lib.hid (HF.out.trans ((Fresh.refl _).alloc _ _ |>.trans h1))⟩
      case measure => simp [intOf]
    · obtain rfl : k = 1 := by omega
      go_wp2
      go_returns
      exact ⟨rfl, HF.out⟩
theorem eqKinds_no (V vo vc : Nat) (w : World) :
    Calls Tryd.prog 21 #[.slice (some ⟨V, vo, none⟩) 1 vc, .slice none 0 0, .func (.func 22) #[] #[]] w fun e w' => e = .returned (.bool false) ∧ w = w' := by
  go_enter Tryd.func21, Tryd.ntmps21
  go_wp2
  go_returns
  exact ⟨rfl, rfl⟩
theorem info30 : (Tryd.prog.info? 30).map (fun i => (i.zero, i.size, i.bytes)) = some (some (.agg #[.int .i64 0, .int .u64 0, .int .i64 0]), 3, 24) := by kernel_rfl
/-- A new slice of the one value. -/
def Cloned (w : World) (e : Ending) (w' : World) : Prop := ∃ g cap : Nat, e = .returned (.slice (some ⟨g, 0, none⟩) 1 cap) ∧ (1 ≤ cap ∧ cap ≤ maxLen ∧ OneAt g 0 w' ∧ w.heap.size ≤ g ∧ Below w.heap.size w w')
theorem nil25 (V vo vc : Nat) (w : World) : (binOp .eql 25 (.slice (some ⟨V, vo, none⟩) 1 vc) (.slice none 0 0)).run Tryd.prog w = .ok (.bool false) w := by kernel_rfl
set_option maxRecDepth 100000 in
set_option maxHeartbeats 2000000 in
theorem clone_1 (V vo vc : Nat) (hvc : 1 ≤ vc) (hvm : vc ≤ maxLen) (w : World) (hv : OneAt V vo w) :
    Calls Tryd.prog 23 #[.slice (some ⟨V, vo, none⟩) 1 vc] w (Cloned w) := by
  obtain ⟨i0, hi, hz0, hz1, hz2⟩ := info_parts info30
  obtain ⟨a0, a1, a2⟩ := hv
  have HM := Lib.hid hvm
  clear hvm
  have hnl := nil25 V vo vc w
  go_enter Tryd.func23, Tryd.ntmps23
  have hf : Fresh w (w.alloc (.cells #[] 30)) := (Fresh.refl w).alloc _ _
  have b0 := hf.at' a0
  have b1 := hf.at' a1
  have b2 := hf.at' a2
  have hown : (w.alloc (.cells #[] 30)).ownsRow w.heap.size 30 3 (.slice (some ⟨w.heap.size, 0, none⟩) 0 0) 0 [] := World.ownsRow_lit w #[] 0 (Nat.le_refl _) (by decide) (by decide)
  go_wp2_with (at_builtin; refine wpList_append_own _ rfl _ _ 25 rfl w.heap.size 30 i0 (.agg #[.int .i64 0, .int .u64 0, .int .i64 0]) 3 24 Tryd.underlying25 hi hz0 hz1 hz2 rfl (by decide) _ _ _ rfl hown ⟨V, vo, none⟩ 1 vc [.int .i64 1, .int .u64 1, .int .i64 0] rfl rfl ?c1 ?c2 ?c3 ?c4 ?c5 ?_)
  case c1 =>
    intro j u hj
    match j, hj with
    | 0, hj => simp at hj; subst hj; simpa [Addr.add] using b0
    | 1, hj => simp at hj; subst hj; simpa [Addr.add] using b1
    | 2, hj => simp at hj; subst hj; simpa [Addr.add] using b2
  case c2 => intro u hu; simp at hu; rcases hu with rfl | rfl | rfl <;> rfl
  case c3 => decide
  case c4 => decide
  case c5 => simp
  intro v' w2 hown' hgrow _
  obtain ⟨g, cap, rfl, hg, q1, q2⟩ : ∃ g cap, v' = .slice (some ⟨g, 0, none⟩) 1 cap ∧ w.heap.size ≤ g ∧ 1 ≤ cap ∧ cap ≤ maxLen := by
    rcases hown'.2 with ⟨_, h0⟩ | ⟨g, cap, cur, hv, q, _, q1, q2, _⟩
    · cases h0
    · exact ⟨g, cap, hv, q, q1, q2⟩
  have H : Hid (OneAt g 0 w2 ∧ Below w.heap.size w w2) := Lib.hid ⟨⟨hown'.cellAt 0 (by decide), hown'.cellAt 1 (by decide), hown'.cellAt 2 (by decide)⟩, hf.below.grown hgrow (by simp) (fun k hk => (hown.lt k hk).1)⟩
  have HQ := Lib.hid (And.intro q1 q2)
  clear q1 q2
  go_wp2
  go_ret
  exact ⟨g, cap, rfl, HQ.out.1, HQ.out.2, H.out.1, hg, H.out.2⟩
theorem stays_frs {w w' : World} (h : Fresh w w') : Stays w w' := stays_below h.below
/-- An event's cells, to be written. -/
structure Res (R : Nat) (w : World) : Prop where
  r0 : w.cell? ⟨R, 0, none⟩ = some (.string ⟨#[]⟩)
  r1 : w.cell? ⟨R, 1, none⟩ = some (.slice none 0 0)
  r2 : w.cell? ⟨R, 2, none⟩ = some (.int .i64 0)
  r3 : w.cell? ⟨R, 3, none⟩ = some (.int .u64 0)
  r4 : w.cell? ⟨R, 4, none⟩ = some (.int .i64 0)
  f : ∀ o, w.frozen? ⟨R, o, none⟩ = false
theorem Res.below {R : Nat} {w w' : World} (h : Res R w) (k : Below w.heap.size w w') : Res R w' :=
  ⟨stays_below k _ _ _ h.r0, stays_below k _ _ _ h.r1, stays_below k _ _ _ h.r2, stays_below k _ _ _ h.r3, stays_below k _ _ _ h.r4, fun o => by rw [k.frozen (p := ⟨R, o, none⟩) (show R < w.heap.size from cell_lt h.r0)]; exact h.f o⟩
theorem OneAt.below {A off : Nat} {w w' : World} (h : OneAt A off w) (k : Below w.heap.size w w') : OneAt A off w' := ⟨stays_below k _ _ _ h.a0, stays_below k _ _ _ h.a1, stays_below k _ _ _ h.a2⟩
/-- What Call answers: the event, with arguments of its own. -/
def Called (w : World) (e : Ending) (w' : World) : Prop := ∃ g cap : Nat, e = .returned (.tuple #[.agg #[.string put, .slice (some ⟨g, 0, none⟩) 1 cap, .int .i64 1, .int .u64 1, .int .i64 0], .bool true]) ∧ (1 ≤ cap ∧ cap ≤ maxLen ∧ OneAt g 0 w' ∧ Below w.heap.size w w')
end Go.Proofs.YtjbflmpnmobngaaDoor
