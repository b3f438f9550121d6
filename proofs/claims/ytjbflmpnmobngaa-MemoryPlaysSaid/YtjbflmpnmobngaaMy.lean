/- A memory beside values of the caller's own; the calls whose answers the document fixes: they are answered so. -/
import Derived.Test.YtjbflmpnmobngaaMx
namespace Go.Proofs.Ytjbflmpnmobngaa
set_option linter.unusedSimpArgs false
set_option linter.unusedVariables false
open Go.RowKit

/-- A memory M, and values of the caller's own in blocks l; all of it laid since W. -/
structure Env (W w : World) (M T : Nat) (made : Int) (S : Int → Option BS) (l : List (Nat × Int × Int × Int)) : Prop where
  mem : Mem w M T (fun k => k < W.heap.size ∨ ∃ x ∈ l, x.1 = k) made S
  own : ∀ x ∈ l, Own w x.1 x.2.1 x.2.2.1 x.2.2.2
  fr : Touch (fun k => W.heap.size ≤ k) W w
variable {W w w' : World} {M T : Nat} {made : Int} {S : Int → Option BS} {l : List (Nat × Int × Int × Int)}
theorem Env.fresh (h : Env W w M T made S l) (hf : Fresh w w') : Env W w' M T made S l :=
  ⟨h.mem.later hf, fun x hx => (h.own x hx).later hf, h.fr.fresh hf⟩
theorem Env.drew (h : Env W w M T made S l) : Env W w.drew M T made S l := h.fresh (Fresh.refl w).drew
theorem Env.out (h : Env W w M T made S l) : Fresh W w := Touch.fresh_of (Fresh.refl W) h.fr (fun _ h => h)
theorem Env.leaves (h : Env W w M T made S l) {T' : Nat} {made' : Int} {S' : Int → Option BS} (hl : Leaves M T' (fun k => k < W.heap.size ∨ ∃ x ∈ l, x.1 = k) made' S' w w') : Env W w' M T' made' S' l := by
  obtain ⟨hm, ht⟩ := hl
  refine ⟨hm, fun x hx => ?_, h.fr.trans (ht.mono fun k hk => ?_)⟩
  · have hn : ¬ ¬ (x.1 < W.heap.size ∨ ∃ y ∈ l, y.1 = x.1) := fun g => g (Or.inr ⟨x, hx, rfl⟩)
    have hx' := h.own x hx
    exact ⟨Nat.lt_of_lt_of_le hx'.size ht.size, ht.cellOf hn hx'.c0, ht.cellOf hn hx'.c1, ht.cellOf hn hx'.c2⟩
  · exact Nat.le_of_not_lt fun g => hk (Or.inl g)
theorem Env.push (h : Env W w M T made S l) (hf : Fresh w w') {B : Nat} (hB : w.heap.size ≤ B) {k n b : Int} (ho : Own w' B k n b) : Env W w' M T made S ((B, k, n, b) :: l) := by
  refine ⟨h.mem.locals hf fun k hk => ?_, fun x hx => ?_, h.fr.fresh hf⟩
  · rcases hk with g | ⟨x, hx, g⟩
    · exact Or.inl (Or.inl g)
    · rcases List.mem_cons.1 hx with rfl | hx
      · subst g; exact Or.inr ⟨hB, ho.size⟩
      · exact Or.inl (Or.inr ⟨x, hx, g⟩)
  · rcases List.mem_cons.1 hx with rfl | hx
    · exact ho
    · exact (h.own x hx).later hf
theorem Env.add (h : Env W w M T made S l) (k n b : Int) : Env W (w.alloc (.cells #[.int .i64 k, .int .u64 n, .int .i64 b] 32)) M T made S ((w.heap.size, k, n, b) :: l) :=
  h.push ((Fresh.refl w).alloc _ _) (Nat.le_refl _) (Own.new' w k n b)
theorem Env.new (w : World) : Calls Try.prog 8 #[] w fun e w' => ∃ M, e = .returned (.pointer (some ⟨M, 0, none⟩)) ∧ Env w w' M 0 0 noS [] := by
  refine (new_mem (w := w) (L := fun k => k < w.heap.size ∨ ∃ x ∈ ([] : List (Nat × Int × Int × Int)), x.1 = k) (fun k hk => ?_)).mono ?_
  · rcases hk with g | ⟨x, hx, _⟩
    · exact g
    · cases hx
  · rintro e w' ⟨rfl, hm, hf⟩
    exact ⟨_, rfl, hm, (fun x hx => by cases hx), hf.touch _⟩
theorem Env.alloc (h : Env W w M T made S l) (size : Int) (m' : Int) (hm' : made + 1 = m') (hT : T < maxLen) (hmd : made ≤ 2199023255552) (h0 : 0 ≤ size) (hs : size ≤ 16777216) :
    Calls Try.prog 9 #[.pointer (some ⟨M, 0, none⟩), .int .i64 size] w fun e w' => e = .returned (.int .i64 m') ∧ Env W w' M (T + 1) m' (putS S m' ⟨size, false, noCell, noPtr⟩) l := by
  subst hm'
  refine (alloc_mem h.mem hT hmd size h0 hs).mono ?_
  rintro e w' ⟨he, hl⟩
  exact ⟨he, h.leaves hl⟩
theorem Env.load (h : Env W w M T made S l) (c k n b : Int) (hb : Key b) (x y z : Int) (t : Bool) (hv : loadS S c k n b = ((x, y, z), t)) :
    Calls Try.prog 15 #[.pointer (some ⟨M, 0, none⟩), .int .i64 c, .agg #[.int .i64 k, .int .u64 n, .int .i64 b]] w fun e w' => e = .returned (.tuple #[.agg #[.int .i64 x, .int .u64 y, .int .i64 z], .bool t]) ∧ Env W w' M T made S l := by
  refine (load_mem h.mem c k n b hb x y z t hv).mono ?_
  rintro e w' ⟨he, hf⟩
  exact ⟨he, h.fresh hf⟩
theorem Env.store (h : Env W w M T made S l) (hT : T < maxLen) (c k n b k' n' b' : Int) (hb : Key b) (hn : 0 ≤ n') (v : Bool) (hv : (storeS S c k n b k' n' b').1 = v) :
    Calls Try.prog 17 #[.pointer (some ⟨M, 0, none⟩), .int .i64 c, .agg #[.int .i64 k, .int .u64 n, .int .i64 b], .agg #[.int .i64 k', .int .u64 n', .int .i64 b']] w fun e w' => e = .returned (.bool v) ∧ Env W w' M (T + 1) made (storeS S c k n b k' n' b').2 l := by
  refine (store_mem h.mem hT c k n b k' n' b' hb hn v _ (Prod.ext hv rfl)).mono ?_
  rintro e w' ⟨he, hl⟩
  exact ⟨he, h.leaves hl⟩
theorem Env.fix (h : Env W w M T made S l) (n : Int) (hn : Key n) (v : Bool) (hv : (fixS S n).1 = v) :
    Calls Try.prog 13 #[.pointer (some ⟨M, 0, none⟩), .int .i64 n] w fun e w' => e = .returned (.bool v) ∧ Env W w' M T made (fixS S n).2 l := by
  refine (fix_mem h.mem n hn v _ (Prod.ext hv rfl)).mono ?_
  rintro e w' ⟨he, hl⟩
  exact ⟨he, h.leaves hl⟩
theorem Env.free (h : Env W w M T made S l) (n : Int) (hn : Key n) (v : Bool) (hv : (freeS S n).1 = v) :
    Calls Try.prog 11 #[.pointer (some ⟨M, 0, none⟩), .int .i64 n] w fun e w' => e = .returned (.bool v) ∧ Env W w' M T made (freeS S n).2 l := by
  refine (free_mem h.mem n hn v _ (Prod.ext hv rfl)).mono ?_
  rintro e w' ⟨he, hl⟩
  exact ⟨he, h.leaves hl⟩
theorem Env.inside (h : Env W w M T made S l) (n b : Int) (hb : Key b) (s : BS) (hs : S b = some s) (h0 : 0 ≤ wrap64 n) (h1 : wrap64 n < s.sz) : Inside M n b w :=
  fun w1 hf => in_mem (h.mem.later hf) n b hb s hs h0 h1
def insideS (S : Int → Option BS) (n b : Int) : Bool := match S b with | none => false | some s => decide (0 ≤ wrap64 n) && decide (wrap64 n < s.sz)
theorem Env.insideS (h : Env W w M T made S l) (n b : Int) (hb : Key b) (hv : insideS S n b = true) : Inside M n b w := by
  unfold Go.Proofs.Ytjbflmpnmobngaa.insideS at hv
  split at hv
  · cases hv
  · rename_i s hs
    simp only [Bool.and_eq_true, decide_eq_true_eq] at hv
    exact h.inside n b hb s hs hv.1 hv.2
theorem Env.c {B : Nat} {k n b : Int} (h : Env W w M T made S l) (hx : (B, k, n, b) ∈ l) : Own w B k n b := h.own _ hx
theorem ptr_f (b o x y z : Int) (h : ptrL b o = (x, y, z)) (w : World) :
    Calls Try.prog 23 #[.int .i64 b, .int .i64 o] w fun e w' => e = .returned (.agg #[.int .i64 x, .int .u64 y, .int .i64 z]) ∧ Fresh w w' := by
  have := ptr_any b o w
  rw [h] at this
  exact this
theorem l1 {α : Type} {a b c d : α} : d ∈ [a, b, c, d] := by simp
theorem l2 {α : Type} {a b c d : α} : c ∈ [a, b, c, d] := by simp
theorem l3 {α : Type} {a b c d : α} : b ∈ [a, b, c, d] := by simp
theorem l4 {α : Type} {a b c d : α} : a ∈ [a, b, c, d] := by simp
theorem k1 : Key 1 := Key.mk (by omega) (by omega)
theorem k2 : Key 2 := Key.mk (by omega) (by omega)

set_option maxRecDepth 100000 in
set_option maxHeartbeats 4000000 in
theorem fixed_any (w : World) :
    Calls Try.prog 7 #[] w fun e w' => e = .returned (.bool true) ∧ Fresh w w' := by
  go_enter Try.func7, Try.ntmps7
  go_wp2_with fail
  go_at_call 8; refine (Env.new w).mono ?_; rintro e w1 ⟨M, rfl, E1⟩; replace E1 := Lib.hid E1
  go_wp2_with fail
  go_at_call 9; refine (E1.out.alloc 8 1 rfl (by unfold maxLen; omega) (by omega) (by omega) (by omega)).mono ?_; rintro e w2 ⟨rfl, E2⟩; replace E2 := Lib.hid E2; clear E1
  go_wp2_with fail
  go_at_call 9; refine (E2.out.alloc 1 2 rfl (by unfold maxLen; omega) (by omega) (by omega) (by omega)).mono ?_; rintro e w3 ⟨rfl, E3⟩; replace E3 := Lib.hid E3; clear E2
  go_wp2_with fail
  go_at_call 9; refine (alloc_no _ (Or.inl (by omega)) _).mono ?_; rintro e w' ⟨rfl, rfl⟩
  go_wp2_with fail
  go_at_call 23; refine (ptr_f 1 4 4 4 1 (by decide +kernel) _).mono ?_; rintro e w4 ⟨rfl, h4⟩; have E4 := Lib.hid (E3.out.fresh h4); clear E3 h4
  go_wp2_with fail
  go_at_call 24; refine (int_f _ 4294967294 (by decide) _).mono ?_; rintro e w5 ⟨rfl, h5⟩; have E5 := Lib.hid (E4.out.fresh h5); clear E4 h5
  go_wp2_with fail
  go_at_call 17; refine (E5.out.store (by unfold maxLen; omega) _ _ _ _ _ _ _ k1 (by omega) true (by decide +kernel)).mono ?_; rintro e w6 ⟨rfl, E6⟩; replace E6 := Lib.hid E6; clear E5
  go_wp2_with fail
  go_at_call 23; refine (ptr_f 1 4 4 4 1 (by decide +kernel) _).mono ?_; rintro e w7 ⟨rfl, h7⟩; have E7 := Lib.hid (E6.out.fresh h7); clear E6 h7
  go_wp2_with fail
  go_at_call 15; refine (E7.out.load _ _ _ _ k1 1 4294967294 0 true (by decide +kernel)).mono ?_; rintro e w8 ⟨rfl, E8⟩; replace E8 := Lib.hid E8; clear E7
  go_wp2_with fail
  have E9 := Lib.hid (E8.out.add 1 4294967294 0); clear E8
  go_at_call 23; refine (ptr_f 1 5 4 5 1 (by decide +kernel) _).mono ?_; rintro e w10 ⟨rfl, h10⟩; have E10 := Lib.hid (E9.out.fresh h10); clear E9 h10
  go_wp2_with fail
  go_at_call 15; refine (E10.out.load _ _ _ _ k1 1 255 0 true (by decide +kernel)).mono ?_; rintro e w11 ⟨rfl, E11⟩; replace E11 := Lib.hid E11; clear E10
  go_wp2_with fail
  have E12 := Lib.hid (E11.out.add 1 255 0); clear E11
  go_at_call 23; refine (ptr_f 1 0 4 0 1 (by decide +kernel) _).mono ?_; rintro e w13 ⟨rfl, h13⟩; have E13 := Lib.hid (E12.out.fresh h13); clear E12 h13
  go_wp2_with fail
  go_at_call 15; refine (E13.out.load _ _ _ _ k1 0 0 0 true (by decide +kernel)).mono ?_; rintro e w14 ⟨rfl, E14⟩; replace E14 := Lib.hid E14; clear E13
  go_wp2_with fail
  have E15 := Lib.hid (E14.out.add 0 0 0); clear E14
  go_at_call 23; refine (ptr_f 1 2 4 2 1 (by decide +kernel) _).mono ?_; rintro e w16 ⟨rfl, h16⟩; have E16 := Lib.hid (E15.out.fresh h16); clear E15 h16
  go_wp2_with fail
  go_at_call 15; refine (E16.out.load _ _ _ _ k1 0 0 0 false (by decide +kernel)).mono ?_; rintro e w17 ⟨rfl, E17⟩; replace E17 := Lib.hid E17; clear E16
  go_wp2_with fail
  have E18 := Lib.hid (E17.out.fresh ((Fresh.refl w17).alloc #[.int .i64 0, .int .u64 0, .int .i64 0] 32)); clear E17
  go_at_call 23; refine (ptr_f 1 0 4 0 1 (by decide +kernel) _).mono ?_; rintro e w19 ⟨rfl, h19⟩; have E19 := Lib.hid (E18.out.fresh h19); clear E18 h19
  go_wp2_with fail
  go_at_call 23; refine (ptr_f 2 0 4 0 2 (by decide +kernel) _).mono ?_; rintro e w20 ⟨rfl, h20⟩; have E20 := Lib.hid (E19.out.fresh h20); clear E19 h20
  go_wp2_with fail
  go_at_call 19; refine (eval_apart _ _ _ _ (E20.out.insideS 0 1 k1 (by decide +kernel)) (E20.out.insideS 0 2 k2 (by decide +kernel)) (by decide)).mono ?_; rintro e w21 ⟨rfl, h21⟩; have E21 := Lib.hid (E20.out.fresh h21); clear E20 h21
  go_wp2_with fail
  have E22 := Lib.hid (E21.out.add 1 0 0); clear E21
  go_at_call 21; refine (size_mem E22.out.mem 1 k1 8 true (by decide +kernel)).mono ?_; rintro e w' ⟨rfl, rfl⟩
  go_wp2_with fail
  generalize w21.alloc (.cells #[.int .i64 1, .int .u64 0, .int .i64 0] 32) = X at *
  generalize w8.heap.size = B1 at *
  generalize w11.heap.size = B2 at *
  generalize w14.heap.size = B3 at *
  generalize w21.heap.size = B4 at *
  have E := Lib.hid E22.out.drew
  clear E22
  go_region_held3 (fun w' => w'.cell? ⟨B1, 0, none⟩ = some (.int .i64 1) ∧ w'.cell? ⟨B1, 1, none⟩ = some (.int .u64 4294967294) ∧ w'.cell? ⟨B1, 2, none⟩ = some (.int .i64 0) ∧ w'.cell? ⟨B2, 0, none⟩ = some (.int .i64 1) ∧ w'.cell? ⟨B2, 1, none⟩ = some (.int .u64 255) ∧ w'.cell? ⟨B2, 2, none⟩ = some (.int .i64 0) ∧ w'.cell? ⟨B3, 0, none⟩ = some (.int .i64 0) ∧ w'.cell? ⟨B4, 0, none⟩ = some (.int .i64 1) ∧ w'.cell? ⟨B4, 1, none⟩ = some (.int .u64 0) ∧ w'.cell? ⟨B4, 2, none⟩ = some (.int .i64 0)) (exact ⟨(E.out.c l1).c0, (E.out.c l1).c1, (E.out.c l1).c2, (E.out.c l2).c0, (E.out.c l2).c1, (E.out.c l2).c2, (E.out.c l3).c0, (E.out.c l4).c0, (E.out.c l4).c1, (E.out.c l4).c2⟩) (first | (go_at_call 24; refine (int_f _ 4294967294 (by decide) _).mono ?_; rintro e w1 ⟨rfl, h1⟩; have E := Lib.hid (E.out.fresh h1)) | (go_at_call 24; refine (int_f _ 255 (by decide) _).mono ?_; rintro e w1 ⟨rfl, h1⟩; have E := Lib.hid (E.out.fresh h1)) | (go_at_call 24; refine (int_f _ 0 (by decide) _).mono ?_; rintro e w1 ⟨rfl, h1⟩; have E := Lib.hid (E.out.fresh h1)) | (go_at_call 13; refine (E.out.fix _ k1 true (by decide +kernel)).mono ?_; rintro e w1 ⟨rfl, E1⟩; have E := Lib.hid E1) | (go_at_call 11; refine (E.out.free _ k2 true (by decide +kernel)).mono ?_; rintro e w1 ⟨rfl, E1⟩; have E := Lib.hid E1) | (go_at_call 11; refine (E.out.free _ k2 false (by decide +kernel)).mono ?_; rintro e w1 ⟨rfl, E1⟩; have E := Lib.hid E1))
  all_goals (try go_wp2)
  all_goals go_light
  all_goals go_returns
  all_goals exact ⟨rfl, E.out.out⟩
end Go.Proofs.Ytjbflmpnmobngaa
