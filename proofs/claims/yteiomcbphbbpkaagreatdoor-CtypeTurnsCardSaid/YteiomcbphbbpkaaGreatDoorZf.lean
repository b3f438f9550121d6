/- The calls of the statement, as its walk takes them. -/
import Derived.Test.YteiomcbphbbpkaaGreatDoorZe
import Derived.Test.YteiomcbphbbpkaaGreatDoorCj
namespace Go.Proofs.YteiomcbphbbpkaaGreatDoor
set_option linter.unusedSimpArgs false
set_option linter.unusedVariables false
open Go.RowKit

/-- No parts: whatever the world. -/
def NK (p : Option Addr) (n cap : Nat) : Prop := ∀ (ok : Nat → Prop) (w : World), Kids ok w .nil p n cap
theorem NK.of {ok : Nat → Prop} {w : World} {p : Option Addr} {n cap : Nat} (h : Kids ok w .nil p n cap) : NK p n cap := by
  intro ok' w'
  obtain ⟨a, b, c, d⟩ := h
  refine ⟨a, b, c, ?_⟩
  rcases d with d | ⟨B, off, hp, -⟩
  · exact Or.inl d
  · exact Or.inr ⟨B, off, hp, trivial⟩
theorem NK.none : NK none 0 0 := fun _ w => Kids.none w
theorem one1 (c : Int) (h1 : 1 ≤ c) (h2 : c ≤ 9) (p : Option Addr) (cap : Nat) (w0 w : World) (hf : Fresh w0 w) (hc : CodeAt w0 (fun _ => c) 1 0 p 1 cap) :
    Calls Tryz.prog 5 #[.slice p 1 cap] w fun e w' => (∃ h p' n' cap', h ∈ A9 ∧ e = .returned (TYV h p' n' cap') ∧ NK p' n' cap') ∧ Fresh w w' := by
  refine (one_any (fun _ => c) 1 p cap w0 w hf hc).mono ?_
  rintro e w' ⟨⟨p', n', cap', rfl, hk⟩, hfr⟩
  rw [(h9_mem h1 h2).2] at hk
  exact ⟨⟨_, _, _, _, (h9_mem h1 h2).1, rfl, NK.of hk⟩, hfr⟩
theorem turned1 (v : Int × Int × Int) (a b : Hd) (ho : opsOk a b = true) (p q : Option Addr) (n m cap mc : Nat) (hp : NK p n cap) (hq : NK q m mc) (w : World) :
    Calls Tryz.prog 6 #[V3 v, TYV a p n cap, TYV b q m mc] w (Turned w (opsL a b) v) :=
  turned_any v a b ho .nil .nil (fun _ => True) (fun _ => True) p q n m cap mc w w (Fresh.refl w) (hp _ _) (hq _ _)
theorem ok_all : ∀ a ∈ A9, ∀ b ∈ A9, opsOk a b = true := by
  intro a ha b hb
  rcases a9_cases ha with ⟨p, hp, rfl⟩ | rfl <;> rcases a9_cases hb with ⟨r, hr, rfl⟩ | rfl
  · exact (ops_nn hp hr).2
  · exact (ops_nd hp).2.1
  · exact (ops_nd hr).2.2.2
  · exact ops_dd.2
theorem mem_H8 : H8 ∈ A9 := by simp [H8, A9]
theorem c63_u (t : Nat) : 0 ≤ (mach.cutL 93 t).1 ∧ (mach.cutL 93 t).1 < 18446744073709551616 := by
  simp [mach.cutL, IntKind.wrap, IntKind.bits, IntKind.signed]
  omega
open mach in
theorem cutd8 (x : Int) {q : (Int × Int × Int) × Bool} (hq : TurnR (cutO 8 false) ((3, x, 0), true) q) : 0 ≤ q.1.2.1 ∧ q.1.2.1 < 18446744073709551616 := by
  unfold cutO at hq
  rw [if_pos rfl] at hq
  obtain ⟨t, hq⟩ := turn_cons (o := 93) (k := 3) hq
  have e : eval1L 93 3 x t = answerL 2 (cutL 93 t).1 (cutL 93 t).2 := by simp only [eval1L, show shapeL 93 = (3, 0, 2) by decide, bits1L]; rfl
  rw [e] at hq
  have := turn_nil hq
  subst this
  have h := c63_u t
  unfold answerL
  cases (cutL 93 t).2
  · simp
  · exact h
variable {a b : Hd} {X : Int} {q1 q2 q3 q4 q5 : (Int × Int × Int) × Bool}
theorem end1 (h : Five a b X q1 q2 q3 q4 q5) (ha : a ∈ A9) (hb : b ∈ A9) : (q1.2 = true ∧ q2.2 = true) ∨ knd a = 3 := by
  rcases a9_cases ha with ⟨p, hp, rfl⟩ | rfl
  · rcases a9_cases hb with ⟨r, hr, rfl⟩ | rfl
    · obtain ⟨V, W, F, e1, e2, -⟩ := five_nn hp hr h
      rw [e1, e2]; exact Or.inl ⟨rfl, rfl⟩
    · obtain ⟨V, W, F, D, e1, e2, -⟩ := five_nd hp h
      rw [e1, e2]; exact Or.inl ⟨rfl, rfl⟩
  · exact Or.inr knd_d
theorem kd_nz (s : Int) : kd s = 1 ∧ ¬ s = 8 ∨ kd s = 2 ∧ s = 8 := by unfold kd; split <;> simp_all
theorem right_n (s W : Int) (hW : 0 ≤ W ∧ W < (if s = 8 then 18446744073709551616 else 4294967296)) : rightB (kd s, W, 0) = true := by
  rcases kd_nz s with ⟨e, h8⟩ | ⟨e, h8⟩
  · rw [if_neg h8] at hW; simp [rightB, e]; omega
  · simp [rightB, e]
theorem end2 (h : Five a b X q1 q2 q3 q4 q5) (ha : a ∈ A9) (hb : b ∈ A9) (h1 : q1.2 = true) (h2 : q2.2 = true) : (q2.1.1 = 3 ∨ q1.1.1 = 3) ∨ (q2.1.1 = knd b ∧ rightB q2.1 = true ∧ q3.2 = true ∧ q4.2 = true) := by
  rcases a9_cases ha with ⟨p, hp, rfl⟩ | rfl
  · rcases a9_cases hb with ⟨r, hr, rfl⟩ | rfl
    · obtain ⟨V, W, F, e1, e2, hW, e3, e4, -⟩ := five_nn hp hr h
      rw [e2, e3, e4]; exact Or.inr ⟨(knd_n hr).symm, right_n _ _ hW, rfl, rfl⟩
    · obtain ⟨V, W, F, D, e1, e2, -⟩ := five_nd hp h
      rw [e2]; exact Or.inl (Or.inl rfl)
  · left; right
    rcases a9_cases hb with ⟨r, hr, rfl⟩ | rfl
    · obtain ⟨D, e1, -⟩ := five_dn hr h
      rw [e1]
    · obtain ⟨D, e1, -⟩ := five_dd h
      rw [e1]
theorem end3 (h : Five a b X q1 q2 q3 q4 q5) (ha : a ∈ A9) (hb : b ∈ A9) (h2 : q2.2 = true) (h4 : q4.2 = true) :
    q5.1.1 = 3 ∨ ∃ p ∈ I8, b = numHd p.1 p.2 ∧ (q5.1 = q2.1 → holdsI p.1 p.2 (wrap64 q4.1.2.1) → wrap64 q4.1.2.1 = wrap64 q3.1.2.1) := by
  rcases a9_cases ha with ⟨p, hp, rfl⟩ | rfl
  · rcases a9_cases hb with ⟨r, hr, rfl⟩ | rfl
    · obtain ⟨V, W, F, e1, e2, hW, e3, e4, hF, e5⟩ := five_nn hp hr h
      rw [e5, e2, e4, e3]
      refine Or.inr ⟨r, hr, rfl, fun e hh => ?_⟩
      simp only [Prod.mk.injEq, true_and, and_true] at e
      simp only at hh ⊢
      rw [← e, back_cut hr F hF hh]
    · obtain ⟨V, W, F, D, e1, e2, e4, e5⟩ := five_nd hp h
      rw [e5]; exact Or.inl rfl
  · rcases a9_cases hb with ⟨r, hr, rfl⟩ | rfl
    · obtain ⟨D, e1, hh⟩ := five_dn hr h
      rcases hh with hh | ⟨W, e2, e3, hh⟩
      · rw [hh] at h2; cases h2
      · rcases hh with hh | ⟨F, e4, e5⟩
        · rw [hh] at h4; cases h4
        · have hF : 0 ≤ F ∧ F < 18446744073709551616 := by
            have t4 := h.t4
            rw [show opsL (hd1 3) H8 = cutO 8 false from (ops_nd mem8).2.2.1, e1] at t4
            have := cutd8 D t4
            rw [e4] at this
            exact this
          rw [e5 hF, e2, e4, e3]
          refine Or.inr ⟨r, hr, rfl, fun e hh => ?_⟩
          simp only [Prod.mk.injEq, true_and, and_true] at e
          simp only at hh ⊢
          rw [← e, back_cut hr F hF hh]
    · obtain ⟨D, e1, e2, hh⟩ := five_dd h
      rcases hh with hh | ⟨F, E, e4, e5⟩
      · rw [hh] at h4; cases h4
      · rw [e5]; exact Or.inl rfl
open mach in
theorem c32_u (t : Nat) : 0 ≤ (c32 t).1 ∧ (c32 t).1 < 4294967296 := by
  unfold c32
  simp only
  split
  · rename_i h
    have := win32 h
    omega
  · omega
theorem small_in {s : Int} {u : Bool} (x : Int) (hx : 0 ≤ x ∧ x < 4294967296) {q : (Int × Int × Int) × Bool} (hq : TurnR (smallO s u) ((1, x, 0), true) q) : rightB q.1 = true := by
  obtain ⟨y, rfl, h0, h1⟩ := small_turn x hx hq
  simp [rightB]; omega
open mach in
theorem cutd_right (s : Int) (u : Bool) (x : Int) {q : (Int × Int × Int) × Bool} (hq : TurnR (cutO s u) ((3, x, 0), true) q) (h2 : q.2 = true) : rightB q.1 = true := by
  by_cases h8 : s = 8
  · rcases cutd_turn s u x hq with ⟨y, rfl⟩ | rfl
    · subst h8; simp [rightB, kd]
    · cases h2
  · unfold cutO at hq
    rw [if_neg h8] at hq
    have e91' : ∀ t, eval1L 91 3 x t = answerL 1 (cutL 91 t).1 (cutL 91 t).2 := fun t => by simp only [eval1L, show shapeL 91 = (3, 0, 1) by decide, bits1L]; rfl
    have e92' : ∀ t, eval1L 92 3 x t = answerL 1 (cutL 92 t).1 (cutL 92 t).2 := fun t => by simp only [eval1L, show shapeL 92 = (3, 0, 1) by decide, bits1L]; rfl
    have u91 : ∀ t, 0 ≤ (cutL 91 t).1 ∧ (cutL 91 t).1 < 4294967296 := fun t => by simp [cutL]; omega
    have u92 : ∀ t, 0 ≤ (cutL 92 t).1 ∧ (cutL 92 t).1 < 4294967296 := fun t => by have := c32_u t; simp [cutL, IntKind.wrap, IntKind.bits, IntKind.signed]; omega
    split at hq
    · cases u
      · obtain ⟨t, hq⟩ := turn_cons (o := 91) (k := 3) hq
        rw [e91'] at hq
        have hu := u91 t
        revert hq hu
        generalize (cutL 91 t).1 = y
        cases (cutL 91 t).2
        · intro hq hu; rw [turn_nil hq]; rfl
        · intro hq hu; rw [turn_nil hq]; simp [answerL, rightB]; omega
      · obtain ⟨t, hq⟩ := turn_cons (o := 92) (k := 3) hq
        rw [e92'] at hq
        have hu := u92 t
        revert hq hu
        generalize (cutL 92 t).1 = y
        cases (cutL 92 t).2
        · intro hq hu; rw [turn_nil hq]; rfl
        · intro hq hu; rw [turn_nil hq]; simp [answerL, rightB]; omega
    · obtain ⟨t, hq⟩ := turn_cons (o := 91) (k := 3) hq
      rw [e91'] at hq
      have hu := u91 t
      revert hq hu
      generalize (cutL 91 t).1 = y
      cases (cutL 91 t).2
      · intro hq hu; have := turn_no _ _ _ hq; rw [this]; rfl
      · intro hq hu; exact small_in _ hu hq
/-- What comes of two conversions has the type's kind and is right. -/
theorem end0 (h : Five a b X q1 q2 q3 q4 q5) (ha : a ∈ A9) (hb : b ∈ A9) (h2 : q2.2 = true) : q2.1.1 = knd b ∧ rightB q2.1 = true := by
  rcases a9_cases ha with ⟨p, hp, rfl⟩ | rfl
  · rcases a9_cases hb with ⟨r, hr, rfl⟩ | rfl
    · obtain ⟨V, W, F, e1, e2, hW, -⟩ := five_nn hp hr h
      rw [e2]; exact ⟨(knd_n hr).symm, right_n _ _ hW⟩
    · obtain ⟨V, W, F, D, e1, e2, -⟩ := five_nd hp h
      rw [e2]; exact ⟨knd_d.symm, by simp [rightB]⟩
  · rcases a9_cases hb with ⟨r, hr, rfl⟩ | rfl
    · have t2 := h.t2
      obtain ⟨D, e1, hh⟩ := five_dn hr h
      rw [(ops_nd hr).2.2.1, e1] at t2
      refine ⟨?_, cutd_right _ _ _ t2 h2⟩
      rcases hh with hh | ⟨W, e2, -⟩
      · rw [hh] at h2; cases h2
      · rw [e2]; exact (knd_n hr).symm
    · obtain ⟨D, e1, e2, -⟩ := five_dd h
      rw [e2]; exact ⟨knd_d.symm, by simp [rightB]⟩
section
set_option maxRecDepth 100000
set_option maxHeartbeats 2000000
theorem longOf_any (n : Int) (w : World) : Calls Tryz.prog 7 #[.int .i64 n] w fun e w' => e = .returned (V3 (2, IntKind.u64.wrap n, 0)) ∧ Fresh w w' := by
  go_enter Tryz.func7, Tryz.ntmps7
  go_wp2
  all_goals (go_returns; go_light)
  all_goals exact ⟨rfl, (Fresh.refl w).alloc _ _⟩
end
end Go.Proofs.YteiomcbphbbpkaaGreatDoor
