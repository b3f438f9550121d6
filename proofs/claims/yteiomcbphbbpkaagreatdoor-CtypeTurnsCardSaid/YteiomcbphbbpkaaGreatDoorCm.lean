/- Types promoted; the common type of two. -/
import Derived.Test.YteiomcbphbbpkaaGreatDoorCl
namespace Go.Proofs.YteiomcbphbbpkaaGreatDoor
set_option linter.unusedSimpArgs false
set_option linter.unusedVariables false
open Go.RowKit
variable {ok : Nat → Prop}

attribute [local go_sem] as_87_87 as_87_36 as_87_45 as_87_56 as_87_66 as_87_58 as_87_94 as_36_87 as_36_36 as_36_45 as_36_56 as_36_66 as_36_58 as_36_94 as_45_87 as_45_36 as_45_45 as_45_56 as_45_66 as_45_58 as_45_94 as_56_87 as_56_36 as_56_45 as_56_56 as_56_66 as_56_58 as_56_94 as_66_87 as_66_36 as_66_45 as_66_56 as_66_66 as_66_58 as_66_94 as_58_87 as_58_36 as_58_45 as_58_56 as_58_66 as_58_58 as_58_94 as_94_87 as_94_36 as_94_45 as_94_56 as_94_66 as_94_58 as_94_94 as_nil_87 as_nil_36 as_nil_45 as_nil_56 as_nil_66 as_nil_58 as_nil_94
theorem copied_any {ok : Nat → Prop} (h : Hd) (ks : Tys) (p : Option Addr) (n cap : Nat) (w0 w : World) (hf : Fresh w0 w) (hk : Kids ok w0 ks p n cap) (hs : ks.small) (hl : ks.length ≤ 9) :
    Calls Tryz.prog 42 #[.agg #[.int .i64 h.kind, .int .i64 h.size, .int .i64 h.len, .bool h.flag, .string h.name, .slice p n cap]] w fun e w' => (∃ p' n' cap', e = .returned (.agg #[.int .i64 h.kind, .int .i64 h.size, .int .i64 h.len, .bool h.flag, .string h.name, .slice p' n' cap']) ∧ Kids (fun b => w.heap.size ≤ b) w' ks p' n' cap') ∧ Fresh w w' :=
  copied_of ks hl (copy_all ks hs) ok h p n cap w0 w hf hk
def isSmall (h : Hd) : Bool := h.kind == 2 && (h.size == 1 || h.size == 2)
def pro (h : Hd) : Hd := if isSmall h then numHd 4 false else h
def proK (h : Hd) (ks : Tys) : Tys := if isSmall h then .nil else ks
set_option maxHeartbeats 2000000 in
theorem promote_any {ok : Nat → Prop} (h : Hd) (ks : Tys) (p : Option Addr) (n cap : Nat) (w0 w : World) (hf : Fresh w0 w) (hks : Kids ok w0 ks p n cap) (hs : ks.small) (hl : ks.length ≤ 9) :
    Calls Tryz.prog 25 #[.agg #[.int .i64 h.kind, .int .i64 h.size, .int .i64 h.len, .bool h.flag, .string h.name, .slice p n cap]] w fun e w' => (∃ p' n' cap', e = .returned (.agg #[.int .i64 (pro h).kind, .int .i64 (pro h).size, .int .i64 (pro h).len, .bool (pro h).flag, .string (pro h).name, .slice p' n' cap']) ∧ Kids (fun b => w.heap.size ≤ b) w' (proK h ks) p' n' cap') ∧ Fresh w w' := by
  have HK := Lib.hid hks
  have HF := Lib.hid hf
  have HS := Lib.hid (And.intro hs hl)
  clear hks hf hs hl
  have HB := Lib.hid ((Blk.new w #[.int .i64 h.kind, .int .i64 h.size, .int .i64 h.len, .bool h.flag, .string h.name, .slice p n cap] 25).six.fresh ((Fresh.refl _).alloc #[.int .i64 0, .int .i64 0, .int .i64 0, .bool false, .string ⟨#[]⟩, .slice none 0 0] 25))
  have HR0 := (Blk.new (w.alloc (.cells #[.int .i64 h.kind, .int .i64 h.size, .int .i64 h.len, .bool h.flag, .string h.name, .slice p n cap] 25)) #[.int .i64 0, .int .i64 0, .int .i64 0, .bool false, .string ⟨#[]⟩, .slice none 0 0] 25).six
  simp only [World.size_alloc] at HR0
  have HR := Lib.hid HR0
  clear HR0
  rcases kinds h with hkd | hkd | hkd | hkd | hkd | hkd | hkd | hkd
  · have HKD := Lib.hid hkd
    have HP : Hid (pro h = h ∧ proK h ks = ks) := Lib.hid (by have : isSmall h = false := (by unfold isSmall; simp; omega); unfold pro proK; rw [this]; exact ⟨rfl, rfl⟩)
    clear hkd
    go_enter Tryz.func25, Tryz.ntmps25
    go_wp2_with fail
    go_at_call 32; refine (view1 h p n cap _ HKD.out).mono ?_; rintro e w1 ⟨rfl, h1⟩
    obtain ⟨b0, b1, b2, b3, b4, b5, bf⟩ := HB.out.fresh h1
    have bz := cell_lt b0
    simp only at bz
    have hr := HR.out.fresh h1
    go_wp2_with fail
    have hz1 := h1.size
    simp at hz1
    go_at_call 42; refine (copied_any h ks p n cap w0 _ (HF.out.trans (by (repeat' first | with_reducible exact Fresh.refl _ | with_reducible assumption | with_reducible refine Fresh.alloc ?_ _ _ | with_reducible refine Fresh.drew ?_ | with_reducible refine Fresh.drewN ?_ _ | with_reducible refine Fresh.setCell ?_ ?_ _ | with_reducible refine Fresh.trans ?_ (by assumption) | (simp; done) | (simp; omega)))) HK.out HS.out.1 HS.out.2).mono ?_; rintro e w2 ⟨⟨p2, n2, cap2, rfl, hk2⟩, h2⟩
    obtain ⟨r0, r1, r2, r3, r4, r5, rf⟩ := hr.fresh (((Fresh.refl _).alloc _ _).trans h2)
    have rz := cell_lt r0
    simp only at rz
    have HK2 := Lib.hid (hk2.mono (ok' := fun b => w.heap.size + 2 ≤ b) (fun b _ hb => by simp at hb; omega))
    clear hk2
    go_wp2_with fail
    refine bodyPost_ret (v := ?_) ?_ rfl ?_; rotate_left 1; focus (simp [results, Tryz.results25, go_sem, *]; (try rfl); done)
    rw [HP.out.1, HP.out.2]
    exact ⟨⟨_, _, _, rfl, ((((((HK2.out.set (by simp) 0 _).set (by simp) 1 _).set (by simp) 2 _).set (by simp) 3 _).set (by simp) 4 _).set (by simp) 5 _).mono (fun b _ hb => by omega)⟩, (by (repeat' first | with_reducible exact Fresh.refl _ | with_reducible assumption | with_reducible refine Fresh.alloc ?_ _ _ | with_reducible refine Fresh.drew ?_ | with_reducible refine Fresh.drewN ?_ _ | with_reducible refine Fresh.setCell ?_ ?_ _ | with_reducible refine Fresh.trans ?_ (by assumption) | (simp; done) | (simp; omega)))⟩
  · have HKD := Lib.hid hkd
    by_cases hsz : h.size = 1 ∨ h.size = 2
    · have HP : Hid (pro h = numHd 4 false ∧ proK h ks = .nil) := Lib.hid (by have : isSmall h = true := (by unfold isSmall; simp; exact ⟨hkd, hsz⟩); unfold pro proK; rw [this]; exact ⟨rfl, rfl⟩)
      clear hkd
      obtain ⟨s1, s2⟩ | ⟨s1, s2⟩ : ((h.size == 1) = true ∧ True) ∨ ((h.size == 1) = false ∧ (h.size == 2) = true) := by rcases hsz with e | e <;> simp [e]
      all_goals
        clear hsz
        go_enter Tryz.func25, Tryz.ntmps25
        go_wp2_with fail
        go_at_call 32; refine (view2 h p n cap _ HKD.out).mono ?_; rintro e w1 ⟨rfl, h1⟩
        obtain ⟨b0, b1, b2, b3, b4, b5, bf⟩ := HB.out.fresh h1
        have bz := cell_lt b0
        simp only at bz
        have hr := HR.out.fresh h1
        go_wp2_with fail
        go_at_call 8; refine (numT_any 4 false _).mono ?_; rintro e w2 ⟨rfl, h2⟩
        obtain ⟨r0, r1, r2, r3, r4, r5, rf⟩ := hr.fresh (((Fresh.refl _).alloc _ _).trans h2)
        have rz := cell_lt r0
        simp only at rz
        go_wp2_with fail
        refine bodyPost_ret (v := ?_) ?_ rfl ?_; rotate_left 1; focus (simp [results, Tryz.results25, go_sem, *]; (try rfl); done)
        rw [HP.out.1, HP.out.2]
        exact ⟨⟨_, _, _, rfl, Kids.none _⟩, (by (repeat' first | with_reducible exact Fresh.refl _ | with_reducible assumption | with_reducible refine Fresh.alloc ?_ _ _ | with_reducible refine Fresh.drew ?_ | with_reducible refine Fresh.drewN ?_ _ | with_reducible refine Fresh.setCell ?_ ?_ _ | with_reducible refine Fresh.trans ?_ (by assumption) | (simp; done) | (simp; omega)))⟩
    · have HP : Hid (pro h = h ∧ proK h ks = ks) := Lib.hid (by have : isSmall h = false := (by unfold isSmall; simp; omega); unfold pro proK; rw [this]; exact ⟨rfl, rfl⟩)
      have s1 : (h.size == 1) = false := by simp; omega
      have s2 : (h.size == 2) = false := by simp; omega
      clear hkd hsz
      go_enter Tryz.func25, Tryz.ntmps25
      go_wp2_with fail
      go_at_call 32; refine (view2 h p n cap _ HKD.out).mono ?_; rintro e w1 ⟨rfl, h1⟩
      obtain ⟨b0, b1, b2, b3, b4, b5, bf⟩ := HB.out.fresh h1
      have bz := cell_lt b0
      simp only at bz
      have hr := HR.out.fresh h1
      go_wp2_with fail
      have hz1 := h1.size
      simp at hz1
      go_at_call 42; refine (copied_any h ks p n cap w0 _ (HF.out.trans (by (repeat' first | with_reducible exact Fresh.refl _ | with_reducible assumption | with_reducible refine Fresh.alloc ?_ _ _ | with_reducible refine Fresh.drew ?_ | with_reducible refine Fresh.drewN ?_ _ | with_reducible refine Fresh.setCell ?_ ?_ _ | with_reducible refine Fresh.trans ?_ (by assumption) | (simp; done) | (simp; omega)))) HK.out HS.out.1 HS.out.2).mono ?_; rintro e w2 ⟨⟨p2, n2, cap2, rfl, hk2⟩, h2⟩
      obtain ⟨r0, r1, r2, r3, r4, r5, rf⟩ := hr.fresh (((Fresh.refl _).alloc _ _).trans h2)
      have rz := cell_lt r0
      simp only at rz
      have HK2 := Lib.hid (hk2.mono (ok' := fun b => w.heap.size + 2 ≤ b) (fun b _ hb => by simp at hb; omega))
      clear hk2
      go_wp2_with fail
      refine bodyPost_ret (v := ?_) ?_ rfl ?_; rotate_left 1; focus (simp [results, Tryz.results25, go_sem, *]; (try rfl); done)
      rw [HP.out.1, HP.out.2]
      exact ⟨⟨_, _, _, rfl, ((((((HK2.out.set (by simp) 0 _).set (by simp) 1 _).set (by simp) 2 _).set (by simp) 3 _).set (by simp) 4 _).set (by simp) 5 _).mono (fun b _ hb => by omega)⟩, (by (repeat' first | with_reducible exact Fresh.refl _ | with_reducible assumption | with_reducible refine Fresh.alloc ?_ _ _ | with_reducible refine Fresh.drew ?_ | with_reducible refine Fresh.drewN ?_ _ | with_reducible refine Fresh.setCell ?_ ?_ _ | with_reducible refine Fresh.trans ?_ (by assumption) | (simp; done) | (simp; omega)))⟩
  · have HKD := Lib.hid hkd
    have HP : Hid (pro h = h ∧ proK h ks = ks) := Lib.hid (by have : isSmall h = false := (by unfold isSmall; simp; omega); unfold pro proK; rw [this]; exact ⟨rfl, rfl⟩)
    clear hkd
    go_enter Tryz.func25, Tryz.ntmps25
    go_wp2_with fail
    go_at_call 32; refine (view3 h p n cap _ HKD.out).mono ?_; rintro e w1 ⟨rfl, h1⟩
    obtain ⟨b0, b1, b2, b3, b4, b5, bf⟩ := HB.out.fresh h1
    have bz := cell_lt b0
    simp only at bz
    have hr := HR.out.fresh h1
    go_wp2_with fail
    have hz1 := h1.size
    simp at hz1
    go_at_call 42; refine (copied_any h ks p n cap w0 _ (HF.out.trans (by (repeat' first | with_reducible exact Fresh.refl _ | with_reducible assumption | with_reducible refine Fresh.alloc ?_ _ _ | with_reducible refine Fresh.drew ?_ | with_reducible refine Fresh.drewN ?_ _ | with_reducible refine Fresh.setCell ?_ ?_ _ | with_reducible refine Fresh.trans ?_ (by assumption) | (simp; done) | (simp; omega)))) HK.out HS.out.1 HS.out.2).mono ?_; rintro e w2 ⟨⟨p2, n2, cap2, rfl, hk2⟩, h2⟩
    obtain ⟨r0, r1, r2, r3, r4, r5, rf⟩ := hr.fresh (((Fresh.refl _).alloc _ _).trans h2)
    have rz := cell_lt r0
    simp only at rz
    have HK2 := Lib.hid (hk2.mono (ok' := fun b => w.heap.size + 2 ≤ b) (fun b _ hb => by simp at hb; omega))
    clear hk2
    go_wp2_with fail
    refine bodyPost_ret (v := ?_) ?_ rfl ?_; rotate_left 1; focus (simp [results, Tryz.results25, go_sem, *]; (try rfl); done)
    rw [HP.out.1, HP.out.2]
    exact ⟨⟨_, _, _, rfl, ((((((HK2.out.set (by simp) 0 _).set (by simp) 1 _).set (by simp) 2 _).set (by simp) 3 _).set (by simp) 4 _).set (by simp) 5 _).mono (fun b _ hb => by omega)⟩, (by (repeat' first | with_reducible exact Fresh.refl _ | with_reducible assumption | with_reducible refine Fresh.alloc ?_ _ _ | with_reducible refine Fresh.drew ?_ | with_reducible refine Fresh.drewN ?_ _ | with_reducible refine Fresh.setCell ?_ ?_ _ | with_reducible refine Fresh.trans ?_ (by assumption) | (simp; done) | (simp; omega)))⟩
  · have HKD := Lib.hid hkd
    have HP : Hid (pro h = h ∧ proK h ks = ks) := Lib.hid (by have : isSmall h = false := (by unfold isSmall; simp; omega); unfold pro proK; rw [this]; exact ⟨rfl, rfl⟩)
    clear hkd
    go_enter Tryz.func25, Tryz.ntmps25
    go_wp2_with fail
    go_at_call 32; refine (view4 h ks p n cap _ w0 (HF.out.trans (by (repeat' first | with_reducible exact Fresh.refl _ | with_reducible assumption | with_reducible refine Fresh.alloc ?_ _ _ | with_reducible refine Fresh.drew ?_ | with_reducible refine Fresh.drewN ?_ _ | with_reducible refine Fresh.setCell ?_ ?_ _ | with_reducible refine Fresh.trans ?_ (by assumption) | (simp; done) | (simp; omega)))) HK.out HKD.out).mono ?_; rintro e w1 ⟨⟨p1, n1, cap1, rfl, hk1⟩, h1⟩; have HK1 := Lib.hid hk1; clear hk1
    obtain ⟨b0, b1, b2, b3, b4, b5, bf⟩ := HB.out.fresh h1
    have bz := cell_lt b0
    simp only at bz
    have hr := HR.out.fresh h1
    go_wp2_with fail
    have hz1 := h1.size
    simp at hz1
    go_at_call 42; refine (copied_any h ks p n cap w0 _ (HF.out.trans (by (repeat' first | with_reducible exact Fresh.refl _ | with_reducible assumption | with_reducible refine Fresh.alloc ?_ _ _ | with_reducible refine Fresh.drew ?_ | with_reducible refine Fresh.drewN ?_ _ | with_reducible refine Fresh.setCell ?_ ?_ _ | with_reducible refine Fresh.trans ?_ (by assumption) | (simp; done) | (simp; omega)))) HK.out HS.out.1 HS.out.2).mono ?_; rintro e w2 ⟨⟨p2, n2, cap2, rfl, hk2⟩, h2⟩
    obtain ⟨r0, r1, r2, r3, r4, r5, rf⟩ := hr.fresh (((Fresh.refl _).alloc _ _).trans h2)
    have rz := cell_lt r0
    simp only at rz
    have HK2 := Lib.hid (hk2.mono (ok' := fun b => w.heap.size + 2 ≤ b) (fun b _ hb => by simp at hb; omega))
    clear hk2
    go_wp2_with fail
    refine bodyPost_ret (v := ?_) ?_ rfl ?_; rotate_left 1; focus (simp [results, Tryz.results25, go_sem, *]; (try rfl); done)
    rw [HP.out.1, HP.out.2]
    exact ⟨⟨_, _, _, rfl, ((((((HK2.out.set (by simp) 0 _).set (by simp) 1 _).set (by simp) 2 _).set (by simp) 3 _).set (by simp) 4 _).set (by simp) 5 _).mono (fun b _ hb => by omega)⟩, (by (repeat' first | with_reducible exact Fresh.refl _ | with_reducible assumption | with_reducible refine Fresh.alloc ?_ _ _ | with_reducible refine Fresh.drew ?_ | with_reducible refine Fresh.drewN ?_ _ | with_reducible refine Fresh.setCell ?_ ?_ _ | with_reducible refine Fresh.trans ?_ (by assumption) | (simp; done) | (simp; omega)))⟩
  · have HKD := Lib.hid hkd
    have HP : Hid (pro h = h ∧ proK h ks = ks) := Lib.hid (by have : isSmall h = false := (by unfold isSmall; simp; omega); unfold pro proK; rw [this]; exact ⟨rfl, rfl⟩)
    clear hkd
    go_enter Tryz.func25, Tryz.ntmps25
    go_wp2_with fail
    go_at_call 32; refine (view5 h ks p n cap _ w0 (HF.out.trans (by (repeat' first | with_reducible exact Fresh.refl _ | with_reducible assumption | with_reducible refine Fresh.alloc ?_ _ _ | with_reducible refine Fresh.drew ?_ | with_reducible refine Fresh.drewN ?_ _ | with_reducible refine Fresh.setCell ?_ ?_ _ | with_reducible refine Fresh.trans ?_ (by assumption) | (simp; done) | (simp; omega)))) HK.out HKD.out).mono ?_; rintro e w1 ⟨⟨p1, n1, cap1, rfl, hk1⟩, h1⟩; have HK1 := Lib.hid hk1; clear hk1
    obtain ⟨b0, b1, b2, b3, b4, b5, bf⟩ := HB.out.fresh h1
    have bz := cell_lt b0
    simp only at bz
    have hr := HR.out.fresh h1
    go_wp2_with fail
    have hz1 := h1.size
    simp at hz1
    go_at_call 42; refine (copied_any h ks p n cap w0 _ (HF.out.trans (by (repeat' first | with_reducible exact Fresh.refl _ | with_reducible assumption | with_reducible refine Fresh.alloc ?_ _ _ | with_reducible refine Fresh.drew ?_ | with_reducible refine Fresh.drewN ?_ _ | with_reducible refine Fresh.setCell ?_ ?_ _ | with_reducible refine Fresh.trans ?_ (by assumption) | (simp; done) | (simp; omega)))) HK.out HS.out.1 HS.out.2).mono ?_; rintro e w2 ⟨⟨p2, n2, cap2, rfl, hk2⟩, h2⟩
    obtain ⟨r0, r1, r2, r3, r4, r5, rf⟩ := hr.fresh (((Fresh.refl _).alloc _ _).trans h2)
    have rz := cell_lt r0
    simp only at rz
    have HK2 := Lib.hid (hk2.mono (ok' := fun b => w.heap.size + 2 ≤ b) (fun b _ hb => by simp at hb; omega))
    clear hk2
    go_wp2_with fail
    refine bodyPost_ret (v := ?_) ?_ rfl ?_; rotate_left 1; focus (simp [results, Tryz.results25, go_sem, *]; (try rfl); done)
    rw [HP.out.1, HP.out.2]
    exact ⟨⟨_, _, _, rfl, ((((((HK2.out.set (by simp) 0 _).set (by simp) 1 _).set (by simp) 2 _).set (by simp) 3 _).set (by simp) 4 _).set (by simp) 5 _).mono (fun b _ hb => by omega)⟩, (by (repeat' first | with_reducible exact Fresh.refl _ | with_reducible assumption | with_reducible refine Fresh.alloc ?_ _ _ | with_reducible refine Fresh.drew ?_ | with_reducible refine Fresh.drewN ?_ _ | with_reducible refine Fresh.setCell ?_ ?_ _ | with_reducible refine Fresh.trans ?_ (by assumption) | (simp; done) | (simp; omega)))⟩
  · have HKD := Lib.hid hkd
    have HP : Hid (pro h = h ∧ proK h ks = ks) := Lib.hid (by have : isSmall h = false := (by unfold isSmall; simp; omega); unfold pro proK; rw [this]; exact ⟨rfl, rfl⟩)
    clear hkd
    go_enter Tryz.func25, Tryz.ntmps25
    go_wp2_with fail
    go_at_call 32; refine (view6 h p n cap _ HKD.out).mono ?_; rintro e w1 ⟨rfl, h1⟩
    obtain ⟨b0, b1, b2, b3, b4, b5, bf⟩ := HB.out.fresh h1
    have bz := cell_lt b0
    simp only at bz
    have hr := HR.out.fresh h1
    go_wp2_with fail
    have hz1 := h1.size
    simp at hz1
    go_at_call 42; refine (copied_any h ks p n cap w0 _ (HF.out.trans (by (repeat' first | with_reducible exact Fresh.refl _ | with_reducible assumption | with_reducible refine Fresh.alloc ?_ _ _ | with_reducible refine Fresh.drew ?_ | with_reducible refine Fresh.drewN ?_ _ | with_reducible refine Fresh.setCell ?_ ?_ _ | with_reducible refine Fresh.trans ?_ (by assumption) | (simp; done) | (simp; omega)))) HK.out HS.out.1 HS.out.2).mono ?_; rintro e w2 ⟨⟨p2, n2, cap2, rfl, hk2⟩, h2⟩
    obtain ⟨r0, r1, r2, r3, r4, r5, rf⟩ := hr.fresh (((Fresh.refl _).alloc _ _).trans h2)
    have rz := cell_lt r0
    simp only at rz
    have HK2 := Lib.hid (hk2.mono (ok' := fun b => w.heap.size + 2 ≤ b) (fun b _ hb => by simp at hb; omega))
    clear hk2
    go_wp2_with fail
    refine bodyPost_ret (v := ?_) ?_ rfl ?_; rotate_left 1; focus (simp [results, Tryz.results25, go_sem, *]; (try rfl); done)
    rw [HP.out.1, HP.out.2]
    exact ⟨⟨_, _, _, rfl, ((((((HK2.out.set (by simp) 0 _).set (by simp) 1 _).set (by simp) 2 _).set (by simp) 3 _).set (by simp) 4 _).set (by simp) 5 _).mono (fun b _ hb => by omega)⟩, (by (repeat' first | with_reducible exact Fresh.refl _ | with_reducible assumption | with_reducible refine Fresh.alloc ?_ _ _ | with_reducible refine Fresh.drew ?_ | with_reducible refine Fresh.drewN ?_ _ | with_reducible refine Fresh.setCell ?_ ?_ _ | with_reducible refine Fresh.trans ?_ (by assumption) | (simp; done) | (simp; omega)))⟩
  · have HKD := Lib.hid hkd
    have HP : Hid (pro h = h ∧ proK h ks = ks) := Lib.hid (by have : isSmall h = false := (by unfold isSmall; simp; omega); unfold pro proK; rw [this]; exact ⟨rfl, rfl⟩)
    clear hkd
    go_enter Tryz.func25, Tryz.ntmps25
    go_wp2_with fail
    go_at_call 32; refine (view7 h ks p n cap _ w0 (HF.out.trans (by (repeat' first | with_reducible exact Fresh.refl _ | with_reducible assumption | with_reducible refine Fresh.alloc ?_ _ _ | with_reducible refine Fresh.drew ?_ | with_reducible refine Fresh.drewN ?_ _ | with_reducible refine Fresh.setCell ?_ ?_ _ | with_reducible refine Fresh.trans ?_ (by assumption) | (simp; done) | (simp; omega)))) HK.out HKD.out).mono ?_; rintro e w1 ⟨⟨p1, n1, cap1, q1, m1, qc1, rfl, hk1, hq1⟩, h1⟩; have HK1 := Lib.hid hk1; have HQ1 := Lib.hid hq1; clear hk1 hq1
    obtain ⟨b0, b1, b2, b3, b4, b5, bf⟩ := HB.out.fresh h1
    have bz := cell_lt b0
    simp only at bz
    have hr := HR.out.fresh h1
    go_wp2_with fail
    have hz1 := h1.size
    simp at hz1
    go_at_call 42; refine (copied_any h ks p n cap w0 _ (HF.out.trans (by (repeat' first | with_reducible exact Fresh.refl _ | with_reducible assumption | with_reducible refine Fresh.alloc ?_ _ _ | with_reducible refine Fresh.drew ?_ | with_reducible refine Fresh.drewN ?_ _ | with_reducible refine Fresh.setCell ?_ ?_ _ | with_reducible refine Fresh.trans ?_ (by assumption) | (simp; done) | (simp; omega)))) HK.out HS.out.1 HS.out.2).mono ?_; rintro e w2 ⟨⟨p2, n2, cap2, rfl, hk2⟩, h2⟩
    obtain ⟨r0, r1, r2, r3, r4, r5, rf⟩ := hr.fresh (((Fresh.refl _).alloc _ _).trans h2)
    have rz := cell_lt r0
    simp only at rz
    have HK2 := Lib.hid (hk2.mono (ok' := fun b => w.heap.size + 2 ≤ b) (fun b _ hb => by simp at hb; omega))
    clear hk2
    go_wp2_with fail
    refine bodyPost_ret (v := ?_) ?_ rfl ?_; rotate_left 1; focus (simp [results, Tryz.results25, go_sem, *]; (try rfl); done)
    rw [HP.out.1, HP.out.2]
    exact ⟨⟨_, _, _, rfl, ((((((HK2.out.set (by simp) 0 _).set (by simp) 1 _).set (by simp) 2 _).set (by simp) 3 _).set (by simp) 4 _).set (by simp) 5 _).mono (fun b _ hb => by omega)⟩, (by (repeat' first | with_reducible exact Fresh.refl _ | with_reducible assumption | with_reducible refine Fresh.alloc ?_ _ _ | with_reducible refine Fresh.drew ?_ | with_reducible refine Fresh.drewN ?_ _ | with_reducible refine Fresh.setCell ?_ ?_ _ | with_reducible refine Fresh.trans ?_ (by assumption) | (simp; done) | (simp; omega)))⟩
  · have HKD := Lib.hid hkd
    have HP : Hid (pro h = h ∧ proK h ks = ks) := Lib.hid (by have : isSmall h = false := (by unfold isSmall; simp; omega); unfold pro proK; rw [this]; exact ⟨rfl, rfl⟩)
    clear hkd
    go_enter Tryz.func25, Tryz.ntmps25
    go_wp2_with fail
    go_at_call 32; refine (view0 h p n cap _ HKD.out).mono ?_; rintro e w1 ⟨rfl, h1⟩
    obtain ⟨b0, b1, b2, b3, b4, b5, bf⟩ := HB.out.fresh h1
    have bz := cell_lt b0
    simp only at bz
    have hr := HR.out.fresh h1
    go_wp2_with fail
    have hz1 := h1.size
    simp at hz1
    go_at_call 42; refine (copied_any h ks p n cap w0 _ (HF.out.trans (by (repeat' first | with_reducible exact Fresh.refl _ | with_reducible assumption | with_reducible refine Fresh.alloc ?_ _ _ | with_reducible refine Fresh.drew ?_ | with_reducible refine Fresh.drewN ?_ _ | with_reducible refine Fresh.setCell ?_ ?_ _ | with_reducible refine Fresh.trans ?_ (by assumption) | (simp; done) | (simp; omega)))) HK.out HS.out.1 HS.out.2).mono ?_; rintro e w2 ⟨⟨p2, n2, cap2, rfl, hk2⟩, h2⟩
    obtain ⟨r0, r1, r2, r3, r4, r5, rf⟩ := hr.fresh (((Fresh.refl _).alloc _ _).trans h2)
    have rz := cell_lt r0
    simp only at rz
    have HK2 := Lib.hid (hk2.mono (ok' := fun b => w.heap.size + 2 ≤ b) (fun b _ hb => by simp at hb; omega))
    clear hk2
    go_wp2_with fail
    refine bodyPost_ret (v := ?_) ?_ rfl ?_; rotate_left 1; focus (simp [results, Tryz.results25, go_sem, *]; (try rfl); done)
    rw [HP.out.1, HP.out.2]
    exact ⟨⟨_, _, _, rfl, ((((((HK2.out.set (by simp) 0 _).set (by simp) 1 _).set (by simp) 2 _).set (by simp) 3 _).set (by simp) 4 _).set (by simp) 5 _).mono (fun b _ hb => by omega)⟩, (by (repeat' first | with_reducible exact Fresh.refl _ | with_reducible assumption | with_reducible refine Fresh.alloc ?_ _ _ | with_reducible refine Fresh.drew ?_ | with_reducible refine Fresh.drewN ?_ _ | with_reducible refine Fresh.setCell ?_ ?_ _ | with_reducible refine Fresh.trans ?_ (by assumption) | (simp; done) | (simp; omega)))⟩
end Go.Proofs.YteiomcbphbbpkaaGreatDoor
