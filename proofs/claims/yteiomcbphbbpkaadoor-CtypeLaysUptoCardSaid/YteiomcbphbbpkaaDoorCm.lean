/- Types promoted; the common type of two. -/
import Derived.Test.YteiomcbphbbpkaaDoorCl
namespace Go.Proofs.YteiomcbphbbpkaaDoor
set_option linter.unusedSimpArgs false
set_option linter.unusedVariables false
open Go.RowKit
variable {ok : Nat → Prop}

attribute [local go_sem] as_98_98 as_98_62 as_98_65 as_98_67 as_98_71 as_98_69 as_98_85 as_62_98 as_62_62 as_62_65 as_62_67 as_62_71 as_62_69 as_62_85 as_65_98 as_65_62 as_65_65 as_65_67 as_65_71 as_65_69 as_65_85 as_67_98 as_67_62 as_67_65 as_67_67 as_67_71 as_67_69 as_67_85 as_71_98 as_71_62 as_71_65 as_71_67 as_71_71 as_71_69 as_71_85 as_69_98 as_69_62 as_69_65 as_69_67 as_69_71 as_69_69 as_69_85 as_85_98 as_85_62 as_85_65 as_85_67 as_85_71 as_85_69 as_85_85 as_nil_98 as_nil_62 as_nil_65 as_nil_67 as_nil_71 as_nil_69 as_nil_85
theorem copied_any {ok : Nat → Prop} (h : Hd) (ks : Tys) (p : Option Addr) (n cap : Nat) (w0 w : World) (hf : Fresh w0 w) (hk : Kids ok w0 ks p n cap) (hs : ks.small) (hl : ks.length ≤ 9) :
    Calls Tryd.prog 49 #[.agg #[.int .i64 h.kind, .int .i64 h.size, .int .i64 h.len, .bool h.flag, .string h.name, .slice p n cap]] w fun e w' => (∃ p' n' cap', e = .returned (.agg #[.int .i64 h.kind, .int .i64 h.size, .int .i64 h.len, .bool h.flag, .string h.name, .slice p' n' cap']) ∧ Kids (fun b => w.heap.size ≤ b) w' ks p' n' cap') ∧ Fresh w w' :=
  copied_of ks hl (copy_all ks hs) ok h p n cap w0 w hf hk
def isSmall (h : Hd) : Bool := h.kind == 2 && (h.size == 1 || h.size == 2)
def pro (h : Hd) : Hd := if isSmall h then numHd 4 false else h
def proK (h : Hd) (ks : Tys) : Tys := if isSmall h then .nil else ks
set_option maxHeartbeats 2000000 in
theorem promote_any {ok : Nat → Prop} (h : Hd) (ks : Tys) (p : Option Addr) (n cap : Nat) (w0 w : World) (hf : Fresh w0 w) (hks : Kids ok w0 ks p n cap) (hs : ks.small) (hl : ks.length ≤ 9) :
    Calls Tryd.prog 26 #[.agg #[.int .i64 h.kind, .int .i64 h.size, .int .i64 h.len, .bool h.flag, .string h.name, .slice p n cap]] w fun e w' => (∃ p' n' cap', e = .returned (.agg #[.int .i64 (pro h).kind, .int .i64 (pro h).size, .int .i64 (pro h).len, .bool (pro h).flag, .string (pro h).name, .slice p' n' cap']) ∧ Kids (fun b => w.heap.size ≤ b) w' (proK h ks) p' n' cap') ∧ Fresh w w' := by
  have HK := Lib.hid hks
  have HF := Lib.hid hf
  have HS := Lib.hid (And.intro hs hl)
  clear hks hf hs hl
  have HB := Lib.hid ((Blk.new w #[.int .i64 h.kind, .int .i64 h.size, .int .i64 h.len, .bool h.flag, .string h.name, .slice p n cap] 30).six.fresh ((Fresh.refl _).alloc #[.int .i64 0, .int .i64 0, .int .i64 0, .bool false, .string ⟨#[]⟩, .slice none 0 0] 30))
  have HR0 := (Blk.new (w.alloc (.cells #[.int .i64 h.kind, .int .i64 h.size, .int .i64 h.len, .bool h.flag, .string h.name, .slice p n cap] 30)) #[.int .i64 0, .int .i64 0, .int .i64 0, .bool false, .string ⟨#[]⟩, .slice none 0 0] 30).six
  simp only [World.size_alloc] at HR0
  have HR := Lib.hid HR0
  clear HR0
  rcases kinds h with hkd | hkd | hkd | hkd | hkd | hkd | hkd | hkd
  · have HKD := Lib.hid hkd
    have HP : Hid (pro h = h ∧ proK h ks = ks) := Lib.hid (by have : isSmall h = false := (by unfold isSmall; simp; omega); unfold pro proK; rw [this]; exact ⟨rfl, rfl⟩)
    clear hkd
    go_enter Tryd.func26, Tryd.ntmps26
    go_wp2_with fail
    go_at_call 43; refine (view1 h p n cap _ HKD.out).mono ?_; rintro e w1 ⟨rfl, h1⟩
    obtain ⟨b0, b1, b2, b3, b4, b5, bf⟩ := HB.out.fresh h1
    have bz := cell_lt b0
    simp only at bz
    have hr := HR.out.fresh h1
    go_wp2_with fail
    have hz1 := h1.size
    simp at hz1
    go_at_call 49; refine (copied_any h ks p n cap w0 _ (HF.out.trans (by (repeat' first | with_reducible exact Fresh.refl _ | with_reducible assumption | with_reducible refine Fresh.alloc ?_ _ _ | with_reducible refine Fresh.drew ?_ | with_reducible refine Fresh.drewN ?_ _ | with_reducible refine Fresh.setCell ?_ ?_ _ | with_reducible refine Fresh.trans ?_ (by assumption) | (simp; done) | (simp; omega)))) HK.out HS.out.1 HS.out.2).mono ?_; rintro e w2 ⟨⟨p2, n2, cap2, rfl, hk2⟩, h2⟩
    obtain ⟨r0, r1, r2, r3, r4, r5, rf⟩ := hr.fresh (((Fresh.refl _).alloc _ _).trans h2)
    have rz := cell_lt r0
    simp only at rz
    have HK2 := Lib.hid (hk2.mono (ok' := fun b => w.heap.size + 2 ≤ b) (fun b _ hb => by simp at hb; omega))
    clear hk2
    go_wp2_with fail
    refine bodyPost_ret (v := ?_) ?_ rfl ?_; rotate_left 1; focus (simp [results, Tryd.results26, go_sem, *]; (try rfl); done)
    rw [HP.out.1, HP.out.2]
    exact ⟨⟨_, _, _, rfl, ((((((HK2.out.set (by simp) 0 _).set (by simp) 1 _).set (by simp) 2 _).set (by simp) 3 _).set (by simp) 4 _).set (by simp) 5 _).mono (fun b _ hb => by omega)⟩, (by (repeat' first | with_reducible exact Fresh.refl _ | with_reducible assumption | with_reducible refine Fresh.alloc ?_ _ _ | with_reducible refine Fresh.drew ?_ | with_reducible refine Fresh.drewN ?_ _ | with_reducible refine Fresh.setCell ?_ ?_ _ | with_reducible refine Fresh.trans ?_ (by assumption) | (simp; done) | (simp; omega)))⟩
  · have HKD := Lib.hid hkd
    by_cases hsz : h.size = 1 ∨ h.size = 2
    · have HP : Hid (pro h = numHd 4 false ∧ proK h ks = .nil) := Lib.hid (by have : isSmall h = true := (by unfold isSmall; simp; exact ⟨hkd, hsz⟩); unfold pro proK; rw [this]; exact ⟨rfl, rfl⟩)
      clear hkd
      obtain ⟨s1, s2⟩ | ⟨s1, s2⟩ : ((h.size == 1) = true ∧ True) ∨ ((h.size == 1) = false ∧ (h.size == 2) = true) := by rcases hsz with e | e <;> simp [e]
      all_goals
        clear hsz
        go_enter Tryd.func26, Tryd.ntmps26
        go_wp2_with fail
        go_at_call 43; refine (view2 h p n cap _ HKD.out).mono ?_; rintro e w1 ⟨rfl, h1⟩
        obtain ⟨b0, b1, b2, b3, b4, b5, bf⟩ := HB.out.fresh h1
        have bz := cell_lt b0
        simp only at bz
        have hr := HR.out.fresh h1
        go_wp2_with fail
        go_at_call 36; refine (numT_any 4 false _).mono ?_; rintro e w2 ⟨rfl, h2⟩
        obtain ⟨r0, r1, r2, r3, r4, r5, rf⟩ := hr.fresh (((Fresh.refl _).alloc _ _).trans h2)
        have rz := cell_lt r0
        simp only at rz
        go_wp2_with fail
        refine bodyPost_ret (v := ?_) ?_ rfl ?_; rotate_left 1; focus (simp [results, Tryd.results26, go_sem, *]; (try rfl); done)
        rw [HP.out.1, HP.out.2]
        exact ⟨⟨_, _, _, rfl, Kids.none _⟩, (by (repeat' first | with_reducible exact Fresh.refl _ | with_reducible assumption | with_reducible refine Fresh.alloc ?_ _ _ | with_reducible refine Fresh.drew ?_ | with_reducible refine Fresh.drewN ?_ _ | with_reducible refine Fresh.setCell ?_ ?_ _ | with_reducible refine Fresh.trans ?_ (by assumption) | (simp; done) | (simp; omega)))⟩
    · have HP : Hid (pro h = h ∧ proK h ks = ks) := Lib.hid (by have : isSmall h = false := (by unfold isSmall; simp; omega); unfold pro proK; rw [this]; exact ⟨rfl, rfl⟩)
      have s1 : (h.size == 1) = false := by simp; omega
      have s2 : (h.size == 2) = false := by simp; omega
      clear hkd hsz
      go_enter Tryd.func26, Tryd.ntmps26
      go_wp2_with fail
      go_at_call 43; refine (view2 h p n cap _ HKD.out).mono ?_; rintro e w1 ⟨rfl, h1⟩
      obtain ⟨b0, b1, b2, b3, b4, b5, bf⟩ := HB.out.fresh h1
      have bz := cell_lt b0
      simp only at bz
      have hr := HR.out.fresh h1
      go_wp2_with fail
      have hz1 := h1.size
      simp at hz1
      go_at_call 49; refine (copied_any h ks p n cap w0 _ (HF.out.trans (by (repeat' first | with_reducible exact Fresh.refl _ | with_reducible assumption | with_reducible refine Fresh.alloc ?_ _ _ | with_reducible refine Fresh.drew ?_ | with_reducible refine Fresh.drewN ?_ _ | with_reducible refine Fresh.setCell ?_ ?_ _ | with_reducible refine Fresh.trans ?_ (by assumption) | (simp; done) | (simp; omega)))) HK.out HS.out.1 HS.out.2).mono ?_; rintro e w2 ⟨⟨p2, n2, cap2, rfl, hk2⟩, h2⟩
      obtain ⟨r0, r1, r2, r3, r4, r5, rf⟩ := hr.fresh (((Fresh.refl _).alloc _ _).trans h2)
      have rz := cell_lt r0
      simp only at rz
      have HK2 := Lib.hid (hk2.mono (ok' := fun b => w.heap.size + 2 ≤ b) (fun b _ hb => by simp at hb; omega))
      clear hk2
      go_wp2_with fail
      refine bodyPost_ret (v := ?_) ?_ rfl ?_; rotate_left 1; focus (simp [results, Tryd.results26, go_sem, *]; (try rfl); done)
      rw [HP.out.1, HP.out.2]
      exact ⟨⟨_, _, _, rfl, ((((((HK2.out.set (by simp) 0 _).set (by simp) 1 _).set (by simp) 2 _).set (by simp) 3 _).set (by simp) 4 _).set (by simp) 5 _).mono (fun b _ hb => by omega)⟩, (by (repeat' first | with_reducible exact Fresh.refl _ | with_reducible assumption | with_reducible refine Fresh.alloc ?_ _ _ | with_reducible refine Fresh.drew ?_ | with_reducible refine Fresh.drewN ?_ _ | with_reducible refine Fresh.setCell ?_ ?_ _ | with_reducible refine Fresh.trans ?_ (by assumption) | (simp; done) | (simp; omega)))⟩
  · have HKD := Lib.hid hkd
    have HP : Hid (pro h = h ∧ proK h ks = ks) := Lib.hid (by have : isSmall h = false := (by unfold isSmall; simp; omega); unfold pro proK; rw [this]; exact ⟨rfl, rfl⟩)
    clear hkd
    go_enter Tryd.func26, Tryd.ntmps26
    go_wp2_with fail
    go_at_call 43; refine (view3 h p n cap _ HKD.out).mono ?_; rintro e w1 ⟨rfl, h1⟩
    obtain ⟨b0, b1, b2, b3, b4, b5, bf⟩ := HB.out.fresh h1
    have bz := cell_lt b0
    simp only at bz
    have hr := HR.out.fresh h1
    go_wp2_with fail
    have hz1 := h1.size
    simp at hz1
    go_at_call 49; refine (copied_any h ks p n cap w0 _ (HF.out.trans (by (repeat' first | with_reducible exact Fresh.refl _ | with_reducible assumption | with_reducible refine Fresh.alloc ?_ _ _ | with_reducible refine Fresh.drew ?_ | with_reducible refine Fresh.drewN ?_ _ | with_reducible refine Fresh.setCell ?_ ?_ _ | with_reducible refine Fresh.trans ?_ (by assumption) | (simp; done) | (simp; omega)))) HK.out HS.out.1 HS.out.2).mono ?_; rintro e w2 ⟨⟨p2, n2, cap2, rfl, hk2⟩, h2⟩
    obtain ⟨r0, r1, r2, r3, r4, r5, rf⟩ := hr.fresh (((Fresh.refl _).alloc _ _).trans h2)
    have rz := cell_lt r0
    simp only at rz
    have HK2 := Lib.hid (hk2.mono (ok' := fun b => w.heap.size + 2 ≤ b) (fun b _ hb => by simp at hb; omega))
    clear hk2
    go_wp2_with fail
    refine bodyPost_ret (v := ?_) ?_ rfl ?_; rotate_left 1; focus (simp [results, Tryd.results26, go_sem, *]; (try rfl); done)
    rw [HP.out.1, HP.out.2]
    exact ⟨⟨_, _, _, rfl, ((((((HK2.out.set (by simp) 0 _).set (by simp) 1 _).set (by simp) 2 _).set (by simp) 3 _).set (by simp) 4 _).set (by simp) 5 _).mono (fun b _ hb => by omega)⟩, (by (repeat' first | with_reducible exact Fresh.refl _ | with_reducible assumption | with_reducible refine Fresh.alloc ?_ _ _ | with_reducible refine Fresh.drew ?_ | with_reducible refine Fresh.drewN ?_ _ | with_reducible refine Fresh.setCell ?_ ?_ _ | with_reducible refine Fresh.trans ?_ (by assumption) | (simp; done) | (simp; omega)))⟩
  · have HKD := Lib.hid hkd
    have HP : Hid (pro h = h ∧ proK h ks = ks) := Lib.hid (by have : isSmall h = false := (by unfold isSmall; simp; omega); unfold pro proK; rw [this]; exact ⟨rfl, rfl⟩)
    clear hkd
    go_enter Tryd.func26, Tryd.ntmps26
    go_wp2_with fail
    go_at_call 43; refine (view4 h ks p n cap _ w0 (HF.out.trans (by (repeat' first | with_reducible exact Fresh.refl _ | with_reducible assumption | with_reducible refine Fresh.alloc ?_ _ _ | with_reducible refine Fresh.drew ?_ | with_reducible refine Fresh.drewN ?_ _ | with_reducible refine Fresh.setCell ?_ ?_ _ | with_reducible refine Fresh.trans ?_ (by assumption) | (simp; done) | (simp; omega)))) HK.out HKD.out).mono ?_; rintro e w1 ⟨⟨p1, n1, cap1, rfl, hk1⟩, h1⟩; have HK1 := Lib.hid hk1; clear hk1
    obtain ⟨b0, b1, b2, b3, b4, b5, bf⟩ := HB.out.fresh h1
    have bz := cell_lt b0
    simp only at bz
    have hr := HR.out.fresh h1
    go_wp2_with fail
    have hz1 := h1.size
    simp at hz1
    go_at_call 49; refine (copied_any h ks p n cap w0 _ (HF.out.trans (by (repeat' first | with_reducible exact Fresh.refl _ | with_reducible assumption | with_reducible refine Fresh.alloc ?_ _ _ | with_reducible refine Fresh.drew ?_ | with_reducible refine Fresh.drewN ?_ _ | with_reducible refine Fresh.setCell ?_ ?_ _ | with_reducible refine Fresh.trans ?_ (by assumption) | (simp; done) | (simp; omega)))) HK.out HS.out.1 HS.out.2).mono ?_; rintro e w2 ⟨⟨p2, n2, cap2, rfl, hk2⟩, h2⟩
    obtain ⟨r0, r1, r2, r3, r4, r5, rf⟩ := hr.fresh (((Fresh.refl _).alloc _ _).trans h2)
    have rz := cell_lt r0
    simp only at rz
    have HK2 := Lib.hid (hk2.mono (ok' := fun b => w.heap.size + 2 ≤ b) (fun b _ hb => by simp at hb; omega))
    clear hk2
    go_wp2_with fail
    refine bodyPost_ret (v := ?_) ?_ rfl ?_; rotate_left 1; focus (simp [results, Tryd.results26, go_sem, *]; (try rfl); done)
    rw [HP.out.1, HP.out.2]
    exact ⟨⟨_, _, _, rfl, ((((((HK2.out.set (by simp) 0 _).set (by simp) 1 _).set (by simp) 2 _).set (by simp) 3 _).set (by simp) 4 _).set (by simp) 5 _).mono (fun b _ hb => by omega)⟩, (by (repeat' first | with_reducible exact Fresh.refl _ | with_reducible assumption | with_reducible refine Fresh.alloc ?_ _ _ | with_reducible refine Fresh.drew ?_ | with_reducible refine Fresh.drewN ?_ _ | with_reducible refine Fresh.setCell ?_ ?_ _ | with_reducible refine Fresh.trans ?_ (by assumption) | (simp; done) | (simp; omega)))⟩
  · have HKD := Lib.hid hkd
    have HP : Hid (pro h = h ∧ proK h ks = ks) := Lib.hid (by have : isSmall h = false := (by unfold isSmall; simp; omega); unfold pro proK; rw [this]; exact ⟨rfl, rfl⟩)
    clear hkd
    go_enter Tryd.func26, Tryd.ntmps26
    go_wp2_with fail
    go_at_call 43; refine (view5 h ks p n cap _ w0 (HF.out.trans (by (repeat' first | with_reducible exact Fresh.refl _ | with_reducible assumption | with_reducible refine Fresh.alloc ?_ _ _ | with_reducible refine Fresh.drew ?_ | with_reducible refine Fresh.drewN ?_ _ | with_reducible refine Fresh.setCell ?_ ?_ _ | with_reducible refine Fresh.trans ?_ (by assumption) | (simp; done) | (simp; omega)))) HK.out HKD.out).mono ?_; rintro e w1 ⟨⟨p1, n1, cap1, rfl, hk1⟩, h1⟩; have HK1 := Lib.hid hk1; clear hk1
    obtain ⟨b0, b1, b2, b3, b4, b5, bf⟩ := HB.out.fresh h1
    have bz := cell_lt b0
    simp only at bz
    have hr := HR.out.fresh h1
    go_wp2_with fail
    have hz1 := h1.size
    simp at hz1
    go_at_call 49; refine (copied_any h ks p n cap w0 _ (HF.out.trans (by (repeat' first | with_reducible exact Fresh.refl _ | with_reducible assumption | with_reducible refine Fresh.alloc ?_ _ _ | with_reducible refine Fresh.drew ?_ | with_reducible refine Fresh.drewN ?_ _ | with_reducible refine Fresh.setCell ?_ ?_ _ | with_reducible refine Fresh.trans ?_ (by assumption) | (simp; done) | (simp; omega)))) HK.out HS.out.1 HS.out.2).mono ?_; rintro e w2 ⟨⟨p2, n2, cap2, rfl, hk2⟩, h2⟩
    obtain ⟨r0, r1, r2, r3, r4, r5, rf⟩ := hr.fresh (((Fresh.refl _).alloc _ _).trans h2)
    have rz := cell_lt r0
    simp only at rz
    have HK2 := Lib.hid (hk2.mono (ok' := fun b => w.heap.size + 2 ≤ b) (fun b _ hb => by simp at hb; omega))
    clear hk2
    go_wp2_with fail
    refine bodyPost_ret (v := ?_) ?_ rfl ?_; rotate_left 1; focus (simp [results, Tryd.results26, go_sem, *]; (try rfl); done)
    rw [HP.out.1, HP.out.2]
    exact ⟨⟨_, _, _, rfl, ((((((HK2.out.set (by simp) 0 _).set (by simp) 1 _).set (by simp) 2 _).set (by simp) 3 _).set (by simp) 4 _).set (by simp) 5 _).mono (fun b _ hb => by omega)⟩, (by (repeat' first | with_reducible exact Fresh.refl _ | with_reducible assumption | with_reducible refine Fresh.alloc ?_ _ _ | with_reducible refine Fresh.drew ?_ | with_reducible refine Fresh.drewN ?_ _ | with_reducible refine Fresh.setCell ?_ ?_ _ | with_reducible refine Fresh.trans ?_ (by assumption) | (simp; done) | (simp; omega)))⟩
  · have HKD := Lib.hid hkd
    have HP : Hid (pro h = h ∧ proK h ks = ks) := Lib.hid (by have : isSmall h = false := (by unfold isSmall; simp; omega); unfold pro proK; rw [this]; exact ⟨rfl, rfl⟩)
    clear hkd
    go_enter Tryd.func26, Tryd.ntmps26
    go_wp2_with fail
    go_at_call 43; refine (view6 h p n cap _ HKD.out).mono ?_; rintro e w1 ⟨rfl, h1⟩
    obtain ⟨b0, b1, b2, b3, b4, b5, bf⟩ := HB.out.fresh h1
    have bz := cell_lt b0
    simp only at bz
    have hr := HR.out.fresh h1
    go_wp2_with fail
    have hz1 := h1.size
    simp at hz1
    go_at_call 49; refine (copied_any h ks p n cap w0 _ (HF.out.trans (by (repeat' first | with_reducible exact Fresh.refl _ | with_reducible assumption | with_reducible refine Fresh.alloc ?_ _ _ | with_reducible refine Fresh.drew ?_ | with_reducible refine Fresh.drewN ?_ _ | with_reducible refine Fresh.setCell ?_ ?_ _ | with_reducible refine Fresh.trans ?_ (by assumption) | (simp; done) | (simp; omega)))) HK.out HS.out.1 HS.out.2).mono ?_; rintro e w2 ⟨⟨p2, n2, cap2, rfl, hk2⟩, h2⟩
    obtain ⟨r0, r1, r2, r3, r4, r5, rf⟩ := hr.fresh (((Fresh.refl _).alloc _ _).trans h2)
    have rz := cell_lt r0
    simp only at rz
    have HK2 := Lib.hid (hk2.mono (ok' := fun b => w.heap.size + 2 ≤ b) (fun b _ hb => by simp at hb; omega))
    clear hk2
    go_wp2_with fail
    refine bodyPost_ret (v := ?_) ?_ rfl ?_; rotate_left 1; focus (simp [results, Tryd.results26, go_sem, *]; (try rfl); done)
    rw [HP.out.1, HP.out.2]
    exact ⟨⟨_, _, _, rfl, ((((((HK2.out.set (by simp) 0 _).set (by simp) 1 _).set (by simp) 2 _).set (by simp) 3 _).set (by simp) 4 _).set (by simp) 5 _).mono (fun b _ hb => by omega)⟩, (by (repeat' first | with_reducible exact Fresh.refl _ | with_reducible assumption | with_reducible refine Fresh.alloc ?_ _ _ | with_reducible refine Fresh.drew ?_ | with_reducible refine Fresh.drewN ?_ _ | with_reducible refine Fresh.setCell ?_ ?_ _ | with_reducible refine Fresh.trans ?_ (by assumption) | (simp; done) | (simp; omega)))⟩
  · have HKD := Lib.hid hkd
    have HP : Hid (pro h = h ∧ proK h ks = ks) := Lib.hid (by have : isSmall h = false := (by unfold isSmall; simp; omega); unfold pro proK; rw [this]; exact ⟨rfl, rfl⟩)
    clear hkd
    go_enter Tryd.func26, Tryd.ntmps26
    go_wp2_with fail
    go_at_call 43; refine (view7 h ks p n cap _ w0 (HF.out.trans (by (repeat' first | with_reducible exact Fresh.refl _ | with_reducible assumption | with_reducible refine Fresh.alloc ?_ _ _ | with_reducible refine Fresh.drew ?_ | with_reducible refine Fresh.drewN ?_ _ | with_reducible refine Fresh.setCell ?_ ?_ _ | with_reducible refine Fresh.trans ?_ (by assumption) | (simp; done) | (simp; omega)))) HK.out HKD.out).mono ?_; rintro e w1 ⟨⟨p1, n1, cap1, q1, m1, qc1, rfl, hk1, hq1⟩, h1⟩; have HK1 := Lib.hid hk1; have HQ1 := Lib.hid hq1; clear hk1 hq1
    obtain ⟨b0, b1, b2, b3, b4, b5, bf⟩ := HB.out.fresh h1
    have bz := cell_lt b0
    simp only at bz
    have hr := HR.out.fresh h1
    go_wp2_with fail
    have hz1 := h1.size
    simp at hz1
    go_at_call 49; refine (copied_any h ks p n cap w0 _ (HF.out.trans (by (repeat' first | with_reducible exact Fresh.refl _ | with_reducible assumption | with_reducible refine Fresh.alloc ?_ _ _ | with_reducible refine Fresh.drew ?_ | with_reducible refine Fresh.drewN ?_ _ | with_reducible refine Fresh.setCell ?_ ?_ _ | with_reducible refine Fresh.trans ?_ (by assumption) | (simp; done) | (simp; omega)))) HK.out HS.out.1 HS.out.2).mono ?_; rintro e w2 ⟨⟨p2, n2, cap2, rfl, hk2⟩, h2⟩
    obtain ⟨r0, r1, r2, r3, r4, r5, rf⟩ := hr.fresh (((Fresh.refl _).alloc _ _).trans h2)
    have rz := cell_lt r0
    simp only at rz
    have HK2 := Lib.hid (hk2.mono (ok' := fun b => w.heap.size + 2 ≤ b) (fun b _ hb => by simp at hb; omega))
    clear hk2
    go_wp2_with fail
    refine bodyPost_ret (v := ?_) ?_ rfl ?_; rotate_left 1; focus (simp [results, Tryd.results26, go_sem, *]; (try rfl); done)
    rw [HP.out.1, HP.out.2]
    exact ⟨⟨_, _, _, rfl, ((((((HK2.out.set (by simp) 0 _).set (by simp) 1 _).set (by simp) 2 _).set (by simp) 3 _).set (by simp) 4 _).set (by simp) 5 _).mono (fun b _ hb => by omega)⟩, (by (repeat' first | with_reducible exact Fresh.refl _ | with_reducible assumption | with_reducible refine Fresh.alloc ?_ _ _ | with_reducible refine Fresh.drew ?_ | with_reducible refine Fresh.drewN ?_ _ | with_reducible refine Fresh.setCell ?_ ?_ _ | with_reducible refine Fresh.trans ?_ (by assumption) | (simp; done) | (simp; omega)))⟩
  · have HKD := Lib.hid hkd
    have HP : Hid (pro h = h ∧ proK h ks = ks) := Lib.hid (by have : isSmall h = false := (by unfold isSmall; simp; omega); unfold pro proK; rw [this]; exact ⟨rfl, rfl⟩)
    clear hkd
    go_enter Tryd.func26, Tryd.ntmps26
    go_wp2_with fail
    go_at_call 43; refine (view0 h p n cap _ HKD.out).mono ?_; rintro e w1 ⟨rfl, h1⟩
    obtain ⟨b0, b1, b2, b3, b4, b5, bf⟩ := HB.out.fresh h1
    have bz := cell_lt b0
    simp only at bz
    have hr := HR.out.fresh h1
    go_wp2_with fail
    have hz1 := h1.size
    simp at hz1
    go_at_call 49; refine (copied_any h ks p n cap w0 _ (HF.out.trans (by (repeat' first | with_reducible exact Fresh.refl _ | with_reducible assumption | with_reducible refine Fresh.alloc ?_ _ _ | with_reducible refine Fresh.drew ?_ | with_reducible refine Fresh.drewN ?_ _ | with_reducible refine Fresh.setCell ?_ ?_ _ | with_reducible refine Fresh.trans ?_ (by assumption) | (simp; done) | (simp; omega)))) HK.out HS.out.1 HS.out.2).mono ?_; rintro e w2 ⟨⟨p2, n2, cap2, rfl, hk2⟩, h2⟩
    obtain ⟨r0, r1, r2, r3, r4, r5, rf⟩ := hr.fresh (((Fresh.refl _).alloc _ _).trans h2)
    have rz := cell_lt r0
    simp only at rz
    have HK2 := Lib.hid (hk2.mono (ok' := fun b => w.heap.size + 2 ≤ b) (fun b _ hb => by simp at hb; omega))
    clear hk2
    go_wp2_with fail
    refine bodyPost_ret (v := ?_) ?_ rfl ?_; rotate_left 1; focus (simp [results, Tryd.results26, go_sem, *]; (try rfl); done)
    rw [HP.out.1, HP.out.2]
    exact ⟨⟨_, _, _, rfl, ((((((HK2.out.set (by simp) 0 _).set (by simp) 1 _).set (by simp) 2 _).set (by simp) 3 _).set (by simp) 4 _).set (by simp) 5 _).mono (fun b _ hb => by omega)⟩, (by (repeat' first | with_reducible exact Fresh.refl _ | with_reducible assumption | with_reducible refine Fresh.alloc ?_ _ _ | with_reducible refine Fresh.drew ?_ | with_reducible refine Fresh.drewN ?_ _ | with_reducible refine Fresh.setCell ?_ ?_ _ | with_reducible refine Fresh.trans ?_ (by assumption) | (simp; done) | (simp; omega)))⟩
end Go.Proofs.YteiomcbphbbpkaaDoor
