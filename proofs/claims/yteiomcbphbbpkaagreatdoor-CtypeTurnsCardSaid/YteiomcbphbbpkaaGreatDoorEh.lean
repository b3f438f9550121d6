/- The fixed calls, one by one. -/
import Derived.Test.YteiomcbphbbpkaaGreatDoorEf
namespace Go.Proofs.YteiomcbphbbpkaaGreatDoor
set_option linter.unusedSimpArgs false
set_option linter.unusedVariables false
open Go.RowKit

/-- What the last region reads. -/
structure FX (w' : World) (b8 g2 b12 b14 : Nat) (p19 : Option Addr) : Prop where
  c0 : w'.cell? ⟨b8, 0, none⟩ = some (.int .i64 2)
  c1 : w'.cell? ⟨b8, 1, none⟩ = some (.int .i64 4)
  c2 : w'.cell? ⟨b8, 2, none⟩ = some (.int .i64 0)
  c3 : w'.cell? ⟨b8, 3, none⟩ = some (.bool true)
  c4 : w'.cell? ⟨b8, 4, none⟩ = some (.string ⟨#[]⟩)
  c5 : w'.cell? ⟨b8, 5, none⟩ = some (.slice none 0 0)
  c6 : w'.cell? ⟨g2, 1, none⟩ = some (.int .i64 80)
  c7 : w'.cell? ⟨b12, 3, none⟩ = some (.int .i64 16)
  c8 : w'.cell? ⟨b14, 0, none⟩ = some (.int .i64 4)
  c9 : w'.cell? ⟨b14, 1, none⟩ = some (.int .i64 0)
  c10 : w'.cell? ⟨b14, 2, none⟩ = some (.int .i64 0)
  c11 : w'.cell? ⟨b14, 3, none⟩ = some (.bool false)
  c12 : w'.cell? ⟨b14, 4, none⟩ = some (.string ⟨#[]⟩)
  c13 : w'.cell? ⟨b14, 5, none⟩ = some (.slice p19 1 1)
  c14 : w'.cell? ⟨b14, 6, none⟩ = some (.int .i64 3)
theorem FX.later {w w' : World} {b8 g2 b12 b14 : Nat} {p19 : Option Addr} (h : FX w b8 g2 b12 b14 p19) (hf : Fresh w w') : FX w' b8 g2 b12 b14 p19 :=
  ⟨hf.at' h.c0, hf.at' h.c1, hf.at' h.c2, hf.at' h.c3, hf.at' h.c4, hf.at' h.c5, hf.at' h.c6, hf.at' h.c7, hf.at' h.c8, hf.at' h.c9, hf.at' h.c10, hf.at' h.c11, hf.at' h.c12, hf.at' h.c13, hf.at' h.c14⟩
/-- Types int*[3] that were made. -/
def KP (w : World) (l : List (Option Addr)) : Prop := ∀ p ∈ l, Kids (fun _ => True) w tyP p 1 1
theorem KP.get {w : World} {l : List (Option Addr)} {p : Option Addr} (h : KP w l) (hp : p ∈ l) : Kids (fun _ => True) w tyP p 1 1 := h p hp
theorem KP.later {w w' : World} {l : List (Option Addr)} (h : KP w l) (hf : Fresh w w') : KP w' l := fun p hp => (h p hp).later hf
theorem KP.cons {w : World} {l : List (Option Addr)} {p : Option Addr} (h : KP w l) (hk : Kids (fun _ => True) w (.cons ⟨4, 0, 0, false, ⟨#[]⟩⟩ (.cons (numHd 4 false) .nil .nil) .nil) p 1 1) : KP w (p :: l) := fun q hq => by
  rcases List.mem_cons.1 hq with rfl | hq
  · exact hk
  · exact h q hq
set_option maxRecDepth 100000 in
set_option maxHeartbeats 8000000 in
theorem fixed_any (w : World) : Calls Tryz.prog 4 #[] w fun e w' => e = .returned (.bool true) ∧ Fresh w w' := by
  go_enter Tryz.func4, Tryz.ntmps4
  go_wp2_with fail
  go_at_call 8; refine (numT_any 1 false _).mono ?_; rintro e w1 ⟨rfl, h1⟩
  go_wp2_with fail
  go_at_call 8; refine (numT_any 4 false _).mono ?_; rintro e w2 ⟨rfl, h2⟩
  go_wp2_with fail
  go_at_call 12; refine (floatT_any _).mono ?_; rintro e w3 ⟨rfl, h3⟩
  have H3 : Hid (Fresh w w3) := Lib.hid (h1.trans (h2.trans h3))
  clear h1 h2 h3
  go_wp2_with fail
  go_at_call 13; refine (lay_lit w3.heap.size _ _ (Fresh.refl _) (fds_row w3)).mono ?_; rintro e w4 ⟨⟨g, fc, rfl, c15, hfs⟩, h4⟩
  have H4 : Hid (Fresh w w4) := Lib.hid (H3.out.trans ((((Fresh.refl w3).alloc c24 43)).trans h4))
  have HFS := Lib.hid hfs
  have hg := cell_lt c15
  simp only at hg
  clear h4 hfs H3
  go_upto_region 6 with fail
  have H5 : Hid (Fresh w ((w4.alloc (.cells #[.string ⟨#[115]⟩, .bool false, .slice (some ⟨g, 0, none⟩) 3 fc, .int .i64 16, .int .i64 8] 48)).alloc (.cells #[.string ⟨#[115]⟩, .bool false, .slice (some ⟨g, 0, none⟩) 3 fc, .int .i64 16, .int .i64 8] 48))) := Lib.hid (H4.out.trans (by (repeat' first | with_reducible exact Fresh.refl _ | with_reducible assumption | with_reducible refine Fresh.alloc ?_ _ _ | with_reducible refine Fresh.drew ?_ | with_reducible refine Fresh.drewN ?_ _ | with_reducible refine Fresh.setCell ?_ ?_ _ | with_reducible refine Fresh.trans ?_ (by assumption) | (simp; done) | (simp; omega))))
  have HL5 : Hid (LaysAt ((w4.alloc (.cells #[.string ⟨#[115]⟩, .bool false, .slice (some ⟨g, 0, none⟩) 3 fc, .int .i64 16, .int .i64 8] 48)).alloc (.cells #[.string ⟨#[115]⟩, .bool false, .slice (some ⟨g, 0, none⟩) 3 fc, .int .i64 16, .int .i64 8] 48)) (some ⟨w4.heap.size + 1, 0, none⟩) 1 (fl g fc)) := Lib.hid (lays_fl (by have := Blk.new (w4.alloc (.cells #[.string ⟨#[115]⟩, .bool false, .slice (some ⟨g, 0, none⟩) 3 fc, .int .i64 16, .int .i64 8] 48)) #[.string ⟨#[115]⟩, .bool false, .slice (some ⟨g, 0, none⟩) 3 fc, .int .i64 16, .int .i64 8] 48; simpa only [World.size_alloc] using this))
  have HF5 : Hid (FSlice (fun _ => True) ((w4.alloc (.cells #[.string ⟨#[115]⟩, .bool false, .slice (some ⟨g, 0, none⟩) 3 fc, .int .i64 16, .int .i64 8] 48)).alloc (.cells #[.string ⟨#[115]⟩, .bool false, .slice (some ⟨g, 0, none⟩) 3 fc, .int .i64 16, .int .i64 8] 48)) fdo (some ⟨g, 0, none⟩) 3 fc) := Lib.hid ((HFS.out.later (by (repeat' first | with_reducible exact Fresh.refl _ | with_reducible assumption | with_reducible refine Fresh.alloc ?_ _ _ | with_reducible refine Fresh.drew ?_ | with_reducible refine Fresh.drewN ?_ _ | with_reducible refine Fresh.setCell ?_ ?_ _ | with_reducible refine Fresh.trans ?_ (by assumption) | (simp; done) | (simp; omega)))).turn (fun _ _ _ _ h => h) (fun _ _ => trivial))
  clear c15 hg HFS H4
  generalize ((w4.alloc (.cells #[.string ⟨#[115]⟩, .bool false, .slice (some ⟨g, 0, none⟩) 3 fc, .int .i64 16, .int .i64 8] 48)).alloc (.cells #[.string ⟨#[115]⟩, .bool false, .slice (some ⟨g, 0, none⟩) 3 fc, .int .i64 16, .int .i64 8] 48)) = W5 at *
  generalize w4.heap.size + 1 = K at *
  go_wp2_with fail
  go_at_call 15; refine (recT_any ⟨#[115]⟩ false _).mono ?_; rintro e w6 ⟨rfl, h6⟩
  go_wp2_with fail
  go_at_call 16; refine (arrT_any (ok := fun _ => True) (recHd ⟨#[115]⟩ false) .nil none 0 0 3 _ (fun _ _ => trivial) (Kids.none _)).mono ?_; rintro e w7 ⟨⟨p7, rfl, hk7⟩, h7⟩
  have H7 : Hid (Fresh W5 w7) := Lib.hid (h6.trans h7)
  have HK7 := Lib.hid hk7
  clear h6 h7 hk7
  go_wp2_with fail
  go_at_call 14; refine (size_lit K g fc p7 w7 _ (by (repeat' first | with_reducible exact Fresh.refl _ | with_reducible assumption | with_reducible refine Fresh.alloc ?_ _ _ | with_reducible refine Fresh.drew ?_ | with_reducible refine Fresh.drewN ?_ _ | with_reducible refine Fresh.setCell ?_ ?_ _ | with_reducible refine Fresh.trans ?_ (by assumption) | (simp; done) | (simp; omega))) HK7.out (HL5.out.later H7.out)).mono ?_; rintro e w8 ⟨rfl, h8⟩
  have H8 : Hid (Fresh W5 w8) := Lib.hid (H7.out.trans h8)
  clear h8 HK7 H7
  go_wp2_with fail
  go_at_call 8; refine (numT_any 1 false _).mono ?_; rintro e w9 ⟨rfl, h9⟩
  go_wp2_with fail
  go_at_call 8; refine (numT_any 4 true _).mono ?_; rintro e w10 ⟨rfl, h10⟩
  go_wp2_with fail
  go_at_call 17; refine (common_lit _).mono ?_; rintro e w11 ⟨rfl, h11⟩
  have H11 : Hid (Fresh W5 w11) := Lib.hid (H8.out.trans (h9.trans (h10.trans h11)))
  clear h9 h10 h11 H8
  go_wp2_with fail
  have F0 : Hid (Fresh W5 (w11.alloc (.cells #[.int .i64 2, .int .i64 4, .int .i64 0, .bool true, .string ⟨#[]⟩, .slice none 0 0] 25))) := Lib.hid (H11.out.trans (by (repeat' first | with_reducible exact Fresh.refl _ | with_reducible assumption | with_reducible refine Fresh.alloc ?_ _ _ | with_reducible refine Fresh.drew ?_ | with_reducible refine Fresh.drewN ?_ _ | with_reducible refine Fresh.setCell ?_ ?_ _ | with_reducible refine Fresh.trans ?_ (by assumption) | (simp; done) | (simp; omega))))
  have B8 : Hid (Blk (w11.alloc (.cells #[.int .i64 2, .int .i64 4, .int .i64 0, .bool true, .string ⟨#[]⟩, .slice none 0 0] 25)) w11.heap.size [.int .i64 2, .int .i64 4, .int .i64 0, .bool true, .string ⟨#[]⟩, .slice none 0 0]) := Lib.hid (Blk.new w11 #[.int .i64 2, .int .i64 4, .int .i64 0, .bool true, .string ⟨#[]⟩, .slice none 0 0] 25)
  clear H11
  generalize (w11.alloc (.cells #[.int .i64 2, .int .i64 4, .int .i64 0, .bool true, .string ⟨#[]⟩, .slice none 0 0] 25)) = W12 at *
  generalize w11.heap.size = b8 at *
  go_at_call 8; refine (numT_any 8 false _).mono ?_; rintro e w13 ⟨rfl, h13⟩
  go_wp2_with fail
  go_at_call 8; refine (numT_any 1 false _).mono ?_; rintro e w14 ⟨rfl, h14⟩
  go_wp2_with fail
  go_at_call 18; refine (ops_lit _).mono ?_; rintro e w15 ⟨⟨g2, c2, rfl, hc80⟩, h15⟩
  have H15 : Hid (Fresh W12 w15) := Lib.hid (h13.trans (h14.trans h15))
  have HC80 := Lib.hid hc80
  clear h13 h14 h15 hc80
  go_wp2_with fail
  go_at_call 19; refine (find_lit K g fc W5 _ (F0.out.trans H15.out) HL5.out HF5.out).mono ?_; rintro e w16 ⟨⟨p16, n16, c16, rfl⟩, h16⟩
  have H16 : Hid (Fresh W12 w16) := Lib.hid (H15.out.trans h16)
  have HC := Lib.hid (h16.at' HC80.out)
  clear h16 HC80 H15 HL5 HF5
  go_upto_region 10 with fail
  have F17 : Hid (Fresh W12 (w16.alloc (.cells #[.string ⟨#[115]⟩, .bool false, .slice p16 n16 c16, .int .i64 16, .int .i64 8] 48))) := Lib.hid (H16.out.trans (by (repeat' first | with_reducible exact Fresh.refl _ | with_reducible assumption | with_reducible refine Fresh.alloc ?_ _ _ | with_reducible refine Fresh.drew ?_ | with_reducible refine Fresh.drewN ?_ _ | with_reducible refine Fresh.setCell ?_ ?_ _ | with_reducible refine Fresh.trans ?_ (by assumption) | (simp; done) | (simp; omega))))
  have B12 : Hid (Blk (w16.alloc (.cells #[.string ⟨#[115]⟩, .bool false, .slice p16 n16 c16, .int .i64 16, .int .i64 8] 48)) w16.heap.size [.string ⟨#[115]⟩, .bool false, .slice p16 n16 c16, .int .i64 16, .int .i64 8]) := Lib.hid (Blk.new w16 #[.string ⟨#[115]⟩, .bool false, .slice p16 n16 c16, .int .i64 16, .int .i64 8] 48)
  have B8 := Lib.hid (B8.out.fresh F17.out)
  have HC := Lib.hid ((show Fresh w16 (w16.alloc (.cells #[.string ⟨#[115]⟩, .bool false, .slice p16 n16 c16, .int .i64 16, .int .i64 8] 48)) from (by (repeat' first | with_reducible exact Fresh.refl _ | with_reducible assumption | with_reducible refine Fresh.alloc ?_ _ _ | with_reducible refine Fresh.drew ?_ | with_reducible refine Fresh.drewN ?_ _ | with_reducible refine Fresh.setCell ?_ ?_ _ | with_reducible refine Fresh.trans ?_ (by assumption) | (simp; done) | (simp; omega)))).at' HC.out)
  have F1 := Lib.hid (H5.out.trans (F0.out.trans F17.out))
  clear H16 F17 H5 F0
  generalize (w16.alloc (.cells #[.string ⟨#[115]⟩, .bool false, .slice p16 n16 c16, .int .i64 16, .int .i64 8] 48)) = W17 at *
  generalize w16.heap.size = b12 at *
  go_wp2_with fail
  go_at_call 8; refine (numT_any 4 false _).mono ?_; rintro e w18 ⟨rfl, h18⟩
  go_wp2_with fail
  go_at_call 20; refine (ptrT_any (ok := fun _ => True) (numHd 4 false) .nil none 0 0 _ (fun _ _ => trivial) (Kids.none _)).mono ?_; rintro e w19 ⟨⟨p19, rfl, hk19⟩, h19⟩
  have H19 : Hid (Fresh W17 w19) := Lib.hid (h18.trans h19)
  have HK19 := Lib.hid hk19
  clear h18 h19 hk19
  go_upto_region 11 with fail
  have F20 : Hid (Fresh W17 (w19.alloc (.cells #[.int .i64 4, .int .i64 0, .int .i64 0, .bool false, .string ⟨#[]⟩, .slice p19 1 1, .int .i64 3] 58))) := Lib.hid (H19.out.trans (by (repeat' first | with_reducible exact Fresh.refl _ | with_reducible assumption | with_reducible refine Fresh.alloc ?_ _ _ | with_reducible refine Fresh.drew ?_ | with_reducible refine Fresh.drewN ?_ _ | with_reducible refine Fresh.setCell ?_ ?_ _ | with_reducible refine Fresh.trans ?_ (by assumption) | (simp; done) | (simp; omega))))
  have FX0 : Hid (FX (w19.alloc (.cells #[.int .i64 4, .int .i64 0, .int .i64 0, .bool false, .string ⟨#[]⟩, .slice p19 1 1, .int .i64 3] 58)) b8 g2 b12 w19.heap.size p19) := Lib.hid (by
    have f8 := B8.out.fresh F20.out
    have f12 := B12.out.fresh F20.out
    have f14 := Blk.new w19 #[.int .i64 4, .int .i64 0, .int .i64 0, .bool false, .string ⟨#[]⟩, .slice p19 1 1, .int .i64 3] 58
    exact ⟨f8.1 0 _ rfl, f8.1 1 _ rfl, f8.1 2 _ rfl, f8.1 3 _ rfl, f8.1 4 _ rfl, f8.1 5 _ rfl, F20.out.at' HC.out, f12.1 3 _ rfl, f14.1 0 _ rfl, f14.1 1 _ rfl, f14.1 2 _ rfl, f14.1 3 _ rfl, f14.1 4 _ rfl, f14.1 5 _ rfl, f14.1 6 _ rfl⟩)
  have HK := Lib.hid (HK19.out.later (show Fresh w19 (w19.alloc (.cells #[.int .i64 4, .int .i64 0, .int .i64 0, .bool false, .string ⟨#[]⟩, .slice p19 1 1, .int .i64 3] 58)) from (by (repeat' first | with_reducible exact Fresh.refl _ | with_reducible assumption | with_reducible refine Fresh.alloc ?_ _ _ | with_reducible refine Fresh.drew ?_ | with_reducible refine Fresh.drewN ?_ _ | with_reducible refine Fresh.setCell ?_ ?_ _ | with_reducible refine Fresh.trans ?_ (by assumption) | (simp; done) | (simp; omega)))))
  have F2 := Lib.hid (F1.out.trans F20.out)
  clear F20 HK19 H19 F1 B8 B12 HC
  generalize (w19.alloc (.cells #[.int .i64 4, .int .i64 0, .int .i64 0, .bool false, .string ⟨#[]⟩, .slice p19 1 1, .int .i64 3] 58)) = W20 at *
  generalize w19.heap.size = b14 at *
  have E : Hid (Fresh W20 W20.drew) := Lib.hid (Fresh.refl W20).drew
  have HP : Hid (KP W20.drew []) := Lib.hid (fun _ h => by simp at h)
  dsimp only [List.append]
  go_region_held3 (fun w' => w'.cell? ⟨b8, 0, none⟩ = some (.int .i64 2) ∧ w'.cell? ⟨b8, 1, none⟩ = some (.int .i64 4) ∧ w'.cell? ⟨b8, 2, none⟩ = some (.int .i64 0) ∧ w'.cell? ⟨b8, 3, none⟩ = some (.bool true) ∧ w'.cell? ⟨b8, 4, none⟩ = some (.string ⟨#[]⟩) ∧ w'.cell? ⟨b8, 5, none⟩ = some (.slice none 0 0) ∧ w'.cell? ⟨g2, 1, none⟩ = some (.int .i64 80) ∧ w'.cell? ⟨b12, 3, none⟩ = some (.int .i64 16) ∧ w'.cell? ⟨b14, 0, none⟩ = some (.int .i64 4) ∧ w'.cell? ⟨b14, 1, none⟩ = some (.int .i64 0) ∧ w'.cell? ⟨b14, 2, none⟩ = some (.int .i64 0) ∧ w'.cell? ⟨b14, 3, none⟩ = some (.bool false) ∧ w'.cell? ⟨b14, 4, none⟩ = some (.string ⟨#[]⟩) ∧ w'.cell? ⟨b14, 5, none⟩ = some (.slice p19 1 1) ∧ w'.cell? ⟨b14, 6, none⟩ = some (.int .i64 3)) (first | with_reducible exact ⟨(FX0.out.later E.out).c0, (FX0.out.later E.out).c1, (FX0.out.later E.out).c2, (FX0.out.later E.out).c3, (FX0.out.later E.out).c4, (FX0.out.later E.out).c5, (FX0.out.later E.out).c6, (FX0.out.later E.out).c7, (FX0.out.later E.out).c8, (FX0.out.later E.out).c9, (FX0.out.later E.out).c10, (FX0.out.later E.out).c11, (FX0.out.later E.out).c12, (FX0.out.later E.out).c13, (FX0.out.later E.out).c14⟩ | (simp [go_sem]; with_reducible exact ⟨(FX0.out.later E.out).c0, (FX0.out.later E.out).c1, (FX0.out.later E.out).c2, (FX0.out.later E.out).c3, (FX0.out.later E.out).c4, (FX0.out.later E.out).c5, (FX0.out.later E.out).c6, (FX0.out.later E.out).c7, (FX0.out.later E.out).c8, (FX0.out.later E.out).c9, (FX0.out.later E.out).c10, (FX0.out.later E.out).c11, (FX0.out.later E.out).c12, (FX0.out.later E.out).c13, (FX0.out.later E.out).c14⟩)) (first | (go_at_call 8; (with_reducible refine (numT_any _ _ _).mono ?_); rintro e w2 ⟨rfl, h2⟩; have HP := Lib.hid (HP.out.later h2); have E := Lib.hid (E.out.trans h2); clear h2) | (go_at_call 12; (with_reducible refine (floatT_any _).mono ?_); rintro e w2 ⟨rfl, h2⟩; have HP := Lib.hid (HP.out.later h2); have E := Lib.hid (E.out.trans h2); clear h2) | (go_at_call 24; (with_reducible refine (chunk_flt _).mono ?_); rintro e w2 ⟨rfl, h2⟩; have HP := Lib.hid (HP.out.later h2); have E := Lib.hid (E.out.trans h2); clear h2) | (go_at_call 21; (with_reducible refine (same_num4 true _).mono ?_); rintro e w2 ⟨rfl, h2⟩; have HP := Lib.hid (HP.out.later h2); have E := Lib.hid (E.out.trans h2); clear h2) | (go_at_call 21; (with_reducible refine (same_pro _ _ _ _).mono ?_); rintro e w2 ⟨rfl, h2⟩; have HP := Lib.hid (HP.out.later h2); have E := Lib.hid (E.out.trans h2); clear h2) | (go_at_call 21; (with_reducible refine (same_arr _ _ _ _ (Fresh.refl _) (HP.out.get (by simp)) (HP.out.get (by simp))).mono ?_); rintro e w2 ⟨rfl, h2⟩; have HP := Lib.hid (HP.out.later h2); have E := Lib.hid (E.out.trans h2); clear h2) | (go_at_call 16; (with_reducible refine (arrT_any (ok := fun _ => True) ⟨4, 0, 0, false, ⟨#[]⟩⟩ (.cons (numHd 4 false) .nil .nil) p19 1 1 3 _ (fun _ _ => trivial) (HK.out.later E.out)).mono ?_); rintro e w2 ⟨⟨p23, rfl, hk23⟩, h2⟩; have HP := Lib.hid ((HP.out.later h2).cons hk23); have E := Lib.hid (E.out.trans h2); clear h2 hk23) | (go_at_call 22; (with_reducible refine (text_arr _ _ _ (Fresh.refl _) (HP.out.get (by simp))).mono ?_); rintro e w2 ⟨rfl, h2⟩; have HP := Lib.hid (HP.out.later h2); have E := Lib.hid (E.out.trans h2); clear h2) | (go_at_call 23; (with_reducible refine (depth_arr _ _ _ (Fresh.refl _) (HP.out.get (by simp))).mono ?_); rintro e w2 ⟨rfl, h2⟩; have HP := Lib.hid (HP.out.later h2); have E := Lib.hid (E.out.trans h2); clear h2) | (go_at_call 9; (with_reducible refine (kind_ptr (.cons (numHd 4 false) .nil .nil) p19 W20 _ E.out HK.out).mono ?_); rintro e w2 ⟨rfl, h2⟩; have HP := Lib.hid (HP.out.later h2); have E := Lib.hid (E.out.trans h2); clear h2) | (go_at_call 25; (with_reducible refine (promote_lit _).mono ?_); rintro e w2 ⟨⟨p34, n34, c34, rfl⟩, h2⟩; have HP := Lib.hid (HP.out.later h2); have E := Lib.hid (E.out.trans h2); clear h2))
  all_goals (go_wp2_with fail)
  all_goals go_returns
  all_goals exact ⟨rfl, F2.out.trans E.out⟩
end Go.Proofs.YteiomcbphbbpkaaGreatDoor
