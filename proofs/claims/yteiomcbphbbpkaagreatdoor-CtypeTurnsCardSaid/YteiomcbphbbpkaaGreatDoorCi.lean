/- Types made of numbers: functions; One. -/
import Derived.Test.YteiomcbphbbpkaaGreatDoorCh
import Derived.Deep.AppendLies
namespace Go.Proofs.YteiomcbphbbpkaaGreatDoor
set_option linter.unusedSimpArgs false
set_option linter.unusedVariables false
open Go.RowKit

@[reducible] def set6 (w : World) (b : Nat) (u0 u1 u2 u3 u4 u5 : Value) : World := (((((w.setCell ⟨b, 0, none⟩ u0).setCell ⟨b, 1, none⟩ u1).setCell ⟨b, 2, none⟩ u2).setCell ⟨b, 3, none⟩ u3).setCell ⟨b, 4, none⟩ u4).setCell ⟨b, 5, none⟩ u5
theorem off_set {a w : World} {g : Nat} (h : a.grownBy w (some g)) (i : Nat) (u : Value) : a.grownBy (w.setCell ⟨g, i, none⟩ u) (some g) :=
  ⟨h.os, h.tape, h.output, by simpa [World.setCell] using h.size, fun k hk hne => (Below.heap_setCell w ⟨g, i, none⟩ u k (fun e => hne (by rw [e]))).trans (h.block k hk hne)⟩
theorem off_refl (w : World) (g : Nat) : w.grownBy w (some g) := ⟨rfl, rfl, rfl, Nat.le_refl _, fun _ _ _ => rfl⟩
theorem off6 (w : World) (b : Nat) (u0 u1 u2 u3 u4 u5 : Value) : w.grownBy (set6 w b u0 u1 u2 u3 u4 u5) (some b) :=
  off_set (off_set (off_set (off_set (off_set (off_set (off_refl w b) 0 u0) 1 u1) 2 u2) 3 u3) 4 u4) 5 u5
theorem B6.off {w w' : World} {g b : Nat} {v0 v1 v2 v3 v4 v5 : Value} (h : B6 w b v0 v1 v2 v3 v4 v5) (ho : w.grownBy w' (some g)) (hg : b ≠ g) : B6 w' b v0 v1 v2 v3 v4 v5 := by
  have hb := cell_lt h.c0
  have hk := ho.block b hb (fun e => hg (Option.some.inj e))
  exact ⟨(World.cell?_of_block hk).trans h.c0, (World.cell?_of_block hk).trans h.c1, (World.cell?_of_block hk).trans h.c2, (World.cell?_of_block hk).trans h.c3, (World.cell?_of_block hk).trans h.c4, (World.cell?_of_block hk).trans h.c5, fun o => (World.frozen?_of_block hk).trans (h.f o)⟩
theorem B6.set {w : World} {b : Nat} {v0 v1 v2 v3 v4 v5 : Value} (h : B6 w b v0 v1 v2 v3 v4 v5) (u0 u1 u2 u3 u4 u5 : Value) : B6 (set6 w b u0 u1 u2 u3 u4 u5) b u0 u1 u2 u3 u4 u5 := by
  obtain ⟨c0, c1, c2, c3, c4, c5, f⟩ := h
  exact ⟨by simp [go_sem, *], by simp [go_sem, *], by simp [go_sem, *], by simp [go_sem, *], by simp [go_sem, *], by simp [go_sem, *], fun o => by simp [go_sem, f]⟩
theorem B6.set_far {w : World} {b k : Nat} {v0 v1 v2 v3 v4 v5 : Value} (h : B6 w b v0 v1 v2 v3 v4 v5) (hk : 6 ≤ k) (u : Value) : B6 (w.setCell ⟨b, k, none⟩ u) b v0 v1 v2 v3 v4 v5 := by
  obtain ⟨c0, c1, c2, c3, c4, c5, f⟩ := h
  have n0 : k ≠ 0 := by omega
  have n1 : k ≠ 1 := by omega
  have n2 : k ≠ 2 := by omega
  have n3 : k ≠ 3 := by omega
  have n4 : k ≠ 4 := by omega
  have n5 : k ≠ 5 := by omega
  exact ⟨by simp [go_sem, *], by simp [go_sem, *], by simp [go_sem, *], by simp [go_sem, *], by simp [go_sem, *], by simp [go_sem, *], fun o => by simp [go_sem, f]⟩
theorem Fresh.off {a w w' : World} {g : Nat} (h : Fresh a w) (ho : w.grownBy w' (some g)) (hg : a.heap.size ≤ g) : Fresh a w' := h.grown ho (fun k hk => by cases hk; exact hg)
theorem Kids.off {ok : Nat → Prop} {w w' : World} {g : Nat} {ks : Tys} {p : Option Addr} {n cap : Nat} (h : Kids ok w ks p n cap) (ho : w.grownBy w' (some g)) (hg : ¬ ok g) : Kids ok w' ks p n cap :=
  h.turn (fun B k u hB hu => by rw [← hu]; exact World.cell?_of_block (ho.block B (cell_lt hu) (fun e => hg (by rw [← Option.some.inj e]; exact hB)))) (fun _ _ h => h)
theorem Tys.cells.off {ok : Nat → Prop} {w w' : World} {g : Nat} (ho : w.grownBy w' (some g)) (hg : ¬ ok g) : ∀ {a : Tys} {xs : List Value}, a.cells ok w xs → a.cells ok w' xs
  | .nil, _, h => h
  | .cons _ _ _, _, ⟨p, n, cap, ys, e, hk, hr⟩ => ⟨p, n, cap, ys, e, hk.off ho hg, hr.off ho hg⟩
theorem B6.grown {w w' : World} {row : Option Nat} {b : Nat} {v0 v1 v2 v3 v4 v5 : Value} (h : B6 w b v0 v1 v2 v3 v4 v5) (ho : w.grownBy w' row) (hg : some b ≠ row) : B6 w' b v0 v1 v2 v3 v4 v5 := by
  have hk := ho.block b (cell_lt h.c0) hg
  exact ⟨(World.cell?_of_block hk).trans h.c0, (World.cell?_of_block hk).trans h.c1, (World.cell?_of_block hk).trans h.c2, (World.cell?_of_block hk).trans h.c3, (World.cell?_of_block hk).trans h.c4, (World.cell?_of_block hk).trans h.c5, fun o => (World.frozen?_of_block hk).trans (h.f o)⟩
/-- Blocks of the call's own, but for the row of parameters. -/
def okv (w : World) (v : Value) (b : Nat) : Prop := w.heap.size + 2 ≤ b ∧ v.ownBlock ≠ some b
theorem Tys.cells.turn {ok ok' : Nat → Prop} {w w' : World} (hf : ∀ B i v, ok B → w.cell? ⟨B, i, none⟩ = some v → w'.cell? ⟨B, i, none⟩ = some v) (ho : ∀ B, B < w.heap.size → ok B → ok' B) : ∀ {a : Tys} {xs : List Value}, a.cells ok w xs → a.cells ok' w' xs
  | .nil, _, h => h
  | .cons _ _ _, _, ⟨p, n, cap, ys, e, hk, hr⟩ => ⟨p, n, cap, ys, e, hk.turn hf ho, hr.turn hf ho⟩
/-- What stands at the head of a round: the result's cell, the function's parts, the row of parameters. -/
structure PR (w wr : World) (T : Mk) (p : Option Addr) (n cap : Nat) (v : Value) (a : Nat) (ps : Tys) (xs : List Value) : Prop where
  fr : Fresh w wr
  lo : w.heap.size + 2 ≤ wr.heap.size
  res : B6 wr w.heap.size (.int .i64 0) (.int .i64 0) (.int .i64 0) (.bool false) (.string ⟨#[]⟩) (.slice none 0 0)
  hdr : B6 wr (w.heap.size + 1) (.int .i64 T.h.kind) (.int .i64 T.h.size) (.int .i64 T.h.len) (.bool T.h.flag) (.string T.h.name) (.slice p n cap)
  par : wr.cell? ⟨w.heap.size + 1, 6, none⟩ = some v
  kid : Kids (okv w v) wr T.ks p n cap
  own : wr.ownsRow (w.heap.size + 2) 25 6 v a xs
  cel : ps.cells (okv w v) wr xs
theorem PR.later {w wr w2 : World} {T : Mk} {p : Option Addr} {n cap : Nat} {v : Value} {a : Nat} {ps : Tys} {xs : List Value} (h : PR w wr T p n cap v a ps xs) (hf : Fresh wr w2) : PR w w2 T p n cap v a ps xs :=
  ⟨h.fr.trans hf, Nat.le_trans h.lo hf.size, h.res.fresh hf, h.hdr.fresh hf, hf.at' h.par, h.kid.later hf, hf.own h.own, h.cel.later hf⟩
theorem PR.step {w X w3 : World} {T : Mk} {p : Option Addr} {n cap : Nat} {v : Value} {a : Nat} {ps : Tys} {xs : List Value} (h : PR w X T p n cap v a ps xs) {g c1 : Nat} {h2 : Hd} {k2 : Tys} {p2 : Option Addr} {n2 cap2 : Nat} (hk2 : Kids (okv w v) X k2 p2 n2 cap2)
    (hown : w3.ownsRow (w.heap.size + 2) 25 6 (.slice (some ⟨g, 0, none⟩) (a + 1) c1) (a + 1) (xs ++ [.int .i64 h2.kind, .int .i64 h2.size, .int .i64 h2.len, .bool h2.flag, .string h2.name, .slice p2 n2 cap2])) (hg : X.grownBy w3 v.ownBlock) (hv : v.ownBlock = some g ∨ g = X.heap.size) :
    PR w (w3.setCell ⟨w.heap.size + 1, 6, none⟩ (.slice (some ⟨g, 0, none⟩) (a + 1) c1)) T p n cap (.slice (some ⟨g, 0, none⟩) (a + 1) c1) (a + 1) (ps.append (.cons h2 k2 .nil)) (xs ++ [.int .i64 h2.kind, .int .i64 h2.size, .int .i64 h2.len, .bool h2.flag, .string h2.name, .slice p2 n2 cap2]) := by
  have hlt := h.own.lt
  have n0 : some w.heap.size ≠ v.ownBlock := fun e => by have := (hlt _ e.symm).1; omega
  have n1 : some (w.heap.size + 1) ≠ v.ownBlock := fun e => by have := (hlt _ e.symm).1; omega
  have hlo := h.lo
  have hsz := hg.size
  have hgb : w.heap.size + 2 ≤ g := (hown.lt g rfl).1
  have c6 : w3.cell? ⟨w.heap.size + 1, 6, none⟩ = some v := hg.cell h.par n1
  have cells : ∀ B i u, okv w v B → X.cell? ⟨B, i, none⟩ = some u → (w3.setCell ⟨w.heap.size + 1, 6, none⟩ (.slice (some ⟨g, 0, none⟩) (a + 1) c1)).cell? ⟨B, i, none⟩ = some u := fun B i u ⟨hB, hne⟩ hu => by
    have := hg.cell (a := ⟨B, i, none⟩) hu (fun e => hne e.symm)
    rw [← this]
    exact World.cell?_of_block (Below.heap_setCell _ _ _ _ (by simp; omega))
  have oks : ∀ B, B < X.heap.size → okv w v B → okv w (.slice (some ⟨g, 0, none⟩) (a + 1) c1) B := fun B hB ⟨h1, h2⟩ => ⟨h1, fun e => by
    have e' : g = B := by simpa [Value.ownBlock] using e
    subst e'
    rcases hv with hv | hv
    · exact h2 hv
    · omega⟩
  refine ⟨(h.fr.grown hg (fun k hk => by have := (hlt k hk).1; omega)).setCell (by simp) _, by simp [World.setCell]; omega, (h.res.grown hg n0).off (off_set (off_refl _ _) _ _) (by omega), (h.hdr.grown hg n1).set_far (by omega) _, by simp [go_sem, c6], h.kid.turn cells oks, own_set hown (fun e => by have := (hown.lt _ e).1; omega) _ _,
    (h.cel.turn cells oks).append ⟨p2, n2, cap2, [], rfl, hk2.turn cells oks, rfl⟩⟩
set_option maxRecDepth 100000 in
set_option maxHeartbeats 2000000 in
theorem made_fn (w0 : World) (zs : Nat → Int) (n d : Nat) (ih : TypeSpec w0 zs n d) (dep : Int) (i : Nat) (l : Int) (p : Option Addr) (m c : Nat) (w : World) (hd : dep + d = 60) (h0 : 0 ≤ dep) (hi : i ≤ n) (hc : CodeAt w0 zs n i p m c) (hf : Fresh w0 w) :
    Calls Tryz.prog 48 #[.int .i64 14, .int .i64 l, .slice p m c, .int .i64 dep] w fun e w' =>
      (∃ p' n' cap' q m' c', e = .returned (.tuple #[.agg #[.int .i64 7, .int .i64 0, .int .i64 0, .bool false, .string ⟨#[]⟩, .slice p' n' cap'], .slice q m' c']) ∧
        Kids (fun b => w.heap.size ≤ b) w' (.cons (mkT zs n d i).h (mkT zs n d i).ks (params (mkT zs n d) (min l.toNat 8) (mkT zs n d i).j).1) p' n' cap' ∧ CodeAt w0 zs n (params (mkT zs n d) (min l.toNat 8) (mkT zs n d i).j).2 q m' c') ∧ Fresh w w' := by
  obtain ⟨i0, hi0, hz0, hz1, hz2⟩ := info_parts info25
  have HD := Lib.hid hd
  have HF := Lib.hid hf
  have IH := Lib.hid ih
  have HC := Lib.hid hc
  have HLE := Lib.hid (mkT_le zs n d)
  have hdep : dep ≤ 60 := by omega
  clear hd hf ih hc
  generalize hT : mkT zs n d i = T
  have HT := Lib.hid hT
  clear hT
  go_enter Tryz.func48, Tryz.ntmps48
  go_wp2_with fail
  go_at_call 26; refine (IH.out (dep + 1) i _ m c _ (by have := HD.out; omega) (by omega) hi HC.out (HF.out.trans (by (repeat' first | with_reducible exact Fresh.refl _ | with_reducible assumption | with_reducible refine Fresh.alloc ?_ _ _ | with_reducible refine Fresh.drew ?_ | with_reducible refine Fresh.drewN ?_ _ | with_reducible refine Fresh.setCell ?_ ?_ _ | with_reducible refine Fresh.trans ?_ (by assumption) | (simp; done) | (simp; omega))))).mono ?_; rintro e w1 ⟨⟨p1, n1, cap1, q1, m1, c1, rfl, hk1, hc1⟩, h1⟩
  rw [HT.out] at hk1 hc1 ⊢
  have HK1 := Lib.hid (hk1.mono (ok' := okv w (.slice none 0 0)) (fun b _ hb => ⟨by simpa using hb, by simp [Value.ownBlock]⟩))
  have HC1 := Lib.hid hc1
  have hs1 : w.heap.size + 2 ≤ w1.heap.size := (by simpa using h1.size)
  have F1 : Hid (Fresh w w1) := Lib.hid ((by (repeat' first | with_reducible exact Fresh.refl _ | with_reducible assumption | with_reducible refine Fresh.alloc ?_ _ _ | with_reducible refine Fresh.drew ?_ | with_reducible refine Fresh.drewN ?_ _ | with_reducible refine Fresh.setCell ?_ ?_ _ | with_reducible refine Fresh.trans ?_ (by assumption) | (simp; done) | (simp; omega))))
  have R8 := (((Blk.new w #[.int .i64 0, .int .i64 0, .int .i64 0, .bool false, .string ⟨#[]⟩, .slice none 0 0] 25).six.fresh (Fresh.alloc (Fresh.refl _) #[.int .i64 0, .int .i64 0, .int .i64 0, .bool false, .string ⟨#[]⟩, .slice none 0 0, .slice none 0 0] 94)).fresh h1)
  have R12 := (Blk.new (w.alloc (.cells #[.int .i64 0, .int .i64 0, .int .i64 0, .bool false, .string ⟨#[]⟩, .slice none 0 0] 25)) #[.int .i64 0, .int .i64 0, .int .i64 0, .bool false, .string ⟨#[]⟩, .slice none 0 0, .slice none 0 0] 94).fresh h1
  simp only [World.size_alloc] at R12
  have R12b := R12.six
  have r0 := (R12).1 0 _ rfl; have r1 := (R12).1 1 _ rfl; have r2 := (R12).1 2 _ rfl; have r3 := (R12).1 3 _ rfl; have r4 := (R12).1 4 _ rfl; have r5 := (R12).1 5 _ rfl; have r6 := (R12).1 6 _ rfl; have rf := (R12).2.1; have rz := (R12).2.2
  have PR0 : Hid (PR w (set6 w1 (w.heap.size + 1) (.int .i64 T.h.kind) (.int .i64 T.h.size) (.int .i64 T.h.len) (.bool T.h.flag) (.string T.h.name) (.slice p1 n1 cap1)) T p1 n1 cap1 (.slice none 0 0) 0 .nil []) := Lib.hid
    ⟨F1.out.off (off6 ..) (by omega), by simpa using hs1, R8.off (off6 ..) (by omega), R12b.set .., by simp [go_sem, r6], HK1.out.off (off6 ..) (by unfold okv; omega), World.ownsRow_nil .., rfl⟩
  clear R8 R12 R12b hk1 hc1 h1
  go_wp2_with fail
  clear r0 r1 r2 r3 r4 r5 r6 rf rz
  go_loopw [2, 13] (fun s2 s13 wr => ∃ (a : Nat) (v : Value) (q : Option Addr) (mm cc : Nat) (xs : List Value), a ≤ min l.toNat 8 ∧ s13 = .int .i64 a ∧ s2 = .slice q mm cc ∧ Hid (CodeAt w0 zs n (params (mkT zs n d) a T.j).2 q mm cc) ∧ Hid (PR w wr T p1 n1 cap1 v a (params (mkT zs n d) a T.j).1 xs)) (fun _ s13 _ => 8 - (intOf s13).toNat)
  case atStart => exact ⟨0, _, _, _, _, _, by omega, rfl, rfl, HC1, PR0⟩
  case round =>
    obtain ⟨a, v, q, mm, cc, xs, ha, rfl, rfl, HCa, HPa⟩ := hrel
    by_cases hlt : a < min l.toNat 8
    · have t1 : (a : Int) < l := by omega
      have t2 : (a : Int) < 8 := by omega
      go_wp2_with fail
      go_at_call 26; refine (IH.out (dep + 1) (params (mkT zs n d) a T.j).2 q mm cc _ (by have := HD.out; omega) (by omega) (params_le HLE.out _ _ (by have := HLE.out i hi; rw [HT.out] at this; exact this)) HCa.out (HF.out.trans (HPa.out.fr.trans ((by (repeat' first | with_reducible exact Fresh.refl _ | with_reducible assumption | with_reducible refine Fresh.alloc ?_ _ _ | with_reducible refine Fresh.drew ?_ | with_reducible refine Fresh.drewN ?_ _ | with_reducible refine Fresh.setCell ?_ ?_ _ | with_reducible refine Fresh.trans ?_ (by assumption) | (simp; done) | (simp; omega))))))).mono ?_; rintro e w2 ⟨⟨p2, n2, cap2, q2, m2, c2, rfl, hk2, hc2⟩, h2⟩
      have hwr := HPa.out.lo
      have hz2' : wr.heap.size + 1 ≤ w2.heap.size := (by simpa using h2.size)
      have FX : Fresh wr w2 := (Fresh.alloc (Fresh.refl _) _ _).trans h2
      have PX := HPa.out.later FX
      have B14 := (Blk.new wr #[.int .i64 0, .int .i64 0, .int .i64 0, .bool false, .string ⟨#[]⟩, .slice none 0 0] 25).six.fresh h2
      have hpar := PX.par
      have nb1 : wr.heap.size ≠ w.heap.size + 1 := by omega
      have nb2 : w.heap.size + 1 ≠ wr.heap.size := by omega
      have HK2 := Lib.hid hk2
      have HC2 := Lib.hid hc2
      have H2 := Lib.hid h2
      have HFX := Lib.hid FX
      obtain ⟨t0, t1', t2', t3, t4, t5, tf⟩ := B14
      have tz := cell_lt t0
      have pz := cell_lt hpar
      simp only at tz pz
      have FY : Fresh wr ((set6 w2 wr.heap.size (.int .i64 (mkT zs n d (params (mkT zs n d) a T.j).2).h.kind) (.int .i64 (mkT zs n d (params (mkT zs n d) a T.j).2).h.size) (.int .i64 (mkT zs n d (params (mkT zs n d) a T.j).2).h.len) (.bool (mkT zs n d (params (mkT zs n d) a T.j).2).h.flag) (.string (mkT zs n d (params (mkT zs n d) a T.j).2).h.name) (.slice p2 n2 cap2)).alloc (.cells #[.int .i64 (mkT zs n d (params (mkT zs n d) a T.j).2).h.kind, .int .i64 (mkT zs n d (params (mkT zs n d) a T.j).2).h.size, .int .i64 (mkT zs n d (params (mkT zs n d) a T.j).2).h.len, .bool (mkT zs n d (params (mkT zs n d) a T.j).2).h.flag, .string (mkT zs n d (params (mkT zs n d) a T.j).2).h.name, .slice p2 n2 cap2] 25)) := (FX.off (off6 ..) (Nat.le_refl _)).alloc _ _
      have PY := Lib.hid (HPa.out.later FY)
      have HK3 := Lib.hid ((HK2.out.off (off6 w2 wr.heap.size (.int .i64 (mkT zs n d (params (mkT zs n d) a T.j).2).h.kind) (.int .i64 (mkT zs n d (params (mkT zs n d) a T.j).2).h.size) (.int .i64 (mkT zs n d (params (mkT zs n d) a T.j).2).h.len) (.bool (mkT zs n d (params (mkT zs n d) a T.j).2).h.flag) (.string (mkT zs n d (params (mkT zs n d) a T.j).2).h.name) (.slice p2 n2 cap2)) (by simp)).later ((Fresh.refl _).alloc #[.int .i64 (mkT zs n d (params (mkT zs n d) a T.j).2).h.kind, .int .i64 (mkT zs n d (params (mkT zs n d) a T.j).2).h.size, .int .i64 (mkT zs n d (params (mkT zs n d) a T.j).2).h.len, .bool (mkT zs n d (params (mkT zs n d) a T.j).2).h.flag, .string (mkT zs n d (params (mkT zs n d) a T.j).2).h.name, .slice p2 n2 cap2] 25))
      clear hk2 hc2 h2 FX PX FY
      generalize hS : mkT zs n d (params (mkT zs n d) a T.j).2 = S at *
      have HS := Lib.hid hS
      clear hS
      go_wp2_with (at_builtin; refine wpList_append_lies _ rfl (.tmp 70) (.tmp 72) 23 rfl (w.heap.size + 2) 25 i0 (.agg #[.int .i64 0, .int .i64 0, .int .i64 0, .bool false, .string ⟨#[]⟩, .slice none 0 0]) 6 72 Tryz.underlying23 hi0 hz0 hz1 hz2 rfl (by decide) v a xs rfl PY.out.own ⟨w2.heap.size, 0, none⟩ 1 1 [.int .i64 S.h.kind, .int .i64 S.h.size, .int .i64 S.h.len, .bool S.h.flag, .string S.h.name, .slice p2 n2 cap2] rfl rfl ?c1 ?c2 (by decide) ?c3 ?c4 ?c5 (w2.heap.size + 1) ?c6 ?_)
      case c1 =>
        intro j u hj
        rw [Go.WideShapes.add_plain, Nat.zero_add, World.cell?_alloc_at _ _ _ _ (by simp)]
        simpa using hj
      case c2 =>
        intro u hu
        simp only [List.mem_cons, List.mem_nil_iff, or_false] at hu
        rcases hu with rfl | rfl | rfl | rfl | rfl | rfl <;> rfl
      case c3 => unfold maxLen; omega
      case c4 => omega
      case c5 => simp; omega
      case c6 => simp
      intro g cap3 w3 hown' hgrow hg hz3
      have hk4 := HK3.out.mono (ok' := okv w v) (fun b _ hb => ⟨by simp at hb; omega, fun e => by have := (HPa.out.own.lt _ e).2; simp at hb; omega⟩)
      have ST := Lib.hid (PR.step PY.out hk4 hown' hgrow (by simpa using hg))
      have n1 : some (w.heap.size + 1) ≠ v.ownBlock := fun e => by have := (HPa.out.own.lt _ e.symm).1; omega
      have x6 : w3.cell? ⟨w.heap.size + 1, 6, none⟩ = some v := hgrow.cell PY.out.par n1
      have xf : ∀ o, w3.frozen? ⟨w.heap.size + 1, o, none⟩ = false := (PY.out.hdr.grown hgrow n1).f
      have xz := cell_lt x6
      simp only at xz
      clear hk4 hown' hgrow hg hz3 n1 t0 t1' t2' t3 t4 t5 tf hpar
      go_wp2_with fail
      go_roundw
      case rel => exact ⟨a + 1, _, _, _, _, _, by omega, by go_num, rfl, by rw [show (params (mkT zs n d) (a + 1) T.j).2 = (mkT zs n d (params (mkT zs n d) a T.j).2).j from rfl, HS.out]; exact HC2, by rw [show (params (mkT zs n d) (a + 1) T.j).1 = (params (mkT zs n d) a T.j).1.append (.cons (mkT zs n d (params (mkT zs n d) a T.j).2).h (mkT zs n d (params (mkT zs n d) a T.j).2).ks .nil) from rfl, HS.out]; exact ST⟩
      case measure => simp [intOf]; omega
    · have HA : Hid (min l.toNat 8 = a) := Lib.hid (by omega)
      have ha9 : a ≤ 9 := by omega
      have hk2 := HPa.out.kid.mono (ok' := fun b => w.heap.size + 2 ≤ b) (fun b _ hb => hb.1)
      obtain ⟨pv, cv, rfl, hq2⟩ := Kids.of_own (ok := fun b => w.heap.size + 2 ≤ b) (fun b hb => hb) HPa.out.own (HPa.out.cel.turn (fun _ _ _ _ h => h) (fun b _ hb => hb.1))
      have HK2 := Lib.hid hk2
      have HQ2 := Lib.hid hq2
      obtain ⟨x0, x1, x2, x3, x4, x5, xf⟩ := HPa.out.hdr
      have x6 := HPa.out.par
      have xlo := HPa.out.lo
      have HRes := Lib.hid HPa.out.res
      have HFr := Lib.hid HPa.out.fr
      clear hk2 hq2 HPa
      clear hlt ha
      have ht : ((a : Int) < l ∧ 8 ≤ (a : Int)) ∨ l ≤ (a : Int) := by have := HA.out; omega
      rcases ht with ⟨ht1, ht2⟩ | ht1
      all_goals
        go_wp2_with fail
        go_at_call 72; refine (fnT_any (ok := fun b => w.heap.size + 2 ≤ b) T.h T.ks (params (mkT zs n d) a T.j).1 p1 pv n1 cap1 a cv _ (fun b hb => by omega) HK2.out HQ2.out ha9).mono ?_; rintro e w3 ⟨⟨p3, n3, cap3, rfl, hk3⟩, h3⟩
        have HK2 := Lib.hid hk3
        obtain ⟨r0, r1, r2, r3, r4, r5, rf⟩ := HRes.out.fresh h3
        have rz := cell_lt r0
        simp only at rz
        have FF := Lib.hid (HFr.out.trans h3)
        clear hk3 h3
        go_wp2_with fail
        refine bodyPost_ret (v := ?_) ?_ rfl ?_; rotate_left 1; focus (simp [results, Tryz.results48, go_sem, *]; (try rfl); done)
        rw [HA.out]
        exact ⟨⟨_, _, _, _, _, _, rfl, ((((((HK2.out.set (by simp) 0 _).set (by simp) 1 _).set (by simp) 2 _).set (by simp) 3 _).set (by simp) 4 _).set (by simp) 5 _).mono (fun b _ hb => by omega), HCa.out⟩, (by repeat' first | with_reducible refine Fresh.setCell ?_ ?_ _ | exact FF.out | (simp; done) | (simp; omega))⟩
theorem made_spec (w0 : World) (zs : Nat → Int) (n d : Nat) (ih : TypeSpec w0 zs n d) : MadeSpec w0 zs n d := by
  intro dep i k l p m c w hd h0 h1 h2 hi hc hf
  by_cases h3 : k ≤ 13
  · exact made_small w0 zs n d ih dep i k l p m c w hd h0 h1 h3 hi hc hf
  · obtain rfl : k = 14 := by omega
    exact made_fn w0 zs n d ih dep i l p m c w hd h0 hi hc hf
theorem type_spec (w0 : World) (zs : Nat → Int) (n : Nat) : ∀ d, TypeSpec w0 zs n d
  | 0 => type_zero w0 zs n
  | d + 1 => type_succ w0 zs n d (type_spec w0 zs n d) (made_spec w0 zs n d (type_spec w0 zs n d))
end Go.Proofs.YteiomcbphbbpkaaGreatDoor
