/- Types copied whole. -/
import Derived.Test.YteiomcbphbbpkaaGreatDoorCk
namespace Go.Proofs.YteiomcbphbbpkaaGreatDoor
set_option linter.unusedSimpArgs false
set_option linter.unusedVariables false
open Go.RowKit

def Tys.All (P : Tys → Prop) : Tys → Prop
  | .nil => True
  | .cons _ k r => P k ∧ r.All P
/-- No row of more than nine. -/
def Tys.small : Tys → Prop
  | .nil => True
  | .cons _ k r => (k.length ≤ 9 ∧ k.small) ∧ r.small
theorem Tys.All.right {P : Tys → Prop} : ∀ {a b : Tys}, (a.append b).All P → b.All P
  | .nil, _, h => h
  | .cons _ _ _, _, h => Tys.All.right h.2
theorem Tys.append_assoc : ∀ (a b c : Tys), (a.append b).append c = a.append (b.append c)
  | .nil, _, _ => rfl
  | .cons h k r, b, c => by simp only [Tys.append, Tys.append_assoc r b c]
@[reducible] def set6o (w : World) (g k : Nat) (u0 u1 u2 u3 u4 u5 : Value) : World := (((((w.setCell ⟨g, k, none⟩ u0).setCell ⟨g, k + 1, none⟩ u1).setCell ⟨g, k + 2, none⟩ u2).setCell ⟨g, k + 3, none⟩ u3).setCell ⟨g, k + 4, none⟩ u4).setCell ⟨g, k + 5, none⟩ u5
theorem off6o (w : World) (g k : Nat) (u0 u1 u2 u3 u4 u5 : Value) : w.grownBy (set6o w g k u0 u1 u2 u3 u4 u5) (some g) :=
  off_set (off_set (off_set (off_set (off_set (off_set (off_refl w g) k u0) (k + 1) u1) (k + 2) u2) (k + 3) u3) (k + 4) u4) (k + 5) u5
theorem set_at {α : Type} (ys : List α) (x y : α) (zs : List α) (k : Nat) (hk : ys.length = k) : (ys ++ x :: zs).set k y = ys ++ y :: zs := by subst hk; simp
theorem set_six {α : Type} (ys : List α) (x0 x1 x2 x3 x4 x5 y0 y1 y2 y3 y4 y5 : α) (zs : List α) (k : Nat) (hk : ys.length = k) :
    ((((((ys ++ x0 :: x1 :: x2 :: x3 :: x4 :: x5 :: zs).set k y0).set (k + 1) y1).set (k + 2) y2).set (k + 3) y3).set (k + 4) y4).set (k + 5) y5 = ys ++ y0 :: y1 :: y2 :: y3 :: y4 :: y5 :: zs := by
  rw [set_at ys x0 y0 _ k hk]
  have e1 := set_at (ys ++ [y0]) x1 y1 (x2 :: x3 :: x4 :: x5 :: zs) (k + 1) (by simp [hk])
  simp only [List.append_assoc, List.singleton_append, List.cons_append, List.nil_append] at e1
  rw [e1]
  have e2 := set_at (ys ++ [y0, y1]) x2 y2 (x3 :: x4 :: x5 :: zs) (k + 2) (by simp [hk])
  simp only [List.append_assoc, List.cons_append, List.nil_append] at e2
  rw [e2]
  have e3 := set_at (ys ++ [y0, y1, y2]) x3 y3 (x4 :: x5 :: zs) (k + 3) (by simp [hk])
  simp only [List.append_assoc, List.cons_append, List.nil_append] at e3
  rw [e3]
  have e4 := set_at (ys ++ [y0, y1, y2, y3]) x4 y4 (x5 :: zs) (k + 4) (by simp [hk])
  simp only [List.append_assoc, List.cons_append, List.nil_append] at e4
  rw [e4]
  have e5 := set_at (ys ++ [y0, y1, y2, y3, y4]) x5 y5 zs (k + 5) (by simp [hk])
  simp only [List.append_assoc, List.cons_append, List.nil_append] at e5
  rw [e5]
theorem own_six {w : World} {base g n cap : Nat} {e : TypeId} {size k : Nat} {ys zs : List Value} {x0 x1 x2 x3 x4 x5 : Value} (h : w.ownsRow base e size (.slice (some ⟨g, 0, none⟩) n cap) n (ys ++ x0 :: x1 :: x2 :: x3 :: x4 :: x5 :: zs)) (hk : ys.length = k) (y0 y1 y2 y3 y4 y5 : Value) :
    (set6o w g k y0 y1 y2 y3 y4 y5).ownsRow base e size (.slice (some ⟨g, 0, none⟩) n cap) n (ys ++ y0 :: y1 :: y2 :: y3 :: y4 :: y5 :: zs) := by
  rw [← set_six ys x0 x1 x2 x3 x4 x5 y0 y1 y2 y3 y4 y5 zs k hk]
  exact ((((((h.stored k y0).1.stored (k + 1) y1).1.stored (k + 2) y2).1.stored (k + 3) y3).1.stored (k + 4) y4).1.stored (k + 5) y5).1
/-- What stands at the head of a round. -/
structure CR (ok : Nat → Prop) (w0 w wr : World) (h : Hd) (v : Value) (n : Nat) (done rest : Tys) (ys zs : List Value) : Prop where
  fr : Fresh w wr
  lo : w.heap.size + 2 ≤ wr.heap.size
  box : B6 wr w.heap.size (.int .i64 h.kind) (.int .i64 h.size) (.int .i64 h.len) (.bool h.flag) (.string h.name) v
  res : B6 wr (w.heap.size + 1) (.int .i64 0) (.int .i64 0) (.int .i64 0) (.bool false) (.string ⟨#[]⟩) (.slice none 0 0)
  own : wr.ownsRow (w.heap.size + 2) 25 6 v n (ys ++ zs)
  dn : done.cells (okv w v) wr ys
  rs : rest.cells ok w0 zs
theorem CR.later {ok : Nat → Prop} {w0 w wr w2 : World} {h : Hd} {v : Value} {n : Nat} {done rest : Tys} {ys zs : List Value} (c : CR ok w0 w wr h v n done rest ys zs) (hf : Fresh wr w2) : CR ok w0 w w2 h v n done rest ys zs :=
  ⟨c.fr.trans hf, Nat.le_trans c.lo hf.size, c.box.fresh hf, c.res.fresh hf, hf.own c.own, c.dn.later hf, c.rs⟩
theorem CR.step {ok : Nat → Prop} {w0 w X : World} {h ha : Hd} {g n cap : Nat} {done ka ra : Tys} {ys zs : List Value} {p0 p1 : Option Addr} {n0 c0 n1 c1 : Nat}
    (c : CR ok w0 w X h (.slice (some ⟨g, 0, none⟩) n cap) n done (.cons ha ka ra) ys (.int .i64 ha.kind :: .int .i64 ha.size :: .int .i64 ha.len :: .bool ha.flag :: .string ha.name :: .slice p0 n0 c0 :: zs)) (hr : ra.cells ok w0 zs)
    (hk : Kids (okv w (.slice (some ⟨g, 0, none⟩) n cap)) X ka p1 n1 c1) :
    CR ok w0 w (set6o X g (done.length * 6) (.int .i64 ha.kind) (.int .i64 ha.size) (.int .i64 ha.len) (.bool ha.flag) (.string ha.name) (.slice p1 n1 c1)) h (.slice (some ⟨g, 0, none⟩) n cap) n (done.append (.cons ha ka .nil)) ra (ys ++ [.int .i64 ha.kind, .int .i64 ha.size, .int .i64 ha.len, .bool ha.flag, .string ha.name, .slice p1 n1 c1]) zs := by
  have hg := (c.own.lt g rfl).1
  have ho := off6o X g (done.length * 6) (.int .i64 ha.kind) (.int .i64 ha.size) (.int .i64 ha.len) (.bool ha.flag) (.string ha.name) (.slice p1 n1 c1)
  have hn : ¬ okv w (.slice (some ⟨g, 0, none⟩) n cap) g := fun e => e.2 rfl
  refine ⟨c.fr.off ho (by omega), by have := ho.size; have := c.lo; omega, c.box.off ho (by omega), c.res.off ho (by omega), ?_, (c.dn.off ho hn).append ⟨p1, n1, c1, [], rfl, hk.off ho hn, rfl⟩, hr⟩
  have := own_six c.own (c.dn.length) (.int .i64 ha.kind) (.int .i64 ha.size) (.int .i64 ha.len) (.bool ha.flag) (.string ha.name) (.slice p1 n1 c1)
  simpa only [List.append_assoc, List.cons_append, List.nil_append] using this
theorem B6.set5 {w : World} {b : Nat} {v0 v1 v2 v3 v4 v5 : Value} (h : B6 w b v0 v1 v2 v3 v4 v5) (u : Value) : B6 (w.setCell ⟨b, 5, none⟩ u) b v0 v1 v2 v3 v4 u := by
  obtain ⟨c0, c1, c2, c3, c4, c5, f⟩ := h
  exact ⟨by simp [go_sem, *], by simp [go_sem, *], by simp [go_sem, *], by simp [go_sem, *], by simp [go_sem, *], by simp [go_sem, *], fun o => by simp [go_sem, f]⟩
/-- Six cells of a row of the call's own. -/
structure C6 (w : World) (g k : Nat) (v0 v1 v2 v3 v4 v5 : Value) : Prop where
  c0 : w.cell? ⟨g, k, none⟩ = some v0
  c1 : w.cell? ⟨g, k + 1, none⟩ = some v1
  c2 : w.cell? ⟨g, k + 2, none⟩ = some v2
  c3 : w.cell? ⟨g, k + 3, none⟩ = some v3
  c4 : w.cell? ⟨g, k + 4, none⟩ = some v4
  c5 : w.cell? ⟨g, k + 5, none⟩ = some v5
  f : ∀ o, w.frozen? ⟨g, o, none⟩ = false
theorem own_c6 {w : World} {base g n cap : Nat} {e : TypeId} {size k : Nat} {ys zs : List Value} {x0 x1 x2 x3 x4 x5 : Value} (h : w.ownsRow base e size (.slice (some ⟨g, 0, none⟩) n cap) n (ys ++ x0 :: x1 :: x2 :: x3 :: x4 :: x5 :: zs)) (hk : ys.length = k) : C6 w g k x0 x1 x2 x3 x4 x5 := by
  have hl := h.1
  simp at hl
  subst hk
  refine ⟨?_, ?_, ?_, ?_, ?_, ?_, fun o => h.frozenAt o⟩
  all_goals (rw [h.cellAt _ (by omega), List.getElem?_append_right (by omega)]; simp)
def CopySpec (ks : Tys) : Prop := ∀ (ok : Nat → Prop) (h : Hd) (p : Option Addr) (n cap : Nat) (w0 w : World), Fresh w0 w → Kids ok w0 ks p n cap →
  Calls Tryz.prog 42 #[.agg #[.int .i64 h.kind, .int .i64 h.size, .int .i64 h.len, .bool h.flag, .string h.name, .slice p n cap]] w fun e w' => (∃ p' n' cap', e = .returned (.agg #[.int .i64 h.kind, .int .i64 h.size, .int .i64 h.len, .bool h.flag, .string h.name, .slice p' n' cap']) ∧ Kids (fun b => w.heap.size ≤ b) w' ks p' n' cap') ∧ Fresh w w'
set_option maxRecDepth 100000 in
set_option maxHeartbeats 800000 in
theorem copied_of (ks : Tys) (hl : ks.length ≤ 9) (hall : ks.All CopySpec) : CopySpec ks := by
  intro ok h p n cap w0 w hf hk
  have hn : n ≤ 9 := by have := hk.1; omega
  have HF := Lib.hid hf
  have HK := Lib.hid hk
  have HA := Lib.hid hall
  clear hf hk hall hl
  have hb := (Blk.new w #[.int .i64 h.kind, .int .i64 h.size, .int .i64 h.len, .bool h.flag, .string h.name, .slice p n cap] 25).six.fresh ((Fresh.refl _).alloc #[.int .i64 0, .int .i64 0, .int .i64 0, .bool false, .string ⟨#[]⟩, .slice none 0 0] 25)
  have hr := (Blk.new (w.alloc (.cells #[.int .i64 h.kind, .int .i64 h.size, .int .i64 h.len, .bool h.flag, .string h.name, .slice p n cap] 25)) #[.int .i64 0, .int .i64 0, .int .i64 0, .bool false, .string ⟨#[]⟩, .slice none 0 0] 25).six
  simp only [World.size_alloc] at hr
  have HB := Lib.hid hb
  have HR := Lib.hid hr
  clear hb hr
  go_enter Tryz.func42, Tryz.ntmps42
  go_wp2_with fail
  go_at_call 64; refine (clone_any ks p n cap w0 _ (HF.out.trans (by (repeat' first | with_reducible exact Fresh.refl _ | with_reducible assumption | with_reducible refine Fresh.alloc ?_ _ _ | with_reducible refine Fresh.drew ?_ | with_reducible refine Fresh.drewN ?_ _ | with_reducible refine Fresh.setCell ?_ ?_ _ | with_reducible refine Fresh.trans ?_ (by assumption) | (simp; done) | (simp; omega)))) HK.out hn).mono ?_; rintro e w1 ⟨⟨v, xs, rfl, hc, hown⟩, h1⟩
  obtain ⟨pv, cv, rfl⟩ : ∃ pv cv, v = .slice pv n cv := by
    rcases hown.2 with ⟨rfl, h0⟩ | ⟨g, cap', _, rfl, _⟩
    · exact ⟨_, _, by rw [h0]⟩
    · exact ⟨_, _, rfl⟩
  have hown2 : w1.ownsRow (w.heap.size + 2) 25 6 (.slice pv n cv) n xs := by simpa using hown
  have hs1 : w.heap.size + 2 ≤ w1.heap.size := by simpa using h1.size
  have hb1 := HB.out.fresh h1
  have hr1 := HR.out.fresh h1
  have CR0 : Hid (CR ok w0 w (w1.setCell ⟨w.heap.size, 5, none⟩ (.slice pv n cv)) h (.slice pv n cv) n .nil ks [] xs) := Lib.hid
    ⟨(show Fresh w w1 from (by (repeat' first | with_reducible exact Fresh.refl _ | with_reducible assumption | with_reducible refine Fresh.alloc ?_ _ _ | with_reducible refine Fresh.drew ?_ | with_reducible refine Fresh.drewN ?_ _ | with_reducible refine Fresh.setCell ?_ ?_ _ | with_reducible refine Fresh.trans ?_ (by assumption) | (simp; done) | (simp; omega)))).setCell (by simp) _, by simpa [World.setCell] using hs1, hb1.set5 _, hr1.off (off_set (off_refl _ _) _ _) (by omega), own_set hown2 (own_ne hown2 (by omega)) _ _, rfl, hc⟩
  obtain ⟨b0, b1, b2, b3, b4, b5, bf⟩ := hb1
  have bz := cell_lt b0
  simp only at bz
  clear hown hown2 hr1 hc h1 HB HR
  go_wp2_with fail
  clear b0 b1 b2 b3 b4 b5 bf bz
  go_loopw [12] (fun s12 wr => ∃ (a : Nat) (done rest : Tys) (ys zs : List Value), a ≤ n ∧ s12 = .int .i64 a ∧ Hid (done.length = a ∧ done.append rest = ks) ∧ Hid (CR ok w0 w wr h (.slice pv n cv) n done rest ys zs)) (fun s12 _ => n - (intOf s12).toNat)
  case atStart => exact ⟨0, .nil, ks, [], xs, by omega, rfl, Lib.hid ⟨rfl, rfl⟩, CR0⟩
  case round =>
    obtain ⟨a, done, rest, ys, zs, ha, rfl, HD, HC⟩ := hrel
    have HN := Lib.hid HK.out.1
    by_cases hlt : a < n
    · cases rest with
      | nil =>
        exfalso
        have h1 := HD.out.1
        have h2 := HD.out.2
        have h3 := HN.out
        rw [← h2, Tys.length_append] at h3
        simp [Tys.length] at h3
        omega
      | cons hd kd rd =>
        have hrs := HC.out.rs
        obtain ⟨p0, n0, c0, zs', rfl, hkd, hrd⟩ := hrs
        have HKD := Lib.hid hkd
        have HRD := Lib.hid hrd
        have hall : CopySpec kd := by
          have h1 := HA.out
          rw [← HD.out.2] at h1
          exact (Tys.All.right h1).1
        have IH := Lib.hid hall
        clear hall hkd hrd
        obtain ⟨g, rfl⟩ : ∃ g, pv = some ⟨g, 0, none⟩ := by
          rcases HC.out.own.2 with ⟨_, h0⟩ | ⟨g, cap', _, h0, _⟩
          · omega
          · exact ⟨g, by simpa using congrArg (fun v => match v with | .slice p _ _ => p | _ => none) h0⟩
        have hk6 : ys.length = a * 6 := by rw [HC.out.dn.length, HD.out.1]
        obtain ⟨e0, e1, e2, e3, e4, e5, ef⟩ := own_c6 HC.out.own hk6
        have ez := cell_lt e0
        simp only at ez
        have hcap : (a : Int) < (n : Int) := by omega
        have HK6 := Lib.hid hk6
        clear hk6
        go_wp2_with fail
        have FW : Fresh wr (wr.alloc (.cells #[.int .i64 hd.kind, .int .i64 hd.size, .int .i64 hd.len, .bool hd.flag, .string hd.name, .slice p0 n0 c0] 25)) := (Fresh.refl _).alloc _ _
        have C1 := Lib.hid (HC.out.later FW)
        have T6 := Lib.hid (Blk.new wr #[.int .i64 hd.kind, .int .i64 hd.size, .int .i64 hd.len, .bool hd.flag, .string hd.name, .slice p0 n0 c0] 25).six
        have HZ : Hid ((wr.alloc (.cells #[.int .i64 hd.kind, .int .i64 hd.size, .int .i64 hd.len, .bool hd.flag, .string hd.name, .slice p0 n0 c0] 25)).heap.size = wr.heap.size + 1) := Lib.hid (by simp)
        clear FW e0 e1 e2 e3 e4 e5 ef ez
        generalize wr.alloc (.cells #[.int .i64 hd.kind, .int .i64 hd.size, .int .i64 hd.len, .bool hd.flag, .string hd.name, .slice p0 n0 c0] 25) = W at *
        have gn1 : w.heap.size ≠ g := by have h1 := (C1.out.own.lt g rfl).1; omega
        have gn2 : g ≠ w.heap.size := fun e => gn1 e.symm
        have gn3 : wr.heap.size ≠ g := by have h1 := (HC.out.own.lt g rfl).2; omega
        have gn4 : g ≠ wr.heap.size := fun e => gn3 e.symm
        have IHx := Lib.hid (fun (X : World) (hX : Fresh w0 X) => IH.out ok hd p0 n0 c0 w0 X hX HKD.out)
        have HOK : Hid (∀ X : World, W.heap.size ≤ X.heap.size → ∀ b, X.heap.size ≤ b → okv w (.slice (some ⟨g, 0, none⟩) n cv) b) := Lib.hid (fun X hX b hb => ⟨by have := C1.out.lo; omega, fun e => by have h1 := (C1.out.own.lt g rfl).2; have h2 : g = b := (by simpa [Value.ownBlock] using e); omega⟩)
        have E : Hid (Fresh W W.drew) := Lib.hid (Fresh.refl W).drew
        go_region_held3 (fun w' => w'.cell? ⟨w.heap.size, 5, none⟩ = some (.slice (some ⟨g, 0, none⟩) n cv) ∧ w'.cell? ⟨wr.heap.size, 0, none⟩ = some (.int .i64 hd.kind) ∧ w'.cell? ⟨wr.heap.size, 1, none⟩ = some (.int .i64 hd.size) ∧ w'.cell? ⟨wr.heap.size, 2, none⟩ = some (.int .i64 hd.len) ∧ w'.cell? ⟨wr.heap.size, 3, none⟩ = some (.bool hd.flag) ∧ w'.cell? ⟨wr.heap.size, 4, none⟩ = some (.string hd.name) ∧ w'.cell? ⟨wr.heap.size, 5, none⟩ = some (.slice p0 n0 c0)) (first | with_reducible exact ⟨(C1.out.later E.out).box.c5, (T6.out.fresh E.out).c0, (T6.out.fresh E.out).c1, (T6.out.fresh E.out).c2, (T6.out.fresh E.out).c3, (T6.out.fresh E.out).c4, (T6.out.fresh E.out).c5⟩ | (simp [go_sem, gn1, gn2, gn3, gn4]; with_reducible exact ⟨(C1.out.later E.out).box.c5, (T6.out.fresh E.out).c0, (T6.out.fresh E.out).c1, (T6.out.fresh E.out).c2, (T6.out.fresh E.out).c3, (T6.out.fresh E.out).c4, (T6.out.fresh E.out).c5⟩)) (first | (go_at_call 42; (with_reducible refine (IHx.out _ (HF.out.trans (C1.out.fr.trans E.out))).mono ?_); rintro e w2 ⟨⟨p1, n1, c1, rfl, hk1⟩, h2⟩; have HK1 := Lib.hid (hk1.mono (ok' := okv w (.slice (some ⟨g, 0, none⟩) n cv)) (fun b _ hb => HOK.out _ E.out.size b hb)); have E := Lib.hid (E.out.trans h2); clear hk1 h2; obtain ⟨e0, e1, e2, e3, e4, e5, ef⟩ := own_c6 (C1.out.later E.out).own HK6.out; have ez := cell_lt e0; simp only at ez))
        have CS := (C1.out.later E.out).step HRD.out HK1.out
        rw [HD.out.1] at CS
        have HCS := Lib.hid CS
        clear CS e0 e1 e2 e3 e4 e5 ef ez
        go_wp2_with fail
        go_roundw
        case rel => exact ⟨a + 1, done.append (.cons hd kd .nil), rd, _, _, by omega, by go_num, Lib.hid ⟨by rw [Tys.length_append, HD.out.1]; rfl, by rw [Tys.append_assoc]; exact HD.out.2⟩, HCS⟩
        case measure => simp [intOf]; omega
    · have HE : Hid (rest = .nil) := Lib.hid (by
        have h1 := HD.out.1
        have h2 := HD.out.2
        have h3 := HN.out
        rw [← h2, Tys.length_append] at h3
        cases rest with
        | nil => rfl
        | cons _ _ _ => simp [Tys.length] at h3; omega)
      have HDK : Hid (done = ks) := Lib.hid (by
        have h2 := HD.out.2
        rw [HE.out] at h2
        rw [← h2]
        clear h2 HD HC HE
        induction done with
        | nil => rfl
        | cons h k r _ ih => rw [Tys.append]; congr 1)
      have HZ : Hid (zs = []) := Lib.hid (by have := HC.out.rs; rw [HE.out] at this; exact this)
      have hown := HC.out.own
      rw [HZ.out, List.append_nil] at hown
      have hdn := HC.out.dn.turn (ok' := fun b => w.heap.size + 2 ≤ b) (fun _ _ _ _ h => h) (fun _ _ hb => hb.1)
      rw [HDK.out] at hdn
      obtain ⟨p2, c2, e2, hkk⟩ := Kids.of_own (ok := fun b => w.heap.size + 2 ≤ b) (fun b hb => hb) hown hdn
      cases e2
      have HK2 := Lib.hid hkk
      have HFr := Lib.hid HC.out.fr
      obtain ⟨x0, x1, x2, x3, x4, x5, xf⟩ := HC.out.box
      obtain ⟨r0, r1, r2, r3, r4, r5, rf⟩ := HC.out.res
      have rz := cell_lt r0
      simp only at rz
      have hge : (n : Int) ≤ (a : Int) := by omega
      clear hkk hown hdn HC HD HE HZ HDK
      go_wp2_with fail
      refine bodyPost_ret (v := ?_) ?_ rfl ?_; rotate_left 1; focus (simp [results, Tryz.results42, go_sem, *]; (try rfl); done)
      exact ⟨⟨_, _, _, rfl, ((((((HK2.out.set (by simp) 0 _).set (by simp) 1 _).set (by simp) 2 _).set (by simp) 3 _).set (by simp) 4 _).set (by simp) 5 _).mono (fun b _ hb => by omega)⟩, (by repeat' first | with_reducible refine Fresh.setCell ?_ ?_ _ | exact HFr.out | (simp; done) | (simp; omega))⟩
theorem copy_all : ∀ ks : Tys, ks.small → ks.All CopySpec
  | .nil, _ => trivial
  | .cons _ k r, h => ⟨copied_of k h.1.1 (copy_all k h.1.2), copy_all r h.2⟩
end Go.Proofs.YteiomcbphbbpkaaGreatDoor
