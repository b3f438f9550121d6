/- CtypeCommon's function. -/
import Derived.Test.YteiomcbphbbpkaaDoorEh
import Derived.Test.YteiomcbphbbpkaaDoorEi
namespace Go.Proofs.YteiomcbphbbpkaaDoor
set_option linter.unusedSimpArgs false
set_option linter.unusedVariables false
open Go.RowKit

theorem CodeAt.later {w w' : World} {zs : Nat → Int} {n i : Nat} {p : Option Addr} {m c : Nat} (h : CodeAt w zs n i p m c) (hf : Fresh w w') : CodeAt w' zs n i p m c :=
  ⟨h.1, h.2.1, h.2.2.1, h.2.2.2.imp id (fun ⟨B, off, e, hc⟩ => ⟨B, off, e, fun j hj => hf.at' (hc j hj)⟩)⟩
/-- A type in a box. -/
def TB (w : World) (b : Nat) (h : Hd) (p : Option Addr) (n c : Nat) : Prop := B6 w b (.int .i64 h.kind) (.int .i64 h.size) (.int .i64 h.len) (.bool h.flag) (.string h.name) (.slice p n c)
theorem TB.later {w w' : World} {b : Nat} {h : Hd} {p : Option Addr} {n c : Nat} (t : TB w b h p n c) (hf : Fresh w w') : TB w' b h p n c := B6.fresh t hf
theorem TB.new (w : World) (h : Hd) (p : Option Addr) (n c : Nat) : TB (w.alloc (.cells #[.int .i64 h.kind, .int .i64 h.size, .int .i64 h.len, .bool h.flag, .string h.name, .slice p n c] 30)) w.heap.size h p n c := (Blk.new w _ 30).six
/-- What the last region reads. -/
structure S30 (w' : World) (b7 b11 b13 b15 b5 : Nat) (A t : Hd) (tp : Option Addr) (tn tc : Nat) : Prop where
  c0 : w'.cell? ⟨b7, 0, none⟩ = some (.int .i64 A.kind)
  c1 : w'.cell? ⟨b7, 1, none⟩ = some (.int .i64 A.size)
  c2 : w'.cell? ⟨b7, 2, none⟩ = some (.int .i64 A.len)
  c3 : w'.cell? ⟨b7, 3, none⟩ = some (.bool A.flag)
  c4 : w'.cell? ⟨b7, 4, none⟩ = some (.string A.name)
  c5 : w'.cell? ⟨b7, 5, none⟩ = some (.slice none 0 0)
  c6 : w'.cell? ⟨b11, 0, none⟩ = some (.int .i64 A.kind)
  c7 : w'.cell? ⟨b11, 1, none⟩ = some (.int .i64 A.size)
  c8 : w'.cell? ⟨b11, 2, none⟩ = some (.int .i64 A.len)
  c9 : w'.cell? ⟨b11, 3, none⟩ = some (.bool A.flag)
  c10 : w'.cell? ⟨b11, 4, none⟩ = some (.string A.name)
  c11 : w'.cell? ⟨b11, 5, none⟩ = some (.slice none 0 0)
  c12 : w'.cell? ⟨b13, 0, none⟩ = some (.int .i64 A.kind)
  c13 : w'.cell? ⟨b13, 1, none⟩ = some (.int .i64 A.size)
  c14 : w'.cell? ⟨b13, 2, none⟩ = some (.int .i64 A.len)
  c15 : w'.cell? ⟨b13, 3, none⟩ = some (.bool A.flag)
  c16 : w'.cell? ⟨b13, 4, none⟩ = some (.string A.name)
  c17 : w'.cell? ⟨b13, 5, none⟩ = some (.slice none 0 0)
  c18 : w'.cell? ⟨b15, 0, none⟩ = some (.int .i64 (pro t).kind)
  c19 : w'.cell? ⟨b15, 1, none⟩ = some (.int .i64 (pro t).size)
  c20 : w'.cell? ⟨b15, 2, none⟩ = some (.int .i64 (pro t).len)
  c21 : w'.cell? ⟨b15, 3, none⟩ = some (.bool (pro t).flag)
  c22 : w'.cell? ⟨b15, 4, none⟩ = some (.string (pro t).name)
  c23 : w'.cell? ⟨b15, 5, none⟩ = some (.slice none 0 0)
  c24 : w'.cell? ⟨b5, 0, none⟩ = some (.int .i64 t.kind)
  c25 : w'.cell? ⟨b5, 1, none⟩ = some (.int .i64 t.size)
  c26 : w'.cell? ⟨b5, 2, none⟩ = some (.int .i64 t.len)
  c27 : w'.cell? ⟨b5, 3, none⟩ = some (.bool t.flag)
  c28 : w'.cell? ⟨b5, 4, none⟩ = some (.string t.name)
  c29 : w'.cell? ⟨b5, 5, none⟩ = some (.slice tp tn tc)
theorem S30.later {w w' : World} {b7 b11 b13 b15 b5 : Nat} {A t : Hd} {tp : Option Addr} {tn tc : Nat} (h : S30 w b7 b11 b13 b15 b5 A t tp tn tc) (hf : Fresh w w') : S30 w' b7 b11 b13 b15 b5 A t tp tn tc :=
  ⟨hf.at' h.c0, hf.at' h.c1, hf.at' h.c2, hf.at' h.c3, hf.at' h.c4, hf.at' h.c5, hf.at' h.c6, hf.at' h.c7, hf.at' h.c8, hf.at' h.c9, hf.at' h.c10, hf.at' h.c11, hf.at' h.c12, hf.at' h.c13, hf.at' h.c14, hf.at' h.c15, hf.at' h.c16, hf.at' h.c17, hf.at' h.c18, hf.at' h.c19, hf.at' h.c20, hf.at' h.c21, hf.at' h.c22, hf.at' h.c23, hf.at' h.c24, hf.at' h.c25, hf.at' h.c26, hf.at' h.c27, hf.at' h.c28, hf.at' h.c29⟩
theorem com_sym_any {t u : Hd} (h : comOk t u = true → Chk t u) : comHd u t = comHd t u := by
  cases k : comOk t u
  · rw [com_not k, com_not (by rw [comOk_sym]; exact k)]
  · exact (h k).sym
/-- What a common type A of t and u is. -/
structure CM (t u A : Hd) (k : Bool) : Prop where
  no : k = false → A = Hd.zero
  kind : k = true → A.kind = 2 ∨ A.kind = 3
  left : k = true → comHd A t = A
  lok : k = true → comOk A t = true
  right : k = true → comHd A u = A
  rok : k = true → comOk A u = true
  pr : k = true → pro A = A
  self : k = true → comHd t t = pro t
  sok : k = true → comOk t t = true
  pk : k = true → (pro t).kind = 2 ∨ (pro t).kind = 3
theorem CM.of {t u : Hd} (h : comOk t u = true → Chk t u) : CM t u (comHd t u) (comOk t u) :=
  ⟨com_not, fun k => (h k).kind, fun k => (h k).left, fun k => (h k).lok, fun k => (h k).right, fun k => (h k).rok, fun k => (h k).pro', fun k => (h k).self, fun k => (h k).sok, fun k => (h k).pk⟩
set_option maxRecDepth 100000 in
set_option maxHeartbeats 8000000 in
theorem common_law (zs ys : Nat → Int) (n m : Nat) (p q : Option Addr) (cap mc : Nat) (w : World) (hz : CodeAt w zs n 0 p n cap) (hy : CodeAt w ys m 0 q m mc) :
    Calls Tryd.prog 7 #[.slice p n cap, .slice q m mc] w fun e w' => e = .returned (.bool true) ∧ Fresh w w' := by
  have HZ := Lib.hid hz
  have HY := Lib.hid hy
  clear hz hy
  go_enter Tryd.func7, Tryd.ntmps7
  go_wp2_with fail
  go_at_call 8; refine (fixed_any _).mono ?_; rintro e w1 ⟨rfl, h1⟩
  go_wp2_with fail
  go_at_call 10; refine (one_any zs n p cap w _ (by (repeat' first | with_reducible exact Fresh.refl _ | with_reducible assumption | with_reducible refine Fresh.alloc ?_ _ _ | with_reducible refine Fresh.drew ?_ | with_reducible refine Fresh.drewN ?_ _ | with_reducible refine Fresh.setCell ?_ ?_ _ | with_reducible refine Fresh.trans ?_ (by assumption) | (simp; done) | (simp; omega))) HZ.out).mono ?_; rintro e w2 ⟨⟨tp, tn, tc, rfl, hkt⟩, h2⟩
  have HKT := Lib.hid hkt
  have H2 : Hid (Fresh w w2) := Lib.hid (h1.trans h2)
  clear hkt h1 h2
  go_wp2_with fail
  go_at_call 10; refine (one_any ys m q mc w _ H2.out HY.out).mono ?_; rintro e w3 ⟨⟨up, un, uc, rfl, hku⟩, h3⟩
  have HKT := Lib.hid (HKT.out.later h3)
  have HKU := Lib.hid hku
  have H3 : Hid (Fresh w w3) := Lib.hid (H2.out.trans h3)
  have HST := Lib.hid (mkT_small zs n 61 0)
  have HSU := Lib.hid (mkT_small ys m 61 0)
  have HCH := Lib.hid (comOk_A9 zs ys n m)
  rw [show mkT zs n 61 0 = one zs n from rfl] at HST
  rw [show mkT ys m 61 0 = one ys m from rfl] at HSU
  clear hku h3 H2 HZ HY
  generalize one zs n = T at *
  generalize one ys m = U at *
  obtain ⟨t, tk, tj⟩ := T
  obtain ⟨u, uk, uj⟩ := U
  simp only at HKT HKU HST HSU HCH
  go_upto_region 4 with fail
  have BT : Hid (TB ((w3.alloc (.cells #[.int .i64 t.kind, .int .i64 t.size, .int .i64 t.len, .bool t.flag, .string t.name, .slice tp tn tc] 30)).alloc (.cells #[.int .i64 u.kind, .int .i64 u.size, .int .i64 u.len, .bool u.flag, .string u.name, .slice up un uc] 30)) w3.heap.size t tp tn tc) := Lib.hid ((TB.new w3 t tp tn tc).later (by (repeat' first | with_reducible exact Fresh.refl _ | with_reducible assumption | with_reducible refine Fresh.alloc ?_ _ _ | with_reducible refine Fresh.drew ?_ | with_reducible refine Fresh.drewN ?_ _ | with_reducible refine Fresh.setCell ?_ ?_ _ | with_reducible refine Fresh.trans ?_ (by assumption) | (simp; done) | (simp; omega))))
  have BU : Hid (TB ((w3.alloc (.cells #[.int .i64 t.kind, .int .i64 t.size, .int .i64 t.len, .bool t.flag, .string t.name, .slice tp tn tc] 30)).alloc (.cells #[.int .i64 u.kind, .int .i64 u.size, .int .i64 u.len, .bool u.flag, .string u.name, .slice up un uc] 30)) (w3.heap.size + 1) u up un uc) := Lib.hid (by have := TB.new (w3.alloc (.cells #[.int .i64 t.kind, .int .i64 t.size, .int .i64 t.len, .bool t.flag, .string t.name, .slice tp tn tc] 30)) u up un uc; simpa only [World.size_alloc] using this)
  have KT : Hid (Kids (fun _ => True) ((w3.alloc (.cells #[.int .i64 t.kind, .int .i64 t.size, .int .i64 t.len, .bool t.flag, .string t.name, .slice tp tn tc] 30)).alloc (.cells #[.int .i64 u.kind, .int .i64 u.size, .int .i64 u.len, .bool u.flag, .string u.name, .slice up un uc] 30)) tk tp tn tc) := Lib.hid ((HKT.out.mono (fun _ _ _ => trivial)).later (by (repeat' first | with_reducible exact Fresh.refl _ | with_reducible assumption | with_reducible refine Fresh.alloc ?_ _ _ | with_reducible refine Fresh.drew ?_ | with_reducible refine Fresh.drewN ?_ _ | with_reducible refine Fresh.setCell ?_ ?_ _ | with_reducible refine Fresh.trans ?_ (by assumption) | (simp; done) | (simp; omega))))
  have KU : Hid (Kids (fun _ => True) ((w3.alloc (.cells #[.int .i64 t.kind, .int .i64 t.size, .int .i64 t.len, .bool t.flag, .string t.name, .slice tp tn tc] 30)).alloc (.cells #[.int .i64 u.kind, .int .i64 u.size, .int .i64 u.len, .bool u.flag, .string u.name, .slice up un uc] 30)) uk up un uc) := Lib.hid ((HKU.out.mono (fun _ _ _ => trivial)).later (by (repeat' first | with_reducible exact Fresh.refl _ | with_reducible assumption | with_reducible refine Fresh.alloc ?_ _ _ | with_reducible refine Fresh.drew ?_ | with_reducible refine Fresh.drewN ?_ _ | with_reducible refine Fresh.setCell ?_ ?_ _ | with_reducible refine Fresh.trans ?_ (by assumption) | (simp; done) | (simp; omega))))
  have F4 : Hid (Fresh w ((w3.alloc (.cells #[.int .i64 t.kind, .int .i64 t.size, .int .i64 t.len, .bool t.flag, .string t.name, .slice tp tn tc] 30)).alloc (.cells #[.int .i64 u.kind, .int .i64 u.size, .int .i64 u.len, .bool u.flag, .string u.name, .slice up un uc] 30))) := Lib.hid (H3.out.trans (by (repeat' first | with_reducible exact Fresh.refl _ | with_reducible assumption | with_reducible refine Fresh.alloc ?_ _ _ | with_reducible refine Fresh.drew ?_ | with_reducible refine Fresh.drewN ?_ _ | with_reducible refine Fresh.setCell ?_ ?_ _ | with_reducible refine Fresh.trans ?_ (by assumption) | (simp; done) | (simp; omega))))
  clear HKT HKU H3
  generalize ((w3.alloc (.cells #[.int .i64 t.kind, .int .i64 t.size, .int .i64 t.len, .bool t.flag, .string t.name, .slice tp tn tc] 30)).alloc (.cells #[.int .i64 u.kind, .int .i64 u.size, .int .i64 u.len, .bool u.flag, .string u.name, .slice up un uc] 30)) = W4 at *
  generalize w3.heap.size + 1 = b6 at *
  generalize w3.heap.size = b5 at *
  have CTU : Hid (∀ X, Fresh W4 X → Calls Tryd.prog 29 #[.agg #[.int .i64 t.kind, .int .i64 t.size, .int .i64 t.len, .bool t.flag, .string t.name, .slice tp tn tc], .agg #[.int .i64 u.kind, .int .i64 u.size, .int .i64 u.len, .bool u.flag, .string u.name, .slice up un uc]] X fun e w' => e = .returned (.tuple #[.agg #[.int .i64 (comHd t u).kind, .int .i64 (comHd t u).size, .int .i64 (comHd t u).len, .bool (comHd t u).flag, .string (comHd t u).name, .slice none 0 0], .bool (comOk t u)]) ∧ Fresh X w') := Lib.hid (fun X hX => common_any t u tk uk tp up tn un tc uc W4 X hX KT.out KU.out HST.out HSU.out)
  have CUT : Hid (∀ X, Fresh W4 X → Calls Tryd.prog 29 #[.agg #[.int .i64 u.kind, .int .i64 u.size, .int .i64 u.len, .bool u.flag, .string u.name, .slice up un uc], .agg #[.int .i64 t.kind, .int .i64 t.size, .int .i64 t.len, .bool t.flag, .string t.name, .slice tp tn tc]] X fun e w' => e = .returned (.tuple #[.agg #[.int .i64 (comHd t u).kind, .int .i64 (comHd t u).size, .int .i64 (comHd t u).len, .bool (comHd t u).flag, .string (comHd t u).name, .slice none 0 0], .bool (comOk t u)]) ∧ Fresh X w') := Lib.hid (fun X hX => by
    have := common_any u t uk tk up tp un tn uc tc W4 X hX KU.out KT.out HSU.out HST.out
    rw [com_sym_any HCH.out, comOk_sym t u] at this
    exact this)
  have bt := BT.out
  have bu := BU.out
  obtain ⟨t0, t1, t2, t3, t4, t5, tf⟩ := bt
  obtain ⟨u0, u1, u2, u3, u4, u5, uf⟩ := bu
  go_wp2_with fail
  clear t0 t1 t2 t3 t4 t5 tf u0 u1 u2 u3 u4 u5 uf
  go_at_call 29; refine (CTU.out _ (Fresh.refl _)).mono ?_; rintro e w5 ⟨rfl, h5⟩
  have HCOM : Hid (CM t u (comHd t u) (comOk t u)) := Lib.hid (CM.of HCH.out)
  clear HCH
  generalize comHd t u = A at *
  generalize comOk t u = k at *
  go_upto_region 5 with fail
  have F6 : Hid (Fresh W4 (w5.alloc (.cells #[.int .i64 A.kind, .int .i64 A.size, .int .i64 A.len, .bool A.flag, .string A.name, .slice none 0 0] 30))) := Lib.hid (by (repeat' first | with_reducible exact Fresh.refl _ | with_reducible assumption | with_reducible refine Fresh.alloc ?_ _ _ | with_reducible refine Fresh.drew ?_ | with_reducible refine Fresh.drewN ?_ _ | with_reducible refine Fresh.setCell ?_ ?_ _ | with_reducible refine Fresh.trans ?_ (by assumption) | (simp; done) | (simp; omega)))
  have BA : Hid (TB (w5.alloc (.cells #[.int .i64 A.kind, .int .i64 A.size, .int .i64 A.len, .bool A.flag, .string A.name, .slice none 0 0] 30)) w5.heap.size A none 0 0) := Lib.hid (TB.new w5 A none 0 0)
  have BT := Lib.hid (BT.out.later F6.out)
  have BU := Lib.hid (BU.out.later F6.out)
  clear h5 CTU
  generalize (w5.alloc (.cells #[.int .i64 A.kind, .int .i64 A.size, .int .i64 A.len, .bool A.flag, .string A.name, .slice none 0 0] 30)) = W6 at *
  generalize w5.heap.size = b7 at *
  have bt := BT.out
  have bu := BU.out
  obtain ⟨t0, t1, t2, t3, t4, t5, tf⟩ := bt
  obtain ⟨u0, u1, u2, u3, u4, u5, uf⟩ := bu
  go_wp2_with fail
  clear t0 t1 t2 t3 t4 t5 tf u0 u1 u2 u3 u4 u5 uf
  go_at_call 29; refine (CUT.out _ F6.out).mono ?_; rintro e w7 ⟨rfl, h7⟩
  go_upto_region 6 with fail
  have F8a : Fresh W6 (w7.alloc (.cells #[.int .i64 A.kind, .int .i64 A.size, .int .i64 A.len, .bool A.flag, .string A.name, .slice none 0 0] 30)) := (by (repeat' first | with_reducible exact Fresh.refl _ | with_reducible assumption | with_reducible refine Fresh.alloc ?_ _ _ | with_reducible refine Fresh.drew ?_ | with_reducible refine Fresh.drewN ?_ _ | with_reducible refine Fresh.setCell ?_ ?_ _ | with_reducible refine Fresh.trans ?_ (by assumption) | (simp; done) | (simp; omega)))
  have F8 : Hid (Fresh W4 (w7.alloc (.cells #[.int .i64 A.kind, .int .i64 A.size, .int .i64 A.len, .bool A.flag, .string A.name, .slice none 0 0] 30))) := Lib.hid (F6.out.trans F8a)
  have BB : Hid (TB (w7.alloc (.cells #[.int .i64 A.kind, .int .i64 A.size, .int .i64 A.len, .bool A.flag, .string A.name, .slice none 0 0] 30)) w7.heap.size A none 0 0) := Lib.hid (TB.new w7 A none 0 0)
  have BA := Lib.hid (BA.out.later F8a)
  have BT := Lib.hid (BT.out.later F8a)
  have BU := Lib.hid (BU.out.later F8a)
  clear h7 CUT F8a F6
  generalize (w7.alloc (.cells #[.int .i64 A.kind, .int .i64 A.size, .int .i64 A.len, .bool A.flag, .string A.name, .slice none 0 0] 30)) = W8 at *
  generalize w7.heap.size = b9 at *
  have ba := BA.out
  have bb := BB.out
  obtain ⟨t0, t1, t2, t3, t4, t5, tf⟩ := ba
  obtain ⟨u0, u1, u2, u3, u4, u5, uf⟩ := bb
  cases k
  · have HA : Hid (A.kind = 0) := Lib.hid (by rw [HCOM.out.no rfl]; rfl)
    go_wp2_with fail
    clear t0 t1 t2 t3 t4 t5 tf u0 u1 u2 u3 u4 u5 uf
    go_at_call 17; refine (sameR_any A none none 0 0 0 0 _ (Or.inl HA.out)).mono ?_; rintro e w9 ⟨rfl, h9⟩
    have F9 := Lib.hid h9
    have ba := BA.out.later h9
    obtain ⟨t0, t1, t2, t3, t4, t5, tf⟩ := ba
    clear h9
    go_wp2_with fail
    clear t0 t1 t2 t3 t4 t5 tf
    go_at_call 35; refine (none_any A none 0 0 _).mono ?_; rintro e w10 ⟨rfl, h10⟩
    rw [show (A.kind == 0) = true by rw [HA.out]; rfl]
    have F10 := Lib.hid (F9.out.trans h10)
    have bb := BB.out.later F10.out
    obtain ⟨u0, u1, u2, u3, u4, u5, uf⟩ := bb
    clear h10
    go_wp2_with fail
    clear u0 u1 u2 u3 u4 u5 uf
    go_at_call 35; refine (none_any A none 0 0 _).mono ?_; rintro e w11 ⟨rfl, h11⟩
    rw [show (A.kind == 0) = true by rw [HA.out]; rfl]
    go_wp2_with fail
    go_returns
    exact ⟨rfl, F4.out.trans (F8.out.trans (F10.out.trans h11))⟩
  · have HA : Hid (A.kind = 0 ∨ A.kind = 2 ∨ A.kind = 3) := Lib.hid (Or.inr (HCOM.out.kind rfl))
    have CAT : Hid (∀ X, Fresh W4 X → Calls Tryd.prog 29 #[.agg #[.int .i64 A.kind, .int .i64 A.size, .int .i64 A.len, .bool A.flag, .string A.name, .slice none 0 0], .agg #[.int .i64 t.kind, .int .i64 t.size, .int .i64 t.len, .bool t.flag, .string t.name, .slice tp tn tc]] X fun e w' => e = .returned (.tuple #[.agg #[.int .i64 A.kind, .int .i64 A.size, .int .i64 A.len, .bool A.flag, .string A.name, .slice none 0 0], .bool true]) ∧ Fresh X w') := Lib.hid (fun X hX => by
      have := common_any A t .nil tk none tp 0 tn 0 tc W4 X hX (ok := fun _ => True) (Kids.none _) KT.out ⟨trivial, by decide⟩ HST.out
      rw [HCOM.out.left rfl, HCOM.out.lok rfl] at this
      exact this)
    have CAU : Hid (∀ X, Fresh W4 X → Calls Tryd.prog 29 #[.agg #[.int .i64 A.kind, .int .i64 A.size, .int .i64 A.len, .bool A.flag, .string A.name, .slice none 0 0], .agg #[.int .i64 u.kind, .int .i64 u.size, .int .i64 u.len, .bool u.flag, .string u.name, .slice up un uc]] X fun e w' => e = .returned (.tuple #[.agg #[.int .i64 A.kind, .int .i64 A.size, .int .i64 A.len, .bool A.flag, .string A.name, .slice none 0 0], .bool true]) ∧ Fresh X w') := Lib.hid (fun X hX => by
      have := common_any A u .nil uk none up 0 un 0 uc W4 X hX (ok := fun _ => True) (Kids.none _) KU.out ⟨trivial, by decide⟩ HSU.out
      rw [HCOM.out.right rfl, HCOM.out.rok rfl] at this
      exact this)
    have CTT : Hid (∀ X, Fresh W4 X → Calls Tryd.prog 29 #[.agg #[.int .i64 t.kind, .int .i64 t.size, .int .i64 t.len, .bool t.flag, .string t.name, .slice tp tn tc], .agg #[.int .i64 t.kind, .int .i64 t.size, .int .i64 t.len, .bool t.flag, .string t.name, .slice tp tn tc]] X fun e w' => e = .returned (.tuple #[.agg #[.int .i64 (pro t).kind, .int .i64 (pro t).size, .int .i64 (pro t).len, .bool (pro t).flag, .string (pro t).name, .slice none 0 0], .bool true]) ∧ Fresh X w') := Lib.hid (fun X hX => by
      have := common_any t t tk tk tp tp tn tn tc tc W4 X hX KT.out KT.out HST.out HST.out
      rw [HCOM.out.self rfl, HCOM.out.sok rfl] at this
      exact this)
    go_wp2_with fail
    clear t0 t1 t2 t3 t4 t5 tf u0 u1 u2 u3 u4 u5 uf
    go_at_call 17; refine (sameR_any A none none 0 0 0 0 _ HA.out).mono ?_; rintro e w9 ⟨rfl, h9⟩
    have F9 := Lib.hid h9
    have ba := BA.out.later h9
    have bt := BT.out.later h9
    obtain ⟨t0, t1, t2, t3, t4, t5, tf⟩ := bt
    obtain ⟨u0, u1, u2, u3, u4, u5, uf⟩ := ba
    clear h9
    go_wp2_with fail
    clear t0 t1 t2 t3 t4 t5 tf u0 u1 u2 u3 u4 u5 uf
    go_at_call 29; refine (CAT.out _ (F8.out.trans F9.out)).mono ?_; rintro e w10 ⟨rfl, h10⟩
    go_upto_region 9 with fail
    have F11 : Hid (Fresh W8 (w10.alloc (.cells #[.int .i64 A.kind, .int .i64 A.size, .int .i64 A.len, .bool A.flag, .string A.name, .slice none 0 0] 30))) := Lib.hid (F9.out.trans (by (repeat' first | with_reducible exact Fresh.refl _ | with_reducible assumption | with_reducible refine Fresh.alloc ?_ _ _ | with_reducible refine Fresh.drew ?_ | with_reducible refine Fresh.drewN ?_ _ | with_reducible refine Fresh.setCell ?_ ?_ _ | with_reducible refine Fresh.trans ?_ (by assumption) | (simp; done) | (simp; omega))))
    have BC : Hid (TB (w10.alloc (.cells #[.int .i64 A.kind, .int .i64 A.size, .int .i64 A.len, .bool A.flag, .string A.name, .slice none 0 0] 30)) w10.heap.size A none 0 0) := Lib.hid (TB.new w10 A none 0 0)
    clear h10 F9 CAT
    generalize (w10.alloc (.cells #[.int .i64 A.kind, .int .i64 A.size, .int .i64 A.len, .bool A.flag, .string A.name, .slice none 0 0] 30)) = W11 at *
    generalize w10.heap.size = b11 at *
    have ba := BA.out.later F11.out
    have bu := BU.out.later F11.out
    obtain ⟨t0, t1, t2, t3, t4, t5, tf⟩ := bu
    obtain ⟨u0, u1, u2, u3, u4, u5, uf⟩ := ba
    go_wp2_with fail
    clear t0 t1 t2 t3 t4 t5 tf u0 u1 u2 u3 u4 u5 uf
    go_at_call 29; refine (CAU.out _ (F8.out.trans F11.out)).mono ?_; rintro e w12 ⟨rfl, h12⟩
    go_upto_region 10 with fail
    have F13a : Fresh W11 (w12.alloc (.cells #[.int .i64 A.kind, .int .i64 A.size, .int .i64 A.len, .bool A.flag, .string A.name, .slice none 0 0] 30)) := (by (repeat' first | with_reducible exact Fresh.refl _ | with_reducible assumption | with_reducible refine Fresh.alloc ?_ _ _ | with_reducible refine Fresh.drew ?_ | with_reducible refine Fresh.drewN ?_ _ | with_reducible refine Fresh.setCell ?_ ?_ _ | with_reducible refine Fresh.trans ?_ (by assumption) | (simp; done) | (simp; omega)))
    have F13 : Hid (Fresh W8 (w12.alloc (.cells #[.int .i64 A.kind, .int .i64 A.size, .int .i64 A.len, .bool A.flag, .string A.name, .slice none 0 0] 30))) := Lib.hid (F11.out.trans F13a)
    have BD : Hid (TB (w12.alloc (.cells #[.int .i64 A.kind, .int .i64 A.size, .int .i64 A.len, .bool A.flag, .string A.name, .slice none 0 0] 30)) w12.heap.size A none 0 0) := Lib.hid (TB.new w12 A none 0 0)
    have BC := Lib.hid (BC.out.later F13a)
    clear h12 F11 F13a CAU
    generalize (w12.alloc (.cells #[.int .i64 A.kind, .int .i64 A.size, .int .i64 A.len, .bool A.flag, .string A.name, .slice none 0 0] 30)) = W13 at *
    generalize w12.heap.size = b13 at *
    have bt := BT.out.later F13.out
    obtain ⟨t0, t1, t2, t3, t4, t5, tf⟩ := bt
    go_wp2_with fail
    clear t0 t1 t2 t3 t4 t5 tf
    go_at_call 29; refine (CTT.out _ (F8.out.trans F13.out)).mono ?_; rintro e w14 ⟨rfl, h14⟩
    go_upto_region 11 with fail
    have F15a : Fresh W13 (w14.alloc (.cells #[.int .i64 (pro t).kind, .int .i64 (pro t).size, .int .i64 (pro t).len, .bool (pro t).flag, .string (pro t).name, .slice none 0 0] 30)) := (by (repeat' first | with_reducible exact Fresh.refl _ | with_reducible assumption | with_reducible refine Fresh.alloc ?_ _ _ | with_reducible refine Fresh.drew ?_ | with_reducible refine Fresh.drewN ?_ _ | with_reducible refine Fresh.setCell ?_ ?_ _ | with_reducible refine Fresh.trans ?_ (by assumption) | (simp; done) | (simp; omega)))
    have F15 : Hid (Fresh W8 (w14.alloc (.cells #[.int .i64 (pro t).kind, .int .i64 (pro t).size, .int .i64 (pro t).len, .bool (pro t).flag, .string (pro t).name, .slice none 0 0] 30))) := Lib.hid (F13.out.trans F15a)
    have BE : Hid (TB (w14.alloc (.cells #[.int .i64 (pro t).kind, .int .i64 (pro t).size, .int .i64 (pro t).len, .bool (pro t).flag, .string (pro t).name, .slice none 0 0] 30)) w14.heap.size (pro t) none 0 0) := Lib.hid (TB.new w14 (pro t) none 0 0)
    have BC := Lib.hid (BC.out.later F15a)
    have BD := Lib.hid (BD.out.later F15a)
    have BA := Lib.hid (BA.out.later F15.out)
    have BT := Lib.hid (BT.out.later F15.out)
    clear h14 F13 F15a CTT
    generalize (w14.alloc (.cells #[.int .i64 (pro t).kind, .int .i64 (pro t).size, .int .i64 (pro t).len, .bool (pro t).flag, .string (pro t).name, .slice none 0 0] 30)) = W15 at *
    generalize w14.heap.size = b15 at *
    have SX : Hid (S30 W15 b7 b11 b13 b15 b5 A t tp tn tc) := Lib.hid (by
      obtain ⟨a0, a1, a2, a3, a4, a5, af⟩ := BA.out
      obtain ⟨c0, c1, c2, c3, c4, c5, cf⟩ := BC.out
      obtain ⟨d0, d1, d2, d3, d4, d5, df⟩ := BD.out
      obtain ⟨e0, e1, e2, e3, e4, e5, ef⟩ := BE.out
      obtain ⟨t0, t1, t2, t3, t4, t5, tf⟩ := BT.out
      exact ⟨a0, a1, a2, a3, a4, a5, c0, c1, c2, c3, c4, c5, d0, d1, d2, d3, d4, d5, e0, e1, e2, e3, e4, e5, t0, t1, t2, t3, t4, t5⟩)
    have HP : Hid ((pro t).kind = 0 ∨ (pro t).kind = 2 ∨ (pro t).kind = 3) := Lib.hid (Or.inr (HCOM.out.pk rfl))
    have PA : Hid (∀ X : World, Calls Tryd.prog 26 #[.agg #[.int .i64 A.kind, .int .i64 A.size, .int .i64 A.len, .bool A.flag, .string A.name, .slice none 0 0]] X fun e w' => (∃ p' n' c', e = .returned (.agg #[.int .i64 A.kind, .int .i64 A.size, .int .i64 A.len, .bool A.flag, .string A.name, .slice p' n' c'])) ∧ Fresh X w') := Lib.hid (fun X => by
      refine (promote_any (ok := fun _ => True) A .nil none 0 0 X X (Fresh.refl X) (Kids.none X) trivial (by decide)).mono ?_
      rintro e w' ⟨⟨p', n', c', rfl, -⟩, h⟩
      rw [HCOM.out.pr rfl]
      exact ⟨⟨p', n', c', rfl⟩, h⟩)
    have PT : Hid (∀ X : World, Fresh W4 X → Calls Tryd.prog 26 #[.agg #[.int .i64 t.kind, .int .i64 t.size, .int .i64 t.len, .bool t.flag, .string t.name, .slice tp tn tc]] X fun e w' => (∃ p' n' c', e = .returned (.agg #[.int .i64 (pro t).kind, .int .i64 (pro t).size, .int .i64 (pro t).len, .bool (pro t).flag, .string (pro t).name, .slice p' n' c'])) ∧ Fresh X w') := Lib.hid (fun X hX => by
      refine (promote_any t tk tp tn tc W4 X hX KT.out HST.out.1 HST.out.2).mono ?_
      rintro e w' ⟨⟨p', n', c', rfl, -⟩, h⟩
      exact ⟨⟨p', n', c', rfl⟩, h⟩)
    have NA : Hid (∀ X : World, Calls Tryd.prog 35 #[.agg #[.int .i64 A.kind, .int .i64 A.size, .int .i64 A.len, .bool A.flag, .string A.name, .slice none 0 0]] X fun e w' => e = .returned (.bool false) ∧ Fresh X w') := Lib.hid (fun X => by
      refine (none_any A none 0 0 X).mono ?_
      rintro e w' ⟨rfl, h⟩
      refine ⟨?_, h⟩
      rw [show (A.kind == 0) = false by rcases HCOM.out.kind rfl with q | q <;> rw [q] <;> rfl])
    have SA : Hid (∀ (X : World) (p q : Option Addr) (n m cap mc : Nat), Calls Tryd.prog 17 #[.agg #[.int .i64 A.kind, .int .i64 A.size, .int .i64 A.len, .bool A.flag, .string A.name, .slice p n cap], .agg #[.int .i64 A.kind, .int .i64 A.size, .int .i64 A.len, .bool A.flag, .string A.name, .slice q m mc]] X fun e w' => e = .returned (.bool true) ∧ Fresh X w') := Lib.hid (fun X p q n m cap mc => sameR_any A p q n m cap mc X HA.out)
    have SP : Hid (∀ (X : World) (p q : Option Addr) (n m cap mc : Nat), Calls Tryd.prog 17 #[.agg #[.int .i64 (pro t).kind, .int .i64 (pro t).size, .int .i64 (pro t).len, .bool (pro t).flag, .string (pro t).name, .slice p n cap], .agg #[.int .i64 (pro t).kind, .int .i64 (pro t).size, .int .i64 (pro t).len, .bool (pro t).flag, .string (pro t).name, .slice q m mc]] X fun e w' => e = .returned (.bool true) ∧ Fresh X w') := Lib.hid (fun X p q n m cap mc => sameR_any (pro t) p q n m cap mc X HP.out)
    have FE := Lib.hid (F8.out.trans F15.out)
    clear BA BC BD BE BT HP HA HCOM
    have E : Hid (Fresh W15 W15.drew) := Lib.hid (Fresh.refl W15).drew
    go_region_held3 (fun w' => w'.cell? ⟨b7, 0, none⟩ = some (.int .i64 A.kind) ∧ w'.cell? ⟨b7, 1, none⟩ = some (.int .i64 A.size) ∧ w'.cell? ⟨b7, 2, none⟩ = some (.int .i64 A.len) ∧ w'.cell? ⟨b7, 3, none⟩ = some (.bool A.flag) ∧ w'.cell? ⟨b7, 4, none⟩ = some (.string A.name) ∧ w'.cell? ⟨b7, 5, none⟩ = some (.slice none 0 0) ∧ w'.cell? ⟨b11, 0, none⟩ = some (.int .i64 A.kind) ∧ w'.cell? ⟨b11, 1, none⟩ = some (.int .i64 A.size) ∧ w'.cell? ⟨b11, 2, none⟩ = some (.int .i64 A.len) ∧ w'.cell? ⟨b11, 3, none⟩ = some (.bool A.flag) ∧ w'.cell? ⟨b11, 4, none⟩ = some (.string A.name) ∧ w'.cell? ⟨b11, 5, none⟩ = some (.slice none 0 0) ∧ w'.cell? ⟨b13, 0, none⟩ = some (.int .i64 A.kind) ∧ w'.cell? ⟨b13, 1, none⟩ = some (.int .i64 A.size) ∧ w'.cell? ⟨b13, 2, none⟩ = some (.int .i64 A.len) ∧ w'.cell? ⟨b13, 3, none⟩ = some (.bool A.flag) ∧ w'.cell? ⟨b13, 4, none⟩ = some (.string A.name) ∧ w'.cell? ⟨b13, 5, none⟩ = some (.slice none 0 0) ∧ w'.cell? ⟨b15, 0, none⟩ = some (.int .i64 (pro t).kind) ∧ w'.cell? ⟨b15, 1, none⟩ = some (.int .i64 (pro t).size) ∧ w'.cell? ⟨b15, 2, none⟩ = some (.int .i64 (pro t).len) ∧ w'.cell? ⟨b15, 3, none⟩ = some (.bool (pro t).flag) ∧ w'.cell? ⟨b15, 4, none⟩ = some (.string (pro t).name) ∧ w'.cell? ⟨b15, 5, none⟩ = some (.slice none 0 0) ∧ w'.cell? ⟨b5, 0, none⟩ = some (.int .i64 t.kind) ∧ w'.cell? ⟨b5, 1, none⟩ = some (.int .i64 t.size) ∧ w'.cell? ⟨b5, 2, none⟩ = some (.int .i64 t.len) ∧ w'.cell? ⟨b5, 3, none⟩ = some (.bool t.flag) ∧ w'.cell? ⟨b5, 4, none⟩ = some (.string t.name) ∧ w'.cell? ⟨b5, 5, none⟩ = some (.slice tp tn tc)) (with_reducible exact ⟨(SX.out.later E.out).c0, (SX.out.later E.out).c1, (SX.out.later E.out).c2, (SX.out.later E.out).c3, (SX.out.later E.out).c4, (SX.out.later E.out).c5, (SX.out.later E.out).c6, (SX.out.later E.out).c7, (SX.out.later E.out).c8, (SX.out.later E.out).c9, (SX.out.later E.out).c10, (SX.out.later E.out).c11, (SX.out.later E.out).c12, (SX.out.later E.out).c13, (SX.out.later E.out).c14, (SX.out.later E.out).c15, (SX.out.later E.out).c16, (SX.out.later E.out).c17, (SX.out.later E.out).c18, (SX.out.later E.out).c19, (SX.out.later E.out).c20, (SX.out.later E.out).c21, (SX.out.later E.out).c22, (SX.out.later E.out).c23, (SX.out.later E.out).c24, (SX.out.later E.out).c25, (SX.out.later E.out).c26, (SX.out.later E.out).c27, (SX.out.later E.out).c28, (SX.out.later E.out).c29⟩) (first | (go_at_call 17; (with_reducible refine (SA.out _ _ _ _ _ _ _).mono ?_); rintro e w2 ⟨rfl, h2⟩; have E := Lib.hid (E.out.trans h2); clear h2) | (go_at_call 17; (with_reducible refine (SP.out _ _ _ _ _ _ _).mono ?_); rintro e w2 ⟨rfl, h2⟩; have E := Lib.hid (E.out.trans h2); clear h2) | (go_at_call 26; (with_reducible refine (PA.out _).mono ?_); rintro e w2 ⟨⟨p9, n9, c9, rfl⟩, h2⟩; have E := Lib.hid (E.out.trans h2); clear h2) | (go_at_call 26; (with_reducible refine (PT.out _ (FE.out.trans E.out)).mono ?_); rintro e w2 ⟨⟨p9, n9, c9, rfl⟩, h2⟩; have E := Lib.hid (E.out.trans h2); clear h2) | (go_at_call 35; (with_reducible refine (NA.out _).mono ?_); rintro e w2 ⟨rfl, h2⟩; have E := Lib.hid (E.out.trans h2); clear h2))
    all_goals go_wp2_with fail
    all_goals go_returns
    all_goals exact ⟨rfl, F4.out.trans (FE.out.trans E.out)⟩
end Go.Proofs.YteiomcbphbbpkaaDoor
