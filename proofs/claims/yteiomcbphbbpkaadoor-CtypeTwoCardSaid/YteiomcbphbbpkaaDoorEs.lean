/- CtypeTwo's function. -/
import Derived.Test.YteiomcbphbbpkaaDoorEr
namespace Go.Proofs.YteiomcbphbbpkaaDoor
set_option linter.unusedSimpArgs false
set_option linter.unusedVariables false
open Go.RowKit

theorem Ints.slice {b : Nat} {w : World} {v : Value} {l : List Int} (h : Ints b w v l) : ∃ p c, v = .slice p l.length c := by
  rcases h.2 with ⟨rfl, h0⟩ | ⟨g, cap, cur, rfl, -⟩
  · exact ⟨none, 0, by rw [h0]⟩
  · exact ⟨_, _, rfl⟩
theorem Ints.len {b : Nat} {w : World} {v : Value} {l : List Int} (h : Ints b w v l) : l.length ≤ 9223372036854775807 := by
  rcases h.2 with ⟨rfl, h0⟩ | ⟨g, cap, cur, rfl, q0, -, q1, q2, -⟩
  · omega
  · unfold maxLen at q2; omega
theorem Ints.at' {b : Nat} {w : World} {p : Option Addr} {n c : Nat} {l : List Int} (h : Ints b w (.slice p n c) l) {k : Nat} (hk : k < l.length) : ∃ g, p = some ⟨g, 0, none⟩ ∧ w.cell? ⟨g, k, none⟩ = some (.int .i64 (l.getD k 0)) := by
  have hl := h.1
  simp at hl
  rcases h.2 with ⟨e, h0⟩ | ⟨g, cap, cur, e, -⟩
  · omega
  · cases e
    refine ⟨g, rfl, ?_⟩
    have h' : w.ownsRow b 3 1 (.slice (some ⟨g, 0, none⟩) l.length c) l.length (l.map (Value.int .i64)) := h
    rw [h'.cellAt _ (by omega)]
    simp [hk]
theorem isPtr_arith {a : Hd} (h : isPtr a = true) : isArith a = false := by
  unfold isPtr at h
  have : a.kind = 4 := by simpa using h
  exact arith_not (by omega) (by omega)
theorem commonR_any (t u : Hd) (ht : isArith t = true → t ∈ A9) (hu : isArith u = true → u ∈ A9) (p q : Option Addr) (n m cap mc : Nat) (w : World) :
    Calls Tryd.prog 30 #[.agg #[.int .i64 t.kind, .int .i64 t.size, .int .i64 t.len, .bool t.flag, .string t.name, .slice p n cap], .agg #[.int .i64 u.kind, .int .i64 u.size, .int .i64 u.len, .bool u.flag, .string u.name, .slice q m mc]] w (CmR (comHd t u) (comOk t u) w) := by
  cases hk : comOk t u
  · rw [com_not hk]
    exact commonR_no t u p q n m cap mc w hk
  · unfold comOk at hk
    rw [Bool.and_eq_true] at hk
    exact commonR_yes t u p q n m cap mc w (ht hk.1) (hu hk.2)
theorem opsR_any (t u : Hd) (ht : isArith t = true → t ∈ A9) (hu : isArith u = true → u ∈ A9) (p q : Option Addr) (n m cap mc : Nat) (w : World) :
    Calls Tryd.prog 32 #[.agg #[.int .i64 t.kind, .int .i64 t.size, .int .i64 t.len, .bool t.flag, .string t.name, .slice p n cap], .agg #[.int .i64 u.kind, .int .i64 u.size, .int .i64 u.len, .bool u.flag, .string u.name, .slice q m mc]] w (OpR w (opsL t u) (opsOk t u)) := by
  cases hp : (isPtr t && isPtr u)
  · cases ha : (isArith t && isArith u)
    · have e1 : opsL t u = [] := by unfold opsL; rw [hp, ha]; rfl
      have e2 : opsOk t u = false := by unfold opsOk; rw [hp, ha]; rfl
      rw [e1, e2]
      refine opsR_no t u p q n m cap mc w ?_ ?_
      · unfold isPtr at hp
        cases h1 : (t.kind == 4)
        · exact Or.inl rfl
        · rw [h1] at hp; exact Or.inr ⟨rfl, by simpa using hp⟩
      · cases h1 : isArith t
        · exact Or.inl rfl
        · rw [h1] at ha; exact Or.inr ⟨rfl, by simpa using ha⟩
    · have h2 := ha
      rw [Bool.and_eq_true] at h2
      rw [(refO_eq (ht h2.1) (hu h2.2)).2]
      exact opsR_yes t u p q n m cap mc w (ht h2.1) (hu h2.2)
  · have e1 : opsL t u = [] := by unfold opsL; rw [hp]; rfl
    have e2 : opsOk t u = true := by unfold opsOk; rw [hp]; rfl
    rw [e1, e2]
    rw [Bool.and_eq_true] at hp
    exact opsR_ptr t u p q n m cap mc w (by have := hp.1; unfold isPtr at this; simpa using this) (by have := hp.2; unfold isPtr at this; simpa using this)
set_option maxRecDepth 100000 in
set_option maxHeartbeats 8000000 in
theorem two_law (zs ys : Nat → Int) (n m : Nat) (p q : Option Addr) (cap mc : Nat) (w : World) (hz : CodeAt w zs n 0 p n cap) (hy : CodeAt w ys m 0 q m mc) :
    Calls Tryd.prog 5 #[.slice p n cap, .slice q m mc] w fun e w' => e = .returned (.bool true) ∧ Fresh w w' := by
  have HZ := Lib.hid hz
  have HY := Lib.hid hy
  clear hz hy
  go_enter Tryd.func5, Tryd.ntmps5
  go_wp2_with fail
  go_at_call 8; refine (fixed_any _).mono ?_; rintro e w1 ⟨rfl, h1⟩
  go_wp2_with fail
  go_at_call 10; refine (one_any zs n p cap w _ (by (repeat' first | with_reducible exact Fresh.refl _ | with_reducible assumption | with_reducible refine Fresh.alloc ?_ _ _ | with_reducible refine Fresh.drew ?_ | with_reducible refine Fresh.drewN ?_ _ | with_reducible refine Fresh.setCell ?_ ?_ _ | with_reducible refine Fresh.trans ?_ (by assumption) | (simp; done) | (simp; omega))) HZ.out).mono ?_; rintro e w2 ⟨⟨tp, tn, tc, rfl, hkt⟩, h2⟩
  have HKT := Lib.hid hkt
  have H2 : Hid (Fresh w w2) := Lib.hid (h1.trans h2)
  clear hkt h1 h2
  go_wp2_with fail
  go_at_call 10; refine (one_any ys m q mc w _ H2.out HY.out).mono ?_; rintro e w3 ⟨⟨up, un, uc, rfl, hku⟩, h3⟩
  have HKT := Lib.hid (HKT.out.later h3)
  have HKU := Lib.hid hku
  have H3 : Hid (Fresh w w3) := Lib.hid (H2.out.trans h3)
  have HST := Lib.hid (mkT_small zs n 61 0)
  have HSU := Lib.hid (mkT_small ys m 61 0)
  have HAT := Lib.hid (mkT_arith zs n 61 0)
  have HAU := Lib.hid (mkT_arith ys m 61 0)
  have HCH := Lib.hid (comOk_A9 zs ys n m)
  rw [show mkT zs n 61 0 = one zs n from rfl] at HST HAT
  rw [show mkT ys m 61 0 = one ys m from rfl] at HSU HAU
  clear hku h3 H2 HZ HY
  generalize one zs n = T at *
  generalize one ys m = U at *
  obtain ⟨t, tk, tj⟩ := T
  obtain ⟨u, uk, uj⟩ := U
  simp only at HKT HKU HST HSU HCH HAT HAU
  go_upto_region 4 with fail
  have BT : Hid (TB ((w3.alloc (.cells #[.int .i64 t.kind, .int .i64 t.size, .int .i64 t.len, .bool t.flag, .string t.name, .slice tp tn tc] 30)).alloc (.cells #[.int .i64 u.kind, .int .i64 u.size, .int .i64 u.len, .bool u.flag, .string u.name, .slice up un uc] 30)) w3.heap.size t tp tn tc) := Lib.hid ((TB.new w3 t tp tn tc).later (by (repeat' first | with_reducible exact Fresh.refl _ | with_reducible assumption | with_reducible refine Fresh.alloc ?_ _ _ | with_reducible refine Fresh.drew ?_ | with_reducible refine Fresh.drewN ?_ _ | with_reducible refine Fresh.setCell ?_ ?_ _ | with_reducible refine Fresh.trans ?_ (by assumption) | (simp; done) | (simp; omega))))
  have BU : Hid (TB ((w3.alloc (.cells #[.int .i64 t.kind, .int .i64 t.size, .int .i64 t.len, .bool t.flag, .string t.name, .slice tp tn tc] 30)).alloc (.cells #[.int .i64 u.kind, .int .i64 u.size, .int .i64 u.len, .bool u.flag, .string u.name, .slice up un uc] 30)) (w3.heap.size + 1) u up un uc) := Lib.hid (by have := TB.new (w3.alloc (.cells #[.int .i64 t.kind, .int .i64 t.size, .int .i64 t.len, .bool t.flag, .string t.name, .slice tp tn tc] 30)) u up un uc; simpa only [World.size_alloc] using this)
  have KT : Hid (Kids (fun _ => True) ((w3.alloc (.cells #[.int .i64 t.kind, .int .i64 t.size, .int .i64 t.len, .bool t.flag, .string t.name, .slice tp tn tc] 30)).alloc (.cells #[.int .i64 u.kind, .int .i64 u.size, .int .i64 u.len, .bool u.flag, .string u.name, .slice up un uc] 30)) tk tp tn tc) := Lib.hid ((HKT.out.mono (fun _ _ _ => trivial)).later (by (repeat' first | with_reducible exact Fresh.refl _ | with_reducible assumption | with_reducible refine Fresh.alloc ?_ _ _ | with_reducible refine Fresh.drew ?_ | with_reducible refine Fresh.drewN ?_ _ | with_reducible refine Fresh.setCell ?_ ?_ _ | with_reducible refine Fresh.trans ?_ (by assumption) | (simp; done) | (simp; omega))))
  have KU : Hid (Kids (fun _ => True) ((w3.alloc (.cells #[.int .i64 t.kind, .int .i64 t.size, .int .i64 t.len, .bool t.flag, .string t.name, .slice tp tn tc] 30)).alloc (.cells #[.int .i64 u.kind, .int .i64 u.size, .int .i64 u.len, .bool u.flag, .string u.name, .slice up un uc] 30)) uk up un uc) := Lib.hid ((HKU.out.mono (fun _ _ _ => trivial)).later (by (repeat' first | with_reducible exact Fresh.refl _ | with_reducible assumption | with_reducible refine Fresh.alloc ?_ _ _ | with_reducible refine Fresh.drew ?_ | with_reducible refine Fresh.drewN ?_ _ | with_reducible refine Fresh.setCell ?_ ?_ _ | with_reducible refine Fresh.trans ?_ (by assumption) | (simp; done) | (simp; omega))))
  have F4 : Hid (Fresh w ((w3.alloc (.cells #[.int .i64 t.kind, .int .i64 t.size, .int .i64 t.len, .bool t.flag, .string t.name, .slice tp tn tc] 30)).alloc (.cells #[.int .i64 u.kind, .int .i64 u.size, .int .i64 u.len, .bool u.flag, .string u.name, .slice up un uc] 30))) := Lib.hid (H3.out.trans (by (repeat' first | with_reducible exact Fresh.refl _ | with_reducible assumption | with_reducible refine Fresh.alloc ?_ _ _ | with_reducible refine Fresh.drew ?_ | with_reducible refine Fresh.drewN ?_ _ | with_reducible refine Fresh.setCell ?_ ?_ _ | with_reducible refine Fresh.trans ?_ (by assumption) | (simp; done) | (simp; omega))))
  clear HKT HKU H3
  generalize ((w3.alloc (.cells #[.int .i64 t.kind, .int .i64 t.size, .int .i64 t.len, .bool t.flag, .string t.name, .slice tp tn tc] 30)).alloc (.cells #[.int .i64 u.kind, .int .i64 u.size, .int .i64 u.len, .bool u.flag, .string u.name, .slice up un uc] 30)) = W4 at *
  generalize w3.heap.size + 1 = b6 at *
  generalize w3.heap.size = b5 at *
  have C1 : Hid (∀ X, Fresh W4 X → Calls Tryd.prog 29 #[.agg #[.int .i64 t.kind, .int .i64 t.size, .int .i64 t.len, .bool t.flag, .string t.name, .slice tp tn tc], .agg #[.int .i64 u.kind, .int .i64 u.size, .int .i64 u.len, .bool u.flag, .string u.name, .slice up un uc]] X fun e w' => e = .returned (.tuple #[.agg #[.int .i64 (comHd t u).kind, .int .i64 (comHd t u).size, .int .i64 (comHd t u).len, .bool (comHd t u).flag, .string (comHd t u).name, .slice none 0 0], .bool (comOk t u)]) ∧ Fresh X w') := Lib.hid (fun X hX => common_any t u tk uk tp up tn un tc uc W4 X hX KT.out KU.out HST.out HSU.out)
  have C2 : Hid (∀ X, Calls Tryd.prog 30 #[.agg #[.int .i64 t.kind, .int .i64 t.size, .int .i64 t.len, .bool t.flag, .string t.name, .slice tp tn tc], .agg #[.int .i64 u.kind, .int .i64 u.size, .int .i64 u.len, .bool u.flag, .string u.name, .slice up un uc]] X fun e w' => e = .returned (.tuple #[.agg #[.int .i64 (comHd t u).kind, .int .i64 (comHd t u).size, .int .i64 (comHd t u).len, .bool (comHd t u).flag, .string (comHd t u).name, .slice none 0 0], .bool (comOk t u)]) ∧ Fresh X w') := Lib.hid (fun X => commonR_any t u HAT.out HAU.out tp up tn un tc uc X)
  have C3 : Hid (∀ X, Fresh W4 X → Calls Tryd.prog 31 #[.agg #[.int .i64 t.kind, .int .i64 t.size, .int .i64 t.len, .bool t.flag, .string t.name, .slice tp tn tc], .agg #[.int .i64 u.kind, .int .i64 u.size, .int .i64 u.len, .bool u.flag, .string u.name, .slice up un uc]] X (OpR X (opsL t u) (opsOk t u))) := Lib.hid (fun X hX => ops_any t u tk uk tp up tn un tc uc W4 X hX KT.out KU.out)
  have C4 : Hid (∀ X, Calls Tryd.prog 32 #[.agg #[.int .i64 t.kind, .int .i64 t.size, .int .i64 t.len, .bool t.flag, .string t.name, .slice tp tn tc], .agg #[.int .i64 u.kind, .int .i64 u.size, .int .i64 u.len, .bool u.flag, .string u.name, .slice up un uc]] X (OpR X (opsL t u) (opsOk t u))) := Lib.hid (fun X => opsR_any t u HAT.out HAU.out tp up tn un tc uc X)
  have HA : Hid ((comHd t u).kind = 0 ∨ (comHd t u).kind = 2 ∨ (comHd t u).kind = 3) := Lib.hid (by
    cases k : comOk t u
    · rw [com_not k]; exact Or.inl rfl
    · exact Or.inr (HCH.out k).kind)
  clear HCH HST HSU HAT HAU KT KU
  generalize comHd t u = A at *
  generalize comOk t u = k at *
  generalize opsL t u = L at *
  generalize opsOk t u = k2 at *
  have bt := BT.out
  have bu := BU.out
  obtain ⟨t0, t1, t2, t3, t4, t5, tf⟩ := bt
  obtain ⟨u0, u1, u2, u3, u4, u5, uf⟩ := bu
  go_wp2_with fail
  clear t0 t1 t2 t3 t4 t5 tf u0 u1 u2 u3 u4 u5 uf
  go_at_call 29; refine (C1.out _ (Fresh.refl _)).mono ?_; rintro e w5 ⟨rfl, h5⟩
  go_upto_region 5 with fail
  have F6 : Hid (Fresh W4 (w5.alloc (.cells #[.int .i64 A.kind, .int .i64 A.size, .int .i64 A.len, .bool A.flag, .string A.name, .slice none 0 0] 30))) := Lib.hid (by (repeat' first | with_reducible exact Fresh.refl _ | with_reducible assumption | with_reducible refine Fresh.alloc ?_ _ _ | with_reducible refine Fresh.drew ?_ | with_reducible refine Fresh.drewN ?_ _ | with_reducible refine Fresh.setCell ?_ ?_ _ | with_reducible refine Fresh.trans ?_ (by assumption) | (simp; done) | (simp; omega)))
  have BA : Hid (TB (w5.alloc (.cells #[.int .i64 A.kind, .int .i64 A.size, .int .i64 A.len, .bool A.flag, .string A.name, .slice none 0 0] 30)) w5.heap.size A none 0 0) := Lib.hid (TB.new w5 A none 0 0)
  clear h5 C1
  generalize (w5.alloc (.cells #[.int .i64 A.kind, .int .i64 A.size, .int .i64 A.len, .bool A.flag, .string A.name, .slice none 0 0] 30)) = W6 at *
  generalize w5.heap.size = b7 at *
  have bt := BT.out.later F6.out
  have bu := BU.out.later F6.out
  obtain ⟨t0, t1, t2, t3, t4, t5, tf⟩ := bt
  obtain ⟨u0, u1, u2, u3, u4, u5, uf⟩ := bu
  go_wp2_with fail
  clear t0 t1 t2 t3 t4 t5 tf u0 u1 u2 u3 u4 u5 uf
  go_at_call 30; refine (C2.out _).mono ?_; rintro e w7 ⟨rfl, h7⟩
  go_upto_region 6 with fail
  have F8a : Fresh W6 (w7.alloc (.cells #[.int .i64 A.kind, .int .i64 A.size, .int .i64 A.len, .bool A.flag, .string A.name, .slice none 0 0] 30)) := (by (repeat' first | with_reducible exact Fresh.refl _ | with_reducible assumption | with_reducible refine Fresh.alloc ?_ _ _ | with_reducible refine Fresh.drew ?_ | with_reducible refine Fresh.drewN ?_ _ | with_reducible refine Fresh.setCell ?_ ?_ _ | with_reducible refine Fresh.trans ?_ (by assumption) | (simp; done) | (simp; omega)))
  have F8 : Hid (Fresh W4 (w7.alloc (.cells #[.int .i64 A.kind, .int .i64 A.size, .int .i64 A.len, .bool A.flag, .string A.name, .slice none 0 0] 30))) := Lib.hid (F6.out.trans F8a)
  have BB : Hid (TB (w7.alloc (.cells #[.int .i64 A.kind, .int .i64 A.size, .int .i64 A.len, .bool A.flag, .string A.name, .slice none 0 0] 30)) w7.heap.size A none 0 0) := Lib.hid (TB.new w7 A none 0 0)
  have BA := Lib.hid (BA.out.later F8a)
  clear h7 C2 F8a F6
  generalize (w7.alloc (.cells #[.int .i64 A.kind, .int .i64 A.size, .int .i64 A.len, .bool A.flag, .string A.name, .slice none 0 0] 30)) = W8 at *
  generalize w7.heap.size = b9 at *
  have bt := BT.out.later F8.out
  have bu := BU.out.later F8.out
  obtain ⟨t0, t1, t2, t3, t4, t5, tf⟩ := bt
  obtain ⟨u0, u1, u2, u3, u4, u5, uf⟩ := bu
  go_wp2_with fail
  clear t0 t1 t2 t3 t4 t5 tf u0 u1 u2 u3 u4 u5 uf
  go_at_call 31; refine (C3.out _ F8.out).mono ?_; rintro e w9 ⟨⟨v1, rfl, hv1⟩, h9⟩
  have I1 := Lib.hid hv1
  have F9 := Lib.hid h9
  have bt := BT.out.later (F8.out.trans F9.out)
  have bu := BU.out.later (F8.out.trans F9.out)
  obtain ⟨t0, t1, t2, t3, t4, t5, tf⟩ := bt
  obtain ⟨u0, u1, u2, u3, u4, u5, uf⟩ := bu
  clear hv1 h9 C3
  go_wp2_with fail
  clear t0 t1 t2 t3 t4 t5 tf u0 u1 u2 u3 u4 u5 uf
  go_at_call 32; refine (C4.out _).mono ?_; rintro e w10 ⟨⟨v2, rfl, hv2⟩, h10⟩
  have I1 : Hid (Ints W8.heap.size w10 v1 L) := Lib.hid (h10.own I1.out)
  have I2 := Lib.hid hv2
  have F10 := Lib.hid (F9.out.trans h10)
  have BA := Lib.hid (BA.out.later F10.out)
  have BB := Lib.hid (BB.out.later F10.out)
  clear hv2 h10 C4 F9 BT BU
  obtain ⟨p1, c1, rfl⟩ := I1.out.slice
  obtain ⟨p2, c2, rfl⟩ := I2.out.slice
  have hN : L.length ≤ 9223372036854775807 := I1.out.len
  obtain ⟨t0, t1, t2, t3, t4, t5, tf⟩ := BA.out
  obtain ⟨u0, u1, u2, u3, u4, u5, uf⟩ := BB.out
  have e1 : (k != k) = false := by cases k <;> rfl
  have e2 : (k2 != k2) = false := by cases k2 <;> rfl
  go_wp2_with fail
  clear t0 t1 t2 t3 t4 t5 tf u0 u1 u2 u3 u4 u5 uf e1 e2
  go_at_call 17; refine (sameR_any A none none 0 0 0 0 _ HA.out).mono ?_; rintro e w11 ⟨rfl, h11⟩
  have I1 : Hid (Ints W8.heap.size w11 (.slice p1 L.length c1) L) := Lib.hid (h11.own I1.out)
  have I2 : Hid (Ints w9.heap.size w11 (.slice p2 L.length c2) L) := Lib.hid (h11.own I2.out)
  have F11 : Hid (Fresh w w11) := Lib.hid (F4.out.trans (F8.out.trans (F10.out.trans h11)))
  clear h11 F10 F8 F4 BA BB HA
  have HLL : Hid (L.length = L.length) := Lib.hid rfl
  generalize hn : L.length = N at *
  have HN := Lib.hid hn
  clear hn HLL
  go_wp2_with fail
  go_loopw [69] (fun i wr => ∃ j : Nat, j ≤ N ∧ i = .int .i64 j ∧ Hid (Fresh w11 wr)) (fun i _ => N - (intOf i).toNat)
  case atStart => exact ⟨0, by omega, rfl, Lib.hid (Fresh.refl _)⟩
  case round =>
    obtain ⟨j, hj, rfl, FW⟩ := hrel
    by_cases hlt : j < N
    · obtain ⟨g1, rfl, d1⟩ := (I1.out.at' (k := j) (by have := HN.out; omega))
      obtain ⟨g2, rfl, d2⟩ := (I2.out.at' (k := j) (by have := HN.out; omega))
      have D1 := Lib.hid d1
      have D2 := Lib.hid d2
      generalize L.getD j 0 = y at *
      have hlt' : (j : Int) < (N : Int) := by omega
      have ey : (y != y) = false := by simp
      clear d1 d2
      go_upto_region 13 with fail
      have E : Hid (Fresh wr wr.drew) := Lib.hid (Fresh.refl wr).drew
      have k1 := FW.out.at' D1.out
      have k2' := FW.out.at' D2.out
      go_region_held3 (fun w' => w'.cell? ⟨g1, j, none⟩ = some (.int .i64 y) ∧ w'.cell? ⟨g2, j, none⟩ = some (.int .i64 y)) (first | done | exact ⟨(FW.out.trans E.out).at' D1.out, (FW.out.trans E.out).at' D2.out⟩) (fail)
      go_wp2_with fail
      go_roundw
      case rel => exact ⟨j + 1, by omega, by go_num, Lib.hid (FW.out.trans E.out)⟩
      case measure => simp [intOf]; omega
    · obtain rfl : j = N := by omega
      go_wp2_with fail
      go_returns
      exact ⟨rfl, F11.out.trans FW.out⟩
end Go.Proofs.YteiomcbphbbpkaaDoor
