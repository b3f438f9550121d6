/- CtypeOne's function. -/
import Derived.Test.YteiomcbphbbpkaaDoorFy
import Derived.Test.YteiomcbphbbpkaaDoorGy
import Derived.Test.YteiomcbphbbpkaaDoorGl
import Derived.Test.YteiomcbphbbpkaaDoorEk
namespace Go.Proofs.YteiomcbphbbpkaaDoor
set_option linter.unusedSimpArgs false
set_option linter.unusedVariables false
open Go.RowKit

/-- Two types in their boxes. -/
structure T12 (w' : World) (b5 b6 : Nat) (t u : Hd) (tp up : Option Addr) (tn tc un uc : Nat) : Prop where
  c0 : w'.cell? ⟨b5, 0, none⟩ = some (.int .i64 t.kind)
  c1 : w'.cell? ⟨b5, 1, none⟩ = some (.int .i64 t.size)
  c2 : w'.cell? ⟨b5, 2, none⟩ = some (.int .i64 t.len)
  c3 : w'.cell? ⟨b5, 3, none⟩ = some (.bool t.flag)
  c4 : w'.cell? ⟨b5, 4, none⟩ = some (.string t.name)
  c5 : w'.cell? ⟨b5, 5, none⟩ = some (.slice tp tn tc)
  c6 : w'.cell? ⟨b6, 0, none⟩ = some (.int .i64 u.kind)
  c7 : w'.cell? ⟨b6, 1, none⟩ = some (.int .i64 u.size)
  c8 : w'.cell? ⟨b6, 2, none⟩ = some (.int .i64 u.len)
  c9 : w'.cell? ⟨b6, 3, none⟩ = some (.bool u.flag)
  c10 : w'.cell? ⟨b6, 4, none⟩ = some (.string u.name)
  c11 : w'.cell? ⟨b6, 5, none⟩ = some (.slice up un uc)
theorem T12.later {w w' : World} {b5 b6 : Nat} {t u : Hd} {tp up : Option Addr} {tn tc un uc : Nat} (h : T12 w b5 b6 t u tp up tn tc un uc) (hf : Fresh w w') : T12 w' b5 b6 t u tp up tn tc un uc :=
  ⟨hf.at' h.c0, hf.at' h.c1, hf.at' h.c2, hf.at' h.c3, hf.at' h.c4, hf.at' h.c5, hf.at' h.c6, hf.at' h.c7, hf.at' h.c8, hf.at' h.c9, hf.at' h.c10, hf.at' h.c11⟩
theorem pro_kind2 {t : Hd} (h : t.kind = 2) : (pro t).kind = 2 := by
  unfold pro
  split
  · rfl
  · exact h
theorem pro_not {t : Hd} (h : t.kind ≠ 2) (tk : Tys) : pro t = t ∧ proK t tk = tk := by
  have : isSmall t = false := by unfold isSmall; simp; intro h2; exact absurd h2 h
  unfold pro proK
  rw [this]
  exact ⟨rfl, rfl⟩
theorem pro_wf {t : Hd} {tk : Tys} (h : WFh t tk) (hw : tk.wf) : WFh (pro t) (proK t tk) ∧ (proK t tk).wf := by
  unfold pro proK
  cases isSmall t
  · exact ⟨h, hw⟩
  · exact ⟨Or.inr (Or.inr (Or.inl ⟨4, false, rfl, rfl⟩)), trivial⟩
/-- The reference's Promote. -/
theorem promRR (t : Hd) (tk : Tys) (tp : Option Addr) (tn tc : Nat) (w0 X : World) (hk : Kids (fun _ => True) w0 tk tp tn tc) :
    Calls Tryd.prog 27 #[.agg #[.int .i64 t.kind, .int .i64 t.size, .int .i64 t.len, .bool t.flag, .string t.name, .slice tp tn tc]] X fun e w' => (∃ p7 n7 c7, e = .returned (.agg #[.int .i64 (pro t).kind, .int .i64 (pro t).size, .int .i64 (pro t).len, .bool (pro t).flag, .string (pro t).name, .slice p7 n7 c7]) ∧ (t.kind = 2 ∨ Kids (fun _ => True) w0 (proK t tk) p7 n7 c7)) ∧ Fresh X w' := by
  by_cases h : t.kind = 2
  · refine (promR t tp tn tc X h).mono ?_
    rintro e w' ⟨⟨p', n', c', he⟩, hf⟩
    exact ⟨⟨p', n', c', he, Or.inl h⟩, hf⟩
  · refine (promR_not t tp tn tc X h).mono ?_
    rintro e w' ⟨he, hf⟩
    rw [(pro_not h tk).1, (pro_not h tk).2]
    exact ⟨⟨tp, tn, tc, he, Or.inr hk⟩, hf⟩
theorem samePP (t : Hd) (tk : Tys) (hwf : WFh t tk) (hw : tk.wf) (w0 X : World) (p6 p7 : Option Addr) (n6 n7 c6 c7 : Nat) (hf : Fresh w0 X) (h6 : Kids (fun _ => True) X (proK t tk) p6 n6 c6) (h7 : t.kind = 2 ∨ Kids (fun _ => True) w0 (proK t tk) p7 n7 c7) :
    Calls Tryd.prog 17 #[.agg #[.int .i64 (pro t).kind, .int .i64 (pro t).size, .int .i64 (pro t).len, .bool (pro t).flag, .string (pro t).name, .slice p6 n6 c6], .agg #[.int .i64 (pro t).kind, .int .i64 (pro t).size, .int .i64 (pro t).len, .bool (pro t).flag, .string (pro t).name, .slice p7 n7 c7]] X fun e w' => e = .returned (.bool true) ∧ Fresh X w' := by
  rcases h7 with h7 | h7
  · exact sameR_num (pro t) p6 p7 n6 n7 c6 c7 X (pro_kind2 h7)
  · have := sameRR_any (pro t) (proK t tk) (pro_wf hwf hw).1 (pro_wf hwf hw).2 _ _ (pro t) (proK t tk) p6 p7 n6 n7 c6 c7 X X (Fresh.refl _) h6 (h7.later hf) (pro_wf hwf hw).1 (pro_wf hwf hw).2
    rw [eqT_refl] at this
    exact this
set_option maxRecDepth 100000 in
set_option maxHeartbeats 40000000 in
theorem one_law (zs ys : Nat → Int) (n m : Nat) (p q : Option Addr) (cap mc : Nat) (w : World) (hz : CodeAt w zs n 0 p n cap) (hy : CodeAt w ys m 0 q m mc)
    (hzb : ∀ i, -9223372036854775808 ≤ zs i ∧ zs i ≤ 9223372036854775807) (hn : n ≤ 17592186043904) (htab : Lib.TabIs Tryd.prog w "internal/strconv.uint64pow10" .u64 Lib.pow10Tab) :
    Calls Tryd.prog 4 #[.slice p n cap, .slice q m mc] w fun e w' => e = .returned (.bool true) ∧ Fresh w w' := by
  have HZ := Lib.hid hz
  have HY := Lib.hid hy
  have HT0 : Hid (Tab w) := Lib.hid (Lib.tabBelow_of_tabIs htab)
  have HST := Lib.hid (mkT_small zs n 61 0)
  have HWT := Lib.hid (mkT_wf zs n 61 0)
  have HWU := Lib.hid (mkT_wf ys m 61 0)
  have HDT := Lib.hid (mkT_dep zs n 61 0)
  have HLT := Lib.hid (mkT_lens zs n hzb 61 0)
  have HXT : Hid ((txtT (mkT zs n 61 0).h (mkT zs n 61 0).ks.txts).length ≤ 225179981361972) := Lib.hid (by
    have h1 := (mkT_txt zs n hzb 61 0 (by omega)).1
    have h2 := mkT_le zs n 61 0 (by omega)
    omega)
  rw [show mkT zs n 61 0 = one zs n from rfl] at HST HWT HDT HLT HXT
  rw [show mkT ys m 61 0 = one ys m from rfl] at HWU
  clear hz hy hzb hn htab
  go_enter Tryd.func4, Tryd.ntmps4
  go_wp2_with fail
  go_at_call 8; refine (fixed_any _).mono ?_; rintro e w1 ⟨rfl, h1⟩
  go_wp2_with fail
  go_at_call 10; refine (one_any zs n p cap w _ (by (repeat' first | with_reducible exact Fresh.refl _ | with_reducible assumption | with_reducible refine Fresh.alloc ?_ _ _ | with_reducible refine Fresh.drew ?_ | with_reducible refine Fresh.drewN ?_ _ | with_reducible refine Fresh.setCell ?_ ?_ _ | with_reducible refine Fresh.trans ?_ (by assumption) | (simp; done) | (simp; omega))) HZ.out).mono ?_; rintro e w2 ⟨⟨tp, tn, tc, rfl, hkt⟩, h2⟩
  have HKT := Lib.hid hkt
  have H2 : Hid (Fresh w w2) := Lib.hid (h1.trans h2)
  clear hkt h1 h2
  go_wp2_with fail
  go_at_call 10; refine (one_any ys m q mc w _ H2.out HY.out).mono ?_; rintro e w3 ⟨⟨up, un, uc, rfl, hku⟩, h3⟩
  have HKT := Lib.hid (HKT.out.later h3)
  have HKU := Lib.hid hku
  have H3 : Hid (Fresh w w3) := Lib.hid (H2.out.trans h3)
  clear hku h3 H2 HZ HY
  generalize one zs n = T at *
  generalize one ys m = U at *
  obtain ⟨t, tk, tj⟩ := T
  obtain ⟨u, uk, uj⟩ := U
  simp only at HKT HKU HST HWT HWU HDT HLT HXT
  go_upto_region 4 with fail
  have BT : Hid (TB ((w3.alloc (.cells #[.int .i64 t.kind, .int .i64 t.size, .int .i64 t.len, .bool t.flag, .string t.name, .slice tp tn tc] 30)).alloc (.cells #[.int .i64 u.kind, .int .i64 u.size, .int .i64 u.len, .bool u.flag, .string u.name, .slice up un uc] 30)) w3.heap.size t tp tn tc) := Lib.hid ((TB.new w3 t tp tn tc).later (by (repeat' first | with_reducible exact Fresh.refl _ | with_reducible assumption | with_reducible refine Fresh.alloc ?_ _ _ | with_reducible refine Fresh.drew ?_ | with_reducible refine Fresh.drewN ?_ _ | with_reducible refine Fresh.setCell ?_ ?_ _ | with_reducible refine Fresh.trans ?_ (by assumption) | (simp; done) | (simp; omega))))
  have BU : Hid (TB ((w3.alloc (.cells #[.int .i64 t.kind, .int .i64 t.size, .int .i64 t.len, .bool t.flag, .string t.name, .slice tp tn tc] 30)).alloc (.cells #[.int .i64 u.kind, .int .i64 u.size, .int .i64 u.len, .bool u.flag, .string u.name, .slice up un uc] 30)) (w3.heap.size + 1) u up un uc) := Lib.hid (by have := TB.new (w3.alloc (.cells #[.int .i64 t.kind, .int .i64 t.size, .int .i64 t.len, .bool t.flag, .string t.name, .slice tp tn tc] 30)) u up un uc; simpa only [World.size_alloc] using this)
  have KT : Hid (Kids (fun _ => True) ((w3.alloc (.cells #[.int .i64 t.kind, .int .i64 t.size, .int .i64 t.len, .bool t.flag, .string t.name, .slice tp tn tc] 30)).alloc (.cells #[.int .i64 u.kind, .int .i64 u.size, .int .i64 u.len, .bool u.flag, .string u.name, .slice up un uc] 30)) tk tp tn tc) := Lib.hid ((HKT.out.mono (fun _ _ _ => trivial)).later (by (repeat' first | with_reducible exact Fresh.refl _ | with_reducible assumption | with_reducible refine Fresh.alloc ?_ _ _ | with_reducible refine Fresh.drew ?_ | with_reducible refine Fresh.drewN ?_ _ | with_reducible refine Fresh.setCell ?_ ?_ _ | with_reducible refine Fresh.trans ?_ (by assumption) | (simp; done) | (simp; omega))))
  have KU : Hid (Kids (fun _ => True) ((w3.alloc (.cells #[.int .i64 t.kind, .int .i64 t.size, .int .i64 t.len, .bool t.flag, .string t.name, .slice tp tn tc] 30)).alloc (.cells #[.int .i64 u.kind, .int .i64 u.size, .int .i64 u.len, .bool u.flag, .string u.name, .slice up un uc] 30)) uk up un uc) := Lib.hid ((HKU.out.mono (fun _ _ _ => trivial)).later (by (repeat' first | with_reducible exact Fresh.refl _ | with_reducible assumption | with_reducible refine Fresh.alloc ?_ _ _ | with_reducible refine Fresh.drew ?_ | with_reducible refine Fresh.drewN ?_ _ | with_reducible refine Fresh.setCell ?_ ?_ _ | with_reducible refine Fresh.trans ?_ (by assumption) | (simp; done) | (simp; omega))))
  have F4 : Hid (Fresh w ((w3.alloc (.cells #[.int .i64 t.kind, .int .i64 t.size, .int .i64 t.len, .bool t.flag, .string t.name, .slice tp tn tc] 30)).alloc (.cells #[.int .i64 u.kind, .int .i64 u.size, .int .i64 u.len, .bool u.flag, .string u.name, .slice up un uc] 30))) := Lib.hid (H3.out.trans (by (repeat' first | with_reducible exact Fresh.refl _ | with_reducible assumption | with_reducible refine Fresh.alloc ?_ _ _ | with_reducible refine Fresh.drew ?_ | with_reducible refine Fresh.drewN ?_ _ | with_reducible refine Fresh.setCell ?_ ?_ _ | with_reducible refine Fresh.trans ?_ (by assumption) | (simp; done) | (simp; omega))))
  clear HKT HKU H3
  generalize ((w3.alloc (.cells #[.int .i64 t.kind, .int .i64 t.size, .int .i64 t.len, .bool t.flag, .string t.name, .slice tp tn tc] 30)).alloc (.cells #[.int .i64 u.kind, .int .i64 u.size, .int .i64 u.len, .bool u.flag, .string u.name, .slice up un uc] 30)) = W4 at *
  generalize w3.heap.size + 1 = b6 at *
  generalize w3.heap.size = b5 at *
  have HT4 : Hid (Tab W4) := Lib.hid (HT0.out.later F4.out)
  have C17 : Hid (∀ X, Fresh W4 X → Calls Tryd.prog 17 #[.agg #[.int .i64 t.kind, .int .i64 t.size, .int .i64 t.len, .bool t.flag, .string t.name, .slice tp tn tc], .agg #[.int .i64 u.kind, .int .i64 u.size, .int .i64 u.len, .bool u.flag, .string u.name, .slice up un uc]] X fun e w' => e = .returned (.bool (eqT t tk u uk)) ∧ Fresh X w') := Lib.hid (fun X hX => sameRR_any t tk HWT.out.1 HWT.out.2 _ _ u uk tp up tn un tc uc W4 X hX KT.out KU.out HWU.out.1 HWU.out.2)
  have C18 : Hid (∀ X, Fresh W4 X → Calls Tryd.prog 18 #[.agg #[.int .i64 t.kind, .int .i64 t.size, .int .i64 t.len, .bool t.flag, .string t.name, .slice tp tn tc]] X fun e w' => e = .returned (.string ⟨(txtT t tk.txts).toArray⟩) ∧ Fresh X w') := Lib.hid (fun X hX => text_any t tk tp tn tc W4 X HWT.out.1 HWT.out.2 HLT.out.1 HLT.out.2 HT4.out hX KT.out HXT.out)
  have C19 : Hid (∀ X, Fresh W4 X → Calls Tryd.prog 19 #[.agg #[.int .i64 t.kind, .int .i64 t.size, .int .i64 t.len, .bool t.flag, .string t.name, .slice tp tn tc]] X fun e w' => e = .returned (.string ⟨(txtT t tk.txts).toArray⟩) ∧ Fresh X w') := Lib.hid (fun X hX => textR_any t tk HWT.out.1 HWT.out.2 HLT.out.1 HLT.out.2 _ tp tn tc W4 X hX KT.out HXT.out)
  have C20 : Hid (∀ X, Fresh W4 X → Calls Tryd.prog 20 #[.agg #[.int .i64 t.kind, .int .i64 t.size, .int .i64 t.len, .bool t.flag, .string t.name, .slice tp tn tc]] X fun e w' => e = .returned (.int .i64 (depT t tk.dep)) ∧ Fresh X w') := Lib.hid (fun X hX => (depth_any t tk HWT.out.1 HWT.out.2 (by have := HDT.out; omega)).1 _ tp tn tc W4 X hX KT.out)
  have C21 : Hid (∀ X, Fresh W4 X → Calls Tryd.prog 21 #[.agg #[.int .i64 t.kind, .int .i64 t.size, .int .i64 t.len, .bool t.flag, .string t.name, .slice tp tn tc]] X fun e w' => e = .returned (.int .i64 (depT t tk.dep)) ∧ Fresh X w') := Lib.hid (fun X hX => (depth_any t tk HWT.out.1 HWT.out.2 (by have := HDT.out; omega)).2 _ tp tn tc W4 X hX KT.out)
  have C22 : Hid (∀ X, Fresh W4 X → Calls Tryd.prog 22 #[.agg #[.int .i64 t.kind, .int .i64 t.size, .int .i64 t.len, .bool t.flag, .string t.name, .slice tp tn tc]] X fun e w' => e = .returned (.int .i64 (chunkOf t)) ∧ Fresh X w') := Lib.hid (fun X hX => chunk_any t tk tp tn tc W4 X hX KT.out)
  have C23 : Hid (∀ X, Calls Tryd.prog 23 #[.agg #[.int .i64 t.kind, .int .i64 t.size, .int .i64 t.len, .bool t.flag, .string t.name, .slice tp tn tc]] X fun e w' => e = .returned (.int .i64 (chunkOf t)) ∧ Fresh X w') := Lib.hid (fun X => chunkR_any t tp tn tc X)
  have C24 : Hid (∀ X, Fresh W4 X → Calls Tryd.prog 24 #[.agg #[.int .i64 t.kind, .int .i64 t.size, .int .i64 t.len, .bool t.flag, .string t.name, .slice tp tn tc]] X fun e w' => e = .returned (.int .i64 (ckind (chunkOf t))) ∧ Fresh X w') := Lib.hid (fun X hX => kind_any t tk tp tn tc W4 X hX KT.out)
  have C25 : Hid (∀ X, Calls Tryd.prog 25 #[.agg #[.int .i64 t.kind, .int .i64 t.size, .int .i64 t.len, .bool t.flag, .string t.name, .slice tp tn tc]] X fun e w' => e = .returned (.int .i64 (ckind (chunkOf t))) ∧ Fresh X w') := Lib.hid (fun X => kindR_any t tp tn tc X)
  have C26 : Hid (∀ X, Fresh W4 X → Calls Tryd.prog 26 #[.agg #[.int .i64 t.kind, .int .i64 t.size, .int .i64 t.len, .bool t.flag, .string t.name, .slice tp tn tc]] X fun e w' => (∃ p6 n6 c6, e = .returned (.agg #[.int .i64 (pro t).kind, .int .i64 (pro t).size, .int .i64 (pro t).len, .bool (pro t).flag, .string (pro t).name, .slice p6 n6 c6]) ∧ Kids (fun _ => True) w' (proK t tk) p6 n6 c6) ∧ Fresh X w') := Lib.hid (fun X hX => by
    refine (promote_any t tk tp tn tc W4 X hX KT.out HST.out.1 HST.out.2).mono ?_
    rintro e w' ⟨⟨p', n', c', he, hk⟩, hf⟩
    exact ⟨⟨p', n', c', he, hk.mono (fun _ _ _ => trivial)⟩, hf⟩)
  have C27 : Hid (∀ X, Calls Tryd.prog 27 #[.agg #[.int .i64 t.kind, .int .i64 t.size, .int .i64 t.len, .bool t.flag, .string t.name, .slice tp tn tc]] X fun e w' => (∃ p7 n7 c7, e = .returned (.agg #[.int .i64 (pro t).kind, .int .i64 (pro t).size, .int .i64 (pro t).len, .bool (pro t).flag, .string (pro t).name, .slice p7 n7 c7]) ∧ (t.kind = 2 ∨ Kids (fun _ => True) W4 (proK t tk) p7 n7 c7)) ∧ Fresh X w') := Lib.hid (fun X => promRR t tk tp tn tc W4 X KT.out)
  have C17p : Hid (∀ X p6 n6 c6 p7 n7 c7, Fresh W4 X → Kids (fun _ => True) X (proK t tk) p6 n6 c6 → (t.kind = 2 ∨ Kids (fun _ => True) W4 (proK t tk) p7 n7 c7) → Calls Tryd.prog 17 #[.agg #[.int .i64 (pro t).kind, .int .i64 (pro t).size, .int .i64 (pro t).len, .bool (pro t).flag, .string (pro t).name, .slice p6 n6 c6], .agg #[.int .i64 (pro t).kind, .int .i64 (pro t).size, .int .i64 (pro t).len, .bool (pro t).flag, .string (pro t).name, .slice p7 n7 c7]] X fun e w' => e = .returned (.bool true) ∧ Fresh X w') := Lib.hid (fun X p6 n6 c6 p7 n7 c7 hX h6 h7 => samePP t tk HWT.out.1 HWT.out.2 W4 X p6 p7 n6 n7 c6 c7 hX h6 h7)
  have C28 : Hid (∀ X, Fresh W4 X → Calls Tryd.prog 28 #[.agg #[.int .i64 t.kind, .int .i64 t.size, .int .i64 t.len, .bool t.flag, .string t.name, .slice tp tn tc], .agg #[.int .i64 u.kind, .int .i64 u.size, .int .i64 u.len, .bool u.flag, .string u.name, .slice up un uc]] X fun e w' => e = .returned (.bool (eqT t tk u uk)) ∧ Fresh X w') := Lib.hid (fun X hX => sameP_any t tk HWT.out.1 HWT.out.2 _ _ u uk tp up tn un tc uc W4 X hX KT.out KU.out HWU.out.1 HWU.out.2)
  have C28b : Hid (∀ X, Fresh W4 X → Calls Tryd.prog 28 #[.agg #[.int .i64 u.kind, .int .i64 u.size, .int .i64 u.len, .bool u.flag, .string u.name, .slice up un uc], .agg #[.int .i64 t.kind, .int .i64 t.size, .int .i64 t.len, .bool t.flag, .string t.name, .slice tp tn tc]] X fun e w' => e = .returned (.bool (eqT t tk u uk)) ∧ Fresh X w') := Lib.hid (fun X hX => by rw [eqT_comm]; exact sameP_any u uk HWU.out.1 HWU.out.2 _ _ t tk up tp un tn uc tc W4 X hX KU.out KT.out HWT.out.1 HWT.out.2)
  have C28c : Hid (∀ X, Fresh W4 X → Calls Tryd.prog 28 #[.agg #[.int .i64 t.kind, .int .i64 t.size, .int .i64 t.len, .bool t.flag, .string t.name, .slice tp tn tc], .agg #[.int .i64 t.kind, .int .i64 t.size, .int .i64 t.len, .bool t.flag, .string t.name, .slice tp tn tc]] X fun e w' => e = .returned (.bool true) ∧ Fresh X w') := Lib.hid (fun X hX => by have := sameP_any t tk HWT.out.1 HWT.out.2 _ _ t tk tp tp tn tn tc tc W4 X hX KT.out KT.out HWT.out.1 HWT.out.2; rw [eqT_refl] at this; exact this)
  clear HST HWT HWU HDT HLT HXT HT4 HT0 KT KU
  generalize (⟨(txtT t tk.txts).toArray⟩ : ByteArray) = S at *
  generalize ((depT t tk.dep : Nat) : Int) = D at *
  generalize eqT t tk u uk = R at *
  generalize ckind (chunkOf t) = kd at *
  generalize chunkOf t = ch at *
  generalize proK t tk = PK at *
  generalize pro t = P at *
  have bt := BT.out
  have bu := BU.out
  obtain ⟨t0, t1, t2, t3, t4, t5, tf⟩ := bt
  obtain ⟨u0, u1, u2, u3, u4, u5, uf⟩ := bu
  have TT : Hid (T12 W4 b5 b6 t u tp up tn tc un uc) := Lib.hid ⟨t0, t1, t2, t3, t4, t5, u0, u1, u2, u3, u4, u5⟩
  go_wp2_with fail
  clear t0 t1 t2 t3 t4 t5 tf u0 u1 u2 u3 u4 u5 uf
  go_at_call 17; refine (C17.out _ (Fresh.refl _)).mono ?_; rintro e w5 ⟨rfl, h5⟩
  clear C17
  go_upto_region 5 with fail
  have E : Hid (Fresh W4 w5.drew) := Lib.hid h5.drew
  clear h5
  go_region_held3 (fun w' => w'.cell? ⟨b5, 0, none⟩ = some (.int .i64 t.kind) ∧ w'.cell? ⟨b5, 1, none⟩ = some (.int .i64 t.size) ∧ w'.cell? ⟨b5, 2, none⟩ = some (.int .i64 t.len) ∧ w'.cell? ⟨b5, 3, none⟩ = some (.bool t.flag) ∧ w'.cell? ⟨b5, 4, none⟩ = some (.string t.name) ∧ w'.cell? ⟨b5, 5, none⟩ = some (.slice tp tn tc) ∧ w'.cell? ⟨b6, 0, none⟩ = some (.int .i64 u.kind) ∧ w'.cell? ⟨b6, 1, none⟩ = some (.int .i64 u.size) ∧ w'.cell? ⟨b6, 2, none⟩ = some (.int .i64 u.len) ∧ w'.cell? ⟨b6, 3, none⟩ = some (.bool u.flag) ∧ w'.cell? ⟨b6, 4, none⟩ = some (.string u.name) ∧ w'.cell? ⟨b6, 5, none⟩ = some (.slice up un uc)) (first | done | with_reducible exact ⟨(TT.out.later E.out).c0, (TT.out.later E.out).c1, (TT.out.later E.out).c2, (TT.out.later E.out).c3, (TT.out.later E.out).c4, (TT.out.later E.out).c5, (TT.out.later E.out).c6, (TT.out.later E.out).c7, (TT.out.later E.out).c8, (TT.out.later E.out).c9, (TT.out.later E.out).c10, (TT.out.later E.out).c11⟩ | (simp [go_sem]; with_reducible exact ⟨(TT.out.later E.out).c0, (TT.out.later E.out).c1, (TT.out.later E.out).c2, (TT.out.later E.out).c3, (TT.out.later E.out).c4, (TT.out.later E.out).c5, (TT.out.later E.out).c6, (TT.out.later E.out).c7, (TT.out.later E.out).c8, (TT.out.later E.out).c9, (TT.out.later E.out).c10, (TT.out.later E.out).c11⟩)) (first | (go_at_call 18; (with_reducible refine (C18.out _ E.out).mono ?_); rintro e w9 ⟨rfl, h9⟩; have E := Lib.hid (E.out.trans h9); clear h9) | (go_at_call 19; (with_reducible refine (C19.out _ E.out).mono ?_); rintro e w9 ⟨rfl, h9⟩; have E := Lib.hid (E.out.trans h9); clear h9) | (go_at_call 20; (with_reducible refine (C20.out _ E.out).mono ?_); rintro e w9 ⟨rfl, h9⟩; have E := Lib.hid (E.out.trans h9); clear h9) | (go_at_call 21; (with_reducible refine (C21.out _ E.out).mono ?_); rintro e w9 ⟨rfl, h9⟩; have E := Lib.hid (E.out.trans h9); clear h9) | (go_at_call 22; (with_reducible refine (C22.out _ E.out).mono ?_); rintro e w9 ⟨rfl, h9⟩; have E := Lib.hid (E.out.trans h9); clear h9) | (go_at_call 23; (with_reducible refine (C23.out _).mono ?_); rintro e w9 ⟨rfl, h9⟩; have E := Lib.hid (E.out.trans h9); clear h9) | (go_at_call 24; (with_reducible refine (C24.out _ E.out).mono ?_); rintro e w9 ⟨rfl, h9⟩; have E := Lib.hid (E.out.trans h9); clear h9) | (go_at_call 25; (with_reducible refine (C25.out _).mono ?_); rintro e w9 ⟨rfl, h9⟩; have E := Lib.hid (E.out.trans h9); clear h9) | (go_at_call 26; (with_reducible refine (C26.out _ E.out).mono ?_); rintro e w9 ⟨⟨p6, n6, c6, rfl, hk6⟩, h9⟩; have K6 := Lib.hid hk6; clear hk6; have E := Lib.hid (E.out.trans h9); clear h9) | (go_at_call 27; (with_reducible refine (C27.out _).mono ?_); rintro e w9 ⟨⟨p7, n7, c7, rfl, hk7⟩, h9⟩; have K7 := Lib.hid hk7; (try have K6 := Lib.hid (K6.out.later h9)); clear hk7; have E := Lib.hid (E.out.trans h9); clear h9) | (go_at_call 17; (with_reducible refine (C17p.out _ _ _ _ _ _ _ E.out K6.out K7.out).mono ?_); rintro e w9 ⟨rfl, h9⟩; have E := Lib.hid (E.out.trans h9); clear h9) | (go_at_call 28; (with_reducible refine (C28.out _ E.out).mono ?_); rintro e w9 ⟨rfl, h9⟩; have E := Lib.hid (E.out.trans h9); clear h9) | (go_at_call 28; (with_reducible refine (C28b.out _ E.out).mono ?_); rintro e w9 ⟨rfl, h9⟩; have E := Lib.hid (E.out.trans h9); clear h9) | (go_at_call 28; (with_reducible refine (C28c.out _ E.out).mono ?_); rintro e w9 ⟨rfl, h9⟩; have E := Lib.hid (E.out.trans h9); clear h9))
  all_goals (go_wp2_with fail)
  all_goals go_returns
  all_goals exact ⟨rfl, F4.out.trans E.out⟩
end Go.Proofs.YteiomcbphbbpkaaDoor
