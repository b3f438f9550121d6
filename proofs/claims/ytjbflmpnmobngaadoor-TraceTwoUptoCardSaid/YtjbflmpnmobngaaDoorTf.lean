/- The reference's Call. -/
import Derived.Test.YtjbflmpnmobngaaDoorTe
import Derived.Deep.RegionLaw
namespace Go.Proofs.YtjbflmpnmobngaaDoor
set_option linter.unusedSimpArgs false
set_option linter.unusedVariables false
open Go.RowKit

theorem step_append_w {P : Program} (w : World) {ops : Array Oper} {o : Oper} {a : Act} {K : Act → World → Prop} {Q : Exit → Act → World → Prop} {E : Prop} (hgd : o.guard = none) (s x : Operand) (t : TypeId)
    (ho : o.op = .call { callee := .builtin .append, args := #[s, x], argTypes := #[t, t] })
    (base : Nat) (e : TypeId) (i : TypeInfo) (z : Value) (size bytes : Nat) (ht : P.underlying t = some (.slice e)) (hi : P.info? e = some i) (hz : i.zero = some z)
    (hsize : i.size = size) (hby : i.bytes = bytes) (hzs : z.cells.size = size) (hsz : 0 < size)
    (v : Value) (n : Nat) (xs : List Value) (hs : a.eval s = v) (hown : w.ownsRow base e size v n xs)
    (ad : Addr) (m c : Nat) (news : List Value) (hx : a.eval x = .slice (some ad) m c) (hl : news.length = m * size) (hnews : ∀ j u, news[j]? = some u → w.cell? (ad.add j) = some u) (h1 : ∀ u ∈ news, u.oneCell' = true)
    (h63 : n + m ≤ maxLen) (hbytes : ((n + m) + (n + m) / 4 + 192) * bytes ≤ 281474976710656) (hbase : base ≤ w.heap.size)
    (h : ∀ v' w', w'.ownsRow base e size v' (n + m) (xs ++ news) → w.grownBy w' v.ownBlock → (v' = .slice none 0 0 ↔ v = .slice none 0 0 ∧ m = 0) → K (a.put o.dst v') w') :
    if Region.wanted o (yielded ops a.tmps) = true then Oper.wp P o a w K Q else E := by
  have hw : Region.wanted o (yielded ops a.tmps) = true := by simp [Region.wanted, hgd]
  rw [if_pos hw]
  exact wp_append_own_wide w s x t ho base e i z size bytes ht hi hz hsize hby hzs hsz v n xs hs hown ad m c news hx hl hnews h1 h63 hbytes hbase h
theorem step_append_none {P : Program} (w : World) {ops : Array Oper} {o : Oper} {a : Act} {K : Act → World → Prop} {Q : Exit → Act → World → Prop} {E : Prop} (hgd : o.guard = none) (s x : Operand) (t : TypeId)
    (ho : o.op = .call { callee := .builtin .append, args := #[s, x], argTypes := #[t, t] })
    (base : Nat) (e : TypeId) (i : TypeInfo) (size : Nat) (ht : P.underlying t = some (.slice e)) (hi : P.info? e = some i)
    (v : Value) (n : Nat) (xs : List Value) (hs : a.eval s = v) (hown : w.ownsRow base e size v n xs) (hx : a.eval x = .slice none 0 0)
    (h : K (a.put o.dst v) w) :
    if Region.wanted o (yielded ops a.tmps) = true then Oper.wp P o a w K Q else E := by
  have hw : Region.wanted o (yielded ops a.tmps) = true := by simp [Region.wanted, hgd]
  rw [if_pos hw]
  have hrun := run_append_owned_none (P := P) (w := w) base t o.type e i size ht hi v n xs hown
  unfold Oper.wp
  simp [execOp, ho, resolve, invoke, builtin, hs, hx, hrun, Result.andThen]
  exact h
/-- What is carried through the last region. -/
structure Cr2 (w : World) (b R : Nat) (kd : Int) (p : Option Addr) (n : Nat) (f : Nat → V3) (q : Option Addr) (m : Nat) (g : Nat → Int) (wx : World) : Prop where
  s1 : wx.cell? ⟨b, 1, none⟩ = some (.int .i64 kd)
  v : ValsAt wx p n f
  c : NumsAt wx q m g
  r : Res R wx
  b : Below w.heap.size w wx
  lo : R < wx.heap.size
theorem Cr2.below {w : World} {b R : Nat} {kd : Int} {p : Option Addr} {n : Nat} {f : Nat → V3} {q : Option Addr} {m : Nat} {g : Nat → Int} {wx wy : World} (h : Cr2 w b R kd p n f q m g wx) (k : Below wx.heap.size wx wy) : Cr2 w b R kd p n f q m g wy :=
  ⟨stays_below k _ _ _ h.s1, h.v.below k, h.c.below k, h.r.below k, h.b.trans (k.mono h.b.size), Nat.lt_of_lt_of_le h.lo k.size⟩
theorem okKind_yes {v : V3} {kd : Int} (h : okKind v kd = true) : v.k = kd ∧ (kd = 1 ∨ kd = 2 ∨ kd = 3) := by
  simpa [okKind] using h
theorem okKind_no {v : V3} {kd : Int} (h : okKind v kd = false) : v.k ≠ kd ∨ (kd ≠ 1 ∧ kd ≠ 2 ∧ kd ≠ 3) := by
  by_cases e : v.k = kd
  · right
    simp [okKind, e] at h
    exact ⟨h.1, h.2.1, h.2.2⟩
  · exact Or.inl e
set_option maxRecDepth 100000 in
set_option maxHeartbeats 4000000 in
theorem callR_any (name : ByteArray) (pp p q : Option Addr) (pn pc n cap m mc : Nat) (ks g : Nat → Int) (kd kq : Int) (f : Nat → V3) (hp : pn ≤ pc) (hpm : pc ≤ maxLen) (hn : n ≤ cap) (hm : cap ≤ maxLen) (hb : n ≤ 5864062014805) (hnil : p = none → n = 0 ∧ cap = 0) (hmc : m ≤ mc) (hmm : mc ≤ maxLen) (w : World) (h1 : NumsAt w pp pn ks) (h2 : ValsAt w p n f) (h3 : NumsAt w q m g) :
    Calls Tryd.prog 8 #[.string name, .agg #[.slice pp pn pc, .int .i64 kd], .slice p n cap, .slice q m mc, .int .i64 kq] w fun e w' => ((fitsV n pn f ks = true ∧ ∃ p' cap', e = .returned (.tuple #[.agg #[.string name, .slice p' n cap', .int .i64 (ansV kd (scr g m kq)).k, .int .u64 (ansV kd (scr g m kq)).n, .int .i64 (ansV kd (scr g m kq)).b], .bool true]) ∧ OutAt w.heap.size w' p' n cap' f) ∨ (fitsV n pn f ks = false ∧ e = .returned (.tuple #[.agg #[.string ⟨#[]⟩, .slice none 0 0, .int .i64 0, .int .u64 0, .int .i64 0], .bool false]))) ∧ Below w.heap.size w w' := by
  have H1 := Lib.hid h1
  have H2 := Lib.hid h2
  have H3 := Lib.hid h3
  have HB := Lib.hid (And.intro hb hm)
  have HMC := Lib.hid (And.intro hmc hmm)
  have HNIL := Lib.hid hnil
  unfold maxLen at hpm hm
  clear h1 h2 h3 hb hmc hmm hnil
  by_cases hne : n = pn
  rotate_left
  · have hq : ((n : Int) != (pn : Int)) = true := by simp; omega
    have HX : Hid (fitsV n pn f ks = false) := Lib.hid (by simp [fitsV, hne])
    clear hne
    go_enter Tryd.func8, Tryd.ntmps8
    go_wp2_with fail
    all_goals refine bodyPost_ret (v := ?_) ?_ rfl ?_; rotate_left 1; focus (simp [results, Tryd.results8, go_sem, *]; (try rfl); done)
    all_goals exact ⟨Or.inr ⟨HX.out, rfl⟩, Fresh.below (by (repeat' first | with_reducible exact Fresh.refl _ | with_reducible assumption | with_reducible refine Fresh.alloc ?_ _ _ | with_reducible refine Fresh.drew ?_ | with_reducible refine Fresh.drewN ?_ _ | with_reducible refine Fresh.setCell ?_ ?_ _ | with_reducible refine Fresh.trans ?_ (by assumption) | (simp; done) | (simp; omega)))⟩
  subst hne
  go_enter Tryd.func8, Tryd.ntmps8
  go_upto_region 3 with fail
  have R0 : Hid (Res (w.heap.size + 1) ((w.alloc (.cells #[.slice pp n pc, .int .i64 kd] 24)).alloc (.cells #[.string ⟨#[]⟩, .slice none 0 0, .int .i64 0, .int .u64 0, .int .i64 0] 32))) :=
    Lib.hid ⟨by simp [go_sem], by simp [go_sem], by simp [go_sem], by simp [go_sem], by simp [go_sem], fun o => World.frozen?_alloc_at _ _ _ o (by simp)⟩
  have S0 : Hid (((w.alloc (.cells #[.slice pp n pc, .int .i64 kd] 24)).alloc (.cells #[.string ⟨#[]⟩, .slice none 0 0, .int .i64 0, .int .u64 0, .int .i64 0] 32)).cell? ⟨w.heap.size, 0, none⟩ = some (.slice pp n pc)) := Lib.hid (by simp [go_sem])
  have S1 : Hid (((w.alloc (.cells #[.slice pp n pc, .int .i64 kd] 24)).alloc (.cells #[.string ⟨#[]⟩, .slice none 0 0, .int .i64 0, .int .u64 0, .int .i64 0] 32)).cell? ⟨w.heap.size, 1, none⟩ = some (.int .i64 kd)) := Lib.hid (by simp [go_sem])
  have F0 : Hid (Fresh w ((w.alloc (.cells #[.slice pp n pc, .int .i64 kd] 24)).alloc (.cells #[.string ⟨#[]⟩, .slice none 0 0, .int .i64 0, .int .u64 0, .int .i64 0] 32))) := Lib.hid (by (repeat' first | with_reducible exact Fresh.refl _ | with_reducible assumption | with_reducible refine Fresh.alloc ?_ _ _ | with_reducible refine Fresh.drew ?_ | with_reducible refine Fresh.drewN ?_ _ | with_reducible refine Fresh.setCell ?_ ?_ _ | with_reducible refine Fresh.trans ?_ (by assumption) | (simp; done) | (simp; omega)))
  have HZ : Hid (w.heap.size + 2 = ((w.alloc (.cells #[.slice pp n pc, .int .i64 kd] 24)).alloc (.cells #[.string ⟨#[]⟩, .slice none 0 0, .int .i64 0, .int .u64 0, .int .i64 0] 32)).heap.size) := Lib.hid (by simp)
  generalize ((w.alloc (.cells #[.slice pp n pc, .int .i64 kd] 24)).alloc (.cells #[.string ⟨#[]⟩, .slice none 0 0, .int .i64 0, .int .u64 0, .int .i64 0] 32)) = W at *
  have HR1 : Hid (∃ R : Nat, R = w.heap.size + 1) := Lib.hid ⟨_, rfl⟩
  go_wp2_with fail
  go_loopw [12] (fun i wr => ∃ k : Nat, k ≤ n ∧ i = .int .i64 k ∧ Hid (Fresh W wr) ∧ Hid (∀ j, j < k → okKind (f j) (ks j) = true)) (fun i _ => n - (intOf i).toNat)
  case atStart => exact ⟨0, by omega, rfl, Lib.hid (Fresh.refl W), Lib.hid (fun j hj => by omega)⟩
  case round =>
    obtain ⟨k, hk, rfl, HF, HS⟩ := hrel
    have s0 := HF.out.at' S0.out
    have s1 := HF.out.at' S1.out
    by_cases hlt : k < n
    · obtain ⟨B, off, rfl, hc1⟩ := H1.out.resolve_left (by omega)
      obtain ⟨B', off', rfl, hc2⟩ := H2.out.resolve_left (by omega)
      have HG := F0.out.trans HF.out
      have a0 := HG.at' (hc1 k hlt)
      have d0 := HG.at' (hc2 k hlt).1
      have z0 := cell_lt a0
      have z1 := cell_lt d0
      simp only at z0 z1
      clear hc1 hc2 HG
      have hlt' : (k : Int) < (n : Int) := by omega
      cases hs : okKind (f k) (ks k)
      · have HX : Hid (fitsV n n f ks = false) := Lib.hid (fitsV_not hlt hs)
        obtain ⟨r0, r1, r2, r3, r4, rf⟩ := R0.out.below HF.out.below
        rcases okKind_no hs with h0 | ⟨h1, h2, h3⟩
        · clear hs
          go_wp2_with fail
          all_goals refine bodyPost_ret (v := ?_) ?_ rfl ?_; rotate_left 1; focus (simp [results, Tryd.results8, go_sem, *]; (try rfl); done)
          all_goals exact ⟨Or.inr ⟨HX.out, rfl⟩, wrote_b (F0.out.trans HF.out).below ..⟩
        · clear hs
          have g1 : (ks k != 1) = true := by simp [h1]
          have g2 : (ks k != 2) = true := by simp [h2]
          have g3 : (ks k != 3) = true := by simp [h3]
          clear h1 h2 h3
          by_cases h0 : (f k).k = ks k
          · go_wp2_with fail
            all_goals refine bodyPost_ret (v := ?_) ?_ rfl ?_; rotate_left 1; focus (simp [results, Tryd.results8, go_sem, *]; (try rfl); done)
            all_goals exact ⟨Or.inr ⟨HX.out, rfl⟩, wrote_b (F0.out.trans HF.out).below ..⟩
          · go_wp2_with fail
            all_goals refine bodyPost_ret (v := ?_) ?_ rfl ?_; rotate_left 1; focus (simp [results, Tryd.results8, go_sem, *]; (try rfl); done)
            all_goals exact ⟨Or.inr ⟨HX.out, rfl⟩, wrote_b (F0.out.trans HF.out).below ..⟩
      · have HT := Lib.hid hs
        obtain ⟨h0, h1⟩ := okKind_yes hs
        clear hs
        rw [h0] at d0
        clear h0
        have HK : Hid (∀ wr', Fresh W wr' → ∃ x : Nat, x ≤ n ∧ (Value.int .i64 (k + 1) = .int .i64 x) ∧ Hid (Fresh W wr') ∧ Hid (∀ j, j < x → okKind (f j) (ks j) = true)) := Lib.hid (fun wr' hw => ⟨k + 1, by omega, by go_num, Lib.hid hw, Lib.hid (fun j hj => by
          by_cases q : j = k
          · rw [q]; exact HT.out
          · exact HS.out j (by omega))⟩)
        generalize ks k = K at *
        rcases h1 with rfl | rfl | rfl
        all_goals
          go_wp2_with fail
          go_roundw
          case rel => exact HK.out _ HF.out
          case measure => simp [intOf]; omega
    · obtain rfl : k = n := by omega
      have HE := Lib.hid (fitsV_yes HS.out)
      have HS1 := Lib.hid s1
      have HR := Lib.hid (R0.out.below HF.out.below)
      have FW := Lib.hid (F0.out.trans HF.out)
      have HV := Lib.hid (H2.out.later FW.out)
      have HC := Lib.hid (H3.out.later FW.out)
      have C12 : Hid (∀ X, Below wr.heap.size wr X → Calls Tryd.prog 12 #[.int .i64 kd, .slice q m mc, .int .i64 kq] X fun e X' => e = .returned (.agg #[.int .i64 (ansV kd (scr g m kq)).k, .int .u64 (ansV kd (scr g m kq)).n, .int .i64 (ansV kd (scr g m kq)).b]) ∧ Fresh X X') := Lib.hid (fun X hX => answer_12 kd kq q m mc g HMC.out.1 HMC.out.2 X (HC.out.below hX))
      clear s0 s1 R0 S0 S1 F0 H1 H2 H3 HS HC
      go_upto_region 9 with fail
      obtain ⟨i0, hi, hz0, hz1, hz2⟩ := info_parts info30'
      have FA : Hid (Fresh wr ((wr.alloc (.cells #[] 30)).drew)) := Lib.hid ((Fresh.refl wr).alloc #[] 30).drew
      have SA : Hid (((wr.alloc (.cells #[] 30)).drew).cell? ⟨w.heap.size, 1, none⟩ = some (.int .i64 kd)) := Lib.hid (FA.out.at' HS1.out)
      have HOW : Hid (((wr.alloc (.cells #[] 30)).drew).ownsRow wr.heap.size 30 3 (.slice (some ⟨wr.heap.size, 0, none⟩) 0 0) 0 []) := Lib.hid (World.ownsRow_lit wr #[] 0 (Nat.le_refl _) (by decide) (by decide)).drew
      have HSd : Hid (wr.drew.cell? ⟨w.heap.size, 1, none⟩ = some (.int .i64 kd)) := Lib.hid HS1.out
      have HLE : Hid (wr.heap.size ≤ ((wr.alloc (.cells #[] 30)).drew).heap.size) := Lib.hid FA.out.size
      have hwz : Hid (w.heap.size + 1 < wr.heap.size) := Lib.hid (cell_lt HR.out.r0)
      rcases p with _ | ad
      · obtain ⟨rfl, rfl⟩ := HNIL.out rfl
        have HBW : Hid (Below wr.heap.size wr ((wr.alloc (.cells #[] 30)).drew)) := Lib.hid FA.out.below
        have SB := SA
        have RB : Hid (Res (w.heap.size + 1) ((wr.alloc (.cells #[] 30)).drew)) := Lib.hid (HR.out.below FA.out.below)
        have HO : Hid (OutAt wr.heap.size ((wr.alloc (.cells #[] 30)).drew) (some ⟨wr.heap.size, 0, none⟩) 0 0 f) := Lib.hid (OutAt.of_own (f := f) HOW.out)
        go_region_held3 (fun w' => w'.cell? ⟨w.heap.size, 1, none⟩ = some (.int .i64 kd)) (first | with_reducible exact HSd.out | with_reducible exact SA.out | with_reducible exact SB.out | with_reducible exact SC.out | (simp [go_sem]; first | with_reducible exact SC.out | with_reducible exact SA.out)) (first | (refine step_append_none ((wr.alloc (.cells #[] 30)).drew) (by rfl) (.tmp 53) (.tmp 54) 25 (by rfl) wr.heap.size 30 i0 3 Tryd.underlying25 hi (.slice (some ⟨wr.heap.size, 0, none⟩) 0 0) 0 [] (by rfl) HOW.out (by rfl) ?_) | (go_at_call 12; refine (C12.out _ HBW.out).mono ?_; rintro e w3 ⟨rfl, h3⟩; have SC := Lib.hid (h3.at' SB.out); have HRC := Lib.hid (RB.out.below h3.below); have HOC := Lib.hid (HO.out.below h3.below); have HBC := Lib.hid (HBW.out.trans (h3.below.mono HBW.out.size)); clear h3; obtain ⟨r0, r1, r2, r3, r4, rf⟩ := HRC.out))
        all_goals (try go_wp2)
        all_goals refine bodyPost_ret (v := ?_) ?_ rfl ?_; rotate_left 1; focus (simp [results, Tryd.results8, go_sem, *]; (try rfl); done)
        all_goals exact ⟨Or.inl ⟨HE.out, _, _, rfl, (HOC.out.set5 hwz.out ..).low FW.out.size⟩, wrote_b (FW.out.below.trans (HBC.out.mono FW.out.size)) ..⟩
      · have HNW : Hid (∀ j u, (rowV f k)[j]? = some u → ((wr.alloc (.cells #[] 30)).drew).cell? (ad.add j) = some u) := Lib.hid (HV.out.later FA.out).news
        have hb1 : Hid (0 + k ≤ maxLen) := Lib.hid (by have := HB.out.2; omega)
        have hb2 : Hid (((0 + k) + (0 + k) / 4 + 192) * 24 ≤ 281474976710656) := Lib.hid (by have := HB.out.1; omega)
        have hap : Hid (∀ v' w', w'.ownsRow wr.heap.size 30 3 v' (0 + k) ([] ++ rowV f k) → ((wr.alloc (.cells #[] 30)).drew).grownBy w' (Value.slice (some ⟨wr.heap.size, 0, none⟩) 0 0).ownBlock → ∃ p' cap', v' = .slice p' k cap' ∧ OutAt wr.heap.size w' p' k cap' f ∧ Below wr.heap.size wr w') := Lib.hid (fun v' w' hown hgrow => by
          rw [Nat.zero_add, List.nil_append] at hown
          obtain ⟨p', cap', rfl⟩ : ∃ p' cap', v' = .slice p' k cap' := by
            rcases hown.2 with ⟨e, h0⟩ | ⟨g, cap, cur, hv, _⟩
            · exact ⟨none, 0, by rw [e, h0]⟩
            · exact ⟨_, _, hv⟩
          exact ⟨p', cap', rfl, OutAt.of_own hown, FA.out.below.grown hgrow FA.out.size (fun b hb => (HOW.out.lt b hb).1)⟩)
        go_region_held3 (fun w' => w'.cell? ⟨w.heap.size, 1, none⟩ = some (.int .i64 kd)) (first | with_reducible exact HSd.out | with_reducible exact SA.out | with_reducible exact SB.out | with_reducible exact SC.out | (simp [go_sem]; first | with_reducible exact SC.out | with_reducible exact SA.out)) (first | (refine step_append_w ((wr.alloc (.cells #[] 30)).drew) (by rfl) (.tmp 53) (.tmp 54) 25 (by rfl) wr.heap.size 30 i0 (.agg #[.int .i64 0, .int .u64 0, .int .i64 0]) 3 24 Tryd.underlying25 hi hz0 hz1 hz2 rfl (by decide) (.slice (some ⟨wr.heap.size, 0, none⟩) 0 0) 0 [] (by rfl) HOW.out ad k cap (rowV f k) (by rfl) (rowV_len f k) HNW.out rowV_one hb1.out hb2.out HLE.out ?_; intro v' w2 hown hgrow _; obtain ⟨p', cap', rfl, ho, hbw⟩ := hap.out v' w2 hown hgrow; have HO := Lib.hid ho; have HBW := Lib.hid hbw; have SB : Hid (w2.cell? ⟨w.heap.size, 1, none⟩ = some (.int .i64 kd)) := Lib.hid (stays_below hbw _ _ _ HS1.out); have RB := Lib.hid (HR.out.below hbw); clear hown hgrow ho hbw) | (go_at_call 12; refine (C12.out _ HBW.out).mono ?_; rintro e w3 ⟨rfl, h3⟩; have SC := Lib.hid (h3.at' SB.out); have HRC := Lib.hid (RB.out.below h3.below); have HOC := Lib.hid (HO.out.below h3.below); have HBC := Lib.hid (HBW.out.trans (h3.below.mono HBW.out.size)); clear h3; obtain ⟨r0, r1, r2, r3, r4, rf⟩ := HRC.out))
        all_goals (try go_wp2)
        all_goals refine bodyPost_ret (v := ?_) ?_ rfl ?_; rotate_left 1; focus (simp [results, Tryd.results8, go_sem, *]; (try rfl); done)
        all_goals exact ⟨Or.inl ⟨HE.out, _, _, rfl, (HOC.out.set5 hwz.out ..).low FW.out.size⟩, wrote_b (FW.out.below.trans (HBC.out.mono FW.out.size)) ..⟩
end Go.Proofs.YtjbflmpnmobngaaDoor
