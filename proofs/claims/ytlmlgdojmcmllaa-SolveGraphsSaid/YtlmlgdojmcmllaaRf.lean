/- A part of rows, made anew. -/
import Derived.Test.YtlmlgdojmcmllaaRe
namespace Go.Proofs.Ytlmlgdojmcmllaa
set_option linter.unusedSimpArgs false
set_option linter.unusedVariables false
open Go.RowKit
open Solve

def fewG (g : Graph) : Graph := (g.take 40).map (·.take 20)
theorem fewG_len (g : Graph) : (fewG g).length ≤ 40 := by unfold fewG; rw [List.length_map]; exact List.length_take_le _ _
theorem fewG_lt (g : Graph) : (fewG g).length = min 40 g.length := by simp [fewG]
theorem row_fewG {g : Graph} {i : Nat} (h : i < 40) : row (fewG g) i = (row g i).take 20 := by
  unfold fewG row List.getD
  rw [List.getElem?_map, List.getElem?_take, if_pos h]
  cases g[i]? <;> simp
theorem row_fewG_len (g : Graph) (i : Nat) : (row (fewG g) i).length ≤ 20 := by
  by_cases h : i < 40
  · rw [row_fewG h]; exact List.length_take_le _ _
  · rw [row_out (by have := fewG_len g; omega)]; simp
theorem fewG_few (g : Graph) : fewG (fewG g) = fewG g := by
  unfold fewG
  rw [← List.map_take, List.take_take, List.map_map]
  congr 1
  · funext l; simp [List.take_take]
/-- A part of a row of numbers. -/
theorem Ints.take {ok : Nat → Prop} {w : World} {p : Option Addr} {l : List Int} {cap : Nat} (h : Ints ok w (.slice p l.length cap) l) (n : Nat) (hn : n ≤ l.length) : Ints ok w (.slice p n cap) (l.take n) := by
  obtain ⟨p', cap', hv, ⟨hc, hm⟩, h⟩ := h
  rw [nums_len] at hv hc
  cases hv
  have hl : (nums (l.take n)).length = n := by rw [nums_len, List.length_take]; omega
  refine ⟨p, cap, by rw [hl], ⟨by omega, hm⟩, ?_⟩
  rcases h with h | ⟨B, off, hp, hB, hh⟩
  · left
    have := nums_len l
    rw [h] at this
    simp at this
    have : l = [] := List.eq_nil_of_length_eq_zero this.symm
    subst this; simp [nums]
  · refine Or.inr ⟨B, off, hp, hB, fun i u hu => hh i u ?_⟩
    have : nums (l.take n) = (nums l).take n := by simp [nums]
    rw [this, List.getElem?_take] at hu
    split at hu
    · exact hu
    · cases hu
/-- What few has gathered so far. -/
structure Few (B : Nat) (w : World) (v : Value) (g : Graph) (k : Nat) : Prop where
  q : ∃ vs, Que w B 28 v vs ∧ vs.length = k ∧ ∀ i u, vs[i]? = some u → Ints (fun b => B ≤ b ∧ some b ≠ v.ownBlock) w u ((row g i).take 20)
theorem Few.rows {B : Nat} {w : World} {v : Value} {g : Graph} {k : Nat} (h : Few B w v g k) (hk : k = (fewG g).length) : Rows2 (fun b => B ≤ b) (fun b => B ≤ b) w v (fewG g) := by
  obtain ⟨vs, hq, hl, hh⟩ := h.q
  refine ⟨vs, by omega, hq.row fun b hb => (hq.lt b hb).1, fun i u hu => ?_⟩
  have hi : i < vs.length := by
    rcases Nat.lt_or_ge i vs.length with h | h
    · exact h
    · rw [List.getElem?_eq_none h] at hu; cases hu
  have := fewG_len g
  rw [row_fewG (by omega)]
  exact (hh i u hu).imp fun b _ hb => hb.1
theorem few_one {B : Nat} {w w1 w2 w3 : World} {v v2 x : Value} {g : Graph} {k : Nat} {vs : List Value} (h : ∀ i u, vs[i]? = some u → Ints (fun b => B ≤ b ∧ some b ≠ v.ownBlock) w u ((row g i).take 20)) (hB : B ≤ w.heap.size) (hf1 : Fresh w w1)
    (hx : Ints (fun b => w.heap.size ≤ b) w1 x ((row g k).take 20)) (hf2 : Fresh w1 w2)
    (hq0 : Que w B 28 v vs) (hl : vs.length = k) (hq : Que w3 B 28 v2 (vs ++ [x])) (hg : w2.grownBy w3 v.ownBlock) (ha : v2.ownBlock = v.ownBlock ∨ v2.ownBlock = some w2.heap.size) : Few B w3 v2 g (k + 1) := by
  have hh := h
  have hf := hf1.trans hf2
  have hz := hf.size
  refine ⟨vs ++ [x], hq, by simp [hl], fun i u hu => ?_⟩
  have far : ∀ b, b < w2.heap.size → some b ≠ v.ownBlock → some b ≠ v2.ownBlock := fun b hb hne => by
    rcases ha with e | e
    · rw [e]; exact hne
    · rw [e]; intro e2; injection e2 with e3; omega
  rcases Nat.lt_or_ge i vs.length with hi | hi
  · rw [List.getElem?_append_left hi] at hu
    have h1 := ((hh i u hu).fresh hf).imp (ok' := fun b => (B ≤ b ∧ some b ≠ v.ownBlock) ∧ b < w2.heap.size) fun b hb hk => ⟨hk, hb⟩
    exact (h1.sts (fun b o y hb hy => sts_grown hg b o y hb.1.2 hy)).imp fun b _ hb => ⟨hb.1.1, far b hb.2 hb.1.2⟩
  · rw [List.getElem?_append_right hi] at hu
    have hik : i = k := by
      rcases Nat.lt_or_ge (i - vs.length) 1 with h | h
      · omega
      · rw [List.getElem?_eq_none (by simpa using h)] at hu; cases hu
    subst hik
    rw [show i - vs.length = 0 by omega] at hu
    obtain rfl : x = u := by simpa using hu
    have hne : ∀ b, w.heap.size ≤ b → some b ≠ v.ownBlock := fun b hb e => by
      have := (hq0.lt b e.symm).2
      omega
    have h1 := (hx.fresh hf2).imp (ok' := fun b => w.heap.size ≤ b ∧ b < w2.heap.size) fun b hb hk => ⟨hk, hb⟩
    exact (h1.sts (fun b o y hb hy => sts_grown hg b o y (hne b hb.1) hy)).imp fun b _ hb => ⟨by omega, far b hb.2 (hne b hb.1)⟩
theorem few_lt {B : Nat} {w : World} {v : Value} {g : Graph} {k : Nat} (h : Few B w v g k) : ∀ b, v.ownBlock = some b → B ≤ b := fun b hb => by
  obtain ⟨vs, hq, _⟩ := h.q
  exact (hq.lt b hb).1
theorem slice_one (v : Value) (h : ∃ p n c, v = .slice p n c) : v.oneCell' = true := by
  obtain ⟨p, n, c, rfl⟩ := h; rfl
/-- The step that puts a row behind the others. -/
theorem wp_few {P : Program} {B : Nat} {w w1 w2 : World} {x : Value} {g : Graph} {k : Nat} {ops : Array Oper} {rest : List Oper} {o : Oper} {a : Act} {Q : Exit → Act → World → Prop} (hgd : o.guard = none) (s z : Operand) (t : TypeId)
    (ho : o.op = .call { callee := .builtin .append, args := #[s, z], argTypes := #[t, t] })
    (i : TypeInfo) (ht : P.underlying t = some (.slice 28)) (hi : P.info? 28 = some i) (hz : i.zero = some (.slice none 0 0))
    (hsize : i.size = 1) (hby : i.bytes = 24) (v : Value) (hs : a.eval s = v) (y : Value) (hy : a.eval z = y)
    (h : Few B w v g k) (hB : B ≤ w.heap.size) (hf1 : Fresh w w1) (hx : Ints (fun b => w.heap.size ≤ b) w1 x ((row g k).take 20)) (hf2 : Fresh w1 w2) (hk : k ≤ 40)
    (hn : News w2 y [x])
    (hh : ∀ v' w', Few B w' v' g (k + 1) → w2.grownBy w' v.ownBlock → wpList P ops Q rest (a.put o.dst v') w') : wpList P ops Q (o :: rest) a w2 := by
  obtain ⟨vs, hq0, hl, hall⟩ := h.q
  have hone : x.oneCell' = true := by
    obtain ⟨p, cap, rfl, _⟩ := hx
    rfl
  have hz2 := (hf1.trans hf2).size
  refine wpList_app w2 hgd s z t ho B 28 i _ 24 ht hi hz hsize hby rfl v vs hs (hq0.fresh (hf1.trans hf2)) y [x] hy hn (by intro u hu; simp at hu; subst hu; exact hone) (by simp only [List.length_singleton, maxLen]; omega) (by simp only [List.length_singleton]; omega) (by omega) ?_
  intro v' w' hq' hg' ha'
  exact hh v' w' (few_one hall hB hf1 hx hf2 hq0 hl hq' hg' ha') hg'
set_option maxHeartbeats 4000000 in
theorem few_any {ok ok' : Nat → Prop} (v : Value) (g : Graph) (w : World) (h : Rows2 ok ok' w v g) :
    Calls Try.prog 9 #[v] w fun e w' => ∃ u, e = .returned u ∧ Rows2 (fun b => w.heap.size ≤ b) (fun b => w.heap.size ≤ b) w' u (fewG g) ∧ Fresh w w' := by
  obtain ⟨p, cap, rfl, ⟨hc, hm⟩, hh⟩ := h.form
  unfold maxLen at hm
  have HH := Lib.hid hh
  clear hh h
  obtain ⟨i0, hi0, hz0, hz1, hz2⟩ := info_parts int_info
  obtain ⟨i1, hi1, hy0, hy1, hy2⟩ := info_parts row_info
  go_enter Try.func9, Try.ntmps9
  go_wp2
  go_loopw [3, 4] (fun x s wr => ∃ k : Nat, k ≤ 40 ∧ k ≤ g.length ∧ s = .int .i64 k ∧ Hid (Few w.heap.size wr x g k) ∧ Hid (Fresh w wr)) (fun _ s _ => 40 - (intOf s).toNat)
  case atStart => exact ⟨0, by omega, by omega, rfl, Lib.hid ⟨[], Que.nil _ _ _, rfl, fun i u hu => by simp at hu⟩, Lib.hid (Fresh.refl w)⟩
  case round =>
    obtain ⟨k, hk, hkg, rfl, HQ, HF⟩ := hrel
    by_cases hlt : k < g.length
    · by_cases h40 : k < 40
      · obtain ⟨B, off, u, rfl, _, hcell, hu⟩ := HH.out k hlt
        have c0 := HF.out.sts (fun _ => True) B _ _ trivial hcell
        have hu1 := hu.fresh HF.out
        obtain ⟨q, cap', rfl, ⟨hc', hm'⟩, _⟩ := hu1.form
        unfold maxLen at hm'
        clear hcell hu
        have HU := Lib.hid hu1
        have hge := (HF.out).size
        clear hu1
        obtain ⟨l, hl⟩ : ∃ l, l = row g k := ⟨_, rfl⟩
        rw [← hl] at c0 HU hc'
        have HL := Lib.hid hl
        clear hl
        by_cases h20 : 20 < l.length
        · have HX := Lib.hid (HU.out.take 20 (by omega))
          have hl20 : (l.take 20).length = 20 := by rw [List.length_take]; omega
          have HN := Lib.hid hl20
          clear hl20
          go_wp2_with (first | (at_builtin; refine wpList_app _ rfl (.tmp 26) (.tmp 27) _ rfl wr.heap.size 3 i0 (.int .i64 0) 8 Try.underlying28 hi0 hz0 hz1 hz2 rfl _ [] rfl (Que.made _ _ _ _ (Nat.le_refl _)) _ (nums (l.take 20)) rfl (HX.out.fresh ((Fresh.refl _).alloc _ _)).news (nums_one _) (by simp only [nums_len, List.length_nil, List.length_take, maxLen]; omega) (by simp only [nums_len, List.length_nil, List.length_take]; omega) (by simp) ?_; intro v1 w1 hown1 hg1 hat1; have F1 : Hid (Fresh wr w1) := Lib.hid (((Fresh.refl wr).alloc _ _).grown hg1 (fun b hb => ((Que.made wr 3 #[] _ (Nat.le_refl _)).lt b hb).1)); have X1 : Hid (Ints (fun b => wr.heap.size ≤ b) w1 v1 ((row g k).take 20)) := Lib.hid (by rw [← HL.out]; exact hown1.row (fun b hb => (hown1.lt b hb).1)); have hs1 := F1.out.size; clear hown1 hg1 hat1; obtain ⟨q1, c1, hv1, _, _⟩ := X1.out.form; obtain ⟨m1, hm1⟩ : ∃ m1, m1 = ((row g k).take 20).length := ⟨_, rfl⟩; rw [← hm1] at hv1; clear hm1; subst hv1) | (at_builtin; refine wp_few rfl (.tmp 25) (.tmp 29) _ rfl i1 Try.underlying22 hi1 hy0 hy1 hy2 _ rfl _ rfl HQ.out hge F1.out X1.out ((Fresh.refl _).alloc _ _) hk (news_one _ _ _ _) ?_; intro v2 w2 hfew2 hg2; have Q2 := Lib.hid hfew2; have F2 : Hid (Fresh w w2) := Lib.hid ((HF.out.trans (F1.out.trans ((Fresh.refl _).alloc _ _))).grown hg2 (few_lt HQ.out)); clear hfew2 hg2))
          go_roundw
          case rel => exact ⟨k + 1, by omega, by omega, by go_num, Q2, F2⟩
          case measure => simp [intOf]; omega
        · have HX : Hid (Ints ok' wr (.slice q l.length cap') (l.take 20)) := Lib.hid (by rw [List.take_of_length_le (by omega)]; exact HU.out)
          have HN : Hid ((l.take 20).length = l.length) := Lib.hid (by rw [List.take_of_length_le (by omega)])
          go_wp2_with (first | (at_builtin; refine wpList_app _ rfl (.tmp 26) (.tmp 27) _ rfl wr.heap.size 3 i0 (.int .i64 0) 8 Try.underlying28 hi0 hz0 hz1 hz2 rfl _ [] rfl (Que.made _ _ _ _ (Nat.le_refl _)) _ (nums (l.take 20)) rfl (HX.out.fresh ((Fresh.refl _).alloc _ _)).news (nums_one _) (by simp only [nums_len, List.length_nil, List.length_take, maxLen]; omega) (by simp only [nums_len, List.length_nil, List.length_take]; omega) (by simp) ?_; intro v1 w1 hown1 hg1 hat1; have F1 : Hid (Fresh wr w1) := Lib.hid (((Fresh.refl wr).alloc _ _).grown hg1 (fun b hb => ((Que.made wr 3 #[] _ (Nat.le_refl _)).lt b hb).1)); have X1 : Hid (Ints (fun b => wr.heap.size ≤ b) w1 v1 ((row g k).take 20)) := Lib.hid (by rw [← HL.out]; exact hown1.row (fun b hb => (hown1.lt b hb).1)); have hs1 := F1.out.size; clear hown1 hg1 hat1; obtain ⟨q1, c1, hv1, _, _⟩ := X1.out.form; obtain ⟨m1, hm1⟩ : ∃ m1, m1 = ((row g k).take 20).length := ⟨_, rfl⟩; rw [← hm1] at hv1; clear hm1; subst hv1) | (at_builtin; refine wp_few rfl (.tmp 25) (.tmp 29) _ rfl i1 Try.underlying22 hi1 hy0 hy1 hy2 _ rfl _ rfl HQ.out hge F1.out X1.out ((Fresh.refl _).alloc _ _) hk (news_one _ _ _ _) ?_; intro v2 w2 hfew2 hg2; have Q2 := Lib.hid hfew2; have F2 : Hid (Fresh w w2) := Lib.hid ((HF.out.trans (F1.out.trans ((Fresh.refl _).alloc _ _))).grown hg2 (few_lt HQ.out)); clear hfew2 hg2))
          go_roundw
          case rel => exact ⟨k + 1, by omega, by omega, by go_num, Q2, F2⟩
          case measure => simp [intOf]; omega
      · have HK := Lib.hid (show k = (fewG g).length by rw [fewG_lt]; omega)
        have hd : decide ((k : Int) < 40) = false := by simp; omega
        go_wp2
        go_ret
        exact ⟨_, rfl, HQ.out.rows HK.out, HF.out⟩
    · have HK := Lib.hid (show k = (fewG g).length by rw [fewG_lt]; omega)
      have hd : decide ((k : Int) < (g.length : Int)) = false := by simp; omega
      go_wp2
      go_ret
      exact ⟨_, rfl, HQ.out.rows HK.out, HF.out⟩
end Go.Proofs.Ytlmlgdojmcmllaa
