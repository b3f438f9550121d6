/- What fits a Sig; a row of values of the call's own. -/
import Derived.Test.YtjbflmpnmobngaaDoorDe
import Derived.Test.YtjbflmpnmobngaaDoorTb
import Derived.Test.YtjbflmpnmobngaaDoorTc
import Derived.Deep.DeepAppendWide
namespace Go.Proofs.YtjbflmpnmobngaaDoor
set_option linter.unusedSimpArgs false
set_option linter.unusedVariables false
open Go.RowKit

theorem ValsAt.below {w w' : World} {p : Option Addr} {n : Nat} {f : Nat → V3} (h : ValsAt w p n f) (k : Below w.heap.size w w') : ValsAt w' p n f := by
  rcases h with h | ⟨B, off, hp, hc⟩
  · exact Or.inl h
  · exact Or.inr ⟨B, off, hp, fun i hi => ⟨stays_below k _ _ _ (hc i hi).1, stays_below k _ _ _ (hc i hi).2.1, stays_below k _ _ _ (hc i hi).2.2⟩⟩
theorem NumsAt.below {w w' : World} {p : Option Addr} {n : Nat} {f : Nat → Int} (h : NumsAt w p n f) (k : Below w.heap.size w w') : NumsAt w' p n f := by
  rcases h with h | ⟨B, off, hp, hc⟩
  · exact Or.inl h
  · exact Or.inr ⟨B, off, hp, fun i hi => stays_below k _ _ _ (hc i hi)⟩
/-- A value of the kind. -/
def okKind (v : V3) (kd : Int) : Bool := v.k == kd && (kd == 1 || (kd == 2 || kd == 3))
theorem isOf_any (v : V3) (kd : Int) (w : World) : Calls Tryd.prog 22 #[.agg #[.int .i64 v.k, .int .u64 v.n, .int .i64 v.b], .int .i64 kd] w fun e w' => e = .returned (.bool (okKind v kd)) ∧ Fresh w w' := by
  obtain ⟨k, n, b⟩ := v
  go_enter Tryd.func22, Tryd.ntmps22
  go_wp2
  all_goals go_returns
  all_goals exact ⟨ret_bool (by simp_all [okKind, Bool.or_assoc]), (Fresh.refl _).alloc _ _⟩
def fitsV (n m : Nat) (f : Nat → V3) (g : Nat → Int) : Bool := n == m && (List.range n).all (fun i => okKind (f i) (g i))
theorem fitsV_not {n m : Nat} {f : Nat → V3} {g : Nat → Int} {i : Nat} (hi : i < n) (h : okKind (f i) (g i) = false) : fitsV n m f g = false := by
  unfold fitsV
  rw [Bool.and_eq_false_iff]
  right
  rw [List.all_eq_false]
  exact ⟨i, by simpa using hi, by simp [h]⟩
theorem fitsV_yes {n : Nat} {f : Nat → V3} {g : Nat → Int} (h : ∀ i, i < n → okKind (f i) (g i) = true) : fitsV n n f g = true := by
  unfold fitsV
  simp only [BEq.rfl, Bool.true_and, List.all_eq_true, List.mem_range]
  exact h
theorem isOf_lit (v : V3) (kd : Int) (t : Bool) (h : okKind v kd = t) (w : World) : Calls Tryd.prog 22 #[.agg #[.int .i64 v.k, .int .u64 v.n, .int .i64 v.b], .int .i64 kd] w fun e w' => e = .returned (.bool t) ∧ Fresh w w' := by
  subst h; exact isOf_any v kd w
set_option maxHeartbeats 2000000 in
theorem eqKinds_any (p q : Option Addr) (n m cap cap' : Nat) (f : Nat → V3) (g : Nat → Int) (hn : n ≤ maxLen) (hm : m ≤ maxLen) (hc : n ≤ cap) (hc' : m ≤ cap') (w : World) (h1 : ValsAt w p n f) (h2 : NumsAt w q m g) :
    Calls Tryd.prog 21 #[.slice p n cap, .slice q m cap', .func (.func 22) #[] #[]] w fun e w' => e = .returned (.bool (fitsV n m f g)) ∧ Fresh w w' := by
  unfold maxLen at hn hm
  by_cases hnm : n = m
  · subst hnm
    have H1 := Lib.hid h1
    have H2 := Lib.hid h2
    clear h1 h2
    go_enter Tryd.func21, Tryd.ntmps21
    go_wp2_with fail
    go_loopw [17] (fun i wr => ∃ k : Nat, k ≤ n ∧ i = .int .i64 k ∧ Hid (Fresh w wr) ∧ Hid (∀ j, j < k → okKind (f j) (g j) = true)) (fun i _ => n - (intOf i).toNat)
    case atStart => exact ⟨0, by omega, rfl, Lib.hid (Fresh.refl w), Lib.hid (fun j hj => by omega)⟩
    case round =>
      obtain ⟨k, hk, rfl, HF, HS⟩ := hrel
      by_cases hlt : k < n
      · obtain ⟨B, off, rfl, hc1⟩ := H1.out.resolve_left (by omega)
        obtain ⟨B', off', rfl, hc2⟩ := H2.out.resolve_left (by omega)
        have a0 := HF.out.at' (hc1 k hlt).1
        have a1 := HF.out.at' (hc1 k hlt).2.1
        have a2 := HF.out.at' (hc1 k hlt).2.2
        have b0 := HF.out.at' (hc2 k hlt)
        have HF' := HF
        have z0 := cell_lt a0
        have z1 := cell_lt b0
        simp only at z0 z1
        clear hc1 hc2
        cases hs : okKind (f k) (g k)
        · have HT := Lib.hid hs
          have HE := Lib.hid (fitsV_not (n := n) (m := n) hlt hs)
          clear hs
          go_wp2_with (go_at_call 22; refine (isOf_lit _ _ _ HT.out _).mono ?_; rintro e w1 ⟨rfl, h1⟩)
          go_returns
          exact ⟨ret_bool HE.out, ((HF'.out.alloc _ _)).trans h1⟩
        · have HT := Lib.hid hs
          clear hs
          go_wp2_with (go_at_call 22; refine (isOf_lit _ _ _ HT.out _).mono ?_; rintro e w1 ⟨rfl, h1⟩)
          go_roundw
          case rel => exact ⟨k + 1, by omega, by go_num, Lib.hid (((HF'.out.alloc _ _)).trans h1), Lib.hid (fun j hj => by
            by_cases q : j = k
            · rw [q]; exact HT.out
            · exact HS.out j (by omega))⟩
          case measure => simp [intOf]; omega
      · obtain rfl : k = n := by omega
        have HE := Lib.hid (fitsV_yes HS.out)
        go_wp2
        go_returns
        exact ⟨ret_bool HE.out, HF.out⟩
  · have he : fitsV n m f g = false := by simp [fitsV, hnm]
    have HE := Lib.hid he
    clear he
    have hne : ((n : Int) != (m : Int)) = true := by simp; omega
    go_enter Tryd.func21, Tryd.ntmps21
    go_wp2
    go_returns
    exact ⟨ret_bool HE.out, Fresh.refl _⟩
/-- The cells of some values. -/
def rowV (f : Nat → V3) (n : Nat) : List Value := (List.range n).flatMap (fun i => [.int .i64 (f i).k, .int .u64 (f i).n, .int .i64 (f i).b])
theorem rowV_succ (f : Nat → V3) (n : Nat) : rowV f (n + 1) = rowV f n ++ [.int .i64 (f n).k, .int .u64 (f n).n, .int .i64 (f n).b] := by
  unfold rowV
  rw [List.range_succ, List.flatMap_append]
  simp
theorem rowV_len (f : Nat → V3) : ∀ n, (rowV f n).length = n * 3
  | 0 => rfl
  | n + 1 => by rw [rowV_succ, List.length_append, rowV_len f n]; simp; omega
theorem rowV_get (f : Nat → V3) : ∀ n i, i < n → (rowV f n)[i * 3]? = some (.int .i64 (f i).k) ∧ (rowV f n)[i * 3 + 1]? = some (.int .u64 (f i).n) ∧ (rowV f n)[i * 3 + 2]? = some (.int .i64 (f i).b)
  | 0, i, h => by omega
  | n + 1, i, h => by
    rw [rowV_succ]
    have hl := rowV_len f n
    by_cases e : i < n
    · rw [List.getElem?_append_left (by omega), List.getElem?_append_left (by omega), List.getElem?_append_left (by omega)]
      exact rowV_get f n i e
    · obtain rfl : i = n := by omega
      rw [List.getElem?_append_right (by omega), List.getElem?_append_right (by omega), List.getElem?_append_right (by omega), hl]
      refine ⟨?_, ?_, ?_⟩
      · rw [show i * 3 - i * 3 = 0 by omega]; rfl
      · rw [show i * 3 + 1 - i * 3 = 1 by omega]; rfl
      · rw [show i * 3 + 2 - i * 3 = 2 by omega]; rfl
theorem rowV_cells {f : Nat → V3} {n j : Nat} {u : Value} (h : (rowV f n)[j]? = some u) : ∃ i, i < n ∧ (u = .int .i64 (f i).k ∧ j = i * 3 ∨ u = .int .u64 (f i).n ∧ j = i * 3 + 1 ∨ u = .int .i64 (f i).b ∧ j = i * 3 + 2) := by
  have hj : j < n * 3 := by
    have := (List.getElem?_eq_some_iff.1 h).1
    rwa [rowV_len] at this
  have hi : j / 3 < n := by omega
  obtain ⟨e0, e1, e2⟩ := rowV_get f n (j / 3) hi
  refine ⟨j / 3, hi, ?_⟩
  have hm : j = j / 3 * 3 ∨ j = j / 3 * 3 + 1 ∨ j = j / 3 * 3 + 2 := by omega
  rcases hm with hm | hm | hm
  · rw [← hm, h] at e0
    exact Or.inl ⟨Option.some.inj e0, hm⟩
  · rw [← hm, h] at e1
    exact Or.inr (Or.inl ⟨Option.some.inj e1, hm⟩)
  · rw [← hm, h] at e2
    exact Or.inr (Or.inr ⟨Option.some.inj e2, hm⟩)
theorem rowV_one {f : Nat → V3} {n : Nat} : ∀ u ∈ rowV f n, u.oneCell' = true := by
  intro u hu
  obtain ⟨j, hj⟩ := List.getElem?_of_mem hu
  obtain ⟨i, -, h⟩ := rowV_cells hj
  rcases h with ⟨rfl, -⟩ | ⟨rfl, -⟩ | ⟨rfl, -⟩ <;> rfl
theorem ValsAt.news {w : World} {ad : Addr} {n : Nat} {f : Nat → V3} (h : ValsAt w (some ad) n f) : ∀ j u, (rowV f n)[j]? = some u → w.cell? (ad.add j) = some u := by
  intro j u hu
  obtain ⟨i, hi, hc⟩ := rowV_cells hu
  obtain ⟨B, off, e, hx⟩ := h.resolve_left (by omega)
  cases e
  obtain ⟨c0, c1, c2⟩ := hx i hi
  rw [Go.WideShapes.add_plain]
  rcases hc with ⟨rfl, rfl⟩ | ⟨rfl, rfl⟩ | ⟨rfl, rfl⟩
  · exact c0
  · exact c1
  · exact c2
/-- Values of the call's own. -/
def OutAt (N : Nat) (w : World) (p : Option Addr) (n cap : Nat) (f : Nat → V3) : Prop := ValsAt w p n f ∧ n ≤ cap ∧ cap ≤ maxLen ∧ ∀ a, p = some a → N ≤ a.block ∧ a.block < w.heap.size
theorem OutAt.of_own {N : Nat} {w : World} {p : Option Addr} {n cap : Nat} {f : Nat → V3} (h : w.ownsRow N 30 3 (.slice p n cap) n (rowV f n)) : OutAt N w p n cap f := by
  rcases h.2 with ⟨e, h0⟩ | ⟨g, c, cur, e, hb, -, h1, h2, -⟩
  · cases e
    exact ⟨Or.inl rfl, Nat.le_refl _, Nat.zero_le _, fun a ha => by cases ha⟩
  · cases e
    refine ⟨Or.inr ⟨g, 0, rfl, fun i hi => ?_⟩, h1, h2, fun a ha => by cases ha; exact h.lt g rfl⟩
    obtain ⟨e0, e1, e2⟩ := rowV_get f n i hi
    rw [Nat.zero_add]
    exact ⟨by rw [h.cellAt _ (by omega), e0], by rw [h.cellAt _ (by omega), e1], by rw [h.cellAt _ (by omega), e2]⟩
theorem OutAt.below {N : Nat} {w w' : World} {p : Option Addr} {n cap : Nat} {f : Nat → V3} (h : OutAt N w p n cap f) (k : Below w.heap.size w w') : OutAt N w' p n cap f :=
  ⟨h.1.below k, h.2.1, h.2.2.1, fun a ha => ⟨(h.2.2.2 a ha).1, Nat.lt_of_lt_of_le (h.2.2.2 a ha).2 k.size⟩⟩
theorem OutAt.set {N : Nat} {w : World} {p : Option Addr} {n cap : Nat} {f : Nat → V3} (h : OutAt N w p n cap f) {g : Nat} (hg : g < N) (i : Nat) (v : Value) : OutAt N (w.setCell ⟨g, i, none⟩ v) p n cap f := by
  refine ⟨?_, h.2.1, h.2.2.1, fun a ha => by simpa [World.setCell] using h.2.2.2 a ha⟩
  rcases h.1 with h0 | ⟨B, off, hp, hc⟩
  · exact Or.inl h0
  · have hB : N ≤ B := (h.2.2.2 _ hp).1
    have ne : ∀ k u, w.cell? ⟨B, k, none⟩ = some u → (w.setCell ⟨g, i, none⟩ v).cell? ⟨B, k, none⟩ = some u := fun k u hu => by
      rw [← hu]
      exact World.cell?_setCell_other _ _ _ _ (fun e => by have e' : g = B := congrArg Addr.block e; omega)
    exact Or.inr ⟨B, off, hp, fun k hk => ⟨ne _ _ (hc k hk).1, ne _ _ (hc k hk).2.1, ne _ _ (hc k hk).2.2⟩⟩
theorem info30' : (Tryd.prog.info? 30).map (fun i => (i.zero, i.size, i.bytes)) = some (some (.agg #[.int .i64 0, .int .u64 0, .int .i64 0]), 3, 24) := by kernel_rfl
theorem nil25' (V : Addr) (n vc : Nat) (w : World) : (binOp .eql 25 (.slice (some V) n vc) (.slice none 0 0)).run Tryd.prog w = .ok (.bool false) w := by kernel_rfl
set_option maxRecDepth 100000 in
set_option maxHeartbeats 2000000 in
theorem clone_any (ad : Addr) (n cap : Nat) (f : Nat → V3) (hc : n ≤ cap) (hm : cap ≤ maxLen) (hb : n ≤ 5864062014805) (w : World) (h : ValsAt w (some ad) n f) :
    Calls Tryd.prog 23 #[.slice (some ad) n cap] w fun e w' => ∃ p' cap', e = .returned (.slice p' n cap') ∧ OutAt w.heap.size w' p' n cap' f ∧ Below w.heap.size w w' := by
  obtain ⟨i0, hi, hz0, hz1, hz2⟩ := info_parts info30'
  have HM := Lib.hid hm
  have HV := Lib.hid h
  clear hm h
  have hnl := nil25' ad n cap w
  go_enter Tryd.func23, Tryd.ntmps23
  have hf : Fresh w (w.alloc (.cells #[] 30)) := (Fresh.refl w).alloc _ _
  have hown : (w.alloc (.cells #[] 30)).ownsRow w.heap.size 30 3 (.slice (some ⟨w.heap.size, 0, none⟩) 0 0) 0 [] := World.ownsRow_lit w #[] 0 (Nat.le_refl _) (by decide) (by decide)
  go_wp2_with (at_builtin; refine wpList_append_own_wide _ rfl _ _ 25 rfl w.heap.size 30 i0 (.agg #[.int .i64 0, .int .u64 0, .int .i64 0]) 3 24 Tryd.underlying25 hi hz0 hz1 hz2 rfl (by decide) _ _ _ rfl hown ad n cap (rowV f n) rfl (rowV_len f n) ?c1 ?c2 ?c3 ?c4 ?c5 ?_)
  case c1 => exact (HV.out.later hf).news
  case c2 => exact rowV_one
  case c3 => have := HM.out; omega
  case c4 => omega
  case c5 => simp
  intro v' w2 hown' hgrow _
  obtain ⟨p', cap', rfl⟩ : ∃ p' cap', v' = .slice p' n cap' := by
    rcases hown'.2 with ⟨e, h0⟩ | ⟨g, cap, cur, hv, _⟩
    · exact ⟨none, 0, by rw [e, h0]⟩
    · exact ⟨_, _, hv⟩
  have H := Lib.hid (And.intro (OutAt.of_own hown') (hf.below.grown hgrow (by simp) (fun k hk => (hown.lt k hk).1)))
  go_wp2
  go_ret
  exact ⟨p', cap', rfl, H.out⟩
end Go.Proofs.YtjbflmpnmobngaaDoor
