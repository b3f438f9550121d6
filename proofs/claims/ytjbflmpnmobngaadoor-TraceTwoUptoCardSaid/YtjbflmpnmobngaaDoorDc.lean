/- Rows of events: when they are the same, which begin which. -/
import Derived.Test.YtjbflmpnmobngaaDoorDb
namespace Go.Proofs.YtjbflmpnmobngaaDoor
set_option linter.unusedSimpArgs false
set_option linter.unusedVariables false
open Go.RowKit

/-- The events of a slice: n of them. -/
def EvsAt (w : World) (p : Option Addr) (n : Nat) (f : Nat → Ev) : Prop :=
  n = 0 ∨ ∃ B off, p = some ⟨B, off, none⟩ ∧ ∀ i, i < n → (w.cell? ⟨B, off + i * 5, none⟩ = some (.string (f i).nm) ∧ w.cell? ⟨B, off + i * 5 + 1, none⟩ = some (.slice (f i).p (f i).n (f i).cap) ∧
    w.cell? ⟨B, off + i * 5 + 2, none⟩ = some (.int .i64 (f i).r.k) ∧ w.cell? ⟨B, off + i * 5 + 3, none⟩ = some (.int .u64 (f i).r.n) ∧ w.cell? ⟨B, off + i * 5 + 4, none⟩ = some (.int .i64 (f i).r.b)) ∧ (f i).okAt w
theorem EvsAt.later {w w' : World} {p : Option Addr} {n : Nat} {f : Nat → Ev} (h : EvsAt w p n f) (hf : Fresh w w') : EvsAt w' p n f := by
  rcases h with h | ⟨B, off, hp, hc⟩
  · exact Or.inl h
  · exact Or.inr ⟨B, off, hp, fun i hi => ⟨⟨hf.at' (hc i hi).1.1, hf.at' (hc i hi).1.2.1, hf.at' (hc i hi).1.2.2.1, hf.at' (hc i hi).1.2.2.2.1, hf.at' (hc i hi).1.2.2.2.2⟩, (hc i hi).2.later hf⟩⟩
theorem EvsAt.less {w : World} {p : Option Addr} {n m : Nat} {f : Nat → Ev} (h : EvsAt w p n f) (hm : m ≤ n) : EvsAt w p m f := by
  rcases h with h | ⟨B, off, hp, hc⟩
  · exact Or.inl (by omega)
  · exact Or.inr ⟨B, off, hp, fun i hi => hc i (by omega)⟩
def eqE (n m : Nat) (f g : Nat → Ev) : Bool := n == m && (List.range n).all (fun i => sameE (f i) (g i))
theorem eqE_not {n m : Nat} {f g : Nat → Ev} {i : Nat} (hi : i < n) (h : sameE (f i) (g i) = false) : eqE n m f g = false := by
  unfold eqE
  rw [Bool.and_eq_false_iff]
  right
  rw [List.all_eq_false]
  exact ⟨i, by simpa using hi, by simp [h]⟩
theorem eqE_yes {n : Nat} {f g : Nat → Ev} (h : ∀ i, i < n → sameE (f i) (g i) = true) : eqE n n f g = true := by
  unfold eqE
  simp only [BEq.rfl, Bool.true_and, List.all_eq_true, List.mem_range]
  exact h
theorem sameEvent_lit (a b : Ev) (t : Bool) (h : sameE a b = t) (w : World) (ha : a.okAt w) (hb : b.okAt w) :
    Calls Tryd.prog 10 #[.agg #[.string a.nm, .slice a.p a.n a.cap, .int .i64 a.r.k, .int .u64 a.r.n, .int .i64 a.r.b], .agg #[.string b.nm, .slice b.p b.n b.cap, .int .i64 b.r.k, .int .u64 b.r.n, .int .i64 b.r.b]] w
      fun e w' => e = .returned (.bool t) ∧ Fresh w w' := by
  subst h; exact sameEvent_any a b w ha hb
set_option maxHeartbeats 4000000 in
theorem eqEvents_any (p q : Option Addr) (n m cap cap' : Nat) (f g : Nat → Ev) (hn : n ≤ maxLen) (hm : m ≤ maxLen) (hc : n ≤ cap) (hc' : m ≤ cap') (w : World) (h1 : EvsAt w p n f) (h2 : EvsAt w q m g) :
    Calls Tryd.prog 33 #[.slice p n cap, .slice q m cap', .func (.func 10) #[] #[]] w fun e w' => e = .returned (.bool (eqE n m f g)) ∧ Fresh w w' := by
  unfold maxLen at hn hm
  by_cases hnm : n = m
  · subst hnm
    have H1 := Lib.hid h1
    have H2 := Lib.hid h2
    clear h1 h2
    go_enter Tryd.func33, Tryd.ntmps33
    go_wp2_with fail
    go_loopw [17] (fun i wr => ∃ k : Nat, k ≤ n ∧ i = .int .i64 k ∧ Hid (Fresh w wr) ∧ Hid (∀ j, j < k → sameE (f j) (g j) = true)) (fun i _ => n - (intOf i).toNat)
    case atStart => exact ⟨0, by omega, rfl, Lib.hid (Fresh.refl w), Lib.hid (fun j hj => by omega)⟩
    case round =>
      obtain ⟨k, hk, rfl, HF, HS⟩ := hrel
      by_cases hlt : k < n
      · obtain ⟨B, off, rfl, hc1⟩ := H1.out.resolve_left (by omega)
        obtain ⟨B', off', rfl, hc2⟩ := H2.out.resolve_left (by omega)
        have a0 := HF.out.at' (hc1 k hlt).1.1
        have a1 := HF.out.at' (hc1 k hlt).1.2.1
        have a2 := HF.out.at' (hc1 k hlt).1.2.2.1
        have a3 := HF.out.at' (hc1 k hlt).1.2.2.2.1
        have a4 := HF.out.at' (hc1 k hlt).1.2.2.2.2
        have b0 := HF.out.at' (hc2 k hlt).1.1
        have b1 := HF.out.at' (hc2 k hlt).1.2.1
        have b2 := HF.out.at' (hc2 k hlt).1.2.2.1
        have b3 := HF.out.at' (hc2 k hlt).1.2.2.2.1
        have b4 := HF.out.at' (hc2 k hlt).1.2.2.2.2
        have HO := Lib.hid (And.intro ((hc1 k hlt).2.later HF.out) ((hc2 k hlt).2.later HF.out))
        have HF' := HF
        have z0 := cell_lt a0
        have z1 := cell_lt b0
        simp only at z0 z1
        clear hc1 hc2
        cases hs : sameE (f k) (g k)
        · have HT := Lib.hid hs
          have HE := Lib.hid (eqE_not (n := n) (m := n) hlt hs)
          clear hs
          go_wp2_with (go_at_call 10; refine (sameEvent_lit (f k) (g k) _ HT.out _ (HO.out.1.later (by (repeat' first | with_reducible exact Fresh.refl _ | with_reducible assumption | with_reducible refine Fresh.alloc ?_ _ _ | with_reducible refine Fresh.drew ?_ | with_reducible refine Fresh.setCell ?_ ?_ _ | with_reducible refine Fresh.trans ?_ (by assumption) | (simp; done) | (simp; omega)))) (HO.out.2.later (by (repeat' first | with_reducible exact Fresh.refl _ | with_reducible assumption | with_reducible refine Fresh.alloc ?_ _ _ | with_reducible refine Fresh.drew ?_ | with_reducible refine Fresh.setCell ?_ ?_ _ | with_reducible refine Fresh.trans ?_ (by assumption) | (simp; done) | (simp; omega))))).mono ?_; rintro e w1 ⟨rfl, h1⟩)
          go_returns
          exact ⟨ret_bool HE.out, ((HF'.out.alloc _ _).alloc _ _).trans h1⟩
        · have HT := Lib.hid hs
          clear hs
          go_wp2_with (go_at_call 10; refine (sameEvent_lit (f k) (g k) _ HT.out _ (HO.out.1.later (by (repeat' first | with_reducible exact Fresh.refl _ | with_reducible assumption | with_reducible refine Fresh.alloc ?_ _ _ | with_reducible refine Fresh.drew ?_ | with_reducible refine Fresh.setCell ?_ ?_ _ | with_reducible refine Fresh.trans ?_ (by assumption) | (simp; done) | (simp; omega)))) (HO.out.2.later (by (repeat' first | with_reducible exact Fresh.refl _ | with_reducible assumption | with_reducible refine Fresh.alloc ?_ _ _ | with_reducible refine Fresh.drew ?_ | with_reducible refine Fresh.setCell ?_ ?_ _ | with_reducible refine Fresh.trans ?_ (by assumption) | (simp; done) | (simp; omega))))).mono ?_; rintro e w1 ⟨rfl, h1⟩)
          go_roundw
          case rel => exact ⟨k + 1, by omega, by go_num, Lib.hid (((HF'.out.alloc _ _).alloc _ _).trans h1), Lib.hid (fun j hj => by
            by_cases q : j = k
            · rw [q]; exact HT.out
            · exact HS.out j (by omega))⟩
          case measure => simp [intOf]; omega
      · obtain rfl : k = n := by omega
        have HE := Lib.hid (eqE_yes HS.out)
        go_wp2
        go_returns
        exact ⟨ret_bool HE.out, HF.out⟩
  · have he : eqE n m f g = false := by simp [eqE, hnm]
    have HE := Lib.hid he
    clear he
    have hne : ((n : Int) != (m : Int)) = true := by simp; omega
    go_enter Tryd.func33, Tryd.ntmps33
    go_wp2
    go_returns
    exact ⟨ret_bool HE.out, Fresh.refl _⟩
theorem eqEvents_lit (p q : Option Addr) (n m cap cap' : Nat) (f g : Nat → Ev) (t : Bool) (h : eqE n m f g = t) (hn : n ≤ maxLen) (hm : m ≤ maxLen) (hc : n ≤ cap) (hc' : m ≤ cap') (w : World) (h1 : EvsAt w p n f) (h2 : EvsAt w q m g) :
    Calls Tryd.prog 33 #[.slice p n cap, .slice q m cap', .func (.func 10) #[] #[]] w fun e w' => e = .returned (.bool t) ∧ Fresh w w' := by
  subst h; exact eqEvents_any p q n m cap cap' f g hn hm hc hc' w h1 h2
/-- The first ones. -/
def begE (n m : Nat) (f g : Nat → Ev) : Bool := decide (n ≤ m) && eqE n n f g
set_option maxHeartbeats 2000000 in
theorem begins_any (p q : Option Addr) (n m cap cap' : Nat) (f g : Nat → Ev) (hn : n ≤ maxLen) (hm : m ≤ maxLen) (hc : n ≤ cap) (hc' : m ≤ cap') (hcm : cap' ≤ maxLen) (w : World) (h1 : EvsAt w p n f) (h2 : EvsAt w q m g) :
    Calls Tryd.prog 13 #[.slice p n cap, .slice q m cap'] w fun e w' => e = .returned (.bool (begE n m f g)) ∧ Fresh w w' := by
  have H1 := Lib.hid h1
  have H2 := Lib.hid h2
  have HN := Lib.hid (And.intro hn (And.intro hm (And.intro hc hc')))
  clear h1 h2
  unfold maxLen at hn hm hcm
  by_cases hnm : n ≤ m
  · have hb : begE n m f g = eqE n n f g := by simp [begE, hnm]
    have HB := Lib.hid hb
    clear hb
    have hd : decide ((n : Int) ≤ (m : Int)) = true := by simp; omega
    go_enter Tryd.func13, Tryd.ntmps13
    go_wp2_with (go_at_call 33; refine (eqEvents_any p _ n n cap _ f g HN.out.1 HN.out.1 HN.out.2.2.1 (by omega) _ H1.out (H2.out.less hnm)).mono ?_; rintro e w1 ⟨rfl, h1⟩)
    go_returns
    exact ⟨ret_bool HB.out, h1⟩
  · have hb : begE n m f g = false := by simp [begE, hnm]
    have HB := Lib.hid hb
    clear hb
    have hd : decide ((n : Int) ≤ (m : Int)) = false := by simp; omega
    go_enter Tryd.func13, Tryd.ntmps13
    go_wp2
    go_returns
    exact ⟨ret_bool HB.out, Fresh.refl _⟩
end Go.Proofs.YtjbflmpnmobngaaDoor
