/- What calls leave behind; rows of values and of events in memory; when they are the same. -/
import Derived.Test.YtjbflmpnmobngaaDoorRows
import Derived.Handy
import Derived.WalkLawsBesides
import Derived.WalkSpells
import Derived.Deep.Light
import Derived.Lib.Hide
import Derived.LoopTactic
namespace Go.Proofs.YtjbflmpnmobngaaDoor
set_option linter.unusedSimpArgs false
set_option linter.unusedVariables false
open Go.RowKit

/-- Nothing that was there has turned; what was laid since is not frozen. -/
structure Fresh (w w' : World) : Prop where
  below : Below w.heap.size w w'
  froz : ∀ a, w'.frozen? a = w.frozen? a
theorem Fresh.refl (w : World) : Fresh w w := ⟨Below.refl _ _, fun _ => rfl⟩
theorem Fresh.trans {a b c : World} (h : Fresh a b) (k : Fresh b c) : Fresh a c :=
  ⟨h.below.trans (k.below.mono h.below.size), fun x => (k.froz x).trans (h.froz x)⟩
theorem Fresh.alloc {a w : World} (h : Fresh a w) (c : Array Value) (t : TypeId) : Fresh a (w.alloc (.cells c t)) :=
  ⟨h.below.alloc h.below.size _, fun x => (((Grown.refl w).alloc c t).2.1 x).trans (h.froz x)⟩
theorem Fresh.setCell {a w : World} (h : Fresh a w) {p : Addr} (hp : a.heap.size ≤ p.block) (v : Value) : Fresh a (w.setCell p v) :=
  ⟨h.below.setCell hp v, fun x => by rw [← h.froz x]; simp [go_sem]⟩
theorem Fresh.drew {a w : World} (h : Fresh a w) : Fresh a w.drew := ⟨h.below.drew, fun x => h.froz x⟩
theorem Fresh.size {a w : World} (h : Fresh a w) : a.heap.size ≤ w.heap.size := h.below.size
theorem Fresh.z {X w1 : World} (h : Fresh X w1) {n : Nat} (hn : n < X.heap.size) : n < w1.heap.size := Nat.lt_of_lt_of_le hn h.size
theorem Fresh.cells {W w1 : World} (hb : Fresh W w1) : (∀ b o, b < W.heap.size → w1.cell? ⟨b, o, none⟩ = W.cell? ⟨b, o, none⟩) ∧ (∀ b o, w1.frozen? ⟨b, o, none⟩ = W.frozen? ⟨b, o, none⟩) :=
  ⟨fun b o h => hb.below.cell (p := ⟨b, o, none⟩) h, fun b o => hb.froz ⟨b, o, none⟩⟩
theorem cell_lt {w : World} {a : Addr} {v : Value} (h : w.cell? a = some v) : a.block < w.heap.size := by
  by_cases hh : a.block < w.heap.size
  · exact hh
  · have : w.heap[a.block]? = none := Array.getElem?_eq_none (by omega)
    simp [World.cell?, this] at h
theorem Fresh.at' {W w1 : World} (h : Fresh W w1) {B i : Nat} {v : Value} (hv : W.cell? ⟨B, i, none⟩ = some v) : w1.cell? ⟨B, i, none⟩ = some v := by rw [h.cells.1 B i (cell_lt hv), hv]
theorem ret_bool {a b : Bool} (h : b = a) : Ending.returned (.bool a) = Ending.returned (.bool b) := by rw [h]

/-- A value's three numbers. -/
structure V3 where
  k : Int
  n : Int
  b : Int
deriving DecidableEq
def V3.agg (v : V3) : Value := .agg #[.int .i64 v.k, .int .u64 v.n, .int .i64 v.b]
def sameV (a b : V3) : Bool := a.k == b.k && (a.n == b.n && a.b == b.b)
theorem sameV_iff (a b : V3) : sameV a b = true ↔ a = b := by
  cases a; cases b; simp [sameV]
theorem same_any (a b : V3) (w : World) :
    Calls Tryd.prog 24 #[a.agg, b.agg] w fun e w' => e = .returned (.bool (sameV a b)) ∧ Fresh w w' := by
  obtain ⟨k, n, b1⟩ := a
  obtain ⟨k', n', b1'⟩ := b
  unfold V3.agg
  go_enter Tryd.func24, Tryd.ntmps24
  go_wp2
  all_goals (go_returns; go_light)
  all_goals exact ⟨ret_bool (by simp_all [sameV]), ((Fresh.refl _).alloc _ _).alloc _ _⟩
theorem same_lit (a b : V3) (t : Bool) (h : sameV a b = t) (w : World) :
    Calls Tryd.prog 24 #[.agg #[.int .i64 a.k, .int .u64 a.n, .int .i64 a.b], .agg #[.int .i64 b.k, .int .u64 b.n, .int .i64 b.b]] w fun e w' => e = .returned (.bool t) ∧ Fresh w w' := by
  subst h; exact same_any a b w
/-- The values of a slice: n of them. -/
def ValsAt (w : World) (p : Option Addr) (n : Nat) (f : Nat → V3) : Prop :=
  n = 0 ∨ ∃ B off, p = some ⟨B, off, none⟩ ∧ ∀ i, i < n → w.cell? ⟨B, off + i * 3, none⟩ = some (.int .i64 (f i).k) ∧ w.cell? ⟨B, off + i * 3 + 1, none⟩ = some (.int .u64 (f i).n) ∧ w.cell? ⟨B, off + i * 3 + 2, none⟩ = some (.int .i64 (f i).b)
theorem ValsAt.later {w w' : World} {p : Option Addr} {n : Nat} {f : Nat → V3} (h : ValsAt w p n f) (hf : Fresh w w') : ValsAt w' p n f := by
  rcases h with h | ⟨B, off, hp, hc⟩
  · exact Or.inl h
  · exact Or.inr ⟨B, off, hp, fun i hi => ⟨hf.at' (hc i hi).1, hf.at' (hc i hi).2.1, hf.at' (hc i hi).2.2⟩⟩
def eqV (n m : Nat) (f g : Nat → V3) : Bool := n == m && (List.range n).all (fun i => sameV (f i) (g i))
theorem eqV_not {n m : Nat} {f g : Nat → V3} {i : Nat} (hi : i < n) (h : sameV (f i) (g i) = false) : eqV n m f g = false := by
  unfold eqV
  rw [Bool.and_eq_false_iff]
  right
  rw [List.all_eq_false]
  exact ⟨i, by simpa using hi, by simp [h]⟩
theorem eqV_yes {n : Nat} {f g : Nat → V3} (h : ∀ i, i < n → sameV (f i) (g i) = true) : eqV n n f g = true := by
  unfold eqV
  simp only [BEq.rfl, Bool.true_and, List.all_eq_true, List.mem_range]
  exact h
set_option maxHeartbeats 2000000 in
theorem eqVals_any (p q : Option Addr) (n m cap cap' : Nat) (f g : Nat → V3) (hn : n ≤ maxLen) (hm : m ≤ maxLen) (hc : n ≤ cap) (hc' : m ≤ cap') (w : World) (h1 : ValsAt w p n f) (h2 : ValsAt w q m g) :
    Calls Tryd.prog 25 #[.slice p n cap, .slice q m cap', .func (.func 24) #[] #[]] w fun e w' => e = .returned (.bool (eqV n m f g)) ∧ Fresh w w' := by
  unfold maxLen at hn hm
  by_cases hnm : n = m
  · subst hnm
    have H1 := Lib.hid h1
    have H2 := Lib.hid h2
    clear h1 h2
    go_enter Tryd.func25, Tryd.ntmps25
    go_wp2_with fail
    go_loopw [17] (fun i wr => ∃ k : Nat, k ≤ n ∧ i = .int .i64 k ∧ Hid (Fresh w wr) ∧ Hid (∀ j, j < k → sameV (f j) (g j) = true)) (fun i _ => n - (intOf i).toNat)
    case atStart => exact ⟨0, by omega, rfl, Lib.hid (Fresh.refl w), Lib.hid (fun j hj => by omega)⟩
    case round =>
      obtain ⟨k, hk, rfl, HF, HS⟩ := hrel
      by_cases hlt : k < n
      · obtain ⟨B, off, rfl, hc1⟩ := H1.out.resolve_left (by omega)
        obtain ⟨B', off', rfl, hc2⟩ := H2.out.resolve_left (by omega)
        have a0 := HF.out.at' (hc1 k hlt).1
        have a1 := HF.out.at' (hc1 k hlt).2.1
        have a2 := HF.out.at' (hc1 k hlt).2.2
        have b0 := HF.out.at' (hc2 k hlt).1
        have b1 := HF.out.at' (hc2 k hlt).2.1
        have b2 := HF.out.at' (hc2 k hlt).2.2
        have HF' := HF
        have z0 := cell_lt a0
        have z1 := cell_lt b0
        simp only at z0 z1
        clear hc1 hc2
        cases hs : sameV (f k) (g k)
        · have HT := Lib.hid hs
          have HE := Lib.hid (eqV_not (n := n) (m := n) hlt hs)
          clear hs
          go_wp2_with (go_at_call 24; refine (same_lit _ _ _ HT.out _).mono ?_; rintro e w1 ⟨rfl, h1⟩)
          go_returns
          exact ⟨ret_bool HE.out, ((HF'.out.alloc _ _).alloc _ _).trans h1⟩
        · have HT := Lib.hid hs
          clear hs
          go_wp2_with (go_at_call 24; refine (same_lit _ _ _ HT.out _).mono ?_; rintro e w1 ⟨rfl, h1⟩)
          go_roundw
          case rel => exact ⟨k + 1, by omega, by go_num, Lib.hid (((HF'.out.alloc _ _).alloc _ _).trans h1), Lib.hid (fun j hj => by
            by_cases q : j = k
            · rw [q]; exact HT.out
            · exact HS.out j (by omega))⟩
          case measure => simp [intOf]; omega
      · obtain rfl : k = n := by omega
        have HE := Lib.hid (eqV_yes HS.out)
        go_wp2
        go_returns
        exact ⟨ret_bool HE.out, HF.out⟩
  · have he : eqV n m f g = false := by simp [eqV, hnm]
    have HE := Lib.hid he
    clear he
    have hne : ((n : Int) != (m : Int)) = true := by simp; omega
    go_enter Tryd.func25, Tryd.ntmps25
    go_wp2
    go_returns
    exact ⟨ret_bool HE.out, Fresh.refl _⟩
end Go.Proofs.YtjbflmpnmobngaaDoor
