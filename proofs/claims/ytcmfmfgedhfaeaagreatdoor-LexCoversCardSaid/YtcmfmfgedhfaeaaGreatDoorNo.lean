/- Where an error stands; a row of bytes of the call's own; the tokens' row under way. -/
import Derived.Test.YtcmfmfgedhfaeaaGreatDoorNl
import Derived.Test.YtcmfmfgedhfaeaaGreatDoorNg
import Derived.Test.YtcmfmfgedhfaeaaGreatDoorLt
import Derived.Lib.OthersKept
namespace Go.Proofs.YtcmfmfgedhfaeaaGreatDoor
set_option linter.unusedSimpArgs false
set_option linter.unusedVariables false
open Go.RowKit

theorem behZ_co1 (l c r : Int) (h : 1 ≤ c) : 1 ≤ (behZ l c r).2 := by
  unfold behZ
  split
  · simp
  · simp only; omega
theorem pcs_col : ∀ (n : Nat) (x : List UInt8), x.length ≤ n → ∀ sk l c le ce e, 1 ≤ c → pcs x sk l c = .err le ce e → 1 ≤ ce
  | n, [], h, sk, l, c, le, ce, e, hl, hp => by rw [pcs_nil] at hp; cases hp
  | 0, a :: x, h, _, _, _, _, _, _, _, _ => by simp at h
  | n + 1, a :: x0, h, sk, l, c, le, ce, e, hl, hp => by
    have hx : a :: x0 ≠ [] := by simp
    have hw := decL_w _ hx
    have hd : ((a :: x0).drop (Lib.decodeL (a :: x0)).2).length = (a :: x0).length - (Lib.decodeL (a :: x0)).2 := List.length_drop
    rw [pcs_cons _ hx] at hp
    split at hp
    · cases hpc : pieceL (a :: x0) with
      | err e' =>
        rw [hpc] at hp
        simp only [stepL, TR.err.injEq] at hp
        obtain ⟨rfl, rfl, rfl⟩ := hp
        exact hl
      | tok k n' b d =>
        rw [hpc] at hp
        simp only [stepL] at hp
        cases hr : pcs ((a :: x0).drop (Lib.decodeL (a :: x0)).2) (((a :: x0).take n').length - (Lib.decodeL (a :: x0)).2) (behZ l c (Lib.decodeL (a :: x0)).1).1 (behZ l c (Lib.decodeL (a :: x0)).1).2 with
        | ok _ => rw [hr] at hp; simp [TR.app] at hp
        | err l' c' e' =>
          rw [hr] at hp
          simp only [TR.app, TR.err.injEq] at hp
          obtain ⟨rfl, rfl, rfl⟩ := hp
          exact pcs_col n _ (by simp only [List.length_cons] at *; omega) _ _ _ _ _ _ (behZ_co1 _ _ _ hl) hr
    · exact pcs_col n _ (by simp only [List.length_cons] at *; omega) _ _ _ _ _ _ (behZ_co1 _ _ _ hl) hp
/-- An error is told with the place where it stands, or is of the first kind. -/
theorem tok_place (s : ByteArray) (l c x : Int) (h : tokensF s = .err l c x) : x = 1 ∨ ((x = 2 ∨ x = 7) ∧ 1 ≤ l ∧ 1 ≤ c) := by
  rcases Nat.lt_or_ge 1048576 s.size with h1 | h1
  · unfold tokensF at h; rw [if_pos h1] at h; cases h; exact Or.inl rfl
  · rw [tokensF_L s h1] at h
    cases hb : brk s.data.toList 1 1 with
    | some p => rw [hb] at h; cases h; exact Or.inl rfl
    | none =>
      rw [hb] at h
      obtain ⟨a, b⟩ := pcs_line _ _ (Nat.le_refl _) _ _ _ _ _ _ (Int.le_refl _) h
      exact Or.inr ⟨b, a, pcs_col _ _ (Nat.le_refl _) _ _ _ _ _ _ (Int.le_refl _) h⟩
theorem sizeB (a : ByteArray) : a.size = a.data.toList.length := by rw [Array.length_toList]; rfl
/-- A block of cells of this type. -/
def Box (w : World) (c : Nat) (t : TypeId) (cs : Array Value) : Prop := w.heap[c]? = some (.cells cs t (0, 0))
theorem Box.new (w : World) (cs : Array Value) (t : TypeId) : Box (w.alloc (.cells cs t)) w.heap.size t cs := heap_alloc_new w _
theorem Box.lt {w : World} {c : Nat} {t : TypeId} {cs : Array Value} (h : Box w c t cs) : c < w.heap.size := (Array.getElem?_eq_some_iff.1 h).1
theorem Box.later {w w' : World} {c : Nat} {t : TypeId} {cs : Array Value} (h : Box w c t cs) (hf : Below w.heap.size w w') : Box w' c t cs := (hf.block c h.lt).trans h
theorem own_belowT {w w' : World} (k : Below w.heap.size w w') {base : Nat} {e : TypeId} {size : Nat} {v : Value} {n : Nat} {xs : List Value} (h : w.ownsRow base e size v n xs) : w'.ownsRow base e size v n xs :=
  h.kept (row := none) ⟨k.os, k.tape, k.output, k.size, fun i hi _ => k.block i hi⟩ (by cases hv : v.ownBlock <;> simp)
/-- A row of bytes of the call's own. -/
structure Rw (w X : World) (v : Value) (l : List UInt8) : Prop where
  own : X.ownsRow w.heap.size 5 1 v l.length (Lib.byteCells l)
  f : Fresh w X
theorem Rw.nil (w X : World) (h : Fresh w X) : Rw w X (.slice none 0 0) [] := ⟨World.ownsRow_nil .., h⟩
theorem Rw.later {w X Y : World} {v : Value} {l : List UInt8} (h : Rw w X v l) (k : Fresh X Y) : Rw w Y v l := ⟨own_belowT k.below h.own, h.f.trans k⟩
theorem Rw.grown {w X Y : World} {v : Value} {l : List UInt8} (h : Rw w X v l) (hg : X.grownBy Y v.ownBlock) : Fresh w Y :=
  ⟨h.f.below.trans ((Kp.grown (R := w.heap.size) (b := w.heap.size) hg (fun g hg => (h.own.lt g hg).1) h.f.size).below (Nat.le_refl _) (Nat.le_refl _) h.f.size)⟩
/-- What is no row of bytes stays. -/
def Keeps (X Y : World) : Prop := ∀ c t cs, t ≠ 5 → Box X c t cs → Box Y c t cs
theorem Keeps.trans {X Y Z : World} (h : Keeps X Y) (k : Keeps Y Z) : Keeps X Z := fun c t cs ht hb => k c t cs ht (h c t cs ht hb)
theorem Keeps.fresh {X Y : World} (h : Fresh X Y) : Keeps X Y := fun c t cs ht hb => hb.later h.below
theorem Rw.not_box {w X : World} {v : Value} {l : List UInt8} (h : Rw w X v l) {c : Nat} {t : TypeId} {cs : Array Value} (ht : t ≠ 5) (hb : Box X c t cs) : v.ownBlock ≠ some c := fun e => by
  rcases h.own.2 with ⟨rfl, _⟩ | ⟨g, cap, cur, rfl, -, hh, -⟩
  · cases e
  · obtain rfl : g = c := Option.some.inj e
    have h2 : X.heap[g]? = some (.cells cs t (0, 0)) := hb
    rw [hh] at h2
    injection h2 with h2
    injection h2 with _ h3
    exact ht h3.symm
theorem Rw.keeps {w X Y : World} {v : Value} {l : List UInt8} (h : Rw w X v l) (hg : X.grownBy Y v.ownBlock) : Keeps X Y := fun c t cs ht hb =>
  (hg.block c hb.lt (fun e => h.not_box ht hb e.symm)).trans hb
/-- A store into a block of another type. -/
theorem Rw.set {w X : World} {v : Value} {l : List UInt8} (h : Rw w X v l) {c : Nat} {t : TypeId} {cs : Array Value} (ht : t ≠ 5) (hb : Box X c t cs) (hc : w.heap.size ≤ c) (o : Nat) (u : Value) : Rw w (X.setCell ⟨c, o, none⟩ u) v l :=
  ⟨h.own.kept (row := some c) ⟨rfl, rfl, rfl, by simp [World.setCell], fun k _ hk => Below.heap_setCell _ _ _ _ (fun e => hk (by simp [e]))⟩ (Or.inr (h.not_box ht hb)), h.f.setCell hc _⟩
theorem Box.put {X : World} {c : Nat} {t : TypeId} {cs : Array Value} (hb : Box X c t cs) (o : Nat) (u : Value) : Box (X.setCell ⟨c, o, none⟩ u) c t (cs.setIfInBounds o u) := by
  unfold Box at *
  simp [World.setCell, Array.getElem?_modify, hb]
theorem Box.off {X : World} {c : Nat} {t : TypeId} {cs : Array Value} (h : Box X c t cs) {c' : Nat} {t' : TypeId} {cs' : Array Value} (ht : t ≠ t') (hb : Box X c' t' cs') (o : Nat) (u : Value) : Box (X.setCell ⟨c', o, none⟩ u) c t cs := by
  have hne : c ≠ c' := fun e => by
    subst e
    have h1 : X.heap[c]? = some (.cells cs t (0, 0)) := h
    have h2 : X.heap[c]? = some (.cells cs' t' (0, 0)) := hb
    rw [h1] at h2
    injection h2 with h2
    injection h2 with _ h3
    exact ht h3
  exact (Below.heap_setCell _ _ _ _ hne).trans h
theorem Rw.back {w X : World} {v : Value} {l : List UInt8} (h : Rw w X v l) (hl : l ≠ []) : (convert 34 9 v).run Tryz.prog X = .ok (.string ⟨l.toArray⟩) X := by
  obtain ⟨g, hg⟩ : ∃ g, v.ownBlock = some g := by
    rcases h.own.2 with ⟨_, h0⟩ | ⟨g, cap, cur, rfl, _⟩
    · exact absurd (List.length_eq_zero_iff.1 h0) hl
    · exact ⟨g, rfl⟩
  have hc := h.own.cells hg
  obtain ⟨cap, rfl⟩ : ∃ cap, v = .slice (some ⟨g, 0, none⟩) l.length cap := by
    rcases h.own.2 with ⟨_, h0⟩ | ⟨g', cap, cur, rfl, _⟩
    · exact absurd (List.length_eq_zero_iff.1 h0) hl
    · obtain rfl : g' = g := Option.some.inj hg
      exact ⟨cap, rfl⟩
  exact run_convert_bytes_back X 34 9 5 ⟨g, 0, none⟩ cap l Tryz.underlying34 Tryz.underlying5 Tryz.underlying9 (fun j hj => hc j _ (by simp [Lib.byteCells, hj]))
theorem wp_strR {ops : Array Oper} {rest : List Oper} {o : Oper} {a : Act} {Q : Exit → Act → World → Prop} {X : World} (hgd : o.guard = none) (sl x : Operand) (ho : o.op = .call { callee := .builtin .append, args := #[sl, x], argTypes := #[34, 9] })
    {w : World} (v : Value) (l : List UInt8) (hs : a.eval sl = v) (h : Rw w X v l) (s : ByteArray) (hx : a.eval x = .string s) (hfit : l.length + s.data.toList.length ≤ 140737488355328)
    (k : ∀ v' X', Rw w X' v' (l ++ s.data.toList) → Keeps X X' → wpList Tryz.prog ops Q rest (a.put o.dst v') X') : wpList Tryz.prog ops Q (o :: rest) a X := by
  obtain ⟨i0, hi, hz0, hz1, hz2⟩ := info_parts info5
  have e := sizeB s
  refine Lib.wpList_append_own_string _ hgd sl x 34 9 ho w.heap.size 5 i0 Tryz.underlying34 Tryz.underlying9 hi hz0 hz1 hz2 v l.length (Lib.byteCells l) hs h.own s hx (by unfold maxLen; omega) (by omega) h.f.size (fun v' X' h1 h2 _ => ?_)
  refine k v' X' ⟨?_, h.grown h2⟩ (h.keeps h2)
  rw [List.length_append, ← e, Lib.byteCells_append]
  exact h1
theorem wp_bytR {ops : Array Oper} {rest : List Oper} {o : Oper} {a : Act} {Q : Exit → Act → World → Prop} {X : World} (hgd : o.guard = none) (sl x : Operand) (ho : o.op = .call { callee := .builtin .append, args := #[sl, x], argTypes := #[34, 34] })
    {w : World} (v : Value) (l : List UInt8) (hs : a.eval sl = v) (h : Rw w X v l) (t : List UInt8) (B n c : Nat) (hx : a.eval x = .slice (some ⟨B, 0, none⟩) n c) (hn : n = t.length) (hc : ∀ j u, (Lib.byteCells t)[j]? = some u → X.cell? ((⟨B, 0, none⟩ : Addr).add j) = some u) (hfit : l.length + t.length ≤ 140737488355328)
    (k : ∀ v' X', Rw w X' v' (l ++ t) → Keeps X X' → wpList Tryz.prog ops Q rest (a.put o.dst v') X') : wpList Tryz.prog ops Q (o :: rest) a X := by
  obtain ⟨i0, hi, hz0, hz1, hz2⟩ := info_parts info5
  subst hn
  refine wpList_append_own X hgd sl x 34 ho w.heap.size 5 i0 (.int .u8 0) 1 1 Tryz.underlying34 hi hz0 hz1 hz2 rfl (by decide) v l.length (Lib.byteCells l) hs h.own ⟨B, 0, none⟩ t.length c (Lib.byteCells t) hx (by rw [Lib.byteCells_length, Nat.mul_one]) hc ?_ (by unfold maxLen; omega) (by omega) h.f.size (fun v' X' h1 h2 _ => ?_)
  · intro u hu
    obtain ⟨b, -, rfl⟩ := List.mem_map.1 hu
    rfl
  · refine k v' X' ⟨?_, h.grown h2⟩ (h.keeps h2)
    rw [List.length_append, Lib.byteCells_append]
    exact h1
theorem new_bytes (X : World) (t : List UInt8) (cs : Array Value) (hcs : cs.toList = Lib.byteCells t) : ∀ j u, (Lib.byteCells t)[j]? = some u → (X.alloc (.cells cs 5)).cell? ((⟨X.heap.size, 0, none⟩ : Addr).add j) = some u := fun j u hu => by
  rw [Go.WideShapes.add_plain, Nat.zero_add, World.cell?_alloc_at _ _ _ _ rfl, ← hu, ← hcs]
  simp
theorem skipB_len : ∀ x : List UInt8, (skipB x).length ≤ x.length
  | [] => Nat.le_refl _
  | c :: r => by
    have := skipB_len r
    simp only [skipB]
    split
    · simp only [List.length_cons]; omega
    · exact Nat.le_refl _
theorem cov_spc : ∀ (ts : List Tk) (x : List UInt8), Cov x ts → (spc ts).length ≤ x.length + ts.length
  | [], x, h => by simp [spc]
  | t :: ts, x, h => by
    obtain ⟨h1, h2, h3, h4⟩ := h
    have := cov_spc ts _ h4
    have hs := skipB_len x
    have e := congrArg List.length h1
    have e2 := sizeB t.text
    simp only [List.length_take, List.length_drop] at e this
    simp only [spc, List.length_append, List.length_cons]
    omega
theorem spc_append : ∀ a b : List Tk, spc (a ++ b) = spc a ++ spc b
  | [], b => rfl
  | t :: a, b => by simp only [List.cons_append, spc, spc_append a b, List.append_assoc]
theorem spc_step (ts : List Tk) (k : Nat) (t : Tk) (h : ts[k]? = some t) : spc (ts.take (k + 1)) = spc (ts.take k) ++ t.text.data.toList ++ [32] := by
  rw [List.take_add_one, h, spc_append]
  simp [spc]
end Go.Proofs.YtcmfmfgedhfaeaaGreatDoor
