/- Where a thing stands: what holds in the rounds. -/
import Derived.Test.YtlmlgdojmcmllaaUg
namespace Go.Proofs.Ytlmlgdojmcmllaa
set_option linter.unusedSimpArgs false
set_option linter.unusedVariables false
open Go.RowKit
open Solve

/-- Ahead of what nodes a thing stands (true), and behind (false). -/
inductive AB (A : Graph) (st : Bool) (entry : Int) (mk en : Int → Bool) : Bool → Nat → Prop
  | start {e : Nat} : st = true → (e : Int) = entry → e < A.length → AB A st entry mk en true e
  | step {i c : Nat} : AB A st entry mk en false i → c ∈ fol A i → AB A st entry mk en true c
  | make {i : Nat} : mk (i : Int) = true → i < A.length → AB A st entry mk en false i
  | pass {i : Nat} : AB A st entry mk en true i → en (i : Int) = false → AB A st entry mk en false i
theorem mem_entL2 {n : Nat} {en : Int → Bool} {l1 l2 : List Nat} {y : Int} {i : Nat} : i ∈ entL2 n en l1 l2 y → i ∈ l2 ∨ ((i : Int) = y ∧ i < n ∧ en y = false ∧ isNew n l1 y = true) := by
  unfold entL2
  intro h
  by_cases hc : (isNew n l1 y && !en y) = true
  · rw [if_pos hc] at h
    simp only [Bool.and_eq_true, Bool.not_eq_true'] at hc
    rcases mem_comeL.1 h with r | r
    · exact Or.inl r
    · exact Or.inr ⟨r.1, r.2, hc.2, hc.1⟩
  · rw [if_neg hc] at h; exact Or.inl h
theorem entL2_pre (n : Nat) (en : Int → Bool) (l1 l2 : List Nat) (y : Int) : l2 <+: entL2 n en l1 l2 y := by
  unfold entL2
  by_cases hc : (isNew n l1 y && !en y) = true
  · rw [if_pos hc]; exact comeL_pre _ _ _
  · rw [if_neg hc]; exact List.prefix_refl _
section
variable {A : Graph} {st : Bool} {entry : Int} {mk en : Int → Bool} {l1 l2 : List Nat}
/-- What is found is so; what stands ahead and isn't ended stands behind. -/
structure SB (A : Graph) (st : Bool) (entry : Int) (mk en : Int → Bool) (l1 l2 : List Nat) : Prop where
  s1 : ∀ i ∈ l1, AB A st entry mk en true i
  s2 : ∀ i ∈ l2, AB A st entry mk en false i
  p : ∀ i ∈ l1, en (i : Int) = false → i ∈ l2
theorem SB.none : SB A st entry mk en [] [] := ⟨fun i h => by simp at h, fun i h => by simp at h, fun i h => by simp at h⟩
theorem SB.enter (h : SB A st entry mk en l1 l2) {y : Int} (hy : ∀ i : Nat, (i : Int) = y → i < A.length → AB A st entry mk en true i) : SB A st entry mk en (comeL A.length l1 y) (entL2 A.length en l1 l2 y) := by
  refine ⟨fun i hi => ?_, fun i hi => ?_, fun i hi hen => ?_⟩
  · rcases mem_comeL.1 hi with r | r
    · exact h.s1 i r
    · exact hy i r.1 r.2
  · rcases mem_entL2 hi with r | ⟨r1, r2, r3, _⟩
    · exact h.s2 i r
    · exact .pass (hy i r1 r2) (by rw [r1]; exact r3)
  · by_cases hl : i ∈ l1
    · exact (entL2_pre _ _ _ _ _).subset (h.p i hl hen)
    · rcases mem_comeL.1 hi with r | ⟨r1, r2⟩
      · exact absurd r hl
      · have hn : isNew A.length l1 y = true := by
          simp only [isNew, decide_eq_true_eq]
          refine ⟨by omega, by omega, ?_⟩
          rwa [show y.toNat = i by omega]
        unfold entL2
        rw [hn, ← r1, hen]
        exact mem_comeL.2 (Or.inr ⟨rfl, r2⟩)
theorem SB.enters (xs : List Int) : ∀ {s : List Nat × List Nat}, SB A st entry mk en s.1 s.2 → (∀ y ∈ xs, ∀ i : Nat, (i : Int) = y → i < A.length → AB A st entry mk en true i) → SB A st entry mk en (entS A.length en s xs).1 (entS A.length en s xs).2 ∧ s.2 <+: (entS A.length en s xs).2 ∧ (∀ i ∈ s.1, i ∈ (entS A.length en s xs).1) ∧ ∀ i ∈ nodesOf A.length xs, i ∈ (entS A.length en s xs).1 := by
  unfold entS
  induction xs with
  | nil => intro s h _; exact ⟨h, List.prefix_refl _, fun _ h => h, fun i hi => by simp [nodesOf] at hi⟩
  | cons y xs ih =>
    intro s h hy
    obtain ⟨a, b, c, e⟩ := ih (s := (comeL A.length s.1 y, entL2 A.length en s.1 s.2 y)) (h.enter (hy y (by simp))) fun z hz => hy z (by simp [hz])
    refine ⟨a, (entL2_pre _ _ _ _ _).trans b, fun i hi => c i (mem_comeL.2 (Or.inl hi)), fun i hi => ?_⟩
    rw [mem_nodesOf] at hi
    rcases List.mem_cons.1 hi.1 with r | r
    · exact c i (mem_comeL.2 (Or.inr ⟨r, hi.2⟩))
    · exact e i (mem_nodesOf.2 ⟨r, hi.2⟩)
theorem SB.made (h : SB A st entry mk en l1 l2) {a : Int} (ha : mk a = true) : SB A st entry mk en l1 (comeL A.length l2 a) :=
  ⟨h.s1, fun i hi => by
    rcases mem_comeL.1 hi with r | r
    · exact h.s2 i r
    · exact .make (by rw [r.1]; exact ha) r.2, fun i hi he => mem_comeL.2 (Or.inl (h.p i hi he))⟩
/-- In the rounds. -/
structure SI (A : Graph) (st : Bool) (entry : Int) (mk en : Int → Bool) (k : Nat) (l1 l2 : List Nat) : Prop where
  b : SB A st entry mk en l1 l2
  t : st = true → ∀ e : Nat, (e : Int) = entry → e < A.length → e ∈ l1
  m : ∀ i : Nat, mk (i : Int) = true → i < A.length → i ∈ l2
  c : ∀ j (h : j < l2.length), j < k → ∀ i ∈ fol A l2[j], i ∈ l1
theorem SI.next {k : Nat} (h : SI A st entry mk en k l1 l2) (hk : k < l2.length) : SI A st entry mk en (k + 1) (entS A.length en (l1, l2) (row A l2[k])).1 (entS A.length en (l1, l2) (row A l2[k])).2 ∧ l2.length ≤ (entS A.length en (l1, l2) (row A l2[k])).2.length := by
  obtain ⟨a, b, c, e⟩ := SB.enters (row A l2[k]) (s := (l1, l2)) h.b fun y hy i hi hl => .step (h.b.s2 _ (List.getElem_mem hk)) (mem_nodesOf.2 ⟨by rw [hi]; exact hy, hl⟩)
  obtain ⟨S, hS⟩ := b
  refine ⟨⟨a, fun ht i hi hl => c i (h.t ht i hi hl), fun i hi hl => ?_, fun j hj hjk i hi => ?_⟩, by rw [← hS]; simp⟩
  · rw [← hS]; exact List.mem_append_left _ (h.m i hi hl)
  · have get : ∀ (hjl : j < l2.length), (entS A.length en (l1, l2) (row A l2[k])).2[j] = l2[j] := fun hjl => by
      have hh : (l2 ++ S)[j]? = some l2[j] := by rw [List.getElem?_append_left hjl]; exact List.getElem?_eq_getElem hjl
      rw [hS] at hh
      rw [List.getElem?_eq_getElem hj] at hh
      injection hh
    by_cases e1 : j = k
    · subst e1
      rw [get hk] at hi
      exact e i hi
    · have hjl : j < l2.length := by omega
      rw [get hjl] at hi
      exact c i (h.c j hjl (by omega) i hi)
theorem SI.done (h : SI A st entry mk en l2.length l1 l2) : (∀ i, i ∈ l1 ↔ AB A st entry mk en true i) ∧ ∀ i, i ∈ l2 ↔ AB A st entry mk en false i := by
  have key : ∀ b i, AB A st entry mk en b i → (b = true → i ∈ l1) ∧ (b = false → i ∈ l2) := by
    intro b i hab
    induction hab with
    | start h1 h2 h3 => exact ⟨fun _ => h.t h1 _ h2 h3, fun e => by cases e⟩
    | step h1 h2 ih =>
      refine ⟨fun _ => ?_, fun e => by cases e⟩
      obtain ⟨j, hj, rfl⟩ := List.getElem_of_mem (ih.2 rfl)
      exact h.c j hj hj _ h2
    | make h1 h2 => exact ⟨(fun e => by cases e), fun _ => h.m _ h1 h2⟩
    | pass h1 h2 ih => exact ⟨(fun e => by cases e), fun _ => h.b.p _ (ih.1 rfl) h2⟩
  exact ⟨fun i => ⟨h.b.s1 i, fun hi => (key _ _ hi).1 rfl⟩, fun i => ⟨h.b.s2 i, fun hi => (key _ _ hi).2 rfl⟩⟩
end
/-- A visit that was done over in its own place. -/
theorem Fst.set1 {d : FD} {ws : World} {U : Nat → Prop} {w w' : World} {R V1 V2 : Nat → Prop} {l1 l2 l' : List Nat} (h : Fst d ws U w R V1 V2 l1 l2) (hv : Vst w' V1 d.B1 d.A.length l') (hk : Keep V1 w w') : Fst d ws U w' R V1 V2 l' l2 :=
  ⟨h.flo.keep hk fun k hr hv => h.d1 k hv hr, hv, h.v2.keep hk fun k hv hv1 => h.d12 k hv1 hv, h.d1, h.d2, h.d12, h.keep.step hk h.u1, h.u1, h.u2⟩
theorem Fst.set2 {d : FD} {ws : World} {U : Nat → Prop} {w w' : World} {R V1 V2 : Nat → Prop} {l1 l2 l' : List Nat} (h : Fst d ws U w R V1 V2 l1 l2) (hv : Vst w' V2 d.B2 d.A.length l') (hk : Keep V2 w w') : Fst d ws U w' R V1 V2 l1 l' :=
  ⟨h.flo.keep hk fun k hr hv => h.d2 k hv hr, h.v1.keep hk fun k hv hv1 => h.d12 k hv hv1, hv, h.d1, h.d2, h.d12, h.keep.step hk h.u2, h.u1, h.u2⟩
/-- The boxes made. -/
theorem boxes {d : FD} {w w2 : World} {R V1 V2 : Nat → Prop} {p2 : Nat} {x : Int} {o : Option Nat} (h : Fst d w (W V1 V2) w2 R V1 V2 [] []) (hp : w2.heap[p2]? = some (.cells #[.pointer (some ⟨d.fb, 0, none⟩)] 55 (0, 0))) (n1 : ¬ V1 p2) (n2 : ¬ V2 p2) (hs : SetO w2 o 1000 (d.E x)) (hr : ∀ q, o = some q → R q) :
    EB2 d w (W V1 V2) ((w2.alloc (.cells #[.map o] 60)).alloc (.cells #[.func (.func 50) #[] #[.pointer (some ⟨p2, 0, none⟩), .pointer (some ⟨w2.heap.size, 0, none⟩)]] 43)) R V1 V2 p2 w2.heap.size (w2.heap.size + 1) x [] [] := by
  have f1 : Fresh w2 (w2.alloc (.cells #[.map o] 60)) := (Fresh.refl w2).alloc _ _
  have f2 : Fresh (w2.alloc (.cells #[.map o] 60)) ((w2.alloc (.cells #[.map o] 60)).alloc (.cells #[.func (.func 50) #[] #[.pointer (some ⟨p2, 0, none⟩), .pointer (some ⟨w2.heap.size, 0, none⟩)]] 43)) := (Fresh.refl _).alloc _ _
  have hz : (w2.alloc (.cells #[.map o] 60)).heap.size = w2.heap.size + 1 := by simp
  have lt1 : ∀ k, V1 k → k < w2.heap.size := h.v1.lt
  have lt2 : ∀ k, V2 k → k < w2.heap.size := h.v2.lt
  refine ⟨h.fresh (f1.trans f2), ⟨((f1.trans f2).below.block _ (heap_lt hp)).trans hp, ⟨o, ?_, hs.fresh (f1.trans f2), hr⟩, ?_, ⟨n1, fun e => by have := lt1 _ e; omega, fun e => by have := lt1 _ e; omega⟩, ⟨n2, fun e => by have := lt2 _ e; omega, fun e => by have := lt2 _ e; omega⟩⟩⟩
  · rw [f2.below.block _ (by rw [hz]; omega)]; exact heap_alloc_new w2 _
  · have := heap_alloc_new (w2.alloc (.cells #[.map o] 60)) (.cells #[.func (.func 50) #[] #[.pointer (some ⟨p2, 0, none⟩), .pointer (some ⟨w2.heap.size, 0, none⟩)]] 43)
    rwa [hz] at this
theorem Ent.three {d : FD} {ws : World} {U R : Nat → Prop} {p2 p4 p5 : Nat} {x : Int} {l1 l2 : List Nat} {w : World} (h : Ent d ws U R p2 p4 p5 x l1 l2 w) :
    w.cell? ⟨p5, 0, none⟩ = some (.func (.func 50) #[] #[.pointer (some ⟨p2, 0, none⟩), .pointer (some ⟨p4, 0, none⟩)]) ∧ w.cell? ⟨p2, 0, none⟩ = some (.pointer (some ⟨d.fb, 0, none⟩)) ∧ w.cell? ⟨d.fb, 3, none⟩ = some (.int .i64 d.entry) := by
  obtain ⟨V1, V2, h⟩ := h
  exact ⟨by rw [cell_of_row w p5 0 _ 43 (0, 0) h.b.h5]; rfl, by rw [cell_of_row w p2 0 _ 55 (0, 0) h.b.h2]; rfl, h.f.flo.cs.2.2.2.1⟩
/-- A block beside all of it. -/
structure Off (d : FD) (ws w : World) (R V1 V2 : Nat → Prop) (p2 p4 p5 r : Nat) : Prop where
  r0 : ¬ R r
  r1 : ¬ V1 r
  r2 : ¬ V2 r
  r3 : r ≠ p2 ∧ r ≠ p4 ∧ r ≠ p5
  r4 : ws.heap.size ≤ r
  r5 : r < w.heap.size
theorem EB2.off {d : FD} {ws : World} {U : Nat → Prop} {w w' : World} {R V1 V2 : Nat → Prop} {p2 p4 p5 r : Nat} {x : Int} {l1 l2 : List Nat} (h : EB2 d ws U w R V1 V2 p2 p4 p5 x l1 l2) (ho : Off d ws w R V1 V2 p2 p4 p5 r) (hg : w.grownBy w' (some r)) : EB2 d ws U w' R V1 V2 p2 p4 p5 x l1 l2 := by
  have hk : Keep (· = r) w w' := (Keep.refl (· = r) w).grown hg fun k e => by injection e with e; exact e.symm
  have hR : ∀ k, R k → ¬ k = r := fun k hr e => ho.r0 (e ▸ hr)
  exact ⟨⟨h.f.flo.keep hk hR, h.f.v1.keep hk fun k hv e => ho.r1 (e ▸ hv), h.f.v2.keep hk fun k hv e => ho.r2 (e ▸ hv), h.f.d1, h.f.d2, h.f.d12, h.f.keep.step hk fun k e => Or.inr (by rw [e]; exact ho.r4), h.f.u1, h.f.u2⟩,
    h.b.keep hk hR ⟨fun e => ho.r3.1 e.symm, fun e => ho.r3.2.1 e.symm, fun e => ho.r3.2.2 e.symm⟩⟩
/-- What is told of a flow's call. -/
def SpP (d : FD) (ws : World) (U R : Nat → Prop) (x : Int) (w' : World) : Prop := ∃ V1 V2 l1 l2, Fst d ws U w' R V1 V2 l1 l2 ∧ (∀ i, i ∈ l1 ↔ AB d.A (d.S x) d.entry (d.M x) (d.E x) true i) ∧ ∀ i, i ∈ l2 ↔ AB d.A (d.S x) d.entry (d.M x) (d.E x) false i
end Go.Proofs.Ytlmlgdojmcmllaa
