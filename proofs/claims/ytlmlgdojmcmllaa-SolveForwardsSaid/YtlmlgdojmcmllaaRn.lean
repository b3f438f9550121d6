/- The sets along the arrows: plainly, beside the reference's rounds. -/
import Derived.Test.YtlmlgdojmcmllaaRm
namespace Go.Proofs.Ytlmlgdojmcmllaa
set_option linter.unusedSimpArgs false
set_option linter.unusedVariables false
open Go.RowKit
open Solve

def FwdQ (g : Graph) (entry : Int) (st : List Int) (m en : Graph) (i : Nat) (x : Int) : Prop := (0 ≤ entry ∧ entry < (g.length : Int)) ∧ FwdP g entry.toNat st m en i x
structure FB (g : Graph) (e : Nat) (st : List Int) (m en : Graph) (ls0 ls : Graph) (mm : Bool) (i : Nat) (pre : List Nat) : Prop where
  good : Sound g.length (FwdP g e st m en) ls
  le : tot ls0 ≤ tot ls
  lt : mm = true → tot ls0 < tot ls
  beg : ∀ x ∈ st, x ∈ row ls e
  eq : mm = false → ls = ls0 ∧ (∀ j, j < i → Path g e j → ∀ k ∈ fol g j, ClosedF m en ls j k) ∧ (Path g e i → ∀ k ∈ pre, ClosedF m en ls i k)
section
variable {g : Graph} {e : Nat} {st : List Int} {m en ls0 ls : Graph} {mm : Bool} {i : Nat} {pre : List Nat}
theorem FB.start (h : Sound g.length (FwdP g e st m en) ls) (hb : ∀ x ∈ st, x ∈ row ls e) : FB g e st m en ls ls false 0 [] :=
  ⟨h, Nat.le_refl _, (fun h => by cases h), hb, fun _ => ⟨rfl, fun j hj => by omega, fun _ k hk => by simp at hk⟩⟩
theorem FB.step (h : FB g e st m en ls0 ls mm i pre) (hp : Path g e i) {y : Nat} (hy : y ∈ fol g i) {m' : Bool} (hm : m' = (mm || decide ((row ls y).length < (row (edgeF m en i ls y) y).length))) : FB g e st m en ls0 (edgeF m en i ls y) m' i (pre ++ [y]) := by
  obtain ⟨a, b, c, d, f⟩ := edgeF_good (start := st) hp hy h.good
  have h1 := b.tot h.good.inc
  have h0 := h.le
  refine ⟨a, by omega, fun hmt => ?_, fun x hx => b.sub e x (h.beg x hx), fun hmf => ?_⟩
  · rw [hmt] at hm
    cases mm with
    | true => have := h.lt rfl; omega
    | false =>
      have hd : (row ls y).length < (row (edgeF m en i ls y) y).length := by simpa using hm.symm
      have := edgeF_tot (start := st) hp hy h.good hd
      omega
  · rw [hmf] at hm
    cases mm with
    | true => simp at hm
    | false =>
      have hd : ¬ (row ls y).length < (row (edgeF m en i ls y) y).length := by simpa using hm
      obtain ⟨e1, e2⟩ := edgeF_same (start := st) hp hy h.good hd
      rw [e1]
      obtain ⟨q1, q2, q3⟩ := h.eq rfl
      refine ⟨q1, q2, fun hpi k hk => ?_⟩
      rcases List.mem_append.1 hk with r | r
      · exact q3 hpi k r
      · have : k = y := by simpa using r
        rw [this]; exact e2
theorem FB.next (h : FB g e st m en ls0 ls mm i pre) (hf : Path g e i → pre = fol g i) : FB g e st m en ls0 ls mm (i + 1) [] :=
  ⟨h.good, h.le, h.lt, h.beg, fun hm => ⟨(h.eq hm).1, fun j hj => by
    by_cases r : j = i
    · subst r; intro hp; have := (h.eq hm).2.2 hp; rwa [hf hp] at this
    · exact (h.eq hm).2.1 j (by omega), fun _ k hk => by simp at hk⟩⟩
theorem FB.mea (h : FB g e st m en ls0 ls mm i pre) : mea (g.length * (st ++ m.flatten).length) ls mm < mea (g.length * (st ++ m.flatten).length) ls0 true := by
  have h1 := h.good.tot_le _ fwd_univ
  have h2 := h.le
  unfold Go.Proofs.Ytlmlgdojmcmllaa.mea
  cases mm with
  | true =>
    have := h.lt rfl
    simp only [Bool.toNat_true]; omega
  | false => simp only [Bool.toNat_true, Bool.toNat_false]; omega
theorem FB.closed (h : FB g e st m en ls0 ls mm g.length []) (hm : mm = false) (he : e < g.length) : ∀ i, Path g e i → ∀ k ∈ fol g i, ClosedF m en ls i k := fun i hp => (h.eq hm).2.1 i (hp.lt he) hp
theorem fwd_exact (he : e < g.length) (h : Sound g.length (FwdP g e st m en) ls) (hb : ∀ x ∈ st, x ∈ row ls e) (hc : ∀ i, Path g e i → ∀ k ∈ fol g i, ClosedF m en ls i k) : Exact g.length (FwdQ g e st m en) ls :=
  ⟨h.len, h.inc, fun i x => (fwd_whole h hb hc i x).trans ⟨fun h => ⟨⟨by omega, by omega⟩, by simpa using h⟩, fun h => by simpa using h.2⟩⟩
theorem fwd_none {entry : Int} (h : ¬ (0 ≤ entry ∧ entry < (g.length : Int))) : Exact g.length (FwdQ g entry st m en) (List.replicate g.length []) :=
  ⟨by simp, fun i => by rw [row_rep]; exact inc_nil, fun i x => by rw [row_rep]; exact ⟨fun h => by simp at h, fun hq => absurd hq.1 h⟩⟩
theorem fwd_begin (he : e < g.length) : Sound g.length (FwdP g e st m en) (put (List.replicate g.length []) e st []) ∧ ∀ x ∈ st, x ∈ row (put (List.replicate g.length []) e st []) e :=
  ⟨(Sound.start _ _).put he fun x hx _ => .start hx, fun x hx => put_has (by simpa using he) hx (by simp)⟩
end
theorem Mrk.far {w : World} {g : Nat} {t : TypeId} {b : List Bool} (h : Mrk w g t b) {p : Addr} (hp : g ≠ p.block) (u : Value) : Mrk (w.setCell p u) g t b := ⟨(Below.heap_setCell w p u g hp).trans h.blk⟩
theorem fwd_len {st : List Int} {m : Graph} (hs : st.length ≤ 20) (hm : Sm m) : (st ++ m.flatten).length ≤ 820 := by
  have := flat_len hm
  rw [List.length_append]; omega
end Go.Proofs.Ytlmlgdojmcmllaa
