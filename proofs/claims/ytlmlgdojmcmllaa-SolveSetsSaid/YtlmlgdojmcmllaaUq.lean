/- Forward, by the program. -/
import Derived.Test.YtlmlgdojmcmllaaUp
namespace Go.Proofs.Ytlmlgdojmcmllaa
set_option linter.unusedSimpArgs false
set_option linter.unusedVariables false
open Go.RowKit
open Solve

/-- A graph without the arrows from nodes that aren't reached. -/
def RA (g : Graph) (b : List Bool) (j : Nat) (A : Graph) : Prop := A.length = g.length ∧ ∀ i, row A i = if i < j ∧ flag b i = true then row g i else []
theorem RA.start (g : Graph) (b : List Bool) : RA g b 0 (List.replicate g.length []) := ⟨by simp, fun i => by rw [row_rep]; simp⟩
theorem RA.yes {g : Graph} {b : List Bool} {j : Nat} {A : Graph} (h : RA g b j A) (hj : j < g.length) (hb : flag b j = true) : RA g b (j + 1) (A.set j (row g j)) := by
  refine ⟨by simp [h.1], fun i => ?_⟩
  rw [row_set (by rw [h.1]; exact hj), h.2]
  by_cases e : i = j
  · subst e; rw [if_pos rfl, if_pos ⟨by omega, hb⟩]
  · rw [if_neg e]
    by_cases h1 : i < j ∧ flag b i = true
    · rw [if_pos h1, if_pos ⟨by omega, h1.2⟩]
    · rw [if_neg h1, if_neg (fun h2 => h1 ⟨by omega, h2.2⟩)]
theorem RA.no {g : Graph} {b : List Bool} {j : Nat} {A : Graph} (h : RA g b j A) (hb : flag b j = false) : RA g b (j + 1) A := by
  refine ⟨h.1, fun i => ?_⟩
  rw [h.2]
  by_cases h1 : i < j ∧ flag b i = true
  · rw [if_pos h1, if_pos ⟨by omega, h1.2⟩]
  · rw [if_neg h1, if_neg (fun h2 => ?_)]
    by_cases e : i = j
    · rw [e, hb] at h2; exact absurd h2.2 (by simp)
    · exact h1 ⟨by omega, h2.2⟩
theorem marks_cell2 {ok : Nat → Prop} {w : World} {q : Option Addr} {b : List Bool} {n c i : Nat} (h : Row ok w (.slice q n c) (marks b)) (hi : i < b.length) : ∃ B off, q = some ⟨B, off, none⟩ ∧ w.cell? ⟨B, off + i, none⟩ = some (.bool (flag b i)) := by
  have h1 : Row T w (.slice q n c) (marks b) := h.imp fun _ _ _ => trivial
  exact marks_cell h1 hi
set_option maxHeartbeats 8000000 in
set_option maxRecDepth 100000 in
theorem reached_any (v : Value) (g : Graph) (entry : Int) (w : World) (hg : Sm g) (h : Rows2 T T w v g) :
    Calls Try.prog 40 #[v, .int .i64 entry] w fun e w' => ∃ x A b, e = .returned x ∧ Rows2 T T w' x A ∧ RA g b g.length A ∧ ReachB g entry b ∧ Fresh w w' := by
  have HG := Lib.hid hg
  have HR := Lib.hid h
  have hgl := hg.len
  obtain ⟨p, cap, rfl, ⟨hc, hm⟩, _⟩ := h.form
  unfold maxLen at hm
  have hmk := run_rows g.length (by omega)
  clear h hg
  go_enter Try.func40, Try.ntmps40
  go_upto_region 2 with fail
  clear hmk
  have er : (List.replicate g.length (Value.slice none 0 0)).toArray = Array.replicate g.length (Value.slice none 0 0) := by simp
  rw [← er]
  obtain ⟨w1, hw1⟩ : ∃ w1, w1 = w.alloc (.cells (List.replicate g.length (Value.slice none 0 0)).toArray 28) := ⟨_, rfl⟩
  rw [← hw1]
  have HW1 : Hid (Mat w1 w.heap.size 28 (List.replicate g.length (.slice none 0 0)) (List.replicate g.length []) ∧ Fresh w w1 ∧ w1.heap.size = w.heap.size + 1) := Lib.hid (by
    rw [hw1]; exact ⟨Mat.new w 28 g.length, (Fresh.refl w).alloc _ _, by simp⟩)
  clear er hw1
  go_upto_region 3 with (go_at_call 10; (refine (reachP2_any _ g entry _ HG.out (HR.out.fresh HW1.out.2.1)).mono ?_); rintro e w2 ⟨q, c, b, rfl, hr, hb, hf⟩; have HRW := Lib.hid hr; have HB := Lib.hid hb; have HF2 := Lib.hid hf; clear hr hb hf)
  have hbl : b.length = g.length := HB.out.1
  have hml : (marks b).length = g.length := by rw [marks_len]; exact hbl
  rw [hml] at HRW
  rw [hml]
  have HM0 := Lib.hid (HW1.out.1.fresh HF2.out)
  have HF0 := Lib.hid (HW1.out.2.1.trans HF2.out)
  have HRM : Hid (Row (· ≠ w.heap.size) w2 (.slice q g.length c) (marks b)) := Lib.hid (HRW.out.imp fun k _ hk => by have := HW1.out.2.2; omega)
  have HBL := Lib.hid hbl
  clear hbl hml HRW HW1 HF2
  go_loopg [15] g.length (fun k s15 wr => ∃ (j : Nat) (vs : List Value) (A : Graph), s15 = .int .i64 j ∧ j ≤ g.length ∧ k = g.length - j ∧ Hid (Mat wr w.heap.size 28 vs A) ∧ Hid (RA g b j A) ∧ Hid (Fresh w wr) ∧ Hid (Row (· ≠ w.heap.size) wr (.slice q g.length c) (marks b)))
  case atStart => exact ⟨0, _, _, rfl, by omega, by omega, HM0, Lib.hid (RA.start g b), HF0, HRM⟩
  case round =>
    clear HM0 HF0 HRM
    obtain ⟨j, vs, A, rfl, hj, rfl, HM, HA, HF, HRM⟩ := hrel
    by_cases hlt : j < g.length
    · obtain ⟨L, o, rfl, ex⟩ := marks_cell2 HRM.out (i := j) (by rw [HBL.out]; exact hlt)
      cases hb : flag b j with
      | false =>
        rw [hb] at ex
        have HN := Lib.hid (HA.out.no hb)
        clear hb
        go_wp2
        go_roundg (g.length - (j + 1))
        case measure => go_light; omega
        case rel => go_light; exact ⟨j + 1, vs, A, by go_num, by omega, rfl, HM, HN, HF, HRM⟩
      | true =>
        rw [hb] at ex
        have HN := Lib.hid (HA.out.yes hlt hb)
        clear hb
        obtain ⟨_, _, hv, _, hh⟩ := HR.out.form
        obtain ⟨B0, off, u, hp, _, cu0, hu⟩ := hh j hlt
        cases hv
        subst hp
        have cu := HF.out.sts (fun _ => True) _ _ _ trivial cu0
        obtain ⟨q2, c2, rfl, _, _⟩ := hu.form
        have hAl := HA.out.1
        obtain ⟨u0, hc0, _, _⟩ := HM.out.cell (i := j) (by omega)
        have hf0 := HM.out.frozen j
        have hui : Ints (· ≠ w.heap.size) wr (.slice q2 (row g j).length c2) (row g j) := (hu.imp fun k hk _ => (by omega : k ≠ w.heap.size)).fresh HF.out
        have HM2 := Lib.hid (HM.out.set (i := j) (by omega) hui)
        have HR2 := Lib.hid (HRM.out.sts (sts_set wr w.heap.size j (.slice q2 (row g j).length c2)))
        have HF2 := Lib.hid (HF.out.setCell (p := ⟨w.heap.size, j, none⟩) (Nat.le_refl _) (.slice q2 (row g j).length c2))
        clear hh hu cu0 hui
        go_wp2
        go_roundg (g.length - (j + 1))
        case measure => go_light; omega
        case rel => go_light; exact ⟨j + 1, _, _, by go_num, by omega, rfl, HM2, HN, HF2, HR2⟩
    · obtain rfl : j = g.length := by omega
      go_wp2
      go_ret
      refine ⟨_, A, b, rfl, ?_, HA.out, HB.out, HF.out⟩
      have := HM.out.rows g.length ⟨by rw [HA.out.1]; omega, by simp only [maxLen]; omega⟩
      rw [HA.out.1] at this
      exact this.any
theorem fwd_ab {g st0 : Graph} {A m en : Graph} {st : List Int} {entry : Int} {b : List Bool} (hA : RA g b g.length A) (hb : ReachB g entry b) {i : Nat} {y : Int} : AB A (decide (y ∈ st)) entry (hof m A.length y) (hof en A.length y) true i ↔ FwdQ g entry st m en i y := by
  have hn := hA.1
  have hfol : ∀ i c, c ∈ fol A i ↔ (0 ≤ entry ∧ entry < (g.length : Int) ∧ Path g entry.toNat i) ∧ c ∈ fol g i := fun i c => by
    unfold fol
    rw [mem_nodesOf, mem_nodesOf, hn]
    show (c : Int) ∈ row A i ∧ c < g.length ↔ _ ∧ (c : Int) ∈ row g i ∧ c < g.length
    rw [hA.2 i, ← hb.2 i]
    constructor
    · rintro ⟨h1, h2⟩
      by_cases h : i < g.length ∧ flag b i = true
      · rw [if_pos h] at h1; exact ⟨h.2, h1, h2⟩
      · rw [if_neg h] at h1; simp at h1
    · rintro ⟨h1, h2, h3⟩
      have hi : i < g.length := by have := flag_lt h1; rw [hb.1] at this; exact this
      rw [if_pos ⟨hi, h1⟩]
      exact ⟨h2, h3⟩
  have hh : ∀ (t : Graph) (i : Nat), hof t A.length y (i : Int) = true ↔ i < g.length ∧ y ∈ row t i := fun t i => by
    unfold hof
    rw [decide_eq_true_iff, hn]
    simp
  constructor
  · intro h
    have key : ∀ d i, AB A (decide (y ∈ st)) entry (hof m A.length y) (hof en A.length y) d i → (d = true → FwdQ g entry st m en i y) ∧ (d = false → i < g.length ∧ (y ∈ row m i ∨ (FwdQ g entry st m en i y ∧ y ∉ row en i))) := by
      intro d i hab
      induction hab with
      | @start e h1 h2 h3 =>
        rw [hn] at h3
        refine ⟨fun _ => ⟨⟨by omega, by omega⟩, ?_⟩, (fun e => by cases e)⟩
        have : e = entry.toNat := by omega
        rw [this]
        exact .start (by simpa using h1)
      | step h1 h2 ih =>
        refine ⟨fun _ => ?_, (fun e => by cases e)⟩
        obtain ⟨⟨p1, p2, p3⟩, h4⟩ := (hfol _ _).1 h2
        rcases (ih.2 rfl).2 with r | ⟨r1, r2⟩
        · exact ⟨⟨p1, p2⟩, .make p3 h4 r⟩
        · exact ⟨⟨p1, p2⟩, .pass p3 h4 r1.2 r2⟩
      | make h1 h2 => exact ⟨(fun e => by cases e), fun _ => ⟨((hh m _).1 h1).1, Or.inl ((hh m _).1 h1).2⟩⟩
      | pass h1 h2 ih =>
        refine ⟨(fun e => by cases e), fun _ => ?_⟩
        have hl := h1.lt
        rw [hn] at hl
        refine ⟨hl, Or.inr ⟨ih.1 rfl, fun hy => ?_⟩⟩
        have := (hh en _).2 ⟨hl, hy⟩
        rw [this] at h2; cases h2
    exact (key _ _ h).1 rfl
  · rintro ⟨⟨h0, h1⟩, h⟩
    have key : ∀ i, FwdP g entry.toNat st m en i y → AB A (decide (y ∈ st)) entry (hof m A.length y) (hof en A.length y) true i := by
      intro i hp
      generalize hyy : y = y' at hp
      induction hp with
      | start hx => subst hyy; exact .start (by simpa using hx) (by omega) (by rw [hn]; omega)
      | make p hk hx =>
        subst hyy
        exact .step (.make ((hh m _).2 ⟨fol_from hk, hx⟩) (by rw [hn]; exact fol_from hk)) ((hfol _ _).2 ⟨⟨h0, h1, p⟩, hk⟩)
      | @pass i k x p hk _ he ih =>
        subst hyy
        refine .step (.pass (ih rfl) ?_) ((hfol _ _).2 ⟨⟨h0, h1, p⟩, hk⟩)
        cases hq : hof en A.length y (i : Int) with
        | false => rfl
        | true => exact absurd ((hh en i).1 hq).2 he
    exact key i h
theorem fwd_key {g : Graph} {e : Nat} {st : List Int} {m en : Graph} (wst : WdL st) (wm : Wd m) {i : Nat} {y : Int} (h : FwdP g e st m en i y) : Key y := by
  induction h with
  | start hx => exact wst _ hx
  | make _ _ hx => exact wm _ _ hx
  | pass _ _ _ _ ih => exact ih
theorem fwd_exact2 {g A m en k : Graph} {st : List Int} {entry : Int} {b : List Bool} {d : FD} (hR : RA g b g.length A) (hb : ReachB g entry b) (wst : WdL st) (wm : Wd m) (hA : d.A = A) (hM : d.M = hof m A.length) (hE : d.E = hof en A.length) (hen : d.entry = entry) (hS : d.S = fun z => decide (z ∈ st)) (h : Exact d.A.length (SdP d true) k) : Exact g.length (FwdQ g entry st m en) k := by
  refine ⟨by rw [h.len, hA, hR.1], h.inc, fun i y => ?_⟩
  rw [h.iff]
  unfold SdP
  rw [hA, hM, hE, hen, hS]
  rw [fwd_ab (st0 := []) hR hb]
  exact ⟨fun e => e.2, fun e => ⟨fwd_key wst wm e.2, e⟩⟩
end Go.Proofs.Ytlmlgdojmcmllaa
