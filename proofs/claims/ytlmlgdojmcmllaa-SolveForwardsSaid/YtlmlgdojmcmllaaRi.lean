/- A graph turned round, by the reference. -/
import Derived.Test.YtlmlgdojmcmllaaRh
namespace Go.Proofs.Ytlmlgdojmcmllaa
set_option linter.unusedSimpArgs false
set_option linter.unusedVariables false
open Go.RowKit
open Solve

/-- Rising rows of just what is to be in them. -/
structure Exact (n : Nat) (P : Nat → Int → Prop) (ls : Graph) : Prop where
  len : ls.length = n
  inc : Rising ls
  iff : ∀ i x, x ∈ row ls i ↔ P i x
theorem Exact.unique {n : Nat} {P : Nat → Int → Prop} {a b : Graph} (h : Exact n P a) (k : Exact n P b) : a = b :=
  row_ext (h.len.trans k.len.symm) fun i _ => inc_eq (h.inc i) (k.inc i) fun x => (h.iff i x).trans (k.iff i x).symm
def BefP (g : Graph) (k : Nat) (x : Int) : Prop := ∃ i : Nat, x = (i : Int) ∧ k ∈ fol g i
theorem bef_univ {g : Graph} (k : Nat) (x : Int) (h : BefP g k x) : x ∈ ints (List.range g.length) := by
  obtain ⟨i, rfl, hk⟩ := h
  exact List.mem_map.2 ⟨i, List.mem_range.2 (fol_from hk), rfl⟩
theorem put_one (ls : Graph) (x : Nat) (a : Int) : put ls x [a] [] = ls.set x (addL (row ls x) a) := by simp [put, passL]
theorem mat_add {w w1 : World} {B : Nat} {t : TypeId} {vs : List Value} {ls : Graph} {u : Value} {x : Nat} {a : Int} (hM : Mat w B t vs ls) (hF : Fresh w w1) (hu : Ints (fun b => b ≠ B ∨ w.heap.size ≤ b) w1 u (addL (row ls x) a)) (hx : x < ls.length) :
    Mat (w1.setCell ⟨B, x, none⟩ u) B t (vs.set x u) (ls.set x (addL (row ls x) a)) :=
  (hM.fresh hF).set hx (hu.imp fun b hb h => by
    rcases h with h | h
    · exact h
    · have := hM.lt; omega)
/-- What calls answer that make rows of rows. -/
def MatPost (n : Nat) (P : Nat → Int → Prop) (w : World) (e : Ending) (w' : World) : Prop := e = .returned (.slice (some ⟨w.heap.size, 0, none⟩) n n) ∧ ∃ vs ls, Mat w' w.heap.size 28 vs ls ∧ Exact n P ls ∧ Fresh w w'
theorem mat_start (w : World) (n : Nat) : Mat (w.alloc (.cells (List.replicate n (.slice none 0 0)).toArray 28)) w.heap.size 28 (List.replicate n (.slice none 0 0)) (List.replicate n []) := Mat.new w _ n
structure BS (g : Graph) (ls : Graph) (i : Nat) (pre : List Nat) : Prop where
  good : Sound g.length (BefP g) ls
  all : ∀ j, j < i → ∀ k ∈ fol g j, (j : Int) ∈ row ls k
  now : ∀ k ∈ pre, (i : Int) ∈ row ls k
section
variable {g ls : Graph} {i : Nat} {pre : List Nat}
theorem BS.start : BS g (List.replicate g.length []) 0 [] := ⟨Sound.start _ _, fun j hj => by omega, fun k hk => by simp at hk⟩
theorem BS.step (h : BS g ls i pre) {k : Nat} (hk : k ∈ fol g i) : BS g (ls.set k (addL (row ls k) i)) i (pre ++ [k]) := by
  have hl : k < ls.length := by rw [h.good.len]; exact fol_lt hk
  rw [← put_one]
  have gr := put_grows [(i : Int)] [] hl
  refine ⟨h.good.put (fol_lt hk) fun x hx _ => ?_, fun j hj k' hk' => gr.sub _ _ (h.all j hj k' hk'), fun k' hk' => ?_⟩
  · have : x = (i : Int) := by simpa using hx
    exact ⟨i, this, hk⟩
  · rcases List.mem_append.1 hk' with e | e
    · exact gr.sub _ _ (h.now k' e)
    · have : k' = k := by simpa using e
      rw [this]; exact put_has hl (by simp) (by simp)
theorem BS.next (h : BS g ls i (fol g i)) : BS g ls (i + 1) [] := ⟨h.good, fun j hj => by
    by_cases e : j = i
    · subst e; exact h.now
    · exact h.all j (by omega), fun k hk => by simp at hk⟩
theorem BS.exact (h : BS g ls g.length []) : Exact g.length (BefP g) ls := ⟨h.good.len, h.good.inc, fun i x => ⟨h.good.ok i x, fun ⟨j, e, hk⟩ => e ▸ h.all j (fol_from hk) i hk⟩⟩
theorem BS.row_le (h : BS g ls i pre) (hg : g.length ≤ 40) (x : Nat) : (row ls x).length ≤ 40 := by
  have := h.good.row_le _ bef_univ x
  rw [ints_len, List.length_range] at this
  omega
end
set_option maxHeartbeats 16000000 in
set_option maxRecDepth 100000 in
theorem beforeR_any {ok ok' : Nat → Prop} (v : Value) (g : Graph) (w : World) (hg : Sm g) (h : Rows2 ok ok' w v g) :
    Calls Try.prog 17 #[v] w (MatPost g.length (BefP g) w) := by
  have HR := Lib.hid h
  obtain ⟨p, cap, rfl, ⟨hc, hm⟩, _⟩ := h.form
  unfold maxLen at hm
  have hl := hg.len
  have HG := Lib.hid hg
  have hmk := run_rows g.length (by omega)
  have H0 : Hid (∀ w : World, Mat (w.alloc (.cells (List.replicate g.length (.slice none 0 0)).toArray 28)) w.heap.size 28 (List.replicate g.length (.slice none 0 0)) (List.replicate g.length [])) := Lib.hid (fun w => mat_start w g.length)
  clear h hg
  go_enter Try.func17, Try.ntmps17
  go_wp2
  clear hmk
  go_loopg [4] g.length (fun k s4 wi => ∃ (ls : Graph) (vs : List Value) (i : Nat), s4 = .int .i64 i ∧ i ≤ g.length ∧ k = g.length - i ∧ Hid (Mat wi w.heap.size 28 vs ls) ∧ Hid (Fresh w wi) ∧ Hid (BS g ls i []))
  case atStart => exact ⟨_, _, 0, rfl, by omega, rfl, Lib.hid (by simpa using H0.out w), Lib.hid ((Fresh.refl w).alloc _ _), Lib.hid BS.start⟩
  case round =>
    obtain ⟨ls, vs, i, rfl, hi, rfl, HM, HF, HS⟩ := hrel
    by_cases hlt : i < g.length
    · have hfl := HG.out.fol i
      go_wp2_with ((go_at_call 30; (with_reducible refine (follows_any _ g i _ hlt (by have := HG.out.row i; omega) (HR.out.fresh HF.out)).mono ?_); rintro e1 w1 ⟨u, rfl, hu, h1⟩; have HQ := Lib.hid (row_of_que (HM.out.lt) hu); have HM2 := Lib.hid (HM.out.fresh h1); have HF2 := Lib.hid (HF.out.trans h1); clear hu h1))
      obtain ⟨q, cap', hq, ⟨hc', hm'⟩, _⟩ := HQ.out.form
      unfold maxLen at hm'
      rw [ints_len] at hq hc'
      subst hq
      go_loopg [6] (fol g i).length (fun k s6 wx => ∃ (ls : Graph) (vs : List Value) (j : Nat), s6 = .int .i64 j ∧ j ≤ (fol g i).length ∧ k = (fol g i).length - j ∧ Hid (Mat wx w.heap.size 28 vs ls) ∧ Hid (Fresh w wx) ∧ Hid (Ints (· ≠ w.heap.size) wx (.slice q (fol g i).length cap') (ints (fol g i))) ∧ Hid (BS g ls i ((fol g i).take j)))
      case atStart => exact ⟨ls, vs, 0, rfl, by omega, rfl, HM2, HF2, HQ, HS⟩
      case round =>
        clear HM HF HS HM2 HF2 HQ
        obtain ⟨ls, vs, j, rfl, hj, rfl, HM3, HF3, HQ3, HS3⟩ := hrel
        by_cases hjl : j < (fol g i).length
        · obtain ⟨B', off', rfl, hB', hcell⟩ := nodes_cell HQ3.out hjl
          obtain ⟨x, hx⟩ : ∃ x, x = (fol g i)[j] := ⟨_, rfl⟩
          rw [← hx] at hcell
          have hxm : x ∈ fol g i := by rw [hx]; exact List.getElem_mem hjl
          have hxl : x < g.length := fol_lt hxm
          have HT := Lib.hid (take_one hjl)
          rw [← hx] at HT
          have HN := Lib.hid (HS3.out.step hxm)
          rw [← HT.out] at HN
          clear hx hxm
          have hll : x < ls.length := by rw [HS3.out.good.len]; exact hxl
          obtain ⟨y, hy, _, hyr⟩ := HM3.out.cell hll
          have hfz := HM3.out.frozen x
          have HL := Lib.hid hll
          have HC1 := Lib.hid hcell
          have HC2 := Lib.hid hy
          have HY := Lib.hid hyr
          have hrl := HS3.out.row_le hl x
          have E : Hid (Fresh wr wr.drew) := Lib.hid (Fresh.refl _).drew
          clear hll hcell hy hyr
          go_wp2
          have c1 := HC1.out
          have c2 := HC2.out
          go_region_with ((go_at_call 36; (with_reducible refine (add_sl _ (row ls x) i _ (HY.out.fresh E.out) (by omega)).mono ?_); rintro e w1 ⟨q9, n9, cc9, rfl, hy', h1⟩; have HY' := Lib.hid hy'; have E1 := Lib.hid h1; have E := Lib.hid (E.out.trans h1); clear hy' h1; have c8 := E.out.sts (fun _ => True) _ _ _ trivial HC1.out; have c9 := E.out.sts (fun _ => True) _ _ _ trivial HC2.out; have f9 := (HM3.out.fresh E.out).frozen x))
          all_goals
           have HM4 := Lib.hid (mat_add (HM3.out.fresh (Fresh.refl wr).drew) E1.out HY'.out HL.out)
           have HF4 := Lib.hid ((HF3.out.trans E.out).setCell (p := ⟨w.heap.size, x, none⟩) (Nat.le_refl _) (.slice q9 n9 cc9))
           have HQ4 := Lib.hid ((HQ3.out.fresh E.out).sts (sts_set _ w.heap.size x (.slice q9 n9 cc9)))
           clear c1 c2 c8 c9 f9 hfz
           go_wp2
           go_roundg ((fol g i).length - (j + 1))
           case measure => go_light; omega
           case rel => go_light; exact ⟨_, _, j + 1, by go_num, by omega, rfl, HM4, HF4, HQ4, HN⟩
        · have HN : Hid (BS g ls (i + 1) []) := by
            have := HS3.out
            rw [List.take_of_length_le (by omega)] at this
            exact Lib.hid this.next
          go_wp2
          go_roundg (g.length - (i + 1))
          case measure => go_light; omega
          case rel => go_light; exact ⟨ls, vs, i + 1, by go_num, by omega, rfl, HM3, HF3, HN⟩
    · obtain rfl : i = g.length := by omega
      have HE := Lib.hid HS.out.exact
      go_wp2
      go_ret
      exact ⟨rfl, vs, ls, HM.out, HE.out, HF.out⟩
end Go.Proofs.Ytlmlgdojmcmllaa
