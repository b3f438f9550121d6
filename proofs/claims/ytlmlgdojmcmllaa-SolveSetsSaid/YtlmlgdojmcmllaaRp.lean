/- What is asked of the program's own calls; the statement on graphs, out of it. -/
import Derived.Test.YtlmlgdojmcmllaaRo
namespace Go.Proofs.Ytlmlgdojmcmllaa
set_option linter.unusedSimpArgs false
set_option linter.unusedVariables false
open Go.RowKit
open Solve

abbrev T : Nat → Prop := fun _ => True
abbrev FixC : Prop := ∀ w : World, Calls Try.prog 8 #[] w fun e w' => e = .returned (.bool true) ∧ Fresh w w'
abbrev ReachC (f : FuncId) : Prop := ∀ (v : Value) (g : Graph) (entry : Int) (w : World), Sm g → Rows2 T T w v g →
  Calls Try.prog f #[v, .int .i64 entry] w fun e w' => ∃ q c b, e = .returned (.slice q (marks b).length c) ∧ Row T w' (.slice q (marks b).length c) (marks b) ∧ ReachB g entry b ∧ Fresh w w'
abbrev OrderC (f : FuncId) : Prop := ∀ (v : Value) (g : Graph) (entry : Int) (w : World), Sm g → Rows2 T T w v g →
  Calls Try.prog f #[v, .int .i64 entry] w fun e w' => ∃ u l, e = .returned u ∧ Ints T w' u (ints l) ∧ OrderB g entry l ∧ Fresh w w'
abbrev BeforeC (f : FuncId) : Prop := ∀ (v : Value) (g : Graph) (w : World), Sm g → Rows2 T T w v g →
  Calls Try.prog f #[v] w fun e w' => ∃ u ls, e = .returned u ∧ Rows2 T T w' u ls ∧ Exact g.length (BefP g) ls ∧ Fresh w w'
/-- All numbers are words. -/
def WdL (l : List Int) : Prop := ∀ x ∈ l, (Lit.int .i64 x).wf = true
def Wd (g : Graph) : Prop := ∀ i, WdL (row g i)
theorem wd_of {g : Graph} (h : (g.all fun l => l.all fun x => (Lit.int .i64 x).wf) = true) : Wd g := fun i x hx => by
  by_cases hi : i < g.length
  · have hr : row g i ∈ g := by
      unfold row List.getD
      rw [List.getElem?_eq_getElem hi]
      exact List.getElem_mem hi
    exact List.all_eq_true.1 (List.all_eq_true.1 h _ hr) x hx
  · rw [row_out (by omega)] at hx; simp at hx
theorem wdL_take {l : List Int} (h : WdL l) (n : Nat) : WdL (l.take n) := fun x hx => h x (List.mem_of_mem_take hx)
theorem wd_few {g : Graph} (h : Wd g) : Wd (fewG g) := fun i x hx => by
  by_cases hi : i < 40
  · rw [row_fewG hi] at hx; exact h i x (List.mem_of_mem_take hx)
  · rw [row_out (by have := fewG_len g; omega)] at hx; simp at hx
abbrev BackC (f : FuncId) : Prop := ∀ (v vu vs : Value) (g u s : Graph) (w : World), Sm g → Sm u → Sm s → Wd u → Wd s → Rows2 T T w v g → Rows2 T T w vu u → Rows2 T T w vs s →
  Calls Try.prog f #[v, vu, vs] w fun e w' => ∃ x ls, e = .returned x ∧ Rows2 T T w' x ls ∧ Exact g.length (BackP g u s) ls ∧ Fresh w w'
abbrev FwdC (f : FuncId) : Prop := ∀ (v vst vm ve : Value) (g : Graph) (entry : Int) (st : List Int) (m en : Graph) (w : World), Sm g → st.length ≤ 20 → Sm m → Sm en → WdL st → Wd m → Wd en → Rows2 T T w v g → Ints T w vst st → Rows2 T T w vm m → Rows2 T T w ve en →
  Calls Try.prog f #[v, .int .i64 entry, vst, vm, ve] w fun e w' => ∃ x ls, e = .returned x ∧ Rows2 T T w' x ls ∧ Exact g.length (FwdQ g entry st m en) ls ∧ Fresh w w'
theorem Rows2.any {ok ok' : Nat → Prop} {w : World} {v : Value} {g : Graph} (h : Rows2 ok ok' w v g) : Rows2 T T w v g := h.imp (fun _ _ _ => trivial) (fun _ _ _ => trivial)
theorem Ints.any {ok : Nat → Prop} {w : World} {v : Value} {l : List Int} (h : Ints ok w v l) : Ints T w v l := h.imp fun _ _ _ => trivial
theorem marks_len (b : List Bool) : (marks b).length = b.length := by simp [marks]
theorem Mrk.row {w : World} {g : Nat} {t : TypeId} {b : List Bool} (h : Mrk w g t b) (hb : b.length ≤ maxLen) : Row T w (.slice (some ⟨g, 0, none⟩) b.length b.length) (marks b) :=
  ⟨_, b.length, by rw [marks_len], ⟨by rw [marks_len]; exact Nat.le_refl _, hb⟩, Or.inr ⟨g, 0, rfl, trivial, fun i u hu => by
    rw [cell_of_row w g (0 + i) _ t (0, 0) h.blk]; simpa using hu⟩⟩
theorem marks_cell {w : World} {q : Option Addr} {b : List Bool} {n c i : Nat} (h : Row T w (.slice q n c) (marks b)) (hi : i < b.length) : ∃ B off, q = some ⟨B, off, none⟩ ∧ w.cell? ⟨B, off + i, none⟩ = some (.bool (flag b i)) := by
  obtain ⟨p, cap, hv, _, hr⟩ := h
  cases hv
  have hx : (marks b)[i]? = some (.bool (flag b i)) := by simp [marks, flag, List.getD, hi]
  rcases hr with hr | ⟨B, off, hp, _, hh⟩
  · rw [hr] at hx; simp at hx
  · exact ⟨B, off, hp, hh i _ hx⟩
theorem reachR_c : ReachC 11 := fun v g entry w hg h => (reachR_any v g entry w hg h).mono fun e w' ⟨he, b, hb, hr, hf⟩ => by
  have hl := hr.1
  have := hg.len
  refine ⟨some ⟨w.heap.size, 0, none⟩, b.length, b, by rw [marks_len, hl]; exact he, ?_, hr, hf⟩
  rw [marks_len]
  exact hb.row (by simp only [maxLen]; omega)
theorem orderR_c : OrderC 14 := fun v g entry w hg h => (orderR_any v g entry w hg h).mono fun e w' ⟨u, he, l, hq, ho, hf⟩ => ⟨u, l, he, hq.ints, ho, hf⟩
theorem matPost_c {n : Nat} {P : Nat → Int → Prop} {w w' : World} {e : Ending} (hn : n ≤ 1000) (h : MatPost n P w e w') : ∃ u ls, e = .returned u ∧ Rows2 T T w' u ls ∧ Exact n P ls ∧ Fresh w w' := by
  obtain ⟨he, vs, ls, hm, hx, hf⟩ := h
  refine ⟨_, ls, he, ?_, hx, hf⟩
  have := hm.rows n ⟨by rw [hx.len]; omega, by simp only [maxLen]; omega⟩
  rw [hx.len] at this
  exact this.any
theorem beforeR_c : BeforeC 17 := fun v g w hg h => (beforeR_any v g w hg h).mono fun e w' hp => matPost_c (by have := hg.len; omega) hp
theorem backR_c : BackC 19 := fun v vu vs g u s w hg hu _ _ _ h h1 h2 => (backR_any v vu vs g u s w hg hu h h1 h2).mono fun e w' hp => matPost_c (by have := hg.len; omega) hp
theorem fwdR_c : FwdC 21 := fun v vst vm ve g entry st m en w hg hst hm _ _ _ _ h h1 h2 h3 => (fwdR_any v vst vm ve g entry st m en w hg hst hm h h1 h2 h3).mono fun e w' hp => matPost_c (by have := hg.len; omega) hp
set_option maxHeartbeats 16000000 in
set_option maxRecDepth 100000 in
theorem graphs_any {ok ok' : Nat → Prop} (hfix : FixC) (hR : ReachC 10) (hO : OrderC 13) (hB : BeforeC 16) (v : Value) (g0 : Graph) (entry : Int) (w : World) (h : Rows2 ok ok' w v g0) :
    Calls Try.prog 3 #[v, .int .i64 entry] w fun e w' => e = .returned (.bool true) ∧ Fresh w w' := by
  have HFX := Lib.hid hfix
  have HPR := Lib.hid hR
  have HPO := Lib.hid hO
  have HPB := Lib.hid hB
  have HV := Lib.hid h.any
  have HRR := Lib.hid reachR_c
  have HRO := Lib.hid orderR_c
  have HRB := Lib.hid beforeR_c
  have HG := Lib.hid (sm_few g0)
  have HGG := Lib.hid (fewG_few g0)
  clear hfix hR hO hB h
  go_enter Try.func3, Try.ntmps3
  go_wp2_with fail
  go_at_call 8; (with_reducible refine (HFX.out _).mono ?_); rintro e w1 ⟨rfl, h1⟩; have E1 := Lib.hid h1; clear h1
  go_wp2_with fail
  go_at_call 9; (with_reducible refine (few_any _ g0 _ (HV.out.fresh E1.out)).mono ?_); rintro e w2 ⟨n1, rfl, hn, h2⟩; have HN1 := Lib.hid hn.any; have E2 := Lib.hid (E1.out.trans h2); clear hn h2 E1
  go_wp2_with fail
  go_at_call 9; (with_reducible refine (few_any _ (fewG g0) _ HN1.out).mono ?_); rintro e w3 ⟨n2, rfl, hn, h2⟩; rw [HGG.out] at hn; have HN2 := Lib.hid hn.any; have HN1b := Lib.hid (HN1.out.fresh h2); have E3 := Lib.hid (E2.out.trans h2); clear hn h2 E2 HN1
  obtain ⟨g, hgd⟩ : ∃ g, g = fewG g0 := ⟨_, rfl⟩
  rw [← hgd] at HN1b HN2 HG
  clear hgd HGG
  have hl := HG.out.len
  go_wp2_with fail
  go_at_call 10; (with_reducible refine (HPR.out _ g entry _ HG.out HN2.out).mono ?_); rintro e w4 ⟨q1, c1, b1, rfl, hr, hb, h2⟩; have HR1 := Lib.hid hr; have HB1 := Lib.hid hb; have HN1c := Lib.hid (HN1b.out.fresh h2); have HN2c := Lib.hid (HN2.out.fresh h2); have E4 := Lib.hid (E3.out.trans h2); clear hr hb h2 E3 HN1b HN2
  go_wp2_with fail
  go_at_call 11; (with_reducible refine (HRR.out _ g entry _ HG.out HN1c.out).mono ?_); rintro e w5 ⟨q2, c2, b2, rfl, hr, hb, h2⟩; have HR2 := Lib.hid hr; have HB2 := Lib.hid (HB1.out.unique hb); have HR1b := Lib.hid (HR1.out.fresh h2); have HN1d := Lib.hid (HN1c.out.fresh h2); have HN2d := Lib.hid (HN2c.out.fresh h2); have E5 := Lib.hid (E4.out.trans h2); clear hr hb h2 E4 HN1c HN2c HR1
  obtain rfl := HB2.out
  have hbl : b1.length ≤ 40 := by rw [HB1.out.1]; exact hl
  have hml := marks_len b1
  obtain ⟨n9, hn9⟩ : ∃ n9, n9 = (marks b1).length := ⟨_, rfl⟩
  rw [← hn9] at HR1b HR2 hml
  rw [← hn9]
  clear hn9
  have hn9 : n9 ≤ 40 := by omega
  have HML := Lib.hid hml
  clear hml HB1 HB2
  go_wp2_with fail
  go_at_call 13; (with_reducible refine (HPO.out _ g entry _ HG.out HN2d.out).mono ?_); rintro e w6 ⟨o1, l1, rfl, ho, hb, h2⟩; have HO1 := Lib.hid ho; have HOB := Lib.hid hb; have F6 := Lib.hid h2; clear ho hb h2
  go_wp2_with fail
  go_at_call 14; (with_reducible refine (HRO.out _ g entry _ HG.out (HN1d.out.fresh F6.out)).mono ?_); rintro e w7 ⟨o2, l2, rfl, ho, hb, h2⟩; have HO2 := Lib.hid ho; have HOE := Lib.hid (HOB.out.unique hb); have HO1b := Lib.hid (HO1.out.fresh h2); have F7 := Lib.hid (F6.out.trans h2); clear ho hb h2 HO1 F6
  obtain rfl := HOE.out
  go_wp2_with fail
  go_at_call 12; (with_reducible refine (same_any _ _ (ints l1) _ HO1b.out HO2.out).mono ?_); rintro e w8 ⟨rfl, h2⟩; have F8 := Lib.hid (F7.out.trans h2); clear h2 F7 HO1b HO2
  go_wp2_with fail
  go_at_call 16; (with_reducible refine (HPB.out _ g _ HG.out (HN2d.out.fresh F8.out)).mono ?_); rintro e w9 ⟨p1, k1, rfl, ho, hb, h2⟩; have HP1 := Lib.hid ho; have HPX := Lib.hid hb; have F9 := Lib.hid (F8.out.trans h2); clear ho hb h2 F8
  go_wp2_with fail
  go_at_call 17; (with_reducible refine (HRB.out _ g _ HG.out (HN1d.out.fresh F9.out)).mono ?_); rintro e w10 ⟨p2, k2, rfl, ho, hb, h2⟩; have HP2 := Lib.hid ho; have HPE := Lib.hid (HPX.out.unique hb); have HP1b := Lib.hid (HP1.out.fresh h2); have F10 := Lib.hid (F9.out.trans h2); clear ho hb h2 HP1 F9
  obtain rfl := HPE.out
  go_wp2_with fail
  go_at_call 15; (with_reducible refine (same2_any _ _ k1 _ HP1b.out HP2.out).mono ?_); rintro e w11 ⟨rfl, h2⟩; have F11 := Lib.hid (F10.out.trans h2); clear h2 F10 HP1b HP2
  go_wp2_with fail
  have HRa := Lib.hid (HR1b.out.fresh F11.out)
  have HRb := Lib.hid (HR2.out.fresh F11.out)
  go_loopw [46] (fun i wr => ∃ k : Nat, k ≤ n9 ∧ i = .int .i64 k ∧ Hid (Fresh w11 wr)) (fun i _ => n9 - (intOf i).toNat)
  case atStart => exact ⟨0, Nat.zero_le _, rfl, Lib.hid (Fresh.refl _)⟩
  case round =>
    obtain ⟨k, hk, rfl, HF⟩ := hrel
    by_cases hlt : k < n9
    · have hkb : k < b1.length := by have := HML.out; omega
      obtain ⟨B, off, rfl, hc1⟩ := marks_cell HRa.out hkb
      obtain ⟨B', off', rfl, hc2⟩ := marks_cell HRb.out hkb
      have c1' := HF.out.sts T _ _ _ trivial hc1
      have c2' := HF.out.sts T _ _ _ trivial hc2
      obtain ⟨x, hx⟩ : ∃ x, x = flag b1 k := ⟨_, rfl⟩
      rw [← hx] at c1' c2'
      clear hc1 hc2 hx
      go_wp2
      go_quiet (fail)
      go_wp2
      go_roundw
      case rel => exact ⟨k + 1, by omega, by go_num, Lib.hid (HF.out.drewN _)⟩
      case measure => simp [intOf]; omega
    · go_wp2_with (go_at_call 15; (with_reducible refine (same2_any _ _ g _ (HN2d.out.fresh (F11.out.trans HF.out)) (HN1d.out.fresh (F11.out.trans HF.out))).mono ?_); rintro e w12 ⟨rfl, h2⟩; have F12 := Lib.hid (E5.out.trans (F11.out.trans (HF.out.trans h2))); clear h2)
      go_ret
      exact ⟨rfl, F12.out⟩
end Go.Proofs.Ytlmlgdojmcmllaa
