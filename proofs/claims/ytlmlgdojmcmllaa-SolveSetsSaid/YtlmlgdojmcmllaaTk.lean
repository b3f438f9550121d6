/- The order, by the program. -/
import Derived.Test.YtlmlgdojmcmllaaTj
namespace Go.Proofs.Ytlmlgdojmcmllaa
set_option linter.unusedSimpArgs false
set_option linter.unusedVariables false
open Go.RowKit
open Solve

set_option maxHeartbeats 16000000 in
set_option maxRecDepth 100000 in
theorem orderP_any : OrderC 13 := by
  intro v g entry w hg h
  have HG := Lib.hid hg
  have HR := Lib.hid h
  obtain ⟨p, cap, rfl, ⟨hc, hm⟩, _⟩ := h.form
  unfold maxLen at hm
  have hgl := hg.len
  obtain ⟨i0, hi0, hz0, hz1, hz2⟩ := info_parts int_info
  clear h hg
  go_enter Try.func13, Try.ntmps13
  go_upto_region 5 with (go_at_call 26; (with_reducible refine (newVisit_any g.length (by omega) _).mono ?_); rintro e w1 ⟨V, B, rfl, hV, hb, h1⟩; have HV := Lib.hid hV; have HB := Lib.hid hb; have H1 := Lib.hid h1; clear hV hb h1)
  have HE : Hid (EO w w.heap.size (w.heap.size + 1) w1.heap.size B g.length (.slice p g.length cap) (w1.alloc (.cells #[.pointer (some ⟨B, 0, none⟩)] 39)) V [] (.slice none 0 0) [] (.slice none 0 0) []) := Lib.hid (by
    have hf := H1.out
    have hz := hf.size
    have hzz : ((w.alloc (Obj.cells #[Value.slice p g.length cap] 22)).alloc (Obj.cells #[Value.slice none 0 0] 46)).heap.size = w.heap.size + 2 := by simp
    rw [hzz] at hz
    have hb : ∀ k, V k → w.heap.size + 2 ≤ k := fun k hk => by have := HB.out k hk; rw [hzz] at this; exact this
    have x2 : ((w.alloc (Obj.cells #[Value.slice p g.length cap] 22)).alloc (Obj.cells #[Value.slice none 0 0] 46)).heap[w.heap.size]? = some (.cells #[Value.slice p g.length cap] 22 (0, 0)) := by
      rw [Below.heap_alloc _ _ _ (by simp)]; exact heap_alloc_new w _
    have x6 : ((w.alloc (Obj.cells #[Value.slice p g.length cap] 22)).alloc (Obj.cells #[Value.slice none 0 0] 46)).heap[w.heap.size + 1]? = some (.cells #[Value.slice none 0 0] 46 (0, 0)) := by
      have := heap_alloc_new (w.alloc (Obj.cells #[Value.slice p g.length cap] 22)) (Obj.cells #[Value.slice none 0 0] 46)
      rwa [show (w.alloc (Obj.cells #[Value.slice p g.length cap] 22)).heap.size = w.heap.size + 1 by simp] at this
    have ha : Fresh w1 (w1.alloc (.cells #[.pointer (some ⟨B, 0, none⟩)] 39)) := (Fresh.refl _).alloc _ _
    refine ⟨HV.out.fresh ha, ⟨rfl, Or.inl ⟨rfl, rfl⟩⟩, .nil _ _ _, fun s hs => by simp at hs, ?_, ?_, heap_alloc_new w1 _, (((Fresh.refl w).alloc _ _).alloc _ _).trans (hf.trans ha), fun k hk => by have := hb k hk; omega, fun k hk => ?_, (fun k hk => by cases hk), (fun k hk => by cases hk), ⟨by omega, by omega, by omega⟩⟩
    · rw [ha.below.block _ (by omega), hf.below.block _ (by rw [hzz]; omega)]; exact x2
    · rw [ha.below.block _ (by omega), hf.below.block _ (by rw [hzz]; omega)]; exact x6
    · have := hb k hk
      have := HV.out.lt k hk
      exact ⟨by omega, by omega, by omega, (fun e => by cases e), (fun e => by cases e)⟩)
  obtain ⟨W, hW⟩ : ∃ W, W = w1.alloc (.cells #[.pointer (some ⟨B, 0, none⟩)] 39) := ⟨_, rfl⟩
  obtain ⟨P2, hP2⟩ : ∃ P2, P2 = w.heap.size := ⟨_, rfl⟩
  obtain ⟨P6, hP6⟩ : ∃ P6, P6 = w.heap.size + 1 := ⟨_, rfl⟩
  obtain ⟨P7, hP7⟩ : ∃ P7, P7 = w1.heap.size := ⟨_, rfl⟩
  rw [← hW, ← hP6, ← hP7, ← hP2] at HE
  rw [← hW, ← hP6, ← hP7, ← hP2]
  clear hW hP2 hP6 hP7 HV HB H1
  go_upto_region 6 with (go_at_call 31; (with_reducible refine (order1_any w P2 P6 P7 B g _ _ V [] _ [] _ [] entry HG.out HR.out HE.out (Nat.le_refl _)).mono ?_); rintro e w2 ⟨rfl, V2, ov2, st2, h2, h3, h4⟩; have HE2 := Lib.hid h2; have HI2 := Lib.hid (OI.start h3 h4); clear h2 h3 h4 HE)
  go_loopg [5] (mea2 g.length (comeL g.length [] entry) st2) (fun k s5 wr => ∃ (V : Nat → Prop) (l : List Nat) (ov : Value) (st : List Stp) (ord : List Nat), k = mea2 g.length l st ∧ Hid (EO w P2 P6 P7 B g.length (.slice p g.length cap) wr V l ov st s5 ord) ∧ Hid (OI g entry l st ord))
  case atStart => exact ⟨V2, _, ov2, st2, [], rfl, HE2, HI2⟩
  case round =>
    clear HE2 HI2
    obtain ⟨V, l, ov, st, ord, rfl, HE, HI⟩ := hrel
    have h6 := HE.out.h6
    have c6 : wr.cell? ⟨P6, 0, none⟩ = some ov := by rw [cell_of_row wr P6 0 _ 46 (0, 0) h6]; rfl
    have hlen := HI.out.len
    have hln := HE.out.vst.len
    clear h6
    rcases List.eq_nil_or_concat st with rfl | ⟨st0, ⟨k, rv, r⟩, rfl⟩
    · obtain ⟨q, c, rfl⟩ := HE.out.void
      have HQ := Lib.hid HE.out.ord
      have HF := Lib.hid HE.out.fr
      have HD := Lib.hid HI.out.done
      have hil := ints_len ord
      go_wp2_with (go_at_call 32; (with_reducible refine (reverse_q u5 w.heap.size (ints ord) _ HQ.out (by rw [ints_len]; simp at hlen; omega)).mono ?_); rintro e w3 ⟨rfl, h3, k3⟩; have HQ3 := Lib.hid h3; have HK3 := Lib.hid k3; clear h3 k3)
      go_ret
      refine ⟨u5, ord.reverse, rfl, ?_, HD.out, HK3.out.fresh HF.out fun k hk => (HE.out.d3 k hk).1⟩
      have e : ints ord.reverse = (ints ord).reverse := by simp [ints]
      rw [e]; exact HQ3.out.ints
    · rw [List.concat_eq_append] at HE HI hlen
      have hnl : st0.length + 1 ≤ 40 := by simp at hlen; omega
      obtain ⟨S, oc, rfl, hoc, hocm, ck, cr, fr, hset, hpop⟩ := HE.out.top
      have HSET := Lib.hid hset
      have HPOP := Lib.hid hpop
      have hrr : Ints T w rv r := HE.out.rest (k, rv, r) (by simp)
      obtain ⟨q, c, rfl, ⟨hrc, hrm⟩, _⟩ := hrr.form
      have HRR := Lib.hid hrr
      unfold maxLen at hrm
      clear hset hpop hrr
      cases r with
      | nil =>
        have HQ := Lib.hid HE.out.ord
        obtain ⟨hI, hM⟩ := HI.out.pop
        have HI2 := Lib.hid hI
        have HM := Lib.hid hM
        have hil := ints_len ord
        have hol : ord.length ≤ 40 := by simp at hlen; omega
        clear hI hM
        go_upto_region 9 with fail
        go_upto_region 10 with (at_builtin; refine wpList_app _ rfl (.tmp 32) (.tmp 37) _ rfl w.heap.size 3 i0 (.int .i64 0) 8 Try.underlying28 hi0 hz0 hz1 hz2 rfl _ _ rfl (HQ.out.alloc _ _) _ [Value.int IntKind.i64 (k : Int)] rfl (news_one _ _ _ _) (by intro y hy; simp at hy; subst hy; rfl) (by simp only [nums_len, ints_len, List.length_singleton, maxLen]; omega) (by simp only [nums_len, ints_len, List.length_singleton]; omega) (by simp; have := HE.out.fr.size; omega) ?_; intro u2 w2 hq2 hg2 ha2; have HE2 := Lib.hid (HE.out.put ((Fresh.refl _).alloc _ _) hq2 hg2 ha2); clear hq2 hg2 ha2)
        obtain ⟨S', oc', heq, _, _, _, _, _, _, hpop2⟩ := HE2.out.top
        cases heq
        have HP2 := Lib.hid hpop2
        have h62 := HE2.out.h6
        have d6 : w2.cell? ⟨P6, 0, none⟩ = some (.slice (some ⟨S, 0, none⟩) (st0.length + 1) oc) := by rw [cell_of_row w2 P6 0 _ 46 (0, 0) h62]; rfl
        have f6 := frozen_of h62 0
        clear hpop2 h62 c6 ck cr fr
        have hs1 : ((st0.length + 1 : Nat) : Int) - 1 = (st0.length : Int) := by omega
        go_wp2
        go_roundg (mea2 g.length l st0)
        case measure => go_light; rw [List.concat_eq_append]; exact HM.out
        case rel => go_light; exact ⟨V, l, _, st0, ord ++ [k], rfl, HP2, HI2⟩
      | cons x r =>
        obtain ⟨L, o, rfl, _, ex0⟩ := ints_cell (HRR.out.fresh HE.out.fr) (j := 0) (by simp)
        have ex : wr.cell? ⟨L, o, none⟩ = some (.int .i64 x) := by simpa using ex0
        clear ex0
        have hxr : (x :: r).length = r.length + 1 := rfl
        have hlt : isNew g.length l x = true → l.length < g.length := fun hn => by
          simp only [isNew, decide_eq_true_eq] at hn
          have := nat_sub (a := x.toNat :: l) (b := List.range g.length) (List.nodup_cons.2 ⟨hn.2.2, HE.out.vst.nd⟩) fun y hy => by
            rcases List.mem_cons.1 hy with e | e
            · rw [e]; exact List.mem_range.2 (by omega)
            · exact List.mem_range.2 (HE.out.vst.node y e)
          rw [List.length_range] at this
          simp at this; omega
        have HD := HRR.out.drop 1 (by simp)
        rw [hxr] at cr hrc
        by_cases hc1 : c = 1
        · subst hc1
          have hr0 : r.length = 0 := by omega
          obtain rfl : r = [] := List.eq_nil_of_length_eq_zero hr0
          clear hr0
          have HD : Ints T w (.slice (some ⟨L, o, none⟩) 0 0) [] := by simpa using HD
          have HE1 := Lib.hid (HSET.out (.slice (some ⟨L, o, none⟩) 0 0) [] HD)
          have HL := Lib.hid (show (st0 ++ [(k, Value.slice (some ⟨L, o, none⟩) 0 0, [])]).length ≤ l.length by simp at hlen ⊢; omega)
          clear HD
          go_upto_region 13 with fail
          obtain ⟨W, hW⟩ : ∃ W, W = wr.setCell ⟨S, st0.length * 2 + 1, none⟩ (.slice (some ⟨L, o, none⟩) 0 0) := ⟨_, rfl⟩
          rw [← hW] at HE1
          rw [← hW]
          clear hW ck cr fr ex c6
          go_wp2_with (go_at_call 31; (with_reducible refine (order1_any w P2 P6 P7 B g _ W V l _ _ _ ord x HG.out HR.out HE1.out HL.out).mono ?_); rintro e w2 ⟨rfl, V2, ov2, st2, h2, h3, h4⟩; have HE2 := Lib.hid h2; have HN := Lib.hid (HI.out.next HG.out hln hlt h3 h4); clear h2 h3 h4)
          go_roundg (mea2 g.length (comeL g.length l x) st2)
          case measure => go_light; rw [List.concat_eq_append]; exact HN.out.2
          case rel => go_light; exact ⟨V2, _, ov2, st2, ord, rfl, HE2, Lib.hid HN.out.1⟩
        · rw [if_neg hc1] at HD
          have HD : Ints T w (.slice (some ⟨L, o + 1, none⟩) r.length (c - 1)) r := by simpa using HD
          have HE1 := Lib.hid (HSET.out (.slice (some ⟨L, o + 1, none⟩) r.length (c - 1)) r HD)
          have HL := Lib.hid (show (st0 ++ [(k, Value.slice (some ⟨L, o + 1, none⟩) r.length (c - 1), r)]).length ≤ l.length by simp at hlen ⊢; omega)
          clear HD
          go_upto_region 13 with fail
          obtain ⟨W, hW⟩ : ∃ W, W = wr.setCell ⟨S, st0.length * 2 + 1, none⟩ (.slice (some ⟨L, o + 1, none⟩) r.length (c - 1)) := ⟨_, rfl⟩
          rw [← hW] at HE1
          rw [← hW]
          clear hW ck cr fr ex c6
          go_wp2_with (go_at_call 31; (with_reducible refine (order1_any w P2 P6 P7 B g _ W V l _ _ _ ord x HG.out HR.out HE1.out HL.out).mono ?_); rintro e w2 ⟨rfl, V2, ov2, st2, h2, h3, h4⟩; have HE2 := Lib.hid h2; have HN := Lib.hid (HI.out.next HG.out hln hlt h3 h4); clear h2 h3 h4)
          go_roundg (mea2 g.length (comeL g.length l x) st2)
          case measure => go_light; rw [List.concat_eq_append]; exact HN.out.2
          case rel => go_light; exact ⟨V2, _, ov2, st2, ord, rfl, HE2, Lib.hid HN.out.1⟩
end Go.Proofs.Ytlmlgdojmcmllaa
