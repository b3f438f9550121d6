/- All things of a flow, walked. -/
import Derived.Test.YtlmlgdojmcmllaaUj
namespace Go.Proofs.Ytlmlgdojmcmllaa
set_option linter.unusedSimpArgs false
set_option linter.unusedVariables false
open Go.RowKit
open Solve

set_option maxHeartbeats 16000000 in
set_option maxRecDepth 100000 in
theorem things_any (d : FD) (w : World) (R : Nat → Prop) (h : Flo d w R) :
    Calls Try.prog 43 #[.pointer (some ⟨d.fb, 0, none⟩)] w fun e w' => ∃ u ts, e = .returned u ∧ Que w' w.heap.size 3 u (nums ts) ∧ Inc ts ∧ ts.length ≤ 3000 ∧ (∀ a ∈ ts, Key a) ∧ (∀ a, Key a → (a ∈ ts ↔ ((d.Fm a).isSome = true ∨ d.S a = true))) ∧ Fresh w w' := by
  have HF := Lib.hid h
  have cf1 := h.cs.2.1
  obtain ⟨n2, f2, hn2, hm2, hs2⟩ := h.hs
  have HM2 := Lib.hid hm2
  have HS2 := Lib.hid hs2
  have hnm := h.nm
  obtain ⟨i0, hi0, hz0, hz1, hz2⟩ := info_parts int_info
  clear h hm2 hs2
  go_enter Try.func43, Try.ntmps43
  go_wp2_with (at_range; refine wpList_rangeF rfl _ 58 rfl 3 60 Try.underlying3 Try.underlying58 (some d.mb) d.nm d.Fm rfl HF.out.hm.map ?_; intro w1 cnt hit hgr hsz hcn; have HIT := Lib.hid hit; have HGR := Lib.hid hgr; have HCN := Lib.hid hcn; clear hit hgr hsz hcn)
  try go_frame
  have HTH : Hid (TH w w1 (.slice none 0 0) [] (some d.mb) w.heap.size (fun a => (d.Fm a).isSome) cnt (fun a => (d.Fm a).isSome) 1000) := Lib.hid ⟨.nil _ _ _, HIT.out, by have := HCN.out; simp; omega, fun a ha => by simp at ha, fun a _ => by simp, (Fresh.refl w).grown HGR.out fun k e => (by cases e), Nat.le_refl _, fun b e => by injection e with e; rw [← e]; exact HF.out.lt _ HF.out.hm.rb⟩
  obtain ⟨r, hr⟩ : ∃ r, r = w.heap.size := ⟨_, rfl⟩
  rw [← hr]
  have HTH : Hid (TH w w1 (.slice none 0 0) [] (some d.mb) r (fun a => (d.Fm a).isSome) cnt (fun a => (d.Fm a).isSome) 1000) := Lib.hid (by rw [hr]; exact HTH.out)
  clear hr HIT HGR HCN cf1
  have hm3 : ∀ {wx : World}, Fresh w wx → MapO Try.prog 3 wx d.so n2 f2 := fun hf => HM2.out.block fun b e => hf.below.block b (HF.out.lt b (HF.out.rs b e))
  have HOB : Hid (∀ b, d.so = some b → b < w.heap.size) := Lib.hid (fun b e => HF.out.lt b (HF.out.rs b e))
  go_loopg [3] cnt (fun k s3 wr => ∃ (ts : List Int) (S : Int → Bool), Hid (TH w wr s3 ts (some d.mb) r S k (fun a => (d.Fm a).isSome) 1000))
  case atStart => exact ⟨_, _, HTH⟩
  case round =>
    clear HTH
    obtain ⟨ts, S, HTH⟩ := hrel
    go_wp2_with (at_next; refine wpList_nextF rfl _ rfl Try.underlying3 (some d.mb) r S _ rfl HTH.out.it ?_ ?_)
    · intro hdone
      have HD := Lib.hid hdone
      clear hdone
      have HFL := Lib.hid (HF.out.keep (D := fun _ => False) (.of HTH.out.fr) fun _ _ => id)
      have cf4 := HFL.out.cs.2.2.2.2.1
      have HM3 := Lib.hid (hm3 HTH.out.fr)
      go_wp2_with (at_range; refine wpList_rangeF rfl _ 60 rfl 3 68 Try.underlying3 Try.underlying60 d.so n2 f2 rfl HM3.out ?_; intro w7 cnt7 hit hgr hsz hcn; have HIT := Lib.hid hit; have HGR := Lib.hid hgr; have HCN := Lib.hid hcn; clear hit hgr hsz hcn)
      try go_frame
      have HT7 : Hid (TH w w7 u3 ts d.so wr.heap.size (fun a => (f2 a).isSome) cnt7 (fun a => (d.Fm a).isSome || (f2 a).isSome) 2000) := Lib.hid (by
        have hf : Fresh wr w7 := (Fresh.refl wr).grown HGR.out fun k e => by cases e
        have hl := HTH.out.len
        have hc := HCN.out
        exact ⟨HTH.out.q.fresh hf, HIT.out, by omega, HTH.out.key, fun a ha => by
          have h1 := HTH.out.all a ha
          rw [HD.out a ha] at h1
          simp only [Bool.or_eq_true]
          rw [h1]; simp, HTH.out.fr.trans hf, HTH.out.fr.size, HOB.out⟩)
      obtain ⟨r2, hr2⟩ : ∃ r2, r2 = wr.heap.size := ⟨_, rfl⟩
      rw [← hr2]
      have HT7 : Hid (TH w w7 u3 ts d.so r2 (fun a => (f2 a).isSome) cnt7 (fun a => (d.Fm a).isSome || (f2 a).isSome) 2000) := Lib.hid (by rw [hr2]; exact HT7.out)
      clear hr2 HIT HGR HCN cf4 HD HTH HFL HM3
      have HTH := HT7
      clear HT7
      go_loopg [3] cnt7 (fun k s3 wr => ∃ (ts : List Int) (S : Int → Bool), Hid (TH w wr s3 ts (d.so) r2 S k (fun a => (d.Fm a).isSome || (f2 a).isSome) 2000))
      case atStart => exact ⟨_, _, HTH⟩
      case round =>
        clear HTH
        obtain ⟨ts, S, HTH⟩ := hrel
        go_wp2_with (at_next; refine wpList_nextF rfl _ rfl Try.underlying3 (d.so) r2 S _ rfl HTH.out.it ?_ ?_)
        · intro hdone
          have HD := Lib.hid hdone
          clear hdone
          have HQL := Lib.hid HTH.out.q
          have hlb : ts.length ≤ 3000 := by have := HTH.out.len; omega
          go_wp2_with (first | (go_at_call 47; (with_reducible refine (sort_q _ w.heap.size ts _ HQL.out (by omega)).mono ?_); rintro e w8 ⟨rfl, h8, k8⟩; have HQ8 := Lib.hid h8; have HK8 := Lib.hid k8; clear h8 k8) | (go_at_call 48; (with_reducible refine (compact_q _ w.heap.size (ts.mergeSort fun x y => decide (x ≤ y)) _ HQ8.out (by simp; omega)).mono ?_); rintro e w9 ⟨v9, rfl, h9, k9⟩; have HQ9 := Lib.hid h9; have HK9 := Lib.hid k9; clear h9 k9))
          go_ret
          obtain ⟨s1, s2⟩ := sorted_compact ts
          have f8 := HK8.out.fresh HTH.out.fr fun k hk => (HQL.out.lt k hk).1
          have f9 := HK9.out.fresh f8 fun k hk => (HQ8.out.lt k hk).1
          refine ⟨_, _, rfl, HQ9.out, s1, ?_, fun a ha => HTH.out.key a ((s2 a).1 ha), fun a ha => ?_, f9⟩
          · have h1 := compact_len (ts.mergeSort fun x y => decide (x ≤ y))
            rw [List.length_mergeSort] at h1
            omega
          · have h1 := HTH.out.all a ha
            rw [HD.out a ha, Bool.or_eq_true, (HS2.out a ha).1] at h1
            rw [s2 a, h1]; simp
        · intro a v w6 cnt' hka hsa hit hlt hgr hsz hen
          have HKA := Lib.hid hka
          have HSA := Lib.hid hsa
          have HIT6 := Lib.hid hit
          have HLT := Lib.hid hlt
          have HQ6 := Lib.hid (HTH.out.next (cnt' := 0) hgr)
          have hbl : ts.length ≤ 2000 := by have := HTH.out.len; omega
          clear hka hsa hit hgr hsz hlt
          go_wp2_with (at_builtin; refine wpList_app _ rfl (.tmp 28) (.tmp 30) _ rfl w.heap.size 3 i0 (.int .i64 0) 8 Try.underlying28 hi0 hz0 hz1 hz2 rfl _ _ rfl (HQ6.out.1.alloc _ _) _ [Value.int IntKind.i64 a] rfl (news_one _ _ _ _) (by intro y hy; simp at hy; subst hy; rfl) (by simp only [nums_len, List.length_singleton, maxLen]; omega) (by simp only [nums_len, List.length_singleton]; omega) (by simp; have := HQ6.out.2.size; omega) ?_; intro u2 w2 hq2 hg2 ha2; have HT2 := Lib.hid (HTH.out.put HKA.out HSA.out HLT.out HIT6.out HQ6.out.1 HQ6.out.2 ((Fresh.refl _).alloc _ _) hq2 hg2); clear hq2 hg2 ha2)
          go_roundg cnt'
          case measure => exact HLT.out
          case rel => go_light; exact ⟨_, _, HT2⟩
    · intro a v w6 cnt' hka hsa hit hlt hgr hsz hen
      have HKA := Lib.hid hka
      have HSA := Lib.hid hsa
      have HIT6 := Lib.hid hit
      have HLT := Lib.hid hlt
      have HQ6 := Lib.hid (HTH.out.next (cnt' := 0) hgr)
      have hbl : ts.length ≤ 2000 := by have := HTH.out.len; omega
      clear hka hsa hit hgr hsz hlt
      go_wp2_with (at_builtin; refine wpList_app _ rfl (.tmp 15) (.tmp 17) _ rfl w.heap.size 3 i0 (.int .i64 0) 8 Try.underlying28 hi0 hz0 hz1 hz2 rfl _ _ rfl (HQ6.out.1.alloc _ _) _ [Value.int IntKind.i64 a] rfl (news_one _ _ _ _) (by intro y hy; simp at hy; subst hy; rfl) (by simp only [nums_len, List.length_singleton, maxLen]; omega) (by simp only [nums_len, List.length_singleton]; omega) (by simp; have := HQ6.out.2.size; omega) ?_; intro u2 w2 hq2 hg2 ha2; have HT2 := Lib.hid (HTH.out.put HKA.out HSA.out HLT.out HIT6.out HQ6.out.1 HQ6.out.2 ((Fresh.refl _).alloc _ _) hq2 hg2); clear hq2 hg2 ha2)
      go_roundg cnt'
      case measure => exact HLT.out
      case rel => go_light; exact ⟨_, _, HT2⟩
end Go.Proofs.Ytlmlgdojmcmllaa
