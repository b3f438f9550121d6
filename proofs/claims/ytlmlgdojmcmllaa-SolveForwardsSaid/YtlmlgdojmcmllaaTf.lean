/- A graph turned round, by the program. -/
import Derived.Test.YtlmlgdojmcmllaaTe
namespace Go.Proofs.Ytlmlgdojmcmllaa
set_option linter.unusedSimpArgs false
set_option linter.unusedVariables false
open Go.RowKit
open Solve

set_option maxHeartbeats 4000000 in
theorem endsWith_any (v : Value) (l : List Int) (x : Int) (w : World) (hl : l.length ≤ 1000) (h : Ints T w v l) : Calls Try.prog 35 #[v, .int .i64 x] w fun e w' => e = .returned (.bool (endsW l x)) ∧ w = w' := by
  obtain ⟨q, c, rfl, ⟨hc, hm⟩, _⟩ := h.form
  unfold maxLen at hm
  rcases Nat.eq_zero_or_pos l.length with h0 | h0
  · have : l = [] := List.eq_nil_of_length_eq_zero h0
    subst this
    clear h
    go_enter Try.func35, Try.ntmps35
    go_wp2
    go_ret
    exact ⟨rfl, rfl⟩
  · obtain ⟨k, hk⟩ : ∃ k, k + 1 = l.length := ⟨l.length - 1, by omega⟩
    obtain ⟨L, off, rfl, _, ex⟩ := ints_cell h (j := k) (by omega)
    obtain ⟨y, hy⟩ : ∃ y, y = l[k] := ⟨_, rfl⟩
    rw [← hy] at ex
    have HE : Hid (endsW l x = decide (y = x)) := Lib.hid (by
      have : l.getLast? = some y := by
        rw [List.getLast?_eq_getElem?, show l.length - 1 = k by omega, hy]
        exact List.getElem?_eq_getElem (by omega)
      simp [endsW, this])
    rw [HE.out]
    obtain ⟨n, hn⟩ : ∃ n, n = l.length := ⟨_, rfl⟩
    rw [← hn] at hc hl h0 hk
    rw [← hn]
    have h1 : (n : Int) - 1 = (k : Int) := by omega
    have h2 : k < n := by omega
    have h3 : decide (0 < n) = true := by simpa using h0
    clear h hy hn HE hk
    go_enter Try.func35, Try.ntmps35
    go_wp2
    go_ret
    exact ⟨rfl, rfl⟩
/-- Rows of a call's own. -/
structure EB (w0 w : World) (V : Nat → Prop) (b : Nat) (ls : Graph) : Prop where
  bag : Bag w V b ls
  base : ∀ k, V k → w0.heap.size ≤ k
  fr : Fresh w0 w
theorem EB.push {w0 w w' : World} {V V' : Nat → Prop} {b : Nat} {ls ls' : Graph} (h : EB w0 w V b ls) (hb : Bag w' V' b ls') (hv : ∀ k, V' k → V k ∨ w.heap.size ≤ k) (hk : Keep V w w') : EB w0 w' V' b ls' := by
  have := h.fr.size
  exact ⟨hb, fun k hk => (hv k hk).elim (h.base k) fun r => by omega, hk.fresh h.fr h.base⟩
theorem EB.fresh {w0 w w' : World} {V : Nat → Prop} {b : Nat} {ls : Graph} (h : EB w0 w V b ls) (hf : Fresh w w') : EB w0 w' V b ls := ⟨h.bag.fresh hf, h.base, h.fr.trans hf⟩
set_option maxHeartbeats 16000000 in
set_option maxRecDepth 100000 in
theorem beforeP_any : BeforeC 16 := by
  intro v g w hg h
  have HG := Lib.hid hg
  have HR := Lib.hid h
  obtain ⟨p, cap, rfl, ⟨hc, hm⟩, _⟩ := h.form
  unfold maxLen at hm
  have hgl := hg.len
  have hmk := run_rows g.length (by omega)
  have HB0 : Hid (EB w (w.alloc (.cells (List.replicate g.length (.slice none 0 0)).toArray 28)) (fun k => k = w.heap.size) w.heap.size (List.replicate g.length [])) := Lib.hid ⟨Bag.new w g.length, fun k hk => by omega, (Fresh.refl w).alloc _ _⟩
  obtain ⟨i0, hi0, hz0, hz1, hz2⟩ := info_parts int_info
  clear h hg
  go_enter Try.func16, Try.ntmps16
  go_wp2
  clear hmk
  go_loopg [13] g.length (fun k s13 wr => ∃ (i : Nat) (V : Nat → Prop) (ls : Graph), s13 = .int .i64 i ∧ i ≤ g.length ∧ k = g.length - i ∧ Hid (EB w wr V w.heap.size ls) ∧ Hid (BI g i 0 ls))
  case atStart => exact ⟨0, _, _, rfl, by omega, by omega, Lib.hid (by simpa using HB0.out), Lib.hid (BI.start g)⟩
  case round =>
    clear HB0
    obtain ⟨i, V, ls, rfl, hi, rfl, HE, HI⟩ := hrel
    by_cases hlt : i < g.length
    · obtain ⟨_, _, hv, _, hh⟩ := HR.out.form
      obtain ⟨B0, off, u, hp, _, cu0, hu⟩ := hh i hlt
      cases hv
      subst hp
      have cu := HE.out.fr.sts (fun _ => True) _ _ _ trivial cu0
      obtain ⟨q, c, rfl, ⟨hc', hm'⟩, _⟩ := hu.form
      unfold maxLen at hm'
      have HU := Lib.hid hu
      have hrow := HG.out.row i
      clear hh hu cu0
      go_wp2
      go_loopg [20] (row g i).length (fun k s20 wx => ∃ (j : Nat) (V : Nat → Prop) (ls : Graph), s20 = .int .i64 j ∧ j ≤ (row g i).length ∧ k = (row g i).length - j ∧ Hid (EB w wx V w.heap.size ls) ∧ Hid (BI g i j ls))
      case atStart => exact ⟨0, V, ls, rfl, by omega, by omega, HE, HI⟩
      case round =>
        clear HE HI cu
        obtain ⟨j, V, ls, rfl, hj, rfl, HE, HI⟩ := hrel
        by_cases hjl : j < (row g i).length
        · obtain ⟨L, o, rfl, _, ex⟩ := ints_cell (HU.out.fresh HE.out.fr) hjl
          obtain ⟨x, hx⟩ : ∃ x, x = (row g i)[j] := ⟨_, rfl⟩
          rw [← hx] at ex
          have HX := Lib.hid hx
          by_cases hin : 0 ≤ x ∧ x < (g.length : Int)
          · obtain ⟨k, rfl⟩ : ∃ k : Nat, x = k := ⟨x.toNat, by omega⟩
            have hkl : k < g.length := by omega
            have HD := Lib.hid (show decide (0 ≤ (k : Int) ∧ (k : Int) < (g.length : Int)) = true by simp; omega)
            have hlen := HI.out.len
            obtain ⟨u, cu, hq, ⟨q2, c2, rfl, hc2, hm2⟩, hpush⟩ := HE.out.bag.at' (i := k) (by omega)
            have HQ := Lib.hid hq
            have HP := Lib.hid hpush
            have hroom := HI.out.room hlt hgl k
            clear hin hx hq hpush
            by_cases hend : (i : Int) ∈ row ls k
            · have HE1 := Lib.hid ((HI.out.ends k).2 hend)
              have HN := Lib.hid (HI.out.has hjl HX.out.symm hend)
              clear hend
              go_wp2_with (first | (go_at_call 34; (with_reducible refine (isNode_any _ _ _).mono ?_); rintro e wz ⟨rfl, rfl⟩; rw [HD.out]) | (go_at_call 35; (with_reducible refine (endsWith_any _ (row ls k) i _ (by omega) HQ.out.ints).mono ?_); rintro e wz ⟨rfl, rfl⟩; rw [HE1.out]))
              go_roundg ((row g i).length - (j + 1))
              case measure => go_light; omega
              case rel => go_light; exact ⟨j + 1, V, ls, by go_num, by omega, rfl, HE, HN⟩
            · have HE1 := Lib.hid (show endsW (row ls k) (i : Int) = false by
                cases hb : endsW (row ls k) (i : Int) with
                | false => rfl
                | true => exact absurd ((HI.out.ends k).1 hb) hend)
              have HN := Lib.hid (HI.out.push hjl HX.out.symm hkl hend)
              have hnl := nums_len (row ls k)
              clear hend
              go_upto_region 9 with (first | (go_at_call 34; (with_reducible refine (isNode_any _ _ _).mono ?_); rintro e wz ⟨rfl, rfl⟩; rw [HD.out]) | (go_at_call 35; (with_reducible refine (endsWith_any _ (row ls k) i _ (by omega) HQ.out.ints).mono ?_); rintro e wz ⟨rfl, rfl⟩; rw [HE1.out]))
              go_wp2_with (at_builtin; refine wpList_app _ rfl (.tmp 42) (.tmp 44) _ rfl 0 3 i0 (.int .i64 0) 8 Try.underlying28 hi0 hz0 hz1 hz2 rfl _ _ rfl (HQ.out.alloc _ _) _ [Value.int IntKind.i64 (i : Int)] rfl (news_one _ _ _ _) (by intro y hy; simp at hy; subst hy; rfl) (by simp only [nums_len, List.length_singleton, maxLen]; omega) (by simp only [nums_len, List.length_singleton]; omega) (by simp) ?_; intro u2 w2 hq2 hg2 ha2; obtain ⟨c9, f9, ⟨q9, n9, cc9, rfl⟩, V9, hb9, hv9, hk9⟩ := HP.out _ _ _ _ ((Fresh.refl _).alloc _ _) hq2 hg2 ha2; have HE2 := Lib.hid (HE.out.push hb9 hv9 hk9); clear hq2 hg2 ha2 hb9 hv9 hk9)
              go_roundg ((row g i).length - (j + 1))
              case measure => go_light; omega
              case rel => go_light; exact ⟨j + 1, V9, _, by go_num, by omega, rfl, HE2, HN⟩
          · have HD := Lib.hid (show decide (0 ≤ x ∧ x < (g.length : Int)) = false by simpa using hin)
            have HN := Lib.hid (HI.out.no hjl (by rw [← hx]; exact hin))
            clear hin hx
            go_wp2_with (go_at_call 34; (with_reducible refine (isNode_any _ _ _).mono ?_); rintro e wz ⟨rfl, rfl⟩; rw [HD.out])
            go_roundg ((row g i).length - (j + 1))
            case measure => go_light; omega
            case rel => go_light; exact ⟨j + 1, V, ls, by go_num, by omega, rfl, HE, HN⟩
        · obtain rfl : j = (row g i).length := by omega
          have HN := Lib.hid HI.out.next
          go_wp2
          go_roundg (g.length - (i + 1))
          case measure => go_light; omega
          case rel => go_light; exact ⟨i + 1, V, ls, by go_num, by omega, rfl, HE, HN⟩
    · obtain rfl : i = g.length := by omega
      have hlen := HI.out.len
      go_wp2
      go_ret
      refine ⟨_, ls, rfl, ?_, HI.out.done, HE.out.fr⟩
      have := HE.out.bag.rows (by rw [hlen]; simp only [maxLen]; omega)
      rw [hlen] at this
      exact this
end Go.Proofs.Ytlmlgdojmcmllaa
