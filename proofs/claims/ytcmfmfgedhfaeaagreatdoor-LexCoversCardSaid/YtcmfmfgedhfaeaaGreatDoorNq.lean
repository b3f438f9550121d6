/- LexCovers' function where the text has none. -/
import Derived.Test.YtcmfmfgedhfaeaaGreatDoorNp
import Derived.Deep.QuietTactic
import Derived.Deep.CutRange
import Derived.Deep.CutBlock
namespace Go.Proofs.YtcmfmfgedhfaeaaGreatDoor
set_option linter.unusedSimpArgs false
set_option linter.unusedVariables false
open Go.RowKit

theorem drop_all (a : ByteArray) : a.data.toList.drop a.size = [] := List.drop_eq_nil_of_le (Nat.le_of_eq (sizeB a).symm)
theorem drop_one (a : ByteArray) (m : Nat) (h : m < a.size) : a.data.toList.drop m = a[m] :: a.data.toList.drop (m + 1) := List.drop_eq_getElem_cons (by rw [← sizeB]; exact h)
theorem drop_skip (a : ByteArray) (m : Nat) (h : m < a.size) (hb : isB a[m] = true) : skipB (a.data.toList.drop m) = skipB (a.data.toList.drop (m + 1)) := by
  rw [drop_one a m h]
  simp only [skipB]
  rw [if_pos hb]
theorem drop_stop (a : ByteArray) (m : Nat) (h : m < a.size) (hb : isB a[m] = false) : skipB (a.data.toList.drop m) = a.data.toList.drop m := by
  rw [drop_one a m h]
  simp only [skipB]
  rw [if_neg (by rw [hb]; decide)]
set_option maxRecDepth 100000 in
set_option maxHeartbeats 16000000 in
theorem covers_ok (a : ByteArray) (ts : List Tk) (n : Nat) (hn : ts.length = n) (hn1 : n ≤ 1048577) (ha : tokensF a = .ok ts) (hne : ts ≠ []) (hs : a.size ≤ 1048576) (hcov : Cov a.data.toList ts) (hrise : Rise 0 0 ts) (hag : ∀ z : ByteArray, z.data.toList = spc ts → z.size ≤ 1048576 → ∃ ts', tokensF z = .ok ts' ∧ ts'.map Tk.bare = ts.map Tk.bare) (w : World) (hT : Tabs w) : Calls Tryz.prog 4 #[.string a] w fun e w' => e = .returned (.bool true) ∧ Fresh w w' := by
  have HT := Lib.hid hT
  have HA := Lib.hid ha
  have HNE := Lib.hid hne
  have HCOV := Lib.hid hcov
  have HR := Lib.hid hrise
  have HN := Lib.hid hn
  have HAG := Lib.hid hag
  clear hT ha hne hcov hrise hag
  go_enter Tryz.func4, Tryz.ntmps4
  go_wp2_with fail
  go_at_call 7; refine (fixed_any _ HT.out).mono ?_; rintro e w1 ⟨rfl, f1⟩
  have F1 := Lib.hid f1
  clear f1
  go_wp2_with fail
  go_at_call 8; refine (tok_ok a ts HA.out HNE.out _ (HT.out.fresh F1.out)).mono ?_; rintro e w2 ⟨⟨g, cap, rfl, hrow⟩, f2⟩
  rw [HN.out]
  have F2 := Lib.hid (F1.out.trans f2)
  have HROW := Lib.hid hrow
  clear f2 hrow
  go_upto_region 4 with fail
  have F3 := Lib.hid (F2.out.alloc #[.int .i64 0, .int .i64 0] 25)
  have HROW3 := Lib.hid (HROW.out.fresh ((Fresh.refl w2).alloc #[.int .i64 0, .int .i64 0] 25))
  generalize w2.alloc (.cells #[.int .i64 0, .int .i64 0] 25) = w3 at *
  clear HROW
  go_upto_region 9 with fail
  have BX := Lib.hid (Box.new w3 #[.int .i64 0, .int .i64 0] 25)
  have F4 := Lib.hid ((Fresh.refl w3).alloc #[.int .i64 0, .int .i64 0] 25)
  generalize w3.alloc (.cells #[.int .i64 0, .int .i64 0] 25) = w4 at *
  have n0 : 0 ≤ (n : Int) := by omega
  go_wp2_with fail
  go_loopw [6, 7, 44] (fun s at9 i wr => ∃ (k j : Nat) (l c : Int), k ≤ n ∧ at9 = .int .i64 j ∧ i = .int .i64 k ∧ j ≤ a.size ∧ Hid (Rw w3 wr s (spc (ts.take k))) ∧ Hid (Box wr w3.heap.size 25 #[.int .i64 l, .int .i64 c]) ∧ Hid (Cov (a.data.toList.drop j) (ts.drop k)) ∧ Hid (Rise l c (ts.drop k))) (fun _ _ i _ => n - (intOf i).toNat)
  case atStart => exact ⟨0, 0, 0, 0, by omega, rfl, rfl, by omega, Lib.hid (Rw.nil w3 w4 F4.out), BX, Lib.hid (by simpa using HCOV.out), Lib.hid (by simpa using HR.out)⟩
  case round =>
    obtain ⟨k, j, l, c, hk, rfl, rfl, hj, HW, HB, HC, HRI⟩ := hrel
    clear BX
    by_cases hlt : k < n
    · have hltI : (k : Int) < (n : Int) := by omega
      have k0 : 0 ≤ (k : Int) := by omega
      obtain ⟨t, ht⟩ : ∃ t, ts[k]? = some t := ⟨ts[k]'(by omega), List.getElem?_eq_getElem (by omega)⟩
      have HTK := Lib.hid ht
      have hdrop : ts.drop k = t :: ts.drop (k + 1) := by
        obtain ⟨h1, h2⟩ := List.getElem?_eq_some_iff.1 ht
        rw [← h2]; exact List.drop_eq_getElem_cons h1
      obtain ⟨x0, x1, x2, x3, x4, x5⟩ := (HROW3.out.fresh HW.out.f) k t ht
      have gz := cell_lt x0
      simp only at gz
      have HSP : Hid ((spc (ts.take k)).length + t.text.data.toList.length + 1 ≤ 4194304) := Lib.hid (by
        have e1 := cov_spc ts _ HCOV.out
        have e2 : spc ts = spc (ts.take (k + 1)) ++ spc (ts.drop (k + 1)) := by rw [← spc_append, List.take_append_drop]
        rw [e2, spc_step ts k t ht] at e1
        simp only [List.length_append, List.length_cons, List.length_nil] at e1
        rw [← sizeB a] at e1
        omega)
      have HST := Lib.hid (spc_step ts k t ht)
      clear ht
      go_upto_block 2 with fail
      have hfr := (Fresh.refl wr).alloc t.cells.toArray 32
      have BT := Lib.hid (Box.new wr t.cells.toArray 32)
      have HW2 := Lib.hid (HW.out.later hfr)
      have HB2 := Lib.hid (HB.out.later hfr.below)
      clear HW HB hfr x0 x1 x2 x3 x4 x5 gz
      change Hid (Box (wr.alloc (.cells #[.int .i64 t.k, .int .i64 t.l, .int .i64 t.c, .string t.text, .int .u64 t.bits, .string t.data] 32)) wr.heap.size 32 #[.int .i64 t.k, .int .i64 t.l, .int .i64 t.c, .string t.text, .int .u64 t.bits, .string t.data]) at BT
      change Hid (Rw w3 (wr.alloc (.cells #[.int .i64 t.k, .int .i64 t.l, .int .i64 t.c, .string t.text, .int .u64 t.bits, .string t.data] 32)) u6 _) at HW2
      change Hid (Box (wr.alloc (.cells #[.int .i64 t.k, .int .i64 t.l, .int .i64 t.c, .string t.text, .int .u64 t.bits, .string t.data] 32)) w3.heap.size 25 _) at HB2
      generalize wr.alloc (.cells #[.int .i64 t.k, .int .i64 t.l, .int .i64 t.c, .string t.text, .int .u64 t.bits, .string t.data] 32) = W at *
      generalize wr.heap.size = b10 at *
      go_cut [7] from 49 to 155 (fun at9 wx => wx = W ∧ ∃ m : Nat, at9 = .int .i64 m ∧ m ≤ a.size ∧ Hid (a.data.toList.drop m = skipB (a.data.toList.drop j)))
      case first =>
        go_wp2_with fail
        go_loopw [7] (fun at9 wx => wx = W ∧ ∃ m : Nat, at9 = .int .i64 m ∧ m ≤ a.size ∧ Hid (skipB (a.data.toList.drop m) = skipB (a.data.toList.drop j))) (fun at9 _ => a.size - (intOf at9).toNat)
        case atStart => exact ⟨rfl, j, rfl, hj, Lib.hid rfl⟩
        case round =>
          obtain ⟨rfl, m, rfl, hm, HM⟩ := hrel
          by_cases hm2 : m < a.size
          · have hmI : (m : Int) < (a.size : Int) := by omega
            have m0 : 0 ≤ (m : Int) := by omega
            go_wp2_with fail
            all_goals try go_meet
            all_goals first
              | (rename_i h1
                 refine ⟨⟨trivial, m + 1, by simp, by omega, Lib.hid (by rw [← HM.out]; exact (drop_skip a m hm2 (by simp only [isB, blankZ, h1]; decide)).symm)⟩, ?_⟩
                 show a.size - ((m : Int) + 1).toNat < a.size - ((m : Int)).toNat
                 omega)
              | (rename_i h1 h2 h3 h4
                 exact ⟨rfl, m, rfl, hm, Lib.hid (by rw [← HM.out]; exact (drop_stop a m hm2 (by simp [isB, blankZ, h1, h2, h3, h4])).symm)⟩)
              | (rename_i h1 h2 h3 h4
                 refine ⟨⟨trivial, m + 1, by simp, by omega, Lib.hid (by rw [← HM.out]; exact (drop_skip a m hm2 (by simp only [isB, blankZ, Bool.or_eq_true]; exact h4)).symm)⟩, ?_⟩
                 show a.size - ((m : Int) + 1).toNat < a.size - ((m : Int)).toNat
                 omega)
          · obtain rfl : m = a.size := by omega
            have hge : ¬ (a.size : Int) < (a.size : Int) := by omega
            go_wp2_with fail
            go_meet
            exact ⟨rfl, a.size, rfl, by omega, Lib.hid (by rw [← HM.out, drop_all]; rfl)⟩
      case rest =>
        obtain ⟨rfl, m, rfl, hm, HM⟩ := hcut
        obtain ⟨V, hV⟩ : ∃ V, V = wc := ⟨_, rfl⟩
        subst hV
        have C := HC.out
        rw [hdrop] at C
        obtain ⟨p1, p2, p3, p4⟩ := C
        rw [← HM.out] at p1 p4
        have hR := HRI.out
        rw [hdrop] at hR
        obtain ⟨r1, r2⟩ := hR
        have hlen : m + t.text.size ≤ a.size := by
          have e := congrArg List.length p1
          rw [List.length_take, List.length_drop, ← sizeB, ← sizeB] at e
          omega
        have hex : a.extract m (m + t.text.size) = t.text := by
          refine ByteArray.ext (Array.ext' ?_)
          rw [ByteArray.data_extract, Array.toList_extract, List.extract_eq_take_drop, Nat.add_sub_cancel_left]
          exact p1
        rw [List.drop_drop] at p4
        have P4 := Lib.hid p4
        have R2 := Lib.hid r2
        clear p1 p4 r2 HM HC HRI
        have hlast : (t.k = 8 ∧ t.text = ⟨#[]⟩ ∧ n = k + 1) ∨ ((t.k == 8) = false ∧ ¬ t.k = 8 ∧ ¬ t.text = ⟨#[]⟩ ∧ ¬ (k : Int) = (n : Int) - 1) := by
          have hdl : (ts.drop (k + 1)).length = n - (k + 1) := by rw [List.length_drop, hn]
          by_cases h8 : t.k = 8
          · refine Or.inl ⟨h8, ?_, ?_⟩
            · have := p3.2 h8
              exact ByteArray.ext (Array.ext' this)
            · rw [p2.1 h8] at hdl
              simp at hdl
              omega
          · refine Or.inr ⟨by simpa using h8, h8, fun e => h8 (p3.1 (by rw [e])), fun e => h8 (p2.2 ?_)⟩
            exact List.eq_nil_of_length_eq_zero (by omega)
        clear p2 p3
        obtain ⟨tk, tl, tc, tt, tb, td⟩ := t
        simp only at hex hlen hlast r1
        have c0 : V.cell? ⟨b10, 0, none⟩ = some (.int .i64 tk) := by rw [Lib.cell_of_heap BT.out]; rfl
        have c1 : V.cell? ⟨b10, 1, none⟩ = some (.int .i64 tl) := by rw [Lib.cell_of_heap BT.out]; rfl
        have c2 : V.cell? ⟨b10, 2, none⟩ = some (.int .i64 tc) := by rw [Lib.cell_of_heap BT.out]; rfl
        have c3 : V.cell? ⟨b10, 3, none⟩ = some (.string tt) := by rw [Lib.cell_of_heap BT.out]; rfl
        have d0 : V.cell? ⟨w3.heap.size, 0, none⟩ = some (.int .i64 l) := by rw [Lib.cell_of_heap HB2.out]; rfl
        have d1 : V.cell? ⟨w3.heap.size, 1, none⟩ = some (.int .i64 c) := by rw [Lib.cell_of_heap HB2.out]; rfl
        have cz := cell_lt c0
        have dz := cell_lt d0
        simp only at cz dz
        go_upto_region 14 with fail
        go_cut [119] from 79 to 155 (fun v wx => v = .bool false ∧ ∃ q, wx = V.drewN q)
        case first =>
          have l0 : ¬ (a.size : Int) - (m : Int) < 0 := by omega
          have l1 : ¬ (a.size : Int) - (m : Int) < (tt.size : Int) := by omega
          have hw1 : IntKind.i64.wrap ((a.size : Int) - (m : Int)) = (a.size : Int) - (m : Int) := IntWalk.i64_in _ (by omega)
          have hw2 : IntKind.i64.wrap ((m : Int) + (tt.size : Int)) = (m : Int) + (tt.size : Int) := IntWalk.i64_in _ (by omega)
          have hw3 : IntKind.i64.wrap ((n : Int) - 1) = (n : Int) - 1 := IntWalk.i64_in _ (by omega)
          rcases hlast with ⟨rfl, rfl, q4⟩ | ⟨q0, q1, q2, q3⟩
          · have q5 : (n : Int) - 1 = (k : Int) := by omega
            rw [q5] at hw3
            have hw4 : IntKind.i64.wrap (m : Int) = (m : Int) := IntWalk.i64_in _ (by omega)
            clear q4
            go_quiet (fail)
            go_wp2_with fail
            go_meet
            exact ⟨rfl, _, rfl⟩
          · obtain ⟨E, hE⟩ : ∃ E, E = m + tt.size := ⟨_, rfl⟩
            have hw4 : IntKind.i64.wrap ((m : Int) + (tt.size : Int)) = (E : Int) := by rw [hw2]; omega
            rw [← hE] at hex
            have e1 : (m : Int) ≤ (E : Int) := by omega
            have e2 : (E : Int) ≤ (a.size : Int) := by omega
            have e3 : m ≤ E := by omega
            have e4 : E ≤ a.size := by omega
            have e5 : 0 ≤ (m : Int) := by omega
            have e6 : 0 ≤ (E : Int) := by omega
            have e7 : ¬ (E : Int) < (m : Int) := by omega
            have e8 : ¬ (a.size : Int) < (E : Int) := by omega
            clear hw2 hE
            go_quiet (fail)
            go_wp2_with fail
            go_meet
            have hem : tt.toList.isEmpty = false := by
              rw [ByteArray.toList_eq]
              cases htl : tt.data.toList with
              | nil => exact absurd (ByteArray.ext (Array.ext' htl)) q2
              | cons _ _ => rfl
            exact ⟨congrArg Value.bool (Bool.or_eq_false_iff.2 ⟨beq_eq_false_iff_ne.2 q3, hem⟩), _, rfl⟩
        case rest =>
          obtain ⟨rfl, q, rfl⟩ := hcut
          have fq := (Fresh.refl V).drewN q
          have HW3 := Lib.hid (HW2.out.later fq)
          have HB3 := Lib.hid (HB2.out.later fq.below)
          have BT3 := Lib.hid (BT.out.later fq.below)
          clear c0 c1 c2 c3 d0 d1 cz dz HW2 HB2 BT fq
          generalize V.drewN q = Y at *
          have c1 : Y.cell? ⟨b10, 1, none⟩ = some (.int .i64 tl) := by rw [Lib.cell_of_heap BT3.out]; rfl
          have c2 : Y.cell? ⟨b10, 2, none⟩ = some (.int .i64 tc) := by rw [Lib.cell_of_heap BT3.out]; rfl
          have c3 : Y.cell? ⟨b10, 3, none⟩ = some (.string tt) := by rw [Lib.cell_of_heap BT3.out]; rfl
          have d0 : Y.cell? ⟨w3.heap.size, 0, none⟩ = some (.int .i64 l) := by rw [Lib.cell_of_heap HB3.out]; rfl
          have d1 : Y.cell? ⟨w3.heap.size, 1, none⟩ = some (.int .i64 c) := by rw [Lib.cell_of_heap HB3.out]; rfl
          have cz := cell_lt c1
          have dz := cell_lt d0
          simp only at cz dz
          go_upto_region 16 with fail
          go_cut [141] from 120 to 155 (fun v wx => v = .bool false ∧ wx = Y)
          case first =>
            rcases r1 with r1 | ⟨rfl, r1⟩
            · have g1 : ¬ tl < l := by omega
              have g2 : ¬ tl = l := by omega
              go_wp2_with fail
              go_meet
              exact ⟨rfl, rfl⟩
            · have g1 : ¬ l < l := by omega
              have g2 : ¬ tc ≤ c := by omega
              go_wp2_with fail
              go_meet
              exact ⟨rfl, rfl⟩
          case rest =>
            obtain ⟨rfl, rfl⟩ := hcut
            obtain ⟨Y, hV⟩ : ∃ V, V = wc := ⟨_, rfl⟩
            subst hV
            clear r1 hlast
            have df : Y.frozen? ⟨w3.heap.size, 0, none⟩ = false := Lib.frozen_of_heap HB3.out 0
            have df1 : Y.frozen? ⟨w3.heap.size, 1, none⟩ = false := Lib.frozen_of_heap HB3.out 1
            have sE : 0 ≤ (m : Int) + (tt.size : Int) := by omega
            have sF : (m : Int) + (tt.size : Int) ≤ 1048576 := by omega
            go_upto_region 18 with fail
            go_cut [7] from 142 to 155 (fun at9 wx => at9 = .int .i64 ((m + tt.size : Nat) : Int) ∧ Hid (Rw w3 wx u6 (spc (ts.take k))) ∧ Hid (Box wx w3.heap.size 25 #[.int .i64 tl, .int .i64 tc]) ∧ Hid (∃ cs, Box wx b10 32 cs ∧ cs[3]? = some (.string tt)))
            case first =>
              go_region
              all_goals (go_wp2_with fail; go_meet)
              all_goals first
                | (refine ⟨congrArg (Value.int .i64) (by omega), Lib.hid (((HW3.out.set (by decide) HB3.out (Nat.le_refl _) 0 _).set (by decide) (HB3.out.put 0 _) (Nat.le_refl _) 1 _).later (Fresh.refl _).drew), Lib.hid ?_, Lib.hid ⟨_, ((BT3.out.off (by decide) HB3.out 0 _).off (by decide) (HB3.out.put 0 _) 1 _).later (Fresh.refl _).drew.below, rfl⟩⟩
                   have := ((HB3.out.put 0 (.int .i64 tl)).put 1 (.int .i64 tc)).later (Fresh.refl _).drew.below
                   simpa using this)
            case rest =>
              obtain ⟨rfl, HW4, HB4, BT4⟩ := hcut
              obtain ⟨Z, hV⟩ : ∃ V, V = wc := ⟨_, rfl⟩
              subst hV
              clear c1 c2 c3 d0 d1 cz dz df df1 HW3 HB3 BT3 sE sF
              obtain ⟨cs, bt, hcs⟩ := BT4.out
              have c3 : Z.cell? ⟨b10, 3, none⟩ = some (.string tt) := by rw [Lib.cell_of_heap bt]; exact hcs
              clear bt hcs BT4
              go_wp2_with (at_builtin; refine wp_strR rfl _ _ rfl _ _ rfl HW4.out tt rfl (by have := HSP.out; simp only at this; omega) ?_)
              intro v5 X5 r5 k5
              have f5 : Fresh X5 (X5.alloc (.cells #[.int .u8 32] 5)) := (Fresh.refl X5).alloc _ _
              have R5 := Lib.hid (r5.later f5)
              have B5 := Lib.hid ((k5 _ _ _ (by decide) HB4.out).later f5.below)
              clear r5 k5 f5 HW4 HB4 c3
              go_wp2_with (at_builtin; refine wp_bytR rfl _ _ rfl _ _ rfl R5.out [32] X5.heap.size _ _ rfl rfl (new_bytes X5 [32] _ rfl) (by have := HSP.out; simp only [List.length_append, List.length_cons, List.length_nil] at this ⊢; omega) ?_)
              intro v6 X6 r6 k6
              have R6 : Hid (Rw w3 X6 v6 (spc (ts.take (k + 1)))) := Lib.hid (by rw [HST.out, List.append_assoc]; exact r6)
              have B6 := Lib.hid (k6 _ _ _ (by decide) B5.out)
              clear r6 k6 R5 B5
              go_wp2_with fail
              go_roundw
              case rel => exact ⟨k + 1, m + tt.size, tl, tc, by omega, rfl, by rfl, hlen, R6, B6, P4, R2⟩
              case measure =>
                show n - ((k : Int) + 1).toNat < n - ((k : Int)).toNat
                omega
    · obtain rfl : k = n := by omega
      have hge : ¬ (k : Int) < (k : Int) := by omega
      have hd9 : ts.drop k = [] := List.drop_eq_nil_of_le (by omega)
      have ht9 : ts.take k = ts := List.take_of_length_le (by omega)
      rw [hd9] at HC
      rw [ht9] at HW
      obtain rfl : j = a.size := by
        have e : a.data.toList.drop j = [] := HC.out
        have := congrArg List.length e
        rw [List.length_drop, ← sizeB] at this
        simp at this
        omega
      have hnz : spc ts ≠ [] := by
        have := HNE.out
        cases ts with
        | nil => exact absurd rfl this
        | cons t r => simp [spc]
      have cv := HW.out.back hnz
      obtain ⟨Z, hZ⟩ : ∃ Z, Z = spc ts := ⟨_, rfl⟩
      rw [← hZ] at HW cv hnz
      obtain ⟨gs, cz, rfl⟩ : ∃ gs cz, u6 = .slice (some ⟨gs, 0, none⟩) Z.length cz := by
        rcases HW.out.own.2 with ⟨_, h0⟩ | ⟨g', cap', cur, h1, _⟩
        · exact absurd (List.length_eq_zero_iff.1 h0) hnz
        · exact ⟨g', cap', h1⟩
      have HZ := Lib.hid hZ
      have FW := Lib.hid (F3.out.trans HW.out.f)
      have FW3 := Lib.hid HW.out.f
      have hzl : Z.length ≤ 4194304 := by
        have e1 := cov_spc ts _ HCOV.out
        rw [← hZ, ← sizeB] at e1
        omega
      clear hd9 ht9 HC HRI HB hnz hZ HW
      by_cases hz : Z.length ≤ 1048576
      · obtain ⟨us, hu1, hu2⟩ := HAG.out ⟨Z.toArray⟩ HZ.out (by rw [sizeB]; exact hz)
        have hul : us.length = k := by
          have := congrArg List.length hu2
          rw [List.length_map, List.length_map] at this
          omega
        have HU := Lib.hid hu1
        have HU2 := Lib.hid hu2
        have HUL := Lib.hid hul
        have HUN : Hid (us ≠ []) := Lib.hid (by
          intro e
          subst e
          have := HNE.out
          cases ts with
          | nil => exact this rfl
          | cons t r => simp at hu2)
        clear hu1 hu2 hul
        go_wp2_with fail
        go_at_call 8; refine (tok_ok ⟨Z.toArray⟩ us HU.out HUN.out _ (HT.out.fresh FW.out)).mono ?_; rintro e w5 ⟨⟨g5, cap5, rfl, hrow5⟩, f5⟩
        rw [HUL.out]
        have F5 := Lib.hid (FW.out.trans f5)
        have F53 := Lib.hid (FW3.out.trans f5)
        have HROW5 := Lib.hid hrow5
        clear f5 hrow5 cv
        go_upto_region 22 with fail
        have fa := (Fresh.refl w5).alloc #[.int .i64 0, .int .i64 0] 25
        have F6 := Lib.hid (F5.out.trans fa)
        have ROW1 := Lib.hid (HROW3.out.fresh (F53.out.trans fa))
        have ROW2 := Lib.hid (HROW5.out.fresh fa)
        clear fa F5 F53 HROW5 HROW3
        generalize w5.alloc (.cells #[.int .i64 0, .int .i64 0] 25) = w6 at *
        have hz1 : ¬ (1048576 : Int) < (Z.length : Int) := by omega
        go_wp2_with fail
        go_at_call 10; refine (same_any g g5 cap cap5 k ts us hn1 (fun i hi => ?_) _ ROW1.out ROW2.out).mono ?_
        · have e1 : ts[i]? = some (ts[i]'(by omega)) := List.getElem?_eq_getElem (by omega)
          have e2 : us[i]? = some (us[i]'(by rw [HUL.out]; omega)) := List.getElem?_eq_getElem (by rw [HUL.out]; omega)
          refine ⟨_, _, e1, e2, ?_⟩
          have e3 := congrArg (fun l => l[i]?) HU2.out
          simp only [List.getElem?_map, e1, e2, Option.map_some, Option.some.injEq] at e3
          exact e3.symm
        rintro e w7 ⟨rfl, f7⟩
        have F7 := Lib.hid (F6.out.trans f7)
        clear f7
        go_wp2_with fail
        go_ret
        exact ⟨rfl, F7.out⟩
      · have hz1 : (1048576 : Int) < (Z.length : Int) := by omega
        go_wp2_with fail
        go_at_call 8; refine (tok_gen ⟨Z.toArray⟩ _ (HT.out.fresh FW.out)).mono ?_; rintro e w5 ⟨⟨v, lb, cb, xb, rfl, -⟩, f5⟩
        have F5 := Lib.hid (FW.out.trans f5)
        clear f5 cv
        go_upto_region 22 with fail
        have F6 := Lib.hid (F5.out.trans ((Fresh.refl w5).alloc #[.int .i64 lb, .int .i64 cb] 25))
        generalize w5.alloc (.cells #[.int .i64 lb, .int .i64 cb] 25) = w6 at *
        go_wp2_with fail
        go_ret
        exact ⟨rfl, F6.out⟩
end Go.Proofs.YtcmfmfgedhfaeaaGreatDoor
