/- The operations that turn a number into one of another size or sign. -/
import Derived.Test.YteiomcbphbbpkaaGreatDoorCo
namespace Go.Proofs.YteiomcbphbbpkaaGreatDoor
set_option linter.unusedSimpArgs false
set_option linter.unusedVariables false
open Go.RowKit

def wholeO (fs : Int) (fu : Bool) (ts : Int) (tu : Bool) : List Int :=
  if ts = 8 then (if fs = 8 then [] else [sgn fu 84 85])
  else if fs = 8 then [86] ++ smallO ts tu
  else if fs = ts ∧ fu = tu then [] else smallO ts tu
set_option maxRecDepth 100000 in
set_option maxHeartbeats 4000000 in
theorem wholeOps_any (fs : Int) (fu : Bool) (ts : Int) (tu : Bool) (w : World) : Calls Tryz.prog 38 #[.agg #[.int .i64 fs, .bool fu], .agg #[.int .i64 ts, .bool tu]] w (Made w (wholeO fs fu ts tu)) := by
  obtain ⟨i0, hi, hz0, hz1', hz2⟩ := info_parts info3
  by_cases h1 : ts = 8
  · subst h1
    by_cases h2 : fs = 8
    · subst h2
      have HL : Hid (wholeO 8 fu 8 tu = []) := Lib.hid rfl
      rw [HL.out]
      go_enter Tryz.func38, Tryz.ntmps38
      go_wp2_with fail
      go_returns
      exact ⟨⟨_, rfl, Ints.nil ..⟩, (by (repeat' first | with_reducible exact Fresh.refl _ | with_reducible assumption | with_reducible refine Fresh.alloc ?_ _ _ | with_reducible refine Fresh.drew ?_ | with_reducible refine Fresh.drewN ?_ _ | with_reducible refine Fresh.setCell ?_ ?_ _ | with_reducible refine Fresh.trans ?_ (by assumption) | (simp; done) | (simp; omega)))⟩
    · have HL : Hid (wholeO fs fu 8 tu = [sgn fu 84 85]) := Lib.hid (by unfold wholeO; rw [if_pos rfl, if_neg h2])
      have q1 : (fs == 8) = false := by simpa using h2
      rw [HL.out]
      clear h2
      go_enter Tryz.func38, Tryz.ntmps38
      go_wp2_with (go_at_call 62; refine (sign_any _ _ _ _ _).mono ?_; rintro e w1 ⟨rfl, h1⟩; have hz1 := h1.size; simp at hz1)
      go_returns
      exact ⟨⟨_, rfl, Ints.one _ _ _ (by omega)⟩, (by (repeat' first | with_reducible exact Fresh.refl _ | with_reducible assumption | with_reducible refine Fresh.alloc ?_ _ _ | with_reducible refine Fresh.drew ?_ | with_reducible refine Fresh.drewN ?_ _ | with_reducible refine Fresh.setCell ?_ ?_ _ | with_reducible refine Fresh.trans ?_ (by assumption) | (simp; done) | (simp; omega)))⟩
  · have q1 : (ts == 8) = false := by simpa using h1
    have HBD := Lib.hid (small_le ts tu)
    by_cases h2 : fs = 8
    · subst h2
      have q2 : ((8 : Int) == ts) = false := by simp; omega
      have HL : Hid (wholeO 8 fu ts tu = [86] ++ smallO ts tu) := Lib.hid (by unfold wholeO; rw [if_neg h1, if_pos rfl])
      rw [HL.out]
      clear h1
      have HO := Lib.hid (World.ownsRow_nil (((w.alloc (.cells #[.int .i64 8, .bool fu] 36)).alloc (.cells #[.int .i64 ts, .bool tu] 36)).alloc (.cells #[.int .i64 86] 3)) w.heap.size 3 1)
      go_enter Tryz.func38, Tryz.ntmps38
      go_wp2_with (at_builtin; refine wpList_append_own _ rfl (.tmp 18) (.tmp 19) 28 rfl w.heap.size 3 i0 (.int .i64 0) 1 8 Tryz.underlying28 hi hz0 hz1' hz2 rfl (by decide) _ _ _ rfl HO.out ⟨w.heap.size + 1 + 1, 0, none⟩ 1 1 [.int .i64 86] rfl rfl ?a1 ?a2 ?a3 ?a4 ?a5 ?_)
      case a1 =>
        intro j u hj
        match j, hj with
        | 0, hj => simp at hj; subst hj; simp [Addr.add, go_sem]
      case a2 => intro u hu; simp at hu; subst hu; rfl
      case a3 => decide
      case a4 => decide
      case a5 => simp; omega
      intro v1 w2 hown hgrow _
      have G1 := Lib.hid ((show Fresh w (((w.alloc (.cells #[.int .i64 8, .bool fu] 36)).alloc (.cells #[.int .i64 ts, .bool tu] 36)).alloc (.cells #[.int .i64 86] 3)) from (by (repeat' first | with_reducible exact Fresh.refl _ | with_reducible assumption | with_reducible refine Fresh.alloc ?_ _ _ | with_reducible refine Fresh.drew ?_ | with_reducible refine Fresh.drewN ?_ _ | with_reducible refine Fresh.setCell ?_ ?_ _ | with_reducible refine Fresh.trans ?_ (by assumption) | (simp; done) | (simp; omega)))).grown hgrow (fun k hk => (HO.out.lt k hk).1))
      have F2 : Fresh ((w.alloc (.cells #[.int .i64 8, .bool fu] 36)).alloc (.cells #[.int .i64 ts, .bool tu] 36)) w2 := ((Fresh.refl _).alloc _ _).grown hgrow (fun k hk => by simp [Value.ownBlock] at hk)
      have HW := Lib.hid hown
      have hb2 := (Blk.new (w.alloc (.cells #[.int .i64 8, .bool fu] 36)) #[.int .i64 ts, .bool tu] 36).fresh F2
      simp only [World.size_alloc] at hb2
      have hb1 := ((Blk.new w #[.int .i64 8, .bool fu] 36).fresh ((Fresh.refl _).alloc #[.int .i64 ts, .bool tu] 36)).fresh F2
      have b0 := hb2.1 0 _ rfl
      have b1 := hb2.1 1 _ rfl
      have bz := hb2.2.2
      have a0 := hb1.1 0 _ rfl
      have a1 := hb1.1 1 _ rfl
      have az := hb1.2.2
      clear hown hgrow F2 hb1 hb2 HO
      go_wp2_with fail
      go_at_call 63; refine (smallOps_any ts tu _).mono ?_; rintro e w4 ⟨⟨v, rfl, hv⟩, h4⟩
      have hown := h4.own HW.out
      have HV := Lib.hid hv
      have H4 := Lib.hid (G1.out.trans h4)
      have hz4 := H4.out.size
      rcases hv.2 with ⟨rfl, h0⟩ | ⟨g, cap, cur, rfl, hb, -⟩
      · have HE : Hid (smallO ts tu = []) := Lib.hid (List.length_eq_zero_iff.1 h0)
        clear hv h0 h4
        go_wp2_with (at_builtin; refine wpList_append_own_none rfl (.tmp 25) (.tmp 27) 28 rfl w.heap.size 3 i0 1 Tryz.underlying28 hi v1 1 [.int .i64 86] rfl hown rfl ?_)
        go_returns
        rw [HE.out]
        exact ⟨⟨_, rfl, hown⟩, H4.out⟩
      · have hbd := HBD.out
        have hlen : ((smallO ts tu).map (Value.int .i64)).length = (smallO ts tu).length * 1 := by simp
        have HLN := Lib.hid hlen
        have HOW := Lib.hid hown
        clear hv h4 hlen hown HBD
        generalize hS : smallO ts tu = S at *
        go_wp2_with (at_builtin; refine wpList_append_own _ rfl (.tmp 25) (.tmp 27) 28 rfl w.heap.size 3 i0 (.int .i64 0) 1 8 Tryz.underlying28 hi hz0 hz1' hz2 rfl (by decide) v1 1 [.int .i64 86] rfl HOW.out ⟨g, 0, none⟩ S.length cap (S.map (Value.int .i64)) rfl HLN.out ?c1 ?c2 ?c3 ?c4 ?c5 ?_)
        case c1 => exact fun j u hj => HV.out.cells (g := g) rfl j u hj
        case c2 =>
          intro x hx
          obtain ⟨y, -, rfl⟩ := List.mem_map.1 hx
          rfl
        case c3 => unfold maxLen; first | omega | (simp; omega)
        case c4 => first | omega | (simp; omega)
        case c5 => omega
        intro v' w5 hown' hgrow _
        have HI := Lib.hid (ints_append (l := [86]) (k := S) (w := w4) hown')
        have HG := Lib.hid (H4.out.grown hgrow (fun k hk => (HOW.out.lt k hk).1))
        clear hown' hgrow
        go_wp2_with fail
        go_returns
        exact ⟨⟨_, rfl, HI.out⟩, HG.out⟩
    · have q2 : (fs == 8) = false := by simpa using h2
      by_cases h3 : fs = ts ∧ fu = tu
      · have HL : Hid (wholeO fs fu ts tu = []) := Lib.hid (by unfold wholeO; rw [if_neg h1, if_neg h2, if_pos h3])
        rw [HL.out]
        obtain ⟨rfl, rfl⟩ := h3
        clear h1 h2
        go_enter Tryz.func38, Tryz.ntmps38
        go_wp2_with fail
        go_returns
        exact ⟨⟨_, rfl, Ints.nil ..⟩, (by (repeat' first | with_reducible exact Fresh.refl _ | with_reducible assumption | with_reducible refine Fresh.alloc ?_ _ _ | with_reducible refine Fresh.drew ?_ | with_reducible refine Fresh.drewN ?_ _ | with_reducible refine Fresh.setCell ?_ ?_ _ | with_reducible refine Fresh.trans ?_ (by assumption) | (simp; done) | (simp; omega)))⟩
      · have HL : Hid (wholeO fs fu ts tu = [] ++ smallO ts tu) := Lib.hid (by unfold wholeO; rw [if_neg h1, if_neg h2, if_neg h3]; rfl)
        rw [HL.out]
        have q3 : ((fs == ts) = false ∧ True) ∨ ((fs == ts) = true ∧ (fu == tu) = false) := by
          by_cases e : fs = ts
          · right; exact ⟨by simpa using e, by have : ¬ fu = tu := fun e' => h3 ⟨e, e'⟩; simpa using this⟩
          · left; exact ⟨by simpa using e, trivial⟩
        have G1 : Hid (Fresh w ((w.alloc (.cells #[.int .i64 fs, .bool fu] 36)).alloc (.cells #[.int .i64 ts, .bool tu] 36))) := Lib.hid (by (repeat' first | with_reducible exact Fresh.refl _ | with_reducible assumption | with_reducible refine Fresh.alloc ?_ _ _ | with_reducible refine Fresh.drew ?_ | with_reducible refine Fresh.drewN ?_ _ | with_reducible refine Fresh.setCell ?_ ?_ _ | with_reducible refine Fresh.trans ?_ (by assumption) | (simp; done) | (simp; omega)))
        have HW := Lib.hid (World.ownsRow_nil ((w.alloc (.cells #[.int .i64 fs, .bool fu] 36)).alloc (.cells #[.int .i64 ts, .bool tu] 36)) w.heap.size 3 1)
        clear h1 h2 h3
        rcases q3 with ⟨q3, q4⟩ | ⟨q3, q4⟩
        all_goals
          go_enter Tryz.func38, Tryz.ntmps38
          go_wp2_with fail
          go_at_call 63; refine (smallOps_any ts tu _).mono ?_; rintro e w4 ⟨⟨v, rfl, hv⟩, h4⟩
          have hown := h4.own HW.out
          have HV := Lib.hid hv
          have H4 := Lib.hid (G1.out.trans h4)
          have hz4 := H4.out.size
          rcases hv.2 with ⟨rfl, h0⟩ | ⟨g, cap, cur, rfl, hb, -⟩
          · have HE : Hid (smallO ts tu = []) := Lib.hid (List.length_eq_zero_iff.1 h0)
            clear hv h0 h4
            go_wp2_with (at_builtin; refine wpList_append_own_none rfl (.tmp 25) (.tmp 27) 28 rfl w.heap.size 3 i0 1 Tryz.underlying28 hi _ _ _ rfl hown rfl ?_)
            go_returns
            rw [HE.out]
            exact ⟨⟨_, rfl, hown⟩, H4.out⟩
          · have hbd := HBD.out
            have hlen : ((smallO ts tu).map (Value.int .i64)).length = (smallO ts tu).length * 1 := by simp
            have HLN := Lib.hid hlen
            have HOW := Lib.hid hown
            clear hv h4 hlen hown HBD
            generalize hS : smallO ts tu = S at *
            go_wp2_with (at_builtin; refine wpList_append_own _ rfl (.tmp 25) (.tmp 27) 28 rfl w.heap.size 3 i0 (.int .i64 0) 1 8 Tryz.underlying28 hi hz0 hz1' hz2 rfl (by decide) _ _ _ rfl HOW.out ⟨g, 0, none⟩ S.length cap (S.map (Value.int .i64)) rfl HLN.out ?d1 ?d2 ?d3 ?d4 ?d5 ?_)
            case d1 => exact fun j u hj => HV.out.cells (g := g) rfl j u hj
            case d2 =>
              intro x hx
              obtain ⟨y, -, rfl⟩ := List.mem_map.1 hx
              rfl
            case d3 => unfold maxLen; first | omega | (simp; omega)
            case d4 => first | omega | (simp; omega)
            case d5 => omega
            intro v' w5 hown' hgrow _
            have HI : Hid (Ints w.heap.size w5 v' S) := Lib.hid hown'
            have HG := Lib.hid (H4.out.grown hgrow (fun k hk => (HOW.out.lt k hk).1))
            clear hown' hgrow
            go_wp2_with fail
            go_returns
            exact ⟨⟨_, rfl, HI.out⟩, HG.out⟩
end Go.Proofs.YteiomcbphbbpkaaGreatDoor
