/- The operations that turn numbers: rows of numbers. -/
import Derived.Test.YteiomcbphbbpkaaGreatDoorCn
namespace Go.Proofs.YteiomcbphbbpkaaGreatDoor
set_option linter.unusedSimpArgs false
set_option linter.unusedVariables false
open Go.RowKit

theorem info3 : (Tryz.prog.info? 3).map (fun i => (i.zero, i.size, i.bytes)) = some (some (.int .i64 0), 1, 8) := by kernel_rfl
/-- A slice that holds these numbers, laid by the call. -/
def Ints (base : Nat) (w : World) (v : Value) (l : List Int) : Prop := w.ownsRow base 3 1 v l.length (l.map (Value.int .i64))
theorem Ints.nil (base : Nat) (w : World) : Ints base w (.slice none 0 0) [] := World.ownsRow_nil ..
theorem Ints.one (base : Nat) (w : World) (n : Int) (h : base ≤ w.heap.size) : Ints base (w.alloc (.cells #[.int .i64 n] 3)) (.slice (some ⟨w.heap.size, 0, none⟩) 1 1) [n] := World.ownsRow_lit w #[.int .i64 n] 1 h (by decide) rfl
theorem Ints.mono {b c : Nat} {w : World} {v : Value} {l : List Int} (h : Ints b w v l) (hc : c ≤ b) : Ints c w v l := by
  refine ⟨h.1, ?_⟩
  rcases h.2 with h | ⟨g, cap, cur, e, hb, r⟩
  · exact Or.inl h
  · exact Or.inr ⟨g, cap, cur, e, Nat.le_trans hc hb, r⟩
def smallO (s : Int) (u : Bool) : List Int := if s = 1 then [sgn u 80 81] else if s = 2 then [sgn u 82 83] else []
def doubleO (s : Int) (u : Bool) : List Int := if s = 8 then [sgn u 89 90] else if s = 4 then [sgn u 87 88] else [87]
def cutO (s : Int) (u : Bool) : List Int := if s = 8 then [sgn u 93 94] else if s = 4 then [sgn u 91 92] else [91] ++ smallO s u
def Made (w : World) (l : List Int) (e : Ending) (w' : World) : Prop := (∃ v, e = .returned v ∧ Ints w.heap.size w' v l) ∧ Fresh w w'
theorem smallOps_any (s : Int) (u : Bool) (w : World) : Calls Tryz.prog 63 #[.agg #[.int .i64 s, .bool u]] w (Made w (smallO s u)) := by
  by_cases h1 : s = 1
  · subst h1
    have HL : Hid (smallO 1 u = [sgn u 80 81]) := Lib.hid rfl
    rw [HL.out]
    go_enter Tryz.func63, Tryz.ntmps63
    go_wp2_with (go_at_call 62; refine (sign_any _ _ _ _ _).mono ?_; rintro e w1 ⟨rfl, h1⟩; have hz1 := h1.size; simp at hz1)
    go_returns
    exact ⟨⟨_, rfl, Ints.one _ _ _ (by omega)⟩, (by (repeat' first | with_reducible exact Fresh.refl _ | with_reducible assumption | with_reducible refine Fresh.alloc ?_ _ _ | with_reducible refine Fresh.drew ?_ | with_reducible refine Fresh.drewN ?_ _ | with_reducible refine Fresh.setCell ?_ ?_ _ | with_reducible refine Fresh.trans ?_ (by assumption) | (simp; done) | (simp; omega)))⟩
  · by_cases h2 : s = 2
    · subst h2
      have HL : Hid (smallO 2 u = [sgn u 82 83]) := Lib.hid rfl
      rw [HL.out]
      clear h1
      go_enter Tryz.func63, Tryz.ntmps63
      go_wp2_with (go_at_call 62; refine (sign_any _ _ _ _ _).mono ?_; rintro e w1 ⟨rfl, h1⟩; have hz1 := h1.size; simp at hz1)
      go_returns
      exact ⟨⟨_, rfl, Ints.one _ _ _ (by omega)⟩, (by (repeat' first | with_reducible exact Fresh.refl _ | with_reducible assumption | with_reducible refine Fresh.alloc ?_ _ _ | with_reducible refine Fresh.drew ?_ | with_reducible refine Fresh.drewN ?_ _ | with_reducible refine Fresh.setCell ?_ ?_ _ | with_reducible refine Fresh.trans ?_ (by assumption) | (simp; done) | (simp; omega)))⟩
    · have HL : Hid (smallO s u = []) := Lib.hid (by unfold smallO; rw [if_neg h1, if_neg h2])
      have q1 : (s == 1) = false := by simpa using h1
      have q2 : (s == 2) = false := by simpa using h2
      rw [HL.out]
      clear h1 h2
      go_enter Tryz.func63, Tryz.ntmps63
      go_wp2_with fail
      go_returns
      exact ⟨⟨_, rfl, Ints.nil ..⟩, (by (repeat' first | with_reducible exact Fresh.refl _ | with_reducible assumption | with_reducible refine Fresh.alloc ?_ _ _ | with_reducible refine Fresh.drew ?_ | with_reducible refine Fresh.drewN ?_ _ | with_reducible refine Fresh.setCell ?_ ?_ _ | with_reducible refine Fresh.trans ?_ (by assumption) | (simp; done) | (simp; omega)))⟩
theorem doubleOps_any (s : Int) (u : Bool) (w : World) : Calls Tryz.prog 39 #[.agg #[.int .i64 s, .bool u]] w (Made w (doubleO s u)) := by
  by_cases h1 : s = 8
  · subst h1
    have HL : Hid (doubleO 8 u = [sgn u 89 90]) := Lib.hid rfl
    rw [HL.out]
    go_enter Tryz.func39, Tryz.ntmps39
    go_wp2_with (go_at_call 62; refine (sign_any _ _ _ _ _).mono ?_; rintro e w1 ⟨rfl, h1⟩; have hz1 := h1.size; simp at hz1)
    go_returns
    exact ⟨⟨_, rfl, Ints.one _ _ _ (by omega)⟩, (by (repeat' first | with_reducible exact Fresh.refl _ | with_reducible assumption | with_reducible refine Fresh.alloc ?_ _ _ | with_reducible refine Fresh.drew ?_ | with_reducible refine Fresh.drewN ?_ _ | with_reducible refine Fresh.setCell ?_ ?_ _ | with_reducible refine Fresh.trans ?_ (by assumption) | (simp; done) | (simp; omega)))⟩
  · by_cases h2 : s = 4
    · subst h2
      have HL : Hid (doubleO 4 u = [sgn u 87 88]) := Lib.hid rfl
      rw [HL.out]
      clear h1
      go_enter Tryz.func39, Tryz.ntmps39
      go_wp2_with (go_at_call 62; refine (sign_any _ _ _ _ _).mono ?_; rintro e w1 ⟨rfl, h1⟩; have hz1 := h1.size; simp at hz1)
      go_returns
      exact ⟨⟨_, rfl, Ints.one _ _ _ (by omega)⟩, (by (repeat' first | with_reducible exact Fresh.refl _ | with_reducible assumption | with_reducible refine Fresh.alloc ?_ _ _ | with_reducible refine Fresh.drew ?_ | with_reducible refine Fresh.drewN ?_ _ | with_reducible refine Fresh.setCell ?_ ?_ _ | with_reducible refine Fresh.trans ?_ (by assumption) | (simp; done) | (simp; omega)))⟩
    · have HL : Hid (doubleO s u = [87]) := Lib.hid (by unfold doubleO; rw [if_neg h1, if_neg h2])
      have q1 : (s == 8) = false := by simpa using h1
      have q2 : (s == 4) = false := by simpa using h2
      rw [HL.out]
      clear h1 h2
      go_enter Tryz.func39, Tryz.ntmps39
      go_wp2_with fail
      go_returns
      refine ⟨⟨_, rfl, ?_⟩, (by (repeat' first | with_reducible exact Fresh.refl _ | with_reducible assumption | with_reducible refine Fresh.alloc ?_ _ _ | with_reducible refine Fresh.drew ?_ | with_reducible refine Fresh.drewN ?_ _ | with_reducible refine Fresh.setCell ?_ ?_ _ | with_reducible refine Fresh.trans ?_ (by assumption) | (simp; done) | (simp; omega)))⟩
      have := Ints.one w.heap.size (w.alloc (.cells #[.int .i64 s, .bool u] 36)) 87 (by simp)
      simp only [World.size_alloc] at this
      exact this
theorem small_le (s : Int) (u : Bool) : (smallO s u).length ≤ 1 := by
  unfold smallO
  split
  · simp
  · split <;> simp
/-- A row of the call's own, one more row behind it. -/
theorem ints_append {base : Nat} {w w' : World} {v' : Value} {l k : List Int} (h : w'.ownsRow base 3 1 v' (l.length + k.length) (l.map (Value.int .i64) ++ k.map (Value.int .i64))) : Ints base w' v' (l ++ k) := by
  unfold Ints
  rw [List.length_append, List.map_append]
  exact h
set_option maxRecDepth 100000 in
set_option maxHeartbeats 2000000 in
theorem cutOps_any (s : Int) (u : Bool) (w : World) : Calls Tryz.prog 40 #[.agg #[.int .i64 s, .bool u]] w (Made w (cutO s u)) := by
  obtain ⟨i0, hi, hz0, hz1', hz2⟩ := info_parts info3
  by_cases h1 : s = 8
  · subst h1
    have HL : Hid (cutO 8 u = [sgn u 93 94]) := Lib.hid rfl
    rw [HL.out]
    go_enter Tryz.func40, Tryz.ntmps40
    go_wp2_with (go_at_call 62; refine (sign_any _ _ _ _ _).mono ?_; rintro e w1 ⟨rfl, h1⟩; have hz1 := h1.size; simp at hz1)
    go_returns
    exact ⟨⟨_, rfl, Ints.one _ _ _ (by omega)⟩, (by (repeat' first | with_reducible exact Fresh.refl _ | with_reducible assumption | with_reducible refine Fresh.alloc ?_ _ _ | with_reducible refine Fresh.drew ?_ | with_reducible refine Fresh.drewN ?_ _ | with_reducible refine Fresh.setCell ?_ ?_ _ | with_reducible refine Fresh.trans ?_ (by assumption) | (simp; done) | (simp; omega)))⟩
  · by_cases h2 : s = 4
    · subst h2
      have HL : Hid (cutO 4 u = [sgn u 91 92]) := Lib.hid rfl
      rw [HL.out]
      clear h1
      go_enter Tryz.func40, Tryz.ntmps40
      go_wp2_with (go_at_call 62; refine (sign_any _ _ _ _ _).mono ?_; rintro e w1 ⟨rfl, h1⟩; have hz1 := h1.size; simp at hz1)
      go_returns
      exact ⟨⟨_, rfl, Ints.one _ _ _ (by omega)⟩, (by (repeat' first | with_reducible exact Fresh.refl _ | with_reducible assumption | with_reducible refine Fresh.alloc ?_ _ _ | with_reducible refine Fresh.drew ?_ | with_reducible refine Fresh.drewN ?_ _ | with_reducible refine Fresh.setCell ?_ ?_ _ | with_reducible refine Fresh.trans ?_ (by assumption) | (simp; done) | (simp; omega)))⟩
    · have HL : Hid (cutO s u = [91] ++ smallO s u) := Lib.hid (by unfold cutO; rw [if_neg h1, if_neg h2])
      have q1 : (s == 8) = false := by simpa using h1
      have q2 : (s == 4) = false := by simpa using h2
      rw [HL.out]
      clear h1 h2
      have HO := Ints.one w.heap.size (w.alloc (.cells #[.int .i64 s, .bool u] 36)) 91 (by simp)
      simp only [World.size_alloc] at HO
      have HOh := Lib.hid HO
      clear HO
      go_enter Tryz.func40, Tryz.ntmps40
      go_wp2_with fail
      go_at_call 63; refine (smallOps_any s u _).mono ?_; rintro e w1 ⟨⟨v, rfl, hv⟩, h1⟩
      have hown := h1.own HOh.out
      have HV := Lib.hid hv
      have H1 := Lib.hid h1
      have hz1 := h1.size
      simp at hz1
      rcases hv.2 with ⟨rfl, h0⟩ | ⟨g, cap, cur, rfl, hb, -⟩
      · have HE : Hid (smallO s u = []) := Lib.hid (List.length_eq_zero_iff.1 h0)
        clear hv h0 h1
        go_wp2_with (at_builtin; refine wpList_append_own_none rfl _ _ 28 rfl w.heap.size 3 i0 1 Tryz.underlying28 hi _ _ _ rfl hown rfl ?_)
        go_returns
        rw [HE.out]
        exact ⟨⟨_, rfl, hown⟩, (show Fresh w _ from (by (repeat' first | with_reducible exact Fresh.refl _ | with_reducible assumption | with_reducible refine Fresh.alloc ?_ _ _ | with_reducible refine Fresh.drew ?_ | with_reducible refine Fresh.drewN ?_ _ | with_reducible refine Fresh.setCell ?_ ?_ _ | with_reducible refine Fresh.trans ?_ (by assumption) | (simp; done) | (simp; omega)))).trans H1.out⟩
      · have hbd := small_le s u
        have hlen : ((smallO s u).map (Value.int .i64)).length = (smallO s u).length * 1 := by simp
        have HLN := Lib.hid hlen
        have HOW := Lib.hid hown
        clear hv h1 hlen hown
        generalize hS : smallO s u = S at *
        go_wp2_with (at_builtin; refine wpList_append_own _ rfl _ _ 28 rfl w.heap.size 3 i0 (.int .i64 0) 1 8 Tryz.underlying28 hi hz0 hz1' hz2 rfl (by decide) _ _ _ rfl HOW.out ⟨g, 0, none⟩ S.length cap (S.map (Value.int .i64)) rfl HLN.out ?c1 ?c2 ?c3 ?c4 ?c5 ?_)
        case c1 => exact fun j u hj => HV.out.cells (g := g) rfl j u hj
        case c2 =>
          intro x hx
          obtain ⟨y, -, rfl⟩ := List.mem_map.1 hx
          rfl
        case c3 => unfold maxLen; simp; omega
        case c4 => simp; omega
        case c5 => omega
        intro v' w2 hown' hgrow _
        have HI := Lib.hid (ints_append (l := [91]) (k := S) (w := w1) hown')
        have HG := Lib.hid (((show Fresh w _ from (by (repeat' first | with_reducible exact Fresh.refl _ | with_reducible assumption | with_reducible refine Fresh.alloc ?_ _ _ | with_reducible refine Fresh.drew ?_ | with_reducible refine Fresh.drewN ?_ _ | with_reducible refine Fresh.setCell ?_ ?_ _ | with_reducible refine Fresh.trans ?_ (by assumption) | (simp; done) | (simp; omega)))).trans H1.out).grown hgrow (fun k hk => (HOW.out.lt k hk).1))
        clear hown' hgrow
        go_wp2_with fail
        go_returns
        exact ⟨⟨_, rfl, HI.out⟩, HG.out⟩
end Go.Proofs.YteiomcbphbbpkaaGreatDoor
