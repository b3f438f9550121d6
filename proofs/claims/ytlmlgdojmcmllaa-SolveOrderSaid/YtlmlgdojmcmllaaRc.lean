/- A number among some; two rows that are the same; one row of many. -/
import Derived.Test.YtlmlgdojmcmllaaRb
namespace Go.Proofs.Ytlmlgdojmcmllaa
set_option linter.unusedSimpArgs false
set_option linter.unusedVariables false
open Go.RowKit
open Solve

def has (l : List Int) (x : Int) : Bool := decide (x ∈ l)
theorem has_take {l : List Int} {x : Int} {k : Nat} (hk : k < l.length) (h : x ∉ l.take k) (hx : l.getD k 0 ≠ x) : x ∉ l.take (k + 1) := by
  rw [List.take_succ_eq_append_getElem hk]
  intro hm
  rcases List.mem_append.1 hm with e | e
  · exact h e
  · have : x = l[k] := by simpa using e
    exact hx (by rw [this]; simp [List.getD, hk])
set_option maxHeartbeats 1000000 in
theorem has_any {ok : Nat → Prop} (v : Value) (l : List Int) (x : Int) (w : World) (h : Ints ok w v l) :
    Calls Try.prog 22 #[v, .int .i64 x] w fun e w' => e = .returned (.bool (has l x)) ∧ Fresh w w' := by
  obtain ⟨p, cap, rfl, ⟨hc, hm⟩, hh⟩ := h.form
  unfold maxLen at hm
  have HH := Lib.hid hh
  clear hh h
  go_enter Try.func22, Try.ntmps22
  go_wp2
  go_loop [5] (fun i => ∃ k : Nat, k ≤ l.length ∧ i = .int .i64 k ∧ Hid (x ∉ l.take k)) (fun i => l.length - (intOf i).toNat)
  case atStart => exact ⟨0, Nat.zero_le _, rfl, Lib.hid (by simp)⟩
  case round =>
    obtain ⟨k, hk, rfl, HX⟩ := hrel
    by_cases hlt : k < l.length
    · obtain ⟨B, off, rfl, _, hcell⟩ := HH.out k hlt
      by_cases hx : l.getD k 0 = x
      · have ht : (l[k] == x) = true := by simpa [List.getD, hlt] using hx
        have HT := Lib.hid (show has l x = true by
          simp only [has, decide_eq_true_eq]
          rw [← hx]; simp only [List.getD, List.getElem?_eq_getElem hlt, Option.getD_some]; exact List.getElem_mem hlt)
        clear hx
        go_wp2
        go_ret
        exact ⟨ret_bool HT.out, Fresh.refl _⟩
      · have ht : (l[k] == x) = false := by simpa [List.getD, hlt] using hx
        have HT := Lib.hid (has_take hlt HX.out hx)
        clear hx
        go_wp2
        go_round
        case rel => exact ⟨k + 1, by omega, by go_num, HT⟩
        case measure => simp [intOf]; omega
    · have HT := Lib.hid (show has l x = false by
        have := HX.out
        rw [List.take_of_length_le (by omega)] at this
        simpa [has] using this)
      go_wp2
      go_ret
      exact ⟨ret_bool HT.out, Fresh.refl _⟩

theorem getD_get {l : List Int} {k : Nat} (h : k < l.length) : l.getD k 0 = l[k] := by simp [List.getD, h]
set_option maxHeartbeats 1000000 in
/-- Two rows of the same numbers are told to be the same. -/
theorem same_any {ok ok' : Nat → Prop} (u v : Value) (l : List Int) (w : World) (h : Ints ok w u l) (h' : Ints ok' w v l) :
    Calls Try.prog 12 #[u, v] w fun e w' => e = .returned (.bool true) ∧ Fresh w w' := by
  obtain ⟨p, cap, rfl, ⟨hc, hm⟩, hh⟩ := h.form
  obtain ⟨p', cap', rfl, ⟨hc', hm'⟩, hh'⟩ := h'.form
  unfold maxLen at hm hm'
  have HH := Lib.hid hh
  have HH' := Lib.hid hh'
  clear hh hh' h h'
  go_enter Try.func12, Try.ntmps12
  go_wp2
  go_loopw [13] (fun i wr => ∃ k : Nat, k ≤ l.length ∧ i = .int .i64 k ∧ Hid (Fresh w wr)) (fun i _ => l.length - (intOf i).toNat)
  case atStart => exact ⟨0, Nat.zero_le _, rfl, Lib.hid (Fresh.refl w)⟩
  case round =>
    obtain ⟨k, hk, rfl, HF⟩ := hrel
    by_cases hlt : k < l.length
    · obtain ⟨B, off, rfl, _, hcell⟩ := HH.out k hlt
      obtain ⟨B', off', rfl, _, hcell'⟩ := HH'.out k hlt
      have c1 := HF.out.sts (fun _ => True) B _ _ trivial hcell
      have c2 := HF.out.sts (fun _ => True) B' _ _ trivial hcell'
      clear hcell hcell'
      go_wp2
      go_quiet (fail)
      go_wp2
      go_roundw
      case rel => exact ⟨k + 1, by omega, by go_num, Lib.hid (HF.out.drewN _)⟩
      case measure => simp [intOf]; omega
    · go_wp2
      go_ret
      exact ⟨rfl, HF.out⟩
end Go.Proofs.Ytlmlgdojmcmllaa
