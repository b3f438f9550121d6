/- A row of rows: one of its rows; two that are the same; the nodes behind a node; a part of it, made anew. -/
import Derived.Test.YtlmlgdojmcmllaaRc
namespace Go.Proofs.Ytlmlgdojmcmllaa
set_option linter.unusedSimpArgs false
set_option linter.unusedVariables false
open Go.RowKit
open Solve

theorem int_info : (Try.prog.info? 3).map (fun i => (i.zero, i.size, i.bytes)) = some (some (.int .i64 0), 1, 8) := by kernel_rfl
theorem row_info : (Try.prog.info? 28).map (fun i => (i.zero, i.size, i.bytes)) = some (some (.slice none 0 0), 1, 24) := by kernel_rfl
set_option maxHeartbeats 1000000 in
theorem at_any {ok ok' : Nat → Prop} (v : Value) (g : Graph) (i : Nat) (w : World) (h : Rows2 ok ok' w v g) :
    Calls Try.prog 39 #[v, .int .i64 i] w fun e w' => ∃ u, e = .returned u ∧ Ints ok' w u (row g i) ∧ w = w' := by
  obtain ⟨p, cap, rfl, ⟨hc, hm⟩, hh⟩ := h.form
  unfold maxLen at hm
  by_cases hlt : i < g.length
  · obtain ⟨B, off, u, rfl, _, hcell, hu⟩ := hh i hlt
    have HU := Lib.hid hu
    clear hu hh h
    go_enter Try.func39, Try.ntmps39
    go_wp2
    go_ret
    exact ⟨u, rfl, HU.out, rfl⟩
  · have HU := Lib.hid (show Ints ok' w (.slice none 0 0) (row g i) by rw [row_out (by omega)]; exact Row.nil _ _)
    clear hh h
    go_enter Try.func39, Try.ntmps39
    go_wp2
    go_ret
    exact ⟨_, rfl, HU.out, rfl⟩
set_option maxHeartbeats 1000000 in
theorem set_any {ok ok' : Nat → Prop} (v : Value) (g : Graph) (i : Nat) (w : World) (h : Rows2 ok ok' w v g) :
    Calls Try.prog 25 #[v, .int .i64 i] w fun e w' => ∃ u, e = .returned u ∧ Ints ok' w u (row g i) ∧ w = w' := by
  obtain ⟨p, cap, rfl, ⟨hc, hm⟩, hh⟩ := h.form
  unfold maxLen at hm
  by_cases hlt : i < g.length
  · obtain ⟨B, off, u, rfl, _, hcell, hu⟩ := hh i hlt
    have HU := Lib.hid hu
    clear hu hh h
    go_enter Try.func25, Try.ntmps25
    go_wp2
    go_ret
    exact ⟨u, rfl, HU.out, rfl⟩
  · have HU := Lib.hid (show Ints ok' w (.slice none 0 0) (row g i) by rw [row_out (by omega)]; exact Row.nil _ _)
    clear hh h
    go_enter Try.func25, Try.ntmps25
    go_wp2
    go_ret
    exact ⟨_, rfl, HU.out, rfl⟩
set_option maxHeartbeats 1000000 in
/-- Two of the same rows are told to be the same. -/
theorem same2_any {a b c d : Nat → Prop} (u v : Value) (g : Graph) (w : World) (h : Rows2 a b w u g) (h' : Rows2 c d w v g) :
    Calls Try.prog 15 #[u, v] w fun e w' => e = .returned (.bool true) ∧ Fresh w w' := by
  obtain ⟨p, cap, rfl, ⟨hc, hm⟩, hh⟩ := h.form
  obtain ⟨p', cap', rfl, ⟨hc', hm'⟩, hh'⟩ := h'.form
  unfold maxLen at hm hm'
  have HH := Lib.hid hh
  have HH' := Lib.hid hh'
  clear hh hh' h h'
  go_enter Try.func15, Try.ntmps15
  go_wp2
  go_loopw [13] (fun i wr => ∃ k : Nat, k ≤ g.length ∧ i = .int .i64 k ∧ Hid (Fresh w wr)) (fun i _ => g.length - (intOf i).toNat)
  case atStart => exact ⟨0, Nat.zero_le _, rfl, Lib.hid (Fresh.refl w)⟩
  case round =>
    obtain ⟨k, hk, rfl, HF⟩ := hrel
    by_cases hlt : k < g.length
    · obtain ⟨B, off, x, rfl, _, hcell, hx⟩ := HH.out k hlt
      obtain ⟨B', off', y, rfl, _, hcell', hy⟩ := HH'.out k hlt
      have c1 := HF.out.sts (fun _ => True) B _ _ trivial hcell
      have c2 := HF.out.sts (fun _ => True) B' _ _ trivial hcell'
      have HX := Lib.hid (hx.fresh HF.out)
      have HY := Lib.hid (hy.fresh HF.out)
      clear hcell hcell' hx hy
      go_wp2
      have C1 := Lib.hid c1
      have C2 := Lib.hid c2
      have E : Hid (Fresh wr wr.drew) := Lib.hid (Fresh.refl _).drew
      clear c1 c2
      go_region_held3 (fun w' => w'.cell? ⟨B, off + k, none⟩ = some x ∧ w'.cell? ⟨B', off' + k, none⟩ = some y) (exact ⟨E.out.sts (fun _ => True) _ _ _ trivial C1.out, E.out.sts (fun _ => True) _ _ _ trivial C2.out⟩) ((go_at_call 12; (with_reducible refine (same_any _ _ _ _ (HX.out.fresh E.out) (HY.out.fresh E.out)).mono ?_); rintro e w1 ⟨rfl, h1⟩; have E := Lib.hid (E.out.trans h1); clear h1))
      all_goals
        go_wp2
        go_roundw
        case rel => exact ⟨k + 1, by omega, by go_num, Lib.hid (HF.out.trans E.out)⟩
        case measure => simp [intOf]; omega
    · go_wp2
      go_ret
      exact ⟨rfl, HF.out⟩
end Go.Proofs.Ytlmlgdojmcmllaa
