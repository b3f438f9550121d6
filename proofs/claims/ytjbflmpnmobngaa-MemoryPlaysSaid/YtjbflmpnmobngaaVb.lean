/- The reference's memory in the heap: what its small calls read. -/
import Derived.Test.YtjbflmpnmobngaaVa
import Derived.Test.YtjbflmpnmobngaaMw
import Derived.Test.YtjbflmpnmobngaaMf
namespace Go.Proofs.Ytjbflmpnmobngaa
set_option linter.unusedSimpArgs false
set_option linter.unusedVariables false
open Go.RowKit

/-- Where a block's kinds, its bytes and its pieces lie. -/
structure Head where
  K : Nat
  B : Nat
  P : Nat
def headV (h : Head) (f : Bool) : Option RB → List Value
  | some r => [.slice (some ⟨h.K, 0, none⟩) r.sz r.sz, .slice (some ⟨h.B, 0, none⟩) r.sz r.sz, .map (some h.P), .bool true, .bool r.fx]
  | none => [.slice none 0 0, .slice none 0 0, .map none, .bool false, .bool f]
abbrev RL := List (Option RB × Head × Bool)
def cellsR : RL → List Value
  | [] => []
  | t :: r => headV t.2.1 t.2.2 t.1 ++ cellsR r
def plainR (L : RL) : List (Option RB) := L.map fun t => t.1
theorem headV_len (h : Head) (f : Bool) (o : Option RB) : (headV h f o).length = 5 := by cases o <;> rfl
theorem cellsR_len : ∀ L : RL, (cellsR L).length = L.length * 5
  | [] => rfl
  | t :: r => by simp only [cellsR, List.length_append, headV_len, cellsR_len r, List.length_cons]; omega
theorem cellsR_at : ∀ (L : RL) (i : Nat) (t : Option RB × Head × Bool) (j : Nat) (u : Value), L[i]? = some t → (headV t.2.1 t.2.2 t.1)[j]? = some u → j < 5 → (cellsR L)[i * 5 + j]? = some u
  | [], i, t, j, u, h, _, _ => by simp at h
  | a :: r, 0, t, j, u, h, hj, h6 => by
    simp at h; subst h
    simp only [cellsR, Nat.zero_mul, Nat.zero_add]
    rw [List.getElem?_append_left (by rw [headV_len]; omega)]
    exact hj
  | a :: r, i + 1, t, j, u, h, hj, h6 => by
    simp only [List.getElem?_cons_succ] at h
    have := cellsR_at r i t j u h hj h6
    simp only [cellsR]
    rw [List.getElem?_append_right (by rw [headV_len]; omega), headV_len, show (i + 1) * 5 + j - 5 = i * 5 + j by omega]
    exact this
/-- What the row of blocks is, for the calls that read it: G its block. -/
structure RRow (w : World) (M G : Nat) (L : RL) : Prop where
  c0 : ∃ p cap, w.cell? ⟨M, 0, none⟩ = some (.slice p L.length cap) ∧ (L ≠ [] → p = some ⟨G, 0, none⟩)
  at' : ∀ i t j u, L[i]? = some t → (headV t.2.1 t.2.2 t.1)[j]? = some u → j < 5 → w.cell? ⟨G, i * 5 + j, none⟩ = some u
theorem fresh_at {w w' : World} (f : Fresh w w') {B i : Nat} {v : Value} (hv : w.cell? ⟨B, i, none⟩ = some v) : w'.cell? ⟨B, i, none⟩ = some v := by rw [f.cells.1 _ _ (cell_lt hv)]; exact hv
theorem RRow.fresh {w w' : World} {M G : Nat} {L : RL} (h : RRow w M G L) (f : Fresh w w') : RRow w' M G L :=
  ⟨by obtain ⟨p, cap, hc, hp⟩ := h.c0; exact ⟨p, cap, fresh_at f hc, hp⟩, fun i t j u h1 h2 h3 => fresh_at f (h.at' i t j u h1 h2 h3)⟩
theorem getR_plain (L : RL) (b : Int) (h1 : 1 ≤ b) (h2 : b ≤ L.length) : ∃ t, L[(b - 1).toNat]? = some t ∧ getR (plainR L) b = t.1 := by
  have hlt : (b - 1).toNat < L.length := by omega
  refine ⟨L[(b - 1).toNat], List.getElem?_eq_getElem hlt, ?_⟩
  unfold getR plainR
  rw [List.length_map, if_pos ⟨h1, h2⟩, List.getD_eq_getElem?_getD, List.getElem?_map, List.getElem?_eq_getElem hlt]
  rfl
theorem getR_out (L : RL) (b : Int) (h : ¬ (1 ≤ b ∧ b ≤ L.length)) : getR (plainR L) b = none := by
  unfold getR plainR
  rw [List.length_map, if_neg h]
section
set_option maxRecDepth 100000
set_option maxHeartbeats 2000000
theorem liveR_any {M G : Nat} {L : RL} (b : Int) (hb : -9223372036854775808 ≤ b ∧ b ≤ 9223372036854775807) (hL : L.length ≤ 2199023255552) (w : World) (h : RRow w M G L) :
    Calls Try.prog 32 #[.pointer (some ⟨M, 0, none⟩), .int .i64 b] w fun e w' => e = .returned (.bool (getR (plainR L) b).isSome) ∧ w' = w := by
  obtain ⟨p, cap, hc, hp⟩ := h.c0
  by_cases h1 : 1 ≤ b
  · by_cases h2 : b ≤ L.length
    · obtain rfl := hp (fun e => by rw [e] at h2; simp at h2; omega)
      clear hp
      obtain ⟨t, ht, hg⟩ := getR_plain L b h1 h2
      obtain ⟨n, hn⟩ : ∃ n : Nat, b = (n : Int) + 1 := ⟨(b - 1).toNat, by omega⟩
      subst hn
      rw [show ((n : Int) + 1 - 1).toNat = n by omega] at ht
      have hl := h.at' n t 3 (.bool t.1.isSome) ht (by cases t.1 <;> rfl) (by decide)
      rw [hg]
      have hw : IntKind.i64.wrap ((n : Int) + 1 - 1) = (n : Int) := (IntWalk.i64_in _ (by omega)).trans (by omega)
      have hx : (n : Int) + 1 - 1 = (n : Int) := by omega
      have hnl : (n : Int) < (L.length : Int) := by omega
      have hn0 : (0 : Int) ≤ (n : Int) := by omega
      clear hg ht hb
      generalize t.1.isSome = x at *
      go_enter Try.func32, Try.ntmps32
      go_wp2_with fail
      all_goals (go_ret; exact ⟨by first | rfl | (simp [*]; done), rfl⟩)
    · rw [getR_out L b (fun e => h2 e.2)]
      have d2 : decide (b ≤ (L.length : Int)) = false := decide_eq_false h2
      go_enter Try.func32, Try.ntmps32
      go_wp2_with fail
      go_ret
      exact ⟨rfl, rfl⟩
  · rw [getR_out L b (fun e => h1 e.1)]
    have d1 : decide (1 ≤ b) = false := decide_eq_false h1
    clear hb
    go_enter Try.func32, Try.ntmps32
    go_wp2_with fail
    go_ret
    exact ⟨rfl, rfl⟩
theorem sizeR_any {M G : Nat} {L : RL} (b : Int) (hb : -9223372036854775808 ≤ b ∧ b ≤ 9223372036854775807) (hL : L.length ≤ 2199023255552) (w : World) (h : RRow w M G L) (x : Int) (t : Bool) (hv : (match getR (plainR L) b with | none => ((0 : Int), false) | some r => ((r.sz : Int), true)) = (x, t)) :
    Calls Try.prog 22 #[.pointer (some ⟨M, 0, none⟩), .int .i64 b] w fun e w' => e = .returned (.tuple #[.int .i64 x, .bool t]) ∧ w' = w := by
  have LV := Lib.hid (liveR_any b hb hL w h)
  obtain ⟨p, cap, hc, hp⟩ := h.c0
  cases hg : getR (plainR L) b with
  | none =>
    rw [hg] at hv LV
    injection hv with hx ht
    subst hx ht
    simp only [Option.isSome_none] at LV
    clear hb hg
    go_enter Try.func22, Try.ntmps22
    go_wp2_with fail
    go_at_call 32; refine (LV.out).mono ?_; rintro e w1 ⟨rfl, rfl⟩
    go_wp2_with fail
    go_ret2
    exact ⟨rfl, rfl⟩
  | some r =>
    have hin := getR_in hg
    unfold plainR at hin
    rw [List.length_map] at hin
    obtain ⟨s, ht, he⟩ := getR_plain L b hin.1 hin.2
    obtain rfl := hp (fun e => by rw [e] at hin; simp at hin; omega)
    clear hp
    rw [hg] at hv LV he
    injection hv with hx ht2
    subst hx ht2
    simp only [Option.isSome_some] at LV
    obtain ⟨n, hn⟩ : ∃ n : Nat, b = (n : Int) + 1 := ⟨(b - 1).toNat, by omega⟩
    subst hn
    rw [show ((n : Int) + 1 - 1).toNat = n by omega] at ht
    have hl := h.at' n s 0 (.slice (some ⟨s.2.1.K, 0, none⟩) r.sz r.sz) ht (by rw [← he]; rfl) (by decide)
    rw [Nat.add_zero] at hl
    have hw : IntKind.i64.wrap ((n : Int) + 1 - 1) = (n : Int) := (IntWalk.i64_in _ (by omega)).trans (by omega)
    have hx : (n : Int) + 1 - 1 = (n : Int) := by omega
    have hnl : (n : Int) < (L.length : Int) := by omega
    have hn0 : (0 : Int) ≤ (n : Int) := by omega
    clear hg ht hb he hin
    generalize s.2.1.K = K at *
    go_enter Try.func22, Try.ntmps22
    go_wp2_with fail
    go_at_call 32; refine (LV.out).mono ?_; rintro e w1 ⟨rfl, rfl⟩
    go_wp2_with fail
    go_ret2
    exact ⟨rfl, rfl⟩
end
end Go.Proofs.Ytjbflmpnmobngaa
