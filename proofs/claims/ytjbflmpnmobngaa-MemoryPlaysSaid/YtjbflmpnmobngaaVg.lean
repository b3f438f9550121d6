/- The reference's memory: Fix and Free. -/
import Derived.Test.YtjbflmpnmobngaaVf
import Derived.BigRegion
namespace Go.Proofs.Ytjbflmpnmobngaa
set_option linter.unusedSimpArgs false
set_option linter.unusedVariables false
open Go.RowKit

def fixRF (R : List (Option RB)) (b : Int) : List (Option RB) := match getR R b with | none => R | some r => setRB R b (some { r with fx := true })
def freeRF (R : List (Option RB)) (b : Int) : List (Option RB) := match getR R b with | none => R | some _ => setRB R b none
theorem hv_at {L : RL} {i : Nat} {t : Option RB × Head × Bool} (h : L[i]? = some t) : (L.map hv)[i]? = some (hv t) := by rw [List.getElem?_map, h]; rfl
theorem turn_touch {w : World} {G cap n : Nat} (j : Nat) (u : Value) : Touch (fun k => (Value.slice (some ⟨G, 0, none⟩) n cap).ownBlock = some k) w (w.setCell ⟨G, j, none⟩ u) :=
  (Touch.refl (fun k => (Value.slice (some ⟨G, 0, none⟩) n cap).ownBlock = some k) w).setCell (p := ⟨G, j, none⟩) (Or.inl rfl) u
theorem RMem.fixed {w : World} {M N G cap n : Nat} {L : RL} (h : RMem w M N (.slice (some ⟨G, 0, none⟩) L.length cap) L) {r : RB} {hd : Head} {f : Bool} (hi : L[n]? = some (some r, hd, f)) :
    RMem (w.setCell ⟨G, n * 5 + 4, none⟩ (.bool true)) M N (.slice (some ⟨G, 0, none⟩) L.length cap) (L.set n (some { r with fx := true }, hd, f)) := by
  have e : (cellsR L).set (n * 5 + 4) (.bool true) = cellsR (L.set n (some { r with fx := true }, hd, f)) := by
    rw [cellsR_flat, flat_set _ (hv_len L) n 4 _ _ (hv_at hi) (by decide), cellsR_flat, List.map_set]
    rfl
  refine h.turn (turn_touch _ _) (by rw [List.length_set]) (by rw [← e]; exact own_put h.own _ _) (blocksR_set L n _ _ hi rfl) (fun i r1 h1 f1 hj => ?_)
  by_cases hij : n = i
  · subst hij
    rw [List.getElem?_set_self (List.getElem?_eq_some_iff.1 hi).1] at hj
    simp only [Option.some.injEq, Prod.mk.injEq] at hj
    obtain ⟨rfl, rfl, rfl⟩ := hj
    exact ⟨r, f, hi, rfl, rfl, rfl, rfl⟩
  · rw [List.getElem?_set_ne hij] at hj
    exact ⟨r1, f1, hj, rfl, rfl, rfl, rfl⟩
theorem Left.same {w w' : World} {M N N' : Nat} {v : Value} {L : RL} (h : RMem w M N v L) (hf : Fresh w w') (hN : N ≤ N') : LeftR M v L (plainR L) N' w w' :=
  ⟨v, L, (h.fresh hf).mono hN, rfl, hf.touch _, fun k hk => Or.inl hk⟩
theorem own_of_set {M : Nat} {v : Value} {L : RL} {n : Nat} {t t' : Option RB × Head × Bool} (hi : L[n]? = some t) (he : t'.2.1 = t.2.1) (k : Nat) (hk : ownQ M v (L.set n t') k) : ownQ M v L k := by
  unfold ownQ at hk ⊢
  rw [blocksR_set L n t t' hi he] at hk
  exact hk
theorem RMem.freed {w w' : World} {M N G cap n : Nat} {L : RL} (h : RMem w M N (.slice (some ⟨G, 0, none⟩) L.length cap) L) {r : RB} {hd : Head} {f : Bool} (hi : L[n]? = some (some r, hd, f))
    (hw : w' = (((w.setCell ⟨G, n * 5 + 3, none⟩ (.bool false)).setCell ⟨G, n * 5, none⟩ (.slice none 0 0)).setCell ⟨G, n * 5 + 1, none⟩ (.slice none 0 0)).setCell ⟨G, n * 5 + 2, none⟩ (.map none)) :
    RMem w' M N (.slice (some ⟨G, 0, none⟩) L.length cap) (L.set n (none, hd, r.fx)) ∧ Touch (fun k => (Value.slice (some ⟨G, 0, none⟩) L.length cap).ownBlock = some k) w w' := by
  have ht : Touch (fun k => (Value.slice (some ⟨G, 0, none⟩) L.length cap).ownBlock = some k) w w' := by
    rw [hw]
    exact ((((turn_touch _ _).trans (turn_touch _ _)).trans (turn_touch _ _)).trans (turn_touch _ _))
  have hlt : n < L.length := (List.getElem?_eq_some_iff.1 hi).1
  have e : (((((cellsR L).set (n * 5 + 3) (.bool false)).set (n * 5 + 0) (.slice none 0 0)).set (n * 5 + 1) (.slice none 0 0)).set (n * 5 + 2) (.map none)) = cellsR (L.set n (none, hd, r.fx)) := by
    have l0 := hv_at hi
    have q0 : n < (L.map hv).length := by rw [List.length_map]; exact hlt
    have len : ∀ (X : List (List Value)) (i : Nat) (x : List Value), (∀ y ∈ X, y.length = 5) → x.length = 5 → ∀ y ∈ X.set i x, y.length = 5 := fun X i x hX hx y hy => by
      rcases List.mem_or_eq_of_mem_set hy with hy | hy
      · exact hX y hy
      · rw [hy]; exact hx
    have at' : ∀ (X : List (List Value)) (x : List Value), n < X.length → (X.set n x)[n]? = some x := fun X x hX => List.getElem?_set_self hX
    rw [cellsR_flat]
    rw [flat_set _ (hv_len L) n 3 _ _ l0 (by decide)]
    rw [flat_set _ (len _ _ _ (hv_len L) (by simp [hv, headV])) n 0 _ _ (at' _ _ q0) (by decide)]
    rw [flat_set _ (len _ _ _ (len _ _ _ (hv_len L) (by simp [hv, headV])) (by simp [hv, headV])) n 1 _ _ (at' _ _ (by rw [List.length_set]; exact q0)) (by decide)]
    rw [flat_set _ (len _ _ _ (len _ _ _ (len _ _ _ (hv_len L) (by simp [hv, headV])) (by simp [hv, headV])) (by simp [hv, headV])) n 2 _ _ (at' _ _ (by rw [List.length_set, List.length_set]; exact q0)) (by decide)]
    rw [cellsR_flat, List.map_set, List.set_set, List.set_set, List.set_set]
    rfl
  refine ⟨h.turn ht (by rw [List.length_set]) (by rw [← e, hw]; exact own_put (own_put (own_put (own_put h.own _ _) _ _) _ _) _ _) (blocksR_set L n _ _ hi rfl) (fun i r1 h1 f1 hj => ?_), ht⟩
  by_cases hij : n = i
  · subst hij
    rw [List.getElem?_set_self hlt] at hj
    simp at hj
  · rw [List.getElem?_set_ne hij] at hj
    exact ⟨r1, f1, hj, rfl, rfl, rfl, rfl⟩
section
set_option maxRecDepth 100000
set_option maxHeartbeats 2000000
theorem fixR_any {w : World} {M N : Nat} {v : Value} {L : RL} (h : RMem w M N v L) (b : Int) (hb : -9223372036854775808 ≤ b ∧ b ≤ 9223372036854775807) (hL : L.length ≤ 2199023255552) :
    Calls Try.prog 14 #[.pointer (some ⟨M, 0, none⟩), .int .i64 b] w fun e w' => e = .returned (.bool (getR (plainR L) b).isSome) ∧ LeftR M v L (fixRF (plainR L) b) N w w' := by
  obtain ⟨G, hrow, hv⟩ := h.row
  have LV := Lib.hid (liveR_any b hb hL w hrow)
  unfold fixRF
  cases hg : getR (plainR L) b with
  | none =>
    rw [hg] at LV
    simp only [Option.isSome_none] at LV
    have H := Lib.hid (Left.same h (Fresh.refl w) (Nat.le_refl N))
    clear h hrow hv hg hb hL
    go_enter Try.func14, Try.ntmps14
    go_wp2_with fail
    go_at_call 32; refine (LV.out).mono ?_; rintro e w1 ⟨rfl, rfl⟩
    go_wp2_with fail
    go_ret
    exact ⟨rfl, H.out⟩
  | some r =>
    rw [hg] at LV
    simp only [Option.isSome_some] at LV
    obtain ⟨n, hd, f, rfl, hn, hi⟩ := getR_some hg
    obtain ⟨cap, rfl, hfr⟩ := hv (fun e => by rw [e] at hn; simp at hn)
    have H : Hid (LeftR M (.slice (some ⟨G, 0, none⟩) L.length cap) L (setRB (plainR L) ((n : Int) + 1) (some { r with fx := true })) N w (w.setCell ⟨G, n * 5 + 4, none⟩ (.bool true))) := Lib.hid ⟨_, _, h.fixed hi, by
      rw [plainR_set]; unfold setRB; rw [show ((n : Int) + 1 - 1).toNat = n by omega], (turn_touch _ _).mono (fun k hk => Or.inr (Or.inl hk)), fun k hk => Or.inl (own_of_set (t' := (some { r with fx := true }, hd, f)) hi rfl k hk)⟩
    have hc := h.c0
    have hl := hrow.at' n _ 4 (.bool r.fx) hi rfl (by decide)
    have hw : IntKind.i64.wrap ((n : Int) + 1 - 1) = (n : Int) := (IntWalk.i64_in _ (by omega)).trans (by omega)
    have hx : (n : Int) + 1 - 1 = (n : Int) := by omega
    have hw3 : IntKind.i64.wrap (n : Int) = (n : Int) := IntWalk.i64_in _ (by omega)
    have hw4 : wrap64 (n : Int) = (n : Int) := by unfold wrap64; omega
    have hnl : (n : Int) < (L.length : Int) := by omega
    have hn0 : (0 : Int) ≤ (n : Int) := by omega
    have hf4 := hfr (n * 5 + 4)
    clear h hrow hv hg hb hL hi hn hfr
    go_enter Try.func14, Try.ntmps14
    go_wp2_with fail
    go_at_call 32; refine (LV.out).mono ?_; rintro e w1 ⟨rfl, rfl⟩
    go_wp2_with fail
    go_ret
    exact ⟨rfl, H.out⟩
theorem freeR_any {w : World} {M N : Nat} {v : Value} {L : RL} (h : RMem w M N v L) (b : Int) (hb : -9223372036854775808 ≤ b ∧ b ≤ 9223372036854775807) (hL : L.length ≤ 2199023255552) :
    Calls Try.prog 12 #[.pointer (some ⟨M, 0, none⟩), .int .i64 b] w fun e w' => e = .returned (.bool (getR (plainR L) b).isSome) ∧ LeftR M v L (freeRF (plainR L) b) N w w' := by
  obtain ⟨G, hrow, hv⟩ := h.row
  have LV := Lib.hid (liveR_any b hb hL w hrow)
  unfold freeRF
  cases hg : getR (plainR L) b with
  | none =>
    rw [hg] at LV
    simp only [Option.isSome_none] at LV
    have H := Lib.hid (Left.same h (Fresh.refl w) (Nat.le_refl N))
    clear h hrow hv hg hb hL
    go_enter Try.func12, Try.ntmps12
    go_wp2_with fail
    go_at_call 32; refine (LV.out).mono ?_; rintro e w1 ⟨rfl, rfl⟩
    go_wp2_with fail
    go_ret
    exact ⟨rfl, H.out⟩
  | some r =>
    rw [hg] at LV
    simp only [Option.isSome_some] at LV
    obtain ⟨n, hd, f, rfl, hn, hi⟩ := getR_some hg
    obtain ⟨cap, rfl, hfr⟩ := hv (fun e => by rw [e] at hn; simp at hn)
    have H : Hid (∀ w', w' = (((w.setCell ⟨G, n * 5 + 3, none⟩ (.bool false)).setCell ⟨G, n * 5, none⟩ (.slice none 0 0)).setCell ⟨G, n * 5 + 1, none⟩ (.slice none 0 0)).setCell ⟨G, n * 5 + 2, none⟩ (.map none) → ∀ w2, Fresh w' w2 → LeftR M (.slice (some ⟨G, 0, none⟩) L.length cap) L (setRB (plainR L) ((n : Int) + 1) none) N w w2) := Lib.hid fun w' hw' w2 hf2 => by
      obtain ⟨q1, q2⟩ := h.freed hi hw'
      refine ⟨_, _, q1.fresh hf2, ?_, (q2.mono (fun k hk => Or.inr (Or.inl hk))).fresh hf2, fun k hk => Or.inl (own_of_set (t' := (none, hd, r.fx)) hi rfl k hk)⟩
      rw [plainR_set]; unfold setRB; rw [show ((n : Int) + 1 - 1).toNat = n by omega]
    have hMG : M ≠ G := fun e => h.vM (by rw [e]; rfl)
    have hc := h.c0
    have hl0 := hrow.at' n _ 0 _ hi rfl (by decide)
    have hl1 := hrow.at' n _ 1 _ hi rfl (by decide)
    have hl2 := hrow.at' n _ 2 _ hi rfl (by decide)
    have hl3 := hrow.at' n _ 3 (.bool true) hi rfl (by decide)
    rw [Nat.add_zero] at hl0
    have hw : IntKind.i64.wrap ((n : Int) + 1 - 1) = (n : Int) := (IntWalk.i64_in _ (by omega)).trans (by omega)
    have hx : (n : Int) + 1 - 1 = (n : Int) := by omega
    have hw3 : IntKind.i64.wrap (n : Int) = (n : Int) := IntWalk.i64_in _ (by omega)
    have hw4 : wrap64 (n : Int) = (n : Int) := by unfold wrap64; omega
    have hnl : (n : Int) < (L.length : Int) := by omega
    have hn0 : (0 : Int) ≤ (n : Int) := by omega
    clear h hrow hv hg hb hL hi hn
    go_enter Try.func12, Try.ntmps12
    go_wp2_with fail
    go_at_call 32; refine (LV.out).mono ?_; rintro e w1 ⟨rfl, rfl⟩
    go_upto_region 4 with fail
    have x0 : (w1.setCell ⟨G, n * 5 + 3, none⟩ (.bool false)).cell? ⟨M, 0, none⟩ = some (.slice (some ⟨G, 0, none⟩) L.length cap) := by rw [World.cell?_setCell_other _ _ _ _ (fun e => hMG (congrArg Addr.block e).symm)]; exact hc
    have x1 : (w1.setCell ⟨G, n * 5 + 3, none⟩ (.bool false)).cell? ⟨G, n * 5, none⟩ = some (.slice (some ⟨hd.K, 0, none⟩) r.sz r.sz) := by rw [World.cell?_setCell_other _ _ _ _ (by simp)]; exact hl0
    have x2 : (w1.setCell ⟨G, n * 5 + 3, none⟩ (.bool false)).cell? ⟨G, n * 5 + 1, none⟩ = some (.slice (some ⟨hd.B, 0, none⟩) r.sz r.sz) := by rw [World.cell?_setCell_other _ _ _ _ (by simp)]; exact hl1
    have x3 : (w1.setCell ⟨G, n * 5 + 3, none⟩ (.bool false)).cell? ⟨G, n * 5 + 2, none⟩ = some (.map (some hd.P)) := by rw [World.cell?_setCell_other _ _ _ _ (by simp)]; exact hl2
    have x4 : ∀ o, (w1.setCell ⟨G, n * 5 + 3, none⟩ (.bool false)).frozen? ⟨G, o, none⟩ = false := fun o => by rw [World.frozen?_setCell]; exact hfr o
    clear hc hl0 hl1 hl2 hl3 hfr LV
    generalize w1.setCell ⟨G, n * 5 + 3, none⟩ (.bool false) = X at *
    go_region
    go_wp2_with fail
    go_ret
    exact ⟨rfl, H.out _ rfl _ ((Fresh.refl _).drew)⟩
end
end Go.Proofs.Ytjbflmpnmobngaa
