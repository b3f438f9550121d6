/- The reference's memory whole: the row of blocks, and each block's parts. -/
import Derived.Test.YtjbflmpnmobngaaVe
namespace Go.Proofs.Ytjbflmpnmobngaa
set_option linter.unusedSimpArgs false
set_option linter.unusedVariables false
open Go.RowKit

theorem heap_put {w : World} {g : Nat} {cs : Array Value} {t : TypeId} (hb : w.heap[g]? = some (.cells cs t (0, 0))) (o : Nat) (u : Value) : (w.setCell ⟨g, o, none⟩ u).heap[g]? = some (.cells (cs.setIfInBounds o u) t (0, 0)) := by
  simp [World.setCell, Array.getElem?_modify, hb]
/-- A cell of a row of the call's own is written. -/
theorem own_put {w : World} {base : Nat} {e : TypeId} {size : Nat} {g n cap : Nat} {xs : List Value} (h : w.ownsRow base e size (.slice (some ⟨g, 0, none⟩) n cap) n xs) (j : Nat) (u : Value) :
    (w.setCell ⟨g, j, none⟩ u).ownsRow base e size (.slice (some ⟨g, 0, none⟩) n cap) n (xs.set j u) := by
  obtain ⟨h1, h2⟩ := h
  refine ⟨by rw [List.length_set]; exact h1, ?_⟩
  rcases h2 with ⟨h3, _⟩ | ⟨g', cap', cur, hv, hb, hh, hn, hc, hs, ht⟩
  · cases h3
  · injection hv with hv _ hcap
    injection hv with hv
    injection hv with hv _ _
    subst hv hcap
    refine Or.inr ⟨g, cap, cur.setIfInBounds j u, rfl, hb, heap_put hh j u, hn, hc, by rw [Array.size_setIfInBounds]; exact hs, ?_⟩
    rw [Array.toList_setIfInBounds, ← ht, List.take_set]
theorem own_slice {w : World} {base : Nat} {e : TypeId} {size n : Nat} {v : Value} {xs : List Value} (h : w.ownsRow base e size v n xs) : ∃ p cap, v = .slice p n cap ∧ (n ≠ 0 → ∃ g, p = some ⟨g, 0, none⟩ ∧ base ≤ g ∧ (∀ o, w.frozen? ⟨g, o, none⟩ = false) ∧ ∀ j u, xs[j]? = some u → w.cell? ⟨g, j, none⟩ = some u) := by
  obtain ⟨h1, h2⟩ := h
  rcases h2 with ⟨rfl, h3⟩ | ⟨g, cap, cur, rfl, hb, hh, hn, hc, hs, ht⟩
  · exact ⟨none, 0, by rw [h3], fun e => absurd h3 e⟩
  · refine ⟨_, cap, rfl, fun _ => ⟨g, rfl, hb, fun o => by simp [World.frozen?, hh], fun j u hj => ?_⟩⟩
    have hju : cur.toList[j]? = some u := by
      rw [← ht, List.getElem?_take] at hj
      split at hj
      · exact hj
      · cases hj
    rw [Array.getElem?_toList] at hju
    simp [World.cell?, hh, hju]
/-- The cells of a row, five and five. -/
theorem flat_set : ∀ (X : List (List Value)) (hX : ∀ x ∈ X, x.length = 5) (i j : Nat) (u : Value) (x : List Value), X[i]? = some x → j < 5 → X.flatten.set (i * 5 + j) u = (X.set i (x.set j u)).flatten
  | [], _, i, j, u, x, h, _ => by simp at h
  | a :: r, hX, 0, j, u, x, h, hj => by
    simp at h; subst h
    simp only [List.flatten_cons, Nat.zero_mul, Nat.zero_add, List.set_cons_zero]
    rw [List.set_append_left _ _ (by rw [hX a (by simp)]; omega)]
  | a :: r, hX, i + 1, j, u, x, h, hj => by
    simp only [List.getElem?_cons_succ] at h
    have ha := hX a (by simp)
    simp only [List.flatten_cons, List.set_cons_succ]
    rw [List.set_append_right _ _ (by rw [ha]; omega), ha, show (i + 1) * 5 + j - 5 = i * 5 + j by omega, flat_set r (fun x hx => hX x (by simp [hx])) i j u x h hj]
def hv (t : Option RB × Head × Bool) : List Value := headV t.2.1 t.2.2 t.1
theorem cellsR_flat : ∀ L : RL, cellsR L = (L.map hv).flatten
  | [] => rfl
  | t :: r => by simp only [cellsR, List.map_cons, List.flatten_cons, cellsR_flat r, hv]
theorem hv_len (L : RL) : ∀ x ∈ L.map hv, x.length = 5 := fun x hx => by
  obtain ⟨t, _, rfl⟩ := List.mem_map.1 hx
  exact headV_len _ _ _
/-- All that each block's head leads to. -/
def blocksR : RL → List Nat
  | [] => []
  | t :: r => t.2.1.K :: t.2.1.B :: t.2.1.P :: blocksR r
theorem blocksR_at : ∀ (L : RL) (i : Nat) (t : Option RB × Head × Bool), L[i]? = some t → (blocksR L)[3 * i]? = some t.2.1.K ∧ (blocksR L)[3 * i + 1]? = some t.2.1.B ∧ (blocksR L)[3 * i + 2]? = some t.2.1.P
  | [], i, t, h => by simp at h
  | a :: r, 0, t, h => by simp at h; subst h; exact ⟨rfl, rfl, rfl⟩
  | a :: r, i + 1, t, h => by
    simp only [List.getElem?_cons_succ] at h
    exact blocksR_at r i t h
theorem blocksR_set : ∀ (L : RL) (i : Nat) (t t' : Option RB × Head × Bool), L[i]? = some t → t'.2.1 = t.2.1 → blocksR (L.set i t') = blocksR L
  | [], i, t, t', h, _ => by simp at h
  | a :: r, 0, t, t', h, e => by simp at h; subst h; simp only [List.set_cons_zero, blocksR, e]
  | a :: r, i + 1, t, t', h, e => by
    simp only [List.getElem?_cons_succ] at h
    simp only [List.set_cons_succ, blocksR, blocksR_set r i t t' h e]
theorem blocksR_len : ∀ L : RL, (blocksR L).length = 3 * L.length
  | [] => rfl
  | t :: r => by simp only [blocksR, List.length_cons, blocksR_len r]; omega
/-- The whole of it. -/
structure RMem (w : World) (M N : Nat) (v : Value) (L : RL) : Prop where
  c0 : w.cell? ⟨M, 0, none⟩ = some v
  own : w.ownsRow 0 66 5 v L.length (cellsR L)
  vM : v.ownBlock ≠ some M
  mf : ∀ o, w.frozen? ⟨M, o, none⟩ = false
  ml : M < w.heap.size
  nd : ∀ a b x : Nat, (blocksR L)[a]? = some x → (blocksR L)[b]? = some x → a = b
  ot : ∀ a x : Nat, (blocksR L)[a]? = some x → x ≠ M ∧ v.ownBlock ≠ some x ∧ x < w.heap.size
  live : ∀ (i : Nat) (r : RB) (h : Head) (f : Bool), L[i]? = some (some r, h, f) → RBlk w h.K h.B h.P N r ∧ (∀ o, w.frozen? ⟨h.K, o, none⟩ = false) ∧ (∀ o, w.frozen? ⟨h.B, o, none⟩ = false) ∧ r.sz ≤ 16777216
/-- What is its own. -/
def ownQ (M : Nat) (v : Value) (L : RL) (k : Nat) : Prop := k = M ∨ v.ownBlock = some k ∨ ∃ a : Nat, (blocksR L)[a]? = some k
theorem RMem.row {w : World} {M N : Nat} {v : Value} {L : RL} (h : RMem w M N v L) : ∃ G, RRow w M G L ∧ (L ≠ [] → ∃ cap, v = .slice (some ⟨G, 0, none⟩) L.length cap ∧ (∀ o, w.frozen? ⟨G, o, none⟩ = false)) := by
  obtain ⟨p, cap, rfl, hp⟩ := own_slice h.own
  by_cases hL : L = []
  · subst hL
    exact ⟨0, ⟨⟨p, cap, h.c0, fun e => absurd rfl e⟩, fun i t j u hi => by simp at hi⟩, fun e => absurd rfl e⟩
  · obtain ⟨g, rfl, hb, hf, hc⟩ := hp (by intro e; exact hL (List.eq_nil_of_length_eq_zero e))
    exact ⟨g, ⟨⟨_, cap, h.c0, fun _ => rfl⟩, fun i t j u hi hj h5 => hc _ _ (cellsR_at L i t j u hi hj h5)⟩, fun _ => ⟨cap, rfl, hf⟩⟩
theorem own_lt {w : World} {M N : Nat} {v : Value} {L : RL} (h : RMem w M N v L) (k : Nat) (hk : ownQ M v L k) : k < w.heap.size := by
  rcases hk with rfl | hk | ⟨a, hk⟩
  · exact h.ml
  · exact (h.own.lt k hk).2
  · exact (h.ot a k hk).2.2
theorem RBlk.keptB {w w' : World} {K B P N : Nat} {r : RB} (h : RBlk w K B P N r) (h1 : w'.heap[K]? = w.heap[K]?) (h2 : w'.heap[B]? = w.heap[B]?) (h3 : w'.heap[P]? = w.heap[P]?) : RBlk w' K B P N r :=
  ⟨fun o ho => by rw [World.cell?_of_block (w := w) h1]; exact h.kd o ho, fun o ho => by rw [World.cell?_of_block (w := w) h2]; exact h.by' o ho, h.pc.block h3, h.k3, h.k2⟩
theorem RBlk.same {w : World} {K B P N : Nat} {r r' : RB} (h : RBlk w K B P N r) (h1 : r'.sz = r.sz) (h2 : r'.kd = r.kd) (h3 : r'.by' = r.by') (h4 : r'.pc = r.pc) : RBlk w K B P N r' :=
  ⟨fun o ho => by rw [h2]; exact h.kd o (h1 ▸ ho), fun o ho => by rw [h3]; exact h.by' o (h1 ▸ ho), (show pcV r' = pcV r by funext x; unfold pcV; rw [h4]) ▸ h.pc, fun o ho => by rw [h2]; exact h.k3 o (h1 ▸ ho), fun o ho => by rw [h4]; rw [h2] at ho; exact h.k2 o ho⟩
theorem own_block {w w' : World} {base : Nat} {e : TypeId} {size n : Nat} {v : Value} {xs : List Value} (h : w.ownsRow base e size v n xs) (hk : ∀ g, v.ownBlock = some g → w'.heap[g]? = w.heap[g]?) : w'.ownsRow base e size v n xs := by
  refine ⟨h.1, ?_⟩
  rcases h.2 with hn | ⟨g, cap, cur, rfl, hb, hgg, rest⟩
  · exact .inl hn
  · exact .inr ⟨g, cap, cur, rfl, hb, by rw [hk g rfl]; exact hgg, rest⟩
/-- What is not its own turns: it stays. -/
theorem RMem.touched {w w' : World} {M N : Nat} {v : Value} {L : RL} {F : Nat → Prop} (h : RMem w M N v L) (ht : Touch F w w') (hF : ∀ k, ownQ M v L k → ¬ F k) : RMem w' M N v L := by
  have hb : ∀ k, ownQ M v L k → w'.heap[k]? = w.heap[k]? := fun k hk => ht.block k (own_lt h k hk) (hF k hk)
  refine ⟨by rw [World.cell?_of_block (w := w) (hb M (Or.inl rfl))]; exact h.c0, own_block h.own fun g hg => hb g (Or.inr (Or.inl hg)), h.vM, fun o => by rw [ht.froz]; exact h.mf o, Nat.lt_of_lt_of_le h.ml ht.size, h.nd, fun a x hx => ⟨(h.ot a x hx).1, (h.ot a x hx).2.1, Nat.lt_of_lt_of_le (h.ot a x hx).2.2 ht.size⟩, fun i r hd f hi => ?_⟩
  obtain ⟨h1, h2, h3, h4⟩ := h.live i r hd f hi
  obtain ⟨b1, b2, b3⟩ := blocksR_at L i _ hi
  exact ⟨h1.keptB (hb _ (Or.inr (Or.inr ⟨_, b1⟩))) (hb _ (Or.inr (Or.inr ⟨_, b2⟩))) (hb _ (Or.inr (Or.inr ⟨_, b3⟩))), fun o => by rw [ht.froz]; exact h2 o, fun o => by rw [ht.froz]; exact h3 o, h4⟩
theorem RMem.fresh {w w' : World} {M N : Nat} {v : Value} {L : RL} (h : RMem w M N v L) (hf : Fresh w w') : RMem w' M N v L := h.touched (hf.touch fun _ => False) (fun _ _ h => h)
/-- Cells of the row of blocks are turned. -/
theorem RMem.turn {w w' : World} {M N : Nat} {v : Value} {L L' : RL} (h : RMem w M N v L) (ht : Touch (fun k => v.ownBlock = some k) w w') (hl : L'.length = L.length) (ho : w'.ownsRow 0 66 5 v L.length (cellsR L')) (hb : blocksR L' = blocksR L)
    (hi : ∀ (i : Nat) (r : RB) (h : Head) (f : Bool), L'[i]? = some (some r, h, f) → ∃ r' f', L[i]? = some (some r', h, f') ∧ r.sz = r'.sz ∧ r.kd = r'.kd ∧ r.by' = r'.by' ∧ r.pc = r'.pc) : RMem w' M N v L' := by
  have hk : ∀ k, k < w.heap.size → v.ownBlock ≠ some k → w'.heap[k]? = w.heap[k]? := fun k hk hn => ht.block k hk hn
  refine ⟨by rw [World.cell?_of_block (w := w) (hk M h.ml h.vM)]; exact h.c0, by rw [hl]; exact ho, h.vM, fun o => by rw [ht.froz]; exact h.mf o, Nat.lt_of_lt_of_le h.ml ht.size, by rw [hb]; exact h.nd, fun a x hx => ?_, fun i r hd f hir => ?_⟩
  · rw [hb] at hx
    exact ⟨(h.ot a x hx).1, (h.ot a x hx).2.1, Nat.lt_of_lt_of_le (h.ot a x hx).2.2 ht.size⟩
  · obtain ⟨r', f', hi', e1, e2, e3, e4⟩ := hi i r hd f hir
    obtain ⟨h1, h2, h3, h4⟩ := h.live i r' hd f' hi'
    obtain ⟨b1, b2, b3⟩ := blocksR_at L i _ hi'
    have q := fun (a x : Nat) (hx : (blocksR L)[a]? = some x) => hk x (h.ot a x hx).2.2 (h.ot a x hx).2.1
    exact ⟨(h1.keptB (q _ _ b1) (q _ _ b2) (q _ _ b3)).same e1 e2 e3 e4, fun o => by rw [ht.froz]; exact h2 o, fun o => by rw [ht.froz]; exact h3 o, by rw [e1]; exact h4⟩
theorem RMem.mono {w : World} {M N N' : Nat} {v : Value} {L : RL} (h : RMem w M N v L) (hN : N ≤ N') : RMem w M N' v L :=
  ⟨h.c0, h.own, h.vM, h.mf, h.ml, h.nd, h.ot, fun i r hd f hi => by
    obtain ⟨h1, h2⟩ := h.live i r hd f hi
    exact ⟨⟨h1.kd, h1.by', h1.pc.mono hN, h1.k3, h1.k2⟩, h2⟩⟩
/-- One block's own parts are turned. -/
theorem RMem.inner {w w' : World} {M N N' : Nat} {v : Value} {L : RL} (h : RMem w M N v L) {i : Nat} {r r' : RB} {hd : Head} {f : Bool} (hi : L[i]? = some (some r, hd, f)) (ht : Touch (fun k => k = hd.K ∨ k = hd.B ∨ k = hd.P) w w') (hN : N ≤ N') (hr : RBlk w' hd.K hd.B hd.P N' r') (hs : r'.sz = r.sz) (hf : r'.fx = r.fx) :
    RMem w' M N' v (L.set i (some r', hd, f)) := by
  obtain ⟨b1, b2, b3⟩ := blocksR_at L i _ hi
  have hb : blocksR (L.set i (some r', hd, f)) = blocksR L := blocksR_set L i _ _ hi rfl
  have hc : cellsR (L.set i (some r', hd, f)) = cellsR L := by
    rw [cellsR_flat, cellsR_flat, List.map_set]
    congr 1
    have : hv (some r', hd, f) = hv (some r, hd, f) := by simp only [hv, headV, hs, hf]
    rw [this]
    apply List.ext_getElem?
    intro m
    rw [List.getElem?_set]
    split
    · rename_i e
      subst e
      split
      · rw [List.getElem?_map, hi]; rfl
      · rename_i hn; rw [List.getElem?_eq_none (by omega)]
    · rfl
  have no : ∀ a x : Nat, (blocksR L)[a]? = some x → ¬ (a = 3 * i ∨ a = 3 * i + 1 ∨ a = 3 * i + 2) → ¬ (x = hd.K ∨ x = hd.B ∨ x = hd.P) := fun a x hx ha e => by
    rcases e with e | e | e
    · subst e; exact ha (Or.inl (h.nd _ _ _ hx b1))
    · subst e; exact ha (Or.inr (Or.inl (h.nd _ _ _ hx b2)))
    · subst e; exact ha (Or.inr (Or.inr (h.nd _ _ _ hx b3)))
  have nM : ¬ (M = hd.K ∨ M = hd.B ∨ M = hd.P) := fun e => by
    rcases e with e | e | e
    · exact (h.ot _ _ b1).1 e.symm
    · exact (h.ot _ _ b2).1 e.symm
    · exact (h.ot _ _ b3).1 e.symm
  refine ⟨by rw [World.cell?_of_block (w := w) (ht.block M h.ml nM)]; exact h.c0, ?_, h.vM, fun o => by rw [ht.froz]; exact h.mf o, Nat.lt_of_lt_of_le h.ml ht.size, by rw [hb]; exact h.nd, fun a x hx => ?_, fun j r1 hd1 f1 hj => ?_⟩
  · rw [hc, List.length_set]
    refine own_block h.own fun g hg => ht.block g (h.own.lt g hg).2 fun e => ?_
    rcases e with e | e | e
    · exact (h.ot _ _ b1).2.1 (by rw [hg, e])
    · exact (h.ot _ _ b2).2.1 (by rw [hg, e])
    · exact (h.ot _ _ b3).2.1 (by rw [hg, e])
  · rw [hb] at hx
    exact ⟨(h.ot a x hx).1, (h.ot a x hx).2.1, Nat.lt_of_lt_of_le (h.ot a x hx).2.2 ht.size⟩
  · by_cases hij : i = j
    · subst hij
      rw [List.getElem?_set_self (by have := (List.getElem?_eq_some_iff.1 hi).1; exact this)] at hj
      simp only [Option.some.injEq, Prod.mk.injEq] at hj
      obtain ⟨rfl, rfl, rfl⟩ := hj
      obtain ⟨h1, h2, h3, h4⟩ := h.live i r hd f hi
      exact ⟨hr, fun o => by rw [ht.froz]; exact h2 o, fun o => by rw [ht.froz]; exact h3 o, by rw [hs]; exact h4⟩
    · rw [List.getElem?_set_ne hij] at hj
      obtain ⟨h1, h2, h3, h4⟩ := h.live j r1 hd1 f1 hj
      obtain ⟨c1, c2, c3⟩ := blocksR_at L j _ hj
      have q := fun (a x : Nat) (hx : (blocksR L)[a]? = some x) (ha : ¬ (a = 3 * i ∨ a = 3 * i + 1 ∨ a = 3 * i + 2)) => ht.block x (h.ot a x hx).2.2 (no a x hx ha)
      have h1' := h1.keptB (q _ _ c1 (by omega)) (q _ _ c2 (by omega)) (q _ _ c3 (by omega))
      exact ⟨⟨h1'.kd, h1'.by', h1'.pc.mono hN, h1'.k3, h1'.k2⟩, fun o => by rw [ht.froz]; exact h2 o, fun o => by rw [ht.froz]; exact h3 o, h4⟩
/-- What a call of the reference leaves. -/
def LeftR (M : Nat) (v : Value) (L : RL) (R' : List (Option RB)) (N' : Nat) (w w' : World) : Prop :=
  ∃ v' L', RMem w' M N' v' L' ∧ plainR L' = R' ∧ Touch (ownQ M v L) w w' ∧ ∀ k, ownQ M v' L' k → ownQ M v L k ∨ w.heap.size ≤ k
theorem plainR_set (L : RL) (i : Nat) (t : Option RB × Head × Bool) : plainR (L.set i t) = (plainR L).set i t.1 := by
  unfold plainR; rw [List.map_set]
theorem plainR_len (L : RL) : (plainR L).length = L.length := by unfold plainR; rw [List.length_map]
theorem getR_some {L : RL} {b : Int} {r : RB} (h : getR (plainR L) b = some r) : ∃ (n : Nat) (hd : Head) (f : Bool), b = (n : Int) + 1 ∧ n < L.length ∧ L[n]? = some (some r, hd, f) := by
  have hin := getR_in h
  rw [plainR_len] at hin
  obtain ⟨t, ht, he⟩ := getR_plain L b hin.1 hin.2
  rw [h] at he
  refine ⟨(b - 1).toNat, t.2.1, t.2.2, by omega, by omega, ?_⟩
  rw [ht, he]
end Go.Proofs.Ytjbflmpnmobngaa
