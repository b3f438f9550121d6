/- An append onto a row of the call's own that begins anywhere in its block, its source nil, empty or not: in one law. -/
import Derived.Test.YtlmlgdojmcmllaaRa
namespace Go.Proofs.Ytlmlgdojmcmllaa
set_option linter.unusedSimpArgs false
set_option linter.unusedVariables false
open Go.RowKit

/-- A row of the call's own, wherever it begins in its block. -/
def Que (w : World) (base : Nat) (e : TypeId) (v : Value) (xs : List Value) : Prop :=
  (v = .slice none 0 0 ∧ xs = []) ∨
  ∃ g off cap cur, v = .slice (some ⟨g, off, none⟩) xs.length cap ∧ base ≤ g ∧ w.heap[g]? = some (.cells cur e (0, 0)) ∧ xs.length ≤ cap ∧ cap ≤ maxLen ∧ off + cap ≤ cur.size ∧ ∀ i u, xs[i]? = some u → cur[off + i]? = some u
theorem Que.nil (w : World) (base : Nat) (e : TypeId) : Que w base e (.slice none 0 0) [] := Or.inl ⟨rfl, rfl⟩
theorem Que.lt {w : World} {base : Nat} {e : TypeId} {v : Value} {xs : List Value} (h : Que w base e v xs) : ∀ k, v.ownBlock = some k → base ≤ k ∧ k < w.heap.size := by
  rintro k hk
  rcases h with ⟨rfl, _⟩ | ⟨g, off, cap, cur, rfl, hb, hg, _⟩
  · simp [Value.ownBlock] at hk
  · have : g = k := by simpa [Value.ownBlock] using hk
    subst this
    refine ⟨hb, ?_⟩
    rcases Nat.lt_or_ge g w.heap.size with hlt | hge
    · exact hlt
    · rw [Array.getElem?_eq_none hge] at hg; cases hg
theorem Que.kept {w w' : World} {base : Nat} {e : TypeId} {v : Value} {xs : List Value} (h : Que w base e v xs) (hk : ∀ k, v.ownBlock = some k → w'.heap[k]? = w.heap[k]?) : Que w' base e v xs := by
  rcases h with h | ⟨g, off, cap, cur, hv, hb, hg, r⟩
  · exact Or.inl h
  · exact Or.inr ⟨g, off, cap, cur, hv, hb, (hk g (by rw [hv]; rfl)).trans hg, r⟩
theorem Que.fresh {w w' : World} {base : Nat} {e : TypeId} {v : Value} {xs : List Value} (h : Que w base e v xs) (hf : Fresh w w') : Que w' base e v xs :=
  h.kept fun k hk => hf.below.block k (h.lt k hk).2
theorem Que.set {w : World} {base : Nat} {e : TypeId} {v : Value} {xs : List Value} (h : Que w base e v xs) {a : Addr} (ha : v.ownBlock ≠ some a.block) (u : Value) : Que (w.setCell a u) base e v xs :=
  h.kept fun k hk => Below.heap_setCell w a u k (fun e => ha (by rw [hk, e]))
theorem Que.mono {w : World} {base base' : Nat} {e : TypeId} {v : Value} {xs : List Value} (h : Que w base e v xs) (hb : base' ≤ base) : Que w base' e v xs := by
  rcases h with h | ⟨g, off, cap, cur, hv, hg, r⟩
  · exact Or.inl h
  · exact Or.inr ⟨g, off, cap, cur, hv, by omega, r⟩
theorem Que.row {w : World} {base : Nat} {e : TypeId} {v : Value} {xs : List Value} {ok : Nat → Prop} (h : Que w base e v xs) (hk : ∀ b, v.ownBlock = some b → ok b) : Row ok w v xs := by
  rcases h with ⟨rfl, rfl⟩ | ⟨g, off, cap, cur, rfl, hb, hg, hc, hm, hs, ht⟩
  · exact Row.nil ok w
  · refine ⟨_, cap, rfl, ⟨hc, hm⟩, Or.inr ⟨g, off, rfl, hk g rfl, fun i u hu => ?_⟩⟩
    rw [cell_of_row w g (off + i) cur e (0, 0) hg]; exact ht i u hu
theorem Que.of_own {w : World} {base : Nat} {e : TypeId} {v : Value} {n : Nat} {xs : List Value} (h : w.ownsRow base e 1 v n xs) : Que w base e v xs := by
  have hl : xs.length = n := by have := h.1; omega
  rcases h.2 with ⟨rfl, rfl⟩ | ⟨g, cap, cur, hv, hb, hg, hn, hm, hs, ht⟩
  · exact Or.inl ⟨rfl, List.eq_nil_of_length_eq_zero hl⟩
  · refine Or.inr ⟨g, 0, cap, cur, by rw [hv, hl], hb, hg, by omega, hm, by omega, fun i u hu => ?_⟩
    rw [← ht, List.getElem?_take] at hu
    split at hu
    · simpa using hu
    · cases hu
/-- A row that was just made, nothing in it. -/
theorem Que.made (w : World) (e : TypeId) (cs : Array Value) (base : Nat) (hb : base ≤ w.heap.size) : Que (w.alloc (.cells cs e)) base e (.slice (some ⟨w.heap.size, 0, none⟩) 0 0) [] :=
  Or.inr ⟨w.heap.size, 0, 0, cs, rfl, hb, heap_alloc_new w _, by simp, by simp [maxLen], by simp, fun i u hu => by simp at hu⟩
theorem Que.made_full (w : World) (e : TypeId) (xs : List Value) (base : Nat) (hb : base ≤ w.heap.size) (hm : xs.length ≤ maxLen) : Que (w.alloc (.cells xs.toArray e)) base e (.slice (some ⟨w.heap.size, 0, none⟩) xs.length xs.length) xs :=
  Or.inr ⟨w.heap.size, 0, xs.length, xs.toArray, rfl, hb, heap_alloc_new w _, Nat.le_refl _, hm, by simp, fun i u hu => by simpa using hu⟩
/-- The first one struck. -/
theorem Que.tail {w : World} {base : Nat} {e : TypeId} {g off cap : Nat} {x : Value} {xs : List Value} (h : Que w base e (.slice (some ⟨g, off, none⟩) (xs.length + 1) cap) (x :: xs)) : Que w base e (.slice (some ⟨g, off + 1, none⟩) xs.length (cap - 1)) xs := by
  rcases h with ⟨h, _⟩ | ⟨g', off', cap', cur, hv, hb, hg, hc, hm, hs, ht⟩
  · cases h
  · cases hv
    simp only [List.length_cons] at hc
    exact Or.inr ⟨g, off + 1, cap - 1, cur, rfl, hb, hg, by omega, by omega, by omega, fun i u hu => by have := ht (i + 1) u (by simpa using hu); rwa [show off + (i + 1) = off + 1 + i by omega] at this⟩
theorem Que.tail_end {w : World} {base : Nat} {e : TypeId} {g off : Nat} {x : Value} (h : Que w base e (.slice (some ⟨g, off, none⟩) 1 1) [x]) : Que w base e (.slice (some ⟨g, off, none⟩) 0 0) [] := by
  rcases h with ⟨h, _⟩ | ⟨g', off', cap', cur, hv, hb, hg, hc, hm, hs, ht⟩
  · cases h
  · cases hv
    exact Or.inr ⟨g, off, 0, cur, rfl, hb, hg, by simp, by simp [maxLen], by omega, fun i u hu => by simp at hu⟩
def setFrom (cur : Array Value) : Nat → List Value → Array Value
  | _, [] => cur
  | o, v :: r => setFrom (cur.setIfInBounds o v) (o + 1) r
theorem setFrom_size : ∀ (vs : List Value) (cur : Array Value) (o : Nat), (setFrom cur o vs).size = cur.size
  | [], _, _ => rfl
  | v :: r, cur, o => by unfold setFrom; rw [setFrom_size r]; simp
theorem setFrom_out : ∀ (vs : List Value) (cur : Array Value) (o j : Nat), j < o → (setFrom cur o vs)[j]? = cur[j]?
  | [], _, _, _, _ => rfl
  | v :: r, cur, o, j, h => by
    unfold setFrom
    rw [setFrom_out r _ _ _ (by omega), Array.getElem?_setIfInBounds]
    rw [if_neg (by omega)]
theorem setFrom_in : ∀ (vs : List Value) (cur : Array Value) (o j : Nat) (u : Value), o + vs.length ≤ cur.size → vs[j]? = some u → (setFrom cur o vs)[o + j]? = some u
  | [], _, _, _, _, _, h => by simp at h
  | v :: r, cur, o, j, u, hs, h => by
    unfold setFrom
    simp only [List.length_cons] at hs
    cases j with
    | zero =>
      rw [setFrom_out r _ _ _ (by omega), Array.getElem?_setIfInBounds]
      have : v = u := by simpa using h
      rw [if_pos (by omega), if_pos (by omega), this]
    | succ j =>
      have := setFrom_in r (cur.setIfInBounds o v) (o + 1) j u (by simp; omega) (by simpa using h)
      rwa [show o + 1 + j = o + (j + 1) by omega] at this
theorem heap_setCells (g : Nat) (e : TypeId) (fr : Nat × Nat) : ∀ (vs : List Value) (o : Nat) (cur : Array Value) (w : World), w.heap[g]? = some (.cells cur e fr) → (w.setCells g o vs).heap[g]? = some (.cells (setFrom cur o vs) e fr)
  | [], _, _, _, h => h
  | v :: r, o, cur, w, h => by
    unfold World.setCells setFrom
    exact heap_setCells g e fr r (o + 1) _ _ (by simp [World.setCell, Array.getElem?_modify, h])
theorem setCells_grown (g : Nat) : ∀ (vs : List Value) (o : Nat) (w : World), w.grownBy (w.setCells g o vs) (some g)
  | [], _, w => ⟨rfl, rfl, rfl, Nat.le_refl _, fun _ _ _ => rfl⟩
  | v :: r, o, w => by
    have h := setCells_grown g r (o + 1) (w.setCell ⟨g, o, none⟩ v)
    have hz : (w.setCell ⟨g, o, none⟩ v).heap.size = w.heap.size := by simp [World.setCell]
    refine ⟨h.os, h.tape, h.output, by have := h.size; rw [hz] at this; exact this, fun k hk hne => ?_⟩
    have := h.block k (by rw [hz]; exact hk) hne
    unfold World.setCells
    rw [this]
    exact Below.heap_setCell w _ v k (fun e => hne (by rw [e]))
/-- What an append puts behind. -/
def News (w : World) (x : Value) (news : List Value) : Prop := ∃ p c, x = .slice p news.length c ∧ (news = [] ∨ ∃ ad, p = some ad ∧ ∀ j u, news[j]? = some u → w.cell? (ad.add j) = some u)
theorem Row.news {ok : Nat → Prop} {w : World} {v : Value} {xs : List Value} (h : Row ok w v xs) : News w v xs := by
  obtain ⟨p, cap, hv, _, h⟩ := h
  refine ⟨p, cap, hv, h.imp id ?_⟩
  rintro ⟨B, off, hp, _, hh⟩
  refine ⟨_, hp, fun j u hu => ?_⟩
  rw [Addr.add_lit]; exact hh j u hu
theorem news_one (w : World) (x : Value) (t : TypeId) (c : Nat) : News (w.alloc (.cells #[x] t)) (.slice (some ⟨w.heap.size, 0, none⟩) 1 c) [x] := by
  refine ⟨_, c, rfl, Or.inr ⟨_, rfl, fun j u hu => ?_⟩⟩
  rw [Addr.add_lit, World.cell?_alloc_at _ _ _ _ rfl]
  cases j with
  | zero => simpa using hu
  | succ j => simp at hu
section
variable {P : Program} (w : World)
theorem run_app (base : Nat) (t ty e : TypeId) (i : TypeInfo) (z : Value) (bytes : Nat) (ht : P.underlying t = some (.slice e)) (hi : P.info? e = some i) (hz : i.zero = some z)
    (hsize : i.size = 1) (hby : i.bytes = bytes) (hzs : z.cells.size = 1) (v : Value) (xs : List Value) (hv : Que w base e v xs)
    (x : Value) (news : List Value) (hx : News w x news) (h1 : ∀ u ∈ news, u.oneCell' = true) (h63 : xs.length + news.length ≤ maxLen) (hbytes : (xs.length + news.length) * bytes ≤ 140737488355328) (hbase : base ≤ w.heap.size) :
    ∃ v' w', (Builtin.append_ #[t, t] ty #[v, x]).run P w = .ok v' w' ∧ Que w' base e v' (xs ++ news) ∧ w.grownBy w' v.ownBlock ∧ (v'.ownBlock = v.ownBlock ∨ v'.ownBlock = some w.heap.size) := by
  subst hby
  obtain ⟨p, c, rfl, hx⟩ := hx
  have hlen : (xs ++ news).length = xs.length + news.length := List.length_append
  have hsmall : xs.length + news.length ≤ 9223372036854775807 := by simp only [maxLen] at h63; omega
  have grown : ∀ (old : Nat), old < xs.length + news.length → ∀ (row : Option Nat) (zs : List Value),
      Que (w.drew.alloc (.cells ((xs ++ news).toArray ++ Builtin.zeroCells z.cells (grownCap w (xs.length + news.length) old e - (xs.length + news.length))) e)) base e
        (.slice (some ⟨w.heap.size, 0, none⟩) (xs.length + news.length) (grownCap w (xs.length + news.length) old e)) (xs ++ news) ∧
      w.grownBy (w.drew.alloc (.cells ((xs ++ news).toArray ++ Builtin.zeroCells z.cells (grownCap w (xs.length + news.length) old e - (xs.length + news.length))) e)) row := by
    intro old ho row zs
    have hge := grownCap_ge w (xs.length + news.length) old e
    have hcm : grownCap w (xs.length + news.length) old e ≤ maxLen := grownCap_le_maxLen w _ old e h63
    refine ⟨Or.inr ⟨w.heap.size, 0, _, _, by rw [hlen], hbase, heap_alloc_new w.drew _, by rw [hlen]; exact hge, hcm, ?_, fun j u hu => ?_⟩, ⟨rfl, rfl, rfl, by simp, fun k hk _ => Below.heap_alloc w.drew _ k hk⟩⟩
    · simp only [Array.size_append, List.size_toArray, size_zeroCells, hlen]
      rw [hzs]
      omega
    · rw [Array.getElem?_append_left]
      · simpa using hu
      · have hj : j < (xs ++ news).length := by
          rcases Nat.lt_or_ge j (xs ++ news).length with h | h
          · exact h
          · rw [List.getElem?_eq_none h] at hu; cases hu
        simpa using hj
  rcases hx with rfl | ⟨ad, rfl, hnews⟩
  · -- nothing is put behind
    have hsrc : ∀ w' : World, (Builtin.firstCells i.size 0 (.slice p 0 c)).run P w' = .ok #[] w' := fun w' => by
      rcases p with _ | ad
      · exact run_firstCells_none w' i.size 0 0 c
      · exact run_firstCells_some w' i.size 0 ad 0 c [] (by simp) (fun j u hu => by simp at hu)
    refine ⟨v, w, ?_, by simpa using hv, World.grownBy.refl w _, Or.inl rfl⟩
    rcases hv with ⟨rfl, rfl⟩ | ⟨g, off, cap, cur, rfl, _, _, hc, _⟩
    · simp [Builtin.append_, run_underlying ht, sizeOf, typeInfo, hi, Builtin.lenOf, hsrc]
    · simp [Builtin.append_, run_underlying ht, sizeOf, typeInfo, hi, Builtin.lenOf, hc, hsrc, storeCells]
  · have hs : Src P i.size t (.slice (some ad) news.length c) news.length news w := Src.ofSlice w ht ad news.length c news (by rw [hsize, Nat.mul_one]) hnews h1
    rcases hv with ⟨rfl, rfl⟩ | ⟨g, off, cap, cur, rfl, hbg, hg, hc, hcm, hsz, hat⟩
    · cases news with
      | nil =>
        refine ⟨.slice none 0 0, w, ?_, Or.inl ⟨rfl, rfl⟩, World.grownBy.refl w _, Or.inl rfl⟩
        have hsrc : ∀ w' : World, (Builtin.firstCells i.size 0 (.slice (some ad) 0 c)).run P w' = .ok #[] w' := fun w' => run_firstCells_some w' i.size 0 ad 0 c [] (by simp) (fun j u hu => by simp at hu)
        simp [Builtin.append_, run_underlying ht, sizeOf, typeInfo, hi, Builtin.lenOf, hsrc]
      | cons n0 nr =>
        have hgr := grown 0 (by simp) (Value.ownBlock (.slice none 0 0)) []
        have hr := run_append_grow_src (P := P) w t t ty e i z ht hi hz none 0 0 [] (run_firstCells_none w.drew i.size 0 0 0) _ _ _ hs (by simp) (by simp at hsmall ⊢; omega) (growslice_fits (by simp) (by simpa using hbytes))
        simp only [Nat.zero_add, List.nil_append, List.length_nil] at hgr hr
        exact ⟨_, _, hr, hgr.1, hgr.2, Or.inr rfl⟩
    · by_cases hroom : xs.length + news.length ≤ cap
      · have hin : ∀ j, j < news.length → cur[off + xs.length + j]?.isSome = true := fun j hj => by
          rw [Array.getElem?_eq_getElem (by omega)]; rfl
        have hr := run_append_room_src (P := P) w t t ty e i ht hi g off xs.length cap _ _ _ hs hroom (fun j hj => by rw [hsize, Nat.mul_one, cell_of_row w g _ cur e (0, 0) hg]; exact hin j hj) (fun j hj => by simp [World.frozen?, hg])
        rw [hsize, Nat.mul_one] at hr
        refine ⟨_, _, hr, Or.inr ⟨g, off, cap, _, by rw [hlen], hbg, heap_setCells g e (0, 0) news (off + xs.length) cur w hg, by rw [hlen]; exact hroom, hcm, by rw [setFrom_size]; exact hsz, fun j u hu => ?_⟩, setCells_grown g news _ w, Or.inl rfl⟩
        rcases Nat.lt_or_ge j xs.length with hj | hj
        · rw [List.getElem?_append_left hj] at hu
          rw [setFrom_out _ _ _ _ (by omega)]; exact hat j u hu
        · rw [List.getElem?_append_right hj] at hu
          have := setFrom_in news cur (off + xs.length) (j - xs.length) u (by omega) hu
          rwa [show off + xs.length + (j - xs.length) = off + j by omega] at this
      · have hold : (Builtin.firstCells i.size xs.length (.slice (some ⟨g, off, none⟩) xs.length cap)).run P w.drew = .ok xs.toArray w.drew :=
          run_firstCells_some w.drew i.size xs.length ⟨g, off, none⟩ xs.length cap xs (by rw [hsize, Nat.mul_one]) (fun j u hu => by
            rw [Addr.add_lit]
            show w.cell? _ = _
            rw [cell_of_row w g (off + j) cur e (0, 0) hg]; exact hat j u hu)
        have hgr := grown cap (by omega) (Value.ownBlock (.slice (some ⟨g, off, none⟩) xs.length cap)) []
        have hr := run_append_grow_src (P := P) w t t ty e i z ht hi hz (some ⟨g, off, none⟩) xs.length cap xs hold _ _ _ hs (by omega) (by omega) (growslice_fits (by omega) hbytes)
        exact ⟨_, _, hr, hgr.1, hgr.2, Or.inr rfl⟩
theorem wp_app {o : Oper} {a : Act} {K : Act → World → Prop} {Q : Exit → Act → World → Prop} (s x : Operand) (t : TypeId)
    (ho : o.op = .call { callee := .builtin .append, args := #[s, x], argTypes := #[t, t] })
    (base : Nat) (e : TypeId) (i : TypeInfo) (z : Value) (bytes : Nat) (ht : P.underlying t = some (.slice e)) (hi : P.info? e = some i) (hz : i.zero = some z)
    (hsize : i.size = 1) (hby : i.bytes = bytes) (hzs : z.cells.size = 1) (v : Value) (xs : List Value) (hs : a.eval s = v) (hv : Que w base e v xs)
    (y : Value) (news : List Value) (hx : a.eval x = y) (hy : News w y news) (h1 : ∀ u ∈ news, u.oneCell' = true) (h63 : xs.length + news.length ≤ maxLen) (hbytes : (xs.length + news.length) * bytes ≤ 140737488355328) (hbase : base ≤ w.heap.size)
    (h : ∀ v' w', Que w' base e v' (xs ++ news) → w.grownBy w' v.ownBlock → (v'.ownBlock = v.ownBlock ∨ v'.ownBlock = some w.heap.size) → K (a.put o.dst v') w') : o.wp P a w K Q := by
  obtain ⟨v', w', hr, h2, h3, h4⟩ := run_app (P := P) w base t o.type e i z bytes ht hi hz hsize hby hzs v xs hv y news hy h1 h63 hbytes hbase
  unfold Oper.wp execOp
  simp only [ho, resolve, invoke, builtin, Sem.run_bind, Sem.run_pure, Result.andThen_ok, List.map_toArray, List.map_cons, List.map_nil, hs, hx, hr]
  exact h v' w' h2 h3 h4
theorem wpList_app {ops : Array Oper} {rest : List Oper} {o : Oper} {a : Act} {Q : Exit → Act → World → Prop} (hgd : o.guard = none) (s x : Operand) (t : TypeId)
    (ho : o.op = .call { callee := .builtin .append, args := #[s, x], argTypes := #[t, t] })
    (base : Nat) (e : TypeId) (i : TypeInfo) (z : Value) (bytes : Nat) (ht : P.underlying t = some (.slice e)) (hi : P.info? e = some i) (hz : i.zero = some z)
    (hsize : i.size = 1) (hby : i.bytes = bytes) (hzs : z.cells.size = 1) (v : Value) (xs : List Value) (hs : a.eval s = v) (hv : Que w base e v xs)
    (y : Value) (news : List Value) (hx : a.eval x = y) (hy : News w y news) (h1 : ∀ u ∈ news, u.oneCell' = true) (h63 : xs.length + news.length ≤ maxLen) (hbytes : (xs.length + news.length) * bytes ≤ 140737488355328) (hbase : base ≤ w.heap.size)
    (h : ∀ v' w', Que w' base e v' (xs ++ news) → w.grownBy w' v.ownBlock → (v'.ownBlock = v.ownBlock ∨ v'.ownBlock = some w.heap.size) → wpList P ops Q rest (a.put o.dst v') w') : wpList P ops Q (o :: rest) a w :=
  wpList_plain hgd fun _ hK => wp_app w s x t ho base e i z bytes ht hi hz hsize hby hzs v xs hs hv y news hx hy h1 h63 hbytes hbase fun v' w' h2 h3 h4 => hK _ _ (h v' w' h2 h3 h4)
theorem step_app {ops : Array Oper} {o : Oper} {a : Act} {K : Act → World → Prop} {Q : Exit → Act → World → Prop} {E : Prop} (hgd : o.guard = none) (s x : Operand) (t : TypeId)
    (ho : o.op = .call { callee := .builtin .append, args := #[s, x], argTypes := #[t, t] })
    (base : Nat) (e : TypeId) (i : TypeInfo) (z : Value) (bytes : Nat) (ht : P.underlying t = some (.slice e)) (hi : P.info? e = some i) (hz : i.zero = some z)
    (hsize : i.size = 1) (hby : i.bytes = bytes) (hzs : z.cells.size = 1) (v : Value) (xs : List Value) (hs : a.eval s = v) (hv : Que w base e v xs)
    (y : Value) (news : List Value) (hx : a.eval x = y) (hy : News w y news) (h1 : ∀ u ∈ news, u.oneCell' = true) (h63 : xs.length + news.length ≤ maxLen) (hbytes : (xs.length + news.length) * bytes ≤ 140737488355328) (hbase : base ≤ w.heap.size)
    (h : ∀ v' w', Que w' base e v' (xs ++ news) → w.grownBy w' v.ownBlock → (v'.ownBlock = v.ownBlock ∨ v'.ownBlock = some w.heap.size) → K (a.put o.dst v') w') :
    if Region.wanted o (yielded ops a.tmps) = true then Oper.wp P o a w K Q else E := by
  have hw : Region.wanted o (yielded ops a.tmps) = true := by simp [Region.wanted, hgd]
  rw [if_pos hw]
  exact wp_app w s x t ho base e i z bytes ht hi hz hsize hby hzs v xs hs hv y news hx hy h1 h63 hbytes hbase h
theorem wp_appF {o : Oper} {a : Act} {K : Act → World → Prop} {Q : Exit → Act → World → Prop} (s x : Operand) (t : TypeId)
    (ho : o.op = .call { callee := .builtin .append, args := #[s, x], argTypes := #[t, t] })
    (w0 : World) (e : TypeId) (i : TypeInfo) (z : Value) (bytes : Nat) (ht : P.underlying t = some (.slice e)) (hi : P.info? e = some i) (hz : i.zero = some z)
    (hsize : i.size = 1) (hby : i.bytes = bytes) (hzs : z.cells.size = 1) (v : Value) (xs : List Value) (hs : a.eval s = v) (hF : Fresh w0 w) (hv : Que w w0.heap.size e v xs)
    (y : Value) (news : List Value) (hx : a.eval x = y) (hy : News w y news) (h1 : ∀ u ∈ news, u.oneCell' = true) (h63 : xs.length + news.length ≤ maxLen) (hbytes : (xs.length + news.length) * bytes ≤ 140737488355328)
    (h : ∀ v' w', Que w' w0.heap.size e v' (xs ++ news) → Fresh w0 w' → Sts (fun b => some b ≠ v.ownBlock) w w' → (v'.ownBlock = v.ownBlock ∨ v'.ownBlock = some w.heap.size) → K (a.put o.dst v') w') : o.wp P a w K Q :=
  wp_app w s x t ho w0.heap.size e i z bytes ht hi hz hsize hby hzs v xs hs hv y news hx hy h1 h63 hbytes hF.size fun v' w' h2 h3 h4 => h v' w' h2 (hF.grown h3 fun k hk => (hv.lt k hk).1) (sts_grown h3) h4
theorem wpList_appF {ops : Array Oper} {rest : List Oper} {o : Oper} {a : Act} {Q : Exit → Act → World → Prop} (hgd : o.guard = none) (s x : Operand) (t : TypeId)
    (ho : o.op = .call { callee := .builtin .append, args := #[s, x], argTypes := #[t, t] })
    (w0 : World) (e : TypeId) (i : TypeInfo) (z : Value) (bytes : Nat) (ht : P.underlying t = some (.slice e)) (hi : P.info? e = some i) (hz : i.zero = some z)
    (hsize : i.size = 1) (hby : i.bytes = bytes) (hzs : z.cells.size = 1) (v : Value) (xs : List Value) (hs : a.eval s = v) (hF : Fresh w0 w) (hv : Que w w0.heap.size e v xs)
    (y : Value) (news : List Value) (hx : a.eval x = y) (hy : News w y news) (h1 : ∀ u ∈ news, u.oneCell' = true) (h63 : xs.length + news.length ≤ maxLen) (hbytes : (xs.length + news.length) * bytes ≤ 140737488355328)
    (h : ∀ v' w', Que w' w0.heap.size e v' (xs ++ news) → Fresh w0 w' → Sts (fun b => some b ≠ v.ownBlock) w w' → (v'.ownBlock = v.ownBlock ∨ v'.ownBlock = some w.heap.size) → wpList P ops Q rest (a.put o.dst v') w') : wpList P ops Q (o :: rest) a w :=
  wpList_plain hgd fun _ hK => wp_appF w s x t ho w0 e i z bytes ht hi hz hsize hby hzs v xs hs hF hv y news hx hy h1 h63 hbytes fun v' w' h2 h3 h4 h5 => hK _ _ (h v' w' h2 h3 h4 h5)
theorem step_appF {ops : Array Oper} {o : Oper} {a : Act} {K : Act → World → Prop} {Q : Exit → Act → World → Prop} {E : Prop} (hgd : o.guard = none) (s x : Operand) (t : TypeId)
    (ho : o.op = .call { callee := .builtin .append, args := #[s, x], argTypes := #[t, t] })
    (w0 : World) (e : TypeId) (i : TypeInfo) (z : Value) (bytes : Nat) (ht : P.underlying t = some (.slice e)) (hi : P.info? e = some i) (hz : i.zero = some z)
    (hsize : i.size = 1) (hby : i.bytes = bytes) (hzs : z.cells.size = 1) (v : Value) (xs : List Value) (hs : a.eval s = v) (hF : Fresh w0 w) (hv : Que w w0.heap.size e v xs)
    (y : Value) (news : List Value) (hx : a.eval x = y) (hy : News w y news) (h1 : ∀ u ∈ news, u.oneCell' = true) (h63 : xs.length + news.length ≤ maxLen) (hbytes : (xs.length + news.length) * bytes ≤ 140737488355328)
    (h : ∀ v' w', Que w' w0.heap.size e v' (xs ++ news) → Fresh w0 w' → Sts (fun b => some b ≠ v.ownBlock) w w' → (v'.ownBlock = v.ownBlock ∨ v'.ownBlock = some w.heap.size) → K (a.put o.dst v') w') :
    if Region.wanted o (yielded ops a.tmps) = true then Oper.wp P o a w K Q else E := by
  have hw : Region.wanted o (yielded ops a.tmps) = true := by simp [Region.wanted, hgd]
  rw [if_pos hw]
  exact wp_appF w s x t ho w0 e i z bytes ht hi hz hsize hby hzs v xs hs hF hv y news hx hy h1 h63 hbytes h
end
theorem News.fresh {w w' : World} {x : Value} {news : List Value} (h : News w x news) (hf : Fresh w w') : News w' x news := by
  obtain ⟨p, c, hv, h⟩ := h
  refine ⟨p, c, hv, h.imp id ?_⟩
  rintro ⟨ad, hp, hh⟩
  exact ⟨ad, hp, fun j u hu => (hf.below.cell (cell_lt (hh j u hu))).trans (hh j u hu)⟩
theorem Que.drew {w : World} {base : Nat} {e : TypeId} {v : Value} {xs : List Value} (h : Que w base e v xs) : Que w.drew base e v xs := h
theorem Que.alloc {w : World} {base : Nat} {e : TypeId} {v : Value} {xs : List Value} (h : Que w base e v xs) (cs : Array Value) (t : TypeId) : Que (w.alloc (.cells cs t)) base e v xs := h.fresh ((Fresh.refl _).alloc _ _)
theorem News.drew {w : World} {x : Value} {news : List Value} (h : News w x news) : News w.drew x news := h
theorem News.alloc {w : World} {x : Value} {news : List Value} (h : News w x news) (cs : Array Value) (t : TypeId) : News (w.alloc (.cells cs t)) x news := h.fresh ((Fresh.refl _).alloc _ _)
theorem news_at (w : World) (x : Value) (t : TypeId) (c H : Nat) (hH : w.heap.size = H) : News (w.alloc (.cells #[x] t)) (.slice (some ⟨H, 0, none⟩) 1 c) [x] := hH ▸ news_one w x t c
theorem news_far {w w' : World} {B off n c : Nat} {news : List Value} {row : Option Nat} (h : News w (.slice (some ⟨B, off, none⟩) n c) news) (hs : Sts (fun b => some b ≠ row) w w') (hne : some B ≠ row) : News w' (.slice (some ⟨B, off, none⟩) n c) news := by
  obtain ⟨p, c', hv, h⟩ := h
  cases hv
  refine ⟨_, _, rfl, h.imp id ?_⟩
  rintro ⟨ad, hp, hh⟩
  cases hp
  refine ⟨_, rfl, fun j u hu => ?_⟩
  have := hh j u hu
  rw [Addr.add_lit] at this ⊢
  exact hs _ _ _ hne this
theorem news_none (w : World) (p : Option Addr) (c : Nat) : News w (.slice p 0 c) [] := ⟨p, c, rfl, Or.inl rfl⟩
theorem que_at (w : World) (e : TypeId) (cs : Array Value) (base H : Nat) (hH : w.heap.size = H) (hb : base ≤ H) : Que (w.alloc (.cells cs e)) base e (.slice (some ⟨H, 0, none⟩) 0 0) [] := by
  subst hH; exact Que.made w e cs base hb
end Go.Proofs.Ytlmlgdojmcmllaa
