/- Outcomes that came in: their cells. Arguments that are only read, read as they did. -/
import Derived.Test.YtjbflmpnmobngaaDoorDd
import Derived.WideKeyArgs
import Derived.ChangeSlices
import Derived.OpenShut
import Derived.ProofKit
import Derived.Lib.SmallJoins
import Derived.Deep.Slices
import Derived.ChangeSame
namespace Go.Proofs.YtjbflmpnmobngaaDoor
set_option linter.unusedSimpArgs false
set_option linter.unusedVariables false
open Go.ChangeShapes Go.WideShapes Go.ChangeAt Go.RowKit Go.Joins

theorem laidOut : laidOutB Tryd.prog = true := by kernel_rfl
theorem all_stay {H : Type} {enc : TypeId × Value → H} {W W' : World} (hb : Below W.heap.size W W') (sp : Nat → Bool) : ∀ (ts : List TypeId), (∀ t ∈ ts, Tryd.prog.readableRec t = true ∧ t < Tryd.prog.types.size) →
    ∀ {vs : List Value} {ds : List (DataW H)} {p : List MemPlace}, DataW.TrodAll enc Tryd.prog W 0 (fun _ => true) true ts vs ds p → (∀ x ∈ p, x.block < W.heap.size) → (∀ x ∈ p, sp x.block = true) →
    DataW.TrodAll enc Tryd.prog W' 0 sp true ts vs ds p
  | [], _, _, _, _, h, _, _ => by
    obtain ⟨rfl, rfl, rfl⟩ := trodAll_nil h
    exact trodAll_mk0
  | t :: ts, hts, _, _, _, h, hlt, hsp => by
    obtain ⟨v, vs', d, ds', p, q, rfl, rfl, rfl, h0, h1⟩ := trodAll_cons h
    have ht := hts t (List.mem_cons_self ..)
    exact trodAll_cons_mk (WideElems.Trod_stays laidOut ht.1 ht.2 h0 (fun x hx => hb.same (hlt x (List.mem_append_left _ hx))) (fun x hx => hsp x (List.mem_append_left _ hx)))
      (all_stay hb sp ts (fun t' h' => hts t' (List.mem_cons_of_mem _ h')) h1 (fun x hx => hlt x (List.mem_append_right _ hx)) (fun x hx => hsp x (List.mem_append_right _ hx)))
theorem cells30 : Tryd.prog.cellsOf 30 = 3 := by kernel_rfl
theorem cells32 : Tryd.prog.cellsOf 32 = 5 := by kernel_rfl
theorem cells40 : Tryd.prog.cellsOf 40 = 4 := by kernel_rfl
theorem cells3 : Tryd.prog.cellsOf 3 = 1 := by kernel_rfl
theorem cells28 : Tryd.prog.cellsOf 28 = 1 := by kernel_rfl
theorem cells9 : Tryd.prog.cellsOf 9 = 1 := by kernel_rfl
theorem cells25 : Tryd.prog.cellsOf 25 = 1 := by kernel_rfl
instance : Inhabited V3 := ⟨⟨0, 0, 0⟩⟩
instance : Inhabited Ev := ⟨⟨ByteArray.empty, none, 0, 0, fun _ => default, default⟩⟩
section
variable {H : Type} {enc : TypeId × Value → H} {W : World} {sp : Nat → Bool} {held : Bool}
/-- The cells of a slice's elements, at a plain address. -/
theorem row_cells {a : Addr} {C m : Nat} (hC : 0 < C) (hm : 0 < m) {p : Nat → List Value → Prop} (h : ∀ i, i < m → ∃ cs, W.cells? 0 (a.add (i * C)) C = some cs ∧ p i cs) :
    ∃ b off, a = ⟨b, off, none⟩ ∧ ∀ i, i < m → ∃ cs : List Value, cs.length = C ∧ p i cs ∧ ∀ j, j < C → W.cell? ⟨b, off + i * C + j, none⟩ = cs[j]? := by
  obtain ⟨b, off, spot⟩ := a
  have hspot : spot = none := by
    obtain ⟨cs, h1, _⟩ := h 0 hm
    obtain ⟨_, hl, hc⟩ := World.cells?_some h1
    have h2 := hc 0 hC
    have h3 : cs[0]? = some (cs[0]'(by omega)) := List.getElem?_eq_getElem (by omega)
    rw [h3] at h2
    simpa [Addr.add] using World.cell?_spot h2
  subst hspot
  refine ⟨b, off, rfl, fun i hi => ?_⟩
  obtain ⟨cs, h1, h2⟩ := h i hi
  obtain ⟨_, hl, hc⟩ := World.cells?_some h1
  refine ⟨cs, hl, h2, fun j hj => ?_⟩
  have := hc j hj
  rwa [Go.WideShapes.add_plain, Go.WideShapes.add_plain] at this
theorem open_v3 {n : Nat} {cs : List Value} {x : DataW H × List MemPlace} (h : DataW.trod enc Tryd.prog W 0 sp held n 30 cs = some x) :
    ∃ V : V3, cs = [.int .i64 V.k, .int .u64 V.n, .int .i64 V.b] := by
  obtain ⟨xs, n', -, -, hl, hx, hf⟩ := DataW.trod_struct Tryd.underlying30 h
  rw [cells30] at hl
  match cs, hl with
  | [c0, c1, c2], _ =>
    have hxl : xs.length = 3 := hx
    match xs, hxl with
    | [y0, y1, y2], _ =>
      have h0 := hf 0 _ rfl
      have h1 := hf 1 _ rfl
      have h2 := hf 2 _ rfl
      simp [cells3, cells28] at h0 h1 h2
      obtain ⟨k, e0, -⟩ := DataW.trod_int Tryd.underlying3 h0
      obtain ⟨m, e1, -⟩ := DataW.trod_int Tryd.underlying28 h1
      obtain ⟨b, e2, -⟩ := DataW.trod_int Tryd.underlying3 h2
      simp at e0 e1 e2
      subst e0 e1 e2
      exact ⟨⟨k, m, b⟩, rfl⟩
theorem open_vals {n : Nat} {cs : List Value} {x : DataW H × List MemPlace} (h : DataW.trod enc Tryd.prog W 0 (fun _ => true) held n 25 cs = some x) :
    ∃ p m cap f, cs = [.slice p m cap] ∧ ValsAt W p m f ∧ m ≤ cap ∧ cap ≤ maxLen := by
  rcases Deep.open_slice Tryd.underlying25 h with ⟨rfl, -⟩ | ⟨a, len, cap, m, n', D, Pl, rfl, -, hl, hm, hmm, -, hi⟩
  · exact ⟨none, 0, 0, fun _ => default, rfl, Or.inl rfl, Nat.le_refl _, Nat.zero_le _⟩
  · simp at hmm
    by_cases hz : len = 0
    · exact ⟨_, _, _, fun _ => default, rfl, Or.inl hz, hl, hm⟩
    rw [cells30] at hi
    obtain ⟨b, off, rfl, hc⟩ := row_cells (by decide) (by omega) hi
    obtain ⟨f, hf⟩ := Deep.choose_lt (α := V3) (n := len) (p := fun i V => W.cell? ⟨b, off + i * 3, none⟩ = some (.int .i64 V.k) ∧ W.cell? ⟨b, off + i * 3 + 1, none⟩ = some (.int .u64 V.n) ∧ W.cell? ⟨b, off + i * 3 + 2, none⟩ = some (.int .i64 V.b)) (fun i hlt => by
      obtain ⟨cs, -, ht, hcell⟩ := hc i (by omega)
      obtain ⟨V, rfl⟩ := open_v3 ht
      exact ⟨V, hcell 0 (by decide), hcell 1 (by decide), hcell 2 (by decide)⟩)
    exact ⟨_, len, cap, f, rfl, Or.inr ⟨b, off, rfl, hf⟩, hl, hm⟩
theorem open_ev {n : Nat} {cs : List Value} {x : DataW H × List MemPlace} (h : DataW.trod enc Tryd.prog W 0 (fun _ => true) held n 32 cs = some x) :
    ∃ E : Ev, cs = [.string E.nm, .slice E.p E.n E.cap, .int .i64 E.r.k, .int .u64 E.r.n, .int .i64 E.r.b] ∧ E.okAt W ∧ E.nm.size ≤ maxLen := by
  obtain ⟨xs, n', -, -, hl, hx, hf⟩ := DataW.trod_struct Tryd.underlying32 h
  rw [cells32] at hl
  match cs, hl with
  | [c0, c1, c2, c3, c4], _ =>
    have hxl : xs.length = 3 := hx
    match xs, hxl with
    | [y0, y1, y2], _ =>
      have h0 := hf 0 _ rfl
      have h1 := hf 1 _ rfl
      have h2 := hf 2 _ rfl
      simp [cells9, cells25, cells30] at h0 h1 h2
      obtain ⟨s, e0, -, hs⟩ := DataW.trod_string Tryd.underlying9 h0
      obtain ⟨p, m, cap, f, e1, hv, hm, hcap⟩ := open_vals h1
      obtain ⟨V, e2⟩ := open_v3 h2
      simp at e0 e1 e2
      obtain ⟨e2, e3, e4⟩ := e2
      subst e0 e1 e2 e3 e4
      exact ⟨⟨s, p, m, cap, f, V⟩, rfl, ⟨hv, hm, hcap⟩, hs⟩
theorem open_evs {n : Nat} {cs : List Value} {x : DataW H × List MemPlace} (h : DataW.trod enc Tryd.prog W 0 (fun _ => true) held n 38 cs = some x) :
    ∃ p m cap f, cs = [.slice p m cap] ∧ EvsAt W p m f ∧ m ≤ cap ∧ cap ≤ maxLen := by
  rcases Deep.open_slice Tryd.underlying38 h with ⟨rfl, -⟩ | ⟨a, len, cap, m, n', D, Pl, rfl, -, hl, hm, hmm, -, hi⟩
  · exact ⟨none, 0, 0, fun _ => default, rfl, Or.inl rfl, Nat.le_refl _, Nat.zero_le _⟩
  · simp at hmm
    by_cases hz : len = 0
    · exact ⟨_, _, _, fun _ => default, rfl, Or.inl hz, hl, hm⟩
    rw [cells32] at hi
    obtain ⟨b, off, rfl, hc⟩ := row_cells (by decide) (by omega) hi
    obtain ⟨f, hf⟩ := Deep.choose_lt (α := Ev) (n := len) (p := fun i E => (W.cell? ⟨b, off + i * 5, none⟩ = some (.string E.nm) ∧ W.cell? ⟨b, off + i * 5 + 1, none⟩ = some (.slice E.p E.n E.cap) ∧
      W.cell? ⟨b, off + i * 5 + 2, none⟩ = some (.int .i64 E.r.k) ∧ W.cell? ⟨b, off + i * 5 + 3, none⟩ = some (.int .u64 E.r.n) ∧ W.cell? ⟨b, off + i * 5 + 4, none⟩ = some (.int .i64 E.r.b)) ∧ E.okAt W) (fun i hlt => by
      obtain ⟨cs, -, ht, hcell⟩ := hc i (by omega)
      obtain ⟨E, rfl, hE, -⟩ := open_ev ht
      exact ⟨E, ⟨hcell 0 (by decide), hcell 1 (by decide), hcell 2 (by decide), hcell 3 (by decide), hcell 4 (by decide)⟩, hE⟩)
    exact ⟨_, len, cap, f, rfl, Or.inr ⟨b, off, rfl, hf⟩, hl, hm⟩
theorem open_oc {v : Value} {d : DataW H} {ps : List MemPlace} (hok : Value.okWide Tryd.prog W .any 0 40 v) (h : DataW.Trod enc Tryd.prog W 0 (fun _ => true) true 40 v d ps) :
    ∃ o : Oc, v = .agg #[.slice o.p o.n o.cap, .int .i64 o.st, .int .i32 o.code, .int .i64 o.steps] ∧ o.okAt W := by
  obtain ⟨c0, c1, c2, c3, y0, y1, y2, y3, n, rfl, -, -, h0, h1, h2, h3⟩ := open_agg4 Tryd.underlying40 (by kernel_rfl) cells40 hok h
  obtain ⟨p, m, cap, f, e0, hv, hm, hcap⟩ := open_evs h0
  obtain ⟨st, e1, -⟩ := DataW.trod_int Tryd.underlying3 h1
  obtain ⟨code, e2, -⟩ := DataW.trod_int Tryd.underlying21 h2
  obtain ⟨steps, e3, -⟩ := DataW.trod_int Tryd.underlying3 h3
  simp at e0 e1 e2 e3
  subst e0 e1 e2 e3
  exact ⟨⟨p, m, cap, f, st, code, steps⟩, rfl, hv, hm, hcap⟩
end
end Go.Proofs.YtjbflmpnmobngaaDoor
