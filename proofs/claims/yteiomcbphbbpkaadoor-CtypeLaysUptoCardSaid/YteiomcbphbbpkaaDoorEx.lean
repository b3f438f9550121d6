/- A record that came in: its members' numbers; the bound on how many. -/
import Derived.Test.YteiomcbphbbpkaaDoorEw
import Derived.Test.YteiomcbphbbpkaaDoorEk
namespace Go.Proofs.YteiomcbphbbpkaaDoor
set_option linter.unusedSimpArgs false
set_option linter.unusedVariables false
set_option maxRecDepth 100000
open Go.ChangeShapes Go.WideShapes Go.ChangeAt Go.RowKit Go.Joins

theorem cells23 : Tryd.prog.cellsOf 23 = 1 := by kernel_rfl
theorem cells51 : Tryd.prog.cellsOf 51 = 1 := by kernel_rfl
theorem cells4 : Tryd.prog.cellsOf 4 = 1 := by kernel_rfl
theorem cells53 : Tryd.prog.cellsOf 53 = 5 := by kernel_rfl
theorem bulk_one {H : Type} (d : DataW H) : 1 ≤ Rows.uptoBulk d := by
  cases d with
  | lit l => cases l <;> simp [Rows.uptoBulk]
  | _ => simp [Rows.uptoBulk]
theorem bulk_len {H : Type} (l : List (DataW H)) : l.length ≤ Rows.uptoBulkAll l := by
  induction l with
  | nil => simp [Rows.uptoBulkAll]
  | cons x r ih => have := bulk_one x; simp only [Rows.uptoBulkAll, List.length_cons]; omega
section
variable {H : Type} {enc : TypeId × Value → H} {W : World} {held : Bool}
theorem plain_at {a : Addr} {len : Nat} {V : Nat → Value} (hl : 0 < len) (h : ∀ i, i < len → W.cell? (a.add i) = some (V i)) : ∃ b off, a = ⟨b, off, none⟩ ∧ ∀ i, i < len → W.cell? ⟨b, off + i, none⟩ = some (V i) := by
  obtain ⟨b, off, spot⟩ := a
  have h0 := World.cell?_spot (h 0 hl)
  simp only [Addr.add] at h0
  subst h0
  exact ⟨b, off, rfl, fun i hi => by have := h i hi; rwa [Go.WideShapes.add_plain] at this⟩
theorem open_code1 {n : Nat} {cs : List Value} {x : DataW H × List MemPlace} (h : DataW.trod enc Tryd.prog W 0 (fun _ => true) held n 23 cs = some x) :
    ∃ (p : Option Addr) (m cap : Nat) (zs : Nat → Int), cs = [.slice p m cap] ∧ CodeAt W zs m 0 p m cap := by
  rcases Deep.open_slice1 Tryd.underlying23 cells3 h with ⟨rfl, -⟩ | ⟨a, len, cap, m, n', V, D, Pl, rfl, -, hl, hm, hmm, -, hi⟩
  · exact ⟨_, _, _, fun _ => 0, rfl, rfl, Nat.le_refl _, Nat.zero_le _, Or.inl rfl⟩
  · simp at hmm
    by_cases hz : len = 0
    · subst hz; exact ⟨_, _, _, fun _ => 0, rfl, rfl, hl, hm, Or.inl rfl⟩
    obtain ⟨b, off, rfl, hc⟩ := plain_at (V := V) (len := len) (by omega) (fun i hlt => (hi i (by omega)).1)
    obtain ⟨zs, hzs⟩ := Deep.choose_lt (α := Int) (n := len) (p := fun i z => V i = .int .i64 z) (fun i hlt => by
      obtain ⟨z, e, -⟩ := DataW.trod_int Tryd.underlying3 (hi i (by omega)).2
      exact ⟨z, by simpa using e⟩)
    refine ⟨_, len, cap, zs, rfl, by omega, hl, hm, Or.inr ⟨b, off, rfl, fun j hj => ?_⟩⟩
    rw [Nat.zero_add, hc j hj, hzs j hj]
theorem open_types {n : Nat} {cs : List Value} {x : DataW H × List MemPlace} (h : DataW.trod enc Tryd.prog W 0 (fun _ => true) held n 51 cs = some x) :
    ∃ (p : Option Addr) (m cap : Nat) (zs : Nat → Nat → Int) (ln : Nat → Nat), cs = [.slice p m cap] ∧ m ≤ cap ∧ cap ≤ maxLen ∧ m ≤ Rows.uptoBulk x.1 ∧
      (m = 0 ∨ ∃ B off, p = some ⟨B, off, none⟩ ∧ ∀ i, i < m → ∃ q c, W.cell? ⟨B, off + i, none⟩ = some (.slice q (ln i) c) ∧ CodeAt W (zs i) (ln i) 0 q (ln i) c) := by
  rcases Deep.open_slice1 Tryd.underlying51 cells23 h with ⟨rfl, -⟩ | ⟨a, len, cap, m, n', V, D, Pl, rfl, -, hl, hm, hmm, hx, hi⟩
  · exact ⟨_, _, _, fun _ _ => 0, fun _ => 0, rfl, Nat.le_refl _, Nat.zero_le _, Nat.zero_le _, Or.inl rfl⟩
  · simp at hmm
    have hb : len ≤ Rows.uptoBulk x.1 := by
      rw [hx]
      simp only [Rows.uptoBulk]
      have := bulk_len ((List.range len).map D)
      simp at this
      omega
    by_cases hz : len = 0
    · subst hz; exact ⟨_, _, _, fun _ _ => 0, fun _ => 0, rfl, hl, hm, hb, Or.inl rfl⟩
    obtain ⟨b, off, rfl, hc⟩ := plain_at (V := V) (len := len) (by omega) (fun i hlt => (hi i (by omega)).1)
    obtain ⟨f, hf⟩ := Deep.choose_lt (α := (Nat → Int) × Nat) (n := len) (p := fun i y => ∃ q c, V i = .slice q y.2 c ∧ CodeAt W y.1 y.2 0 q y.2 c) (fun i hlt => by
      obtain ⟨q, k, c, zs, e, hcode⟩ := open_code1 (hi i (by omega)).2
      exact ⟨(zs, k), q, c, by simpa using e, hcode⟩)
    refine ⟨_, len, cap, fun i => (f i).1, fun i => (f i).2, rfl, hl, hm, hb, Or.inr ⟨b, off, rfl, fun i hlt => ?_⟩⟩
    obtain ⟨q, c, e, hcode⟩ := hf i hlt
    exact ⟨q, c, by rw [hc i hlt, e], hcode⟩
theorem open_rec {v : Value} {d : DataW H} {ps : List MemPlace} (hok : Value.okWide Tryd.prog W .any 0 53 v) (h : DataW.Trod enc Tryd.prog W 0 (fun _ => true) true 53 v d ps) :
    ∃ (r : Rec) (np : Option Addr) (nc : Nat) (tp : Option Addr) (tc : Nat), v = .agg #[.int .i64 r.name, .bool r.un, .slice np r.nn nc, .slice tp r.N tc, .bool r.forget] ∧ RecAt W r np nc tp tc ∧ r.N ≤ Rows.uptoBulk d := by
  obtain ⟨cs, rfl, hsz⟩ := okWide_struct Tryd.underlying53 hok
  obtain ⟨fuel, hf⟩ := h
  obtain ⟨xs, n', -, hx, hl, hxl, hfd⟩ := DataW.trod_struct Tryd.underlying53 hf
  have hl2 : xs.length = 5 := hxl
  obtain ⟨l⟩ := cs
  have hc5 : l.length = 5 := by simpa using hsz.trans cells53
  match l, hc5, xs, hl2 with
  | [c0, c1, c2, c3, c4], _, [y0, y1, y2, y3, y4], _ =>
    have h0 := hfd 0 _ rfl
    have h1 := hfd 1 _ rfl
    have h2 := hfd 2 _ rfl
    have h3 := hfd 3 _ rfl
    have h4 := hfd 4 _ rfl
    simp [Value.cells, cells3, cells4, cells23, cells51] at h0 h1 h2 h3 h4
    obtain ⟨a, e0, -⟩ := DataW.trod_int Tryd.underlying3 h0
    obtain ⟨u, e1, -⟩ := DataW.trod_bool Tryd.underlying4 h1
    obtain ⟨np, nn, nc, nz, e2, hn⟩ := open_code1 h2
    obtain ⟨tp, N, tc, zs, ln, e3, hle, hmax, hb, ht⟩ := open_types h3
    obtain ⟨fg, e4, -⟩ := DataW.trod_bool Tryd.underlying4 h4
    simp at e0 e1 e2 e3 e4
    subst e0 e1 e2 e3 e4
    refine ⟨⟨a, u, nz, nn, N, zs, ln, fg⟩, np, nc, tp, tc, rfl, ⟨hn, hle, hmax, ht⟩, ?_⟩
    simp only [Prod.mk.injEq] at hx
    rw [hx.1]
    simp only [Rows.uptoBulk, List.map_cons, List.map_nil, Rows.uptoBulkAll]
    show N ≤ _
    omega
end
end Go.Proofs.YteiomcbphbbpkaaDoor
