/- Outcomes that came in: their numbers are words, and their text is no longer than what came in lets it be. -/
import Derived.Test.YtjbflmpnmobngaaDoorTu
import Derived.Test.YtjbflmpnmobngaaDoorDo
import Derived.Test.YtjbflmpnmobngaaDoorRows
namespace Go.Proofs.YtjbflmpnmobngaaDoor
set_option linter.unusedSimpArgs false
set_option linter.unusedVariables false
open Go.ChangeShapes Go.WideShapes Go.ChangeAt Go.RowKit Go.Joins

theorem bulk_app {H : Type} : ∀ (l m : List (DataW H)), Rows.uptoBulkAll (l ++ m) = Rows.uptoBulkAll l + Rows.uptoBulkAll m
  | [], m => by simp [Rows.uptoBulkAll]
  | d :: l, m => by
    simp only [List.cons_append, Rows.uptoBulkAll]
    rw [bulk_app l m]
    omega
theorem bulk_range {H : Type} (D : Nat → DataW H) (c : Nat) : ∀ n, (∀ i, i < n → c ≤ Rows.uptoBulk (D i)) → n * c ≤ Rows.uptoBulkAll ((List.range n).map D)
  | 0, _ => by simp
  | n + 1, h => by
    have h1 := bulk_range D c n (fun i hi => h i (by omega))
    have h2 := h n (by omega)
    rw [List.range_succ, List.map_append, bulk_app]
    simp only [List.map_cons, List.map_nil, Rows.uptoBulkAll]
    rw [Nat.succ_mul]
    omega
theorem argsT_len (f : Nat → V3) : ∀ n, (∀ i, i < n → (f i).ok) → (argsT f n).length ≤ 24 * n
  | 0, _ => by simp [argsT]
  | n + 1, h => by
    have h1 := argsT_len f n (fun i hi => h i (by omega))
    have h2 := valT_len (f n) (h n (by omega))
    simp only [argsT, List.length_append]
    split <;> simp <;> omega
theorem resT_len (V : V3) (h : V.ok) : (resT V).length ≤ 25 := by
  have h2 := valT_len V h
  unfold resT
  split <;> simp <;> omega
theorem evsT_bulk {H : Type} (D : Nat → DataW H) (f : Nat → Ev) : ∀ n, (∀ i, i < n → (evT (f i)).length ≤ 24 * Rows.uptoBulk (D i)) → (evsT f n).length ≤ 24 * Rows.uptoBulkAll ((List.range n).map D)
  | 0, _ => by simp [evsT]
  | n + 1, h => by
    have h1 := evsT_bulk D f n (fun i hi => h i (by omega))
    have h2 := h n (by omega)
    rw [List.range_succ, List.map_append, bulk_app]
    simp only [List.map_cons, List.map_nil, Rows.uptoBulkAll, evsT, List.length_append]
    omega
section
variable {H : Type} {enc : TypeId × Value → H} {W : World} {sp : Nat → Bool} {held : Bool}
theorem open_v3n {n : Nat} {cs : List Value} {x : DataW H × List MemPlace} (h : DataW.trod enc Tryd.prog W 0 sp held n 30 cs = some x) :
    ∃ V : V3, cs = [.int .i64 V.k, .int .u64 V.n, .int .i64 V.b] ∧ V.ok ∧ 4 ≤ Rows.uptoBulk x.1 := by
  obtain ⟨xs, n', -, hxx, hl, hx, hf⟩ := DataW.trod_struct Tryd.underlying30 h
  rw [cells30] at hl
  match cs, hl with
  | [c0, c1, c2], _ =>
    have hxl : xs.length = 3 := hx
    match xs, hxl with
    | [y0, y1, y2], _ =>
      have h0 := hf 0 _ rfl
      have h1 := hf 1 _ rfl
      have h2 := hf 2 _ rfl
      simp [cells3, cells28] at h0 h1 h2
      obtain ⟨k, e0, z0, -⟩ := DataW.trod_int Tryd.underlying3 h0
      obtain ⟨m, e1, z1, wm⟩ := DataW.trod_int Tryd.underlying28 h1
      obtain ⟨b, e2, z2, -⟩ := DataW.trod_int Tryd.underlying3 h2
      simp at e0 e1 e2
      subst e0 e1 e2
      have := bounds_u64 wm
      refine ⟨⟨k, m, b⟩, rfl, ⟨by simp only; omega, by simp only; omega⟩, ?_⟩
      rw [hxx]
      simp only [List.map_cons, List.map_nil, Rows.uptoBulk, Rows.uptoBulkAll, z0, z1, z2]
      omega
theorem open_valsn {n : Nat} {cs : List Value} {x : DataW H × List MemPlace} (h : DataW.trod enc Tryd.prog W 0 (fun _ => true) held n 25 cs = some x) :
    ∃ p m cap f, cs = [.slice p m cap] ∧ ValsAt W p m f ∧ m ≤ cap ∧ cap ≤ maxLen ∧ (∀ i, i < m → (f i).ok) ∧ m * 4 ≤ Rows.uptoBulk x.1 := by
  rcases Deep.open_slice Tryd.underlying25 h with ⟨rfl, -⟩ | ⟨a, len, cap, m, n', D, Pl, rfl, -, hl, hm, hmm, hx, hi⟩
  · exact ⟨none, 0, 0, fun _ => default, rfl, Or.inl rfl, Nat.le_refl _, Nat.zero_le _, fun i hi => by omega, by omega⟩
  · simp at hmm
    by_cases hz : len = 0
    · subst hz
      exact ⟨_, 0, _, fun _ => default, rfl, Or.inl rfl, hl, hm, fun i hi => by omega, by omega⟩
    rw [cells30] at hi
    obtain ⟨b, off, rfl, hc⟩ := row_cells (by decide) (by omega) hi
    obtain ⟨f, hf⟩ := Deep.choose_lt (α := V3) (n := len) (p := fun i V => (W.cell? ⟨b, off + i * 3, none⟩ = some (.int .i64 V.k) ∧ W.cell? ⟨b, off + i * 3 + 1, none⟩ = some (.int .u64 V.n) ∧ W.cell? ⟨b, off + i * 3 + 2, none⟩ = some (.int .i64 V.b)) ∧ V.ok ∧ 4 ≤ Rows.uptoBulk (D i)) (fun i hlt => by
      obtain ⟨cs, -, ht, hcell⟩ := hc i (by omega)
      obtain ⟨V, rfl, hV, hD⟩ := open_v3n ht
      exact ⟨V, ⟨hcell 0 (by decide), hcell 1 (by decide), hcell 2 (by decide)⟩, hV, hD⟩)
    refine ⟨_, len, cap, f, rfl, Or.inr ⟨b, off, rfl, fun i hi => (hf i hi).1⟩, hl, hm, fun i hi => (hf i hi).2.1, ?_⟩
    have := bulk_range D 4 len (fun i hi => (hf i hi).2.2)
    rw [show x.1 = .slice ((List.range len).map D) ((List.range (m - len)).map fun j => D (len + j)) from congrArg Prod.fst hx]
    simp only [Rows.uptoBulk]
    omega
theorem open_evn {n : Nat} {cs : List Value} {x : DataW H × List MemPlace} (h : DataW.trod enc Tryd.prog W 0 (fun _ => true) held n 32 cs = some x) :
    ∃ E : Ev, cs = [.string E.nm, .slice E.p E.n E.cap, .int .i64 E.r.k, .int .u64 E.r.n, .int .i64 E.r.b] ∧ E.okAt W ∧ E.nums ∧ (evT E).length ≤ 24 * Rows.uptoBulk x.1 := by
  obtain ⟨xs, n', -, hxx, hl, hx, hf⟩ := DataW.trod_struct Tryd.underlying32 h
  rw [cells32] at hl
  match cs, hl with
  | [c0, c1, c2, c3, c4], _ =>
    have hxl : xs.length = 3 := hx
    match xs, hxl with
    | [y0, y1, y2], _ =>
      have h0 := hf 0 _ rfl
      have h1 := hf 1 _ rfl
      have h2 := hf 2 _ rfl
      simp [cells9, cells25, cells30] at h0 h1 h2
      obtain ⟨s, e0, z0, hs⟩ := DataW.trod_string Tryd.underlying9 h0
      obtain ⟨p, m, cap, f, e1, hv, hm, hcap, hok, hb⟩ := open_valsn h1
      obtain ⟨V, e2, hV, hb2⟩ := open_v3n h2
      simp at e0 e1 e2
      obtain ⟨e2, e3, e4⟩ := e2
      subst e0 e1 e2 e3 e4
      refine ⟨⟨s, p, m, cap, f, V⟩, rfl, ⟨hv, hm, hcap⟩, ⟨hok, hV⟩, ?_⟩
      have h3 := argsT_len f m hok
      have h4 := resT_len V hV
      rw [hxx]
      simp only [List.map_cons, List.map_nil, Rows.uptoBulk, Rows.uptoBulkAll, z0, evT, List.length_append, List.length_cons, List.length_nil]
      omega
theorem open_evsn {n : Nat} {cs : List Value} {x : DataW H × List MemPlace} (h : DataW.trod enc Tryd.prog W 0 (fun _ => true) held n 38 cs = some x) :
    ∃ p m cap f, cs = [.slice p m cap] ∧ EvsAt W p m f ∧ m ≤ cap ∧ cap ≤ maxLen ∧ (∀ i, i < m → (f i).nums) ∧ (evsT f m).length ≤ 24 * Rows.uptoBulk x.1 := by
  rcases Deep.open_slice Tryd.underlying38 h with ⟨rfl, -⟩ | ⟨a, len, cap, m, n', D, Pl, rfl, -, hl, hm, hmm, hx, hi⟩
  · exact ⟨none, 0, 0, fun _ => default, rfl, Or.inl rfl, Nat.le_refl _, Nat.zero_le _, fun i hi => by omega, by simp [evsT]⟩
  · simp at hmm
    by_cases hz : len = 0
    · subst hz
      exact ⟨_, 0, _, fun _ => default, rfl, Or.inl rfl, hl, hm, fun i hi => by omega, by simp [evsT]⟩
    rw [cells32] at hi
    obtain ⟨b, off, rfl, hc⟩ := row_cells (by decide) (by omega) hi
    obtain ⟨f, hf⟩ := Deep.choose_lt (α := Ev) (n := len) (p := fun i E => ((W.cell? ⟨b, off + i * 5, none⟩ = some (.string E.nm) ∧ W.cell? ⟨b, off + i * 5 + 1, none⟩ = some (.slice E.p E.n E.cap) ∧
      W.cell? ⟨b, off + i * 5 + 2, none⟩ = some (.int .i64 E.r.k) ∧ W.cell? ⟨b, off + i * 5 + 3, none⟩ = some (.int .u64 E.r.n) ∧ W.cell? ⟨b, off + i * 5 + 4, none⟩ = some (.int .i64 E.r.b)) ∧ E.okAt W) ∧ E.nums ∧ (evT E).length ≤ 24 * Rows.uptoBulk (D i)) (fun i hlt => by
      obtain ⟨cs, -, ht, hcell⟩ := hc i (by omega)
      obtain ⟨E, rfl, hE, hn, hb⟩ := open_evn ht
      exact ⟨E, ⟨⟨hcell 0 (by decide), hcell 1 (by decide), hcell 2 (by decide), hcell 3 (by decide), hcell 4 (by decide)⟩, hE⟩, hn, hb⟩)
    refine ⟨_, len, cap, f, rfl, Or.inr ⟨b, off, rfl, fun i hi => (hf i hi).1⟩, hl, hm, fun i hi => (hf i hi).2.1, ?_⟩
    have := evsT_bulk D f len (fun i hi => (hf i hi).2.2)
    rw [show x.1 = .slice ((List.range len).map D) ((List.range (m - len)).map fun j => D (len + j)) from congrArg Prod.fst hx]
    simp only [Rows.uptoBulk]
    omega
theorem open_ocn {v : Value} {d : DataW H} {ps : List MemPlace} (hok : Value.okWide Tryd.prog W .any 0 40 v) (h : DataW.Trod enc Tryd.prog W 0 (fun _ => true) true 40 v d ps) :
    ∃ o : Oc, v = .agg #[.slice o.p o.n o.cap, .int .i64 o.st, .int .i32 o.code, .int .i64 o.steps] ∧ o.okAt W ∧ o.nums ∧ (outT o).length ≤ 24 * Rows.uptoBulk d + 29 := by
  obtain ⟨c0, c1, c2, c3, y0, y1, y2, y3, n, rfl, hd, -, h0, h1, h2, h3⟩ := open_agg4 Tryd.underlying40 (by kernel_rfl) cells40 hok h
  obtain ⟨p, m, cap, f, e0, hv, hm, hcap, hn, hb⟩ := open_evsn h0
  obtain ⟨st, e1, -⟩ := DataW.trod_int Tryd.underlying3 h1
  obtain ⟨code, e2, -, wc⟩ := DataW.trod_int Tryd.underlying21 h2
  obtain ⟨steps, e3, -⟩ := DataW.trod_int Tryd.underlying3 h3
  simp at e0 e1 e2 e3
  subst e0 e1 e2 e3
  have hc : -2147483648 ≤ code ∧ code ≤ 2147483647 := by simpa [Lit.wf, IntKind.min, IntKind.max, IntKind.signed, IntKind.bits] using wc
  refine ⟨⟨p, m, cap, f, st, code, steps⟩, rfl, ⟨hv, hm, hcap⟩, ⟨hn, hc⟩, ?_⟩
  have h4 := endT_len st code (by omega)
  rw [hd]
  simp only [outT, Rows.uptoBulk, Rows.uptoBulkAll, List.length_append, List.length_cons, List.length_nil]
  omega
end
theorem tab_vars {W : World} {name : String} {k : IntKind} {zs : List Int} {rest : List (String × DataW Unit)} {ps : List MemPlace} {g : Nat} {t e : TypeId} {n : Nat}
    (hg : Tryd.prog.globalNamed name = some g) (hty : (Tryd.prog.globals[g]?).map (·.type) = some t) (ht : Tryd.prog.underlying t = some (.array n e)) (he : Tryd.prog.underlying e = some (.int k)) (hce : Tryd.prog.cellsOf e = 1) (hct : Tryd.prog.cellsOf t = n)
    (h : DataW.LaidVars Tryd.prog W ((name, Lib.tabData k zs) :: rest) ps) : Lib.TabIs Tryd.prog W name k zs := by
  obtain ⟨g', t', cs, fuel, p, q, hg', ht', hvar, hd, _, _⟩ := h
  obtain rfl := Option.some.inj (hg.symm.trans hg')
  obtain rfl := Option.some.inj (hty.symm.trans ht')
  unfold Lib.TabIs
  rw [hvar, ← Lib.cells_of_tab ht he hce hct hd]
def bru64 : List Int := [0, 1, 56, 2, 57, 49, 28, 3, 61, 58, 42, 50, 38, 29, 17, 4, 62, 47, 59, 36, 45, 43, 51, 22, 53, 39, 33, 30, 24, 18, 12, 5, 63, 55, 48, 27, 60, 41, 37, 16, 46, 35, 44, 21, 52, 32, 23, 11, 54, 26, 40, 15, 34, 20, 31, 10, 25, 14, 19, 9, 13, 8, 7, 6]
set_option maxRecDepth 100000 in
theorem tab_of {W : World} (h : laidMet Tryd.prog Rows.traceTwoUptoRow.laid W) : Tab W := by
  obtain ⟨ps, ⟨_, _, _, _, _, _, _, _, _, _, ⟨_, _, _, _, _, q2, a1, a2, a3, a4, h3, a6⟩, _⟩, _⟩ := h
  have h4 : DataW.LaidVars Tryd.prog W (("internal/strconv.uint64pow10", Lib.tabData .u64 Lib.pow10Tab) :: []) q2 := h3
  have h5 : DataW.LaidVars Tryd.prog W (("math/bits.deBruijn64tab", Lib.tabData .u8 bru64) :: [("internal/strconv.uint64pow10", Rows.laid_internal_strconv_uint64pow10)]) _ := ⟨_, _, _, _, _, q2, a1, a2, a3, a4, h3, a6⟩
  have t1 := tab_vars (g := 1) (t := 93) (e := 28) (n := 20) (by kernel_rfl) (by kernel_rfl) (by kernel_rfl) (by kernel_rfl) (by kernel_rfl) (by kernel_rfl) h4
  have t2 := tab_vars (g := 3) (t := 103) (e := 5) (n := 64) (by kernel_rfl) (by kernel_rfl) (by kernel_rfl) (by kernel_rfl) (by kernel_rfl) (by kernel_rfl) h5
  exact ⟨Lib.tabBelow_of_tabIs t1, by have := t2.cell (g := 3) (by kernel_rfl) 15 (by decide); simpa [bru64] using this⟩
end Go.Proofs.YtjbflmpnmobngaaDoor
