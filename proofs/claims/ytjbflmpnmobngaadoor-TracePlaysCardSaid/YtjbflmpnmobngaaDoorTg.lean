/- TracePlays: the two calls; rows of the law's own. -/
import Derived.Test.YtjbflmpnmobngaaDoorTf
import Derived.Test.YtjbflmpnmobngaaDoorDm
import Derived.Laws.AppendOwnNone
namespace Go.Proofs.YtjbflmpnmobngaaDoor
set_option linter.unusedSimpArgs false
set_option linter.unusedVariables false
open Go.RowKit

/-- What a call answers: its event's name, how many arguments, its answer. -/
def evNm (t : Bool) (name : ByteArray) : ByteArray := if t then name else ⟨#[]⟩
def evN (t : Bool) (n : Nat) : Nat := if t then n else 0
def evA (t : Bool) (A : V3) : V3 := if t then A else ⟨0, 0, 0⟩
def CallOut (name : ByteArray) (n : Nat) (f : Nat → V3) (A : V3) (t : Bool) (w : World) (e : Ending) (w' : World) : Prop :=
  (∃ p' cap', e = .returned (.tuple #[.agg #[.string (evNm t name), .slice p' (evN t n) cap', .int .i64 (evA t A).k, .int .u64 (evA t A).n, .int .i64 (evA t A).b], .bool t]) ∧ OutAt w.heap.size w' p' (evN t n) cap' f) ∧ Below w.heap.size w w'
theorem outAt_nil (N : Nat) (w : World) (f : Nat → V3) : OutAt N w none 0 0 f := ⟨Or.inl rfl, Nat.le_refl _, Nat.zero_le _, fun a ha => by cases ha⟩
theorem call_all (name : ByteArray) (pp q : Option Addr) (ad : Addr) (pn pc n cap m mc : Nat) (ks g : Nat → Int) (kd k : Int) (f : Nat → V3) (hp : pn ≤ pc) (hpm : pc ≤ maxLen) (hn : n ≤ cap) (hm : cap ≤ maxLen) (hb : n ≤ 5864062014805) (hmc : m ≤ mc) (hmm : mc ≤ maxLen) (w : World) (h1 : NumsAt w pp pn ks) (h2 : ValsAt w (some ad) n f) (h3 : NumsAt w q m g) :
    Calls Tryd.prog 7 #[.string name, .agg #[.slice pp pn pc, .int .i64 kd], .slice (some ad) n cap, .slice q m mc, .int .i64 k] w (CallOut name n f (ansV kd (scr g m k)) (fitsV n pn f ks) w) := by
  cases hf : fitsV n pn f ks
  · refine (call_not name pp (some ad) q pn pc n cap m mc ks g kd k f hp hpm hn hm w h1 h2 hf).mono ?_
    rintro e w' ⟨rfl, hw⟩
    exact ⟨⟨none, 0, rfl, outAt_nil ..⟩, hw.below⟩
  · exact call_yes name pp q ad pn pc n cap m mc ks g kd k f hp hpm hn hm hb hmc hmm w h1 h2 h3 hf
theorem callR_all (name : ByteArray) (pp p q : Option Addr) (pn pc n cap m mc : Nat) (ks g : Nat → Int) (kd k : Int) (f : Nat → V3) (hp : pn ≤ pc) (hpm : pc ≤ maxLen) (hn : n ≤ cap) (hm : cap ≤ maxLen) (hb : n ≤ 5864062014805) (hnil : p = none → n = 0 ∧ cap = 0) (hmc : m ≤ mc) (hmm : mc ≤ maxLen) (w : World) (h1 : NumsAt w pp pn ks) (h2 : ValsAt w p n f) (h3 : NumsAt w q m g) :
    Calls Tryd.prog 8 #[.string name, .agg #[.slice pp pn pc, .int .i64 kd], .slice p n cap, .slice q m mc, .int .i64 k] w (CallOut name n f (ansV kd (scr g m k)) (fitsV n pn f ks) w) := by
  refine (callR_any name pp p q pn pc n cap m mc ks g kd k f hp hpm hn hm hb hnil hmc hmm w h1 h2 h3).mono ?_
  rintro e w' ⟨⟨ht, p', cap', rfl, ho⟩ | ⟨ht, rfl⟩, hw⟩
  · rw [ht]; exact ⟨⟨p', cap', rfl, ho⟩, hw⟩
  · rw [ht]; exact ⟨⟨none, 0, rfl, outAt_nil ..⟩, hw⟩
theorem rowV_congr {f g : Nat → V3} : ∀ n, (∀ i, i < n → f i = g i) → rowV f n = rowV g n
  | 0, _ => rfl
  | n + 1, h => by rw [rowV_succ, rowV_succ, rowV_congr n (fun i hi => h i (by omega)), h n (by omega)]
/-- One of the row turned. -/
theorem rowV_set (f : Nat → V3) (v : V3) : ∀ n k, k < n → (((rowV f n).set (k * 3) (.int .i64 v.k)).set (k * 3 + 1) (.int .u64 v.n)).set (k * 3 + 2) (.int .i64 v.b) = rowV (fun i => if i = k then v else f i) n
  | 0, k, h => by omega
  | n + 1, k, h => by
    have hl := rowV_len f n
    rw [rowV_succ, rowV_succ]
    by_cases e : k < n
    · rw [List.set_append_left _ _ (by omega), List.set_append_left _ _ (by simp; omega), List.set_append_left _ _ (by simp; omega), rowV_set f v n k e]
      simp only [show ¬ n = k by omega, if_false]
    · obtain rfl : k = n := by omega
      rw [List.set_append_right _ _ (by omega), List.set_append_right _ _ (by omega), List.set_append_right _ _ (by omega), hl]
      rw [show k * 3 - k * 3 = 0 by omega, show k * 3 + 1 - k * 3 = 1 by omega, show k * 3 + 2 - k * 3 = 2 by omega]
      rw [rowV_congr (f := fun i => if i = k then v else f i) (g := f) k (fun i hi => by simp [show ¬ i = k by omega])]
      simp
/-- The numbers' cells. -/
def rowI (g : Nat → Int) (m : Nat) : List Value := (List.range m).map (fun i => .int .i64 (g i))
theorem rowI_len (g : Nat → Int) (m : Nat) : (rowI g m).length = m * 1 := by simp [rowI]
theorem rowI_get {g : Nat → Int} {m j : Nat} {u : Value} (h : (rowI g m)[j]? = some u) : j < m ∧ u = .int .i64 (g j) := by
  unfold rowI at h
  rw [List.getElem?_map] at h
  by_cases hj : j < m
  · rw [List.getElem?_range hj] at h
    exact ⟨hj, (Option.some.inj h).symm⟩
  · rw [List.getElem?_eq_none (by simpa using hj)] at h
    simp at h
theorem rowI_one {g : Nat → Int} {m : Nat} : ∀ u ∈ rowI g m, u.oneCell' = true := by
  intro u hu
  obtain ⟨i, -, rfl⟩ := List.mem_map.1 hu
  rfl
theorem NumsAt.news {w : World} {ad : Addr} {n : Nat} {f : Nat → Int} (h : NumsAt w (some ad) n f) : ∀ j u, (rowI f n)[j]? = some u → w.cell? (ad.add j) = some u := by
  intro j u hu
  obtain ⟨hj, rfl⟩ := rowI_get hu
  obtain ⟨B, off, e, hx⟩ := h.resolve_left (by omega)
  cases e
  rw [Go.WideShapes.add_plain]
  exact hx j hj
/-- A row of numbers of the call's own. -/
theorem nums_own {N : Nat} {w : World} {v : Value} {n : Nat} {f : Nat → Int} (h : w.ownsRow N 2 1 v n (rowI f n)) : ∃ p cap, v = .slice p n cap ∧ NumsAt w p n f ∧ n ≤ cap ∧ cap ≤ maxLen := by
  rcases h.2 with ⟨e, h0⟩ | ⟨g, c, cur, e, hb, -, h1, h2, -⟩
  · exact ⟨none, 0, by rw [e, h0], Or.inl h0, by omega, Nat.zero_le _⟩
  · subst e
    refine ⟨_, c, rfl, Or.inr ⟨g, 0, rfl, fun i hi => ?_⟩, h1, h2⟩
    rw [Nat.zero_add, h.cellAt _ (by omega)]
    unfold rowI
    rw [List.getElem?_map, List.getElem?_range hi]
    rfl
theorem grown_refl (w : World) (r : Option Nat) : w.grownBy w r := ⟨rfl, rfl, rfl, Nat.le_refl _, fun _ _ _ => rfl⟩
/-- append of a row that may be nil. -/
theorem wpList_append_opt {P : Program} (w : World) {ops : Array Oper} {rest : List Oper} {o : Oper} {a : Act} {Q : Exit → Act → World → Prop} (hgd : o.guard = none) (s x : Operand) (t : TypeId)
    (ho : o.op = .call { callee := .builtin .append, args := #[s, x], argTypes := #[t, t] })
    (base : Nat) (e : TypeId) (i : TypeInfo) (z : Value) (size bytes : Nat) (ht : P.underlying t = some (.slice e)) (hi : P.info? e = some i) (hz : i.zero = some z)
    (hsize : i.size = size) (hby : i.bytes = bytes) (hzs : z.cells.size = size) (hsz : 0 < size)
    (v : Value) (n : Nat) (xs : List Value) (hs : a.eval s = v) (hown : w.ownsRow base e size v n xs)
    (p : Option Addr) (m c : Nat) (news : List Value) (hx : a.eval x = .slice p m c) (hl : news.length = m * size) (hnil : p = none → m = 0 ∧ c = 0) (hnews : ∀ ad, p = some ad → ∀ j u, news[j]? = some u → w.cell? (ad.add j) = some u) (h1 : ∀ u ∈ news, u.oneCell' = true)
    (h63 : n + m ≤ maxLen) (hbytes : ((n + m) + (n + m) / 4 + 192) * bytes ≤ 281474976710656) (hbase : base ≤ w.heap.size)
    (h : ∀ v' w', w'.ownsRow base e size v' (n + m) (xs ++ news) → w.grownBy w' v.ownBlock → wpList P ops Q rest (a.put o.dst v') w') : wpList P ops Q (o :: rest) a w := by
  cases p with
  | none =>
    obtain ⟨rfl, rfl⟩ := hnil rfl
    obtain rfl : news = [] := List.length_eq_zero_iff.1 (by omega)
    refine wpList_append_own_none hgd s x t ho base e i size ht hi v n xs hs hown hx (h v w (by simpa using hown) (grown_refl w _))
  | some ad => exact wpList_append_own_wide w hgd s x t ho base e i z size bytes ht hi hz hsize hby hzs hsz v n xs hs hown ad m c news hx hl (hnews ad rfl) h1 h63 hbytes hbase (fun v' w' h2 h3 _ => h v' w' h2 h3)
end Go.Proofs.YtjbflmpnmobngaaDoor
