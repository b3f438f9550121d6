/- A map keyed by int, of elements of whatever type: what it holds, as a function. Over any program. -/
import Derived.Maps.OwnSet
import Derived.Maps.OwnOps
import Derived.Lib.Hide
namespace Go.Proofs.Ytjbflmpnmobngaa
set_option linter.unusedSimpArgs false
set_option linter.unusedVariables false
open Go.Maps (Keyed)

/-- An element reads as itself. -/
def heldR (v : Value) : Option (DataW Value × List MemPlace) := some (.held v, [])
def Key (a : Int) : Prop := (Lit.int .i64 a).wf = true
theorem Key.mk {a : Int} (h0 : -9223372036854775808 ≤ a) (h1 : a ≤ 9223372036854775807) : Key a := by
  simp [Key, Lit.wf, IntKind.min, IntKind.max, IntKind.signed, IntKind.bits]; omega
/-- Block b of w is a map of at most n entries that holds f's. -/
def MapF (P : Program) (k : TypeId) (w : World) (b n : Nat) (f : Int → Option Value) : Prop :=
  ∃ D : DataW Value, w.ownsMap P k heldR b n D ∧ ∀ a : Int, Key a → ∀ z, D.atKey (.int .i64 a) z = (match f a with | none => z | some v => .held v)

variable {P : Program} {k t e : TypeId} {w : World} {b n : Nat} {f : Int → Option Value}

theorem MapF.made (w : World) (P : Program) (k : TypeId) : MapF P k (w.alloc (.map #[] 0)) w.heap.size 0 (fun _ => none) :=
  ⟨.map [], World.ownsMap_made w P k heldR, fun a _ z => rfl⟩
theorem MapF.lt (h : MapF P k w b n f) : b < w.heap.size := by obtain ⟨D, h, _⟩ := h; exact h.lt
theorem MapF.kept {w' : World} {row : Option Nat} (h : MapF P k w b n f) (hg : w.grownBy w' row) (hne : some b ≠ row) : MapF P k w' b n f := by
  obtain ⟨D, h, hf⟩ := h; exact ⟨D, h.kept hg hne, hf⟩
theorem MapF.alloc (h : MapF P k w b n f) (o : Obj) : MapF P k (w.alloc o) b n f := by obtain ⟨D, h, hf⟩ := h; exact ⟨D, h.alloc o, hf⟩
theorem MapF.drew (h : MapF P k w b n f) : MapF P k w.drew b n f := h
theorem MapF.setCell (h : MapF P k w b n f) {a : Addr} (ha : b ≠ a.block) (u : Value) : MapF P k (w.setCell a u) b n f := by
  obtain ⟨D, h, hf⟩ := h; exact ⟨D, h.setCell ha u, hf⟩
theorem MapF.mono (h : MapF P k w b n f) {n' : Nat} (hn : n ≤ n') : MapF P k w b n' f := by obtain ⟨D, h, hf⟩ := h; exact ⟨D, h.mono hn, hf⟩
theorem MapF.block {w' : World} (h : MapF P k w b n f) (hb : w'.heap[b]? = w.heap[b]?) : MapF P k w' b n f := by
  obtain ⟨D, ⟨es, clock, h1, h2⟩, hf⟩ := h; exact ⟨D, ⟨es, clock, hb.trans h1, h2⟩, hf⟩

/-- 'm[k]'. -/
theorem MapF.look (h : MapF P k w b n f) (hk : P.underlying k = some (.int .i64)) (ht : P.underlying t = some (.map k e)) {z : Value} (hz : (zeroValue e).run P w = .ok z w) {a : Int} (ha : Key a) :
    (Instr.lookup t (.map (some b)) (.int .i64 a) false).run P w = .ok ((f a).getD z) w := by
  obtain ⟨D, h, hf⟩ := h
  obtain ⟨v, ps, hrun, hv⟩ := h.lookup (Maps.int_keyed hk) ht hz (zd := .held z) (zp := []) rfl (Maps.keyOf_int_mk hk ha)
  rw [hf a ha (.held z)] at hv
  rw [hrun]
  cases hfa : f a with
  | none => rw [hfa] at hv; simp [heldR] at hv; rw [hv.1]; rfl
  | some u => rw [hfa] at hv; simp [heldR] at hv; rw [hv.1]; rfl
/-- 'v, ok := m[k]'. -/
theorem MapF.look_ok (h : MapF P k w b n f) (hk : P.underlying k = some (.int .i64)) (ht : P.underlying t = some (.map k e)) {z : Value} (hz : (zeroValue e).run P w = .ok z w) {a : Int} (ha : Key a) :
    (Instr.lookup t (.map (some b)) (.int .i64 a) true).run P w = .ok (.tuple #[(f a).getD z, .bool (f a).isSome]) w := by
  obtain ⟨D, h, hf⟩ := h
  obtain ⟨v, ps, hrun, hv⟩ := h.look_ok (Maps.int_keyed hk) ht hz (zd := .held z) (zp := []) rfl (Maps.keyOf_int_mk hk ha)
  have hfa' := hf a ha
  rw [hf a ha (.held z)] at hv
  rw [hrun]
  cases hfa : f a with
  | none =>
    rw [hfa] at hv hfa'
    simp [heldR] at hv
    rw [hv.1, Maps.has_false_of_atKey hfa']; rfl
  | some u =>
    rw [hfa] at hv hfa'
    simp [heldR] at hv
    rw [hv.1, Maps.has_true_of_atKey hfa']; rfl
theorem keyLit (a : Int) : WideAt.IsKeyLit (.int .i64 a) := by simp [WideAt.IsKeyLit]
def putF (f : Int → Option Value) (a : Int) (v : Value) : Int → Option Value := fun x => if x = a then some v else f x
def delF (f : Int → Option Value) (a : Int) : Int → Option Value := fun x => if x = a then none else f x
/-- 'm[k] = v'. -/
theorem MapF.store (h : MapF P k w b n f) (hk : P.underlying k = some (.int .i64)) (ht : P.underlying t = some (.map k e)) (hn : n < maxLen) {a : Int} (ha : Key a) (v : Value) :
    ∃ w', (Instr.mapUpdate t (.map (some b)) (.int .i64 a) v).run P w = .ok () w' ∧ MapF P k w' b (n + 1) (putF f a v) ∧ w.mapTurned w' b := by
  obtain ⟨D, h, hf⟩ := h
  obtain ⟨w', hrun, ho, ht'⟩ := h.store (Maps.int_keyed hk) ht hn (Maps.keyOf_int_mk hk ha) (d := .held v) (ps := []) rfl
  refine ⟨w', hrun, ⟨_, ho, fun x hx z => ?_⟩, ht'⟩
  unfold putF
  by_cases hxa : x = a
  · subst hxa
    rw [if_pos rfl, Maps.atKey_put_same h.isMap (keyLit _)]
  · rw [if_neg hxa, Maps.atKey_put_other (by simpa using hxa), hf x hx]
/-- 'delete(m, k)'. -/
theorem MapF.drop (h : MapF P k w b n f) (hk : P.underlying k = some (.int .i64)) (ht : P.underlying t = some (.map k e)) {a : Int} (ha : Key a) (ty : TypeId) :
    ∃ w', (Builtin.delete_ #[t, k] ty #[.map (some b), .int .i64 a]).run P w = .ok (.tuple #[]) w' ∧ MapF P k w' b n (delF f a) ∧ w.mapTurned w' b := by
  obtain ⟨D, h, hf⟩ := h
  obtain ⟨w', hrun, ho, ht'⟩ := h.drop (Maps.int_keyed hk) ht (Maps.keyOf_int_mk hk ha) ty
  refine ⟨w', hrun, ⟨_, ho, fun x hx z => ?_⟩, ht'⟩
  unfold delF
  by_cases hxa : x = a
  · subst hxa
    rw [if_pos rfl, Maps.atKey_del_same]
  · rw [if_neg hxa, Maps.atKey_del_other (by simpa using hxa), hf x hx]
end Go.Proofs.Ytjbflmpnmobngaa
