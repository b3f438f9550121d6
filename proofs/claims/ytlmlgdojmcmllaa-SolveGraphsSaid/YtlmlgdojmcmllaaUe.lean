import Derived.Test.YtlmlgdojmcmllaaTk
import Derived.Maps.OwnSet
import Derived.Maps.RangeWalk
import Derived.Laws.IdiomRangeMap
import Derived.Maps.OwnOps
import Derived.Lib.Hide
/- A map keyed by int, of elements of whatever type: what it holds, as a function. Over any program. -/
namespace Go.Proofs.Ytlmlgdojmcmllaa
set_option linter.unusedSimpArgs false
set_option linter.unusedVariables false
open Go.Maps (Keyed)

/-- An element reads as itself. -/
def heldR (v : Value) : Option (DataW Value × List MemPlace) := some (.held v, [])
def Key (a : Int) : Prop := (Lit.int .i64 a).wf = true
theorem Key.mk {a : Int} (h0 : -9223372036854775808 ≤ a) (h1 : a ≤ 9223372036854775807) : Key a := by
  simp [Key, Lit.wf, IntKind.min, IntKind.max, IntKind.signed, IntKind.bits]; omega
/-- Block b of w is a map of at most n entries that holds f's. -/
def MapF (P : Program) (k : TypeId) (w : World) (b n : Nat) (f : Int → Option Value) : Prop :=
  ∃ D : DataW Value, w.ownsMap P k heldR b n D ∧ ∀ a : Int, Key a → ∀ z, D.atKey (.int .i64 a) z = (match f a with | none => z | some v => .held v)

variable {P : Program} {k t e : TypeId} {w : World} {b n : Nat} {f : Int → Option Value}

theorem MapF.made (w : World) (P : Program) (k : TypeId) : MapF P k (w.alloc (.map #[] 0)) w.heap.size 0 (fun _ => none) :=
  ⟨.map [], World.ownsMap_made w P k heldR, fun a _ z => rfl⟩
theorem MapF.lt (h : MapF P k w b n f) : b < w.heap.size := by obtain ⟨D, h, _⟩ := h; exact h.lt
theorem MapF.kept {w' : World} {row : Option Nat} (h : MapF P k w b n f) (hg : w.grownBy w' row) (hne : some b ≠ row) : MapF P k w' b n f := by
  obtain ⟨D, h, hf⟩ := h; exact ⟨D, h.kept hg hne, hf⟩
theorem MapF.alloc (h : MapF P k w b n f) (o : Obj) : MapF P k (w.alloc o) b n f := by obtain ⟨D, h, hf⟩ := h; exact ⟨D, h.alloc o, hf⟩
theorem MapF.drew (h : MapF P k w b n f) : MapF P k w.drew b n f := h
theorem MapF.setCell (h : MapF P k w b n f) {a : Addr} (ha : b ≠ a.block) (u : Value) : MapF P k (w.setCell a u) b n f := by
  obtain ⟨D, h, hf⟩ := h; exact ⟨D, h.setCell ha u, hf⟩
theorem MapF.mono (h : MapF P k w b n f) {n' : Nat} (hn : n ≤ n') : MapF P k w b n' f := by obtain ⟨D, h, hf⟩ := h; exact ⟨D, h.mono hn, hf⟩
theorem MapF.block {w' : World} (h : MapF P k w b n f) (hb : w'.heap[b]? = w.heap[b]?) : MapF P k w' b n f := by
  obtain ⟨D, ⟨es, clock, h1, h2⟩, hf⟩ := h; exact ⟨D, ⟨es, clock, hb.trans h1, h2⟩, hf⟩

/-- 'm[k]'. -/
theorem MapF.look (h : MapF P k w b n f) (hk : P.underlying k = some (.int .i64)) (ht : P.underlying t = some (.map k e)) {z : Value} (hz : (zeroValue e).run P w = .ok z w) {a : Int} (ha : Key a) :
    (Instr.lookup t (.map (some b)) (.int .i64 a) false).run P w = .ok ((f a).getD z) w := by
  obtain ⟨D, h, hf⟩ := h
  obtain ⟨v, ps, hrun, hv⟩ := h.lookup (Maps.int_keyed hk) ht hz (zd := .held z) (zp := []) rfl (Maps.keyOf_int_mk hk ha)
  rw [hf a ha (.held z)] at hv
  rw [hrun]
  cases hfa : f a with
  | none => rw [hfa] at hv; simp [heldR] at hv; rw [hv.1]; rfl
  | some u => rw [hfa] at hv; simp [heldR] at hv; rw [hv.1]; rfl
/-- 'v, ok := m[k]'. -/
theorem MapF.look_ok (h : MapF P k w b n f) (hk : P.underlying k = some (.int .i64)) (ht : P.underlying t = some (.map k e)) {z : Value} (hz : (zeroValue e).run P w = .ok z w) {a : Int} (ha : Key a) :
    (Instr.lookup t (.map (some b)) (.int .i64 a) true).run P w = .ok (.tuple #[(f a).getD z, .bool (f a).isSome]) w := by
  obtain ⟨D, h, hf⟩ := h
  obtain ⟨v, ps, hrun, hv⟩ := h.look_ok (Maps.int_keyed hk) ht hz (zd := .held z) (zp := []) rfl (Maps.keyOf_int_mk hk ha)
  have hfa' := hf a ha
  rw [hf a ha (.held z)] at hv
  rw [hrun]
  cases hfa : f a with
  | none =>
    rw [hfa] at hv hfa'
    simp [heldR] at hv
    rw [hv.1, Maps.has_false_of_atKey hfa']; rfl
  | some u =>
    rw [hfa] at hv hfa'
    simp [heldR] at hv
    rw [hv.1, Maps.has_true_of_atKey hfa']; rfl
theorem keyLit (a : Int) : WideAt.IsKeyLit (.int .i64 a) := by simp [WideAt.IsKeyLit]
def putF (f : Int → Option Value) (a : Int) (v : Value) : Int → Option Value := fun x => if x = a then some v else f x
def delF (f : Int → Option Value) (a : Int) : Int → Option Value := fun x => if x = a then none else f x
/-- 'm[k] = v'. -/
theorem MapF.store (h : MapF P k w b n f) (hk : P.underlying k = some (.int .i64)) (ht : P.underlying t = some (.map k e)) (hn : n < maxLen) {a : Int} (ha : Key a) (v : Value) :
    ∃ w', (Instr.mapUpdate t (.map (some b)) (.int .i64 a) v).run P w = .ok () w' ∧ MapF P k w' b (n + 1) (putF f a v) ∧ w.mapTurned w' b := by
  obtain ⟨D, h, hf⟩ := h
  obtain ⟨w', hrun, ho, ht'⟩ := h.store (Maps.int_keyed hk) ht hn (Maps.keyOf_int_mk hk ha) (d := .held v) (ps := []) rfl
  refine ⟨w', hrun, ⟨_, ho, fun x hx z => ?_⟩, ht'⟩
  unfold putF
  by_cases hxa : x = a
  · subst hxa
    rw [if_pos rfl, Maps.atKey_put_same h.isMap (keyLit _)]
  · rw [if_neg hxa, Maps.atKey_put_other (by simpa using hxa), hf x hx]
/-- 'delete(m, k)'. -/
theorem MapF.drop (h : MapF P k w b n f) (hk : P.underlying k = some (.int .i64)) (ht : P.underlying t = some (.map k e)) {a : Int} (ha : Key a) (ty : TypeId) :
    ∃ w', (Builtin.delete_ #[t, k] ty #[.map (some b), .int .i64 a]).run P w = .ok (.tuple #[]) w' ∧ MapF P k w' b n (delF f a) ∧ w.mapTurned w' b := by
  obtain ⟨D, h, hf⟩ := h
  obtain ⟨w', hrun, ho, ht'⟩ := h.drop (Maps.int_keyed hk) ht (Maps.keyOf_int_mk hk ha) ty
  refine ⟨w', hrun, ⟨_, ho, fun x hx z => ?_⟩, ht'⟩
  unfold delF
  by_cases hxa : x = a
  · subst hxa
    rw [if_pos rfl, Maps.atKey_del_same]
  · rw [if_neg hxa, Maps.atKey_del_other (by simpa using hxa), hf x hx]

/-- The like, the map nil or not. -/
def MapO (P : Program) (k : TypeId) (w : World) (o : Option Nat) (n : Nat) (f : Int → Option Value) : Prop :=
  match o with
  | none => ∀ a, f a = none
  | some b => MapF P k w b n f
theorem MapO.look {o : Option Nat} (h : MapO P k w o n f) (hk : P.underlying k = some (.int .i64)) (ht : P.underlying t = some (.map k e)) {z : Value} (hz : (zeroValue e).run P w = .ok z w) {a : Int} (ha : Key a) :
    (Instr.lookup t (.map o) (.int .i64 a) false).run P w = .ok ((f a).getD z) w := by
  cases o with
  | none => rw [show f a = none from h a]; exact Maps.look_nil false (Maps.int_keyed hk) ht hz (Maps.keyOf_int_mk hk ha)
  | some b => exact MapF.look h hk ht hz ha
theorem MapO.look_ok {o : Option Nat} (h : MapO P k w o n f) (hk : P.underlying k = some (.int .i64)) (ht : P.underlying t = some (.map k e)) {z : Value} (hz : (zeroValue e).run P w = .ok z w) {a : Int} (ha : Key a) :
    (Instr.lookup t (.map o) (.int .i64 a) true).run P w = .ok (.tuple #[(f a).getD z, .bool (f a).isSome]) w := by
  cases o with
  | none => rw [show f a = none from h a]; exact Maps.look_nil true (Maps.int_keyed hk) ht hz (Maps.keyOf_int_mk hk ha)
  | some b => exact MapF.look_ok h hk ht hz ha
theorem MapO.block {w' : World} {o : Option Nat} (h : MapO P k w o n f) (hb : ∀ b, o = some b → w'.heap[b]? = w.heap[b]?) : MapO P k w' o n f := by
  cases o with
  | none => exact h
  | some b => exact MapF.block h (hb b rfl)
theorem MapO.lt {o : Option Nat} (h : MapO P k w o n f) : ∀ b, o = some b → b < w.heap.size := by
  rintro b rfl
  exact MapF.lt h

/-- A range under way: which keys are still to come; how many at most. -/
def ItF (P : Program) (k : TypeId) (w : World) (o : Option Nat) (r : Nat) (S : Int → Bool) (cnt : Nat) : Prop :=
  match o with
  | none => (∃ a s c, w.heap[r]? = some (.mapIter none a s c)) ∧ ∀ a, S a = false
  | some b => ∃ (n : Nat) (D : DataW Value) (left : Lit → Bool), w.ranges P k heldR b r n D left cnt ∧ ∀ a, Key a → left (.int .i64 a) = S a
theorem has_of {D : DataW Value} {a : Int} {u : Option Value} (h : ∀ z, D.atKey (.int .i64 a) z = (match u with | none => z | some v => .held v)) : Maps.has D (.int .i64 a) = u.isSome := by
  cases u with
  | none => exact Maps.has_false_of_atKey h
  | some v => exact Maps.has_true_of_atKey (y := .held v) h
theorem ranges_le {b r : Nat} {D : DataW Value} {left : Lit → Bool} {cnt : Nat} (h : w.ranges P k heldR b r n D left cnt) : cnt ≤ n := by
  obtain ⟨es, clock, since, seen, c0, _, _, h3, _, _, _, h6, _⟩ := h
  rw [← h6]
  refine Nat.le_trans ?_ h3
  unfold leftOf
  exact Array.size_filter_le
/-- 'range m'. -/
theorem MapO.range {o : Option Nat} (h : MapO P k w o n f) (hk : P.underlying k = some (.int .i64)) (ht : P.underlying t = some (.map k e)) :
    ∃ w' cnt, (Instr.range t (.map o)).run P w = .ok (.pointer (some ⟨w.heap.size, 0, none⟩)) w' ∧ ItF P k w' o w.heap.size (fun a => (f a).isSome) cnt ∧ w.grownBy w' none ∧ w'.heap.size = w.heap.size + 1 ∧ cnt ≤ n := by
  cases o with
  | none => exact ⟨_, 0, run_range_nilMap w t k e ht, ⟨⟨_, _, _, heap_alloc_new w _⟩, fun a => by show (f a).isSome = false; rw [h a]; rfl⟩, World.grownBy_alloc w _ none, by simp, Nat.zero_le _⟩
  | some b =>
    obtain ⟨D, ho, hf⟩ := h
    obtain ⟨w', h1, h2, h3, h4⟩ := ho.range (Maps.int_keyed hk) ht
    exact ⟨w', _, h1, ⟨n, D, _, h2, fun a ha => has_of (hf a ha)⟩, h3, h4, ranges_le h2⟩
theorem ItF.lt {o : Option Nat} {r : Nat} {S : Int → Bool} {cnt : Nat} (h : ItF P k w o r S cnt) : r < w.heap.size := by
  cases o with
  | none =>
    obtain ⟨⟨_, _, _, h⟩, _⟩ := h
    exact heap_lt h
  | some b =>
    obtain ⟨_, _, _, h, _⟩ := h
    exact h.lt
theorem ItF.block {w' : World} {o : Option Nat} {r : Nat} {S : Int → Bool} {cnt : Nat} (h : ItF P k w o r S cnt) (hr : w'.heap[r]? = w.heap[r]?) (hb : ∀ b, o = some b → w'.heap[b]? = w.heap[b]?) : ItF P k w' o r S cnt := by
  cases o with
  | none =>
    obtain ⟨⟨a, s, c, h⟩, h2⟩ := h
    exact ⟨⟨a, s, c, hr.trans h⟩, h2⟩
  | some b =>
    obtain ⟨n, D, left, ⟨es, clock, since, seen, c0, h1, h2, h3, h4, h5, rest⟩, h6⟩ := h
    exact ⟨n, D, left, ⟨es, clock, since, seen, c0, (hb b rfl).trans h1, h2, h3, h4, hr.trans h5, rest⟩, h6⟩
theorem run_next_none {r : Nat} {a : Nat} {s : Array Nat} {c : Nat} (ty : TypeId) (h : w.heap[r]? = some (.mapIter none a s c)) : (Instr.next (.pointer (some ⟨r, 0, none⟩)) false ty).run P w = .ok (.tuple #[.bool false]) w := by
  simp only [Instr.next, getObj, Sem.run_bind, Sem.run, h, Result.andThen]
  rfl
/-- The step. -/
theorem wpList_nextF {ops : Array Oper} {rest : List Oper} {op : Oper} {ac : Act} {Q : Exit → Act → World → Prop} (hg : op.guard = none) (it : Operand) (hop : op.op = Op.next it false) (hk : P.underlying k = some (.int .i64)) (o : Option Nat) (r : Nat) (S : Int → Bool) (cnt : Nat)
    (hit : ac.eval it = .pointer (some ⟨r, 0, none⟩)) (h : ItF P k w o r S cnt)
    (hDone : (∀ a, Key a → S a = false) → wpList P ops Q rest (ac.put op.dst (.tuple #[.bool false])) w)
    (hMore : ∀ (a : Int) (v : Value) (w' : World) (cnt' : Nat), Key a → S a = true → ItF P k w' o r (fun z => S z && !decide (z = a)) cnt' → cnt' < cnt → w.grownBy w' (some r) → w'.heap.size = w.heap.size →
      (Instr.entry (.pointer (some ⟨r, 0, none⟩))).run P w' = .ok (.tuple #[.int .i64 a, v]) w' → wpList P ops Q rest (ac.put op.dst (.tuple #[.bool true, .int .i64 a, v])) w') :
    wpList P ops Q (op :: rest) ac w := by
  cases o with
  | none =>
    obtain ⟨⟨a, s, c, h1⟩, h2⟩ := h
    refine wpList_plain hg fun K' hK' => ?_
    unfold Oper.wp
    simp [execOp, hop, hit, run_next_none op.type h1, Result.andThen]
    exact hK' _ _ (hDone fun a _ => h2 a)
  | some b =>
    obtain ⟨n, D, left, h1, h2⟩ := h
    refine wpList_next_ranges w hg it hop k (Maps.int_keyed hk) heldR (Value.int .i64) id (fun key kl hkey => by obtain ⟨x, rfl, _⟩ := Maps.keyOf_int_inv hk hkey; exact ⟨x, rfl⟩) (fun v y _ => ⟨v, rfl⟩) b r n D left cnt hit h1 (fun _ hl => hDone fun a ha => by rw [← h2 a ha]; exact hl _) fun x c kl y w' cnt' hkey hlk hv hat hrg hlt hgr hsz hen => ?_
    obtain ⟨x', ex, rfl, hwx⟩ := Maps.keyOf_int_inv hk hkey
    cases ex
    refine hMore x c w' cnt' hwx (by rw [← h2 x hwx]; exact hlk) ⟨n, D, _, hrg, fun a ha => ?_⟩ hlt hgr hsz hen
    show (left (.int .i64 a) && !(Lit.int .i64 a).sameKey (.int .i64 x)) = _
    rw [h2 a ha]
    congr 2
    simp [Lit.sameKey]
theorem wpList_rangeF {ops : Array Oper} {rest : List Oper} {op : Oper} {ac : Act} {Q : Exit → Act → World → Prop} (hg : op.guard = none) (m : Operand) (t : TypeId) (hop : op.op = Op.range t m) (k e : TypeId) (hk : P.underlying k = some (.int .i64)) (ht : P.underlying t = some (.map k e)) (o : Option Nat) (n : Nat) (f : Int → Option Value)
    (hm : ac.eval m = .map o) (h : MapO P k w o n f)
    (hK : ∀ w' cnt, ItF P k w' o w.heap.size (fun a => (f a).isSome) cnt → w.grownBy w' none → w'.heap.size = w.heap.size + 1 → cnt ≤ n → wpList P ops Q rest (ac.put op.dst (.pointer (some ⟨w.heap.size, 0, none⟩))) w') :
    wpList P ops Q (op :: rest) ac w := by
  refine wpList_plain hg fun K' hK' => ?_
  obtain ⟨w', cnt, hrun, r1, r2, r3, r4⟩ := h.range hk ht
  unfold Oper.wp
  simp [execOp, hop, hm, hrun, Result.andThen]
  exact hK' _ _ (hK w' cnt r1 r2 r3 r4)
theorem wpList_lookF {ops : Array Oper} {rest : List Oper} {op : Oper} {ac : Act} {Q : Exit → Act → World → Prop} (hg : op.guard = none) (m x : Operand) (t : TypeId) (hop : op.op = Op.lookup t m x false) (k e : TypeId) (hk : P.underlying k = some (.int .i64)) (ht : P.underlying t = some (.map k e)) (o : Option Nat) (n : Nat) (f : Int → Option Value)
    (hm : ac.eval m = .map o) (h : MapO P k w o n f) (a : Int) (hx : ac.eval x = .int .i64 a) (ha : Key a) (z : Value) (hz : (zeroValue e).run P w = .ok z w)
    (hK : wpList P ops Q rest (ac.put op.dst ((f a).getD z)) w) : wpList P ops Q (op :: rest) ac w := by
  refine wpList_plain hg fun K' hK' => ?_
  unfold Oper.wp
  simp [execOp, hop, hm, hx, h.look hk ht hz ha, Result.andThen]
  exact hK' _ _ hK
theorem wpList_lookokF {ops : Array Oper} {rest : List Oper} {op : Oper} {ac : Act} {Q : Exit → Act → World → Prop} (hg : op.guard = none) (m x : Operand) (t : TypeId) (hop : op.op = Op.lookup t m x true) (k e : TypeId) (hk : P.underlying k = some (.int .i64)) (ht : P.underlying t = some (.map k e)) (o : Option Nat) (n : Nat) (f : Int → Option Value)
    (hm : ac.eval m = .map o) (h : MapO P k w o n f) (a : Int) (hx : ac.eval x = .int .i64 a) (ha : Key a) (z : Value) (hz : (zeroValue e).run P w = .ok z w)
    (hK : wpList P ops Q rest (ac.put op.dst (.tuple #[(f a).getD z, .bool (f a).isSome])) w) : wpList P ops Q (op :: rest) ac w := by
  refine wpList_plain hg fun K' hK' => ?_
  unfold Oper.wp
  simp [execOp, hop, hm, hx, h.look_ok hk ht hz ha, Result.andThen]
  exact hK' _ _ hK
theorem wpList_storeF {ops : Array Oper} {rest : List Oper} {op : Oper} {ac : Act} {Q : Exit → Act → World → Prop} (hg : op.guard = none) (m x v : Operand) (t : TypeId) (hop : op.op = Op.mapUpdate t m x v) (k e : TypeId) (hk : P.underlying k = some (.int .i64)) (ht : P.underlying t = some (.map k e)) (b n : Nat) (f : Int → Option Value)
    (hm : ac.eval m = .map (some b)) (h : MapF P k w b n f) (hn : n < maxLen) (a : Int) (hx : ac.eval x = .int .i64 a) (ha : Key a) (val : Value) (hv : ac.eval v = val)
    (hK : ∀ w', MapF P k w' b (n + 1) (putF f a val) → w.mapTurned w' b → wpList P ops Q rest (ac.put op.dst undef) w') : wpList P ops Q (op :: rest) ac w := by
  refine wpList_plain hg fun K' hK' => ?_
  obtain ⟨w', hrun, r1, r2⟩ := h.store hk ht hn ha val
  unfold Oper.wp
  simp [execOp, hop, hm, hx, hv, hrun, Result.andThen]
  exact hK' _ _ (hK w' r1 r2)
end Go.Proofs.Ytlmlgdojmcmllaa


/- Sets of numbers: a map of nothings. -/
namespace Go.Proofs.Ytlmlgdojmcmllaa
set_option linter.unusedSimpArgs false
set_option linter.unusedVariables false
open Go.RowKit
open Solve

theorem zero68 (w : World) : (zeroValue 68).run Try.prog w = .ok (.agg #[]) w := by kernel_rfl
theorem zero60 (w : World) : (zeroValue 60).run Try.prog w = .ok (.map none) w := by kernel_rfl
theorem Keep.turned {D : Nat → Prop} {w w' : World} {b : Nat} (h : w.mapTurned w' b) (hb : D b) : Keep D w w' := by
  obtain ⟨es, clock, es', clock', h1, rfl⟩ := h
  refine ⟨rfl, rfl, rfl, by simp [Go.ChangeMaps.setBlock], fun k hk hn => ?_⟩
  have : ¬ b = k := fun e => hn (e ▸ hb)
  simp [Go.ChangeMaps.setBlock, this]
/-- A set, nil or not: what is in it; how many entries at most. -/
def SetO (w : World) (o : Option Nat) (c : Nat) (S : Int → Bool) : Prop := ∃ n f, n ≤ c ∧ MapO Try.prog 3 w o n f ∧ ∀ a, Key a → (f a).isSome = S a ∧ ∀ v, f a = some v → v = .agg #[]
theorem SetO.block {w w' : World} {o : Option Nat} {c : Nat} {S : Int → Bool} (h : SetO w o c S) (hb : ∀ b, o = some b → w'.heap[b]? = w.heap[b]?) : SetO w' o c S := by
  obtain ⟨n, f, h1, h2, h3⟩ := h
  exact ⟨n, f, h1, h2.block hb, h3⟩
theorem SetO.lt {w : World} {o : Option Nat} {c : Nat} {S : Int → Bool} (h : SetO w o c S) : ∀ b, o = some b → b < w.heap.size := by
  obtain ⟨n, f, h1, h2, h3⟩ := h
  exact h2.lt
theorem SetO.fresh {w w' : World} {o : Option Nat} {c : Nat} {S : Int → Bool} (h : SetO w o c S) (hf : Fresh w w') : SetO w' o c S := h.block fun b hb => hf.below.block b (h.lt b hb)
theorem SetO.keep {w w' : World} {o : Option Nat} {c : Nat} {S : Int → Bool} {D : Nat → Prop} (h : SetO w o c S) (hk : Keep D w w') (hd : ∀ b, o = some b → ¬ D b) : SetO w' o c S := h.block fun b hb => hk.block b (h.lt b hb) (hd b hb)
theorem SetO.none (w : World) : SetO w none 0 (fun _ => false) := ⟨0, fun _ => Option.none, Nat.le_refl _, fun _ => rfl, fun _ _ => ⟨rfl, fun _ h => by cases h⟩⟩
theorem SetO.made (w : World) : SetO (w.alloc (.map #[] 0)) (some w.heap.size) 0 (fun _ => false) := ⟨0, fun _ => Option.none, Nat.le_refl _, MapF.made w Try.prog 3, fun _ _ => ⟨rfl, fun _ h => by cases h⟩⟩
theorem SetO.congr {w : World} {o : Option Nat} {c : Nat} {S S' : Int → Bool} (h : SetO w o c S) (hs : ∀ a, Key a → S a = S' a) : SetO w o c S' := by
  obtain ⟨n, f, h1, h2, h3⟩ := h
  exact ⟨n, f, h1, h2, fun a ha => ⟨(h3 a ha).1.trans (hs a ha), (h3 a ha).2⟩⟩
theorem Fresh.map {a w : World} (h : Fresh a w) (es : Array MapEntry) (c : Nat) : Fresh a (w.alloc (.map es c)) := ⟨h.below.alloc h.below.size _⟩
set_option maxHeartbeats 4000000 in
theorem setAdd_any (b c : Nat) (S : Int → Bool) (a : Int) (w : World) (ha : Key a) (hc : c < 1000000) (h : SetO w (some b) c S) :
    Calls Try.prog 46 #[.map (some b), .int .i64 a] w fun e w' => e = .returned (.tuple #[]) ∧ SetO w' (some b) (c + 1) (fun z => S z || decide (z = a)) ∧ Keep (· = b) w w' := by
  obtain ⟨n, f, h1, h2, h3⟩ := h
  have H2 := Lib.hid h2
  have H3 := Lib.hid h3
  clear h2 h3
  go_enter Try.func46, Try.ntmps46
  go_wp2_with (at_mapUpdate; refine wpList_storeF rfl _ _ _ 60 rfl 3 68 Try.underlying3 Try.underlying60 b n f rfl H2.out (by simp only [maxLen]; omega) a rfl ha _ rfl ?_; intro w2 h2 ht2; have HM2 := Lib.hid h2; have HT2 := Lib.hid ht2; clear h2 ht2)
  go_end0
  refine ⟨rfl, ⟨n + 1, _, by omega, HM2.out, fun z hz => ?_⟩, Keep.turned HT2.out rfl⟩
  unfold putF
  by_cases e : z = a
  · rw [if_pos e]; exact ⟨by simp [e], fun v hv => by injection hv with hv; exact hv.symm⟩
  · rw [if_neg e]; exact ⟨by rw [(H3.out z hz).1]; simp [e], (H3.out z hz).2⟩
set_option maxHeartbeats 4000000 in
theorem setHas_any (o : Option Nat) (c : Nat) (S : Int → Bool) (a : Int) (w : World) (ha : Key a) (h : SetO w o c S) :
    Calls Try.prog 51 #[.map o, .int .i64 a] w fun e w' => e = .returned (.bool (S a)) ∧ Fresh w w' := by
  obtain ⟨n, f, h1, h2, h3⟩ := h
  have H2 := Lib.hid h2
  have H3 := Lib.hid (h3 a ha).1
  have H4 := Lib.hid (show (f a).getD (.agg #[]) = .agg #[] by
    cases hfa : f a with
    | none => rfl
    | some v => exact (h3 a ha).2 v hfa)
  clear h2 h3
  go_enter Try.func51, Try.ntmps51
  go_wp2_with (at_lookup; refine wpList_lookokF rfl _ _ 60 rfl 3 68 Try.underlying3 Try.underlying60 o n f rfl H2.out a rfl ha (.agg #[]) (zero68 _) ?_; rw [H3.out, H4.out])
  go_ret
  exact ⟨rfl, (Fresh.refl w).alloc _ _⟩
set_option maxHeartbeats 8000000 in
set_option maxRecDepth 100000 in
theorem newSet_any (v : Value) (l : List Int) (w : World) (hl : l.length ≤ 1000) (hk : ∀ x ∈ l, Key x) (h : Ints T w v l) :
    Calls Try.prog 41 #[v] w fun e w' => ∃ b, e = .returned (.map (some b)) ∧ SetO w' (some b) 1000 (fun z => decide (z ∈ l)) ∧ w.heap.size ≤ b ∧ Fresh w w' := by
  obtain ⟨q, c, rfl, ⟨hc, hm⟩, _⟩ := h.form
  unfold maxLen at hm
  have HI := Lib.hid h
  have HK := Lib.hid hk
  clear h hk
  have hmm := @run_makeMap Try.prog
  go_enter Try.func41, Try.ntmps41
  go_wp2
  go_loopg [9] l.length (fun k s9 wr => ∃ (j : Nat), s9 = .int .i64 j ∧ j ≤ l.length ∧ k = l.length - j ∧ Hid (SetO wr (some w.heap.size) j (fun z => decide (z ∈ l.take j))) ∧ Hid (Fresh w wr))
  case atStart => exact ⟨0, rfl, by omega, by omega, Lib.hid (by simpa using SetO.made w), Lib.hid ((Fresh.refl w).map _ _)⟩
  case round =>
    obtain ⟨j, rfl, hj, rfl, HS, HF⟩ := hrel
    by_cases hlt : j < l.length
    · obtain ⟨L, o, rfl, _, ex⟩ := ints_cell (HI.out.fresh HF.out) hlt
      have HKX := Lib.hid (HK.out _ (List.getElem_mem hlt))
      have HT := Lib.hid (fun (z : Int) => take_mem (x := z) hlt)
      obtain ⟨x, hx⟩ : ∃ x, x = l[j] := ⟨_, rfl⟩
      rw [← hx] at ex HKX HT
      clear hx
      go_wp2_with (go_at_call 46; (with_reducible refine (setAdd_any _ j _ x _ HKX.out (by omega) HS.out).mono ?_); rintro e w1 ⟨rfl, h1, k1⟩; have HS1 := Lib.hid h1; have HK1 := Lib.hid k1; clear h1 k1)
      go_roundg (l.length - (j + 1))
      case measure => go_light; omega
      case rel =>
        go_light
        exact ⟨j + 1, by go_num, by omega, rfl, Lib.hid (HS1.out.congr fun a _ => by rw [Bool.eq_iff_iff]; simp only [Bool.or_eq_true, decide_eq_true_eq]; exact (HT.out a).symm), Lib.hid (HK1.out.fresh HF.out fun k e => by omega)⟩
    · obtain rfl : j = l.length := by omega
      go_wp2
      go_ret
      refine ⟨_, rfl, ?_, Nat.le_refl _, HF.out⟩
      obtain ⟨n, f, h1, h2, h3⟩ := HS.out
      rw [List.take_of_length_le (Nat.le_refl _)] at h3
      exact ⟨n, f, by omega, h2, h3⟩
end Go.Proofs.Ytlmlgdojmcmllaa


/- Of each thing the nodes whose sets have it. -/
namespace Go.Proofs.Ytlmlgdojmcmllaa
set_option linter.unusedSimpArgs false
set_option linter.unusedVariables false
open Go.RowKit
open Solve

structure HoldF (w : World) (R : Nat → Prop) (b n c : Nat) (F : Int → Option Value) (H : Int → Int → Bool) : Prop where
  map : MapF Try.prog 3 w b n F
  rb : R b
  lt : ∀ k, R k → k < w.heap.size
  no : ∀ x, Key x → F x = none → ∀ a, Key a → H x a = false
  yes : ∀ x v, Key x → F x = some v → ∃ q, v = .map (some q) ∧ SetO w (some q) c (H x) ∧ R q ∧ q ≠ b
  one : ∀ x y q, Key x → Key y → F x = some (.map (some q)) → F y = some (.map (some q)) → x = y
section
variable {w w' : World} {R : Nat → Prop} {b n c : Nat} {F : Int → Option Value} {H : Int → Int → Bool}
theorem HoldF.keep {D : Nat → Prop} (h : HoldF w R b n c F H) (hk : Keep D w w') (hd : ∀ k, R k → ¬ D k) : HoldF w' R b n c F H :=
  ⟨h.map.block (hk.block b (h.lt b h.rb) (hd b h.rb)), h.rb, fun k hr => Nat.lt_of_lt_of_le (h.lt k hr) hk.size, h.no, fun x v hx hv => by
    obtain ⟨q, h1, h2, h3, h4⟩ := h.yes x v hx hv
    exact ⟨q, h1, h2.keep hk (fun k e => by injection e with e; rw [← e]; exact hd q h3), h3, h4⟩, h.one⟩
theorem HoldF.fresh (h : HoldF w R b n c F H) (hf : Fresh w w') : HoldF w' R b n c F H := h.keep (D := fun _ => False) (.of hf) fun _ _ => id
theorem HoldF.made (w : World) : HoldF (w.alloc (.map #[] 0)) (fun k => k = w.heap.size) w.heap.size 0 0 (fun _ => none) (fun _ _ => false) :=
  ⟨MapF.made w Try.prog 3, rfl, fun k hk => by simp; omega, fun _ _ _ _ _ => rfl, (fun x v _ h => by cases h), fun x y q _ _ h => by cases h⟩
theorem HoldF.congr {H' : Int → Int → Bool} (h : HoldF w R b n c F H) (hs : ∀ x a, Key x → Key a → H x a = H' x a) : HoldF w R b n c F H' :=
  ⟨h.map, h.rb, h.lt, fun x hx hf a ha => (hs x a hx ha).symm.trans (h.no x hx hf a ha), fun x v hx hv => by
    obtain ⟨q, h1, h2, h3, h4⟩ := h.yes x v hx hv
    exact ⟨q, h1, h2.congr fun a ha => hs x a hx ha, h3, h4⟩, h.one⟩
/-- A set more, nothing in it. -/
theorem HoldF.new {x : Int} (h : HoldF w R b n c F H) (hx : Key x) (hf : F x = none) {w2 : World} (hm : MapF Try.prog 3 w2 b (n + 1) (putF F x (.map (some w.heap.size)))) (ht : (w.alloc (.map #[] 0)).mapTurned w2 b) :
    HoldF w2 (fun k => R k ∨ k = w.heap.size) b (n + 1) c (putF F x (.map (some w.heap.size))) H ∧ Keep (· = b) w w2 := by
  have hb := h.lt b h.rb
  have K : Keep (· = b) w w2 := (Keep.of ((Fresh.refl w).map #[] 0)).trans (Keep.turned ht rfl)
  have K2 : Keep (· = b) (w.alloc (.map #[] 0)) w2 := Keep.turned ht rfl
  refine ⟨⟨hm, Or.inl h.rb, fun k hk => ?_, fun y hy hf' => ?_, fun y v hy hv => ?_, fun y z q hy hz h1 h2 => ?_⟩, K⟩
  · have hz := K2.size
    simp at hz
    rcases hk with r | r
    · have := h.lt k r; omega
    · omega
  · unfold putF at hf'
    by_cases e : y = x
    · rw [if_pos e] at hf'; cases hf'
    · rw [if_neg e] at hf'; exact h.no y hy hf'
  · unfold putF at hv
    by_cases e : y = x
    · rw [if_pos e] at hv
      injection hv with hv
      have hs : SetO w2 (some w.heap.size) 0 (fun _ => false) := (SetO.made w).keep K2 fun k e => by injection e with e; omega
      obtain ⟨n0, f0, a1, a2, a3⟩ := hs
      refine ⟨w.heap.size, hv.symm, ⟨n0, f0, by omega, a2, fun a ha => ⟨?_, (a3 a ha).2⟩⟩, Or.inr rfl, by omega⟩
      rw [(a3 a ha).1, e]; exact (h.no x hx hf a ha).symm
    · rw [if_neg e] at hv
      obtain ⟨q, h1, h2, h3, h4⟩ := h.yes y v hy hv
      exact ⟨q, h1, h2.keep K (fun k e => by injection e with e; rw [← e]; exact h4), Or.inl h3, h4⟩
  · unfold putF at h1 h2
    have old : ∀ y, Key y → F y = some (.map (some q)) → q < w.heap.size := fun y hy hF => by
      obtain ⟨q', e1, _, e3, _⟩ := h.yes y _ hy hF
      injection e1 with e1; injection e1 with e1
      rw [e1]; exact h.lt q' e3
    by_cases e1 : y = x
    · by_cases e2 : z = x
      · rw [e1, e2]
      · rw [if_pos e1] at h1
        rw [if_neg e2] at h2
        injection h1 with h1; injection h1 with h1; injection h1 with h1
        have := old z hz h2; omega
    · rw [if_neg e1] at h1
      by_cases e2 : z = x
      · rw [if_pos e2] at h2
        injection h2 with h2; injection h2 with h2; injection h2 with h2
        have := old y hy h1; omega
      · rw [if_neg e2] at h2
        exact h.one y z q hy hz h1 h2
/-- A number more in one of the sets. -/
theorem HoldF.add {x a : Int} {q : Nat} (h : HoldF w R b n c F H) (hx : Key x) (hf : F x = some (.map (some q))) (hs : SetO w' (some q) (c + 1) (fun z => H x z || decide (z = a))) (hk : Keep (· = q) w w') :
    HoldF w' R b n (c + 1) F (fun y z => H y z || (decide (y = x) && decide (z = a))) := by
  obtain ⟨q', e1, _, hq, hqb⟩ := h.yes x _ hx hf
  injection e1 with e1; injection e1 with e1
  subst e1
  refine ⟨h.map.block (hk.block b (h.lt b h.rb) (fun e => hqb e.symm)), h.rb, fun k hr => Nat.lt_of_lt_of_le (h.lt k hr) hk.size, fun y hy hf' z hz => ?_, fun y v hy hv => ?_, h.one⟩
  · have : y ≠ x := fun e => by rw [e, hf] at hf'; cases hf'
    simp [h.no y hy hf' z hz, this]
  · obtain ⟨p, h1, h2, h3, h4⟩ := h.yes y v hy hv
    by_cases e : y = x
    · subst e
      rw [hf] at hv
      injection hv with hv
      exact ⟨q, hv.symm, hs.congr fun z _ => by simp, hq, hqb⟩
    · have hpq : p ≠ q := fun e2 => e (h.one y x p hy hx (by rw [hv, h1]) (by rw [hf, e2]))
      have h2' := h2.keep hk (fun k e2 => by injection e2 with e2; rw [← e2]; exact hpq)
      obtain ⟨n0, f0, a1, a2, a3⟩ := h2'
      exact ⟨p, h1, ⟨n0, f0, by omega, a2, fun z hz => ⟨by rw [(a3 z hz).1]; simp [e], (a3 z hz).2⟩⟩, h3, h4⟩
theorem HoldF.look {x : Int} (h : HoldF w R b n c F H) (hx : Key x) : (F x = none ∧ (F x).getD (.map none) = .map none) ∨ ∃ q, F x = some (.map (some q)) ∧ (F x).getD (.map none) = .map (some q) ∧ SetO w (some q) c (H x) := by
  cases hf : F x with
  | none => exact Or.inl ⟨rfl, rfl⟩
  | some v =>
    obtain ⟨q, rfl, h2, _, _⟩ := h.yes x v hx hf
    exact Or.inr ⟨q, rfl, rfl, h2⟩
/-- What is found at a thing: a set, nil or not. -/
theorem HoldF.at' {x : Int} (h : HoldF w R b n c F H) (hx : Key x) : ∃ o, (F x).getD (.map none) = .map o ∧ SetO w o c (H x) ∧ ∀ q, o = some q → R q := by
  cases hf : F x with
  | none => exact ⟨none, rfl, ⟨0, fun _ => none, Nat.zero_le _, fun _ => rfl, fun a ha => ⟨(h.no x hx hf a ha).symm, fun _ h => by cases h⟩⟩, fun q e => by cases e⟩
  | some v =>
    obtain ⟨q, rfl, h2, h3, _⟩ := h.yes x v hx hf
    exact ⟨some q, rfl, h2, fun k e => by injection e with e; rw [← e]; exact h3⟩
theorem HoldF.more {c' : Nat} (h : HoldF w R b n c F H) (hc : c ≤ c') : HoldF w R b n c' F H :=
  ⟨h.map, h.rb, h.lt, h.no, fun x v hx hv => by
    obtain ⟨q, h1, ⟨n0, f0, a1, a2, a3⟩, h3, h4⟩ := h.yes x v hx hv
    exact ⟨q, h1, ⟨n0, f0, by omega, a2, a3⟩, h3, h4⟩, h.one⟩
end
/-- What holders has so far. -/
def hb (g : Graph) (i j : Nat) (x a : Int) : Bool := decide (0 ≤ a ∧ ((a.toNat < i ∧ x ∈ row g a.toNat) ∨ (a.toNat = i ∧ x ∈ (row g i).take j)))
def hof (g : Graph) (n : Nat) (x a : Int) : Bool := decide (0 ≤ a ∧ a.toNat < n ∧ x ∈ row g a.toNat)
theorem hb_zero (g : Graph) (x a : Int) : hb g 0 0 x a = false := by simp [hb]
theorem hb_step (g : Graph) (i j : Nat) (hj : j < (row g i).length) (x a : Int) : (hb g i j x a || (decide (x = (row g i)[j]) && decide (a = (i : Int)))) = hb g i (j + 1) x a := by
  rw [Bool.eq_iff_iff]
  simp only [hb, Bool.or_eq_true, Bool.and_eq_true, decide_eq_true_eq, take_mem hj]
  constructor
  · rintro (⟨h0, h | ⟨h1, h2⟩⟩ | ⟨h1, h2⟩)
    · exact ⟨h0, Or.inl h⟩
    · exact ⟨h0, Or.inr ⟨h1, Or.inl h2⟩⟩
    · exact ⟨by omega, Or.inr ⟨by omega, Or.inr h1⟩⟩
  · rintro ⟨h0, h | ⟨h1, h2 | h2⟩⟩
    · exact Or.inl ⟨h0, Or.inl h⟩
    · exact Or.inl ⟨h0, Or.inr ⟨h1, h2⟩⟩
    · exact Or.inr ⟨h2, by omega⟩
theorem hb_next (g : Graph) (i : Nat) (x a : Int) : hb g i (row g i).length x a = hb g (i + 1) 0 x a := by
  rw [Bool.eq_iff_iff]
  unfold hb
  rw [decide_eq_true_iff, decide_eq_true_iff, List.take_length, List.take_zero]
  constructor
  · rintro ⟨h0, h | ⟨h1, h2⟩⟩
    · exact ⟨h0, Or.inl ⟨by omega, h.2⟩⟩
    · exact ⟨h0, Or.inl ⟨by omega, by rw [h1]; exact h2⟩⟩
  · rintro ⟨h0, ⟨h1, h2⟩ | ⟨h1, h2⟩⟩
    · by_cases e : a.toNat = i
      · exact ⟨h0, Or.inr ⟨e, by rw [← e]; exact h2⟩⟩
      · exact ⟨h0, Or.inl ⟨by omega, h2⟩⟩
    · simp at h2
theorem hb_done (g : Graph) (n : Nat) (x a : Int) : hb g (min n g.length) 0 x a = hof g n x a := by
  rw [Bool.eq_iff_iff]
  unfold hb hof
  rw [decide_eq_true_iff, decide_eq_true_iff, List.take_zero]
  constructor
  · rintro ⟨h0, ⟨h1, h2⟩ | ⟨h1, h2⟩⟩
    · exact ⟨h0, by omega, h2⟩
    · simp at h2
  · rintro ⟨h0, h1, h2⟩
    refine ⟨h0, Or.inl ⟨?_, h2⟩⟩
    rcases Nat.lt_or_ge a.toNat g.length with h | h
    · omega
    · rw [row_out h] at h2; simp at h2
end Go.Proofs.Ytlmlgdojmcmllaa


/- holders walked. -/
namespace Go.Proofs.Ytlmlgdojmcmllaa
set_option linter.unusedSimpArgs false
set_option linter.unusedVariables false
open Go.RowKit
open Solve

theorem nilmap60 (q : Nat) (w : World) : (binOp .eql 60 (.map (some q)) (.map none)).run Try.prog w = .ok (.bool false) w := by kernel_rfl
theorem nilmap60' (w : World) : (binOp .eql 60 (.map none) (.map none)).run Try.prog w = .ok (.bool true) w := by kernel_rfl
theorem key_nat {k : Nat} (h : k ≤ 1000) : Key (k : Int) := Key.mk (by omega) (by omega)
/-- The map as the loop has it. -/
def HS (w0 w : World) (c : Nat) (H : Int → Int → Bool) : Prop := ∃ R n F, n ≤ c ∧ HoldF w R w0.heap.size n c F H ∧ (∀ k, R k → w0.heap.size ≤ k) ∧ Fresh w0 w
set_option maxHeartbeats 16000000 in
set_option maxRecDepth 100000 in
theorem holders_any (v : Value) (g : Graph) (n : Nat) (w : World) (hg : Sm g) (hn : n ≤ 1000) (hw : Wd g) (h : Rows2 T T w v g) :
    Calls Try.prog 42 #[v, .int .i64 (n : Int)] w fun e w' => e = .returned (.map (some w.heap.size)) ∧ HS w w' 1000 (hof g n) := by
  have HG := Lib.hid hg
  have HW := Lib.hid hw
  have HR := Lib.hid h
  have hgl := hg.len
  obtain ⟨p, cap, rfl, ⟨hc, hm⟩, _⟩ := h.form
  unfold maxLen at hm
  clear h hg hw
  have hmm := @run_makeMap Try.prog
  obtain ⟨m, hm1⟩ : ∃ m, m = min n g.length := ⟨_, rfl⟩
  have H0 : Hid (HS w (w.alloc (.map #[] 0)) 0 (hb g 0 0)) := Lib.hid ⟨_, 0, _, Nat.le_refl _, (HoldF.made w).congr fun x a _ _ => (hb_zero g x a).symm, fun k hk => by omega, (Fresh.refl w).map _ _⟩
  have HM := Lib.hid hm1
  have hmn : m ≤ g.length := by omega
  have hc1 : m ≤ cap := by omega
  have E1 := Lib.hid (show min (n : Int) (g.length : Int) = (m : Int) by omega)
  have E2 := Lib.hid (show max (m : Int) 0 = (m : Int) by omega)
  clear hm1
  go_enter Try.func42, Try.ntmps42
  go_upto_region 3 with fail
  rw [E1.out, E2.out, Int.toNat_natCast]
  go_loopg [18] m (fun k s18 wr => ∃ (i : Nat) (c : Nat), s18 = .int .i64 i ∧ i ≤ m ∧ k = m - i ∧ Hid (c ≤ i * 20) ∧ Hid (HS w wr c (hb g i 0)))
  case atStart => exact ⟨0, 0, rfl, by omega, by omega, Lib.hid (by omega), H0⟩
  case round =>
    clear H0
    obtain ⟨i, c, rfl, hi, rfl, HC, HH⟩ := hrel
    by_cases hlt : i < m
    · obtain ⟨_, _, hv, _, hh⟩ := HR.out.form
      obtain ⟨B0, off, u, hp, _, cu0, hu⟩ := hh i (by omega)
      cases hv
      subst hp
      have hF : Fresh w wr := by obtain ⟨_, _, _, _, _, _, h⟩ := HH.out; exact h
      have cu := hF.sts (fun _ => True) _ _ _ trivial cu0
      obtain ⟨q, cc, rfl, ⟨hc', hm'⟩, _⟩ := hu.form
      unfold maxLen at hm'
      have HU := Lib.hid hu
      have hrow := HG.out.row i
      have HWI := Lib.hid (HW.out i)
      clear hh hu cu0 hF
      go_wp2
      go_loopg [25] (row g i).length (fun k s25 wx => ∃ (j : Nat) (c : Nat), s25 = .int .i64 j ∧ j ≤ (row g i).length ∧ k = (row g i).length - j ∧ Hid (c ≤ i * 20 + j) ∧ Hid (HS w wx c (hb g i j)))
      case atStart => exact ⟨0, c, rfl, by omega, by omega, Lib.hid (by have := HC.out; omega), HH⟩
      case round =>
        clear HH HC cu
        obtain ⟨j, c, rfl, hj, rfl, HC, HH⟩ := hrel
        by_cases hjl : j < (row g i).length
        · obtain ⟨R, n0, F, hn0, hH, hb0, hF⟩ := HH.out
          obtain ⟨L, o, rfl, _, ex⟩ := ints_cell (HU.out.fresh hF) hjl
          have hkx := HWI.out _ (List.getElem_mem hjl)
          have HSTEP := Lib.hid (hb_step g i j hjl)
          obtain ⟨x, hx⟩ : ∃ x, x = (row g i)[j] := ⟨_, rfl⟩
          rw [← hx] at ex hkx HSTEP
          have HKX := Lib.hid hkx
          have HHF := Lib.hid hH
          have HBB := Lib.hid hb0
          have HF := Lib.hid hF
          have hcb : c ≤ 900 := by have := HC.out; omega
          clear hx hkx hH hb0 hF
          have nm := nilmap60
          have nm' := nilmap60'
          rcases HHF.out.look HKX.out with ⟨hf, hl⟩ | ⟨q1, hf, hl, hs⟩
          · have HL := Lib.hid hl
            have HN := Lib.hid hf
            clear hl hf
            go_upto_region 10 with (first | (at_lookup; refine wpList_lookF rfl _ _ 58 rfl 3 60 Try.underlying3 Try.underlying58 (some w.heap.size) n0 F rfl HHF.out.map x rfl HKX.out (.map none) (zero60 _) ?_; rw [HL.out]) | (at_mapUpdate; refine wpList_storeF rfl _ _ _ 58 rfl 3 60 Try.underlying3 Try.underlying58 w.heap.size n0 F rfl (HHF.out.map.alloc _) (by simp only [maxLen]; omega) x rfl HKX.out _ rfl ?_; intro w2 h2 ht2; obtain ⟨hh2, hk2⟩ := HHF.out.new HKX.out HN.out h2 ht2; have HH2 := Lib.hid hh2; have HK2 := Lib.hid hk2; clear h2 ht2 hh2 hk2))
            have HS2 : Hid (SetO w2 (some wr.heap.size) c (hb g i j x) ∧ (putF F x (.map (some wr.heap.size)) x).getD (.map none) = .map (some wr.heap.size) ∧ putF F x (.map (some wr.heap.size)) x = some (.map (some wr.heap.size))) := Lib.hid (by
              have e : putF F x (.map (some wr.heap.size)) x = some (.map (some wr.heap.size)) := by simp [putF]
              obtain ⟨q, e1, h1, _, _⟩ := HH2.out.yes x _ HKX.out e
              injection e1 with e1; injection e1 with e1
              subst e1
              exact ⟨h1, by rw [e]; rfl, e⟩)
            clear nm nm'
            go_wp2_with (first | (at_lookup; refine wpList_lookF rfl _ _ 58 rfl 3 60 Try.underlying3 Try.underlying58 (some w.heap.size) (n0 + 1) (putF F x (.map (some wr.heap.size))) rfl HH2.out.map x rfl HKX.out (.map none) (zero60 _) ?_; rw [HS2.out.2.1]) | (go_at_call 46; (with_reducible refine (setAdd_any wr.heap.size c _ (i : Int) _ (key_nat (by omega)) (by omega) HS2.out.1).mono ?_); rintro e w3 ⟨rfl, h3, k3⟩; have HA3 := Lib.hid (HH2.out.add HKX.out HS2.out.2.2 h3 k3); have HK3 := Lib.hid k3; clear h3 k3))
            have HNEW : Hid (HS w w3 (c + 1) (hb g i (j + 1))) := Lib.hid (by
              have hz := HF.out.size
              have f2 := HK2.out.fresh HF.out (fun k e => by omega)
              exact ⟨_, n0 + 1, _, by omega, HA3.out.congr fun y a _ _ => HSTEP.out y a, fun k hk => (hk.elim (HBB.out k) fun e => by omega), HK3.out.fresh f2 fun k e => by omega⟩)
            go_roundg ((row g i).length - (j + 1))
            case measure => go_light; omega
            case rel => go_light; exact ⟨j + 1, c + 1, by go_num, by omega, rfl, Lib.hid (by have := HC.out; omega), HNEW⟩
          · have HL := Lib.hid hl
            have HN := Lib.hid hf
            have HS2 := Lib.hid hs
            have HQ : Hid (w.heap.size ≤ q1) := Lib.hid (by
              obtain ⟨q, e1, _, h1, _⟩ := HHF.out.yes x _ HKX.out hf
              injection e1 with e1; injection e1 with e1
              rw [e1]; exact HBB.out q h1)
            clear hl hf hs
            go_wp2_with (first | (at_lookup; refine wpList_lookF rfl _ _ 58 rfl 3 60 Try.underlying3 Try.underlying58 (some w.heap.size) n0 F rfl HHF.out.map x rfl HKX.out (.map none) (zero60 _) ?_; rw [HL.out]) | (go_at_call 46; (with_reducible refine (setAdd_any q1 c _ (i : Int) _ (key_nat (by omega)) (by omega) HS2.out).mono ?_); rintro e w3 ⟨rfl, h3, k3⟩; have HA3 := Lib.hid (HHF.out.add HKX.out HN.out h3 k3); have HK3 := Lib.hid k3; clear h3 k3))
            have HNEW : Hid (HS w w3 (c + 1) (hb g i (j + 1))) := Lib.hid (by
              have := HQ.out
              exact ⟨R, n0, F, by omega, HA3.out.congr fun y a _ _ => HSTEP.out y a, HBB.out, HK3.out.fresh HF.out fun k e => by omega⟩)
            go_roundg ((row g i).length - (j + 1))
            case measure => go_light; omega
            case rel => go_light; exact ⟨j + 1, c + 1, by go_num, by omega, rfl, Lib.hid (by have := HC.out; omega), HNEW⟩
        · obtain rfl : j = (row g i).length := by omega
          have HH2 : Hid (HS w wr c (hb g (i + 1) 0)) := Lib.hid (by
            obtain ⟨R, n0, F, hn0, hH, hb0, hF⟩ := HH.out
            exact ⟨R, n0, F, hn0, hH.congr fun x a _ _ => hb_next g i x a, hb0, hF⟩)
          go_wp2
          go_roundg (m - (i + 1))
          case measure => go_light; omega
          case rel => go_light; exact ⟨i + 1, c, by go_num, by omega, rfl, Lib.hid (by have := HC.out; omega), HH2⟩
    · obtain rfl : i = m := by omega
      go_wp2
      go_ret
      refine ⟨rfl, ?_⟩
      obtain ⟨R, n0, F, hn0, hH, hb0, hF⟩ := HH.out
      have hcb : c ≤ 1000 := by have := HC.out; omega
      exact ⟨R, n0, F, by omega, (hH.more hcb).congr fun x a _ _ => by rw [HM.out]; exact hb_done g n x a, hb0, hF⟩
end Go.Proofs.Ytlmlgdojmcmllaa


/- A visit forgotten. -/
namespace Go.Proofs.Ytlmlgdojmcmllaa
set_option linter.unusedSimpArgs false
set_option linter.unusedVariables false
open Go.RowKit
open Solve

theorem inL_drop {n : Nat} {l : List Nat} (hn : l.Nodup) {j : Nat} (hj : j < l.length) : inL n (l.drop (j + 1)) = (inL n (l.drop j)).set l[j] false := by
  refine List.ext_getElem (by simp [inL]) fun i h1 h2 => ?_
  rw [List.getElem_set]
  simp only [inL, List.getElem_map, List.getElem_range]
  have hd : l.drop j = l[j] :: l.drop (j + 1) := List.drop_eq_getElem_cons hj
  have hnd : (l[j] :: l.drop (j + 1)).Nodup := by rw [← hd]; exact hn.sublist (List.drop_sublist _ _)
  by_cases e : l[j] = i
  · rw [if_pos e]
    have := (List.nodup_cons.1 hnd).1
    rw [e] at this
    simpa using this
  · rw [if_neg e]
    have : ¬ i = l[j] := fun h => e h.symm
    rw [decide_eq_decide, hd, List.mem_cons]
    exact ⟨Or.inr, fun h => h.resolve_left this⟩
structure FG (w wr : World) (V : Nat → Prop) (B M n : Nat) (lv : Value) (l : List Nat) (j : Nat) : Prop where
  k : Keep V w wr
  b : wr.heap[B]? = some (.cells #[lv, .slice (some ⟨M, 0, none⟩) n n] 45 (0, 0))
  m : Mrk wr M 4 (inL n (l.drop j))
  q : Que wr 0 3 lv (nums (ints l))
theorem Que.cut {w : World} {base : Nat} {e : TypeId} {p : Option Addr} {n c : Nat} {xs : List Value} (h : Que w base e (.slice p n c) xs) : Que w base e (.slice p 0 c) [] := by
  rcases h with ⟨h, _⟩ | ⟨g, off, cap, cur, hv, hb, hg, hc, hm, hs, ht⟩
  · cases h; exact Or.inl ⟨rfl, rfl⟩
  · cases hv
    exact Or.inr ⟨g, off, c, cur, rfl, hb, hg, Nat.zero_le _, hm, hs, fun i u hu => by simp at hu⟩
set_option maxHeartbeats 8000000 in
set_option maxRecDepth 100000 in
theorem forget_any (V : Nat → Prop) (B n : Nat) (l : List Nat) (w : World) (hn : n ≤ 1000) (h : Vst w V B n l) :
    Calls Try.prog 49 #[.pointer (some ⟨B, 0, none⟩)] w fun e w' => e = .returned (.tuple #[]) ∧ Vst w' V B n [] ∧ Keep V w w' := by
  have HV := Lib.hid h
  have hlen := h.len
  obtain ⟨M, lv, h1, h2, h3, h4, h5, h6, h7⟩ := h.ex
  obtain ⟨q, c, rfl, ⟨hc, hm⟩, _⟩ := h3.ints.form
  rw [ints_len] at hc
  unfold maxLen at hm
  have hil := ints_len l
  rw [hil] at h1 h3 h7
  have HF0 : Hid (FG w w V B M n (.slice q l.length c) l 0) := Lib.hid ⟨Keep.refl _ _, h1, by simpa using h2, h3⟩
  have HP : Hid (V B ∧ V M ∧ B ≠ M ∧ ∀ k, (Value.slice q l.length c).ownBlock = some k → V k ∧ k ≠ B ∧ k ≠ M) := Lib.hid ⟨h5, h6, h4, h7⟩
  have c0 : w.cell? ⟨B, 0, none⟩ = some (.slice q l.length c) := by rw [cell_of_row w B 0 _ 45 (0, 0) h1]; rfl
  clear h h1 h2 h3 h4 h5 h6 h7 hil
  go_enter Try.func49, Try.ntmps49
  go_wp2
  go_loopg [9] l.length (fun k s9 wr => ∃ (j : Nat), s9 = .int .i64 j ∧ j ≤ l.length ∧ k = l.length - j ∧ Hid (FG w wr V B M n (.slice q l.length c) l j))
  case atStart => exact ⟨0, rfl, by omega, by omega, HF0⟩
  case round =>
    clear HF0 c0
    obtain ⟨j, rfl, hj, rfl, HF⟩ := hrel
    have hb := HF.out.b
    have c0 : wr.cell? ⟨B, 0, none⟩ = some (.slice q l.length c) := by rw [cell_of_row wr B 0 _ 45 (0, 0) hb]; rfl
    have c1 : wr.cell? ⟨B, 1, none⟩ = some (.slice (some ⟨M, 0, none⟩) n n) := by rw [cell_of_row wr B 1 _ 45 (0, 0) hb]; rfl
    have f0 := frozen_of hb 0
    clear hb
    by_cases hlt : j < l.length
    · obtain ⟨L, o, rfl, _, ex⟩ := nodes_cell HF.out.q.ints hlt
      have hx1 := HV.out.node _ (List.getElem_mem hlt)
      have HD := Lib.hid (inL_drop (n := n) HV.out.nd hlt)
      obtain ⟨x, hx⟩ : ∃ x : Nat, x = l[j] := ⟨_, rfl⟩
      rw [← hx] at ex hx1 HD
      clear hx
      have cm := HF.out.m.cell (i := x) (by rw [inL_len]; exact hx1)
      have fm := HF.out.m.frozen x
      have HF2 : Hid (FG w (wr.setCell ⟨M, x, none⟩ (.bool false)) V B M n (.slice (some ⟨L, o, none⟩) l.length c) l (j + 1)) := Lib.hid
        ⟨HF.out.k.setCell (p := ⟨M, x, none⟩) HP.out.2.1 _, (Below.heap_setCell _ _ _ _ HP.out.2.2.1).trans HF.out.b, by rw [HD.out]; exact HF.out.m.set x false, HF.out.q.set (fun e => (HP.out.2.2.2 _ e).2.2 rfl) _⟩
      go_wp2
      go_roundg (l.length - (j + 1))
      case measure => go_light; omega
      case rel => go_light; exact ⟨j + 1, by go_num, by omega, rfl, HF2⟩
    · obtain rfl : j = l.length := by omega
      go_wp2
      go_end0
      have hf := HF.out
      have hmm := hf.m
      rw [List.drop_of_length_le (Nat.le_refl _)] at hmm
      have K : Keep V w (wr.setCell ⟨B, 0, none⟩ (.slice q 0 c)) := hf.k.setCell (p := ⟨B, 0, none⟩) HP.out.1 _
      refine ⟨rfl, ⟨⟨M, .slice q 0 c, heap_set hf.b 0 _, ⟨(Below.heap_setCell _ _ _ _ HP.out.2.2.1.symm).trans hmm.blk⟩, ?_, HP.out.2.2.1, HP.out.1, HP.out.2.1, fun k hk => HP.out.2.2.2 k (by cases q <;> exact hk)⟩, fun k hk => Nat.lt_of_lt_of_le (HV.out.lt k hk) K.size, List.nodup_nil, fun i hi => by simp at hi⟩, K⟩
      exact hf.q.cut.set (fun e => (HP.out.2.2.2 B (by cases q <;> exact e)).2.1 rfl) _
end Go.Proofs.Ytlmlgdojmcmllaa


