/- A pointer that is forgotten. -/
import Derived.Test.YtjbflmpnmobngaaMh
namespace Go.Proofs.Ytjbflmpnmobngaa
set_option linter.unusedSimpArgs false
set_option linter.unusedVariables false
open Go.RowKit

section
variable {P : Program} (w : World) {ops : Array Oper} {rest : List Oper} {o : Oper} {a : Act} {Q : Exit → Act → World → Prop}
theorem wpList_storeF (hg : o.guard = none) (m x v : Operand) (t : TypeId) (hop : o.op = Op.mapUpdate t m x v) (k e : TypeId) (hk : P.underlying k = some (.int .i64)) (ht : P.underlying t = some (.map k e)) (b n : Nat) (f : Int → Option Value)
    (hm : a.eval m = .map (some b)) (h : MapF P k w b n f) (hn : n < maxLen) (key : Int) (hx : a.eval x = .int .i64 key) (hkey : Key key) (val : Value) (hv : a.eval v = val)
    (hK : ∀ w', MapF P k w' b (n + 1) (putF f key val) → w.mapTurned w' b → wpList P ops Q rest (a.put o.dst undef) w') : wpList P ops Q (o :: rest) a w := by
  refine wpList_plain hg fun K' hK' => ?_
  obtain ⟨w', hrun, r1, r2⟩ := h.store hk ht hn hkey val
  unfold Oper.wp
  simp [execOp, hop, hm, hx, hv, hrun, Result.andThen]
  exact hK' _ _ (hK w' r1 r2)
theorem wpList_dropF (hg : o.guard = none) (m x : Operand) (t k : TypeId) (hop : o.op = Op.call { callee := Callee.builtin Builtin.delete, args := #[m, x], argTypes := #[t, k] })
    (e : TypeId) (hk : P.underlying k = some (.int .i64)) (ht : P.underlying t = some (.map k e)) (b n : Nat) (f : Int → Option Value)
    (hm : a.eval m = .map (some b)) (h : MapF P k w b n f) (key : Int) (hx : a.eval x = .int .i64 key) (hkey : Key key)
    (hK : ∀ w', MapF P k w' b n (delF f key) → w.mapTurned w' b → wpList P ops Q rest (a.put o.dst (.tuple #[])) w') : wpList P ops Q (o :: rest) a w := by
  refine wpList_plain hg fun K' hK' => ?_
  obtain ⟨w', hrun, r1, r2⟩ := h.drop hk ht hkey o.type
  unfold Oper.wp
  simp [execOp, hop, resolve, invoke, builtin, hm, hx, hrun, Result.andThen]
  exact hK' _ _ (hK w' r1 r2)
theorem wpList_dropN (hg : o.guard = none) (m x : Operand) (t k : TypeId) (hop : o.op = Op.call { callee := Callee.builtin Builtin.delete, args := #[m, x], argTypes := #[t, k] })
    (e : TypeId) (hk : P.underlying k = some (.int .i64)) (ht : P.underlying t = some (.map k e))
    (hm : a.eval m = .map none) (key : Int) (hx : a.eval x = .int .i64 key) (hkey : Key key)
    (hK : wpList P ops Q rest (a.put o.dst (.tuple #[])) w) : wpList P ops Q (o :: rest) a w := by
  refine wpList_plain hg fun K' hK' => ?_
  have hrun := Maps.drop_nil (w := w) (Maps.int_keyed hk) ht (Maps.keyOf_int_mk hk hkey) o.type
  unfold Oper.wp
  simp [execOp, hop, resolve, invoke, builtin, hm, hx, hrun, Result.andThen]
  exact hK' _ _ hK
end

variable {w w' : World} {B : Nat} {sz : Int} {fx : Bool} {pg pt : Option Nat} {n1 n2 T : Nat} {row : Int → Option Nat} {cell : Nat → Int} {ptr : Int → Option (Int × Int × Int)} {own : Nat → Prop}
def delP (ptr : Int → Option (Int × Int × Int)) (x : Int) : Int → Option (Int × Int × Int) := fun o => if o = x then none else ptr o
def putP (ptr : Int → Option (Int × Int × Int)) (x : Int) (v : Int × Int × Int) : Int → Option (Int × Int × Int) := fun o => if o = x then some v else ptr o
theorem ptrV_del (ptr : Int → Option (Int × Int × Int)) (x : Int) : ptrV (delP ptr x) = delF (ptrV ptr) x := by
  funext o; unfold ptrV delP delF; by_cases h : o = x <;> simp [h]
theorem ptrV_put (ptr : Int → Option (Int × Int × Int)) (x : Int) (v : Int × Int × Int) : ptrV (putP ptr x v) = putF (ptrV ptr) x (valOf v) := by
  funext o; unfold ptrV putP putF; by_cases h : o = x <;> simp [h]
/-- Only the map of pointers has turned. -/
theorem BRep.ptrs {q : Nat} (h : BRep w B sz fx pg (some q) n1 n2 row cell ptr) (hS : Sep w B pg (some q) row) (ht : w.mapTurned w' q) {n' : Nat} {ptr' : Int → Option (Int × Int × Int)} (hm : MapF Try.prog 3 w' q n' (ptrV ptr')) :
    BRep w' B sz fx pg (some q) n1 n' row cell ptr' ∧ Sep w' B pg (some q) row := by
  have hq : MapF Try.prog 3 w q n2 (ptrV ptr) := h.pts
  have key : ∀ k, k < w.heap.size → k ≠ q → w'.heap[k]? = w.heap[k]? := fun k hk hn => ht.grown.block k hk (by simpa using hn)
  have hB : B ≠ q := (hq.ne h.c0).symm
  have kB := key B (cell_lt h.c0) hB
  have kr : ∀ p r, row p = some r → w'.heap[r]? = w.heap[r]? := fun p r hr => key r (hS.rl p r hr).1 (hq.ne_row (hS.rl p r hr).2).symm
  refine ⟨⟨cell_kept h.c0 kB, cell_kept h.c1 kB, cell_kept h.c2 kB, cell_kept h.c3 kB, h.s0, h.s1, h.pgs.kept fun b hb => key b (h.pgs.lt hb) (fun e => hS.pp b hb (by rw [e])), hm,
    fun p r hr i hi => cell_kept (h.rws p r hr i hi) (kr p r hr), h.non, h.rng⟩, ⟨hS.rB, hS.rr, hS.pp, fun p r hr => ⟨Nat.lt_of_lt_of_le (hS.rl p r hr).1 ht.grown.size, by rw [kr p r hr]; exact (hS.rl p r hr).2⟩,
    fun k hk o => by rw [ht.frozen]; exact hS.fr k hk o, hS.rp⟩⟩
def Forgot (B : Nat) (sz : Int) (fx : Bool) (pg pt : Option Nat) (n1 n2 : Nat) (row : Int → Option Nat) (cell : Nat → Int) (ptr' : Int → Option (Int × Int × Int)) (w : World) (e : Ending) (w' : World) : Prop :=
  e = .returned (.tuple #[]) ∧ BRep w' B sz fx pg pt n1 n2 row cell ptr' ∧ Sep w' B pg pt row ∧ Touch (fun k => pt = some k) w w'
theorem rem8 (off : Nat) (h : (off : Int) ≤ 16777216) : wrap64 ((off : Int).tmod 8) = (off : Int) % 8 := by
  rw [Int.tmod_eq_emod_of_nonneg (by omega)]; unfold wrap64; omega
theorem forget_any (off : Nat) (hoff : (off : Int) ≤ 16777216) (h : BRep w B sz fx pg pt n1 n2 row cell ptr) (hS : Sep w B pg pt row) :
    Calls Try.prog 62 #[.pointer (some ⟨B, 0, none⟩), .int .i64 (off : Int)] w (Forgot B sz fx pg pt n1 n2 row cell (delP ptr ((off : Int) - (off : Int) % 8)) w) := by
  have c3 := h.c3
  have hr := rem8 off hoff
  have hk : Key ((off : Int) - (off : Int) % 8) := Key.mk (by omega) (by omega)
  have HK := Lib.hid hk
  have HB := Lib.hid h
  have HS := Lib.hid hS
  clear h hS hk
  cases pt with
  | none =>
    go_enter Try.func62, Try.ntmps62
    go_wp2_with (at_delete; refine wpList_dropN _ rfl _ _ 61 3 rfl 32 Try.underlying3 Try.underlying61 rfl _ rfl HK.out ?_)
    go_returns
    refine ⟨rfl, ⟨HB.out.c0, HB.out.c1, HB.out.c2, HB.out.c3, HB.out.s0, HB.out.s1, HB.out.pgs, ?_, HB.out.rws, HB.out.non, HB.out.rng⟩, HS.out, Touch.refl _ _⟩
    intro x
    rw [ptrV_del]
    unfold delF
    have := HB.out.pts x
    simp [this]
  | some q =>
    go_enter Try.func62, Try.ntmps62
    go_wp2_with (at_delete; refine wpList_dropF _ rfl _ _ 61 3 rfl 32 Try.underlying3 Try.underlying61 q n2 _ rfl HB.out.pts _ rfl HK.out ?_; intro w1 hown1 hturn1)
    go_returns
    obtain ⟨r1, r2⟩ := HB.out.ptrs HS.out hturn1 (ptr' := delP ptr ((off : Int) - (off : Int) % 8)) (n' := n2) (by rw [ptrV_del]; exact hown1)
    exact ⟨rfl, r1, r2, (Touch.refl _ _).turned hturn1 (Or.inl rfl)⟩
end Go.Proofs.Ytjbflmpnmobngaa
