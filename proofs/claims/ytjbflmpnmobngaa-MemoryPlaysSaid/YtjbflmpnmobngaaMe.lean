/- A block as it stands in memory, and what is loaded of it. -/
import Derived.Test.YtjbflmpnmobngaaMd
namespace Go.Proofs.Ytjbflmpnmobngaa
set_option linter.unusedSimpArgs false
set_option linter.unusedVariables false
open Go.RowKit

def MapO (w : World) (o : Option Nat) (n : Nat) (f : Int → Option Value) : Prop :=
  match o with
  | none => ∀ a, f a = none
  | some b => MapF Try.prog 3 w b n f
theorem MapO.look {w : World} {o : Option Nat} {n : Nat} {f : Int → Option Value} (h : MapO w o n f) {t e : TypeId} (ht : Try.prog.underlying t = some (.map 3 e)) {z : Value} (hz : (zeroValue e).run Try.prog w = .ok z w) {a : Int} (ha : Key a) :
    (Instr.lookup t (.map o) (.int .i64 a) false).run Try.prog w = .ok ((f a).getD z) w := by
  cases o with
  | none => rw [show f a = none from h a]; exact Maps.look_nil false (Maps.int_keyed Try.underlying3) ht hz (Maps.keyOf_int_mk Try.underlying3 ha)
  | some b => exact MapF.look h Try.underlying3 ht hz ha
theorem MapO.look_ok {w : World} {o : Option Nat} {n : Nat} {f : Int → Option Value} (h : MapO w o n f) {t e : TypeId} (ht : Try.prog.underlying t = some (.map 3 e)) {z : Value} (hz : (zeroValue e).run Try.prog w = .ok z w) {a : Int} (ha : Key a) :
    (Instr.lookup t (.map o) (.int .i64 a) true).run Try.prog w = .ok (.tuple #[(f a).getD z, .bool (f a).isSome]) w := by
  cases o with
  | none => rw [show f a = none from h a]; exact Maps.look_nil true (Maps.int_keyed Try.underlying3) ht hz (Maps.keyOf_int_mk Try.underlying3 ha)
  | some b => exact MapF.look_ok h Try.underlying3 ht hz ha
theorem MapO.later {w w' : World} {o : Option Nat} {n : Nat} {f : Int → Option Value} (h : MapO w o n f) (hf : Fresh w w') : MapO w' o n f := by
  cases o with
  | none => exact h
  | some b => exact MapF.block h (hf.below.block b (MapF.lt h))

def plen (sz p : Int) : Nat := (min 4096 (sz - p * 4096)).toNat
def valOf (p : Int × Int × Int) : Value := .agg #[.int .i64 p.1, .int .u64 p.2.1, .int .i64 p.2.2]
def rowV (sz : Int) (row : Int → Option Nat) (p : Int) : Option Value := (row p).map fun r => .slice (some ⟨r, 0, none⟩) (plen sz p) (plen sz p)
def ptrV (ptr : Int → Option (Int × Int × Int)) (o : Int) : Option Value := (ptr o).map valOf
/-- Block B as it stands: its size, whether it is fixed, its maps, its pages' rows, its cells, its pointers. -/
structure BRep (w : World) (B : Nat) (sz : Int) (fx : Bool) (pg pt : Option Nat) (n1 n2 : Nat) (row : Int → Option Nat) (cell : Nat → Int) (ptr : Int → Option (Int × Int × Int)) : Prop where
  c0 : w.cell? ⟨B, 0, none⟩ = some (.int .i64 sz)
  c1 : w.cell? ⟨B, 1, none⟩ = some (.bool fx)
  c2 : w.cell? ⟨B, 2, none⟩ = some (.map pg)
  c3 : w.cell? ⟨B, 3, none⟩ = some (.map pt)
  s0 : 0 ≤ sz
  s1 : sz ≤ 16777216
  pgs : MapO w pg n1 (rowV sz row)
  pts : MapO w pt n2 (ptrV ptr)
  rws : ∀ p r, row p = some r → ∀ i, i < plen sz p → w.cell? ⟨r, i, none⟩ = some (.int .u16 (cell (p.toNat * 4096 + i)))
  non : ∀ p, 0 ≤ p → row p = none → ∀ i, i < 4096 → cell (p.toNat * 4096 + i) = 0
  rng : ∀ o, cell o = 0 ∨ 256 ≤ cell o ∧ cell o < 512
variable {w w' : World} {B : Nat} {sz : Int} {fx : Bool} {pg pt : Option Nat} {n1 n2 : Nat} {row : Int → Option Nat} {cell : Nat → Int} {ptr : Int → Option (Int × Int × Int)}
theorem BRep.later (h : BRep w B sz fx pg pt n1 n2 row cell ptr) (hf : Fresh w w') : BRep w' B sz fx pg pt n1 n2 row cell ptr :=
  ⟨hf.cellOf (cell_lt h.c0) h.c0, hf.cellOf (cell_lt h.c0) h.c1, hf.cellOf (cell_lt h.c0) h.c2, hf.cellOf (cell_lt h.c0) h.c3, h.s0, h.s1, h.pgs.later hf, h.pts.later hf,
    fun p r hr i hi => hf.cellOf (cell_lt (h.rws p r hr i hi)) (h.rws p r hr i hi), h.non, h.rng⟩
theorem accN_shift (g g' : Nat → Int) (a a' : Nat) : ∀ m : Nat, (∀ i, i < m → g (a + i) = g' (a' + i)) → accN g a m = accN g' a' m
  | 0, _ => rfl
  | m + 1, h => by
    unfold accN
    rw [accN_shift g g' a a' m (fun i hi => h i (by omega)), h m (by omega)]
theorem allB_shift (g g' : Nat → Int) (a a' m : Nat) (h : ∀ i, i < m → g (a + i) = g' (a' + i)) : allB g a m = allB g' a' m := by
  unfold allB
  rw [Bool.eq_iff_iff]
  simp only [List.all_eq_true, List.mem_range]
  exact ⟨fun k i hi => by rw [← h i hi]; exact k i hi, fun k i hi => by rw [h i hi]; exact k i hi⟩
/-- The number of m bytes that lie in one page. -/
theorem number_any (off m : Nat) (hm : m ≤ 8) (hin : off % 4096 + m ≤ 4096) (hoff : (off : Int) + m ≤ sz) (hm0 : 0 < m) (h : BRep w B sz fx pg pt n1 n2 row cell ptr) :
    Calls Try.prog 34 #[.pointer (some ⟨B, 0, none⟩), .int .i64 (off : Int), .int .i64 (m : Int)] w fun e w' => e = .returned (.tuple #[.int .u64 (numV cell off m), .bool (allB cell off m)]) ∧ w = w' := by
  have s1 := h.s1
  have hpk : Key ((off : Int) / 4096) := Key.mk (by omega) (by omega)
  have hl := h.pgs.look Try.underlying60 (zero94 w) hpk
  cases hr : row ((off : Int) / 4096) with
  | none =>
    have hl' : (Instr.lookup 60 (.map pg) (.int .i64 ((off : Int) / 4096)) false).run Try.prog w = .ok (.slice none 0 0) w := by rw [hl]; simp [rowV, hr]
    have hz : allB cell off m = false := by
      refine allB_false cell off m 0 hm0 ?_
      have := h.non _ (by omega) hr (off % 4096) (by omega)
      rw [← this]
      exact congrArg cell (by omega)
    refine (number_none B pg off m (by omega) (by omega) w h.c2 hl').mono fun e w' ⟨he, hw⟩ => ⟨?_, hw⟩
    rw [he]
    exact ret_num (by unfold numV; rw [hz]; rfl) hz
  | some r =>
    have hl' : (Instr.lookup 60 (.map pg) (.int .i64 ((off : Int) / 4096)) false).run Try.prog w = .ok (.slice (some ⟨r, 0, none⟩) (plen sz ((off : Int) / 4096)) (plen sz ((off : Int) / 4096))) w := by rw [hl]; simp [rowV, hr]
    have hsh : ∀ i, i < m → (fun i => cell (((off : Int) / 4096).toNat * 4096 + i)) (off % 4096 + i) = cell (off + i) := fun i hi => by
      exact congrArg cell (by omega)
    refine (number_row B r (plen sz ((off : Int) / 4096)) pg off m (off % 4096) (fun i => cell (((off : Int) / 4096).toNat * 4096 + i)) (by omega) (by omega) hm (by omega) (by unfold plen; omega) w h.c2 hl' (Lib.hid fun i hi => ⟨h.rws _ r hr i hi, h.rng _⟩)).mono fun e w' ⟨he, hw⟩ => ⟨?_, hw⟩
    rw [he]
    have e1 := allB_shift (fun i => cell (((off : Int) / 4096).toNat * 4096 + i)) cell (off % 4096) off m hsh
    have e2 := accN_shift (fun i => cell (((off : Int) / 4096).toNat * 4096 + i)) cell (off % 4096) off m hsh
    exact ret_num (by unfold numV; rw [e1, e2]) e1.symm
end Go.Proofs.Ytjbflmpnmobngaa
