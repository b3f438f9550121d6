/- Types made of numbers: the plain function. -/
import Derived.Test.YteiomcbphbbpkaaGreatDoorCe
namespace Go.Proofs.YteiomcbphbbpkaaGreatDoor
set_option linter.unusedSimpArgs false
set_option linter.unusedVariables false
open Go.RowKit
/-- A type, and where what is left begins. -/
structure Mk where
  h : Hd
  ks : Tys
  j : Nat
def hd1 (k : Int) : Hd := ⟨k, 0, 0, false, ⟨#[]⟩⟩
def numHd (s : Int) (u : Bool) : Hd := ⟨2, s, 0, u, ⟨#[]⟩⟩
def arrHd (l : Int) : Hd := ⟨5, 0, l, false, ⟨#[]⟩⟩
def recHd (nm : ByteArray) (u : Bool) : Hd := ⟨6, 0, 0, u, nm⟩
def params (f : Nat → Mk) : Nat → Nat → Tys × Nat
  | 0, j => (.nil, j)
  | c + 1, j => ((params f c j).1.append (.cons (f (params f c j).2).h (f (params f c j).2).ks .nil), (f (params f c j).2).j)
/-- What is made of 11 to 14 and a length, a name's number or a count. -/
def mkM (f : Nat → Mk) (k m : Int) (i : Nat) : Mk :=
  if k = 11 then ⟨arrHd m, .cons (f i).h (f i).ks .nil, (f i).j⟩
  else if k = 12 then ⟨recHd (nameOf m) false, .nil, i⟩
  else if k = 13 then ⟨recHd (nameOf m) true, .nil, i⟩
  else ⟨hd1 7, .cons (f i).h (f i).ks (params f (min m.toNat 8) (f i).j).1, (params f (min m.toNat 8) (f i).j).2⟩
def mkS (f : Nat → Mk) (zs : Nat → Int) (n i : Nat) : Mk :=
  if n ≤ i then ⟨Hd.zero, .nil, n⟩
  else if zs i = 0 then ⟨hd1 1, .nil, i + 1⟩
  else if 1 ≤ zs i ∧ zs i ≤ 8 then ⟨numHd (if zs i ≤ 2 then 1 else if zs i ≤ 4 then 2 else if zs i ≤ 6 then 4 else 8) (zs i % 2 == 0), .nil, i + 1⟩
  else if zs i = 9 then ⟨hd1 3, .nil, i + 1⟩
  else if zs i = 10 then ⟨hd1 4, .cons (f (i + 1)).h (f (i + 1)).ks .nil, (f (i + 1)).j⟩
  else if 11 ≤ zs i ∧ zs i ≤ 14 ∧ i + 1 < n then mkM f (zs i) (zs (i + 1)) (i + 2)
  else if zs i = 15 then ⟨numHd 3 false, .nil, i + 1⟩
  else ⟨Hd.zero, .nil, i + 1⟩
def mkT (zs : Nat → Int) (n : Nat) : Nat → Nat → Mk
  | 0, _ => ⟨Hd.zero, .nil, n⟩
  | d + 1, i => mkS (mkT zs n d) zs n i
theorem params_le {f : Nat → Mk} {n : Nat} (hf : ∀ i, i ≤ n → (f i).j ≤ n) : ∀ c j, j ≤ n → (params f c j).2 ≤ n
  | 0, _, h => h
  | c + 1, j, h => hf _ (params_le hf c j h)
theorem params_len {f : Nat → Mk} : ∀ c j, (params f c j).1.length = c
  | 0, _ => rfl
  | c + 1, j => by rw [params, Tys.length_append, params_len c j]; rfl
theorem mkT_le (zs : Nat → Int) (n : Nat) : ∀ d i, i ≤ n → (mkT zs n d i).j ≤ n
  | 0, _, _ => Nat.le_refl _
  | d + 1, i, h => by
    have ih := mkT_le zs n d
    unfold mkT mkS
    split
    · exact Nat.le_refl _
    · repeat' split
      all_goals first | (simp; omega) | exact ih _ (by omega) | skip
      unfold mkM
      repeat' split
      all_goals first | (simp; omega) | exact ih _ (by omega) | exact params_le ih _ _ (ih _ (by omega))
/-- The numbers from the i-th on. -/
def CodeAt (w : World) (zs : Nat → Int) (n i : Nat) (p : Option Addr) (m c : Nat) : Prop :=
  m = n - i ∧ m ≤ c ∧ c ≤ maxLen ∧ (m = 0 ∨ ∃ B off, p = some ⟨B, off, none⟩ ∧ ∀ j, j < m → w.cell? ⟨B, off + j, none⟩ = some (.int .i64 (zs (i + j))))
def TypeSpec (w0 : World) (zs : Nat → Int) (n d : Nat) : Prop :=
  ∀ (dep : Int) (i : Nat) (p : Option Addr) (m c : Nat) (w : World), dep + d = 61 → 0 ≤ dep → i ≤ n → CodeAt w0 zs n i p m c → Fresh w0 w →
    Calls Tryz.prog 26 #[.slice p m c, .int .i64 dep] w fun e w' =>
      (∃ p' n' cap' q m' c', e = .returned (.tuple #[.agg #[.int .i64 (mkT zs n d i).h.kind, .int .i64 (mkT zs n d i).h.size, .int .i64 (mkT zs n d i).h.len, .bool (mkT zs n d i).h.flag, .string (mkT zs n d i).h.name, .slice p' n' cap'], .slice q m' c']) ∧
        Kids (fun b => w.heap.size ≤ b) w' (mkT zs n d i).ks p' n' cap' ∧ CodeAt w0 zs n (mkT zs n d i).j q m' c') ∧ Fresh w w'
def MadeSpec (w0 : World) (zs : Nat → Int) (n d : Nat) : Prop :=
  ∀ (dep : Int) (i : Nat) (k l : Int) (p : Option Addr) (m c : Nat) (w : World), dep + d = 60 → 0 ≤ dep → 11 ≤ k → k ≤ 14 → i ≤ n → CodeAt w0 zs n i p m c → Fresh w0 w →
    Calls Tryz.prog 48 #[.int .i64 k, .int .i64 l, .slice p m c, .int .i64 dep] w fun e w' =>
      (∃ p' n' cap' q m' c', e = .returned (.tuple #[.agg #[.int .i64 (mkM (mkT zs n d) k l i).h.kind, .int .i64 (mkM (mkT zs n d) k l i).h.size, .int .i64 (mkM (mkT zs n d) k l i).h.len, .bool (mkM (mkT zs n d) k l i).h.flag, .string (mkM (mkT zs n d) k l i).h.name, .slice p' n' cap'], .slice q m' c']) ∧
        Kids (fun b => w.heap.size ≤ b) w' (mkM (mkT zs n d) k l i).ks p' n' cap' ∧ CodeAt w0 zs n (mkM (mkT zs n d) k l i).j q m' c') ∧ Fresh w w'
end Go.Proofs.YteiomcbphbbpkaaGreatDoor
