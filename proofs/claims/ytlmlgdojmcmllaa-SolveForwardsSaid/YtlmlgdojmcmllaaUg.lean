/- Where a thing stands, plainly; the closure of its rounds. -/
import Derived.Test.YtlmlgdojmcmllaaUf
namespace Go.Proofs.Ytlmlgdojmcmllaa
set_option linter.unusedSimpArgs false
set_option linter.unusedVariables false
open Go.RowKit
open Solve

/-- Many nodes entered. -/
def entS (n : Nat) (ex : Int → Bool) (s : List Nat × List Nat) (xs : List Int) : List Nat × List Nat := xs.foldl (fun s k => (comeL n s.1 k, entL2 n ex s.1 s.2 k)) s
theorem entS_take {n : Nat} {ex : Int → Bool} {s : List Nat × List Nat} {xs : List Int} {j : Nat} (h : j < xs.length) : entS n ex s (xs.take (j + 1)) = (comeL n (entS n ex s (xs.take j)).1 xs[j], entL2 n ex (entS n ex s (xs.take j)).1 (entS n ex s (xs.take j)).2 xs[j]) := fold_take _ _ _ _ h
set_option maxHeartbeats 8000000 in
set_option maxRecDepth 100000 in
theorem spread2_any (d : FD) (ws : World) (U R : Nat → Prop) (p2 p4 p5 : Nat) (x : Int) (l1 l2 : List Nat) (i : Nat) (hi : i < d.A.length) (w : World) (h : Ent d ws U R p2 p4 p5 x l1 l2 w) :
    Calls Try.prog 52 #[.int .i64 (i : Int), .pointer (some ⟨p2, 0, none⟩), .pointer (some ⟨p5, 0, none⟩)] w fun e w' => e = .returned (.tuple #[]) ∧ Ent d ws U R p2 p4 p5 x (entS d.A.length (d.E x) (l1, l2) (row d.A i)).1 (entS d.A.length (d.E x) (l1, l2) (row d.A i)).2 w' := by
  obtain ⟨V1, V2, hE⟩ := h
  have c2 : w.cell? ⟨p2, 0, none⟩ = some (.pointer (some ⟨d.fb, 0, none⟩)) := by rw [cell_of_row w p2 0 _ 55 (0, 0) hE.b.h2]; rfl
  have cf := hE.f.flo.cs.1
  obtain ⟨p, cap, hv, ⟨hc, hm⟩, hh⟩ := hE.f.flo.rows.form
  have HV := Lib.hid hv
  rw [hv] at cf
  unfold maxLen at hm
  obtain ⟨B0, off, u, rfl, _, cu, hu⟩ := hh i hi
  obtain ⟨q, c, rfl, ⟨hc', hm'⟩, _⟩ := hu.form
  unfold maxLen at hm'
  have HE : Hid (Ent d ws U R p2 p4 p5 x l1 l2 w) := Lib.hid ⟨V1, V2, hE⟩
  have HU := Lib.hid hu
  have HSM := Lib.hid hE.f.flo.small
  clear hE hh hu hv
  go_enter Try.func52, Try.ntmps52
  go_wp2
  go_loopg [14] (row d.A i).length (fun k s14 wr => ∃ (j : Nat), s14 = .int .i64 j ∧ j ≤ (row d.A i).length ∧ k = (row d.A i).length - j ∧ Hid (Ints R wr (.slice q (row d.A i).length c) (row d.A i)) ∧ Hid (Ent d ws U R p2 p4 p5 x (entS d.A.length (d.E x) (l1, l2) ((row d.A i).take j)).1 (entS d.A.length (d.E x) (l1, l2) ((row d.A i).take j)).2 wr))
  case atStart => exact ⟨0, rfl, by omega, by omega, HU, HE⟩
  case round =>
    clear HE HU cu c2 cf
    obtain ⟨j, rfl, hj, rfl, HU, HE⟩ := hrel
    by_cases hlt : j < (row d.A i).length
    · obtain ⟨L, o, rfl, _, ex⟩ := ints_cell HU.out hlt
      have HT := Lib.hid (entS_take (n := d.A.length) (ex := d.E x) (s := (l1, l2)) hlt)
      obtain ⟨y, hy⟩ : ∃ y, y = (row d.A i)[j] := ⟨_, rfl⟩
      rw [← hy] at ex HT
      clear hy
      have c5 : wr.cell? ⟨p5, 0, none⟩ = some (.func (.func 50) #[] #[.pointer (some ⟨p2, 0, none⟩), .pointer (some ⟨p4, 0, none⟩)]) := by
        obtain ⟨V1', V2', hE⟩ := HE.out
        rw [cell_of_row wr p5 0 _ 43 (0, 0) hE.b.h5]; rfl
      go_wp2_with (go_at_call 50; (with_reducible refine (enter_any d ws U R p2 p4 p5 x _ _ y _ HE.out).mono ?_); rintro e w1 ⟨rfl, h1, h2⟩; have HE2 := Lib.hid h1; have HU2 := Lib.hid (HU.out.sts h2); clear h1 h2)
      have HE3 : Hid (Ent d ws U R p2 p4 p5 x (entS d.A.length (d.E x) (l1, l2) ((row d.A i).take (j + 1))).1 (entS d.A.length (d.E x) (l1, l2) ((row d.A i).take (j + 1))).2 w1) := Lib.hid (by rw [HT.out]; exact HE2.out)
      go_roundg ((row d.A i).length - (j + 1))
      case measure => go_light; omega
      case rel => go_light; exact ⟨j + 1, by go_num, by omega, rfl, HU2, HE3⟩
    · have HV : Hid (Ent d ws U R p2 p4 p5 x (entS d.A.length (d.E x) (l1, l2) (row d.A i)).1 (entS d.A.length (d.E x) (l1, l2) (row d.A i)).2 wr) := by
        have := HE.out
        rw [List.take_of_length_le (by omega)] at this
        exact Lib.hid this
      go_wp2
      go_end0
      exact ⟨rfl, HV.out⟩
end Go.Proofs.Ytlmlgdojmcmllaa
