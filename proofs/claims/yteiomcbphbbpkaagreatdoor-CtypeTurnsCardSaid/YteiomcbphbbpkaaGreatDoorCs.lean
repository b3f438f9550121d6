/- Layouts in memory; where the one of a name stands. -/
import Derived.Test.YteiomcbphbbpkaaGreatDoorCr
namespace Go.Proofs.YteiomcbphbbpkaaGreatDoor
set_option linter.unusedSimpArgs false
set_option linter.unusedVariables false
open Go.RowKit

/-- A layout's cells. -/
structure La where
  nm : ByteArray
  un : Bool
  p : Option Addr
  n : Nat
  cap : Nat
  sz : Int
  al : Int
def LaAt (w : World) (B off : Nat) (l : La) : Prop := w.cell? ⟨B, off, none⟩ = some (.string l.nm) ∧ w.cell? ⟨B, off + 1, none⟩ = some (.bool l.un) ∧ w.cell? ⟨B, off + 2, none⟩ = some (.slice l.p l.n l.cap) ∧ w.cell? ⟨B, off + 3, none⟩ = some (.int .i64 l.sz) ∧ w.cell? ⟨B, off + 4, none⟩ = some (.int .i64 l.al)
theorem LaAt.later {w w' : World} {B off : Nat} {l : La} (h : LaAt w B off l) (hf : Fresh w w') : LaAt w' B off l := ⟨hf.at' h.1, hf.at' h.2.1, hf.at' h.2.2.1, hf.at' h.2.2.2.1, hf.at' h.2.2.2.2⟩
def LaysAt (w : World) (p : Option Addr) (n : Nat) (f : Nat → La) : Prop := n = 0 ∨ ∃ B off, p = some ⟨B, off, none⟩ ∧ ∀ i, i < n → LaAt w B (off + i * 5) (f i)
theorem LaysAt.later {w w' : World} {p : Option Addr} {n : Nat} {f : Nat → La} (h : LaysAt w p n f) (hf : Fresh w w') : LaysAt w' p n f := by
  rcases h with h | ⟨B, off, e, h⟩
  · exact Or.inl h
  · exact Or.inr ⟨B, off, e, fun i hi => (h i hi).later hf⟩
theorem nameIs_any (l : La) (nm : ByteArray) (b : Nat) (t : Bool) (ht : (l.nm.toList == nm.toList) = t) (w : World) (hb : w.cell? ⟨b, 0, none⟩ = some (.string nm)) :
    Calls Tryz.prog 61 #[.agg #[.string l.nm, .bool l.un, .slice l.p l.n l.cap, .int .i64 l.sz, .int .i64 l.al], .pointer (some ⟨b, 0, none⟩)] w fun e w' => e = .returned (.bool t) ∧ Fresh w w' := by
  have z := cell_lt hb
  simp only at z
  have HT := Lib.hid ht
  clear ht
  go_enter Tryz.func61, Tryz.ntmps61
  go_wp2
  go_returns
  exact ⟨ret_bool (by rw [← HT.out]), (by (repeat' first | with_reducible exact Fresh.refl _ | with_reducible assumption | with_reducible refine Fresh.alloc ?_ _ _ | with_reducible refine Fresh.drew ?_ | with_reducible refine Fresh.drewN ?_ _ | with_reducible refine Fresh.setCell ?_ ?_ _ | with_reducible refine Fresh.trans ?_ (by assumption) | (simp; done) | (simp; omega)))⟩
/-- Where the first layout of the name stands; -1: there is none. -/
def IsPos (f : Nat → La) (n : Nat) (nm : ByteArray) (r : Int) : Prop :=
  (∃ i : Nat, i < n ∧ r = i ∧ ((f i).nm.toList == nm.toList) = true ∧ ∀ j, j < i → ((f j).nm.toList == nm.toList) = false) ∨ (r = -1 ∧ ∀ j, j < n → ((f j).nm.toList == nm.toList) = false)
set_option maxHeartbeats 2000000 in
theorem index_any (f : Nat → La) (p : Option Addr) (n cap b : Nat) (nm : ByteArray) (w : World) (hn : n ≤ cap) (hm : cap ≤ maxLen) (hl : LaysAt w p n f) (hb : w.cell? ⟨b, 0, none⟩ = some (.string nm)) :
    Calls Tryz.prog 60 #[.slice p n cap, .func (.func 61) #[] #[.pointer (some ⟨b, 0, none⟩)]] w fun e w' => (∃ r : Int, e = .returned (.int .i64 r) ∧ IsPos f n nm r) ∧ Fresh w w' := by
  unfold maxLen at hm
  have HL := Lib.hid hl
  have HB := Lib.hid hb
  clear hl hb
  go_enter Tryz.func60, Tryz.ntmps60
  go_wp2_with fail
  go_loopw [8] (fun i wr => ∃ k : Nat, k ≤ n ∧ i = .int .i64 k ∧ Hid (Fresh w wr) ∧ Hid (∀ j, j < k → ((f j).nm.toList == nm.toList) = false)) (fun i _ => n - (intOf i).toNat)
  case atStart => exact ⟨0, by omega, rfl, Lib.hid (Fresh.refl w), Lib.hid (fun j hj => by omega)⟩
  case round =>
    obtain ⟨k, hk, rfl, HF, HS⟩ := hrel
    by_cases hlt : k < n
    · obtain ⟨B, off, rfl, hc⟩ := HL.out.resolve_left (by omega)
      obtain ⟨c0, c1, c2, c3, c4⟩ := (hc k hlt).later HF.out
      have z0 := cell_lt c0
      simp only at z0
      clear hc
      have hlt' : (k : Int) < (n : Int) := by omega
      cases ht : (f k).nm.toList == nm.toList
      · have HT := Lib.hid ht
        clear ht
        go_wp2_with fail
        go_at_call 61; refine (nameIs_any (f k) nm b false HT.out _ (HF.out.at' HB.out)).mono ?_; rintro e w1 ⟨rfl, h1⟩
        go_wp2_with fail
        go_roundw
        case rel => exact ⟨k + 1, by omega, by go_num, Lib.hid (HF.out.trans h1), Lib.hid (fun j hj => by
          by_cases q : j = k
          · rw [q]; exact HT.out
          · exact HS.out j (by omega))⟩
        case measure => simp [intOf]; omega
      · have HT := Lib.hid ht
        clear ht
        go_wp2_with fail
        go_at_call 61; refine (nameIs_any (f k) nm b true HT.out _ (HF.out.at' HB.out)).mono ?_; rintro e w1 ⟨rfl, h1⟩
        go_wp2_with fail
        go_returns
        exact ⟨⟨_, rfl, Or.inl ⟨k, hlt, rfl, HT.out, HS.out⟩⟩, HF.out.trans h1⟩
    · obtain rfl : k = n := by omega
      go_wp2_with fail
      go_returns
      exact ⟨⟨_, rfl, Or.inr ⟨rfl, HS.out⟩⟩, HF.out⟩
theorem position_any (f : Nat → La) (p : Option Addr) (n cap : Nat) (nm : ByteArray) (w0 w : World) (hf : Fresh w0 w) (hn : n ≤ cap) (hm : cap ≤ maxLen) (hl : LaysAt w0 p n f) :
    Calls Tryz.prog 34 #[.slice p n cap, .string nm] w fun e w' => (∃ r : Int, e = .returned (.int .i64 r) ∧ IsPos f n nm r) ∧ Fresh w w' := by
  have HL := Lib.hid (hl.later hf)
  clear hl hf
  go_enter Tryz.func34, Tryz.ntmps34
  go_wp2_with fail
  go_at_call 60; refine (index_any f p n cap w.heap.size nm _ hn hm (HL.out.later (by (repeat' first | with_reducible exact Fresh.refl _ | with_reducible assumption | with_reducible refine Fresh.alloc ?_ _ _ | with_reducible refine Fresh.drew ?_ | with_reducible refine Fresh.drewN ?_ _ | with_reducible refine Fresh.setCell ?_ ?_ _ | with_reducible refine Fresh.trans ?_ (by assumption) | (simp; done) | (simp; omega)))) (by simp [go_sem])).mono ?_; rintro e w1 ⟨⟨r, rfl, hr⟩, h1⟩
  have HR := Lib.hid hr
  clear hr
  go_wp2_with fail
  go_returns
  exact ⟨⟨_, rfl, HR.out⟩, (by (repeat' first | with_reducible exact Fresh.refl _ | with_reducible assumption | with_reducible refine Fresh.alloc ?_ _ _ | with_reducible refine Fresh.drew ?_ | with_reducible refine Fresh.drewN ?_ _ | with_reducible refine Fresh.setCell ?_ ?_ _ | with_reducible refine Fresh.trans ?_ (by assumption) | (simp; done) | (simp; omega)))⟩
end Go.Proofs.YteiomcbphbbpkaaGreatDoor
