/- The reference's Lay, plainly; the boxes of its walk. -/
import Derived.Test.YteiomcbphbbpkaaDoorHc
import Derived.Test.YteiomcbphbbpkaaDoorEa
namespace Go.Proofs.YteiomcbphbbpkaaDoor
set_option linter.unusedSimpArgs false
set_option linter.unusedVariables false
open Go.RowKit

/-- One member more. -/
def LS.addR (un : Bool) (r : LS) (x : Fd) (S A : Int) : LS :=
  ⟨r.acc ++ [⟨x.nm, x.h, x.ks, if un then 0 else mul r.sz A⟩], min (max r.sz ((if un then 0 else mul r.sz A) + S)) 4194304, max r.al A⟩
/-- The reference's state beside the program's: the same, as long as it is small. -/
structure Rel (s r : LS) : Prop where
  al : r.al = s.al
  len : r.acc.length = s.acc.length
  z0 : 0 ≤ r.sz
  z1 : r.sz ≤ 4194304
  or : (s.sz ≤ 4194304 ∧ r = s) ∨ (4194304 < s.sz ∧ r.sz = 4194304)
theorem Rel.zero : Rel LS.zero LS.zero := ⟨rfl, rfl, by simp [LS.zero], by simp [LS.zero], Or.inl ⟨by simp [LS.zero], rfl⟩⟩
theorem Rel.step {f : Nat → La} {kn : Nat} {un : Bool} {s r : LS} (h : Rel s r) (x : Fd) {S A : Int} (hx : x.size f kn = (S, A)) (s0 : 0 ≤ S) (a0 : 1 ≤ A) (hs : 0 ≤ s.sz) : Rel (s.add f kn un x) (r.addR un x S A) := by
  have e : s.add f kn un x = ⟨s.acc ++ [⟨x.nm, x.h, x.ks, if un = true then 0 else mul s.sz A⟩], max s.sz ((if un = true then 0 else mul s.sz A) + S), max s.al A⟩ := by
    unfold LS.add
    rw [hx]
  have hm := mul_bd r.sz A h.z0 a0
  rw [e]
  refine ⟨by simp only [LS.addR]; rw [h.al], by simp [LS.addR, h.len], ?_, ?_, ?_⟩
  · simp only [LS.addR]; have := h.z0; omega
  · simp only [LS.addR]; omega
  · rcases h.or with ⟨h1, rfl⟩ | ⟨h1, h2⟩
    · by_cases hb : max r.sz ((if un = true then 0 else mul r.sz A) + S) ≤ 4194304
      · refine Or.inl ⟨hb, ?_⟩
        simp only [LS.addR]
        rw [Int.min_eq_left hb]
      · refine Or.inr ⟨by simp only; omega, ?_⟩
        simp only [LS.addR]
        omega
    · refine Or.inr ⟨by simp only; omega, ?_⟩
      simp only [LS.addR]
      omega
/-- What the reference's Lay answers. -/
def LayRR (okk : Nat → Prop) (w : World) (nm : ByteArray) (un : Bool) (r : LS ⊕ (Nat × Int)) (e : Ending) (w' : World) : Prop :=
  Fresh w w' ∧ match r with
  | .inr (i, c) => e = .returned (.tuple #[.agg #[.string ⟨#[]⟩, .bool false, .slice none 0 0, .int .i64 0, .int .i64 0], .int .i64 i, .int .i64 c])
  | .inl s => if 1048576 < mul s.sz s.al then e = .returned (.tuple #[.agg #[.string ⟨#[]⟩, .bool false, .slice none 0 0, .int .i64 0, .int .i64 0], .int .i64 (-1), .int .i64 7]) else
    ∃ fp fc xs, e = .returned (.tuple #[.agg #[.string nm, .bool un, .slice fp s.acc.length fc, .int .i64 (mul s.sz s.al), .int .i64 s.al], .int .i64 (-1), .int .i64 0]) ∧
      w'.ownsRow (w.heap.size + 2) 59 8 (.slice fp s.acc.length fc) s.acc.length xs ∧ Fcells (fun b => b < w.heap.size ∧ okk b) w' s.acc xs
/-- The boxes of the walk. -/
structure LW (okk : Nat → Prop) (w X : World) (nm : ByteArray) (un : Bool) (al : Int) (acc : List Fd) (k : Nat) (fp : Option Addr) (fc : Nat) (xs : List Value) : Prop where
  fr : Fresh w X
  lo : w.heap.size + 2 ≤ X.heap.size
  r : Blk X w.heap.size [.string ⟨#[]⟩, .bool false, .slice none 0 0, .int .i64 0, .int .i64 0]
  l : Blk X (w.heap.size + 1) [.string nm, .bool un, .slice fp k fc, .int .i64 0, .int .i64 al]
  own : X.ownsRow (w.heap.size + 2) 59 8 (.slice fp k fc) k xs
  kids : Fcells (fun b => b < w.heap.size ∧ okk b) X acc xs
theorem LW.later {okk : Nat → Prop} {w X Y : World} {nm : ByteArray} {un : Bool} {al : Int} {acc : List Fd} {k : Nat} {fp : Option Addr} {fc : Nat} {xs : List Value} (h : LW okk w X nm un al acc k fp fc xs) (hf : Fresh X Y) : LW okk w Y nm un al acc k fp fc xs :=
  ⟨h.fr.trans hf, Nat.le_trans h.lo hf.size, h.r.fresh hf, h.l.fresh hf, hf.own h.own, h.kids.later hf⟩
theorem LW.new (okk : Nat → Prop) (w : World) (nm : ByteArray) (un : Bool) : LW okk w ((w.alloc (.cells #[.string ⟨#[]⟩, .bool false, .slice none 0 0, .int .i64 0, .int .i64 0] 36)).alloc (.cells #[.string nm, .bool un, .slice none 0 0, .int .i64 0, .int .i64 1] 36)) nm un 1 [] 0 none 0 [] := by
  refine ⟨(by (repeat' first | with_reducible exact Fresh.refl _ | with_reducible assumption | with_reducible refine Fresh.alloc ?_ _ _ | with_reducible refine Fresh.drew ?_ | with_reducible refine Fresh.drewN ?_ _ | with_reducible refine Fresh.setCell ?_ ?_ _ | with_reducible refine Fresh.trans ?_ (by assumption) | (simp; done) | (simp; omega))), by simp, (Blk.new w #[.string ⟨#[]⟩, .bool false, .slice none 0 0, .int .i64 0, .int .i64 0] 36).fresh ((Fresh.refl _).alloc _ _), ?_, World.ownsRow_nil .., rfl⟩
  have := Blk.new (w.alloc (.cells #[.string ⟨#[]⟩, .bool false, .slice none 0 0, .int .i64 0, .int .i64 0] 36)) #[.string nm, .bool un, .slice none 0 0, .int .i64 0, .int .i64 1] 36
  simpa only [World.size_alloc] using this
/-- The alignment has turned. -/
theorem LW.turn {okk : Nat → Prop} {w X : World} {nm : ByteArray} {un : Bool} {al : Int} {acc : List Fd} {k : Nat} {fp : Option Addr} {fc : Nat} {xs : List Value} (h : LW okk w X nm un al acc k fp fc xs) (A : Int) : LW okk w (X.setCell ⟨w.heap.size + 1, 4, none⟩ (.int .i64 A)) nm un A acc k fp fc xs := by
  have hl := h.l.put (i := 4) (by simp) (.int .i64 A)
  refine ⟨h.fr.setCell (by simp) _, by simpa [World.setCell] using h.lo, h.r.other (by omega) _ _, hl, own_set h.own (fun e => by have := (h.own.lt _ e).1; omega) _ _, h.kids.set (fun e => by have := e.1; omega) _ _⟩
/-- One member more. -/
theorem LW.next {okk : Nat → Prop} {w X Y Z : World} {nm : ByteArray} {un : Bool} {al : Int} {acc : List Fd} {k : Nat} {fp : Option Addr} {fc : Nat} {xs : List Value} (h : LW okk w X nm un al acc k fp fc xs) (hf : Fresh X Y) {x : Fd} {M : Int} {p2 : Option Addr} {n2 c3 g c2 : Nat} (hk : Kids (fun b => b < w.heap.size ∧ okk b) X x.ks p2 n2 c3) (own : Z.ownsRow (w.heap.size + 2) 59 8 (.slice (some ⟨g, 0, none⟩) (k + 1) c2) (k + 1) (xs ++ [.string x.nm, .int .i64 x.h.kind, .int .i64 x.h.size, .int .i64 x.h.len, .bool x.h.flag, .string x.h.name, .slice p2 n2 c3, .int .i64 M])) (gr : Y.grownBy Z (Value.slice fp k fc).ownBlock) :
    LW okk w (Z.setCell ⟨w.heap.size + 1, 2, none⟩ (.slice (some ⟨g, 0, none⟩) (k + 1) c2)) nm un al (acc ++ [⟨x.nm, x.h, x.ks, M⟩]) (k + 1) (some ⟨g, 0, none⟩) c2 (xs ++ [.string x.nm, .int .i64 x.h.kind, .int .i64 x.h.size, .int .i64 x.h.len, .bool x.h.flag, .string x.h.name, .slice p2 n2 c3, .int .i64 M]) := by
  have hY := h.later hf
  have hlt := h.own.lt
  have hne : ∀ b, b < w.heap.size + 2 → some b ≠ (Value.slice fp k fc).ownBlock := fun b hb e => by have := (hlt b e.symm).1; omega
  have kk : Fcells (fun b => b < w.heap.size ∧ okk b) Z (acc ++ [⟨x.nm, x.h, x.ks, M⟩]) (xs ++ [.string x.nm, .int .i64 x.h.kind, .int .i64 x.h.size, .int .i64 x.h.len, .bool x.h.flag, .string x.h.name, .slice p2 n2 c3, .int .i64 M]) := by
    have k1 : Fcells (fun b => b < w.heap.size ∧ okk b) Y (acc ++ [⟨x.nm, x.h, x.ks, M⟩]) (xs ++ [.string x.nm, .int .i64 x.h.kind, .int .i64 x.h.size, .int .i64 x.h.len, .bool x.h.flag, .string x.h.name, .slice p2 n2 c3, .int .i64 M]) := Fcells.append hY.kids ⟨p2, n2, c3, [], rfl, hk.later hf, rfl⟩
    exact k1.turn (fun B i u hB hu => gr.cell (a := ⟨B, i, none⟩) hu (hne B (by have := hB.1; omega))) (fun _ _ hB => hB)
  have hl := (hY.l.grown gr (hne _ (by omega))).put (i := 2) (by simp) (.slice (some ⟨g, 0, none⟩) (k + 1) c2)
  refine ⟨(hY.fr.grown gr (fun b hb => by have := (hlt b hb).1; omega)).setCell (by simp) _, ?_, (hY.r.grown gr (hne _ (by omega))).other (by omega) _ _, hl, own_set own (fun e => by have := (own.lt _ e).1; omega) _ _, kk.set (fun e => by have := e.1; omega) _ _⟩
  have h1 := hY.lo
  have h2 := gr.size
  simp [World.setCell]
  omega
/-- What the loop keeps of the names. -/
def SameN (acc fs : List Fd) (k : Nat) : Prop := acc.map (fun y => y.nm) = (fs.take k).map (fun y => y.nm)
theorem hasN_names {acc : List Fd} {nm : ByteArray} : ∀ {l : List Fd}, acc.map (fun y => y.nm) = l.map (fun y => y.nm) → hasN acc nm = l.any (fun y => y.nm.toList == nm.toList) := by
  intro l h
  have : ∀ m : List Fd, hasN m nm = (m.map (fun y => y.nm)).any (fun b => b.data.toList == nm.data.toList) := fun m => by unfold hasN; rw [List.any_map]; rfl
  rw [this, h, List.any_map]
  congr 1
  funext y
  simp only [Function.comp, ByteArray.toList_eq]
theorem SameN.step {acc fs : List Fd} {k : Nat} (h : SameN acc fs k) {x : Fd} (hx : fs[k]? = some x) (M : Int) : SameN (acc ++ [⟨x.nm, x.h, x.ks, M⟩]) fs (k + 1) := by
  unfold SameN at h ⊢
  rw [List.map_append, h, List.take_add_one, hx]
  simp
end Go.Proofs.YteiomcbphbbpkaaDoor
