/- The tokens of a text, plainly; their state in memory. -/
import Derived.Test.YtcmfmfgedhfaeaaGreatDoorLy
import Derived.Deep.AppendLies
namespace Go.Proofs.YtcmfmfgedhfaeaaGreatDoor
set_option linter.unusedSimpArgs false
set_option linter.unusedVariables false
open Go.RowKit

structure Tk where
  k : Int
  l : Int
  c : Int
  text : ByteArray
  bits : Int
  data : ByteArray
def Tk.cells (t : Tk) : List Value := [.int .i64 t.k, .int .i64 t.l, .int .i64 t.c, .string t.text, .int .u64 t.bits, .string t.data]
def cellsT : List Tk → List Value
  | [] => []
  | t :: r => t.cells ++ cellsT r
theorem cellsT_append : ∀ a b : List Tk, cellsT (a ++ b) = cellsT a ++ cellsT b
  | [], b => rfl
  | t :: r, b => by simp [cellsT, cellsT_append r b]
theorem cellsT_len : ∀ a : List Tk, (cellsT a).length = a.length * 6
  | [] => rfl
  | t :: r => by simp [cellsT, Tk.cells, cellsT_len r]; omega
inductive TR where
  | err (l c e : Int)
  | ok (ts : List Tk)
def TR.app (a : List Tk) : TR → TR
  | .err l c e => .err l c e
  | .ok ts => .ok (a ++ ts)
theorem TR.app_nil (r : TR) : TR.app [] r = r := by cases r <;> rfl
theorem TR.app_app (a b : List Tk) (r : TR) : TR.app a (TR.app b r) = TR.app (a ++ b) r := by cases r <;> simp [TR.app]
def endT (l c : Int) : Tk := ⟨8, l, c, ⟨#[]⟩, 0, ⟨#[]⟩⟩
def tkOf (s : ByteArray) (pos : Nat) (l c : Int) (k n b : Nat) (d : List UInt8) : Tk := ⟨k, l, c, (s.extract pos s.size).extract 0 n, b, ⟨d.toArray⟩⟩
/-- What a piece makes of the rest. -/
def stepT (s : ByteArray) (pos : Nat) (l c : Int) (K : Nat → TR) : PR → TR
  | .err e => .err l c e
  | .tok k n b d => TR.app [tkOf s pos l c k n b d] (K (pos + (tkOf s pos l c k n b d).text.size))
/-- The tokens from a place on; ed: where the last one ends. -/
def piecesF (s : ByteArray) : Nat → Nat → Nat → Int → Int → TR
  | 0, _, _, l, c => .ok [endT l c]
  | f + 1, pos, ed, l, c =>
    if pos < s.size then
      if ed ≤ pos ∧ blankZ (Utf8.decode s pos).1 = false then
        stepT s pos l c (fun e => piecesF s f (pos + (Utf8.decode s pos).2) e (behZ l c (Utf8.decode s pos).1).1 (behZ l c (Utf8.decode s pos).1).2) (pieceL (s.data.toList.drop pos))
      else piecesF s f (pos + (Utf8.decode s pos).2) ed (behZ l c (Utf8.decode s pos).1).1 (behZ l c (Utf8.decode s pos).1).2
    else .ok [endT l c]
theorem piecesF_end (s : ByteArray) (f pos ed : Nat) (l c : Int) (h : ¬ pos < s.size) : piecesF s f pos ed l c = .ok [endT l c] := by
  cases f <;> simp [piecesF, h]
/-- What an error's number is. -/
theorem pieceL_err (x : List UInt8) (e : Nat) (h : pieceL x = .err e) : e = 2 ∨ e = 7 := by
  cases x with
  | nil => simp only [pieceL, PR.err.injEq] at h; exact Or.inl h.symm
  | cons c r =>
    simp only [pieceL] at h
    split at h
    · unfold nameL at h
      split at h
      · simp only [PR.err.injEq] at h; exact Or.inr h.symm
      · split at h <;> cases h
    · split at h
      · unfold numL at h
        split at h
        · cases h
        · split at h
          · cases h
          · simp only [PR.err.injEq] at h; exact Or.inl h.symm
      · split at h
        · unfold charL at h
          split at h
          · simp only [PR.err.injEq] at h; exact Or.inl h.symm
          · split at h
            · simp only [PR.err.injEq] at h; exact Or.inl h.symm
            · cases h
        · split at h
          · unfold textL at h
            split at h
            · simp only [PR.err.injEq] at h; exact Or.inl h.symm
            · split at h
              · simp only [PR.err.injEq] at h; exact Or.inl h.symm
              · cases h
          · unfold signL at h
            split at h
            · simp only [PR.err.injEq] at h; exact Or.inl h.symm
            · cases h
/-- The state in a round: I the iterator's block, A the place's. -/
structure PS (w : World) (A I : Nat) (s : ByteArray) (wr : World) (pos : Nat) (l c : Int) (v : Value) (ts : List Tk) : Prop where
  it : wr.heap[I]? = some (.stringIter s pos)
  at' : Blk wr A [.int .i64 l, .int .i64 c]
  out : Blk wr w.heap.size [.int .i64 0, .int .i64 0]
  own : wr.ownsRow (I + 1) 32 6 v ts.length (cellsT ts)
  fr : Fresh w wr
  lt : w.heap.size < A ∧ A < I
theorem PS.isz {w : World} {A I : Nat} {s : ByteArray} {wr : World} {pos : Nat} {l c : Int} {v : Value} {ts : List Tk} (h : PS w A I s wr pos l c v ts) : I < wr.heap.size := (Array.getElem?_eq_some_iff.1 h.it).1
theorem PS.later {w : World} {A I : Nat} {s : ByteArray} {wr w' : World} {pos : Nat} {l c : Int} {v : Value} {ts : List Tk} (h : PS w A I s wr pos l c v ts) (f : Fresh wr w') : PS w A I s w' pos l c v ts :=
  ⟨(f.below.block _ h.isz).trans h.it, h.at'.fresh f, h.out.fresh f, f.own h.own, h.fr.trans f, h.lt⟩
theorem Blk.same {w w' : World} {b : Nat} {vs : List Value} (h : Blk w b vs) (e : w'.heap[b]? = w.heap[b]?) : Blk w' b vs := by
  refine ⟨fun i v hv => ?_, fun o => ?_, ?_⟩
  · have := h.1 i v hv
    simp only [World.cell?, e] at this ⊢
    exact this
  · have := h.2.1 o
    simp only [World.frozen?, e] at this ⊢
    exact this
  · have h2 := h.2.2
    have : w'.heap[b]? = some (w.heap[b]'h2) := by rw [e, Array.getElem?_eq_getElem h2]
    exact (Array.getElem?_eq_some_iff.1 this).1
/-- A block of the call's own beyond the row is written. -/
theorem PS.set {w : World} {A I : Nat} {s : ByteArray} {wr : World} {pos : Nat} {l c l' c' : Int} {v : Value} {ts : List Tk} (h : PS w A I s wr pos l c v ts) :
    PS w A I s ((wr.setCell ⟨A, 0, none⟩ (.int .i64 l')).setCell ⟨A, 1, none⟩ (.int .i64 c')) pos l' c' v ts := by
  have e : ∀ k, k ≠ A → ((wr.setCell ⟨A, 0, none⟩ (.int .i64 l')).setCell ⟨A, 1, none⟩ (.int .i64 c')).heap[k]? = wr.heap[k]? := fun k hk => by
    rw [Below.heap_setCell _ _ _ _ (by simpa using hk), Below.heap_setCell _ _ _ _ (by simpa using hk)]
  refine ⟨(e I (by have := h.lt; omega)).trans h.it, h.at'.set2 _ _, h.out.same (e _ (by have := h.lt; omega)), ?_, (h.fr.setCell (by have := h.lt; simp; omega) _).setCell (by have := h.lt; simp; omega) _, h.lt⟩
  refine h.own.kept (row := some A) ⟨rfl, rfl, rfl, by simp [World.setCell], fun k _ hk => e k (fun x => hk (by simp [x]))⟩ (Or.inr ?_)
  intro hx
  have := h.own.lt A hx
  have := h.lt
  omega
/-- The next rune is taken. -/
theorem PS.next {w : World} {A I : Nat} {s : ByteArray} {wr : World} {pos : Nat} {l c : Int} {v : Value} {ts : List Tk} (h : PS w A I s wr pos l c v ts) (q : Nat) : PS w A I s (wr.iterAt I s q) q l c v ts := by
  have e : ∀ k, k ≠ I → (wr.iterAt I s q).heap[k]? = wr.heap[k]? := fun k hk => Lib.iterAt_other wr I k s q hk
  have hb : Below I wr (wr.iterAt I s q) := Lib.below_iterAt (Below.refl I wr) (Nat.le_refl _) s q
  refine ⟨Lib.iterAt_heap wr I s pos q h.it, h.at'.same (e A (by have := h.lt; omega)), h.out.same (e _ (by have := h.lt; omega)), ?_, ⟨Lib.below_iterAt h.fr.below (by have := h.lt; omega) s q⟩, h.lt⟩
  refine h.own.kept (row := some I) ⟨hb.os, hb.tape, hb.output, hb.size, fun k _ hk => e k (fun x => hk (by simp [x]))⟩ (Or.inr ?_)
  intro hx
  have := h.own.lt I hx
  omega
/-- The row has grown. -/
theorem PS.grown {w : World} {A I : Nat} {s : ByteArray} {wr w' : World} {pos : Nat} {l c : Int} {v v' : Value} {ts : List Tk} (h : PS w A I s wr pos l c v ts) (t : Tk) (hown : w'.ownsRow (I + 1) 32 6 v' (ts.length + 1) (cellsT ts ++ t.cells)) (hg : wr.grownBy w' v.ownBlock) : PS w A I s w' pos l c v' (ts ++ [t]) := by
  have e : ∀ k, k < I + 1 → w'.heap[k]? = wr.heap[k]? := fun k hk => hg.block k (by have := h.isz; omega) (fun x => by have := (h.own.lt k x.symm).1; omega)
  refine ⟨(e I (by omega)).trans h.it, h.at'.same (e A (by have := h.lt; omega)), h.out.same (e _ (by have := h.lt; omega)), by rw [cellsT_append]; simpa [cellsT] using hown, h.fr.grown hg (fun k hk => by have := (h.own.lt k hk).1; have := h.lt; omega), h.lt⟩
/-- A block beyond the others is written. -/
theorem PS.put {w : World} {A I : Nat} {s : ByteArray} {wr : World} {pos : Nat} {l c : Int} {v : Value} {ts : List Tk} (h : PS w A I s wr pos l c v ts) (b : Nat) (hb : I < b) (hv : v.ownBlock ≠ some b) (o : Nat) (x : Value) :
    PS w A I s (wr.setCell ⟨b, o, none⟩ x) pos l c v ts := by
  have e : ∀ k, k ≠ b → (wr.setCell ⟨b, o, none⟩ x).heap[k]? = wr.heap[k]? := fun k hk => Below.heap_setCell _ _ _ _ (by simpa using hk)
  refine ⟨(e I (by omega)).trans h.it, h.at'.same (e A (by have := h.lt; omega)), h.out.same (e _ (by have := h.lt; omega)), ?_, h.fr.setCell (by have := h.lt; simp; omega) _, h.lt⟩
  exact h.own.kept (row := some b) ⟨rfl, rfl, rfl, by simp [World.setCell], fun k _ hk => e k (fun x => hk (by simp [x]))⟩ (Or.inr hv)
theorem info32 : (Tryz.prog.info? 32).map (fun i => (i.zero, i.size, i.bytes)) = some (some (.agg #[.int .i64 0, .int .i64 0, .int .i64 0, .string ⟨#[]⟩, .int .u64 0, .string ⟨#[]⟩]), 6, 64) := by kernel_rfl
end Go.Proofs.YtcmfmfgedhfaeaaGreatDoor
