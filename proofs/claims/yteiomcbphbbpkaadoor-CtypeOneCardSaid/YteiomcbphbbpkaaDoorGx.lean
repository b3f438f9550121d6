/- How deep types nest, and how they are written: plain functions, and their bounds for types that are made. -/
import Derived.Test.YteiomcbphbbpkaaDoorFx
import Derived.Lib.ItoaLen
import Derived.Test.YteiomcbphbbpkaaDoorEd
import Derived.Lib.OthersKept
import Derived.Deep.DeepAppendWide
namespace Go.Proofs.YteiomcbphbbpkaaDoor
set_option linter.unusedSimpArgs false
set_option linter.unusedVariables false
open Go.RowKit

def depT (h : Hd) (D : Nat) : Nat := if h.kind = 0 then 0 else if h.kind = 4 ∨ h.kind = 5 ∨ h.kind = 7 then D + 1 else 1
def Tys.dep : Tys → Nat
  | .nil => 0
  | .cons h k r => max (depT h k.dep) r.dep
theorem Tys.dep_append : ∀ a b : Tys, (a.append b).dep = max a.dep b.dep
  | .nil, b => by simp [Tys.append, Tys.dep]
  | .cons h k r, b => by simp only [Tys.append, Tys.dep, Tys.dep_append r b]; omega
theorem params_dep {f : Nat → Mk} {D : Nat} (hf : ∀ i, depT (f i).h (f i).ks.dep ≤ D) : ∀ c j, (params f c j).1.dep ≤ D
  | 0, _ => Nat.zero_le _
  | c + 1, j => by
    simp only [params, Tys.dep_append, Tys.dep]
    have h1 := params_dep hf c j
    have h2 := hf (params f c j).2
    omega
theorem depT_le (h : Hd) (D : Nat) : depT h D ≤ D + 1 := by unfold depT; (repeat' split) <;> omega
theorem mkT_dep (zs : Nat → Int) (n : Nat) : ∀ d i, depT (mkT zs n d i).h (mkT zs n d i).ks.dep ≤ d
  | 0, _ => by simp [mkT, depT, Hd.zero]
  | d + 1, i => by
    have ih := mkT_dep zs n d
    unfold mkT mkS
    split
    · simp [depT, Hd.zero]
    · repeat' split
      all_goals (try dsimp only)
      all_goals first
        | (simp [depT, Hd.zero, hd1, numHd]; done)
        | (refine Nat.le_trans (depT_le _ _) (Nat.succ_le_succ ?_); simp only [Tys.dep]; have := ih (i + 1); omega)
        | skip
      unfold mkM
      repeat' split
      all_goals (try dsimp only)
      all_goals first
        | (simp [depT, recHd]; done)
        | (refine Nat.le_trans (depT_le _ _) (Nat.succ_le_succ ?_); simp only [Tys.dep]; have := ih (i + 2); first | omega | (have h2 := params_dep ih (min (zs (i + 1)).toNat 8) (mkT zs n d (i + 2)).j; omega))
/-- How a number is written. -/
def numTxt (s : Int) (u : Bool) : List UInt8 :=
  if s = 1 then (if u then [117, 110, 115, 105, 103, 110, 101, 100, 32] else []) ++ [99, 104, 97, 114]
  else if s = 2 then (if u then [117, 110, 115, 105, 103, 110, 101, 100, 32] else []) ++ [115, 104, 111, 114, 116]
  else if s = 4 then (if u then [117, 110, 115, 105, 103, 110, 101, 100, 32] else []) ++ [105, 110, 116]
  else if s = 8 then (if u then [117, 110, 115, 105, 103, 110, 101, 100, 32] else []) ++ [108, 111, 110, 103]
  else [63]
def recTxt (nm : ByteArray) (u : Bool) : List UInt8 := (if u then [117, 110, 105, 111, 110, 32] else [115, 116, 114, 117, 99, 116, 32]) ++ nm.data.toList
/-- Rows of texts, with commas between. -/
def joinF : Bool → List (List UInt8) → List UInt8
  | _, [] => []
  | true, t :: r => t ++ joinF false r
  | false, t :: r => [44, 32] ++ t ++ joinF false r
def hdL (L : List (List UInt8)) : List UInt8 := L.headD [63]
/-- How a type is written, from how its parts are. -/
def txtT (h : Hd) (L : List (List UInt8)) : List UInt8 :=
  if h.kind = 1 then [118, 111, 105, 100]
  else if h.kind = 2 then numTxt h.size h.flag
  else if h.kind = 3 then [100, 111, 117, 98, 108, 101]
  else if h.kind = 4 then hdL L ++ [42]
  else if h.kind = 5 then hdL L ++ ([91] ++ Lib.itoa h.len ++ [93])
  else if h.kind = 6 then recTxt h.name h.flag
  else if h.kind = 7 then hdL L ++ [40] ++ joinF true L.tail ++ [41]
  else [63]
def Tys.txts : Tys → List (List UInt8)
  | .nil => []
  | .cons h k r => txtT h k.txts :: r.txts
theorem Tys.txts_append : ∀ a b : Tys, (a.append b).txts = a.txts ++ b.txts
  | .nil, b => rfl
  | .cons h k r, b => by simp only [Tys.append, Tys.txts, Tys.txts_append r b, List.cons_append]
theorem txt4 (a : Hd) (k : Tys) : txtT (hd1 4) (Tys.cons a k .nil).txts = txtT a k.txts ++ [42] := rfl
theorem txt5 (l : Int) (a : Hd) (k : Tys) : txtT (arrHd l) (Tys.cons a k .nil).txts = txtT a k.txts ++ ([91] ++ Lib.itoa l ++ [93]) := rfl
theorem txt7 (a : Hd) (k r : Tys) : txtT (hd1 7) (Tys.cons a k r).txts = txtT a k.txts ++ [40] ++ joinF true r.txts ++ [41] := rfl
/-- The lengths of texts. -/
def sumL : List (List UInt8) → Nat
  | [] => 0
  | t :: r => t.length + 2 + sumL r
theorem sumL_append : ∀ a b, sumL (a ++ b) = sumL a + sumL b
  | [], b => by simp [sumL]
  | t :: r, b => by simp only [List.cons_append, sumL, sumL_append r b]; omega
theorem joinF_len : ∀ f L, (joinF f L).length ≤ sumL L
  | _, [] => by simp [joinF]
  | true, t :: r => by have := joinF_len false r; simp only [joinF, sumL, List.length_append]; omega
  | false, t :: r => by have := joinF_len false r; simp only [joinF, sumL, List.length_append, List.length_cons, List.length_nil]; omega
theorem joinF_len2 : ∀ L, L ≠ [] → (joinF true L).length + 2 ≤ sumL L
  | [], h => absurd rfl h
  | t :: r, _ => by have := joinF_len false r; simp only [joinF, sumL, List.length_append]; omega
theorem numTxt_len (s : Int) (u : Bool) : (numTxt s u).length ≤ 14 := by
  unfold numTxt
  cases u <;> (repeat' split) <;> simp
/-- Lengths are ints. -/
def HdL (h : Hd) : Prop := -9223372036854775808 ≤ h.len ∧ h.len ≤ 9223372036854775807
def Tys.lens : Tys → Prop
  | .nil => True
  | .cons h k r => (HdL h ∧ k.lens) ∧ r.lens
theorem Tys.lens_append : ∀ {a b : Tys}, a.lens → b.lens → (a.append b).lens
  | .nil, _, _, h => h
  | .cons _ _ _, _, h, k => ⟨h.1, Tys.lens_append h.2 k⟩
theorem params_lens {f : Nat → Mk} (hf : ∀ i, HdL (f i).h ∧ (f i).ks.lens) : ∀ c j, (params f c j).1.lens
  | 0, _ => trivial
  | c + 1, j => Tys.lens_append (params_lens hf c j) ⟨hf _, trivial⟩
theorem HdL.lit (k s : Int) (f : Bool) (nm : ByteArray) : HdL ⟨k, s, 0, f, nm⟩ := ⟨by simp, by simp⟩
theorem mkT_lens (zs : Nat → Int) (n : Nat) (hz : ∀ i, -9223372036854775808 ≤ zs i ∧ zs i ≤ 9223372036854775807) : ∀ d i, HdL (mkT zs n d i).h ∧ (mkT zs n d i).ks.lens
  | 0, _ => ⟨HdL.lit _ _ _ _, trivial⟩
  | d + 1, i => by
    have ih := mkT_lens zs n hz d
    unfold mkT mkS
    split
    · exact ⟨HdL.lit _ _ _ _, trivial⟩
    · repeat' split
      all_goals first | exact ⟨HdL.lit _ _ _ _, trivial⟩ | exact ⟨HdL.lit _ _ _ _, ih _, trivial⟩ | skip
      unfold mkM
      repeat' split
      all_goals first | exact ⟨HdL.lit _ _ _ _, trivial⟩ | exact ⟨HdL.lit _ _ _ _, ih _, params_lens ih _ _⟩ | exact ⟨hz _, ih _, trivial⟩
theorem nameOf_len (m : Int) : (nameOf m).data.toList.length ≤ 1 := by
  obtain ⟨b0, b1⟩ := nmI_bd m
  unfold nameOf
  rw [Array.length_toList]
  show (alpha.extract (nmI m).toNat (nmI m + 1).toNat).size ≤ 1
  rw [ByteArray.size_extract]
  omega
theorem mkM_txt (zs : Nat → Int) (n : Nat) (hz : ∀ i, -9223372036854775808 ≤ zs i ∧ zs i ≤ 9223372036854775807) (d i : Nat) (hi2 : i + 2 ≤ n) (hle : ∀ i, i ≤ n → (mkT zs n d i).j ≤ n)
    (ih : ∀ i, i ≤ n → 5 * (txtT (mkT zs n d i).h (mkT zs n d i).ks.txts).length + 64 * i ≤ 6 + 64 * (mkT zs n d i).j ∧ i ≤ (mkT zs n d i).j)
    (hp : ∀ c j, j ≤ n → 5 * sumL (params (mkT zs n d) c j).1.txts + 64 * j ≤ 16 * c + 64 * (params (mkT zs n d) c j).2 ∧ j ≤ (params (mkT zs n d) c j).2) :
    5 * (txtT (mkM (mkT zs n d) (zs i) (zs (i + 1)) (i + 2)).h (mkM (mkT zs n d) (zs i) (zs (i + 1)) (i + 2)).ks.txts).length + 64 * i ≤ 6 + 64 * (mkM (mkT zs n d) (zs i) (zs (i + 1)) (i + 2)).j ∧ i ≤ (mkM (mkT zs n d) (zs i) (zs (i + 1)) (i + 2)).j := by
  obtain ⟨h1, h2⟩ := ih (i + 2) (by omega)
  unfold mkM
  repeat' split
  all_goals (try dsimp only)
  · refine ⟨?_, by omega⟩
    have h5 := Lib.itoa_length_le (zs (i + 1)) (hz _).1 (hz _).2
    rw [txt5]
    simp only [List.length_append, List.length_cons, List.length_nil]
    omega
  · refine ⟨?_, by omega⟩
    have h5 := nameOf_len (zs (i + 1))
    simp only [txtT, recHd, recTxt]
    simp at h5 ⊢
    omega
  · refine ⟨?_, by omega⟩
    have h5 := nameOf_len (zs (i + 1))
    simp only [txtT, recHd, recTxt]
    simp at h5 ⊢
    omega
  · obtain ⟨h3, h4⟩ := hp (min (zs (i + 1)).toNat 8) (mkT zs n d (i + 2)).j (hle _ (by omega))
    have h6 : min (zs (i + 1)).toNat 8 ≤ 8 := Nat.min_le_right _ _
    refine ⟨?_, by omega⟩
    rw [txt7]
    simp only [List.length_append, List.length_cons, List.length_nil]
    generalize (params (mkT zs n d) (min (zs (i + 1)).toNat 8) (mkT zs n d (i + 2)).j).1.txts = L at *
    by_cases hL : L = []
    · subst hL
      simp only [joinF, List.length_nil]
      omega
    · have h5 := joinF_len2 L hL
      omega
/-- The length of what is written is told by how many numbers it is made of. -/
theorem mkT_txt (zs : Nat → Int) (n : Nat) (hz : ∀ i, -9223372036854775808 ≤ zs i ∧ zs i ≤ 9223372036854775807) : ∀ d i, i ≤ n → 5 * (txtT (mkT zs n d i).h (mkT zs n d i).ks.txts).length + 64 * i ≤ 6 + 64 * (mkT zs n d i).j ∧ i ≤ (mkT zs n d i).j
  | 0, i, hi => by
    simp only [mkT]
    refine ⟨?_, hi⟩
    simp only [txtT, Hd.zero]
    simp
    omega
  | d + 1, i, hi => by
    have ih := mkT_txt zs n hz d
    have hle := mkT_le zs n d
    have hp : ∀ c j, j ≤ n → 5 * sumL (params (mkT zs n d) c j).1.txts + 64 * j ≤ 16 * c + 64 * (params (mkT zs n d) c j).2 ∧ j ≤ (params (mkT zs n d) c j).2 := by
      intro c
      induction c with
      | zero => intro j hj; simp [params, Tys.txts, sumL]
      | succ c ihc =>
        intro j hj
        obtain ⟨h1, h2⟩ := ihc j hj
        obtain ⟨h3, h4⟩ := ih (params (mkT zs n d) c j).2 (params_le hle _ _ hj)
        simp only [params, Tys.txts_append, sumL_append, Tys.txts, sumL]
        omega
    unfold mkT mkS
    split
    · refine ⟨?_, by dsimp only; omega⟩
      simp only [txtT, Hd.zero]
      simp
      omega
    · split
      · refine ⟨?_, by dsimp only; omega⟩
        simp only [txtT, hd1]
        simp
        omega
      · split
        · refine ⟨?_, by dsimp only; omega⟩
          rename_i hk
          have h5 := numTxt_len (if zs i ≤ 2 then 1 else if zs i ≤ 4 then 2 else if zs i ≤ 6 then 4 else 8) (zs i % 2 == 0)
          have e : txtT (numHd (if zs i ≤ 2 then 1 else if zs i ≤ 4 then 2 else if zs i ≤ 6 then 4 else 8) (zs i % 2 == 0)) (Tys.nil).txts = numTxt (if zs i ≤ 2 then 1 else if zs i ≤ 4 then 2 else if zs i ≤ 6 then 4 else 8) (zs i % 2 == 0) := rfl
          dsimp only
          rw [e]
          omega
        · split
          · refine ⟨?_, by dsimp only; omega⟩
            simp only [txtT, hd1]
            simp
            omega
          · split
            · obtain ⟨h1, h2⟩ := ih (i + 1) (by omega)
              refine ⟨?_, by dsimp only; omega⟩
              rw [txt4]
              simp only [List.length_append, List.length_cons, List.length_nil]
              omega
            · split
              · exact mkM_txt zs n hz d i (by omega) hle ih hp
              · split
                · refine ⟨?_, by dsimp only; omega⟩
                  simp only [txtT, numHd, numTxt]
                  simp
                  omega
                · refine ⟨?_, by dsimp only; omega⟩
                  simp only [txtT, Hd.zero]
                  simp
                  omega
end Go.Proofs.YteiomcbphbbpkaaDoor
/- A builder of the call's own: what it leaves as it is. -/
namespace Go.Proofs.YteiomcbphbbpkaaDoor
set_option linter.unusedSimpArgs false
set_option linter.unusedVariables false
open Go.RowKit
open World (ownsRowF_of)

/-- A block of cells of this type. -/
def Box (w : World) (c : Nat) (t : TypeId) (cs : Array Value) : Prop := w.heap[c]? = some (.cells cs t (0, 0))
theorem Box.new (w : World) (cs : Array Value) (t : TypeId) : Box (w.alloc (.cells cs t)) w.heap.size t cs := heap_alloc_new w _
theorem Box.lt {w : World} {c : Nat} {t : TypeId} {cs : Array Value} (h : Box w c t cs) : c < w.heap.size := (Array.getElem?_eq_some_iff.1 h).1
theorem Box.kept {w w' : World} {c b : Nat} {t : TypeId} {cs : Array Value} (h : Box w c t cs) (k : Lib.OthersKept 5 (some b) w w') (hb : c ≠ b) (ht : t ≠ 5) : Box w' c t cs :=
  k c _ h (fun e => hb (Option.some.inj e)) (fun _ _ e => ht (by injection e))
theorem Box.fresh {w w' : World} {c : Nat} {t : TypeId} {cs : Array Value} (h : Box w c t cs) (hf : Fresh w w') : Box w' c t cs := (hf.below.block c h.lt).trans h
theorem Box.blk {w : World} {c : Nat} {t : TypeId} {cs : Array Value} (h : Box w c t cs) : Blk w c cs.toList :=
  ⟨fun i v hv => by rw [Lib.cell_of_heap h]; simpa using hv, fun o => Lib.frozen_of_heap h o, h.lt⟩
theorem fresh_kept {w w' : World} (h : Fresh w w') (e : TypeId) (b : Option Nat) : Lib.OthersKept e b w w' := fun k o hk _ _ => by
  have hlt : k < w.heap.size := (Array.getElem?_eq_some_iff.1 hk).1
  exact (h.below.block k hlt).trans hk
/-- A row of bytes in a new block. -/
theorem new_row {w : World} {R need cap : Nat} {xs : List Value} (hx : xs.length = need) (hR : R ≤ w.heap.size) (hc : need ≤ cap) (hm : cap ≤ maxLen) :
    (w.alloc (.cells (xs.toArray ++ Builtin.zeroCells (Value.int .u8 0).cells (cap - need)) 5)).ownsRow R 5 1 (.slice (some ⟨w.heap.size, 0, none⟩) need cap) need xs := by
  refine ⟨by simpa using hx, Or.inr ⟨w.heap.size, cap, _, rfl, hR, heap_alloc_new w _, hc, hm, ?_, ?_⟩⟩
  · have h1 : (Value.int IntKind.u8 0).cells.size = 1 := rfl
    rw [Array.size_append, size_zeroCells, h1, List.size_toArray, hx]
    omega
  · rw [Array.toList_append, Nat.mul_one, ← hx]
    exact List.take_left
theorem run_str_wide (R : Nat) (ty : TypeId) (v : Value) (n : Nat) (xs : List Value) (w : World) (hown : w.ownsRow R 5 1 v n xs) (s : ByteArray) (hfit : n + s.size + (n + s.size) / 4 + 192 ≤ 281474976710656) (hR : R ≤ w.heap.size) :
    ∃ v' w', (Builtin.append_ #[90, 9] ty #[v, .string s]).run Tryd.prog w = .ok v' w' ∧ w'.ownsRow R 5 1 v' (n + s.size) (xs ++ Lib.strCells s) ∧ w.grownBy w' v.ownBlock := by
  obtain ⟨i0, hi, hz0, hz1, hz2⟩ := info_parts info5
  have hm : n + s.size ≤ maxLen := by unfold maxLen; omega
  rcases Nat.lt_or_ge 140737488355328 (n + s.size) with big | small
  · have hxl : xs.length = n := by simpa using hown.1
    have hl : (xs ++ Lib.strCells s).length = n + s.size := by rw [List.length_append, hxl, Lib.strCells_length]
    have made : ∀ old, (w.drew.alloc (.cells (xs.toArray ++ (Lib.strCells s).toArray ++ Builtin.zeroCells (Value.int .u8 0).cells (grownCap w (n + s.size) old 5 - (n + s.size))) 5)).ownsRow R 5 1 (.slice (some ⟨w.heap.size, 0, none⟩) (n + s.size) (grownCap w (n + s.size) old 5)) (n + s.size) (xs ++ Lib.strCells s) := fun old => by
      have := new_row (w := w.drew) (R := R) (need := n + s.size) (cap := grownCap w (n + s.size) old 5) hl hR (grownCap_ge w _ old 5) (grownCap_le_maxLen w _ old 5 hm)
      rw [show (xs ++ Lib.strCells s).toArray = xs.toArray ++ (Lib.strCells s).toArray from Array.ext' (by simp)] at this
      exact this
    have keeps : ∀ (o : Obj) (row : Option Nat), w.grownBy (w.drew.alloc o) row := fun o row => ⟨rfl, rfl, rfl, by simp, fun k hk _ => Lib.alloc_old w.drew o k hk⟩
    rcases hown.2 with ⟨rfl, rfl⟩ | ⟨g, cap, cur, rfl, hbg, hg, hnc, hcm, hcs, htake⟩
    · obtain rfl : xs = [] := List.eq_nil_of_length_eq_zero hxl
      have hr := run_append_nil_string (P := Tryd.prog) w 90 9 ty 5 i0 (.int .u8 0) Tryd.underlying90 Tryd.underlying9 hi hz0 s (by omega) (by omega) (by rw [hz2]; omega)
      have hc : (s.data.map fun b => Value.int .u8 b.toNat) = (Lib.strCells s).toArray := Array.ext' (by simp [Lib.strCells])
      have mk := made 0
      rw [hc] at hr
      simp only [Nat.zero_add, List.nil_append, Array.empty_append] at mk ⊢
      exact ⟨_, _, hr, mk, keeps _ _⟩
    · by_cases room : n + s.size ≤ cap
      · have hcz : cur.size = cap := by simpa using hcs
        have htk : cur.toList.take n = xs := by simpa using htake
        have hr := Lib.run_append_room_string (P := Tryd.prog) w 90 9 ty 5 i0 Tryd.underlying90 Tryd.underlying9 hi hz1 g n cap cur hg s room (by omega)
        refine ⟨_, _, hr, ⟨by rw [hl, Nat.mul_one], Or.inr ⟨g, cap, _, rfl, hbg, setRow_heap w g cur _ 5 _ hg, room, hcm, ?_, ?_⟩⟩, ⟨rfl, rfl, rfl, by simp, fun k _ hk => setRow_other w g k _ (fun e => hk (by rw [e]; rfl))⟩⟩
        · rw [List.size_toArray, List.length_append, List.length_append, List.length_take, List.length_drop, Array.length_toList, Lib.strCells_length]
          omega
        · rw [htk, Nat.mul_one, ← hl]
          exact List.take_left
      · have hr := Lib.run_append_grow_string (P := Tryd.prog) w 90 9 ty 5 i0 (.int .u8 0) Tryd.underlying90 Tryd.underlying9 hi hz0 ⟨g, 0, none⟩ n cap xs (by rw [hz1]; simpa using hxl) (hown.cells (g := g) rfl) s (by omega) (by omega) (by rw [hz2]; exact growslice_fits_wide (by omega) (by omega))
        exact ⟨_, _, hr, made cap, keeps _ _⟩
  · obtain ⟨v', w', h1, h2, h3, -⟩ := Lib.run_append_own_string (P := Tryd.prog) w R 90 9 ty 5 i0 Tryd.underlying90 Tryd.underlying9 hi hz0 hz1 hz2 v n xs hown s hm small hR
    exact ⟨v', w', h1, h2, h3⟩
theorem wp_str_wide {ops : Array Oper} {rest : List Oper} {o : Oper} {a : Act} {Q : Exit → Act → World → Prop} {w : World} (hgd : o.guard = none) (sl x : Operand) (ho : o.op = .call { callee := .builtin .append, args := #[sl, x], argTypes := #[90, 9] })
    (R : Nat) (v : Value) (n : Nat) (xs : List Value) (hs : a.eval sl = v) (hown : w.ownsRow R 5 1 v n xs) (s : ByteArray) (hx : a.eval x = .string s) (hfit : n + s.size + (n + s.size) / 4 + 192 ≤ 281474976710656) (hR : R ≤ w.heap.size)
    (h : ∀ v' w', w'.ownsRow R 5 1 v' (n + s.size) (xs ++ Lib.strCells s) → w.grownBy w' v.ownBlock → wpList Tryd.prog ops Q rest (a.put o.dst v') w') : wpList Tryd.prog ops Q (o :: rest) a w := by
  refine wpList_plain hgd fun K hK => ?_
  obtain ⟨v', w', hr, h2, h3⟩ := run_str_wide R o.type v n xs w hown s hfit hR
  unfold Oper.wp execOp
  simp only [ho, resolve, invoke, builtin, Sem.run_bind, Sem.run_pure, Result.andThen_ok, List.map_toArray, List.map_cons, List.map_nil, hs, hx, hr]
  exact hK _ _ (h v' w' h2 h3)
theorem check_k (R b : Nat) (bs : List Value) (w : World) (h : Bld R b bs w) :
    Calls Tryd.prog 91 #[.pointer (some ⟨b, 0, none⟩)] w fun e w' => e = .returned (.tuple #[]) ∧ (∃ v, w'.heap[b]? = some (.cells #[.pointer (some ⟨b, 0, none⟩), v] 92 (0, 0)) ∧ w'.ownsRow R 5 1 v bs.length bs ∧ v.ownBlock ≠ some b) ∧ Kp R b w w' ∧ Lib.OthersKept 5 (some b) w w' := by
  obtain ⟨p, v, hp, hb, hown, hne⟩ := h
  rcases hp with rfl | rfl
  · refine (check_new b w (by rw [Lib.cell_of_heap hb]; rfl) (by simp [World.shape?, hb]) (Lib.frozen_of_heap hb 0)).mono ?_
    rintro e w' ⟨rfl, rfl⟩
    refine ⟨rfl, ⟨v, by simp [World.setCell, Array.getElem?_modify, hb], ?_, hne⟩, Kp.set w 0 _, (Lib.OthersKept.refl _ _ w).setCell ⟨b, 0, none⟩ rfl _⟩
    exact hown.kept (row := some b) ⟨rfl, rfl, rfl, by simp [World.setCell], fun k _ hk => Below.heap_setCell _ _ _ _ (fun e => hk (by simp [e]))⟩ (Or.inr hne)
  · refine (check_old b w (by rw [Lib.cell_of_heap hb]; rfl)).mono ?_
    rintro e w' ⟨rfl, rfl⟩
    exact ⟨rfl, ⟨v, hb, hown, hne⟩, Kp.refl _ _ _, Lib.OthersKept.refl _ _ _⟩
set_option maxHeartbeats 2000000 in
set_option maxRecDepth 100000 in
theorem byte_k (R b : Nat) (bs : List Value) (c : Int) (w : World) (h : Bld R b bs w) (hlen : bs.length + 1 ≤ 225179981361972) (hBw : R ≤ w.heap.size) :
    Calls Tryd.prog 84 #[.pointer (some ⟨b, 0, none⟩), .int .u8 c] w fun e w' => e = .returned .nilIface ∧ Bld R b (bs ++ [.int .u8 c]) w' ∧ Kp R b w w' ∧ Lib.OthersKept 5 (some b) w w' := by
  obtain ⟨i0, hi, hz0, hz1, hz2⟩ := info_parts info5
  go_enter Tryd.func84, Tryd.ntmps84
  go_wp2_with (go_at_call 91; refine (check_k R b bs _ h).mono ?_)
  rintro e w1 ⟨rfl, h1, hb1, hk1⟩
  have HK1 := Lib.hid hk1
  clear hk1
  obtain ⟨v, hbk, hown, hne⟩ := h1
  have c0 : w1.cell? ⟨b, 0, none⟩ = some (.pointer (some ⟨b, 0, none⟩)) := by rw [Lib.cell_of_heap hbk]; rfl
  have c1 : w1.cell? ⟨b, 1, none⟩ = some v := by rw [Lib.cell_of_heap hbk]; rfl
  go_wp2_with (at_builtin; refine wpList_append_own_wide _ rfl _ _ 90 rfl R 5 i0 (.int .u8 0) 1 1 Tryd.underlying90 hi hz0 hz1 hz2 rfl (by decide) _ _ _ rfl (hown.alloc _) ⟨w1.heap.size, 0, none⟩ 1 1 [.int .u8 c] rfl rfl ?c1 ?c2 ?c3 ?c4 ?c5 ?_)
  case c1 =>
    intro j u hj
    match j, hj with
    | 0, hj => simp at hj; subst hj; simp [Addr.add]
  case c2 => intro u hu; simp at hu; subst hu; rfl
  case c3 => unfold maxLen; omega
  case c4 => omega
  case c5 => have := hb1.size; simp; omega
  intro v' w2 hown' hgrow _
  have hlt : b < w1.heap.size := cell_lt c0
  have hb2 : w2.heap[b]? = some (.cells #[.pointer (some ⟨b, 0, none⟩), v] 92 (0, 0)) := by
    rw [hgrow.block b (by simp; omega) (fun e => hne e.symm), Lib.alloc_old w1 _ b hlt]
    exact hbk
  have d0 : w2.cell? ⟨b, 0, none⟩ = some (.pointer (some ⟨b, 0, none⟩)) := by rw [Lib.cell_of_heap hb2]; rfl
  have d1 : w2.cell? ⟨b, 1, none⟩ = some v := by rw [Lib.cell_of_heap hb2]; rfl
  have f1 : w2.frozen? ⟨b, 1, none⟩ = false := Lib.frozen_of_heap hb2 1
  obtain ⟨g, cap, rfl⟩ : ∃ g cap, v' = .slice (some ⟨g, 0, none⟩) (bs.length + 1) cap := by
    rcases hown'.2 with ⟨_, h0⟩ | ⟨g, cap, cur, hv, _⟩
    · omega
    · exact ⟨g, cap, hv⟩
  go_wp2
  go_ret
  refine ⟨rfl, Bld.put hb2 (bs := bs ++ [.int .u8 c]) (by simpa using hown'), ?_, ?_⟩
  rotate_left 1
  · exact (((HK1.out.alloc _).grown hgrow (fun g hg => by
      obtain ⟨c, fz, hh⟩ := Lib.ownsRowF_kind (World.ownsRowF_of hown) g hg
      exact ⟨c, fz, (Lib.alloc_old w1 _ g (hown.lt g hg).2).trans hh⟩)).setCell ⟨b, 1, none⟩ rfl _)
  exact ((hb1.trans (Kp.fresh ((Fresh.refl w1).alloc _ _) (by have := hb1.size; omega))).trans (Kp.grown hgrow (fun k hk => (hown.lt k hk).1) (by have := hb1.size; simp; omega))).trans (Kp.set w2 1 _)
set_option maxHeartbeats 2000000 in
set_option maxRecDepth 100000 in
theorem str_k (R b : Nat) (bs : List Value) (s : ByteArray) (w : World) (h : Bld R b bs w) (hlen : bs.length + s.size ≤ 225179981361972) (hBw : R ≤ w.heap.size) :
    Calls Tryd.prog 82 #[.pointer (some ⟨b, 0, none⟩), .string s] w fun e w' => e = .returned (.tuple #[.int .i64 s.size, .nilIface]) ∧ Bld R b (bs ++ Lib.strCells s) w' ∧ Kp R b w w' ∧ Lib.OthersKept 5 (some b) w w' := by
  obtain ⟨i0, hi, hz0, hz1, hz2⟩ := info_parts info5
  go_enter Tryd.func82, Tryd.ntmps82
  go_wp2_with (go_at_call 91; refine (check_k R b bs _ h).mono ?_)
  rintro e w1 ⟨rfl, h1, hb1, hk1⟩
  have HK1 := Lib.hid hk1
  clear hk1
  obtain ⟨v, hbk, hown, hne⟩ := h1
  have c0 : w1.cell? ⟨b, 0, none⟩ = some (.pointer (some ⟨b, 0, none⟩)) := by rw [Lib.cell_of_heap hbk]; rfl
  have c1 : w1.cell? ⟨b, 1, none⟩ = some v := by rw [Lib.cell_of_heap hbk]; rfl
  go_wp2_with (at_builtin; refine wp_str_wide rfl _ _ rfl R _ _ _ rfl hown s rfl ?c4 ?c5 ?_)
  case c4 => omega
  case c5 => have := hb1.size; omega
  intro v' w2 hown' hgrow
  have hlt : b < w1.heap.size := cell_lt c0
  have hb2 : w2.heap[b]? = some (.cells #[.pointer (some ⟨b, 0, none⟩), v] 92 (0, 0)) := by
    rw [hgrow.block b hlt (fun e => hne e.symm)]
    exact hbk
  have d0 : w2.cell? ⟨b, 0, none⟩ = some (.pointer (some ⟨b, 0, none⟩)) := by rw [Lib.cell_of_heap hb2]; rfl
  have d1 : w2.cell? ⟨b, 1, none⟩ = some v := by rw [Lib.cell_of_heap hb2]; rfl
  have f1 : w2.frozen? ⟨b, 1, none⟩ = false := Lib.frozen_of_heap hb2 1
  obtain ⟨ao, n', cap, rfl⟩ : ∃ ao n' cap, v' = .slice ao n' cap := by
    rcases hown'.2 with ⟨hv, _⟩ | ⟨g, cap, cur, hv, _⟩
    · exact ⟨_, _, _, hv⟩
    · exact ⟨_, _, _, hv⟩
  go_wp2
  go_ret2
  refine ⟨rfl, Bld.put hb2 (bs := bs ++ Lib.strCells s) (by simpa [Lib.strCells_length] using hown'), ?_, ?_⟩
  rotate_left 1
  · exact ((HK1.out.grown hgrow (fun g hg => Lib.ownsRowF_kind (World.ownsRowF_of hown) g hg)).setCell ⟨b, 1, none⟩ rfl _)
  exact (hb1.trans (Kp.grown hgrow (fun k hk => (hown.lt k hk).1) (by have := hb1.size; omega))).trans (Kp.set w2 1 _)
end Go.Proofs.YteiomcbphbbpkaaDoor
/- How the program writes numbers, records, and what holds of a builder that is written to. -/
namespace Go.Proofs.YteiomcbphbbpkaaDoor
set_option linter.unusedSimpArgs false
set_option linter.unusedVariables false
open Go.RowKit
attribute [local go_sem] as_98_98 as_98_62 as_98_65 as_98_67 as_98_71 as_98_69 as_98_85 as_62_98 as_62_62 as_62_65 as_62_67 as_62_71 as_62_69 as_62_85 as_65_98 as_65_62 as_65_65 as_65_67 as_65_71 as_65_69 as_65_85 as_67_98 as_67_62 as_67_65 as_67_67 as_67_71 as_67_69 as_67_85 as_71_98 as_71_62 as_71_65 as_71_67 as_71_71 as_71_69 as_71_85 as_69_98 as_69_62 as_69_65 as_69_67 as_69_71 as_69_69 as_69_85 as_85_98 as_85_62 as_85_65 as_85_67 as_85_71 as_85_69 as_85_85 as_nil_98 as_nil_62 as_nil_65 as_nil_67 as_nil_71 as_nil_69 as_nil_85

theorem catB (a b : ByteArray) : (a ++ b).data.toList = a.data.toList ++ b.data.toList := by
  rw [ByteArray.data_append, Array.toList_append]
theorem sizeB (a : ByteArray) : a.size = a.data.toList.length := by rw [Array.length_toList]; rfl
theorem eqB {a : ByteArray} {l : List UInt8} (h : a.data.toList = l) : a = ⟨l.toArray⟩ := by
  subst h
  obtain ⟨d⟩ := a
  simp
def wordB (s : Int) : ByteArray := if s = 1 then ⟨#[99, 104, 97, 114]⟩ else if s = 2 then ⟨#[115, 104, 111, 114, 116]⟩ else if s = 4 then ⟨#[105, 110, 116]⟩ else if s = 8 then ⟨#[108, 111, 110, 103]⟩ else ⟨#[63]⟩
theorem numberWord_any (s : Int) (w : World) : Calls Tryd.prog 92 #[.int .i64 s] w fun e w' => e = .returned (.string (wordB s)) ∧ Fresh w w' := by
  by_cases h1 : s = 1
  · subst h1
    go_enter Tryd.func92, Tryd.ntmps92
    go_wp2
    go_returns
    exact ⟨rfl, (by (repeat' first | with_reducible exact Fresh.refl _ | with_reducible assumption | with_reducible refine Fresh.alloc ?_ _ _ | with_reducible refine Fresh.drew ?_ | with_reducible refine Fresh.drewN ?_ _ | with_reducible refine Fresh.setCell ?_ ?_ _ | with_reducible refine Fresh.trans ?_ (by assumption) | (simp; done) | (simp; omega)))⟩
  by_cases h2 : s = 2
  · subst h2
    go_enter Tryd.func92, Tryd.ntmps92
    go_wp2
    go_returns
    exact ⟨rfl, (by (repeat' first | with_reducible exact Fresh.refl _ | with_reducible assumption | with_reducible refine Fresh.alloc ?_ _ _ | with_reducible refine Fresh.drew ?_ | with_reducible refine Fresh.drewN ?_ _ | with_reducible refine Fresh.setCell ?_ ?_ _ | with_reducible refine Fresh.trans ?_ (by assumption) | (simp; done) | (simp; omega)))⟩
  by_cases h4 : s = 4
  · subst h4
    go_enter Tryd.func92, Tryd.ntmps92
    go_wp2
    go_returns
    exact ⟨rfl, (by (repeat' first | with_reducible exact Fresh.refl _ | with_reducible assumption | with_reducible refine Fresh.alloc ?_ _ _ | with_reducible refine Fresh.drew ?_ | with_reducible refine Fresh.drewN ?_ _ | with_reducible refine Fresh.setCell ?_ ?_ _ | with_reducible refine Fresh.trans ?_ (by assumption) | (simp; done) | (simp; omega)))⟩
  by_cases h8 : s = 8
  · subst h8
    go_enter Tryd.func92, Tryd.ntmps92
    go_wp2
    go_returns
    exact ⟨rfl, (by (repeat' first | with_reducible exact Fresh.refl _ | with_reducible assumption | with_reducible refine Fresh.alloc ?_ _ _ | with_reducible refine Fresh.drew ?_ | with_reducible refine Fresh.drewN ?_ _ | with_reducible refine Fresh.setCell ?_ ?_ _ | with_reducible refine Fresh.trans ?_ (by assumption) | (simp; done) | (simp; omega)))⟩
  have e : wordB s = ⟨#[63]⟩ := by unfold wordB; rw [if_neg h1, if_neg h2, if_neg h4, if_neg h8]
  rw [e]
  have q1 : (s == 1) = false := by simpa using h1
  have q2 : (s == 2) = false := by simpa using h2
  have q4 : (s == 4) = false := by simpa using h4
  have q8 : (s == 8) = false := by simpa using h8
  clear h1 h2 h4 h8 e
  go_enter Tryd.func92, Tryd.ntmps92
  go_wp2
  go_returns
  exact ⟨rfl, (by (repeat' first | with_reducible exact Fresh.refl _ | with_reducible assumption | with_reducible refine Fresh.alloc ?_ _ _ | with_reducible refine Fresh.drew ?_ | with_reducible refine Fresh.drewN ?_ _ | with_reducible refine Fresh.setCell ?_ ?_ _ | with_reducible refine Fresh.trans ?_ (by assumption) | (simp; done) | (simp; omega)))⟩
theorem numberText_1t (w : World) : Calls Tryd.prog 83 #[.agg #[.int .i64 1, .bool true]] w fun e w' => e = .returned (.string ⟨(numTxt 1 true).toArray⟩) ∧ Fresh w w' := by
  go_enter Tryd.func83, Tryd.ntmps83
  go_wp2_with fail
  go_at_call 92; refine (numberWord_any 1 _).mono ?_; rintro e w1 ⟨rfl, h1⟩
  rw [show wordB 1 = ⟨#[99, 104, 97, 114]⟩ from rfl]
  have X := (Blk.new w #[.int .i64 1, .bool true] 62).fresh h1
  have x1 := X.1 1 _ rfl
  have x0 := X.1 0 _ rfl
  go_wp2_with fail
  go_returns
  exact ⟨rfl, (by (repeat' first | with_reducible exact Fresh.refl _ | with_reducible assumption | with_reducible refine Fresh.alloc ?_ _ _ | with_reducible refine Fresh.drew ?_ | with_reducible refine Fresh.drewN ?_ _ | with_reducible refine Fresh.setCell ?_ ?_ _ | with_reducible refine Fresh.trans ?_ (by assumption) | (simp; done) | (simp; omega)))⟩
theorem numberText_1f (w : World) : Calls Tryd.prog 83 #[.agg #[.int .i64 1, .bool false]] w fun e w' => e = .returned (.string ⟨(numTxt 1 false).toArray⟩) ∧ Fresh w w' := by
  go_enter Tryd.func83, Tryd.ntmps83
  go_wp2_with fail
  go_at_call 92; refine (numberWord_any 1 _).mono ?_; rintro e w1 ⟨rfl, h1⟩
  rw [show wordB 1 = ⟨#[99, 104, 97, 114]⟩ from rfl]
  have X := (Blk.new w #[.int .i64 1, .bool false] 62).fresh h1
  have x1 := X.1 1 _ rfl
  have x0 := X.1 0 _ rfl
  go_wp2_with fail
  go_returns
  exact ⟨rfl, (by (repeat' first | with_reducible exact Fresh.refl _ | with_reducible assumption | with_reducible refine Fresh.alloc ?_ _ _ | with_reducible refine Fresh.drew ?_ | with_reducible refine Fresh.drewN ?_ _ | with_reducible refine Fresh.setCell ?_ ?_ _ | with_reducible refine Fresh.trans ?_ (by assumption) | (simp; done) | (simp; omega)))⟩
theorem numberText_2t (w : World) : Calls Tryd.prog 83 #[.agg #[.int .i64 2, .bool true]] w fun e w' => e = .returned (.string ⟨(numTxt 2 true).toArray⟩) ∧ Fresh w w' := by
  go_enter Tryd.func83, Tryd.ntmps83
  go_wp2_with fail
  go_at_call 92; refine (numberWord_any 2 _).mono ?_; rintro e w1 ⟨rfl, h1⟩
  rw [show wordB 2 = ⟨#[115, 104, 111, 114, 116]⟩ from rfl]
  have X := (Blk.new w #[.int .i64 2, .bool true] 62).fresh h1
  have x1 := X.1 1 _ rfl
  have x0 := X.1 0 _ rfl
  go_wp2_with fail
  go_returns
  exact ⟨rfl, (by (repeat' first | with_reducible exact Fresh.refl _ | with_reducible assumption | with_reducible refine Fresh.alloc ?_ _ _ | with_reducible refine Fresh.drew ?_ | with_reducible refine Fresh.drewN ?_ _ | with_reducible refine Fresh.setCell ?_ ?_ _ | with_reducible refine Fresh.trans ?_ (by assumption) | (simp; done) | (simp; omega)))⟩
theorem numberText_2f (w : World) : Calls Tryd.prog 83 #[.agg #[.int .i64 2, .bool false]] w fun e w' => e = .returned (.string ⟨(numTxt 2 false).toArray⟩) ∧ Fresh w w' := by
  go_enter Tryd.func83, Tryd.ntmps83
  go_wp2_with fail
  go_at_call 92; refine (numberWord_any 2 _).mono ?_; rintro e w1 ⟨rfl, h1⟩
  rw [show wordB 2 = ⟨#[115, 104, 111, 114, 116]⟩ from rfl]
  have X := (Blk.new w #[.int .i64 2, .bool false] 62).fresh h1
  have x1 := X.1 1 _ rfl
  have x0 := X.1 0 _ rfl
  go_wp2_with fail
  go_returns
  exact ⟨rfl, (by (repeat' first | with_reducible exact Fresh.refl _ | with_reducible assumption | with_reducible refine Fresh.alloc ?_ _ _ | with_reducible refine Fresh.drew ?_ | with_reducible refine Fresh.drewN ?_ _ | with_reducible refine Fresh.setCell ?_ ?_ _ | with_reducible refine Fresh.trans ?_ (by assumption) | (simp; done) | (simp; omega)))⟩
theorem numberText_4t (w : World) : Calls Tryd.prog 83 #[.agg #[.int .i64 4, .bool true]] w fun e w' => e = .returned (.string ⟨(numTxt 4 true).toArray⟩) ∧ Fresh w w' := by
  go_enter Tryd.func83, Tryd.ntmps83
  go_wp2_with fail
  go_at_call 92; refine (numberWord_any 4 _).mono ?_; rintro e w1 ⟨rfl, h1⟩
  rw [show wordB 4 = ⟨#[105, 110, 116]⟩ from rfl]
  have X := (Blk.new w #[.int .i64 4, .bool true] 62).fresh h1
  have x1 := X.1 1 _ rfl
  have x0 := X.1 0 _ rfl
  go_wp2_with fail
  go_returns
  exact ⟨rfl, (by (repeat' first | with_reducible exact Fresh.refl _ | with_reducible assumption | with_reducible refine Fresh.alloc ?_ _ _ | with_reducible refine Fresh.drew ?_ | with_reducible refine Fresh.drewN ?_ _ | with_reducible refine Fresh.setCell ?_ ?_ _ | with_reducible refine Fresh.trans ?_ (by assumption) | (simp; done) | (simp; omega)))⟩
theorem numberText_4f (w : World) : Calls Tryd.prog 83 #[.agg #[.int .i64 4, .bool false]] w fun e w' => e = .returned (.string ⟨(numTxt 4 false).toArray⟩) ∧ Fresh w w' := by
  go_enter Tryd.func83, Tryd.ntmps83
  go_wp2_with fail
  go_at_call 92; refine (numberWord_any 4 _).mono ?_; rintro e w1 ⟨rfl, h1⟩
  rw [show wordB 4 = ⟨#[105, 110, 116]⟩ from rfl]
  have X := (Blk.new w #[.int .i64 4, .bool false] 62).fresh h1
  have x1 := X.1 1 _ rfl
  have x0 := X.1 0 _ rfl
  go_wp2_with fail
  go_returns
  exact ⟨rfl, (by (repeat' first | with_reducible exact Fresh.refl _ | with_reducible assumption | with_reducible refine Fresh.alloc ?_ _ _ | with_reducible refine Fresh.drew ?_ | with_reducible refine Fresh.drewN ?_ _ | with_reducible refine Fresh.setCell ?_ ?_ _ | with_reducible refine Fresh.trans ?_ (by assumption) | (simp; done) | (simp; omega)))⟩
theorem numberText_8t (w : World) : Calls Tryd.prog 83 #[.agg #[.int .i64 8, .bool true]] w fun e w' => e = .returned (.string ⟨(numTxt 8 true).toArray⟩) ∧ Fresh w w' := by
  go_enter Tryd.func83, Tryd.ntmps83
  go_wp2_with fail
  go_at_call 92; refine (numberWord_any 8 _).mono ?_; rintro e w1 ⟨rfl, h1⟩
  rw [show wordB 8 = ⟨#[108, 111, 110, 103]⟩ from rfl]
  have X := (Blk.new w #[.int .i64 8, .bool true] 62).fresh h1
  have x1 := X.1 1 _ rfl
  have x0 := X.1 0 _ rfl
  go_wp2_with fail
  go_returns
  exact ⟨rfl, (by (repeat' first | with_reducible exact Fresh.refl _ | with_reducible assumption | with_reducible refine Fresh.alloc ?_ _ _ | with_reducible refine Fresh.drew ?_ | with_reducible refine Fresh.drewN ?_ _ | with_reducible refine Fresh.setCell ?_ ?_ _ | with_reducible refine Fresh.trans ?_ (by assumption) | (simp; done) | (simp; omega)))⟩
theorem numberText_8f (w : World) : Calls Tryd.prog 83 #[.agg #[.int .i64 8, .bool false]] w fun e w' => e = .returned (.string ⟨(numTxt 8 false).toArray⟩) ∧ Fresh w w' := by
  go_enter Tryd.func83, Tryd.ntmps83
  go_wp2_with fail
  go_at_call 92; refine (numberWord_any 8 _).mono ?_; rintro e w1 ⟨rfl, h1⟩
  rw [show wordB 8 = ⟨#[108, 111, 110, 103]⟩ from rfl]
  have X := (Blk.new w #[.int .i64 8, .bool false] 62).fresh h1
  have x1 := X.1 1 _ rfl
  have x0 := X.1 0 _ rfl
  go_wp2_with fail
  go_returns
  exact ⟨rfl, (by (repeat' first | with_reducible exact Fresh.refl _ | with_reducible assumption | with_reducible refine Fresh.alloc ?_ _ _ | with_reducible refine Fresh.drew ?_ | with_reducible refine Fresh.drewN ?_ _ | with_reducible refine Fresh.setCell ?_ ?_ _ | with_reducible refine Fresh.trans ?_ (by assumption) | (simp; done) | (simp; omega)))⟩
theorem numberText_xt (s : Int) (hw : wordB s = ⟨#[63]⟩) (ht : numTxt s true = [63]) (w : World) : Calls Tryd.prog 83 #[.agg #[.int .i64 s, .bool true]] w fun e w' => e = .returned (.string ⟨(numTxt s true).toArray⟩) ∧ Fresh w w' := by
  have HW := Lib.hid hw
  rw [ht]
  clear hw ht
  go_enter Tryd.func83, Tryd.ntmps83
  go_wp2_with fail
  go_at_call 92; refine (numberWord_any s _).mono ?_; rintro e w1 ⟨rfl, h1⟩
  rw [HW.out]
  have X := (Blk.new w #[.int .i64 s, .bool true] 62).fresh h1
  have x1 := X.1 1 _ rfl
  have x0 := X.1 0 _ rfl
  go_wp2_with fail
  go_returns
  exact ⟨rfl, (by (repeat' first | with_reducible exact Fresh.refl _ | with_reducible assumption | with_reducible refine Fresh.alloc ?_ _ _ | with_reducible refine Fresh.drew ?_ | with_reducible refine Fresh.drewN ?_ _ | with_reducible refine Fresh.setCell ?_ ?_ _ | with_reducible refine Fresh.trans ?_ (by assumption) | (simp; done) | (simp; omega)))⟩
theorem numberText_xf (s : Int) (hw : wordB s = ⟨#[63]⟩) (ht : numTxt s false = [63]) (w : World) : Calls Tryd.prog 83 #[.agg #[.int .i64 s, .bool false]] w fun e w' => e = .returned (.string ⟨(numTxt s false).toArray⟩) ∧ Fresh w w' := by
  have HW := Lib.hid hw
  rw [ht]
  clear hw ht
  go_enter Tryd.func83, Tryd.ntmps83
  go_wp2_with fail
  go_at_call 92; refine (numberWord_any s _).mono ?_; rintro e w1 ⟨rfl, h1⟩
  rw [HW.out]
  have X := (Blk.new w #[.int .i64 s, .bool false] 62).fresh h1
  have x1 := X.1 1 _ rfl
  have x0 := X.1 0 _ rfl
  go_wp2_with fail
  go_returns
  exact ⟨rfl, (by (repeat' first | with_reducible exact Fresh.refl _ | with_reducible assumption | with_reducible refine Fresh.alloc ?_ _ _ | with_reducible refine Fresh.drew ?_ | with_reducible refine Fresh.drewN ?_ _ | with_reducible refine Fresh.setCell ?_ ?_ _ | with_reducible refine Fresh.trans ?_ (by assumption) | (simp; done) | (simp; omega)))⟩
theorem numberText_any (s : Int) (u : Bool) (w : World) : Calls Tryd.prog 83 #[.agg #[.int .i64 s, .bool u]] w fun e w' => e = .returned (.string ⟨(numTxt s u).toArray⟩) ∧ Fresh w w' := by
  by_cases h1 : s = 1
  · subst h1
    cases u
    · exact numberText_1f w
    · exact numberText_1t w
  by_cases h2 : s = 2
  · subst h2
    cases u
    · exact numberText_2f w
    · exact numberText_2t w
  by_cases h4 : s = 4
  · subst h4
    cases u
    · exact numberText_4f w
    · exact numberText_4t w
  by_cases h8 : s = 8
  · subst h8
    cases u
    · exact numberText_8f w
    · exact numberText_8t w
  have e : wordB s = ⟨#[63]⟩ := by unfold wordB; rw [if_neg h1, if_neg h2, if_neg h4, if_neg h8]
  have e2 : numTxt s u = [63] := by unfold numTxt; rw [if_neg h1, if_neg h2, if_neg h4, if_neg h8]
  cases u
  · exact numberText_xf s e e2 w
  · exact numberText_xt s e e2 w
def recB (nm : ByteArray) (u : Bool) : ByteArray := if u then ⟨#[117, 110, 105, 111, 110, 32]⟩ ++ nm else ⟨#[115, 116, 114, 117, 99, 116, 32]⟩ ++ nm
theorem recB_txt (nm : ByteArray) (u : Bool) : (recB nm u).data.toList = recTxt nm u := by
  cases u <;> simp only [recB, recTxt, if_true, if_false, catB] <;> rfl
theorem recordText_any (nm : ByteArray) (u : Bool) (hs : nm.size ≤ 225179981361972) (w : World) : Calls Tryd.prog 86 #[.agg #[.string nm, .bool u]] w fun e w' => e = .returned (.string (recB nm u)) ∧ Fresh w w' := by
  have c1 : ¬ 9223372036854775807 < 7 + nm.size := by omega
  have c2 : ¬ 9223372036854775807 < 6 + nm.size := by omega
  cases u
  all_goals
    go_enter Tryd.func86, Tryd.ntmps86
    go_wp2
    go_returns
    exact ⟨rfl, (by (repeat' first | with_reducible exact Fresh.refl _ | with_reducible assumption | with_reducible refine Fresh.alloc ?_ _ _ | with_reducible refine Fresh.drew ?_ | with_reducible refine Fresh.drewN ?_ _ | with_reducible refine Fresh.setCell ?_ ?_ _ | with_reducible refine Fresh.trans ?_ (by assumption) | (simp; done) | (simp; omega)))⟩
/-- A builder in block b that holds these bytes; nothing that was there at w0 has turned, and of what was there at w nothing but the builder's own. -/
structure Wro (w0 : World) (b : Nat) (bs : List UInt8) (w w' : World) : Prop where
  bld : Bld w0.heap.size b (Lib.byteCells bs) w'
  fr : Fresh w0 w'
  kept : Lib.OthersKept 5 (some b) w w'
  hb : w0.heap.size ≤ b
theorem Wro.then {w0 w w1 X : World} {b : Nat} {bs : List UInt8} (h : Wro w0 b bs w w1) (hX : Fresh w1 X) : Wro w0 b bs w X :=
  ⟨h.bld.later hX, h.fr.trans hX, h.kept.trans (fresh_kept hX _ _), h.hb⟩
theorem Wro.from {w0 w X : World} {b : Nat} {bs : List UInt8} (h : Wro w0 b bs w X) : Wro w0 b bs X X := ⟨h.bld, h.fr, Lib.OthersKept.refl _ _ _, h.hb⟩
theorem Wro.trans {w0 w w1 w2 : World} {b : Nat} {bs bs' : List UInt8} (h : Wro w0 b bs w w1) (k : Wro w0 b bs' w1 w2) : Wro w0 b bs' w w2 := ⟨k.bld, k.fr, h.kept.trans k.kept, k.hb⟩
theorem Wro.step {w0 w X w' : World} {b : Nat} {bs t : List UInt8} (h : Wro w0 b bs w X) (hb : Bld w0.heap.size b (Lib.byteCells bs ++ Lib.byteCells t) w') (hk : Kp w0.heap.size b X w') (ho : Lib.OthersKept 5 (some b) X w') : Wro w0 b (bs ++ t) w w' :=
  ⟨by rw [Lib.byteCells_append]; exact hb, ⟨h.fr.below.trans (hk.below h.hb (Nat.le_refl _) h.fr.size)⟩, h.kept.trans ho, h.hb⟩
theorem str_w {w0 w X : World} {b : Nat} {bs : List UInt8} (s : ByteArray) (h : Wro w0 b bs w X) (hl : bs.length + s.data.toList.length ≤ 225179981361972) :
    Calls Tryd.prog 82 #[.pointer (some ⟨b, 0, none⟩), .string s] X fun e w' => e = .returned (.tuple #[.int .i64 s.size, .nilIface]) ∧ Wro w0 b (bs ++ s.data.toList) w w' ∧ Wro w0 b (bs ++ s.data.toList) X w' := by
  refine (str_k w0.heap.size b (Lib.byteCells bs) s X h.bld (by rw [Lib.byteCells_length, sizeB]; exact hl) h.fr.size).mono ?_
  rintro e w' ⟨he, hb, hk, ho⟩
  exact ⟨he, h.step hb hk ho, h.from.step hb hk ho⟩
theorem byte_w {w0 w X : World} {b : Nat} {bs : List UInt8} (c : UInt8) (h : Wro w0 b bs w X) (hl : bs.length + 1 ≤ 225179981361972) :
    Calls Tryd.prog 84 #[.pointer (some ⟨b, 0, none⟩), .int .u8 c.toNat] X fun e w' => e = .returned .nilIface ∧ Wro w0 b (bs ++ [c]) w w' ∧ Wro w0 b (bs ++ [c]) X w' := by
  refine (byte_k w0.heap.size b (Lib.byteCells bs) c.toNat X h.bld (by rw [Lib.byteCells_length]; exact hl) h.fr.size).mono ?_
  rintro e w' ⟨he, hb, hk, ho⟩
  exact ⟨he, h.step (t := [c]) hb hk ho, h.from.step (t := [c]) hb hk ho⟩
end Go.Proofs.YteiomcbphbbpkaaDoor
