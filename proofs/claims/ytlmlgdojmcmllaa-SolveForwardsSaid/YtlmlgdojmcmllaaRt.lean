/- Places in the order, plainly and in memory. -/
import Derived.Test.YtlmlgdojmcmllaaRs
namespace Go.Proofs.Ytlmlgdojmcmllaa
set_option linter.unusedSimpArgs false
set_option linter.unusedVariables false
open Go.RowKit
open Solve

theorem rev_split (l : List Nat) {a : Nat} (ha : a < l.length) : l.reverse = (l.drop (a + 1)).reverse ++ l[a] :: (l.take a).reverse := by
  have h1 : l.reverse = (l.take a ++ l.drop a).reverse := by rw [List.take_append_drop]
  rw [h1, List.drop_eq_getElem_cons ha]; simp
theorem ord_back {g : Graph} {l : List Nat} (hb : ∀ A j B, l.reverse = A ++ j :: B → ∀ k ∈ fol g j, k ∈ A ∨ Path g k j) (hn : l.Nodup) {a c : Nat} (ha : a < l.length) (hc : c < l.length) (hca : c ≤ a) (hf : l[c] ∈ fol g l[a]) : Path g l[c] l[a] := by
  rcases hb _ _ _ (rev_split l ha) _ hf with r | r
  · exfalso
    rw [List.mem_reverse] at r
    obtain ⟨i, hi, hie⟩ := List.mem_iff_getElem.1 r
    rw [List.getElem_drop] at hie
    have := (List.getElem_inj hn).1 hie
    omega
  · exact r
/-- What an order answers, beside what is reached. -/
structure OrdOk (g : Graph) (entry : Int) (l : List Nat) (b : List Bool) : Prop where
  nodup : l.Nodup
  lt : ∀ x ∈ l, x < g.length
  head : ∀ h : 0 < l.length, ((l[0] : Nat) : Int) = entry
  mem : ∀ i, flag b i = true ↔ i ∈ l
  back : ∀ a c (ha : a < l.length) (hc : c < l.length), c ≤ a → l[c] ∈ fol g l[a] → Path g l[c] l[a]
theorem ord_ok {g : Graph} {entry : Int} {l : List Nat} {b : List Bool} (h : OrderB g entry l) (k : ReachB g entry b) : OrdOk g entry l b := by
  rcases h with ⟨h1, rfl⟩ | ⟨h1, s, l0, hv, rfl⟩
  · exact ⟨by simp, by simp, (fun h => by simp at h), fun i => by rw [k.2 i]; simp; intro a b; exact absurd ⟨a, b⟩ h1, fun a c ha => by simp at ha⟩
  · obtain ⟨⟨A, hA⟩, hn, hm, hb⟩ := visit_one hv
    have hn' : l0.reverse.Nodup := List.pairwise_reverse.2 (hn.imp fun h => h.symm)
    refine ⟨hn', fun x hx => ?_, fun h => ?_, fun i => ?_, fun a c ha hc hca hf => ?_⟩
    · exact ((hm x).1 (List.mem_reverse.1 hx)).lt (by omega)
    · have : l0.reverse[0] = entry.toNat := by
        subst hA; simp
      rw [this]; omega
    · rw [k.2 i, List.mem_reverse, hm i]
      exact ⟨fun h => h.2.2, fun h => ⟨h1.1, h1.2, h⟩⟩
    · have hb' : ∀ A j B, l0.reverse.reverse = A ++ j :: B → ∀ k ∈ fol g j, k ∈ A ∨ Path g k j := fun A j B e => hb A j B (by rw [← e, List.reverse_reverse])
      exact ord_back hb' hn' ha hc hca hf
/-- Numbers in a block of the call's own. -/
structure Nm (w : World) (g : Nat) (t : TypeId) (b : List Int) : Prop where
  blk : w.heap[g]? = some (.cells (nums b).toArray t (0, 0))
theorem Nm.lt {w : World} {g : Nat} {t : TypeId} {b : List Int} (h : Nm w g t b) : g < w.heap.size := by
  rcases Nat.lt_or_ge g w.heap.size with hlt | hge
  · exact hlt
  · have := h.blk; rw [Array.getElem?_eq_none hge] at this; cases this
theorem Nm.fresh {w w' : World} {g : Nat} {t : TypeId} {b : List Int} (h : Nm w g t b) (hf : Fresh w w') : Nm w' g t b := ⟨(hf.below.block g h.lt).trans h.blk⟩
theorem Nm.cell {w : World} {g : Nat} {t : TypeId} {b : List Int} (h : Nm w g t b) {i : Nat} (hi : i < b.length) : w.cell? ⟨g, i, none⟩ = some (.int .i64 (b.getD i 0)) := by
  rw [cell_of_row w g i _ t (0, 0) h.blk]; simp [nums, List.getD, hi]
theorem Nm.frozen {w : World} {g : Nat} {t : TypeId} {b : List Int} (h : Nm w g t b) (i : Nat) : w.frozen? ⟨g, i, none⟩ = false := by
  have := h.blk
  simp [World.frozen?, this]
theorem Nm.set {w : World} {g : Nat} {t : TypeId} {b : List Int} (h : Nm w g t b) (i : Nat) (x : Int) : Nm (w.setCell ⟨g, i, none⟩ (.int .i64 x)) g t (b.set i x) := by
  refine ⟨?_⟩
  have := h.blk
  simp [World.setCell, Array.getElem?_modify, this, nums, List.map_set]
theorem Nm.new (w : World) (t : TypeId) (n : Nat) : Nm (w.alloc (.cells (List.replicate n (.int .i64 0)).toArray t)) w.heap.size t (List.replicate n 0) := ⟨by
  have := heap_alloc_new w (.cells (List.replicate n (.int .i64 0)).toArray t)
  rw [this]; simp [nums]⟩
theorem run_ints (n : Nat) (hn : n ≤ 1000) (w : World) : (Instr.makeSlice 28 (.int .i64 (n : Int)) (.int .i64 (n : Int))).run Try.prog w = .ok (.slice (some ⟨w.heap.size, 0, none⟩) n n) (w.alloc (.cells (List.replicate n (.int .i64 0)).toArray 3)) := by
  have := run_make_row' (P := Try.prog) 28 3 (.int .i64 0) 8 Try.underlying28 int_info rfl .i64 .i64 n (by omega) (by omega) w
  rw [made_list] at this; exact this
/-- The places so far. -/
structure Pl (l : List Nat) (n j : Nat) (pl : List Int) : Prop where
  len : pl.length = n
  at' : ∀ i (h : i < l.length), i < j → pl.getD l[i] 0 = (i : Int) + 1
  no : ∀ x, x < n → x ∉ l.take j → pl.getD x 0 = 0
theorem Pl.start (l : List Nat) (n : Nat) : Pl l n 0 (List.replicate n 0) := ⟨by simp, fun i _ h => by omega, fun x hx _ => by simp [List.getD, hx]⟩
theorem getD_set {l : List Int} {i j : Nat} {x : Int} (h : i < l.length) : (l.set i x).getD j 0 = if j = i then x else l.getD j 0 := by
  unfold List.getD
  rw [List.getElem?_set]
  by_cases e : i = j
  · subst e; simp [h]
  · rw [if_neg e, if_neg (fun x => e x.symm)]
theorem Pl.step {l : List Nat} {n j : Nat} {pl : List Int} (h : Pl l n j pl) (hn : l.Nodup) (hj : j < l.length) (hl : ∀ x ∈ l, x < n) : Pl l n (j + 1) (pl.set l[j] ((j : Int) + 1)) := by
  have hjl : l[j] < pl.length := by rw [h.len]; exact hl _ (List.getElem_mem hj)
  refine ⟨by simp [h.len], fun i hi hij => ?_, fun x hx hxn => ?_⟩
  · rw [getD_set hjl]
    by_cases e : i = j
    · subst e; rw [if_pos rfl]
    · rw [if_neg (fun e2 => e ((List.getElem_inj hn).1 e2))]
      exact h.at' i hi (by omega)
  · rw [getD_set hjl]
    rw [List.take_succ_eq_append_getElem hj] at hxn
    rw [if_neg (fun e => hxn (List.mem_append_right _ (by rw [e]; exact List.mem_singleton.2 rfl)))]
    exact h.no x hx (fun e => hxn (List.mem_append_left _ e))
theorem Pl.pos {l : List Nat} {n : Nat} {pl : List Int} (h : Pl l n l.length pl) {x : Nat} (hx : x < n) : 0 < pl.getD x 0 ↔ x ∈ l := by
  constructor
  · intro hp
    by_cases hm : x ∈ l
    · exact hm
    · have := h.no x hx (by rw [List.take_length]; exact hm)
      omega
  · intro hm
    obtain ⟨i, hi, rfl⟩ := List.mem_iff_getElem.1 hm
    have := h.at' i hi hi
    omega
theorem Pl.back {g : Graph} {entry : Int} {l : List Nat} {b : List Bool} {pl : List Int} (h : Pl l g.length l.length pl) (ho : OrdOk g entry l b) {i z : Nat} (hi : i ∈ l) (hz : z ∈ l) (hf : z ∈ fol g i) (hle : ¬ pl.getD i 0 < pl.getD z 0) : Path g z i := by
  obtain ⟨a, ha, rfl⟩ := List.mem_iff_getElem.1 hi
  obtain ⟨c, hc, rfl⟩ := List.mem_iff_getElem.1 hz
  have h1 := h.at' a ha ha
  have h2 := h.at' c hc hc
  exact ho.back a c ha hc (by omega) hf
theorem OrdOk.closed {g : Graph} {entry : Int} {l : List Nat} {b : List Bool} (k : ReachB g entry b) (ho : OrdOk g entry l b) {i z : Nat} (hi : i ∈ l) (hf : z ∈ fol g i) : z ∈ l := by
  have h1 := (k.2 i).1 ((ho.mem i).2 hi)
  exact (ho.mem z).1 ((k.2 z).2 ⟨h1.1, h1.2.1, h1.2.2.step hf⟩)
end Go.Proofs.Ytlmlgdojmcmllaa
