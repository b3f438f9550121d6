/- The sets of a side, walked. -/
import Derived.Test.YtlmlgdojmcmllaaUm
namespace Go.Proofs.Ytlmlgdojmcmllaa
set_option linter.unusedSimpArgs false
set_option linter.unusedVariables false
open Go.RowKit
open Solve

theorem Fst.side {d : FD} {ws : World} {U : Nat → Prop} {w : World} {R V1 V2 : Nat → Prop} {l1 l2 : List Nat} (h : Fst d ws U w R V1 V2 l1 l2) (sd : Bool) : ∃ V, Vst w V (cond sd d.B1 d.B2) d.A.length (cond sd l1 l2) := by
  cases sd with
  | true => exact ⟨V1, h.v1⟩
  | false => exact ⟨V2, h.v2⟩
/-- In the rounds of one thing. -/
def IS (d : FD) (w : World) (U0 R Va Vb : Nat → Prop) (la lb : List Nat) (b p5 p7 : Nat) (ls : Graph) (u : Value) (ts : List Int) (x : Int) (l0 : List Nat) (k : Nat) (l : List Nat) (w' : World) : Prop :=
  l = l0 ∧ ∃ V' ls', SS d w U0 w' R Va Vb la lb V' b p5 ls' u ts ∧ w'.heap[p7]? = some (.cells #[.int .i64 x] 3 (0, 0)) ∧ ¬ V' p7 ∧ ls'.length = ls.length ∧ ∀ i, row ls' i = if i ∈ l0.take k then row ls i ++ [x] else row ls i
theorem sets_each (d : FD) (sd : Bool) (w : World) (U0 R Va Vb : Nat → Prop) (la lb : List Nat) (V : Nat → Prop) (b p5 p7 : Nat) (ls : Graph) (u : Value) (ts : List Int) (x : Int) (wr : World) (hls : ls.length = d.A.length) (hrow : ∀ i, (row ls i).length ≤ 4000)
    (h : SS d w U0 wr R Va Vb la lb V b p5 ls u ts) (h7 : wr.heap[p7]? = some (.cells #[.int .i64 x] 3 (0, 0))) (hv7 : ¬ V p7) :
    Calls Try.prog 28 #[.pointer (some ⟨cond sd d.B1 d.B2, 0, none⟩), .func (.func 45) #[] #[.pointer (some ⟨p5, 0, none⟩), .pointer (some ⟨p7, 0, none⟩)]] wr fun e w' => e = .returned (.tuple #[]) ∧ ∃ V' ls', SS d w U0 w' R Va Vb la lb V' b p5 ls' u ts ∧ ls'.length = ls.length ∧ ∀ i, row ls' i = if i ∈ cond sd la lb then row ls i ++ [x] else row ls i := by
  refine (eachSets_any (.pointer (some ⟨p5, 0, none⟩)) (.pointer (some ⟨p7, 0, none⟩)) (cond sd d.B1 d.B2) d.A.length h.f.flo.small (IS d w U0 R Va Vb la lb b p5 p7 ls u ts x (cond sd la lb)) ?_ ?_ (cond sd la lb) wr ⟨rfl, V, ls, h, h7, hv7, rfl, fun i => by simp⟩).mono ?_
  · rintro k l w' ⟨rfl, V', ls', hS, _⟩
    exact hS.f.side sd
  · rintro k l w' hk ⟨rfl, V', ls', hS, g7, gv, gl, gr⟩
    obtain ⟨Vs, hV⟩ := hS.f.side sd
    have hi := hV.node _ (List.getElem_mem hk)
    have hnot : (cond sd la lb)[k] ∉ (cond sd la lb).take k := by
      have := hV.nd.sublist (List.take_sublist (k + 1) _)
      rw [List.take_succ_eq_append_getElem hk] at this
      exact fun hm => (List.nodup_append.1 this).2.2 _ hm _ (by simp) rfl
    have hrk : row ls' (cond sd la lb)[k] = row ls (cond sd la lb)[k] := by rw [gr, if_neg hnot]
    have hil : (cond sd la lb)[k] < ls'.length := by omega
    refine (sets1_any V' b p5 p7 d.A.length ls' x _ w' hil (by omega) (by rw [hrk]; have := hrow (cond sd la lb)[k]; omega) hS.bag hS.h5 g7 ⟨hS.v5, gv⟩).mono ?_
    rintro e w2 ⟨rfl, hB⟩
    obtain ⟨V2', hS2, hk2, hn2⟩ := hS.put hB
    refine ⟨rfl, _, Nat.le_refl _, rfl, V2', _, hS2, (hk2.block _ (heap_lt g7) gv).trans g7, fun e => ?_, by simp [gl], fun i => ?_⟩
    · rcases hn2 _ e with r | r
      · exact gv r
      · have := heap_lt g7; omega
    · rw [row_set hil, List.take_succ_eq_append_getElem hk]
      by_cases e : i = (cond sd la lb)[k]
      · rw [if_pos e, if_pos (List.mem_append.2 (Or.inr (List.mem_singleton.2 e))), hrk, e]
      · rw [if_neg e, gr]
        by_cases hm : i ∈ (cond sd la lb).take k
        · rw [if_pos hm, if_pos (List.mem_append.2 (Or.inl hm))]
        · rw [if_neg hm, if_neg (fun h => (List.mem_append.1 h).elim hm fun h => e (List.mem_singleton.1 h))]
  · rintro e w' ⟨rfl, l', rfl, V', ls', hS, _, _, gl, gr⟩
    refine ⟨rfl, V', ls', hS, gl, fun i => ?_⟩
    rw [gr, List.take_length]
set_option maxHeartbeats 16000000 in
set_option maxRecDepth 100000 in
theorem setsP_any (d : FD) (sd : Bool) (Bs : Nat) (hBs : Bs = cond sd d.B1 d.B2) (w : World) (R V1 V2 : Nat → Prop) (l1 l2 : List Nat) (h : Fst d w (W V1 V2) w R V1 V2 l1 l2) :
    Calls Try.prog 38 #[.pointer (some ⟨d.fb, 0, none⟩), .pointer (some ⟨Bs, 0, none⟩)] w fun e w' => ∃ x ls, e = .returned x ∧ Rows2 T T w' x ls ∧ Exact d.A.length (SdP d sd) ls ∧ Keep (W V1 V2) w w' := by
  have HB := Lib.hid hBs
  have HF := Lib.hid h
  have hsm := h.flo.small
  have cf0 := h.flo.cs.1
  obtain ⟨p, cap, hv, ⟨hc, hm⟩, _⟩ := h.flo.rows.form
  rw [hv] at cf0
  unfold maxLen at hm
  have hmk := run_rows d.A.length hsm
  clear h hv hBs
  go_enter Try.func38, Try.ntmps38
  go_upto_region 2 with fail
  clear hmk cf0
  have er : (List.replicate d.A.length (Value.slice none 0 0)).toArray = Array.replicate d.A.length (Value.slice none 0 0) := by simp
  rw [← er]
  obtain ⟨w1, hw1⟩ : ∃ w1, w1 = ((w.alloc (.cells (List.replicate d.A.length (Value.slice none 0 0)).toArray 28)).alloc (.cells #[.slice (some ⟨w.heap.size, 0, none⟩) d.A.length d.A.length] 22)) := ⟨_, rfl⟩
  rw [← hw1]
  have HW1 : Hid (Bag w1 (fun k => k = w.heap.size) w.heap.size (List.replicate d.A.length []) ∧ w1.heap[w.heap.size + 1]? = some (.cells #[.slice (some ⟨w.heap.size, 0, none⟩) d.A.length d.A.length] 22 (0, 0)) ∧ Fresh w w1 ∧ w1.heap.size = w.heap.size + 2) := Lib.hid (by
    rw [hw1]
    have hz : (w.alloc (.cells (List.replicate d.A.length (Value.slice none 0 0)).toArray 28)).heap.size = w.heap.size + 1 := by simp
    refine ⟨(Bag.new w d.A.length).fresh ((Fresh.refl _).alloc _ _), ?_, ((Fresh.refl w).alloc _ _).alloc _ _, by simp⟩
    have := heap_alloc_new (w.alloc (.cells (List.replicate d.A.length (Value.slice none 0 0)).toArray 28)) (.cells #[.slice (some ⟨w.heap.size, 0, none⟩) d.A.length d.A.length] 22)
    rwa [hz] at this)
  obtain ⟨P5, hP5⟩ : ∃ P5, P5 = w.heap.size + 1 := ⟨_, rfl⟩
  rw [← hP5] at HW1
  rw [← hP5]
  have HNM := Lib.hid hP5
  clear er hw1 hP5
  have HF1 := Lib.hid (HF.out.fresh HW1.out.2.2.1)
  go_wp2_with (go_at_call 43; (refine (things_any d _ R HF1.out.flo).mono ?_); rintro e w2 ⟨u, ts, rfl, hq, hinc, hlen, hkey, hall, hfr⟩; have HQ := Lib.hid hq; have HINC := Lib.hid hinc; have HKEY := Lib.hid hkey; have HALL := Lib.hid hall; have HFR := Lib.hid hfr; obtain ⟨q, c, rfl, ⟨hqc, hqm⟩, _⟩ := hq.ints.form; clear hq hinc hkey hall hfr)
  unfold maxLen at hqm
  have HSS : Hid (SS d w (W V1 V2) w2 R V1 V2 l1 l2 (fun k => k = w.heap.size) w.heap.size P5 (List.replicate d.A.length []) (.slice q ts.length c) ts) := Lib.hid (by
    have hz := HW1.out.2.2.2
    have hP5 := HNM.out
    have hlt : ∀ k, w.heap.size ≤ k → ¬ R k ∧ ¬ V1 k ∧ ¬ V2 k ∧ w.heap.size ≤ k := fun k hk => ⟨fun e => by have := HF.out.flo.lt k e; omega, fun e => by have := HF.out.v1.lt k e; omega, fun e => by have := HF.out.v2.lt k e; omega, hk⟩
    refine ⟨HF1.out.fresh HFR.out, HW1.out.1.fresh HFR.out, (HFR.out.below.block _ (by omega)).trans HW1.out.2.1, HQ.out.mono (by omega), fun k hk => hlt k ?_, by omega, fun k hk => by have := (HQ.out.lt k hk).1; omega⟩
    rcases hk with r | r | r
    · omega
    · omega
    · have := (HQ.out.lt k r).1; omega)
  have HRW := Lib.hid (RW.start d sd ts)
  clear HQ HFR HF1 HW1
  go_loopg [17] ts.length (fun k s17 wr => ∃ (j : Nat) (Va Vb : Nat → Prop) (la lb : List Nat) (V : Nat → Prop) (ls : Graph), s17 = .int .i64 j ∧ j ≤ ts.length ∧ k = ts.length - j ∧ Hid (SS d w (W V1 V2) wr R Va Vb la lb V w.heap.size P5 ls (.slice q ts.length c) ts) ∧ Hid (RW d sd ts j ls))
  case atStart => exact ⟨0, V1, V2, l1, l2, _, _, rfl, by omega, by omega, HSS, HRW⟩
  case round =>
    clear HSS HRW
    obtain ⟨j, Va, Vb, la, lb, V, ls, rfl, hj, rfl, HSS, HRW⟩ := hrel
    by_cases hlt : j < ts.length
    · obtain ⟨L, o, rfl, _, ex⟩ := ints_cell HSS.out.q.ints hlt
      have HKX := Lib.hid (HKEY.out _ (List.getElem_mem hlt))
      have HNX := Lib.hid (fun (ls' : Graph) (hl : ls'.length = ls.length) (l : List Nat) => HRW.out.next (ls' := ls') hlt HINC.out.nodup hl (l := l))
      obtain ⟨x, hx⟩ : ∃ x, x = ts[j] := ⟨_, rfl⟩
      rw [← hx] at ex HKX HNX
      clear hx
      have hrow : ∀ i, (row ls i).length ≤ 4000 := fun i => by
        have h1 := (HRW.out.sub i).length_le
        have h2 : (ts.take j).length ≤ ts.length := by simp; omega
        omega
      have HROW := Lib.hid hrow
      have HLS := Lib.hid HRW.out.len
      clear hrow
      go_upto_region 5 with fail
      obtain ⟨w4, hw4⟩ : ∃ w4, w4 = wr.alloc (.cells #[.int .i64 x] 3) := ⟨_, rfl⟩
      obtain ⟨p7, hp7⟩ : ∃ p7, p7 = wr.heap.size := ⟨_, rfl⟩
      have HS4 : Hid (SS d w (W V1 V2) w4 R Va Vb la lb V w.heap.size P5 ls (.slice (some ⟨L, o, none⟩) ts.length c) ts ∧ w4.heap[p7]? = some (.cells #[.int .i64 x] 3 (0, 0)) ∧ ¬ V p7 ∧ ¬ W Va Vb p7 ∧ p7 < w4.heap.size) := Lib.hid (by
        rw [hw4, hp7]
        exact ⟨HSS.out.fresh ((Fresh.refl _).alloc _ _), heap_alloc_new wr _, (fun e => by have := HSS.out.bag.lt _ e; omega), (fun e => by
          rcases e with e | e
          · have := HSS.out.f.v1.lt _ e; omega
          · have := HSS.out.f.v2.lt _ e; omega), by simp⟩)
      rw [← hw4, ← hp7]
      have c7 : w4.cell? ⟨p7, 0, none⟩ = some (.int .i64 x) := by rw [cell_of_row w4 p7 0 _ 3 (0, 0) HS4.out.2.1]; rfl
      clear hw4 hp7 ex HSS
      go_upto_region 6 with (go_at_call 44; (refine (spread_any d w4 R Va Vb la lb x HKX.out HS4.out.1.start).mono ?_); rintro e w5 ⟨rfl, h5⟩; have HSP := Lib.hid (HS4.out.1.spread h5); clear h5)
      obtain ⟨Va2, Vb2, la2, lb2, hS5, hK5, hA, hB⟩ := HSP.out
      have HS5 := Lib.hid hS5
      have HG7 : Hid (w5.heap[p7]? = some (.cells #[.int .i64 x] 3 (0, 0))) := Lib.hid ((hK5.block _ HS4.out.2.2.2.2 HS4.out.2.2.2.1).trans HS4.out.2.1)
      have HAB : Hid (∀ i, i ∈ cond sd la2 lb2 ↔ AB d.A (d.S x) d.entry (d.M x) (d.E x) sd i) := Lib.hid (by
        cases sd with
        | true => exact hA
        | false => exact hB)
      have HEA : Hid (Calls Try.prog 28 #[.pointer (some ⟨Bs, 0, none⟩), .func (.func 45) #[] #[.pointer (some ⟨P5, 0, none⟩), .pointer (some ⟨p7, 0, none⟩)]] w5 fun e w' => e = .returned (.tuple #[]) ∧ ∃ V' ls', SS d w (W V1 V2) w' R Va2 Vb2 la2 lb2 V' w.heap.size P5 ls' (.slice (some ⟨L, o, none⟩) ts.length c) ts ∧ ls'.length = ls.length ∧ ∀ i, row ls' i = if i ∈ cond sd la2 lb2 then row ls i ++ [x] else row ls i) := Lib.hid (by
        rw [HB.out]
        exact sets_each d sd w (W V1 V2) R Va2 Vb2 la2 lb2 V w.heap.size P5 p7 ls _ ts x w5 HLS.out HROW.out HS5.out HG7.out HS4.out.2.2.1)
      clear hS5 hK5 hA hB HSP c7
      go_wp2_with (go_at_call 28; (with_reducible refine HEA.out.mono ?_); rintro e w6 ⟨rfl, V6, ls6, h6, hl6, hr6⟩; have HS6 := Lib.hid h6; have HRW6 := Lib.hid (HNX.out ls6 hl6 _ HAB.out hr6); clear h6 hl6 hr6)
      go_roundg (ts.length - (j + 1))
      case measure => go_light; omega
      case rel => go_light; exact ⟨j + 1, Va2, Vb2, la2, lb2, V6, ls6, by go_num, by omega, rfl, HS6, HRW6⟩
    · obtain rfl : j = ts.length := by omega
      have c5 : wr.cell? ⟨P5, 0, none⟩ = some (.slice (some ⟨w.heap.size, 0, none⟩) d.A.length d.A.length) := by rw [cell_of_row wr P5 0 _ 22 (0, 0) HSS.out.h5]; rfl
      go_wp2
      go_ret
      refine ⟨_, ls, rfl, ?_, HRW.out.done HINC.out HKEY.out fun a ha hw => (HALL.out a ha).2 ?_, HSS.out.f.keep⟩
      · have := HSS.out.bag.rows (by rw [HRW.out.len]; simp only [maxLen]; omega)
        rw [HRW.out.len] at this
        exact this
      · rcases hw with h | ⟨i, hi, h⟩
        · exact Or.inr h
        · left
          cases hf : (d.Fm a).isSome with
          | true => rfl
          | false =>
            have hn : d.Fm a = none := by simpa using hf
            have := HF.out.flo.hm.no a ha hn (i : Int) (Key.mk (by omega) (by omega))
            rw [this] at h; cases h
end Go.Proofs.Ytlmlgdojmcmllaa
