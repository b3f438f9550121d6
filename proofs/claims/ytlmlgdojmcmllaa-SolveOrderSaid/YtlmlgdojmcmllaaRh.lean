/- What is reached, by the reference. -/
import Derived.Test.YtlmlgdojmcmllaaRg
import Derived.Deep.LoopGhost
import Derived.Deep.OwnRows
namespace Go.Proofs.Ytlmlgdojmcmllaa
set_option linter.unusedSimpArgs false
set_option linter.unusedVariables false
open Go.RowKit
open Solve

/-- A graph as small as the statements ask of. -/
structure Sm (g : Graph) : Prop where
  len : g.length ≤ 40
  row : ∀ i, (Solve.row g i).length ≤ 20
theorem sm_few (g : Graph) : Sm (fewG g) := ⟨fewG_len g, row_fewG_len g⟩
theorem Sm.fol {g : Graph} (h : Sm g) (i : Nat) : (Solve.fol g i).length ≤ 20 := Nat.le_trans (nodes_len _ _) (h.row i)
theorem ints_at {l : List Nat} {j : Nat} (h : j < l.length) : (ints l).getD j 0 = (l[j] : Int) := by
  have h' : j < (ints l).length := by rw [ints_len]; exact h
  rw [getD_get h']; simp [ints]
def ReachB (g : Graph) (entry : Int) (b : List Bool) : Prop := b.length = g.length ∧ ∀ i, flag b i = true ↔ (0 ≤ entry ∧ entry < (g.length : Int) ∧ Path g entry.toNat i)
theorem ReachB.unique {g : Graph} {entry : Int} {a b : List Bool} (h : ReachB g entry a) (k : ReachB g entry b) : a = b := flags_eq (h.1.trans k.1.symm) fun i => (h.2 i).trans (k.2 i).symm
theorem reachB_none {g : Graph} {entry : Int} (h : ¬ (0 ≤ entry ∧ entry < (g.length : Int))) : ReachB g entry (List.replicate g.length false) :=
  ⟨by simp, fun i => by rw [flag_rep]; simp; intro h1 h2; exact absurd ⟨h1, h2⟩ h⟩
theorem reachB_met {g : Graph} {e : Nat} (he : e < g.length) {b : List Bool} (h : Reached g e b) (hc : ∀ i, flag b i = true → ∀ k ∈ fol g i, flag b k = true) : ReachB g e b :=
  ⟨h.len, fun i => (met_whole h hc i).trans ⟨fun hp => ⟨by omega, by omega, by simpa using hp⟩, fun hp => by simpa using hp.2.2⟩⟩
/-- Within a round: what is met so far; what was met as it began; has more been found; how far it has come. -/
structure RS (g : Graph) (e : Nat) (b0 b : List Bool) (m : Bool) (i : Nat) (pre : List Nat) : Prop where
  met : Reached g e b
  le : unseen b ≤ unseen b0
  lt : m = true → unseen b < unseen b0
  eq : m = false → b = b0 ∧ (∀ j, j < i → flag b j = true → ∀ k ∈ fol g j, flag b k = true) ∧ (flag b i = true → ∀ k ∈ pre, flag b k = true)
section
variable {g : Graph} {e : Nat} {b0 b : List Bool} {m : Bool} {i : Nat} {pre : List Nat}
theorem RS.start (h : Reached g e b) : RS g e b b false 0 [] := ⟨h, Nat.le_refl _, (fun h => by cases h), fun _ => ⟨rfl, fun j hj => by omega, fun _ k hk => by simp at hk⟩⟩
theorem RS.yes (h : RS g e b0 b m i pre) {k : Nat} (hi : flag b i = true) (hk : k ∈ fol g i) (hb : flag b k = false) (pre' : List Nat) : RS g e b0 (b.set k true) true i pre' := by
  have hk' : k < b.length := by rw [h.met.len]; exact fol_lt hk
  have := unseen_set hk' hb
  have := h.le
  exact ⟨h.met.set hi hk, by omega, (fun _ => by omega), (fun h => by cases h)⟩
theorem RS.no (h : RS g e b0 b m i pre) {k : Nat} (hb : flag b i = true → flag b k = true) : RS g e b0 b m i (pre ++ [k]) :=
  ⟨h.met, h.le, h.lt, fun hm => ⟨(h.eq hm).1, (h.eq hm).2.1, fun hi j hj => by
    rcases List.mem_append.1 hj with e | e
    · exact (h.eq hm).2.2 hi j e
    · have : j = k := by simpa using e
      rw [this]; exact hb hi⟩⟩
theorem RS.next (h : RS g e b0 b m i (fol g i)) : RS g e b0 b m (i + 1) [] :=
  ⟨h.met, h.le, h.lt, fun hm => ⟨(h.eq hm).1, fun j hj => by
    by_cases e : j = i
    · subst e; exact (h.eq hm).2.2
    · exact (h.eq hm).2.1 j (by omega), fun _ k hk => by simp at hk⟩⟩
theorem RS.closed (h : RS g e b0 b false g.length []) : ∀ i, flag b i = true → ∀ k ∈ fol g i, flag b k = true := fun i hi =>
  (h.eq rfl).2.1 i (by have := flag_lt hi; rw [h.met.len] at this; exact this) hi
end
def RM (g : Graph) (e : Nat) (B : Nat) (w wr : World) (b : List Bool) : Prop := Mrk wr B 4 b ∧ Reached g e b ∧ Fresh w wr
theorem made_list (z : Value) (n : Nat) : madeCells #[z] n = (List.replicate n z).toArray := by
  apply Array.ext'
  simp [madeCells, Nat.mod_one, List.map_const']
theorem bool_info : (Try.prog.info? 4).map (fun i => (i.zero, i.size, i.bytes)) = some (some (.bool false), 1, 1) := by kernel_rfl
theorem run_marks (n : Nat) (hn : n ≤ 1000) (w : World) : (Instr.makeSlice 25 (.int .i64 (n : Int)) (.int .i64 (n : Int))).run Try.prog w = .ok (.slice (some ⟨w.heap.size, 0, none⟩) n n) (w.alloc (.cells (List.replicate n (.bool false)).toArray 4)) := by
  have := run_make_row' (P := Try.prog) 25 4 (.bool false) 1 Try.underlying25 bool_info rfl .i64 .i64 n (by omega) (by omega) w
  rw [made_list] at this; exact this
theorem run_rows (n : Nat) (hn : n ≤ 1000) (w : World) : (Instr.makeSlice 22 (.int .i64 (n : Int)) (.int .i64 (n : Int))).run Try.prog w = .ok (.slice (some ⟨w.heap.size, 0, none⟩) n n) (w.alloc (.cells (List.replicate n (.slice none 0 0)).toArray 28)) := by
  have := run_make_row' (P := Try.prog) 22 28 (.slice none 0 0) 24 Try.underlying22 row_info rfl .i64 .i64 n (by omega) (by omega) w
  rw [made_list] at this; exact this
theorem mrk_start (w : World) (t : TypeId) (n e : Nat) : Mrk (w.alloc (.cells ((Array.replicate n (Value.bool false)).setIfInBounds e (Value.bool true)) t)) w.heap.size t ((List.replicate n false).set e true) := by
  refine ⟨?_⟩
  have : (marks ((List.replicate n false).set e true)).toArray = (Array.replicate n (Value.bool false)).setIfInBounds e (Value.bool true) := by
    apply Array.ext'
    simp [marks, List.map_set]
  rw [this]
  exact heap_alloc_new w _
theorem row_of_que {w w1 : World} {u : Value} {l : List Int} {B : Nat} (hB : B < w.heap.size) (h : Que w1 w.heap.size 3 u (nums l)) : Ints (· ≠ B) w1 u l := h.row fun b hb e => by
  have := (h.lt b hb).1
  omega
theorem nodes_cell {ok : Nat → Prop} {w : World} {q : Option Addr} {l : List Nat} {n cap j : Nat} (h : Ints ok w (.slice q n cap) (ints l)) (hj : j < l.length) :
    ∃ B off, q = some ⟨B, off, none⟩ ∧ ok B ∧ w.cell? ⟨B, off + j, none⟩ = some (.int .i64 (l[j] : Int)) := by
  obtain ⟨p, c, hv, _, hh⟩ := h.form
  cases hv
  obtain ⟨B, off, hp, hB, hc⟩ := hh j (by rw [ints_len]; exact hj)
  rw [ints_at hj] at hc
  exact ⟨B, off, hp, hB, hc⟩
theorem take_one {l : List Nat} {j : Nat} (h : j < l.length) : l.take (j + 1) = l.take j ++ [l[j]] := List.take_succ_eq_append_getElem h
def ReachPost (g : Graph) (entry : Int) (w : World) (e : Ending) (w' : World) : Prop := e = .returned (.slice (some ⟨w.heap.size, 0, none⟩) g.length g.length) ∧ ∃ b, Mrk w' w.heap.size 4 b ∧ ReachB g entry b ∧ Fresh w w'
set_option maxHeartbeats 16000000 in
set_option maxRecDepth 100000 in
theorem reachR_any {ok ok' : Nat → Prop} (v : Value) (g : Graph) (entry : Int) (w : World) (hg : Sm g) (h : Rows2 ok ok' w v g) :
    Calls Try.prog 11 #[v, .int .i64 entry] w (ReachPost g entry w) := by
  have HR := Lib.hid h
  obtain ⟨p, cap, rfl, ⟨hc, hm⟩, _⟩ := h.form
  unfold maxLen at hm
  have hl := hg.len
  have HG := Lib.hid hg
  have hmk := run_marks g.length (by omega)
  have H0 : Hid (∀ w : World, Mrk (w.alloc (.cells (List.replicate g.length (.bool false)).toArray 4)) w.heap.size 4 (List.replicate g.length false)) := Lib.hid (fun w => Mrk.new w _ g.length)
  clear h hg
  by_cases hin : 0 ≤ entry ∧ entry < (g.length : Int)
  · obtain ⟨e, rfl⟩ : ∃ e : Nat, entry = e := ⟨entry.toNat, by omega⟩
    have he : e < g.length := by omega
    have hd0 : decide ((e : Int) < 0) = false := by simp
    have hd1 : decide (g.length ≤ e) = false := by simp; omega
    clear hin
    go_enter Try.func11, Try.ntmps11
    go_wp2
    go_loopg [6] (2 * unseen ((List.replicate g.length false).set e true) + 1) (fun k s6 wr => ∃ (b : List Bool) (m : Bool), s6 = .bool m ∧ Hid (k = 2 * unseen b + m.toNat) ∧ Hid (Mrk wr w.heap.size 4 b) ∧ Hid (Fresh w wr) ∧ Hid (Reached g e b) ∧ Hid (m = false → ∀ i, flag b i = true → ∀ k ∈ fol g i, flag b k = true))
    case atStart => exact ⟨_, true, rfl, Lib.hid rfl, Lib.hid (mrk_start w _ _ _), Lib.hid ((Fresh.refl w).alloc _ _), Lib.hid (met_start he), Lib.hid (fun h => by cases h)⟩
    case round =>
      obtain ⟨b, m, rfl, HK, HM, HF, HR2, HC⟩ := hrel
      cases m with
      | false =>
        have HB := Lib.hid (reachB_met he HR2.out (HC.out rfl))
        go_wp2
        go_ret
        exact ⟨rfl, _, HM.out, HB.out, HF.out⟩
      | true =>
        go_wp2
        go_loopg [6, 7] g.length (fun k s6 s7 wi => ∃ (b1 : List Bool) (m1 : Bool) (i : Nat), s6 = .bool m1 ∧ s7 = .int .i64 i ∧ i ≤ g.length ∧ k = g.length - i ∧ Hid (Mrk wi w.heap.size 4 b1) ∧ Hid (Fresh w wi) ∧ Hid (RS g e b b1 m1 i []))
        case atStart => exact ⟨b, false, 0, rfl, rfl, by omega, rfl, HM, HF, Lib.hid (RS.start HR2.out)⟩
        case round =>
          obtain ⟨b1, m1, i, rfl, rfl, hi, rfl, HM1, HF1, HS1⟩ := hrel
          by_cases hlt : i < g.length
          · have hfl := HG.out.fol i
            go_wp2_with ((go_at_call 30; (with_reducible refine (follows_any _ g i _ hlt (by have := HG.out.row i; omega) (HR.out.fresh HF1.out)).mono ?_); rintro e1 w1 ⟨u, rfl, hu, h1⟩; have HQ := Lib.hid (row_of_que (HM1.out.lt) hu); have HM2 := Lib.hid (HM1.out.fresh h1); have HF2 := Lib.hid (HF1.out.trans h1); clear hu h1))
            obtain ⟨q, cap', hq, ⟨hc', hm'⟩, _⟩ := HQ.out.form
            unfold maxLen at hm'
            rw [ints_len] at hq hc'
            subst hq
            go_loopg [6, 9] (fol g i).length (fun k s6 s9 wx => ∃ (b2 : List Bool) (m2 : Bool) (j : Nat), s6 = .bool m2 ∧ s9 = .int .i64 j ∧ j ≤ (fol g i).length ∧ k = (fol g i).length - j ∧ Hid (Mrk wx w.heap.size 4 b2) ∧ Hid (Fresh w wx) ∧ Hid (Ints (· ≠ w.heap.size) wx (.slice q (fol g i).length cap') (ints (fol g i))) ∧ Hid (RS g e b b2 m2 i ((fol g i).take j)))
            case atStart => exact ⟨b1, m1, 0, rfl, rfl, by omega, rfl, HM2, HF2, HQ, HS1⟩
            case round =>
              obtain ⟨b2, m2, j, rfl, rfl, hj, rfl, HM3, HF3, HQ3, HS3⟩ := hrel
              by_cases hjl : j < (fol g i).length
              · obtain ⟨B', off', rfl, hB', hcell⟩ := nodes_cell HQ3.out hjl
                obtain ⟨x, hx⟩ : ∃ x, x = (fol g i)[j] := ⟨_, rfl⟩
                rw [← hx] at hcell
                have hxm : x ∈ fol g i := by rw [hx]; exact List.getElem_mem hjl
                have hxl : x < g.length := fol_lt hxm
                have HT := Lib.hid (take_one hjl)
                rw [← hx] at HT
                have HX := Lib.hid hxm
                clear hx hxm
                have hbl : b2.length = g.length := HS3.out.met.len
                have m0 := HM3.out.cell (i := i) (by omega)
                have m1' := HM3.out.cell (i := x) (by omega)
                have mf := HM3.out.frozen x
                have HBL := Lib.hid hbl
                clear hbl
                cases hbi : flag b2 i with
                | false =>
                  rw [hbi] at m0
                  have HN := Lib.hid (HS3.out.no (k := x) (fun h => by rw [hbi] at h; cases h))
                  rw [← HT.out] at HN
                  clear hbi
                  go_wp2
                  go_roundg ((fol g i).length - (j + 1))
                  case measure => go_light; omega
                  case rel => go_light; exact ⟨b2, m2, j + 1, rfl, by go_num, by omega, rfl, HM3, HF3, HQ3, HN⟩
                | true =>
                  rw [hbi] at m0
                  cases hbx : flag b2 x with
                  | true =>
                    rw [hbx] at m1'
                    have HN := Lib.hid (HS3.out.no (k := x) (fun _ => hbx))
                    rw [← HT.out] at HN
                    clear hbi hbx
                    go_wp2
                    go_roundg ((fol g i).length - (j + 1))
                    case measure => go_light; omega
                    case rel => go_light; exact ⟨b2, m2, j + 1, rfl, by go_num, by omega, rfl, HM3, HF3, HQ3, HN⟩
                  | false =>
                    rw [hbx] at m1'
                    have HN := Lib.hid (HS3.out.yes (k := x) hbi HX.out hbx ((fol g i).take (j + 1)))
                    have HM4 := Lib.hid (HM3.out.set x true)
                    have HF4 := Lib.hid (HF3.out.setCell (p := ⟨w.heap.size, x, none⟩) (Nat.le_refl _) (.bool true))
                    have HQ4 := Lib.hid (HQ3.out.sts (sts_set _ w.heap.size x (.bool true)))
                    clear hbi hbx
                    go_wp2
                    go_roundg ((fol g i).length - (j + 1))
                    case measure => go_light; omega
                    case rel => go_light; exact ⟨_, true, j + 1, rfl, by go_num, by omega, rfl, HM4, HF4, HQ4, HN⟩
              · have HN : Hid (RS g e b b2 m2 (i + 1) []) := by
                  have := HS3.out
                  rw [List.take_of_length_le (by omega)] at this
                  exact Lib.hid this.next
                go_wp2
                go_roundg (g.length - (i + 1))
                case measure => go_light; omega
                case rel => go_light; exact ⟨b2, m2, i + 1, rfl, by go_num, by omega, rfl, HM3, HF3, HN⟩
          · obtain rfl : i = g.length := by omega
            have hlt1 := HS1.out.lt
            have HN := Lib.hid (show m1 = false → ∀ i, flag b1 i = true → ∀ k ∈ fol g i, flag b1 k = true from fun h => by subst h; exact HS1.out.closed)
            have HR3 := Lib.hid HS1.out.met
            have HLE := HS1.out.le
            go_wp2
            go_roundg (2 * unseen b1 + m1.toNat)
            case measure =>
              go_light
              have h1 := HK.out
              have h2 : Bool.toNat true = 1 := rfl
              rw [h2] at h1
              cases m1 with
              | false => simp; omega
              | true => have := hlt1 rfl; simp; omega
            case rel => go_light; exact ⟨b1, m1, rfl, Lib.hid rfl, HM1, HF1, HR3, HN⟩
  · have HB := Lib.hid (reachB_none (g := g) (entry := entry) hin)
    have HF : Hid (Fresh w (w.alloc (.cells (List.replicate g.length (.bool false)).toArray 4))) := Lib.hid ((Fresh.refl w).alloc _ _)
    by_cases h0 : entry < 0
    · go_enter Try.func11, Try.ntmps11
      go_wp2
      go_ret
      exact ⟨rfl, _, H0.out w, HB.out, HF.out⟩
    · have h1 : (g.length : Int) ≤ entry := by omega
      have hd : decide (entry < 0) = false := by simp; omega
      go_enter Try.func11, Try.ntmps11
      go_wp2
      go_ret
      exact ⟨rfl, _, H0.out w, HB.out, HF.out⟩
end Go.Proofs.Ytlmlgdojmcmllaa
