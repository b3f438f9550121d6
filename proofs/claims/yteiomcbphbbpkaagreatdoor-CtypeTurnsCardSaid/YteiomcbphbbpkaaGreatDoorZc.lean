/- A value turned by the operations of a conversion. -/
import Derived.Test.YteiomcbphbbpkaaGreatDoorZb
import Derived.Deep.CutRange
namespace Go.Proofs.YteiomcbphbbpkaaGreatDoor
set_option linter.unusedSimpArgs false
set_option linter.unusedVariables false
open Go.RowKit

theorem Ints.slice {b : Nat} {w : World} {v : Value} {l : List Int} (h : Ints b w v l) : ∃ p c, v = .slice p l.length c := by
  rcases h.2 with ⟨rfl, h0⟩ | ⟨g, cap, cur, rfl, -⟩
  · exact ⟨none, 0, by rw [h0]⟩
  · exact ⟨_, _, rfl⟩
theorem Ints.len {b : Nat} {w : World} {v : Value} {l : List Int} (h : Ints b w v l) : l.length ≤ 9223372036854775807 := by
  rcases h.2 with ⟨rfl, h0⟩ | ⟨g, cap, cur, rfl, q0, -, q1, q2, -⟩
  · omega
  · unfold maxLen at q2; omega
theorem Ints.at' {b : Nat} {w : World} {p : Option Addr} {n c : Nat} {l : List Int} (h : Ints b w (.slice p n c) l) {k : Nat} (hk : k < l.length) : ∃ g, p = some ⟨g, 0, none⟩ ∧ b ≤ g ∧ w.cell? ⟨g, k, none⟩ = some (.int .i64 (l.getD k 0)) := by
  have hl := h.1
  simp at hl
  rcases h.2 with ⟨e, h0⟩ | ⟨g, cap, cur, e, hb, -⟩
  · omega
  · cases e
    refine ⟨g, rfl, hb, ?_⟩
    have h' : w.ownsRow b 3 1 (.slice (some ⟨g, 0, none⟩) l.length c) l.length (l.map (Value.int .i64)) := h
    rw [h'.cellAt _ (by omega)]
    simp [hk]
theorem Blk.othr {w : World} {b : Nat} {vs : List Value} (h : Blk w b vs) {g : Nat} (hg : b ≠ g) (i : Nat) (u : Value) : Blk (w.setCell ⟨g, i, none⟩ u) b vs := by
  have hk : (w.setCell ⟨g, i, none⟩ u).heap[b]? = w.heap[b]? := Below.heap_setCell _ _ _ _ hg
  exact ⟨fun j v hv => (World.cell?_of_block hk).trans (h.1 j v hv), fun o => (World.frozen?_of_block hk).trans (h.2.1 o), by simpa [World.setCell] using h.2.2⟩
theorem Blk.putt {w : World} {b : Nat} {vs : List Value} (h : Blk w b vs) {i : Nat} (hi : i < vs.length) (u : Value) : Blk (w.setCell ⟨b, i, none⟩ u) b (vs.set i u) := by
  have hc := h.1 i _ (List.getElem?_eq_getElem hi)
  refine ⟨fun j v hv => ?_, fun o => ?_, by simpa [World.setCell] using h.2.2⟩
  · by_cases e : i = j
    · subst e
      rw [List.getElem?_set_self hi] at hv
      cases hv
      exact World.cell?_setCell_same _ _ _ hc
    · rw [List.getElem?_set_ne e] at hv
      rw [World.cell?_setCell_other _ _ _ _ (by simp [e])]
      exact h.1 j v hv
  · rw [World.frozen?_setCell]
    exact h.2.1 o
theorem Ints.parts {b : Nat} {w : World} {p : Option Addr} {n c : Nat} {l : List Int} (h : Ints b w (.slice p n c) l) : ∃ g, b ≤ g ∧ (0 < l.length → p = some ⟨g, 0, none⟩) ∧ ∀ k, k < l.length → w.cell? ⟨g, k, none⟩ = some (.int .i64 (l.getD k 0)) := by
  by_cases h0 : 0 < l.length
  · obtain ⟨g, rfl, hb, -⟩ := h.at' h0
    refine ⟨g, hb, fun _ => rfl, fun k hk => ?_⟩
    obtain ⟨g', e, -, hc⟩ := h.at' hk
    injection e with e
    injection e with e _ _
    subst e
    exact hc
  · exact ⟨b, Nat.le_refl _, fun e => absurd e h0, fun k hk => by omega⟩
theorem drop_cons {l : List Int} {i : Nat} (h : i < l.length) : l.drop i = l.getD i 0 :: l.drop (i + 1) := by
  rw [List.drop_eq_getElem_cons h]
  simp [h]
@[reducible] def TYV (h : Hd) (p : Option Addr) (n cap : Nat) : Value := .agg #[.int .i64 h.kind, .int .i64 h.size, .int .i64 h.len, .bool h.flag, .string h.name, .slice p n cap]
@[reducible] def V3 (v : Int × Int × Int) : Value := .agg #[.int .i64 v.1, .int .u64 v.2.1, .int .i64 v.2.2]
@[reducible] def L3 (v : Int × Int × Int) : List Value := [.int .i64 v.1, .int .u64 v.2.1, .int .i64 v.2.2]
/-- What stands while a value is turned: its box, the answer's; the row of operations. -/
structure TW (w X : World) (v : Int × Int × Int) (g : Nat) (l : List Int) : Prop where
  fr : Fresh w X
  bv : Blk X w.heap.size (L3 v)
  br : Blk X (w.heap.size + 1 + 1 + 1) (L3 (0, 0, 0))
  lo : w.heap.size + 1 + 1 + 1 < g
  ops : ∀ k, k < l.length → X.cell? ⟨g, k, none⟩ = some (.int .i64 (l.getD k 0))
theorem TW.later {w X Y : World} {v : Int × Int × Int} {g : Nat} {l : List Int} (h : TW w X v g l) (f : Fresh X Y) : TW w Y v g l :=
  ⟨h.fr.trans f, h.bv.fresh f, h.br.fresh f, h.lo, fun k hk => f.at' (h.ops k hk)⟩
theorem TW.put {w X : World} {v : Int × Int × Int} {g : Nat} {l : List Int} (h : TW w X v g l) (a b c : Int) :
    TW w (((X.setCell ⟨w.heap.size, 0, none⟩ (.int .i64 a)).setCell ⟨w.heap.size, 1, none⟩ (.int .u64 b)).setCell ⟨w.heap.size, 2, none⟩ (.int .i64 c)) (a, b, c) g l := by
  refine ⟨((h.fr.setCell (Nat.le_refl _) _).setCell (Nat.le_refl _) _).setCell (Nat.le_refl _) _, ?_, ?_, h.lo, fun k hk => ?_⟩
  · exact ((h.bv.putt (i := 0) (by simp) _).putt (i := 1) (by simp) _).putt (i := 2) (by simp) _
  · exact ((h.br.othr (by omega) _ _).othr (by omega) _ _).othr (by omega) _ _
  · have hg := h.lo
    have ne : ∀ i, (⟨w.heap.size, i, none⟩ : Addr) ≠ ⟨g, k, none⟩ := fun i e => by have := congrArg Addr.block e; simp at this; omega
    rw [World.cell?_setCell_other _ _ _ _ (ne _), World.cell?_setCell_other _ _ _ _ (ne _), World.cell?_setCell_other _ _ _ _ (ne _)]
    exact h.ops k hk
/-- What the call answers and leaves. -/
def Turned (w : World) (l : List Int) (v : Int × Int × Int) (e : Ending) (w' : World) : Prop := (∃ r : (Int × Int × Int) × Bool, TurnR l (v, true) r ∧ e = .returned (.tuple #[V3 r.1, .bool r.2])) ∧ Fresh w w'
section
set_option maxRecDepth 100000
set_option maxHeartbeats 4000000
theorem turned_any (v : Int × Int × Int) (a b : Hd) (ho : opsOk a b = true) (ks js : Tys) (ok ok2 : Nat → Prop) (p q : Option Addr) (n m cap mc : Nat) (w0 w : World) (hf : Fresh w0 w) (hks : Kids ok w0 ks p n cap) (hjs : Kids ok2 w0 js q m mc) :
    Calls Tryz.prog 6 #[V3 v, TYV a p n cap, TYV b q m mc] w (Turned w (opsL a b) v) := by
  obtain ⟨v1, v2, v3⟩ := v
  have HK := Lib.hid hks
  have HJ := Lib.hid hjs
  have HF := Lib.hid hf
  have OPS := Lib.hid (fun X (f : Fresh w0 X) => ops_any a b ks js p q n m cap mc w0 X f hks hjs)
  rw [ho] at OPS
  clear hks hjs hf ho
  go_enter Tryz.func6, Tryz.ntmps6
  go_wp2_with fail
  go_at_call 18; refine (OPS.out _ (HF.out.trans (by repeat' first | exact Fresh.refl _ | refine Fresh.alloc ?_ _ _))).mono ?_; rintro e w1 ⟨⟨u, rfl, hI⟩, h1⟩
  obtain ⟨g0, c0, rfl⟩ := hI.slice
  obtain ⟨g, hg, hp, hc⟩ := hI.parts
  have hlen := hI.len
  have X0 : Hid (TW w w1 (v1, v2, v3) g (opsL a b)) := Lib.hid ⟨(by refine Fresh.trans ?_ h1; repeat' first | exact Fresh.refl _ | refine Fresh.alloc ?_ _ _), ((((Blk.new w #[.int .i64 v1, .int .u64 v2, .int .i64 v3] 31).fresh ((Fresh.refl _).alloc _ _)).fresh ((Fresh.refl _).alloc _ _)).fresh ((Fresh.refl _).alloc _ _)).fresh h1, (by
      have := (Blk.new (((w.alloc (.cells #[.int .i64 v1, .int .u64 v2, .int .i64 v3] 31)).alloc (.cells #[.int .i64 a.kind, .int .i64 a.size, .int .i64 a.len, .bool a.flag, .string a.name, .slice p n cap] 25)).alloc (.cells #[.int .i64 b.kind, .int .i64 b.size, .int .i64 b.len, .bool b.flag, .string b.name, .slice q m mc] 25)) #[.int .i64 0, .int .u64 0, .int .i64 0] 31).fresh h1
      simpa only [World.size_alloc] using this), (by simp only [World.size_alloc] at hg; omega), hc⟩
  clear hI hg hc h1 OPS HF
  generalize hl : opsL a b = l at *
  have HL := Lib.hid hl
  have HP := Lib.hid hp
  clear hl hp
  go_wp2_with fail
  go_loopw [9, 20] (fun s9 s20 wz => ∃ (i : Nat) (r : (Int × Int × Int) × Bool), i ≤ l.length ∧ s20 = .int .i64 i ∧ s9 = .bool r.2 ∧ Hid (∀ z, TurnR (l.drop i) r z → TurnR l ((v1, v2, v3), true) z) ∧ Hid (TW w wz r.1 g l)) (fun _ s20 _ => l.length - (intOf s20).toNat)
  case atStart => exact ⟨0, ((v1, v2, v3), true), by omega, rfl, rfl, Lib.hid (fun z hz => hz), X0⟩
  case round =>
    obtain ⟨i, r, hi, rfl, rfl, HT, Y⟩ := hrel
    clear X0
    obtain ⟨⟨r1, r2, r3⟩, rb⟩ := r
    by_cases hlt : i < l.length
    · have hd := HP.out (by omega)
      subst hd
      have c0 := Y.out.ops i hlt
      obtain ⟨o, ho⟩ : ∃ o, o = l.getD i 0 := ⟨_, rfl⟩
      rw [← ho] at c0
      have HD : Hid (l.drop i = o :: l.drop (i + 1)) := Lib.hid (by rw [ho]; exact drop_cons hlt)
      clear ho
      cases rb
      · go_wp2_with fail
        go_roundw
        case rel => exact ⟨i + 1, ((r1, r2, r3), false), by omega, by go_num, rfl, Lib.hid (fun z hz => HT.out z (by rw [HD.out]; unfold TurnR; rw [if_neg (by simp)]; exact hz)), Y⟩
        case measure => simp [intOf]; omega
      · have b0 := Y.out.bv.1 0 _ rfl
        have b1 := Y.out.bv.1 1 _ rfl
        have b2 := Y.out.bv.1 2 _ rfl
        go_wp2_with fail
        clear c0 b0 b1 b2
        go_at_call 27; refine (mach.eval1_any o r1 r2 r3 _).mono ?_; rintro e w2 ⟨t, rfl, h2⟩
        have Y2 := Lib.hid (Y.out.later h2)
        have HT2 : Hid (∀ z, TurnR (l.drop (i + 1)) (mach.eval1L o r1 r2 t) z → TurnR l ((v1, v2, v3), true) z) := Lib.hid (fun z hz => HT.out z (by rw [HD.out]; unfold TurnR; rw [if_pos rfl]; exact ⟨t, hz⟩))
        clear h2
        generalize mach.eval1L o r1 r2 t = R at *
        have b0 := Y2.out.bv.1 0 _ rfl
        have b1 := Y2.out.bv.1 1 _ rfl
        have b2 := Y2.out.bv.1 2 _ rfl
        have bf := Y2.out.bv.2.1
        have Y3 := Lib.hid (Y2.out.put R.1.1 R.1.2.1 R.1.2.2)
        go_wp2_with fail
        go_roundw
        case rel => exact ⟨i + 1, R, by omega, by go_num, rfl, HT2, Y3⟩
        case measure => simp [intOf]; omega
    · have hil : i = l.length := by omega
      subst hil
      have b0 := Y.out.bv.1 0 _ rfl
      have b1 := Y.out.bv.1 1 _ rfl
      have b2 := Y.out.bv.1 2 _ rfl
      have e0 := Y.out.br.1 0 _ rfl
      have e1 := Y.out.br.1 1 _ rfl
      have e2 := Y.out.br.1 2 _ rfl
      have ef := Y.out.br.2.1
      have HR : Hid (TurnR l ((v1, v2, v3), true) ((r1, r2, r3), rb)) := Lib.hid (HT.out _ (by rw [List.drop_length]; rfl))
      go_wp2_with fail
      all_goals (refine bodyPost_ret (v := ?_) ?_ rfl ?_; rotate_left 1; focus (simp [results, Tryz.results6, go_sem, *]; (try rfl); done))
      all_goals exact ⟨⟨((r1, r2, r3), rb), HR.out, rfl⟩, (by (repeat' first | with_reducible exact Y.out.fr | with_reducible refine Fresh.alloc ?_ _ _ | with_reducible refine Fresh.drew ?_ | with_reducible refine Fresh.setCell ?_ ?_ _ | (simp; done) | (simp; omega)))⟩
end
end Go.Proofs.YteiomcbphbbpkaaGreatDoor
