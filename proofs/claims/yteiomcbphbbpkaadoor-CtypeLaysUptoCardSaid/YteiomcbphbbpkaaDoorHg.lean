/- sameLayout of two that are the same. -/
import Derived.Test.YteiomcbphbbpkaaDoorHe
import Derived.Test.YteiomcbphbbpkaaDoorHf
import Derived.Test.YteiomcbphbbpkaaDoorFy
namespace Go.Proofs.YteiomcbphbbpkaaDoor
set_option linter.unusedSimpArgs false
set_option linter.unusedVariables false
open Go.RowKit

theorem FSlice.of_ownT {ok : Nat → Prop} {w : World} {base n cap : Nat} {p : Option Addr} {fs : List Fd} {xs : List Value} (h : w.ownsRow base 59 8 (.slice p n cap) n xs) (hk : Fcells ok w fs xs) : FSlice (fun _ => True) w fs p n cap := by
  have hl := hk.length
  have h8 : xs.length = n * 8 := h.1
  refine ⟨by omega, ?_, ?_, xs, hk.mono (fun _ _ _ => trivial), ?_⟩
  · rcases h.2 with ⟨e, h0⟩ | ⟨g, c, cur, e, -, -, hc, -⟩
    · cases e; exact Nat.le_refl _
    · cases e; exact hc
  · rcases h.2 with ⟨e, h0⟩ | ⟨g, c, cur, e, -, -, -, hm, -⟩
    · cases e; exact Nat.zero_le _
    · cases e; exact hm
  · rcases h.2 with ⟨e, h0⟩ | ⟨g, c, cur, e, -, -, -, -, -⟩
    · cases e; exact Or.inl ⟨rfl, h0, rfl⟩
    · cases e
      refine Or.inr ⟨g, 0, rfl, trivial, fun j u hu => ?_⟩
      have := h.cells (g := g) rfl j u hu
      rw [Go.WideShapes.add_plain] at this
      exact this
set_option maxRecDepth 100000 in
set_option maxHeartbeats 8000000 in
theorem sameLay_any {ok1 ok2 : Nat → Prop} (nm : ByteArray) (un : Bool) (sz al : Int) (fs : List Fd) (p1 p2 : Option Addr) (n c1 c2 : Nat) (w0 w : World) (hf : Fresh w0 w) (h1 : FSlice ok1 w0 fs p1 n c1) (h2 : FSlice ok2 w0 fs p2 n c2) (hwf : ∀ x ∈ fs, WFh x.h x.ks ∧ x.ks.wf) :
    Calls Tryd.prog 16 #[.agg #[.string nm, .bool un, .slice p1 n c1, .int .i64 sz, .int .i64 al], .agg #[.string nm, .bool un, .slice p2 n c2, .int .i64 sz, .int .i64 al]] w fun e w' => e = .returned (.bool true) ∧ Fresh w w' := by
  have HNL : Hid (n = fs.length) := Lib.hid h1.1
  have hn1 : n ≤ c1 := h1.2.1
  have hn2 : n ≤ c2 := h2.2.1
  have hm1 : c1 ≤ 9223372036854775807 := h1.2.2.1
  have hm2 : c2 ≤ 9223372036854775807 := h2.2.2.1
  have H1 := Lib.hid h1
  have H2 := Lib.hid h2
  have HF := Lib.hid hf
  have HWF := Lib.hid hwf
  have T1 : Hid (Blk ((w.alloc (.cells #[.string nm, .bool un, .slice p1 n c1, .int .i64 sz, .int .i64 al] 36)).alloc (.cells #[.string nm, .bool un, .slice p2 n c2, .int .i64 sz, .int .i64 al] 36)) w.heap.size [.string nm, .bool un, .slice p1 n c1, .int .i64 sz, .int .i64 al]) := Lib.hid ((Blk.new w #[.string nm, .bool un, .slice p1 n c1, .int .i64 sz, .int .i64 al] 36).fresh ((Fresh.refl _).alloc _ _))
  have T2 : Hid (Blk ((w.alloc (.cells #[.string nm, .bool un, .slice p1 n c1, .int .i64 sz, .int .i64 al] 36)).alloc (.cells #[.string nm, .bool un, .slice p2 n c2, .int .i64 sz, .int .i64 al] 36)) (w.heap.size + 1) [.string nm, .bool un, .slice p2 n c2, .int .i64 sz, .int .i64 al]) := Lib.hid (by have := Blk.new (w.alloc (.cells #[.string nm, .bool un, .slice p1 n c1, .int .i64 sz, .int .i64 al] 36)) #[.string nm, .bool un, .slice p2 n c2, .int .i64 sz, .int .i64 al] 36; simpa only [World.size_alloc] using this)
  have F0 : Hid (Fresh w ((w.alloc (.cells #[.string nm, .bool un, .slice p1 n c1, .int .i64 sz, .int .i64 al] 36)).alloc (.cells #[.string nm, .bool un, .slice p2 n c2, .int .i64 sz, .int .i64 al] 36))) := Lib.hid (by (repeat' first | with_reducible exact Fresh.refl _ | with_reducible assumption | with_reducible refine Fresh.alloc ?_ _ _ | with_reducible refine Fresh.drew ?_ | with_reducible refine Fresh.drewN ?_ _ | with_reducible refine Fresh.setCell ?_ ?_ _ | with_reducible refine Fresh.trans ?_ (by assumption) | (simp; done) | (simp; omega)))
  clear h1 h2 hf hwf
  have en : (n != n) = false := by simp
  go_enter Tryd.func16, Tryd.ntmps16
  go_wp2_with fail
  go_loopw [44] (fun i wr => ∃ k : Nat, k ≤ n ∧ i = .int .i64 k ∧ Hid (Fresh ((w.alloc (.cells #[.string nm, .bool un, .slice p1 n c1, .int .i64 sz, .int .i64 al] 36)).alloc (.cells #[.string nm, .bool un, .slice p2 n c2, .int .i64 sz, .int .i64 al] 36)) wr)) (fun i _ => n - (intOf i).toNat)
  case atStart => exact ⟨0, by omega, rfl, Lib.hid (Fresh.refl _)⟩
  case round =>
    obtain ⟨k, hk, rfl, HW⟩ := hrel
    have l1 := (T1.out.fresh HW.out).1 2 _ rfl
    have l2 := (T2.out.fresh HW.out).1 2 _ rfl
    have z1 := cell_lt l1
    have z2 := cell_lt l2
    simp only at z1 z2
    by_cases hlt : k < n
    · obtain ⟨x, hx⟩ : ∃ x, fs[k]? = some x := ⟨_, List.getElem?_eq_getElem (by have := HNL.out; omega)⟩
      have HWx := Lib.hid (HWF.out x (List.mem_of_getElem? hx))
      obtain ⟨B1, o1, q1, m1, d1, rfl, hk1, a1⟩ := H1.out.at' hx
      obtain ⟨B2, o2, q2, m2, d2, rfl, hk2, a2⟩ := H2.out.at' hx
      have FX := Lib.hid (HF.out.trans (F0.out.trans HW.out))
      have A1 := Lib.hid (a1.later FX.out)
      have A2 := Lib.hid (a2.later FX.out)
      have hlt' : (k : Int) < (n : Int) := by omega
      have CS : Hid (∀ X, Fresh w0 X → Calls Tryd.prog 17 #[.agg #[.int .i64 x.h.kind, .int .i64 x.h.size, .int .i64 x.h.len, .bool x.h.flag, .string x.h.name, .slice q1 m1 d1], .agg #[.int .i64 x.h.kind, .int .i64 x.h.size, .int .i64 x.h.len, .bool x.h.flag, .string x.h.name, .slice q2 m2 d2]] X fun e w' => e = .returned (.bool true) ∧ Fresh X w') := Lib.hid (fun X hX => by
        have := sameRR_any x.h x.ks HWx.out.1 HWx.out.2 ok1 ok2 x.h x.ks q1 q2 m1 m2 d1 d2 w0 X hX hk1 hk2 HWx.out.1 HWx.out.2
        rw [eqT_refl] at this
        exact this)
      have HX := Lib.hid hx
      clear hx hk1 hk2 a1 a2
      go_wp2_with fail
      go_upto_region 6 with fail
      have E : Hid (Fresh wr wr.drew) := Lib.hid (Fresh.refl wr).drew
      go_region_held3 (fun w' => w'.cell? ⟨w.heap.size, 2, none⟩ = some (.slice (some ⟨B1, o1, none⟩) n c1) ∧ w'.cell? ⟨w.heap.size + 1, 2, none⟩ = some (.slice (some ⟨B2, o2, none⟩) n c2) ∧ w'.cell? ⟨B1, o1 + k * 8, none⟩ = some (.string x.nm) ∧ w'.cell? ⟨B1, o1 + k * 8 + 1, none⟩ = some (.int .i64 x.h.kind) ∧ w'.cell? ⟨B1, o1 + k * 8 + 2, none⟩ = some (.int .i64 x.h.size) ∧ w'.cell? ⟨B1, o1 + k * 8 + 3, none⟩ = some (.int .i64 x.h.len) ∧ w'.cell? ⟨B1, o1 + k * 8 + 4, none⟩ = some (.bool x.h.flag) ∧ w'.cell? ⟨B1, o1 + k * 8 + 5, none⟩ = some (.string x.h.name) ∧ w'.cell? ⟨B1, o1 + k * 8 + 6, none⟩ = some (.slice q1 m1 d1) ∧ w'.cell? ⟨B1, o1 + k * 8 + 7, none⟩ = some (.int .i64 x.off) ∧ w'.cell? ⟨B2, o2 + k * 8, none⟩ = some (.string x.nm) ∧ w'.cell? ⟨B2, o2 + k * 8 + 1, none⟩ = some (.int .i64 x.h.kind) ∧ w'.cell? ⟨B2, o2 + k * 8 + 2, none⟩ = some (.int .i64 x.h.size) ∧ w'.cell? ⟨B2, o2 + k * 8 + 3, none⟩ = some (.int .i64 x.h.len) ∧ w'.cell? ⟨B2, o2 + k * 8 + 4, none⟩ = some (.bool x.h.flag) ∧ w'.cell? ⟨B2, o2 + k * 8 + 5, none⟩ = some (.string x.h.name) ∧ w'.cell? ⟨B2, o2 + k * 8 + 6, none⟩ = some (.slice q2 m2 d2) ∧ w'.cell? ⟨B2, o2 + k * 8 + 7, none⟩ = some (.int .i64 x.off)) (first | done | exact ⟨E.out.at' l1, E.out.at' l2, (A1.out.later E.out).c0, (A1.out.later E.out).c1, (A1.out.later E.out).c2, (A1.out.later E.out).c3, (A1.out.later E.out).c4, (A1.out.later E.out).c5, (A1.out.later E.out).c6, (A1.out.later E.out).c7, (A2.out.later E.out).c0, (A2.out.later E.out).c1, (A2.out.later E.out).c2, (A2.out.later E.out).c3, (A2.out.later E.out).c4, (A2.out.later E.out).c5, (A2.out.later E.out).c6, (A2.out.later E.out).c7⟩) (first | (go_at_call 17; (with_reducible refine (CS.out _ (FX.out.trans E.out)).mono ?_); rintro e w7 ⟨rfl, h7⟩; have E := Lib.hid (E.out.trans h7); clear h7))
      all_goals
        have FE := Lib.hid (HW.out.trans E.out)
        clear l1 l2 z1 z2
        go_wp2_with fail
        go_roundw
        case rel => exact ⟨k + 1, by omega, by go_num, FE⟩
        case measure => simp [intOf]; omega
    · obtain rfl : k = n := by omega
      go_wp2_with fail
      go_returns
      exact ⟨rfl, F0.out.trans HW.out⟩
end Go.Proofs.YteiomcbphbbpkaaDoor
