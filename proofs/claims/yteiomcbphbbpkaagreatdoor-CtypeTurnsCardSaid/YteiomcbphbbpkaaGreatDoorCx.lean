/- Rows of members copied: Clone. -/
import Derived.Test.YteiomcbphbbpkaaGreatDoorCw
namespace Go.Proofs.YteiomcbphbbpkaaGreatDoor
set_option linter.unusedSimpArgs false
set_option linter.unusedVariables false
open Go.RowKit
theorem eq_nil34 (w : World) : (binOp .eql 46 (.slice none 0 0) (.slice none 0 0)).run Tryz.prog w = .ok (.bool true) w := by kernel_rfl
theorem eq_some34 (B off n cap : Nat) (w : World) : (binOp .eql 46 (.slice (some ⟨B, off, none⟩) n cap) (.slice none 0 0)).run Tryz.prog w = .ok (.bool false) w := by kernel_rfl
/-- A slice that holds members. -/
def FSlice (ok : Nat → Prop) (w : World) (fs : List Fd) (p : Option Addr) (n cap : Nat) : Prop :=
  n = fs.length ∧ n ≤ cap ∧ cap ≤ maxLen ∧ ∃ xs, Fcells ok w fs xs ∧ ((p = none ∧ n = 0 ∧ cap = 0) ∨ ∃ B off, p = some ⟨B, off, none⟩ ∧ ok B ∧ ∀ j u, xs[j]? = some u → w.cell? ⟨B, off + j, none⟩ = some u)
theorem FSlice.turn {ok ok' : Nat → Prop} {w w' : World} {fs : List Fd} {p : Option Addr} {n cap : Nat} (h : FSlice ok w fs p n cap) (hf : ∀ B i v, ok B → w.cell? ⟨B, i, none⟩ = some v → w'.cell? ⟨B, i, none⟩ = some v) (ho : ∀ B, ok B → ok' B) : FSlice ok' w' fs p n cap := by
  obtain ⟨a, b, c, xs, hc, d⟩ := h
  refine ⟨a, b, c, xs, hc.turn hf (fun B _ => ho B), ?_⟩
  rcases d with d | ⟨B, off, e, hB, hx⟩
  · exact Or.inl d
  · exact Or.inr ⟨B, off, e, ho B hB, fun j u hj => hf B _ u hB (hx j u hj)⟩
theorem FSlice.later {ok : Nat → Prop} {w w' : World} {fs : List Fd} {p : Option Addr} {n cap : Nat} (h : FSlice ok w fs p n cap) (hf : Fresh w w') : FSlice ok w' fs p n cap := h.turn (fun _ _ _ _ hv => hf.at' hv) (fun _ h => h)
/-- A new row of the same cells; nil stays nil. -/
theorem clone59_any {ok : Nat → Prop} (fs : List Fd) (p : Option Addr) (n cap : Nat) (w0 w : World) (hf : Fresh w0 w) (hk : FSlice ok w0 fs p n cap) (hn : n ≤ 1000) :
    Calls Tryz.prog 41 #[.slice p n cap] w fun e w' => (∃ v xs, e = .returned v ∧ Fcells ok w0 fs xs ∧ w'.ownsRow w.heap.size 43 8 v n xs) ∧ Fresh w w' := by
  obtain ⟨i0, hi, hz0, hz1, hz2⟩ := info_parts info43
  obtain ⟨hnl, hcap, hmax, news, hc, hx⟩ := hk
  have HC := Lib.hid hc
  have HL := Lib.hid (show news.length = n * 8 by rw [hc.length, hnl])
  have HF := Lib.hid hf
  clear hc hf hmax
  rcases hx with ⟨rfl, rfl, rfl⟩ | ⟨B, off, rfl, hB, hx⟩
  · have HE : Hid (news = []) := Lib.hid (List.length_eq_zero_iff.1 (by rw [HL.out]))
    clear hnl
    have hq := eq_nil34
    go_enter Tryz.func41, Tryz.ntmps41
    go_wp2_with fail
    go_returns
    exact ⟨⟨_, news, rfl, HC.out, by rw [HE.out]; exact World.ownsRow_nil ..⟩, (by (repeat' first | with_reducible exact Fresh.refl _ | with_reducible assumption | with_reducible refine Fresh.alloc ?_ _ _ | with_reducible refine Fresh.drew ?_ | with_reducible refine Fresh.drewN ?_ _ | with_reducible refine Fresh.setCell ?_ ?_ _ | with_reducible refine Fresh.trans ?_ (by assumption) | (simp; done) | (simp; omega)))⟩
  · have HX := Lib.hid hx
    clear hx hnl
    have hq := eq_some34
    have HO := Lib.hid (show (w.alloc (.cells #[] 43)).ownsRow w.heap.size 43 8 (.slice (some ⟨w.heap.size, 0, none⟩) 0 0) 0 [] from World.ownsRow_lit w #[] 0 (Nat.le_refl _) (by decide) (by decide))
    have HG := Lib.hid (HF.out.trans ((Fresh.refl w).alloc #[] 43))
    go_enter Tryz.func41, Tryz.ntmps41
    go_wp2_with (at_builtin; refine wpList_append_own _ rfl _ _ 46 rfl w.heap.size 43 i0 (.agg #[.string ⟨#[]⟩, .int .i64 0, .int .i64 0, .int .i64 0, .bool false, .string ⟨#[]⟩, .slice none 0 0, .int .i64 0]) 8 96 Tryz.underlying46 hi hz0 hz1 hz2 rfl (by decide) _ _ _ rfl HO.out ⟨B, off, none⟩ n cap news rfl HL.out ?c1 ?c2 ?c3 ?c4 ?c5 ?_)
    case c1 => exact fun j u hj => HG.out.atA (by rw [Go.WideShapes.add_plain]; exact HX.out j u hj)
    case c2 => exact HC.out.one
    case c3 => unfold maxLen; omega
    case c4 => omega
    case c5 => simp
    intro v' w2 hown' hgrow _
    have HW := Lib.hid hown'
    have HFF := Lib.hid (((Fresh.refl w).alloc #[] 43).grown hgrow (fun k hk => (HO.out.lt k hk).1))
    clear hown' hgrow
    go_wp2_with fail
    go_ret
    exact ⟨⟨_, news, rfl, HC.out, by simpa using HW.out⟩, HFF.out⟩
end Go.Proofs.YteiomcbphbbpkaaGreatDoor
