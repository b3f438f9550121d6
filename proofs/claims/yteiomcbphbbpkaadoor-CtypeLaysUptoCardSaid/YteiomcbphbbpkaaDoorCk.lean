/- Rows of types copied: Clone. -/
import Derived.Test.YteiomcbphbbpkaaDoorCj
namespace Go.Proofs.YteiomcbphbbpkaaDoor
set_option linter.unusedSimpArgs false
set_option linter.unusedVariables false
open Go.RowKit
variable {ok : Nat → Prop}
theorem eq_nil28 (w : World) : (binOp .eql 28 (.slice none 0 0) (.slice none 0 0)).run Tryd.prog w = .ok (.bool true) w := by kernel_rfl
theorem eq_some28 (B off n cap : Nat) (w : World) : (binOp .eql 28 (.slice (some ⟨B, off, none⟩) n cap) (.slice none 0 0)).run Tryd.prog w = .ok (.bool false) w := by kernel_rfl
/-- A new row of the same cells; nil stays nil. -/
theorem clone_any (ks : Tys) (p : Option Addr) (n cap : Nat) (w0 w : World) (hf : Fresh w0 w) (hk : Kids ok w0 ks p n cap) (hn : n ≤ 9) :
    Calls Tryd.prog 79 #[.slice p n cap] w fun e w' => (∃ v xs, e = .returned v ∧ ks.cells ok w0 xs ∧ w'.ownsRow w.heap.size 30 6 v n xs) ∧ Fresh w w' := by
  obtain ⟨i0, hi, hz0, hz1, hz2⟩ := info_parts info30
  obtain ⟨news, hc, hl, hx⟩ := hk.cells
  have HC := Lib.hid hc
  have HL := Lib.hid hl
  have HF := Lib.hid hf
  clear hc hl hf
  rcases hx with ⟨rfl, rfl, rfl, rfl⟩ | ⟨B, off, rfl, hx⟩
  · clear hk
    have hnl := eq_nil28
    go_enter Tryd.func79, Tryd.ntmps79
    go_wp2_with fail
    go_returns
    exact ⟨⟨_, [], rfl, HC.out, World.ownsRow_nil ..⟩, (by (repeat' first | with_reducible exact Fresh.refl _ | with_reducible assumption | with_reducible refine Fresh.alloc ?_ _ _ | with_reducible refine Fresh.drew ?_ | with_reducible refine Fresh.drewN ?_ _ | with_reducible refine Fresh.setCell ?_ ?_ _ | with_reducible refine Fresh.trans ?_ (by assumption) | (simp; done) | (simp; omega)))⟩
  · have HX := Lib.hid hx
    clear hx hk
    have hnl := eq_some28
    have hown : (w.alloc (.cells #[] 30)).ownsRow w.heap.size 30 6 (.slice (some ⟨w.heap.size, 0, none⟩) 0 0) 0 [] := World.ownsRow_lit w #[] 0 (Nat.le_refl _) (by decide) (by decide)
    have HO := Lib.hid hown
    have HG := Lib.hid (HF.out.trans ((Fresh.refl w).alloc #[] 30))
    clear hown
    go_enter Tryd.func79, Tryd.ntmps79
    go_wp2_with (at_builtin; refine wpList_append_own _ rfl _ _ 28 rfl w.heap.size 30 i0 (.agg #[.int .i64 0, .int .i64 0, .int .i64 0, .bool false, .string ⟨#[]⟩, .slice none 0 0]) 6 72 Tryd.underlying28 hi hz0 hz1 hz2 rfl (by decide) _ _ _ rfl HO.out ⟨B, off, none⟩ n cap news rfl HL.out ?c1 ?c2 ?c3 ?c4 ?c5 ?_)
    case c1 => exact fun j u hj => HG.out.atA (HX.out j u hj)
    case c2 => exact HC.out.one
    case c3 => unfold maxLen; omega
    case c4 => omega
    case c5 => simp
    intro v' w2 hown' hgrow _
    have HW := Lib.hid hown'
    have HFF := Lib.hid (((Fresh.refl w).alloc #[] 30).grown hgrow (fun k hk => (HO.out.lt k hk).1))
    clear hown' hgrow
    go_wp2_with fail
    go_ret
    exact ⟨⟨_, news, rfl, HC.out, by simpa using HW.out⟩, HFF.out⟩
end Go.Proofs.YteiomcbphbbpkaaDoor
