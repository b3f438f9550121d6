/- Rows of types copied: Clone. -/
import Derived.Test.YteiomcbphbbpkaaGreatDoorCj
namespace Go.Proofs.YteiomcbphbbpkaaGreatDoor
set_option linter.unusedSimpArgs false
set_option linter.unusedVariables false
open Go.RowKit
variable {ok : Nat → Prop}
theorem eq_nil28 (w : World) : (binOp .eql 23 (.slice none 0 0) (.slice none 0 0)).run Tryz.prog w = .ok (.bool true) w := by kernel_rfl
theorem eq_some28 (B off n cap : Nat) (w : World) : (binOp .eql 23 (.slice (some ⟨B, off, none⟩) n cap) (.slice none 0 0)).run Tryz.prog w = .ok (.bool false) w := by kernel_rfl
/-- A new row of the same cells; nil stays nil. -/
theorem clone_any (ks : Tys) (p : Option Addr) (n cap : Nat) (w0 w : World) (hf : Fresh w0 w) (hk : Kids ok w0 ks p n cap) (hn : n ≤ 9) :
    Calls Tryz.prog 64 #[.slice p n cap] w fun e w' => (∃ v xs, e = .returned v ∧ ks.cells ok w0 xs ∧ w'.ownsRow w.heap.size 25 6 v n xs) ∧ Fresh w w' := by
  obtain ⟨i0, hi, hz0, hz1, hz2⟩ := info_parts info25
  obtain ⟨news, hc, hl, hx⟩ := hk.cells
  have HC := Lib.hid hc
  have HL := Lib.hid hl
  have HF := Lib.hid hf
  clear hc hl hf
  rcases hx with ⟨rfl, rfl, rfl, rfl⟩ | ⟨B, off, rfl, hx⟩
  · clear hk
    have hnl := eq_nil28
    go_enter Tryz.func64, Tryz.ntmps64
    go_wp2_with fail
    go_returns
    exact ⟨⟨_, [], rfl, HC.out, World.ownsRow_nil ..⟩, (by (repeat' first | with_reducible exact Fresh.refl _ | with_reducible assumption | with_reducible refine Fresh.alloc ?_ _ _ | with_reducible refine Fresh.drew ?_ | with_reducible refine Fresh.drewN ?_ _ | with_reducible refine Fresh.setCell ?_ ?_ _ | with_reducible refine Fresh.trans ?_ (by assumption) | (simp; done) | (simp; omega)))⟩
  · have HX := Lib.hid hx
    clear hx hk
    have hnl := eq_some28
    have hown : (w.alloc (.cells #[] 25)).ownsRow w.heap.size 25 6 (.slice (some ⟨w.heap.size, 0, none⟩) 0 0) 0 [] := World.ownsRow_lit w #[] 0 (Nat.le_refl _) (by decide) (by decide)
    have HO := Lib.hid hown
    have HG := Lib.hid (HF.out.trans ((Fresh.refl w).alloc #[] 25))
    clear hown
    go_enter Tryz.func64, Tryz.ntmps64
    go_wp2_with (at_builtin; refine wpList_append_own _ rfl _ _ 23 rfl w.heap.size 25 i0 (.agg #[.int .i64 0, .int .i64 0, .int .i64 0, .bool false, .string ⟨#[]⟩, .slice none 0 0]) 6 72 Tryz.underlying23 hi hz0 hz1 hz2 rfl (by decide) _ _ _ rfl HO.out ⟨B, off, none⟩ n cap news rfl HL.out ?c1 ?c2 ?c3 ?c4 ?c5 ?_)
    case c1 => exact fun j u hj => HG.out.atA (HX.out j u hj)
    case c2 => exact HC.out.one
    case c3 => unfold maxLen; omega
    case c4 => omega
    case c5 => simp
    intro v' w2 hown' hgrow _
    have HW := Lib.hid hown'
    have HFF := Lib.hid (((Fresh.refl w).alloc #[] 25).grown hgrow (fun k hk => (HO.out.lt k hk).1))
    clear hown' hgrow
    go_wp2_with fail
    go_ret
    exact ⟨⟨_, news, rfl, HC.out, by simpa using HW.out⟩, HFF.out⟩
end Go.Proofs.YteiomcbphbbpkaaGreatDoor
