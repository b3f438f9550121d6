/- Fields in memory; a layout with one member more. -/
import Derived.Test.YteiomcbphbbpkaaGreatDoorCt
namespace Go.Proofs.YteiomcbphbbpkaaGreatDoor
set_option linter.unusedSimpArgs false
set_option linter.unusedVariables false
open Go.RowKit

/-- A member: its name, its type, its place. -/
structure Fd where
  nm : ByteArray
  h : Hd
  ks : Tys
  off : Int
/-- The cells of a row of members. -/
def Fcells (ok : Nat → Prop) (w : World) : List Fd → List Value → Prop
  | [], xs => xs = []
  | f :: r, xs => ∃ p n cap ys, xs = .string f.nm :: .int .i64 f.h.kind :: .int .i64 f.h.size :: .int .i64 f.h.len :: .bool f.h.flag :: .string f.h.name :: .slice p n cap :: .int .i64 f.off :: ys ∧ Kids ok w f.ks p n cap ∧ Fcells ok w r ys
theorem Fcells.turn {ok ok' : Nat → Prop} {w w' : World} (hf : ∀ B i v, ok B → w.cell? ⟨B, i, none⟩ = some v → w'.cell? ⟨B, i, none⟩ = some v) (ho : ∀ B, B < w.heap.size → ok B → ok' B) : ∀ {a : List Fd} {xs : List Value}, Fcells ok w a xs → Fcells ok' w' a xs
  | [], _, h => h
  | _ :: _, _, ⟨p, n, cap, ys, e, hk, hr⟩ => ⟨p, n, cap, ys, e, hk.turn hf ho, Fcells.turn hf ho hr⟩
theorem Fcells.later {ok : Nat → Prop} {w w' : World} (hf : Fresh w w') {a : List Fd} {xs : List Value} (h : Fcells ok w a xs) : Fcells ok w' a xs := h.turn (fun _ _ _ _ hv => hf.at' hv) (fun _ _ h => h)
theorem Fcells.append {ok : Nat → Prop} {w : World} : ∀ {a b : List Fd} {xs ys : List Value}, Fcells ok w a xs → Fcells ok w b ys → Fcells ok w (a ++ b) (xs ++ ys)
  | [], b, xs, ys, ha, hb => by
    have : xs = [] := ha
    subst this
    exact hb
  | f :: r, b, xs, ys, ha, hb => by
    obtain ⟨p, n, cap, zs, rfl, hk, hr⟩ := ha
    exact ⟨p, n, cap, zs ++ ys, rfl, hk, Fcells.append hr hb⟩
theorem Fcells.length {ok : Nat → Prop} {w : World} : ∀ {a : List Fd} {xs : List Value}, Fcells ok w a xs → xs.length = a.length * 8
  | [], _, h => by rw [show _ = [] from h]; rfl
  | _ :: _, _, ⟨p, n, cap, ys, e, hk, hr⟩ => by
    subst e
    have := hr.length
    simp
    omega
theorem Fcells.one {ok : Nat → Prop} {w : World} : ∀ {a : List Fd} {xs : List Value}, Fcells ok w a xs → ∀ u ∈ xs, u.oneCell' = true
  | [], _, h => by rw [show _ = [] from h]; simp
  | _ :: _, _, ⟨p, n, cap, ys, e, hk, hr⟩ => by
    subst e
    intro u hu
    simp only [List.mem_cons] at hu
    rcases hu with rfl | rfl | rfl | rfl | rfl | rfl | rfl | rfl | hu
    all_goals first | rfl | exact hr.one u hu
theorem info43 : (Tryz.prog.info? 43).map (fun i => (i.zero, i.size, i.bytes)) = some (some (.agg #[.string ⟨#[]⟩, .int .i64 0, .int .i64 0, .int .i64 0, .bool false, .string ⟨#[]⟩, .slice none 0 0, .int .i64 0]), 8, 96) := by kernel_rfl
def mul (n a : Int) : Int := (n + a - 1) / a * a
theorem mul_bd (n a : Int) (h0 : 0 ≤ n) (h1 : 1 ≤ a) : n ≤ mul n a ∧ mul n a ≤ n + a - 1 := by
  unfold mul
  have h2 := Int.emod_add_mul_ediv (n + a - 1) a
  have h3 := Int.emod_nonneg (n + a - 1) (b := a) (by omega)
  have h4 := Int.emod_lt_of_pos (n + a - 1) (b := a) (by omega)
  rw [Int.mul_comm] at h2
  omega
theorem multiple_any (n a : Int) (h0 : 0 ≤ n) (h1 : n ≤ 1099511627776) (h2 : 1 ≤ a) (h3 : a ≤ 8) (w : World) : Calls Tryz.prog 31 #[.int .i64 n, .int .i64 a] w fun e w' => e = .returned (.int .i64 (mul n a)) ∧ Fresh w w' := by
  have hb := mul_bd n a h0 h2
  have HM := Lib.hid (show mul n a = (n + a - 1) / a * a from rfl)
  rw [HM.out] at hb
  go_enter Tryz.func31, Tryz.ntmps31
  go_wp2
  go_returns
  exact ⟨ret_int HM.out.symm, (by (repeat' first | with_reducible exact Fresh.refl _ | with_reducible assumption | with_reducible refine Fresh.alloc ?_ _ _ | with_reducible refine Fresh.drew ?_ | with_reducible refine Fresh.drewN ?_ _ | with_reducible refine Fresh.setCell ?_ ?_ _ | with_reducible refine Fresh.trans ?_ (by assumption) | (simp; done) | (simp; omega)))⟩
end Go.Proofs.YteiomcbphbbpkaaGreatDoor
