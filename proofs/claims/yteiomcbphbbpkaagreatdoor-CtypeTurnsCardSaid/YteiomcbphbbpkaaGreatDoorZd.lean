/- Which numbers a type holds; which values are right; the types that one number tells. -/
import Derived.Test.YteiomcbphbbpkaaGreatDoorZc
namespace Go.Proofs.YteiomcbphbbpkaaGreatDoor
set_option linter.unusedSimpArgs false
set_option linter.unusedVariables false
open Go.RowKit

/-- The types that one number tells: 1 to 9. -/
def h9 (c : Int) : Hd := (one (fun _ => c) 1).h
theorem one_nine : ([1, 2, 3, 4, 5, 6, 7, 8, 9].all fun c : Int => A9.any fun a => a.kind == (h9 c).kind && a.size == (h9 c).size && a.len == (h9 c).len && a.flag == (h9 c).flag && a.name.data.toList == (h9 c).name.data.toList) = true := by kernel_rfl
theorem kids_nine : ([1, 2, 3, 4, 5, 6, 7, 8, 9].all fun c : Int => match (one (fun _ => c) 1).ks with | .nil => true | _ => false) = true := by kernel_rfl
theorem hd_ext {a b : Hd} (h1 : a.kind = b.kind) (h2 : a.size = b.size) (h3 : a.len = b.len) (h4 : a.flag = b.flag) (h5 : a.name.data.toList = b.name.data.toList) : a = b := by
  obtain ⟨k, s, l, f, nm⟩ := a
  obtain ⟨k', s', l', f', nm'⟩ := b
  simp only at h1 h2 h3 h4 h5
  subst h1 h2 h3 h4
  have : nm = nm' := by
    obtain ⟨⟨d⟩⟩ := nm
    obtain ⟨⟨d'⟩⟩ := nm'
    simp only at h5
    rw [h5]
  rw [this]
theorem h9_mem {c : Int} (h1 : 1 ≤ c) (h2 : c ≤ 9) : h9 c ∈ A9 ∧ (one (fun _ => c) 1).ks = .nil := by
  have hc : c ∈ ([1, 2, 3, 4, 5, 6, 7, 8, 9] : List Int) := by simp; omega
  have a := List.all_eq_true.1 one_nine c hc
  have b := List.all_eq_true.1 kids_nine c hc
  obtain ⟨x, hx, hh⟩ := List.any_eq_true.1 a
  simp only [Bool.and_eq_true, beq_iff_eq] at hh
  obtain ⟨⟨⟨⟨e1, e2⟩, e3⟩, e4⟩, e5⟩ := hh
  refine ⟨hd_ext e1 e2 e3 e4 e5 ▸ hx, ?_⟩
  split at b
  · assumption
  · cases b
def rightB (v : Int × Int × Int) : Bool :=
  if v.1 = 0 then v.2.1 == 0 && v.2.2 == 0 else if v.1 = 1 then decide (v.2.1 < 4294967296) && v.2.2 == 0 else if v.1 = 2 ∨ v.1 = 3 then v.2.2 == 0 else if v.1 = 4 then v.2.2 != 0 else false
section
set_option maxRecDepth 100000
set_option maxHeartbeats 2000000
theorem right_any (v : Int × Int × Int) (w : World) : Calls Tryz.prog 10 #[V3 v] w fun e w' => e = .returned (.bool (rightB v)) ∧ Fresh w w' := by
  obtain ⟨k, n, b⟩ := v
  go_enter Tryz.func10, Tryz.ntmps10
  go_wp2
  all_goals (go_returns; go_light)
  all_goals refine ⟨?_, (by repeat' first | with_reducible exact Fresh.refl _ | with_reducible refine Fresh.alloc ?_ _ _)⟩
  all_goals (congr 2)
  all_goals simp at *
  all_goals (try subst_vars)
  all_goals first | (simp [rightB, *]; done) | (simp [rightB, *]; omega)
end
end Go.Proofs.YteiomcbphbbpkaaGreatDoor
