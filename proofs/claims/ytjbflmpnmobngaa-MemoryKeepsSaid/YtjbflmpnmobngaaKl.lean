/-
  What was stored is loaded again, and nothing outside of its bytes has changed. No condition.
-/
import Derived.Test.YtjbflmpnmobngaaKx
import Derived.Test.YtjbflmpnmobngaaLs
namespace Go.Proofs.Ytjbflmpnmobngaa.memoryKeeps
set_option linter.unusedSimpArgs false
set_option linter.unusedVariables false
open Go.ChangeShapes Go.WideShapes Go.ChangeAt Go.RowKit Go.Joins

theorem cells5 : Try.prog.cellsOf 5 = 1 := by kernel_rfl
set_option maxRecDepth 100000 in
/-- A slice of bytes that came in. -/
theorem open_bytes44 {H : Type} {enc : TypeId × Value → H} {W : World} {v : Value} {d : DataW H} {ps : List MemPlace} (hok : Value.okWide Try.prog W .any 0 44 v) (h : DataW.Trod enc Try.prog W 0 (fun _ => true) true 44 v d ps) :
    ∃ (p : Option Addr) (fl cap : Nat) (f : Nat → Int), v = .slice p fl cap ∧ fl ≤ maxLen ∧ (fl = 0 ∨ ∃ B off, p = some ⟨B, off, none⟩ ∧ BytesIn W B off fl f ∧ fl ≤ cap ∧ cap ≤ maxLen) := by
  obtain ⟨a0, len, cap, rfl⟩ := okWide_slice Try.underlying44 hok
  obtain ⟨fuel, hf⟩ := h
  rcases open_ints Try.underlying44 Try.underlying5 cells5 hf with ⟨hcs, hx⟩ | ⟨a, len', cap', zs, hcs, _, hl, hm, hz, hx, hcell, hwz⟩
  · simp [Value.cells] at hcs
    obtain ⟨rfl, rfl, rfl⟩ := hcs
    exact ⟨none, 0, 0, fun _ => 0, rfl, Nat.zero_le _, Or.inl rfl⟩
  · simp [Value.cells] at hcs
    obtain ⟨rfl, rfl, rfl⟩ := hcs
    by_cases hn : len = 0
    · subst hn; exact ⟨_, 0, _, fun _ => 0, rfl, Nat.zero_le _, Or.inl rfl⟩
    · simp at hz
      obtain ⟨b, off, rfl, hc⟩ := ints_at hcell (by omega)
      refine ⟨_, len, cap, fun j => zs.getD j 0, rfl, Nat.le_trans hl hm, Or.inr ⟨b, off, rfl, fun j hj => ⟨hc j (by omega), ?_⟩, hl, hm⟩⟩
      have hj' : j < zs.length := by omega
      have e : zs.getD j 0 = zs[j] := by simp [hj']
      have hw := bounds_u8 (hwz zs[j] (List.getElem_mem _))
      simp only [e]
      omega
theorem own : ownKnob Try.prog.godebug = none := by kernel_rfl
set_option maxRecDepth 100000 in
theorem lifted (os : Os) (started : os.Started) (H : Type) (enc : TypeId × Value → H) :
    ReturnsInHanded {} Try.checked os 4 .any (Rows.memoryKeepsSpec.pre6 enc Try.prog Try.f4 Rows.memoryKeepsRow.domain false) (Rows.memoryKeepsSpec.post enc Try.prog Try.f4 false true false false) := by
  refine returnsInHanded_of_change (C := Try.checked) own started (by kernel_rfl) Try.func4
    (ChangeSpec.witness6 (enc := enc) (C := Try.checked) false ⟨#[], #[.int .i64 0, .slice none 0 0, .int .i64 0, .int .i64 0, .agg #[.int .i64 0, .int .u64 0, .int .i64 0]], []⟩ 8 (by kernel_rfl) (by kernel_rfl) (by kernel_rfl) (by kernel_rfl)) ?_
  intro W base args ds gs before hval0 hW hcnd _
  have hval : ∀ (j : Nat) t v, Try.f4.params[j]? = some t → args[j]? = some v → Value.okWide Try.prog W .any base t v := hval0
  have hW' := hW
  obtain ⟨p, q, hA0, hV, rfl, hfz, hnd⟩ := hW
  have hA : DataW.TrodAll enc Try.prog W 0 (fun _ => true) true Try.f4.params.toList args.toList ds p := hA0
  rw [Try.params4] at hA hval
  obtain ⟨rfl, rfl⟩ := trodVars_none hV
  simp only [List.append_nil] at hW'
  have hlt : ∀ x ∈ p, x.block < W.heap.size := fun x hx => hW'.lt x hx
  have stay : ∀ {W' : World}, Below W.heap.size W W' → ∀ sp : Nat → Bool, (∀ x ∈ p, sp x.block = true) → DataW.TrodAll enc Try.prog W' 0 sp true [3, 44, 3, 3, 32] args.toList ds p :=
    fun hb sp hsp => all_stay hb sp [3, 44, 3, 3, 32] (by intro t ht; simp at ht; rcases ht with rfl | rfl | rfl | rfl | rfl <;> exact ⟨by kernel_rfl, of_decide_eq_true (by kernel_rfl)⟩) hA hlt hsp
  obtain ⟨v0, vs0, d0, ds0, p0, q0, hargs, rfl, rfl, h0, r0⟩ := trodAll_cons hA
  obtain ⟨v1, vs1, d1, ds1, p1, q1, rfl, rfl, rfl, h1, r1⟩ := trodAll_cons r0
  obtain ⟨v2, vs2, d2, ds2, p2, q2, rfl, rfl, rfl, h2, r2⟩ := trodAll_cons r1
  obtain ⟨v3, vs3, d3, ds3, p3, q3, rfl, rfl, rfl, h3, r3⟩ := trodAll_cons r2
  obtain ⟨v4, vs4, d4, ds4, p4, q4, rfl, rfl, rfl, h4, r4⟩ := trodAll_cons r3
  obtain ⟨rfl, rfl, rfl⟩ := trodAll_nil r4
  obtain rfl : args = #[v0, v1, v2, v3, v4] := by cases args; simp_all
  obtain ⟨a0, rfl, rfl, rfl, w0⟩ := open_int Try.underlying3 (hval 0 3 v0 rfl rfl) h0
  obtain ⟨pf, fl, cap, f, rfl, hfl, hp⟩ := open_bytes44 (hval 1 44 v1 rfl rfl) h1
  obtain ⟨a2, rfl, rfl, rfl, w2⟩ := open_int Try.underlying3 (hval 2 3 v2 rfl rfl) h2
  obtain ⟨a3, rfl, rfl, rfl, w3⟩ := open_int Try.underlying3 (hval 3 3 v3 rfl rfl) h3
  obtain ⟨x10, x11, x12, y10, y11, y12, m1, rfl, rfl, rfl, g10, g11, g12⟩ := open_agg3 Try.underlying32 (by kernel_rfl) cells32 (hval 4 32 v4 rfl rfl) h4
  obtain ⟨k1, e10, rfl, wk1⟩ := DataW.trod_int Try.underlying3 g10
  obtain ⟨n1, e11, rfl, wn1⟩ := DataW.trod_int Try.underlying30 g11
  obtain ⟨b1, e12, rfl, wb1⟩ := DataW.trod_int Try.underlying3 g12
  simp at e10 e11 e12
  subst e10 e11 e12
  have hn1 := bounds_u64 wn1
  clear hA0 hval0
  have done : ∀ (e : Ending) (W' : World), e = .returned (.bool true) ∧ Fresh W W' → ∃ v, e = .returned v ∧ Rows.memoryKeepsSpec.post enc Try.prog Try.f4 false true false false W _ v W' := fun e W' ⟨he, hg⟩ =>
    ⟨_, he, post_of_same (pv := []) hW' (fun _ _ _ => (trodAll_cons_mk (shut_bool Try.underlying4 _) trodAll_mk0)) (fun sp hsp => by rw [Try.params4]; exact stay hg.below sp hsp) (fun _ _ => rfl) (by simp)
      (hg.below.frame _) hg.froz (ok_one (by kernel_rfl) rfl (okWide_bool_mk Try.underlying4 _))⟩
  exact (walk pf fl cap f hfl a0 a2 a3 k1 n1 b1 w3 hn1.1 (by omega) W hp).mono done

theorem over : Rows.memoryKeepsRow.holds Try.pinned (OpenSpec.ofChange Rows.memoryKeepsSpec) :=
  OpenClaim.holds_of_wide 4 Try.f4 rfl rfl rfl rfl rfl rfl rfl ⟨rfl, rfl, rfl, rfl, rfl⟩ rfl rfl rfl rfl rfl (by kernel_rfl) Try.func4 (by kernel_rfl)
    (of_decide_eq_true (by kernel_rfl)) (by unfold Func.isWrapper; first | (rw [if_pos (by decide +kernel)]; kernel_rfl) | (rw [if_neg (by decide +kernel)]; exact ⟨rfl, rfl⟩))
    (fun os started H enc _ => lifted os started H enc)

theorem proved : Rows.MemoryKeepsSaid :=
  over
#print axioms proved
end Go.Proofs.Ytjbflmpnmobngaa.memoryKeeps
