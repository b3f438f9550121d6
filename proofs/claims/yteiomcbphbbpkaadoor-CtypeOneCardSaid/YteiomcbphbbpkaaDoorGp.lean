/-
  The program gives the document's text, depth, chunk, kind and promotion of every type, and tells every two apart, whatever the two rows of numbers are that the types are made of. No condition.
-/
import Derived.Test.YteiomcbphbbpkaaDoorGm
import Derived.Test.YteiomcbphbbpkaaDoorCards
import Derived.Test.YteiomcbphbbpkaaDoorTie
import Derived.SevenTiedAt
import Derived.LaidMore
import Derived.SizedLaws
import Derived.Stop.Joined
namespace Go.Proofs.YteiomcbphbbpkaaDoor.ctypeOne
set_option linter.unusedSimpArgs false
set_option linter.unusedVariables false
open Go.ChangeShapes Go.WideShapes Go.ChangeAt Go.RowKit Go.Joins

theorem own : ownKnob Tryd.prog.godebug = none := by kernel_rfl
set_option maxRecDepth 100000 in
theorem door_met (os : Os) (args : Array Value) : laidMetH Tryd.prog Rows.ctypeOneRow.laid ((World.doorLaid Tryd.prog 24 os).forCall (fun _ _ => 0) ⟨#[], args, []⟩).memory :=
  laidMetH_of_parts3 (fuel := 8) (laidMet_of_run' 8 (by kernel_rfl) (by kernel_rfl)) (by kernel_rfl) (by kernel_rfl)
section
variable {H : Type} {enc : TypeId × Value → H} {W : World} {held : Bool}
theorem plain_at {a : Addr} {len : Nat} {V : Nat → Value} (hl : 0 < len) (h : ∀ i, i < len → W.cell? (a.add i) = some (V i)) : ∃ b off, a = ⟨b, off, none⟩ ∧ ∀ i, i < len → W.cell? ⟨b, off + i, none⟩ = some (V i) := by
  obtain ⟨b, off, spot⟩ := a
  have h0 := World.cell?_spot (h 0 hl)
  simp only [Addr.add] at h0
  subst h0
  exact ⟨b, off, rfl, fun i hi => by have := h i hi; rwa [Go.WideShapes.add_plain] at this⟩
set_option maxRecDepth 100000 in
theorem open_code_b {n : Nat} {cs : List Value} {x : DataW H × List MemPlace} (h : DataW.trod enc Tryd.prog W 0 (fun _ => true) held n 23 cs = some x) :
    ∃ (p : Option Addr) (m cap : Nat) (zs : Nat → Int), cs = [.slice p m cap] ∧ CodeAt W zs m 0 p m cap ∧ (m = 0 ∨ ∃ elems spare, x.1 = .slice elems spare ∧ m = elems.length) ∧ ∀ i, -9223372036854775808 ≤ zs i ∧ zs i ≤ 9223372036854775807 := by
  rcases Deep.open_slice1 Tryd.underlying23 cells3 h with ⟨rfl, -⟩ | ⟨a, len, cap, m, n', V, D, Pl, rfl, -, hl, hm, hmm, hx, hi⟩
  · exact ⟨_, _, _, fun _ => 0, rfl, ⟨rfl, Nat.le_refl _, Nat.zero_le _, Or.inl rfl⟩, Or.inl rfl, fun _ => by simp⟩
  · simp at hmm
    by_cases hz : len = 0
    · subst hz; exact ⟨_, _, _, fun _ => 0, rfl, ⟨rfl, hl, hm, Or.inl rfl⟩, Or.inl rfl, fun _ => by simp⟩
    obtain ⟨b, off, rfl, hc⟩ := plain_at (V := V) (len := len) (by omega) (fun i hlt => (hi i (by omega)).1)
    obtain ⟨zs, hzs⟩ := Deep.choose_lt (α := Int) (n := len) (p := fun i z => V i = .int .i64 z ∧ -9223372036854775808 ≤ z ∧ z ≤ 9223372036854775807) (fun i hlt => by
      obtain ⟨z, e, -, wz⟩ := DataW.trod_int Tryd.underlying3 (hi i (by omega)).2
      exact ⟨z, by simpa using e, bounds_i64 wz⟩)
    refine ⟨_, len, cap, fun i => if i < len then zs i else 0, rfl, ⟨by omega, hl, hm, Or.inr ⟨b, off, rfl, fun j hj => ?_⟩⟩, Or.inr ⟨(List.range len).map D, _, by rw [hx], by simp⟩, fun i => ?_⟩
    · rw [Nat.zero_add, hc j hj, (hzs j hj).1]
      simp only [if_pos hj]
    · by_cases hi2 : i < len
      · simp only [if_pos hi2]; exact (hzs i hi2).2
      · simp only [if_neg hi2]; simp
set_option maxRecDepth 100000 in
theorem open_int_b {v : Value} {d : DataW H} {ps : List MemPlace} (hok : Value.okWide Tryd.prog W .any 0 23 v) (h : DataW.Trod enc Tryd.prog W 0 (fun _ => true) true 23 v d ps) :
    ∃ (p : Option Addr) (m cap : Nat) (zs : Nat → Int), v = .slice p m cap ∧ CodeAt W zs m 0 p m cap ∧ (m = 0 ∨ ∃ elems spare, d = .slice elems spare ∧ m = elems.length) ∧ ∀ i, -9223372036854775808 ≤ zs i ∧ zs i ≤ 9223372036854775807 := by
  obtain ⟨a0, len, cap, rfl⟩ := okWide_slice Tryd.underlying23 hok
  obtain ⟨fuel, hf⟩ := h
  obtain ⟨p, m, c, zs, e, h1, h2, h3⟩ := open_code_b hf
  simp [Value.cells] at e
  obtain ⟨rfl, rfl, rfl⟩ := e
  exact ⟨_, _, _, zs, rfl, h1, h2, h3⟩
end
theorem bytes3 : Tryd.prog.bytesOf 3 = 8 := by kernel_rfl
/-- The reach's bound on how many numbers come in. -/
theorem reach_b {H : Type} {ts : List TypeId} {ds : List (DataW H)} {m : Nat} (hsz : (DataW.weightsEach Tryd.prog ts ds).all (· ≤ reachBytes) = true) (ht : ts[0]? = some 23) (hd : m = 0 ∨ ∃ elems spare, ds[0]? = some (.slice elems spare) ∧ m = elems.length) : m ≤ 17592186043904 := by
  rcases hd with rfl | ⟨elems, spare, hd, rfl⟩
  · exact Nat.zero_le _
  · have := sized_slice hsz ht hd Tryd.underlying23
    rw [bytes3] at this
    have hr : reachBytes = 140737488351232 := by decide
    rw [hr] at this
    omega
theorem tab_vars {W : World} {name : String} {k : IntKind} {zs : List Int} {rest : List (String × DataW Unit)} {ps : List MemPlace} {g : Nat} {t e : TypeId} {n : Nat}
    (hg : Tryd.prog.globalNamed name = some g) (hty : (Tryd.prog.globals[g]?).map (·.type) = some t) (ht : Tryd.prog.underlying t = some (.array n e)) (he : Tryd.prog.underlying e = some (.int k)) (hce : Tryd.prog.cellsOf e = 1) (hct : Tryd.prog.cellsOf t = n)
    (h : DataW.LaidVars Tryd.prog W ((name, Lib.tabData k zs) :: rest) ps) : Lib.TabIs Tryd.prog W name k zs := by
  obtain ⟨g', t', cs, fuel, p, q, hg', ht', hvar, hd, _, _⟩ := h
  obtain rfl := Option.some.inj (hg.symm.trans hg')
  obtain rfl := Option.some.inj (hty.symm.trans ht')
  unfold Lib.TabIs
  rw [hvar, ← Lib.cells_of_tab ht he hce hct hd]
set_option maxRecDepth 100000 in
theorem tab_of {W : World} (h : laidMet Tryd.prog Rows.ctypeOneRow.laid W) : Lib.TabIs Tryd.prog W "internal/strconv.uint64pow10" .u64 Lib.pow10Tab := by
  obtain ⟨ps, ⟨_, _, _, _, _, _, _, _, _, _, ⟨_, _, _, _, _, q2, _, _, _, _, h3, _⟩, _⟩, _⟩ := h
  have h4 : DataW.LaidVars Tryd.prog W (("internal/strconv.uint64pow10", Lib.tabData .u64 Lib.pow10Tab) :: []) q2 := h3
  exact tab_vars (g := 0) (t := 145) (e := 134) (n := 20) (by kernel_rfl) (by kernel_rfl) (by kernel_rfl) (by kernel_rfl) (by kernel_rfl) (by kernel_rfl) h4

set_option maxRecDepth 100000 in
theorem lifted (os : Os) (started : os.Started) (H : Type) (enc : TypeId × Value → H) :
    ReturnsInHanded {} Tryd.checked os 4 .any (fun w args => (Rows.ctypeOneSpec.pre enc Tryd.prog Tryd.f4 [] false w args ∧ laidMetH Tryd.prog Rows.ctypeOneRow.laid w) ∧ sizedMet enc Tryd.prog Tryd.f4 (OpenSpec.ofChange Rows.ctypeOneSpec) false w args)
      (Rows.ctypeOneSpec.post enc Tryd.prog Tryd.f4 false true false false) := by
  refine returnsInHanded_of_change_and (C := Tryd.checked) (X := fun w _ => laidMetH Tryd.prog Rows.ctypeOneRow.laid w) (fun _ _ _ hh h => h.of_heap hh) own started (by kernel_rfl) Tryd.func4
    (ChangeSpec.witness_shaped (enc := enc) (C := Tryd.checked) (os := os) (X := fun w _ => laidMetH Tryd.prog Rows.ctypeOneRow.laid w) false (World.doorLaid Tryd.prog 24 os) #[.slice none 0 0, .slice none 0 0] 8 rfl (World.shaped_of_RefB (by kernel_rfl) (by kernel_rfl)) (by kernel_rfl) (by kernel_rfl) (by kernel_rfl) (door_met os _)) ?_
  intro W base args ds gs before hval0 hW _ hsz0 hL _
  have hval : ∀ (j : Nat) t v, Tryd.f4.params[j]? = some t → args[j]? = some v → Value.okWide Tryd.prog W .any base t v := hval0
  have hW' := hW
  obtain ⟨p, q, hA0, hV, rfl, hfz, hnd⟩ := hW
  have hA : DataW.TrodAll enc Tryd.prog W 0 (fun _ => true) true Tryd.f4.params.toList args.toList ds p := hA0
  rw [Tryd.params4] at hA hval
  obtain ⟨rfl, rfl⟩ := trodVars_none hV
  simp only [List.append_nil] at hW'
  have hlt : ∀ x ∈ p, x.block < W.heap.size := fun x hx => hW'.lt x hx
  have stay : ∀ {W' : World}, Below W.heap.size W W' → ∀ sp : Nat → Bool, (∀ x ∈ p, sp x.block = true) → DataW.TrodAll enc Tryd.prog W' 0 sp true [23, 23] args.toList ds p :=
    fun hb sp hsp => all_stay hb sp [23, 23] (by intro t ht; simp at ht; subst ht <;> exact ⟨by kernel_rfl, of_decide_eq_true (by kernel_rfl)⟩) hA hlt hsp
  obtain ⟨v0, vs0, d0, ds0, p0, q0, hargs, rfl, rfl, h0, r0⟩ := trodAll_cons hA
  obtain ⟨v1, vs1, d1, ds1, p1, q1, rfl, rfl, rfl, h1, r1⟩ := trodAll_cons r0
  obtain ⟨rfl, rfl, rfl⟩ := trodAll_nil r1
  obtain rfl : args = #[v0, v1] := by cases args; simp_all
  obtain ⟨p1, n1, c1, zs, rfl, k0, hd0, hzb⟩ := open_int_b (hval 0 23 v0 rfl rfl) h0
  obtain ⟨p2, n2, c2, ys, rfl, k1, -, -⟩ := open_int_b (hval 1 23 v1 rfl rfl) h1
  have hn : n1 ≤ 17592186043904 := reach_b hsz0 (by rw [Tryd.params4]; rfl) (hd0.imp id (fun ⟨el, sp, e, hl⟩ => ⟨el, sp, by rw [e]; rfl, hl⟩))
  have hL2 : laidMet Tryd.prog Rows.ctypeOneRow.laid W := hL
  clear hA0 hval0
  have done : ∀ (e : Ending) (W' : World), e = .returned (.bool true) ∧ Below W.heap.size W W' → ∃ v, e = .returned v ∧ Rows.ctypeOneSpec.post enc Tryd.prog Tryd.f4 false true false false W _ v W' := fun e W' ⟨he, hg⟩ =>
    ⟨_, he, post_below (pv := []) hW' (fun _ _ _ => (trodAll_cons_mk (shut_bool Tryd.underlying4 _) trodAll_mk0)) (fun sp hsp => by rw [Tryd.params4]; exact stay hg sp hsp) (fun _ _ => rfl) (by simp) hg
      (ok_one (by kernel_rfl) rfl (okWide_bool_mk Tryd.underlying4 _))⟩
  exact (one_law zs ys n1 n2 p1 p2 c1 c2 W k0 k1 hzb hn (tab_of hL2)).mono (fun e W' ⟨he, hg⟩ => done e W' ⟨he, hg.below⟩)

theorem over : Rows.CtypeOneSaid :=
  OpenClaim.holds_of_wide 4 Tryd.f4 rfl rfl rfl rfl rfl rfl rfl ⟨rfl, rfl, rfl, rfl, rfl⟩ rfl rfl rfl rfl rfl (by kernel_rfl) Tryd.func4 (by kernel_rfl)
    (of_decide_eq_true (by kernel_rfl)) (by unfold Func.isWrapper; first | (rw [if_pos (by decide +kernel)]; kernel_rfl) | (rw [if_neg (by decide +kernel)]; exact ⟨rfl, rfl⟩))
    (fun os started H enc _ => lifted os started H enc)
theorem carded : Rows.CtypeOneCardSaid :=
  Claim7.holds_tied_plain_at .later [] [.data, .data, .data] true (true, "5d455d5f608575a3ed3b2f9d2585b25c8a04a65638691f4cf9b55211d4b52b06") true
    over (fun _ h => by cases h) (by kernel_rfl) (fun _ h => by cases h) ctypeOne_row_tie rfl ⟨rfl, rfl⟩ (by kernel_rfl) rfl
    (fun f fn hf hfn => by
      obtain rfl : f = 4 := Option.some.inj ((show Tryd.prog.funcNamed "alembic/alembiclaw05.CtypeOne" = some 4 by kernel_rfl).symm.trans hf) |>.symm
      obtain rfl : fn = Tryd.f4 := (Option.some.inj (Tryd.func4.symm.trans hfn)).symm
      exact ⟨by kernel_rfl, fun j t ht => by
        rw [Tryd.params4] at ht
        have hm : t ∈ [23, 23] := by simpa using Array.mem_of_getElem? ht
        have hall : ([23, 23].all fun u => !Tryd.prog.wantsStandIn u) = true := by kernel_rfl
        exact (show Tryd.prog.wantsStandIn t = false by simpa using List.all_eq_true.1 hall t hm)⟩)
    (by kernel_rfl)
#print axioms carded
end Go.Proofs.YteiomcbphbbpkaaDoor.ctypeOne
