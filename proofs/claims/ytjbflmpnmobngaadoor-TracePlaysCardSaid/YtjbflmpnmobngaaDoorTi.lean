/-
  The program gives the document's answer at every Answer, Call and SameEvent, and what is handed in stays, whatever the name, the Sig, the arguments, the script and the number are. No condition.
-/
import Derived.Test.YtjbflmpnmobngaaDoorTh
import Derived.Test.YtjbflmpnmobngaaDoorDp
import Derived.Test.YtjbflmpnmobngaaDoorCards
import Derived.Test.YtjbflmpnmobngaaDoorTie
import Derived.SevenTiedAt
import Derived.LaidMore
import Derived.SizedLaws
import Derived.Stop.Joined
namespace Go.Proofs.YtjbflmpnmobngaaDoor.tracePlays
set_option linter.unusedSimpArgs false
set_option linter.unusedVariables false
open Go.ChangeShapes Go.WideShapes Go.ChangeAt Go.RowKit Go.Joins

theorem own : ownKnob Tryd.prog.godebug = none := by kernel_rfl
set_option maxRecDepth 100000 in
theorem door_met (os : Os) (args : Array Value) : laidMetH Tryd.prog Rows.tracePlaysRow.laid ((World.doorLaid Tryd.prog 24 os).forCall (fun _ _ => 0) ⟨#[], args, []⟩).memory :=
  laidMetH_of_parts3 (fuel := 8) (laidMet_of_run' 8 (by kernel_rfl) (by kernel_rfl)) (by kernel_rfl) (by kernel_rfl)
theorem cells2 : Tryd.prog.cellsOf 2 = 1 := by kernel_rfl
theorem cells24 : Tryd.prog.cellsOf 24 = 2 := by kernel_rfl
section
variable {H : Type} {enc : TypeId × Value → H} {W : World} {held : Bool}
theorem plain_at {a : Addr} {len : Nat} {V : Nat → Value} (hl : 0 < len) (h : ∀ i, i < len → W.cell? (a.add i) = some (V i)) : ∃ b off, a = ⟨b, off, none⟩ ∧ ∀ i, i < len → W.cell? ⟨b, off + i, none⟩ = some (V i) := by
  obtain ⟨b, off, spot⟩ := a
  have h0 := World.cell?_spot (h 0 hl)
  simp only [Addr.add] at h0
  subst h0
  exact ⟨b, off, rfl, fun i hi => by have := h i hi; rwa [Go.WideShapes.add_plain] at this⟩
/-- A row of numbers that came in. -/
theorem open_nums {t e : TypeId} (hu : Tryd.prog.underlying t = some (.slice e)) (he : Tryd.prog.underlying e = some (.int .i64)) (hc1 : Tryd.prog.cellsOf e = 1) {n : Nat} {cs : List Value} {x : DataW H × List MemPlace} (h : DataW.trod enc Tryd.prog W 0 (fun _ => true) held n t cs = some x) :
    ∃ (p : Option Addr) (m cap : Nat) (zs : Nat → Int), cs = [.slice p m cap] ∧ NumsAt W p m zs ∧ m ≤ cap ∧ cap ≤ maxLen ∧ (p = none → m = 0 ∧ cap = 0) ∧ (m = 0 ∨ ∃ elems spare, x.1 = .slice elems spare ∧ m = elems.length) := by
  rcases Deep.open_slice1 hu hc1 h with ⟨rfl, -⟩ | ⟨a, len, cap, m, n', V, D, Pl, rfl, -, hl, hm, hmm, hx, hi⟩
  · exact ⟨none, 0, 0, fun _ => 0, rfl, Or.inl rfl, Nat.le_refl _, Nat.zero_le _, fun _ => ⟨rfl, rfl⟩, Or.inl rfl⟩
  · simp at hmm
    by_cases hz : len = 0
    · subst hz; exact ⟨some a, 0, cap, fun _ => 0, rfl, Or.inl rfl, hl, hm, (fun e => by cases e), Or.inl rfl⟩
    obtain ⟨b, off, rfl, hc⟩ := plain_at (V := V) (len := len) (by omega) (fun i hlt => (hi i (by omega)).1)
    obtain ⟨zs, hzs⟩ := Deep.choose_lt (α := Int) (n := len) (p := fun i z => V i = .int .i64 z) (fun i hlt => by
      obtain ⟨z, e, -⟩ := DataW.trod_int he (hi i (by omega)).2
      exact ⟨z, by simpa using e⟩)
    exact ⟨_, len, cap, zs, rfl, Or.inr ⟨b, off, rfl, fun j hj => by rw [hc j hj, hzs j hj]⟩, hl, hm, (fun e => by cases e), Or.inr ⟨(List.range len).map D, _, by rw [hx], by simp⟩⟩
theorem open_script {v : Value} {d : DataW H} {ps : List MemPlace} (hok : Value.okWide Tryd.prog W .any 0 26 v) (h : DataW.Trod enc Tryd.prog W 0 (fun _ => true) true 26 v d ps) :
    ∃ (p : Option Addr) (m cap : Nat) (zs : Nat → Int), v = .slice p m cap ∧ NumsAt W p m zs ∧ m ≤ cap ∧ cap ≤ maxLen ∧ (p = none → m = 0 ∧ cap = 0) ∧ (m = 0 ∨ ∃ elems spare, d = .slice elems spare ∧ m = elems.length) := by
  obtain ⟨a0, len, cap, rfl⟩ := okWide_slice Tryd.underlying26 hok
  obtain ⟨fuel, hf⟩ := h
  obtain ⟨p, m, c, zs, e, r⟩ := open_nums Tryd.underlying26 Tryd.underlying2 cells2 hf
  simp [Value.cells] at e
  obtain ⟨rfl, rfl, rfl⟩ := e
  exact ⟨_, _, _, zs, rfl, r⟩
theorem open_args {v : Value} {d : DataW H} {ps : List MemPlace} (hok : Value.okWide Tryd.prog W .any 0 25 v) (h : DataW.Trod enc Tryd.prog W 0 (fun _ => true) true 25 v d ps) :
    ∃ (p : Option Addr) (m cap : Nat) (f : Nat → V3), v = .slice p m cap ∧ ValsAt W p m f ∧ m ≤ cap ∧ cap ≤ maxLen ∧ (p = none → m = 0 ∧ cap = 0) ∧ (m = 0 ∨ ∃ elems spare, d = .slice elems spare ∧ m = elems.length) := by
  obtain ⟨a0, len0, cap0, rfl⟩ := okWide_slice Tryd.underlying25 hok
  obtain ⟨fuel, hf⟩ := h
  rcases Deep.open_slice Tryd.underlying25 hf with ⟨e, -⟩ | ⟨a, len, cap, m, n', D, Pl, e, -, hl, hm, hmm, hx, hi⟩
  · simp [Value.cells] at e
    obtain ⟨rfl, rfl, rfl⟩ := e
    exact ⟨none, 0, 0, fun _ => default, rfl, Or.inl rfl, Nat.le_refl _, Nat.zero_le _, fun _ => ⟨rfl, rfl⟩, Or.inl rfl⟩
  · simp [Value.cells] at e
    obtain ⟨rfl, rfl, rfl⟩ := e
    simp at hmm
    by_cases hz : len0 = 0
    · subst hz
      exact ⟨some a, 0, cap0, fun _ => default, rfl, Or.inl rfl, hl, hm, (fun e => by cases e), Or.inl rfl⟩
    rw [cells30] at hi
    obtain ⟨b, off, rfl, hc⟩ := row_cells (by decide) (by omega) hi
    obtain ⟨f, hf⟩ := Deep.choose_lt (α := V3) (n := len0) (p := fun i V => W.cell? ⟨b, off + i * 3, none⟩ = some (.int .i64 V.k) ∧ W.cell? ⟨b, off + i * 3 + 1, none⟩ = some (.int .u64 V.n) ∧ W.cell? ⟨b, off + i * 3 + 2, none⟩ = some (.int .i64 V.b)) (fun i hlt => by
      obtain ⟨cs, -, ht, hcell⟩ := hc i (by omega)
      obtain ⟨V, rfl⟩ := open_v3 ht
      exact ⟨V, hcell 0 (by decide), hcell 1 (by decide), hcell 2 (by decide)⟩)
    have hdx : d = .slice ((List.range len0).map D) ((List.range (m - len0)).map fun j => D (len0 + j)) := congrArg Prod.fst hx
    exact ⟨_, len0, cap0, f, rfl, Or.inr ⟨b, off, rfl, hf⟩, hl, hm, (fun e => by cases e), Or.inr ⟨_, _, hdx, by simp⟩⟩
theorem open_sig {v : Value} {d : DataW H} {ps : List MemPlace} (hok : Value.okWide Tryd.prog W .any 0 24 v) (h : DataW.Trod enc Tryd.prog W 0 (fun _ => true) true 24 v d ps) :
    ∃ (p : Option Addr) (m cap : Nat) (zs : Nat → Int) (kd : Int), v = .agg #[.slice p m cap, .int .i64 kd] ∧ NumsAt W p m zs ∧ m ≤ cap ∧ cap ≤ maxLen := by
  obtain ⟨c0, c1, y0, y1, n, rfl, -, -, h0, h1⟩ := open_agg2 Tryd.underlying24 (by kernel_rfl) cells24 hok h
  obtain ⟨p, m, cap, zs, e0, hv, hm, hcap, -⟩ := open_nums Tryd.underlying22 Tryd.underlying3 cells3 h0
  obtain ⟨kd, e1, -⟩ := DataW.trod_int Tryd.underlying3 h1
  simp at e0 e1
  subst e0 e1
  exact ⟨p, m, cap, zs, kd, rfl, hv, hm, hcap⟩
end
theorem bytes2 : Tryd.prog.bytesOf 2 = 8 := by kernel_rfl
theorem bytes30 : Tryd.prog.bytesOf 30 = 24 := by kernel_rfl
/-- The reach's bound on how many there are. -/
theorem reach_e {H : Type} {ts : List TypeId} {ds : List (DataW H)} {m : Nat} {j : Nat} {t e : TypeId} (hu : Tryd.prog.underlying t = some (.slice e)) (hsz : (DataW.weightsEach Tryd.prog ts ds).all (· ≤ reachBytes) = true) (ht : ts[j]? = some t) (hd : m = 0 ∨ ∃ elems spare, ds[j]? = some (.slice elems spare) ∧ m = elems.length) : m * Tryd.prog.bytesOf e ≤ 140737488351232 := by
  rcases hd with rfl | ⟨elems, spare, hd, rfl⟩
  · omega
  · have h1 := sized_slice hsz ht hd hu
    have hr : reachBytes = 140737488351232 := by decide
    rw [hr] at h1
    exact Nat.le_trans (Nat.mul_le_mul_right _ (Nat.le_add_right _ _)) h1

set_option maxRecDepth 100000 in
theorem lifted (os : Os) (started : os.Started) (H : Type) (enc : TypeId × Value → H) :
    ReturnsInHanded {} Tryd.checked os 3 .any (fun w args => (Rows.tracePlaysSpec.pre enc Tryd.prog Tryd.f3 [] false w args ∧ laidMetH Tryd.prog Rows.tracePlaysRow.laid w) ∧ sizedMet enc Tryd.prog Tryd.f3 (OpenSpec.ofChange Rows.tracePlaysSpec) false w args)
      (Rows.tracePlaysSpec.post enc Tryd.prog Tryd.f3 false true false false) := by
  refine returnsInHanded_of_change_and (C := Tryd.checked) (X := fun w _ => laidMetH Tryd.prog Rows.tracePlaysRow.laid w) (fun _ _ _ hh h => h.of_heap hh) own started (by kernel_rfl) Tryd.func3
    (ChangeSpec.witness_shaped (enc := enc) (C := Tryd.checked) (os := os) (X := fun w _ => laidMetH Tryd.prog Rows.tracePlaysRow.laid w) false (World.doorLaid Tryd.prog 24 os) #[.string ⟨#[]⟩, .agg #[.slice none 0 0, .int .i64 0], .slice none 0 0, .slice none 0 0, .int .i64 0] 8 rfl (World.shaped_of_RefB (by kernel_rfl) (by kernel_rfl)) (by kernel_rfl) (by kernel_rfl) (by kernel_rfl) (door_met os _)) ?_
  intro W base args ds gs before hval0 hW _ hsz0 hL _
  have hval : ∀ (j : Nat) t v, Tryd.f3.params[j]? = some t → args[j]? = some v → Value.okWide Tryd.prog W .any base t v := hval0
  have hW' := hW
  obtain ⟨p, q, hA0, hV, rfl, hfz, hnd⟩ := hW
  have hA : DataW.TrodAll enc Tryd.prog W 0 (fun _ => true) true Tryd.f3.params.toList args.toList ds p := hA0
  rw [Tryd.params3] at hA hval
  obtain ⟨rfl, rfl⟩ := trodVars_none hV
  simp only [List.append_nil] at hW'
  have hlt : ∀ x ∈ p, x.block < W.heap.size := fun x hx => hW'.lt x hx
  have stay : ∀ {W' : World}, Below W.heap.size W W' → ∀ sp : Nat → Bool, (∀ x ∈ p, sp x.block = true) → DataW.TrodAll enc Tryd.prog W' 0 sp true [9, 24, 25, 26, 3] args.toList ds p :=
    fun hb sp hsp => all_stay hb sp [9, 24, 25, 26, 3] (by intro t ht; simp at ht; rcases ht with rfl | rfl | rfl | rfl | rfl <;> exact ⟨by kernel_rfl, of_decide_eq_true (by kernel_rfl)⟩) hA hlt hsp
  obtain ⟨v0, vs0, d0, ds0, p0, q0, hargs, rfl, rfl, h0, r0⟩ := trodAll_cons hA
  obtain ⟨v1, vs1, d1, ds1, p1, q1, rfl, rfl, rfl, h1, r1⟩ := trodAll_cons r0
  obtain ⟨v2, vs2, d2, ds2, p2, q2, rfl, rfl, rfl, h2, r2⟩ := trodAll_cons r1
  obtain ⟨v3, vs3, d3, ds3, p3, q3, rfl, rfl, rfl, h3, r3⟩ := trodAll_cons r2
  obtain ⟨v4, vs4, d4, ds4, p4, q4, rfl, rfl, rfl, h4, r4⟩ := trodAll_cons r3
  obtain ⟨rfl, rfl, rfl⟩ := trodAll_nil r4
  obtain rfl : args = #[v0, v1, v2, v3, v4] := by cases args; simp_all
  obtain ⟨name, rfl⟩ := okWide_string Tryd.underlying9 (hval 0 9 v0 rfl rfl)
  obtain ⟨pp, pn, pc, ks, kd, rfl, hk, hp1, hp2⟩ := open_sig (hval 1 24 v1 rfl rfl) h1
  obtain ⟨ap, n, cap, f, rfl, hv, hn1, hn2, hnil, hd2⟩ := open_args (hval 2 25 v2 rfl rfl) h2
  obtain ⟨sp, m, mc, g, rfl, hg, hm1, hm2, hqnil, hd3⟩ := open_script (hval 3 26 v3 rfl rfl) h3
  obtain ⟨kq, rfl⟩ := okWide_int Tryd.underlying3 (hval 4 3 v4 rfl rfl)
  have hb := reach_e (j := 2) Tryd.underlying25 hsz0 (by rw [Tryd.params3]; rfl) (hd2.imp id (fun ⟨el, sp, e, hl⟩ => ⟨el, sp, by rw [e]; rfl, hl⟩))
  have hmb := reach_e (j := 3) Tryd.underlying26 hsz0 (by rw [Tryd.params3]; rfl) (hd3.imp id (fun ⟨el, sp, e, hl⟩ => ⟨el, sp, by rw [e]; rfl, hl⟩))
  rw [bytes30] at hb
  rw [bytes2] at hmb
  clear hA0 hval0
  have done : ∀ (e : Ending) (W' : World), e = .returned (.bool true) ∧ Below W.heap.size W W' → ∃ v, e = .returned v ∧ Rows.tracePlaysSpec.post enc Tryd.prog Tryd.f3 false true false false W _ v W' := fun e W' ⟨he, hg⟩ =>
    ⟨_, he, post_below (pv := []) hW' (fun _ _ _ => (trodAll_cons_mk (shut_bool Tryd.underlying4 _) trodAll_mk0)) (fun sp hsp => by rw [Tryd.params3]; exact stay hg sp hsp) (fun _ _ => rfl) (by simp) hg
      (ok_one (by kernel_rfl) rfl (okWide_bool_mk Tryd.underlying4 _))⟩
  exact (plays_law name pp ap sp pn pc n cap m mc ks g kd kq f hp1 hp2 hn1 hn2 (by omega) hnil hm1 hm2 (by omega) hqnil W hk hv hg).mono done

theorem over : Rows.TracePlaysSaid :=
  OpenClaim.holds_of_wide 3 Tryd.f3 rfl rfl rfl rfl rfl rfl rfl ⟨rfl, rfl, rfl, rfl, rfl⟩ rfl rfl rfl rfl rfl (by kernel_rfl) Tryd.func3 (by kernel_rfl)
    (of_decide_eq_true (by kernel_rfl)) (by unfold Func.isWrapper; first | (rw [if_pos (by decide +kernel)]; kernel_rfl) | (rw [if_neg (by decide +kernel)]; exact ⟨rfl, rfl⟩))
    (fun os started H enc _ => lifted os started H enc)
theorem carded : Rows.TracePlaysCardSaid :=
  Claim7.holds_tied_plain_at .later [] [.data, .data, .data] true (true, "2e5b95e1677c43c9dd050ccd7b99f53ef1b665ce99cfcceffdd5a3c16c4ae70c") false
    over (fun _ h => by cases h) (by kernel_rfl) (fun _ h => by cases h) tracePlays_row_tie rfl ⟨rfl, rfl⟩ (by kernel_rfl) rfl
    (fun f fn hf hfn => by
      obtain rfl : f = 3 := Option.some.inj ((show Tryd.prog.funcNamed "alembic/alembiclaw03.TracePlays" = some 3 by kernel_rfl).symm.trans hf) |>.symm
      obtain rfl : fn = Tryd.f3 := (Option.some.inj (Tryd.func3.symm.trans hfn)).symm
      exact ⟨by kernel_rfl, fun j t ht => by
        rw [Tryd.params3] at ht
        have hm : t ∈ [9, 24, 25, 26, 3] := by simpa using Array.mem_of_getElem? ht
        have hall : ([9, 24, 25, 26, 3].all fun u => !Tryd.prog.wantsStandIn u) = true := by kernel_rfl
        exact (show Tryd.prog.wantsStandIn t = false by simpa using List.all_eq_true.1 hall t hm)⟩)
    (by kernel_rfl)
#print axioms carded
end Go.Proofs.YtjbflmpnmobngaaDoor.tracePlays
