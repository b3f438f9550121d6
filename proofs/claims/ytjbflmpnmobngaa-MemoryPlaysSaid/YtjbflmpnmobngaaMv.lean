/- A whole memory: what its calls answer, and what they leave. -/
import Derived.Test.YtjbflmpnmobngaaMu
import Derived.Test.YtjbflmpnmobngaaMq
import Derived.Test.YtjbflmpnmobngaaMp
namespace Go.Proofs.Ytjbflmpnmobngaa
set_option linter.unusedSimpArgs false
set_option linter.unusedVariables false
open Go.RowKit

/-- A block, as data. -/
structure BS where
  sz : Int
  fx : Bool
  cell : Nat → Int
  ptr : Int → Option (Int × Int × Int)
def putS (S : Int → Option BS) (i : Int) (s : BS) : Int → Option BS := fun x => if x = i then some s else S x
def delS (S : Int → Option BS) (i : Int) : Int → Option BS := fun x => if x = i then none else S x
/-- A memory with all that it leads to: mb its map, f its blocks' heads, o i what block i owns; L: what is not its own. -/
structure MemD (w : World) (M T : Nat) (L : Nat → Prop) (made : Int) (S : Int → Option BS) (mb N : Nat) (f : Int → Option Nat) (o : Int → Nat → Prop) : Prop where
  rep : MRep w M mb N made f
  nT : N ≤ T
  non : ∀ i, f i = none → S i = none
  som : ∀ i B, f i = some B → ∃ s, S i = some s ∧ Blk w B s.sz s.fx s.cell s.ptr T (o i)
  apart : ∀ i j B C, f i = some B → f j = some C → i ≠ j → ∀ k, o i k → ¬ o j k
  own : ∀ i B, f i = some B → ∀ k, o i k → k ≠ M ∧ k ≠ mb ∧ ¬ L k
  lM : ¬ L M
  lmb : ¬ L mb
  lt : ∀ k, L k → k < w.heap.size
def Mem (w : World) (M T : Nat) (L : Nat → Prop) (made : Int) (S : Int → Option BS) : Prop := ∃ mb N f o, MemD w M T L made S mb N f o
variable {w w' : World} {M T mb N : Nat} {L : Nat → Prop} {made : Int} {S : Int → Option BS} {f : Int → Option Nat} {o : Int → Nat → Prop}

theorem MRep.kept (h : MRep w M mb N made f) (hM : w'.heap[M]? = w.heap[M]?) (hm : w'.heap[mb]? = w.heap[mb]?) : MRep w' M mb N made f :=
  ⟨cell_kept h.c0 hM, cell_kept h.c1 hM, h.mp.block hm, fun i => by rw [World.frozen?_of_block (w := w) hM]; exact h.fr i, h.m0, h.fm⟩
theorem MRep.ltM (h : MRep w M mb N made f) : M < w.heap.size := cell_lt h.c0
theorem MRep.ltmb (h : MRep w M mb N made f) : mb < w.heap.size := h.mp.lt
theorem MemD.ownlt (h : MemD w M T L made S mb N f o) {i : Int} {B : Nat} (hi : f i = some B) {k : Nat} (hk : o i k) : k < w.heap.size := by
  obtain ⟨s, _, hB⟩ := h.som i B hi
  exact hB.lt hk
theorem MemD.later (h : MemD w M T L made S mb N f o) (hf : Fresh w w') : MemD w' M T L made S mb N f o :=
  ⟨h.rep.kept (hf.below.block M h.rep.ltM) (hf.below.block mb h.rep.ltmb), h.nT, h.non,
    fun i B hi => by obtain ⟨s, hs, hB⟩ := h.som i B hi; exact ⟨s, hs, hB.later hf⟩,
    h.apart, h.own, h.lM, h.lmb, fun k hk => Nat.lt_of_lt_of_le (h.lt k hk) hf.size⟩
theorem Mem.later (h : Mem w M T L made S) (hf : Fresh w w') : Mem w' M T L made S := by
  obtain ⟨mb, N, f, o, h⟩ := h; exact ⟨mb, N, f, o, h.later hf⟩
/-- What was laid since is not its own. -/
theorem Mem.locals (h : Mem w M T L made S) (hf : Fresh w w') {L' : Nat → Prop} (hL : ∀ k, L' k → L k ∨ w.heap.size ≤ k ∧ k < w'.heap.size) : Mem w' M T L' made S := by
  obtain ⟨mb, N, f, o, h⟩ := h
  have h' := h.later hf
  refine ⟨mb, N, f, o, h'.rep, h'.nT, h'.non, h'.som, h'.apart, fun i B hi k hk => ⟨(h.own i B hi k hk).1, (h.own i B hi k hk).2.1, fun hl => ?_⟩, fun hl => ?_, fun hl => ?_, fun k hl => ?_⟩
  · rcases hL k hl with g | g
    · exact (h.own i B hi k hk).2.2 g
    · have := h.ownlt hi hk; omega
  · rcases hL M hl with g | g
    · exact h.lM g
    · have := h.rep.ltM; omega
  · rcases hL mb hl with g | g
    · exact h.lmb g
    · have := h.rep.ltmb; omega
  · rcases hL k hl with g | g
    · exact h'.lt k g
    · exact g.2
theorem Mem.mono (h : Mem w M T L made S) {T' : Nat} (hT : T ≤ T') : Mem w M T' L made S := by
  obtain ⟨mb, N, f, o, h⟩ := h
  exact ⟨mb, N, f, o, h.rep, Nat.le_trans h.nT hT, h.non, fun i B hi => by
    obtain ⟨s, hs, pg, pt, row, n1, n2, hR, hS, h1, h2, ho⟩ := h.som i B hi
    exact ⟨s, hs, pg, pt, row, n1, n2, hR, hS, Nat.le_trans h1 hT, Nat.le_trans h2 hT, ho⟩, h.apart, h.own, h.lM, h.lmb, h.lt⟩
/-- A block's data bounds. -/
theorem Blk.c0 {B : Nat} {sz : Int} {fx : Bool} {cell : Nat → Int} {ptr : Int → Option (Int × Int × Int)} {own : Nat → Prop} (h : Blk w B sz fx cell ptr T own) : w.cell? ⟨B, 0, none⟩ = some (.int .i64 sz) ∧ 0 ≤ sz ∧ sz ≤ 16777216 := by
  obtain ⟨pg, pt, row, n1, n2, hR, _⟩ := h
  exact ⟨hR.c0, hR.s0, hR.s1⟩

def goesB (s : BS) (c n : Int) : Bool := sizeL c != 0 && decide (0 ≤ wrap64 n) && (wrap64 n % sizeL c == 0) && decide (wrap64 n ≤ s.sz - sizeL c)
def reachS (S : Int → Option BS) (c k n b : Int) : Option (BS × Nat) :=
  if k = 4 then
    match S b with
    | none => none
    | some s => if goesB s c n = true then some (s, (wrap64 n).toNat) else none
  else none
theorem sizeL_cases (c : Int) : sizeL c = 0 ∨ sizeL c = 1 ∨ sizeL c = 2 ∨ sizeL c = 4 ∨ sizeL c = 8 := by
  unfold sizeL; repeat' split
  all_goals simp
theorem atL_none {g : Int → Option Nat} {k b : Int} (h : k ≠ 4 ∨ g b = none) : atL (blkV g) k b = .pointer none := by
  unfold atL blkV
  rcases h with h | h
  · simp [h]
  · simp [h]
theorem atL_some {g : Int → Option Nat} {b : Int} {B : Nat} (h : g b = some B) : atL (blkV g) 4 b = .pointer (some ⟨B, 0, none⟩) := by
  simp [atL, blkV, h]
theorem MemD.nowhere (h : MemD w M T L made S mb N f o) {c k n b : Int} (hb : Key b) (hr : reachS S c k n b = none) : Nowhere M c k n b w := by
  intro w1 hf
  have h1 := h.later hf
  by_cases hk : k = 4
  · subst hk
    cases hB : f b with
    | none => exact reach_none M mb N (blkV f) c 4 n b hb (atL_none (Or.inr hB)) w1 h1.rep.mm
    | some B =>
      obtain ⟨s, hs, hBlk⟩ := h1.som b B hB
      obtain ⟨c0, z0, z1⟩ := hBlk.c0
      have hv := atL_some hB
      have hg : ¬ goesB s c n = true := by
        intro hg; simp [reachS, hs, hg] at hr
      have hz := sizeL_cases c
      by_cases e0 : sizeL c = 0
      · exact reach_zero M mb N (blkV f) c 4 n b hb B s.sz hv e0 w1 h1.rep.mm c0
      · have h4 : sizeL c = 1 ∨ sizeL c = 2 ∨ sizeL c = 4 ∨ sizeL c = 8 := by omega
        by_cases e1 : wrap64 n < 0
        · exact reach_neg M mb N (blkV f) c 4 n b hb B s.sz _ hv rfl h4 e1 w1 h1.rep.mm c0
        · by_cases e2 : wrap64 n % sizeL c = 0
          · have e3 : s.sz - sizeL c < wrap64 n := by
              rcases Int.lt_or_le (s.sz - sizeL c) (wrap64 n) with q | q
              · exact q
              · exact absurd (by unfold goesB; simp [e0, e2, q]; omega) hg
            exact reach_far M mb N (blkV f) c 4 n b hb B s.sz _ hv rfl h4 (by omega) (by simp [e2]) z0 z1 e3 w1 h1.rep.mm c0
          · have h5 : sizeL c = 2 ∨ sizeL c = 4 ∨ sizeL c = 8 := by
              rcases h4 with q | q | q | q
              · rw [q] at e2; omega
              · exact Or.inl q
              · exact Or.inr (Or.inl q)
              · exact Or.inr (Or.inr q)
            exact reach_odd M mb N (blkV f) c 4 n b hb B s.sz _ hv rfl h5 (by omega) (by simp [e2]) w1 h1.rep.mm c0
  · exact reach_none M mb N (blkV f) c k n b hb (atL_none (Or.inl hk)) w1 h1.rep.mm
/-- What an access that goes somewhere is like. -/
structure Hit (S : Int → Option BS) (c k n b : Int) (s : BS) (off m : Nat) : Prop where
  k4 : k = 4
  hs : S b = some s
  of : off = (wrap64 n).toNat
  c : sizeL c = (m : Int)
  m0 : 0 < m
  m8 : m ≤ 8
  al : off % 4096 + m ≤ 4096
  lo : (off : Int) + m ≤ s.sz
theorem hit_of {c k n b : Int} {s : BS} {off : Nat} (hr : reachS S c k n b = some (s, off)) : Hit S c k n b s off (sizeL c).toNat := by
  unfold reachS at hr
  split at hr
  · rename_i hk
    subst hk
    split at hr
    · cases hr
    · rename_i s' hs
      split at hr
      · rename_i hg
        injection hr with hr
        obtain ⟨rfl, rfl⟩ := Prod.mk.inj hr
        unfold goesB at hg
        simp only [Bool.and_eq_true, decide_eq_true_eq, bne_iff_ne, beq_iff_eq] at hg
        obtain ⟨⟨⟨g0, g1⟩, g2⟩, g3⟩ := hg
        have hz := sizeL_cases c
        refine ⟨rfl, hs, rfl, by omega, by omega, by omega, ?_, by omega⟩
        rcases hz with q | q | q | q | q <;> rw [q] at g2 g3 ⊢ <;> omega
      · cases hr
  · cases hr
theorem MemD.goes (h : MemD w M T L made S mb N f o) {c k n b : Int} (hb : Key b) {s : BS} {off : Nat} (hr : reachS S c k n b = some (s, off)) :
    ∃ B, f b = some B ∧ Goes M c k n b B off w ∧ Blk w B s.sz s.fx s.cell s.ptr T (o b) := by
  have hh := hit_of hr
  cases hB : f b with
  | none => have := h.non b hB; rw [hh.hs] at this; cases this
  | some B =>
    obtain ⟨s', hs', hBlk'⟩ := h.som b B hB
    obtain rfl : s' = s := by rw [hh.hs] at hs'; injection hs' with hs'; exact hs'.symm
    refine ⟨B, rfl, fun w1 hf => ?_, hBlk'⟩
    have h1 := h.later hf
    obtain ⟨s2, hs2, hBlk⟩ := h1.som b B hB
    obtain rfl : s2 = s' := by rw [hh.hs] at hs2; injection hs2 with hs2; exact hs2.symm
    obtain ⟨c0, z0, z1⟩ := hBlk.c0
    have hk := hh.k4
    subst hk
    have hv := atL_some hB
    unfold reachS at hr
    rw [if_pos rfl, hh.hs] at hr
    simp only at hr
    split at hr
    · rename_i hg
      unfold goesB at hg
      simp only [Bool.and_eq_true, decide_eq_true_eq, bne_iff_ne, beq_iff_eq] at hg
      obtain ⟨⟨⟨g0, g1⟩, g2⟩, g3⟩ := hg
      have hz := sizeL_cases c
      have := reach_ok M mb N (blkV f) c 4 n b hb B s2.sz _ hv rfl (by omega) g1 (by simp [g2]) z0 z1 g3 w1 h1.rep.mm c0
      have ho : (off : Int) = wrap64 n := by have := hh.of; omega
      rw [ho]; exact this
    · cases hr

def loadS (S : Int → Option BS) (c k n b : Int) : (Int × Int × Int) × Bool :=
  match reachS S c k n b with
  | none => ((0, 0, 0), false)
  | some (s, off) =>
    match (if c = 6 then s.ptr (off : Int) else none) with
    | some p => (p, true)
    | none => if allB s.cell off (sizeL c).toNat = true then (valueOfL c (accN s.cell off (sizeL c).toNat), true) else ((0, 0, 0), true)
theorem load_mem (h : Mem w M T L made S) (c k n b : Int) (hb : Key b) (x y z : Int) (t : Bool) (hv : loadS S c k n b = ((x, y, z), t)) :
    Calls Try.prog 15 #[.pointer (some ⟨M, 0, none⟩), .int .i64 c, .agg #[.int .i64 k, .int .u64 n, .int .i64 b]] w fun e w' => e = .returned (.tuple #[.agg #[.int .i64 x, .int .u64 y, .int .i64 z], .bool t]) ∧ Fresh w w' := by
  obtain ⟨mb, N, f, o, h⟩ := h
  cases hr : reachS S c k n b with
  | none =>
    rw [loadS, hr] at hv
    injection hv with hv ht
    injection hv with hx hv
    injection hv with hy hz
    subst hx hy hz ht
    exact load_bad M c k n b (h.nowhere hb hr)
  | some so =>
    obtain ⟨s, off⟩ := so
    have hh := hit_of hr
    obtain ⟨B, hB, hG, pg, pt, row, n1, n2, hR, -⟩ := h.goes hb hr
    simp only [loadS, hr] at hv
    by_cases c6 : c = 6
    · rw [if_pos c6] at hv
      cases hp : s.ptr (off : Int) with
      | some p =>
        obtain ⟨x', y', z'⟩ := p
        rw [hp] at hv
        injection hv with hv ht
        injection hv with hx hv
        injection hv with hy hz
        subst hx hy hz ht
        exact load_p M c k n b off _ hG hR hh.c hh.m8 hh.al hh.lo hh.m0 c6 _ _ _ hp
      | none =>
        rw [hp] at hv
        simp only at hv
        by_cases ha : allB s.cell off (sizeL c).toNat = true
        · rw [if_pos ha] at hv
          injection hv with hv ht
          subst ht
          exact load_v M c k n b off _ hG hR hh.c hh.m8 hh.al hh.lo hh.m0 hp ha _ _ _ hv
        · rw [if_neg ha] at hv
          injection hv with hv ht
          injection hv with hx hv
          injection hv with hy hz
          subst hx hy hz ht
          exact load_e M c k n b off _ hG hR hh.c hh.m8 hh.al hh.lo hh.m0 hp (by simpa using ha)
    · rw [if_neg c6] at hv
      simp only at hv
      cases hp : s.ptr (off : Int) with
      | some p =>
        obtain ⟨x', y', z'⟩ := p
        by_cases ha : allB s.cell off (sizeL c).toNat = true
        · rw [if_pos ha] at hv
          injection hv with hv ht
          subst ht
          exact load_v6 M c k n b off _ hG hR hh.c hh.m8 hh.al hh.lo hh.m0 (by simpa using c6) _ _ _ hp ha _ _ _ hv
        · rw [if_neg ha] at hv
          injection hv with hv ht
          injection hv with hx hv
          injection hv with hy hz
          subst hx hy hz ht
          exact load_e6 M c k n b off _ hG hR hh.c hh.m8 hh.al hh.lo hh.m0 (by simpa using c6) _ _ _ hp (by simpa using ha)
      | none =>
        by_cases ha : allB s.cell off (sizeL c).toNat = true
        · rw [if_pos ha] at hv
          injection hv with hv ht
          subst ht
          exact load_v M c k n b off _ hG hR hh.c hh.m8 hh.al hh.lo hh.m0 hp ha _ _ _ hv
        · rw [if_neg ha] at hv
          injection hv with hv ht
          injection hv with hx hv
          injection hv with hy hz
          subst hx hy hz ht
          exact load_e M c k n b off _ hG hR hh.c hh.m8 hh.al hh.lo hh.m0 hp (by simpa using ha)

def storeB (s : BS) (c : Int) (off : Nat) (k' n' b' : Int) : BS :=
  if k' = 0 then { s with cell := emptyC s.cell off (sizeL c).toNat, ptr := delP s.ptr ((off : Int) - (off : Int) % 8) }
  else if k' = 4 then { s with cell := emptyC s.cell off 8, ptr := putP (delP s.ptr ((off : Int) - (off : Int) % 8)) off (4, n', b') }
  else { s with cell := putC s.cell off (sizeL c).toNat n', ptr := delP s.ptr ((off : Int) - (off : Int) % 8) }
def storeS (S : Int → Option BS) (c k n b k' n' b' : Int) : Bool × (Int → Option BS) :=
  match reachS S c k n b with
  | none => (false, S)
  | some (s, off) => if s.fx = true ∨ fitsL c k' = false then (false, S) else (true, putS S b (storeB s c off k' n' b'))
theorem storeB_sz (s : BS) (c : Int) (off : Nat) (k' n' b' : Int) : (storeB s c off k' n' b').sz = s.sz ∧ (storeB s c off k' n' b').fx = s.fx := by
  unfold storeB; repeat' split
  all_goals exact ⟨rfl, rfl⟩
theorem touch_of_fresh (h : Fresh w w') (F : Nat → Prop) : Touch F w w' := h.touch F
/-- What a call leaves. -/
def Leaves (M T : Nat) (L : Nat → Prop) (made : Int) (S : Int → Option BS) (w w' : World) : Prop := Mem w' M T L made S ∧ Touch (fun k => ¬ L k) w w'
theorem Leaves.fresh (h : Mem w M T L made S) (hf : Fresh w w') {T' : Nat} (hT : T ≤ T') : Leaves M T' L made S w w' := ⟨(h.later hf).mono hT, hf.touch _⟩
theorem stored_leaves (h : MemD w M T L made S mb N f o) {b : Int} {B : Nat} (hB : f b = some B) {s s' : BS} (hs : S b = some s) (hz : s'.sz = s.sz) {F : Nat → Prop} (hF : ∀ k, F k ↔ o b k) {e : Ending} {x : Bool} (hx : s'.fx = x)
    (hst : Stored B s.sz x T s'.cell s'.ptr F w e w') : e = .returned (.bool true) ∧ Leaves M (T + 1) L made (putS S b s') w w' := by
  obtain ⟨he, pg', pt', n1', n2', row', q1, q2, q3, hR, hSp, ht⟩ := hst
  refine ⟨he, ?_, ht.mono fun k hk hl => (h.own b B hB k ((hF k).1 hk)).2.2 hl⟩
  have hM := h.rep.ltM
  have hmb := h.rep.ltmb
  have nM : ¬ F M := fun g => (h.own b B hB M ((hF M).1 g)).1 rfl
  have nmb : ¬ F mb := fun g => (h.own b B hB mb ((hF mb).1 g)).2.1 rfl
  refine ⟨mb, N, f, fun i k => if i = b then owns B pg' pt' row' k else o i k, h.rep.kept (ht.block M hM nM) (ht.block mb hmb nmb), Nat.le_trans h.nT (Nat.le_succ T), ?_, ?_, ?_, ?_, h.lM, h.lmb, fun k hk => Nat.lt_of_lt_of_le (h.lt k hk) ht.size⟩
  · intro i hi
    unfold putS
    by_cases e : i = b
    · subst e; rw [hB] at hi; cases hi
    · rw [if_neg e]; exact h.non i hi
  · intro i C hi
    by_cases e : i = b
    · subst e
      obtain rfl : B = C := by rw [hB] at hi; injection hi
      refine ⟨s', by simp [putS], pg', pt', row', n1', n2', ?_, hSp, q1, q2, fun k => by simp⟩
      rw [hz, hx]; exact hR
    · obtain ⟨si, hsi, hBi⟩ := h.som i C hi
      refine ⟨si, by simp [putS, e, hsi], ?_⟩
      simp only [if_neg e]
      have := hBi.touched ht fun k hk g => h.apart i b C B hi hB e k hk ((hF k).1 g)
      obtain ⟨pg, pt, row, n1, n2, r1, r2, r3, r4, r5⟩ := this
      exact ⟨pg, pt, row, n1, n2, r1, r2, Nat.le_succ_of_le r3, Nat.le_succ_of_le r4, r5⟩
  · intro i j C D hi hj hij k hk hk'
    by_cases ei : i = b
    · simp only [if_pos ei] at hk
      have ej : ¬ j = b := fun q => hij (ei.trans q.symm)
      simp only [if_neg ej] at hk'
      rcases q3 k hk with g | g
      · exact h.apart b j B D hB hj (fun q => ej q.symm) k ((hF k).1 g) hk'
      · have := h.ownlt hj hk'; omega
    · simp only [if_neg ei] at hk
      by_cases ej : j = b
      · simp only [if_pos ej] at hk'
        rcases q3 k hk' with g | g
        · exact h.apart i b C B hi hB ei k hk ((hF k).1 g)
        · have := h.ownlt hi hk; omega
      · simp only [if_neg ej] at hk'
        exact h.apart i j C D hi hj hij k hk hk'
  · intro i C hi k hk
    by_cases ei : i = b
    · simp only [if_pos ei] at hk
      rcases q3 k hk with g | g
      · exact h.own b B hB k ((hF k).1 g)
      · exact ⟨by omega, by omega, fun hl => by have := h.lt k hl; omega⟩
    · simp only [if_neg ei] at hk
      exact h.own i C hi k hk
theorem fits4 (c : Int) (h : fitsL c 4 = true) : c = 6 := by
  unfold fitsL kindL at h
  by_cases c6 : c = 6
  · exact c6
  · simp [c6] at h
    split at h
    · cases h
    · split at h
      · cases h
      · cases h
theorem store_mem (h : Mem w M T L made S) (hT : T < maxLen) (c k n b k' n' b' : Int) (hb : Key b) (hn : 0 ≤ n') (v : Bool) (S' : Int → Option BS) (hv : storeS S c k n b k' n' b' = (v, S')) :
    Calls Try.prog 17 #[.pointer (some ⟨M, 0, none⟩), .int .i64 c, .agg #[.int .i64 k, .int .u64 n, .int .i64 b], .agg #[.int .i64 k', .int .u64 n', .int .i64 b']] w fun e w' => e = .returned (.bool v) ∧ Leaves M (T + 1) L made S' w w' := by
  have hMem := h
  obtain ⟨mb, N, f, o, h⟩ := h
  cases hr : reachS S c k n b with
  | none =>
    rw [storeS, hr] at hv
    injection hv with hv1 hv2
    subst hv1 hv2
    refine (store_bad M c k n b k' n' b' (h.nowhere hb hr)).mono ?_
    rintro e w1 ⟨he, hf⟩
    exact ⟨he, Leaves.fresh hMem hf (Nat.le_succ T)⟩
  | some so =>
    obtain ⟨s, off⟩ := so
    have hh := hit_of hr
    obtain ⟨B, hB, hG, pg, pt, row, n1, n2, hR, hSp, t1, t2, ho⟩ := h.goes hb hr
    simp only [storeS, hr] at hv
    by_cases hfx : s.fx = true
    · rw [if_pos (Or.inl hfx)] at hv
      injection hv with hv1 hv2
      subst hv1 hv2
      rw [hfx] at hR
      refine (store_fixed M c k n b k' n' b' off hG hR).mono ?_
      rintro e w1 ⟨he, hf⟩
      exact ⟨he, Leaves.fresh hMem hf (Nat.le_succ T)⟩
    · have hfx' : s.fx = false := by simpa using hfx
      have hR' := hR
      rw [hfx'] at hR'
      by_cases hft : fitsL c k' = false
      · rw [if_pos (Or.inr hft)] at hv
        injection hv with hv1 hv2
        subst hv1 hv2
        refine (store_misfit M c k n b k' n' b' off hft hG hR').mono ?_
        rintro e w1 ⟨he, hf⟩
        exact ⟨he, Leaves.fresh hMem hf (Nat.le_succ T)⟩
      · have hft' : fitsL c k' = true := by simpa using hft
        rw [if_neg (by simp [hfx, hft])] at hv
        injection hv with hv1 hv2
        subst hv1 hv2
        have key : ∀ (s' : BS), s' = storeB s c off k' n' b' → ∀ e w1, Stored B s.sz false T s'.cell s'.ptr (owns B pg pt row) w e w1 → e = .returned (.bool true) ∧ Leaves M (T + 1) L made (putS S b (storeB s c off k' n' b')) w w1 := by
          intro s' hs' e w1 hst
          rw [← hs']
          exact stored_leaves h hB hh.hs (by rw [hs']; exact (storeB_sz s c off k' n' b').1) (fun k => (ho k).symm) (by rw [hs', (storeB_sz s c off k' n' b').2, hfx']) hst
        by_cases k0 : k' = 0
        · subst k0
          refine (store_undef M c k n b n' b' off _ T hft' hG hR' hSp t1 t2 hT hh.c hh.m8 hh.al hh.lo hh.m0).mono ?_
          intro e w1 hst
          exact key ⟨s.sz, s.fx, emptyC s.cell off (sizeL c).toNat, delP s.ptr ((off : Int) - (off : Int) % 8)⟩ (by simp [storeB]) e w1 hst
        · by_cases k4 : k' = 4
          · subst k4
            have c6 := fits4 c hft'
            have hm : (sizeL c).toNat = 8 := by subst c6; rfl
            have a1 := hh.al
            have a2 := hh.lo
            rw [hm] at a1 a2
            refine (store_ptr M c k n b n' b' off T hft' hG hR' hSp t1 t2 hT c6 a1 a2).mono ?_
            intro e w1 hst
            exact key ⟨s.sz, s.fx, emptyC s.cell off 8, putP (delP s.ptr ((off : Int) - (off : Int) % 8)) off (4, n', b')⟩ (by simp [storeB]) e w1 hst
          · refine (store_num M c k n b k' n' b' hn (by simpa using k0) (by simpa using k4) off _ T hft' hG hR' hSp t1 t2 hT hh.c hh.m8 hh.al hh.lo hh.m0).mono ?_
            intro e w1 hst
            exact key ⟨s.sz, s.fx, putC s.cell off (sizeL c).toNat n', delP s.ptr ((off : Int) - (off : Int) % 8)⟩ (by simp [storeB, k0, k4]) e w1 hst
end Go.Proofs.Ytjbflmpnmobngaa
