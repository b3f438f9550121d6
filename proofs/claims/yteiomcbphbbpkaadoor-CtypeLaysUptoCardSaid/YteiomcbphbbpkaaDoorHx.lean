/- What the two lists of layouts keep. -/
import Derived.Test.YteiomcbphbbpkaaDoorHg
import Derived.Test.YteiomcbphbbpkaaDoorEu
import Derived.Deep.AppendLies
import Derived.Deep.RegionLaw
import Derived.Deep.DeepCutAuto
import Derived.Test.YteiomcbphbbpkaaDoorHc
import Derived.Test.YteiomcbphbbpkaaDoorEj
import Derived.Test.YteiomcbphbbpkaaDoorEx
namespace Go.Proofs.YteiomcbphbbpkaaDoor
set_option linter.unusedSimpArgs false
set_option linter.unusedVariables false
open Go.RowKit

/-- A layout: its name, its kind, its members, its size, its alignment. -/
structure Ld where
  nm : ByteArray
  un : Bool
  fs : List Fd
  sz : Int
  al : Int
/-- The cells of a row of layouts. -/
def Lcells (ok : Nat → Prop) (w : World) : List Ld → List Value → Prop
  | [], xs => xs = []
  | l :: r, xs => ∃ p c ys, xs = .string l.nm :: .bool l.un :: .slice p l.fs.length c :: .int .i64 l.sz :: .int .i64 l.al :: ys ∧ FSlice ok w l.fs p l.fs.length c ∧ Lcells ok w r ys
theorem FSlice.goOn {ok ok' : Nat → Prop} {w w' : World} {fs : List Fd} {p : Option Addr} {n cap : Nat} (h : FSlice ok w fs p n cap) (hs : ∀ B, ok B → B < w.heap.size) (hf : ∀ B i v, ok B → w.cell? ⟨B, i, none⟩ = some v → w'.cell? ⟨B, i, none⟩ = some v) (ho : ∀ B, B < w.heap.size → ok B → ok' B) : FSlice ok' w' fs p n cap :=
  h.turn hf (fun B hB => ho B (hs B hB) hB)
theorem Lcells.turn {ok ok' : Nat → Prop} {w w' : World} (hf : ∀ B i v, ok B → w.cell? ⟨B, i, none⟩ = some v → w'.cell? ⟨B, i, none⟩ = some v) (ho : ∀ B, ok B → ok' B) : ∀ {a : List Ld} {xs : List Value}, Lcells ok w a xs → Lcells ok' w' a xs
  | [], _, h => h
  | _ :: _, _, ⟨p, c, ys, e, hk, hr⟩ => ⟨p, c, ys, e, hk.turn hf ho, Lcells.turn hf ho hr⟩
theorem Lcells.append {ok : Nat → Prop} {w : World} : ∀ {a b : List Ld} {xs ys : List Value}, Lcells ok w a xs → Lcells ok w b ys → Lcells ok w (a ++ b) (xs ++ ys)
  | [], b, xs, ys, ha, hb => by
    have : xs = [] := ha
    subst this
    exact hb
  | f :: r, b, xs, ys, ha, hb => by
    obtain ⟨p, c, zs, rfl, hk, hr⟩ := ha
    exact ⟨p, c, zs ++ ys, rfl, hk, Lcells.append hr hb⟩
theorem Lcells.length {ok : Nat → Prop} {w : World} : ∀ {a : List Ld} {xs : List Value}, Lcells ok w a xs → xs.length = a.length * 5
  | [], _, h => by rw [show _ = [] from h]; rfl
  | _ :: _, _, ⟨p, c, ys, e, hk, hr⟩ => by
    subst e
    have := hr.length
    simp
    omega
theorem Lcells.at' {ok : Nat → Prop} {w : World} : ∀ {a : List Ld} {xs : List Value} {k : Nat} {l : Ld}, Lcells ok w a xs → a[k]? = some l → ∃ p c, FSlice ok w l.fs p l.fs.length c ∧ xs[k * 5]? = some (.string l.nm) ∧ xs[k * 5 + 1]? = some (.bool l.un) ∧ xs[k * 5 + 2]? = some (.slice p l.fs.length c) ∧ xs[k * 5 + 3]? = some (.int .i64 l.sz) ∧ xs[k * 5 + 4]? = some (.int .i64 l.al)
  | [], _, _, _, _, h => by simp at h
  | f :: r, xs, 0, x, ⟨p, c, ys, e, hk, hr⟩, h => by
    simp at h
    subst h e
    exact ⟨p, c, hk, rfl, rfl, rfl, rfl, rfl⟩
  | f :: r, xs, k + 1, x, ⟨p, c, ys, e, hk, hr⟩, h => by
    simp at h
    subst e
    obtain ⟨p', c', hk', cs⟩ := hr.at' h
    have e5 : ∀ i, (Value.string f.nm :: .bool f.un :: .slice p f.fs.length c :: .int .i64 f.sz :: .int .i64 f.al :: ys)[(k + 1) * 5 + i]? = ys[k * 5 + i]? := fun i => by
      rw [show (k + 1) * 5 + i = k * 5 + i + 1 + 1 + 1 + 1 + 1 by omega]
      rfl
    have e0 := e5 0
    simp only [Nat.add_zero] at e0
    refine ⟨p', c', hk', ?_⟩
    rw [e0, e5 1, e5 2, e5 3, e5 4]
    exact cs
/-- What stands in a row, as layouts. -/
def laV (xs : List Value) (i : Nat) : La :=
  match xs[i * 5]?, xs[i * 5 + 1]?, xs[i * 5 + 2]?, xs[i * 5 + 3]?, xs[i * 5 + 4]? with
  | some (.string nm), some (.bool un), some (.slice p n c), some (.int _ sz), some (.int _ al) => ⟨nm, un, p, n, c, sz, al⟩
  | _, _, _, _, _ => la0
theorem Lcells.la {ok : Nat → Prop} {w : World} {a : List Ld} {xs : List Value} {k : Nat} {l : Ld} (h : Lcells ok w a xs) (hl : a[k]? = some l) : ∃ p c, FSlice ok w l.fs p l.fs.length c ∧ laV xs k = ⟨l.nm, l.un, p, l.fs.length, c, l.sz, l.al⟩ := by
  obtain ⟨p, c, hf, e0, e1, e2, e3, e4⟩ := h.at' hl
  refine ⟨p, c, hf, ?_⟩
  unfold laV
  rw [e0, e1, e2, e3, e4]
/-- The same layouts, without their members. -/
def laL (L : List Ld) (i : Nat) : La :=
  match L[i]? with
  | some l => ⟨l.nm, l.un, none, 0, 0, l.sz, l.al⟩
  | none => la0
def Alike (f g : Nat → La) (k : Nat) : Prop := ∀ i, i < k → (f i).nm = (g i).nm ∧ (f i).un = (g i).un ∧ (f i).sz = (g i).sz ∧ (f i).al = (g i).al
theorem Lcells.alike {ok : Nat → Prop} {w : World} {a : List Ld} {xs : List Value} (h : Lcells ok w a xs) : Alike (laV xs) (laL a) a.length := fun i hi => by
  have hl : a[i]? = some a[i] := List.getElem?_eq_getElem hi
  obtain ⟨p, c, -, e⟩ := h.la hl
  rw [e]
  unfold laL
  rw [hl]
  exact ⟨rfl, rfl, rfl, rfl⟩
theorem recSize_alike {f g : Nat → La} : ∀ {k : Nat}, Alike f g k → ∀ (nm : ByteArray) (un : Bool), recSize f k nm un = recSize g k nm un := by
  intro k h nm un
  have e : (List.range k).find? (fun i => (f i).nm.toList == nm.toList) = (List.range k).find? (fun i => (g i).nm.toList == nm.toList) := by
    have : ∀ l : List Nat, (∀ i ∈ l, i < k) → l.find? (fun i => (f i).nm.toList == nm.toList) = l.find? (fun i => (g i).nm.toList == nm.toList) := by
      intro l hl
      induction l with
      | nil => rfl
      | cons a r ih =>
        rw [List.find?_cons, List.find?_cons, (h a (hl a (by simp))).1, ih (fun i hi => hl i (by simp [hi]))]
    exact this _ (fun i hi => by simpa using hi)
  unfold recSize
  rw [e]
  cases hh : (List.range k).find? (fun i => (g i).nm.toList == nm.toList) with
  | none => rfl
  | some i =>
    have hi : i < k := by simpa using List.mem_of_find?_eq_some hh
    obtain ⟨-, h1, h2, h3⟩ := h i hi
    simp only [h1, h2, h3]
theorem sizeH_alike {f g : Nat → La} {k : Nat} (h : Alike f g k) (d : Hd) (s : Int × Int) : sizeH f k d s = sizeH g k d s := by
  unfold sizeH
  rw [recSize_alike h]
theorem size0_alike {f g : Nat → La} {k : Nat} (h : Alike f g k) : ∀ ks : Tys, ks.size0 f k = ks.size0 g k
  | .nil => rfl
  | .cons d ks _ => by
    show sizeH f k d (ks.size0 f k) = sizeH g k d (ks.size0 g k)
    rw [size0_alike h ks, sizeH_alike h]
theorem Fd.size_alike {f g : Nat → La} {k : Nat} (h : Alike f g k) (x : Fd) : x.size f k = x.size g k := by
  unfold Fd.size
  rw [size0_alike h, sizeH_alike h]
theorem layF_alike {f g : Nat → La} {k : Nat} (h : Alike f g k) (un : Bool) : ∀ (fs : List Fd) (s : LS), layF f k un fs s = layF g k un fs s
  | [], s => rfl
  | x :: r, s => by
    have e : s.add f k un x = s.add g k un x := by unfold LS.add; rw [Fd.size_alike h]
    simp only [layF]
    rw [Fd.size_alike h, e, layF_alike h un r]
/-- What a layout has that was laid. -/
structure LdOk (l : Ld) : Prop where
  s0 : 0 ≤ l.sz
  s1 : l.sz ≤ 1048576
  a0 : 1 ≤ l.al
  a1 : l.al ≤ 8
  wf : ∀ x ∈ l.fs, WFh x.h x.ks ∧ x.ks.wf
theorem Alike.good {f : Nat → La} {L : List Ld} (h : Alike f (laL L) L.length) (hL : ∀ l ∈ L, LdOk l) : Good f L.length := fun i hi => by
  obtain ⟨-, -, h2, h3⟩ := h i hi
  have hl : L[i]? = some L[i] := List.getElem?_eq_getElem hi
  have hk := hL L[i] (List.getElem_mem hi)
  have e : laL L i = ⟨L[i].nm, L[i].un, none, 0, 0, L[i].sz, L[i].al⟩ := by unfold laL; rw [hl]
  rw [h2, h3, e]
  exact ⟨hk.s0, hk.s1, hk.a0, hk.a1⟩
theorem layF_bd {f : Nat → La} {k : Nat} (hg : Good f k) {un : Bool} {P : Hd → Tys → Prop} : ∀ (fs : List Fd) (s s' : LS), 0 ≤ s.sz → 1 ≤ s.al → s.al ≤ 8 → (∀ x ∈ s.acc, P x.h x.ks) → (∀ x ∈ fs, P x.h x.ks) → layF f k un fs s = .inl s' → 0 ≤ s'.sz ∧ 1 ≤ s'.al ∧ s'.al ≤ 8 ∧ ∀ x ∈ s'.acc, P x.h x.ks
  | [], s, s', h0, h1, h2, ha, hf, e => by
    simp only [layF, Sum.inl.injEq] at e
    subst e
    exact ⟨h0, h1, h2, ha⟩
  | x :: r, s, s', h0, h1, h2, ha, hf, e => by
    simp only [layF] at e
    split at e
    · cases e
    · split at e
      · cases e
      · have hb := Fd.size_bd hg x
        refine layF_bd hg r _ _ ?_ ?_ ?_ ?_ (fun y hy => hf y (by simp [hy])) e
        · simp only [LS.add]; omega
        · simp only [LS.add]; omega
        · simp only [LS.add]; omega
        · intro y hy
          simp only [LS.add, List.mem_append, List.mem_singleton] at hy
          rcases hy with hy | rfl
          · exact ha y hy
          · exact hf x (by simp)
/-- The list after one record more. -/
def kstep (L : List Ld) (r : Rec) : List Ld :=
  match layF (laL L) L.length r.un (r.fds r.N) LS.zero with
  | .inr _ => L
  | .inl s => if 1048576 < mul s.sz s.al ∨ r.forget = true then L else L ++ [⟨nameOf r.name, r.un, s.acc, mul s.sz s.al, s.al⟩]
theorem kstep_len (L : List Ld) (r : Rec) : (kstep L r).length ≤ L.length + 1 := by
  unfold kstep
  split
  · omega
  · split
    · omega
    · simp
/-- Where the members lie: in blocks that are there and in neither list's own. -/
def okS (X : World) (v1 v2 : Value) (b : Nat) : Prop := b < X.heap.size ∧ some b ≠ v1.ownBlock ∧ some b ≠ v2.ownBlock
/-- What stands at the head of a round. -/
structure KS (w X : World) (L1 L2 : List Ld) (v1 v2 : Value) (xs1 xs2 : List Value) : Prop where
  fr : Fresh w X
  own1 : X.ownsRow w.heap.size 36 5 v1 L1.length xs1
  own2 : X.ownsRow w.heap.size 36 5 v2 L2.length xs2
  ne : v1.ownBlock = none ∨ v1.ownBlock ≠ v2.ownBlock
  c1 : Lcells (okS X v1 v2) X L1 xs1
  c2 : Lcells (okS X v1 v2) X L2 xs2
theorem KS.zero (w : World) : KS w w [] [] (.slice none 0 0) (.slice none 0 0) [] [] :=
  ⟨Fresh.refl w, World.ownsRow_nil .., World.ownsRow_nil .., Or.inl rfl, rfl, rfl⟩
theorem okS.symm {X : World} {v1 v2 : Value} {b : Nat} (h : okS X v1 v2 b) : okS X v2 v1 b := ⟨h.1, h.2.2, h.2.1⟩
theorem KS.symm {w X : World} {L1 L2 : List Ld} {v1 v2 : Value} {xs1 xs2 : List Value} (h : KS w X L1 L2 v1 v2 xs1 xs2) : KS w X L2 L1 v2 v1 xs2 xs1 := by
  refine ⟨h.fr, h.own2, h.own1, ?_, h.c2.turn (fun _ _ _ _ hv => hv) (fun _ hb => hb.symm), h.c1.turn (fun _ _ _ _ hv => hv) (fun _ hb => hb.symm)⟩
  rcases h.ne with e | e
  · by_cases e2 : v2.ownBlock = none
    · exact Or.inl e2
    · exact Or.inr (fun e3 => e2 (by rw [e3, e]))
  · exact Or.inr (fun e3 => e e3.symm)
theorem KS.later {w X Y : World} {L1 L2 : List Ld} {v1 v2 : Value} {xs1 xs2 : List Value} (h : KS w X L1 L2 v1 v2 xs1 xs2) (hf : Fresh X Y) : KS w Y L1 L2 v1 v2 xs1 xs2 :=
  ⟨h.fr.trans hf, hf.own h.own1, hf.own h.own2, h.ne, h.c1.turn (fun _ _ _ _ hv => hf.at' hv) (fun b hb => ⟨Nat.lt_of_lt_of_le hb.1 hf.size, hb.2⟩), h.c2.turn (fun _ _ _ _ hv => hf.at' hv) (fun b hb => ⟨Nat.lt_of_lt_of_le hb.1 hf.size, hb.2⟩)⟩
/-- What the first list's growth does not touch. -/
theorem okS.grown {Y Z : World} {v1 v2 : Value} {g k c : Nat} (gr : Y.grownBy Z v1.ownBlock) (hat : v1.ownBlock = some g ∨ Y.heap.size ≤ g) {b : Nat} (h : okS Y v1 v2 b) : okS Z (.slice (some ⟨g, 0, none⟩) k c) v2 b := by
  refine ⟨Nat.lt_of_lt_of_le h.1 gr.size, fun e => ?_, h.2.2⟩
  have e' : b = g := by simpa [Value.ownBlock] using e
  rcases hat with e2 | e2
  · exact h.2.1 (by rw [e2, e'])
  · have := h.1
    omega
theorem FSlice.grown {Y Z : World} {v1 v2 : Value} {g k c : Nat} {fs : List Fd} {p : Option Addr} {n cap : Nat} (h : FSlice (okS Y v1 v2) Y fs p n cap) (gr : Y.grownBy Z v1.ownBlock) (hat : v1.ownBlock = some g ∨ Y.heap.size ≤ g) : FSlice (okS Z (.slice (some ⟨g, 0, none⟩) k c) v2) Z fs p n cap :=
  h.turn (fun B i u hB hu => gr.cell (a := ⟨B, i, none⟩) hu hB.2.1) (fun b hb => hb.grown gr hat)
theorem KS.step {w Y Z : World} {L1 L2 : List Ld} {v1 v2 : Value} {xs1 xs2 : List Value} (h : KS w Y L1 L2 v1 v2 xs1 xs2) {l : Ld} {p : Option Addr} {c g c2 : Nat} (hl : FSlice (okS Y v1 v2) Y l.fs p l.fs.length c) (own : Z.ownsRow w.heap.size 36 5 (.slice (some ⟨g, 0, none⟩) (L1.length + 1) c2) (L1.length + 1) (xs1 ++ [.string l.nm, .bool l.un, .slice p l.fs.length c, .int .i64 l.sz, .int .i64 l.al])) (gr : Y.grownBy Z v1.ownBlock) (hat : v1.ownBlock = some g ∨ Y.heap.size ≤ g) :
    KS w Z (L1 ++ [l]) L2 (.slice (some ⟨g, 0, none⟩) (L1.length + 1) c2) v2 (xs1 ++ [.string l.nm, .bool l.un, .slice p l.fs.length c, .int .i64 l.sz, .int .i64 l.al]) xs2 := by
  have hlt := h.own1.lt
  have hlt2 := h.own2.lt
  refine ⟨h.fr.grown gr (fun b hb => (hlt b hb).1), ?_, ?_, Or.inr ?_, ?_, ?_⟩
  · rw [List.length_append]; exact own
  · refine h.own2.kept gr ?_
    rcases h.symm.ne with e | e
    · exact Or.inl e
    · exact Or.inr e
  · intro e
    have e1 : v2.ownBlock = some g := by rw [← e]; rfl
    rcases hat with e2 | e2
    · rcases h.ne with e3 | e3
      · rw [e3] at e2; cases e2
      · exact e3 (by rw [e1, e2])
    · have := (hlt2 g e1).2
      omega
  · refine Lcells.append (h.c1.turn (fun B i u hB hu => gr.cell (a := ⟨B, i, none⟩) hu hB.2.1) (fun b hb => hb.grown gr hat)) ⟨p, c, [], rfl, hl.grown gr hat, rfl⟩
  · exact h.c2.turn (fun B i u hB hu => gr.cell (a := ⟨B, i, none⟩) hu hB.2.1) (fun b hb => hb.grown gr hat)
/-- The first list, as Lay and Size and Find read it. -/
theorem KS.lays {w X : World} {L1 L2 : List Ld} {v2 : Value} {xs1 xs2 : List Value} {p : Option Addr} {n c : Nat} (h : KS w X L1 L2 (.slice p n c) v2 xs1 xs2) : n = L1.length ∧ n ≤ c ∧ c ≤ maxLen ∧ LaysAt X p n (laV xs1) := by
  have h5 := h.c1.length
  rcases h.own1.2 with ⟨e, h0⟩ | ⟨g, c', cur, e, -, -, hcc, hm, -⟩
  · cases e
    exact ⟨h0.symm, Nat.le_refl _, Nat.zero_le _, Or.inl rfl⟩
  · cases e
    refine ⟨rfl, hcc, hm, Or.inr ⟨g, 0, rfl, fun i hi => ?_⟩⟩
    have hl : L1[i]? = some L1[i] := List.getElem?_eq_getElem hi
    obtain ⟨p, c3, hf, e0, e1, e2, e3, e4⟩ := h.c1.at' hl
    have el : laV xs1 i = ⟨L1[i].nm, L1[i].un, p, L1[i].fs.length, c3, L1[i].sz, L1[i].al⟩ := by
      unfold laV
      rw [e0, e1, e2, e3, e4]
    rw [el]
    have hq : ∀ j u, xs1[j]? = some u → X.cell? ⟨g, 0 + j, none⟩ = some u := fun j u hu => by
      have := h.own1.cells (g := g) rfl j u hu
      rw [Go.WideShapes.add_plain] at this
      exact this
    exact ⟨hq _ _ e0, hq _ _ e1, hq _ _ e2, hq _ _ e3, hq _ _ e4⟩
end Go.Proofs.YteiomcbphbbpkaaDoor
/- Both Lays of a record, over the list. -/
namespace Go.Proofs.YteiomcbphbbpkaaDoor
set_option linter.unusedSimpArgs false
set_option linter.unusedVariables false
open Go.RowKit

theorem layF_codes {f : Nat → La} {kn : Nat} {un : Bool} : ∀ (fs : List Fd) (s : LS) (i : Nat) (c : Int), layF f kn un fs s = .inr (i, c) → c = 4 ∨ c = 5
  | [], s, i, c, e => by simp [layF] at e
  | x :: r, s, i, c, e => by
    simp only [layF] at e
    split at e
    · simp at e; exact Or.inl e.2.symm
    · split at e
      · simp at e; exact Or.inr e.2.symm
      · exact layF_codes r _ _ _ e
theorem Rec.namesOk (r : Rec) (k : Nat) : ∀ x ∈ r.fds k, isName x.nm := by
  intro x hx
  obtain ⟨i, -, rfl⟩ := List.mem_map.1 hx
  exact isName_of _
theorem Rec.smallOk (r : Rec) (k : Nat) : ∀ x ∈ r.fds k, x.ks.small ∧ x.ks.length ≤ 9 := by
  intro x hx
  obtain ⟨i, -, rfl⟩ := List.mem_map.1 hx
  exact mkT_small _ _ 61 0
theorem Rec.wfOk (r : Rec) (k : Nat) : ∀ x ∈ r.fds k, WFh x.h x.ks ∧ x.ks.wf := by
  intro x hx
  obtain ⟨i, -, rfl⟩ := List.mem_map.1 hx
  exact mkT_wf _ _ 61 0
theorem Rec.offOk (r : Rec) (k : Nat) : ∀ x ∈ r.fds k, x.off = 77 := by
  intro x hx
  obtain ⟨i, -, rfl⟩ := List.mem_map.1 hx
  rfl
/-- What both answer: a layout, where it failed, how. -/
def kans (L : List Ld) (r : Rec) : Ld × Int × Int :=
  match layF (laL L) L.length r.un (r.fds r.N) LS.zero with
  | .inr (i, c) => (⟨⟨#[]⟩, false, [], 0, 0⟩, i, c)
  | .inl s => if 1048576 < mul s.sz s.al then (⟨⟨#[]⟩, false, [], 0, 0⟩, -1, 7) else (⟨nameOf r.name, r.un, s.acc, mul s.sz s.al, s.al⟩, -1, 0)
theorem alike_refl (f : Nat → La) (k : Nat) : Alike f f k := fun _ _ => ⟨rfl, rfl, rfl, rfl⟩
theorem kans_ok {L : List Ld} (hL : ∀ l ∈ L, LdOk l) (r : Rec) : (∀ x ∈ (kans L r).1.fs, WFh x.h x.ks ∧ x.ks.wf) ∧ ((kans L r).2.2 = 0 → LdOk (kans L r).1) := by
  have hg := (alike_refl (laL L) L.length).good hL
  unfold kans
  cases hl : layF (laL L) L.length r.un (r.fds r.N) LS.zero with
  | inr ic =>
    obtain ⟨i, c⟩ := ic
    refine ⟨fun x hx => by simp at hx, fun h => ?_⟩
    have h' : c = 0 := h
    rcases layF_codes _ _ _ _ hl with e | e <;> omega
  | inl s =>
    have hb := layF_bd (P := fun h ks => WFh h ks ∧ ks.wf) hg _ _ _ (by simp [LS.zero]) (by simp [LS.zero]) (by simp [LS.zero]) (fun x hx => by simp [LS.zero] at hx) (r.wfOk r.N) hl
    have hm := mul_bd s.sz s.al hb.1 hb.2.1
    dsimp only
    split
    · exact ⟨fun x hx => by simp at hx, fun h => by simp at h⟩
    · exact ⟨hb.2.2.2, fun _ => ⟨by show 0 ≤ mul s.sz s.al; omega, by show mul s.sz s.al ≤ 1048576; omega, hb.2.1, hb.2.2.1, hb.2.2.2⟩⟩
theorem kstep_kans (L : List Ld) (r : Rec) : kstep L r = if (kans L r).2.2 = 0 ∧ r.forget = false then L ++ [(kans L r).1] else L := by
  cases hl : layF (laL L) L.length r.un (r.fds r.N) LS.zero with
  | inr ic =>
    obtain ⟨i, c⟩ := ic
    have hc : ¬ (c = 0) := by rcases layF_codes _ _ _ _ hl with e | e <;> omega
    have hk : kans L r = ((⟨⟨#[]⟩, false, [], 0, 0⟩ : Ld), (i : Int), c) := by unfold kans; rw [hl]
    have hs : kstep L r = L := by unfold kstep; rw [hl]
    rw [hk, hs]
    exact (if_neg (by intro h; exact hc h.1)).symm
  | inl s =>
    have hs : kstep L r = if 1048576 < mul s.sz s.al ∨ r.forget = true then L else L ++ [(⟨nameOf r.name, r.un, s.acc, mul s.sz s.al, s.al⟩ : Ld)] := by unfold kstep; rw [hl]
    by_cases h1 : 1048576 < mul s.sz s.al
    · have hk : kans L r = ((⟨⟨#[]⟩, false, [], 0, 0⟩ : Ld), -1, 7) := by unfold kans; rw [hl]; exact if_pos h1
      rw [hk, hs, if_pos (Or.inl h1)]
      exact (if_neg (by simp)).symm
    · have hk : kans L r = ((⟨nameOf r.name, r.un, s.acc, mul s.sz s.al, s.al⟩ : Ld), -1, 0) := by unfold kans; rw [hl]; exact if_neg h1
      rw [hk, hs]
      cases hf : r.forget
      · rw [if_neg (by simp [h1])]
        exact (if_pos (by simp)).symm
      · rw [if_pos (by simp)]
        exact (if_neg (by simp)).symm
theorem kstep_ok {L : List Ld} (hL : ∀ l ∈ L, LdOk l) (r : Rec) : ∀ l ∈ kstep L r, LdOk l := by
  rw [kstep_kans]
  split
  · rename_i h
    intro l hl
    rcases List.mem_append.1 hl with hl | hl
    · exact hL l hl
    · rw [List.mem_singleton] at hl
      subst hl
      exact (kans_ok hL r).2 h.1
  · exact hL
theorem FSlice.of_own2 {ok ok' : Nat → Prop} {w : World} {base n cap : Nat} {p : Option Addr} {fs : List Fd} {xs : List Value} (h : w.ownsRow base 59 8 (.slice p n cap) n xs) (hk : Fcells ok w fs xs) (ho : ∀ b, b < w.heap.size → ok b → ok' b) (hg : ∀ g, base ≤ g → g < w.heap.size → ok' g) : FSlice ok' w fs p n cap := by
  have hl := hk.length
  have h8 : xs.length = n * 8 := h.1
  have hlt := h.lt
  refine ⟨by omega, ?_, ?_, xs, hk.mono ho, ?_⟩
  · rcases h.2 with ⟨e, h0⟩ | ⟨g, c, cur, e, -, -, hc, -⟩
    · cases e; exact Nat.le_refl _
    · cases e; exact hc
  · rcases h.2 with ⟨e, h0⟩ | ⟨g, c, cur, e, -, -, -, hm, -⟩
    · cases e; exact Nat.zero_le _
    · cases e; exact hm
  · rcases h.2 with ⟨e, h0⟩ | ⟨g, c, cur, e, -, -, -, -, -⟩
    · cases e; exact Or.inl ⟨rfl, h0, rfl⟩
    · cases e
      refine Or.inr ⟨g, 0, rfl, hg g (hlt g rfl).1 (hlt g rfl).2, fun j u hu => ?_⟩
      have := h.cells (g := g) rfl j u hu
      rw [Go.WideShapes.add_plain] at this
      exact this
def KOk (N : Nat) (w : World) (b : Nat) : Prop := N ≤ b ∧ b < w.heap.size
theorem fslice_nil (ok : Nat → Prop) (w : World) : FSlice ok w [] none 0 0 := ⟨rfl, Nat.le_refl _, Nat.zero_le _, [], rfl, Or.inl ⟨rfl, rfl, rfl⟩⟩
/-- The program's Lay of the record. -/
theorem lay_k {ok : Nat → Prop} {f : Nat → La} {L : List Ld} (r : Rec) (lp : Option Addr) (lc : Nat) (p : Option Addr) (c N : Nat) (w0 w : World) (hf : Fresh w0 w) (hs : FSlice ok w0 (r.fds r.N) p r.N c) (hl : LaysAt w0 lp L.length f) (ha : Alike f (laL L) L.length) (hL : ∀ l ∈ L, LdOk l) (h0 : L.length ≤ lc) (h1 : lc ≤ maxLen) (hN : N ≤ w.heap.size) :
    Calls Tryd.prog 33 #[.string (nameOf r.name), .bool r.un, .slice p r.N c, .slice lp L.length lc] w fun e w' => (∃ fp fc, e = .returned (.tuple #[.agg #[.string (kans L r).1.nm, .bool (kans L r).1.un, .slice fp (kans L r).1.fs.length fc, .int .i64 (kans L r).1.sz, .int .i64 (kans L r).1.al], .int .i64 (kans L r).2.1, .int .i64 (kans L r).2.2]) ∧ FSlice (KOk N w') w' (kans L r).1.fs fp (kans L r).1.fs.length fc) ∧ Fresh w w' := by
  refine (lay_any f lp L.length lc (nameOf r.name) r.un (r.fds r.N) p r.N c w0 w hf hs hl (ha.good hL) h0 h1 (r.namesOk r.N) (r.smallOk r.N)).mono ?_
  rintro e w' ⟨hw, h⟩
  rw [layF_alike ha] at h
  unfold kans
  cases hl : layF (laL L) L.length r.un (r.fds r.N) LS.zero with
  | inr ic =>
    obtain ⟨i, c⟩ := ic
    rw [hl] at h
    exact ⟨⟨none, 0, h, fslice_nil ..⟩, hw⟩
  | inl s =>
    rw [hl] at h
    dsimp only at h ⊢
    by_cases hM : 1048576 < mul s.sz s.al
    · rw [if_pos hM] at h
      rw [if_pos hM]
      exact ⟨⟨none, 0, h, fslice_nil ..⟩, hw⟩
    · rw [if_neg hM] at h
      rw [if_neg hM]
      obtain ⟨fp, fc, xs, rfl, hown, hc⟩ := h
      exact ⟨⟨fp, fc, rfl, FSlice.of_own2 hown hc (fun b hb hx => ⟨by have := hx.1; omega, hb⟩) (fun g hg hg2 => ⟨by omega, hg2⟩)⟩, hw⟩
/-- Where the reference's members lie. -/
def KR (N M X : Nat) (w : World) (b : Nat) : Prop := N ≤ b ∧ b < w.heap.size ∧ (b < M ∨ X ≤ b)
/-- The reference's. -/
theorem layR_k {f : Nat → La} {L : List Ld} (r : Rec) (lp : Option Addr) (lc : Nat) (p : Option Addr) (c N : Nat) (w0 w : World) (hf : Fresh w0 w) (hs : FSlice (KOk N w0) w0 (r.fds r.N) p r.N c) (hl : LaysAt w0 lp L.length f) (ha : Alike f (laL L) L.length) (hL : ∀ l ∈ L, LdOk l) (h0 : L.length ≤ lc) (h1 : lc ≤ maxLen) (hN : N ≤ w.heap.size) :
    Calls Tryd.prog 41 #[.string (nameOf r.name), .bool r.un, .slice p r.N c, .slice lp L.length lc] w fun e w' => (∃ fp fc, e = .returned (.tuple #[.agg #[.string (kans L r).1.nm, .bool (kans L r).1.un, .slice fp (kans L r).1.fs.length fc, .int .i64 (kans L r).1.sz, .int .i64 (kans L r).1.al], .int .i64 (kans L r).2.1, .int .i64 (kans L r).2.2]) ∧ FSlice (KR N w0.heap.size w.heap.size w') w' (kans L r).1.fs fp (kans L r).1.fs.length fc) ∧ Fresh w w' := by
  have key : Calls Tryd.prog 41 #[.string (nameOf r.name), .bool r.un, .slice p r.N c, .slice lp L.length lc] w (LayRR (KOk N w0) w (nameOf r.name) r.un (layF f L.length r.un (r.fds r.N) LS.zero)) := by
    cases r.un
    · exact layR_f f lp L.length lc (nameOf r.name) (r.fds r.N) p r.N c w0 w hf hs hl (ha.good hL) h0 h1 (r.namesOk r.N) (r.wfOk r.N)
    · exact layR_t f lp L.length lc (nameOf r.name) (r.fds r.N) p r.N c w0 w hf hs hl (ha.good hL) h0 h1 (r.namesOk r.N) (r.wfOk r.N)
  refine key.mono ?_
  rintro e w' ⟨hw, h⟩
  rw [layF_alike ha] at h
  unfold kans
  cases hl : layF (laL L) L.length r.un (r.fds r.N) LS.zero with
  | inr ic =>
    obtain ⟨i, c⟩ := ic
    rw [hl] at h
    exact ⟨⟨none, 0, h, fslice_nil ..⟩, hw⟩
  | inl s =>
    rw [hl] at h
    dsimp only at h ⊢
    by_cases hM : 1048576 < mul s.sz s.al
    · rw [if_pos hM] at h
      rw [if_pos hM]
      exact ⟨⟨none, 0, h, fslice_nil ..⟩, hw⟩
    · rw [if_neg hM] at h
      rw [if_neg hM]
      obtain ⟨fp, fc, xs, rfl, hown, hc⟩ := h
      exact ⟨⟨fp, fc, rfl, FSlice.of_own2 hown hc (fun b hb hx => ⟨hx.2.1, hb, Or.inl hx.2.2⟩) (fun g hg hg2 => ⟨by omega, hg2, Or.inr (by omega)⟩)⟩, hw⟩
theorem fields_k (r : Rec) (np : Option Addr) (nc : Nat) (tp : Option Addr) (tc : Nat) (w0 w : World) (hf : Fresh w0 w) (hr : RecAt w0 r np nc tp tc) (hN : r.N ≤ 1048576) :
    Calls Tryd.prog 34 #[.agg #[.int .i64 r.name, .bool r.un, .slice np r.nn nc, .slice tp r.N tc, .bool r.forget]] w fun e w' => (∃ p c, e = .returned (.slice p r.N c) ∧ FSlice (KOk w.heap.size w') w' (r.fds r.N) p r.N c) ∧ Fresh w w' := by
  refine (fields_any r np nc tp tc w0 w hf hr hN).mono ?_
  rintro e w' ⟨⟨p, c, xs, rfl, hown, hc⟩, hw⟩
  exact ⟨⟨p, c, rfl, FSlice.of_own2 hown hc (fun b hb hx => ⟨by omega, hb⟩) (fun g hg hg2 => ⟨by omega, hg2⟩)⟩, hw⟩
end Go.Proofs.YteiomcbphbbpkaaDoor
/- Two rows that grow, each by its own layout. -/
namespace Go.Proofs.YteiomcbphbbpkaaDoor
set_option linter.unusedSimpArgs false
set_option linter.unusedVariables false
open Go.RowKit

theorem Blk.news {w : World} {b : Nat} {vs : List Value} (h : Blk w b vs) : ∀ j u, vs[j]? = some u → w.cell? ((⟨b, 0, none⟩ : Addr).add j) = some u := fun j u hu => by
  rw [Go.WideShapes.add_plain, Nat.zero_add]
  exact h.1 j u hu
/-- A layout's cells. -/
@[reducible] def Ld.cells (l : Ld) (p : Option Addr) (c : Nat) : List Value := [.string l.nm, .bool l.un, .slice p l.fs.length c, .int .i64 l.sz, .int .i64 l.al]
structure P17 (w X : World) (L1 L2 : List Ld) (v1 v2 : Value) (xs1 xs2 : List Value) (l : Ld) (p1 : Option Addr) (c1 : Nat) (p2 : Option Addr) (c2 : Nat) (q q2 : Nat) : Prop where
  ks : KS w X L1 L2 v1 v2 xs1 xs2
  b1 : Blk X q (l.cells p1 c1)
  b2 : Blk X q2 (l.cells p2 c2)
  n1 : some q ≠ v1.ownBlock ∧ some q ≠ v2.ownBlock
  n2 : some q2 ≠ v1.ownBlock ∧ some q2 ≠ v2.ownBlock
  s1 : FSlice (okS X v1 v2) X l.fs p1 l.fs.length c1
  s2 : FSlice (okS X v1 v2) X l.fs p2 l.fs.length c2
section
variable {w X Y Z : World} {L1 L2 : List Ld} {v1 v2 : Value} {xs1 xs2 : List Value} {l : Ld} {p1 p2 : Option Addr} {c1 c2 q q2 : Nat}
theorem FSlice.laterS {fs : List Fd} {p : Option Addr} {n c : Nat} (h : FSlice (okS X v1 v2) X fs p n c) (hf : Fresh X Y) : FSlice (okS Y v1 v2) Y fs p n c :=
  h.turn (fun _ _ _ _ hv => hf.at' hv) (fun b hb => ⟨Nat.lt_of_lt_of_le hb.1 hf.size, hb.2⟩)
theorem FSlice.symmS {fs : List Fd} {p : Option Addr} {n c : Nat} (h : FSlice (okS X v1 v2) X fs p n c) : FSlice (okS X v2 v1) X fs p n c :=
  h.turn (fun _ _ _ _ hv => hv) (fun b hb => hb.symm)
theorem P17.later (h : P17 w X L1 L2 v1 v2 xs1 xs2 l p1 c1 p2 c2 q q2) (hf : Fresh X Y) : P17 w Y L1 L2 v1 v2 xs1 xs2 l p1 c1 p2 c2 q q2 :=
  ⟨h.ks.later hf, h.b1.fresh hf, h.b2.fresh hf, h.n1, h.n2, h.s1.laterS hf, h.s2.laterS hf⟩
theorem P17.symm (h : P17 w X L1 L2 v1 v2 xs1 xs2 l p1 c1 p2 c2 q q2) : P17 w X L2 L1 v2 v1 xs2 xs1 l p2 c2 p1 c1 q2 q :=
  ⟨h.ks.symm, h.b2, h.b1, h.n2.symm, h.n1.symm, h.s2.symmS, h.s1.symmS⟩
theorem P17.grow (h : P17 w Y L1 L2 v1 v2 xs1 xs2 l p1 c1 p2 c2 q q2) {g c : Nat} (own : Z.ownsRow w.heap.size 36 5 (.slice (some ⟨g, 0, none⟩) (L1.length + 1) c) (L1.length + 1) (xs1 ++ l.cells p1 c1)) (gr : Y.grownBy Z v1.ownBlock) (hat : v1.ownBlock = some g ∨ g = Y.heap.size) :
    P17 w Z (L1 ++ [l]) L2 (.slice (some ⟨g, 0, none⟩) (L1.length + 1) c) v2 (xs1 ++ l.cells p1 c1) xs2 l p1 c1 p2 c2 q q2 := by
  have hat' : v1.ownBlock = some g ∨ Y.heap.size ≤ g := hat.imp id (fun e => by omega)
  have hne : ∀ b, some b ≠ v1.ownBlock → b < Y.heap.size → some b ≠ (Value.slice (some ⟨g, 0, none⟩) (L1.length + 1) c).ownBlock := fun b hb hlt e => by
    have e' : b = g := by simpa [Value.ownBlock] using e
    rcases hat with e2 | e2
    · exact hb (by rw [e2, e'])
    · omega
  exact ⟨h.ks.step h.s1 own gr hat', h.b1.grown gr h.n1.1, h.b2.grown gr h.n2.1, ⟨hne _ h.n1.1 h.b1.2.2, h.n1.2⟩, ⟨hne _ h.n2.1 h.b2.2.2, h.n2.2⟩, h.s1.grown gr hat', h.s2.grown gr hat'⟩
theorem P17.ten (h : P17 w X L1 L2 v1 v2 xs1 xs2 l p1 c1 p2 c2 q q2) : X.cell? ⟨q, 0, none⟩ = some (.string l.nm) ∧ X.cell? ⟨q, 1, none⟩ = some (.bool l.un) ∧ X.cell? ⟨q, 2, none⟩ = some (.slice p1 l.fs.length c1) ∧ X.cell? ⟨q, 3, none⟩ = some (.int .i64 l.sz) ∧ X.cell? ⟨q, 4, none⟩ = some (.int .i64 l.al) ∧ X.cell? ⟨q2, 0, none⟩ = some (.string l.nm) ∧ X.cell? ⟨q2, 1, none⟩ = some (.bool l.un) ∧ X.cell? ⟨q2, 2, none⟩ = some (.slice p2 l.fs.length c2) ∧ X.cell? ⟨q2, 3, none⟩ = some (.int .i64 l.sz) ∧ X.cell? ⟨q2, 4, none⟩ = some (.int .i64 l.al) :=
  ⟨h.b1.1 0 _ rfl, h.b1.1 1 _ rfl, h.b1.1 2 _ rfl, h.b1.1 3 _ rfl, h.b1.1 4 _ rfl, h.b2.1 0 _ rfl, h.b2.1 1 _ rfl, h.b2.1 2 _ rfl, h.b2.1 3 _ rfl, h.b2.1 4 _ rfl⟩
/-- A block that was made behind the row's own stays. -/
theorem Blk.grownKS (h : KS w X L1 L2 v1 v2 xs1 xs2) {b : Nat} {vs : List Value} (hb : Blk Y b vs) (gr : Y.grownBy Z v1.ownBlock) (hlt : X.heap.size ≤ b) : Blk Z b vs :=
  hb.grown gr (fun e => by have := (h.own1.lt b e.symm).2; omega)
end
theorem info36 : (Tryd.prog.info? 36).map (fun i => (i.zero, i.size, i.bytes)) = some (some (.agg #[.string ⟨#[]⟩, .bool false, .slice none 0 0, .int .i64 0, .int .i64 0]), 5, 64) := by kernel_rfl
end Go.Proofs.YteiomcbphbbpkaaDoor
/- known: its walk. -/
namespace Go.Proofs.YteiomcbphbbpkaaDoor
set_option linter.unusedSimpArgs false
set_option linter.unusedVariables false
open Go.RowKit

/-- A record's cells. -/
structure RcAt (w : World) (B o : Nat) (r : Rec) (np : Option Addr) (nc : Nat) (tp : Option Addr) (tc : Nat) : Prop where
  c0 : w.cell? ⟨B, o, none⟩ = some (.int .i64 r.name)
  c1 : w.cell? ⟨B, o + 1, none⟩ = some (.bool r.un)
  c2 : w.cell? ⟨B, o + 2, none⟩ = some (.slice np r.nn nc)
  c3 : w.cell? ⟨B, o + 3, none⟩ = some (.slice tp r.N tc)
  c4 : w.cell? ⟨B, o + 4, none⟩ = some (.bool r.forget)
theorem RcAt.later {w w' : World} {B o : Nat} {r : Rec} {np : Option Addr} {nc : Nat} {tp : Option Addr} {tc : Nat} (h : RcAt w B o r np nc tp tc) (hf : Fresh w w') : RcAt w' B o r np nc tp tc :=
  ⟨hf.at' h.c0, hf.at' h.c1, hf.at' h.c2, hf.at' h.c3, hf.at' h.c4⟩
theorem FSlice.kLater {N : Nat} {w w' : World} {fs : List Fd} {p : Option Addr} {n cap : Nat} (h : FSlice (KOk N w) w fs p n cap) (hf : Fresh w w') : FSlice (KOk N w') w' fs p n cap :=
  h.turn (fun _ _ _ _ hv => hf.at' hv) (fun _ hb => ⟨hb.1, Nat.lt_of_lt_of_le hb.2 hf.size⟩)
theorem FSlice.kSet {N : Nat} {w : World} {fs : List Fd} {p : Option Addr} {n cap : Nat} (h : FSlice (KOk N w) w fs p n cap) {g : Nat} (hg : g < N) (i : Nat) (v : Value) : FSlice (KOk N (w.setCell ⟨g, i, none⟩ v)) (w.setCell ⟨g, i, none⟩ v) fs p n cap :=
  h.turn (fun B k u hB hu => by rw [← hu]; exact World.cell?_of_block (Below.heap_setCell _ _ _ _ (fun e => by have := hB.1; have e' : B = g := e; omega))) (fun _ hb => ⟨hb.1, by simpa [World.setCell] using hb.2⟩)
theorem FSlice.kLow {N M : Nat} {w : World} {fs : List Fd} {p : Option Addr} {n cap : Nat} (h : FSlice (KOk N w) w fs p n cap) (hm : M ≤ N) : FSlice (KOk M w) w fs p n cap :=
  h.turn (fun _ _ _ _ hv => hv) (fun _ hb => ⟨Nat.le_trans hm hb.1, hb.2⟩)
theorem FSlice.rSet {N M X : Nat} {w : World} {fs : List Fd} {p : Option Addr} {n cap : Nat} (h : FSlice (KR N M X w) w fs p n cap) {g : Nat} (hg : g < N ∨ (M ≤ g ∧ g < X)) (i : Nat) (v : Value) : FSlice (KR N M X (w.setCell ⟨g, i, none⟩ v)) (w.setCell ⟨g, i, none⟩ v) fs p n cap :=
  h.turn (fun B k u hB hu => by rw [← hu]; exact World.cell?_of_block (Below.heap_setCell _ _ _ _ (fun e => by have h1 := hB.1; have h2 := hB.2.2; have e' : B = g := e; omega))) (fun _ hb => ⟨hb.1, by simpa [World.setCell] using hb.2.1, hb.2.2⟩)
theorem FSlice.rLow {N M X K : Nat} {w : World} {fs : List Fd} {p : Option Addr} {n cap : Nat} (h : FSlice (KR N M X w) w fs p n cap) (hm : K ≤ N) : FSlice (KOk K w) w fs p n cap :=
  h.turn (fun _ _ _ _ hv => hv) (fun _ hb => ⟨Nat.le_trans hm hb.1, hb.2.1⟩)
/-- Records that came in. -/
def RecsAt (w : World) (rs : Nat → Rec) (rp : Option Addr) (n : Nat) : Prop :=
  n = 0 ∨ ∃ B off, rp = some ⟨B, off, none⟩ ∧ ∀ i, i < n → ∃ np nc tp tc, RecAt w (rs i) np nc tp tc ∧ RcAt w B (off + i * 5) (rs i) np nc tp tc
/-- The list after some records. -/
def klist (rs : Nat → Rec) : Nat → List Ld
  | 0 => []
  | k + 1 => kstep (klist rs k) (rs k)
theorem klist_len (rs : Nat → Rec) : ∀ k, (klist rs k).length ≤ k
  | 0 => by simp [klist]
  | k + 1 => by
    have h1 := kstep_len (klist rs k) (rs k)
    have h2 := klist_len rs k
    simp only [klist]
    omega
theorem klist_ok (rs : Nat → Rec) : ∀ k, ∀ l ∈ klist rs k, LdOk l
  | 0 => fun l hl => by simp [klist] at hl
  | k + 1 => kstep_ok (klist_ok rs k) (rs k)
set_option maxRecDepth 100000 in
set_option maxHeartbeats 8000000 in
theorem known_any (rs : Nat → Rec) (rp : Option Addr) (n rc : Nat) (w0 w : World) (hf : Fresh w0 w) (hn : n ≤ 30) (hc : n ≤ rc) (hm : rc ≤ maxLen) (hr : RecsAt w0 rs rp n) (hN : ∀ i, i < n → (rs i).N ≤ 1048576) :
    Calls Tryd.prog 9 #[.slice rp n rc] w fun e w' => (∃ p m c v2 xs1 xs2, e = .returned (.tuple #[.slice p m c, .bool true]) ∧ KS w w' (klist rs n) (klist rs n) (.slice p m c) v2 xs1 xs2) ∧ Fresh w w' := by
  have HF := Lib.hid hf
  have HR := Lib.hid hr
  have HN := Lib.hid hN
  have hmax : rc ≤ 9223372036854775807 := hm
  clear hf hr hN hm
  go_enter Tryd.func9, Tryd.ntmps9
  go_wp2_with fail
  go_loopw [4, 5, 18] (fun v1 v2 i wr => ∃ (k : Nat) (p : Option Addr) (m c : Nat) (p2 : Option Addr) (m2 c2 : Nat) (xs1 xs2 : List Value), k ≤ n ∧ i = .int .i64 k ∧ v1 = .slice p m c ∧ v2 = .slice p2 m2 c2 ∧ Hid (KS w wr (klist rs k) (klist rs k) (.slice p m c) (.slice p2 m2 c2) xs1 xs2)) (fun _ _ i _ => n - (intOf i).toNat)
  case atStart => exact ⟨0, none, 0, 0, none, 0, 0, [], [], by omega, rfl, rfl, rfl, Lib.hid (KS.zero w)⟩
  case round =>
    obtain ⟨k, p, m, c, p2, m2, c2, xs1, xs2, hk, rfl, rfl, rfl, HK⟩ := hrel
    by_cases hlt : k < n
    · obtain ⟨B, off, rfl, hrs⟩ := HR.out.resolve_left (by omega)
      obtain ⟨np, nc, tp, tc, hra, hrc⟩ := hrs k hlt
      have HNk := HN.out k hlt
      have HRA := Lib.hid hra
      have HL : Hid (klist rs (k + 1) = kstep (klist rs k) (rs k)) := Lib.hid rfl
      obtain ⟨r, hr⟩ : ∃ r, r = rs k := ⟨_, rfl⟩
      rw [← hr] at HL HRA hrc HNk
      obtain ⟨L, hL⟩ : ∃ L, L = klist rs k := ⟨_, rfl⟩
      have hLk : L.length ≤ 30 := by rw [hL]; have := klist_len rs k; omega
      have HLO := Lib.hid (klist_ok rs k)
      rw [← hL] at HK HL HLO
      obtain ⟨r0, r1, r2, r3, r4⟩ := hrc.later (HF.out.trans HK.out.fr)
      have rz := cell_lt r0
      simp only at rz
      have hlt' : (k : Int) < (n : Int) := by omega
      clear hrs hra hrc hr hL
      go_wp2_with fail
      go_at_call 34; refine (fields_any r np nc tp tc w0 _ (HF.out.trans (HK.out.fr.trans (by (repeat' first | with_reducible exact Fresh.refl _ | with_reducible assumption | with_reducible refine Fresh.alloc ?_ _ _ | with_reducible refine Fresh.drew ?_ | with_reducible refine Fresh.drewN ?_ _ | with_reducible refine Fresh.setCell ?_ ?_ _ | with_reducible refine Fresh.trans ?_ (by assumption) | (simp; done) | (simp; omega))))) HRA.out HNk).mono ?_; rintro e w2 ⟨⟨fp, fc, fxs, rfl, fown, fcells⟩, h2⟩
      have HW : Hid (Fresh wr w2) := Lib.hid (by (repeat' first | with_reducible exact Fresh.refl _ | with_reducible assumption | with_reducible refine Fresh.alloc ?_ _ _ | with_reducible refine Fresh.drew ?_ | with_reducible refine Fresh.drewN ?_ _ | with_reducible refine Fresh.setCell ?_ ?_ _ | with_reducible refine Fresh.trans ?_ (by assumption) | (simp; done) | (simp; omega)))
      have HB : Hid (Blk w2 wr.heap.size [.int .i64 r.name, .bool r.un, .slice np r.nn nc, .slice tp r.N tc, .bool r.forget]) := Lib.hid ((Blk.new wr #[.int .i64 r.name, .bool r.un, .slice np r.nn nc, .slice tp r.N tc, .bool r.forget] 53).fresh h2)
      have HFS : Hid (FSlice (fun b => wr.heap.size ≤ b) w2 (r.fds r.N) fp r.N fc) := Lib.hid (FSlice.of_own2 fown fcells (fun b _ hb => by simp at hb; omega) (fun g hg _ => by simp at hg; omega))
      have HK2 := Lib.hid (HK.out.later HW.out)
      obtain ⟨rfl, hmc, hcm, hlays⟩ := HK.out.lays
      have HLS := Lib.hid (hlays.later HW.out)
      have HCM := Lib.hid (And.intro hmc hcm)
      have HAL := Lib.hid HK.out.c1.alike
      have hsz := HW.out.size
      clear h2 fown fcells r0 r1 r2 r3 r4 rz hlays hmc hcm
      have bx := HB.out
      have b0 := (bx).1 0 _ rfl; have b1 := (bx).1 1 _ rfl; have b2 := (bx).1 2 _ rfl; have b3 := (bx).1 3 _ rfl; have b4 := (bx).1 4 _ rfl; have bf := (bx).2.1; have bz := (bx).2.2
      clear bx
      go_upto_region 6 with fail
      go_cut [9, 10, 11] (fun s9 s10 s11 wx => ∃ b fp1 fc1, s9 = .pointer (some ⟨b, 0, none⟩) ∧ s10 = .int .i64 (kans L r).2.1 ∧ s11 = .int .i64 (kans L r).2.2 ∧ Hid (w2.heap.size ≤ b ∧ Fresh w2 wx ∧ Blk wx b [.string (kans L r).1.nm, .bool (kans L r).1.un, .slice fp1 (kans L r).1.fs.length fc1, .int .i64 (kans L r).1.sz, .int .i64 (kans L r).1.al] ∧ FSlice (KOk wr.heap.size wx) wx (kans L r).1.fs fp1 (kans L r).1.fs.length fc1))
      case first =>
        have E : Hid (Fresh w2 w2.drew) := Lib.hid (Fresh.refl w2).drew
        go_region_held3 (fun w' => w'.cell? ⟨wr.heap.size, 0, none⟩ = some (.int .i64 r.name) ∧ w'.cell? ⟨wr.heap.size, 1, none⟩ = some (.bool r.un)) (first | done | with_reducible exact ⟨(E.out).at' b0, (E.out).at' b1⟩ | with_reducible exact ⟨(((Fresh.refl w2).alloc _ _).drew).at' b0, (((Fresh.refl w2).alloc _ _).drew).at' b1⟩ | with_reducible exact ⟨(E.out.alloc _ _).at' b0, (E.out.alloc _ _).at' b1⟩ | with_reducible exact ⟨((((((E.out).setCell hz2 _).setCell hz2 _).setCell hz2 _).setCell hz2 _).setCell hz2 _).at' b0, ((((((E.out).setCell hz2 _).setCell hz2 _).setCell hz2 _).setCell hz2 _).setCell hz2 _).at' b1⟩ | with_reducible exact ⟨((((((E.out).setCell (Nat.le_refl _) _).setCell (Nat.le_refl _) _).setCell (Nat.le_refl _) _).setCell (Nat.le_refl _) _).setCell (Nat.le_refl _) _).at' b0, ((((((E.out).setCell (Nat.le_refl _) _).setCell (Nat.le_refl _) _).setCell (Nat.le_refl _) _).setCell (Nat.le_refl _) _).setCell (Nat.le_refl _) _).at' b1⟩) (first | (go_at_call 14; (with_reducible refine (name_any r.name _).mono ?_); rintro e w3 ⟨rfl, h3⟩; have E : Hid (Fresh w2 w3) := Lib.hid (by first | exact E.out.trans h3 | exact ((Fresh.refl w2).alloc _ _).drew.trans h3); (try (have T18 := (Blk.new w2 #[.string ⟨#[]⟩, .bool false, .slice none 0 0, .int .i64 0, .int .i64 0] 36).fresh ((Fresh.refl _).drew.trans h3); have hz2 : w2.heap.size ≤ w2.heap.size := Nat.le_refl _; have HT := Lib.hid T18; clear T18)); clear h3) | (go_at_call 33; (with_reducible refine (lay_k r p c fp fc _ w2 _ (by first | exact E.out | exact E.out.alloc _ _) HFS.out HLS.out HAL.out HLO.out HCM.out.1 HCM.out.2 (Nat.le_refl _)).mono ?_); rintro e w4 ⟨⟨fp1, fc1, rfl, hfs⟩, h4⟩; have HFK := Lib.hid hfs; clear hfs; have hlow : wr.heap.size ≤ w3.heap.size := (by have := E.out.size; omega); first | (have T18 := (Blk.new w3 #[.string ⟨#[]⟩, .bool false, .slice none 0 0, .int .i64 0, .int .i64 0] 36).fresh h4; have hz2 : w2.heap.size ≤ w3.heap.size := E.out.size; have hz : w2.heap.size ≤ w3.heap.size := E.out.size; have hz1 : w3.heap.size < (w3.alloc (.cells #[.string ⟨#[]⟩, .bool false, .slice none 0 0, .int .i64 0, .int .i64 0] 36)).heap.size := (by simp); have E : Hid (Fresh w2 w4) := Lib.hid ((E.out.alloc _ _).trans h4); have y0 := T18.1 0 _ rfl; have y1 := T18.1 1 _ rfl; have y2 := T18.1 2 _ rfl; have y3 := T18.1 3 _ rfl; have y4 := T18.1 4 _ rfl; have yf := T18.2.1; have yz := T18.2.2; have HT := Lib.hid T18; clear T18 h4) | (have T18 := HT.out.fresh h4; have hz : w2.heap.size ≤ w2.heap.size := Nat.le_refl _; have hz1 : w2.heap.size < w3.heap.size := HT.out.2.2; have E : Hid (Fresh w2 w4) := Lib.hid (E.out.trans h4); have y0 := T18.1 0 _ rfl; have y1 := T18.1 1 _ rfl; have y2 := T18.1 2 _ rfl; have y3 := T18.1 3 _ rfl; have y4 := T18.1 4 _ rfl; have yf := T18.2.1; have yz := T18.2.2; have HT := Lib.hid T18; clear T18 h4) | (have E : Hid (Fresh w2 w4) := Lib.hid (E.out.trans h4); clear h4)))
        all_goals (go_wp2_with fail; go_meet)
        all_goals (refine ⟨_, fp1, fc1, rfl, rfl, rfl, Lib.hid ?_⟩)
        all_goals first
          | exact ⟨E.out.size, E.out.alloc _ _, Blk.new w4 _ 36, (HFK.out.kLow hlow).kLater ((Fresh.refl _).alloc _ _)⟩
          | exact ⟨hz, Fresh.setCell (p := ⟨w3.heap.size, 4, none⟩) (Fresh.setCell (p := ⟨w3.heap.size, 3, none⟩) (Fresh.setCell (p := ⟨w3.heap.size, 2, none⟩) (Fresh.setCell (p := ⟨w3.heap.size, 1, none⟩) (Fresh.setCell (p := ⟨w3.heap.size, 0, none⟩) (E.out) hz _) hz _) hz _) hz _) hz _, ((((((((((HT.out).put (i := 0) (by simp) _)).put (i := 1) (by simp) _)).put (i := 2) (by simp) _)).put (i := 3) (by simp) _)).put (i := 4) (by simp) _), (((((((((((HFK.out).kSet hz1 0 _)).kSet hz1 1 _)).kSet hz1 2 _)).kSet hz1 3 _)).kSet hz1 4 _)).kLow (by have := hlow; simp; omega)⟩
          | exact ⟨hz, Fresh.setCell (p := ⟨w2.heap.size, 4, none⟩) (Fresh.setCell (p := ⟨w2.heap.size, 3, none⟩) (Fresh.setCell (p := ⟨w2.heap.size, 2, none⟩) (Fresh.setCell (p := ⟨w2.heap.size, 1, none⟩) (Fresh.setCell (p := ⟨w2.heap.size, 0, none⟩) (E.out) hz _) hz _) hz _) hz _) hz _, ((((((((((HT.out).put (i := 0) (by simp) _)).put (i := 1) (by simp) _)).put (i := 2) (by simp) _)).put (i := 3) (by simp) _)).put (i := 4) (by simp) _), (((((((((((HFK.out).kSet hz1 0 _)).kSet hz1 1 _)).kSet hz1 2 _)).kSet hz1 3 _)).kSet hz1 4 _)).kLow hlow⟩
      case rest =>
        obtain ⟨q, fp1, fc1, rfl, rfl, rfl, HC⟩ := hcut
        obtain ⟨hq0, hf2, hblk, hfs1⟩ := HC.out
        have F2 := Lib.hid hf2
        have HL1 := Lib.hid hblk
        have HF1 := Lib.hid hfs1
        have HB2 := Lib.hid (HB.out.fresh hf2)
        have HFS2 := Lib.hid (HFS.out.later hf2)
        have HK3 := Lib.hid (HK2.out.later hf2)
        obtain ⟨rfl, hmc2, hcm2, hlays2⟩ := HK3.out.symm.lays
        have HLS2 := Lib.hid hlays2
        have HCM2 := Lib.hid (And.intro hmc2 hcm2)
        have HAL2 := Lib.hid HK3.out.c2.alike
        have hsz2 := F2.out.size
        have FW := Lib.hid (HF.out.trans (HK2.out.fr.trans hf2))
        clear HC hf2 hblk hfs1 hmc2 hcm2 hlays2 b0 b1 b2 b3 b4 bf bz
        have bx := HB2.out
        have b0 := (bx).1 0 _ rfl; have b1 := (bx).1 1 _ rfl; have b2 := (bx).1 2 _ rfl; have b3 := (bx).1 3 _ rfl; have b4 := (bx).1 4 _ rfl; have bf := (bx).2.1; have bz := (bx).2.2
        clear bx
        go_upto_region 7 with fail
        go_cut [12, 13, 14] (fun s9 s10 s11 wx => ∃ b fp1 fc1, s9 = .pointer (some ⟨b, 0, none⟩) ∧ s10 = .int .i64 (kans L r).2.1 ∧ s11 = .int .i64 (kans L r).2.2 ∧ Hid (wc.heap.size ≤ b ∧ Fresh wc wx ∧ Blk wx b [.string (kans L r).1.nm, .bool (kans L r).1.un, .slice fp1 (kans L r).1.fs.length fc1, .int .i64 (kans L r).1.sz, .int .i64 (kans L r).1.al] ∧ FSlice (KOk wr.heap.size wx) wx (kans L r).1.fs fp1 (kans L r).1.fs.length fc1))
        case first =>
          have E : Hid (Fresh wc wc.drew) := Lib.hid (Fresh.refl wc).drew
          go_region_held3 (fun w' => w'.cell? ⟨wr.heap.size, 0, none⟩ = some (.int .i64 r.name) ∧ w'.cell? ⟨wr.heap.size, 1, none⟩ = some (.bool r.un) ∧ w'.cell? ⟨wr.heap.size, 2, none⟩ = some (.slice np r.nn nc) ∧ w'.cell? ⟨wr.heap.size, 3, none⟩ = some (.slice tp r.N tc) ∧ w'.cell? ⟨wr.heap.size, 4, none⟩ = some (.bool r.forget)) (first | done | with_reducible exact ⟨(E.out).at' b0, (E.out).at' b1, (E.out).at' b2, (E.out).at' b3, (E.out).at' b4⟩ | with_reducible exact ⟨(((Fresh.refl wc).alloc _ _).drew).at' b0, (((Fresh.refl wc).alloc _ _).drew).at' b1, (((Fresh.refl wc).alloc _ _).drew).at' b2, (((Fresh.refl wc).alloc _ _).drew).at' b3, (((Fresh.refl wc).alloc _ _).drew).at' b4⟩ | with_reducible exact ⟨(E.out.alloc _ _).at' b0, (E.out.alloc _ _).at' b1, (E.out.alloc _ _).at' b2, (E.out.alloc _ _).at' b3, (E.out.alloc _ _).at' b4⟩ | with_reducible exact ⟨((((((E.out).setCell hz2 _).setCell hz2 _).setCell hz2 _).setCell hz2 _).setCell hz2 _).at' b0, ((((((E.out).setCell hz2 _).setCell hz2 _).setCell hz2 _).setCell hz2 _).setCell hz2 _).at' b1, ((((((E.out).setCell hz2 _).setCell hz2 _).setCell hz2 _).setCell hz2 _).setCell hz2 _).at' b2, ((((((E.out).setCell hz2 _).setCell hz2 _).setCell hz2 _).setCell hz2 _).setCell hz2 _).at' b3, ((((((E.out).setCell hz2 _).setCell hz2 _).setCell hz2 _).setCell hz2 _).setCell hz2 _).at' b4⟩ | with_reducible exact ⟨((((((E.out).setCell (Nat.le_refl _) _).setCell (Nat.le_refl _) _).setCell (Nat.le_refl _) _).setCell (Nat.le_refl _) _).setCell (Nat.le_refl _) _).at' b0, ((((((E.out).setCell (Nat.le_refl _) _).setCell (Nat.le_refl _) _).setCell (Nat.le_refl _) _).setCell (Nat.le_refl _) _).setCell (Nat.le_refl _) _).at' b1, ((((((E.out).setCell (Nat.le_refl _) _).setCell (Nat.le_refl _) _).setCell (Nat.le_refl _) _).setCell (Nat.le_refl _) _).setCell (Nat.le_refl _) _).at' b2, ((((((E.out).setCell (Nat.le_refl _) _).setCell (Nat.le_refl _) _).setCell (Nat.le_refl _) _).setCell (Nat.le_refl _) _).setCell (Nat.le_refl _) _).at' b3, ((((((E.out).setCell (Nat.le_refl _) _).setCell (Nat.le_refl _) _).setCell (Nat.le_refl _) _).setCell (Nat.le_refl _) _).setCell (Nat.le_refl _) _).at' b4⟩) (first | (go_at_call 14; (with_reducible refine (name_any r.name _).mono ?_); rintro e w3 ⟨rfl, h3⟩; have E : Hid (Fresh wc w3) := Lib.hid (by first | exact E.out.trans h3 | exact ((Fresh.refl wc).alloc _ _).drew.trans h3); (try (have T18 := (Blk.new wc #[.string ⟨#[]⟩, .bool false, .slice none 0 0, .int .i64 0, .int .i64 0] 36).fresh ((Fresh.refl _).drew.trans h3); have hz2 : wc.heap.size ≤ wc.heap.size := Nat.le_refl _; have HZ3 := Lib.hid T18.2.2; have HT := Lib.hid T18; clear T18)); clear h3) | (go_at_call 34; (with_reducible refine (fields_k r np nc tp tc w0 _ (by first | exact FW.out.trans E.out | exact FW.out.trans (E.out.alloc _ _)) HRA.out HNk).mono ?_); rintro e w5 ⟨⟨fp2, fc2, rfl, hfs5⟩, h5⟩; have HFS5 := Lib.hid hfs5; clear hfs5; have HN5 := h5.size; have hlow : wr.heap.size ≤ w3.heap.size := (by have := E.out.size; omega); first | (have T18 := (Blk.new w3 #[.string ⟨#[]⟩, .bool false, .slice none 0 0, .int .i64 0, .int .i64 0] 36).fresh h5; have hz2 : wc.heap.size ≤ w3.heap.size := E.out.size; have E : Hid (Fresh wc w5) := Lib.hid ((E.out.alloc _ _).trans h5); have HT := Lib.hid T18; clear T18 h5) | (have T18 := HT.out.fresh h5; have E : Hid (Fresh wc w5) := Lib.hid (E.out.trans h5); have HT := Lib.hid T18; clear T18 h5) | (have E : Hid (Fresh wc w5) := Lib.hid (E.out.trans h5); clear h5)) | (go_at_call 41; (with_reducible refine (layR_k r p2 c2 fp2 fc2 _ w5 _ (by first | exact Fresh.refl _ | exact (Fresh.refl _).alloc _ _) HFS5.out (HLS2.out.later E.out) HAL2.out HLO.out HCM2.out.1 HCM2.out.2 (by first | exact HN5 | exact Nat.le_trans HN5 (by simp))).mono ?_); rintro e w4 ⟨⟨fp3, fc3, rfl, hfs⟩, h4⟩; have HFK := Lib.hid hfs; clear hfs; first | (have T18 := (Blk.new w5 #[.string ⟨#[]⟩, .bool false, .slice none 0 0, .int .i64 0, .int .i64 0] 36).fresh h4; have hz2 : wc.heap.size ≤ w5.heap.size := E.out.size; have hz : wc.heap.size ≤ w5.heap.size := E.out.size; have hz1 : w5.heap.size < w3.heap.size ∨ (w5.heap.size ≤ w5.heap.size ∧ w5.heap.size < (w5.alloc (.cells #[.string ⟨#[]⟩, .bool false, .slice none 0 0, .int .i64 0, .int .i64 0] 36)).heap.size) := (by simp); have E : Hid (Fresh wc w4) := Lib.hid ((E.out.alloc _ _).trans h4); have y0 := T18.1 0 _ rfl; have y1 := T18.1 1 _ rfl; have y2 := T18.1 2 _ rfl; have y3 := T18.1 3 _ rfl; have y4 := T18.1 4 _ rfl; have yf := T18.2.1; have yz := T18.2.2; have HT := Lib.hid T18; clear T18 h4) | (have T18 := HT.out.fresh h4; have hz : wc.heap.size ≤ w3.heap.size := hz2; have hz1 : w3.heap.size < (w3.alloc (.cells #[.string ⟨#[]⟩, .bool false, .slice none 0 0, .int .i64 0, .int .i64 0] 36)).heap.size ∨ (w5.heap.size ≤ w3.heap.size ∧ w3.heap.size < w5.heap.size) := (by simp); have E : Hid (Fresh wc w4) := Lib.hid (E.out.trans h4); have y0 := T18.1 0 _ rfl; have y1 := T18.1 1 _ rfl; have y2 := T18.1 2 _ rfl; have y3 := T18.1 3 _ rfl; have y4 := T18.1 4 _ rfl; have yf := T18.2.1; have yz := T18.2.2; have HT := Lib.hid T18; clear T18 h4) | (have T18 := HT.out.fresh h4; have hz : wc.heap.size ≤ wc.heap.size := Nat.le_refl _; have hz3 : wc.heap.size < w3.heap.size := HZ3.out; have E : Hid (Fresh wc w4) := Lib.hid (E.out.trans h4); have y0 := T18.1 0 _ rfl; have y1 := T18.1 1 _ rfl; have y2 := T18.1 2 _ rfl; have y3 := T18.1 3 _ rfl; have y4 := T18.1 4 _ rfl; have yf := T18.2.1; have yz := T18.2.2; have HT := Lib.hid T18; clear T18 h4) | (have E : Hid (Fresh wc w4) := Lib.hid (E.out.trans h4); clear h4)))
          all_goals (go_wp2_with fail; go_meet)
          all_goals (refine ⟨_, fp3, fc3, rfl, rfl, rfl, Lib.hid ?_⟩)
          all_goals first
            | exact ⟨E.out.size, E.out.alloc _ _, Blk.new w4 _ 36, (HFK.out.rLow (by first | exact hlow | (have := hlow; simp; omega))).kLater ((Fresh.refl _).alloc _ _)⟩
            | exact ⟨hz, Fresh.setCell (p := ⟨w5.heap.size, 4, none⟩) (Fresh.setCell (p := ⟨w5.heap.size, 3, none⟩) (Fresh.setCell (p := ⟨w5.heap.size, 2, none⟩) (Fresh.setCell (p := ⟨w5.heap.size, 1, none⟩) (Fresh.setCell (p := ⟨w5.heap.size, 0, none⟩) (E.out) hz _) hz _) hz _) hz _) hz _, ((((((((((HT.out).put (i := 0) (by simp) _)).put (i := 1) (by simp) _)).put (i := 2) (by simp) _)).put (i := 3) (by simp) _)).put (i := 4) (by simp) _), (((((((((((HFK.out).rSet hz1 0 _)).rSet hz1 1 _)).rSet hz1 2 _)).rSet hz1 3 _)).rSet hz1 4 _)).rLow hlow⟩
            | exact ⟨hz, Fresh.setCell (p := ⟨w3.heap.size, 4, none⟩) (Fresh.setCell (p := ⟨w3.heap.size, 3, none⟩) (Fresh.setCell (p := ⟨w3.heap.size, 2, none⟩) (Fresh.setCell (p := ⟨w3.heap.size, 1, none⟩) (Fresh.setCell (p := ⟨w3.heap.size, 0, none⟩) (E.out) hz _) hz _) hz _) hz _) hz _, ((((((((((HT.out).put (i := 0) (by simp) _)).put (i := 1) (by simp) _)).put (i := 2) (by simp) _)).put (i := 3) (by simp) _)).put (i := 4) (by simp) _), (((((((((((HFK.out).rSet hz1 0 _)).rSet hz1 1 _)).rSet hz1 2 _)).rSet hz1 3 _)).rSet hz1 4 _)).rLow (by have := hlow; simp; omega)⟩
            | exact ⟨hz, Fresh.setCell (p := ⟨wc.heap.size, 4, none⟩) (Fresh.setCell (p := ⟨wc.heap.size, 3, none⟩) (Fresh.setCell (p := ⟨wc.heap.size, 2, none⟩) (Fresh.setCell (p := ⟨wc.heap.size, 1, none⟩) (Fresh.setCell (p := ⟨wc.heap.size, 0, none⟩) (E.out) hz _) hz _) hz _) hz _) hz _, ((((((((((HT.out).put (i := 0) (by simp) _)).put (i := 1) (by simp) _)).put (i := 2) (by simp) _)).put (i := 3) (by simp) _)).put (i := 4) (by simp) _), (((((((((((HFK.out).rSet (Or.inl hz3) 0 _)).rSet (Or.inl hz3) 1 _)).rSet (Or.inl hz3) 2 _)).rSet (Or.inl hz3) 3 _)).rSet (Or.inl hz3) 4 _)).rLow hlow⟩
        case rest =>
          obtain ⟨q2, fp3, fc3, rfl, rfl, rfl, HC⟩ := hcut
          obtain ⟨hq2, hf4, hblk2, hfs2⟩ := HC.out
          have F4 := Lib.hid hf4
          have HL2 := Lib.hid hblk2
          have HL1 := Lib.hid (HL1.out.fresh hf4)
          have HF1 := Lib.hid (HF1.out.kLater hf4)
          have HF2 := Lib.hid hfs2
          have HB4 := Lib.hid (HB2.out.fresh hf4)
          have HFS4 := Lib.hid (HFS2.out.later hf4)
          have HK4 := Lib.hid (HK3.out.later hf4)
          have HKA := Lib.hid (kans_ok HLO.out r)
          have HKS := Lib.hid (kstep_kans L r)
          have HOFF := Lib.hid (r.offOk r.N)
          clear HC hf4 hblk2 hfs2 b0 b1 b2 b3 b4 bf bz HB HB2 HFS HFS2 HK2 HK3 HAL HAL2 HLS HLS2
          have hl1 := HL1.out
          have l0 := (hl1).1 0 _ rfl; have l1 := (hl1).1 1 _ rfl; have l2 := (hl1).1 2 _ rfl; have l3 := (hl1).1 3 _ rfl; have l4 := (hl1).1 4 _ rfl; have lf := (hl1).2.1; have lz := (hl1).2.2
          have hl2 := HL2.out
          have g0 := (hl2).1 0 _ rfl; have g1 := (hl2).1 1 _ rfl; have g2 := (hl2).1 2 _ rfl; have g3 := (hl2).1 3 _ rfl; have g4 := (hl2).1 4 _ rfl; have gf := (hl2).2.1; have gz := (hl2).2.2
          have hbb := HB4.out
          have b0 := (hbb).1 0 _ rfl; have b1 := (hbb).1 1 _ rfl; have b2 := (hbb).1 2 _ rfl; have b3 := (hbb).1 3 _ rfl; have b4 := (hbb).1 4 _ rfl; have bf := (hbb).2.1; have bz := (hbb).2.2
          clear hl1 hl2 hbb
          go_wp2_with fail
          go_at_call 16; refine (sameLay_any (kans L r).1.nm (kans L r).1.un (kans L r).1.sz (kans L r).1.al (kans L r).1.fs fp1 fp3 _ fc1 fc3 _ _ (Fresh.refl _) HF1.out HF2.out HKA.out.1).mono ?_; rintro e w6 ⟨rfl, h6⟩
          have F6 := Lib.hid h6
          have hnf : r.N ≤ fc := HFS4.out.2.1
          have hmf : fc ≤ 9223372036854775807 := HFS4.out.2.2.1
          have HFN : Hid ((r.fds r.N).length = r.N) := Lib.hid (Rec.fds_len r r.N)
          clear l0 l1 l2 l3 l4 lf lz g0 g1 g2 g3 g4 gf gz b0 b1 b2 b3 b4 bf bz h6
          go_wp2_with fail
          go_loopw [65] (fun i wz => ∃ j : Nat, j ≤ r.N ∧ i = .int .i64 j ∧ Hid (Fresh w6 wz)) (fun i _ => r.N - (intOf i).toNat)
          case atStart => exact ⟨0, by omega, rfl, Lib.hid (Fresh.refl _)⟩
          case round =>
            obtain ⟨j, hj, rfl, HZ⟩ := hrel
            by_cases hjn : j < r.N
            · obtain ⟨x, hx⟩ : ∃ x, (r.fds r.N)[j]? = some x := ⟨_, List.getElem?_eq_getElem (by have := HFN.out; omega)⟩
              obtain ⟨Bf, of, q1, m1, d1, rfl, -, hat⟩ := HFS4.out.at' hx
              have h7 := (hat.later (F6.out.trans HZ.out)).c7
              rw [HOFF.out x (List.mem_of_getElem? hx)] at h7
              have hz7 := cell_lt h7
              simp only at hz7
              have hjn' : (j : Int) < (r.N : Int) := by omega
              clear hx hat
              go_wp2_with fail
              go_roundw
              case rel => exact ⟨j + 1, by omega, by go_num, HZ⟩
              case measure => simp [intOf]; omega
            · obtain rfl : j = r.N := by omega
              have FZ := Lib.hid (F6.out.trans HZ.out)
              have HK6 := Lib.hid (HK4.out.later FZ.out)
              have HF1 := Lib.hid (HF1.out.kLater FZ.out)
              have HF2 := Lib.hid (HF2.out.kLater FZ.out)
              have hl1 := HL1.out.fresh FZ.out
              have l0 := (hl1).1 0 _ rfl; have l1 := (hl1).1 1 _ rfl; have l2 := (hl1).1 2 _ rfl; have l3 := (hl1).1 3 _ rfl; have l4 := (hl1).1 4 _ rfl; have lf := (hl1).2.1; have lz := (hl1).2.2
              have hl2 := HL2.out.fresh FZ.out
              have g0 := (hl2).1 0 _ rfl; have g1 := (hl2).1 1 _ rfl; have g2 := (hl2).1 2 _ rfl; have g3 := (hl2).1 3 _ rfl; have g4 := (hl2).1 4 _ rfl; have gf := (hl2).2.1; have gz := (hl2).2.2
              have hbb := HB4.out.fresh FZ.out
              have b0 := (hbb).1 0 _ rfl; have b1 := (hbb).1 1 _ rfl; have b2 := (hbb).1 2 _ rfl; have b3 := (hbb).1 3 _ rfl; have b4 := (hbb).1 4 _ rfl; have bf := (hbb).2.1; have bz := (hbb).2.2
              clear hl1 hl2 hbb
              have P0 : Hid (P17 w wr L L (.slice p L.length c) (.slice p2 L.length c2) xs1 xs2 (kans L r).1 fp1 fc1 fp3 fc3 q q2) := Lib.hid ⟨HK6.out, HL1.out.fresh FZ.out, HL2.out.fresh FZ.out, ⟨fun e => by have := (HK.out.own1.lt q e.symm).2; omega, fun e => by have := (HK.out.own2.lt q e.symm).2; omega⟩, ⟨fun e => by have := (HK.out.own1.lt q2 e.symm).2; omega, fun e => by have := (HK.out.own2.lt q2 e.symm).2; omega⟩, HF1.out.turn (fun _ _ _ _ hv => hv) (fun b hb => ⟨hb.2, fun e => by have := (HK.out.own1.lt b e.symm).2; have := hb.1; omega, fun e => by have := (HK.out.own2.lt b e.symm).2; have := hb.1; omega⟩), HF2.out.turn (fun _ _ _ _ hv => hv) (fun b hb => ⟨hb.2, fun e => by have := (HK.out.own1.lt b e.symm).2; have := hb.1; omega, fun e => by have := (HK.out.own2.lt b e.symm).2; have := hb.1; omega⟩)⟩
              have hlo17 : w.heap.size ≤ wr.heap.size := P0.out.ks.fr.size
              by_cases hC : (kans L r).2.2 = 0 ∧ r.forget = false
              · rw [if_pos hC] at HKS
                obtain ⟨hC0, hfg⟩ := hC
                rw [hfg] at b4
                rw [hC0]
                obtain ⟨i0, hi0, hz0, hz1, hz2⟩ := info_parts info36
                clear HF1 HF2 HL1 HL2
                go_wp2_with fail
                go_region_held3 (fun w' => w'.cell? ⟨q, 0, none⟩ = some (.string (kans L r).1.nm) ∧ w'.cell? ⟨q, 1, none⟩ = some (.bool (kans L r).1.un) ∧ w'.cell? ⟨q, 2, none⟩ = some (.slice fp1 (kans L r).1.fs.length fc1) ∧ w'.cell? ⟨q, 3, none⟩ = some (.int .i64 (kans L r).1.sz) ∧ w'.cell? ⟨q, 4, none⟩ = some (.int .i64 (kans L r).1.al) ∧ w'.cell? ⟨q2, 0, none⟩ = some (.string (kans L r).1.nm) ∧ w'.cell? ⟨q2, 1, none⟩ = some (.bool (kans L r).1.un) ∧ w'.cell? ⟨q2, 2, none⟩ = some (.slice fp3 (kans L r).1.fs.length fc3) ∧ w'.cell? ⟨q2, 3, none⟩ = some (.int .i64 (kans L r).1.sz) ∧ w'.cell? ⟨q2, 4, none⟩ = some (.int .i64 (kans L r).1.al)) (first | done | with_reducible exact (P0.out.later (Fresh.refl wr).drew).ten | with_reducible exact (P0.out.later (((Fresh.refl wr).alloc #[.string (kans L r).1.nm, .bool (kans L r).1.un, .slice fp1 (kans L r).1.fs.length fc1, .int .i64 (kans L r).1.sz, .int .i64 (kans L r).1.al] 36).drew)).ten | with_reducible exact (P0.out.later (((Fresh.refl wr).alloc #[.string (kans L r).1.nm, .bool (kans L r).1.un, .slice fp3 (kans L r).1.fs.length fc3, .int .i64 (kans L r).1.sz, .int .i64 (kans L r).1.al] 36).drew)).ten | with_reducible exact (P0.out.later ((((Fresh.refl wr).alloc #[.string (kans L r).1.nm, .bool (kans L r).1.un, .slice fp1 (kans L r).1.fs.length fc1, .int .i64 (kans L r).1.sz, .int .i64 (kans L r).1.al] 36).alloc #[.string (kans L r).1.nm, .bool (kans L r).1.un, .slice fp3 (kans L r).1.fs.length fc3, .int .i64 (kans L r).1.sz, .int .i64 (kans L r).1.al] 36).drew)).ten | with_reducible exact (P0.out.later ((((Fresh.refl wr).alloc #[.string (kans L r).1.nm, .bool (kans L r).1.un, .slice fp3 (kans L r).1.fs.length fc3, .int .i64 (kans L r).1.sz, .int .i64 (kans L r).1.al] 36).alloc #[.string (kans L r).1.nm, .bool (kans L r).1.un, .slice fp1 (kans L r).1.fs.length fc1, .int .i64 (kans L r).1.sz, .int .i64 (kans L r).1.al] 36).drew)).ten | with_reducible exact (P2.out).ten | with_reducible exact (P1.out).ten | with_reducible exact (P1.out.later ((Fresh.refl wA).alloc #[.string (kans L r).1.nm, .bool (kans L r).1.un, .slice fp3 (kans L r).1.fs.length fc3, .int .i64 (kans L r).1.sz, .int .i64 (kans L r).1.al] 36)).ten) (first | ((with_reducible show (if _ then Oper.wp _ _ _ ((wr.alloc (.cells #[.string (kans L r).1.nm, .bool (kans L r).1.un, .slice fp1 (kans L r).1.fs.length fc1, .int .i64 (kans L r).1.sz, .int .i64 (kans L r).1.al] 36)).drew) _ _ else _)); refine step_append_lies ((wr.alloc (.cells #[.string (kans L r).1.nm, .bool (kans L r).1.un, .slice fp1 (kans L r).1.fs.length fc1, .int .i64 (kans L r).1.sz, .int .i64 (kans L r).1.al] 36)).drew) (by rfl) (.tmp 82) (.tmp 84) 25 (by rfl) w.heap.size 36 i0 (.agg #[.string ⟨#[]⟩, .bool false, .slice none 0 0, .int .i64 0, .int .i64 0]) 5 64 Tryd.underlying25 hi0 hz0 hz1 hz2 rfl (by decide) (.slice p L.length c) L.length xs1 (by rfl) ((P0.out.later (((Fresh.refl wr).alloc #[.string (kans L r).1.nm, .bool (kans L r).1.un, .slice fp1 (kans L r).1.fs.length fc1, .int .i64 (kans L r).1.sz, .int .i64 (kans L r).1.al] 36).drew)).ks.own1) ⟨wr.heap.size, 0, none⟩ 1 1 [.string (kans L r).1.nm, .bool (kans L r).1.un, .slice fp1 (kans L r).1.fs.length fc1, .int .i64 (kans L r).1.sz, .int .i64 (kans L r).1.al] (by rfl) (by rfl) (Blk.news ((Blk.new wr #[.string (kans L r).1.nm, .bool (kans L r).1.un, .slice fp1 (kans L r).1.fs.length fc1, .int .i64 (kans L r).1.sz, .int .i64 (kans L r).1.al] 36).fresh (Fresh.refl _).drew)) (by simp [Value.oneCell']) (by decide) (by unfold maxLen; omega) (by omega) (by first | omega | (simp; omega)) (wr.heap.size + 1) (by simp) ?_; intro g cA wA hown hgrow hat hlt; have hszA := hgrow.size; simp at hszA; have P1 := Lib.hid ((P0.out.later (((Fresh.refl wr).alloc #[.string (kans L r).1.nm, .bool (kans L r).1.un, .slice fp1 (kans L r).1.fs.length fc1, .int .i64 (kans L r).1.sz, .int .i64 (kans L r).1.al] 36).drew)).grow hown hgrow (by simpa using hat)); clear hown hgrow hat hlt) | ((with_reducible show (if _ then Oper.wp _ _ _ (((wr.alloc (.cells #[.string (kans L r).1.nm, .bool (kans L r).1.un, .slice fp1 (kans L r).1.fs.length fc1, .int .i64 (kans L r).1.sz, .int .i64 (kans L r).1.al] 36)).alloc (.cells #[.string (kans L r).1.nm, .bool (kans L r).1.un, .slice fp3 (kans L r).1.fs.length fc3, .int .i64 (kans L r).1.sz, .int .i64 (kans L r).1.al] 36)).drew) _ _ else _)); refine step_append_lies (((wr.alloc (.cells #[.string (kans L r).1.nm, .bool (kans L r).1.un, .slice fp1 (kans L r).1.fs.length fc1, .int .i64 (kans L r).1.sz, .int .i64 (kans L r).1.al] 36)).alloc (.cells #[.string (kans L r).1.nm, .bool (kans L r).1.un, .slice fp3 (kans L r).1.fs.length fc3, .int .i64 (kans L r).1.sz, .int .i64 (kans L r).1.al] 36)).drew) (by rfl) (.tmp 82) (.tmp 84) 25 (by rfl) w.heap.size 36 i0 (.agg #[.string ⟨#[]⟩, .bool false, .slice none 0 0, .int .i64 0, .int .i64 0]) 5 64 Tryd.underlying25 hi0 hz0 hz1 hz2 rfl (by decide) (.slice p L.length c) L.length xs1 (by rfl) ((P0.out.later ((((Fresh.refl wr).alloc #[.string (kans L r).1.nm, .bool (kans L r).1.un, .slice fp1 (kans L r).1.fs.length fc1, .int .i64 (kans L r).1.sz, .int .i64 (kans L r).1.al] 36).alloc #[.string (kans L r).1.nm, .bool (kans L r).1.un, .slice fp3 (kans L r).1.fs.length fc3, .int .i64 (kans L r).1.sz, .int .i64 (kans L r).1.al] 36).drew)).ks.own1) ⟨wr.heap.size, 0, none⟩ 1 1 [.string (kans L r).1.nm, .bool (kans L r).1.un, .slice fp1 (kans L r).1.fs.length fc1, .int .i64 (kans L r).1.sz, .int .i64 (kans L r).1.al] (by rfl) (by rfl) (Blk.news ((Blk.new wr #[.string (kans L r).1.nm, .bool (kans L r).1.un, .slice fp1 (kans L r).1.fs.length fc1, .int .i64 (kans L r).1.sz, .int .i64 (kans L r).1.al] 36).fresh ((Fresh.refl _).alloc #[.string (kans L r).1.nm, .bool (kans L r).1.un, .slice fp3 (kans L r).1.fs.length fc3, .int .i64 (kans L r).1.sz, .int .i64 (kans L r).1.al] 36).drew)) (by simp [Value.oneCell']) (by decide) (by unfold maxLen; omega) (by omega) (by first | omega | (simp; omega)) (wr.heap.size + 1 + 1) (by simp) ?_; intro g cA wA hown hgrow hat hlt; have hszA := hgrow.size; simp at hszA; have NB : Hid (Blk wA (wr.heap.size + 1) [.string (kans L r).1.nm, .bool (kans L r).1.un, .slice fp3 (kans L r).1.fs.length fc3, .int .i64 (kans L r).1.sz, .int .i64 (kans L r).1.al]) := Lib.hid (Blk.grownKS P0.out.ks (by have hh := (Blk.new (wr.alloc (.cells #[.string (kans L r).1.nm, .bool (kans L r).1.un, .slice fp1 (kans L r).1.fs.length fc1, .int .i64 (kans L r).1.sz, .int .i64 (kans L r).1.al] 36)) #[.string (kans L r).1.nm, .bool (kans L r).1.un, .slice fp3 (kans L r).1.fs.length fc3, .int .i64 (kans L r).1.sz, .int .i64 (kans L r).1.al] 36).fresh (Fresh.refl _).drew; simpa only [World.size_alloc] using hh) hgrow (by omega)); have P1 := Lib.hid ((P0.out.later ((((Fresh.refl wr).alloc #[.string (kans L r).1.nm, .bool (kans L r).1.un, .slice fp1 (kans L r).1.fs.length fc1, .int .i64 (kans L r).1.sz, .int .i64 (kans L r).1.al] 36).alloc #[.string (kans L r).1.nm, .bool (kans L r).1.un, .slice fp3 (kans L r).1.fs.length fc3, .int .i64 (kans L r).1.sz, .int .i64 (kans L r).1.al] 36).drew)).grow hown hgrow (by simpa using hat)); clear hown hgrow hat hlt) | ((with_reducible show (if _ then Oper.wp _ _ _ (((wr.alloc (.cells #[.string (kans L r).1.nm, .bool (kans L r).1.un, .slice fp3 (kans L r).1.fs.length fc3, .int .i64 (kans L r).1.sz, .int .i64 (kans L r).1.al] 36)).alloc (.cells #[.string (kans L r).1.nm, .bool (kans L r).1.un, .slice fp1 (kans L r).1.fs.length fc1, .int .i64 (kans L r).1.sz, .int .i64 (kans L r).1.al] 36)).drew) _ _ else _)); refine step_append_lies (((wr.alloc (.cells #[.string (kans L r).1.nm, .bool (kans L r).1.un, .slice fp3 (kans L r).1.fs.length fc3, .int .i64 (kans L r).1.sz, .int .i64 (kans L r).1.al] 36)).alloc (.cells #[.string (kans L r).1.nm, .bool (kans L r).1.un, .slice fp1 (kans L r).1.fs.length fc1, .int .i64 (kans L r).1.sz, .int .i64 (kans L r).1.al] 36)).drew) (by rfl) (.tmp 82) (.tmp 84) 25 (by rfl) w.heap.size 36 i0 (.agg #[.string ⟨#[]⟩, .bool false, .slice none 0 0, .int .i64 0, .int .i64 0]) 5 64 Tryd.underlying25 hi0 hz0 hz1 hz2 rfl (by decide) (.slice p L.length c) L.length xs1 (by rfl) ((P0.out.later ((((Fresh.refl wr).alloc #[.string (kans L r).1.nm, .bool (kans L r).1.un, .slice fp3 (kans L r).1.fs.length fc3, .int .i64 (kans L r).1.sz, .int .i64 (kans L r).1.al] 36).alloc #[.string (kans L r).1.nm, .bool (kans L r).1.un, .slice fp1 (kans L r).1.fs.length fc1, .int .i64 (kans L r).1.sz, .int .i64 (kans L r).1.al] 36).drew)).ks.own1) ⟨wr.heap.size + 1, 0, none⟩ 1 1 [.string (kans L r).1.nm, .bool (kans L r).1.un, .slice fp1 (kans L r).1.fs.length fc1, .int .i64 (kans L r).1.sz, .int .i64 (kans L r).1.al] (by rfl) (by rfl) (Blk.news (by have hh := (Blk.new (wr.alloc (.cells #[.string (kans L r).1.nm, .bool (kans L r).1.un, .slice fp3 (kans L r).1.fs.length fc3, .int .i64 (kans L r).1.sz, .int .i64 (kans L r).1.al] 36)) #[.string (kans L r).1.nm, .bool (kans L r).1.un, .slice fp1 (kans L r).1.fs.length fc1, .int .i64 (kans L r).1.sz, .int .i64 (kans L r).1.al] 36).fresh (Fresh.refl _).drew; simpa only [World.size_alloc] using hh)) (by simp [Value.oneCell']) (by decide) (by unfold maxLen; omega) (by omega) (by first | omega | (simp; omega)) (wr.heap.size + 1 + 1) (by simp) ?_; intro g cA wA hown hgrow hat hlt; have hszA := hgrow.size; simp at hszA; have NB : Hid (Blk wA wr.heap.size [.string (kans L r).1.nm, .bool (kans L r).1.un, .slice fp3 (kans L r).1.fs.length fc3, .int .i64 (kans L r).1.sz, .int .i64 (kans L r).1.al]) := Lib.hid (Blk.grownKS P0.out.ks ((Blk.new wr #[.string (kans L r).1.nm, .bool (kans L r).1.un, .slice fp3 (kans L r).1.fs.length fc3, .int .i64 (kans L r).1.sz, .int .i64 (kans L r).1.al] 36).fresh ((Fresh.refl _).alloc #[.string (kans L r).1.nm, .bool (kans L r).1.un, .slice fp1 (kans L r).1.fs.length fc1, .int .i64 (kans L r).1.sz, .int .i64 (kans L r).1.al] 36).drew) hgrow (Nat.le_refl _)); have P1 := Lib.hid ((P0.out.later ((((Fresh.refl wr).alloc #[.string (kans L r).1.nm, .bool (kans L r).1.un, .slice fp3 (kans L r).1.fs.length fc3, .int .i64 (kans L r).1.sz, .int .i64 (kans L r).1.al] 36).alloc #[.string (kans L r).1.nm, .bool (kans L r).1.un, .slice fp1 (kans L r).1.fs.length fc1, .int .i64 (kans L r).1.sz, .int .i64 (kans L r).1.al] 36).drew)).grow hown hgrow (by simpa using hat)); clear hown hgrow hat hlt) | ((with_reducible show (if _ then Oper.wp _ _ _ (wA.alloc (.cells #[.string (kans L r).1.nm, .bool (kans L r).1.un, .slice fp3 (kans L r).1.fs.length fc3, .int .i64 (kans L r).1.sz, .int .i64 (kans L r).1.al] 36)) _ _ else _)); refine step_append_lies (wA.alloc (.cells #[.string (kans L r).1.nm, .bool (kans L r).1.un, .slice fp3 (kans L r).1.fs.length fc3, .int .i64 (kans L r).1.sz, .int .i64 (kans L r).1.al] 36)) (by rfl) (.tmp 86) (.tmp 88) 25 (by rfl) w.heap.size 36 i0 (.agg #[.string ⟨#[]⟩, .bool false, .slice none 0 0, .int .i64 0, .int .i64 0]) 5 64 Tryd.underlying25 hi0 hz0 hz1 hz2 rfl (by decide) (.slice p2 L.length c2) L.length xs2 (by rfl) ((P1.out.later ((Fresh.refl wA).alloc #[.string (kans L r).1.nm, .bool (kans L r).1.un, .slice fp3 (kans L r).1.fs.length fc3, .int .i64 (kans L r).1.sz, .int .i64 (kans L r).1.al] 36)).ks.own2) ⟨wA.heap.size, 0, none⟩ 1 1 [.string (kans L r).1.nm, .bool (kans L r).1.un, .slice fp3 (kans L r).1.fs.length fc3, .int .i64 (kans L r).1.sz, .int .i64 (kans L r).1.al] (by rfl) (by rfl) (Blk.news (Blk.new wA #[.string (kans L r).1.nm, .bool (kans L r).1.un, .slice fp3 (kans L r).1.fs.length fc3, .int .i64 (kans L r).1.sz, .int .i64 (kans L r).1.al] 36)) (by simp [Value.oneCell']) (by decide) (by unfold maxLen; omega) (by omega) (by first | omega | (simp; omega)) (wA.heap.size + 1) (by simp) ?_; intro g2 cB wB hown hgrow hat hlt; have P2 := Lib.hid (((P1.out.later ((Fresh.refl wA).alloc #[.string (kans L r).1.nm, .bool (kans L r).1.un, .slice fp3 (kans L r).1.fs.length fc3, .int .i64 (kans L r).1.sz, .int .i64 (kans L r).1.al] 36)).symm.grow hown hgrow (by simpa using hat)).symm); clear hown hgrow hat hlt) | ((with_reducible show (if _ then Oper.wp _ _ _ wA _ _ else _)); refine step_append_lies wA (by rfl) (.tmp 86) (.tmp 88) 25 (by rfl) w.heap.size 36 i0 (.agg #[.string ⟨#[]⟩, .bool false, .slice none 0 0, .int .i64 0, .int .i64 0]) 5 64 Tryd.underlying25 hi0 hz0 hz1 hz2 rfl (by decide) (.slice p2 L.length c2) L.length xs2 (by rfl) (P1.out.ks.own2) _ 1 1 [.string (kans L r).1.nm, .bool (kans L r).1.un, .slice fp3 (kans L r).1.fs.length fc3, .int .i64 (kans L r).1.sz, .int .i64 (kans L r).1.al] (by rfl) (by rfl) (NB.out.news) (by simp [Value.oneCell']) (by decide) (by unfold maxLen; omega) (by omega) (by first | omega | (simp; omega)) (wA.heap.size) (by simp) ?_; intro g2 cB wB hown hgrow hat hlt; have P2 := Lib.hid ((P1.out.symm.grow hown hgrow (by simpa using hat)).symm); clear hown hgrow hat hlt))
                all_goals (go_wp2_with fail; go_roundw)
                all_goals first
                  | exact ⟨k + 1, _, _, _, _, _, _, _, _, by omega, by go_num, rfl, rfl, Lib.hid (by rw [HL.out, HKS.out]; exact P2.out.ks)⟩
                  | (simp [intOf]; omega)
              · rw [if_neg hC] at HKS
                have HK7 : Hid (KS w wr (klist rs (k + 1)) (klist rs (k + 1)) (.slice p L.length c) (.slice p2 L.length c2) xs1 xs2) := Lib.hid (by rw [HL.out, HKS.out]; exact HK6.out)
                clear P0
                by_cases hC0 : (kans L r).2.2 = 0
                · have hfg : r.forget = true := by
                    cases hf : r.forget
                    · exact absurd ⟨hC0, hf⟩ hC
                    · rfl
                  rw [hfg] at b4
                  rw [hC0]
                  clear hC
                  go_wp2_with fail
                  go_roundw
                  case rel => exact ⟨k + 1, _, _, _, _, _, _, _, _, by omega, by go_num, rfl, rfl, HK7⟩
                  case measure => simp [intOf]; omega
                · clear hC
                  go_wp2_with fail
                  go_roundw
                  case rel => exact ⟨k + 1, _, _, _, _, _, _, _, _, by omega, by go_num, rfl, rfl, HK7⟩
                  case measure => simp [intOf]; omega
    · obtain rfl : k = n := by omega
      go_wp2_with fail
      go_returns
      exact ⟨⟨_, _, _, _, _, _, rfl, HK.out⟩, HK.out.fr⟩
end Go.Proofs.YteiomcbphbbpkaaDoor
/- Find over the list, both sides. -/
namespace Go.Proofs.YteiomcbphbbpkaaDoor
set_option linter.unusedSimpArgs false
set_option linter.unusedVariables false
open Go.RowKit

/-- The members of a layout that was made. -/
theorem layF_sm {f : Nat → La} {kn : Nat} {un : Bool} {P : Hd → Tys → Prop} : ∀ (fs : List Fd) (s s' : LS), (s.acc.map (fun y => nmCode y.nm)).Nodup → (∀ y ∈ s.acc, isName y.nm ∧ P y.h y.ks) → (∀ x ∈ fs, isName x.nm ∧ P x.h x.ks) → layF f kn un fs s = .inl s' → (s'.acc.map (fun y => nmCode y.nm)).Nodup ∧ ∀ y ∈ s'.acc, isName y.nm ∧ P y.h y.ks
  | [], s, s', hd, ha, _, e => by
    simp [layF] at e
    subst e
    exact ⟨hd, ha⟩
  | x :: r, s, s', hd, ha, hx, e => by
    simp only [layF] at e
    split at e
    · cases e
    · rename_i hh
      split at e
      · cases e
      · have hxn := hx x (by simp)
        refine layF_sm r _ s' ?_ ?_ (fun y hy => hx y (by simp [hy])) e
        · simp only [LS.add, List.map_append, List.map_cons, List.map_nil]
          rw [List.nodup_append]
          refine ⟨hd, by simp, fun a ha' b hb => ?_⟩
          simp only [List.mem_singleton] at hb
          subst hb
          obtain ⟨y, hy, rfl⟩ := List.mem_map.1 ha'
          intro e2
          have e' := (ha y hy).1.inj hxn.1 e2
          have hh' : hasN s.acc x.nm = false := by simpa using hh
          simp only [hasN, List.any_eq_false] at hh'
          exact hh' y hy (by rw [e']; simp)
        · intro y hy
          simp only [LS.add, List.mem_append, List.mem_singleton] at hy
          rcases hy with hy | rfl
          · exact ha y hy
          · exact hxn
def Ld.few (l : Ld) : Prop := l.fs.length ≤ 1000 ∧ ∀ x ∈ l.fs, x.ks.small ∧ x.ks.length ≤ 9
theorem kans_few (L : List Ld) (r : Rec) : (kans L r).1.few := by
  unfold kans
  cases hl : layF (laL L) L.length r.un (r.fds r.N) LS.zero with
  | inr ic => exact ⟨by simp, fun x hx => by simp at hx⟩
  | inl s =>
    have h := layF_sm (P := fun h ks => ks.small ∧ ks.length ≤ 9) _ _ _ (by simp [LS.zero]) (fun y hy => by simp [LS.zero] at hy) (fun x hx => ⟨r.namesOk r.N x hx, r.smallOk r.N x hx⟩) hl
    have hn := nodup_le 26 _ h.1 (fun x hx => by
      obtain ⟨y, hy, rfl⟩ := List.mem_map.1 hx
      exact (h.2 y hy).1.lt)
    rw [List.length_map] at hn
    dsimp only
    split
    · exact ⟨by simp, fun x hx => by simp at hx⟩
    · exact ⟨by show s.acc.length ≤ 1000; omega, fun x hx => (h.2 x hx).2⟩
theorem klist_few (rs : Nat → Rec) : ∀ k, ∀ l ∈ klist rs k, l.few
  | 0 => fun l hl => by simp [klist] at hl
  | k + 1 => by
    simp only [klist]
    rw [kstep_kans]
    split
    · intro l hl
      rcases List.mem_append.1 hl with hl | hl
      · exact klist_few rs k l hl
      · rw [List.mem_singleton] at hl
        subst hl
        exact kans_few _ _
    · exact klist_few rs k
/-- What both answer. -/
def fndL (L : List Ld) (nm : ByteArray) : Ld × Bool :=
  match L.find? (fun l => l.nm.toList == nm.toList) with
  | some l => (l, true)
  | none => (⟨⟨#[]⟩, false, [], 0, 0⟩, false)
theorem fndL_some {L : List Ld} {nm : ByteArray} {i : Nat} (hi : i < L.length) (h : (L[i].nm.toList == nm.toList) = true) (hj : ∀ j, (hj : j < i) → (L[j].nm.toList == nm.toList) = false) : fndL L nm = (L[i], true) := by
  have e : L.find? (fun l => l.nm.toList == nm.toList) = some L[i] := List.find?_eq_some_iff_getElem.2 ⟨h, i, hi, rfl, fun j hlt => by simpa using hj j hlt⟩
  unfold fndL
  rw [e]
theorem fndL_none {L : List Ld} {nm : ByteArray} (h : ∀ j, (hj : j < L.length) → (L[j].nm.toList == nm.toList) = false) : fndL L nm = (⟨⟨#[]⟩, false, [], 0, 0⟩, false) := by
  have e : L.find? (fun l => l.nm.toList == nm.toList) = none := List.find?_eq_none.2 (fun l hl => by
    obtain ⟨j, hj, rfl⟩ := List.getElem_of_mem hl
    simpa using h j hj)
  unfold fndL
  rw [e]
theorem fndL_wf {L : List Ld} {nm : ByteArray} (hL : ∀ l ∈ L, LdOk l) : ∀ x ∈ (fndL L nm).1.fs, WFh x.h x.ks ∧ x.ks.wf := by
  unfold fndL
  split
  · rename_i l h
    exact (hL l (List.mem_of_find?_eq_some h)).wf
  · intro x hx
    simp at hx
section
variable {w X Y : World} {L1 L2 : List Ld} {v2 : Value} {xs1 xs2 : List Value} {p : Option Addr} {n c : Nat}
theorem KS.nmAt (h : KS w X L1 L2 (.slice p n c) v2 xs1 xs2) {i : Nat} (hi : i < L1.length) : ∃ p' c', FSlice (okS X (.slice p n c) v2) X L1[i].fs p' L1[i].fs.length c' ∧ laV xs1 i = ⟨L1[i].nm, L1[i].un, p', L1[i].fs.length, c', L1[i].sz, L1[i].al⟩ :=
  h.c1.la (List.getElem?_eq_getElem hi)
theorem findP_k (h : KS w X L1 L2 (.slice p n c) v2 xs1 xs2) (hs : ∀ l ∈ L1, l.few) (nm : ByteArray) (hf : Fresh X Y) :
    Calls Tryd.prog 13 #[.slice p n c, .string nm] Y fun e w' => (∃ fp fc, e = .returned (.tuple #[.agg #[.string (fndL L1 nm).1.nm, .bool (fndL L1 nm).1.un, .slice fp (fndL L1 nm).1.fs.length fc, .int .i64 (fndL L1 nm).1.sz, .int .i64 (fndL L1 nm).1.al], .bool (fndL L1 nm).2]) ∧ FSlice (fun _ => True) w' (fndL L1 nm).1.fs fp (fndL L1 nm).1.fs.length fc) ∧ Fresh Y w' := by
  obtain ⟨e0, hk0, hkc, hl⟩ := h.lays
  refine (find_any (ok := okS X (.slice p n c) v2) (laV xs1) (fun i => (L1[i]?.getD ⟨⟨#[]⟩, false, [], 0, 0⟩).fs) p n c nm X Y hf hl hk0 hkc (fun i hi => ?_)).mono ?_
  · obtain ⟨p', c', hfs, e⟩ := h.nmAt (i := i) (by omega)
    rw [e]
    have hg : L1[i]? = some L1[i] := List.getElem?_eq_getElem (by omega)
    dsimp only
    rw [hg]
    exact ⟨hfs, hs _ (List.getElem_mem _)⟩
  · rintro e w' ⟨hr, hw⟩
    refine ⟨?_, hw⟩
    rcases hr with ⟨hn, rfl⟩ | ⟨i, F, fp, fc, xs, hi, h1, h2, -, rfl, hown, hc⟩
    · rw [fndL_none (fun j hj => by
        obtain ⟨p', c', -, e⟩ := h.nmAt hj
        have := hn j (by omega)
        rw [e] at this
        exact this)]
      exact ⟨none, 0, rfl, fslice_nil ..⟩
    · have hi' : i < L1.length := by omega
      obtain ⟨p', c', -, e⟩ := h.nmAt hi'
      rw [e] at h1
      rw [fndL_some hi' h1 (fun j hj => by
        obtain ⟨p', c', -, e⟩ := h.nmAt (i := j) (by omega)
        have := h2 j hj
        rw [e] at this
        exact this)]
      rw [e] at hown hc ⊢
      have hg : L1[i]? = some L1[i] := List.getElem?_eq_getElem hi'
      dsimp only at hc
      rw [hg] at hc
      exact ⟨fp, fc, rfl, FSlice.of_own2 hown hc (fun _ _ _ => trivial) (fun _ _ _ => trivial)⟩
theorem findR_k (h : KS w X L1 L2 (.slice p n c) v2 xs1 xs2) (nm : ByteArray) (hf : Fresh X Y) :
    Calls Tryd.prog 15 #[.slice p n c, .string nm] Y fun e w' => (∃ fp fc, e = .returned (.tuple #[.agg #[.string (fndL L1 nm).1.nm, .bool (fndL L1 nm).1.un, .slice fp (fndL L1 nm).1.fs.length fc, .int .i64 (fndL L1 nm).1.sz, .int .i64 (fndL L1 nm).1.al], .bool (fndL L1 nm).2]) ∧ FSlice (fun _ => True) w' (fndL L1 nm).1.fs fp (fndL L1 nm).1.fs.length fc) ∧ Fresh Y w' := by
  obtain ⟨e0, hk0, hkc, hl⟩ := h.lays
  refine (findR_any (laV xs1) p n c nm X Y hf hl hk0 hkc).mono ?_
  rintro e w' ⟨⟨l, ok, rfl, hr⟩, hw⟩
  refine ⟨?_, hw⟩
  rcases hr with ⟨i, hi, rfl, rfl, h1, h2⟩ | ⟨rfl, rfl, hn⟩
  · have hi' : i < L1.length := by omega
    obtain ⟨p', c', hfs, e⟩ := h.nmAt hi'
    rw [e] at h1
    rw [fndL_some hi' h1 (fun j hj => by
      obtain ⟨p', c', -, e⟩ := h.nmAt (i := j) (by omega)
      have := h2 j hj
      rw [e] at this
      exact this)]
    rw [e]
    exact ⟨p', c', rfl, (hfs.turn (fun _ _ _ _ hv => hv) (fun _ _ => trivial)).later (hf.trans hw)⟩
  · rw [fndL_none (fun j hj => by
      obtain ⟨p', c', -, e⟩ := h.nmAt hj
      have := hn j (by omega)
      rw [e] at this
      exact this)]
    exact ⟨none, 0, rfl, fslice_nil ..⟩
/-- The two sizes over the list. -/
def kgood (L : List Ld) (d : Hd) (ks : Tys) : Int × Int := sizeH (laL L) L.length d (ks.size0 (laL L) L.length)
theorem sizeP_k (h : KS w X L1 L2 (.slice p n c) v2 xs1 xs2) (hL : ∀ l ∈ L1, LdOk l) {ok : Nat → Prop} (d : Hd) (ks : Tys) (tp : Option Addr) (tn tc : Nat) (hf : Fresh X Y) (hk : Kids ok X ks tp tn tc) :
    Calls Tryd.prog 11 #[.agg #[.int .i64 d.kind, .int .i64 d.size, .int .i64 d.len, .bool d.flag, .string d.name, .slice tp tn tc], .slice p n c] Y fun e w' => e = .returned (.tuple #[.int .i64 (kgood L1 d ks).1, .int .i64 (kgood L1 d ks).2]) ∧ Fresh Y w' := by
  obtain ⟨e0, hk0, hkc, hl⟩ := h.lays
  subst e0
  have ha := h.c1.alike
  have := size_all (laV xs1) p L1.length c (ha.good hL) hk0 hkc ks ok d tp tn tc X Y hf hk hl
  rw [size0_alike ha, sizeH_alike ha] at this
  exact this
theorem sizeR_k (h : KS w X L1 L2 (.slice p n c) v2 xs1 xs2) (hL : ∀ l ∈ L1, LdOk l) {ok : Nat → Prop} (d : Hd) (ks : Tys) (tp : Option Addr) (tn tc : Nat) (hf : Fresh X Y) (hk : Kids ok X ks tp tn tc) (hb : 0 ≤ d.kind ∧ d.kind ≤ 7) (hw : ks.wf) :
    Calls Tryd.prog 12 #[.agg #[.int .i64 d.kind, .int .i64 d.size, .int .i64 d.len, .bool d.flag, .string d.name, .slice tp tn tc], .slice p n c] Y fun e w' => e = .returned (.tuple #[.int .i64 (kgood L1 d ks).1, .int .i64 (kgood L1 d ks).2]) ∧ Fresh Y w' := by
  obtain ⟨e0, hk0, hkc, hl⟩ := h.lays
  subst e0
  have ha := h.c1.alike
  have := sizeR_any (laV xs1) p L1.length c (ha.good hL) hk0 hkc ks ok d tp tn tc X Y hf hk hl hb hw
  rw [size0_alike ha, sizeH_alike ha] at this
  exact this
end
end Go.Proofs.YteiomcbphbbpkaaDoor
/- CtypeLays' function. -/
namespace Go.Proofs.YteiomcbphbbpkaaDoor
set_option linter.unusedSimpArgs false
set_option linter.unusedVariables false
open Go.RowKit

theorem RecsAt.less {w : World} {rs : Nat → Rec} {rp : Option Addr} {n k : Nat} (h : RecsAt w rs rp n) (hk : k ≤ n) : RecsAt w rs rp k := by
  rcases h with h | ⟨B, off, e, hc⟩
  · exact Or.inl (by omega)
  · exact Or.inr ⟨B, off, e, fun i hi => hc i (by omega)⟩
/-- What find answers of a layout, in its box. -/
structure LBx (w : World) (b : Nat) (l : Ld) (p : Option Addr) (c : Nat) : Prop where
  c0 : w.cell? ⟨b, 0, none⟩ = some (.string l.nm)
  c1 : w.cell? ⟨b, 1, none⟩ = some (.bool l.un)
  c2 : w.cell? ⟨b, 2, none⟩ = some (.slice p l.fs.length c)
  c3 : w.cell? ⟨b, 3, none⟩ = some (.int .i64 l.sz)
  c4 : w.cell? ⟨b, 4, none⟩ = some (.int .i64 l.al)
theorem LBx.later {w w' : World} {b : Nat} {l : Ld} {p : Option Addr} {c : Nat} (h : LBx w b l p c) (hf : Fresh w w') : LBx w' b l p c := ⟨hf.at' h.c0, hf.at' h.c1, hf.at' h.c2, hf.at' h.c3, hf.at' h.c4⟩
set_option maxRecDepth 100000 in
set_option maxHeartbeats 8000000 in
theorem lays_le (rs : Nat → Rec) (rp : Option Addr) (n rc : Nat) (zs : Nat → Int) (m : Nat) (p : Option Addr) (cap : Nat) (name : Int) (w : World) (hn : n ≤ 30) (hc : n ≤ rc) (hm : rc ≤ maxLen) (hr : RecsAt w rs rp n) (hN : ∀ i, i < n → (rs i).N ≤ 1048576) (hz : CodeAt w zs m 0 p m cap) :
    Calls Tryd.prog 3 #[.slice rp n rc, .slice p m cap, .int .i64 name] w fun e w' => e = .returned (.bool true) ∧ Fresh w w' := by
  have HR : Hid (RecsAt w rs rp n) := Lib.hid hr
  have HNN : Hid (∀ i, i < n → (rs i).N ≤ 1048576) := Lib.hid (fun i hi => hN i (by omega))
  have HZ := Lib.hid hz
  have HM := Lib.hid hm
  have HC := Lib.hid hc
  have hmax : rc ≤ 9223372036854775807 := hm
  have h30 : ¬ ((30 : Int) < (n : Int)) := by omega
  have HL30 := Lib.hid hn
  clear hr hz hN hm
  go_enter Tryd.func3, Tryd.ntmps3
  go_wp2_with fail
  go_at_call 8; refine (fixed_any _).mono ?_; rintro e w1 ⟨rfl, h1⟩
  have H1 : Hid (Fresh w w1) := Lib.hid (by (repeat' first | with_reducible exact Fresh.refl _ | with_reducible assumption | with_reducible refine Fresh.alloc ?_ _ _ | with_reducible refine Fresh.drew ?_ | with_reducible refine Fresh.drewN ?_ _ | with_reducible refine Fresh.setCell ?_ ?_ _ | with_reducible refine Fresh.trans ?_ (by assumption) | (simp; done) | (simp; omega)))
  clear h1
  go_wp2_with fail
  go_at_call 9; refine (known_any rs rp n rc w _ (H1.out.trans (by (repeat' first | with_reducible exact Fresh.refl _ | with_reducible assumption | with_reducible refine Fresh.alloc ?_ _ _ | with_reducible refine Fresh.drew ?_ | with_reducible refine Fresh.drewN ?_ _ | with_reducible refine Fresh.setCell ?_ ?_ _ | with_reducible refine Fresh.trans ?_ (by assumption) | (simp; done) | (simp; omega)))) (by omega) (by omega) HM.out HR.out HNN.out).mono ?_; rintro e w2 ⟨⟨lp, lm, lc, v2, xs1, xs2, rfl, hks⟩, h2⟩
  have HKL := Lib.hid (klist_ok rs n)
  have HKF := Lib.hid (klist_few rs n)
  generalize klist rs n = L at *
  have HK2 := Lib.hid hks
  have H2 : Hid (Fresh w w2) := Lib.hid (H1.out.trans (by (repeat' first | with_reducible exact Fresh.refl _ | with_reducible assumption | with_reducible refine Fresh.alloc ?_ _ _ | with_reducible refine Fresh.drew ?_ | with_reducible refine Fresh.drewN ?_ _ | with_reducible refine Fresh.setCell ?_ ?_ _ | with_reducible refine Fresh.trans ?_ (by assumption) | (simp; done) | (simp; omega))))
  clear hks h2 H1 h30 hmax HR HNN HC HM hn HL30
  go_wp2_with fail
  go_at_call 10; refine (one_any zs m p cap w _ H2.out HZ.out).mono ?_; rintro e w3 ⟨⟨tp, tn, tc, rfl, hkt⟩, h3⟩
  have HKT := Lib.hid hkt
  have HWT := Lib.hid (mkT_wf zs m 61 0)
  rw [show mkT zs m 61 0 = one zs m from rfl] at HWT
  have HK3 := Lib.hid (HK2.out.later h3)
  have H3 : Hid (Fresh w w3) := Lib.hid (H2.out.trans h3)
  clear hkt h3 H2 HZ HK2
  generalize one zs m = T at *
  obtain ⟨t, tk, tj⟩ := T
  simp only at HKT HWT
  go_upto_region 9 with fail
  have BT : Hid (TB (w3.alloc (.cells #[.int .i64 t.kind, .int .i64 t.size, .int .i64 t.len, .bool t.flag, .string t.name, .slice tp tn tc] 30)) w3.heap.size t tp tn tc) := Lib.hid (TB.new w3 t tp tn tc)
  have F34 : Hid (Fresh w3 (w3.alloc (.cells #[.int .i64 t.kind, .int .i64 t.size, .int .i64 t.len, .bool t.flag, .string t.name, .slice tp tn tc] 30))) := Lib.hid (by (repeat' first | with_reducible exact Fresh.refl _ | with_reducible assumption | with_reducible refine Fresh.alloc ?_ _ _ | with_reducible refine Fresh.drew ?_ | with_reducible refine Fresh.drewN ?_ _ | with_reducible refine Fresh.setCell ?_ ?_ _ | with_reducible refine Fresh.trans ?_ (by assumption) | (simp; done) | (simp; omega)))
  have KT := Lib.hid (HKT.out.later F34.out)
  have HK4 := Lib.hid (HK3.out.later F34.out)
  have F4 := Lib.hid (H3.out.trans F34.out)
  clear HKT HK3 F34 H3
  generalize (w3.alloc (.cells #[.int .i64 t.kind, .int .i64 t.size, .int .i64 t.len, .bool t.flag, .string t.name, .slice tp tn tc] 30)) = W4 at *
  generalize w3.heap.size = b5 at *
  have C14 : Hid (∀ X, Calls Tryd.prog 14 #[.int .i64 name] X fun e w' => e = .returned (.string (nameOf name)) ∧ Fresh X w') := Lib.hid (fun X => name_any name X)
  generalize nameOf name = nm at *
  have C11 : Hid (∀ X, Fresh W4 X → Calls Tryd.prog 11 #[.agg #[.int .i64 t.kind, .int .i64 t.size, .int .i64 t.len, .bool t.flag, .string t.name, .slice tp tn tc], .slice lp lm lc] X fun e w' => e = .returned (.tuple #[.int .i64 (kgood L t tk).1, .int .i64 (kgood L t tk).2]) ∧ Fresh X w') := Lib.hid (fun X hX => sizeP_k HK4.out HKL.out t tk tp tn tc hX KT.out)
  have C12 : Hid (∀ X, Fresh W4 X → Calls Tryd.prog 12 #[.agg #[.int .i64 t.kind, .int .i64 t.size, .int .i64 t.len, .bool t.flag, .string t.name, .slice tp tn tc], .slice lp lm lc] X fun e w' => e = .returned (.tuple #[.int .i64 (kgood L t tk).1, .int .i64 (kgood L t tk).2]) ∧ Fresh X w') := Lib.hid (fun X hX => sizeR_k HK4.out HKL.out t tk tp tn tc hX KT.out HWT.out.1.bd HWT.out.2)
  have C13 : Hid (∀ X, Fresh W4 X → Calls Tryd.prog 13 #[.slice lp lm lc, .string nm] X fun e w' => (∃ fp fc, e = .returned (.tuple #[.agg #[.string (fndL L nm).1.nm, .bool (fndL L nm).1.un, .slice fp (fndL L nm).1.fs.length fc, .int .i64 (fndL L nm).1.sz, .int .i64 (fndL L nm).1.al], .bool (fndL L nm).2]) ∧ FSlice (fun _ => True) w' (fndL L nm).1.fs fp (fndL L nm).1.fs.length fc) ∧ Fresh X w') := Lib.hid (fun X hX => findP_k HK4.out HKF.out nm hX)
  have C15 : Hid (∀ X, Fresh W4 X → Calls Tryd.prog 15 #[.slice lp lm lc, .string nm] X fun e w' => (∃ fp fc, e = .returned (.tuple #[.agg #[.string (fndL L nm).1.nm, .bool (fndL L nm).1.un, .slice fp (fndL L nm).1.fs.length fc, .int .i64 (fndL L nm).1.sz, .int .i64 (fndL L nm).1.al], .bool (fndL L nm).2]) ∧ FSlice (fun _ => True) w' (fndL L nm).1.fs fp (fndL L nm).1.fs.length fc) ∧ Fresh X w') := Lib.hid (fun X hX => findR_k HK4.out nm hX)
  have HWF : Hid (∀ x ∈ (fndL L nm).1.fs, WFh x.h x.ks ∧ x.ks.wf) := Lib.hid (fndL_wf HKL.out)
  clear HKL HKF HWT KT HK4
  generalize (kgood L t tk).1 = g1 at *
  generalize (kgood L t tk).2 = g2 at *
  generalize (fndL L nm).1 = l at *
  generalize (fndL L nm).2 = ok at *
  have bt := BT.out
  obtain ⟨t0, t1, t2, t3, t4, t5, tf⟩ := bt
  go_wp2_with fail
  clear t0 t1 t2 t3 t4 t5 tf
  go_at_call 11; refine (C11.out _ (Fresh.refl _)).mono ?_; rintro e w5 ⟨rfl, h5⟩
  have F5 := Lib.hid h5
  have bt := BT.out.later h5
  clear C11 h5
  obtain ⟨t0, t1, t2, t3, t4, t5, tf⟩ := bt
  go_wp2_with fail
  clear t0 t1 t2 t3 t4 t5 tf
  go_at_call 12; refine (C12.out _ F5.out).mono ?_; rintro e w6 ⟨rfl, h6⟩
  have F6 := Lib.hid (F5.out.trans h6)
  clear C12 h6 F5 BT
  go_wp2_with fail
  go_at_call 14; refine (C14.out _).mono ?_; rintro e w7 ⟨rfl, h7⟩
  have F7 := Lib.hid (F6.out.trans h7)
  clear h7 F6
  go_wp2_with fail
  go_at_call 13; refine (C13.out _ F7.out).mono ?_; rintro e w8 ⟨⟨fp, fc, rfl, hfs⟩, h8⟩
  have HFS := Lib.hid hfs
  have F8 := Lib.hid (F7.out.trans h8)
  clear h8 F7 hfs C13
  go_upto_region 12 with fail
  have F89 : Hid (Fresh w8 (w8.alloc (.cells #[.string l.nm, .bool l.un, .slice fp l.fs.length fc, .int .i64 l.sz, .int .i64 l.al] 36))) := Lib.hid (by (repeat' first | with_reducible exact Fresh.refl _ | with_reducible assumption | with_reducible refine Fresh.alloc ?_ _ _ | with_reducible refine Fresh.drew ?_ | with_reducible refine Fresh.drewN ?_ _ | with_reducible refine Fresh.setCell ?_ ?_ _ | with_reducible refine Fresh.trans ?_ (by assumption) | (simp; done) | (simp; omega)))
  have B9 : Hid (LBx (w8.alloc (.cells #[.string l.nm, .bool l.un, .slice fp l.fs.length fc, .int .i64 l.sz, .int .i64 l.al] 36)) w8.heap.size l fp fc) := Lib.hid ⟨by simp [go_sem], by simp [go_sem], by simp [go_sem], by simp [go_sem], by simp [go_sem]⟩
  have HFS := Lib.hid (HFS.out.later F89.out)
  have F9 := Lib.hid (F8.out.trans F89.out)
  clear F89 F8
  generalize (w8.alloc (.cells #[.string l.nm, .bool l.un, .slice fp l.fs.length fc, .int .i64 l.sz, .int .i64 l.al] 36)) = W9 at *
  generalize w8.heap.size = b14 at *
  go_wp2_with fail
  go_at_call 14; refine (C14.out _).mono ?_; rintro e w10 ⟨rfl, h10⟩
  have F10 := Lib.hid (F9.out.trans h10)
  have B9 := Lib.hid (B9.out.later h10)
  have HFS := Lib.hid (HFS.out.later h10)
  clear h10 F9 C14
  go_wp2_with fail
  go_at_call 15; refine (C15.out _ F10.out).mono ?_; rintro e w11 ⟨⟨gp, gc, rfl, hgs⟩, h11⟩
  have HGS := Lib.hid hgs
  have F11 := Lib.hid (F10.out.trans h11)
  have B9 := Lib.hid (B9.out.later h11)
  have HFS := Lib.hid (HFS.out.later h11)
  clear h11 F10 hgs C15
  go_upto_region 13 with fail
  have F12 : Hid (Fresh w11 (w11.alloc (.cells #[.string l.nm, .bool l.un, .slice gp l.fs.length gc, .int .i64 l.sz, .int .i64 l.al] 36))) := Lib.hid (by (repeat' first | with_reducible exact Fresh.refl _ | with_reducible assumption | with_reducible refine Fresh.alloc ?_ _ _ | with_reducible refine Fresh.drew ?_ | with_reducible refine Fresh.drewN ?_ _ | with_reducible refine Fresh.setCell ?_ ?_ _ | with_reducible refine Fresh.trans ?_ (by assumption) | (simp; done) | (simp; omega)))
  have B12 : Hid (LBx (w11.alloc (.cells #[.string l.nm, .bool l.un, .slice gp l.fs.length gc, .int .i64 l.sz, .int .i64 l.al] 36)) w11.heap.size l gp gc) := Lib.hid ⟨by simp [go_sem], by simp [go_sem], by simp [go_sem], by simp [go_sem], by simp [go_sem]⟩
  have HFS := Lib.hid (HFS.out.later F12.out)
  have HGS := Lib.hid (HGS.out.later F12.out)
  have B9 := Lib.hid (B9.out.later F12.out)
  have FF := Lib.hid (F4.out.trans (F11.out.trans F12.out))
  clear F12 F11 F4
  generalize (w11.alloc (.cells #[.string l.nm, .bool l.un, .slice gp l.fs.length gc, .int .i64 l.sz, .int .i64 l.al] 36)) = W12 at *
  generalize w11.heap.size = b16 at *
  have C16 : Hid (∀ X, Fresh W12 X → Calls Tryd.prog 16 #[.agg #[.string l.nm, .bool l.un, .slice fp l.fs.length fc, .int .i64 l.sz, .int .i64 l.al], .agg #[.string l.nm, .bool l.un, .slice gp l.fs.length gc, .int .i64 l.sz, .int .i64 l.al]] X fun e w' => e = .returned (.bool true) ∧ Fresh X w') := Lib.hid (fun X hX => sameLay_any l.nm l.un l.sz l.al l.fs fp gp l.fs.length fc gc W12 X hX HFS.out HGS.out HWF.out)
  clear HFS HGS HWF
  have q1 := B9.out
  have q2 := B12.out
  obtain ⟨c0, c1, c2, c3, c4⟩ := q1
  obtain ⟨d0, d1, d2, d3, d4⟩ := q2
  go_wp2_with fail
  go_at_call 16; refine (C16.out _ (Fresh.refl _)).mono ?_; rintro e w13 ⟨rfl, h13⟩
  go_wp2_with fail
  go_returns
  exact ⟨rfl, FF.out.trans h13⟩
set_option maxRecDepth 100000 in
set_option maxHeartbeats 8000000 in
theorem lays_gt (rs : Nat → Rec) (rp : Option Addr) (n rc : Nat) (zs : Nat → Int) (m : Nat) (p : Option Addr) (cap : Nat) (name : Int) (w : World) (hn : 30 < n) (hc : n ≤ rc) (hm : rc ≤ maxLen) (hr : RecsAt w rs rp n) (hN : ∀ i, i < n → (rs i).N ≤ 1048576) (hz : CodeAt w zs m 0 p m cap) :
    Calls Tryd.prog 3 #[.slice rp n rc, .slice p m cap, .int .i64 name] w fun e w' => e = .returned (.bool true) ∧ Fresh w w' := by
  have HR : Hid (RecsAt w rs rp 30) := Lib.hid (hr.less (by omega))
  have HNN : Hid (∀ i, i < 30 → (rs i).N ≤ 1048576) := Lib.hid (fun i hi => hN i (by omega))
  have HZ := Lib.hid hz
  have HM := Lib.hid hm
  have HC := Lib.hid hc
  have hmax : rc ≤ 9223372036854775807 := hm
  have h30 : (30 : Int) < (n : Int) := by omega
  have HL30 := Lib.hid hn
  clear hr hz hN hm
  go_enter Tryd.func3, Tryd.ntmps3
  go_wp2_with fail
  go_at_call 8; refine (fixed_any _).mono ?_; rintro e w1 ⟨rfl, h1⟩
  have H1 : Hid (Fresh w w1) := Lib.hid (by (repeat' first | with_reducible exact Fresh.refl _ | with_reducible assumption | with_reducible refine Fresh.alloc ?_ _ _ | with_reducible refine Fresh.drew ?_ | with_reducible refine Fresh.drewN ?_ _ | with_reducible refine Fresh.setCell ?_ ?_ _ | with_reducible refine Fresh.trans ?_ (by assumption) | (simp; done) | (simp; omega)))
  clear h1
  go_wp2_with fail
  go_at_call 9; refine (known_any rs rp 30 rc w _ (H1.out.trans (by (repeat' first | with_reducible exact Fresh.refl _ | with_reducible assumption | with_reducible refine Fresh.alloc ?_ _ _ | with_reducible refine Fresh.drew ?_ | with_reducible refine Fresh.drewN ?_ _ | with_reducible refine Fresh.setCell ?_ ?_ _ | with_reducible refine Fresh.trans ?_ (by assumption) | (simp; done) | (simp; omega)))) (by omega) (by omega) HM.out HR.out HNN.out).mono ?_; rintro e w2 ⟨⟨lp, lm, lc, v2, xs1, xs2, rfl, hks⟩, h2⟩
  have HKL := Lib.hid (klist_ok rs 30)
  have HKF := Lib.hid (klist_few rs 30)
  generalize klist rs 30 = L at *
  have HK2 := Lib.hid hks
  have H2 : Hid (Fresh w w2) := Lib.hid (H1.out.trans (by (repeat' first | with_reducible exact Fresh.refl _ | with_reducible assumption | with_reducible refine Fresh.alloc ?_ _ _ | with_reducible refine Fresh.drew ?_ | with_reducible refine Fresh.drewN ?_ _ | with_reducible refine Fresh.setCell ?_ ?_ _ | with_reducible refine Fresh.trans ?_ (by assumption) | (simp; done) | (simp; omega))))
  clear hks h2 H1 h30 hmax HR HNN HC HM hn HL30
  go_wp2_with fail
  go_at_call 10; refine (one_any zs m p cap w _ H2.out HZ.out).mono ?_; rintro e w3 ⟨⟨tp, tn, tc, rfl, hkt⟩, h3⟩
  have HKT := Lib.hid hkt
  have HWT := Lib.hid (mkT_wf zs m 61 0)
  rw [show mkT zs m 61 0 = one zs m from rfl] at HWT
  have HK3 := Lib.hid (HK2.out.later h3)
  have H3 : Hid (Fresh w w3) := Lib.hid (H2.out.trans h3)
  clear hkt h3 H2 HZ HK2
  generalize one zs m = T at *
  obtain ⟨t, tk, tj⟩ := T
  simp only at HKT HWT
  go_upto_region 9 with fail
  have BT : Hid (TB (w3.alloc (.cells #[.int .i64 t.kind, .int .i64 t.size, .int .i64 t.len, .bool t.flag, .string t.name, .slice tp tn tc] 30)) w3.heap.size t tp tn tc) := Lib.hid (TB.new w3 t tp tn tc)
  have F34 : Hid (Fresh w3 (w3.alloc (.cells #[.int .i64 t.kind, .int .i64 t.size, .int .i64 t.len, .bool t.flag, .string t.name, .slice tp tn tc] 30))) := Lib.hid (by (repeat' first | with_reducible exact Fresh.refl _ | with_reducible assumption | with_reducible refine Fresh.alloc ?_ _ _ | with_reducible refine Fresh.drew ?_ | with_reducible refine Fresh.drewN ?_ _ | with_reducible refine Fresh.setCell ?_ ?_ _ | with_reducible refine Fresh.trans ?_ (by assumption) | (simp; done) | (simp; omega)))
  have KT := Lib.hid (HKT.out.later F34.out)
  have HK4 := Lib.hid (HK3.out.later F34.out)
  have F4 := Lib.hid (H3.out.trans F34.out)
  clear HKT HK3 F34 H3
  generalize (w3.alloc (.cells #[.int .i64 t.kind, .int .i64 t.size, .int .i64 t.len, .bool t.flag, .string t.name, .slice tp tn tc] 30)) = W4 at *
  generalize w3.heap.size = b5 at *
  have C14 : Hid (∀ X, Calls Tryd.prog 14 #[.int .i64 name] X fun e w' => e = .returned (.string (nameOf name)) ∧ Fresh X w') := Lib.hid (fun X => name_any name X)
  generalize nameOf name = nm at *
  have C11 : Hid (∀ X, Fresh W4 X → Calls Tryd.prog 11 #[.agg #[.int .i64 t.kind, .int .i64 t.size, .int .i64 t.len, .bool t.flag, .string t.name, .slice tp tn tc], .slice lp lm lc] X fun e w' => e = .returned (.tuple #[.int .i64 (kgood L t tk).1, .int .i64 (kgood L t tk).2]) ∧ Fresh X w') := Lib.hid (fun X hX => sizeP_k HK4.out HKL.out t tk tp tn tc hX KT.out)
  have C12 : Hid (∀ X, Fresh W4 X → Calls Tryd.prog 12 #[.agg #[.int .i64 t.kind, .int .i64 t.size, .int .i64 t.len, .bool t.flag, .string t.name, .slice tp tn tc], .slice lp lm lc] X fun e w' => e = .returned (.tuple #[.int .i64 (kgood L t tk).1, .int .i64 (kgood L t tk).2]) ∧ Fresh X w') := Lib.hid (fun X hX => sizeR_k HK4.out HKL.out t tk tp tn tc hX KT.out HWT.out.1.bd HWT.out.2)
  have C13 : Hid (∀ X, Fresh W4 X → Calls Tryd.prog 13 #[.slice lp lm lc, .string nm] X fun e w' => (∃ fp fc, e = .returned (.tuple #[.agg #[.string (fndL L nm).1.nm, .bool (fndL L nm).1.un, .slice fp (fndL L nm).1.fs.length fc, .int .i64 (fndL L nm).1.sz, .int .i64 (fndL L nm).1.al], .bool (fndL L nm).2]) ∧ FSlice (fun _ => True) w' (fndL L nm).1.fs fp (fndL L nm).1.fs.length fc) ∧ Fresh X w') := Lib.hid (fun X hX => findP_k HK4.out HKF.out nm hX)
  have C15 : Hid (∀ X, Fresh W4 X → Calls Tryd.prog 15 #[.slice lp lm lc, .string nm] X fun e w' => (∃ fp fc, e = .returned (.tuple #[.agg #[.string (fndL L nm).1.nm, .bool (fndL L nm).1.un, .slice fp (fndL L nm).1.fs.length fc, .int .i64 (fndL L nm).1.sz, .int .i64 (fndL L nm).1.al], .bool (fndL L nm).2]) ∧ FSlice (fun _ => True) w' (fndL L nm).1.fs fp (fndL L nm).1.fs.length fc) ∧ Fresh X w') := Lib.hid (fun X hX => findR_k HK4.out nm hX)
  have HWF : Hid (∀ x ∈ (fndL L nm).1.fs, WFh x.h x.ks ∧ x.ks.wf) := Lib.hid (fndL_wf HKL.out)
  clear HKL HKF HWT KT HK4
  generalize (kgood L t tk).1 = g1 at *
  generalize (kgood L t tk).2 = g2 at *
  generalize (fndL L nm).1 = l at *
  generalize (fndL L nm).2 = ok at *
  have bt := BT.out
  obtain ⟨t0, t1, t2, t3, t4, t5, tf⟩ := bt
  go_wp2_with fail
  clear t0 t1 t2 t3 t4 t5 tf
  go_at_call 11; refine (C11.out _ (Fresh.refl _)).mono ?_; rintro e w5 ⟨rfl, h5⟩
  have F5 := Lib.hid h5
  have bt := BT.out.later h5
  clear C11 h5
  obtain ⟨t0, t1, t2, t3, t4, t5, tf⟩ := bt
  go_wp2_with fail
  clear t0 t1 t2 t3 t4 t5 tf
  go_at_call 12; refine (C12.out _ F5.out).mono ?_; rintro e w6 ⟨rfl, h6⟩
  have F6 := Lib.hid (F5.out.trans h6)
  clear C12 h6 F5 BT
  go_wp2_with fail
  go_at_call 14; refine (C14.out _).mono ?_; rintro e w7 ⟨rfl, h7⟩
  have F7 := Lib.hid (F6.out.trans h7)
  clear h7 F6
  go_wp2_with fail
  go_at_call 13; refine (C13.out _ F7.out).mono ?_; rintro e w8 ⟨⟨fp, fc, rfl, hfs⟩, h8⟩
  have HFS := Lib.hid hfs
  have F8 := Lib.hid (F7.out.trans h8)
  clear h8 F7 hfs C13
  go_upto_region 12 with fail
  have F89 : Hid (Fresh w8 (w8.alloc (.cells #[.string l.nm, .bool l.un, .slice fp l.fs.length fc, .int .i64 l.sz, .int .i64 l.al] 36))) := Lib.hid (by (repeat' first | with_reducible exact Fresh.refl _ | with_reducible assumption | with_reducible refine Fresh.alloc ?_ _ _ | with_reducible refine Fresh.drew ?_ | with_reducible refine Fresh.drewN ?_ _ | with_reducible refine Fresh.setCell ?_ ?_ _ | with_reducible refine Fresh.trans ?_ (by assumption) | (simp; done) | (simp; omega)))
  have B9 : Hid (LBx (w8.alloc (.cells #[.string l.nm, .bool l.un, .slice fp l.fs.length fc, .int .i64 l.sz, .int .i64 l.al] 36)) w8.heap.size l fp fc) := Lib.hid ⟨by simp [go_sem], by simp [go_sem], by simp [go_sem], by simp [go_sem], by simp [go_sem]⟩
  have HFS := Lib.hid (HFS.out.later F89.out)
  have F9 := Lib.hid (F8.out.trans F89.out)
  clear F89 F8
  generalize (w8.alloc (.cells #[.string l.nm, .bool l.un, .slice fp l.fs.length fc, .int .i64 l.sz, .int .i64 l.al] 36)) = W9 at *
  generalize w8.heap.size = b14 at *
  go_wp2_with fail
  go_at_call 14; refine (C14.out _).mono ?_; rintro e w10 ⟨rfl, h10⟩
  have F10 := Lib.hid (F9.out.trans h10)
  have B9 := Lib.hid (B9.out.later h10)
  have HFS := Lib.hid (HFS.out.later h10)
  clear h10 F9 C14
  go_wp2_with fail
  go_at_call 15; refine (C15.out _ F10.out).mono ?_; rintro e w11 ⟨⟨gp, gc, rfl, hgs⟩, h11⟩
  have HGS := Lib.hid hgs
  have F11 := Lib.hid (F10.out.trans h11)
  have B9 := Lib.hid (B9.out.later h11)
  have HFS := Lib.hid (HFS.out.later h11)
  clear h11 F10 hgs C15
  go_upto_region 13 with fail
  have F12 : Hid (Fresh w11 (w11.alloc (.cells #[.string l.nm, .bool l.un, .slice gp l.fs.length gc, .int .i64 l.sz, .int .i64 l.al] 36))) := Lib.hid (by (repeat' first | with_reducible exact Fresh.refl _ | with_reducible assumption | with_reducible refine Fresh.alloc ?_ _ _ | with_reducible refine Fresh.drew ?_ | with_reducible refine Fresh.drewN ?_ _ | with_reducible refine Fresh.setCell ?_ ?_ _ | with_reducible refine Fresh.trans ?_ (by assumption) | (simp; done) | (simp; omega)))
  have B12 : Hid (LBx (w11.alloc (.cells #[.string l.nm, .bool l.un, .slice gp l.fs.length gc, .int .i64 l.sz, .int .i64 l.al] 36)) w11.heap.size l gp gc) := Lib.hid ⟨by simp [go_sem], by simp [go_sem], by simp [go_sem], by simp [go_sem], by simp [go_sem]⟩
  have HFS := Lib.hid (HFS.out.later F12.out)
  have HGS := Lib.hid (HGS.out.later F12.out)
  have B9 := Lib.hid (B9.out.later F12.out)
  have FF := Lib.hid (F4.out.trans (F11.out.trans F12.out))
  clear F12 F11 F4
  generalize (w11.alloc (.cells #[.string l.nm, .bool l.un, .slice gp l.fs.length gc, .int .i64 l.sz, .int .i64 l.al] 36)) = W12 at *
  generalize w11.heap.size = b16 at *
  have C16 : Hid (∀ X, Fresh W12 X → Calls Tryd.prog 16 #[.agg #[.string l.nm, .bool l.un, .slice fp l.fs.length fc, .int .i64 l.sz, .int .i64 l.al], .agg #[.string l.nm, .bool l.un, .slice gp l.fs.length gc, .int .i64 l.sz, .int .i64 l.al]] X fun e w' => e = .returned (.bool true) ∧ Fresh X w') := Lib.hid (fun X hX => sameLay_any l.nm l.un l.sz l.al l.fs fp gp l.fs.length fc gc W12 X hX HFS.out HGS.out HWF.out)
  clear HFS HGS HWF
  have q1 := B9.out
  have q2 := B12.out
  obtain ⟨c0, c1, c2, c3, c4⟩ := q1
  obtain ⟨d0, d1, d2, d3, d4⟩ := q2
  go_wp2_with fail
  go_at_call 16; refine (C16.out _ (Fresh.refl _)).mono ?_; rintro e w13 ⟨rfl, h13⟩
  go_wp2_with fail
  go_returns
  exact ⟨rfl, FF.out.trans h13⟩
theorem lays_law (rs : Nat → Rec) (rp : Option Addr) (n rc : Nat) (zs : Nat → Int) (m : Nat) (p : Option Addr) (cap : Nat) (name : Int) (w : World) (hc : n ≤ rc) (hm : rc ≤ maxLen) (hr : RecsAt w rs rp n) (hN : ∀ i, i < n → (rs i).N ≤ 1048576) (hz : CodeAt w zs m 0 p m cap) :
    Calls Tryd.prog 3 #[.slice rp n rc, .slice p m cap, .int .i64 name] w fun e w' => e = .returned (.bool true) ∧ Fresh w w' := by
  by_cases hn : n ≤ 30
  · exact lays_le rs rp n rc zs m p cap name w hn hc hm hr hN hz
  · exact lays_gt rs rp n rc zs m p cap name w (by omega) hc hm hr hN hz
end Go.Proofs.YteiomcbphbbpkaaDoor
/- Records that came in, in a row. -/
namespace Go.Proofs.YteiomcbphbbpkaaDoor
set_option linter.unusedSimpArgs false
set_option linter.unusedVariables false
set_option maxRecDepth 100000
open Go.ChangeShapes Go.WideShapes Go.ChangeAt Go.RowKit Go.Joins

theorem row_cells {W : World} {a : Addr} {C m : Nat} (hC : 0 < C) (hm : 0 < m) {p : Nat → List Value → Prop} (h : ∀ i, i < m → ∃ cs, W.cells? 0 (a.add (i * C)) C = some cs ∧ p i cs) :
    ∃ b off, a = ⟨b, off, none⟩ ∧ ∀ i, i < m → ∃ cs : List Value, cs.length = C ∧ p i cs ∧ ∀ j, j < C → W.cell? ⟨b, off + i * C + j, none⟩ = cs[j]? := by
  obtain ⟨b, off, spot⟩ := a
  have hspot : spot = none := by
    obtain ⟨cs, h1, _⟩ := h 0 hm
    obtain ⟨_, hl, hc⟩ := World.cells?_some h1
    have h2 := hc 0 hC
    have h3 : cs[0]? = some (cs[0]'(by omega)) := List.getElem?_eq_getElem (by omega)
    rw [h3] at h2
    simpa [Addr.add] using World.cell?_spot h2
  subst hspot
  refine ⟨b, off, rfl, fun i hi => ?_⟩
  obtain ⟨cs, h1, h2⟩ := h i hi
  obtain ⟨_, hl, hc⟩ := World.cells?_some h1
  refine ⟨cs, hl, h2, fun j hj => ?_⟩
  have := hc j hj
  rwa [Go.WideShapes.add_plain, Go.WideShapes.add_plain] at this
section
variable {H : Type} {enc : TypeId × Value → H} {W : World} {held : Bool}
theorem open_rec1 {n : Nat} {cs : List Value} {x : DataW H × List MemPlace} (hf : DataW.trod enc Tryd.prog W 0 (fun _ => true) held n 53 cs = some x) :
    ∃ (r : Rec) (np : Option Addr) (nc : Nat) (tp : Option Addr) (tc : Nat), cs = [.int .i64 r.name, .bool r.un, .slice np r.nn nc, .slice tp r.N tc, .bool r.forget] ∧ RecAt W r np nc tp tc ∧ r.N ≤ Rows.uptoBulk x.1 := by
  obtain ⟨xs, n', -, hx, hl, hxl, hfd⟩ := DataW.trod_struct Tryd.underlying53 hf
  have hl2 : xs.length = 5 := hxl
  rw [cells53] at hl
  match cs, hl, xs, hl2 with
  | [c0, c1, c2, c3, c4], _, [y0, y1, y2, y3, y4], _ =>
    have h0 := hfd 0 _ rfl
    have h1 := hfd 1 _ rfl
    have h2 := hfd 2 _ rfl
    have h3 := hfd 3 _ rfl
    have h4 := hfd 4 _ rfl
    simp [cells3, cells4, cells23, cells51] at h0 h1 h2 h3 h4
    obtain ⟨a, e0, -⟩ := DataW.trod_int Tryd.underlying3 h0
    obtain ⟨u, e1, -⟩ := DataW.trod_bool Tryd.underlying4 h1
    obtain ⟨np, nn, nc, nz, e2, hn⟩ := open_code1 h2
    obtain ⟨tp, N, tc, zs, ln, e3, hle, hmax, hb, ht⟩ := open_types h3
    obtain ⟨fg, e4, -⟩ := DataW.trod_bool Tryd.underlying4 h4
    simp at e0 e1 e2 e3 e4
    subst e0 e1 e2 e3 e4
    refine ⟨⟨a, u, nz, nn, N, zs, ln, fg⟩, np, nc, tp, tc, rfl, ⟨hn, hle, hmax, ht⟩, ?_⟩
    rw [hx]
    simp only [Rows.uptoBulk, List.map_cons, List.map_nil, Rows.uptoBulkAll]
    show N ≤ _
    omega
theorem bulk_mem {D : Nat → DataW H} : ∀ {l : List (DataW H)} {d : DataW H}, d ∈ l → Rows.uptoBulk d ≤ Rows.uptoBulkAll l
  | x :: r, d, h => by
    simp only [Rows.uptoBulkAll]
    rcases List.mem_cons.1 h with rfl | h
    · omega
    · have := bulk_mem (D := D) h
      omega
def Rec.zero : Rec := ⟨0, false, fun _ => 0, 0, 0, fun _ _ => 0, fun _ => 0, false⟩
instance : Inhabited Rec := ⟨Rec.zero⟩
theorem open_recs {v : Value} {d : DataW H} {ps : List MemPlace} (hok : Value.okWide Tryd.prog W .any 0 22 v) (h : DataW.Trod enc Tryd.prog W 0 (fun _ => true) true 22 v d ps) :
    ∃ (rs : Nat → Rec) (rp : Option Addr) (n rc : Nat), v = .slice rp n rc ∧ n ≤ rc ∧ rc ≤ maxLen ∧ RecsAt W rs rp n ∧ ∀ i, i < n → (rs i).N ≤ Rows.uptoBulk d := by
  obtain ⟨a0, len0, cap0, rfl⟩ := okWide_slice Tryd.underlying22 hok
  obtain ⟨fuel, hf⟩ := h
  rcases Deep.open_slice Tryd.underlying22 hf with ⟨e, -⟩ | ⟨a, len, cap, m, n', D, Pl, e, -, hl, hm, hmm, hx, hi⟩
  · simp [Value.cells] at e
    obtain ⟨rfl, rfl, rfl⟩ := e
    exact ⟨fun _ => Rec.zero, none, 0, 0, rfl, Nat.le_refl _, Nat.zero_le _, Or.inl rfl, fun i hi => by omega⟩
  · simp [Value.cells] at e
    obtain ⟨rfl, rfl, rfl⟩ := e
    simp at hmm
    by_cases hz : len0 = 0
    · subst hz
      exact ⟨fun _ => Rec.zero, _, 0, cap0, rfl, hl, hm, Or.inl rfl, fun i hi => by omega⟩
    rw [cells53] at hi
    obtain ⟨b, off, rfl, hc⟩ := row_cells (by decide) (by omega) hi
    have hdx : d = .slice ((List.range len0).map D) ((List.range (m - len0)).map fun j => D (len0 + j)) := (congrArg Prod.fst hx)
    obtain ⟨rs, hrs⟩ := Deep.choose_lt (α := Rec) (n := len0) (p := fun i r => (∃ np nc tp tc, RecAt W r np nc tp tc ∧ RcAt W b (off + i * 5) r np nc tp tc) ∧ r.N ≤ Rows.uptoBulk (D i)) (fun i hlt => by
      obtain ⟨cs, -, ht, hcell⟩ := hc i (by omega)
      obtain ⟨r, np, nc, tp, tc, rfl, hr, hb⟩ := open_rec1 ht
      exact ⟨r, ⟨np, nc, tp, tc, hr, ⟨hcell 0 (by decide), hcell 1 (by decide), hcell 2 (by decide), hcell 3 (by decide), hcell 4 (by decide)⟩⟩, hb⟩)
    refine ⟨rs, _, len0, cap0, rfl, hl, hm, Or.inr ⟨b, off, rfl, fun i hlt => (hrs i hlt).1⟩, fun i hlt => ?_⟩
    have h1 := (hrs i hlt).2
    have h2 : Rows.uptoBulk (D i) ≤ Rows.uptoBulkAll ((List.range len0).map D) := bulk_mem (D := D) (List.mem_map.2 ⟨i, by simpa using hlt, rfl⟩)
    rw [hdx]
    simp only [Rows.uptoBulk]
    omega
end
end Go.Proofs.YteiomcbphbbpkaaDoor
