/- A flow in memory: what is read, what turns; its closure that enters a node. -/
import Derived.Test.YtlmlgdojmcmllaaUe
namespace Go.Proofs.Ytlmlgdojmcmllaa
set_option linter.unusedSimpArgs false
set_option linter.unusedVariables false
open Go.RowKit
open Solve

/-- What a flow is made of. -/
structure FD where
  va : Value
  mb : Nat
  eb : Nat
  so : Option Nat
  nm : Nat
  ne : Nat
  Fm : Int → Option Value
  Fe : Int → Option Value
  A : Graph
  M : Int → Int → Bool
  E : Int → Int → Bool
  entry : Int
  S : Int → Bool
  fb : Nat
  B1 : Nat
  B2 : Nat
abbrev FD.n (d : FD) : Nat := d.A.length
def FD.cells (d : FD) : Array Value := #[d.va, .map (some d.mb), .map (some d.eb), .int .i64 d.entry, .map d.so, .pointer (some ⟨d.B1, 0, none⟩), .pointer (some ⟨d.B2, 0, none⟩)]
/-- What is only read, all of it in R. -/
structure Flo (d : FD) (w : World) (R : Nat → Prop) : Prop where
  h : w.heap[d.fb]? = some (.cells d.cells 62 (0, 0))
  rf : R d.fb
  rows : Rows2 R R w d.va d.A
  hm : HoldF w R d.mb d.nm 1000 d.Fm d.M
  he : HoldF w R d.eb d.ne 1000 d.Fe d.E
  hs : SetO w d.so 1000 d.S
  rs : ∀ b, d.so = some b → R b
  lt : ∀ k, R k → k < w.heap.size
  small : d.A.length ≤ 1000
  nm : d.nm ≤ 1000
theorem Flo.keep {d : FD} {w w' : World} {R D : Nat → Prop} (h : Flo d w R) (hk : Keep D w w') (hd : ∀ k, R k → ¬ D k) : Flo d w' R :=
  ⟨(hk.block _ (h.lt _ h.rf) (hd _ h.rf)).trans h.h, h.rf, h.rows.sts (fun b o v hb hv => hk.cell (hd b hb) hv) (fun b o v hb hv => hk.cell (hd b hb) hv), h.hm.keep hk hd, h.he.keep hk hd, h.hs.keep hk fun b e => hd b (h.rs b e), h.rs, fun k hr => Nat.lt_of_lt_of_le (h.lt k hr) hk.size, h.small, h.nm⟩
theorem HoldF.grow {w : World} {R R' : Nat → Prop} {b n c : Nat} {F : Int → Option Value} {H : Int → Int → Bool} (h : HoldF w R b n c F H) (hr : ∀ k, R k → R' k) (hl : ∀ k, R' k → k < w.heap.size) : HoldF w R' b n c F H :=
  ⟨h.map, hr _ h.rb, hl, h.no, fun x v hx hv => by
    obtain ⟨q, h1, h2, h3, h4⟩ := h.yes x v hx hv
    exact ⟨q, h1, h2, hr _ h3, h4⟩, h.one⟩
theorem Flo.grow {d : FD} {w : World} {R R' : Nat → Prop} (h : Flo d w R) (hr : ∀ k, R k → R' k) (hl : ∀ k, R' k → k < w.heap.size) : Flo d w R' :=
  ⟨h.h, hr _ h.rf, h.rows.imp (fun c _ => hr c) (fun c _ => hr c), h.hm.grow hr hl, h.he.grow hr hl, h.hs, fun b e => hr b (h.rs b e), hl, h.small, h.nm⟩
/-- A flow, its two visits, and what has turned since ws. -/
structure Fst (d : FD) (ws : World) (U : Nat → Prop) (w : World) (R V1 V2 : Nat → Prop) (l1 l2 : List Nat) : Prop where
  flo : Flo d w R
  v1 : Vst w V1 d.B1 d.A.length l1
  v2 : Vst w V2 d.B2 d.A.length l2
  d1 : ∀ k, V1 k → ¬ R k
  d2 : ∀ k, V2 k → ¬ R k
  d12 : ∀ k, V1 k → ¬ V2 k
  keep : Keep U ws w
  u1 : ∀ k, V1 k → U k ∨ ws.heap.size ≤ k
  u2 : ∀ k, V2 k → U k ∨ ws.heap.size ≤ k
section
variable {d : FD} {ws : World} {U : Nat → Prop} {w w' : World} {R V1 V2 : Nat → Prop} {l1 l2 l' : List Nat}
theorem Fst.come1 (h : Fst d ws U w R V1 V2 l1 l2) (hc : CP V1 d.B1 d.A.length l1 l' w w') : ∃ V1', Fst d ws U w' R V1' V2 l' l2 ∧ Keep V1 w w' := by
  obtain ⟨V', h1, h2, h3⟩ := hc
  have hz := h.keep.size
  refine ⟨V', ⟨h.flo.keep h3 fun k hr hv => h.d1 k hv hr, h1, h.v2.keep h3 fun k hv hv1 => h.d12 k hv1 hv, fun k hk hr => ?_, h.d2, fun k hk hv2 => ?_, h.keep.step h3 h.u1, fun k hk => ?_, h.u2⟩, h3⟩
  · rcases h2 k hk with r | r
    · exact h.d1 k r hr
    · have := h.flo.lt k hr; omega
  · rcases h2 k hk with r | r
    · exact h.d12 k r hv2
    · have := h.v2.lt k hv2; omega
  · rcases h2 k hk with r | r
    · exact h.u1 k r
    · exact Or.inr (by omega)
theorem Fst.come2 (h : Fst d ws U w R V1 V2 l1 l2) (hc : CP V2 d.B2 d.A.length l2 l' w w') : ∃ V2', Fst d ws U w' R V1 V2' l1 l' ∧ Keep V2 w w' := by
  obtain ⟨V', h1, h2, h3⟩ := hc
  have hz := h.keep.size
  refine ⟨V', ⟨h.flo.keep h3 fun k hr hv => h.d2 k hv hr, h.v1.keep h3 fun k hv hv1 => h.d12 k hv hv1, h1, h.d1, fun k hk hr => ?_, fun k hv1 hk => ?_, h.keep.step h3 h.u2, h.u1, fun k hk => ?_⟩, h3⟩
  · rcases h2 k hk with r | r
    · exact h.d2 k r hr
    · have := h.flo.lt k hr; omega
  · rcases h2 k hk with r | r
    · exact h.d12 k hv1 r
    · have := h.v1.lt k hv1; omega
  · rcases h2 k hk with r | r
    · exact h.u2 k r
    · exact Or.inr (by omega)
theorem Fst.fresh (h : Fst d ws U w R V1 V2 l1 l2) (hf : Fresh w w') : Fst d ws U w' R V1 V2 l1 l2 :=
  ⟨h.flo.keep (D := fun _ => False) (.of hf) (fun _ _ => id), h.v1.fresh hf, h.v2.fresh hf, h.d1, h.d2, h.d12, h.keep.trans (.of hf), h.u1, h.u2⟩
theorem Fst.grow {R' : Nat → Prop} (h : Fst d ws U w R V1 V2 l1 l2) (hr : ∀ k, R k → R' k) (hl : ∀ k, R' k → k < w.heap.size) (hn : ∀ k, R' k → ¬ R k → ¬ V1 k ∧ ¬ V2 k) : Fst d ws U w R' V1 V2 l1 l2 :=
  ⟨h.flo.grow hr hl, h.v1, h.v2, fun k hv hr' => (hn k hr' (fun e => h.d1 k hv e)).1 hv, fun k hv hr' => (hn k hr' (fun e => h.d2 k hv e)).2 hv, h.d12, h.keep, h.u1, h.u2⟩
/-- Only what is written. -/
def W (V1 V2 : Nat → Prop) (k : Nat) : Prop := V1 k ∨ V2 k
/-- The caught boxes: the flow, what ends the thing in hand, the closure. -/
structure Bx (d : FD) (w : World) (R V1 V2 : Nat → Prop) (p2 p4 p5 : Nat) (x : Int) : Prop where
  h2 : w.heap[p2]? = some (.cells #[.pointer (some ⟨d.fb, 0, none⟩)] 55 (0, 0))
  h4 : ∃ o, w.heap[p4]? = some (.cells #[.map o] 60 (0, 0)) ∧ SetO w o 1000 (d.E x) ∧ ∀ b, o = some b → R b
  h5 : w.heap[p5]? = some (.cells #[.func (.func 50) #[] #[.pointer (some ⟨p2, 0, none⟩), .pointer (some ⟨p4, 0, none⟩)]] 43 (0, 0))
  n1 : ¬ V1 p2 ∧ ¬ V1 p4 ∧ ¬ V1 p5
  n2 : ¬ V2 p2 ∧ ¬ V2 p4 ∧ ¬ V2 p5
theorem Bx.keep {p2 p4 p5 : Nat} {x : Int} {D : Nat → Prop} (h : Bx d w R V1 V2 p2 p4 p5 x) (hk : Keep D w w') (hd : ∀ k, R k → ¬ D k) (hp : ¬ D p2 ∧ ¬ D p4 ∧ ¬ D p5) : Bx d w' R V1 V2 p2 p4 p5 x := by
  obtain ⟨o, h5, h6, h7⟩ := h.h4
  exact ⟨(hk.block _ (heap_lt h.h2) hp.1).trans h.h2, ⟨o, (hk.block _ (heap_lt h5) hp.2.1).trans h5, h6.keep hk (fun b e => hd b (h7 b e)), h7⟩, (hk.block _ (heap_lt h.h5) hp.2.2).trans h.h5, h.n1, h.n2⟩
theorem Bx.lts {p2 p4 p5 : Nat} {x : Int} (h : Bx d w R V1 V2 p2 p4 p5 x) : p2 < w.heap.size ∧ p4 < w.heap.size ∧ p5 < w.heap.size := by
  obtain ⟨o, h5, _, _⟩ := h.h4
  exact ⟨heap_lt h.h2, heap_lt h5, heap_lt h.h5⟩
end
/-- A flow with its boxes. -/
structure EB2 (d : FD) (ws : World) (U : Nat → Prop) (w : World) (R V1 V2 : Nat → Prop) (p2 p4 p5 : Nat) (x : Int) (l1 l2 : List Nat) : Prop where
  f : Fst d ws U w R V1 V2 l1 l2
  b : Bx d w R V1 V2 p2 p4 p5 x
section
variable {d : FD} {ws : World} {U : Nat → Prop} {w w' : World} {R V1 V2 : Nat → Prop} {l1 l2 l' : List Nat} {p2 p4 p5 : Nat} {x : Int}
theorem EB2.fresh (h : EB2 d ws U w R V1 V2 p2 p4 p5 x l1 l2) (hf : Fresh w w') : EB2 d ws U w' R V1 V2 p2 p4 p5 x l1 l2 := ⟨h.f.fresh hf, h.b.keep (D := fun _ => False) (.of hf) (fun _ _ => id) ⟨id, id, id⟩⟩
theorem EB2.come1 (h : EB2 d ws U w R V1 V2 p2 p4 p5 x l1 l2) (hc : CP V1 d.B1 d.A.length l1 l' w w') : ∃ V1', EB2 d ws U w' R V1' V2 p2 p4 p5 x l' l2 ∧ Keep V1 w w' ∧ ∀ k, V1' k → V1 k ∨ w.heap.size ≤ k := by
  obtain ⟨V', h1, h2, h3⟩ := hc
  have hz := h.f.keep.size
  obtain ⟨z2, z4, z5⟩ := h.b.lts
  refine ⟨V', ⟨⟨h.f.flo.keep h3 fun k hr hv => h.f.d1 k hv hr, h1, h.f.v2.keep h3 fun k hv hv1 => h.f.d12 k hv1 hv, fun k hk hr => ?_, h.f.d2, fun k hk hv2 => ?_, h.f.keep.step h3 h.f.u1, fun k hk => ?_, h.f.u2⟩, ?_⟩, h3, h2⟩
  · rcases h2 k hk with r | r
    · exact h.f.d1 k r hr
    · have := h.f.flo.lt k hr; omega
  · rcases h2 k hk with r | r
    · exact h.f.d12 k r hv2
    · have := h.f.v2.lt k hv2; omega
  · rcases h2 k hk with r | r
    · exact h.f.u1 k r
    · exact Or.inr (by omega)
  · have hb := h.b.keep h3 (fun k hr hv => h.f.d1 k hv hr) h.b.n1
    have key : ∀ p, p < w.heap.size → ¬ V1 p → ¬ V' p := fun p hp hn hv => by
      rcases h2 p hv with r | r
      · exact hn r
      · omega
    exact ⟨hb.h2, hb.h4, hb.h5, ⟨key _ z2 hb.n1.1, key _ z4 hb.n1.2.1, key _ z5 hb.n1.2.2⟩, hb.n2⟩
theorem EB2.come2 (h : EB2 d ws U w R V1 V2 p2 p4 p5 x l1 l2) (hc : CP V2 d.B2 d.A.length l2 l' w w') : ∃ V2', EB2 d ws U w' R V1 V2' p2 p4 p5 x l1 l' ∧ Keep V2 w w' ∧ ∀ k, V2' k → V2 k ∨ w.heap.size ≤ k := by
  obtain ⟨V', h1, h2, h3⟩ := hc
  have hz := h.f.keep.size
  obtain ⟨z2, z4, z5⟩ := h.b.lts
  refine ⟨V', ⟨⟨h.f.flo.keep h3 fun k hr hv => h.f.d2 k hv hr, h.f.v1.keep h3 fun k hv hv1 => h.f.d12 k hv hv1, h1, h.f.d1, fun k hk hr => ?_, fun k hv1 hk => ?_, h.f.keep.step h3 h.f.u2, h.f.u1, fun k hk => ?_⟩, ?_⟩, h3, h2⟩
  · rcases h2 k hk with r | r
    · exact h.f.d2 k r hr
    · have := h.f.flo.lt k hr; omega
  · rcases h2 k hk with r | r
    · exact h.f.d12 k hv1 r
    · have := h.f.v1.lt k hv1; omega
  · rcases h2 k hk with r | r
    · exact h.f.u2 k r
    · exact Or.inr (by omega)
  · have hb := h.b.keep h3 (fun k hr hv => h.f.d2 k hv hr) h.b.n2
    have key : ∀ p, p < w.heap.size → ¬ V2 p → ¬ V' p := fun p hp hn hv => by
      rcases h2 p hv with r | r
      · exact hn r
      · omega
    exact ⟨hb.h2, hb.h4, hb.h5, hb.n1, ⟨key _ z2 hb.n2.1, key _ z4 hb.n2.2.1, key _ z5 hb.n2.2.2⟩⟩
end
/-- All cells of a flow. -/
theorem Flo.cs {d : FD} {w : World} {R : Nat → Prop} (h : Flo d w R) : w.cell? ⟨d.fb, 0, none⟩ = some d.va ∧ w.cell? ⟨d.fb, 1, none⟩ = some (.map (some d.mb)) ∧ w.cell? ⟨d.fb, 2, none⟩ = some (.map (some d.eb)) ∧ w.cell? ⟨d.fb, 3, none⟩ = some (.int .i64 d.entry) ∧
    w.cell? ⟨d.fb, 4, none⟩ = some (.map d.so) ∧ w.cell? ⟨d.fb, 5, none⟩ = some (.pointer (some ⟨d.B1, 0, none⟩)) ∧ w.cell? ⟨d.fb, 6, none⟩ = some (.pointer (some ⟨d.B2, 0, none⟩)) := by
  refine ⟨?_, ?_, ?_, ?_, ?_, ?_, ?_⟩ <;> (rw [cell_of_row w d.fb _ _ 62 (0, 0) h.h]; rfl)
/-- What entering a node does. -/
def entL2 (n : Nat) (ex : Int → Bool) (l1 l2 : List Nat) (i : Int) : List Nat := if isNew n l1 i && !ex i then comeL n l2 i else l2
def Ent (d : FD) (ws : World) (U : Nat → Prop) (R : Nat → Prop) (p2 p4 p5 : Nat) (x : Int) (l1 l2 : List Nat) (w' : World) : Prop := ∃ V1 V2, EB2 d ws U w' R V1 V2 p2 p4 p5 x l1 l2
set_option maxHeartbeats 8000000 in
set_option maxRecDepth 100000 in
theorem enter_any (d : FD) (ws : World) (U R : Nat → Prop) (p2 p4 p5 : Nat) (x : Int) (l1 l2 : List Nat) (i : Int) (w : World) (h : Ent d ws U R p2 p4 p5 x l1 l2 w) :
    Calls Try.prog 50 #[.int .i64 i, .pointer (some ⟨p2, 0, none⟩), .pointer (some ⟨p4, 0, none⟩)] w fun e w' => e = .returned (.tuple #[]) ∧ Ent d ws U R p2 p4 p5 x (comeL d.A.length l1 i) (entL2 d.A.length (d.E x) l1 l2 i) w' ∧ Sts R w w' := by
  obtain ⟨V1, V2, hE⟩ := h
  have HE0 := Lib.hid hE
  have hF := hE.f
  have hB := hE.b
  have HF := Lib.hid hF
  have HB := Lib.hid hB
  obtain ⟨o, h5, h6, h7⟩ := hB.h4
  have c2 : w.cell? ⟨p2, 0, none⟩ = some (.pointer (some ⟨d.fb, 0, none⟩)) := by rw [cell_of_row w p2 0 _ 55 (0, 0) hB.h2]; rfl
  have c4 : w.cell? ⟨p4, 0, none⟩ = some (.map o) := by rw [cell_of_row w p4 0 _ 60 (0, 0) h5]; rfl
  have cf := hF.flo.cs.2.2.2.2.2.1
  have hsm := hF.flo.small
  have HS := Lib.hid h6
  have HO := Lib.hid h7
  clear hE hF hB h5 h6 h7
  cases hn : isNew d.A.length l1 i with
  | false =>
    have HN := Lib.hid hn
    have HE := Lib.hid (show entL2 d.A.length (d.E x) l1 l2 i = l2 by simp [entL2, hn])
    clear hn
    go_enter Try.func50, Try.ntmps50
    go_wp2_with (go_at_call 27; (with_reducible refine (come_any V1 d.B1 d.A.length l1 i _ hsm HF.out.v1).mono ?_); rintro e w1 ⟨rfl, h1⟩; rw [HN.out]; have HC := Lib.hid h1; clear h1)
    go_end0
    obtain ⟨V1', hE', hk, _⟩ := HE0.out.come1 HC.out
    rw [HE.out]
    exact ⟨rfl, ⟨V1', V2, hE'⟩, fun b o v hb hv => hk.cell (fun e => HF.out.d1 b e hb) hv⟩
  | true =>
    have HN := Lib.hid hn
    have hn' := hn
    simp only [isNew, decide_eq_true_eq] at hn'
    have HKI := Lib.hid (show Key i from Key.mk (by omega) (by omega))
    clear hn'
    cases hx : d.E x i with
    | true =>
      have HE := Lib.hid (show entL2 d.A.length (d.E x) l1 l2 i = l2 by simp [entL2, hx])
      have HX := Lib.hid hx
      clear hn hx
      go_enter Try.func50, Try.ntmps50
      go_wp2_with (first | (go_at_call 27; (with_reducible refine (come_any V1 d.B1 d.A.length l1 i _ hsm HF.out.v1).mono ?_); rintro e w1 ⟨rfl, h1⟩; rw [HN.out]; have HC := Lib.hid h1; clear h1; obtain ⟨V1', hE', hk, _⟩ := HE0.out.come1 HC.out; have HE1 := Lib.hid hE'; have HK1 := Lib.hid hk; have d4 := hk.cell HB.out.n1.2.1 c4; clear hE' hk) | (go_at_call 51; (refine (setHas_any o 1000 _ i _ HKI.out (HS.out.keep HK1.out fun b e hv => HF.out.d1 b hv (HO.out b e))).mono ?_); rintro e w2 ⟨rfl, h2⟩; rw [HX.out]; have H2 := Lib.hid h2; clear h2))
      go_end0
      rw [HE.out]
      exact ⟨rfl, ⟨V1', V2, HE1.out.fresh H2.out⟩, Sts.trans (fun b o v hb hv => HK1.out.cell (fun e => HF.out.d1 b e hb) hv) (H2.out.sts R)⟩
    | false =>
      have HE := Lib.hid (show entL2 d.A.length (d.E x) l1 l2 i = comeL d.A.length l2 i by simp [entL2, hx, hn])
      have HX := Lib.hid hx
      clear hn hx
      go_enter Try.func50, Try.ntmps50
      go_upto_region 1 with (first | (go_at_call 27; (with_reducible refine (come_any V1 d.B1 d.A.length l1 i _ hsm HF.out.v1).mono ?_); rintro e w1 ⟨rfl, h1⟩; rw [HN.out]; have HC := Lib.hid h1; clear h1; obtain ⟨V1', hE', hk, _⟩ := HE0.out.come1 HC.out; have HE1 := Lib.hid hE'; have HK1 := Lib.hid hk; have d4 := hk.cell HB.out.n1.2.1 c4; clear hE' hk) | (go_at_call 51; (refine (setHas_any o 1000 _ i _ HKI.out (HS.out.keep HK1.out fun b e hv => HF.out.d1 b hv (HO.out b e))).mono ?_); rintro e w2 ⟨rfl, h2⟩; rw [HX.out]; have H2 := Lib.hid h2; clear h2))
      have HE2 := Lib.hid (HE1.out.fresh H2.out)
      have e2 : w2.cell? ⟨p2, 0, none⟩ = some (.pointer (some ⟨d.fb, 0, none⟩)) := by rw [cell_of_row w2 p2 0 _ 55 (0, 0) HE2.out.b.h2]; rfl
      have ef := HE2.out.f.flo.cs.2.2.2.2.2.2
      clear c2 c4 cf d4
      go_wp2_with (go_at_call 27; (with_reducible refine (come_any V2 d.B2 d.A.length l2 i _ hsm HE2.out.f.v2).mono ?_); rintro e w3 ⟨rfl, h3⟩; have HC3 := Lib.hid h3; clear h3)
      go_end0
      obtain ⟨V2', hE', hk, _⟩ := HE2.out.come2 HC3.out
      rw [HE.out]
      exact ⟨rfl, ⟨V1', V2', hE'⟩, Sts.trans (Sts.trans (fun b o v hb hv => HK1.out.cell (fun e => HF.out.d1 b e hb) hv) (H2.out.sts R)) fun b o v hb hv => hk.cell (fun e => HE2.out.f.d2 b e hb) hv⟩
end Go.Proofs.Ytlmlgdojmcmllaa
