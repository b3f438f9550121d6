/- A layout with one member more: the walk. -/
import Derived.Test.YteiomcbphbbpkaaGreatDoorCu
import Derived.Deep.RegionLaw
import Derived.Deep.AppendLies
import Derived.Deep.DeepCutAuto
namespace Go.Proofs.YteiomcbphbbpkaaGreatDoor
set_option linter.unusedSimpArgs false
set_option linter.unusedVariables false
open Go.RowKit

theorem Blk.grown {w w' : World} {row : Option Nat} {b : Nat} {vs : List Value} (h : Blk w b vs) (hg : w.grownBy w' row) (hne : some b ≠ row) : Blk w' b vs := by
  have hk := hg.block b h.2.2 hne
  exact ⟨fun i v hv => (World.cell?_of_block hk).trans (h.1 i v hv), fun o => (World.frozen?_of_block hk).trans (h.2.1 o), Nat.lt_of_lt_of_le h.2.2 hg.size⟩
/-- The boxes of the walk. -/
structure WB (w X : World) (nm : ByteArray) (un : Bool) (fp : Option Addr) (fn fc : Nat) (sz al : Int) (mn : ByteArray) (h : Hd) (p : Option Addr) (n cap : Nat) (o0 : Int) : Prop where
  fr : Fresh w X
  lo : w.heap.size + 3 ≤ X.heap.size
  l : Blk X w.heap.size [.string nm, .bool un, .slice fp fn fc, .int .i64 sz, .int .i64 al]
  f : Blk X (w.heap.size + 1) [.string mn, .int .i64 h.kind, .int .i64 h.size, .int .i64 h.len, .bool h.flag, .string h.name, .slice p n cap, .int .i64 o0]
  r : Blk X (w.heap.size + 1 + 1) [.string ⟨#[]⟩, .bool false, .slice none 0 0, .int .i64 0, .int .i64 0]
theorem WB.later {w X Y : World} {nm : ByteArray} {un : Bool} {fp : Option Addr} {fn fc : Nat} {sz al : Int} {mn : ByteArray} {h : Hd} {p : Option Addr} {n cap : Nat} {o0 : Int} (b : WB w X nm un fp fn fc sz al mn h p n cap o0) (hf : Fresh X Y) : WB w Y nm un fp fn fc sz al mn h p n cap o0 :=
  ⟨b.fr.trans hf, Nat.le_trans b.lo hf.size, b.l.fresh hf, b.f.fresh hf, b.r.fresh hf⟩
theorem WB.new (w : World) (nm : ByteArray) (un : Bool) (fp : Option Addr) (fn fc : Nat) (sz al : Int) (mn : ByteArray) (h : Hd) (p : Option Addr) (n cap : Nat) (o0 : Int) : WB w (((w.alloc (.cells #[.string nm, .bool un, .slice fp fn fc, .int .i64 sz, .int .i64 al] 48)).alloc (.cells #[.string mn, .int .i64 h.kind, .int .i64 h.size, .int .i64 h.len, .bool h.flag, .string h.name, .slice p n cap, .int .i64 o0] 43)).alloc (.cells #[.string ⟨#[]⟩, .bool false, .slice none 0 0, .int .i64 0, .int .i64 0] 48)) nm un fp fn fc sz al mn h p n cap o0 := by
  refine ⟨(by (repeat' first | with_reducible exact Fresh.refl _ | with_reducible assumption | with_reducible refine Fresh.alloc ?_ _ _ | with_reducible refine Fresh.drew ?_ | with_reducible refine Fresh.drewN ?_ _ | with_reducible refine Fresh.setCell ?_ ?_ _ | with_reducible refine Fresh.trans ?_ (by assumption) | (simp; done) | (simp; omega))), by simp, ?_, ?_, ?_⟩
  · exact ((Blk.new w #[.string nm, .bool un, .slice fp fn fc, .int .i64 sz, .int .i64 al] 48).fresh ((Fresh.refl _).alloc _ _)).fresh ((Fresh.refl _).alloc _ _)
  · have := (Blk.new (w.alloc (.cells #[.string nm, .bool un, .slice fp fn fc, .int .i64 sz, .int .i64 al] 48)) #[.string mn, .int .i64 h.kind, .int .i64 h.size, .int .i64 h.len, .bool h.flag, .string h.name, .slice p n cap, .int .i64 o0] 43).fresh ((Fresh.refl _).alloc #[.string ⟨#[]⟩, .bool false, .slice none 0 0, .int .i64 0, .int .i64 0] 48)
    simpa only [World.size_alloc] using this
  · have := Blk.new ((w.alloc (.cells #[.string nm, .bool un, .slice fp fn fc, .int .i64 sz, .int .i64 al] 48)).alloc (.cells #[.string mn, .int .i64 h.kind, .int .i64 h.size, .int .i64 h.len, .bool h.flag, .string h.name, .slice p n cap, .int .i64 o0] 43)) #[.string ⟨#[]⟩, .bool false, .slice none 0 0, .int .i64 0, .int .i64 0] 48
    simpa only [World.size_alloc] using this
/-- What the walk loads out of them. -/
structure WC (w X : World) (un : Bool) (fp : Option Addr) (fn fc : Nat) (sz al : Int) (mn : ByteArray) (h : Hd) (p : Option Addr) (n cap : Nat) : Prop where
  l2 : X.cell? ⟨w.heap.size, 2, none⟩ = some (.slice fp fn fc)
  f0 : X.cell? ⟨w.heap.size + 1, 0, none⟩ = some (.string mn)
  f1 : X.cell? ⟨w.heap.size + 1, 1, none⟩ = some (.int .i64 h.kind)
  f2 : X.cell? ⟨w.heap.size + 1, 2, none⟩ = some (.int .i64 h.size)
  f3 : X.cell? ⟨w.heap.size + 1, 3, none⟩ = some (.int .i64 h.len)
  f4 : X.cell? ⟨w.heap.size + 1, 4, none⟩ = some (.bool h.flag)
  f5 : X.cell? ⟨w.heap.size + 1, 5, none⟩ = some (.string h.name)
  f6 : X.cell? ⟨w.heap.size + 1, 6, none⟩ = some (.slice p n cap)
theorem WB.wc {w X : World} {nm : ByteArray} {un : Bool} {fp : Option Addr} {fn fc : Nat} {sz al : Int} {mn : ByteArray} {h : Hd} {p : Option Addr} {n cap : Nat} {o0 : Int} (b : WB w X nm un fp fn fc sz al mn h p n cap o0) : WC w X un fp fn fc sz al mn h p n cap :=
  ⟨b.l.1 2 _ rfl, b.f.1 0 _ rfl, b.f.1 1 _ rfl, b.f.1 2 _ rfl, b.f.1 3 _ rfl, b.f.1 4 _ rfl, b.f.1 5 _ rfl, b.f.1 6 _ rfl⟩
theorem grown_new {w X : World} {row : Option Nat} (h : w.grownBy X row) {g : Nat} (hg : w.heap.size ≤ g) (i : Nat) (u : Value) : w.grownBy (X.setCell ⟨g, i, none⟩ u) row :=
  ⟨h.os, h.tape, h.output, by simpa [World.setCell] using h.size, fun k hk hne => (Below.heap_setCell X ⟨g, i, none⟩ u k (by show k ≠ g; omega)).trans (h.block k hk hne)⟩
theorem grown_trans {w X Y : World} {row : Option Nat} (h : Fresh w X) (g : X.grownBy Y row) : w.grownBy Y row :=
  ⟨g.os.trans h.below.os, g.tape.trans h.below.tape, g.output.trans h.below.output, Nat.le_trans h.size g.size, fun k hk hne => (g.block k (Nat.lt_of_lt_of_le hk h.size) hne).trans (h.below.block k hk)⟩
/-- Behind the append, ahead of the store of its slice. -/
structure Mid (w w3 : World) (nm : ByteArray) (un : Bool) (v : Value) (sz al : Int) (mn : ByteArray) (h : Hd) (ks : Tys) (base fn : Nat) (xs : List Value) (M : Int) (g c2 n2 c3 : Nat) (p2 : Option Addr) : Prop where
  l : Blk w3 w.heap.size [.string nm, .bool un, v, .int .i64 sz, .int .i64 al]
  r : Blk w3 (w.heap.size + 1 + 1) [.string ⟨#[]⟩, .bool false, .slice none 0 0, .int .i64 0, .int .i64 0]
  own : w3.ownsRow base 43 8 (.slice (some ⟨g, 0, none⟩) (fn + 1) c2) (fn + 1) (xs ++ [.string mn, .int .i64 h.kind, .int .i64 h.size, .int .i64 h.len, .bool h.flag, .string h.name, .slice p2 n2 c3, .int .i64 M])
  kid : Kids (fun b => w.heap.size + 3 ≤ b ∧ b ≠ g) w3 ks p2 n2 c3
  gr : w.grownBy w3 v.ownBlock
  at' : v.ownBlock = some g ∨ w.heap.size + 3 ≤ g
  lt : g < w.heap.size ∨ w.heap.size + 3 ≤ g
theorem Mid.mk' {w X w3 : World} {nm : ByteArray} {un : Bool} {v : Value} {sz al : Int} {mn : ByteArray} {h : Hd} {ks : Tys} {base fn n : Nat} {xs : List Value} {M : Int} {g c2 n2 c3 : Nat} {p2 : Option Addr}
    (hown : w.ownsRow base 43 8 v n xs) (hf : Fresh w X) (lo : w.heap.size + 3 ≤ X.heap.size) (l : Blk X w.heap.size [.string nm, .bool un, v, .int .i64 sz, .int .i64 al]) (r : Blk X (w.heap.size + 1 + 1) [.string ⟨#[]⟩, .bool false, .slice none 0 0, .int .i64 0, .int .i64 0])
    (own : w3.ownsRow base 43 8 (.slice (some ⟨g, 0, none⟩) (fn + 1) c2) (fn + 1) (xs ++ [.string mn, .int .i64 h.kind, .int .i64 h.size, .int .i64 h.len, .bool h.flag, .string h.name, .slice p2 n2 c3, .int .i64 M]))
    (kid : Kids (fun b => w.heap.size + 3 ≤ b) X ks p2 n2 c3) (hg : X.grownBy w3 v.ownBlock) (hat : v.ownBlock = some g ∨ g = X.heap.size) : Mid w w3 nm un v sz al mn h ks base fn xs M g c2 n2 c3 p2 := by
  have hlt := hown.lt
  have hgl : g < w.heap.size ∨ w.heap.size + 3 ≤ g := by
    rcases hat with e | e
    · exact Or.inl (hlt g e).2
    · exact Or.inr (by omega)
  refine ⟨l.grown hg (fun e => by have := (hlt _ e.symm).2; omega), r.grown hg (fun e => by have := (hlt _ e.symm).2; omega), own, kid.turn (fun B i u hB hu => hg.cell (a := ⟨B, i, none⟩) hu (fun e => by have h1 : B < w.heap.size := (hlt B e.symm).2; have h2 : w.heap.size + 3 ≤ B := hB; omega)) (fun B hB hb => ⟨hb, fun e => ?_⟩), grown_trans hf hg, hat.imp id (fun e => by omega), hgl⟩
  subst e
  rcases hat with e | e
  · have := (hlt _ e).2
    omega
  · omega
/-- What is left behind: the layout with one member more, in a row of the call's own. -/
def WM (w : World) (nm : ByteArray) (un : Bool) (fp : Option Addr) (fn fc : Nat) (sz al : Int) (mn : ByteArray) (h : Hd) (ks : Tys) (base : Nat) (xs : List Value) (M s a : Int) (e : Ending) (w' : World) : Prop :=
  ∃ g c2 p2 n2 c3, e = .returned (.agg #[.string nm, .bool un, .slice (some ⟨g, 0, none⟩) (fn + 1) c2, .int .i64 (max sz (M + s)), .int .i64 (max al a)]) ∧
    w'.ownsRow base 43 8 (.slice (some ⟨g, 0, none⟩) (fn + 1) c2) (fn + 1) (xs ++ [.string mn, .int .i64 h.kind, .int .i64 h.size, .int .i64 h.len, .bool h.flag, .string h.name, .slice p2 n2 c3, .int .i64 M]) ∧
    Kids (fun b => w.heap.size ≤ b ∧ b ≠ g) w' ks p2 n2 c3 ∧ w.grownBy w' (Value.slice fp fn fc).ownBlock ∧ ((Value.slice fp fn fc).ownBlock = some g ∨ w.heap.size ≤ g)
theorem Mid.done {w w3 : World} {nm : ByteArray} {un : Bool} {fp : Option Addr} {fn fc : Nat} {sz al : Int} {mn : ByteArray} {h : Hd} {ks : Tys} {base : Nat} {xs : List Value} {M s a : Int} {g c2 n2 c3 : Nat} {p2 : Option Addr} (m : Mid w w3 nm un (.slice fp fn fc) sz al mn h ks base fn xs M g c2 n2 c3 p2) (A B : Int) (hA : A = max sz (M + s)) (hB : B = max al a)
    (u2 u3 u4 r0 r1 r2 r3 r4 : Value) : WM w nm un fp fn fc sz al mn h ks base xs M s a (.returned (.agg #[.string nm, .bool un, .slice (some ⟨g, 0, none⟩) (fn + 1) c2, .int .i64 A, .int .i64 B]))
    ((((((((w3.setCell ⟨w.heap.size, 2, none⟩ u2).setCell ⟨w.heap.size, 3, none⟩ u3).setCell ⟨w.heap.size, 4, none⟩ u4).setCell ⟨w.heap.size + 1 + 1, 0, none⟩ r0).setCell ⟨w.heap.size + 1 + 1, 1, none⟩ r1).setCell ⟨w.heap.size + 1 + 1, 2, none⟩ r2).setCell ⟨w.heap.size + 1 + 1, 3, none⟩ r3).setCell ⟨w.heap.size + 1 + 1, 4, none⟩ r4) := by
  subst hA hB
  have hne : ∀ b, (b = w.heap.size ∨ b = w.heap.size + 1 + 1) → (Value.slice (some ⟨g, 0, none⟩) (fn + 1) c2).ownBlock ≠ some b := fun b hb e => by
    have e' : g = b := by simpa [Value.ownBlock] using e
    have := m.lt
    omega
  have n0 := hne _ (Or.inl rfl)
  have n2' := hne _ (Or.inr rfl)
  have k0 : ¬ (fun b => w.heap.size + 3 ≤ b ∧ b ≠ g) w.heap.size := fun e => by have := e.1; omega
  have k2 : ¬ (fun b => w.heap.size + 3 ≤ b ∧ b ≠ g) (w.heap.size + 1 + 1) := fun e => by have := e.1; omega
  refine ⟨g, c2, p2, n2, c3, rfl, ?_, Kids.mono (ok := fun b => w.heap.size + 3 ≤ b ∧ b ≠ g) ?_ (fun b _ hb => ⟨by have := hb.1; omega, hb.2⟩), ?_, m.at'.imp id (fun h => by omega)⟩
  · exact own_set (own_set (own_set (own_set (own_set (own_set (own_set (own_set m.own n0 _ _) n0 _ _) n0 _ _) n2' _ _) n2' _ _) n2' _ _) n2' _ _) n2' _ _
  · exact (((((((m.kid.set k0 _ _).set k0 _ _).set k0 _ _).set k2 _ _).set k2 _ _).set k2 _ _).set k2 _ _).set k2 _ _
  · exact grown_new (grown_new (grown_new (grown_new (grown_new (grown_new (grown_new (grown_new m.gr (by omega) _ _) (by omega) _ _) (by omega) _ _) (by omega) _ _) (by omega) _ _) (by omega) _ _) (by omega) _ _) (by omega) _ _
set_option maxRecDepth 100000 in
set_option maxHeartbeats 8000000 in
theorem withMember_f {ok : Nat → Prop} (nm : ByteArray) (un : Bool) (fp : Option Addr) (fn fc : Nat) (sz al : Int) (mn : ByteArray) (h : Hd) (ks : Tys) (p : Option Addr) (n cap : Nat) (o0 s a : Int) (w0 w : World) (base : Nat) (xs : List Value) (hu : un = false)
    (hf : Fresh w0 w) (hk : Kids ok w0 ks p n cap) (hs : ks.small ∧ ks.length ≤ 9) (hown : w.ownsRow base 43 8 (.slice fp fn fc) fn xs) (hb : base ≤ w.heap.size) (hfn : fn ≤ 1000)
    (s0 : 0 ≤ s) (s1 : s ≤ 1048576) (a0 : 1 ≤ a) (a1 : a ≤ 8) (z0 : 0 ≤ sz) (z1 : sz ≤ 1099511627776) (l0 : 0 ≤ al) (l1 : al ≤ 8) :
    Calls Tryz.prog 30 #[.agg #[.string nm, .bool un, .slice fp fn fc, .int .i64 sz, .int .i64 al], .agg #[.string mn, .int .i64 h.kind, .int .i64 h.size, .int .i64 h.len, .bool h.flag, .string h.name, .slice p n cap, .int .i64 o0], .int .i64 s, .int .i64 a] w (WM w nm un fp fn fc sz al mn h ks base xs (if un then 0 else mul sz a) s a) := by
  obtain ⟨i0, hi0, hz0, hz1, hz2⟩ := info_parts info43
  have HF := Lib.hid hf
  have HK := Lib.hid hk
  have HS := Lib.hid hs
  have HO := Lib.hid hown
  have HMB := Lib.hid (mul_bd sz a z0 a0)
  clear hf hk hs hown
  have X0 := Lib.hid (WB.new w nm un fp fn fc sz al mn h p n cap o0)
  have HN0 : Hid (some w.heap.size ≠ (Value.slice fp fn fc).ownBlock) := Lib.hid (fun e => by have := (HO.out.lt _ e.symm).2; omega)
  have HN2 : Hid (some (w.heap.size + 1 + 1) ≠ (Value.slice fp fn fc).ownBlock) := Lib.hid (fun e => by have := (HO.out.lt _ e.symm).2; omega)
  subst hu
  · go_enter Tryz.func30, Tryz.ntmps30
    go_wp2_with fail
    go_at_call 31; refine (multiple_any sz a z0 z1 a0 a1 _).mono ?_; rintro e w1 ⟨rfl, h1⟩
    have X1 := Lib.hid (X0.out.later h1)
    clear h1
    simp only [Bool.false_eq_true, if_false]
    generalize hM : mul sz a = M at *
    go_upto_region 4 with fail
    go_cut [9] (fun s9 wx => s9 = .int .i64 M ∧ Hid (∃ g c2 n2 c3 p2 w3, wx = w3.setCell ⟨w.heap.size, 2, none⟩ (.slice (some ⟨g, 0, none⟩) (fn + 1) c2) ∧ Mid w w3 nm false (.slice fp fn fc) sz al mn h ks base fn xs M g c2 n2 c3 p2))
    case first =>
      obtain ⟨l2, f0, f1, f2, f3, f4, f5, f6⟩ := X1.out.wc
      have lz := cell_lt l2
      have fz := cell_lt f0
      simp only at lz fz
      go_region_law (first | (go_simp; go_at_call 42; (refine (copied_any h ks p n cap w0 _ (HF.out.trans (X1.out.fr.trans ((Fresh.refl _).drew))) HK.out HS.out.1 HS.out.2).mono ?_); rintro e w2 ⟨⟨p2, n2, c3, rfl, hk2⟩, h2⟩; have X2 := Lib.hid (X1.out.later (((Fresh.refl _).drew).trans h2)); have HK2 := Lib.hid hk2; have H2 := Lib.hid h2; clear hk2 h2 l2 f0 f1 f2 f3 f4 f5 f6 lz fz; obtain ⟨l2, f0, f1, f2, f3, f4, f5, f6⟩ := X2.out.wc; have lz := cell_lt l2; have fz := cell_lt f0; simp only at lz fz; have HO2 := Lib.hid (X2.out.fr.own HO.out)) | (refine step_append_lies _ (by rfl) (.tmp 18) (.tmp 26) 46 (by rfl) base 43 i0 (.agg #[.string ⟨#[]⟩, .int .i64 0, .int .i64 0, .int .i64 0, .bool false, .string ⟨#[]⟩, .slice none 0 0, .int .i64 0]) 8 96 Tryz.underlying46 hi0 hz0 hz1 hz2 rfl (by decide) (.slice fp fn fc) fn xs (by rfl) (HO2.out.alloc _) ⟨w2.heap.size, 0, none⟩ 1 1 [.string mn, .int .i64 h.kind, .int .i64 h.size, .int .i64 h.len, .bool h.flag, .string h.name, .slice p2 n2 c3, .int .i64 M] (by rfl) (by rfl) (World.news_of_block (cs := #[.string mn, .int .i64 h.kind, .int .i64 h.size, .int .i64 h.len, .bool h.flag, .string h.name, .slice p2 n2 c3, .int .i64 M]) (t := 43) (fr := (0, 0)) (heap_alloc_new w2 _)) (by simp [Value.oneCell']) (by decide) (by unfold maxLen; omega) (by omega) (by have := X2.out.fr.size; simp; omega) (w2.heap.size + 1) (by simp) ?_; intro g c2 w3 hown3 hgrow hat hlt; have hlt' := hlt; have MD := Lib.hid (Mid.mk' HO.out (X2.out.fr.trans ((Fresh.refl _).alloc #[.string mn, .int .i64 h.kind, .int .i64 h.size, .int .i64 h.len, .bool h.flag, .string h.name, .slice p2 n2 c3, .int .i64 M] 43)) (by have := X2.out.lo; simp; omega) (X2.out.l.fresh ((Fresh.refl _).alloc #[.string mn, .int .i64 h.kind, .int .i64 h.size, .int .i64 h.len, .bool h.flag, .string h.name, .slice p2 n2 c3, .int .i64 M] 43)) (X2.out.r.fresh ((Fresh.refl _).alloc #[.string mn, .int .i64 h.kind, .int .i64 h.size, .int .i64 h.len, .bool h.flag, .string h.name, .slice p2 n2 c3, .int .i64 M] 43)) hown3 ((HK2.out.mono (ok' := fun b => w.heap.size + 3 ≤ b) (fun b _ hb => by have := X1.out.lo; simp at hb; omega)).later ((Fresh.refl _).alloc #[.string mn, .int .i64 h.kind, .int .i64 h.size, .int .i64 h.len, .bool h.flag, .string h.name, .slice p2 n2 c3, .int .i64 M] 43)) hgrow (by simpa using hat)); have XL := MD.out.l; clear l2 f0 f1 f2 f3 f4 f5 f6 lz fz; have x0 := (XL).1 0 _ rfl; have x1 := (XL).1 1 _ rfl; have x2 := (XL).1 2 _ rfl; have x3 := (XL).1 3 _ rfl; have x4 := (XL).1 4 _ rfl; have xf := (XL).2.1; have xz := (XL).2.2; clear XL hown3 hgrow hat hlt hlt'))
      all_goals (go_wp2_with fail; go_meet)
      all_goals exact ⟨rfl, Lib.hid ⟨_, _, _, _, _, _, rfl, MD.out⟩⟩
    case rest =>
      obtain ⟨rfl, HM⟩ := hcut
      obtain ⟨g, c2, n2, c3, p2, w3, rfl, hm⟩ := HM.out
      have yl := hm.l
      have yr := hm.r
      have x0 := (yl).1 0 _ rfl; have x1 := (yl).1 1 _ rfl; have x2 := (yl).1 2 _ rfl; have x3 := (yl).1 3 _ rfl; have x4 := (yl).1 4 _ rfl; have xf := (yl).2.1; have xz := (yl).2.2
      have r0 := (yr).1 0 _ rfl; have r1 := (yr).1 1 _ rfl; have r2 := (yr).1 2 _ rfl; have r3 := (yr).1 3 _ rfl; have r4 := (yr).1 4 _ rfl; have rf := (yr).2.1; have rz := (yr).2.2
      have HMD := Lib.hid hm
      have HE : Hid (mul sz a = M) := Lib.hid hM
      have hb1 := HMB.out
      clear yl yr hm HM hM HMB
      go_wp2_with fail
      all_goals refine bodyPost_ret (v := ?_) ?_ rfl ?_; rotate_left 1; focus (simp [results, Tryz.results30, go_sem, *]; (try rfl); done)
      all_goals exact HMD.out.done _ _ (by omega) (by omega) _ _ _ _ _ _ _ _
end Go.Proofs.YteiomcbphbbpkaaGreatDoor
