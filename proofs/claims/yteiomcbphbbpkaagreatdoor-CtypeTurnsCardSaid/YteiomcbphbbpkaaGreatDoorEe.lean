/- Find: a row of members of its own, their types copied. -/
import Derived.Test.YteiomcbphbbpkaaGreatDoorCz
namespace Go.Proofs.YteiomcbphbbpkaaGreatDoor
set_option linter.unusedSimpArgs false
set_option linter.unusedVariables false
open Go.RowKit

def okf (F : Nat) (v : Value) (b : Nat) : Prop := F + 1 ≤ b ∧ v.ownBlock ≠ some b
@[reducible] def set6b (w : World) (g k : Nat) (u0 u1 u2 u3 u4 u5 : Value) : World := (((((w.setCell ⟨g, k + 1, none⟩ u0).setCell ⟨g, k + 2, none⟩ u1).setCell ⟨g, k + 3, none⟩ u2).setCell ⟨g, k + 4, none⟩ u3).setCell ⟨g, k + 5, none⟩ u4).setCell ⟨g, k + 6, none⟩ u5
theorem Fcells.off {ok : Nat → Prop} {w w' : World} {g : Nat} {a : List Fd} {xs : List Value} (h : Fcells ok w a xs) (ho : w.grownBy w' (some g)) (hg : ¬ ok g) : Fcells ok w' a xs :=
  h.turn (fun B k u hB hu => by rw [← hu]; exact World.cell?_of_block (ho.block B (cell_lt hu) (fun e => hg (by rw [← Option.some.inj e]; exact hB)))) (fun _ _ h => h)
/-- What stands at the head of a round. -/
structure FV (ok : Nat → Prop) (w0 w X : World) (F : Nat) (l : La) (v : Value) (n : Nat) (done rest : List Fd) (ys zs : List Value) : Prop where
  fr : Fresh w X
  lo : F + 1 ≤ X.heap.size
  r : Blk X w.heap.size [.string ⟨#[]⟩, .bool false, .slice none 0 0, .int .i64 0, .int .i64 0]
  l : Blk X F [.string l.nm, .bool l.un, v, .int .i64 l.sz, .int .i64 l.al]
  own : X.ownsRow (F + 1) 43 8 v n (ys ++ zs)
  dn : Fcells (okf F v) X done ys
  rs : Fcells ok w0 rest zs
theorem FV.later {ok : Nat → Prop} {w0 w X Y : World} {F : Nat} {l : La} {v : Value} {n : Nat} {done rest : List Fd} {ys zs : List Value} (c : FV ok w0 w X F l v n done rest ys zs) (hf : Fresh X Y) : FV ok w0 w Y F l v n done rest ys zs :=
  ⟨c.fr.trans hf, Nat.le_trans c.lo hf.size, c.r.fresh hf, c.l.fresh hf, hf.own c.own, c.dn.later hf, c.rs⟩
theorem FV.step {ok : Nat → Prop} {w0 w X : World} {F : Nat} {l : La} {g n cap : Nat} {done ra : List Fd} {x : Fd} {ys zs : List Value} {p0 p1 : Option Addr} {n0 c0 n1 c1 : Nat} (hwF : w.heap.size < F) (c : FV ok w0 w X F l (.slice (some ⟨g, 0, none⟩) n cap) n done (x :: ra) ys (.string x.nm :: .int .i64 x.h.kind :: .int .i64 x.h.size :: .int .i64 x.h.len :: .bool x.h.flag :: .string x.h.name :: .slice p0 n0 c0 :: .int .i64 x.off :: zs)) (hr : Fcells ok w0 ra zs) (hk : Kids (okf F (.slice (some ⟨g, 0, none⟩) n cap)) X x.ks p1 n1 c1) :
    FV ok w0 w (set6b X g (done.length * 8) (.int .i64 x.h.kind) (.int .i64 x.h.size) (.int .i64 x.h.len) (.bool x.h.flag) (.string x.h.name) (.slice p1 n1 c1)) F l (.slice (some ⟨g, 0, none⟩) n cap) n (done ++ [x]) ra (ys ++ [.string x.nm, .int .i64 x.h.kind, .int .i64 x.h.size, .int .i64 x.h.len, .bool x.h.flag, .string x.h.name, .slice p1 n1 c1, .int .i64 x.off]) zs := by
  have hg := (c.own.lt g rfl).1
  have ho : X.grownBy (set6b X g (done.length * 8) (.int .i64 x.h.kind) (.int .i64 x.h.size) (.int .i64 x.h.len) (.bool x.h.flag) (.string x.h.name) (.slice p1 n1 c1)) (some g) := off6o X g (done.length * 8 + 1) _ _ _ _ _ _
  have hn : ¬ okf F (.slice (some ⟨g, 0, none⟩) n cap) g := fun e => e.2 rfl
  refine ⟨c.fr.off ho (by have := c.fr.size; omega), by have := ho.size; have := c.lo; omega, c.r.grown ho (fun e => by have := Option.some.inj e; omega), c.l.grown ho (fun e => by have := Option.some.inj e; omega), ?_, (c.dn.off ho hn).append ⟨p1, n1, c1, [], rfl, hk.off ho hn, rfl⟩, hr⟩
  have hown := c.own
  have hl := c.dn.length
  have h2 : X.ownsRow (F + 1) 43 8 (.slice (some ⟨g, 0, none⟩) n cap) n ((ys ++ [.string x.nm]) ++ .int .i64 x.h.kind :: .int .i64 x.h.size :: .int .i64 x.h.len :: .bool x.h.flag :: .string x.h.name :: .slice p0 n0 c0 :: (.int .i64 x.off :: zs)) := by simpa only [List.append_assoc, List.singleton_append, List.cons_append, List.nil_append] using hown
  have := own_six h2 (k := done.length * 8 + 1) (by simp [hl]) (.int .i64 x.h.kind) (.int .i64 x.h.size) (.int .i64 x.h.len) (.bool x.h.flag) (.string x.h.name) (.slice p1 n1 c1)
  simpa only [List.append_assoc, List.cons_append, List.nil_append] using this
/-- Eight cells of a row of the call's own. -/
theorem own_c8 {w : World} {base g n cap : Nat} {e : TypeId} {size k : Nat} {ys zs : List Value} {x x0 x1 x2 x3 x4 x5 x6 : Value} (h : w.ownsRow base e size (.slice (some ⟨g, 0, none⟩) n cap) n (ys ++ x :: x0 :: x1 :: x2 :: x3 :: x4 :: x5 :: x6 :: zs)) (hk : ys.length = k) :
    w.cell? ⟨g, k, none⟩ = some x ∧ w.cell? ⟨g, k + 1, none⟩ = some x0 ∧ w.cell? ⟨g, k + 2, none⟩ = some x1 ∧ w.cell? ⟨g, k + 3, none⟩ = some x2 ∧ w.cell? ⟨g, k + 4, none⟩ = some x3 ∧ w.cell? ⟨g, k + 5, none⟩ = some x4 ∧ w.cell? ⟨g, k + 6, none⟩ = some x5 ∧ w.cell? ⟨g, k + 7, none⟩ = some x6 ∧ ∀ o, w.frozen? ⟨g, o, none⟩ = false := by
  have hl := h.1
  simp at hl
  subst hk
  refine ⟨?_, ?_, ?_, ?_, ?_, ?_, ?_, ?_, fun o => h.frozenAt o⟩
  all_goals (rw [h.cellAt _ (by omega), List.getElem?_append_right (by omega)]; simp)
/-- What the region reads. -/
structure K7 (w : World) (F b : Nat) (v v1 v2 v3 v4 v5 v6 : Value) : Prop where
  c0 : w.cell? ⟨F, 2, none⟩ = some v
  c1 : w.cell? ⟨b, 1, none⟩ = some v1
  c2 : w.cell? ⟨b, 2, none⟩ = some v2
  c3 : w.cell? ⟨b, 3, none⟩ = some v3
  c4 : w.cell? ⟨b, 4, none⟩ = some v4
  c5 : w.cell? ⟨b, 5, none⟩ = some v5
  c6 : w.cell? ⟨b, 6, none⟩ = some v6
theorem K7.later {w w' : World} {F b : Nat} {v v1 v2 v3 v4 v5 v6 : Value} (h : K7 w F b v v1 v2 v3 v4 v5 v6) (hf : Fresh w w') : K7 w' F b v v1 v2 v3 v4 v5 v6 :=
  ⟨hf.at' h.c0, hf.at' h.c1, hf.at' h.c2, hf.at' h.c3, hf.at' h.c4, hf.at' h.c5, hf.at' h.c6⟩
def FindR (ok : Nat → Prop) (f : Nat → La) (fd : Nat → List Fd) (kn : Nat) (nm : ByteArray) (w : World) (e : Ending) (w' : World) : Prop :=
  (((∀ j, j < kn → ((f j).nm.toList == nm.toList) = false) ∧ e = .returned (.tuple #[.agg #[.string ⟨#[]⟩, .bool false, .slice none 0 0, .int .i64 0, .int .i64 0], .bool false])) ∨
    ∃ i F fp fc xs, i < kn ∧ ((f i).nm.toList == nm.toList) = true ∧ (∀ j, j < i → ((f j).nm.toList == nm.toList) = false) ∧ w.heap.size < F ∧ e = .returned (.tuple #[.agg #[.string (f i).nm, .bool (f i).un, .slice fp (f i).n fc, .int .i64 (f i).sz, .int .i64 (f i).al], .bool true]) ∧
      w'.ownsRow (F + 1) 43 8 (.slice fp (f i).n fc) (f i).n xs ∧ Fcells (okf F (.slice fp (f i).n fc)) w' (fd i) xs) ∧ Fresh w w'
set_option maxRecDepth 100000 in
set_option maxHeartbeats 4000000 in
theorem find_any {ok : Nat → Prop} (f : Nat → La) (fd : Nat → List Fd) (lp : Option Addr) (kn lc : Nat) (nm : ByteArray) (w0 w : World) (hf : Fresh w0 w) (hl : LaysAt w0 lp kn f) (hk0 : kn ≤ lc) (hkc : lc ≤ maxLen) (hfd : ∀ i, i < kn → FSlice ok w0 (fd i) (f i).p (f i).n (f i).cap ∧ (f i).n ≤ 1000 ∧ ∀ x ∈ fd i, x.ks.small ∧ x.ks.length ≤ 9) :
    Calls Tryz.prog 19 #[.slice lp kn lc, .string nm] w (FindR ok f fd kn nm w) := by
  have HF := Lib.hid hf
  have HL := Lib.hid hl
  have HFD := Lib.hid hfd
  clear hf hl hfd
  have X0 := Lib.hid (Blk.new w #[.string ⟨#[]⟩, .bool false, .slice none 0 0, .int .i64 0, .int .i64 0] 48)
  go_enter Tryz.func19, Tryz.ntmps19
  go_wp2_with fail
  go_at_call 34; refine (position_any f lp kn lc nm w0 _ (HF.out.trans (by (repeat' first | with_reducible exact Fresh.refl _ | with_reducible assumption | with_reducible refine Fresh.alloc ?_ _ _ | with_reducible refine Fresh.drew ?_ | with_reducible refine Fresh.drewN ?_ _ | with_reducible refine Fresh.setCell ?_ ?_ _ | with_reducible refine Fresh.trans ?_ (by assumption) | (simp; done) | (simp; omega)))) hk0 hkc HL.out).mono ?_; rintro e w1 ⟨⟨r, rfl, hr⟩, h1⟩
  have X1 := Lib.hid (X0.out.fresh h1)
  have H1 := Lib.hid (show Fresh w w1 from (by (repeat' first | with_reducible exact Fresh.refl _ | with_reducible assumption | with_reducible refine Fresh.alloc ?_ _ _ | with_reducible refine Fresh.drew ?_ | with_reducible refine Fresh.drewN ?_ _ | with_reducible refine Fresh.setCell ?_ ?_ _ | with_reducible refine Fresh.trans ?_ (by assumption) | (simp; done) | (simp; omega))))
  have hz1 : w.heap.size + 1 ≤ w1.heap.size := by simpa using h1.size
  clear h1 X0
  rcases hr with ⟨i, hi, rfl, hni, hnj⟩ | ⟨rfl, hnone⟩
  · have HNI := Lib.hid hni
    have HNJ := Lib.hid hnj
    obtain ⟨B, off, rfl, hc⟩ := HL.out.resolve_left (by omega)
    obtain ⟨c0, c1, c2, c3, c4⟩ := (hc i hi).later (HF.out.trans H1.out)
    have z0 := cell_lt c0
    simp only at z0
    have hi' : (i : Int) < (kn : Int) := by omega
    clear hni hnj hc
    unfold maxLen at hkc
    have FD := HFD.out i hi
    have HFS := Lib.hid FD.1
    have HNF : Hid (_ = _) := Lib.hid FD.1.1
    have hN := FD.2.1
    have HSM := Lib.hid FD.2.2
    have HIX := Lib.hid hi
    generalize hfdi : fd i = fdi at *
    have HFDI := Lib.hid hfdi
    generalize hL : f i = L at *
    have HLI := Lib.hid hL
    clear FD HFD hfdi hL
    obtain ⟨nm1, un1, pl, N, capl, sz1, al1⟩ := L
    simp only at c0 c1 c2 c3 c4 hN
    go_upto_region 5 with fail
    have L0 : Hid (Blk (w1.alloc (.cells #[.string nm1, .bool un1, .slice pl N capl, .int .i64 sz1, .int .i64 al1] 48)) w1.heap.size [.string nm1, .bool un1, .slice pl N capl, .int .i64 sz1, .int .i64 al1]) := Lib.hid (Blk.new w1 #[.string nm1, .bool un1, .slice pl N capl, .int .i64 sz1, .int .i64 al1] 48)
    have H2 : Hid (Fresh w (w1.alloc (.cells #[.string nm1, .bool un1, .slice pl N capl, .int .i64 sz1, .int .i64 al1] 48))) := Lib.hid (H1.out.trans (by (repeat' first | with_reducible exact Fresh.refl _ | with_reducible assumption | with_reducible refine Fresh.alloc ?_ _ _ | with_reducible refine Fresh.drew ?_ | with_reducible refine Fresh.drewN ?_ _ | with_reducible refine Fresh.setCell ?_ ?_ _ | with_reducible refine Fresh.trans ?_ (by assumption) | (simp; done) | (simp; omega))))
    have X2 : Hid (Blk (w1.alloc (.cells #[.string nm1, .bool un1, .slice pl N capl, .int .i64 sz1, .int .i64 al1] 48)) w.heap.size [.string ⟨#[]⟩, .bool false, .slice none 0 0, .int .i64 0, .int .i64 0]) := Lib.hid (X1.out.fresh (by (repeat' first | with_reducible exact Fresh.refl _ | with_reducible assumption | with_reducible refine Fresh.alloc ?_ _ _ | with_reducible refine Fresh.drew ?_ | with_reducible refine Fresh.drewN ?_ _ | with_reducible refine Fresh.setCell ?_ ?_ _ | with_reducible refine Fresh.trans ?_ (by assumption) | (simp; done) | (simp; omega))))
    have hzW : (w1.alloc (.cells #[.string nm1, .bool un1, .slice pl N capl, .int .i64 sz1, .int .i64 al1] 48)).heap.size = w1.heap.size + 1 := by simp
    clear c0 c1 c2 c3 c4 z0 X1
    generalize (w1.alloc (.cells #[.string nm1, .bool un1, .slice pl N capl, .int .i64 sz1, .int .i64 al1] 48)) = W at *
    have hwF : w.heap.size < w1.heap.size := by omega
    generalize w1.heap.size = F at *
    have xl := L0.out
    have l0 := (xl).1 0 _ rfl; have l1 := (xl).1 1 _ rfl; have l2 := (xl).1 2 _ rfl; have l3 := (xl).1 3 _ rfl; have l4 := (xl).1 4 _ rfl; have lf := (xl).2.1; have lz := (xl).2.2
    clear xl
    go_upto_region 6 with fail
    go_at_call 41; refine (clone59_any fdi pl N capl w0 _ (HF.out.trans H2.out) HFS.out hN).mono ?_; rintro e w2 ⟨⟨v, xs, rfl, hc, hown⟩, h2⟩
    obtain ⟨pv, cv, rfl⟩ : ∃ pv cv, v = .slice pv N cv := by
      rcases hown.2 with ⟨rfl, h0⟩ | ⟨g, cap', _, rfl, _⟩
      · exact ⟨_, _, by rw [h0]⟩
      · exact ⟨_, _, rfl⟩
    rw [hzW] at hown
    have FV0 : Hid (FV ok w0 w (w2.setCell ⟨F, 2, none⟩ (.slice pv N cv)) F ⟨nm1, un1, pl, N, capl, sz1, al1⟩ (.slice pv N cv) N [] fdi [] xs) := Lib.hid (by
      refine ⟨(H2.out.trans h2).setCell (by simp; omega) _, by have := h2.size; simp [World.setCell]; omega, (X2.out.fresh h2).other (by omega) _ _, (L0.out.fresh h2).put (i := 2) (by simp) _, own_set hown (own_ne hown (by omega)) _ _, rfl, hc⟩)
    have xl := L0.out.fresh h2
    clear hown hc h2 l0 l1 l2 l3 l4 lf lz L0 X2 HFS
    have l0 := (xl).1 0 _ rfl; have l1 := (xl).1 1 _ rfl; have l2 := (xl).1 2 _ rfl; have l3 := (xl).1 3 _ rfl; have l4 := (xl).1 4 _ rfl; have lf := (xl).2.1; have lz := (xl).2.2
    clear xl
    go_wp2_with fail
    clear l0 l1 l2 l3 l4 lf lz
    go_loopw [27] (fun s27 wr => ∃ (a : Nat) (done rest : List Fd) (ys zs : List Value), a ≤ N ∧ s27 = .int .i64 a ∧ Hid (done.length = a ∧ done ++ rest = fdi) ∧ Hid (FV ok w0 w wr F ⟨nm1, un1, pl, N, capl, sz1, al1⟩ (.slice pv N cv) N done rest ys zs)) (fun s27 _ => N - (intOf s27).toNat)
    case atStart => exact ⟨0, [], fdi, [], xs, by omega, rfl, Lib.hid ⟨rfl, rfl⟩, FV0⟩
    case round =>
      obtain ⟨a, done, rest, ys, zs, ha, rfl, HD, HC⟩ := hrel
      by_cases hlt : a < N
      · cases rest with
        | nil =>
          exfalso
          have h1 := HD.out.1
          have h2 := HD.out.2
          have h3 := HNF.out
          rw [← h2] at h3
          simp at h3
          omega
        | cons x ra =>
          obtain ⟨p0, n0, c0, zs', rfl, hkd, hrd⟩ := HC.out.rs
          have HKD := Lib.hid hkd
          have HRD := Lib.hid hrd
          have hmem : x ∈ fdi := by rw [← HD.out.2]; simp
          have IH : Hid (CopySpec x.ks) := Lib.hid (copied_of x.ks (HSM.out x hmem).2 (copy_all x.ks (HSM.out x hmem).1))
          clear hkd hrd hmem
          obtain ⟨g, rfl⟩ : ∃ g, pv = some ⟨g, 0, none⟩ := by
            rcases HC.out.own.2 with ⟨_, h0⟩ | ⟨g, cap', _, h0, _⟩
            · omega
            · exact ⟨g, by simpa using congrArg (fun v => match v with | .slice p _ _ => p | _ => none) h0⟩
          have hk8 : ys.length = a * 8 := by rw [HC.out.dn.length, HD.out.1]
          obtain ⟨e0, e1, e2, e3, e4, e5, e6, e7, ef⟩ := own_c8 HC.out.own hk8
          have ez := cell_lt e0
          simp only at ez
          have hcap : (a : Int) < (N : Int) := by omega
          have HK8 := Lib.hid hk8
          clear hk8
          go_upto_region 9 with fail
          have FW : Fresh wr (wr.alloc (.cells #[.string x.nm, .int .i64 x.h.kind, .int .i64 x.h.size, .int .i64 x.h.len, .bool x.h.flag, .string x.h.name, .slice p0 n0 c0, .int .i64 x.off] 43)) := (Fresh.refl _).alloc _ _
          have C1 := Lib.hid (HC.out.later FW)
          have T8 := Lib.hid (Blk.new wr #[.string x.nm, .int .i64 x.h.kind, .int .i64 x.h.size, .int .i64 x.h.len, .bool x.h.flag, .string x.h.name, .slice p0 n0 c0, .int .i64 x.off] 43)
          have HZ : Hid ((wr.alloc (.cells #[.string x.nm, .int .i64 x.h.kind, .int .i64 x.h.size, .int .i64 x.h.len, .bool x.h.flag, .string x.h.name, .slice p0 n0 c0, .int .i64 x.off] 43)).heap.size = wr.heap.size + 1) := Lib.hid (by simp)
          clear FW e0 e1 e2 e3 e4 e5 e6 e7 ef ez
          have gn3 : wr.heap.size ≠ g := by have h1 := (HC.out.own.lt g rfl).2; omega
          generalize (wr.alloc (.cells #[.string x.nm, .int .i64 x.h.kind, .int .i64 x.h.size, .int .i64 x.h.len, .bool x.h.flag, .string x.h.name, .slice p0 n0 c0, .int .i64 x.off] 43)) = W2 at *
          have gn1 : F ≠ g := by have h1 := (C1.out.own.lt g rfl).1; omega
          have gn2 : g ≠ F := fun e => gn1 e.symm
          have gn4 : g ≠ wr.heap.size := fun e => gn3 e.symm
          have IHx := Lib.hid (fun (X : World) (hX : Fresh w0 X) => IH.out ok x.h p0 n0 c0 w0 X hX HKD.out)
          have HOK : Hid (∀ X : World, W2.heap.size ≤ X.heap.size → ∀ b, X.heap.size ≤ b → okf F (.slice (some ⟨g, 0, none⟩) N cv) b) := Lib.hid (fun X hX b hb => ⟨by have := C1.out.lo; omega, fun e => by have h1 := (C1.out.own.lt g rfl).2; have h2 : g = b := (by simpa [Value.ownBlock] using e); omega⟩)
          have KK : Hid (K7 W2 F wr.heap.size (.slice (some ⟨g, 0, none⟩) N cv) (.int .i64 x.h.kind) (.int .i64 x.h.size) (.int .i64 x.h.len) (.bool x.h.flag) (.string x.h.name) (.slice p0 n0 c0)) := Lib.hid ⟨C1.out.l.1 2 _ rfl, T8.out.1 1 _ rfl, T8.out.1 2 _ rfl, T8.out.1 3 _ rfl, T8.out.1 4 _ rfl, T8.out.1 5 _ rfl, T8.out.1 6 _ rfl⟩
          have E : Hid (Fresh W2 W2.drew) := Lib.hid (Fresh.refl W2).drew
          go_region_held3 (fun w' => w'.cell? ⟨F, 2, none⟩ = some (.slice (some ⟨g, 0, none⟩) N cv) ∧ w'.cell? ⟨wr.heap.size, 1, none⟩ = some (.int .i64 x.h.kind) ∧ w'.cell? ⟨wr.heap.size, 2, none⟩ = some (.int .i64 x.h.size) ∧ w'.cell? ⟨wr.heap.size, 3, none⟩ = some (.int .i64 x.h.len) ∧ w'.cell? ⟨wr.heap.size, 4, none⟩ = some (.bool x.h.flag) ∧ w'.cell? ⟨wr.heap.size, 5, none⟩ = some (.string x.h.name) ∧ w'.cell? ⟨wr.heap.size, 6, none⟩ = some (.slice p0 n0 c0)) (first | with_reducible exact ⟨(KK.out.later E.out).c0, (KK.out.later E.out).c1, (KK.out.later E.out).c2, (KK.out.later E.out).c3, (KK.out.later E.out).c4, (KK.out.later E.out).c5, (KK.out.later E.out).c6⟩ | (simp [go_sem, gn1, gn2, gn3, gn4]; with_reducible exact ⟨(KK.out.later E.out).c0, (KK.out.later E.out).c1, (KK.out.later E.out).c2, (KK.out.later E.out).c3, (KK.out.later E.out).c4, (KK.out.later E.out).c5, (KK.out.later E.out).c6⟩)) (first | (go_at_call 42; (with_reducible refine (IHx.out _ (HF.out.trans (C1.out.fr.trans E.out))).mono ?_); rintro e w2 ⟨⟨p1, n1, c1, rfl, hk1⟩, h2⟩; have HK1 := Lib.hid (hk1.mono (ok' := okf F (.slice (some ⟨g, 0, none⟩) N cv)) (fun b _ hb => HOK.out _ E.out.size b hb)); have E := Lib.hid (E.out.trans h2); clear hk1 h2; obtain ⟨e0, e1, e2, e3, e4, e5, e6, e7, ef⟩ := own_c8 (C1.out.later E.out).own HK8.out; have ez := cell_lt e0; simp only at ez))
          have CS := (C1.out.later E.out).step hwF HRD.out HK1.out
          rw [HD.out.1] at CS
          have HCS := Lib.hid CS
          clear CS e0 e1 e2 e3 e4 e5 e6 e7 ef ez
          go_wp2_with fail
          go_roundw
          case rel => exact ⟨a + 1, done ++ [x], ra, _, _, by omega, by go_num, Lib.hid ⟨by simp [HD.out.1], by rw [List.append_assoc]; exact HD.out.2⟩, HCS⟩
          case measure => simp [intOf]; omega
      · obtain rfl : a = N := by omega
        have HE : Hid (rest = []) := Lib.hid (by
          have h1 := HD.out.1
          have h2 := HD.out.2
          have h3 := HNF.out
          rw [← h2] at h3
          cases rest with
          | nil => rfl
          | cons _ _ => simp at h3; omega)
        have HDK : Hid (done = fdi) := Lib.hid (by
          have h2 := HD.out.2
          rw [HE.out, List.append_nil] at h2
          exact h2)
        have HZ : Hid (zs = []) := Lib.hid (by have := HC.out.rs; rw [HE.out] at this; exact this)
        have hown := HC.out.own
        rw [HZ.out, List.append_nil] at hown
        have hdn := HC.out.dn
        rw [HDK.out] at hdn
        have HO := Lib.hid hown
        have HDN := Lib.hid hdn
        have HFr := Lib.hid HC.out.fr
        have hlo := HC.out.lo
        have xl := HC.out.l
        have xr := HC.out.r
        clear hown hdn HC HE HZ HDK HD
        have l0 := (xl).1 0 _ rfl; have l1 := (xl).1 1 _ rfl; have l2 := (xl).1 2 _ rfl; have l3 := (xl).1 3 _ rfl; have l4 := (xl).1 4 _ rfl; have lf := (xl).2.1; have lz := (xl).2.2
        have r0 := (xr).1 0 _ rfl; have r1 := (xr).1 1 _ rfl; have r2 := (xr).1 2 _ rfl; have r3 := (xr).1 3 _ rfl; have r4 := (xr).1 4 _ rfl; have rf := (xr).2.1; have rz := (xr).2.2
        clear xl xr
        have hge : (a : Int) ≤ (a : Int) := by omega
        go_wp2_with fail
        refine bodyPost_ret (v := ?_) ?_ rfl ?_; rotate_left 1; focus (simp [results, Tryz.results19, go_sem, *]; (try rfl); done)
        have n0 : (Value.slice pv a cv).ownBlock ≠ some w.heap.size := own_ne HO.out (by omega)
        have k0 : ¬ okf F (.slice pv a cv) w.heap.size := fun e => by have := e.1; omega
        refine ⟨Or.inr ⟨i, F, pv, cv, ys, HIX.out, by rw [HLI.out]; exact HNI.out, HNJ.out, hwF, by rw [HLI.out], ?_, ?_⟩, (by repeat' first | with_reducible refine Fresh.setCell ?_ ?_ _ | exact HFr.out | (simp; done) | (simp; omega))⟩
        · rw [HLI.out]
          exact own_set (own_set (own_set (own_set (own_set HO.out n0 _ _) n0 _ _) n0 _ _) n0 _ _) n0 _ _
        · rw [HLI.out, HFDI.out]
          exact ((((HDN.out.set k0 _ _).set k0 _ _).set k0 _ _).set k0 _ _).set k0 _ _
  · have HN := Lib.hid hnone
    clear hnone
    have xr := X1.out
    have r0 := (xr).1 0 _ rfl; have r1 := (xr).1 1 _ rfl; have r2 := (xr).1 2 _ rfl; have r3 := (xr).1 3 _ rfl; have r4 := (xr).1 4 _ rfl; have rf := (xr).2.1; have rz := (xr).2.2
    clear xr
    go_wp2_with fail
    refine bodyPost_ret (v := ?_) ?_ rfl ?_; rotate_left 1; focus (simp [results, Tryz.results19, go_sem, *]; (try rfl); done)
    exact ⟨Or.inl ⟨HN.out, rfl⟩, (by repeat' first | with_reducible refine Fresh.setCell ?_ ?_ _ | exact H1.out | (simp; done) | (simp; omega))⟩
end Go.Proofs.YteiomcbphbbpkaaGreatDoor
