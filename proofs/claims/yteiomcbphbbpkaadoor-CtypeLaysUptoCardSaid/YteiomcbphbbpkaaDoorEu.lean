/- A record's members, made of numbers. -/
import Derived.Test.YteiomcbphbbpkaaDoorEj
import Derived.Deep.AppendLies
namespace Go.Proofs.YteiomcbphbbpkaaDoor
set_option linter.unusedSimpArgs false
set_option linter.unusedVariables false
open Go.RowKit

/-- What a record is made of. -/
structure Rec where
  name : Int
  un : Bool
  nz : Nat → Int
  nn : Nat
  N : Nat
  zs : Nat → Nat → Int
  ln : Nat → Nat
  forget : Bool
/-- It as it came in. -/
structure RecAt (w : World) (r : Rec) (np : Option Addr) (nc : Nat) (tp : Option Addr) (tc : Nat) : Prop where
  names : CodeAt w r.nz r.nn 0 np r.nn nc
  le : r.N ≤ tc
  max : tc ≤ maxLen
  types : r.N = 0 ∨ ∃ B off, tp = some ⟨B, off, none⟩ ∧ ∀ i, i < r.N → ∃ p c, w.cell? ⟨B, off + i, none⟩ = some (.slice p (r.ln i) c) ∧ CodeAt w (r.zs i) (r.ln i) 0 p (r.ln i) c
def Rec.fd (r : Rec) (i : Nat) : Fd := ⟨nameOf (if i < r.nn then r.nz i else 0), (one (r.zs i) (r.ln i)).h, (one (r.zs i) (r.ln i)).ks, 77⟩
def Rec.fds (r : Rec) (k : Nat) : List Fd := (List.range k).map r.fd
theorem Rec.fds_succ (r : Rec) (k : Nat) : r.fds (k + 1) = r.fds k ++ [r.fd k] := by simp [Rec.fds, List.range_succ]
theorem Rec.fds_len (r : Rec) (k : Nat) : (r.fds k).length = k := by simp [Rec.fds]
/-- What stands at the head of a round. -/
structure FL (w X : World) (rl : List Value) (fp : Option Addr) (k fc : Nat) (acc : List Fd) (xs : List Value) : Prop where
  fr : Fresh w X
  lo : w.heap.size + 1 ≤ X.heap.size
  bx : Blk X w.heap.size rl
  own : X.ownsRow (w.heap.size + 1) 59 8 (.slice fp k fc) k xs
  kids : Fcells (fun b => w.heap.size + 1 ≤ b ∧ some b ≠ (Value.slice fp k fc).ownBlock) X acc xs
theorem FL.later {w X Y : World} {rl : List Value} {fp : Option Addr} {k fc : Nat} {acc : List Fd} {xs : List Value} (h : FL w X rl fp k fc acc xs) (hf : Fresh X Y) : FL w Y rl fp k fc acc xs :=
  ⟨h.fr.trans hf, Nat.le_trans h.lo hf.size, h.bx.fresh hf, hf.own h.own, h.kids.later hf⟩
theorem FL.next {w X Y Z : World} {rl : List Value} {fp : Option Addr} {k fc : Nat} {acc : List Fd} {xs : List Value} (h : FL w X rl fp k fc acc xs) (hf : Fresh X Y) {mn : ByteArray} {hd : Hd} {ks : Tys} {g c2 n2 c3 : Nat} {p2 : Option Addr} {M : Int} (own : Z.ownsRow (w.heap.size + 1) 59 8 (.slice (some ⟨g, 0, none⟩) (k + 1) c2) (k + 1) (xs ++ [.string mn, .int .i64 hd.kind, .int .i64 hd.size, .int .i64 hd.len, .bool hd.flag, .string hd.name, .slice p2 n2 c3, .int .i64 M])) (kid : Kids (fun b => X.heap.size ≤ b) Y ks p2 n2 c3) (gr : Y.grownBy Z (Value.slice fp k fc).ownBlock) (hat : (Value.slice fp k fc).ownBlock = some g ∨ g = Y.heap.size) :
    FL w Z rl (some ⟨g, 0, none⟩) (k + 1) c2 (acc ++ [⟨mn, hd, ks, M⟩]) (xs ++ [.string mn, .int .i64 hd.kind, .int .i64 hd.size, .int .i64 hd.len, .bool hd.flag, .string hd.name, .slice p2 n2 c3, .int .i64 M]) := by
  have hY := h.later hf
  have hlt := h.own.lt
  have hlo := h.lo
  have hs := hf.size
  refine ⟨hY.fr.grown gr (fun b hb => by have := (hlt b hb).1; omega), Nat.le_trans hY.lo gr.size, hY.bx.grown gr (fun e => by have := (hlt _ e.symm).1; omega), own, ?_⟩
  have k1 : Fcells (fun b => w.heap.size + 1 ≤ b ∧ some b ≠ (Value.slice (some ⟨g, 0, none⟩) (k + 1) c2).ownBlock) Z acc xs := by
    refine hY.kids.turn (fun B i u hB hu => gr.cell (a := ⟨B, i, none⟩) hu hB.2) ?_
    intro B hlt' hB
    refine ⟨hB.1, fun e => ?_⟩
    have e' : B = g := by simpa [Value.ownBlock] using e
    rcases hat with e2 | e2
    · exact hB.2 (by rw [e2, e'])
    · omega
  have k2 : Kids (fun b => w.heap.size + 1 ≤ b ∧ some b ≠ (Value.slice (some ⟨g, 0, none⟩) (k + 1) c2).ownBlock) Z ks p2 n2 c3 := by
    refine kid.turn ?_ ?_
    · intro B i u hB hu
      refine gr.cell (a := ⟨B, i, none⟩) hu (fun e => ?_)
      have h1 := (hlt B e.symm).2
      have h2 : X.heap.size ≤ B := hB
      omega
    · intro B hlt' hB
      have h2 : X.heap.size ≤ B := hB
      refine ⟨by omega, fun e => ?_⟩
      have e' : B = g := by simpa [Value.ownBlock] using e
      rcases hat with e2 | e2
      · have h1 := (hlt g e2).2
        omega
      · omega
  exact Fcells.append k1 ⟨p2, n2, c3, [], rfl, k2, rfl⟩
set_option maxRecDepth 100000 in
set_option maxHeartbeats 4000000 in
theorem fields_any (r : Rec) (np : Option Addr) (nc : Nat) (tp : Option Addr) (tc : Nat) (w0 w : World) (hf : Fresh w0 w) (hr : RecAt w0 r np nc tp tc) (hN : r.N ≤ 1048576) :
    Calls Tryd.prog 34 #[.agg #[.int .i64 r.name, .bool r.un, .slice np r.nn nc, .slice tp r.N tc, .bool r.forget]] w fun e w' => (∃ p c xs, e = .returned (.slice p r.N c) ∧ w'.ownsRow (w.heap.size + 1) 59 8 (.slice p r.N c) r.N xs ∧ Fcells (fun b => w.heap.size + 1 ≤ b) w' (r.fds r.N) xs) ∧ Fresh w w' := by
  obtain ⟨i0, hi, hz0, hz1, hz2⟩ := info_parts info59
  have HF := Lib.hid hf
  have HR := Lib.hid hr
  have hmax : tc ≤ 9223372036854775807 := hr.max
  have hmax2 : nc ≤ 9223372036854775807 := hr.names.2.2.1
  have hle := hr.le
  have hle2 : r.nn ≤ nc := hr.names.2.1
  clear hf hr
  have FL0 : Hid (FL w (w.alloc (.cells #[.int .i64 r.name, .bool r.un, .slice np r.nn nc, .slice tp r.N tc, .bool r.forget] 53)) [.int .i64 r.name, .bool r.un, .slice np r.nn nc, .slice tp r.N tc, .bool r.forget] none 0 0 (r.fds 0) []) := Lib.hid ⟨(by (repeat' first | with_reducible exact Fresh.refl _ | with_reducible assumption | with_reducible refine Fresh.alloc ?_ _ _ | with_reducible refine Fresh.drew ?_ | with_reducible refine Fresh.drewN ?_ _ | with_reducible refine Fresh.setCell ?_ ?_ _ | with_reducible refine Fresh.trans ?_ (by assumption) | (simp; done) | (simp; omega))), by simp, Blk.new w #[.int .i64 r.name, .bool r.un, .slice np r.nn nc, .slice tp r.N tc, .bool r.forget] 53, World.ownsRow_nil .., rfl⟩
  go_enter Tryd.func34, Tryd.ntmps34
  go_wp2_with fail
  go_loopw [3, 10] (fun v i wr => ∃ (k : Nat) (fp : Option Addr) (fc : Nat) (xs : List Value), k ≤ r.N ∧ v = .slice fp k fc ∧ i = .int .i64 k ∧ Hid (FL w wr [.int .i64 r.name, .bool r.un, .slice np r.nn nc, .slice tp r.N tc, .bool r.forget] fp k fc (r.fds k) xs)) (fun _ i _ => r.N - (intOf i).toNat)
  case atStart => exact ⟨0, none, 0, [], by omega, rfl, rfl, FL0⟩
  case round =>
    obtain ⟨k, fp, fc, xs, hk, rfl, rfl, HL⟩ := hrel
    by_cases hlt : k < r.N
    · obtain ⟨B, off, rfl, hty⟩ := HR.out.types.resolve_left (by omega)
      obtain ⟨pk, ck, hcell, hcode⟩ := hty k hlt
      have hc0 := (HF.out.trans HL.out.fr).at' hcell
      have hcz := cell_lt hc0
      simp only at hcz
      have HCO := Lib.hid hcode
      have hlt' : (k : Int) < (r.N : Int) := by omega
      clear hty hcell hcode
      have bx := HL.out.bx
      have b0 := (bx).1 0 _ rfl; have b1 := (bx).1 1 _ rfl; have b2 := (bx).1 2 _ rfl; have b3 := (bx).1 3 _ rfl; have b4 := (bx).1 4 _ rfl; have bf := (bx).2.1; have bz := (bx).2.2
      clear bx
      have HFD := Lib.hid (show r.fd k = ⟨nameOf (if k < r.nn then r.nz k else 0), (one (r.zs k) (r.ln k)).h, (one (r.zs k) (r.ln k)).ks, 77⟩ from rfl)
      by_cases hnn : k < r.nn
      · have hnn' : (k : Int) < (r.nn : Int) := by omega
        rw [if_pos hnn] at HFD
        obtain ⟨B2, off2, rfl, hnc⟩ := HR.out.names.2.2.2.resolve_left (by omega)
        have hn0 := (HF.out.trans HL.out.fr).at' (hnc k hnn)
        rw [Nat.zero_add] at hn0
        have hnz := cell_lt hn0
        simp only at hnz
        clear hnc
        go_wp2_with fail
        clear hn0 hnz
        go_at_call 14; refine (name_any (r.nz k) _).mono ?_; rintro e w1 ⟨rfl, h1⟩
        have H1 := Lib.hid h1
        clear b0 b1 b2 b3 b4 bf bz hc0 hcz h1
        go_wp2_with fail
        go_at_call 10; refine (one_any (r.zs k) (r.ln k) pk ck w0 _ (HF.out.trans (HL.out.fr.trans H1.out)) HCO.out).mono ?_; rintro e w2 ⟨⟨p2, n2, c3, rfl, hk2⟩, h2⟩
        have FX := Lib.hid (H1.out.trans h2)
        have HK2 := Lib.hid (hk2.mono (ok' := fun b => wr.heap.size ≤ b) (fun b _ hb => Nat.le_trans H1.out.size hb))
        have hsz := FX.out.size
        have hlo := HL.out.lo
        clear hk2 h2
        generalize one (r.zs k) (r.ln k) = T at *
        have HO2 := Lib.hid (FX.out.own HL.out.own)
        go_wp2_with (at_builtin; refine wpList_append_lies _ rfl _ _ 34 rfl (w.heap.size + 1) 59 i0 (.agg #[.string ⟨#[]⟩, .int .i64 0, .int .i64 0, .int .i64 0, .bool false, .string ⟨#[]⟩, .slice none 0 0, .int .i64 0]) 8 96 Tryd.underlying34 hi hz0 hz1 hz2 rfl (by decide) (.slice fp k fc) k xs rfl (HO2.out.alloc _) ⟨w2.heap.size, 0, none⟩ 1 1 [.string (nameOf (r.nz k)), .int .i64 T.h.kind, .int .i64 T.h.size, .int .i64 T.h.len, .bool T.h.flag, .string T.h.name, .slice p2 n2 c3, .int .i64 77] rfl rfl (World.news_of_block (cs := #[.string (nameOf (r.nz k)), .int .i64 T.h.kind, .int .i64 T.h.size, .int .i64 T.h.len, .bool T.h.flag, .string T.h.name, .slice p2 n2 c3, .int .i64 77]) (t := 59) (fr := (0, 0)) (heap_alloc_new w2 _)) (by simp [Value.oneCell']) (by decide) (by unfold maxLen; omega) (by omega) (by simp; omega) (w2.heap.size + 1) (by simp) ?_; intro g c2 w3 hown3 hgrow hat hlt3)
        have HN3 := Lib.hid (HL.out.next (Y := w2.alloc (.cells #[.string (nameOf (r.nz k)), .int .i64 T.h.kind, .int .i64 T.h.size, .int .i64 T.h.len, .bool T.h.flag, .string T.h.name, .slice p2 n2 c3, .int .i64 77] 59)) (FX.out.trans (by (repeat' first | with_reducible exact Fresh.refl _ | with_reducible assumption | with_reducible refine Fresh.alloc ?_ _ _ | with_reducible refine Fresh.drew ?_ | with_reducible refine Fresh.drewN ?_ _ | with_reducible refine Fresh.setCell ?_ ?_ _ | with_reducible refine Fresh.trans ?_ (by assumption) | (simp; done) | (simp; omega)))) hown3 (HK2.out.later (by (repeat' first | with_reducible exact Fresh.refl _ | with_reducible assumption | with_reducible refine Fresh.alloc ?_ _ _ | with_reducible refine Fresh.drew ?_ | with_reducible refine Fresh.drewN ?_ _ | with_reducible refine Fresh.setCell ?_ ?_ _ | with_reducible refine Fresh.trans ?_ (by assumption) | (simp; done) | (simp; omega)))) hgrow (by simpa using hat))
        rw [← HFD.out, ← Rec.fds_succ] at HN3
        clear hown3 hgrow hat hlt3
        go_wp2_with fail
        go_roundw
        case rel => exact ⟨k + 1, _, _, _, by omega, rfl, by go_num, HN3⟩
        case measure => simp [intOf]; omega
      · have hnn' : ¬ (k : Int) < (r.nn : Int) := by omega
        rw [if_neg hnn] at HFD
        go_wp2_with fail
        go_at_call 14; refine (name_any 0 _).mono ?_; rintro e w1 ⟨rfl, h1⟩
        have H1 := Lib.hid h1
        clear b0 b1 b2 b3 b4 bf bz hc0 hcz h1
        go_wp2_with fail
        go_at_call 10; refine (one_any (r.zs k) (r.ln k) pk ck w0 _ (HF.out.trans (HL.out.fr.trans H1.out)) HCO.out).mono ?_; rintro e w2 ⟨⟨p2, n2, c3, rfl, hk2⟩, h2⟩
        have FX := Lib.hid (H1.out.trans h2)
        have HK2 := Lib.hid (hk2.mono (ok' := fun b => wr.heap.size ≤ b) (fun b _ hb => Nat.le_trans H1.out.size hb))
        have hsz := FX.out.size
        have hlo := HL.out.lo
        clear hk2 h2
        generalize one (r.zs k) (r.ln k) = T at *
        have HO2 := Lib.hid (FX.out.own HL.out.own)
        go_wp2_with (at_builtin; refine wpList_append_lies _ rfl _ _ 34 rfl (w.heap.size + 1) 59 i0 (.agg #[.string ⟨#[]⟩, .int .i64 0, .int .i64 0, .int .i64 0, .bool false, .string ⟨#[]⟩, .slice none 0 0, .int .i64 0]) 8 96 Tryd.underlying34 hi hz0 hz1 hz2 rfl (by decide) (.slice fp k fc) k xs rfl (HO2.out.alloc _) ⟨w2.heap.size, 0, none⟩ 1 1 [.string (nameOf 0), .int .i64 T.h.kind, .int .i64 T.h.size, .int .i64 T.h.len, .bool T.h.flag, .string T.h.name, .slice p2 n2 c3, .int .i64 77] rfl rfl (World.news_of_block (cs := #[.string (nameOf 0), .int .i64 T.h.kind, .int .i64 T.h.size, .int .i64 T.h.len, .bool T.h.flag, .string T.h.name, .slice p2 n2 c3, .int .i64 77]) (t := 59) (fr := (0, 0)) (heap_alloc_new w2 _)) (by simp [Value.oneCell']) (by decide) (by unfold maxLen; omega) (by omega) (by simp; omega) (w2.heap.size + 1) (by simp) ?_; intro g c2 w3 hown3 hgrow hat hlt3)
        have HN3 := Lib.hid (HL.out.next (Y := w2.alloc (.cells #[.string (nameOf 0), .int .i64 T.h.kind, .int .i64 T.h.size, .int .i64 T.h.len, .bool T.h.flag, .string T.h.name, .slice p2 n2 c3, .int .i64 77] 59)) (FX.out.trans (by (repeat' first | with_reducible exact Fresh.refl _ | with_reducible assumption | with_reducible refine Fresh.alloc ?_ _ _ | with_reducible refine Fresh.drew ?_ | with_reducible refine Fresh.drewN ?_ _ | with_reducible refine Fresh.setCell ?_ ?_ _ | with_reducible refine Fresh.trans ?_ (by assumption) | (simp; done) | (simp; omega)))) hown3 (HK2.out.later (by (repeat' first | with_reducible exact Fresh.refl _ | with_reducible assumption | with_reducible refine Fresh.alloc ?_ _ _ | with_reducible refine Fresh.drew ?_ | with_reducible refine Fresh.drewN ?_ _ | with_reducible refine Fresh.setCell ?_ ?_ _ | with_reducible refine Fresh.trans ?_ (by assumption) | (simp; done) | (simp; omega)))) hgrow (by simpa using hat))
        rw [← HFD.out, ← Rec.fds_succ] at HN3
        clear hown3 hgrow hat hlt3
        go_wp2_with fail
        go_roundw
        case rel => exact ⟨k + 1, _, _, _, by omega, rfl, by go_num, HN3⟩
        case measure => simp [intOf]; omega
    · obtain rfl : k = r.N := by omega
      go_wp2_with fail
      go_returns
      exact ⟨⟨_, _, _, rfl, HL.out.own, HL.out.kids.mono (fun b _ hb => hb.1)⟩, HL.out.fr⟩
end Go.Proofs.YteiomcbphbbpkaaDoor
