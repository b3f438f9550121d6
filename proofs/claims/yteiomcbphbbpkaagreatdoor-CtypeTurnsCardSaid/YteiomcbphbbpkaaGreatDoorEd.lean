/- Text of the fixed calls: int*[3]. -/
import Derived.Test.YteiomcbphbbpkaaGreatDoorCr
import Derived.Test.YteiomcbphbbpkaaGreatDoorEc
import Derived.Test.YteiomcbphbbpkaaGreatDoorSh
namespace Go.Proofs.YteiomcbphbbpkaaGreatDoor
set_option linter.unusedSimpArgs false
set_option linter.unusedVariables false
open Go.RowKit
variable {ok : Nat → Prop}

attribute [local go_sem] as_87_87 as_87_36 as_87_45 as_87_56 as_87_66 as_87_58 as_87_94 as_36_87 as_36_36 as_36_45 as_36_56 as_36_66 as_36_58 as_36_94 as_45_87 as_45_36 as_45_45 as_45_56 as_45_66 as_45_58 as_45_94 as_56_87 as_56_36 as_56_45 as_56_56 as_56_66 as_56_58 as_56_94 as_66_87 as_66_36 as_66_45 as_66_56 as_66_66 as_66_58 as_66_94 as_58_87 as_58_36 as_58_45 as_58_56 as_58_66 as_58_58 as_58_94 as_94_87 as_94_36 as_94_45 as_94_56 as_94_66 as_94_58 as_94_94 as_nil_87 as_nil_36 as_nil_45 as_nil_56 as_nil_66 as_nil_58 as_nil_94
theorem Bld.is {R b : Nat} {bs : List Value} {w : World} (h : Bld R b bs w) (hR : b ≤ R) : Lib.IsBuilder 100 5 b b bs w := by
  obtain ⟨p, v, hp, hb, hown, hne⟩ := h
  have hown' : w.ownsRow b 5 1 v bs.length bs := by
    obtain ⟨h1, h2⟩ := hown
    refine ⟨h1, ?_⟩
    rcases h2 with h2 | ⟨g, cap, cur, q1, q2, q⟩
    · exact Or.inl h2
    · exact Or.inr ⟨g, cap, cur, q1, Nat.le_trans hR q2, q⟩
  rcases hp with rfl | rfl
  · exact Or.inl ⟨Nat.le_refl _, v, hb, hown', hne⟩
  · exact Or.inr ⟨Nat.le_refl _, v, hb, hown', hne⟩
theorem Bld.later {R b : Nat} {bs : List Value} {w w' : World} (h : Bld R b bs w) (hf : Fresh w w') : Bld R b bs w' := by
  obtain ⟨p, v, hp, hb, hown, hne⟩ := h
  have hlt : b < w.heap.size := by
    by_cases hh : b < w.heap.size
    · exact hh
    · rw [Array.getElem?_eq_none (by omega)] at hb
      cases hb
  exact ⟨p, v, hp, (hf.below.block b hlt).trans hb, hf.own hown, hne⟩
theorem dig3 : Lib.decDigits 3 = [51] := by decide +kernel
theorem itoa_3 (w : World) : Calls Tryz.prog 68 #[.int .i64 3] w fun e w' => e = .returned (.string ⟨#[51]⟩) ∧ w = w' := by
  refine (Tryz.strconv_Itoa_small 3 (by decide) w).mono ?_
  rintro e w' ⟨rfl, rfl⟩
  exact ⟨by rw [dig3], rfl⟩
theorem numberWord_4 (w : World) : Calls Tryz.prog 86 #[.int .i64 4] w fun e w' => e = .returned (.string ⟨#[105, 110, 116]⟩) ∧ Fresh w w' := by
  go_enter Tryz.func86, Tryz.ntmps86
  go_wp2
  go_returns
  exact ⟨rfl, (by (repeat' first | with_reducible exact Fresh.refl _ | with_reducible assumption | with_reducible refine Fresh.alloc ?_ _ _ | with_reducible refine Fresh.drew ?_ | with_reducible refine Fresh.drewN ?_ _ | with_reducible refine Fresh.setCell ?_ ?_ _ | with_reducible refine Fresh.trans ?_ (by assumption) | (simp; done) | (simp; omega)))⟩
theorem numberText_4 (w : World) : Calls Tryz.prog 66 #[.agg #[.int .i64 4, .bool false]] w fun e w' => e = .returned (.string ⟨#[105, 110, 116]⟩) ∧ Fresh w w' := by
  go_enter Tryz.func66, Tryz.ntmps66
  go_wp2_with fail
  go_at_call 86; refine (numberWord_4 _).mono ?_; rintro e w1 ⟨rfl, h1⟩
  have X := (Blk.new w #[.int .i64 4, .bool false] 36).fresh h1
  have x1 := X.1 1 _ rfl
  have x0 := X.1 0 _ rfl
  go_wp2_with fail

  go_returns
  exact ⟨rfl, (by (repeat' first | with_reducible exact Fresh.refl _ | with_reducible assumption | with_reducible refine Fresh.alloc ?_ _ _ | with_reducible refine Fresh.drew ?_ | with_reducible refine Fresh.drewN ?_ _ | with_reducible refine Fresh.setCell ?_ ?_ _ | with_reducible refine Fresh.trans ?_ (by assumption) | (simp; done) | (simp; omega)))⟩
/-- What is written behind one another. -/
def tInt : List Value := [.int .u8 105, .int .u8 110, .int .u8 116]
def tPtr : List Value := tInt ++ [.int .u8 42]
def tArr : List Value := tPtr ++ Lib.strCells ⟨#[91, 51, 93]⟩
theorem tInt_is : [] ++ Lib.strCells ⟨#[105, 110, 116]⟩ = tInt := by kernel_rfl
def shown : List UInt8 := [105, 110, 116, 42, 91, 51, 93]
theorem shown_is : tArr = Lib.byteCells shown := by kernel_rfl
theorem Bld.lt {R b : Nat} {bs : List Value} {w : World} (h : Bld R b bs w) : b < w.heap.size := by
  obtain ⟨p, v, hp, hb, -⟩ := h
  by_cases hh : b < w.heap.size
  · exact hh
  · rw [Array.getElem?_eq_none (by omega)] at hb
    cases hb
theorem Bld.low {R R2 b : Nat} {bs : List Value} {w : World} (h : Bld R2 b bs w) (hR : R ≤ R2) : Bld R b bs w := by
  obtain ⟨p, v, hp, hb, hown, hne⟩ := h
  refine ⟨p, v, hp, hb, ?_, hne⟩
  obtain ⟨h1, h2⟩ := hown
  refine ⟨h1, ?_⟩
  rcases h2 with h2 | ⟨g, cap, cur, q1, q2, q⟩
  · exact Or.inl h2
  · exact Or.inr ⟨g, cap, cur, q1, Nat.le_trans hR q2, q⟩
section
variable (h : Hd) (ks : Tys) (p : Option Addr) (n cap : Nat) (w0 w : World)
/-- What a call of write with an empty builder does. -/
def Wr (b : Nat) (bs : List Value) (e : Ending) (w w' : World) : Prop := e = .returned (.tuple #[]) ∧ Bld w.heap.size b bs w' ∧ Kp w.heap.size b w w'
set_option maxRecDepth 100000 in
set_option maxHeartbeats 2000000 in
theorem write_int (b : Nat) (hb : ∀ R, Bld R b [] w) (hk : h.kind = 2) (hs : h.size = 4) (hf : h.flag = false) : Calls Tryz.prog 44 #[.pointer (some ⟨b, 0, none⟩), .agg #[.int .i64 h.kind, .int .i64 h.size, .int .i64 h.len, .bool h.flag, .string h.name, .slice p n cap]] w fun e w' => Wr b tInt e w w' := by
  have HKD := Lib.hid hk
  have HB := Lib.hid hb
  have HS := Lib.hid hs
  have HFL := Lib.hid hf
  clear hk hb hs hf
  go_enter Tryz.func44, Tryz.ntmps44
  go_wp2_with fail
  go_at_call 32; refine (view2 h p n cap _ HKD.out).mono ?_; rintro e w1 ⟨rfl, h1⟩
  rw [HS.out, HFL.out]
  have H1 := Lib.hid (show Fresh w w1 from (by (repeat' first | with_reducible exact Fresh.refl _ | with_reducible assumption | with_reducible refine Fresh.alloc ?_ _ _ | with_reducible refine Fresh.drew ?_ | with_reducible refine Fresh.drewN ?_ _ | with_reducible refine Fresh.setCell ?_ ?_ _ | with_reducible refine Fresh.trans ?_ (by assumption) | (simp; done) | (simp; omega))))
  clear h1
  go_wp2_with fail
  go_at_call 66; refine (numberText_4 _).mono ?_; rintro e w2 ⟨rfl, h2⟩
  have H2 := Lib.hid (show Fresh w w2 from H1.out.trans (by (repeat' first | with_reducible exact Fresh.refl _ | with_reducible assumption | with_reducible refine Fresh.alloc ?_ _ _ | with_reducible refine Fresh.drew ?_ | with_reducible refine Fresh.drewN ?_ _ | with_reducible refine Fresh.setCell ?_ ?_ _ | with_reducible refine Fresh.trans ?_ (by assumption) | (simp; done) | (simp; omega))))
  clear h2
  go_wp2_with fail
  go_at_call 65; refine (str_any w.heap.size b [] ⟨#[105, 110, 116]⟩ _ ((HB.out _).later H2.out) (by decide) H2.out.size).mono ?_; rintro e w3 ⟨rfl, b3, k3⟩
  go_wp2_with fail
  go_end0
  exact ⟨rfl, by rw [← tInt_is]; exact b3, (Kp.fresh H2.out (Nat.le_refl _)).trans k3⟩
theorem Kp.upR {R R2 b : Nat} {w w' : World} (h : Kp R2 b w w') (hR : R ≤ R2) : Kp R b w w' := ⟨h.os, h.tape, h.output, h.size, fun k hk => h.block k (by omega)⟩
variable (hf : Fresh w0 w) (hks : Kids ok w0 ks p n cap)
include hf hks
set_option maxRecDepth 100000 in
set_option maxHeartbeats 2000000 in
theorem write_ptr (b : Nat) (hb : ∀ R, Bld R b [] w) (hk : h.kind = 4) (hs : ks.hd.size = 4) (hfl : ks.hd.flag = false) (hk2 : ks.hd.kind = 2) : Calls Tryz.prog 44 #[.pointer (some ⟨b, 0, none⟩), .agg #[.int .i64 h.kind, .int .i64 h.size, .int .i64 h.len, .bool h.flag, .string h.name, .slice p n cap]] w fun e w' => Wr b tPtr e w w' := by
  have HKD := Lib.hid hk
  have HB := Lib.hid hb
  have HK := Lib.hid hks
  have HF := Lib.hid hf
  have HI := Lib.hid (And.intro hs (And.intro hfl hk2))
  clear hk hb hks hf hs hfl hk2
  go_enter Tryz.func44, Tryz.ntmps44
  go_wp2_with fail
  go_at_call 32; refine (view4 h ks p n cap _ w0 (HF.out.trans (by (repeat' first | with_reducible exact Fresh.refl _ | with_reducible assumption | with_reducible refine Fresh.alloc ?_ _ _ | with_reducible refine Fresh.drew ?_ | with_reducible refine Fresh.drewN ?_ _ | with_reducible refine Fresh.setCell ?_ ?_ _ | with_reducible refine Fresh.trans ?_ (by assumption) | (simp; done) | (simp; omega)))) HK.out HKD.out).mono ?_; rintro e w1 ⟨⟨p1, n1, cap1, rfl, hk1⟩, h1⟩; have HK1 := Lib.hid hk1; clear hk1
  have H1 := Lib.hid (show Fresh w w1 from (by (repeat' first | with_reducible exact Fresh.refl _ | with_reducible assumption | with_reducible refine Fresh.alloc ?_ _ _ | with_reducible refine Fresh.drew ?_ | with_reducible refine Fresh.drewN ?_ _ | with_reducible refine Fresh.setCell ?_ ?_ _ | with_reducible refine Fresh.trans ?_ (by assumption) | (simp; done) | (simp; omega))))
  clear h1
  go_wp2_with fail
  go_at_call 44; refine (write_int ks.hd p1 n1 cap1 _ b (fun R => (HB.out R).later (H1.out.trans (by (repeat' first | with_reducible exact Fresh.refl _ | with_reducible assumption | with_reducible refine Fresh.alloc ?_ _ _ | with_reducible refine Fresh.drew ?_ | with_reducible refine Fresh.drewN ?_ _ | with_reducible refine Fresh.setCell ?_ ?_ _ | with_reducible refine Fresh.trans ?_ (by assumption) | (simp; done) | (simp; omega))))) HI.out.2.2 HI.out.1 HI.out.2.1).mono ?_; rintro e w2 ⟨rfl, b2, k2⟩
  have HB2 := Lib.hid b2
  have HK2 := Lib.hid k2
  have HZ2 := Lib.hid (show w.heap.size ≤ w2.heap.size from Nat.le_trans (H1.out.trans (by (repeat' first | with_reducible exact Fresh.refl _ | with_reducible assumption | with_reducible refine Fresh.alloc ?_ _ _ | with_reducible refine Fresh.drew ?_ | with_reducible refine Fresh.drewN ?_ _ | with_reducible refine Fresh.setCell ?_ ?_ _ | with_reducible refine Fresh.trans ?_ (by assumption) | (simp; done) | (simp; omega)))).size k2.size)
  clear b2 k2
  go_wp2_with fail
  go_at_call 67; refine (byte_any _ b tInt 42 _ HB2.out (by decide) HK2.out.size).mono ?_; rintro e w3 ⟨rfl, b3, k3⟩
  go_wp2_with fail
  go_end0
  refine ⟨rfl, b3.low ?_, ((Kp.fresh (H1.out.trans (by (repeat' first | with_reducible exact Fresh.refl _ | with_reducible assumption | with_reducible refine Fresh.alloc ?_ _ _ | with_reducible refine Fresh.drew ?_ | with_reducible refine Fresh.drewN ?_ _ | with_reducible refine Fresh.setCell ?_ ?_ _ | with_reducible refine Fresh.trans ?_ (by assumption) | (simp; done) | (simp; omega)))) (Nat.le_refl _)).trans (HK2.out.upR ?_)).trans (k3.upR ?_)⟩
  all_goals exact (H1.out.trans (by (repeat' first | with_reducible exact Fresh.refl _ | with_reducible assumption | with_reducible refine Fresh.alloc ?_ _ _ | with_reducible refine Fresh.drew ?_ | with_reducible refine Fresh.drewN ?_ _ | with_reducible refine Fresh.setCell ?_ ?_ _ | with_reducible refine Fresh.trans ?_ (by assumption) | (simp; done) | (simp; omega)))).size
set_option maxRecDepth 100000 in
set_option maxHeartbeats 2000000 in
theorem write_arr (b : Nat) (hb : ∀ R, Bld R b [] w) (hk : h.kind = 5) (hl : h.len = 3) (hd4 : ks.hd.kind = 4) (hs : ks.kids.hd.size = 4) (hfl : ks.kids.hd.flag = false) (hk2 : ks.kids.hd.kind = 2) : Calls Tryz.prog 44 #[.pointer (some ⟨b, 0, none⟩), .agg #[.int .i64 h.kind, .int .i64 h.size, .int .i64 h.len, .bool h.flag, .string h.name, .slice p n cap]] w fun e w' => Wr b tArr e w w' := by
  have HKD := Lib.hid hk
  have HB := Lib.hid hb
  have HK := Lib.hid hks
  have HF := Lib.hid hf
  have HI := Lib.hid (And.intro hd4 (And.intro hs (And.intro hfl hk2)))
  have HLN := Lib.hid hl
  have hblt := (hb 0).lt
  clear hk hb hks hf hs hfl hk2 hl hd4
  go_enter Tryz.func44, Tryz.ntmps44
  go_wp2_with fail
  go_at_call 32; refine (view5 h ks p n cap _ w0 (HF.out.trans (by (repeat' first | with_reducible exact Fresh.refl _ | with_reducible assumption | with_reducible refine Fresh.alloc ?_ _ _ | with_reducible refine Fresh.drew ?_ | with_reducible refine Fresh.drewN ?_ _ | with_reducible refine Fresh.setCell ?_ ?_ _ | with_reducible refine Fresh.trans ?_ (by assumption) | (simp; done) | (simp; omega)))) HK.out HKD.out).mono ?_; rintro e w1 ⟨⟨p1, n1, cap1, rfl, hk1⟩, h1⟩; have HK1 := Lib.hid hk1; clear hk1
  rw [HLN.out]
  have H1 := Lib.hid (show Fresh w w1 from (by (repeat' first | with_reducible exact Fresh.refl _ | with_reducible assumption | with_reducible refine Fresh.alloc ?_ _ _ | with_reducible refine Fresh.drew ?_ | with_reducible refine Fresh.drewN ?_ _ | with_reducible refine Fresh.setCell ?_ ?_ _ | with_reducible refine Fresh.trans ?_ (by assumption) | (simp; done) | (simp; omega))))
  have hw1 : w.heap.size ≤ w1.heap.size := H1.out.size
  clear h1
  go_wp2_with fail
  have X := Lib.hid (Blk.new w1 #[.int .i64 ks.hd.kind, .int .i64 ks.hd.size, .int .i64 ks.hd.len, .bool ks.hd.flag, .string ks.hd.name, .slice p1 n1 cap1, .int .i64 3] 58)
  go_at_call 44; refine (write_ptr ks.hd ks.kids p1 n1 cap1 w0 _ (HF.out.trans (H1.out.trans (by (repeat' first | with_reducible exact Fresh.refl _ | with_reducible assumption | with_reducible refine Fresh.alloc ?_ _ _ | with_reducible refine Fresh.drew ?_ | with_reducible refine Fresh.drewN ?_ _ | with_reducible refine Fresh.setCell ?_ ?_ _ | with_reducible refine Fresh.trans ?_ (by assumption) | (simp; done) | (simp; omega))))) HK1.out b (fun R => (HB.out R).later (H1.out.trans (by (repeat' first | with_reducible exact Fresh.refl _ | with_reducible assumption | with_reducible refine Fresh.alloc ?_ _ _ | with_reducible refine Fresh.drew ?_ | with_reducible refine Fresh.drewN ?_ _ | with_reducible refine Fresh.setCell ?_ ?_ _ | with_reducible refine Fresh.trans ?_ (by assumption) | (simp; done) | (simp; omega))))) HI.out.1 HI.out.2.1 HI.out.2.2.1 HI.out.2.2.2).mono ?_; rintro e w2 ⟨rfl, b2, k2⟩
  have x6 : w2.cell? ⟨w1.heap.size, 6, none⟩ = some (.int .i64 3) := k2.cell (by simp) (by omega) (X.out.1 6 _ rfl)
  have HB2 := Lib.hid b2
  have HK2 := Lib.hid k2
  clear b2 k2
  go_wp2_with fail
  go_at_call 68; refine (itoa_3 _).mono ?_; rintro e w3 ⟨rfl, rfl⟩
  go_wp2_with fail
  go_at_call 65; refine (str_any _ b tPtr ⟨#[91, 51, 93]⟩ _ HB2.out (by decide) HK2.out.size).mono ?_; rintro e w3 ⟨rfl, b3, k3⟩
  go_wp2_with fail
  go_end0
  refine ⟨rfl, b3.low ?_, ((Kp.fresh (H1.out.trans (by (repeat' first | with_reducible exact Fresh.refl _ | with_reducible assumption | with_reducible refine Fresh.alloc ?_ _ _ | with_reducible refine Fresh.drew ?_ | with_reducible refine Fresh.drewN ?_ _ | with_reducible refine Fresh.setCell ?_ ?_ _ | with_reducible refine Fresh.trans ?_ (by assumption) | (simp; done) | (simp; omega)))) (Nat.le_refl _)).trans (HK2.out.upR ?_)).trans (k3.upR ?_)⟩
  all_goals exact (H1.out.trans (by (repeat' first | with_reducible exact Fresh.refl _ | with_reducible assumption | with_reducible refine Fresh.alloc ?_ _ _ | with_reducible refine Fresh.drew ?_ | with_reducible refine Fresh.drewN ?_ _ | with_reducible refine Fresh.setCell ?_ ?_ _ | with_reducible refine Fresh.trans ?_ (by assumption) | (simp; done) | (simp; omega)))).size
set_option maxRecDepth 100000 in
set_option maxHeartbeats 2000000 in
theorem text_lit (hk : h.kind = 5) (hl : h.len = 3) (hd4 : ks.hd.kind = 4) (hs : ks.kids.hd.size = 4) (hfl : ks.kids.hd.flag = false) (hk2 : ks.kids.hd.kind = 2) :
    Calls Tryz.prog 22 #[.agg #[.int .i64 h.kind, .int .i64 h.size, .int .i64 h.len, .bool h.flag, .string h.name, .slice p n cap]] w fun e w' => e = .returned (.string ⟨shown.toArray⟩) ∧ Fresh w w' := by
  have HK := Lib.hid hks
  have HF := Lib.hid hf
  have HI := Lib.hid (And.intro hk (And.intro hl (And.intro hd4 (And.intro hs (And.intro hfl hk2)))))
  clear hks hf hk hl hd4 hs hfl hk2
  go_enter Tryz.func22, Tryz.ntmps22
  go_wp2_with fail
  have B0 : Hid (∀ R, Bld R (w.heap.size + 1) [] ((w.alloc (.cells #[.int .i64 h.kind, .int .i64 h.size, .int .i64 h.len, .bool h.flag, .string h.name, .slice p n cap] 25)).alloc (.cells #[.pointer none, .slice none 0 0] 100))) := Lib.hid (fun R => by
    have := Bld.fresh R (w.alloc (.cells #[.int .i64 h.kind, .int .i64 h.size, .int .i64 h.len, .bool h.flag, .string h.name, .slice p n cap] 25))
    simpa using this)
  go_at_call 44; refine (write_arr h ks p n cap w0 _ (HF.out.trans (by (repeat' first | with_reducible exact Fresh.refl _ | with_reducible assumption | with_reducible refine Fresh.alloc ?_ _ _ | with_reducible refine Fresh.drew ?_ | with_reducible refine Fresh.drewN ?_ _ | with_reducible refine Fresh.setCell ?_ ?_ _ | with_reducible refine Fresh.trans ?_ (by assumption) | (simp; done) | (simp; omega)))) HK.out (w.heap.size + 1) B0.out HI.out.1 HI.out.2.1 HI.out.2.2.1 HI.out.2.2.2.1 HI.out.2.2.2.2.1 HI.out.2.2.2.2.2).mono ?_; rintro e w2 ⟨rfl, b2, k2⟩
  rw [shown_is] at b2
  have hz := k2.size
  have HB2 := Lib.hid b2
  have HK2 := Lib.hid k2
  simp at hz
  clear b2 k2
  go_wp2_with fail
  go_at_call 45; refine (Tryz.Builder_String_any (w.heap.size + 1) (w.heap.size + 1) shown _ (HB2.out.is (by simp)) (by omega)).mono ?_; rintro e w3 ⟨rfl, k3⟩
  go_wp2_with fail
  go_returns
  refine ⟨rfl, ⟨?_⟩⟩
  have F2 : Fresh w ((w.alloc (.cells #[.int .i64 h.kind, .int .i64 h.size, .int .i64 h.len, .bool h.flag, .string h.name, .slice p n cap] 25)).alloc (.cells #[.pointer none, .slice none 0 0] 100)) := (by (repeat' first | with_reducible exact Fresh.refl _ | with_reducible assumption | with_reducible refine Fresh.alloc ?_ _ _ | with_reducible refine Fresh.drew ?_ | with_reducible refine Fresh.drewN ?_ _ | with_reducible refine Fresh.setCell ?_ ?_ _ | with_reducible refine Fresh.trans ?_ (by assumption) | (simp; done) | (simp; omega)))
  exact (F2.below.trans (HK2.out.below (by omega) (by simp; omega) (by simp; omega))).trans (k3.mono (by omega))
end
end Go.Proofs.YteiomcbphbbpkaaGreatDoor
