/- The operations that turn a scalar into another one. -/
import Derived.Test.YteiomcbphbbpkaaGreatDoorCp
namespace Go.Proofs.YteiomcbphbbpkaaGreatDoor
set_option linter.unusedSimpArgs false
set_option linter.unusedVariables false
open Go.RowKit
variable {ok : Nat → Prop}

attribute [local go_sem] as_87_87 as_87_36 as_87_45 as_87_56 as_87_66 as_87_58 as_87_94 as_36_87 as_36_36 as_36_45 as_36_56 as_36_66 as_36_58 as_36_94 as_45_87 as_45_36 as_45_45 as_45_56 as_45_66 as_45_58 as_45_94 as_56_87 as_56_36 as_56_45 as_56_56 as_56_66 as_56_58 as_56_94 as_66_87 as_66_36 as_66_45 as_66_56 as_66_66 as_66_58 as_66_94 as_58_87 as_58_36 as_58_45 as_58_56 as_58_66 as_58_58 as_58_94 as_94_87 as_94_36 as_94_45 as_94_56 as_94_66 as_94_58 as_94_94 as_nil_87 as_nil_36 as_nil_45 as_nil_56 as_nil_66 as_nil_58 as_nil_94
def opsOk (a b : Hd) : Bool := (isPtr a && isPtr b) || (isArith a && isArith b)
def opsL (a b : Hd) : List Int :=
  if isPtr a && isPtr b then [] else if isArith a && isArith b then
    (if a.kind = 2 then (if b.kind = 2 then wholeO a.size a.flag b.size b.flag else doubleO a.size a.flag) else if b.kind = 2 then cutO b.size b.flag else [])
  else []
theorem arith_kinds {a : Hd} (h : isArith a = true) : a.kind = 2 ∨ a.kind = 3 := by
  unfold isArith chunkOf at h
  by_cases h2 : a.kind = 2
  · exact Or.inl h2
  · by_cases h3 : a.kind = 3
    · exact Or.inr h3
    · exfalso
      rw [if_neg h2, if_neg h3] at h
      by_cases h4 : a.kind = 4
      · simp [h4] at h
      · simp [h4] at h
@[reducible] def X2 (w : World) (a b : Hd) (p q : Option Addr) (n m cap mc : Nat) : World := (w.alloc (.cells #[.int .i64 a.kind, .int .i64 a.size, .int .i64 a.len, .bool a.flag, .string a.name, .slice p n cap] 25)).alloc (.cells #[.int .i64 b.kind, .int .i64 b.size, .int .i64 b.len, .bool b.flag, .string b.name, .slice q m mc] 25)
structure BY (w X : World) (a b : Hd) (p q : Option Addr) (n m cap mc : Nat) : Prop where
  fr : Fresh w X
  lo : w.heap.size + 2 ≤ X.heap.size
  ba : B6 X w.heap.size (.int .i64 a.kind) (.int .i64 a.size) (.int .i64 a.len) (.bool a.flag) (.string a.name) (.slice p n cap)
  bb : B6 X (w.heap.size + 1) (.int .i64 b.kind) (.int .i64 b.size) (.int .i64 b.len) (.bool b.flag) (.string b.name) (.slice q m mc)
theorem BY.new (w : World) (a b : Hd) (p q : Option Addr) (n m cap mc : Nat) : BY w (X2 w a b p q n m cap mc) a b p q n m cap mc := by
  refine ⟨(by (repeat' first | with_reducible exact Fresh.refl _ | with_reducible assumption | with_reducible refine Fresh.alloc ?_ _ _ | with_reducible refine Fresh.drew ?_ | with_reducible refine Fresh.drewN ?_ _ | with_reducible refine Fresh.setCell ?_ ?_ _ | with_reducible refine Fresh.trans ?_ (by assumption) | (simp; done) | (simp; omega))), by simp, ?_, ?_⟩
  · exact (Blk.new w _ 25).six.fresh ((Fresh.refl _).alloc _ _)
  · have := (Blk.new (w.alloc (.cells #[.int .i64 a.kind, .int .i64 a.size, .int .i64 a.len, .bool a.flag, .string a.name, .slice p n cap] 25)) #[.int .i64 b.kind, .int .i64 b.size, .int .i64 b.len, .bool b.flag, .string b.name, .slice q m mc] 25).six
    simpa only [World.size_alloc] using this
theorem BY.later {w X Y : World} {a b : Hd} {p q : Option Addr} {n m cap mc : Nat} (h : BY w X a b p q n m cap mc) (hf : Fresh X Y) : BY w Y a b p q n m cap mc :=
  ⟨h.fr.trans hf, Nat.le_trans h.lo hf.size, h.ba.fresh hf, h.bb.fresh hf⟩
section
variable {ok ok2 : Nat → Prop} (a b : Hd) (ks js : Tys) (p q : Option Addr) (n m cap mc : Nat) (w0 w : World) (hf : Fresh w0 w) (hks : Kids ok w0 ks p n cap) (hjs : Kids ok2 w0 js q m mc)
include hf hks hjs
set_option maxHeartbeats 4000000 in
theorem ops_any : Calls Tryz.prog 18 #[.agg #[.int .i64 a.kind, .int .i64 a.size, .int .i64 a.len, .bool a.flag, .string a.name, .slice p n cap], .agg #[.int .i64 b.kind, .int .i64 b.size, .int .i64 b.len, .bool b.flag, .string b.name, .slice q m mc]] w
    fun e w' => (∃ v, e = .returned (.tuple #[v, .bool (opsOk a b)]) ∧ Ints w.heap.size w' v (opsL a b)) ∧ Fresh w w' := by
  have HK := Lib.hid hks
  have HJ := Lib.hid hjs
  have HF := Lib.hid hf
  clear hks hjs hf
  have X0 := Lib.hid (BY.new w a b p q n m cap mc)
  cases pa : isPtr a
  · have HPA := Lib.hid pa
    cases aa : isArith a
    · have HAA := Lib.hid aa
      have HC : Hid (opsOk a b = false ∧ opsL a b = []) := Lib.hid ⟨by unfold opsOk; rw [pa, aa]; rfl, by unfold opsL; rw [pa, aa]; rfl⟩
      rw [HC.out.1, HC.out.2]
      clear pa aa
      go_enter Tryz.func18, Tryz.ntmps18
      go_wp2_with fail
      go_at_call 37; refine (isPtr_any a ks p n cap w0 _ (HF.out.trans (by (repeat' first | with_reducible exact Fresh.refl _ | with_reducible assumption | with_reducible refine Fresh.alloc ?_ _ _ | with_reducible refine Fresh.drew ?_ | with_reducible refine Fresh.drewN ?_ _ | with_reducible refine Fresh.setCell ?_ ?_ _ | with_reducible refine Fresh.trans ?_ (by assumption) | (simp; done) | (simp; omega)))) HK.out).mono ?_; rintro e w1 ⟨rfl, h1⟩; rw [HPA.out]; have X1 := Lib.hid (X0.out.later h1); clear h1
      obtain ⟨a0, a1, a2, a3, a4, a5, af⟩ := X1.out.ba; have az := cell_lt a0; simp only at az
      go_wp2_with fail
      go_at_call 36; refine (isArith_any a ks p n cap w0 _ (HF.out.trans X1.out.fr) HK.out).mono ?_; rintro e w2 ⟨rfl, h2⟩; rw [HAA.out]; have X2 := Lib.hid (X1.out.later h2); clear h2
      clear a0 a1 a2 a3 a4 a5 af az
      go_wp2_with fail
      go_returns
      exact ⟨⟨_, rfl, Ints.nil ..⟩, X2.out.fr⟩
    · have HAA := Lib.hid aa
      cases ab : isArith b
      · have HAB := Lib.hid ab
        have HC : Hid (opsOk a b = false ∧ opsL a b = []) := Lib.hid ⟨by unfold opsOk; rw [pa, aa, ab]; rfl, by unfold opsL; rw [pa, aa, ab]; rfl⟩
        rw [HC.out.1, HC.out.2]
        clear pa aa ab
        go_enter Tryz.func18, Tryz.ntmps18
        go_wp2_with fail
        go_at_call 37; refine (isPtr_any a ks p n cap w0 _ (HF.out.trans (by (repeat' first | with_reducible exact Fresh.refl _ | with_reducible assumption | with_reducible refine Fresh.alloc ?_ _ _ | with_reducible refine Fresh.drew ?_ | with_reducible refine Fresh.drewN ?_ _ | with_reducible refine Fresh.setCell ?_ ?_ _ | with_reducible refine Fresh.trans ?_ (by assumption) | (simp; done) | (simp; omega)))) HK.out).mono ?_; rintro e w1 ⟨rfl, h1⟩; rw [HPA.out]; have X1 := Lib.hid (X0.out.later h1); clear h1
        obtain ⟨a0, a1, a2, a3, a4, a5, af⟩ := X1.out.ba; have az := cell_lt a0; simp only at az
        go_wp2_with fail
        go_at_call 36; refine (isArith_any a ks p n cap w0 _ (HF.out.trans X1.out.fr) HK.out).mono ?_; rintro e w2 ⟨rfl, h2⟩; rw [HAA.out]; have X2 := Lib.hid (X1.out.later h2); clear h2
        clear a0 a1 a2 a3 a4 a5 af az
        obtain ⟨b0, b1, b2, b3, b4, b5, bf⟩ := X2.out.bb; have bz := cell_lt b0; simp only at bz
        go_wp2_with fail
        go_at_call 36; refine (isArith_any b js q m mc w0 _ (HF.out.trans X2.out.fr) HJ.out).mono ?_; rintro e w3 ⟨rfl, h3⟩; rw [HAB.out]; have X3 := Lib.hid (X2.out.later h3); clear h3
        clear b0 b1 b2 b3 b4 b5 bf bz
        go_wp2_with fail
        go_returns
        exact ⟨⟨_, rfl, Ints.nil ..⟩, X3.out.fr⟩
      · have HAB := Lib.hid ab
        rcases arith_kinds aa with ka | ka
        · have HKA := Lib.hid ka
          rcases arith_kinds ab with kb | kb
          · have HKB := Lib.hid kb
            have HC : Hid (opsOk a b = true ∧ opsL a b = wholeO a.size a.flag b.size b.flag) := Lib.hid ⟨by unfold opsOk; rw [pa, aa, ab]; rfl, by unfold opsL; rw [pa, aa, ab]; rw [if_neg (by simp), if_pos (by simp), if_pos (by omega), if_pos (by omega)]⟩
            rw [HC.out.1, HC.out.2]
            clear pa aa ab ka kb
            go_enter Tryz.func18, Tryz.ntmps18
            go_wp2_with fail
            go_at_call 37; refine (isPtr_any a ks p n cap w0 _ (HF.out.trans (by (repeat' first | with_reducible exact Fresh.refl _ | with_reducible assumption | with_reducible refine Fresh.alloc ?_ _ _ | with_reducible refine Fresh.drew ?_ | with_reducible refine Fresh.drewN ?_ _ | with_reducible refine Fresh.setCell ?_ ?_ _ | with_reducible refine Fresh.trans ?_ (by assumption) | (simp; done) | (simp; omega)))) HK.out).mono ?_; rintro e w1 ⟨rfl, h1⟩; rw [HPA.out]; have X1 := Lib.hid (X0.out.later h1); clear h1
            obtain ⟨a0, a1, a2, a3, a4, a5, af⟩ := X1.out.ba; have az := cell_lt a0; simp only at az
            go_wp2_with fail
            go_at_call 36; refine (isArith_any a ks p n cap w0 _ (HF.out.trans X1.out.fr) HK.out).mono ?_; rintro e w2 ⟨rfl, h2⟩; rw [HAA.out]; have X2 := Lib.hid (X1.out.later h2); clear h2
            clear a0 a1 a2 a3 a4 a5 af az
            obtain ⟨b0, b1, b2, b3, b4, b5, bf⟩ := X2.out.bb; have bz := cell_lt b0; simp only at bz
            go_wp2_with fail
            go_at_call 36; refine (isArith_any b js q m mc w0 _ (HF.out.trans X2.out.fr) HJ.out).mono ?_; rintro e w3 ⟨rfl, h3⟩; rw [HAB.out]; have X3 := Lib.hid (X2.out.later h3); clear h3
            clear b0 b1 b2 b3 b4 b5 bf bz
            obtain ⟨a0, a1, a2, a3, a4, a5, af⟩ := X3.out.ba; have az := cell_lt a0; simp only at az
            go_wp2_with fail
            go_at_call 32; refine (view2 a p n cap _ HKA.out).mono ?_; rintro e w4 ⟨rfl, h4⟩; have X4 := Lib.hid (X3.out.later h4); clear h4
            clear a0 a1 a2 a3 a4 a5 af az
            obtain ⟨b0, b1, b2, b3, b4, b5, bf⟩ := X4.out.bb; have bz := cell_lt b0; simp only at bz
            go_wp2_with fail
            go_at_call 32; refine (view2 b q m mc _ HKB.out).mono ?_; rintro e w5 ⟨rfl, h5⟩; have X5 := Lib.hid ((X4.out.later ((Fresh.refl _).alloc #[.int .i64 a.size, .bool a.flag] 36)).later h5); have H5 := Lib.hid h5; have hz5 := X5.out.lo; clear h5
            clear b0 b1 b2 b3 b4 b5 bf bz
            have t6 := (Blk.new w4 #[.int .i64 a.size, .bool a.flag] 36).fresh H5.out
            have g0 := t6.1 0 _ rfl
            have g1 := t6.1 1 _ rfl
            have gz := t6.2.2
            clear t6
            go_wp2_with fail
            go_at_call 38; refine (wholeOps_any a.size a.flag b.size b.flag _).mono ?_; rintro e w6 ⟨⟨v, rfl, hv⟩, h6⟩; have HV := Lib.hid (hv.mono (c := w.heap.size) (by simp; omega)); have X6 := Lib.hid ((X5.out.later ((Fresh.refl _).alloc #[.int .i64 b.size, .bool b.flag] 36)).later h6); clear hv h6
            go_wp2_with fail
            go_returns
            exact ⟨⟨_, rfl, HV.out⟩, X6.out.fr⟩
          · have HKB := Lib.hid kb
            have HC : Hid (opsOk a b = true ∧ opsL a b = doubleO a.size a.flag) := Lib.hid ⟨by unfold opsOk; rw [pa, aa, ab]; rfl, by unfold opsL; rw [pa, aa, ab]; rw [if_neg (by simp), if_pos (by simp), if_pos (by omega), if_neg (by omega)]⟩
            rw [HC.out.1, HC.out.2]
            clear pa aa ab ka kb
            go_enter Tryz.func18, Tryz.ntmps18
            go_wp2_with fail
            go_at_call 37; refine (isPtr_any a ks p n cap w0 _ (HF.out.trans (by (repeat' first | with_reducible exact Fresh.refl _ | with_reducible assumption | with_reducible refine Fresh.alloc ?_ _ _ | with_reducible refine Fresh.drew ?_ | with_reducible refine Fresh.drewN ?_ _ | with_reducible refine Fresh.setCell ?_ ?_ _ | with_reducible refine Fresh.trans ?_ (by assumption) | (simp; done) | (simp; omega)))) HK.out).mono ?_; rintro e w1 ⟨rfl, h1⟩; rw [HPA.out]; have X1 := Lib.hid (X0.out.later h1); clear h1
            obtain ⟨a0, a1, a2, a3, a4, a5, af⟩ := X1.out.ba; have az := cell_lt a0; simp only at az
            go_wp2_with fail
            go_at_call 36; refine (isArith_any a ks p n cap w0 _ (HF.out.trans X1.out.fr) HK.out).mono ?_; rintro e w2 ⟨rfl, h2⟩; rw [HAA.out]; have X2 := Lib.hid (X1.out.later h2); clear h2
            clear a0 a1 a2 a3 a4 a5 af az
            obtain ⟨b0, b1, b2, b3, b4, b5, bf⟩ := X2.out.bb; have bz := cell_lt b0; simp only at bz
            go_wp2_with fail
            go_at_call 36; refine (isArith_any b js q m mc w0 _ (HF.out.trans X2.out.fr) HJ.out).mono ?_; rintro e w3 ⟨rfl, h3⟩; rw [HAB.out]; have X3 := Lib.hid (X2.out.later h3); clear h3
            clear b0 b1 b2 b3 b4 b5 bf bz
            obtain ⟨a0, a1, a2, a3, a4, a5, af⟩ := X3.out.ba; have az := cell_lt a0; simp only at az
            go_wp2_with fail
            go_at_call 32; refine (view2 a p n cap _ HKA.out).mono ?_; rintro e w4 ⟨rfl, h4⟩; have X4 := Lib.hid (X3.out.later h4); clear h4
            clear a0 a1 a2 a3 a4 a5 af az
            obtain ⟨b0, b1, b2, b3, b4, b5, bf⟩ := X4.out.bb; have bz := cell_lt b0; simp only at bz
            go_wp2_with fail
            go_at_call 32; refine (view3 b q m mc _ HKB.out).mono ?_; rintro e w5 ⟨rfl, h5⟩; have X5 := Lib.hid ((X4.out.later ((Fresh.refl _).alloc #[.int .i64 a.size, .bool a.flag] 36)).later h5); have H5 := Lib.hid h5; have hz5 := X5.out.lo; clear h5
            clear b0 b1 b2 b3 b4 b5 bf bz
            have t6 := (Blk.new w4 #[.int .i64 a.size, .bool a.flag] 36).fresh H5.out
            have g0 := t6.1 0 _ rfl
            have g1 := t6.1 1 _ rfl
            have gz := t6.2.2
            clear t6
            go_wp2_with fail
            go_at_call 39; refine (doubleOps_any a.size a.flag _).mono ?_; rintro e w6 ⟨⟨v, rfl, hv⟩, h6⟩; have HV := Lib.hid (hv.mono (c := w.heap.size) (by simp; omega)); have X6 := Lib.hid ((X5.out.later ((Fresh.refl _).alloc #[.int .i64 0, .bool false] 36)).later h6); clear hv h6
            go_wp2_with fail
            go_returns
            exact ⟨⟨_, rfl, HV.out⟩, X6.out.fr⟩
        · have HKA := Lib.hid ka
          rcases arith_kinds ab with kb | kb
          · have HKB := Lib.hid kb
            have HC : Hid (opsOk a b = true ∧ opsL a b = cutO b.size b.flag) := Lib.hid ⟨by unfold opsOk; rw [pa, aa, ab]; rfl, by unfold opsL; rw [pa, aa, ab]; rw [if_neg (by simp), if_pos (by simp), if_neg (by omega), if_pos (by omega)]⟩
            rw [HC.out.1, HC.out.2]
            clear pa aa ab ka kb
            go_enter Tryz.func18, Tryz.ntmps18
            go_wp2_with fail
            go_at_call 37; refine (isPtr_any a ks p n cap w0 _ (HF.out.trans (by (repeat' first | with_reducible exact Fresh.refl _ | with_reducible assumption | with_reducible refine Fresh.alloc ?_ _ _ | with_reducible refine Fresh.drew ?_ | with_reducible refine Fresh.drewN ?_ _ | with_reducible refine Fresh.setCell ?_ ?_ _ | with_reducible refine Fresh.trans ?_ (by assumption) | (simp; done) | (simp; omega)))) HK.out).mono ?_; rintro e w1 ⟨rfl, h1⟩; rw [HPA.out]; have X1 := Lib.hid (X0.out.later h1); clear h1
            obtain ⟨a0, a1, a2, a3, a4, a5, af⟩ := X1.out.ba; have az := cell_lt a0; simp only at az
            go_wp2_with fail
            go_at_call 36; refine (isArith_any a ks p n cap w0 _ (HF.out.trans X1.out.fr) HK.out).mono ?_; rintro e w2 ⟨rfl, h2⟩; rw [HAA.out]; have X2 := Lib.hid (X1.out.later h2); clear h2
            clear a0 a1 a2 a3 a4 a5 af az
            obtain ⟨b0, b1, b2, b3, b4, b5, bf⟩ := X2.out.bb; have bz := cell_lt b0; simp only at bz
            go_wp2_with fail
            go_at_call 36; refine (isArith_any b js q m mc w0 _ (HF.out.trans X2.out.fr) HJ.out).mono ?_; rintro e w3 ⟨rfl, h3⟩; rw [HAB.out]; have X3 := Lib.hid (X2.out.later h3); clear h3
            clear b0 b1 b2 b3 b4 b5 bf bz
            obtain ⟨a0, a1, a2, a3, a4, a5, af⟩ := X3.out.ba; have az := cell_lt a0; simp only at az
            go_wp2_with fail
            go_at_call 32; refine (view3 a p n cap _ HKA.out).mono ?_; rintro e w4 ⟨rfl, h4⟩; have X4 := Lib.hid (X3.out.later h4); clear h4
            clear a0 a1 a2 a3 a4 a5 af az
            obtain ⟨b0, b1, b2, b3, b4, b5, bf⟩ := X4.out.bb; have bz := cell_lt b0; simp only at bz
            go_wp2_with fail
            go_at_call 32; refine (view2 b q m mc _ HKB.out).mono ?_; rintro e w5 ⟨rfl, h5⟩; have X5 := Lib.hid ((X4.out.later ((Fresh.refl _).alloc #[.int .i64 0, .bool false] 36)).later h5); have H5 := Lib.hid h5; have hz5 := X5.out.lo; clear h5
            clear b0 b1 b2 b3 b4 b5 bf bz
            go_wp2_with fail
            go_at_call 40; refine (cutOps_any b.size b.flag _).mono ?_; rintro e w6 ⟨⟨v, rfl, hv⟩, h6⟩; have HV := Lib.hid (hv.mono (c := w.heap.size) (by simp; omega)); have X6 := Lib.hid ((X5.out.later ((Fresh.refl _).alloc #[.int .i64 b.size, .bool b.flag] 36)).later h6); clear hv h6
            go_wp2_with fail
            go_returns
            exact ⟨⟨_, rfl, HV.out⟩, X6.out.fr⟩
          · have HKB := Lib.hid kb
            have HC : Hid (opsOk a b = true ∧ opsL a b = []) := Lib.hid ⟨by unfold opsOk; rw [pa, aa, ab]; rfl, by unfold opsL; rw [pa, aa, ab]; rw [if_neg (by simp), if_pos (by simp), if_neg (by omega), if_neg (by omega)]⟩
            rw [HC.out.1, HC.out.2]
            clear pa aa ab ka kb
            go_enter Tryz.func18, Tryz.ntmps18
            go_wp2_with fail
            go_at_call 37; refine (isPtr_any a ks p n cap w0 _ (HF.out.trans (by (repeat' first | with_reducible exact Fresh.refl _ | with_reducible assumption | with_reducible refine Fresh.alloc ?_ _ _ | with_reducible refine Fresh.drew ?_ | with_reducible refine Fresh.drewN ?_ _ | with_reducible refine Fresh.setCell ?_ ?_ _ | with_reducible refine Fresh.trans ?_ (by assumption) | (simp; done) | (simp; omega)))) HK.out).mono ?_; rintro e w1 ⟨rfl, h1⟩; rw [HPA.out]; have X1 := Lib.hid (X0.out.later h1); clear h1
            obtain ⟨a0, a1, a2, a3, a4, a5, af⟩ := X1.out.ba; have az := cell_lt a0; simp only at az
            go_wp2_with fail
            go_at_call 36; refine (isArith_any a ks p n cap w0 _ (HF.out.trans X1.out.fr) HK.out).mono ?_; rintro e w2 ⟨rfl, h2⟩; rw [HAA.out]; have X2 := Lib.hid (X1.out.later h2); clear h2
            clear a0 a1 a2 a3 a4 a5 af az
            obtain ⟨b0, b1, b2, b3, b4, b5, bf⟩ := X2.out.bb; have bz := cell_lt b0; simp only at bz
            go_wp2_with fail
            go_at_call 36; refine (isArith_any b js q m mc w0 _ (HF.out.trans X2.out.fr) HJ.out).mono ?_; rintro e w3 ⟨rfl, h3⟩; rw [HAB.out]; have X3 := Lib.hid (X2.out.later h3); clear h3
            clear b0 b1 b2 b3 b4 b5 bf bz
            obtain ⟨a0, a1, a2, a3, a4, a5, af⟩ := X3.out.ba; have az := cell_lt a0; simp only at az
            go_wp2_with fail
            go_at_call 32; refine (view3 a p n cap _ HKA.out).mono ?_; rintro e w4 ⟨rfl, h4⟩; have X4 := Lib.hid (X3.out.later h4); clear h4
            clear a0 a1 a2 a3 a4 a5 af az
            obtain ⟨b0, b1, b2, b3, b4, b5, bf⟩ := X4.out.bb; have bz := cell_lt b0; simp only at bz
            go_wp2_with fail
            go_at_call 32; refine (view3 b q m mc _ HKB.out).mono ?_; rintro e w5 ⟨rfl, h5⟩; have X5 := Lib.hid ((X4.out.later ((Fresh.refl _).alloc #[.int .i64 0, .bool false] 36)).later h5); have H5 := Lib.hid h5; have hz5 := X5.out.lo; clear h5
            clear b0 b1 b2 b3 b4 b5 bf bz
            go_wp2_with fail
            go_returns
            exact ⟨⟨_, rfl, Ints.nil ..⟩, X5.out.fr.trans (by (repeat' first | with_reducible exact Fresh.refl _ | with_reducible assumption | with_reducible refine Fresh.alloc ?_ _ _ | with_reducible refine Fresh.drew ?_ | with_reducible refine Fresh.drewN ?_ _ | with_reducible refine Fresh.setCell ?_ ?_ _ | with_reducible refine Fresh.trans ?_ (by assumption) | (simp; done) | (simp; omega)))⟩
  · have HPA := Lib.hid pa
    cases pb : isPtr b
    · have HPB := Lib.hid pb
      have aa : isArith a = false := by unfold isArith; unfold isPtr at pa; simp at pa; simp [pa]
      have HAA := Lib.hid aa
      have HC : Hid (opsOk a b = false ∧ opsL a b = []) := Lib.hid ⟨by unfold opsOk; rw [pa, pb, aa]; rfl, by unfold opsL; rw [pa, pb, aa]; rfl⟩
      rw [HC.out.1, HC.out.2]
      clear pa pb aa
      go_enter Tryz.func18, Tryz.ntmps18
      go_wp2_with fail
      go_at_call 37; refine (isPtr_any a ks p n cap w0 _ (HF.out.trans (by (repeat' first | with_reducible exact Fresh.refl _ | with_reducible assumption | with_reducible refine Fresh.alloc ?_ _ _ | with_reducible refine Fresh.drew ?_ | with_reducible refine Fresh.drewN ?_ _ | with_reducible refine Fresh.setCell ?_ ?_ _ | with_reducible refine Fresh.trans ?_ (by assumption) | (simp; done) | (simp; omega)))) HK.out).mono ?_; rintro e w1 ⟨rfl, h1⟩; rw [HPA.out]; have X1 := Lib.hid (X0.out.later h1); clear h1
      obtain ⟨b0, b1, b2, b3, b4, b5, bf⟩ := X1.out.bb; have bz := cell_lt b0; simp only at bz
      go_wp2_with fail
      go_at_call 37; refine (isPtr_any b js q m mc w0 _ (HF.out.trans X1.out.fr) HJ.out).mono ?_; rintro e w2 ⟨rfl, h2⟩; rw [HPB.out]; have X2 := Lib.hid (X1.out.later h2); clear h2
      clear b0 b1 b2 b3 b4 b5 bf bz
      obtain ⟨a0, a1, a2, a3, a4, a5, af⟩ := X2.out.ba; have az := cell_lt a0; simp only at az
      go_wp2_with fail
      go_at_call 36; refine (isArith_any a ks p n cap w0 _ (HF.out.trans X2.out.fr) HK.out).mono ?_; rintro e w3 ⟨rfl, h3⟩; rw [HAA.out]; have X3 := Lib.hid (X2.out.later h3); clear h3
      clear a0 a1 a2 a3 a4 a5 af az
      go_wp2_with fail
      go_returns
      exact ⟨⟨_, rfl, Ints.nil ..⟩, X3.out.fr⟩
    · have HPB := Lib.hid pb
      have HC : Hid (opsOk a b = true ∧ opsL a b = []) := Lib.hid ⟨by unfold opsOk; rw [pa, pb]; rfl, by unfold opsL; rw [pa, pb]; rfl⟩
      rw [HC.out.1, HC.out.2]
      clear pa pb
      go_enter Tryz.func18, Tryz.ntmps18
      go_wp2_with fail
      go_at_call 37; refine (isPtr_any a ks p n cap w0 _ (HF.out.trans (by (repeat' first | with_reducible exact Fresh.refl _ | with_reducible assumption | with_reducible refine Fresh.alloc ?_ _ _ | with_reducible refine Fresh.drew ?_ | with_reducible refine Fresh.drewN ?_ _ | with_reducible refine Fresh.setCell ?_ ?_ _ | with_reducible refine Fresh.trans ?_ (by assumption) | (simp; done) | (simp; omega)))) HK.out).mono ?_; rintro e w1 ⟨rfl, h1⟩; rw [HPA.out]; have X1 := Lib.hid (X0.out.later h1); clear h1
      obtain ⟨b0, b1, b2, b3, b4, b5, bf⟩ := X1.out.bb; have bz := cell_lt b0; simp only at bz
      go_wp2_with fail
      go_at_call 37; refine (isPtr_any b js q m mc w0 _ (HF.out.trans X1.out.fr) HJ.out).mono ?_; rintro e w2 ⟨rfl, h2⟩; rw [HPB.out]; have X2 := Lib.hid (X1.out.later h2); clear h2
      clear b0 b1 b2 b3 b4 b5 bf bz
      go_wp2_with fail
      go_returns
      exact ⟨⟨_, rfl, Ints.nil ..⟩, X2.out.fr⟩
end
end Go.Proofs.YteiomcbphbbpkaaGreatDoor
