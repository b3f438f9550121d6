/- The common type of two. -/
import Derived.Test.YteiomcbphbbpkaaGreatDoorCm
namespace Go.Proofs.YteiomcbphbbpkaaGreatDoor
set_option linter.unusedSimpArgs false
set_option linter.unusedVariables false
open Go.RowKit
variable {ok : Nat → Prop}

attribute [local go_sem] as_87_87 as_87_36 as_87_45 as_87_56 as_87_66 as_87_58 as_87_94 as_36_87 as_36_36 as_36_45 as_36_56 as_36_66 as_36_58 as_36_94 as_45_87 as_45_36 as_45_45 as_45_56 as_45_66 as_45_58 as_45_94 as_56_87 as_56_36 as_56_45 as_56_56 as_56_66 as_56_58 as_56_94 as_66_87 as_66_36 as_66_45 as_66_56 as_66_66 as_66_58 as_66_94 as_58_87 as_58_36 as_58_45 as_58_56 as_58_66 as_58_58 as_58_94 as_94_87 as_94_36 as_94_45 as_94_56 as_94_66 as_94_58 as_94_94 as_nil_87 as_nil_36 as_nil_45 as_nil_56 as_nil_66 as_nil_58 as_nil_94
def comHd (a b : Hd) : Hd :=
  if isArith a && isArith b then
    (if (pro a).kind = 2 ∧ (pro b).kind = 2 then
      (if (pro a).size < (pro b).size ∨ ((pro b).size = (pro a).size ∧ (pro b).flag = true) then numHd (pro b).size (pro b).flag else numHd (pro a).size (pro a).flag)
    else hd1 3)
  else Hd.zero
def comOk (a b : Hd) : Bool := isArith a && isArith b
theorem arith_kind {a : Hd} (h : isArith a = true) : (pro a).kind = 2 ∨ (pro a).kind = 3 := by
  unfold isArith chunkOf at h
  unfold pro
  by_cases hs : isSmall a = true
  · rw [if_pos hs]; exact Or.inl rfl
  · rw [if_neg hs]
    by_cases h2 : a.kind = 2
    · exact Or.inl h2
    · by_cases h3 : a.kind = 3
      · exact Or.inr h3
      · exfalso
        rw [if_neg h2, if_neg h3] at h
        by_cases h4 : a.kind = 4
        · simp [h4] at h
        · simp [h4] at h
@[reducible] def X3 (w : World) (a b : Hd) (p q : Option Addr) (n m cap mc : Nat) : World := ((w.alloc (.cells #[.int .i64 a.kind, .int .i64 a.size, .int .i64 a.len, .bool a.flag, .string a.name, .slice p n cap] 25)).alloc (.cells #[.int .i64 b.kind, .int .i64 b.size, .int .i64 b.len, .bool b.flag, .string b.name, .slice q m mc] 25)).alloc (.cells #[.int .i64 0, .int .i64 0, .int .i64 0, .bool false, .string ⟨#[]⟩, .slice none 0 0] 25)
/-- The boxes and the result's cell. -/
structure BX (w X : World) (a b : Hd) (p q : Option Addr) (n m cap mc : Nat) : Prop where
  fr : Fresh w X
  lo : w.heap.size + 3 ≤ X.heap.size
  ba : B6 X w.heap.size (.int .i64 a.kind) (.int .i64 a.size) (.int .i64 a.len) (.bool a.flag) (.string a.name) (.slice p n cap)
  bb : B6 X (w.heap.size + 1) (.int .i64 b.kind) (.int .i64 b.size) (.int .i64 b.len) (.bool b.flag) (.string b.name) (.slice q m mc)
  res : B6 X (w.heap.size + 1 + 1) (.int .i64 0) (.int .i64 0) (.int .i64 0) (.bool false) (.string ⟨#[]⟩) (.slice none 0 0)
theorem BX.new (w : World) (a b : Hd) (p q : Option Addr) (n m cap mc : Nat) : BX w (X3 w a b p q n m cap mc) a b p q n m cap mc := by
  refine ⟨(by (repeat' first | with_reducible exact Fresh.refl _ | with_reducible assumption | with_reducible refine Fresh.alloc ?_ _ _ | with_reducible refine Fresh.drew ?_ | with_reducible refine Fresh.drewN ?_ _ | with_reducible refine Fresh.setCell ?_ ?_ _ | with_reducible refine Fresh.trans ?_ (by assumption) | (simp; done) | (simp; omega))), by simp, ?_, ?_, ?_⟩
  · exact ((Blk.new w _ 25).six.fresh ((Fresh.refl _).alloc _ _)).fresh ((Fresh.refl _).alloc _ _)
  · have := (Blk.new (w.alloc (.cells #[.int .i64 a.kind, .int .i64 a.size, .int .i64 a.len, .bool a.flag, .string a.name, .slice p n cap] 25)) #[.int .i64 b.kind, .int .i64 b.size, .int .i64 b.len, .bool b.flag, .string b.name, .slice q m mc] 25).six.fresh ((Fresh.refl _).alloc #[.int .i64 0, .int .i64 0, .int .i64 0, .bool false, .string ⟨#[]⟩, .slice none 0 0] 25)
    simpa only [World.size_alloc] using this
  · have := (Blk.new ((w.alloc (.cells #[.int .i64 a.kind, .int .i64 a.size, .int .i64 a.len, .bool a.flag, .string a.name, .slice p n cap] 25)).alloc (.cells #[.int .i64 b.kind, .int .i64 b.size, .int .i64 b.len, .bool b.flag, .string b.name, .slice q m mc] 25)) #[.int .i64 0, .int .i64 0, .int .i64 0, .bool false, .string ⟨#[]⟩, .slice none 0 0] 25).six
    simpa only [World.size_alloc] using this
theorem BX.later {w X Y : World} {a b : Hd} {p q : Option Addr} {n m cap mc : Nat} (h : BX w X a b p q n m cap mc) (hf : Fresh X Y) : BX w Y a b p q n m cap mc :=
  ⟨h.fr.trans hf, Nat.le_trans h.lo hf.size, h.ba.fresh hf, h.bb.fresh hf, h.res.fresh hf⟩
section
variable {ok ok2 : Nat → Prop} (a b : Hd) (ks js : Tys) (p q : Option Addr) (n m cap mc : Nat) (w0 w : World) (hf : Fresh w0 w) (hks : Kids ok w0 ks p n cap) (hjs : Kids ok2 w0 js q m mc) (hs : ks.small ∧ ks.length ≤ 9) (hs2 : js.small ∧ js.length ≤ 9)
include hf hks hjs hs hs2
set_option maxHeartbeats 4000000 in
theorem common_any : Calls Tryz.prog 17 #[.agg #[.int .i64 a.kind, .int .i64 a.size, .int .i64 a.len, .bool a.flag, .string a.name, .slice p n cap], .agg #[.int .i64 b.kind, .int .i64 b.size, .int .i64 b.len, .bool b.flag, .string b.name, .slice q m mc]] w
    fun e w' => e = .returned (.tuple #[.agg #[.int .i64 (comHd a b).kind, .int .i64 (comHd a b).size, .int .i64 (comHd a b).len, .bool (comHd a b).flag, .string (comHd a b).name, .slice none 0 0], .bool (comOk a b)]) ∧ Fresh w w' := by
  have HK := Lib.hid hks
  have HJ := Lib.hid hjs
  have HF := Lib.hid hf
  have HS := Lib.hid hs
  have HS2 := Lib.hid hs2
  clear hks hjs hf hs hs2
  have X0 := Lib.hid (BX.new w a b p q n m cap mc)
  cases ha : isArith a
  · have HA := Lib.hid ha
    have HC : Hid (comHd a b = Hd.zero ∧ comOk a b = false) := Lib.hid ⟨by unfold comHd; rw [ha]; rfl, by unfold comOk; rw [ha]; rfl⟩
    clear ha
    rw [HC.out.1, HC.out.2]
    go_enter Tryz.func17, Tryz.ntmps17
    go_wp2_with fail
    go_at_call 36; refine (isArith_any a ks p n cap w0 _ (HF.out.trans (by (repeat' first | with_reducible exact Fresh.refl _ | with_reducible assumption | with_reducible refine Fresh.alloc ?_ _ _ | with_reducible refine Fresh.drew ?_ | with_reducible refine Fresh.drewN ?_ _ | with_reducible refine Fresh.setCell ?_ ?_ _ | with_reducible refine Fresh.trans ?_ (by assumption) | (simp; done) | (simp; omega)))) HK.out).mono ?_; rintro e w1 ⟨rfl, h1⟩; rw [HA.out]; have X1 := Lib.hid (X0.out.later h1); clear h1
    obtain ⟨r0, r1, r2, r3, r4, r5, rf⟩ := X1.out.res; have rz := cell_lt r0; simp only at rz
    go_wp2_with fail
    refine bodyPost_ret (v := ?_) ?_ rfl ?_; rotate_left 1; focus (simp [results, Tryz.results17, go_sem, *]; (try rfl); done)
    exact ⟨rfl, (by repeat' first | with_reducible refine Fresh.setCell ?_ ?_ _ | exact X1.out.fr | (simp; done) | (simp; omega))⟩
  · have HA := Lib.hid ha
    cases hb : isArith b
    · have HBb := Lib.hid hb
      have HC : Hid (comHd a b = Hd.zero ∧ comOk a b = false) := Lib.hid ⟨by unfold comHd; rw [ha, hb]; rfl, by unfold comOk; rw [ha, hb]; rfl⟩
      clear ha hb
      rw [HC.out.1, HC.out.2]
      go_enter Tryz.func17, Tryz.ntmps17
      go_wp2_with fail
      go_at_call 36; refine (isArith_any a ks p n cap w0 _ (HF.out.trans (by (repeat' first | with_reducible exact Fresh.refl _ | with_reducible assumption | with_reducible refine Fresh.alloc ?_ _ _ | with_reducible refine Fresh.drew ?_ | with_reducible refine Fresh.drewN ?_ _ | with_reducible refine Fresh.setCell ?_ ?_ _ | with_reducible refine Fresh.trans ?_ (by assumption) | (simp; done) | (simp; omega)))) HK.out).mono ?_; rintro e w1 ⟨rfl, h1⟩; rw [HA.out]; have X1 := Lib.hid (X0.out.later h1); clear h1
      obtain ⟨b0, b1, b2, b3, b4, b5, bf⟩ := X1.out.bb; have bz := cell_lt b0; simp only at bz
      go_wp2_with fail
      go_at_call 36; refine (isArith_any b js q m mc w0 _ (HF.out.trans X1.out.fr) HJ.out).mono ?_; rintro e w2 ⟨rfl, h2⟩; rw [HBb.out]; have X2 := Lib.hid (X1.out.later h2); clear h2
      clear b0 b1 b2 b3 b4 b5 bf bz
      obtain ⟨r0, r1, r2, r3, r4, r5, rf⟩ := X2.out.res; have rz := cell_lt r0; simp only at rz
      go_wp2_with fail
      refine bodyPost_ret (v := ?_) ?_ rfl ?_; rotate_left 1; focus (simp [results, Tryz.results17, go_sem, *]; (try rfl); done)
      exact ⟨rfl, (by repeat' first | with_reducible refine Fresh.setCell ?_ ?_ _ | exact X2.out.fr | (simp; done) | (simp; omega))⟩
    · have HBb := Lib.hid hb
      have HOk : Hid (comOk a b = true) := Lib.hid (by unfold comOk; rw [ha, hb]; rfl)
      rw [HOk.out]
      rcases arith_kind ha with pa | pa
      · rcases arith_kind hb with pb | pb
        · have HPA := Lib.hid pa
          have HPB := Lib.hid pb
          by_cases hlt : (pro a).size < (pro b).size
          · have HC : Hid (comHd a b = numHd (pro b).size (pro b).flag) := Lib.hid (by unfold comHd; rw [ha, hb, if_pos (show (true && true) = true from rfl), if_pos ⟨pa, pb⟩, if_pos (by first | exact Or.inl hlt | exact Or.inr ⟨heq, hfl⟩)])
            clear pa pb ha hb
            go_enter Tryz.func17, Tryz.ntmps17
            go_wp2_with fail
            go_at_call 36; refine (isArith_any a ks p n cap w0 _ (HF.out.trans (by (repeat' first | with_reducible exact Fresh.refl _ | with_reducible assumption | with_reducible refine Fresh.alloc ?_ _ _ | with_reducible refine Fresh.drew ?_ | with_reducible refine Fresh.drewN ?_ _ | with_reducible refine Fresh.setCell ?_ ?_ _ | with_reducible refine Fresh.trans ?_ (by assumption) | (simp; done) | (simp; omega)))) HK.out).mono ?_; rintro e w1 ⟨rfl, h1⟩; rw [HA.out]; have X1 := Lib.hid (X0.out.later h1); clear h1
            obtain ⟨b0, b1, b2, b3, b4, b5, bf⟩ := X1.out.bb; have bz := cell_lt b0; simp only at bz
            go_wp2_with fail
            go_at_call 36; refine (isArith_any b js q m mc w0 _ (HF.out.trans X1.out.fr) HJ.out).mono ?_; rintro e w2 ⟨rfl, h2⟩; rw [HBb.out]; have X2 := Lib.hid (X1.out.later h2); clear h2
            clear b0 b1 b2 b3 b4 b5 bf bz
            obtain ⟨a0, a1, a2, a3, a4, a5, af⟩ := X2.out.ba; have az := cell_lt a0; simp only at az
            go_wp2_with fail
            go_at_call 25; refine (promote_any a ks p n cap w0 _ (HF.out.trans X2.out.fr) HK.out HS.out.1 HS.out.2).mono ?_; rintro e w3 ⟨⟨p3, n3, cap3, rfl, hk3⟩, h3⟩; have X3h := Lib.hid (X2.out.later h3); have HK3 := Lib.hid hk3; clear hk3 h3
            clear a0 a1 a2 a3 a4 a5 af az
            go_wp2_with fail
            go_at_call 32; refine (view2 (pro a) p3 n3 cap3 _ HPA.out).mono ?_; rintro e w4 ⟨rfl, h4⟩; have X4 := Lib.hid (X3h.out.later h4); clear h4
            obtain ⟨b0, b1, b2, b3, b4, b5, bf⟩ := X4.out.bb; have bz := cell_lt b0; simp only at bz
            go_wp2_with fail
            go_at_call 25; refine (promote_any b js q m mc w0 _ (HF.out.trans (X4.out.fr.trans (by (repeat' first | with_reducible exact Fresh.refl _ | with_reducible assumption | with_reducible refine Fresh.alloc ?_ _ _ | with_reducible refine Fresh.drew ?_ | with_reducible refine Fresh.drewN ?_ _ | with_reducible refine Fresh.setCell ?_ ?_ _ | with_reducible refine Fresh.trans ?_ (by assumption) | (simp; done) | (simp; omega))))) HJ.out HS2.out.1 HS2.out.2).mono ?_; rintro e w5 ⟨⟨p5, n5, cap5, rfl, hk5⟩, h5⟩; have X5 := Lib.hid ((X4.out.later ((Fresh.refl _).alloc #[.int .i64 (pro a).size, .bool (pro a).flag] 36)).later h5); have H5 := Lib.hid h5; have HK5 := Lib.hid hk5; clear hk5 h5
            clear b0 b1 b2 b3 b4 b5 bf bz
            go_wp2_with fail
            go_at_call 32; refine (view2 (pro b) p5 n5 cap5 _ HPB.out).mono ?_; rintro e w6 ⟨rfl, h6⟩; have X6 := Lib.hid (X5.out.later h6); have H6 := Lib.hid h6; clear h6
            have t6 := ((Blk.new w4 #[.int .i64 (pro a).size, .bool (pro a).flag] 36).fresh H5.out).fresh H6.out
            have g0 := t6.1 0 _ rfl
            have g1 := t6.1 1 _ rfl
            have gz := t6.2.2
            clear t6
            go_wp2_with fail
            go_at_call 8; refine (numT_any (pro b).size (pro b).flag _).mono ?_; rintro e w7 ⟨rfl, h7⟩; have X7 := Lib.hid ((X6.out.later ((Fresh.refl _).alloc #[.int .i64 (pro b).size, .bool (pro b).flag] 36)).later h7); clear h7
            obtain ⟨r0, r1, r2, r3, r4, r5, rf⟩ := X7.out.res; have rz := cell_lt r0; simp only at rz
            clear g0 g1 gz
            go_wp2_with fail
            refine bodyPost_ret (v := ?_) ?_ rfl ?_; rotate_left 1; focus (simp [results, Tryz.results17, go_sem, *]; (try rfl); done)
            rw [HC.out]
            exact ⟨rfl, (by repeat' first | with_reducible refine Fresh.setCell ?_ ?_ _ | exact X7.out.fr | (simp; done) | (simp; omega))⟩
          · by_cases heq : (pro b).size = (pro a).size
            · cases hfl : (pro b).flag
              · have HC : Hid (comHd a b = numHd (pro a).size (pro a).flag) := Lib.hid (by unfold comHd; rw [ha, hb, if_pos (show (true && true) = true from rfl), if_pos ⟨pa, pb⟩, if_neg (by intro hh; rcases hh with h | ⟨h, h'⟩ <;> first | omega | exact hne h | (rw [hfl] at h'; cases h'))])
                have q1 : ((pro b).size == (pro a).size) = true := by simpa using heq
                have HFL := Lib.hid hfl
                have hge : (pro b).size ≤ (pro a).size := by omega
                clear pa pb ha hb heq hfl
                go_enter Tryz.func17, Tryz.ntmps17
                go_wp2_with fail
                go_at_call 36; refine (isArith_any a ks p n cap w0 _ (HF.out.trans (by (repeat' first | with_reducible exact Fresh.refl _ | with_reducible assumption | with_reducible refine Fresh.alloc ?_ _ _ | with_reducible refine Fresh.drew ?_ | with_reducible refine Fresh.drewN ?_ _ | with_reducible refine Fresh.setCell ?_ ?_ _ | with_reducible refine Fresh.trans ?_ (by assumption) | (simp; done) | (simp; omega)))) HK.out).mono ?_; rintro e w1 ⟨rfl, h1⟩; rw [HA.out]; have X1 := Lib.hid (X0.out.later h1); clear h1
                obtain ⟨b0, b1, b2, b3, b4, b5, bf⟩ := X1.out.bb; have bz := cell_lt b0; simp only at bz
                go_wp2_with fail
                go_at_call 36; refine (isArith_any b js q m mc w0 _ (HF.out.trans X1.out.fr) HJ.out).mono ?_; rintro e w2 ⟨rfl, h2⟩; rw [HBb.out]; have X2 := Lib.hid (X1.out.later h2); clear h2
                clear b0 b1 b2 b3 b4 b5 bf bz
                obtain ⟨a0, a1, a2, a3, a4, a5, af⟩ := X2.out.ba; have az := cell_lt a0; simp only at az
                go_wp2_with fail
                go_at_call 25; refine (promote_any a ks p n cap w0 _ (HF.out.trans X2.out.fr) HK.out HS.out.1 HS.out.2).mono ?_; rintro e w3 ⟨⟨p3, n3, cap3, rfl, hk3⟩, h3⟩; have X3h := Lib.hid (X2.out.later h3); have HK3 := Lib.hid hk3; clear hk3 h3
                clear a0 a1 a2 a3 a4 a5 af az
                go_wp2_with fail
                go_at_call 32; refine (view2 (pro a) p3 n3 cap3 _ HPA.out).mono ?_; rintro e w4 ⟨rfl, h4⟩; have X4 := Lib.hid (X3h.out.later h4); clear h4
                obtain ⟨b0, b1, b2, b3, b4, b5, bf⟩ := X4.out.bb; have bz := cell_lt b0; simp only at bz
                go_wp2_with fail
                go_at_call 25; refine (promote_any b js q m mc w0 _ (HF.out.trans (X4.out.fr.trans (by (repeat' first | with_reducible exact Fresh.refl _ | with_reducible assumption | with_reducible refine Fresh.alloc ?_ _ _ | with_reducible refine Fresh.drew ?_ | with_reducible refine Fresh.drewN ?_ _ | with_reducible refine Fresh.setCell ?_ ?_ _ | with_reducible refine Fresh.trans ?_ (by assumption) | (simp; done) | (simp; omega))))) HJ.out HS2.out.1 HS2.out.2).mono ?_; rintro e w5 ⟨⟨p5, n5, cap5, rfl, hk5⟩, h5⟩; have X5 := Lib.hid ((X4.out.later ((Fresh.refl _).alloc #[.int .i64 (pro a).size, .bool (pro a).flag] 36)).later h5); have H5 := Lib.hid h5; have HK5 := Lib.hid hk5; clear hk5 h5
                clear b0 b1 b2 b3 b4 b5 bf bz
                go_wp2_with fail
                go_at_call 32; refine (view2 (pro b) p5 n5 cap5 _ HPB.out).mono ?_; rintro e w6 ⟨rfl, h6⟩; have X6 := Lib.hid (X5.out.later h6); have H6 := Lib.hid h6; clear h6
                have hfl2 := HFL.out
                simp only [hfl2]
                have t6 := ((Blk.new w4 #[.int .i64 (pro a).size, .bool (pro a).flag] 36).fresh H5.out).fresh H6.out
                have g0 := t6.1 0 _ rfl
                have g1 := t6.1 1 _ rfl
                have gz := t6.2.2
                clear t6
                go_wp2_with fail
                go_at_call 8; refine (numT_any (pro a).size (pro a).flag _).mono ?_; rintro e w7 ⟨rfl, h7⟩; have X7 := Lib.hid ((X6.out.later ((Fresh.refl _).alloc #[.int .i64 (pro b).size, .bool false] 36)).later h7); clear h7
                obtain ⟨r0, r1, r2, r3, r4, r5, rf⟩ := X7.out.res; have rz := cell_lt r0; simp only at rz
                clear g0 g1 gz
                go_wp2_with fail
                refine bodyPost_ret (v := ?_) ?_ rfl ?_; rotate_left 1; focus (simp [results, Tryz.results17, go_sem, *]; (try rfl); done)
                rw [HC.out]
                exact ⟨rfl, (by repeat' first | with_reducible refine Fresh.setCell ?_ ?_ _ | exact X7.out.fr | (simp; done) | (simp; omega))⟩
              · have HC : Hid (comHd a b = numHd (pro b).size true) := Lib.hid (by unfold comHd; rw [ha, hb, if_pos (show (true && true) = true from rfl), if_pos ⟨pa, pb⟩, if_pos (by first | exact Or.inl hlt | exact Or.inr ⟨heq, hfl⟩), hfl])
                have q1 : ((pro b).size == (pro a).size) = true := by simpa using heq
                have HFL := Lib.hid hfl
                have hge : (pro b).size ≤ (pro a).size := by omega
                clear pa pb ha hb heq hfl
                go_enter Tryz.func17, Tryz.ntmps17
                go_wp2_with fail
                go_at_call 36; refine (isArith_any a ks p n cap w0 _ (HF.out.trans (by (repeat' first | with_reducible exact Fresh.refl _ | with_reducible assumption | with_reducible refine Fresh.alloc ?_ _ _ | with_reducible refine Fresh.drew ?_ | with_reducible refine Fresh.drewN ?_ _ | with_reducible refine Fresh.setCell ?_ ?_ _ | with_reducible refine Fresh.trans ?_ (by assumption) | (simp; done) | (simp; omega)))) HK.out).mono ?_; rintro e w1 ⟨rfl, h1⟩; rw [HA.out]; have X1 := Lib.hid (X0.out.later h1); clear h1
                obtain ⟨b0, b1, b2, b3, b4, b5, bf⟩ := X1.out.bb; have bz := cell_lt b0; simp only at bz
                go_wp2_with fail
                go_at_call 36; refine (isArith_any b js q m mc w0 _ (HF.out.trans X1.out.fr) HJ.out).mono ?_; rintro e w2 ⟨rfl, h2⟩; rw [HBb.out]; have X2 := Lib.hid (X1.out.later h2); clear h2
                clear b0 b1 b2 b3 b4 b5 bf bz
                obtain ⟨a0, a1, a2, a3, a4, a5, af⟩ := X2.out.ba; have az := cell_lt a0; simp only at az
                go_wp2_with fail
                go_at_call 25; refine (promote_any a ks p n cap w0 _ (HF.out.trans X2.out.fr) HK.out HS.out.1 HS.out.2).mono ?_; rintro e w3 ⟨⟨p3, n3, cap3, rfl, hk3⟩, h3⟩; have X3h := Lib.hid (X2.out.later h3); have HK3 := Lib.hid hk3; clear hk3 h3
                clear a0 a1 a2 a3 a4 a5 af az
                go_wp2_with fail
                go_at_call 32; refine (view2 (pro a) p3 n3 cap3 _ HPA.out).mono ?_; rintro e w4 ⟨rfl, h4⟩; have X4 := Lib.hid (X3h.out.later h4); clear h4
                obtain ⟨b0, b1, b2, b3, b4, b5, bf⟩ := X4.out.bb; have bz := cell_lt b0; simp only at bz
                go_wp2_with fail
                go_at_call 25; refine (promote_any b js q m mc w0 _ (HF.out.trans (X4.out.fr.trans (by (repeat' first | with_reducible exact Fresh.refl _ | with_reducible assumption | with_reducible refine Fresh.alloc ?_ _ _ | with_reducible refine Fresh.drew ?_ | with_reducible refine Fresh.drewN ?_ _ | with_reducible refine Fresh.setCell ?_ ?_ _ | with_reducible refine Fresh.trans ?_ (by assumption) | (simp; done) | (simp; omega))))) HJ.out HS2.out.1 HS2.out.2).mono ?_; rintro e w5 ⟨⟨p5, n5, cap5, rfl, hk5⟩, h5⟩; have X5 := Lib.hid ((X4.out.later ((Fresh.refl _).alloc #[.int .i64 (pro a).size, .bool (pro a).flag] 36)).later h5); have H5 := Lib.hid h5; have HK5 := Lib.hid hk5; clear hk5 h5
                clear b0 b1 b2 b3 b4 b5 bf bz
                go_wp2_with fail
                go_at_call 32; refine (view2 (pro b) p5 n5 cap5 _ HPB.out).mono ?_; rintro e w6 ⟨rfl, h6⟩; have X6 := Lib.hid (X5.out.later h6); have H6 := Lib.hid h6; clear h6
                have hfl2 := HFL.out
                simp only [hfl2]
                have t6 := ((Blk.new w4 #[.int .i64 (pro a).size, .bool (pro a).flag] 36).fresh H5.out).fresh H6.out
                have g0 := t6.1 0 _ rfl
                have g1 := t6.1 1 _ rfl
                have gz := t6.2.2
                clear t6
                go_wp2_with fail
                go_at_call 8; refine (numT_any (pro b).size true _).mono ?_; rintro e w7 ⟨rfl, h7⟩; have X7 := Lib.hid ((X6.out.later ((Fresh.refl _).alloc #[.int .i64 (pro b).size, .bool true] 36)).later h7); clear h7
                obtain ⟨r0, r1, r2, r3, r4, r5, rf⟩ := X7.out.res; have rz := cell_lt r0; simp only at rz
                clear g0 g1 gz
                go_wp2_with fail
                refine bodyPost_ret (v := ?_) ?_ rfl ?_; rotate_left 1; focus (simp [results, Tryz.results17, go_sem, *]; (try rfl); done)
                rw [HC.out]
                exact ⟨rfl, (by repeat' first | with_reducible refine Fresh.setCell ?_ ?_ _ | exact X7.out.fr | (simp; done) | (simp; omega))⟩
            · have hne := heq
              have HC : Hid (comHd a b = numHd (pro a).size (pro a).flag) := Lib.hid (by unfold comHd; rw [ha, hb, if_pos (show (true && true) = true from rfl), if_pos ⟨pa, pb⟩, if_neg (by intro hh; rcases hh with h | ⟨h, h'⟩ <;> first | omega | exact hne h)])
              have q1 : ((pro b).size == (pro a).size) = false := by simpa using heq
              have hge : (pro b).size ≤ (pro a).size := by omega
              clear pa pb ha hb heq hne
              go_enter Tryz.func17, Tryz.ntmps17
              go_wp2_with fail
              go_at_call 36; refine (isArith_any a ks p n cap w0 _ (HF.out.trans (by (repeat' first | with_reducible exact Fresh.refl _ | with_reducible assumption | with_reducible refine Fresh.alloc ?_ _ _ | with_reducible refine Fresh.drew ?_ | with_reducible refine Fresh.drewN ?_ _ | with_reducible refine Fresh.setCell ?_ ?_ _ | with_reducible refine Fresh.trans ?_ (by assumption) | (simp; done) | (simp; omega)))) HK.out).mono ?_; rintro e w1 ⟨rfl, h1⟩; rw [HA.out]; have X1 := Lib.hid (X0.out.later h1); clear h1
              obtain ⟨b0, b1, b2, b3, b4, b5, bf⟩ := X1.out.bb; have bz := cell_lt b0; simp only at bz
              go_wp2_with fail
              go_at_call 36; refine (isArith_any b js q m mc w0 _ (HF.out.trans X1.out.fr) HJ.out).mono ?_; rintro e w2 ⟨rfl, h2⟩; rw [HBb.out]; have X2 := Lib.hid (X1.out.later h2); clear h2
              clear b0 b1 b2 b3 b4 b5 bf bz
              obtain ⟨a0, a1, a2, a3, a4, a5, af⟩ := X2.out.ba; have az := cell_lt a0; simp only at az
              go_wp2_with fail
              go_at_call 25; refine (promote_any a ks p n cap w0 _ (HF.out.trans X2.out.fr) HK.out HS.out.1 HS.out.2).mono ?_; rintro e w3 ⟨⟨p3, n3, cap3, rfl, hk3⟩, h3⟩; have X3h := Lib.hid (X2.out.later h3); have HK3 := Lib.hid hk3; clear hk3 h3
              clear a0 a1 a2 a3 a4 a5 af az
              go_wp2_with fail
              go_at_call 32; refine (view2 (pro a) p3 n3 cap3 _ HPA.out).mono ?_; rintro e w4 ⟨rfl, h4⟩; have X4 := Lib.hid (X3h.out.later h4); clear h4
              obtain ⟨b0, b1, b2, b3, b4, b5, bf⟩ := X4.out.bb; have bz := cell_lt b0; simp only at bz
              go_wp2_with fail
              go_at_call 25; refine (promote_any b js q m mc w0 _ (HF.out.trans (X4.out.fr.trans (by (repeat' first | with_reducible exact Fresh.refl _ | with_reducible assumption | with_reducible refine Fresh.alloc ?_ _ _ | with_reducible refine Fresh.drew ?_ | with_reducible refine Fresh.drewN ?_ _ | with_reducible refine Fresh.setCell ?_ ?_ _ | with_reducible refine Fresh.trans ?_ (by assumption) | (simp; done) | (simp; omega))))) HJ.out HS2.out.1 HS2.out.2).mono ?_; rintro e w5 ⟨⟨p5, n5, cap5, rfl, hk5⟩, h5⟩; have X5 := Lib.hid ((X4.out.later ((Fresh.refl _).alloc #[.int .i64 (pro a).size, .bool (pro a).flag] 36)).later h5); have H5 := Lib.hid h5; have HK5 := Lib.hid hk5; clear hk5 h5
              clear b0 b1 b2 b3 b4 b5 bf bz
              go_wp2_with fail
              go_at_call 32; refine (view2 (pro b) p5 n5 cap5 _ HPB.out).mono ?_; rintro e w6 ⟨rfl, h6⟩; have X6 := Lib.hid (X5.out.later h6); have H6 := Lib.hid h6; clear h6
              have t6 := ((Blk.new w4 #[.int .i64 (pro a).size, .bool (pro a).flag] 36).fresh H5.out).fresh H6.out
              have g0 := t6.1 0 _ rfl
              have g1 := t6.1 1 _ rfl
              have gz := t6.2.2
              clear t6
              go_wp2_with fail
              go_at_call 8; refine (numT_any (pro a).size (pro a).flag _).mono ?_; rintro e w7 ⟨rfl, h7⟩; have X7 := Lib.hid ((X6.out.later ((Fresh.refl _).alloc #[.int .i64 (pro b).size, .bool (pro b).flag] 36)).later h7); clear h7
              obtain ⟨r0, r1, r2, r3, r4, r5, rf⟩ := X7.out.res; have rz := cell_lt r0; simp only at rz
              clear g0 g1 gz
              go_wp2_with fail
              refine bodyPost_ret (v := ?_) ?_ rfl ?_; rotate_left 1; focus (simp [results, Tryz.results17, go_sem, *]; (try rfl); done)
              rw [HC.out]
              exact ⟨rfl, (by repeat' first | with_reducible refine Fresh.setCell ?_ ?_ _ | exact X7.out.fr | (simp; done) | (simp; omega))⟩
        · have HPA := Lib.hid pa
          have HPB := Lib.hid pb
          have HC : Hid (comHd a b = hd1 3) := Lib.hid (by unfold comHd; rw [ha, hb, if_pos (show (true && true) = true from rfl), if_neg (by omega)])
          clear pa pb ha hb
          go_enter Tryz.func17, Tryz.ntmps17
          go_wp2_with fail
          go_at_call 36; refine (isArith_any a ks p n cap w0 _ (HF.out.trans (by (repeat' first | with_reducible exact Fresh.refl _ | with_reducible assumption | with_reducible refine Fresh.alloc ?_ _ _ | with_reducible refine Fresh.drew ?_ | with_reducible refine Fresh.drewN ?_ _ | with_reducible refine Fresh.setCell ?_ ?_ _ | with_reducible refine Fresh.trans ?_ (by assumption) | (simp; done) | (simp; omega)))) HK.out).mono ?_; rintro e w1 ⟨rfl, h1⟩; rw [HA.out]; have X1 := Lib.hid (X0.out.later h1); clear h1
          obtain ⟨b0, b1, b2, b3, b4, b5, bf⟩ := X1.out.bb; have bz := cell_lt b0; simp only at bz
          go_wp2_with fail
          go_at_call 36; refine (isArith_any b js q m mc w0 _ (HF.out.trans X1.out.fr) HJ.out).mono ?_; rintro e w2 ⟨rfl, h2⟩; rw [HBb.out]; have X2 := Lib.hid (X1.out.later h2); clear h2
          clear b0 b1 b2 b3 b4 b5 bf bz
          obtain ⟨a0, a1, a2, a3, a4, a5, af⟩ := X2.out.ba; have az := cell_lt a0; simp only at az
          go_wp2_with fail
          go_at_call 25; refine (promote_any a ks p n cap w0 _ (HF.out.trans X2.out.fr) HK.out HS.out.1 HS.out.2).mono ?_; rintro e w3 ⟨⟨p3, n3, cap3, rfl, hk3⟩, h3⟩; have X3h := Lib.hid (X2.out.later h3); have HK3 := Lib.hid hk3; clear hk3 h3
          clear a0 a1 a2 a3 a4 a5 af az
          go_wp2_with fail
          go_at_call 32; refine (view2 (pro a) p3 n3 cap3 _ HPA.out).mono ?_; rintro e w4 ⟨rfl, h4⟩; have X4 := Lib.hid (X3h.out.later h4); clear h4
          obtain ⟨b0, b1, b2, b3, b4, b5, bf⟩ := X4.out.bb; have bz := cell_lt b0; simp only at bz
          go_wp2_with fail
          go_at_call 25; refine (promote_any b js q m mc w0 _ (HF.out.trans (X4.out.fr.trans (by (repeat' first | with_reducible exact Fresh.refl _ | with_reducible assumption | with_reducible refine Fresh.alloc ?_ _ _ | with_reducible refine Fresh.drew ?_ | with_reducible refine Fresh.drewN ?_ _ | with_reducible refine Fresh.setCell ?_ ?_ _ | with_reducible refine Fresh.trans ?_ (by assumption) | (simp; done) | (simp; omega))))) HJ.out HS2.out.1 HS2.out.2).mono ?_; rintro e w5 ⟨⟨p5, n5, cap5, rfl, hk5⟩, h5⟩; have X5 := Lib.hid ((X4.out.later ((Fresh.refl _).alloc #[.int .i64 (pro a).size, .bool (pro a).flag] 36)).later h5); have H5 := Lib.hid h5; have HK5 := Lib.hid hk5; clear hk5 h5
          clear b0 b1 b2 b3 b4 b5 bf bz
          go_wp2_with fail
          go_at_call 32; refine (view3 (pro b) p5 n5 cap5 _ HPB.out).mono ?_; rintro e w6 ⟨rfl, h6⟩; have X6 := Lib.hid (X5.out.later h6); have H6 := Lib.hid h6; clear h6
          go_wp2_with fail
          go_at_call 12; refine (floatT_any _).mono ?_; rintro e w7 ⟨rfl, h7⟩; have X7 := Lib.hid ((X6.out.later ((Fresh.refl _).alloc #[.int .i64 0, .bool false] 36)).later h7); clear h7
          obtain ⟨r0, r1, r2, r3, r4, r5, rf⟩ := X7.out.res; have rz := cell_lt r0; simp only at rz
          go_wp2_with fail
          refine bodyPost_ret (v := ?_) ?_ rfl ?_; rotate_left 1; focus (simp [results, Tryz.results17, go_sem, *]; (try rfl); done)
          rw [HC.out]
          exact ⟨rfl, (by repeat' first | with_reducible refine Fresh.setCell ?_ ?_ _ | exact X7.out.fr | (simp; done) | (simp; omega))⟩
      · have HPA := Lib.hid pa
        rcases arith_kind hb with pb | pb
        · have HPB := Lib.hid pb
          have HC : Hid (comHd a b = hd1 3) := Lib.hid (by unfold comHd; rw [ha, hb, if_pos (show (true && true) = true from rfl), if_neg (by omega)])
          clear pa pb ha hb
          go_enter Tryz.func17, Tryz.ntmps17
          go_wp2_with fail
          go_at_call 36; refine (isArith_any a ks p n cap w0 _ (HF.out.trans (by (repeat' first | with_reducible exact Fresh.refl _ | with_reducible assumption | with_reducible refine Fresh.alloc ?_ _ _ | with_reducible refine Fresh.drew ?_ | with_reducible refine Fresh.drewN ?_ _ | with_reducible refine Fresh.setCell ?_ ?_ _ | with_reducible refine Fresh.trans ?_ (by assumption) | (simp; done) | (simp; omega)))) HK.out).mono ?_; rintro e w1 ⟨rfl, h1⟩; rw [HA.out]; have X1 := Lib.hid (X0.out.later h1); clear h1
          obtain ⟨b0, b1, b2, b3, b4, b5, bf⟩ := X1.out.bb; have bz := cell_lt b0; simp only at bz
          go_wp2_with fail
          go_at_call 36; refine (isArith_any b js q m mc w0 _ (HF.out.trans X1.out.fr) HJ.out).mono ?_; rintro e w2 ⟨rfl, h2⟩; rw [HBb.out]; have X2 := Lib.hid (X1.out.later h2); clear h2
          clear b0 b1 b2 b3 b4 b5 bf bz
          obtain ⟨a0, a1, a2, a3, a4, a5, af⟩ := X2.out.ba; have az := cell_lt a0; simp only at az
          go_wp2_with fail
          go_at_call 25; refine (promote_any a ks p n cap w0 _ (HF.out.trans X2.out.fr) HK.out HS.out.1 HS.out.2).mono ?_; rintro e w3 ⟨⟨p3, n3, cap3, rfl, hk3⟩, h3⟩; have X3h := Lib.hid (X2.out.later h3); have HK3 := Lib.hid hk3; clear hk3 h3
          clear a0 a1 a2 a3 a4 a5 af az
          go_wp2_with fail
          go_at_call 32; refine (view3 (pro a) p3 n3 cap3 _ HPA.out).mono ?_; rintro e w4 ⟨rfl, h4⟩; have X4 := Lib.hid (X3h.out.later h4); clear h4
          obtain ⟨b0, b1, b2, b3, b4, b5, bf⟩ := X4.out.bb; have bz := cell_lt b0; simp only at bz
          go_wp2_with fail
          go_at_call 25; refine (promote_any b js q m mc w0 _ (HF.out.trans (X4.out.fr.trans (by (repeat' first | with_reducible exact Fresh.refl _ | with_reducible assumption | with_reducible refine Fresh.alloc ?_ _ _ | with_reducible refine Fresh.drew ?_ | with_reducible refine Fresh.drewN ?_ _ | with_reducible refine Fresh.setCell ?_ ?_ _ | with_reducible refine Fresh.trans ?_ (by assumption) | (simp; done) | (simp; omega))))) HJ.out HS2.out.1 HS2.out.2).mono ?_; rintro e w5 ⟨⟨p5, n5, cap5, rfl, hk5⟩, h5⟩; have X5 := Lib.hid ((X4.out.later ((Fresh.refl _).alloc #[.int .i64 0, .bool false] 36)).later h5); have H5 := Lib.hid h5; have HK5 := Lib.hid hk5; clear hk5 h5
          clear b0 b1 b2 b3 b4 b5 bf bz
          go_wp2_with fail
          go_at_call 32; refine (view2 (pro b) p5 n5 cap5 _ HPB.out).mono ?_; rintro e w6 ⟨rfl, h6⟩; have X6 := Lib.hid (X5.out.later h6); have H6 := Lib.hid h6; clear h6
          go_wp2_with fail
          go_at_call 12; refine (floatT_any _).mono ?_; rintro e w7 ⟨rfl, h7⟩; have X7 := Lib.hid ((X6.out.later ((Fresh.refl _).alloc #[.int .i64 (pro b).size, .bool (pro b).flag] 36)).later h7); clear h7
          obtain ⟨r0, r1, r2, r3, r4, r5, rf⟩ := X7.out.res; have rz := cell_lt r0; simp only at rz
          go_wp2_with fail
          refine bodyPost_ret (v := ?_) ?_ rfl ?_; rotate_left 1; focus (simp [results, Tryz.results17, go_sem, *]; (try rfl); done)
          rw [HC.out]
          exact ⟨rfl, (by repeat' first | with_reducible refine Fresh.setCell ?_ ?_ _ | exact X7.out.fr | (simp; done) | (simp; omega))⟩
        · have HPB := Lib.hid pb
          have HC : Hid (comHd a b = hd1 3) := Lib.hid (by unfold comHd; rw [ha, hb, if_pos (show (true && true) = true from rfl), if_neg (by omega)])
          clear pa pb ha hb
          go_enter Tryz.func17, Tryz.ntmps17
          go_wp2_with fail
          go_at_call 36; refine (isArith_any a ks p n cap w0 _ (HF.out.trans (by (repeat' first | with_reducible exact Fresh.refl _ | with_reducible assumption | with_reducible refine Fresh.alloc ?_ _ _ | with_reducible refine Fresh.drew ?_ | with_reducible refine Fresh.drewN ?_ _ | with_reducible refine Fresh.setCell ?_ ?_ _ | with_reducible refine Fresh.trans ?_ (by assumption) | (simp; done) | (simp; omega)))) HK.out).mono ?_; rintro e w1 ⟨rfl, h1⟩; rw [HA.out]; have X1 := Lib.hid (X0.out.later h1); clear h1
          obtain ⟨b0, b1, b2, b3, b4, b5, bf⟩ := X1.out.bb; have bz := cell_lt b0; simp only at bz
          go_wp2_with fail
          go_at_call 36; refine (isArith_any b js q m mc w0 _ (HF.out.trans X1.out.fr) HJ.out).mono ?_; rintro e w2 ⟨rfl, h2⟩; rw [HBb.out]; have X2 := Lib.hid (X1.out.later h2); clear h2
          clear b0 b1 b2 b3 b4 b5 bf bz
          obtain ⟨a0, a1, a2, a3, a4, a5, af⟩ := X2.out.ba; have az := cell_lt a0; simp only at az
          go_wp2_with fail
          go_at_call 25; refine (promote_any a ks p n cap w0 _ (HF.out.trans X2.out.fr) HK.out HS.out.1 HS.out.2).mono ?_; rintro e w3 ⟨⟨p3, n3, cap3, rfl, hk3⟩, h3⟩; have X3h := Lib.hid (X2.out.later h3); have HK3 := Lib.hid hk3; clear hk3 h3
          clear a0 a1 a2 a3 a4 a5 af az
          go_wp2_with fail
          go_at_call 32; refine (view3 (pro a) p3 n3 cap3 _ HPA.out).mono ?_; rintro e w4 ⟨rfl, h4⟩; have X4 := Lib.hid (X3h.out.later h4); clear h4
          obtain ⟨b0, b1, b2, b3, b4, b5, bf⟩ := X4.out.bb; have bz := cell_lt b0; simp only at bz
          go_wp2_with fail
          go_at_call 25; refine (promote_any b js q m mc w0 _ (HF.out.trans (X4.out.fr.trans (by (repeat' first | with_reducible exact Fresh.refl _ | with_reducible assumption | with_reducible refine Fresh.alloc ?_ _ _ | with_reducible refine Fresh.drew ?_ | with_reducible refine Fresh.drewN ?_ _ | with_reducible refine Fresh.setCell ?_ ?_ _ | with_reducible refine Fresh.trans ?_ (by assumption) | (simp; done) | (simp; omega))))) HJ.out HS2.out.1 HS2.out.2).mono ?_; rintro e w5 ⟨⟨p5, n5, cap5, rfl, hk5⟩, h5⟩; have X5 := Lib.hid ((X4.out.later ((Fresh.refl _).alloc #[.int .i64 0, .bool false] 36)).later h5); have H5 := Lib.hid h5; have HK5 := Lib.hid hk5; clear hk5 h5
          clear b0 b1 b2 b3 b4 b5 bf bz
          go_wp2_with fail
          go_at_call 32; refine (view3 (pro b) p5 n5 cap5 _ HPB.out).mono ?_; rintro e w6 ⟨rfl, h6⟩; have X6 := Lib.hid (X5.out.later h6); have H6 := Lib.hid h6; clear h6
          go_wp2_with fail
          go_at_call 12; refine (floatT_any _).mono ?_; rintro e w7 ⟨rfl, h7⟩; have X7 := Lib.hid ((X6.out.later ((Fresh.refl _).alloc #[.int .i64 0, .bool false] 36)).later h7); clear h7
          obtain ⟨r0, r1, r2, r3, r4, r5, rf⟩ := X7.out.res; have rz := cell_lt r0; simp only at rz
          go_wp2_with fail
          refine bodyPost_ret (v := ?_) ?_ rfl ?_; rotate_left 1; focus (simp [results, Tryz.results17, go_sem, *]; (try rfl); done)
          rw [HC.out]
          exact ⟨rfl, (by repeat' first | with_reducible refine Fresh.setCell ?_ ?_ _ | exact X7.out.fr | (simp; done) | (simp; omega))⟩
end
end Go.Proofs.YteiomcbphbbpkaaGreatDoor
