/- The reference: Common. -/
import Derived.Test.YteiomcbphbbpkaaDoorEn
namespace Go.Proofs.YteiomcbphbbpkaaDoor
set_option linter.unusedSimpArgs false
set_option linter.unusedVariables false
open Go.RowKit

section
variable (h : Hd) (p : Option Addr) (n cap : Nat) (w : World)
theorem arE : Calls Tryd.prog 62 #[.agg #[.int .i64 h.kind, .int .i64 h.size, .int .i64 h.len, .bool h.flag, .string h.name, .slice p n cap]] w fun e w' => (∃ s a b, e = .returned (.tuple #[.agg #[.int .i64 s, .bool a], .bool b, .bool (isArith h)])) ∧ Fresh w w' := by
  refine (ar_any h p n cap w).mono ?_
  rintro e w' ⟨rfl, hw⟩
  exact ⟨⟨_, _, _, rfl⟩, hw⟩
theorem arK2 (hk : h.kind = 2) : Calls Tryd.prog 62 #[.agg #[.int .i64 h.kind, .int .i64 h.size, .int .i64 h.len, .bool h.flag, .string h.name, .slice p n cap]] w fun e w' => e = .returned (.tuple #[.agg #[.int .i64 h.size, .bool h.flag], .bool false, .bool (isArith h)]) ∧ Fresh w w' := by
  refine (ar_any h p n cap w).mono ?_
  rintro e w' ⟨rfl, hw⟩
  rw [if_pos hk, if_pos hk, show (h.kind == 3) = false by rw [hk]; rfl]
  exact ⟨rfl, hw⟩
theorem arK3 (hk : h.kind = 3) : Calls Tryd.prog 62 #[.agg #[.int .i64 h.kind, .int .i64 h.size, .int .i64 h.len, .bool h.flag, .string h.name, .slice p n cap]] w fun e w' => e = .returned (.tuple #[.agg #[.int .i64 0, .bool false], .bool true, .bool (isArith h)]) ∧ Fresh w w' := by
  refine (ar_any h p n cap w).mono ?_
  rintro e w' ⟨rfl, hw⟩
  rw [if_neg (by omega), if_neg (by omega), show (h.kind == 3) = true by rw [hk]; rfl]
  exact ⟨rfl, hw⟩
end
/-- The reference's common type. -/
def refC (t u : Hd) : Hd :=
  if t.kind = 3 then hd1 3 else if u.kind = 3 then hd1 3 else
    if (pro u).size < (pro t).size then numHd (pro t).size (pro t).flag else if (pro t).size = (pro u).size ∧ (pro t).flag = true then numHd (pro t).size (pro t).flag else numHd (pro u).size (pro u).flag
theorem refC_all : (A9.all fun a => A9.all fun b => eqH (refC a b) (comHd a b)) = true := by kernel_rfl
theorem refC_eq {a b : Hd} (ha : a ∈ A9) (hb : b ∈ A9) : refC a b = comHd a b := eqH_eq (List.all_eq_true.1 (List.all_eq_true.1 refC_all a ha) b hb)
theorem A9_k : (A9.all fun a => (a.kind == 3) || ((a.kind == 2) && ((pro a).kind == 2))) = true := by kernel_rfl
theorem A9_kind {a : Hd} (ha : a ∈ A9) : a.kind = 3 ∨ (a.kind = 2 ∧ (pro a).kind = 2) := by
  have := List.all_eq_true.1 A9_k a ha
  simpa using this
theorem A9_ar : (A9.all isArith) = true := by kernel_rfl
section
variable (t u : Hd) (p q : Option Addr) (n m cap mc : Nat) (w : World)
/-- What it answers. -/
def CmR (A : Hd) (k : Bool) (w : World) (e : Ending) (w' : World) : Prop := e = .returned (.tuple #[.agg #[.int .i64 A.kind, .int .i64 A.size, .int .i64 A.len, .bool A.flag, .string A.name, .slice none 0 0], .bool k]) ∧ Fresh w w'
set_option maxRecDepth 100000 in
set_option maxHeartbeats 2000000 in
theorem commonR_no (hk : comOk t u = false) : Calls Tryd.prog 30 #[.agg #[.int .i64 t.kind, .int .i64 t.size, .int .i64 t.len, .bool t.flag, .string t.name, .slice p n cap], .agg #[.int .i64 u.kind, .int .i64 u.size, .int .i64 u.len, .bool u.flag, .string u.name, .slice q m mc]] w (CmR Hd.zero false w) := by
  have HK : Hid ((isArith t = false) ∨ (isArith t = true ∧ isArith u = false)) := Lib.hid (by
    unfold comOk at hk
    cases h1 : isArith t
    · exact Or.inl rfl
    · right; rw [h1] at hk; exact ⟨rfl, by simpa using hk⟩)
  clear hk
  have X0 := Lib.hid (BX.new w t u p q n m cap mc)
  go_enter Tryd.func30, Tryd.ntmps30
  go_wp2_with fail
  go_at_call 62; refine (arE t p n cap _).mono ?_; rintro e w1 ⟨⟨s1, a1, d1, rfl⟩, h1⟩; have X1 := Lib.hid (X0.out.later h1); clear h1 X0
  obtain ⟨b0, b1, b2, b3, b4, b5, bf⟩ := X1.out.bb; have bz := cell_lt b0; simp only at bz
  go_wp2_with fail
  clear b0 b1 b2 b3 b4 b5 bf bz
  go_at_call 62; refine (arE u q m mc _).mono ?_; rintro e w2 ⟨⟨s2, a2, d2, rfl⟩, h2⟩; have X2 := Lib.hid ((X1.out.later ((Fresh.refl _).alloc #[.int .i64 s1, .bool a1] 62)).later h2); clear h2 X1
  go_upto_region 3 with fail
  have X3 : Hid (BX w (w2.alloc (.cells #[.int .i64 s2, .bool a2] 62)) t u p q n m cap mc) := Lib.hid (X2.out.later (by (repeat' first | with_reducible exact Fresh.refl _ | with_reducible assumption | with_reducible refine Fresh.alloc ?_ _ _ | with_reducible refine Fresh.drew ?_ | with_reducible refine Fresh.drewN ?_ _ | with_reducible refine Fresh.setCell ?_ ?_ _ | with_reducible refine Fresh.trans ?_ (by assumption) | (simp; done) | (simp; omega))))
  clear X2
  generalize (w2.alloc (.cells #[.int .i64 s2, .bool a2] 62)) = W at *
  obtain ⟨r0, r1, r2, r3, r4, r5, rf⟩ := X3.out.res; have rz := cell_lt r0; simp only at rz
  rcases HK.out with q1 | ⟨q1, q2⟩
  · rw [q1]
    clear HK q1
    go_wp2_with fail
    refine bodyPost_ret (v := ?_) ?_ rfl ?_; rotate_left 1; focus (simp [results, Tryd.results30, go_sem, *]; (try rfl); done)
    exact ⟨rfl, (by repeat' first | with_reducible refine Fresh.setCell ?_ ?_ _ | exact X3.out.fr | (simp; done) | (simp; omega))⟩
  · rw [q1, q2]
    clear HK q1 q2
    go_wp2_with fail
    refine bodyPost_ret (v := ?_) ?_ rfl ?_; rotate_left 1; focus (simp [results, Tryd.results30, go_sem, *]; (try rfl); done)
    exact ⟨rfl, (by repeat' first | with_reducible refine Fresh.setCell ?_ ?_ _ | exact X3.out.fr | (simp; done) | (simp; omega))⟩
set_option maxRecDepth 100000 in
set_option maxHeartbeats 4000000 in
theorem commonR_yes (ht : t ∈ A9) (hu : u ∈ A9) : Calls Tryd.prog 30 #[.agg #[.int .i64 t.kind, .int .i64 t.size, .int .i64 t.len, .bool t.flag, .string t.name, .slice p n cap], .agg #[.int .i64 u.kind, .int .i64 u.size, .int .i64 u.len, .bool u.flag, .string u.name, .slice q m mc]] w (CmR (comHd t u) true w) := by
  have IT : Hid (isArith t = true) := Lib.hid (List.all_eq_true.1 A9_ar t ht)
  have IU : Hid (isArith u = true) := Lib.hid (List.all_eq_true.1 A9_ar u hu)
  have HR : Hid (refC t u = comHd t u) := Lib.hid (refC_eq ht hu)
  rw [← HR.out]
  clear HR
  have X0 := Lib.hid (BX.new w t u p q n m cap mc)
  rcases A9_kind ht with kt | ⟨kt, kpt⟩
  · have HRC : Hid (refC t u = hd1 3) := Lib.hid (by unfold refC; rw [if_pos kt])
    rw [HRC.out]
    have KT := Lib.hid kt
    clear kt ht hu HRC
    go_enter Tryd.func30, Tryd.ntmps30
    go_wp2_with fail
    go_at_call 62; refine (arK3 t p n cap _ KT.out).mono ?_; rintro e w1 ⟨rfl, h1⟩; rw [IT.out]; have X1 := Lib.hid (X0.out.later h1); clear h1 X0
    obtain ⟨b0, b1, b2, b3, b4, b5, bf⟩ := X1.out.bb; have bz := cell_lt b0; simp only at bz
    go_wp2_with fail
    clear b0 b1 b2 b3 b4 b5 bf bz
    go_at_call 62; refine (arE u q m mc _).mono ?_; rintro e w2 ⟨⟨s2, a2, d2, rfl⟩, h2⟩; rw [IU.out]; have X2 := Lib.hid ((X1.out.later ((Fresh.refl _).alloc #[.int .i64 0, .bool false] 62)).later h2); clear h2 X1
    go_upto_region 3 with fail
    have X3 : Hid (BX w (w2.alloc (.cells #[.int .i64 s2, .bool a2] 62)) t u p q n m cap mc) := Lib.hid (X2.out.later (by (repeat' first | with_reducible exact Fresh.refl _ | with_reducible assumption | with_reducible refine Fresh.alloc ?_ _ _ | with_reducible refine Fresh.drew ?_ | with_reducible refine Fresh.drewN ?_ _ | with_reducible refine Fresh.setCell ?_ ?_ _ | with_reducible refine Fresh.trans ?_ (by assumption) | (simp; done) | (simp; omega))))
    clear X2
    generalize (w2.alloc (.cells #[.int .i64 s2, .bool a2] 62)) = W at *
    go_wp2_with fail
    go_at_call 37; refine (floatT_any _).mono ?_; rintro e w3 ⟨rfl, h3⟩
    have X4 := Lib.hid (X3.out.later h3)
    clear h3 X3
    obtain ⟨r0, r1, r2, r3, r4, r5, rf⟩ := X4.out.res; have rz := cell_lt r0; simp only at rz
    go_wp2_with fail
    refine bodyPost_ret (v := ?_) ?_ rfl ?_; rotate_left 1; focus (simp [results, Tryd.results30, go_sem, *]; (try rfl); done)
    exact ⟨rfl, (by repeat' first | with_reducible refine Fresh.setCell ?_ ?_ _ | exact X4.out.fr | (simp; done) | (simp; omega))⟩
  · rcases A9_kind hu with ku | ⟨ku, kpu⟩
    · have HRC : Hid (refC t u = hd1 3) := Lib.hid (by unfold refC; rw [if_neg (by omega), if_pos ku])
      rw [HRC.out]
      have KT := Lib.hid kt
      have KU := Lib.hid ku
      clear kt ku kpt ht hu HRC
      go_enter Tryd.func30, Tryd.ntmps30
      go_wp2_with fail
      go_at_call 62; refine (arK2 t p n cap _ KT.out).mono ?_; rintro e w1 ⟨rfl, h1⟩; rw [IT.out]; have X1 := Lib.hid (X0.out.later h1); clear h1 X0
      obtain ⟨b0, b1, b2, b3, b4, b5, bf⟩ := X1.out.bb; have bz := cell_lt b0; simp only at bz
      go_wp2_with fail
      clear b0 b1 b2 b3 b4 b5 bf bz
      go_at_call 62; refine (arK3 u q m mc _ KU.out).mono ?_; rintro e w2 ⟨rfl, h2⟩; rw [IU.out]; have X2 := Lib.hid ((X1.out.later ((Fresh.refl _).alloc #[.int .i64 t.size, .bool t.flag] 62)).later h2); clear h2 X1
      go_upto_region 3 with fail
      have X3 : Hid (BX w (w2.alloc (.cells #[.int .i64 0, .bool false] 62)) t u p q n m cap mc) := Lib.hid (X2.out.later (by (repeat' first | with_reducible exact Fresh.refl _ | with_reducible assumption | with_reducible refine Fresh.alloc ?_ _ _ | with_reducible refine Fresh.drew ?_ | with_reducible refine Fresh.drewN ?_ _ | with_reducible refine Fresh.setCell ?_ ?_ _ | with_reducible refine Fresh.trans ?_ (by assumption) | (simp; done) | (simp; omega))))
      clear X2
      generalize (w2.alloc (.cells #[.int .i64 0, .bool false] 62)) = W at *
      go_wp2_with fail
      go_at_call 37; refine (floatT_any _).mono ?_; rintro e w3 ⟨rfl, h3⟩
      have X4 := Lib.hid (X3.out.later h3)
      clear h3 X3
      obtain ⟨r0, r1, r2, r3, r4, r5, rf⟩ := X4.out.res; have rz := cell_lt r0; simp only at rz
      go_wp2_with fail
      refine bodyPost_ret (v := ?_) ?_ rfl ?_; rotate_left 1; focus (simp [results, Tryd.results30, go_sem, *]; (try rfl); done)
      exact ⟨rfl, (by repeat' first | with_reducible refine Fresh.setCell ?_ ?_ _ | exact X4.out.fr | (simp; done) | (simp; omega))⟩
    · have HRC : Hid (refC t u = if (pro u).size < (pro t).size then numHd (pro t).size (pro t).flag else if (pro t).size = (pro u).size ∧ (pro t).flag = true then numHd (pro t).size (pro t).flag else numHd (pro u).size (pro u).flag) := Lib.hid (by unfold refC; rw [if_neg (by omega), if_neg (by omega)])
      rw [HRC.out]
      have KT := Lib.hid kt
      have KU := Lib.hid ku
      have KPT := Lib.hid kpt
      have KPU := Lib.hid kpu
      clear kt ku kpt kpu ht hu HRC
      have PT := Lib.hid (fun X => promR t p n cap X KT.out)
      have PU := Lib.hid (fun X => promR u q m mc X KU.out)
      generalize pro t = P at *
      generalize pro u = Q at *
      generalize hR : (if Q.size < P.size then numHd P.size P.flag else if P.size = Q.size ∧ P.flag = true then numHd P.size P.flag else numHd Q.size Q.flag) = R at *
      have HR := Lib.hid hR
      clear hR
      go_enter Tryd.func30, Tryd.ntmps30
      go_wp2_with fail
      go_at_call 62; refine (arK2 t p n cap _ KT.out).mono ?_; rintro e w1 ⟨rfl, h1⟩; rw [IT.out]; have X1 := Lib.hid (X0.out.later h1); clear h1 X0
      obtain ⟨b0, b1, b2, b3, b4, b5, bf⟩ := X1.out.bb; have bz := cell_lt b0; simp only at bz
      go_wp2_with fail
      clear b0 b1 b2 b3 b4 b5 bf bz
      go_at_call 62; refine (arK2 u q m mc _ KU.out).mono ?_; rintro e w2 ⟨rfl, h2⟩; rw [IU.out]; have X2 := Lib.hid ((X1.out.later ((Fresh.refl _).alloc #[.int .i64 t.size, .bool t.flag] 62)).later h2); clear h2 X1
      go_upto_region 3 with fail
      have X3 : Hid (BX w (w2.alloc (.cells #[.int .i64 u.size, .bool u.flag] 62)) t u p q n m cap mc) := Lib.hid (X2.out.later (by (repeat' first | with_reducible exact Fresh.refl _ | with_reducible assumption | with_reducible refine Fresh.alloc ?_ _ _ | with_reducible refine Fresh.drew ?_ | with_reducible refine Fresh.drewN ?_ _ | with_reducible refine Fresh.setCell ?_ ?_ _ | with_reducible refine Fresh.trans ?_ (by assumption) | (simp; done) | (simp; omega))))
      clear X2
      generalize (w2.alloc (.cells #[.int .i64 u.size, .bool u.flag] 62)) = W at *
      obtain ⟨a0, a1, a2, a3, a4, a5, af⟩ := X3.out.ba; have az := cell_lt a0; simp only at az
      go_wp2_with fail
      clear a0 a1 a2 a3 a4 a5 af az
      go_at_call 27; refine (PT.out _).mono ?_; rintro e w3 ⟨⟨p3, n3, c3, rfl⟩, h3⟩
      have X4 := Lib.hid (X3.out.later h3)
      clear h3 X3
      go_wp2_with fail
      go_at_call 62; refine (arK2 P p3 n3 c3 _ KPT.out).mono ?_; rintro e w4 ⟨rfl, h4⟩
      have X5 := Lib.hid (X4.out.later h4)
      clear h4 X4
      go_upto_region 8 with fail
      have X6 : Hid (BX w (w4.alloc (.cells #[.int .i64 P.size, .bool P.flag] 62)) t u p q n m cap mc) := Lib.hid (X5.out.later (by (repeat' first | with_reducible exact Fresh.refl _ | with_reducible assumption | with_reducible refine Fresh.alloc ?_ _ _ | with_reducible refine Fresh.drew ?_ | with_reducible refine Fresh.drewN ?_ _ | with_reducible refine Fresh.setCell ?_ ?_ _ | with_reducible refine Fresh.trans ?_ (by assumption) | (simp; done) | (simp; omega))))
      have T12 : Hid (Blk (w4.alloc (.cells #[.int .i64 P.size, .bool P.flag] 62)) w4.heap.size [.int .i64 P.size, .bool P.flag]) := Lib.hid (Blk.new w4 #[.int .i64 P.size, .bool P.flag] 62)
      clear X5
      generalize (w4.alloc (.cells #[.int .i64 P.size, .bool P.flag] 62)) = W6 at *
      generalize w4.heap.size = b12 at *
      obtain ⟨a0, a1, a2, a3, a4, a5, af⟩ := X6.out.bb; have az := cell_lt a0; simp only at az
      go_wp2_with fail
      clear a0 a1 a2 a3 a4 a5 af az
      go_at_call 27; refine (PU.out _).mono ?_; rintro e w7 ⟨⟨p7, n7, c7, rfl⟩, h7⟩
      have X7 := Lib.hid (X6.out.later h7)
      have T12 := Lib.hid (T12.out.fresh h7)
      clear h7 X6
      go_wp2_with fail
      go_at_call 62; refine (arK2 Q p7 n7 c7 _ KPU.out).mono ?_; rintro e w8 ⟨rfl, h8⟩
      have X8 := Lib.hid (X7.out.later h8)
      have T12 := Lib.hid (T12.out.fresh h8)
      clear h8 X7
      go_upto_region 9 with fail
      have X9 : Hid (BX w (w8.alloc (.cells #[.int .i64 Q.size, .bool Q.flag] 62)) t u p q n m cap mc) := Lib.hid (X8.out.later (by (repeat' first | with_reducible exact Fresh.refl _ | with_reducible assumption | with_reducible refine Fresh.alloc ?_ _ _ | with_reducible refine Fresh.drew ?_ | with_reducible refine Fresh.drewN ?_ _ | with_reducible refine Fresh.setCell ?_ ?_ _ | with_reducible refine Fresh.trans ?_ (by assumption) | (simp; done) | (simp; omega))))
      have T15 : Hid (Blk (w8.alloc (.cells #[.int .i64 Q.size, .bool Q.flag] 62)) w8.heap.size [.int .i64 Q.size, .bool Q.flag]) := Lib.hid (Blk.new w8 #[.int .i64 Q.size, .bool Q.flag] 62)
      have T12 := Lib.hid (T12.out.fresh (show Fresh w8 (w8.alloc (.cells #[.int .i64 Q.size, .bool Q.flag] 62)) from (by (repeat' first | with_reducible exact Fresh.refl _ | with_reducible assumption | with_reducible refine Fresh.alloc ?_ _ _ | with_reducible refine Fresh.drew ?_ | with_reducible refine Fresh.drewN ?_ _ | with_reducible refine Fresh.setCell ?_ ?_ _ | with_reducible refine Fresh.trans ?_ (by assumption) | (simp; done) | (simp; omega)))))
      clear X8
      generalize (w8.alloc (.cells #[.int .i64 Q.size, .bool Q.flag] 62)) = W9 at *
      generalize w8.heap.size = b15 at *
      have x0 := T12.out.1 0 _ rfl
      have x1 := T12.out.1 1 _ rfl
      have xz := T12.out.2.2
      have y0 := T15.out.1 0 _ rfl
      have y1 := T15.out.1 1 _ rfl
      have yz := T15.out.2.2
      by_cases g1 : Q.size < P.size
      · have q1 : decide (Q.size < P.size) = true := by simpa using g1
        have eR := HR.out
        rw [if_pos g1] at eR
        clear HR
        subst eR
        go_wp2_with fail
        clear x0 x1 xz y0 y1 yz
        go_at_call 36; refine (numT_any P.size P.flag _).mono ?_; rintro e wa ⟨rfl, ha⟩
        have Xa := Lib.hid (X9.out.later ha); clear ha X9; obtain ⟨r0, r1, r2, r3, r4, r5, rf⟩ := Xa.out.res; have rz := cell_lt r0; simp only at rz; go_wp2_with fail; (refine bodyPost_ret (v := ?_) ?_ rfl ?_; rotate_left 1; focus (simp [results, Tryd.results30, go_sem, *]; (try rfl); done)); exact ⟨rfl, (by repeat' first | with_reducible refine Fresh.setCell ?_ ?_ _ | exact Xa.out.fr | (simp; done) | (simp; omega))⟩
      · have q1 : decide (Q.size < P.size) = false := by simpa using g1
        have eR := HR.out
        rw [if_neg g1] at eR
        clear HR
        by_cases g2 : P.size = Q.size
        · have q2 : (P.size == Q.size) = true := by simpa using g2
          cases hfl : P.flag
          · rw [hfl, if_neg (show ¬ (P.size = Q.size ∧ false = true) from fun e => by cases e.2)] at eR
            subst eR
            rw [hfl] at x1
            have g3 : P.size ≤ Q.size := by omega
            have g4 : Q.size ≤ P.size := by omega
            go_wp2_with fail
            clear x0 x1 xz y0 y1 yz
            go_at_call 36; refine (numT_any Q.size Q.flag _).mono ?_; rintro e wa ⟨rfl, ha⟩
            have Xa := Lib.hid (X9.out.later ha); clear ha X9; obtain ⟨r0, r1, r2, r3, r4, r5, rf⟩ := Xa.out.res; have rz := cell_lt r0; simp only at rz; go_wp2_with fail; (refine bodyPost_ret (v := ?_) ?_ rfl ?_; rotate_left 1; focus (simp [results, Tryd.results30, go_sem, *]; (try rfl); done)); exact ⟨rfl, (by repeat' first | with_reducible refine Fresh.setCell ?_ ?_ _ | exact Xa.out.fr | (simp; done) | (simp; omega))⟩
          · rw [hfl, if_pos ⟨g2, rfl⟩, g2] at eR
            subst eR
            rw [hfl] at x1
            have g3 : P.size ≤ Q.size := by omega
            have g4 : Q.size ≤ P.size := by omega
            go_wp2_with fail
            clear x0 x1 xz y0 y1 yz
            go_at_call 36; refine (numT_any Q.size true _).mono ?_; rintro e wa ⟨rfl, ha⟩
            have Xa := Lib.hid (X9.out.later ha); clear ha X9; obtain ⟨r0, r1, r2, r3, r4, r5, rf⟩ := Xa.out.res; have rz := cell_lt r0; simp only at rz; go_wp2_with fail; (refine bodyPost_ret (v := ?_) ?_ rfl ?_; rotate_left 1; focus (simp [results, Tryd.results30, go_sem, *]; (try rfl); done)); exact ⟨rfl, (by repeat' first | with_reducible refine Fresh.setCell ?_ ?_ _ | exact Xa.out.fr | (simp; done) | (simp; omega))⟩
        · have q2 : (P.size == Q.size) = false := by simpa using g2
          rw [if_neg (fun e => g2 e.1)] at eR
          subst eR
          have g3 : P.size ≤ Q.size := by omega
          go_wp2_with fail
          clear x0 x1 xz y0 y1 yz
          go_at_call 36; refine (numT_any Q.size Q.flag _).mono ?_; rintro e wa ⟨rfl, ha⟩
          have Xa := Lib.hid (X9.out.later ha); clear ha X9; obtain ⟨r0, r1, r2, r3, r4, r5, rf⟩ := Xa.out.res; have rz := cell_lt r0; simp only at rz; go_wp2_with fail; (refine bodyPost_ret (v := ?_) ?_ rfl ?_; rotate_left 1; focus (simp [results, Tryd.results30, go_sem, *]; (try rfl); done)); exact ⟨rfl, (by repeat' first | with_reducible refine Fresh.setCell ?_ ?_ _ | exact Xa.out.fr | (simp; done) | (simp; omega))⟩
end
end Go.Proofs.YteiomcbphbbpkaaDoor
