/- The reference: Ops between arithmetic types. -/
import Derived.Test.YteiomcbphbbpkaaDoorEq
namespace Go.Proofs.YteiomcbphbbpkaaDoor
set_option linter.unusedSimpArgs false
set_option linter.unusedVariables false
open Go.RowKit

section
variable (t u : Hd) (p q : Option Addr) (n m cap mc : Nat) (w : World)

set_option maxRecDepth 100000 in
set_option maxHeartbeats 4000000 in
theorem opsR_33 (ht : t ∈ A9) (hu : u ∈ A9) (kt : t.kind = 3) (ku : u.kind = 3) : Calls Tryd.prog 32 #[.agg #[.int .i64 t.kind, .int .i64 t.size, .int .i64 t.len, .bool t.flag, .string t.name, .slice p n cap], .agg #[.int .i64 u.kind, .int .i64 u.size, .int .i64 u.len, .bool u.flag, .string u.name, .slice q m mc]] w (OpR w (refO t u) true) := by
  have IT : Hid (isArith t = true) := Lib.hid (List.all_eq_true.1 A9_ar t ht)
  have IU : Hid (isArith u = true) := Lib.hid (List.all_eq_true.1 A9_ar u hu)
  have HR : Hid (refO t u = []) := Lib.hid (by unfold refO; rw [if_pos kt]; rw [if_pos ku])
  generalize refO t u = R at *
  have q1 : (t.kind == 4) = false := by rw [kt]; rfl
  have KT := Lib.hid kt
  have KU := Lib.hid ku
  clear kt ku ht hu
  have X0 := Lib.hid (BY.new w t u p q n m cap mc)
  obtain ⟨i0, hi, hz0, hz1', hz2⟩ := info_parts info3
  go_enter Tryd.func32, Tryd.ntmps32
  go_wp2_with fail
  go_at_call 62; refine (arK3 t p n cap _ KT.out).mono ?_; rintro e w1 ⟨rfl, h1⟩; rw [IT.out]; have X1 := Lib.hid (X0.out.later h1); clear h1 X0
  obtain ⟨b0, b1, b2, b3, b4, b5, bf⟩ := X1.out.bb; have bz := cell_lt b0; simp only at bz
  go_wp2_with fail
  clear b0 b1 b2 b3 b4 b5 bf bz
  go_at_call 62; refine (arK3 u q m mc _ KU.out).mono ?_; rintro e w2 ⟨rfl, h2⟩; rw [IU.out]; have X2 := Lib.hid ((X1.out.later ((Fresh.refl _).alloc #[.int .i64 0, .bool false] 62)).later h2); have T8 := Lib.hid ((Blk.new w1 #[.int .i64 0, .bool false] 62).fresh h2); clear h2 X1
  go_upto_region 9 with fail
  have F : Hid (Fresh w (w2.alloc (.cells #[.int .i64 0, .bool false] 62))) := Lib.hid (X2.out.fr.trans (by (repeat' first | with_reducible exact Fresh.refl _ | with_reducible assumption | with_reducible refine Fresh.alloc ?_ _ _ | with_reducible refine Fresh.drew ?_ | with_reducible refine Fresh.drewN ?_ _ | with_reducible refine Fresh.setCell ?_ ?_ _ | with_reducible refine Fresh.trans ?_ (by assumption) | (simp; done) | (simp; omega))))
  have T11 : Hid (Blk (w2.alloc (.cells #[.int .i64 0, .bool false] 62)) w2.heap.size #[.int .i64 0, .bool false].toList) := Lib.hid (Blk.new w2 #[.int .i64 0, .bool false] 62)
  have T8 := Lib.hid (T8.out.fresh (show Fresh w2 (w2.alloc (.cells #[.int .i64 0, .bool false] 62)) from (by (repeat' first | with_reducible exact Fresh.refl _ | with_reducible assumption | with_reducible refine Fresh.alloc ?_ _ _ | with_reducible refine Fresh.drew ?_ | with_reducible refine Fresh.drewN ?_ _ | with_reducible refine Fresh.setCell ?_ ?_ _ | with_reducible refine Fresh.trans ?_ (by assumption) | (simp; done) | (simp; omega)))))
  clear X2
  generalize (w2.alloc (.cells #[.int .i64 0, .bool false] 62)) = W at *
  generalize w2.heap.size = b11 at *
  generalize w1.heap.size = b8 at *
  have x0 := T8.out.1 0 _ rfl; have x1 := T8.out.1 1 _ rfl; have xz := T8.out.2.2; have y0 := T11.out.1 0 _ rfl; have y1 := T11.out.1 1 _ rfl; have yz := T11.out.2.2
  clear T8 T11 IT IU KT KU q1
  have eR := HR.out
  clear HR
  subst eR
  go_wp2_with fail
  refine bodyPost_ret (v := ?_) ?_ rfl ?_; rotate_left 1; focus (simp [results, Tryd.results32, go_sem, *]; (try rfl); done)
  exact ⟨⟨_, rfl, Ints.nil ..⟩, F.out⟩
set_option maxRecDepth 100000 in
set_option maxHeartbeats 4000000 in
theorem opsR_32 (ht : t ∈ A9) (hu : u ∈ A9) (kt : t.kind = 3) (ku : u.kind = 2) : Calls Tryd.prog 32 #[.agg #[.int .i64 t.kind, .int .i64 t.size, .int .i64 t.len, .bool t.flag, .string t.name, .slice p n cap], .agg #[.int .i64 u.kind, .int .i64 u.size, .int .i64 u.len, .bool u.flag, .string u.name, .slice q m mc]] w (OpR w (refO t u) true) := by
  have IT : Hid (isArith t = true) := Lib.hid (List.all_eq_true.1 A9_ar t ht)
  have IU : Hid (isArith u = true) := Lib.hid (List.all_eq_true.1 A9_ar u hu)
  have HR : Hid (refO t u = if u.size = 8 then [sgn u.flag 93 94] else if u.size = 4 then [sgn u.flag 91 92] else [91] ++ smallO u.size u.flag) := Lib.hid (by unfold refO; rw [if_pos kt]; rw [if_neg (by omega)])
  generalize refO t u = R at *
  have q1 : (t.kind == 4) = false := by rw [kt]; rfl
  have KT := Lib.hid kt
  have KU := Lib.hid ku
  clear kt ku ht hu
  have X0 := Lib.hid (BY.new w t u p q n m cap mc)
  obtain ⟨i0, hi, hz0, hz1', hz2⟩ := info_parts info3
  go_enter Tryd.func32, Tryd.ntmps32
  go_wp2_with fail
  go_at_call 62; refine (arK3 t p n cap _ KT.out).mono ?_; rintro e w1 ⟨rfl, h1⟩; rw [IT.out]; have X1 := Lib.hid (X0.out.later h1); clear h1 X0
  obtain ⟨b0, b1, b2, b3, b4, b5, bf⟩ := X1.out.bb; have bz := cell_lt b0; simp only at bz
  go_wp2_with fail
  clear b0 b1 b2 b3 b4 b5 bf bz
  go_at_call 62; refine (arK2 u q m mc _ KU.out).mono ?_; rintro e w2 ⟨rfl, h2⟩; rw [IU.out]; have X2 := Lib.hid ((X1.out.later ((Fresh.refl _).alloc #[.int .i64 0, .bool false] 62)).later h2); have T8 := Lib.hid ((Blk.new w1 #[.int .i64 0, .bool false] 62).fresh h2); clear h2 X1
  go_upto_region 9 with fail
  have F : Hid (Fresh w (w2.alloc (.cells #[.int .i64 u.size, .bool u.flag] 62))) := Lib.hid (X2.out.fr.trans (by (repeat' first | with_reducible exact Fresh.refl _ | with_reducible assumption | with_reducible refine Fresh.alloc ?_ _ _ | with_reducible refine Fresh.drew ?_ | with_reducible refine Fresh.drewN ?_ _ | with_reducible refine Fresh.setCell ?_ ?_ _ | with_reducible refine Fresh.trans ?_ (by assumption) | (simp; done) | (simp; omega))))
  have T11 : Hid (Blk (w2.alloc (.cells #[.int .i64 u.size, .bool u.flag] 62)) w2.heap.size #[.int .i64 u.size, .bool u.flag].toList) := Lib.hid (Blk.new w2 #[.int .i64 u.size, .bool u.flag] 62)
  have T8 := Lib.hid (T8.out.fresh (show Fresh w2 (w2.alloc (.cells #[.int .i64 u.size, .bool u.flag] 62)) from (by (repeat' first | with_reducible exact Fresh.refl _ | with_reducible assumption | with_reducible refine Fresh.alloc ?_ _ _ | with_reducible refine Fresh.drew ?_ | with_reducible refine Fresh.drewN ?_ _ | with_reducible refine Fresh.setCell ?_ ?_ _ | with_reducible refine Fresh.trans ?_ (by assumption) | (simp; done) | (simp; omega)))))
  clear X2
  generalize (w2.alloc (.cells #[.int .i64 u.size, .bool u.flag] 62)) = W at *
  generalize w2.heap.size = b11 at *
  generalize w1.heap.size = b8 at *
  have x0 := T8.out.1 0 _ rfl; have x1 := T8.out.1 1 _ rfl; have xz := T8.out.2.2; have y0 := T11.out.1 0 _ rfl; have y1 := T11.out.1 1 _ rfl; have yz := T11.out.2.2
  clear T8 T11 IT IU KT KU q1
  generalize u.size = y at *
  generalize u.flag = b at *
  by_cases h8 : y = 8
  · subst h8
    have eR := HR.out
    rw [if_pos rfl] at eR
    clear HR
    subst eR
    go_wp2_with fail
    clear x0 x1 xz y0 y1 yz
    go_at_call 67; refine (signR 8 b 93 94 _).mono ?_; rintro e w9 ⟨⟨v, rfl, hv⟩, h9⟩
    go_wp2_with fail
    refine bodyPost_ret (v := ?_) ?_ rfl ?_; rotate_left 1; focus (simp [results, Tryd.results32, go_sem, *]; (try rfl); done)
    exact ⟨⟨_, rfl, hv.mono F.out.size⟩, F.out.trans h9⟩
  · have g8 : (y == 8) = false := by simpa using h8
    by_cases h4 : y = 4
    · subst h4
      have eR := HR.out
      rw [if_neg (by decide), if_pos rfl] at eR
      clear HR
      subst eR
      go_wp2_with fail
      clear x0 x1 xz y0 y1 yz
      go_at_call 67; refine (signR 4 b 91 92 _).mono ?_; rintro e w9 ⟨⟨v, rfl, hv⟩, h9⟩
      go_wp2_with fail
      refine bodyPost_ret (v := ?_) ?_ rfl ?_; rotate_left 1; focus (simp [results, Tryd.results32, go_sem, *]; (try rfl); done)
      exact ⟨⟨_, rfl, hv.mono F.out.size⟩, F.out.trans h9⟩
    · have g4 : (y == 4) = false := by simpa using h4
      have eR := HR.out
      rw [if_neg h8, if_neg h4] at eR
      clear HR
      subst eR
      clear h8 h4
      have HBD := Lib.hid (small_le y b)
      have HO : Hid ((W.alloc (.cells #[.int .i64 91] 3)).ownsRow W.heap.size 3 1 (.slice (some ⟨W.heap.size, 0, none⟩) 1 1) 1 [.int .i64 91]) := Lib.hid (Ints.one W.heap.size W 91 (Nat.le_refl _))
      have G1 : Hid (Fresh w (W.alloc (.cells #[.int .i64 91] 3))) := Lib.hid (F.out.trans (by (repeat' first | with_reducible exact Fresh.refl _ | with_reducible assumption | with_reducible refine Fresh.alloc ?_ _ _ | with_reducible refine Fresh.drew ?_ | with_reducible refine Fresh.drewN ?_ _ | with_reducible refine Fresh.setCell ?_ ?_ _ | with_reducible refine Fresh.trans ?_ (by assumption) | (simp; done) | (simp; omega))))
      go_wp2_with fail
      clear x0 x1 xz y0 y1 yz
      go_at_call 68; refine (smallR y b _).mono ?_; rintro e w9 ⟨⟨v, rfl, hv⟩, h9⟩
      have hown := h9.own HO.out
      have HV := Lib.hid hv
      have H4 := Lib.hid (G1.out.trans h9)
      have hz4 := H4.out.size
      have hz5 : W.heap.size ≤ w9.heap.size := by have := h9.size; simp at this; omega
      rcases hv.2 with ⟨rfl, h0⟩ | ⟨g, cap', cur, rfl, hb, -⟩
      · have HE : Hid (smallO y b = []) := Lib.hid (List.length_eq_zero_iff.1 h0)
        clear hv h0 h9
        go_wp2_with (at_builtin; refine wpList_append_own_none rfl (.tmp 67) (.tmp 69) 23 rfl W.heap.size 3 i0 1 Tryd.underlying23 hi _ 1 [.int .i64 91] rfl hown rfl ?_)
        refine bodyPost_ret (v := ?_) ?_ rfl ?_; rotate_left 1; focus (simp [results, Tryd.results32, go_sem, *]; (try rfl); done)
        rw [HE.out]
        exact ⟨⟨_, rfl, (show Ints W.heap.size _ _ [91] from hown).mono F.out.size⟩, H4.out⟩
      · have hbd := HBD.out
        have hlen : ((smallO y b).map (Value.int .i64)).length = (smallO y b).length * 1 := by simp
        have HLN := Lib.hid hlen
        have HOW := Lib.hid hown
        clear hv h9 hlen hown HBD
        generalize hS : smallO y b = S at *
        go_wp2_with (at_builtin; refine wpList_append_own _ rfl (.tmp 67) (.tmp 69) 23 rfl W.heap.size 3 i0 (.int .i64 0) 1 8 Tryd.underlying23 hi hz0 hz1' hz2 rfl (by decide) _ 1 [.int .i64 91] rfl HOW.out ⟨g, 0, none⟩ S.length cap' (S.map (Value.int .i64)) rfl HLN.out ?c1 ?c2 ?c3 ?c4 ?c5 ?_)
        case c1 => exact fun j u hj => HV.out.cells (g := g) rfl j u hj
        case c2 =>
          intro x hx
          obtain ⟨y, -, rfl⟩ := List.mem_map.1 hx
          rfl
        case c3 => unfold maxLen; first | omega | (simp; omega)
        case c4 => first | omega | (simp; omega)
        case c5 => omega
        intro v' w5 hown' hgrow _
        have HI := Lib.hid (ints_append (l := [91]) (k := S) (w := w9) hown')
        have HG := Lib.hid (H4.out.grown hgrow (fun k hk => Nat.le_trans F.out.size (HOW.out.lt k hk).1))
        clear hown' hgrow
        go_wp2_with fail
        refine bodyPost_ret (v := ?_) ?_ rfl ?_; rotate_left 1; focus (simp [results, Tryd.results32, go_sem, *]; (try rfl); done)
        exact ⟨⟨_, rfl, HI.out.mono F.out.size⟩, HG.out⟩
set_option maxRecDepth 100000 in
set_option maxHeartbeats 4000000 in
theorem opsR_23 (ht : t ∈ A9) (hu : u ∈ A9) (kt : t.kind = 2) (ku : u.kind = 3) : Calls Tryd.prog 32 #[.agg #[.int .i64 t.kind, .int .i64 t.size, .int .i64 t.len, .bool t.flag, .string t.name, .slice p n cap], .agg #[.int .i64 u.kind, .int .i64 u.size, .int .i64 u.len, .bool u.flag, .string u.name, .slice q m mc]] w (OpR w (refO t u) true) := by
  have IT : Hid (isArith t = true) := Lib.hid (List.all_eq_true.1 A9_ar t ht)
  have IU : Hid (isArith u = true) := Lib.hid (List.all_eq_true.1 A9_ar u hu)
  have HR : Hid (refO t u = if t.size = 8 then [sgn t.flag 89 90] else if t.size = 4 then [sgn t.flag 87 88] else [87]) := Lib.hid (by unfold refO; rw [if_neg (by omega)]; rw [if_pos ku])
  generalize refO t u = R at *
  have q1 : (t.kind == 4) = false := by rw [kt]; rfl
  have KT := Lib.hid kt
  have KU := Lib.hid ku
  clear kt ku ht hu
  have X0 := Lib.hid (BY.new w t u p q n m cap mc)
  obtain ⟨i0, hi, hz0, hz1', hz2⟩ := info_parts info3
  go_enter Tryd.func32, Tryd.ntmps32
  go_wp2_with fail
  go_at_call 62; refine (arK2 t p n cap _ KT.out).mono ?_; rintro e w1 ⟨rfl, h1⟩; rw [IT.out]; have X1 := Lib.hid (X0.out.later h1); clear h1 X0
  obtain ⟨b0, b1, b2, b3, b4, b5, bf⟩ := X1.out.bb; have bz := cell_lt b0; simp only at bz
  go_wp2_with fail
  clear b0 b1 b2 b3 b4 b5 bf bz
  go_at_call 62; refine (arK3 u q m mc _ KU.out).mono ?_; rintro e w2 ⟨rfl, h2⟩; rw [IU.out]; have X2 := Lib.hid ((X1.out.later ((Fresh.refl _).alloc #[.int .i64 t.size, .bool t.flag] 62)).later h2); have T8 := Lib.hid ((Blk.new w1 #[.int .i64 t.size, .bool t.flag] 62).fresh h2); clear h2 X1
  go_upto_region 9 with fail
  have F : Hid (Fresh w (w2.alloc (.cells #[.int .i64 0, .bool false] 62))) := Lib.hid (X2.out.fr.trans (by (repeat' first | with_reducible exact Fresh.refl _ | with_reducible assumption | with_reducible refine Fresh.alloc ?_ _ _ | with_reducible refine Fresh.drew ?_ | with_reducible refine Fresh.drewN ?_ _ | with_reducible refine Fresh.setCell ?_ ?_ _ | with_reducible refine Fresh.trans ?_ (by assumption) | (simp; done) | (simp; omega))))
  have T11 : Hid (Blk (w2.alloc (.cells #[.int .i64 0, .bool false] 62)) w2.heap.size #[.int .i64 0, .bool false].toList) := Lib.hid (Blk.new w2 #[.int .i64 0, .bool false] 62)
  have T8 := Lib.hid (T8.out.fresh (show Fresh w2 (w2.alloc (.cells #[.int .i64 0, .bool false] 62)) from (by (repeat' first | with_reducible exact Fresh.refl _ | with_reducible assumption | with_reducible refine Fresh.alloc ?_ _ _ | with_reducible refine Fresh.drew ?_ | with_reducible refine Fresh.drewN ?_ _ | with_reducible refine Fresh.setCell ?_ ?_ _ | with_reducible refine Fresh.trans ?_ (by assumption) | (simp; done) | (simp; omega)))))
  clear X2
  generalize (w2.alloc (.cells #[.int .i64 0, .bool false] 62)) = W at *
  generalize w2.heap.size = b11 at *
  generalize w1.heap.size = b8 at *
  have x0 := T8.out.1 0 _ rfl; have x1 := T8.out.1 1 _ rfl; have xz := T8.out.2.2; have y0 := T11.out.1 0 _ rfl; have y1 := T11.out.1 1 _ rfl; have yz := T11.out.2.2
  clear T8 T11 IT IU KT KU q1
  generalize t.size = s at *
  generalize t.flag = a at *
  by_cases h8 : s = 8
  · subst h8
    have eR := HR.out
    rw [if_pos rfl] at eR
    clear HR
    subst eR
    go_wp2_with fail
    clear x0 x1 xz y0 y1 yz
    go_at_call 67; refine (signR 8 a 89 90 _).mono ?_; rintro e w9 ⟨⟨v, rfl, hv⟩, h9⟩
    go_wp2_with fail
    refine bodyPost_ret (v := ?_) ?_ rfl ?_; rotate_left 1; focus (simp [results, Tryd.results32, go_sem, *]; (try rfl); done)
    exact ⟨⟨_, rfl, hv.mono F.out.size⟩, F.out.trans h9⟩
  · have g8 : (s == 8) = false := by simpa using h8
    by_cases h4 : s = 4
    · subst h4
      have eR := HR.out
      rw [if_neg (by decide), if_pos rfl] at eR
      clear HR
      subst eR
      go_wp2_with fail
      clear x0 x1 xz y0 y1 yz
      go_at_call 67; refine (signR 4 a 87 88 _).mono ?_; rintro e w9 ⟨⟨v, rfl, hv⟩, h9⟩
      go_wp2_with fail
      refine bodyPost_ret (v := ?_) ?_ rfl ?_; rotate_left 1; focus (simp [results, Tryd.results32, go_sem, *]; (try rfl); done)
      exact ⟨⟨_, rfl, hv.mono F.out.size⟩, F.out.trans h9⟩
    · have g4 : (s == 4) = false := by simpa using h4
      have eR := HR.out
      rw [if_neg h8, if_neg h4] at eR
      clear HR
      subst eR
      clear h8 h4
      go_wp2_with fail
      refine bodyPost_ret (v := ?_) ?_ rfl ?_; rotate_left 1; focus (simp [results, Tryd.results32, go_sem, *]; (try rfl); done)
      exact ⟨⟨_, rfl, (Ints.one W.heap.size W 87 (Nat.le_refl _)).mono F.out.size⟩, F.out.trans (by (repeat' first | with_reducible exact Fresh.refl _ | with_reducible assumption | with_reducible refine Fresh.alloc ?_ _ _ | with_reducible refine Fresh.drew ?_ | with_reducible refine Fresh.drewN ?_ _ | with_reducible refine Fresh.setCell ?_ ?_ _ | with_reducible refine Fresh.trans ?_ (by assumption) | (simp; done) | (simp; omega)))⟩
set_option maxRecDepth 100000 in
set_option maxHeartbeats 4000000 in
theorem opsR_22 (ht : t ∈ A9) (hu : u ∈ A9) (kt : t.kind = 2) (ku : u.kind = 2) : Calls Tryd.prog 32 #[.agg #[.int .i64 t.kind, .int .i64 t.size, .int .i64 t.len, .bool t.flag, .string t.name, .slice p n cap], .agg #[.int .i64 u.kind, .int .i64 u.size, .int .i64 u.len, .bool u.flag, .string u.name, .slice q m mc]] w (OpR w (refO t u) true) := by
  have IT : Hid (isArith t = true) := Lib.hid (List.all_eq_true.1 A9_ar t ht)
  have IU : Hid (isArith u = true) := Lib.hid (List.all_eq_true.1 A9_ar u hu)
  have HR : Hid (refO t u = if u.size = 8 then (if t.size = 8 then [] else [sgn t.flag 84 85]) else if t.size = u.size ∧ t.flag = u.flag then [] else if t.size = 8 then [86] ++ smallO u.size u.flag else smallO u.size u.flag) := Lib.hid (by unfold refO; rw [if_neg (by omega)]; rw [if_neg (by omega)])
  generalize refO t u = R at *
  have q1 : (t.kind == 4) = false := by rw [kt]; rfl
  have KT := Lib.hid kt
  have KU := Lib.hid ku
  clear kt ku ht hu
  have X0 := Lib.hid (BY.new w t u p q n m cap mc)
  obtain ⟨i0, hi, hz0, hz1', hz2⟩ := info_parts info3
  go_enter Tryd.func32, Tryd.ntmps32
  go_wp2_with fail
  go_at_call 62; refine (arK2 t p n cap _ KT.out).mono ?_; rintro e w1 ⟨rfl, h1⟩; rw [IT.out]; have X1 := Lib.hid (X0.out.later h1); clear h1 X0
  obtain ⟨b0, b1, b2, b3, b4, b5, bf⟩ := X1.out.bb; have bz := cell_lt b0; simp only at bz
  go_wp2_with fail
  clear b0 b1 b2 b3 b4 b5 bf bz
  go_at_call 62; refine (arK2 u q m mc _ KU.out).mono ?_; rintro e w2 ⟨rfl, h2⟩; rw [IU.out]; have X2 := Lib.hid ((X1.out.later ((Fresh.refl _).alloc #[.int .i64 t.size, .bool t.flag] 62)).later h2); have T8 := Lib.hid ((Blk.new w1 #[.int .i64 t.size, .bool t.flag] 62).fresh h2); clear h2 X1
  go_upto_region 9 with fail
  have F : Hid (Fresh w (w2.alloc (.cells #[.int .i64 u.size, .bool u.flag] 62))) := Lib.hid (X2.out.fr.trans (by (repeat' first | with_reducible exact Fresh.refl _ | with_reducible assumption | with_reducible refine Fresh.alloc ?_ _ _ | with_reducible refine Fresh.drew ?_ | with_reducible refine Fresh.drewN ?_ _ | with_reducible refine Fresh.setCell ?_ ?_ _ | with_reducible refine Fresh.trans ?_ (by assumption) | (simp; done) | (simp; omega))))
  have T11 : Hid (Blk (w2.alloc (.cells #[.int .i64 u.size, .bool u.flag] 62)) w2.heap.size #[.int .i64 u.size, .bool u.flag].toList) := Lib.hid (Blk.new w2 #[.int .i64 u.size, .bool u.flag] 62)
  have T8 := Lib.hid (T8.out.fresh (show Fresh w2 (w2.alloc (.cells #[.int .i64 u.size, .bool u.flag] 62)) from (by (repeat' first | with_reducible exact Fresh.refl _ | with_reducible assumption | with_reducible refine Fresh.alloc ?_ _ _ | with_reducible refine Fresh.drew ?_ | with_reducible refine Fresh.drewN ?_ _ | with_reducible refine Fresh.setCell ?_ ?_ _ | with_reducible refine Fresh.trans ?_ (by assumption) | (simp; done) | (simp; omega)))))
  clear X2
  generalize (w2.alloc (.cells #[.int .i64 u.size, .bool u.flag] 62)) = W at *
  generalize w2.heap.size = b11 at *
  generalize w1.heap.size = b8 at *
  have x0 := T8.out.1 0 _ rfl; have x1 := T8.out.1 1 _ rfl; have xz := T8.out.2.2; have y0 := T11.out.1 0 _ rfl; have y1 := T11.out.1 1 _ rfl; have yz := T11.out.2.2
  clear T8 T11 IT IU KT KU q1
  generalize t.size = s at *
  generalize t.flag = a at *
  generalize u.size = y at *
  generalize u.flag = b at *
  by_cases h8 : y = 8
  · subst h8
    by_cases k8 : s = 8
    · subst k8
      have eR := HR.out
      rw [if_pos rfl, if_pos rfl] at eR
      clear HR
      subst eR
      go_wp2_with fail
      refine bodyPost_ret (v := ?_) ?_ rfl ?_; rotate_left 1; focus (simp [results, Tryd.results32, go_sem, *]; (try rfl); done)
      exact ⟨⟨_, rfl, Ints.nil ..⟩, F.out⟩
    · have g8 : (s == 8) = false := by simpa using k8
      have eR := HR.out
      rw [if_pos rfl, if_neg k8] at eR
      clear HR
      subst eR
      clear k8
      go_wp2_with fail
      clear x0 x1 xz y0 y1 yz
      go_at_call 67; refine (signR s a 84 85 _).mono ?_; rintro e w9 ⟨⟨v, rfl, hv⟩, h9⟩
      go_wp2_with fail
      refine bodyPost_ret (v := ?_) ?_ rfl ?_; rotate_left 1; focus (simp [results, Tryd.results32, go_sem, *]; (try rfl); done)
      exact ⟨⟨_, rfl, hv.mono F.out.size⟩, F.out.trans h9⟩
  · have g8 : (y == 8) = false := by simpa using h8
    by_cases he : s = y ∧ a = b
    · obtain ⟨rfl, rfl⟩ := he
      have eR := HR.out
      rw [if_neg h8, if_pos ⟨rfl, rfl⟩] at eR
      clear HR
      subst eR
      clear h8
      go_wp2_with fail
      refine bodyPost_ret (v := ?_) ?_ rfl ?_; rotate_left 1; focus (simp [results, Tryd.results32, go_sem, *]; (try rfl); done)
      exact ⟨⟨_, rfl, Ints.nil ..⟩, F.out⟩
    · have q3 : ((s == y) = false ∧ True) ∨ ((s == y) = true ∧ (a == b) = false) := by
        by_cases e : s = y
        · right; exact ⟨by simpa using e, by have : ¬ a = b := fun e' => he ⟨e, e'⟩; simpa using this⟩
        · left; exact ⟨by simpa using e, trivial⟩
      by_cases k8 : s = 8
      · subst k8
        have g9 : ((8 : Int) == y) = false := by simp; omega
        have eR := HR.out
        rw [if_neg h8, if_neg he, if_pos rfl] at eR
        clear HR
        subst eR
        clear h8 he q3
        have HBD := Lib.hid (small_le y b)
        have HO : Hid ((W.alloc (.cells #[.int .i64 86] 3)).ownsRow W.heap.size 3 1 (.slice (some ⟨W.heap.size, 0, none⟩) 1 1) 1 [.int .i64 86]) := Lib.hid (Ints.one W.heap.size W 86 (Nat.le_refl _))
        have G1 : Hid (Fresh w (W.alloc (.cells #[.int .i64 86] 3))) := Lib.hid (F.out.trans (by (repeat' first | with_reducible exact Fresh.refl _ | with_reducible assumption | with_reducible refine Fresh.alloc ?_ _ _ | with_reducible refine Fresh.drew ?_ | with_reducible refine Fresh.drewN ?_ _ | with_reducible refine Fresh.setCell ?_ ?_ _ | with_reducible refine Fresh.trans ?_ (by assumption) | (simp; done) | (simp; omega))))
        go_wp2_with fail
        clear x0 x1 xz y0 y1 yz
        go_at_call 68; refine (smallR y b _).mono ?_; rintro e w9 ⟨⟨v, rfl, hv⟩, h9⟩
        have hown := h9.own HO.out
        have HV := Lib.hid hv
        have H4 := Lib.hid (G1.out.trans h9)
        have hz4 := H4.out.size
        have hz5 : W.heap.size ≤ w9.heap.size := by have := h9.size; simp at this; omega
        rcases hv.2 with ⟨rfl, h0⟩ | ⟨g, cap', cur, rfl, hb, -⟩
        · have HE : Hid (smallO y b = []) := Lib.hid (List.length_eq_zero_iff.1 h0)
          clear hv h0 h9
          go_wp2_with (at_builtin; refine wpList_append_own_none rfl (.tmp 115) (.tmp 117) 23 rfl W.heap.size 3 i0 1 Tryd.underlying23 hi _ 1 [.int .i64 86] rfl hown rfl ?_)
          refine bodyPost_ret (v := ?_) ?_ rfl ?_; rotate_left 1; focus (simp [results, Tryd.results32, go_sem, *]; (try rfl); done)
          rw [HE.out]
          exact ⟨⟨_, rfl, (show Ints W.heap.size _ _ [86] from hown).mono F.out.size⟩, H4.out⟩
        · have hbd := HBD.out
          have hlen : ((smallO y b).map (Value.int .i64)).length = (smallO y b).length * 1 := by simp
          have HLN := Lib.hid hlen
          have HOW := Lib.hid hown
          clear hv h9 hlen hown HBD
          generalize hS : smallO y b = S at *
          go_wp2_with (at_builtin; refine wpList_append_own _ rfl (.tmp 115) (.tmp 117) 23 rfl W.heap.size 3 i0 (.int .i64 0) 1 8 Tryd.underlying23 hi hz0 hz1' hz2 rfl (by decide) _ 1 [.int .i64 86] rfl HOW.out ⟨g, 0, none⟩ S.length cap' (S.map (Value.int .i64)) rfl HLN.out ?c1 ?c2 ?c3 ?c4 ?c5 ?_)
          case c1 => exact fun j u hj => HV.out.cells (g := g) rfl j u hj
          case c2 =>
            intro x hx
            obtain ⟨y, -, rfl⟩ := List.mem_map.1 hx
            rfl
          case c3 => unfold maxLen; first | omega | (simp; omega)
          case c4 => first | omega | (simp; omega)
          case c5 => omega
          intro v' w5 hown' hgrow _
          have HI := Lib.hid (ints_append (l := [86]) (k := S) (w := w9) hown')
          have HG := Lib.hid (H4.out.grown hgrow (fun k hk => Nat.le_trans F.out.size (HOW.out.lt k hk).1))
          clear hown' hgrow
          go_wp2_with fail
          refine bodyPost_ret (v := ?_) ?_ rfl ?_; rotate_left 1; focus (simp [results, Tryd.results32, go_sem, *]; (try rfl); done)
          exact ⟨⟨_, rfl, HI.out.mono F.out.size⟩, HG.out⟩
      · have k9 : (s == 8) = false := by simpa using k8
        have eR := HR.out
        rw [if_neg h8, if_neg he, if_neg k8] at eR
        clear HR
        subst eR
        clear h8 he k8
        rcases q3 with ⟨q3, q4⟩ | ⟨q3, q4⟩
        all_goals
          go_wp2_with fail
          clear x0 x1 xz y0 y1 yz
          go_at_call 68; refine (smallR y b _).mono ?_; rintro e w9 ⟨⟨v, rfl, hv⟩, h9⟩
          go_wp2_with fail
          refine bodyPost_ret (v := ?_) ?_ rfl ?_; rotate_left 1; focus (simp [results, Tryd.results32, go_sem, *]; (try rfl); done)
          exact ⟨⟨_, rfl, hv.mono F.out.size⟩, F.out.trans h9⟩
theorem opsR_yes (ht : t ∈ A9) (hu : u ∈ A9) : Calls Tryd.prog 32 #[.agg #[.int .i64 t.kind, .int .i64 t.size, .int .i64 t.len, .bool t.flag, .string t.name, .slice p n cap], .agg #[.int .i64 u.kind, .int .i64 u.size, .int .i64 u.len, .bool u.flag, .string u.name, .slice q m mc]] w (OpR w (opsL t u) true) := by
  rw [← (refO_eq ht hu).1]
  rcases A9_kind ht with kt | ⟨kt, -⟩
  · rcases A9_kind hu with ku | ⟨ku, -⟩
    · exact opsR_33 t u p q n m cap mc w ht hu kt ku
    · exact opsR_32 t u p q n m cap mc w ht hu kt ku
  · rcases A9_kind hu with ku | ⟨ku, -⟩
    · exact opsR_23 t u p q n m cap mc w ht hu kt ku
    · exact opsR_22 t u p q n m cap mc w ht hu kt ku
end
end Go.Proofs.YteiomcbphbbpkaaDoor
