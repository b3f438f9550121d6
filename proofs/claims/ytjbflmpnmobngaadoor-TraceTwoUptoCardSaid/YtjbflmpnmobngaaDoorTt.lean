/- An outcome's text: the reference. -/
import Derived.Test.YtjbflmpnmobngaaDoorTs
import Derived.Test.YtjbflmpnmobngaaDoorTq
import Derived.Test.YtjbflmpnmobngaaDoorTf
namespace Go.Proofs.YtjbflmpnmobngaaDoor
set_option linter.unusedSimpArgs false
set_option linter.unusedVariables false
open Go.RowKit

theorem Rw.nil (w X : World) (h : Below w.heap.size w X) : Rw w X (.slice none 0 0) [] := ⟨World.ownsRow_nil .., h⟩
theorem Rw.back {w X : World} {v : Value} {l : List UInt8} (h : Rw w X v l) (hl : l ≠ []) : (convert 59 9 v).run Tryd.prog X = .ok (.string ⟨l.toArray⟩) X := by
  obtain ⟨g, hg⟩ : ∃ g, v.ownBlock = some g := by
    rcases h.own.2 with ⟨_, h0⟩ | ⟨g, cap, cur, rfl, _⟩
    · exact absurd (List.length_eq_zero_iff.1 h0) hl
    · exact ⟨g, rfl⟩
  have hc := h.own.cells hg
  obtain ⟨cap, rfl⟩ : ∃ cap, v = .slice (some ⟨g, 0, none⟩) l.length cap := by
    rcases h.own.2 with ⟨_, h0⟩ | ⟨g', cap, cur, rfl, _⟩
    · exact absurd (List.length_eq_zero_iff.1 h0) hl
    · obtain rfl : g' = g := Option.some.inj hg
      exact ⟨cap, rfl⟩
  exact run_convert_bytes_back X 59 9 5 ⟨g, 0, none⟩ cap l Tryd.underlying59 Tryd.underlying5 Tryd.underlying9 (fun j hj => hc j _ (by simp [Lib.byteCells, hj]))
theorem step_strR (X : World) {ops : Array Oper} {o : Oper} {a : Act} {K : Act → World → Prop} {Q : Exit → Act → World → Prop} {E : Prop} (hgd : o.guard = none) (sl x : Operand) (ho : o.op = .call { callee := .builtin .append, args := #[sl, x], argTypes := #[59, 9] })
    {w : World} (v : Value) (l : List UInt8) (hs : a.eval sl = v) (h : Rw w X v l) (s : ByteArray) (hx : a.eval x = .string s) (hfit : l.length + s.data.toList.length ≤ 140737488355328)
    (k : ∀ v' X', Rw w X' v' (l ++ s.data.toList) → Keeps X X' → K (a.put o.dst v') X') : if Region.wanted o (yielded ops a.tmps) = true then Oper.wp Tryd.prog o a X K Q else E := by
  have hw : Region.wanted o (yielded ops a.tmps) = true := by simp [Region.wanted, hgd]
  rw [if_pos hw]
  have e := sizeB s
  obtain ⟨v', w', hr, h2, h3⟩ := run_str_wide w.heap.size o.type v l.length (Lib.byteCells l) X h.own s (by omega) h.b.size
  unfold Oper.wp execOp
  simp only [ho, resolve, invoke, builtin, Sem.run_bind, Sem.run_pure, Result.andThen_ok, List.map_toArray, List.map_cons, List.map_nil, hs, hx, hr]
  refine k _ _ ⟨?_, h.b.grown h3 h.b.size (fun g hg => (h.own.lt g hg).1)⟩ (h.keeps h3)
  rw [List.length_append, ← e, Lib.byteCells_append]
  exact h2
theorem step_bytR (X : World) {ops : Array Oper} {o : Oper} {a : Act} {K : Act → World → Prop} {Q : Exit → Act → World → Prop} {E : Prop} (hgd : o.guard = none) (sl x : Operand) (ho : o.op = .call { callee := .builtin .append, args := #[sl, x], argTypes := #[59, 59] })
    {w : World} (v : Value) (l : List UInt8) (hs : a.eval sl = v) (h : Rw w X v l) (t : List UInt8) (B n c : Nat) (hx : a.eval x = .slice (some ⟨B, 0, none⟩) n c) (hn : n = t.length) (hc : ∀ j u, (Lib.byteCells t)[j]? = some u → X.cell? ((⟨B, 0, none⟩ : Addr).add j) = some u) (hfit : l.length + t.length ≤ 140737488355328)
    (k : ∀ v' X', Rw w X' v' (l ++ t) → Keeps X X' → K (a.put o.dst v') X') : if Region.wanted o (yielded ops a.tmps) = true then Oper.wp Tryd.prog o a X K Q else E := by
  obtain ⟨i0, hi, hz0, hz1, hz2⟩ := info_parts info5
  subst hn
  refine step_append_w X hgd sl x 59 ho w.heap.size 5 i0 (.int .u8 0) 1 1 Tryd.underlying59 hi hz0 hz1 hz2 rfl (by decide) v l.length (Lib.byteCells l) hs h.own ⟨B, 0, none⟩ t.length c (Lib.byteCells t) hx (by rw [Lib.byteCells_length, Nat.mul_one]) hc ?_ (by unfold maxLen; omega) (by omega) h.b.size (fun v' X' h1 h2 _ => ?_)
  · intro u hu
    obtain ⟨b, -, rfl⟩ := List.mem_map.1 hu
    rfl
  · refine k v' X' ⟨?_, h.b.grown h2 h.b.size (fun g hg => (h.own.lt g hg).1)⟩ (h.keeps h2)
    rw [List.length_append, Lib.byteCells_append]
    exact h1
set_option maxRecDepth 100000 in
set_option maxHeartbeats 16000000 in
theorem textR_any (o : Oc) (w : World) (ho : o.okAt w) (hn : o.nums) (hl : (outT o).length ≤ 140737488355328) :
    Calls Tryd.prog 20 #[.agg #[.slice o.p o.n o.cap, .int .i64 o.st, .int .i32 o.code, .int .i64 o.steps]] w
      fun e w' => e = .returned (.string ⟨(outT o).toArray⟩) ∧ Below w.heap.size w w' := by
  obtain ⟨p, n, cap, f, st, code, steps⟩ := o
  have HO := Lib.hid ho.1
  have HN := Lib.hid hn
  have hcap : n ≤ cap := ho.2.1
  have hmax : cap ≤ 9223372036854775807 := ho.2.2
  have HL : Hid ((evsT f n).length + ((endT st code).length + 1) ≤ 140737488355328) := Lib.hid (by simp only [outT, List.length_append, List.length_cons, List.length_nil] at hl; omega)
  simp only
  clear ho hn hl
  have hb2 : Hid (Below w.heap.size w (w.alloc (.cells #[.slice p n cap, .int .i64 st, .int .i32 code, .int .i64 steps] 40))) := Lib.hid ((Fresh.refl w).alloc _ _).below
  have B0 : Hid (Box (w.alloc (.cells #[.slice p n cap, .int .i64 st, .int .i32 code, .int .i64 steps] 40)) w.heap.size 40 #[.slice p n cap, .int .i64 st, .int .i32 code, .int .i64 steps]) := Lib.hid (Box.new w _ _)
  go_enter Tryd.func20, Tryd.ntmps20
  go_upto_region 1 with fail
  generalize (w.alloc (.cells #[.slice p n cap, .int .i64 st, .int .i32 code, .int .i64 steps] 40)) = X at *
  go_wp2_with fail
  go_loopw [3, 4] (fun s i wr => ∃ k : Nat, k ≤ n ∧ i = .int .i64 k ∧ Hid (Rw w wr s (evsT f k)) ∧ Hid (Box wr w.heap.size 40 #[.slice p n cap, .int .i64 st, .int .i32 code, .int .i64 steps])) (fun _ i _ => n - (intOf i).toNat)
  case atStart => exact ⟨0, by omega, rfl, Lib.hid (Rw.nil w X hb2.out), B0⟩
  case round =>
    obtain ⟨k, hk, rfl, HR, HB⟩ := hrel
    have x0 := HB.out.cell 0 _ rfl
    by_cases hlt : k < n
    · obtain ⟨B, off, rfl, hc⟩ := HO.out.resolve_left (by omega)
      obtain ⟨⟨q0, q1, q2, q3, q4⟩, hok⟩ := hc k hlt
      have a0 := stays_below HR.out.b _ _ _ q0
      have a1 := stays_below HR.out.b _ _ _ q1
      have a2 := stays_below HR.out.b _ _ _ q2
      have a3 := stays_below HR.out.b _ _ _ q3
      have a4 := stays_below HR.out.b _ _ _ q4
      have z0 := cell_lt a0
      simp only at z0
      have hlt' : (k : Int) < (n : Int) := by omega
      have HOK := Lib.hid hok
      have HEN := Lib.hid (HN.out.1 k hlt)
      have HLK : Hid ((evsT f k).length + (evT (f k)).length ≤ 140737488355328) := Lib.hid (by have := HL.out; have h2 := evsT_mono f (show k + 1 ≤ n by omega); simp only [evsT, List.length_append] at h2; omega)
      have HS : Hid (evsT f (k + 1) = evsT f k ++ evT (f k)) := Lib.hid rfl
      clear hc q0 q1 q2 q3 q4 hok
      simp only at HEN
      generalize f k = E at *
      obtain ⟨nm, ep, en, ecap, ef, er⟩ := E
      simp only at a0 a1 a2 a3 a4
      have HVA := Lib.hid HOK.out.1
      have hen : en ≤ ecap := HOK.out.2.1
      have hem : ecap ≤ 9223372036854775807 := HOK.out.2.2
      have HLE : Hid ((evsT f k).length + (nm.data.toList.length + (1 + ((argsT ef en).length + (1 + ((resT er).length + 1))))) ≤ 140737488355328) := Lib.hid (by have := HLK.out; simp only [evT, List.length_append, List.length_cons, List.length_nil] at this; omega)
      simp only at HVA HEN
      clear HLK HOK
      go_upto_region 6 with fail
      have HF : Hid (Below wr.heap.size wr (wr.alloc (.cells #[.string nm, .slice ep en ecap, .int .i64 er.k, .int .u64 er.n, .int .i64 er.b] 32))) := Lib.hid ((Fresh.refl wr).alloc _ _).below
      have R1 := Lib.hid (HR.out.later HF.out)
      have B1 := Lib.hid (HB.out.later HF.out)
      have E1 : Hid (Box (wr.alloc (.cells #[.string nm, .slice ep en ecap, .int .i64 er.k, .int .u64 er.n, .int .i64 er.b] 32)) wr.heap.size 32 #[.string nm, .slice ep en ecap, .int .i64 er.k, .int .u64 er.n, .int .i64 er.b]) := Lib.hid (Box.new wr _ _)
      clear a0 a1 a2 a3 a4 z0 x0 HR HB HF
      generalize (wr.alloc (.cells #[.string nm, .slice ep en ecap, .int .i64 er.k, .int .u64 er.n, .int .i64 er.b] 32)) = X1 at *
      generalize wr.heap.size = ebx at *
      have y0 := E1.out.cell 0 _ rfl
      go_wp2_with (at_builtin; refine wp_strR rfl _ _ rfl _ _ rfl R1.out nm rfl (by have := HLE.out; omega) ?_)
      intro v2 X2 r2 k2
      have R2 := Lib.hid r2
      have B2 := Lib.hid (k2 _ _ _ (by decide) B1.out)
      have E2 := Lib.hid (k2 _ _ _ (by decide) E1.out)
      clear r2 k2 R1 B1 E1 y0
      have HF3 : Hid (Below X2.heap.size X2 (X2.alloc (.cells #[.int .u8 40] 5))) := Lib.hid ((Fresh.refl X2).alloc _ _).below
      go_wp2_with (at_builtin; refine wp_bytR rfl _ _ rfl _ _ rfl (R2.out.later HF3.out) [40] X2.heap.size _ _ rfl rfl (new_bytes X2 [40] _ rfl) (by have := HLE.out; simp only [List.length_append, List.length_cons, List.length_nil]; omega) ?_)
      intro v3 X3 r3 k3
      have R3 := Lib.hid r3
      have B3 := Lib.hid (k3 _ _ _ (by decide) (B2.out.later HF3.out))
      have E3 := Lib.hid (k3 _ _ _ (by decide) (E2.out.later HF3.out))
      clear r3 k3 R2 B2 E2 HF3
      go_wp2_with fail
      go_loopw [3, 6] (fun s i wx => ∃ j : Nat, j ≤ en ∧ i = .int .i64 j ∧ Hid (Rw w wx s (evsT f k ++ nm.data.toList ++ [40] ++ argsT ef j)) ∧ Hid (Box wx w.heap.size 40 #[.slice (some ⟨B, off, none⟩) n cap, .int .i64 st, .int .i32 code, .int .i64 steps]) ∧ Hid (Box wx ebx 32 #[.string nm, .slice ep en ecap, .int .i64 er.k, .int .u64 er.n, .int .i64 er.b])) (fun _ i _ => en - (intOf i).toNat)
      case atStart => exact ⟨0, by omega, rfl, Lib.hid (by simpa [argsT] using R3.out), B3, E3⟩
      case round =>
        clear R3 B3 E3
        obtain ⟨j, hj, rfl, HRj, HBj, HEj⟩ := hrel
        have y1 := HEj.out.cell 1 _ rfl
        by_cases hjt : j < en
        · obtain ⟨AB, ao, rfl, hac⟩ := HVA.out.resolve_left (by omega)
          obtain ⟨q0, q1, q2⟩ := hac j hjt
          have HVO := Lib.hid (HEN.out.1 j hjt)
          have hjt' : (j : Int) < (en : Int) := by omega
          have HLJ : Hid ((evsT f k).length + (nm.data.toList.length + (1 + ((argsT ef (j + 1)).length + 2))) ≤ 140737488355328) := Lib.hid (by have := HLE.out; have := argsT_mono ef (show j + 1 ≤ en by omega); omega)
          have HEQ : Hid (argsT ef (j + 1) = argsT ef j ++ ((if 0 < j then [44, 32] else []) ++ valT (ef j))) := Lib.hid rfl
          clear hac
          obtain ⟨V, hV⟩ : ∃ V, V = ef j := ⟨_, rfl⟩
          simp only at HVO
          rw [← hV] at q0 q1 q2 HVO HEQ
          have HVV := Lib.hid hV
          clear hV
          obtain ⟨vk, vn, vb⟩ := V
          simp only at q0 q1 q2
          have Q0 := Lib.hid q0
          have Q1 := Lib.hid q1
          have Q2 := Lib.hid q2
          clear q0 q1 q2
          by_cases hj0 : 0 < j
          · rw [if_pos hj0] at HEQ
            have hj0' : (0 : Int) < (j : Int) := by omega
            have HF4 : Hid (Below wr.heap.size wr (wr.alloc (.cells #[.int .u8 44, .int .u8 32] 5))) := Lib.hid ((Fresh.refl wr).alloc _ _).below
            go_wp2_with (at_builtin; refine wp_bytR rfl _ _ rfl _ _ rfl (HRj.out.later HF4.out) [44, 32] wr.heap.size _ _ rfl rfl (new_bytes wr [44, 32] _ rfl) (by have := HLJ.out; rw [HEQ.out] at this; simp only [List.length_append, List.length_cons, List.length_nil] at this ⊢; omega) ?_)
            intro v4 X4 r4 k4
            have R4 := Lib.hid r4
            have B4 := Lib.hid (k4 _ _ _ (by decide) (HBj.out.later HF4.out))
            have E4 := Lib.hid (k4 _ _ _ (by decide) (HEj.out.later HF4.out))
            clear r4 k4 HRj HBj HEj HF4 y1
            have y1 := E4.out.cell 1 _ rfl
            have a0 := stays_below R4.out.b _ _ _ Q0.out
            have a1 := stays_below R4.out.b _ _ _ Q1.out
            have a2 := stays_below R4.out.b _ _ _ Q2.out
            have z0 := cell_lt a0
            simp only at z0
            go_wp2_with fail
            go_at_call 42; refine (valueR_any ⟨vk, vn, vb⟩ HVO.out _).mono ?_; rintro e w5 ⟨rfl, f5⟩
            have R5 := Lib.hid (R4.out.later f5.below)
            have B5 := Lib.hid (B4.out.later f5.below)
            have E5 := Lib.hid (E4.out.later f5.below)
            clear f5
            go_wp2_with (at_builtin; refine wp_strR rfl _ _ rfl _ _ rfl R5.out ⟨(valT ⟨vk, vn, vb⟩).toArray⟩ rfl (by have := HLJ.out; rw [HEQ.out] at this; simp only [List.length_append, List.length_cons, List.length_nil] at this ⊢; omega) ?_)
            intro v6 X6 r6 k6
            have R6 : Hid (Rw w X6 v6 (evsT f k ++ nm.data.toList ++ [40] ++ argsT ef (j + 1))) := Lib.hid (by rw [HEQ.out]; simpa [argsT] using r6)
            have B6 := Lib.hid (k6 _ _ _ (by decide) B5.out)
            have E6 := Lib.hid (k6 _ _ _ (by decide) E5.out)
            clear r6 k6 R5 B5 E5
            go_wp2_with fail
            go_roundw
            case rel => exact ⟨j + 1, by omega, by go_num, R6, B6, E6⟩
            case measure => simp [intOf]; try omega
          · obtain rfl : j = 0 := by omega
            rw [if_neg (by omega)] at HEQ
            have a0 := stays_below HRj.out.b _ _ _ Q0.out
            have a1 := stays_below HRj.out.b _ _ _ Q1.out
            have a2 := stays_below HRj.out.b _ _ _ Q2.out
            simp only [Nat.zero_mul, Nat.add_zero] at a0 a1 a2
            have z0 := cell_lt a0
            simp only at z0
            go_wp2_with fail
            go_at_call 42; refine (valueR_any ⟨vk, vn, vb⟩ HVO.out _).mono ?_; rintro e w5 ⟨rfl, f5⟩
            have R5 := Lib.hid (HRj.out.later f5.below)
            have B5 := Lib.hid (HBj.out.later f5.below)
            have E5 := Lib.hid (HEj.out.later f5.below)
            clear f5
            go_wp2_with (at_builtin; refine wp_strR rfl _ _ rfl _ _ rfl R5.out ⟨(valT ⟨vk, vn, vb⟩).toArray⟩ rfl (by have := HLJ.out; rw [HEQ.out] at this; simp only [List.length_append, List.length_cons, List.length_nil] at this ⊢; omega) ?_)
            intro v6 X6 r6 k6
            have R6 : Hid (Rw w X6 v6 (evsT f k ++ nm.data.toList ++ [40] ++ argsT ef (0 + 1))) := Lib.hid (by rw [HEQ.out]; simpa [argsT] using r6)
            have B6 := Lib.hid (k6 _ _ _ (by decide) B5.out)
            have E6 := Lib.hid (k6 _ _ _ (by decide) E5.out)
            clear r6 k6 R5 B5 E5
            go_wp2_with fail
            go_roundw
            case rel => exact ⟨0 + 1, by omega, by go_num, R6, B6, E6⟩
            case measure => simp [intOf]; try omega
        · obtain rfl : j = en := by omega
          clear hjt hj
          have HF7 : Hid (Below wr.heap.size wr (wr.alloc (.cells #[.int .u8 41] 5))) := Lib.hid ((Fresh.refl wr).alloc _ _).below
          go_wp2_with (at_builtin; refine wp_bytR rfl _ _ rfl _ _ rfl (HRj.out.later HF7.out) [41] wr.heap.size _ _ rfl rfl (new_bytes wr [41] _ rfl) (by have := HLE.out; simp only [List.length_append, List.length_cons, List.length_nil]; omega) ?_)
          intro v7 X7 r7 k7
          have R7 := Lib.hid r7
          have B7 := Lib.hid (k7 _ _ _ (by decide) (HBj.out.later HF7.out))
          have E7 := Lib.hid (k7 _ _ _ (by decide) (HEj.out.later HF7.out))
          clear r7 k7 HRj HBj HEj HF7 y1
          obtain ⟨rk, rn, rb⟩ := er
          have x2 := E7.out.cell 2 _ rfl
          have x3 := E7.out.cell 3 _ rfl
          have x4 := E7.out.cell 4 _ rfl
          try simp only at x2 x3 x4
          have HRO := Lib.hid HEN.out.2
          by_cases hr : rk = 0
          · subst hr
            have HE0 : Hid (resT ⟨0, rn, rb⟩ = []) := Lib.hid rfl
            have HF8 : Hid (Below X7.heap.size X7 (X7.alloc (.cells #[.int .u8 10] 5))) := Lib.hid ((Fresh.refl X7).alloc _ _).below
            go_wp2_with (at_builtin; refine wp_bytR rfl _ _ rfl _ _ rfl (R7.out.later HF8.out) [10] X7.heap.size _ _ rfl rfl (new_bytes X7 [10] _ rfl) (by have := HLE.out; simp only [List.length_append, List.length_cons, List.length_nil]; omega) ?_)
            intro v8 X8 r8 k8
            have R8 : Hid (Rw w X8 v8 (evsT f (k + 1))) := Lib.hid (by have e0 := HE0.out; rw [HS.out]; simpa [evT, e0] using r8)
            have B8 := Lib.hid (k8 _ _ _ (by decide) (B7.out.later HF8.out))
            clear r8 k8 R7 B7 E7 HF8 x2 x3 x4
            go_wp2_with fail
            go_roundw
            case rel => exact ⟨k + 1, by omega, by go_num, R8, B8⟩
            case measure => simp [intOf]; try omega
          · have HE0 : Hid (resT ⟨rk, rn, rb⟩ = [32, 61, 32] ++ valT ⟨rk, rn, rb⟩) := Lib.hid (by simp [resT, hr])
            have hr' : (rk != 0) = true := by simpa using hr
            have HLR : Hid ((resT ⟨rk, rn, rb⟩).length = 3 + (valT ⟨rk, rn, rb⟩).length) := Lib.hid (by rw [HE0.out]; simp; omega)
            obtain ⟨L, hL⟩ : ∃ L, L = evsT f k ++ nm.data.toList ++ [40] ++ argsT ef j ++ [41] := ⟨_, rfl⟩
            have HLL := Lib.hid hL
            have R7' : Hid (Rw w X7 v7 L) := Lib.hid (by rw [hL]; simpa using R7.out)
            have FA : Hid (L.length + 3 + (valT ⟨rk, rn, rb⟩).length + 1 ≤ 140737488355328) := Lib.hid (by have := HLE.out; have := HLR.out; rw [hL]; simp only [List.length_append, List.length_cons, List.length_nil] at *; omega)
            have HEND : Hid (evsT f (k + 1) = L ++ [32, 61, 32] ++ valT ⟨rk, rn, rb⟩ ++ [10]) := Lib.hid (by have e0 := HE0.out; rw [HS.out, hL]; simp [evT, e0])
            clear hL R7
            go_upto_region 15 with fail
            have HF8 : Hid (Below X7.heap.size X7 ((X7.alloc (.cells #[.int .u8 32, .int .u8 61, .int .u8 32] 5)).drew)) := Lib.hid ((Fresh.refl X7).alloc _ _).drew.below
            have R8 := Lib.hid (R7'.out.later HF8.out)
            have B8 := Lib.hid (B7.out.later HF8.out)
            have E8 := Lib.hid (E7.out.later HF8.out)
            have NW : Hid (∀ j u, (Lib.byteCells [32, 61, 32])[j]? = some u → ((X7.alloc (.cells #[.int .u8 32, .int .u8 61, .int .u8 32] 5)).drew).cell? ((⟨X7.heap.size, 0, none⟩ : Addr).add j) = some u) := Lib.hid (new_bytes X7 [32, 61, 32] _ rfl)
            have S7 : Hid (X7.drew.cell? ⟨ebx, 2, none⟩ = some (.int .i64 rk) ∧ X7.drew.cell? ⟨ebx, 3, none⟩ = some (.int .u64 rn) ∧ X7.drew.cell? ⟨ebx, 4, none⟩ = some (.int .i64 rb)) := Lib.hid ⟨x2, x3, x4⟩
            have S8 : Hid (((X7.alloc (.cells #[.int .u8 32, .int .u8 61, .int .u8 32] 5)).drew).cell? ⟨ebx, 2, none⟩ = some (.int .i64 rk) ∧ ((X7.alloc (.cells #[.int .u8 32, .int .u8 61, .int .u8 32] 5)).drew).cell? ⟨ebx, 3, none⟩ = some (.int .u64 rn) ∧ ((X7.alloc (.cells #[.int .u8 32, .int .u8 61, .int .u8 32] 5)).drew).cell? ⟨ebx, 4, none⟩ = some (.int .i64 rb)) := Lib.hid ⟨E8.out.cell 2 _ rfl, E8.out.cell 3 _ rfl, E8.out.cell 4 _ rfl⟩
            have FA3 : L.length + ([32, 61, 32] : List UInt8).length ≤ 140737488355328 := by have := FA.out; simp only [List.length_cons, List.length_nil]; omega
            have HFA3 := Lib.hid FA3
            have HFA4 : Hid ((L ++ [32, 61, 32]).length + (⟨(valT ⟨rk, rn, rb⟩).toArray⟩ : ByteArray).data.toList.length ≤ 140737488355328) := Lib.hid (by have := FA.out; rw [List.length_append]; simp only [List.length_cons, List.length_nil]; omega)
            clear FA3
            go_cut [3] (fun s wx => Hid (Rw w wx s (L ++ [32, 61, 32] ++ valT ⟨rk, rn, rb⟩)) ∧ Hid (Box wx w.heap.size 40 #[.slice (some ⟨B, off, none⟩) n cap, .int .i64 st, .int .i32 code, .int .i64 steps]))
            case first =>
              clear x2 x3 x4
              go_region_held3 (fun w' => w'.cell? ⟨ebx, 2, none⟩ = some (.int .i64 rk) ∧ w'.cell? ⟨ebx, 3, none⟩ = some (.int .u64 rn) ∧ w'.cell? ⟨ebx, 4, none⟩ = some (.int .i64 rb)) (first | with_reducible exact S7.out | with_reducible exact S8.out | with_reducible exact S9.out | with_reducible exact SA.out | with_reducible exact SB.out) (first | (refine step_bytR ((X7.alloc (.cells #[.int .u8 32, .int .u8 61, .int .u8 32] 5)).drew) (by rfl) (.tmp 53) (.tmp 54) (by rfl) v7 L (by rfl) R8.out [32, 61, 32] X7.heap.size 3 3 (by rfl) (by rfl) NW.out HFA3.out ?_; intro v9 X9 r9 k9; have R9 := Lib.hid r9; have B9 := Lib.hid (k9 _ _ _ (by decide) B8.out); have E9 := Lib.hid (k9 _ _ _ (by decide) E8.out); clear r9 k9; have S9 : Hid (X9.cell? ⟨ebx, 2, none⟩ = some (.int .i64 rk) ∧ X9.cell? ⟨ebx, 3, none⟩ = some (.int .u64 rn) ∧ X9.cell? ⟨ebx, 4, none⟩ = some (.int .i64 rb)) := Lib.hid ⟨E9.out.cell 2 _ rfl, E9.out.cell 3 _ rfl, E9.out.cell 4 _ rfl⟩) | (go_at_call 42; (with_reducible refine (valueR_any ⟨rk, rn, rb⟩ HRO.out _).mono ?_); rintro e wa ⟨rfl, fa⟩; have RA := Lib.hid (R9.out.later fa.below); have BA := Lib.hid (B9.out.later fa.below); have EA := Lib.hid (E9.out.later fa.below); have SA : Hid (wa.cell? ⟨ebx, 2, none⟩ = some (.int .i64 rk) ∧ wa.cell? ⟨ebx, 3, none⟩ = some (.int .u64 rn) ∧ wa.cell? ⟨ebx, 4, none⟩ = some (.int .i64 rb)) := Lib.hid ⟨EA.out.cell 2 _ rfl, EA.out.cell 3 _ rfl, EA.out.cell 4 _ rfl⟩; clear fa) | (refine step_strR wa (by rfl) (.tmp 55) (.tmp 58) (by rfl) v9 (L ++ [32, 61, 32]) (by rfl) RA.out ⟨(valT ⟨rk, rn, rb⟩).toArray⟩ (by rfl) HFA4.out ?_; intro vb Xb rb' kb; have RB := Lib.hid rb'; have BB := Lib.hid (kb _ _ _ (by decide) BA.out); have EB := Lib.hid (kb _ _ _ (by decide) EA.out); have SB : Hid (Xb.cell? ⟨ebx, 2, none⟩ = some (.int .i64 rk) ∧ Xb.cell? ⟨ebx, 3, none⟩ = some (.int .u64 rn) ∧ Xb.cell? ⟨ebx, 4, none⟩ = some (.int .i64 rb)) := Lib.hid ⟨EB.out.cell 2 _ rfl, EB.out.cell 3 _ rfl, EB.out.cell 4 _ rfl⟩; clear rb' kb))
              all_goals (go_wp2_with fail; go_meet)
              all_goals exact ⟨RB, BB⟩
            case rest =>
              obtain ⟨HRC, HBC⟩ := hcut
              have HF9 : Hid (Below wc.heap.size wc (wc.alloc (.cells #[.int .u8 10] 5))) := Lib.hid ((Fresh.refl wc).alloc _ _).below
              go_wp2_with (at_builtin; refine wp_bytR rfl _ _ rfl _ _ rfl (HRC.out.later HF9.out) [10] wc.heap.size _ _ rfl rfl (new_bytes wc [10] _ rfl) (by have := FA.out; simp only [List.length_append, List.length_cons, List.length_nil]; omega) ?_)
              intro ve Xe re ke
              have RE : Hid (Rw w Xe ve (evsT f (k + 1))) := Lib.hid (by rw [HEND.out]; simpa using re)
              have BE := Lib.hid (ke _ _ _ (by decide) (HBC.out.later HF9.out))
              clear re ke
              go_wp2_with fail
              go_roundw
              case rel => exact ⟨k + 1, by omega, by go_num, RE, BE⟩
              case measure => simp [intOf]; try omega
    · obtain rfl : k = n := by omega
      clear B0
      have x0 := HB.out.cell 0 _ rfl
      have x1 := HB.out.cell 1 _ rfl
      have x2 := HB.out.cell 2 _ rfl
      by_cases h0 : st = 0
      · subst h0
        rw [show endT 0 code = ([114, 117, 110, 110, 105, 110, 103] : List UInt8) from rfl] at HL
        have HLT : Hid ((evsT f k).length + ((([114, 117, 110, 110, 105, 110, 103] : List UInt8)).length + 1) ≤ 140737488355328) := HL
        go_wp2_with (at_builtin; refine wp_strR rfl _ _ rfl _ _ rfl HR.out ⟨(([114, 117, 110, 110, 105, 110, 103] : List UInt8)).toArray⟩ rfl (by have := HLT.out; simp only [List.length_append, List.length_cons, List.length_nil] at *; omega) ?_)
        intro v2 X2 r2 k2
        have R2 := Lib.hid r2
        clear r2 k2
        have HF3 : Hid (Below X2.heap.size X2 (X2.alloc (.cells #[.int .u8 10] 5))) := Lib.hid ((Fresh.refl X2).alloc _ _).below
        go_wp2_with (at_builtin; refine wp_bytR rfl _ _ rfl _ _ rfl (R2.out.later HF3.out) [10] X2.heap.size _ _ rfl rfl (new_bytes X2 [10] _ rfl) (by have := HLT.out; simp only [List.length_append, List.length_cons, List.length_nil] at *; omega) ?_)
        intro v3 X3 r3 k3
        have R3 : Hid (Rw w X3 v3 (evsT f k ++ (([114, 117, 110, 110, 105, 110, 103] : List UInt8) ++ [10]))) := Lib.hid (by simpa using r3)
        clear r3 k3
        have cv := R3.out.back (by simp)
        generalize hfin : evsT f k ++ (([114, 117, 110, 110, 105, 110, 103] : List UInt8) ++ [10]) = fin at *
        have HFIN := Lib.hid hfin
        clear hfin
        go_wp2_with fail
        go_returns
        exact ⟨congrArg (fun l : List UInt8 => Ending.returned (.string ⟨l.toArray⟩)) (by rw [← HFIN.out]; rfl), R3.out.b⟩
      by_cases h1 : st = 1
      · subst h1
        rw [show endT 1 code = [101, 120, 105, 116, 101, 100, 32] ++ Lib.itoa code from rfl] at HL
        have C : Hid (∀ x X, x = code → Calls Tryd.prog 43 #[.int .i64 x] X fun e w' => e = .returned (.string ⟨(Lib.itoa code).toArray⟩) ∧ Fresh X w') := Lib.hid (fun x X hx => by rw [hx]; exact decimal_any _ (by have := HN.out.2; simp only at this; omega) X)
        have HEE : Hid (endT 1 code = [101, 120, 105, 116, 101, 100, 32] ++ Lib.itoa code) := Lib.hid rfl
        have HLI : Hid ((Lib.itoa code).length ≤ 21) := Lib.hid (Lib.itoa_length_le code (by have := HN.out.2; simp only at this; omega) (by have := HN.out.2; simp only at this; omega))
        have HCC : Hid (-2147483648 ≤ code ∧ code ≤ 2147483647) := Lib.hid HN.out.2
        generalize Lib.itoa code = l at *
        have c1 : ¬ 9223372036854775807 < 7 + l.length := by have := HLI.out; omega
        have KEY : Hid ((⟨#[101, 120, 105, 116, 101, 100, 32]⟩ : ByteArray) ++ ⟨l.toArray⟩ = ⟨([101, 120, 105, 116, 101, 100, 32] ++ l).toArray⟩) := Lib.hid (eqB (catB _ _))
        go_wp2_with fail
        go_at_call 43; refine (C.out _ _ (by first | rfl | (have := HCC.out; unfold wrap64; omega))).mono ?_; rintro e w5 ⟨rfl, f5⟩
        have R5 := Lib.hid (HR.out.later f5.below)
        clear f5
        have HLT : Hid ((evsT f k).length + (([101, 120, 105, 116, 101, 100, 32] ++ l : List UInt8).length + 1) ≤ 140737488355328) := HL
        have HK : Hid (((⟨#[101, 120, 105, 116, 101, 100, 32]⟩ : ByteArray) ++ ⟨l.toArray⟩).data.toList = [101, 120, 105, 116, 101, 100, 32] ++ l) := Lib.hid (by rw [KEY.out])
        go_wp2_with (at_builtin; refine wp_strR rfl _ _ rfl _ _ rfl R5.out ((⟨#[101, 120, 105, 116, 101, 100, 32]⟩ : ByteArray) ++ ⟨l.toArray⟩) rfl (by have := HLT.out; rw [HK.out]; simp only [List.length_append, List.length_cons, List.length_nil] at *; omega) ?_)
        intro v2 X2 r2 k2
        have R2 : Hid (Rw w X2 v2 (evsT f k ++ ([101, 120, 105, 116, 101, 100, 32] ++ l))) := Lib.hid (by simpa using r2)
        clear r2 k2
        have HF3 : Hid (Below X2.heap.size X2 (X2.alloc (.cells #[.int .u8 10] 5))) := Lib.hid ((Fresh.refl X2).alloc _ _).below
        go_wp2_with (at_builtin; refine wp_bytR rfl _ _ rfl _ _ rfl (R2.out.later HF3.out) [10] X2.heap.size _ _ rfl rfl (new_bytes X2 [10] _ rfl) (by have := HLT.out; simp only [List.length_append, List.length_cons, List.length_nil] at *; omega) ?_)
        intro v3 X3 r3 k3
        have R3 : Hid (Rw w X3 v3 (evsT f k ++ (([101, 120, 105, 116, 101, 100, 32] ++ l) ++ [10]))) := Lib.hid (by simpa using r3)
        clear r3 k3
        have cv := R3.out.back (by simp)
        generalize hfin : evsT f k ++ (([101, 120, 105, 116, 101, 100, 32] ++ l) ++ [10]) = fin at *
        have HFIN := Lib.hid hfin
        clear hfin
        go_wp2_with fail
        go_returns
        exact ⟨congrArg (fun l : List UInt8 => Ending.returned (.string ⟨l.toArray⟩)) (by rw [← HFIN.out, ← HEE.out]; rfl), R3.out.b⟩
      by_cases h2 : st = 2
      · subst h2
        rw [show endT 2 code = ([119, 114, 111, 110, 103] : List UInt8) from rfl] at HL
        have HLT : Hid ((evsT f k).length + ((([119, 114, 111, 110, 103] : List UInt8)).length + 1) ≤ 140737488355328) := HL
        go_wp2_with (at_builtin; refine wp_strR rfl _ _ rfl _ _ rfl HR.out ⟨(([119, 114, 111, 110, 103] : List UInt8)).toArray⟩ rfl (by have := HLT.out; simp only [List.length_append, List.length_cons, List.length_nil] at *; omega) ?_)
        intro v2 X2 r2 k2
        have R2 := Lib.hid r2
        clear r2 k2
        have HF3 : Hid (Below X2.heap.size X2 (X2.alloc (.cells #[.int .u8 10] 5))) := Lib.hid ((Fresh.refl X2).alloc _ _).below
        go_wp2_with (at_builtin; refine wp_bytR rfl _ _ rfl _ _ rfl (R2.out.later HF3.out) [10] X2.heap.size _ _ rfl rfl (new_bytes X2 [10] _ rfl) (by have := HLT.out; simp only [List.length_append, List.length_cons, List.length_nil] at *; omega) ?_)
        intro v3 X3 r3 k3
        have R3 : Hid (Rw w X3 v3 (evsT f k ++ (([119, 114, 111, 110, 103] : List UInt8) ++ [10]))) := Lib.hid (by simpa using r3)
        clear r3 k3
        have cv := R3.out.back (by simp)
        generalize hfin : evsT f k ++ (([119, 114, 111, 110, 103] : List UInt8) ++ [10]) = fin at *
        have HFIN := Lib.hid hfin
        clear hfin
        go_wp2_with fail
        go_returns
        exact ⟨congrArg (fun l : List UInt8 => Ending.returned (.string ⟨l.toArray⟩)) (by rw [← HFIN.out]; rfl), R3.out.b⟩
      by_cases h3 : st = 3
      · subst h3
        rw [show endT 3 code = ([115, 116, 97, 99, 107, 32, 111, 117, 116] : List UInt8) from rfl] at HL
        have HLT : Hid ((evsT f k).length + ((([115, 116, 97, 99, 107, 32, 111, 117, 116] : List UInt8)).length + 1) ≤ 140737488355328) := HL
        go_wp2_with (at_builtin; refine wp_strR rfl _ _ rfl _ _ rfl HR.out ⟨(([115, 116, 97, 99, 107, 32, 111, 117, 116] : List UInt8)).toArray⟩ rfl (by have := HLT.out; simp only [List.length_append, List.length_cons, List.length_nil] at *; omega) ?_)
        intro v2 X2 r2 k2
        have R2 := Lib.hid r2
        clear r2 k2
        have HF3 : Hid (Below X2.heap.size X2 (X2.alloc (.cells #[.int .u8 10] 5))) := Lib.hid ((Fresh.refl X2).alloc _ _).below
        go_wp2_with (at_builtin; refine wp_bytR rfl _ _ rfl _ _ rfl (R2.out.later HF3.out) [10] X2.heap.size _ _ rfl rfl (new_bytes X2 [10] _ rfl) (by have := HLT.out; simp only [List.length_append, List.length_cons, List.length_nil] at *; omega) ?_)
        intro v3 X3 r3 k3
        have R3 : Hid (Rw w X3 v3 (evsT f k ++ (([115, 116, 97, 99, 107, 32, 111, 117, 116] : List UInt8) ++ [10]))) := Lib.hid (by simpa using r3)
        clear r3 k3
        have cv := R3.out.back (by simp)
        generalize hfin : evsT f k ++ (([115, 116, 97, 99, 107, 32, 111, 117, 116] : List UInt8) ++ [10]) = fin at *
        have HFIN := Lib.hid hfin
        clear hfin
        go_wp2_with fail
        go_returns
        exact ⟨congrArg (fun l : List UInt8 => Ending.returned (.string ⟨l.toArray⟩)) (by rw [← HFIN.out]; rfl), R3.out.b⟩
      · have he : endT st code = ([117, 110, 107, 110, 111, 119, 110] : List UInt8) := by simp [endT, h0, h1, h2, h3]
        rw [he] at HL
        have HEE := Lib.hid he
        clear he
        have HLT : Hid ((evsT f k).length + ((([117, 110, 107, 110, 111, 119, 110] : List UInt8)).length + 1) ≤ 140737488355328) := HL
        go_wp2_with (at_builtin; refine wp_strR rfl _ _ rfl _ _ rfl HR.out ⟨(([117, 110, 107, 110, 111, 119, 110] : List UInt8)).toArray⟩ rfl (by have := HLT.out; simp only [List.length_append, List.length_cons, List.length_nil] at *; omega) ?_)
        intro v2 X2 r2 k2
        have R2 := Lib.hid r2
        clear r2 k2
        have HF3 : Hid (Below X2.heap.size X2 (X2.alloc (.cells #[.int .u8 10] 5))) := Lib.hid ((Fresh.refl X2).alloc _ _).below
        go_wp2_with (at_builtin; refine wp_bytR rfl _ _ rfl _ _ rfl (R2.out.later HF3.out) [10] X2.heap.size _ _ rfl rfl (new_bytes X2 [10] _ rfl) (by have := HLT.out; simp only [List.length_append, List.length_cons, List.length_nil] at *; omega) ?_)
        intro v3 X3 r3 k3
        have R3 : Hid (Rw w X3 v3 (evsT f k ++ (([117, 110, 107, 110, 111, 119, 110] : List UInt8) ++ [10]))) := Lib.hid (by simpa using r3)
        clear r3 k3
        have cv := R3.out.back (by simp)
        generalize hfin : evsT f k ++ (([117, 110, 107, 110, 111, 119, 110] : List UInt8) ++ [10]) = fin at *
        have HFIN := Lib.hid hfin
        clear hfin
        go_wp2_with fail
        go_returns
        exact ⟨congrArg (fun l : List UInt8 => Ending.returned (.string ⟨l.toArray⟩)) (by rw [← HFIN.out, ← HEE.out]; rfl), R3.out.b⟩
end Go.Proofs.YtjbflmpnmobngaaDoor
