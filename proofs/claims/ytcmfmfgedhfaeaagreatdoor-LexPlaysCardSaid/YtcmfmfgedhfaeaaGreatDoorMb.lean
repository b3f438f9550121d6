/- pieces: walked whole. -/
import Derived.Test.YtcmfmfgedhfaeaaGreatDoorMa
namespace Go.Proofs.YtcmfmfgedhfaeaaGreatDoor
set_option linter.unusedSimpArgs false
set_option linter.unusedVariables false
open Go.RowKit

/-- What is handed back, and where the tokens lie. -/
def TokR (R : TR) (w : World) (e : Ending) (w' : World) : Prop :=
  (∀ l c x, R = .err l c x → e = .returned (.tuple #[.slice none 0 0, .agg #[.int .i64 l, .int .i64 c], .int .i64 x])) ∧
  (∀ ts, R = .ok ts → ∃ v, e = .returned (.tuple #[v, .agg #[.int .i64 0, .int .i64 0], .int .i64 0]) ∧ w'.ownsRow w.heap.size 32 6 v ts.length (cellsT ts))
theorem own_set (w : World) (a : Nat) (e : TypeId) (z : Nat) (v : Value) (n : Nat) (xs : List Value) (h : w.ownsRow a e z v n xs) (b o : Nat) (x : Value) (hne : v.ownBlock ≠ some b) : (w.setCell ⟨b, o, none⟩ x).ownsRow a e z v n xs :=
  h.kept (row := some b) ⟨rfl, rfl, rfl, by simp [World.setCell], fun k _ hk => Below.heap_setCell _ _ _ _ (fun e => hk (congrArg some e))⟩ (Or.inr hne)
theorem own_base (w : World) (a b : Nat) (e : TypeId) (z : Nat) (v : Value) (n : Nat) (xs : List Value) (h : w.ownsRow a e z v n xs) (hb : b ≤ a) : w.ownsRow b e z v n xs := by
  refine ⟨h.1, ?_⟩
  rcases h.2 with h1 | ⟨g, cap, cur, hv, hg, rest⟩
  · exact Or.inl h1
  · exact Or.inr ⟨g, cap, cur, hv, Nat.le_trans hb hg, rest⟩
set_option maxRecDepth 100000 in
set_option maxHeartbeats 8000000 in
theorem pieces_any (s : ByteArray) (hs : s.size ≤ 1048576) (w : World) (hT : Tabs w) : Calls Tryz.prog 16 #[.string s] w fun e w' => TokR (piecesF s s.size 0 0 1 1) w e w' ∧ Fresh w w' := by
  obtain ⟨R, hR⟩ : ∃ R, R = piecesF s s.size 0 0 1 1 := ⟨_, rfl⟩
  rw [← hR]
  have HR := Lib.hid hR
  have HT := Lib.hid hT
  clear hR hT
  go_enter Tryz.func16, Tryz.ntmps16
  go_wp2_with fail
  go_at_call 23; refine (first_any _).mono ?_; rintro e w1 ⟨rfl, f1⟩
  have F1 : Hid (Fresh w w1) := Lib.hid ((((Fresh.refl w).alloc _ _)).trans f1)
  have R1 : Hid (Blk w1 w.heap.size [.int .i64 0, .int .i64 0]) := Lib.hid ((Blk.new w #[.int .i64 0, .int .i64 0] 25).fresh f1)
  clear f1
  have HZ : Hid (w.heap.size < w1.heap.size) := Lib.hid R1.out.2.2
  go_upto_region 3 with fail
  have F2 : Hid (Fresh w (w1.alloc (.cells #[.int .i64 1, .int .i64 1] 25))) := Lib.hid (F1.out.alloc _ _)
  have R2 : Hid (Blk (w1.alloc (.cells #[.int .i64 1, .int .i64 1] 25)) w.heap.size [.int .i64 0, .int .i64 0]) := Lib.hid (R1.out.fresh ((Fresh.refl w1).alloc _ _))
  have A2 : Hid (Blk (w1.alloc (.cells #[.int .i64 1, .int .i64 1] 25)) w1.heap.size [.int .i64 1, .int .i64 1]) := Lib.hid (Blk.new w1 #[.int .i64 1, .int .i64 1] 25)
  have HI : Hid ((w1.alloc (.cells #[.int .i64 1, .int .i64 1] 25)).heap.size = w1.heap.size + 1) := Lib.hid (by simp)
  clear F1 R1
  generalize (w1.alloc (.cells #[.int .i64 1, .int .i64 1] 25)) = W2 at *
  generalize w1.heap.size = A at *
  have F3 : Fresh W2 (W2.iter s 0) := (Fresh.refl _).obj _
  have P0 : Hid (PS w A W2.heap.size s (W2.iter s 0) 0 1 1 (.slice none 0 0) []) := Lib.hid ⟨World.iter_heap W2 s 0, A2.out.fresh F3, R2.out.fresh F3, World.ownsRow_nil _ _ _ _, F2.out.trans F3, by have := HI.out; have := HZ.out; omega⟩
  have HLT : Hid (w.heap.size < A ∧ A < W2.heap.size) := Lib.hid (by have := HI.out; have := HZ.out; omega)
  clear A2 R2 F2 F3 HI HZ
  go_wp2_with fail
  generalize W2.heap.size = I at *
  go_loopw [5, 7, 8, 9, 10, 11] (fun v ed _ _ _ _ wr => ∃ (pos k f n : Nat) (l c : Int) (ts : List Tk), ed = .int .i64 n ∧ n ≤ pos + s.size ∧ s.size ≤ pos + f ∧ Hid (TR.app ts (piecesF s f pos n l c) = R) ∧ k ≤ pos ∧ k ≤ s.size ∧ (1 ≤ l ∧ l ≤ 1 + k) ∧ (1 ≤ c ∧ c ≤ 1 + k) ∧ ts.length ≤ k ∧ Hid (PS w A I s wr pos l c v ts)) (fun _ _ _ _ _ _ wr => s.size - wr.iterPos I)
  case atStart => exact ⟨0, 0, s.size, 0, 1, 1, [], rfl, by omega, by omega, Lib.hid (by rw [TR.app_nil]; exact HR.out.symm), by omega, by omega, by omega, by omega, by simp, P0⟩
  case round =>
    obtain ⟨pos, k, f, n, l, c, ts, rfl, hn, hpf, HS, hkp, hps, hl, hc, htl, HP⟩ := hrel
    clear P0
    have HMU : Hid (wr.iterPos I = pos) := Lib.hid (by simp [World.iterPos, HP.out.it])
    by_cases hp : pos < s.size
    · have hnext : ∀ ty, (Instr.next (.pointer (some ⟨I, 0, none⟩)) true ty).run Tryz.prog wr = _ := fun ty => Lib.run_next_any_at wr I s pos ty HP.out.it hp
      have HP1 := Lib.hid (HP.out.next (pos + (Utf8.decode s pos).2))
      have HWP := Lib.hid (Lib.decode_width_pos s pos hp)
      obtain ⟨f, rfl⟩ : ∃ g, f = g + 1 := ⟨f - 1, by omega⟩
      have HS1 : Hid (TR.app ts (if n ≤ pos ∧ blankZ (Utf8.decode s pos).1 = false then
          stepT s pos l c (fun e => piecesF s f (pos + (Utf8.decode s pos).2) e (behZ l c (Utf8.decode s pos).1).1 (behZ l c (Utf8.decode s pos).1).2) (pieceL (s.data.toList.drop pos))
        else piecesF s f (pos + (Utf8.decode s pos).2) n (behZ l c (Utf8.decode s pos).1).1 (behZ l c (Utf8.decode s pos).1).2) = R) := Lib.hid (by have := HS.out; simpa only [piecesF, hp, if_true] using this)
      have hpI : (pos : Int) ≤ (s.size : Int) := by omega
      have C27 : Hid (∀ X, Tabs X → Calls Tryz.prog 27 #[.string (s.extract pos s.size), .int .i32 (Utf8.decode s pos).1] X fun e w' => e = .returned (prV (s.extract pos s.size) (pieceL (s.data.toList.drop pos))) ∧ Fresh X w') := Lib.hid (fun X hX => by
        have := piece_any (s.extract pos s.size) (by simp [ByteArray.size_extract]; omega) (by simp [ByteArray.size_extract]; omega) X hX
        rw [Lib.extract_to_end] at this
        have e0 : (Utf8.decode (s.extract pos s.size) 0) = Utf8.decode s pos := by
          rw [← Lib.decodeL_drop, ← Lib.decodeL_drop, Lib.extract_to_end, List.drop_zero]
        rw [e0] at this
        exact this)
      have C26 := Lib.hid (fun X => isBlank_any ((Utf8.decode s pos).1 : Int) X)
      clear HP HS
      generalize wr.iterAt I s (pos + (Utf8.decode s pos).2) = W1 at *
      generalize (Utf8.decode s pos).2 = wd at *
      generalize ((Utf8.decode s pos).1 : Int) = r at *
      by_cases hnp : n ≤ pos
      · have hnpI : (n : Int) ≤ (pos : Int) := by omega
        cases hbl : blankZ r with
        | true =>
          have HE : Hid (TR.app ts (piecesF s f (pos + wd) n (behZ l c r).1 (behZ l c r).2) = R) := Lib.hid (by rw [← HS1.out, if_neg (by rw [hbl]; simp)])
          rw [hbl] at C26
          clear HS1 hbl C27
          go_wp2_with fail
          go_at_call 26; refine (C26.out _).mono ?_; rintro e w2 ⟨rfl, f2⟩
          have HQ := Lib.hid (HP1.out.later f2)
          clear f2 HP1 C26
          have r0 := HQ.out.at'.1 0 _ rfl
          have r1 := HQ.out.at'.1 1 _ rfl
          go_wp2_with fail
          clear r0 r1
          go_at_call 25; refine (behind_any l c r (by omega) (by omega) _).mono ?_; rintro e4 w4 ⟨rfl, f4⟩
          have HQ4 := Lib.hid (HQ.out.later f4)
          have HB := Lib.hid (behZ_lo l c r k hl hc)
          clear f4 HQ hnext
          generalize (behZ l c r).1 = l' at *
          generalize (behZ l c r).2 = c' at *
          have r0 := HQ4.out.at'.1 0 _ rfl
          have r1 := HQ4.out.at'.1 1 _ rfl
          have rf := HQ4.out.at'.2.1
          go_wp2_with fail
          have HQ5 : Hid (PS w A I s ((w4.setCell ⟨A, 0, none⟩ (.int .i64 l')).setCell ⟨A, 1, none⟩ (.int .i64 c')) (pos + wd) l' c' _ ts) := Lib.hid HQ4.out.set
          clear r0 r1 rf HQ4
          generalize ((w4.setCell ⟨A, 0, none⟩ (.int .i64 l')).setCell ⟨A, 1, none⟩ (.int .i64 c')) = W5 at *
          go_roundw
          case rel => exact ⟨pos + wd, k + 1, f, n, l', c', ts, rfl, by omega, by have := HWP.out; omega, HE, by have := HWP.out; omega, by omega, HB.out.1, HB.out.2, by omega, HQ5⟩
          case measure => have h1 : W5.iterPos I = pos + wd := (by simp [World.iterPos, HQ5.out.it]); have := HWP.out; have := HMU.out; omega
        | false =>
          rw [hbl] at C26
          cases hpc : pieceL (s.data.toList.drop pos) with
          | err e =>
            have HE : Hid (R = .err l c e) := Lib.hid (by rw [← HS1.out, if_pos ⟨hnp, hbl⟩, hpc]; rfl)
            have he := pieceL_err _ _ hpc
            have hne : ((e : Int) == 0) = false := by simp only [beq_eq_false_iff_ne]; omega
            rw [hpc] at C27
            clear HS1 hbl hpc he
            go_wp2_with fail
            go_at_call 26; refine (C26.out _).mono ?_; rintro e2 w2 ⟨rfl, f2⟩
            have HQ := Lib.hid (HP1.out.later f2)
            clear f2 HP1 C26
            go_wp2_with fail
            go_at_call 27; refine (C27.out _ (HT.out.fresh HQ.out.fr)).mono ?_; rintro e3 w3 ⟨rfl, f3⟩
            have HQ3 := Lib.hid (HQ.out.later f3)
            clear f3 HQ C27
            unfold prV
            dsimp only [tokV]
            go_upto_region 9 with fail
            have HQ4 := Lib.hid (HQ3.out.later ((Fresh.refl w3).alloc #[.int .i64 0, .int .i64 0, .int .i64 0, .string ⟨#[]⟩, .int .u64 0, .string ⟨#[]⟩] 32))
            clear HQ3
            generalize w3.alloc (.cells #[.int .i64 0, .int .i64 0, .int .i64 0, .string ⟨#[]⟩, .int .u64 0, .string ⟨#[]⟩] 32) = w4 at *
            generalize w3.heap.size = tb at *
            have r0 := HQ4.out.at'.1 0 _ rfl
            have r1 := HQ4.out.at'.1 1 _ rfl
            have q0 := HQ4.out.out.1 0 _ rfl
            have q1 := HQ4.out.out.1 1 _ rfl
            have qf := HQ4.out.out.2.1
            go_region
            all_goals go_wp2_with fail
            all_goals (refine bodyPost_ret (v := ?_) ?_ rfl ?_; rotate_left 1; focus (simp [results, Tryz.results16, go_sem, *]; (try rfl); done))
            all_goals exact ⟨⟨(fun l9 c9 x9 h9 => by rw [HE.out] at h9; cases h9; rfl), (fun t9 h9 => by rw [HE.out] at h9; cases h9)⟩, (by repeat' first | with_reducible exact HQ4.out.fr | with_reducible refine Fresh.drew ?_ | with_reducible refine Fresh.setCell ?_ ?_ _ | (simp; done) | omega)⟩
          | tok kk nn bb dd =>
            have HE : Hid (TR.app (ts ++ [tkOf s pos l c kk nn bb dd]) (piecesF s f (pos + wd) (pos + (tkOf s pos l c kk nn bb dd).text.size) (behZ l c r).1 (behZ l c r).2) = R) := Lib.hid (by rw [← HS1.out, if_pos ⟨hnp, hbl⟩, hpc]; simp only [stepT]; rw [TR.app_app])
            rw [hpc] at C27
            have htx : (tkOf s pos l c kk nn bb dd).text = (s.extract pos s.size).extract 0 nn := rfl
            have hcs : (tkOf s pos l c kk nn bb dd).cells = [.int .i64 kk, .int .i64 l, .int .i64 c, .string ((s.extract pos s.size).extract 0 nn), .int .u64 bb, .string ⟨dd.toArray⟩] := rfl
            have HCS := Lib.hid hcs
            have htsz : (((s.extract pos s.size).extract 0 nn).size : Int) ≤ (s.size : Int) := by simp [ByteArray.size_extract]; omega
            rw [htx] at HE
            clear HS1 hbl hpc htx hcs
            generalize tkOf s pos l c kk nn bb dd = tk at *
            go_wp2_with fail
            go_at_call 26; refine (C26.out _).mono ?_; rintro e2 w2 ⟨rfl, f2⟩
            have HQ := Lib.hid (HP1.out.later f2)
            clear f2 HP1 C26
            go_wp2_with fail
            go_at_call 27; refine (C27.out _ (HT.out.fresh HQ.out.fr)).mono ?_; rintro e3 w3 ⟨rfl, f3⟩
            have HQ3 := Lib.hid (HQ.out.later f3)
            clear f3 HQ C27
            unfold prV
            dsimp only [tokV]
            generalize (s.extract pos s.size).extract 0 nn = T at *
            generalize (⟨dd.toArray⟩ : ByteArray) = D at *
            go_upto_region 10 with fail
            have HQ4 := Lib.hid (HQ3.out.later ((Fresh.refl w3).alloc #[.int .i64 kk, .int .i64 0, .int .i64 0, .string T, .int .u64 bb, .string D] 32))
            have HB4 : Hid (Blk (w3.alloc (.cells #[.int .i64 kk, .int .i64 0, .int .i64 0, .string T, .int .u64 bb, .string D] 32)) w3.heap.size [.int .i64 kk, .int .i64 0, .int .i64 0, .string T, .int .u64 bb, .string D]) := Lib.hid (Blk.new w3 #[.int .i64 kk, .int .i64 0, .int .i64 0, .string T, .int .u64 bb, .string D] 32)
            have HNB : Hid (I < w3.heap.size ∧ u5.ownBlock ≠ some w3.heap.size) := Lib.hid ⟨HQ3.out.isz, fun e => by have := (HQ3.out.own.lt _ e).2; omega⟩
            clear HQ3
            generalize w3.alloc (.cells #[.int .i64 kk, .int .i64 0, .int .i64 0, .string T, .int .u64 bb, .string D] 32) = w4 at *
            generalize w3.heap.size = tb at *
            have r0 := HQ4.out.at'.1 0 _ rfl
            have r1 := HQ4.out.at'.1 1 _ rfl
            have b0 := HB4.out.1 0 _ rfl
            have b1 := HB4.out.1 1 _ rfl
            have b2 := HB4.out.1 2 _ rfl
            have b3 := HB4.out.1 3 _ rfl
            have b4 := HB4.out.1 4 _ rfl
            have b5 := HB4.out.1 5 _ rfl
            have bf := HB4.out.2.1
            go_upto_region 11 with fail
            have HQ5 := Lib.hid ((HQ4.out.put tb HNB.out.1 HNB.out.2 1 (.int .i64 l)).put tb HNB.out.1 HNB.out.2 2 (.int .i64 c))
            have HB5 : Hid (Blk ((w4.setCell ⟨tb, 1, none⟩ (.int .i64 l)).setCell ⟨tb, 2, none⟩ (.int .i64 c)) tb [.int .i64 kk, .int .i64 l, .int .i64 c, .string T, .int .u64 bb, .string D]) := Lib.hid (by
              refine ⟨fun i v hv => ?_, fun o => ?_, by simpa [World.setCell] using HB4.out.2.2⟩
              · match i, hv with
                | 0, hv => simp at hv; subst hv; simp [go_sem, b0, b1, b2]
                | 1, hv => simp at hv; subst hv; simp [go_sem, b0, b1, b2]
                | 2, hv => simp at hv; subst hv; simp [go_sem, b0, b1, b2]
                | 3, hv => simp at hv; subst hv; simp [go_sem, b3]
                | 4, hv => simp at hv; subst hv; simp [go_sem, b4]
                | 5, hv => simp at hv; subst hv; simp [go_sem, b5]
              · simp [go_sem, bf])
            clear r0 r1 b0 b1 b2 b3 b4 b5 bf HQ4 HB4
            generalize ((w4.setCell ⟨tb, 1, none⟩ (.int .i64 l)).setCell ⟨tb, 2, none⟩ (.int .i64 c)) = w5 at *
            have b0 := HB5.out.1 0 _ rfl
            have b1 := HB5.out.1 1 _ rfl
            have b2 := HB5.out.1 2 _ rfl
            have b3 := HB5.out.1 3 _ rfl
            have b4 := HB5.out.1 4 _ rfl
            have b5 := HB5.out.1 5 _ rfl
            obtain ⟨i0, hi, hz0, hz1, hz2⟩ := info_parts info32
            go_wp2_with (at_builtin; refine wpList_append_own _ rfl (.tmp 46) (.tmp 48) 23 rfl (I + 1) 32 i0 (.agg #[.int .i64 0, .int .i64 0, .int .i64 0, .string ⟨#[]⟩, .int .u64 0, .string ⟨#[]⟩]) 6 64 Tryz.underlying23 hi hz0 hz1 hz2 rfl (by decide) u5 ts.length (cellsT ts) rfl (HQ5.out.own.alloc _) ⟨w5.heap.size, 0, none⟩ 1 1 [.int .i64 kk, .int .i64 l, .int .i64 c, .string T, .int .u64 bb, .string D] rfl rfl (World.news_of_block (cs := #[.int .i64 kk, .int .i64 l, .int .i64 c, .string T, .int .u64 bb, .string D]) (t := 32) (fr := (0, 0)) (heap_alloc_new w5 _)) (by simp [Value.oneCell']) (by unfold maxLen; omega) (by omega) (by have := HQ5.out.isz; simp; omega) ?_)
            intro v6 w6 hown6 hgrow6 _
            have HQ6 := Lib.hid (((HQ5.out.later ((Fresh.refl w5).alloc #[.int .i64 kk, .int .i64 l, .int .i64 c, .string T, .int .u64 bb, .string D] 32)).grown tk (by rw [HCS.out]; exact hown6) hgrow6))
            clear b0 b1 b2 b3 b4 b5 HQ5 HB5 hown6 hgrow6
            generalize hw2 : w6 = w2' at *
            clear hw2
            have HQ := HQ6
            clear HQ6
            have r0 := HQ.out.at'.1 0 _ rfl
            have r1 := HQ.out.at'.1 1 _ rfl
            go_wp2_with fail
            clear r0 r1
            go_at_call 25; refine (behind_any l c r (by omega) (by omega) _).mono ?_; rintro e4 w4 ⟨rfl, f4⟩
            have HQ4 := Lib.hid (HQ.out.later f4)
            have HB := Lib.hid (behZ_lo l c r k hl hc)
            clear f4 HQ hnext
            generalize (behZ l c r).1 = l' at *
            generalize (behZ l c r).2 = c' at *
            have r0 := HQ4.out.at'.1 0 _ rfl
            have r1 := HQ4.out.at'.1 1 _ rfl
            have rf := HQ4.out.at'.2.1
            go_wp2_with fail
            have HQ5 : Hid (PS w A I s ((w4.setCell ⟨A, 0, none⟩ (.int .i64 l')).setCell ⟨A, 1, none⟩ (.int .i64 c')) (pos + wd) l' c' _ (ts ++ [tk])) := Lib.hid HQ4.out.set
            clear r0 r1 rf HQ4
            generalize ((w4.setCell ⟨A, 0, none⟩ (.int .i64 l')).setCell ⟨A, 1, none⟩ (.int .i64 c')) = W5 at *
            go_roundw
            case rel => exact ⟨pos + wd, k + 1, f, (pos + T.size), l', c', (ts ++ [tk]), rfl, by omega, by have := HWP.out; omega, HE, by have := HWP.out; omega, by omega, HB.out.1, HB.out.2, by simp only [List.length_append, List.length_cons, List.length_nil]; omega, HQ5⟩
            case measure => have h1 : W5.iterPos I = pos + wd := (by simp [World.iterPos, HQ5.out.it]); have := HWP.out; have := HMU.out; omega
      · have hnpI : ¬ (n : Int) ≤ (pos : Int) := by omega
        have HE : Hid (TR.app ts (piecesF s f (pos + wd) n (behZ l c r).1 (behZ l c r).2) = R) := Lib.hid (by rw [← HS1.out, if_neg (fun h => hnp h.1)])
        clear HS1 C27 C26
        have HQ := HP1
        clear HP1
        have r0 := HQ.out.at'.1 0 _ rfl
        have r1 := HQ.out.at'.1 1 _ rfl
        generalize hw2 : W1 = w2 at *
        clear hw2
        go_wp2_with fail
        clear r0 r1
        go_at_call 25; refine (behind_any l c r (by omega) (by omega) _).mono ?_; rintro e4 w4 ⟨rfl, f4⟩
        have HQ4 := Lib.hid (HQ.out.later f4)
        have HB := Lib.hid (behZ_lo l c r k hl hc)
        clear f4 HQ hnext
        generalize (behZ l c r).1 = l' at *
        generalize (behZ l c r).2 = c' at *
        have r0 := HQ4.out.at'.1 0 _ rfl
        have r1 := HQ4.out.at'.1 1 _ rfl
        have rf := HQ4.out.at'.2.1
        go_wp2_with fail
        have HQ5 : Hid (PS w A I s ((w4.setCell ⟨A, 0, none⟩ (.int .i64 l')).setCell ⟨A, 1, none⟩ (.int .i64 c')) (pos + wd) l' c' _ ts) := Lib.hid HQ4.out.set
        clear r0 r1 rf HQ4
        generalize ((w4.setCell ⟨A, 0, none⟩ (.int .i64 l')).setCell ⟨A, 1, none⟩ (.int .i64 c')) = W5 at *
        go_roundw
        case rel => exact ⟨pos + wd, k + 1, f, n, l', c', ts, rfl, by omega, by have := HWP.out; omega, HE, by have := HWP.out; omega, by omega, HB.out.1, HB.out.2, by omega, HQ5⟩
        case measure => have h1 : W5.iterPos I = pos + wd := (by simp [World.iterPos, HQ5.out.it]); have := HWP.out; have := HMU.out; omega
    · have hnext : ∀ ty, (Instr.next (.pointer (some ⟨I, 0, none⟩)) true ty).run Tryz.prog wr = _ := fun ty => Lib.run_next_end_at wr I s pos ty HP.out.it hp
      have HE : Hid (R = .ok (ts ++ [endT l c])) := Lib.hid (by rw [← HS.out, piecesF_end _ _ _ _ _ _ hp]; rfl)
      have r0 := HP.out.at'.1 0 _ rfl
      have r1 := HP.out.at'.1 1 _ rfl
      obtain ⟨i0, hi, hz0, hz1, hz2⟩ := info_parts info32
      go_wp2_with (at_builtin; refine wpList_append_own _ rfl (.tmp 53) (.tmp 56) 23 rfl (I + 1) 32 i0 (.agg #[.int .i64 0, .int .i64 0, .int .i64 0, .string ⟨#[]⟩, .int .u64 0, .string ⟨#[]⟩]) 6 64 Tryz.underlying23 hi hz0 hz1 hz2 rfl (by decide) u5 ts.length (cellsT ts) rfl (HP.out.own.alloc _) ⟨wr.heap.size, 0, none⟩ 1 1 [.int .i64 8, .int .i64 l, .int .i64 c, .string ⟨#[]⟩, .int .u64 0, .string ⟨#[]⟩] rfl rfl (World.news_of_block (cs := #[.int .i64 8, .int .i64 l, .int .i64 c, .string ⟨#[]⟩, .int .u64 0, .string ⟨#[]⟩]) (t := 32) (fr := (0, 0)) (heap_alloc_new wr _)) (by simp [Value.oneCell']) (by unfold maxLen; omega) (by omega) (by have := HP.out.isz; simp; omega) ?_)
      intro v6 w6 hown6 hgrow6 _
      have HQ6 := Lib.hid (((HP.out.later ((Fresh.refl wr).alloc #[.int .i64 8, .int .i64 l, .int .i64 c, .string ⟨#[]⟩, .int .u64 0, .string ⟨#[]⟩] 32)).grown (endT l c) hown6 hgrow6))
      clear hown6 hgrow6 HP r0 r1
      have r0 := HQ6.out.out.1 0 _ rfl
      have r1 := HQ6.out.out.1 1 _ rfl
      have rf := HQ6.out.out.2.1
      go_wp2_with fail
      refine bodyPost_ret (v := ?_) ?_ rfl ?_; rotate_left 1; focus (simp [results, Tryz.results16, go_sem, *]; (try rfl); done)
      refine ⟨⟨(fun l9 c9 x9 h9 => by rw [HE.out] at h9; cases h9), fun t9 h9 => ?_⟩, (HQ6.out.fr.setCell (Nat.le_refl _) _).setCell (Nat.le_refl _) _⟩
      rw [HE.out] at h9
      cases h9
      refine ⟨v6, rfl, ?_⟩
      have hne : v6.ownBlock ≠ some w.heap.size := fun e => by have := (HQ6.out.own.lt _ e).1; have := HQ6.out.lt; omega
      exact own_base _ _ _ _ _ _ _ _ (own_set _ _ _ _ _ _ _ (own_set _ _ _ _ _ _ _ HQ6.out.own _ 0 _ hne) _ 1 _ hne) (by have := HQ6.out.lt; omega)
end Go.Proofs.YtcmfmfgedhfaeaaGreatDoor
