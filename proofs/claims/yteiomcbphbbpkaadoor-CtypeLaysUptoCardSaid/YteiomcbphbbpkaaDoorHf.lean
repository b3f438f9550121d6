/- The reference's Lay of a union: its walk. -/
import Derived.Test.YteiomcbphbbpkaaDoorHd
import Derived.Deep.RegionLaw
import Derived.Deep.AppendLies
import Derived.Deep.DeepCutAuto
namespace Go.Proofs.YteiomcbphbbpkaaDoor
set_option linter.unusedSimpArgs false
set_option linter.unusedVariables false
open Go.RowKit

set_option maxRecDepth 100000 in
set_option maxHeartbeats 8000000 in
theorem layR_t {ok : Nat → Prop} (f : Nat → La) (lp : Option Addr) (kn lc : Nat) (nm : ByteArray) (fs : List Fd) (p : Option Addr) (n cap : Nat) (w0 w : World) (hf : Fresh w0 w) (hfs : FSlice ok w0 fs p n cap) (hl : LaysAt w0 lp kn f) (hg : Good f kn) (hk0 : kn ≤ lc) (hkc : lc ≤ maxLen) (hnm : ∀ x ∈ fs, isName x.nm) (hwf : ∀ x ∈ fs, WFh x.h x.ks ∧ x.ks.wf) :
    Calls Tryd.prog 41 #[.string nm, .bool true, .slice p n cap, .slice lp kn lc] w (LayRR ok w nm true (layF f kn true fs LS.zero)) := by
  obtain ⟨i0, hi0, hz0, hz1, hz2⟩ := info_parts info59
  have HNL : Hid (n = fs.length) := Lib.hid hfs.1
  have hnc : n ≤ cap := hfs.2.1
  have hmax : cap ≤ 9223372036854775807 := hfs.2.2.1
  have HF := Lib.hid hf
  have HS := Lib.hid hfs
  have HL := Lib.hid hl
  have HG := Lib.hid hg
  have HNM := Lib.hid hnm
  have HWF := Lib.hid hwf
  have HKC := Lib.hid (And.intro hk0 hkc)
  clear hf hfs hl hg hnm hwf hk0 hkc
  go_enter Tryd.func41, Tryd.ntmps41
  go_wp2_with fail
  go_loopw [12, 13] (fun en i wr => ∃ k s r fp fc xs, k ≤ n ∧ i = .int .i64 k ∧ en = .int .i64 r.sz ∧ Hid (LInv f kn true fs k s) ∧ Hid (Rel s r) ∧ Hid (SameN s.acc fs k) ∧ Hid (LW ok w wr nm true r.al r.acc k fp fc xs)) (fun _ i _ => n - (intOf i).toNat)
  case atStart => exact ⟨0, LS.zero, LS.zero, none, 0, [], by omega, rfl, rfl, Lib.hid (LInv.zero ..), Lib.hid Rel.zero, Lib.hid rfl, Lib.hid (LW.new ok w nm true)⟩
  case round =>
    obtain ⟨k, s, r, fp, fc, xs, hk, rfl, rfl, HI, HR, HSN, HV⟩ := hrel
    by_cases hlt : k < n
    · obtain ⟨x, hx⟩ : ∃ x, fs[k]? = some x := ⟨_, List.getElem?_eq_getElem (by have := HNL.out; omega)⟩
      have HX := Lib.hid hx
      have hmem : x ∈ fs := List.mem_of_getElem? hx
      have HN := Lib.hid (HNM.out x hmem)
      have HWx := Lib.hid (HWF.out x hmem)
      obtain ⟨B, off, p', n', c', rfl, hks, hat⟩ := HS.out.at' hx
      have HK := Lib.hid hks
      have HAT := Lib.hid hat
      clear hx hmem hks hat
      have hlt' : (k : Int) < (n : Int) := by omega
      go_wp2_with fail
      go_loopw [14] (fun j wr2 => ∃ m : Nat, m ≤ k ∧ j = .int .i64 m ∧ Hid (Fresh wr wr2) ∧ Hid ((fs.take m).any (fun y => y.nm.toList == x.nm.toList) = false)) (fun j _ => k - (intOf j).toNat)
      case atStart => exact ⟨0, by omega, rfl, Lib.hid (Fresh.refl wr), Lib.hid (by simp)⟩
      case round =>
        obtain ⟨m, hm, rfl, HW2, HS2⟩ := hrel
        have V2 := Lib.hid (HV.out.later HW2.out)
        by_cases hlm : m < k
        · obtain ⟨y, hy⟩ : ∃ y, fs[m]? = some y := ⟨_, List.getElem?_eq_getElem (by have := HNL.out; omega)⟩
          obtain ⟨B', off', p2, n2, c2, eB, -, hat2⟩ := HS.out.at' hy
          cases eB
          have HY := Lib.hid hy
          have y0 := (hat2.later (HF.out.trans V2.out.fr)).c0
          have x0 := (HAT.out.later (HF.out.trans V2.out.fr)).c0
          have z0 := cell_lt x0
          simp only at z0
          have hlm' : (m : Int) < (k : Int) := by omega
          have hmn' : (m : Int) < (n : Int) := by omega
          have HTK : Hid ((fs.take (m + 1)).any (fun y => y.nm.toList == x.nm.toList) = (y.nm.toList == x.nm.toList)) := Lib.hid (by
            rw [List.take_add_one, hy, List.any_append, HS2.out]
            simp)
          clear hy hat2
          cases ht : (y.nm.toList == x.nm.toList)
          · have HT := Lib.hid ht
            go_wp2_with fail
            go_quiet (fail)
            go_wp2_with fail
            go_roundw
            case rel => exact ⟨m + 1, by omega, by go_num, Lib.hid (HW2.out.trans (by (repeat' first | with_reducible exact Fresh.refl _ | with_reducible assumption | with_reducible refine Fresh.alloc ?_ _ _ | with_reducible refine Fresh.drew ?_ | with_reducible refine Fresh.drewN ?_ _ | with_reducible refine Fresh.setCell ?_ ?_ _ | with_reducible refine Fresh.trans ?_ (by assumption) | (simp; done) | (simp; omega)))), Lib.hid (by rw [HTK.out, HT.out])⟩
            case measure => simp [intOf]; omega
          · have HT := Lib.hid ht
            have xr := V2.out.r
            have r0 := (xr).1 0 _ rfl; have r1 := (xr).1 1 _ rfl; have r2 := (xr).1 2 _ rfl; have r3 := (xr).1 3 _ rfl; have r4 := (xr).1 4 _ rfl; have rf := (xr).2.1; have rz := (xr).2.2
            clear xr
            go_wp2_with fail
            go_quiet (fail)
            go_wp2_with fail
            refine bodyPost_ret (v := ?_) ?_ rfl ?_; rotate_left 1; focus (simp [results, Tryd.results41, go_sem, *]; (try rfl); done)
            refine ⟨(by repeat' first | with_reducible refine Fresh.setCell ?_ ?_ _ | with_reducible refine Fresh.drewN ?_ _ | with_reducible refine Fresh.drew ?_ | exact V2.out.fr | (simp; done) | (simp; omega)), ?_⟩
            have hh : hasN s.acc x.nm = true := by
              rw [hasN_names HSN.out, List.any_eq_true]
              refine ⟨y, ?_, HT.out⟩
              have h1 := HY.out
              have h2 : (fs.take k)[m]? = some y := by rw [List.getElem?_take, if_pos hlm]; exact h1
              exact List.mem_of_getElem? h2
            rw [HI.out.twice HX.out hh]
        · obtain rfl : m = k := by omega
          have HH : Hid (hasN s.acc x.nm = false) := Lib.hid (by rw [hasN_names HSN.out]; exact HS2.out)
          obtain ⟨S, A, hSA⟩ : ∃ S A, sizeH f kn x.h (x.ks.size0 f kn) = (S, A) := ⟨_, _, rfl⟩
          have hxs : x.size f kn = (S, A) := hSA
          have hbd := Fd.size_bd HG.out x
          rw [hxs] at hbd
          simp only at hbd
          obtain ⟨s0, s1, a0, a1⟩ := hbd
          have HXS := Lib.hid hxs
          have SZ : Hid (∀ X, Fresh w0 X → Calls Tryd.prog 47 #[.agg #[.int .i64 x.h.kind, .int .i64 x.h.size, .int .i64 x.h.len, .bool x.h.flag, .string x.h.name, .slice p' n' c'], .slice lp kn lc] X (TripR S A X)) := Lib.hid (fun X hX => by
            have := compR_any f lp kn lc HG.out HKC.out.1 HKC.out.2 x.ks ok x.h p' n' c' w0 X hX HK.out HL.out HWx.out.1.bd HWx.out.2
            rw [hSA] at this
            exact this)
          clear hSA hxs
          obtain ⟨c0, c1, c2, c3, c4, c5, c6, c7⟩ := HAT.out.later (HF.out.trans V2.out.fr)
          have z0 := cell_lt c0
          simp only at z0
          go_wp2_with fail
          go_at_call 47; refine (SZ.out _ (HF.out.trans V2.out.fr)).mono ?_; rintro e w2 ⟨rfl, h2⟩
          have V4 := Lib.hid (V2.out.later h2)
          clear c0 c1 c2 c3 c4 c5 c6 c7 z0 h2 V2
          by_cases hA : A = 0
          · subst hA
            have xr := V4.out.r
            have r0 := (xr).1 0 _ rfl; have r1 := (xr).1 1 _ rfl; have r2 := (xr).1 2 _ rfl; have r3 := (xr).1 3 _ rfl; have r4 := (xr).1 4 _ rfl; have rf := (xr).2.1; have rz := (xr).2.2
            clear xr
            go_wp2_with fail
            refine bodyPost_ret (v := ?_) ?_ rfl ?_; rotate_left 1; focus (simp [results, Tryd.results41, go_sem, *]; (try rfl); done)
            refine ⟨(by repeat' first | with_reducible refine Fresh.setCell ?_ ?_ _ | exact V4.out.fr | (simp; done) | (simp; omega)), ?_⟩
            rw [HI.out.bad HX.out HH.out (by rw [HXS.out])]
          · have a0' : 1 ≤ A := by omega
            have HA := Lib.hid hA
            have hA2 : (A != 0) = true := by simpa using hA
            clear hA
            have rz0 := HR.out.z0
            have rz1 := HR.out.z1
            have hk26 := HI.out.le
            have hmb := mul_bd r.sz A rz0 a0'
            have HMB := Lib.hid hmb
            skip
            have xl := V4.out.l
            have l0 := (xl).1 0 _ rfl; have l1 := (xl).1 1 _ rfl; have l2 := (xl).1 2 _ rfl; have l3 := (xl).1 3 _ rfl; have l4 := (xl).1 4 _ rfl; have lf := (xl).2.1; have lz := (xl).2.2
            clear xl
            go_upto_region 19 with fail
            have eAL : (if r.al < A then A else r.al) = max r.al A := by (repeat' split) <;> omega
            have V5 := Lib.hid (V4.out.turn (if r.al < A then A else r.al))
            have EAL := Lib.hid eAL
            clear l0 l1 l2 l3 l4 lf lz V4 eAL
            generalize (if r.al < A then A else r.al) = AL at *
            generalize (w2.setCell ⟨w.heap.size + 1, 4, none⟩ (.int .i64 AL)) = W at *
            have K5 := Lib.hid (HK.out.mono (ok' := fun b => b < w.heap.size ∧ ok b) (fun b hb ho => ⟨Nat.lt_of_lt_of_le hb HF.out.size, ho⟩))
            have K5 := Lib.hid (K5.out.later (HF.out.trans V5.out.fr))
            have HAT5 := Lib.hid (HAT.out.later (HF.out.trans V5.out.fr))
            obtain ⟨c0, c1, c2, c3, c4, c5, c6, c7⟩ := HAT5.out
            have z0 := cell_lt c0
            have xl := V5.out.l
            have l0 := (xl).1 0 _ rfl; have l1 := (xl).1 1 _ rfl; have l2 := (xl).1 2 _ rfl; have l3 := (xl).1 3 _ rfl; have l4 := (xl).1 4 _ rfl; have lf := (xl).2.1; have lz := (xl).2.2
            clear xl
            simp only at z0
            have hE : Fresh W ((W.alloc (.cells #[.string x.nm, .int .i64 x.h.kind, .int .i64 x.h.size, .int .i64 x.h.len, .bool x.h.flag, .string x.h.name, .slice p' n' c', .int .i64 0] 59)).drew) := ((Fresh.refl W).alloc _ _).drew
            have HO2 := Lib.hid (hE.own V5.out.own)
            have HE2 := Lib.hid hE
            have HLO := Lib.hid V5.out.lo
            have hNB : ((W.alloc (.cells #[.string x.nm, .int .i64 x.h.kind, .int .i64 x.h.size, .int .i64 x.h.len, .bool x.h.flag, .string x.h.name, .slice p' n' c', .int .i64 0] 59)).drew).heap[W.heap.size]? = some (.cells #[.string x.nm, .int .i64 x.h.kind, .int .i64 x.h.size, .int .i64 x.h.len, .bool x.h.flag, .string x.h.name, .slice p' n' c', .int .i64 0] 59 (0, 0)) := heap_alloc_new W _
            have HNB := Lib.hid hNB
            clear hE hNB
            go_region_law (first | (refine step_append_lies _ (by rfl) (.tmp 78) (.tmp 91) 34 (by rfl) (w.heap.size + 2) 59 i0 (.agg #[.string ⟨#[]⟩, .int .i64 0, .int .i64 0, .int .i64 0, .bool false, .string ⟨#[]⟩, .slice none 0 0, .int .i64 0]) 8 96 Tryd.underlying34 hi0 hz0 hz1 hz2 rfl (by decide) (.slice fp m fc) m xs (by rfl) HO2.out ⟨W.heap.size, 0, none⟩ 1 1 [.string x.nm, .int .i64 x.h.kind, .int .i64 x.h.size, .int .i64 x.h.len, .bool x.h.flag, .string x.h.name, .slice p' n' c', .int .i64 0] (by rfl) (by rfl) (World.news_of_block (cs := #[.string x.nm, .int .i64 x.h.kind, .int .i64 x.h.size, .int .i64 x.h.len, .bool x.h.flag, .string x.h.name, .slice p' n' c', .int .i64 0]) (t := 59) (fr := (0, 0)) HNB.out) (by simp [Value.oneCell']) (by decide) (by unfold maxLen; omega) (by omega) (by have := HLO.out; simp; omega) (W.heap.size + 1) (by simp) ?_; intro g c2' w5 hown5 hgrow hat hlt5; have HN5 := Lib.hid (V5.out.next (x := x) HE2.out K5.out hown5 hgrow); have XL := (V5.out.l.fresh HE2.out).grown hgrow (fun e => by have := (V5.out.own.lt _ e.symm).1; omega); clear l0 l1 l2 l3 l4 lf lz c0 c1 c2 c3 c4 c5 c6 c7 z0; have l0 := (XL).1 0 _ rfl; have l1 := (XL).1 1 _ rfl; have l2 := (XL).1 2 _ rfl; have l3 := (XL).1 3 _ rfl; have l4 := (XL).1 4 _ rfl; have lf := (XL).2.1; have lz := (XL).2.2; clear XL hown5 hgrow hat hlt5))
            all_goals
              go_wp2_with fail
              go_roundw
              case rel =>
                have R5 := HR.out.step (un := true) x HXS.out s0 a0' HI.out.sz0
                have I5 := HI.out.step HG.out HX.out HN.out HH.out (by rw [HXS.out]; exact HA.out)
                have N5 := HSN.out.step HX.out (if (true = true) then 0 else mul s.sz A)
                have e1 : s.add f kn true x = ⟨s.acc ++ [⟨x.nm, x.h, x.ks, if (true = true) then 0 else mul s.sz A⟩], max s.sz ((if (true = true) then 0 else mul s.sz A) + S), max s.al A⟩ := by
                  unfold LS.add
                  rw [HXS.out]
                exact ⟨m + 1, s.add f kn true x, r.addR true x S A, _, _, _, by omega, by go_num, by (simp only [LS.addR, Bool.false_eq_true, if_false, if_true]; congr 1; (repeat' split) <;> omega), Lib.hid I5, Lib.hid R5, Lib.hid (by rw [e1]; exact N5), Lib.hid (by have h5 := HN5.out; rw [EAL.out] at h5; simp only [LS.addR, Bool.false_eq_true, if_false, if_true]; exact h5)⟩
              case measure => simp [intOf]; omega
    · obtain rfl : k = n := by omega
      have rz0 := HR.out.z0
      have rz1 := HR.out.z1
      have hk26 := HI.out.le
      have hal0 := HI.out.al0
      have hal1 := HI.out.al1
      have ral := HR.out.al
      have hral0 : 1 ≤ r.al := by omega
      have hral1 : r.al ≤ 8 := by omega
      have RAL := Lib.hid ral
      clear ral
      have hbd := mul_bd r.sz r.al rz0 hral0
      have hbs := mul_bd s.sz s.al HI.out.sz0 hal0
      have xl := HV.out.l
      have l0 := (xl).1 0 _ rfl; have l1 := (xl).1 1 _ rfl; have l2 := (xl).1 2 _ rfl; have l3 := (xl).1 3 _ rfl; have l4 := (xl).1 4 _ rfl; have lf := (xl).2.1; have lz := (xl).2.2
      clear xl
      go_wp2_with fail
      go_at_call 71; refine (up_any r.sz r.al rz0 (by omega) hral0 hral1 _).mono ?_; rintro e w1 ⟨rfl, h1⟩
      have V1 := Lib.hid (HV.out.later h1)
      clear l0 l1 l2 l3 l4 lf lz h1 HV
      have xl := V1.out.l
      have xr := V1.out.r
      have l0 := (xl).1 0 _ rfl; have l1 := (xl).1 1 _ rfl; have l2 := (xl).1 2 _ rfl; have l3 := (xl).1 3 _ rfl; have l4 := (xl).1 4 _ rfl; have lf := (xl).2.1; have lz := (xl).2.2
      have r0 := (xr).1 0 _ rfl; have r1 := (xr).1 1 _ rfl; have r2 := (xr).1 2 _ rfl; have r3 := (xr).1 3 _ rfl; have r4 := (xr).1 4 _ rfl; have rf := (xr).2.1; have rz := (xr).2.2
      clear xl xr
      have HD : Hid (layF f kn true fs LS.zero = .inl s) := Lib.hid (by have := HI.out; rw [HNL.out] at this; exact this.done)
      have HLN : Hid (s.acc.length = k) := Lib.hid HI.out.len
      have HMS : Hid ((1048576 < mul r.sz r.al ∧ 1048576 < mul s.sz s.al) ∨ (¬ 1048576 < mul r.sz r.al ∧ r = s)) := Lib.hid (by
        rcases HR.out.or with ⟨h1, h2⟩ | ⟨h1, h2⟩
        · by_cases hb : 1048576 < mul r.sz r.al
          · exact Or.inl ⟨hb, by rw [← h2]; exact hb⟩
          · exact Or.inr ⟨hb, h2⟩
        · exact Or.inl ⟨by omega, by omega⟩)
      rcases HMS.out with ⟨hb, hb2⟩ | ⟨hb, rfl⟩
      · have hM2 : decide (1048576 < mul r.sz r.al) = true := by simpa using hb
        have HB2 := Lib.hid hb2
        clear hbd hbs hb hb2
        generalize mul r.sz r.al = MM at *
        go_wp2_with fail
        refine bodyPost_ret (v := ?_) ?_ rfl ?_; rotate_left 1; focus (simp [results, Tryd.results41, go_sem, *]; (try rfl); done)
        refine ⟨(by repeat' first | with_reducible refine Fresh.setCell ?_ ?_ _ | exact V1.out.fr | (simp; done) | (simp; omega)), ?_⟩
        rw [HD.out]
        simp only [if_pos HB2.out]
      · have hM2 : decide (1048576 < mul r.sz r.al) = false := by simpa using hb
        have HB2 := Lib.hid hb
        clear hbd hbs hb
        generalize hMM : mul r.sz r.al = MM at *
        have HMM := Lib.hid hMM
        clear hMM
        go_wp2_with fail
        refine bodyPost_ret (v := ?_) ?_ rfl ?_; rotate_left 1; focus (simp [results, Tryd.results41, go_sem, *]; (try rfl); done)
        refine ⟨(by repeat' first | with_reducible refine Fresh.setCell ?_ ?_ _ | exact V1.out.fr | (simp; done) | (simp; omega)), ?_⟩
        rw [HD.out]
        simp only [HMM.out]
        rw [if_neg (by have := HB2.out; omega)]
        have hne : ∀ b, b < w.heap.size + 2 → (Value.slice fp k fc).ownBlock ≠ some b := fun b hb e => by have := (V1.out.own.lt b e).1; omega
        rw [HLN.out]
        refine ⟨fp, fc, xs, rfl, ?_, ?_⟩
        · exact own_set (own_set (own_set (own_set (own_set (own_set V1.out.own (hne _ (by omega)) _ _) (hne _ (by omega)) _ _) (hne _ (by omega)) _ _) (hne _ (by omega)) _ _) (hne _ (by omega)) _ _) (hne _ (by omega)) _ _
        · have k0 : ∀ b, w.heap.size ≤ b → ¬ (b < w.heap.size ∧ ok b) := fun b hb e => by have := e.1; omega
          exact (((((V1.out.kids.set (k0 _ (by omega)) _ _).set (k0 _ (by omega)) _ _).set (k0 _ (by omega)) _ _).set (k0 _ (by omega)) _ _).set (k0 _ (by omega)) _ _).set (k0 _ (by omega)) _ _
end Go.Proofs.YteiomcbphbbpkaaDoor
