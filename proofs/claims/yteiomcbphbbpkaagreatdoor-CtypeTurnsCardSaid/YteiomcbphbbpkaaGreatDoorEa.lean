/- Lay: its walk. -/
import Derived.Test.YteiomcbphbbpkaaGreatDoorCz
import Derived.Carry
namespace Go.Proofs.YteiomcbphbbpkaaGreatDoor
set_option linter.unusedSimpArgs false
set_option linter.unusedVariables false
open Go.RowKit Go.Maps Go.WideMaps

theorem zeroE (w : World) : (zeroValue 44).run Tryz.prog w = .ok (.agg #[]) w := by kernel_rfl
/-- What Lay answers. -/
def LayR (w : World) (nm : ByteArray) (un : Bool) (r : LS ⊕ (Nat × Int)) (e : Ending) (w' : World) : Prop :=
  Fresh w w' ∧ match r with
  | .inr (i, c) => e = .returned (.tuple #[.agg #[.string ⟨#[]⟩, .bool false, .slice none 0 0, .int .i64 0, .int .i64 0], .int .i64 i, .int .i64 c])
  | .inl s => if 1048576 < mul s.sz s.al then e = .returned (.tuple #[.agg #[.string ⟨#[]⟩, .bool false, .slice none 0 0, .int .i64 0, .int .i64 0], .int .i64 (-1), .int .i64 7]) else
    ∃ fp fc xs, e = .returned (.tuple #[.agg #[.string nm, .bool un, .slice fp s.acc.length fc, .int .i64 (mul s.sz s.al), .int .i64 s.al], .int .i64 (-1), .int .i64 0]) ∧
      w'.ownsRow (w.heap.size + 3) 43 8 (.slice fp s.acc.length fc) s.acc.length xs ∧ Fcells (fun b => w.heap.size + 3 ≤ b ∧ some b ≠ (Value.slice fp s.acc.length fc).ownBlock) w' s.acc xs
set_option maxRecDepth 100000 in
set_option maxHeartbeats 8000000 in
theorem lay_any {ok : Nat → Prop} (f : Nat → La) (lp : Option Addr) (kn lc : Nat) (nm : ByteArray) (un : Bool) (fs : List Fd) (p : Option Addr) (n cap : Nat) (w0 w : World) (hf : Fresh w0 w) (hfs : FSlice ok w0 fs p n cap) (hl : LaysAt w0 lp kn f) (hg : Good f kn) (hk0 : kn ≤ lc) (hkc : lc ≤ maxLen) (hnm : ∀ x ∈ fs, isName x.nm) (hsm : ∀ x ∈ fs, x.ks.small ∧ x.ks.length ≤ 9) :
    Calls Tryz.prog 13 #[.string nm, .bool un, .slice p n cap, .slice lp kn lc] w (LayR w nm un (layF f kn un fs LS.zero)) := by
  have hmm := @run_makeMap Tryz.prog
  have HNL : Hid (n = fs.length) := Lib.hid hfs.1
  have hnc : n ≤ cap := hfs.2.1
  have hmax : cap ≤ 9223372036854775807 := hfs.2.2.1
  have HF := Lib.hid hf
  have HS := Lib.hid hfs
  have HL := Lib.hid hl
  have HG := Lib.hid hg
  have HNM := Lib.hid hnm
  have HSM := Lib.hid hsm
  have HKC := Lib.hid (And.intro hk0 hkc)
  clear hf hfs hl hg hnm hsm hk0 hkc
  have HM0 : Hid ((((w.alloc (.cells #[.string ⟨#[]⟩, .bool false, .slice none 0 0, .int .i64 0, .int .i64 0] 48)).alloc (.cells #[.string nm, .bool un, .slice none 0 0, .int .i64 0, .int .i64 1] 48)).alloc (.map #[] 0)).ownsMap Tryz.prog 9 unitElem (w.heap.size + 1 + 1) 0 (setOf (H := Unit) (.agg []) (keysOf LS.zero.acc))) := Lib.hid (by
    have h2 : (((w.alloc (.cells #[.string ⟨#[]⟩, .bool false, .slice none 0 0, .int .i64 0, .int .i64 0] 48)).alloc (.cells #[.string nm, .bool un, .slice none 0 0, .int .i64 0, .int .i64 1] 48)).alloc (.map #[] 0)).ownsMap Tryz.prog 9 (unitElem (H := Unit)) (w.heap.size + 1 + 1) 0 (.map []) := by
      have := World.ownsMap_made (H := Unit) ((w.alloc (.cells #[.string ⟨#[]⟩, .bool false, .slice none 0 0, .int .i64 0, .int .i64 0] 48)).alloc (.cells #[.string nm, .bool un, .slice none 0 0, .int .i64 0, .int .i64 1] 48)) Tryz.prog 9 unitElem
      simpa only [World.size_alloc] using this
    exact h2)
  go_enter Tryz.func13, Tryz.ntmps13
  go_wp2_with fail
  go_loopw [25] (fun i wr => ∃ k s fp fc xs, k ≤ n ∧ i = .int .i64 k ∧ Hid (LInv f kn un fs k s) ∧ Hid (LV w wr nm un s k fp fc xs) ∧ Hid (wr.ownsMap Tryz.prog 9 unitElem (w.heap.size + 1 + 1) k (setOf (H := Unit) (.agg []) (keysOf s.acc)))) (fun i _ => n - (intOf i).toNat)
  case atStart => exact ⟨0, LS.zero, none, 0, [], by omega, rfl, Lib.hid (LInv.zero ..), Lib.hid (LV.new w nm un), HM0⟩
  case round =>
    obtain ⟨k, s, fp, fc, xs, hk, rfl, HI, HV, HM⟩ := hrel
    by_cases hlt : k < n
    · obtain ⟨x, hx⟩ : ∃ x, fs[k]? = some x := ⟨_, List.getElem?_eq_getElem (by have := HNL.out; omega)⟩
      have HX := Lib.hid hx
      have hmem : x ∈ fs := List.mem_of_getElem? hx
      have HN := Lib.hid (HNM.out x hmem)
      have HSx := Lib.hid (HSM.out x hmem)
      obtain ⟨B, off, p', n', c', rfl, hks, hat⟩ := HS.out.at' hx
      have HK := Lib.hid hks
      have HAT := Lib.hid (hat.later (HF.out.trans HV.out.fr))
      clear hx hmem hks hat
      have hlt' : (k : Int) < (n : Int) := by omega
      have hkey : keyOf Tryz.prog 9 (.string x.nm) = some (.string x.nm.data.toList) := keyOf_string_mk Tryz.underlying9 HN.out.small
      have HX8 := Lib.hid (Blk.new wr #[.string x.nm, .int .i64 x.h.kind, .int .i64 x.h.size, .int .i64 x.h.len, .bool x.h.flag, .string x.h.name, .slice p' n' c', .int .i64 x.off] 43)
      have HMk := Lib.hid hkey
      cases hh : hasN s.acc x.nm
      · have HH := Lib.hid hh
        have hq : Maps.has (setOf (H := Unit) (.agg []) (keysOf s.acc)) (.string x.nm.data.toList) = false := by rw [has_keys]; exact HH.out
        clear hh
        obtain ⟨c0, c1, c2, c3, c4, c5, c6, c7⟩ := HAT.out
        have z0 := cell_lt c0
        simp only at z0
        go_upto_region 9 with (at_lookup; refine wpList_lookup_own_unit _ rfl _ _ 75 rfl 9 44 law9 Tryz.underlying75 (zeroE _) (w.heap.size + 1 + 1) k _ rfl (ownsMap_later HM.out (by (repeat' first | with_reducible exact Fresh.refl _ | with_reducible assumption | with_reducible refine Fresh.alloc ?_ _ _ | with_reducible refine Fresh.drew ?_ | with_reducible refine Fresh.drewN ?_ _ | with_reducible refine Fresh.setCell ?_ ?_ _ | with_reducible refine Fresh.trans ?_ (by assumption) | (simp; done) | (simp; omega)))) _ _ rfl hkey ?_)
        have V2 : Hid (LV w ((wr.alloc (.cells #[.string x.nm, .int .i64 x.h.kind, .int .i64 x.h.size, .int .i64 x.h.len, .bool x.h.flag, .string x.h.name, .slice p' n' c', .int .i64 x.off] 43)).alloc (.cells #[] 44)) nm un s k fp fc xs) := Lib.hid (HV.out.later (by (repeat' first | with_reducible exact Fresh.refl _ | with_reducible assumption | with_reducible refine Fresh.alloc ?_ _ _ | with_reducible refine Fresh.drew ?_ | with_reducible refine Fresh.drewN ?_ _ | with_reducible refine Fresh.setCell ?_ ?_ _ | with_reducible refine Fresh.trans ?_ (by assumption) | (simp; done) | (simp; omega))))
        have M2 : Hid (((wr.alloc (.cells #[.string x.nm, .int .i64 x.h.kind, .int .i64 x.h.size, .int .i64 x.h.len, .bool x.h.flag, .string x.h.name, .slice p' n' c', .int .i64 x.off] 43)).alloc (.cells #[] 44)).ownsMap Tryz.prog 9 unitElem (w.heap.size + 1 + 1) k (setOf (H := Unit) (.agg []) (keysOf s.acc))) := Lib.hid (ownsMap_later HM.out (by (repeat' first | with_reducible exact Fresh.refl _ | with_reducible assumption | with_reducible refine Fresh.alloc ?_ _ _ | with_reducible refine Fresh.drew ?_ | with_reducible refine Fresh.drewN ?_ _ | with_reducible refine Fresh.setCell ?_ ?_ _ | with_reducible refine Fresh.trans ?_ (by assumption) | (simp; done) | (simp; omega))))
        have T2 : Hid (Blk ((wr.alloc (.cells #[.string x.nm, .int .i64 x.h.kind, .int .i64 x.h.size, .int .i64 x.h.len, .bool x.h.flag, .string x.h.name, .slice p' n' c', .int .i64 x.off] 43)).alloc (.cells #[] 44)) wr.heap.size [.string x.nm, .int .i64 x.h.kind, .int .i64 x.h.size, .int .i64 x.h.len, .bool x.h.flag, .string x.h.name, .slice p' n' c', .int .i64 x.off]) := Lib.hid (HX8.out.fresh (by (repeat' first | with_reducible exact Fresh.refl _ | with_reducible assumption | with_reducible refine Fresh.alloc ?_ _ _ | with_reducible refine Fresh.drew ?_ | with_reducible refine Fresh.drewN ?_ _ | with_reducible refine Fresh.setCell ?_ ?_ _ | with_reducible refine Fresh.trans ?_ (by assumption) | (simp; done) | (simp; omega))))
        have hlo := HV.out.lo
        clear c0 c1 c2 c3 c4 c5 c6 c7 z0 HV HM HX8 hq HM0
        generalize ((wr.alloc (.cells #[.string x.nm, .int .i64 x.h.kind, .int .i64 x.h.size, .int .i64 x.h.len, .bool x.h.flag, .string x.h.name, .slice p' n' c', .int .i64 x.off] 43)).alloc (.cells #[] 44)) = W at *
        have hkm : k < maxLen := by have := HI.out.le; unfold maxLen; omega
        have t0 := T2.out.1 0 _ rfl
        have m2 := M2.out
        go_upto_region 10 with (at_mapUpdate; refine wpList_mapUpdate_own _ rfl _ _ _ 75 rfl 9 44 law9 Tryz.underlying75 unitElem _ k _ rfl m2 hkm _ _ _ rfl rfl hkey (.agg []) [] unitElem_mk ?_; intro w1 hown1 hgrow1)
        have V3 := Lib.hid (V2.out.set hgrow1)
        have M3 : Hid (w1.ownsMap Tryz.prog 9 unitElem (w.heap.size + 1 + 1) (k + 1) (setOf (H := Unit) (.agg []) (keysOf s.acc ++ [.string x.nm.data.toList]))) := Lib.hid (by rw [setOf_snoc]; exact hown1)
        have T3 : Hid (Blk w1 wr.heap.size [.string x.nm, .int .i64 x.h.kind, .int .i64 x.h.size, .int .i64 x.h.len, .bool x.h.flag, .string x.h.name, .slice p' n' c', .int .i64 x.off]) := Lib.hid (T2.out.grown hgrow1 (fun e => by have := Option.some.inj e; omega))
        clear t0 m2 hown1 hgrow1 V2 M2 T2 hkey
        obtain ⟨S, A, hSA⟩ : ∃ S A, sizeH f kn x.h (x.ks.size0 f kn) = (S, A) := ⟨_, _, rfl⟩
        have hxs : x.size f kn = (S, A) := hSA
        have hbd := Fd.size_bd HG.out x
        rw [hxs] at hbd
        simp only at hbd
        obtain ⟨s0, s1, a0, a1⟩ := hbd
        have HXS := Lib.hid hxs
        have SZ : Hid (∀ X, Fresh w0 X → Calls Tryz.prog 14 #[.agg #[.int .i64 x.h.kind, .int .i64 x.h.size, .int .i64 x.h.len, .bool x.h.flag, .string x.h.name, .slice p' n' c'], .slice lp kn lc] X fun e w' => e = .returned (.tuple #[.int .i64 S, .int .i64 A]) ∧ Fresh X w') := Lib.hid (fun X hX => by
          have := size_all f lp kn lc HG.out HKC.out.1 HKC.out.2 x.ks ok x.h p' n' c' w0 X hX HK.out HL.out
          rw [hSA] at this
          exact this)
        clear hSA hxs
        have xt := T3.out
        have t0 := (xt).1 0 _ rfl; have t1 := (xt).1 1 _ rfl; have t2 := (xt).1 2 _ rfl; have t3 := (xt).1 3 _ rfl; have t4 := (xt).1 4 _ rfl; have t5 := (xt).1 5 _ rfl; have t6 := (xt).1 6 _ rfl; have t7 := (xt).1 7 _ rfl; have tf := (xt).2.1; have tz := (xt).2.2
        clear xt
        go_upto_region 11 with fail
        go_at_call 14; refine (SZ.out _ (HF.out.trans V3.out.fr)).mono ?_; rintro e w2 ⟨rfl, h2⟩
        have V4 := Lib.hid (V3.out.later h2)
        have M4 := Lib.hid (ownsMap_later M3.out h2)
        have T4 := Lib.hid (T3.out.fresh h2)
        clear t0 t1 t2 t3 t4 t5 t6 t7 tf tz h2 V3 M3 T3
        by_cases hA : A = 0
        · subst hA
          have xr := V4.out.r
          have r0 := (xr).1 0 _ rfl; have r1 := (xr).1 1 _ rfl; have r2 := (xr).1 2 _ rfl; have r3 := (xr).1 3 _ rfl; have r4 := (xr).1 4 _ rfl; have rf := (xr).2.1; have rz := (xr).2.2
          clear xr
          go_wp2_with fail
          refine bodyPost_ret (v := ?_) ?_ rfl ?_; rotate_left 1; focus (simp [results, Tryz.results13, go_sem, *]; (try rfl); done)
          refine ⟨(by repeat' first | with_reducible refine Fresh.setCell ?_ ?_ _ | exact V4.out.fr | (simp; done) | (simp; omega)), ?_⟩
          rw [HI.out.bad HX.out HH.out (by rw [HXS.out])]
        · have a0' : 1 ≤ A := by omega
          have HA := Lib.hid hA
          have hA2 : (A == 0) = false := by simpa using hA
          clear hA
          have xt := T4.out
          have xl := V4.out.l
          have t0 := (xt).1 0 _ rfl; have t1 := (xt).1 1 _ rfl; have t2 := (xt).1 2 _ rfl; have t3 := (xt).1 3 _ rfl; have t4 := (xt).1 4 _ rfl; have t5 := (xt).1 5 _ rfl; have t6 := (xt).1 6 _ rfl; have t7 := (xt).1 7 _ rfl; have tf := (xt).2.1; have tz := (xt).2.2
          have l0 := (xl).1 0 _ rfl; have l1 := (xl).1 1 _ rfl; have l2 := (xl).1 2 _ rfl; have l3 := (xl).1 3 _ rfl; have l4 := (xl).1 4 _ rfl; have lf := (xl).2.1; have lz := (xl).2.2
          clear xt xl
          go_upto_region 13 with fail
          have hsz := HI.out.sz1
          have hk26 := HI.out.le
          have hz0 := HI.out.sz0
          have hal0 := HI.out.al0
          have hal1 := HI.out.al1
          go_wp2_with fail
          go_at_call 30; refine (withMember_any nm un fp k fc s.sz s.al x.nm x.h x.ks p' n' c' x.off S A w0 _ (w.heap.size + 3) xs (HF.out.trans V4.out.fr) HK.out HSx.out V4.out.own V4.out.lo (by omega) s0 s1 a0' a1 hz0 (by omega) (by omega) hal1).mono ?_; rintro e w3 ⟨g, c2, p2, n2, c3, rfl, hown, hkid, hgr, hat⟩
          clear t0 t1 t2 t3 t4 t5 t6 t7 tf tz l0 l1 l2 l3 l4 lf lz
          have hne : some (w.heap.size + 1) ≠ (Value.slice fp k fc).ownBlock := fun e => by have := (V4.out.own.lt _ e.symm).1; omega
          have hnm : (Value.slice fp k fc).ownBlock ≠ some (w.heap.size + 1 + 1) := fun e => by have := (V4.out.own.lt _ e).1; omega
          have xl := V4.out.l.grown hgr hne
          have l0 := (xl).1 0 _ rfl; have l1 := (xl).1 1 _ rfl; have l2 := (xl).1 2 _ rfl; have l3 := (xl).1 3 _ rfl; have l4 := (xl).1 4 _ rfl; have lf := (xl).2.1; have lz := (xl).2.2
          clear xl
          have HW := Lib.hid (And.intro hown (And.intro hkid (And.intro hgr hat)))
          have HNM2 := Lib.hid hnm
          have hadd : s.add f kn un x = ⟨s.acc ++ [⟨x.nm, x.h, x.ks, if un = true then 0 else mul s.sz A⟩], max s.sz ((if un = true then 0 else mul s.sz A) + S), max s.al A⟩ := by
            unfold LS.add
            rw [HXS.out]
          have HADD := Lib.hid hadd
          clear hown hkid hgr hat hne hnm hadd
          generalize (if un = true then (0 : Int) else mul s.sz A) = M at *
          go_wp2_with fail
          go_roundw
          case rel =>
            have L5 := V4.out.next (M := M) (S := max s.sz (M + S)) (A := max s.al A) HW.out.1 HW.out.2.1 HW.out.2.2.1 HW.out.2.2.2
            have M5 := ownsMap_next (n := k + 1) M4.out HW.out.2.2.1 HNM2.out (.string nm) (.bool un) (.slice (some ⟨g, 0, none⟩) (k + 1) c2) (.int .i64 (max s.sz (M + S))) (.int .i64 (max s.al A))
            have I5 := HI.out.step HG.out HX.out HN.out HH.out (by rw [HXS.out]; exact HA.out)
            rw [HADD.out] at I5
            have hko : keysOf s.acc ++ [Lit.string x.nm.data.toList] = keysOf (s.acc ++ [⟨x.nm, x.h, x.ks, M⟩]) := by simp [keysOf]
            rw [hko] at M5
            exact ⟨k + 1, _, _, _, _, by omega, by go_num, Lib.hid I5, Lib.hid L5, Lib.hid M5⟩
          case measure => simp [intOf]; omega
      · have HH := Lib.hid hh
        have hq : Maps.has (setOf (H := Unit) (.agg []) (keysOf s.acc)) (.string x.nm.data.toList) = true := by rw [has_keys]; exact HH.out
        clear hh
        obtain ⟨c0, c1, c2, c3, c4, c5, c6, c7⟩ := HAT.out
        have z0 := cell_lt c0
        simp only at z0
        go_upto_region 8 with (at_lookup; refine wpList_lookup_own_unit _ rfl _ _ 75 rfl 9 44 law9 Tryz.underlying75 (zeroE _) (w.heap.size + 1 + 1) k _ rfl (ownsMap_later HM.out (by (repeat' first | with_reducible exact Fresh.refl _ | with_reducible assumption | with_reducible refine Fresh.alloc ?_ _ _ | with_reducible refine Fresh.drew ?_ | with_reducible refine Fresh.drewN ?_ _ | with_reducible refine Fresh.setCell ?_ ?_ _ | with_reducible refine Fresh.trans ?_ (by assumption) | (simp; done) | (simp; omega)))) _ _ rfl hkey ?_)
        have V2 : Hid (LV w ((wr.alloc (.cells #[.string x.nm, .int .i64 x.h.kind, .int .i64 x.h.size, .int .i64 x.h.len, .bool x.h.flag, .string x.h.name, .slice p' n' c', .int .i64 x.off] 43)).alloc (.cells #[] 44)) nm un s k fp fc xs) := Lib.hid (HV.out.later (by (repeat' first | with_reducible exact Fresh.refl _ | with_reducible assumption | with_reducible refine Fresh.alloc ?_ _ _ | with_reducible refine Fresh.drew ?_ | with_reducible refine Fresh.drewN ?_ _ | with_reducible refine Fresh.setCell ?_ ?_ _ | with_reducible refine Fresh.trans ?_ (by assumption) | (simp; done) | (simp; omega))))
        clear c0 c1 c2 c3 c4 c5 c6 c7 z0 HV HM HX8 hq HM0
        generalize ((wr.alloc (.cells #[.string x.nm, .int .i64 x.h.kind, .int .i64 x.h.size, .int .i64 x.h.len, .bool x.h.flag, .string x.h.name, .slice p' n' c', .int .i64 x.off] 43)).alloc (.cells #[] 44)) = W at *
        have xr := V2.out.r
        have r0 := (xr).1 0 _ rfl; have r1 := (xr).1 1 _ rfl; have r2 := (xr).1 2 _ rfl; have r3 := (xr).1 3 _ rfl; have r4 := (xr).1 4 _ rfl; have rf := (xr).2.1; have rz := (xr).2.2
        clear xr
        go_wp2_with fail
        refine bodyPost_ret (v := ?_) ?_ rfl ?_; rotate_left 1; focus (simp [results, Tryz.results13, go_sem, *]; (try rfl); done)
        refine ⟨(by repeat' first | with_reducible refine Fresh.setCell ?_ ?_ _ | exact V2.out.fr | (simp; done) | (simp; omega)), ?_⟩
        rw [HI.out.twice HX.out HH.out]
    · obtain rfl : k = n := by omega
      have hz0 := HI.out.sz0
      have hz1 := HI.out.sz1
      have hk26 := HI.out.le
      have hal0 := HI.out.al0
      have hal1 := HI.out.al1
      have hbd := mul_bd s.sz s.al hz0 hal0
      have xl := HV.out.l
      have l0 := (xl).1 0 _ rfl; have l1 := (xl).1 1 _ rfl; have l2 := (xl).1 2 _ rfl; have l3 := (xl).1 3 _ rfl; have l4 := (xl).1 4 _ rfl; have lf := (xl).2.1; have lz := (xl).2.2
      clear xl
      clear HM HM0
      go_upto_region 16 with fail
      go_at_call 31; refine (multiple_any s.sz s.al hz0 (by omega) hal0 hal1 _).mono ?_; rintro e w1 ⟨rfl, h1⟩
      have V1 := Lib.hid (HV.out.later h1)
      clear l0 l1 l2 l3 l4 lf lz h1 HV
      have xl := V1.out.l
      have xr := V1.out.r
      have l0 := (xl).1 0 _ rfl; have l1 := (xl).1 1 _ rfl; have l2 := (xl).1 2 _ rfl; have l3 := (xl).1 3 _ rfl; have l4 := (xl).1 4 _ rfl; have lf := (xl).2.1; have lz := (xl).2.2
      have r0 := (xr).1 0 _ rfl; have r1 := (xr).1 1 _ rfl; have r2 := (xr).1 2 _ rfl; have r3 := (xr).1 3 _ rfl; have r4 := (xr).1 4 _ rfl; have rf := (xr).2.1; have rz := (xr).2.2
      clear xl xr
      have HD : Hid (layF f kn un fs LS.zero = .inl s) := Lib.hid (by have := HI.out; rw [HNL.out] at this; exact this.done)
      have HLN : Hid (s.acc.length = k) := Lib.hid HI.out.len
      have HMU := Lib.hid hbd
      by_cases hM : 1048576 < mul s.sz s.al
      · have hM2 : decide (1048576 < mul s.sz s.al) = true := by simpa using hM
        go_wp2_with fail
        refine bodyPost_ret (v := ?_) ?_ rfl ?_; rotate_left 1; focus (simp [results, Tryz.results13, go_sem, *]; (try rfl); done)
        refine ⟨(by repeat' first | with_reducible refine Fresh.setCell ?_ ?_ _ | exact V1.out.fr | (simp; done) | (simp; omega)), ?_⟩
        rw [HD.out]
        dsimp only
        rw [if_pos hM]
      · have hM2 : decide (1048576 < mul s.sz s.al) = false := by simpa using hM
        go_wp2_with fail
        refine bodyPost_ret (v := ?_) ?_ rfl ?_; rotate_left 1; focus (simp [results, Tryz.results13, go_sem, *]; (try rfl); done)
        refine ⟨(by repeat' first | with_reducible refine Fresh.setCell ?_ ?_ _ | exact V1.out.fr | (simp; done) | (simp; omega)), ?_⟩
        rw [HD.out]
        dsimp only
        rw [if_neg (by omega), HLN.out]
        have n1 : (Value.slice fp k fc).ownBlock ≠ some (w.heap.size + 1) := own_ne V1.out.own (by omega)
        have n0 : (Value.slice fp k fc).ownBlock ≠ some w.heap.size := own_ne V1.out.own (by omega)
        have k1 : ¬ (w.heap.size + 3 ≤ w.heap.size + 1 ∧ some (w.heap.size + 1) ≠ (Value.slice fp k fc).ownBlock) := fun e => by have := e.1; omega
        have k0 : ¬ (w.heap.size + 3 ≤ w.heap.size ∧ some w.heap.size ≠ (Value.slice fp k fc).ownBlock) := fun e => by have := e.1; omega
        exact ⟨_, _, _, rfl, own_set (own_set (own_set (own_set (own_set (own_set V1.out.own n1 _ _) n0 _ _) n0 _ _) n0 _ _) n0 _ _) n0 _ _, (((((V1.out.kids.set k1 _ _).set k0 _ _).set k0 _ _).set k0 _ _).set k0 _ _).set k0 _ _⟩
end Go.Proofs.YteiomcbphbbpkaaGreatDoor
