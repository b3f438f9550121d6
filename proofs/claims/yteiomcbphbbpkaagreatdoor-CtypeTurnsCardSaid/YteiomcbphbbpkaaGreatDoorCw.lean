/- A layout with one member more: a union's; either's. -/
import Derived.Test.YteiomcbphbbpkaaGreatDoorCv
import Derived.Deep.RegionLaw
import Derived.Deep.AppendLies
import Derived.Deep.DeepCutAuto
namespace Go.Proofs.YteiomcbphbbpkaaGreatDoor
set_option linter.unusedSimpArgs false
set_option linter.unusedVariables false
open Go.RowKit

set_option maxRecDepth 100000 in
set_option maxHeartbeats 8000000 in
theorem withMember_t {ok : Nat → Prop} (nm : ByteArray) (un : Bool) (fp : Option Addr) (fn fc : Nat) (sz al : Int) (mn : ByteArray) (h : Hd) (ks : Tys) (p : Option Addr) (n cap : Nat) (o0 s a : Int) (w0 w : World) (base : Nat) (xs : List Value) (hu : un = true)
    (hf : Fresh w0 w) (hk : Kids ok w0 ks p n cap) (hs : ks.small ∧ ks.length ≤ 9) (hown : w.ownsRow base 43 8 (.slice fp fn fc) fn xs) (hb : base ≤ w.heap.size) (hfn : fn ≤ 1000)
    (s0 : 0 ≤ s) (s1 : s ≤ 1048576) (a0 : 1 ≤ a) (a1 : a ≤ 8) (z0 : 0 ≤ sz) (z1 : sz ≤ 1099511627776) (l0 : 0 ≤ al) (l1 : al ≤ 8) :
    Calls Tryz.prog 30 #[.agg #[.string nm, .bool un, .slice fp fn fc, .int .i64 sz, .int .i64 al], .agg #[.string mn, .int .i64 h.kind, .int .i64 h.size, .int .i64 h.len, .bool h.flag, .string h.name, .slice p n cap, .int .i64 o0], .int .i64 s, .int .i64 a] w (WM w nm un fp fn fc sz al mn h ks base xs (if un then 0 else mul sz a) s a) := by
  obtain ⟨i0, hi0, hz0, hz1, hz2⟩ := info_parts info43
  have HF := Lib.hid hf
  have HK := Lib.hid hk
  have HS := Lib.hid hs
  have HO := Lib.hid hown
  have HMB := Lib.hid (mul_bd sz a z0 a0)
  clear hf hk hs hown
  have X0 := Lib.hid (WB.new w nm un fp fn fc sz al mn h p n cap o0)
  have HN0 : Hid (some w.heap.size ≠ (Value.slice fp fn fc).ownBlock) := Lib.hid (fun e => by have := (HO.out.lt _ e.symm).2; omega)
  have HN2 : Hid (some (w.heap.size + 1 + 1) ≠ (Value.slice fp fn fc).ownBlock) := Lib.hid (fun e => by have := (HO.out.lt _ e.symm).2; omega)
  subst hu
  · go_enter Tryz.func30, Tryz.ntmps30
    go_upto_region 4 with fail
    simp only [if_true]
    have X1 := X0
    generalize (((w.alloc (.cells #[.string nm, .bool true, .slice fp fn fc, .int .i64 sz, .int .i64 al] 48)).alloc (.cells #[.string mn, .int .i64 h.kind, .int .i64 h.size, .int .i64 h.len, .bool h.flag, .string h.name, .slice p n cap, .int .i64 o0] 43)).alloc (.cells #[.string ⟨#[]⟩, .bool false, .slice none 0 0, .int .i64 0, .int .i64 0] 48)) = w1 at *
    go_cut [9] (fun s9 wx => s9 = .int .i64 0 ∧ Hid (∃ g c2 n2 c3 p2 w3, wx = w3.setCell ⟨w.heap.size, 2, none⟩ (.slice (some ⟨g, 0, none⟩) (fn + 1) c2) ∧ Mid w w3 nm true (.slice fp fn fc) sz al mn h ks base fn xs 0 g c2 n2 c3 p2))
    case first =>
      obtain ⟨l2, f0, f1, f2, f3, f4, f5, f6⟩ := X1.out.wc
      have lz := cell_lt l2
      have fz := cell_lt f0
      simp only at lz fz
      go_region_law (first | (go_simp; go_at_call 42; (refine (copied_any h ks p n cap w0 _ (HF.out.trans (X1.out.fr.trans ((Fresh.refl _).drew))) HK.out HS.out.1 HS.out.2).mono ?_); rintro e w2 ⟨⟨p2, n2, c3, rfl, hk2⟩, h2⟩; have X2 := Lib.hid (X1.out.later (((Fresh.refl _).drew).trans h2)); have HK2 := Lib.hid hk2; have H2 := Lib.hid h2; clear hk2 h2 l2 f0 f1 f2 f3 f4 f5 f6 lz fz; obtain ⟨l2, f0, f1, f2, f3, f4, f5, f6⟩ := X2.out.wc; have lz := cell_lt l2; have fz := cell_lt f0; simp only at lz fz; have HO2 := Lib.hid (X2.out.fr.own HO.out)) | (refine step_append_lies _ (by rfl) (.tmp 18) (.tmp 26) 46 (by rfl) base 43 i0 (.agg #[.string ⟨#[]⟩, .int .i64 0, .int .i64 0, .int .i64 0, .bool false, .string ⟨#[]⟩, .slice none 0 0, .int .i64 0]) 8 96 Tryz.underlying46 hi0 hz0 hz1 hz2 rfl (by decide) (.slice fp fn fc) fn xs (by rfl) (HO2.out.alloc _) ⟨w2.heap.size, 0, none⟩ 1 1 [.string mn, .int .i64 h.kind, .int .i64 h.size, .int .i64 h.len, .bool h.flag, .string h.name, .slice p2 n2 c3, .int .i64 0] (by rfl) (by rfl) (World.news_of_block (cs := #[.string mn, .int .i64 h.kind, .int .i64 h.size, .int .i64 h.len, .bool h.flag, .string h.name, .slice p2 n2 c3, .int .i64 0]) (t := 43) (fr := (0, 0)) (heap_alloc_new w2 _)) (by simp [Value.oneCell']) (by decide) (by unfold maxLen; omega) (by omega) (by have := X2.out.fr.size; simp; omega) (w2.heap.size + 1) (by simp) ?_; intro g c2 w3 hown3 hgrow hat hlt; have hlt' := hlt; have MD := Lib.hid (Mid.mk' HO.out (X2.out.fr.trans ((Fresh.refl _).alloc #[.string mn, .int .i64 h.kind, .int .i64 h.size, .int .i64 h.len, .bool h.flag, .string h.name, .slice p2 n2 c3, .int .i64 0] 43)) (by have := X2.out.lo; simp; omega) (X2.out.l.fresh ((Fresh.refl _).alloc #[.string mn, .int .i64 h.kind, .int .i64 h.size, .int .i64 h.len, .bool h.flag, .string h.name, .slice p2 n2 c3, .int .i64 0] 43)) (X2.out.r.fresh ((Fresh.refl _).alloc #[.string mn, .int .i64 h.kind, .int .i64 h.size, .int .i64 h.len, .bool h.flag, .string h.name, .slice p2 n2 c3, .int .i64 0] 43)) hown3 ((HK2.out.mono (ok' := fun b => w.heap.size + 3 ≤ b) (fun b _ hb => by have := X1.out.lo; simp at hb; omega)).later ((Fresh.refl _).alloc #[.string mn, .int .i64 h.kind, .int .i64 h.size, .int .i64 h.len, .bool h.flag, .string h.name, .slice p2 n2 c3, .int .i64 0] 43)) hgrow (by simpa using hat)); have XL := MD.out.l; clear l2 f0 f1 f2 f3 f4 f5 f6 lz fz; have x0 := (XL).1 0 _ rfl; have x1 := (XL).1 1 _ rfl; have x2 := (XL).1 2 _ rfl; have x3 := (XL).1 3 _ rfl; have x4 := (XL).1 4 _ rfl; have xf := (XL).2.1; have xz := (XL).2.2; clear XL hown3 hgrow hat hlt hlt'))
      all_goals (go_wp2_with fail; go_meet)
      all_goals exact ⟨rfl, Lib.hid ⟨_, _, _, _, _, _, rfl, MD.out⟩⟩
    case rest =>
      obtain ⟨rfl, HM⟩ := hcut
      obtain ⟨g, c2, n2, c3, p2, w3, rfl, hm⟩ := HM.out
      have yl := hm.l
      have yr := hm.r
      have x0 := (yl).1 0 _ rfl; have x1 := (yl).1 1 _ rfl; have x2 := (yl).1 2 _ rfl; have x3 := (yl).1 3 _ rfl; have x4 := (yl).1 4 _ rfl; have xf := (yl).2.1; have xz := (yl).2.2
      have r0 := (yr).1 0 _ rfl; have r1 := (yr).1 1 _ rfl; have r2 := (yr).1 2 _ rfl; have r3 := (yr).1 3 _ rfl; have r4 := (yr).1 4 _ rfl; have rf := (yr).2.1; have rz := (yr).2.2
      have HMD := Lib.hid hm
      clear yl yr hm HM HMB
      go_wp2_with fail
      all_goals refine bodyPost_ret (v := ?_) ?_ rfl ?_; rotate_left 1; focus (simp [results, Tryz.results30, go_sem, *]; (try rfl); done)
      all_goals exact HMD.out.done _ _ (by omega) (by omega) _ _ _ _ _ _ _ _
theorem withMember_any {ok : Nat → Prop} (nm : ByteArray) (un : Bool) (fp : Option Addr) (fn fc : Nat) (sz al : Int) (mn : ByteArray) (h : Hd) (ks : Tys) (p : Option Addr) (n cap : Nat) (o0 s a : Int) (w0 w : World) (base : Nat) (xs : List Value)
    (hf : Fresh w0 w) (hk : Kids ok w0 ks p n cap) (hs : ks.small ∧ ks.length ≤ 9) (hown : w.ownsRow base 43 8 (.slice fp fn fc) fn xs) (hb : base ≤ w.heap.size) (hfn : fn ≤ 1000)
    (s0 : 0 ≤ s) (s1 : s ≤ 1048576) (a0 : 1 ≤ a) (a1 : a ≤ 8) (z0 : 0 ≤ sz) (z1 : sz ≤ 1099511627776) (l0 : 0 ≤ al) (l1 : al ≤ 8) :
    Calls Tryz.prog 30 #[.agg #[.string nm, .bool un, .slice fp fn fc, .int .i64 sz, .int .i64 al], .agg #[.string mn, .int .i64 h.kind, .int .i64 h.size, .int .i64 h.len, .bool h.flag, .string h.name, .slice p n cap, .int .i64 o0], .int .i64 s, .int .i64 a] w (WM w nm un fp fn fc sz al mn h ks base xs (if un then 0 else mul sz a) s a) := by
  cases un
  · exact withMember_f nm false fp fn fc sz al mn h ks p n cap o0 s a w0 w base xs rfl hf hk hs hown hb hfn s0 s1 a0 a1 z0 z1 l0 l1
  · exact withMember_t nm true fp fn fc sz al mn h ks p n cap o0 s a w0 w base xs rfl hf hk hs hown hb hfn s0 s1 a0 a1 z0 z1 l0 l1
end Go.Proofs.YteiomcbphbbpkaaGreatDoor
