/- strconv.ParseUint, of texts that are numbers and of texts that are none. -/
import Derived.Test.YtcmfmfgedhfaeaaGreatDoorLj
import Derived.Shelf.Strconv.ParseUint10b64
import Derived.Shelf.Strconv.ParseUintEmpty
import Derived.Shelf.Strconv.RangeError
import Derived.Shelf.Strconv.SyntaxError
import Derived.Lib.IfaceEq
import Derived.Test.YtcmfmfgedhfaeaaGreatDoorSj
namespace Go.Proofs.YtcmfmfgedhfaeaaGreatDoor
set_option linter.unusedSimpArgs false
set_option linter.unusedVariables false
open Go.RowKit

theorem toError_syntax (fn s : ByteArray) (base bits : Int) (ev : Value) (w : World) (hlim : s.size ≤ 281474976710656) (hv : w.cell? ⟨1, 0, none⟩ = some ev) (hev : ev = .nilIface ∨ ∃ te pe, ev = .iface te pe) :
    Calls Tryz.prog 35 #[.string fn, .string s, .int .i64 base, .int .i64 bits, .iface 67 (.int .i64 2)] w fun e w' => ∃ N, e = .returned (.iface 69 (.pointer (some ⟨N, 0, none⟩))) ∧ Fresh w w' := by
  have heq : ∀ W, (binOp .eql 49 (.iface 67 (.int .i64 2)) (.iface 67 (.int .i64 2))).run Tryz.prog W = .ok (.bool true) W := fun W => Lib.run_eql_iface_int W 2 2 Tryz.underlying49 (by kernel_rfl) Tryz.underlying67
  go_enter Tryz.func35, Tryz.ntmps35
  go_wp2_with fail
  go_at_call 49; refine (Tryz.strconv_syntaxError fn s ev _ hlim hv hev).mono ?_; rintro e w2 ⟨N, rfl, h1, h2, h3⟩
  have H3 := Lib.hid (Fresh.mk h3)
  clear h1 h2 h3
  go_wp2_with fail
  go_ret
  exact ⟨N, rfl, H3.out⟩
theorem toError_range (fn s : ByteArray) (base bits : Int) (ev : Value) (w : World) (hlim : s.size ≤ 281474976710656) (hv : w.cell? ⟨2, 0, none⟩ = some ev) (hev : ev = .nilIface ∨ ∃ te pe, ev = .iface te pe) :
    Calls Tryz.prog 35 #[.string fn, .string s, .int .i64 base, .int .i64 bits, .iface 67 (.int .i64 1)] w fun e w' => ∃ N, e = .returned (.iface 69 (.pointer (some ⟨N, 0, none⟩))) ∧ Fresh w w' := by
  have heq : ∀ W, (binOp .eql 49 (.iface 67 (.int .i64 1)) (.iface 67 (.int .i64 1))).run Tryz.prog W = .ok (.bool true) W := fun W => Lib.run_eql_iface_int W 1 1 Tryz.underlying49 (by kernel_rfl) Tryz.underlying67
  have heq2 : ∀ W, (binOp .eql 49 (.iface 67 (.int .i64 1)) (.iface 67 (.int .i64 2))).run Tryz.prog W = .ok (.bool false) W := fun W => Lib.run_eql_iface_int W 1 2 Tryz.underlying49 (by kernel_rfl) Tryz.underlying67
  go_enter Tryz.func35, Tryz.ntmps35
  go_wp2_with fail
  go_at_call 50; refine (Tryz.strconv_rangeError fn s ev _ hlim hv hev).mono ?_; rintro e w2 ⟨N, rfl, h1, h2, h3⟩
  have H3 := Lib.hid (Fresh.mk h3)
  clear h1 h2 h3
  go_wp2_with fail
  go_ret
  exact ⟨N, rfl, H3.out⟩
/-- What the library's variables hold that lex reads. -/
structure Tabs (w : World) : Prop where
  e1 : ∃ ev, w.cell? ⟨1, 0, none⟩ = some ev ∧ (ev = .nilIface ∨ ∃ te pe, ev = .iface te pe)
  e2 : ∃ ev, w.cell? ⟨2, 0, none⟩ = some ev ∧ (ev = .nilIface ∨ ∃ te pe, ev = .iface te pe)
  u8 : Lib.Utf8Tabs 3 4 w
theorem Tabs.fresh {w w' : World} (h : Tabs w) (f : Fresh w w') : Tabs w' := by
  obtain ⟨⟨e1, h1, k1⟩, ⟨e2, h2, k2⟩, h3, h4⟩ := h
  exact ⟨⟨e1, f.atA h1, k1⟩, ⟨e2, f.atA h2, k2⟩, fun c hc => f.atA (h3 c hc), fun i hi => ⟨f.atA (h4 i hi).1, f.atA (h4 i hi).2⟩⟩
/-- An error, whatever stands beside it. -/
def Bad (e : Ending) : Prop := ∃ (u : Int) (N : Nat), e = .returned (.tuple #[.int .u64 u, .iface 69 (.pointer (some ⟨N, 0, none⟩))])
theorem pub_ok (t : ByteArray) (base bits n : Int) (w : World)
    (h : ∀ X, Calls Tryz.prog 34 #[.string t, .int .i64 base, .int .i64 bits] X fun e w' => e = .returned (.tuple #[.int .u64 n, .nilIface]) ∧ Fresh X w') :
    Calls Tryz.prog 20 #[.string t, .int .i64 base, .int .i64 bits] w fun e w' => e = .returned (.tuple #[.int .u64 n, .nilIface]) ∧ Fresh w w' := by
  have H := Lib.hid h
  clear h
  go_enter Tryz.func20, Tryz.ntmps20
  go_wp2_with fail
  go_at_call 34; refine (H.out _).mono ?_; rintro e w1 ⟨rfl, f1⟩
  have F1 := Lib.hid f1
  clear f1
  go_wp2_with fail
  go_ret2
  exact ⟨rfl, F1.out⟩
theorem pub_no (t : ByteArray) (base bits : Int) (u j : Int) (hj : j = 1 ∨ j = 2) (w : World) (hT : Tabs w) (hlim : t.size ≤ 281474976710656)
    (h : ∀ X, Calls Tryz.prog 34 #[.string t, .int .i64 base, .int .i64 bits] X fun e w' => e = .returned (.tuple #[.int .u64 u, .iface 67 (.int .i64 j)]) ∧ Fresh X w') :
    Calls Tryz.prog 20 #[.string t, .int .i64 base, .int .i64 bits] w fun e w' => Bad e ∧ Fresh w w' := by
  have H := Lib.hid h
  have HT := Lib.hid hT
  clear h hT
  rcases hj with rfl | rfl
  · go_enter Tryz.func20, Tryz.ntmps20
    go_wp2_with fail
    go_at_call 34; refine (H.out _).mono ?_; rintro e w1 ⟨rfl, f1⟩
    have F1 := Lib.hid f1
    clear f1
    obtain ⟨ev, hv, hev⟩ := (HT.out.fresh F1.out).e2
    have HV := Lib.hid hv
    have HE := Lib.hid hev
    clear hv hev
    go_wp2_with fail
    go_at_call 35; refine (toError_range _ _ _ _ ev _ hlim HV.out HE.out).mono ?_; rintro e w2 ⟨N, rfl, f2⟩
    have F2 := Lib.hid (F1.out.trans f2)
    clear f2
    go_wp2_with fail
    go_ret2
    exact ⟨⟨_, _, rfl⟩, F2.out⟩
  · go_enter Tryz.func20, Tryz.ntmps20
    go_wp2_with fail
    go_at_call 34; refine (H.out _).mono ?_; rintro e w1 ⟨rfl, f1⟩
    have F1 := Lib.hid f1
    clear f1
    obtain ⟨ev, hv, hev⟩ := (HT.out.fresh F1.out).e1
    have HV := Lib.hid hv
    have HE := Lib.hid hev
    clear hv hev
    go_wp2_with fail
    go_at_call 35; refine (toError_syntax _ _ _ _ ev _ hlim HV.out HE.out).mono ?_; rintro e w2 ⟨N, rfl, f2⟩
    have F2 := Lib.hid (F1.out.trans f2)
    clear f2
    go_wp2_with fail
    go_ret2
    exact ⟨⟨_, _, rfl⟩, F2.out⟩
/-- The number; or an error. -/
def PuOr (o : Option Nat) (e : Ending) : Prop := (∀ n, o = some n → e = .returned (.tuple #[.int .u64 (n : Int), .nilIface])) ∧ (o = none → Bad e)
theorem puor_of (t : ByteArray) (base bits : Int) (M : Int) (r : Lib.NumEnd Nat) (w : World) (hT : Tabs w) (hlim : t.size ≤ 281474976710656)
    (h : ∀ X, Calls Tryz.prog 34 #[.string t, .int .i64 base, .int .i64 bits] X fun e w' => e = .returned (Lib.uintTupleM 67 M r) ∧ Fresh X w') :
    Calls Tryz.prog 20 #[.string t, .int .i64 base, .int .i64 bits] w fun e w' => PuOr (okOf r) e ∧ Fresh w w' := by
  cases r with
  | ok n => exact (pub_ok t base bits n w h).mono (by rintro e w' ⟨h1, h2⟩; exact ⟨⟨by rintro m hm; simp [okOf] at hm; subst hm; exact h1, by simp [okOf]⟩, h2⟩)
  | range => exact (pub_no t base bits M 1 (.inl rfl) w hT hlim h).mono (by rintro e w' ⟨h1, h2⟩; exact ⟨⟨by simp [okOf], fun _ => h1⟩, h2⟩)
  | _        => exact (pub_no t base bits 0 2 (.inr rfl) w hT hlim h).mono (by rintro e w' ⟨h1, h2⟩; exact ⟨⟨by simp [okOf], fun _ => h1⟩, h2⟩)
theorem emp_of (t : ByteArray) (h : t.data.toList = []) : t = ⟨#[]⟩ := by
  cases t with | mk d => 
  have : d = #[] := by simpa using h
  rw [this]
theorem ne_of (t : ByteArray) (h : ¬ t.data.toList = []) : t.size ≠ 0 := fun k => h (List.eq_nil_of_length_eq_zero (by rw [← size_list]; exact k))
theorem bw_fresh (t : ByteArray) (X : World) : Fresh X (Lib.bytesWorld X 5 t) := ⟨Lib.bytesWorld_below X 5 t⟩
theorem p16_any (t : ByteArray) (w : World) (hT : Tabs w) (hlim : t.size ≤ 281474976710656) :
    Calls Tryz.prog 20 #[.string t, .int .i64 16, .int .i64 64] w fun e w' => PuOr (p16 t.data.toList) e ∧ Fresh w w' := by
  unfold p16 puL
  by_cases h : t.data.toList = []
  · rw [if_pos h]
    obtain rfl := emp_of t h
    exact puor_of _ 16 64 18446744073709551615 Lib.NumEnd.syntax w hT hlim (fun X => (Tryz.internal_strconv_ParseUint_empty 16 64 X).mono (by rintro e w' ⟨rfl, rfl⟩; exact ⟨rfl, Fresh.refl _⟩))
  · rw [if_neg h]
    exact puor_of _ 16 64 18446744073709551615 _ w hT hlim (fun X => (pu16_any t (ne_of t h) (by omega) X).mono (by rintro e w' ⟨rfl, rfl⟩; exact ⟨rfl, bw_fresh t X⟩))
theorem p8_any (t : ByteArray) (w : World) (hT : Tabs w) (hlim : t.size ≤ 281474976710656) :
    Calls Tryz.prog 20 #[.string t, .int .i64 8, .int .i64 64] w fun e w' => PuOr (p8 t.data.toList) e ∧ Fresh w w' := by
  unfold p8 puL
  by_cases h : t.data.toList = []
  · rw [if_pos h]
    obtain rfl := emp_of t h
    exact puor_of _ 8 64 18446744073709551615 Lib.NumEnd.syntax w hT hlim (fun X => (Tryz.internal_strconv_ParseUint_empty 8 64 X).mono (by rintro e w' ⟨rfl, rfl⟩; exact ⟨rfl, Fresh.refl _⟩))
  · rw [if_neg h]
    exact puor_of _ 8 64 18446744073709551615 _ w hT hlim (fun X => (pu8_any t (ne_of t h) (by omega) X).mono (by rintro e w' ⟨rfl, rfl⟩; exact ⟨rfl, bw_fresh t X⟩))
theorem p16b_any (t : ByteArray) (w : World) (hT : Tabs w) (hlim : t.size ≤ 281474976710656) :
    Calls Tryz.prog 20 #[.string t, .int .i64 16, .int .i64 8] w fun e w' => PuOr (okOf (puL 16 1152921504606846976 255 t.data.toList)) e ∧ Fresh w w' := by
  unfold puL
  by_cases h : t.data.toList = []
  · rw [if_pos h]
    obtain rfl := emp_of t h
    exact puor_of _ 16 8 255 Lib.NumEnd.syntax w hT hlim (fun X => (Tryz.internal_strconv_ParseUint_empty 16 8 X).mono (by rintro e w' ⟨rfl, rfl⟩; exact ⟨rfl, Fresh.refl _⟩))
  · rw [if_neg h]
    exact puor_of _ 16 8 255 _ w hT hlim (fun X => (pu16b_any t (ne_of t h) (by omega) X).mono (by rintro e w' ⟨rfl, rfl⟩; exact ⟨rfl, bw_fresh t X⟩))
theorem p10_any (t : ByteArray) (w : World) (hT : Tabs w) (hlim : t.size ≤ 281474976710656) :
    Calls Tryz.prog 20 #[.string t, .int .i64 10, .int .i64 64] w fun e w' => PuOr (p10 t.data.toList) e ∧ Fresh w w' := by
  unfold p10
  by_cases h : t.data.toList = []
  · rw [if_pos h]
    obtain rfl := emp_of t h
    exact puor_of _ 10 64 18446744073709551615 Lib.NumEnd.syntax w hT hlim (fun X => (Tryz.internal_strconv_ParseUint_empty 10 64 X).mono (by rintro e w' ⟨rfl, rfl⟩; exact ⟨rfl, Fresh.refl _⟩))
  · rw [if_neg h]
    exact puor_of _ 10 64 18446744073709551615 _ w hT hlim (fun X => (Tryz.internal_strconv_ParseUint_10_b64 t (ne_of t h) (by omega) X).mono (by rintro e w' ⟨rfl, rfl⟩; exact ⟨by rw [Lib.uintTuple_eq], bw_fresh t X⟩))
end Go.Proofs.YtcmfmfgedhfaeaaGreatDoor
