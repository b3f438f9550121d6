/- A value's text: the program. -/
import Derived.Test.YtjbflmpnmobngaaDoorTm
import Derived.Lib.ItoaLen
import Derived.Shelf.SlSorted.Search
import Derived.Test.YtjbflmpnmobngaaDoorDe
namespace Go.Proofs.YtjbflmpnmobngaaDoor
set_option linter.unusedSimpArgs false
set_option linter.unusedVariables false
open Go.RowKit

def Tab (w : World) : Prop := Lib.TabBelow Tryd.prog w.heap.size w "internal/strconv.uint64pow10" .u64 Lib.pow10Tab ∧ w.cell? ⟨3, 15, none⟩ = some (.int .u8 4)
theorem Tab.later {w0 w : World} (h : Tab w0) (hf : Below w0.heap.size w0 w) : Tab w := ⟨fun w' hb => (h.1.on hf) w' (hb.mono hf.size), stays_below hf _ _ _ h.2⟩
/-- A value's text. -/
def hex16 (U : Nat) : List UInt8 := [48, 120] ++ List.replicate (16 - (hexL U).length) 48 ++ hexL U
def valT (V : V3) : List UInt8 :=
  if V.k = 1 then Lib.itoa (wrap32 V.n) else if V.k = 2 then Lib.itoa (wrap64 V.n) ++ [76] else if V.k = 3 then hex16 V.n.toNat else if V.k = 4 then [112, 116, 114] else [117, 110, 100, 101, 102]
def V3.ok (V : V3) : Prop := 0 ≤ V.n ∧ V.n < 18446744073709551616
theorem w32 (n : Int) : -9223372036854775808 ≤ wrap32 n ∧ wrap32 n ≤ 9223372036854775807 := by unfold wrap32; omega
theorem w64 (n : Int) : -9223372036854775808 ≤ wrap64 n ∧ wrap64 n ≤ 9223372036854775807 := by unfold wrap64; omega
theorem valT_len (V : V3) (h : V.ok) : (valT V).length ≤ 22 := by
  unfold valT
  split
  · have := Lib.itoa_length_le (wrap32 V.n) (w32 _).1 (w32 _).2; omega
  · split
    · have := Lib.itoa_length_le (wrap64 V.n) (w64 _).1 (w64 _).2; simp; omega
    · split
      · have := hexL_len 15 V.n.toNat (by have := h.2; omega)
        simp [hex16]
        omega
      · split <;> simp
theorem itoaP (n : Int) (h : -9223372036854775808 ≤ n ∧ n ≤ 9223372036854775807) (w0 w : World) (ht : Tab w0) (hf : Below w0.heap.size w0 w) :
    Calls Tryd.prog 46 #[.int .i64 n] w fun e w' => e = .returned (.string ⟨(Lib.itoa n).toArray⟩) ∧ Below w.heap.size w w' := by
  refine (Tryd.strconv_Itoa n h.1 h.2 w ((ht.1.on hf).here)).mono ?_
  rintro e w' ⟨rfl, k, os, rfl⟩
  exact ⟨rfl, below_grown_sl w.heap.size w k os (Nat.le_refl _)⟩
theorem fmtP (n : Int) (h : -9223372036854775808 ≤ n ∧ n ≤ 9223372036854775807) (w0 w : World) (ht : Tab w0) (hf : Below w0.heap.size w0 w) :
    Calls Tryd.prog 47 #[.int .i64 n, .int .i64 10] w fun e w' => e = .returned (.string ⟨(Lib.itoa n).toArray⟩) ∧ Below w.heap.size w w' := by
  refine (Tryd.strconv_FormatInt_10 n h.1 h.2 w ((ht.1.on hf).here)).mono ?_
  rintro e w' ⟨rfl, k, os, rfl⟩
  exact ⟨rfl, below_grown_sl w.heap.size w k os (Nat.le_refl _)⟩
set_option maxRecDepth 100000 in
set_option maxHeartbeats 4000000 in
theorem valueText_any (V : V3) (hV : V.ok) (w : World) (ht : Tab w) :
    Calls Tryd.prog 44 #[.agg #[.int .i64 V.k, .int .u64 V.n, .int .i64 V.b]] w fun e w' => e = .returned (.string ⟨(valT V).toArray⟩) ∧ Below w.heap.size w w' := by
  obtain ⟨k, n, b⟩ := V
  have HT := Lib.hid ht
  have HV := Lib.hid hV
  simp only
  clear ht hV
  have HB : Hid (Below w.heap.size w (w.alloc (.cells #[.int .i64 k, .int .u64 n, .int .i64 b] 30))) := Lib.hid ((Fresh.refl w).alloc _ _).below
  by_cases h1 : k = 1
  · subst h1
    rw [show valT ⟨1, n, b⟩ = Lib.itoa (wrap32 n) from rfl]
    have C : Hid (∀ x, x = wrap32 n → Calls Tryd.prog 46 #[.int .i64 x] (w.alloc (.cells #[.int .i64 1, .int .u64 n, .int .i64 b] 30)) fun e w' => e = .returned (.string ⟨(Lib.itoa (wrap32 n)).toArray⟩) ∧ Below (w.alloc (.cells #[.int .i64 1, .int .u64 n, .int .i64 b] 30)).heap.size (w.alloc (.cells #[.int .i64 1, .int .u64 n, .int .i64 b] 30)) w') := Lib.hid (fun x hx => by rw [hx]; exact itoaP _ (w32 n) w _ HT.out HB.out)
    generalize Lib.itoa (wrap32 n) = l at *
    go_enter Tryd.func44, Tryd.ntmps44
    go_wp2_with fail
    go_at_call 46; refine (C.out _ (by first | rfl | (unfold wrap64 wrap32; omega) | (simp [wrap32]; omega))).mono ?_; rintro e w1 ⟨rfl, k1⟩
    go_wp2_with fail
    go_returns
    exact ⟨rfl, HB.out.trans (k1.mono HB.out.size)⟩
  by_cases h2 : k = 2
  · subst h2
    rw [show valT ⟨2, n, b⟩ = Lib.itoa (wrap64 n) ++ [76] from rfl]
    have C : Hid (∀ x, x = wrap64 n → Calls Tryd.prog 47 #[.int .i64 x, .int .i64 10] (w.alloc (.cells #[.int .i64 2, .int .u64 n, .int .i64 b] 30)) fun e w' => e = .returned (.string ⟨(Lib.itoa (wrap64 n)).toArray⟩) ∧ Below (w.alloc (.cells #[.int .i64 2, .int .u64 n, .int .i64 b] 30)).heap.size (w.alloc (.cells #[.int .i64 2, .int .u64 n, .int .i64 b] 30)) w') := Lib.hid (fun x hx => by rw [hx]; exact fmtP _ (w64 n) w _ HT.out HB.out)
    have HL : Hid ((Lib.itoa (wrap64 n)).length ≤ 21) := Lib.hid (Lib.itoa_length_le (wrap64 n) (w64 _).1 (w64 _).2)
    generalize Lib.itoa (wrap64 n) = l at *
    have c1 : ¬ 9223372036854775807 < l.length + 1 := by have := HL.out; omega
    have KEY : Hid ((⟨l.toArray⟩ : ByteArray) ++ ⟨#[76]⟩ = ⟨(l ++ [76]).toArray⟩) := Lib.hid (eqB (by rw [catB]))
    go_enter Tryd.func44, Tryd.ntmps44
    go_wp2_with fail
    go_at_call 47; refine (C.out _ (by first | rfl | (unfold wrap64; omega))).mono ?_; rintro e w1 ⟨rfl, k1⟩
    go_wp2_with fail
    go_returns
    exact ⟨congrArg (fun b => Ending.returned (.string b)) KEY.out, HB.out.trans (k1.mono HB.out.size)⟩
  by_cases h3 : k = 3
  · subst h3
    obtain ⟨U, rfl⟩ : ∃ U : Nat, n = U := ⟨n.toNat, by have := HV.out.1; simp only at this; omega⟩
    have hU : U < 18446744073709551616 := by have := HV.out.2; simp only at this; omega
    rw [show valT ⟨3, (U : Int), b⟩ = hex16 U from rfl]
    have C : Hid (Calls Tryd.prog 48 #[.int .u64 U] (w.alloc (.cells #[.int .i64 3, .int .u64 U, .int .i64 b] 30)) fun e w' => e = .returned (.string ⟨(hex16 U).toArray⟩) ∧ Below (w.alloc (.cells #[.int .i64 3, .int .u64 U, .int .i64 b] 30)).heap.size (w.alloc (.cells #[.int .i64 3, .int .u64 U, .int .i64 b] 30)) w') := Lib.hid (bitsText_any U hU _ (stays_below HB.out _ _ _ HT.out.2))
    generalize hex16 U = l at *
    go_enter Tryd.func44, Tryd.ntmps44
    go_wp2_with fail
    go_at_call 48; refine (C.out).mono ?_; rintro e w1 ⟨rfl, k1⟩
    go_wp2_with fail
    go_returns
    exact ⟨rfl, HB.out.trans (k1.mono HB.out.size)⟩
  by_cases h4 : k = 4
  · subst h4
    rw [show valT ⟨4, n, b⟩ = [112, 116, 114] from rfl]
    go_enter Tryd.func44, Tryd.ntmps44
    go_wp2_with fail
    go_returns
    exact ⟨rfl, HB.out⟩
  · have he : valT ⟨k, n, b⟩ = [117, 110, 100, 101, 102] := by simp [valT, h1, h2, h3, h4]
    rw [he]
    go_enter Tryd.func44, Tryd.ntmps44
    go_wp2_with fail
    go_returns
    exact ⟨rfl, HB.out⟩
/-- How a run ended. -/
def endT (st code : Int) : List UInt8 :=
  if st = 0 then [114, 117, 110, 110, 105, 110, 103] else if st = 1 then [101, 120, 105, 116, 101, 100, 32] ++ Lib.itoa code else if st = 2 then [119, 114, 111, 110, 103] else if st = 3 then [115, 116, 97, 99, 107, 32, 111, 117, 116] else [117, 110, 107, 110, 111, 119, 110]
theorem endT_len (st code : Int) (h : -9223372036854775808 ≤ code ∧ code ≤ 9223372036854775807) : (endT st code).length ≤ 28 := by
  unfold endT
  split
  · simp
  · split
    · have := Lib.itoa_length_le code h.1 h.2; simp; omega
    · split
      · simp
      · split <;> simp
set_option maxRecDepth 100000 in
set_option maxHeartbeats 4000000 in
theorem endText_any (p : Option Addr) (n cap : Nat) (st code steps : Int) (hc : -2147483648 ≤ code ∧ code ≤ 2147483647) (w : World) (ht : Tab w) :
    Calls Tryd.prog 39 #[.agg #[.slice p n cap, .int .i64 st, .int .i32 code, .int .i64 steps]] w fun e w' => e = .returned (.string ⟨(endT st code).toArray⟩) ∧ Below w.heap.size w w' := by
  have HT := Lib.hid ht
  have HC := Lib.hid hc
  clear ht hc
  have HB : Hid (Below w.heap.size w (w.alloc (.cells #[.slice p n cap, .int .i64 st, .int .i32 code, .int .i64 steps] 40))) := Lib.hid ((Fresh.refl w).alloc _ _).below
  by_cases h0 : st = 0
  · subst h0
    go_enter Tryd.func39, Tryd.ntmps39
    go_wp2_with fail
    go_returns
    exact ⟨rfl, HB.out⟩
  by_cases h1 : st = 1
  · subst h1
    rw [show endT 1 code = [101, 120, 105, 116, 101, 100, 32] ++ Lib.itoa code from rfl]
    have C : Hid (∀ x, x = code → Calls Tryd.prog 46 #[.int .i64 x] (w.alloc (.cells #[.slice p n cap, .int .i64 1, .int .i32 code, .int .i64 steps] 40)) fun e w' => e = .returned (.string ⟨(Lib.itoa code).toArray⟩) ∧ Below (w.alloc (.cells #[.slice p n cap, .int .i64 1, .int .i32 code, .int .i64 steps] 40)).heap.size (w.alloc (.cells #[.slice p n cap, .int .i64 1, .int .i32 code, .int .i64 steps] 40)) w') := Lib.hid (fun x hx => by rw [hx]; exact itoaP _ (by have := HC.out; omega) w _ HT.out HB.out)
    have HL : Hid ((Lib.itoa code).length ≤ 21) := Lib.hid (Lib.itoa_length_le code (by have := HC.out; omega) (by have := HC.out; omega))
    generalize Lib.itoa code = l at *
    have c1 : ¬ 9223372036854775807 < 7 + l.length := by have := HL.out; omega
    have KEY : Hid ((⟨#[101, 120, 105, 116, 101, 100, 32]⟩ : ByteArray) ++ ⟨l.toArray⟩ = ⟨([101, 120, 105, 116, 101, 100, 32] ++ l).toArray⟩) := Lib.hid (eqB (catB _ _))
    go_enter Tryd.func39, Tryd.ntmps39
    go_wp2_with fail
    go_at_call 46; refine (C.out _ (by first | rfl | (have := HC.out; unfold wrap64; omega))).mono ?_; rintro e w1 ⟨rfl, k1⟩
    go_wp2_with fail
    go_returns
    exact ⟨congrArg (fun b => Ending.returned (.string b)) KEY.out, HB.out.trans (k1.mono HB.out.size)⟩
  by_cases h2 : st = 2
  · subst h2
    go_enter Tryd.func39, Tryd.ntmps39
    go_wp2_with fail
    go_returns
    exact ⟨rfl, HB.out⟩
  by_cases h3 : st = 3
  · subst h3
    go_enter Tryd.func39, Tryd.ntmps39
    go_wp2_with fail
    go_returns
    exact ⟨rfl, HB.out⟩
  · have he : endT st code = [117, 110, 107, 110, 111, 119, 110] := by simp [endT, h0, h1, h2, h3]
    rw [he]
    go_enter Tryd.func39, Tryd.ntmps39
    go_wp2_with fail
    go_returns
    exact ⟨rfl, HB.out⟩
end Go.Proofs.YtjbflmpnmobngaaDoor
