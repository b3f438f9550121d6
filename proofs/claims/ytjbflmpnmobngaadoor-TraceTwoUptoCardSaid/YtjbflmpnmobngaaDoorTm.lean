/- FormatUint in sixteens. -/
import Derived.Test.YtjbflmpnmobngaaDoorTl
import Derived.Test.YtjbflmpnmobngaaDoorSi
namespace Go.Proofs.YtjbflmpnmobngaaDoor
set_option linter.unusedSimpArgs false
set_option linter.unusedVariables false
open Go.RowKit

/-- A digit in sixteens. -/
def hx (d : Nat) : UInt8 := UInt8.ofNat (if d < 10 then 48 + d else 87 + d)
/-- A number's digits, with nothing ahead. -/
def hexL (v : Nat) : List UInt8 := if h : v < 16 then [hx v] else hexL (v / 16) ++ [hx (v % 16)]
termination_by v
decreasing_by omega
def preX (v : Nat) : List UInt8 := if v = 0 then [] else hexL v
theorem hexL_len : ∀ (k v : Nat), v < 16 ^ (k + 1) → (hexL v).length ≤ k + 1
  | 0, v, h => by rw [hexL, dif_pos (by simpa using h)]; simp
  | k + 1, v, h => by
    rw [hexL]
    split
    · simp
    · rw [List.length_append]
      have := hexL_len k (v / 16) (by rw [Nat.pow_succ] at h; omega)
      simp
      omega
theorem pow2_16 (w : World) : Calls Tryd.prog 66 #[.int .i64 16] w fun e w' => e = .returned (.bool true) ∧ w = w' := by
  go_enter Tryd.func66, Tryd.ntmps66
  go_wp2
  go_returns
  exact ⟨rfl, rfl⟩
theorem tz64_16 (w : World) (hc : w.cell? ⟨3, 15, none⟩ = some (.int .u8 4)) : Calls Tryd.prog 73 #[.int .u64 16] w fun e w' => e = .returned (.int .i64 4) ∧ w = w' := by
  have hz := cell_lt hc
  simp only at hz
  have e1 : bits BinOp.and IntKind.u64 16 (IntKind.u64.wrap (-16)) = 16 := by kernel_rfl
  have e2 : IntKind.u64.wrap 4573923408821661840 = 4573923408821661840 := by kernel_rfl
  go_enter Tryd.func73, Tryd.ntmps73
  go_wp2
  go_returns
  exact ⟨rfl, rfl⟩
theorem tz_16 (w : World) (hc : w.cell? ⟨3, 15, none⟩ = some (.int .u8 4)) : Calls Tryd.prog 67 #[.int .u64 16] w fun e w' => e = .returned (.int .i64 4) ∧ w = w' := by
  go_enter Tryd.func67, Tryd.ntmps67
  go_wp2_with (go_at_call 73; refine (tz64_16 _ hc).mono ?_; rintro e w' ⟨rfl, rfl⟩)
  go_returns
  exact ⟨rfl, rfl⟩
/-- The array's bytes. -/
structure Arr (X : World) (A : Nat) (a : Nat → Int) : Prop where
  c : ∀ j, j < 65 → X.cell? ⟨A, j, none⟩ = some (.int .u8 (a j))
  f : ∀ o, X.frozen? ⟨A, o, none⟩ = false
  z : A < X.heap.size
theorem Arr.put {X : World} {A : Nat} {a : Nat → Int} (h : Arr X A a) {i : Nat} (hi : i < 65) (d : Int) : Arr (X.setCell ⟨A, i, none⟩ (.int .u8 d)) A (fun j => if j = i then d else a j) := by
  refine ⟨fun j hj => ?_, fun o => by rw [← h.f o]; simp [go_sem], by simpa [World.setCell] using h.z⟩
  by_cases e : j = i
  · subst e
    simp only [if_true]
    have := h.c j hj
    simp [go_sem, this]
  · simp only [e, if_false]
    rw [World.cell?_setCell_other _ _ _ _ (fun q => e (congrArg Addr.off q).symm)]
    exact h.c j hj
theorem Arr.later {X Y : World} {A : Nat} {a : Nat → Int} (h : Arr X A a) (hf : Fresh X Y) : Arr Y A a :=
  ⟨fun j hj => hf.at' (h.c j hj), fun o => by rw [hf.froz]; exact h.f o, Nat.lt_of_lt_of_le h.z hf.size⟩
/-- Its last ones. -/
def Ends (a : Nat → Int) (l : List UInt8) : Prop := l.length ≤ 65 ∧ ∀ j (h : j < l.length), a (65 - l.length + j) = ((l[j]).toNat : Int)
theorem Ends.cons {a : Nat → Int} {l : List UInt8} (h : Ends a l) (hl : l.length < 65) (d : UInt8) : Ends (fun j => if j = 64 - l.length then (d.toNat : Int) else a j) (d :: l) := by
  refine ⟨by simp; omega, fun j hj => ?_⟩
  simp at hj
  cases j with
  | zero => simp only [List.length_cons, List.getElem_cons_zero]; rw [if_pos (by omega)]
  | succ j =>
    simp only [List.length_cons, List.getElem_cons_succ]
    rw [if_neg (by omega), show 65 - (l.length + 1) + (j + 1) = 65 - l.length + j by omega]
    exact h.2 j (by omega)
theorem hex_step {v : Nat} (hv : 16 ≤ v) (s : List UInt8) : hexL v ++ s = hexL (v / 16) ++ (hx (v % 16) :: s) := by
  rw [hexL, dif_neg (by omega), List.append_assoc]
  rfl
def isZero8 : Option Value → Bool
  | some (.int .u8 z) => z == 0
  | _ => false
theorem isZero8_eq {o : Option Value} (h : isZero8 o = true) : o = some (.int .u8 0) := by
  match o, h with
  | some (.int .u8 z), h => simp [isZero8] at h; rw [h]
theorem zeros94 : ((List.range 65).all fun j => isZero8 Tryd.zeroCells94[j]?) = true := by kernel_rfl
theorem arr_new (w : World) : Arr (w.alloc (.cells Tryd.zeroCells94 94)) w.heap.size (fun _ => 0) := by
  refine ⟨fun j hj => ?_, fun o => World.frozen?_alloc_at _ _ _ o (by simp), by simp⟩
  have := List.all_eq_true.1 zeros94 j (by simpa using hj)
  rw [World.cell?_alloc_at _ _ _ _ rfl]
  exact isZero8_eq this
theorem hexL_pos (v : Nat) : 1 ≤ (hexL v).length := by
  rw [hexL]
  split <;> simp
theorem and15 (v : Nat) (h : v < 18446744073709551616) : bits BinOp.and IntKind.u64 (v : Int) 15 = ((v % 16 : Nat) : Int) := by
  rw [u64_and (v : Int) 15 (by omega) (by omega) (by omega) (by omega)]
  have : (v : Int).toNat &&& (15 : Int).toNat = v % 16 := by
    have := Nat.and_two_pow_sub_one_eq_mod v 4
    simpa using this
  rw [this]
def alphaX : ByteArray := ⟨#[48, 49, 50, 51, 52, 53, 54, 55, 56, 57, 97, 98, 99, 100, 101, 102, 103, 104, 105, 106, 107, 108, 109, 110, 111, 112, 113, 114, 115, 116, 117, 118, 119, 120, 121, 122]⟩
theorem hx_all : ((List.range 16).all fun d => (⟨#[48, 49, 50, 51, 52, 53, 54, 55, 56, 57, 97, 98, 99, 100, 101, 102, 103, 104, 105, 106, 107, 108, 109, 110, 111, 112, 113, 114, 115, 116, 117, 118, 119, 120, 121, 122]⟩ : ByteArray).data[d]? == some (hx d)) = true := by kernel_rfl
theorem hx_at (d : Nat) (hd : d < 16) (h : d < (⟨#[48, 49, 50, 51, 52, 53, 54, 55, 56, 57, 97, 98, 99, 100, 101, 102, 103, 104, 105, 106, 107, 108, 109, 110, 111, 112, 113, 114, 115, 116, 117, 118, 119, 120, 121, 122]⟩ : ByteArray).size) : (⟨#[48, 49, 50, 51, 52, 53, 54, 55, 56, 57, 97, 98, 99, 100, 101, 102, 103, 104, 105, 106, 107, 108, 109, 110, 111, 112, 113, 114, 115, 116, 117, 118, 119, 120, 121, 122]⟩ : ByteArray)[d]'h = hx d := by
  have := List.all_eq_true.1 hx_all d (by simpa using hd)
  have h2 : (⟨#[48, 49, 50, 51, 52, 53, 54, 55, 56, 57, 97, 98, 99, 100, 101, 102, 103, 104, 105, 106, 107, 108, 109, 110, 111, 112, 113, 114, 115, 116, 117, 118, 119, 120, 121, 122]⟩ : ByteArray).data[d]? = some (hx d) := by simpa using this
  have h3 : (⟨#[48, 49, 50, 51, 52, 53, 54, 55, 56, 57, 97, 98, 99, 100, 101, 102, 103, 104, 105, 106, 107, 108, 109, 110, 111, 112, 113, 114, 115, 116, 117, 118, 119, 120, 121, 122]⟩ : ByteArray).data[d]? = some ((⟨#[48, 49, 50, 51, 52, 53, 54, 55, 56, 57, 97, 98, 99, 100, 101, 102, 103, 104, 105, 106, 107, 108, 109, 110, 111, 112, 113, 114, 115, 116, 117, 118, 119, 120, 121, 122]⟩ : ByteArray)[d]'h) := Array.getElem?_eq_getElem h
  rw [h3] at h2
  exact Option.some.inj h2
set_option maxRecDepth 100000 in
set_option maxHeartbeats 8000000 in
theorem bits_16 (U : Nat) (hU : U < 18446744073709551616) (w : World) (hc : w.cell? ⟨3, 15, none⟩ = some (.int .u8 4)) :
    Calls Tryd.prog 57 #[.slice none 0 0, .int .u64 U, .int .i64 16, .bool false, .bool false] w fun e w' => e = .returned (.tuple #[.slice none 0 0, .string ⟨(hexL U).toArray⟩]) ∧ Below w.heap.size w w' := by
  have HC := Lib.hid hc
  have HU := Lib.hid hU
  have HLEN : Hid ((hexL U).length ≤ 16) := Lib.hid (hexL_len 15 U (by simpa using hU))
  clear hc hU
  go_enter Tryd.func57, Tryd.ntmps57
  go_upto_region 4 with fail
  have F0 : Hid (Fresh w (w.alloc (.cells Tryd.zeroCells94 94))) := Lib.hid (by (repeat' first | with_reducible exact Fresh.refl _ | with_reducible assumption | with_reducible refine Fresh.alloc ?_ _ _ | with_reducible refine Fresh.drew ?_ | with_reducible refine Fresh.drewN ?_ _ | with_reducible refine Fresh.setCell ?_ ?_ _ | with_reducible refine Fresh.trans ?_ (by assumption) | (simp; done) | (simp; omega)))
  have A0 := Lib.hid (arr_new w)
  have HA : Hid (w.heap.size ≤ w.heap.size) := Lib.hid (Nat.le_refl _)
  have HC0 := Lib.hid (F0.out.at' HC.out)
  generalize (w.alloc (.cells Tryd.zeroCells94 94)) = W at *
  obtain ⟨A, hA⟩ : ∃ A, A = w.heap.size := ⟨_, rfl⟩
  have HAE := Lib.hid hA
  rw [← hA]
  rw [← hA] at A0
  clear hA HA
  go_wp2_with (first | (go_at_call 66; refine (pow2_16 _).mono ?_; rintro e w' ⟨rfl, rfl⟩) | (go_at_call 67; refine (tz_16 _ HC0.out).mono ?_; rintro e w' ⟨rfl, rfl⟩))
  go_loopw [1, 13] (fun u i wr => ∃ (v k : Nat) (l : List UInt8) (a : Nat → Int), u = .int .u64 v ∧ i = .int .i64 k ∧ v ≤ U ∧ k + l.length = 65 ∧ Hid (hexL v ++ l = hexL U) ∧ Hid (Arr wr A a ∧ Ends a l) ∧ Hid (Fresh w wr)) (fun u i _ => (intOf u).toNat)
  case atStart => exact ⟨U, 65, [], fun _ => 0, rfl, rfl, Nat.le_refl _, rfl, Lib.hid (by simp), Lib.hid ⟨A0.out, by simp, fun j hj => by simp at hj⟩, F0⟩
  case round =>
    obtain ⟨v, k, l, a, rfl, rfl, hv, hk, HI, HAR, HF⟩ := hrel
    have HK : Hid (l.length + (hexL v).length ≤ 16) := Lib.hid (by have h1 := HLEN.out; rw [← HI.out, List.length_append] at h1; omega)
    have hk2 : 50 ≤ k := by have := HK.out; have := hexL_pos v; omega
    by_cases hlt : 16 ≤ v
    · have hlt' : (16 : Int) ≤ (v : Int) := by omega
      have ea := and15 v (by have := HU.out; omega)
      have ED : Hid ((v : Int) / 16 = ((v / 16 : Nat) : Int)) := Lib.hid (by omega)
      have HN : Hid (hexL (v / 16) ++ (hx (v % 16) :: l) = hexL U) := Lib.hid (by rw [← hex_step hlt]; exact HI.out)
      have hd : v % 16 < 16 := Nat.mod_lt _ (by decide)
      obtain ⟨d, hde⟩ : ∃ d, d = v % 16 := ⟨_, rfl⟩
      rw [← hde] at ea hd HN
      have kb : ((k : Int) - 1).toNat = k - 1 := by omega
      have kc : IntKind.i64.wrap ((k : Int) - 1) = ((k - 1 : Nat) : Int) := by rw [show (k : Int) - 1 = ((k - 1 : Nat) : Int) by omega]; simp [IntKind.wrap, IntKind.bits, IntKind.signed]; omega
      have cc := HAR.out.1.c (k - 1) (by omega)
      have cf := HAR.out.1.f (k - 1)
      have cz := HAR.out.1.z
      have HIX : Hid (∀ h, (⟨#[48, 49, 50, 51, 52, 53, 54, 55, 56, 57, 97, 98, 99, 100, 101, 102, 103, 104, 105, 106, 107, 108, 109, 110, 111, 112, 113, 114, 115, 116, 117, 118, 119, 120, 121, 122]⟩ : ByteArray)[v % 16]'h = hx (v % 16)) := Lib.hid (fun h => hx_at _ (Nat.mod_lt _ (by decide)) h)
      have hdv : d = v % 16 := hde
      go_upto_region 14 with fail
      simp only [HIX.out]
      rw [← hdv]
      have HAR2 : Hid (Arr (wr.setCell ⟨A, k - 1, none⟩ (.int .u8 ((hx d).toNat : Int))) A (fun j => if j = k - 1 then ((hx d).toNat : Int) else a j) ∧ Ends (fun j => if j = k - 1 then ((hx d).toNat : Int) else a j) (hx d :: l)) := Lib.hid ⟨HAR.out.1.put (by omega) _, by
        have := HAR.out.2.cons (by omega) (hx d)
        rw [show 64 - l.length = k - 1 by omega] at this
        exact this⟩
      have HF2 : Hid (Fresh w (wr.setCell ⟨A, k - 1, none⟩ (.int .u8 ((hx d).toNat : Int)))) := Lib.hid (HF.out.setCell (by have := HAE.out; simp only; omega) _)
      generalize (wr.setCell ⟨A, k - 1, none⟩ (.int .u8 ((hx d).toNat : Int))) = W2 at *
      clear ea hde hdv HIX cc cf cz hd
      go_wp2_with fail
      go_roundw
      case rel => exact ⟨v / 16, k - 1, hx d :: l, _, by first | rfl | (rw [ED.out]; done) | go_num, rfl, by omega, by simp; omega, HN, HAR2, HF2⟩
      case measure => simp [intOf]; omega
    · have hs : hexL v = [hx v] := by rw [hexL, dif_pos (by omega)]
      have HN : Hid (hx v :: l = hexL U) := Lib.hid (by have := HI.out; rw [hs] at this; exact this)
      have hvl : v < 16 := by omega
      have hlt' : ¬ (16 : Int) ≤ (v : Int) := by omega
      have hv36 : (v : Int) < 36 := by omega
      have cc := HAR.out.1.c (k - 1) (by omega)
      have cf := HAR.out.1.f (k - 1)
      have cz := HAR.out.1.z
      have kb : ((k : Int) - 1).toNat = k - 1 := by omega
      have kc : IntKind.i64.wrap ((k : Int) - 1) = ((k - 1 : Nat) : Int) := by rw [show (k : Int) - 1 = ((k - 1 : Nat) : Int) by omega]; simp [IntKind.wrap, IntKind.bits, IntKind.signed]; omega
      have HIX : Hid (∀ h, (⟨#[48, 49, 50, 51, 52, 53, 54, 55, 56, 57, 97, 98, 99, 100, 101, 102, 103, 104, 105, 106, 107, 108, 109, 110, 111, 112, 113, 114, 115, 116, 117, 118, 119, 120, 121, 122]⟩ : ByteArray)[v]'h = hx v) := Lib.hid (fun h => hx_at _ hvl h)
      clear hs
      go_upto_region 25 with fail
      simp only [HIX.out]
      have HAR2 : Hid (Arr (wr.setCell ⟨A, k - 1, none⟩ (.int .u8 ((hx v).toNat : Int))) A (fun j => if j = k - 1 then ((hx v).toNat : Int) else a j) ∧ Ends (fun j => if j = k - 1 then ((hx v).toNat : Int) else a j) (hx v :: l)) := Lib.hid ⟨HAR.out.1.put (by omega) _, by
        have := HAR.out.2.cons (by omega) (hx v)
        rw [show 64 - l.length = k - 1 by omega] at this
        exact this⟩
      have HF2 : Hid (Fresh w (wr.setCell ⟨A, k - 1, none⟩ (.int .u8 ((hx v).toNat : Int)))) := Lib.hid (HF.out.setCell (by have := HAE.out; simp only; omega) _)
      generalize (wr.setCell ⟨A, k - 1, none⟩ (.int .u8 ((hx v).toNat : Int))) = W2 at *
      have hk65 : k - 1 ≤ 65 := by omega
      have hkl : 65 - (k - 1) = (hx v :: l).length := by simp; omega
      have cv : (convert 59 9 (.slice (some ⟨A, k - 1, none⟩) (hx v :: l).length (65 - (k - 1)))).run Tryd.prog W2 = .ok (.string ⟨(hx v :: l).toArray⟩) W2 :=
        run_convert_bytes_back W2 59 9 5 ⟨A, k - 1, none⟩ (65 - (k - 1)) (hx v :: l) Tryd.underlying59 Tryd.underlying5 Tryd.underlying9 (fun j hj => by
          have h1 := HAR2.out.1.c (k - 1 + j) (by simp at hj; omega)
          have h2 := HAR2.out.2.2 j hj
          rw [show 65 - (hx v :: l).length + j = k - 1 + j by simp; omega] at h2
          simp only at h1 h2
          rw [Go.WideShapes.add_plain, h1, h2])
      have hal : Tryd.prog.arrayLen 94 = 65 := by kernel_rfl
      have hsl : (Instr.sliceAt 94 (.pointer (some ⟨A, 0, none⟩)) (some (.int .i64 ((k - 1 : Nat) : Int))) none none).run Tryd.prog W2 = .ok (.slice (some ⟨A, k - 1, none⟩) (65 - (k - 1)) (65 - (k - 1))) W2 := by
        rw [run_sliceAt_array_l W2 94 ⟨A, 0, none⟩ (by simp [Program.arrayLen, Program.elem, Tryd.underlying94]) .i64 _ (by omega) (by rw [hal]; omega)]
        go_simp
        omega
      rw [← hkl] at cv
      clear HIX hkl hal
      go_wp2_with fail
      refine bodyPost_ret (v := ?_) ?_ rfl ?_; rotate_left 1; focus (simp [results, Tryd.results57, go_sem, *]; (try rfl); done)
      exact ⟨by rw [HN.out], HF2.out.below⟩
theorem fmt_16i (U : Nat) (hU : U < 18446744073709551616) (w : World) (hc : w.cell? ⟨3, 15, none⟩ = some (.int .u8 4)) :
    Calls Tryd.prog 58 #[.int .u64 U, .int .i64 16] w fun e w' => e = .returned (.string ⟨(hexL U).toArray⟩) ∧ Below w.heap.size w w' := by
  have C := Lib.hid (bits_16 U hU w hc)
  clear hU hc
  go_enter Tryd.func58, Tryd.ntmps58
  go_wp2_with fail
  go_at_call 57; refine (C.out).mono ?_; rintro e w1 ⟨rfl, h1⟩
  go_wp2_with fail
  go_returns
  exact ⟨rfl, h1⟩
theorem fmt_16 (U : Nat) (hU : U < 18446744073709551616) (w : World) (hc : w.cell? ⟨3, 15, none⟩ = some (.int .u8 4)) :
    Calls Tryd.prog 52 #[.int .u64 U, .int .i64 16] w fun e w' => e = .returned (.string ⟨(hexL U).toArray⟩) ∧ Below w.heap.size w w' := by
  have C := Lib.hid (fmt_16i U hU w hc)
  clear hU hc
  go_enter Tryd.func52, Tryd.ntmps52
  go_wp2_with fail
  go_at_call 58; refine (C.out).mono ?_; rintro e w1 ⟨rfl, h1⟩
  go_wp2_with fail
  go_returns
  exact ⟨rfl, h1⟩
theorem rep_48 (c : Nat) : Lib.repeatL (⟨#[48]⟩ : ByteArray).data.toList c = List.replicate c 48 := by
  induction c with
  | zero => rfl
  | succ c ih =>
    rw [List.replicate_succ, ← ih]
    rfl
/-- The program's bitsText: sixteen digits. -/
theorem bitsText_any (U : Nat) (hU : U < 18446744073709551616) (w : World) (hc : w.cell? ⟨3, 15, none⟩ = some (.int .u8 4)) :
    Calls Tryd.prog 48 #[.int .u64 U] w fun e w' => e = .returned (.string ⟨([48, 120] ++ List.replicate (16 - (hexL U).length) 48 ++ hexL U).toArray⟩) ∧ Below w.heap.size w w' := by
  have C := Lib.hid (fmt_16 U hU w hc)
  have HL : Hid ((hexL U).length ≤ 16) := Lib.hid (hexL_len 15 U (by simpa using hU))
  clear hU hc
  go_enter Tryd.func48, Tryd.ntmps48
  go_wp2_with fail
  go_at_call 52; refine (C.out).mono ?_; rintro e w1 ⟨rfl, h1⟩
  obtain ⟨l, hle⟩ : ∃ l, l = hexL U := ⟨_, rfl⟩
  have HLE := Lib.hid hle
  rw [← hle] at HL
  rw [← hle]
  clear hle C
  have hw : wrap64 (16 - (l.length : Int)) = ((16 - l.length : Nat) : Int) := by have := HL.out; unfold wrap64; omega
  have HW := Lib.hid hw
  clear hw
  go_wp2_with fail
  rw [HW.out]
  go_at_call 53; refine (Tryd.strings_Repeat ⟨#[48]⟩ (16 - l.length) w1 (by omega) (by simp [ByteArray.size]; omega)).mono ?_; rintro e w2 ⟨rfl, h2⟩
  rw [rep_48]
  have hl := HL.out
  have c1 : ¬ 9223372036854775807 < 2 + (16 - l.length) := by omega
  have c2 : ¬ 9223372036854775807 < 2 + (16 - l.length) + l.length := by omega
  have H12 := Lib.hid (h1.trans (h2.mono h1.size))
  have key : (⟨#[48, 120]⟩ : ByteArray) ++ ⟨Array.replicate (16 - l.length) 48⟩ ++ ⟨l.toArray⟩ = ⟨(48 :: 120 :: (List.replicate (16 - (hexL U).length) 48 ++ hexL U)).toArray⟩ := by
    rw [← HLE.out]
    refine eqB ?_
    rw [catB, catB]
    simp
  have KEY := Lib.hid key
  clear key h1 h2
  go_wp2_with fail
  go_returns
  exact ⟨congrArg (fun b => Ending.returned (.string b)) KEY.out, H12.out⟩
end Go.Proofs.YtjbflmpnmobngaaDoor
