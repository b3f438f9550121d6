/- An event's text: the program. -/
import Derived.Test.YtjbflmpnmobngaaDoorTo
namespace Go.Proofs.YtjbflmpnmobngaaDoor
set_option linter.unusedSimpArgs false
set_option linter.unusedVariables false
open Go.RowKit

theorem Box.cell {w : World} {c : Nat} {t : TypeId} {cs : Array Value} (h : Box w c t cs) (i : Nat) (v : Value) (hv : cs[i]? = some v) : w.cell? ⟨c, i, none⟩ = some v := by
  rw [Lib.cell_of_heap h]
  exact hv
/-- The arguments' text. -/
def argsT (f : Nat → V3) : Nat → List UInt8
  | 0 => []
  | k + 1 => argsT f k ++ ((if 0 < k then [44, 32] else []) ++ valT (f k))
theorem argsT_mono (f : Nat → V3) {j n : Nat} (h : j ≤ n) : (argsT f j).length ≤ (argsT f n).length := by
  induction n with
  | zero => obtain rfl : j = 0 := by omega
            exact Nat.le_refl _
  | succ n ih =>
    by_cases e : j = n + 1
    · rw [e]; exact Nat.le_refl _
    · have := ih (by omega)
      simp only [argsT, List.length_append]
      omega
/-- The answer's text. -/
def resT (V : V3) : List UInt8 := if V.k = 0 then [] else [32, 61, 32] ++ valT V
def evT (E : Ev) : List UInt8 := E.nm.data.toList ++ ([40] ++ (argsT E.f E.n ++ ([41] ++ (resT E.r ++ [10]))))
/-- Its numbers are words. -/
def Ev.nums (E : Ev) : Prop := (∀ i, i < E.n → (E.f i).ok) ∧ E.r.ok
set_option maxRecDepth 100000 in
set_option maxHeartbeats 8000000 in
theorem event_any (E : Ev) (w0 X : World) (b : Nat) (bs : List UInt8) (H : Wro w0 b bs X X) (hE : E.okAt w0) (hN : E.nums) (ht : Tab w0) (hl : bs.length + (evT E).length ≤ 225179981361972) :
    Calls Tryd.prog 37 #[.pointer (some ⟨b, 0, none⟩), .agg #[.string E.nm, .slice E.p E.n E.cap, .int .i64 E.r.k, .int .u64 E.r.n, .int .i64 E.r.b]] X
      fun e w' => e = .returned (.tuple #[]) ∧ Wro w0 b (bs ++ evT E) X w' := by
  obtain ⟨nm, p, n, cap, f, r⟩ := E
  have HT := Lib.hid ht
  have HE := Lib.hid hE.1
  have HN := Lib.hid hN
  have hcap : n ≤ cap := hE.2.1
  have hmax : cap ≤ 9223372036854775807 := hE.2.2
  have HL : Hid (bs.length + (nm.data.toList.length + (1 + ((argsT f n).length + (1 + ((resT r).length + 1))))) ≤ 225179981361972) := Lib.hid (by simp only [evT, List.length_append, List.length_cons, List.length_nil] at hl; omega)
  have hbX : b < X.heap.size := by
    obtain ⟨_, _, _, hb, _⟩ := H.bld
    exact (Array.getElem?_eq_some_iff.1 hb).1
  have hab : Below X.heap.size X (X.alloc (.cells #[.string nm, .slice p n cap, .int .i64 r.k, .int .u64 r.n, .int .i64 r.b] 32)) := ((Fresh.refl X).alloc _ _).below
  have H0 := Lib.hid (H.then hab)
  have B0 : Hid (Box (X.alloc (.cells #[.string nm, .slice p n cap, .int .i64 r.k, .int .u64 r.n, .int .i64 r.b] 32)) X.heap.size 32 #[.string nm, .slice p n cap, .int .i64 r.k, .int .u64 r.n, .int .i64 r.b]) := Lib.hid (Box.new X _ _)
  have HNE : Hid (X.heap.size ≠ b) := Lib.hid (by omega)
  simp only
  clear H hE hN ht hl hab hbX
  go_enter Tryd.func37, Tryd.ntmps37
  go_wp2_with fail
  go_at_call 38; refine (str_w nm H0.out (by have := HL.out; omega)).mono ?_; rintro e w1 ⟨rfl, k1, k1'⟩
  have H1 := Lib.hid k1
  have B1 := Lib.hid (B0.out.kept k1'.kept HNE.out (by decide))
  clear k1 k1' B0 H0
  go_wp2_with fail
  go_at_call 40; refine (byte_w 40 H1.out (by simp only [List.length_append]; have := HL.out; omega)).mono ?_; rintro e w2 ⟨rfl, k2, k2'⟩
  have H2 := Lib.hid k2
  have B2 := Lib.hid (B1.out.kept k2'.kept HNE.out (by decide))
  clear k2 k2' B1 H1
  have c1 := B2.out.cell 1 _ rfl
  go_wp2_with fail
  clear c1
  go_loopw [15] (fun i wr => ∃ k : Nat, k ≤ n ∧ i = .int .i64 k ∧ Hid (Wro w0 b (bs ++ nm.data.toList ++ [40] ++ argsT f k) X wr) ∧ Hid (Box wr X.heap.size 32 #[.string nm, .slice p n cap, .int .i64 r.k, .int .u64 r.n, .int .i64 r.b])) (fun i _ => n - (intOf i).toNat)
  case atStart => exact ⟨0, by omega, rfl, Lib.hid (by simpa [argsT] using H2.out), B2⟩
  case round =>
    obtain ⟨k, hk, rfl, HW, HB⟩ := hrel
    clear H2 B2
    by_cases hlt : k < n
    · obtain ⟨B, off, rfl, hc⟩ := HE.out.resolve_left (by omega)
      obtain ⟨q0, q1, q2⟩ := hc k hlt
      have a0 := stays_below HW.out.fr _ _ _ q0
      have a1 := stays_below HW.out.fr _ _ _ q1
      have a2 := stays_below HW.out.fr _ _ _ q2
      have z0 := cell_lt a0
      simp only at z0
      clear hc q0 q1 q2
      have HVO := Lib.hid (HN.out.1 k hlt)
      have hlt' : (k : Int) < (n : Int) := by omega
      have HLK : Hid (bs.length + (nm.data.toList.length + (1 + (argsT f (k + 1)).length)) + 100 ≤ 225179981361972 + 100) := Lib.hid (by have := HL.out; have := argsT_mono f (show k + 1 ≤ n by omega); omega)
      have HEQ : Hid (argsT f (k + 1) = argsT f k ++ ((if 0 < k then [44, 32] else []) ++ valT (f k))) := Lib.hid rfl
      obtain ⟨V, hV⟩ : ∃ V, V = f k := ⟨_, rfl⟩
      simp only at HVO
      rw [← hV] at a0 a1 a2 HVO HEQ
      have HVV := Lib.hid hV
      clear hV
      obtain ⟨vk, vn, vb⟩ := V
      simp only at a0 a1 a2
      have hbw : b < wr.heap.size := by
        obtain ⟨_, _, _, hb, _⟩ := HW.out.bld
        exact (Array.getElem?_eq_some_iff.1 hb).1
      go_upto_region 6 with fail
      have W2 := Lib.hid (HW.out.then (((Fresh.refl wr).alloc #[.int .i64 vk, .int .u64 vn, .int .i64 vb] 30).below))
      have B2 := Lib.hid (HB.out.later (((Fresh.refl wr).alloc #[.int .i64 vk, .int .u64 vn, .int .i64 vb] 30).below))
      have V2 : Hid (Box (wr.alloc (.cells #[.int .i64 vk, .int .u64 vn, .int .i64 vb] 30)) wr.heap.size 30 #[.int .i64 vk, .int .u64 vn, .int .i64 vb]) := Lib.hid (Box.new wr _ _)
      have VNE : Hid (wr.heap.size ≠ b) := Lib.hid (by omega)
      clear a0 a1 a2 z0 hbw HW HB
      generalize (wr.alloc (.cells #[.int .i64 vk, .int .u64 vn, .int .i64 vb] 30)) = X2 at *
      generalize wr.heap.size = bv at *
      by_cases hk0 : 0 < k
      · rw [if_pos hk0] at HEQ
        have hk0' : (0 : Int) < (k : Int) := by omega
        go_wp2_with fail
        go_at_call 38; refine (str_w ⟨#[44, 32]⟩ W2.out (by have := HLK.out; rw [HEQ.out] at this; have e2 : (⟨#[44, 32]⟩ : ByteArray).data.toList.length = 2 := rfl; rw [e2]; simp only [List.length_append, List.length_cons, List.length_nil] at this ⊢; omega)).mono ?_; rintro e w3 ⟨rfl, k3, k3'⟩
        have W3 : Hid (Wro w0 b (bs ++ nm.data.toList ++ [40] ++ argsT f k ++ [44, 32]) X w3) := Lib.hid k3
        have B3 := Lib.hid (B2.out.kept k3'.kept HNE.out (by decide))
        have V3' := Lib.hid (V2.out.kept k3'.kept VNE.out (by decide))
        clear k3 k3' W2 B2 V2
        have V3 := V3'
        have x0 := V3.out.cell 0 _ rfl
        have x1 := V3.out.cell 1 _ rfl
        have x2 := V3.out.cell 2 _ rfl
        go_wp2_with fail
        clear x0 x1 x2
        go_at_call 44; refine (valueText_any ⟨vk, vn, vb⟩ HVO.out _ (HT.out.later W3.out.fr)).mono ?_; rintro e w4 ⟨rfl, k4⟩
        have W4 := Lib.hid (W3.out.then k4)
        have B4 := Lib.hid (B3.out.later k4)
        clear k4
        go_wp2_with fail
        go_at_call 38; refine (str_w ⟨(valT ⟨vk, vn, vb⟩).toArray⟩ W4.out (by have := HLK.out; rw [HEQ.out] at this; simp only [List.length_append, List.length_cons, List.length_nil] at this ⊢; omega)).mono ?_; rintro e w5 ⟨rfl, k5, k5'⟩
        have W5 : Hid (Wro w0 b (bs ++ nm.data.toList ++ [40] ++ argsT f (k + 1)) X w5) := Lib.hid (by rw [HEQ.out]; simpa [argsT] using k5)
        have B5 := Lib.hid (B4.out.kept k5'.kept HNE.out (by decide))
        clear k5 k5'
        go_wp2_with fail
        go_roundw
        case rel => exact ⟨k + 1, by omega, by go_num, W5, B5⟩
        case measure => simp [intOf]; try omega
      · obtain rfl : k = 0 := by omega
        rw [if_neg (by omega)] at HEQ
        have x0 := V2.out.cell 0 _ rfl
        have x1 := V2.out.cell 1 _ rfl
        have x2 := V2.out.cell 2 _ rfl
        go_wp2_with fail
        clear x0 x1 x2
        go_at_call 44; refine (valueText_any ⟨vk, vn, vb⟩ HVO.out _ (HT.out.later W2.out.fr)).mono ?_; rintro e w4 ⟨rfl, k4⟩
        have W4 := Lib.hid (W2.out.then k4)
        have B4 := Lib.hid (B2.out.later k4)
        clear k4
        go_wp2_with fail
        go_at_call 38; refine (str_w ⟨(valT ⟨vk, vn, vb⟩).toArray⟩ W4.out (by have := HLK.out; rw [HEQ.out] at this; simp only [List.length_append, List.length_cons, List.length_nil] at this ⊢; omega)).mono ?_; rintro e w5 ⟨rfl, k5, k5'⟩
        have W5 : Hid (Wro w0 b (bs ++ nm.data.toList ++ [40] ++ argsT f (0 + 1)) X w5) := Lib.hid (by rw [HEQ.out]; simpa [argsT] using k5)
        have B5 := Lib.hid (B4.out.kept k5'.kept HNE.out (by decide))
        clear k5 k5'
        go_wp2_with fail
        go_roundw
        case rel => exact ⟨0 + 1, by omega, by go_num, W5, B5⟩
        case measure => simp [intOf]; try omega
    · obtain rfl : k = n := by omega
      go_wp2_with fail
      go_at_call 40; refine (byte_w 41 HW.out (by simp only [List.length_append, List.length_cons, List.length_nil]; have := HL.out; omega)).mono ?_; rintro e w3 ⟨rfl, k3, k3'⟩
      have W3 := Lib.hid k3
      have B3 := Lib.hid (HB.out.kept k3'.kept HNE.out (by decide))
      clear k3 k3' HW HB
      obtain ⟨rk, rn, rb⟩ := r
      have x2 := B3.out.cell 2 _ rfl
      have x3 := B3.out.cell 3 _ rfl
      have x4 := B3.out.cell 4 _ rfl
      try simp only at x2 x3 x4
      have HRO := Lib.hid HN.out.2
      by_cases hr : rk = 0
      · subst hr
        have e0 : resT ⟨0, rn, rb⟩ = [] := rfl
        go_wp2_with fail
        clear x2 x3 x4
        go_at_call 40; refine (byte_w 10 W3.out (by simp only [List.length_append, List.length_cons, List.length_nil]; have := HL.out; omega)).mono ?_; rintro e w4 ⟨rfl, k4, k4'⟩
        go_wp2_with fail
        go_end0
        exact ⟨rfl, by simpa [evT, e0] using k4⟩
      · have e0 : resT ⟨rk, rn, rb⟩ = [32, 61, 32] ++ valT ⟨rk, rn, rb⟩ := by simp [resT, hr]
        have HE0 := Lib.hid e0
        have hr' : (rk != 0) = true := by simpa using hr
        have HLR : Hid ((resT ⟨rk, rn, rb⟩).length = 3 + (valT ⟨rk, rn, rb⟩).length) := Lib.hid (by rw [e0]; simp; omega)
        clear e0
        go_wp2_with fail
        go_at_call 38; refine (str_w ⟨#[32, 61, 32]⟩ W3.out (by have := HL.out; have := HLR.out; have e2 : (⟨#[32, 61, 32]⟩ : ByteArray).data.toList.length = 3 := rfl; rw [e2]; simp only [List.length_append, List.length_cons, List.length_nil] at *; omega)).mono ?_; rintro e w4 ⟨rfl, k4, k4'⟩
        have W4 : Hid (Wro w0 b (bs ++ nm.data.toList ++ [40] ++ argsT f k ++ [41] ++ [32, 61, 32]) X w4) := Lib.hid k4
        have B4 := Lib.hid (B3.out.kept k4'.kept HNE.out (by decide))
        clear k4 k4' B3 W3 x2 x3 x4
        have x2 := B4.out.cell 2 _ rfl
        have x3 := B4.out.cell 3 _ rfl
        have x4 := B4.out.cell 4 _ rfl
        try simp only at x2 x3 x4
        go_wp2_with fail
        clear x2 x3 x4
        go_at_call 44; refine (valueText_any ⟨rk, rn, rb⟩ HRO.out _ (HT.out.later W4.out.fr)).mono ?_; rintro e w5 ⟨rfl, k5⟩
        have W5 := Lib.hid (W4.out.then k5)
        clear k5
        go_wp2_with fail
        go_at_call 38; refine (str_w ⟨(valT ⟨rk, rn, rb⟩).toArray⟩ W5.out (by have := HL.out; have := HLR.out; simp only [List.length_append, List.length_cons, List.length_nil] at *; omega)).mono ?_; rintro e w6 ⟨rfl, k6, k6'⟩
        have W6 := Lib.hid k6
        clear k6 k6'
        go_wp2_with fail
        go_at_call 40; refine (byte_w 10 W6.out (by have := HL.out; have := HLR.out; simp only [List.length_append, List.length_cons, List.length_nil] at *; omega)).mono ?_; rintro e w7 ⟨rfl, k7, k7'⟩
        go_wp2_with fail
        go_end0
        exact ⟨rfl, by have e0 := HE0.out; simpa [evT, e0] using k7⟩
end Go.Proofs.YtjbflmpnmobngaaDoor
