/- An outcome's text: the program. -/
import Derived.Test.YtjbflmpnmobngaaDoorTp
import Derived.Test.YtjbflmpnmobngaaDoorDi
import Derived.Test.YtjbflmpnmobngaaDoorTd
namespace Go.Proofs.YtjbflmpnmobngaaDoor
set_option linter.unusedSimpArgs false
set_option linter.unusedVariables false
open Go.RowKit

/-- The events' text. -/
def evsT (f : Nat → Ev) : Nat → List UInt8
  | 0 => []
  | k + 1 => evsT f k ++ evT (f k)
theorem evsT_mono (f : Nat → Ev) {j n : Nat} (h : j ≤ n) : (evsT f j).length ≤ (evsT f n).length := by
  induction n with
  | zero => obtain rfl : j = 0 := by omega
            exact Nat.le_refl _
  | succ n ih =>
    by_cases e : j = n + 1
    · rw [e]; exact Nat.le_refl _
    · have := ih (by omega)
      simp only [evsT, List.length_append]
      omega
theorem Bld.isB {R b : Nat} {bs : List Value} {w : World} (h : Bld R b bs w) (hR : R ≤ b) : Lib.IsBuilder 61 5 R b bs w := by
  obtain ⟨p, v, hp, hb, hown, hne⟩ := h
  rcases hp with rfl | rfl
  · exact Or.inl ⟨hR, v, hb, hown, hne⟩
  · exact Or.inr ⟨hR, v, hb, hown, hne⟩
def outT (o : Oc) : List UInt8 := evsT o.f o.n ++ (endT o.st o.code ++ [10])
def Oc.nums (o : Oc) : Prop := (∀ i, i < o.n → (o.f i).nums) ∧ -2147483648 ≤ o.code ∧ o.code ≤ 2147483647
set_option maxRecDepth 100000 in
set_option maxHeartbeats 8000000 in
theorem textP_any (o : Oc) (w : World) (ho : o.okAt w) (hn : o.nums) (ht : Tab w) (hl : (outT o).length ≤ 140737488355328) :
    Calls Tryd.prog 19 #[.agg #[.slice o.p o.n o.cap, .int .i64 o.st, .int .i32 o.code, .int .i64 o.steps]] w
      fun e w' => e = .returned (.string ⟨(outT o).toArray⟩) ∧ Below w.heap.size w w' := by
  obtain ⟨p, n, cap, f, st, code, steps⟩ := o
  have HT := Lib.hid ht
  have HO := Lib.hid ho.1
  have HN := Lib.hid hn
  have hcap : n ≤ cap := ho.2.1
  have hmax : cap ≤ 9223372036854775807 := ho.2.2
  have HL : Hid ((evsT f n).length + ((endT st code).length + 1) ≤ 140737488355328) := Lib.hid (by simp only [outT, List.length_append, List.length_cons, List.length_nil] at hl; omega)
  simp only
  clear ho hn ht hl
  have hb2 : Below w.heap.size w ((w.alloc (.cells #[.slice p n cap, .int .i64 st, .int .i32 code, .int .i64 steps] 40)).alloc (.cells #[.pointer none, .slice none 0 0] 61)) := (((Fresh.refl w).alloc _ _).alloc _ _).below
  have BL : Hid (Bld w.heap.size (w.heap.size + 1) [] ((w.alloc (.cells #[.slice p n cap, .int .i64 st, .int .i32 code, .int .i64 steps] 40)).alloc (.cells #[.pointer none, .slice none 0 0] 61))) := Lib.hid (by
    have := Bld.fresh w.heap.size (w.alloc (.cells #[.slice p n cap, .int .i64 st, .int .i32 code, .int .i64 steps] 40))
    simpa using this)
  have W0 : Hid (Wro w (w.heap.size + 1) [] ((w.alloc (.cells #[.slice p n cap, .int .i64 st, .int .i32 code, .int .i64 steps] 40)).alloc (.cells #[.pointer none, .slice none 0 0] 61)) ((w.alloc (.cells #[.slice p n cap, .int .i64 st, .int .i32 code, .int .i64 steps] 40)).alloc (.cells #[.pointer none, .slice none 0 0] 61))) := Lib.hid ⟨BL.out, hb2, Lib.OthersKept.refl _ _ _, by omega⟩
  have B0 : Hid (Box ((w.alloc (.cells #[.slice p n cap, .int .i64 st, .int .i32 code, .int .i64 steps] 40)).alloc (.cells #[.pointer none, .slice none 0 0] 61)) w.heap.size 40 #[.slice p n cap, .int .i64 st, .int .i32 code, .int .i64 steps]) := Lib.hid ((Box.new w _ _).later ((Fresh.refl _).alloc _ _).below)
  clear hb2 BL
  go_enter Tryd.func19, Tryd.ntmps19
  go_upto_region 2 with fail
  generalize ((w.alloc (.cells #[.slice p n cap, .int .i64 st, .int .i32 code, .int .i64 steps] 40)).alloc (.cells #[.pointer none, .slice none 0 0] 61)) = X at *
  have HNE : Hid (w.heap.size ≠ w.heap.size + 1) := Lib.hid (by omega)
  have x0 := B0.out.cell 0 _ rfl
  go_wp2_with fail
  clear x0
  go_loopw [9] (fun i wr => ∃ k : Nat, k ≤ n ∧ i = .int .i64 k ∧ Hid (Wro w (w.heap.size + 1) (evsT f k) X wr) ∧ Hid (Box wr w.heap.size 40 #[.slice p n cap, .int .i64 st, .int .i32 code, .int .i64 steps])) (fun i _ => n - (intOf i).toNat)
  case atStart => exact ⟨0, by omega, rfl, W0, B0⟩
  case round =>
    obtain ⟨k, hk, rfl, HW, HB⟩ := hrel
    clear W0 B0
    by_cases hlt : k < n
    · obtain ⟨B, off, rfl, hc⟩ := HO.out.resolve_left (by omega)
      obtain ⟨⟨q0, q1, q2, q3, q4⟩, hok⟩ := hc k hlt
      have a0 := stays_below HW.out.fr _ _ _ q0
      have a1 := stays_below HW.out.fr _ _ _ q1
      have a2 := stays_below HW.out.fr _ _ _ q2
      have a3 := stays_below HW.out.fr _ _ _ q3
      have a4 := stays_below HW.out.fr _ _ _ q4
      have z0 := cell_lt a0
      simp only at z0
      have hlt' : (k : Int) < (n : Int) := by omega
      have HLK : Hid ((evsT f k).length + (evT (f k)).length ≤ 140737488355328) := Lib.hid (by have := HL.out; have h2 := evsT_mono f (show k + 1 ≤ n by omega); simp only [evsT, List.length_append] at h2; omega)
      have C : Hid (∀ X', Wro w (w.heap.size + 1) (evsT f k) X' X' → Calls Tryd.prog 37 #[.pointer (some ⟨w.heap.size + 1, 0, none⟩), .agg #[.string (f k).nm, .slice (f k).p (f k).n (f k).cap, .int .i64 (f k).r.k, .int .u64 (f k).r.n, .int .i64 (f k).r.b]] X' fun e w' => e = .returned (.tuple #[]) ∧ Wro w (w.heap.size + 1) (evsT f k ++ evT (f k)) X' w') := Lib.hid (fun X' h => event_any (f k) w X' _ _ h hok (HN.out.1 k hlt) HT.out (by have := HLK.out; omega))
      have HS : Hid (evsT f (k + 1) = evsT f k ++ evT (f k)) := Lib.hid rfl
      clear hc q0 q1 q2 q3 q4 hok
      generalize f k = E at *
      go_wp2_with fail
      have HF : Hid (Below wr.heap.size wr (wr.alloc (.cells #[.string E.nm, .slice E.p E.n E.cap, .int .i64 E.r.k, .int .u64 E.r.n, .int .i64 E.r.b] 32))) := Lib.hid ((Fresh.refl wr).alloc _ _).below
      go_at_call 37; refine (C.out _ (HW.out.then HF.out).from).mono ?_; rintro e w3 ⟨rfl, k3⟩
      have W3 : Hid (Wro w (w.heap.size + 1) (evsT f (k + 1)) X w3) := Lib.hid (by rw [HS.out]; exact (HW.out.then HF.out).trans k3)
      have B3 := Lib.hid ((HB.out.later HF.out).kept k3.kept HNE.out (by decide))
      clear k3 HW HB C
      go_wp2_with fail
      go_roundw
      case rel => exact ⟨k + 1, by omega, by go_num, W3, B3⟩
      case measure => simp [intOf]; omega
    · obtain rfl : k = n := by omega
      have x0 := HB.out.cell 0 _ rfl
      have x1 := HB.out.cell 1 _ rfl
      have x2 := HB.out.cell 2 _ rfl
      have x3 := HB.out.cell 3 _ rfl
      go_wp2_with fail
      clear x0 x1 x2 x3
      go_at_call 39; refine (endText_any p k cap st code steps HN.out.2 _ (HT.out.later HW.out.fr)).mono ?_; rintro e w3 ⟨rfl, k3⟩
      have W3 := Lib.hid (HW.out.then k3)
      clear k3 HW HB
      generalize het : endT st code = et at *
      have HET := Lib.hid het
      clear het
      go_wp2_with fail
      go_at_call 38; refine (str_w ⟨et.toArray⟩ W3.out (by have := HL.out; simp only [List.length_append, List.length_cons, List.length_nil] at *; omega)).mono ?_; rintro e w4 ⟨rfl, k4, k4'⟩
      have W4 : Hid (Wro w (w.heap.size + 1) (evsT f k ++ et) X w4) := Lib.hid k4
      clear k4 k4' W3
      go_wp2_with fail
      go_at_call 40; refine (byte_w 10 W4.out (by have := HL.out; simp only [List.length_append, List.length_cons, List.length_nil] at *; omega)).mono ?_; rintro e w5 ⟨rfl, k5, k5'⟩
      have W5 : Hid (Wro w (w.heap.size + 1) (evsT f k ++ (et ++ [10])) X w5) := Lib.hid (by simpa using k5)
      clear k5 k5' W4
      go_wp2_with fail
      go_at_call 41; refine (Tryd.Builder_String_any w.heap.size (w.heap.size + 1) (evsT f k ++ (et ++ [10])) _ (W5.out.bld.isB (by omega)) W5.out.fr.size).mono ?_; rintro e w6 ⟨rfl, k6⟩
      go_wp2_with fail
      go_returns
      exact ⟨congrArg (fun l : List UInt8 => Ending.returned (.string ⟨l.toArray⟩)) (show evsT f k ++ (et ++ [10]) = outT ⟨p, k, cap, f, st, code, steps⟩ by rw [← HET.out]; rfl), W5.out.fr.trans k6⟩
end Go.Proofs.YtjbflmpnmobngaaDoor
