/- A fraction's value, a number's token. -/
import Derived.Test.YtcmfmfgedhfaeaaGreatDoorLn
import Derived.Test.YtcmfmfgedhfaeaaGreatDoorLh
import Derived.Deep.QuietTactic
import Derived.BigQuiet
import Derived.IntWalk
import Derived.Lib.CutLaws
namespace Go.Proofs.YtcmfmfgedhfaeaaGreatDoor
set_option linter.unusedSimpArgs false
set_option linter.unusedVariables false
open Go.RowKit

def fracL (l : List UInt8) : Option Nat :=
  if (Lib.cut l [46]).2.2 = false then none
  else if (Lib.cut l [46]).2.1 = [] then none
  else floatL ((Lib.cut l [46]).1 ++ (Lib.cut l [46]).2.1) (Lib.cut l [46]).2.1.length
theorem cut_len (l p : List UInt8) : (Lib.cut l p).1.length + (Lib.cut l p).2.1.length ≤ l.length := by
  unfold Lib.cut
  split
  · simp; omega
  · simp
theorem frac_way (s A B : ByteArray) (t : Bool) (r : Option Nat) (w : World) (hT : Tabs w) (hAB : A.size + B.size ≤ 1048576)
    (h69 : ∀ X, Tabs X → Calls Tryz.prog 69 #[.string s, .string ⟨#[46]⟩] X fun e w' => e = .returned (.tuple #[.string A, .string B, .bool t]) ∧ Fresh X w')
    (h12 : ∀ X, Tabs X → Calls Tryz.prog 12 #[.string (A ++ B), .int .i64 B.size] X fun e w' => e = .returned (optV r) ∧ Fresh X w') :
    Calls Tryz.prog 57 #[.string s] w fun e w' => e = .returned (optV (if t = false then none else if B.data.toList = [] then none else r)) ∧ Fresh w w' := by
  have HT := Lib.hid hT
  have C := Lib.hid h69
  have D := Lib.hid h12
  have hsum : ¬ 9223372036854775807 < (A.size : Int) + (B.size : Int) := by omega
  clear hT h69 h12
  cases t with
  | false =>
    rw [if_pos rfl]
    go_enter Tryz.func57, Tryz.ntmps57
    go_wp2_with fail
    go_at_call 69; refine (C.out _ HT.out).mono ?_; rintro e w1 ⟨rfl, f1⟩
    have F1 := Lib.hid f1
    clear f1
    go_wp2_with fail
    go_ret2
    exact ⟨rfl, F1.out⟩
  | true =>
    rw [if_neg (by decide)]
    by_cases h0 : B.data.toList = []
    · rw [if_pos h0]
      have b0 : (B.toList == []) = true := by rw [ByteArray.toList_eq, h0]; rfl
      have b1 : B.toList.isEmpty = true := by rw [ByteArray.toList_eq, h0]; rfl
      clear h0
      go_enter Tryz.func57, Tryz.ntmps57
      go_wp2_with fail
      go_at_call 69; refine (C.out _ HT.out).mono ?_; rintro e w1 ⟨rfl, f1⟩
      have F1 := Lib.hid f1
      clear f1
      go_wp2_with fail
      go_ret2
      exact ⟨rfl, F1.out⟩
    · rw [if_neg h0]
      have b0 : (B.toList == []) = false := by rw [ByteArray.toList_eq]; simpa using h0
      have b1 : B.toList.isEmpty = false := by rw [ByteArray.toList_eq]; simpa using h0
      clear h0
      cases r with
      | none =>
        go_enter Tryz.func57, Tryz.ntmps57
        go_wp2_with fail
        go_at_call 69; refine (C.out _ HT.out).mono ?_; rintro e w1 ⟨rfl, f1⟩
        have F1 := Lib.hid f1
        clear f1
        go_wp2_with fail
        go_at_call 12; refine (D.out _ (HT.out.fresh F1.out)).mono ?_; rintro e w2 ⟨rfl, f2⟩
        have F2 := Lib.hid (F1.out.trans f2)
        clear f2
        unfold optV
        dsimp only
        go_wp2_with fail
        go_ret2
        exact ⟨rfl, F2.out⟩
      | some m =>
        go_enter Tryz.func57, Tryz.ntmps57
        go_wp2_with fail
        go_at_call 69; refine (C.out _ HT.out).mono ?_; rintro e w1 ⟨rfl, f1⟩
        have F1 := Lib.hid f1
        clear f1
        go_wp2_with fail
        go_at_call 12; refine (D.out _ (HT.out.fresh F1.out)).mono ?_; rintro e w2 ⟨rfl, f2⟩
        have F2 := Lib.hid (F1.out.trans f2)
        clear f2
        unfold optV
        dsimp only
        go_wp2_with fail
        go_ret2
        exact ⟨rfl, F2.out⟩
theorem idx_byte (l : List UInt8) (c : UInt8) : Lib.index l [c] = Lib.indexByte l c := by
  induction l with
  | nil => rfl
  | cons b l ih =>
    have hp : [c].isPrefixOf (b :: l) = (c == b) := by simp [List.isPrefixOf]
    rw [show Lib.index (b :: l) [c] = (if [c].isPrefixOf (b :: l) then 0 else if Lib.index l [c] == -1 then -1 else Lib.index l [c] + 1) from rfl, hp, ih]
    rw [show Lib.indexByte (b :: l) c = (if b == c then 0 else if Lib.indexByte l c == -1 then -1 else Lib.indexByte l c + 1) from rfl]
    by_cases h : b = c
    · subst h; simp
    · have h' : ¬ c = b := fun e => h e.symm
      simp [h, h']
theorem cut96_no (s : ByteArray) (c : UInt8) (w : World) (i : Int) (hi : ¬ 0 ≤ i) (h110 : ∀ X, Calls Tryz.prog 110 #[.string s, .string ⟨#[c]⟩] X fun e w' => e = .returned (.int .i64 i) ∧ X = w') :
    Calls Tryz.prog 96 #[.string s, .string ⟨#[c]⟩] w fun e w' => e = .returned (.tuple #[.string s, .string ⟨#[]⟩, .bool false]) ∧ Fresh w w' := by
  have C := Lib.hid h110
  clear h110
  go_enter Tryz.func96, Tryz.ntmps96
  go_wp2_with fail
  go_at_call 110; refine (C.out _).mono ?_; rintro e w1 ⟨rfl, rfl⟩
  go_wp2_with fail
  go_ret3
  exact ⟨rfl, Fresh.refl _⟩
theorem cut96_yes (s : ByteArray) (c : UInt8) (w : World) (i : Int) (hi : 0 ≤ i) (hl : i + 1 ≤ (s.size : Int)) (hl0 : i ≤ (s.size : Int)) (hs : (s.size : Int) ≤ 1048576) (h110 : ∀ X, Calls Tryz.prog 110 #[.string s, .string ⟨#[c]⟩] X fun e w' => e = .returned (.int .i64 i) ∧ X = w') :
    Calls Tryz.prog 96 #[.string s, .string ⟨#[c]⟩] w fun e w' => e = .returned (.tuple #[.string (s.extract 0 i.toNat), .string (s.extract (i + 1).toNat s.size), .bool true]) ∧ Fresh w w' := by
  have C := Lib.hid h110
  clear h110
  have hw : IntKind.i64.wrap (i + 1) = i + 1 := IntWalk.i64_in _ (by omega)
  go_enter Tryz.func96, Tryz.ntmps96
  go_wp2_with fail
  go_at_call 110; refine (C.out _).mono ?_; rintro e w1 ⟨rfl, rfl⟩
  go_wp2_with fail
  go_quiet (fail)
  go_wp2_with fail
  go_ret3
  exact ⟨rfl, (Fresh.refl _).drewN _⟩
theorem cut69 (s : ByteArray) (c : UInt8) (w : World) (A B : ByteArray) (t : Bool) (h96 : ∀ X, Calls Tryz.prog 96 #[.string s, .string ⟨#[c]⟩] X fun e w' => e = .returned (.tuple #[.string A, .string B, .bool t]) ∧ Fresh X w') :
    Calls Tryz.prog 69 #[.string s, .string ⟨#[c]⟩] w fun e w' => e = .returned (.tuple #[.string A, .string B, .bool t]) ∧ Fresh w w' := by
  have C := Lib.hid h96
  clear h96
  go_enter Tryz.func69, Tryz.ntmps69
  go_wp2_with fail
  go_at_call 96; refine (C.out _).mono ?_; rintro e w1 ⟨rfl, f1⟩
  have F1 := Lib.hid f1
  clear f1
  go_wp2_with fail
  go_ret3
  exact ⟨rfl, F1.out⟩
theorem cut_any (s : ByteArray) (c : UInt8) (hs : s.size ≤ 1048576) (X : World) (hX : Tabs X) : Calls Tryz.prog 69 #[.string s, .string ⟨#[c]⟩] X fun e w' => e = .returned (.tuple #[.string ⟨(Lib.cut s.data.toList [c]).1.toArray⟩, .string ⟨(Lib.cut s.data.toList [c]).2.1.toArray⟩, .bool (Lib.cut s.data.toList [c]).2.2]) ∧ Fresh X w' := by
  refine cut69 s c X _ _ _ (fun Y => ?_)
  have h110 := fun Z => (Tryz.stringslite_Index_one s c Z).mono (fun e w' ⟨p, q⟩ => (⟨p, q.symm⟩ : _ ∧ Z = w'))
  have hroom := Lib.index_room s.data.toList [c]
  rw [idx_byte, ← size_list] at hroom
  unfold Lib.cut
  rw [idx_byte]
  generalize Lib.indexByte s.data.toList c = i at *
  by_cases hi : 0 ≤ i
  · have hl := hroom (by omega)
    simp only [List.length_cons, List.length_nil] at hl
    rw [if_pos hi]
    have e1 : s.extract 0 i.toNat = ⟨(s.data.toList.take i.toNat).toArray⟩ := by
      apply ByteArray.ext; apply Array.toList_inj.1
      rw [Lib.extract_data]; simp
    have e2 : s.extract (i + 1).toNat s.size = ⟨(s.data.toList.drop (i.toNat + 1)).toArray⟩ := by
      apply ByteArray.ext; apply Array.toList_inj.1
      rw [Lib.extract_to_end, show (i + 1).toNat = i.toNat + 1 by omega]
    have := cut96_yes s c Y i hi (by omega) (by omega) (by omega) h110
    rw [e1, e2] at this
    exact this
  · rw [if_neg hi]
    exact cut96_no s c Y i hi h110
theorem mk_list (l : List UInt8) : (⟨l.toArray⟩ : ByteArray).data.toList = l := rfl
theorem mk_size (l : List UInt8) : (⟨l.toArray⟩ : ByteArray).size = l.length := by simp [ByteArray.size]
theorem frac_any (s : ByteArray) (hs : s.size ≤ 1048576) (w : World) (hT : Tabs w) :
    Calls Tryz.prog 57 #[.string s] w fun e w' => e = .returned (optV (fracL s.data.toList)) ∧ Fresh w w' := by
  have hl := cut_len s.data.toList [46]
  rw [← size_list] at hl
  refine frac_way s ⟨(Lib.cut s.data.toList [46]).1.toArray⟩ ⟨(Lib.cut s.data.toList [46]).2.1.toArray⟩ _ _ w hT (by rw [mk_size, mk_size]; omega) (fun X hX => cut_any s 46 hs X hX) (fun X hX => ?_)
  have h := float_any (⟨(Lib.cut s.data.toList [46]).1.toArray⟩ ++ ⟨(Lib.cut s.data.toList [46]).2.1.toArray⟩) (Lib.cut s.data.toList [46]).2.1.length (by rw [ByteArray.size_append, mk_size, mk_size]; omega) (by omega) X hX
  rw [mk_size]
  have e : ((⟨(Lib.cut s.data.toList [46]).1.toArray⟩ : ByteArray) ++ (⟨(Lib.cut s.data.toList [46]).2.1.toArray⟩ : ByteArray)).data.toList = (Lib.cut s.data.toList [46]).1 ++ (Lib.cut s.data.toList [46]).2.1 := by
    rw [ByteArray.data_append, Array.toList_append]
  rw [e] at h
  exact h
def numR (s : ByteArray) (n : Nat) (a b : Option Nat) : Value := match a with
  | some v => .tuple #[tokV 3 (s.extract 0 n) v ⟨#[]⟩, .int .i64 0]
  | none => match b with
    | some v => .tuple #[tokV 4 (s.extract 0 n) v ⟨#[]⟩, .int .i64 0]
    | none => .tuple #[tokV 0 ⟨#[]⟩ 0 ⟨#[]⟩, .int .i64 2]
set_option maxRecDepth 100000 in
set_option maxHeartbeats 4000000 in
theorem numTok_way (s : ByteArray) (n : Nat) (hn : (n : Int) ≤ (s.size : Int)) (a b : Option Nat) (w : World) (hT : Tabs w)
    (h53 : ∀ X, Calls Tryz.prog 53 #[.string s, .func (.func 55) #[] #[]] X fun e w' => e = .returned (.int .i64 n) ∧ Fresh X w')
    (h56 : ∀ X, Tabs X → Calls Tryz.prog 56 #[.string (s.extract 0 n)] X fun e w' => e = .returned (optV a) ∧ Fresh X w')
    (h57 : ∀ X, Tabs X → Calls Tryz.prog 57 #[.string (s.extract 0 n)] X fun e w' => e = .returned (optV b) ∧ Fresh X w') :
    Calls Tryz.prog 40 #[.string s] w fun e w' => e = .returned (numR s n a b) ∧ Fresh w w' := by
  have C := Lib.hid h53
  have D := Lib.hid h56
  have E := Lib.hid h57
  have HT := Lib.hid hT
  clear h53 h56 h57 hT
  have hf : Hid (Fresh w (w.alloc (.cells #[.int .i64 0, .int .i64 0, .int .i64 0, .string ⟨#[]⟩, .int .u64 0, .string ⟨#[]⟩] 32))) := Lib.hid ((Fresh.refl w).alloc _ _)
  cases a with
  | some v =>
    go_enter Tryz.func40, Tryz.ntmps40
    go_wp2_with fail
    go_at_call 53; refine (C.out _).mono ?_; rintro e w1 ⟨rfl, f1⟩
    have F1 := Lib.hid (hf.out.trans f1)
    have R1 : Hid (Blk w1 w.heap.size [.int .i64 0, .int .i64 0, .int .i64 0, .string ⟨#[]⟩, .int .u64 0, .string ⟨#[]⟩]) := Lib.hid ((Blk.new w #[.int .i64 0, .int .i64 0, .int .i64 0, .string ⟨#[]⟩, .int .u64 0, .string ⟨#[]⟩] 32).fresh f1)
    clear f1 hf
    go_wp2_with fail
    go_at_call 56; refine (D.out _ (HT.out.fresh F1.out)).mono ?_; rintro e w2 ⟨rfl, f2⟩
    have F2 := Lib.hid (F1.out.trans f2)
    have R2 := Lib.hid (R1.out.fresh f2)
    clear f2
    unfold optV
    dsimp only
    have r0 := R2.out.1 0 _ rfl
    have r1 := R2.out.1 1 _ rfl
    have r2 := R2.out.1 2 _ rfl
    have r3 := R2.out.1 3 _ rfl
    have r4 := R2.out.1 4 _ rfl
    have r5 := R2.out.1 5 _ rfl
    have rf := R2.out.2.1
    go_wp2_with fail
    refine bodyPost_ret (v := ?_) ?_ rfl ?_; rotate_left 1; focus (simp [results, Tryz.results40, go_sem, *]; (try rfl); done)
    exact ⟨rfl, (by repeat' first | with_reducible exact F2.out | with_reducible refine Fresh.setCell ?_ ?_ _ | (simp; done) | omega)⟩
  | none =>
    cases b with
    | some v =>
      go_enter Tryz.func40, Tryz.ntmps40
      go_wp2_with fail
      go_at_call 53; refine (C.out _).mono ?_; rintro e w1 ⟨rfl, f1⟩
      have F1 := Lib.hid (hf.out.trans f1)
      have R1 : Hid (Blk w1 w.heap.size [.int .i64 0, .int .i64 0, .int .i64 0, .string ⟨#[]⟩, .int .u64 0, .string ⟨#[]⟩]) := Lib.hid ((Blk.new w #[.int .i64 0, .int .i64 0, .int .i64 0, .string ⟨#[]⟩, .int .u64 0, .string ⟨#[]⟩] 32).fresh f1)
      clear f1 hf
      go_wp2_with fail
      go_at_call 56; refine (D.out _ (HT.out.fresh F1.out)).mono ?_; rintro e w2 ⟨rfl, f2⟩
      have F2 := Lib.hid (F1.out.trans f2)
      have R2 := Lib.hid (R1.out.fresh f2)
      clear f2
      unfold optV
      dsimp only
      go_wp2_with fail
      go_at_call 57; refine (E.out _ (HT.out.fresh F2.out)).mono ?_; rintro e w3 ⟨rfl, f3⟩
      have F3 := Lib.hid (F2.out.trans f3)
      have R3 := Lib.hid (R2.out.fresh f3)
      clear f3
      unfold optV
      dsimp only
      have r0 := R3.out.1 0 _ rfl
      have r1 := R3.out.1 1 _ rfl
      have r2 := R3.out.1 2 _ rfl
      have r3 := R3.out.1 3 _ rfl
      have r4 := R3.out.1 4 _ rfl
      have r5 := R3.out.1 5 _ rfl
      have rf := R3.out.2.1
      go_wp2_with fail
      refine bodyPost_ret (v := ?_) ?_ rfl ?_; rotate_left 1; focus (simp [results, Tryz.results40, go_sem, *]; (try rfl); done)
      exact ⟨rfl, (by repeat' first | with_reducible exact F3.out | with_reducible refine Fresh.setCell ?_ ?_ _ | (simp; done) | omega)⟩
    | none =>
      go_enter Tryz.func40, Tryz.ntmps40
      go_wp2_with fail
      go_at_call 53; refine (C.out _).mono ?_; rintro e w1 ⟨rfl, f1⟩
      have F1 := Lib.hid (hf.out.trans f1)
      have R1 : Hid (Blk w1 w.heap.size [.int .i64 0, .int .i64 0, .int .i64 0, .string ⟨#[]⟩, .int .u64 0, .string ⟨#[]⟩]) := Lib.hid ((Blk.new w #[.int .i64 0, .int .i64 0, .int .i64 0, .string ⟨#[]⟩, .int .u64 0, .string ⟨#[]⟩] 32).fresh f1)
      clear f1 hf
      go_wp2_with fail
      go_at_call 56; refine (D.out _ (HT.out.fresh F1.out)).mono ?_; rintro e w2 ⟨rfl, f2⟩
      have F2 := Lib.hid (F1.out.trans f2)
      have R2 := Lib.hid (R1.out.fresh f2)
      clear f2
      unfold optV
      dsimp only
      go_wp2_with fail
      go_at_call 57; refine (E.out _ (HT.out.fresh F2.out)).mono ?_; rintro e w3 ⟨rfl, f3⟩
      have F3 := Lib.hid (F2.out.trans f3)
      have R3 := Lib.hid (R2.out.fresh f3)
      clear f3
      unfold optV
      dsimp only
      have r0 := R3.out.1 0 _ rfl
      have r1 := R3.out.1 1 _ rfl
      have r2 := R3.out.1 2 _ rfl
      have r3 := R3.out.1 3 _ rfl
      have r4 := R3.out.1 4 _ rfl
      have r5 := R3.out.1 5 _ rfl
      have rf := R3.out.2.1
      go_wp2_with fail
      refine bodyPost_ret (v := ?_) ?_ rfl ?_; rotate_left 1; focus (simp [results, Tryz.results40, go_sem, *]; (try rfl); done)
      exact ⟨rfl, (by repeat' first | with_reducible exact F3.out | with_reducible refine Fresh.setCell ?_ ?_ _ | (simp; done) | omega)⟩
theorem numTok_any (s : ByteArray) (hs : s.size ≤ 1048576) (w : World) (hT : Tabs w) :
    Calls Tryz.prog 40 #[.string s] w fun e w' => e = .returned (numR s (spanL numZ s.data.toList) (wholeL (s.data.toList.take (spanL numZ s.data.toList))) (fracL (s.data.toList.take (spanL numZ s.data.toList)))) ∧ Fresh w w' := by
  have hn := spanL_le numZ s.data.toList
  rw [← size_list] at hn
  have h53 := fun X => span55_any s X
  rw [spanF_L numZ numZ_hi s s.size 0 (by omega) (by omega)] at h53
  simp only [Nat.zero_add, List.drop_zero] at h53
  have hx : (s.extract 0 (spanL numZ s.data.toList)).data.toList = s.data.toList.take (spanL numZ s.data.toList) := by rw [Lib.extract_data]; simp
  have hz : (s.extract 0 (spanL numZ s.data.toList)).size ≤ 1048576 := by simp [ByteArray.size_extract]; omega
  refine numTok_way s _ (by omega) _ _ w hT h53 (fun X hX => ?_) (fun X hX => ?_)
  · rw [← hx]; exact whole_any _ hz X hX
  · rw [← hx]; exact frac_any _ hz X hX
end Go.Proofs.YtcmfmfgedhfaeaaGreatDoor
