/- bytesOf: what the runes and escapes between quotes come to. -/
import Derived.Test.YtcmfmfgedhfaeaaGreatDoorLu
import Derived.Test.YtcmfmfgedhfaeaaGreatDoorPd
namespace Go.Proofs.YtcmfmfgedhfaeaaGreatDoor
set_option linter.unusedSimpArgs false
set_option linter.unusedVariables false
open Go.RowKit

def txtV : Option (List UInt8) → Value
  | some l => .tuple #[.string ⟨l.toArray⟩, .bool true]
  | none => .tuple #[.string ⟨#[]⟩, .bool false]
def strLen : Value → Nat
  | .string s => s.size
  | _ => 0
/-- The builder's state in a round. -/
structure BW (w0 : World) (acc : List UInt8) (w : World) : Prop where
  bld : Bld w0.heap.size w0.heap.size (Lib.byteCells acc) w
  kp : Kp w0.heap.size w0.heap.size w0 w
theorem BW.fr {w0 w : World} {acc : List UInt8} (h : BW w0 acc w) : Fresh w0 w := ⟨h.kp.below (Nat.le_refl _) (Nat.le_refl _) (Nat.le_refl _)⟩
theorem BW.then {w0 w w1 : World} {acc : List UInt8} (h : BW w0 acc w) (f : Fresh w w1) : BW w0 acc w1 := ⟨h.bld.lat f.below, h.kp.trans (Kp.fresh f h.fr.size)⟩
theorem BW.start (w : World) : BW w [] (w.alloc (.cells #[.pointer none, .slice none 0 0] 99)) := ⟨Bld.fresh _ w, Kp.fresh ((Fresh.refl w).alloc _ _) (Nat.le_refl _)⟩
theorem str_w {w0 w : World} {acc : List UInt8} (s : ByteArray) (h : BW w0 acc w) (hl : acc.length + s.size ≤ 140737488355328) :
    Calls Tryz.prog 74 #[.pointer (some ⟨w0.heap.size, 0, none⟩), .string s] w fun e w' => e = .returned (.tuple #[.int .i64 s.size, .nilIface]) ∧ BW w0 (acc ++ s.data.toList) w' := by
  refine (str_any w0.heap.size w0.heap.size (Lib.byteCells acc) s w h.bld (by rw [Lib.byteCells_length]; exact hl) h.fr.size).mono ?_
  rintro e w' ⟨rfl, h1, h2⟩
  refine ⟨rfl, ?_, h.kp.trans h2⟩
  rw [Lib.byteCells_append]
  exact h1
theorem byte_w {w0 w : World} {acc : List UInt8} (c : UInt8) (h : BW w0 acc w) (hl : acc.length + 1 ≤ 140737488355328) :
    Calls Tryz.prog 76 #[.pointer (some ⟨w0.heap.size, 0, none⟩), .int .u8 (c.toNat : Int)] w fun e w' => e = .returned .nilIface ∧ BW w0 (acc ++ [c]) w' := by
  refine (byte_any w0.heap.size w0.heap.size (Lib.byteCells acc) (c.toNat : Int) w h.bld (by rw [Lib.byteCells_length]; exact hl) h.fr.size).mono ?_
  rintro e w' ⟨rfl, h1, h2⟩
  refine ⟨rfl, ?_, h.kp.trans h2⟩
  rw [Lib.byteCells_append]
  exact h1
theorem out_w {w0 w : World} {acc : List UInt8} (h : BW w0 acc w) :
    Calls Tryz.prog 75 #[.pointer (some ⟨w0.heap.size, 0, none⟩)] w fun e w' => e = .returned (.string ⟨acc.toArray⟩) ∧ Fresh w0 w' := by
  refine (Tryz.Builder_String_any w0.heap.size w0.heap.size acc w (h.bld.isB (Nat.le_refl _)) h.fr.size).mono ?_
  rintro e w' ⟨rfl, k⟩
  exact ⟨rfl, ⟨h.fr.below.trans k⟩⟩
set_option maxRecDepth 100000 in
set_option maxHeartbeats 4000000 in
theorem bytes_any (s : ByteArray) (hs : s.size ≤ 1048576) (w : World) (hT : Tabs w) :
    Calls Tryz.prog 60 #[.string s] w fun e w' => e = .returned (txtV (bytesL (s.size + 1) s.data.toList)) ∧ Fresh w w' := by
  obtain ⟨R, hR⟩ : ∃ R, R = txtV (bytesL (s.size + 1) s.data.toList) := ⟨_, rfl⟩
  rw [← hR]
  have HR := Lib.hid hR
  have HT := Lib.hid hT
  clear hR hT
  have B0 := Lib.hid (BW.start w)
  go_enter Tryz.func60, Tryz.ntmps60
  go_wp2_with fail
  go_loopw [0] (fun v wr => ∃ (L : ByteArray) (acc : List UInt8) (f : Nat), v = .string L ∧ L.size < f ∧ acc.length + L.size ≤ 1048576 ∧ Hid (txtV ((bytesL f L.data.toList).map (acc ++ ·)) = R) ∧ Hid (BW w acc wr)) (fun v _ => strLen v)
  case atStart => exact ⟨s, [], s.size + 1, rfl, by omega, by simpa using hs, Lib.hid (by rw [HR.out]; simp), B0⟩
  case round =>
    obtain ⟨L, acc, f, rfl, hf, hal, HS, HB⟩ := hrel
    clear B0
    obtain ⟨f, rfl⟩ : ∃ g, f = g + 1 := ⟨f - 1, by omega⟩
    have C := Lib.hid (fun X hX => cut_any L 92 (by omega) X hX)
    have hcl := cut_len L.data.toList [92]
    rw [← size_list] at hcl
    have HE : Hid (bytesL (f + 1) L.data.toList = if (Lib.cut L.data.toList [92]).2.2 = false then some (Lib.cut L.data.toList [92]).1
      else if (escL (Lib.cut L.data.toList [92]).2.1).2 = 0 then none
      else (bytesL f ((Lib.cut L.data.toList [92]).2.1.drop (escL (Lib.cut L.data.toList [92]).2.1).2)).map fun d => (Lib.cut L.data.toList [92]).1 ++ UInt8.ofNat (escL (Lib.cut L.data.toList [92]).2.1).1 :: d) := Lib.hid rfl
    have hcs : (Lib.cut L.data.toList [92]).2.2 = true → (Lib.cut L.data.toList [92]).1.length + (Lib.cut L.data.toList [92]).2.1.length + 1 ≤ L.size := by
      rw [cut_eq]
      intro h
      have := congrArg List.length (cutR_hit 92 L.data.toList h)
      rw [← size_list] at this
      simp only [List.length_append, List.length_cons] at this
      omega
    generalize Lib.cut L.data.toList [92] = q at *
    obtain ⟨p, r, t⟩ := q
    simp only at C HE hcl hcs
    cases t with
    | false =>
      have HE2 : Hid (txtV (some (acc ++ p)) = R) := Lib.hid (by rw [← HS.out, HE.out]; rfl)
      clear HE HS hcs
      go_wp2_with fail
      go_at_call 69; refine (C.out _ (HT.out.fresh HB.out.fr)).mono ?_; rintro e w1 ⟨rfl, f1⟩
      have B1 := Lib.hid (HB.out.then f1)
      clear f1 HB
      go_wp2_with fail
      go_at_call 74; refine (str_w ⟨p.toArray⟩ B1.out (by rw [mk_size]; omega)).mono ?_; rintro e w2 ⟨rfl, b2⟩
      have B2 := Lib.hid b2
      clear b2 B1
      go_wp2_with fail
      go_at_call 75; refine (out_w B2.out).mono ?_; rintro e w3 ⟨rfl, f3⟩
      have F3 := Lib.hid f3
      clear f3 B2
      go_wp2_with fail
      go_ret2
      exact ⟨by rw [← HE2.out]; rfl, F3.out⟩
    | true =>
      have hcs := hcs rfl
      have D := Lib.hid (fun X hX => esc_any ⟨r.toArray⟩ (by rw [mk_size]; omega) X hX)
      obtain ⟨hc, hn3, hnl⟩ := escL_le r
      rw [mk_list] at D
      generalize escL r = cn at *
      obtain ⟨c, n⟩ := cn
      simp only [escV] at D
      simp only at HE hc hn3 hnl
      by_cases hn : n = 0
      · have HE2 : Hid (txtV none = R) := Lib.hid (by rw [← HS.out, HE.out, if_neg (by decide), if_pos hn]; rfl)
        have hn0 : ((n : Int) == 0) = true := by simp [hn]
        clear HE HS
        go_wp2_with fail
        go_at_call 69; refine (C.out _ (HT.out.fresh HB.out.fr)).mono ?_; rintro e w1 ⟨rfl, f1⟩
        have B1 := Lib.hid (HB.out.then f1)
        clear f1 HB
        go_wp2_with fail
        go_at_call 74; refine (str_w ⟨p.toArray⟩ B1.out (by rw [mk_size]; omega)).mono ?_; rintro e w2 ⟨rfl, b2⟩
        have B2 := Lib.hid b2
        clear b2 B1
        go_wp2_with fail
        go_at_call 72; refine (D.out _ (HT.out.fresh B2.out.fr)).mono ?_; rintro e w3 ⟨rfl, f3⟩
        have B3 := Lib.hid (B2.out.then f3)
        clear f3 B2
        go_wp2_with fail
        go_ret2
        exact ⟨by rw [← HE2.out]; rfl, B3.out.fr⟩
      · have HE2 : Hid (txtV ((bytesL f (r.drop n)).map ((acc ++ p ++ [UInt8.ofNat c]) ++ ·)) = R) := Lib.hid (by
          rw [← HS.out, HE.out, if_neg (by decide), if_neg hn, Option.map_map]
          congr 2
          funext d
          simp)
        have hn0 : ((n : Int) == 0) = false := by simp; omega
        have hnr : (n : Int) ≤ ((⟨r.toArray⟩ : ByteArray).size : Int) := by rw [mk_size]; omega
        have hcu : ((UInt8.ofNat c).toNat : Int) = (c : Int) := by simp; omega
        have E2 := Lib.hid (fun X (B2 : BW w (acc ++ p) X) => byte_w (UInt8.ofNat c) B2 (by simp; omega))
        rw [hcu] at E2
        have hdr : ((⟨r.toArray⟩ : ByteArray).extract n r.length).data.toList = r.drop n := by rw [← mk_size r, Lib.extract_to_end]
        have HD := Lib.hid hdr
        have hds : ((⟨r.toArray⟩ : ByteArray).extract n r.length).size = r.length - n := by simp [ByteArray.size_extract, mk_size]
        have HDS := Lib.hid hds
        clear HE HS hcu hdr hds
        go_wp2_with fail
        go_at_call 69; refine (C.out _ (HT.out.fresh HB.out.fr)).mono ?_; rintro e w1 ⟨rfl, f1⟩
        have B1 := Lib.hid (HB.out.then f1)
        clear f1 HB
        go_wp2_with fail
        go_at_call 74; refine (str_w ⟨p.toArray⟩ B1.out (by rw [mk_size]; omega)).mono ?_; rintro e w2 ⟨rfl, b2⟩
        have B2 := Lib.hid b2
        clear b2 B1
        go_wp2_with fail
        go_at_call 72; refine (D.out _ (HT.out.fresh B2.out.fr)).mono ?_; rintro e w3 ⟨rfl, f3⟩
        have B3 := Lib.hid (B2.out.then f3)
        clear f3 B2
        go_wp2_with fail
        go_at_call 76; refine (E2.out _ B3.out).mono ?_; rintro e w4 ⟨rfl, b4⟩
        have B4 := Lib.hid b4
        clear b4 B3
        go_wp2_with fail
        go_roundw
        case rel => exact ⟨_, acc ++ p ++ [UInt8.ofNat c], f, rfl, by rw [HDS.out]; omega, by rw [HDS.out]; simp; omega, by rw [HD.out]; exact HE2, B4⟩
        case measure => simp only [strLen]; rw [HDS.out]; omega
end Go.Proofs.YtcmfmfgedhfaeaaGreatDoor
