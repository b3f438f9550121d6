/- The fixed calls. -/
import Derived.Test.YtcmfmfgedhfaeaaGreatDoorMc
namespace Go.Proofs.YtcmfmfgedhfaeaaGreatDoor
set_option linter.unusedSimpArgs false
set_option linter.unusedVariables false
open Go.RowKit

set_option maxRecDepth 100000 in
theorem fix1 : tokensF ⟨#[105, 110, 116, 32, 120, 61, 48, 120, 49, 70, 59]⟩ = .ok [⟨2, 1, 1, ⟨#[105, 110, 116]⟩, 0, ⟨#[]⟩⟩, ⟨1, 1, 5, ⟨#[120]⟩, 0, ⟨#[]⟩⟩, ⟨7, 1, 6, ⟨#[61]⟩, 0, ⟨#[]⟩⟩, ⟨3, 1, 7, ⟨#[48, 120, 49, 70]⟩, 31, ⟨#[]⟩⟩, ⟨7, 1, 11, ⟨#[59]⟩, 0, ⟨#[]⟩⟩, ⟨8, 1, 12, ⟨#[]⟩, 0, ⟨#[]⟩⟩] := by kernel_rfl
set_option maxRecDepth 100000 in
theorem fix2 : tokensF ⟨#[97, 10, 32, 49, 46]⟩ = .err 2 2 2 := by kernel_rfl
theorem fix3 : floatL [50, 53] 1 = some 4612811918334230528 := by kernel_rfl
/-- A row of tokens that a call has made. -/
theorem own_open (w : World) (base : Nat) (v : Value) (n : Nat) (xs : List Value) (h : w.ownsRow base 32 6 v n xs) (hn : n ≠ 0) :
    ∃ g cap, v = .slice (some ⟨g, 0, none⟩) n cap ∧ base ≤ g ∧ g < w.heap.size ∧ ∀ j u, xs[j]? = some u → w.cell? ⟨g, j, none⟩ = some u := by
  obtain ⟨g, cap, hv⟩ : ∃ g cap, v = .slice (some ⟨g, 0, none⟩) n cap := by
    rcases h.2 with ⟨_, h0⟩ | ⟨g, cap, cur, hv, _⟩
    · exact absurd h0 hn
    · exact ⟨g, cap, hv⟩
  have hb : v.ownBlock = some g := by rw [hv]; rfl
  refine ⟨g, cap, hv, (h.lt g hb).1, (h.lt g hb).2, fun j u hj => ?_⟩
  have := h.cells hb j u hj
  by_cases h0 : j = 0
  · subst h0; simpa [Addr.add] using this
  · simpa [Addr.add, h0] using this
theorem fixed_word (w : World) : Calls Tryz.prog 13 #[.string ⟨#[119, 104, 105, 108, 101]⟩] w fun e w' => e = .returned (.bool true) ∧ Fresh w w' := by
  refine (word_any ⟨#[119, 104, 105, 108, 101]⟩ w).mono (fun e w' ⟨p, q⟩ => ⟨?_, q⟩)
  rw [p, show decide ((⟨#[119, 104, 105, 108, 101]⟩ : ByteArray).toList ∈ wordsL) = true by rw [ByteArray.toList_eq]; decide]
theorem fixed_sign (w : World) : Calls Tryz.prog 14 #[.string ⟨#[60, 60, 61]⟩] w fun e w' => e = .returned (.bool true) ∧ Fresh w w' := by
  refine (sign_any ⟨#[60, 60, 61]⟩ w).mono (fun e w' ⟨p, q⟩ => ⟨?_, q⟩)
  rw [p, show decide ((⟨#[60, 60, 61]⟩ : ByteArray).toList ∈ signsL) = true by rw [ByteArray.toList_eq]; decide]
theorem fixed_tok1 (w : World) (hT : Tabs w) : Calls Tryz.prog 8 #[.string ⟨#[105, 110, 116, 32, 120, 61, 48, 120, 49, 70, 59]⟩] w fun e w' => (∃ g cap, e = .returned (.tuple #[.slice (some ⟨g, 0, none⟩) 6 cap, .agg #[.int .i64 0, .int .i64 0], .int .i64 0]) ∧ w'.cell? ⟨g, 0, none⟩ = some (.int .i64 2) ∧ w'.cell? ⟨g, 22, none⟩ = some (.int .u64 31) ∧ w'.cell? ⟨g, 30, none⟩ = some (.int .i64 8) ∧ w'.cell? ⟨g, 32, none⟩ = some (.int .i64 12)) ∧ Fresh w w' := by
  refine (tokens_any _ w hT).mono ?_
  rintro e w' ⟨⟨h1, h2⟩, h3⟩
  refine ⟨?_, h3⟩
  obtain ⟨v, hv, hown⟩ := h2 _ fix1
  obtain ⟨g, cap, rfl, h4, h5, hc⟩ := own_open _ _ _ _ _ hown (by decide)
  exact ⟨g, cap, hv, hc 0 _ rfl, hc 22 _ rfl, hc 30 _ rfl, hc 32 _ rfl⟩
theorem fixed_tok2 (w : World) (hT : Tabs w) : Calls Tryz.prog 8 #[.string ⟨#[97, 10, 32, 49, 46]⟩] w fun e w' => e = .returned (.tuple #[.slice none 0 0, .agg #[.int .i64 2, .int .i64 2], .int .i64 2]) ∧ Fresh w w' := by
  refine (tokens_any _ w hT).mono ?_
  rintro e w' ⟨⟨h1, h2⟩, h3⟩
  exact ⟨h1 _ _ _ fix2, h3⟩
theorem fixed_flt (w : World) (hT : Tabs w) : Calls Tryz.prog 12 #[.string ⟨#[50, 53]⟩, .int .i64 1] w fun e w' => e = .returned (.tuple #[.int .u64 4612811918334230528, .bool true]) ∧ Fresh w w' := by
  refine (float_any ⟨#[50, 53]⟩ 1 (by decide) (by decide) w hT).mono ?_
  rintro e w' ⟨h1, h3⟩
  refine ⟨?_, h3⟩
  rw [h1, show floatL (⟨#[50, 53]⟩ : ByteArray).data.toList 1 = some 4612811918334230528 from fix3]
  rfl
set_option maxRecDepth 100000 in
set_option maxHeartbeats 16000000 in
theorem fixed_any (w : World) (hT : Tabs w) : Calls Tryz.prog 7 #[] w fun e w' => e = .returned (.bool true) ∧ Fresh w w' := by
  have HT := Lib.hid hT
  clear hT
  go_enter Tryz.func7, Tryz.ntmps7
  go_wp2_with fail
  go_at_call 8; refine (fixed_tok1 _ HT.out).mono ?_; rintro e w1 ⟨⟨g, cap, rfl, c0, c1, c2, c3⟩, f1⟩
  have F1 := Lib.hid f1
  have K0 := Lib.hid c0
  have K1 := Lib.hid c1
  have K2 := Lib.hid c2
  have K3 := Lib.hid c3
  clear c0 c1 c2 c3 f1
  go_upto_region 2 with fail
  have F2 : Hid (Fresh w1 (w1.alloc (.cells #[.int .i64 0, .int .i64 0] 25))) := Lib.hid ((Fresh.refl _).alloc _ _)
  have G2 := Lib.hid (F1.out.trans F2.out)
  have B2 : Hid (Blk (w1.alloc (.cells #[.int .i64 0, .int .i64 0] 25)) w1.heap.size [.int .i64 0, .int .i64 0]) := Lib.hid (Blk.new w1 #[.int .i64 0, .int .i64 0] 25)
  generalize w1.alloc (.cells #[.int .i64 0, .int .i64 0] 25) = w2 at *
  generalize w1.heap.size = p1 at *
  go_wp2_with fail
  go_at_call 8; refine (fixed_tok2 _ (HT.out.fresh G2.out)).mono ?_; rintro e w3 ⟨rfl, f3⟩
  have F3 := Lib.hid (F2.out.trans f3)
  have G3 := Lib.hid (G2.out.trans f3)
  have B3 := Lib.hid (B2.out.fresh f3)
  clear f3 B2 F2 G2
  go_upto_region 3 with fail
  have F4 : Hid (Fresh w1 (w3.alloc (.cells #[.int .i64 2, .int .i64 2] 25))) := Lib.hid (F3.out.alloc _ _)
  have G4 : Hid (Fresh w (w3.alloc (.cells #[.int .i64 2, .int .i64 2] 25))) := Lib.hid (G3.out.alloc _ _)
  have B4 : Hid (Blk (w3.alloc (.cells #[.int .i64 2, .int .i64 2] 25)) p1 [.int .i64 0, .int .i64 0]) := Lib.hid (B3.out.fresh ((Fresh.refl _).alloc _ _))
  have C4 : Hid (Blk (w3.alloc (.cells #[.int .i64 2, .int .i64 2] 25)) w3.heap.size [.int .i64 2, .int .i64 2]) := Lib.hid (Blk.new w3 #[.int .i64 2, .int .i64 2] 25)
  clear F3 G3 B3
  generalize w3.alloc (.cells #[.int .i64 2, .int .i64 2] 25) = w4 at *
  generalize w3.heap.size = p3 at *
  go_wp2_with fail
  go_at_call 12; refine (fixed_flt _ (HT.out.fresh G4.out)).mono ?_; rintro e w5 ⟨rfl, f5⟩
  have F5 := Lib.hid (F4.out.trans f5)
  have G5 := Lib.hid (G4.out.trans f5)
  have B5 := Lib.hid (B4.out.fresh f5)
  have C5 := Lib.hid (C4.out.fresh f5)
  clear f5 F4 G4 B4 C4
  go_upto_region 4 with fail
  have x0 := F5.out.at' K0.out
  have x1 := F5.out.at' K1.out
  have x2 := F5.out.at' K2.out
  have x3 := F5.out.at' K3.out
  have y0 := B5.out.1 0 _ rfl
  have y1 := B5.out.1 1 _ rfl
  have z0 := C5.out.1 0 _ rfl
  have z1 := C5.out.1 1 _ rfl
  go_wp2_with fail
  go_at_call 13; refine (fixed_word _).mono ?_; rintro e w6 ⟨rfl, f6⟩
  have G6 := Lib.hid (G5.out.trans f6)
  clear f6 x0 x1 x2 x3 y0 y1 z0 z1
  go_wp2_with fail
  go_at_call 14; refine (fixed_sign _).mono ?_; rintro e w7 ⟨rfl, f7⟩
  have G7 := Lib.hid (G6.out.trans f7)
  clear f7
  go_wp2_with fail
  go_ret
  exact ⟨rfl, G7.out⟩
end Go.Proofs.YtcmfmfgedhfaeaaGreatDoor
