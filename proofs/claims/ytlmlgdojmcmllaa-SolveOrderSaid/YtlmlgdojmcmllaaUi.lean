/- Where a thing stands: walked. -/
import Derived.Test.YtlmlgdojmcmllaaUh
import Derived.Laws.EntriesVeiled
namespace Go.Proofs.Ytlmlgdojmcmllaa
set_option linter.unusedSimpArgs false
set_option linter.unusedVariables false
open Go.RowKit
open Solve

set_option maxHeartbeats 16000000 in
set_option maxRecDepth 100000 in
theorem spread_any (d : FD) (w : World) (R V1 V2 : Nat → Prop) (l1 l2 : List Nat) (x : Int) (hx : Key x) (h : Fst d w (W V1 V2) w R V1 V2 l1 l2) :
    Calls Try.prog 44 #[.pointer (some ⟨d.fb, 0, none⟩), .int .i64 x] w fun e w' => e = .returned (.tuple #[]) ∧ SpP d w (W V1 V2) R x w' := by
  have HKX := Lib.hid hx
  have hsm := h.flo.small
  obtain ⟨wa, hwa⟩ : ∃ wa, wa = w.alloc (.cells #[.pointer (some ⟨d.fb, 0, none⟩)] 55) := ⟨_, rfl⟩
  have HFA : Hid (Fst d w (W V1 V2) wa R V1 V2 l1 l2) := Lib.hid (by rw [hwa]; exact h.fresh ((Fresh.refl w).alloc _ _))
  have HP2 : Hid (wa.heap[w.heap.size]? = some (.cells #[.pointer (some ⟨d.fb, 0, none⟩)] 55 (0, 0)) ∧ ¬ V1 w.heap.size ∧ ¬ V2 w.heap.size) := Lib.hid (by
    rw [hwa]
    exact ⟨heap_alloc_new w _, fun e => by have := h.v1.lt _ e; omega, fun e => by have := h.v2.lt _ e; omega⟩)
  have HW := Lib.hid hwa
  obtain ⟨p2, hp2⟩ : ∃ p2, p2 = w.heap.size := ⟨_, rfl⟩
  rw [← hp2] at HP2
  have c2 : wa.cell? ⟨p2, 0, none⟩ = some (.pointer (some ⟨d.fb, 0, none⟩)) := by rw [cell_of_row wa p2 0 _ 55 (0, 0) HP2.out.1]; rfl
  have cf5 := HFA.out.flo.cs.2.2.2.2.2.1
  clear h hx hwa
  go_enter Try.func44, Try.ntmps44
  go_upto_region 1 with fail
  rw [← HW.out, ← hp2]
  clear hp2
  go_upto_region 2 with (go_at_call 49; (with_reducible refine (forget_any V1 d.B1 d.A.length l1 _ hsm HFA.out.v1).mono ?_); rintro e w1 ⟨rfl, h1, k1⟩; have HF1 := Lib.hid (HFA.out.set1 h1 k1); have HK1 := Lib.hid k1; clear h1 k1)
  have d2 := HK1.out.cell HP2.out.2.1 c2
  have df6 := HF1.out.flo.cs.2.2.2.2.2.2
  clear c2 cf5
  go_upto_region 3 with (go_at_call 49; (with_reducible refine (forget_any V2 d.B2 d.A.length l2 _ hsm HF1.out.v2).mono ?_); rintro e w2 ⟨rfl, h1, k1⟩; have HF2 := Lib.hid (HF1.out.set2 h1 k1); have HK2 := Lib.hid k1; clear h1 k1)
  have HB2 : Hid (w2.heap[p2]? = some (.cells #[.pointer (some ⟨d.fb, 0, none⟩)] 55 (0, 0))) := Lib.hid ((HK2.out.block _ (by have := heap_lt HP2.out.1; have := HK1.out.size; omega) HP2.out.2.2).trans ((HK1.out.block _ (heap_lt HP2.out.1) HP2.out.2.1).trans HP2.out.1))
  have e2 : w2.cell? ⟨p2, 0, none⟩ = some (.pointer (some ⟨d.fb, 0, none⟩)) := by rw [cell_of_row w2 p2 0 _ 55 (0, 0) HB2.out]; rfl
  have ef2 := HF2.out.flo.cs.2.2.1
  obtain ⟨o, hl, hso, hro⟩ := HF2.out.flo.he.at' HKX.out
  have HL := Lib.hid hl
  have HSO := Lib.hid hso
  have HRO := Lib.hid hro
  clear d2 df6 hl hso hro HFA HF1
  go_upto_region 5 with (at_lookup; refine wpList_lookF rfl _ _ 58 rfl 3 60 Try.underlying3 Try.underlying58 (some d.eb) d.ne d.Fe rfl HF2.out.flo.he.map x rfl HKX.out (.map none) (zero60 _) ?_; rw [HL.out])
  have HE3 := Lib.hid (boxes HF2.out HB2.out HP2.out.2.1 HP2.out.2.2 HSO.out HRO.out)
  obtain ⟨w3, hw3⟩ : ∃ w3, w3 = ((w2.alloc (.cells #[.map o] 60)).alloc (.cells #[.func (.func 50) #[] #[.pointer (some ⟨p2, 0, none⟩), .pointer (some ⟨w2.heap.size, 0, none⟩)]] 43)) := ⟨_, rfl⟩
  obtain ⟨p4, hp4⟩ : ∃ p4, p4 = w2.heap.size := ⟨_, rfl⟩
  obtain ⟨p5, hp5⟩ : ∃ p5, p5 = w2.heap.size + 1 := ⟨_, rfl⟩
  rw [← hw3, ← hp5, ← hp4] at HE3
  rw [← hw3, ← hp5, ← hp4]
  clear hw3 hp5 hp4 HL HSO HRO HB2 HP2 HF2 HW HK1 HK2 e2 ef2
  have g2 : w3.cell? ⟨p2, 0, none⟩ = some (.pointer (some ⟨d.fb, 0, none⟩)) := by rw [cell_of_row w3 p2 0 _ 55 (0, 0) HE3.out.b.h2]; rfl
  have gf4 := HE3.out.f.flo.cs.2.2.2.2.1
  cases hS : d.S x with
  | false =>
    have HSX := Lib.hid hS
    clear hS
    go_upto_region 7 with (go_at_call 51; (refine (setHas_any d.so 1000 d.S x _ HKX.out HE3.out.f.flo.hs).mono ?_); rintro e w4 ⟨rfl, h4⟩; rw [HSX.out]; have HE4 := Lib.hid (HE3.out.fresh h4); clear h4)
    have HSBb : Hid (SB d.A (d.S x) d.entry (d.M x) (d.E x) [] []) := Lib.hid SB.none
    have HSTb : Hid (d.S x = true → ∀ e : Nat, (e : Int) = d.entry → e < d.A.length → e ∈ []) := Lib.hid (fun h => by rw [HSX.out] at h; cases h)
    obtain ⟨l1b, hl1b⟩ : ∃ l1b : List Nat, l1b = [] := ⟨_, rfl⟩
    obtain ⟨l2b, hl2b⟩ : ∃ l2b : List Nat, l2b = [] := ⟨_, rfl⟩
    have HE4 : Hid (EB2 d w (W V1 V2) w4 R V1 V2 p2 p4 p5 x l1b l2b) := Lib.hid (by rw [hl1b, hl2b]; exact HE4.out)
    have HSBb : Hid (SB d.A (d.S x) d.entry (d.M x) (d.E x) l1b l2b) := Lib.hid (by rw [hl1b, hl2b]; exact HSBb.out)
    have HSTb : Hid (d.S x = true → ∀ e : Nat, (e : Int) = d.entry → e < d.A.length → e ∈ l1b) := Lib.hid (by rw [hl1b]; exact HSTb.out)
    have HUU : Hid ((W V1 V2) = W V1 V2) := Lib.hid rfl
    clear hl1b hl2b g2 gf4 HE3
    have g2 : w4.cell? ⟨p2, 0, none⟩ = some (.pointer (some ⟨d.fb, 0, none⟩)) := by rw [cell_of_row w4 p2 0 _ 55 (0, 0) HE4.out.b.h2]; rfl
    have gf1 := HE4.out.f.flo.cs.2.1
    obtain ⟨o1, hl1, ⟨n1, f1, hn1, hm1, hs1⟩, hr1⟩ := HE4.out.f.flo.hm.at' HKX.out
    have HL1 := Lib.hid hl1
    have HM1 := Lib.hid hm1
    have HS1 := Lib.hid hs1
    have HR1 := Lib.hid hr1
    clear hl1 hm1 hs1 hr1
    go_wp2_with (first | (at_lookup; refine wpList_lookF rfl _ _ 58 rfl 3 60 Try.underlying3 Try.underlying58 (some d.mb) d.nm d.Fm rfl HE4.out.f.flo.hm.map x rfl HKX.out (.map none) (zero60 _) ?_; rw [HL1.out]) | (at_range; refine wpList_rangeF rfl _ 60 rfl 3 68 Try.underlying3 Try.underlying60 o1 n1 f1 rfl HM1.out ?_; intro w5 cnt hit hgr hsz _; have HIT := Lib.hid hit; have HGR := Lib.hid hgr; have HSZ := Lib.hid hsz; clear hit hgr hsz))
    try go_frame
    have HF5 : Hid (Fresh w4 w5) := Lib.hid ((Fresh.refl w4).grown HGR.out fun k e => by cases e)
    have HE5 := Lib.hid (HE4.out.fresh HF5.out)
    have HOF : Hid (Off d w w5 R V1 V2 p2 p4 p5 w4.heap.size) := Lib.hid (by
      obtain ⟨z2, z4, z5⟩ := HE4.out.b.lts
      exact ⟨fun e => by have := HE4.out.f.flo.lt _ e; omega, fun e => by have := HE4.out.f.v1.lt _ e; omega, fun e => by have := HE4.out.f.v2.lt _ e; omega, ⟨by omega, by omega, by omega⟩, HE4.out.f.keep.size, by have := HSZ.out; omega⟩)
    obtain ⟨r, hr⟩ : ∃ r, r = w4.heap.size := ⟨_, rfl⟩
    rw [← hr] at HOF HIT
    rw [← hr]
    have HT0 : Hid (∀ a, Key a → ((f1 a).isSome = true → d.M x a = true) ∧ (d.M x a = true → (f1 a).isSome = false → ∀ i : Nat, (i : Int) = a → i < d.A.length → i ∈ l2b)) := Lib.hid (fun a ha => by
      rw [(HS1.out a ha).1]
      exact ⟨id, fun h1 h2 => by rw [h1] at h2; cases h2⟩)
    clear hr g2 gf1 HL1 HM1 HS1 HGR HSZ HF5 HE4
    go_loopg [6] cnt (fun k s6 wr => ∃ (V2c : Nat → Prop) (l2 : List Nat) (S : Int → Bool), Hid (EB2 d w (W V1 V2) wr R V1 V2c p2 p4 p5 x l1b l2) ∧ Hid (SB d.A (d.S x) d.entry (d.M x) (d.E x) l1b l2) ∧ Hid (ItF Try.prog 3 wr o1 r S k) ∧ Hid (∀ a, Key a → (S a = true → d.M x a = true) ∧ (d.M x a = true → S a = false → ∀ i : Nat, (i : Int) = a → i < d.A.length → i ∈ l2)) ∧ Hid (Off d w wr R V1 V2c p2 p4 p5 r))
    case atStart => exact ⟨V2, l2b, _, HE5, HSBb, HIT, HT0, HOF⟩
    case round =>
      clear HE5 HSBb HIT HT0 HOF
      obtain ⟨V2c, l2, S, HE, HSB, HIT, HT, HOF⟩ := hrel
      go_wp2_with (at_next; refine wpList_nextF rfl _ rfl Try.underlying3 o1 r S _ rfl HIT.out ?_ ?_)
      · intro hdone
        have HD := Lib.hid hdone
        clear hdone
        have g2 : wr.cell? ⟨p2, 0, none⟩ = some (.pointer (some ⟨d.fb, 0, none⟩)) := by rw [cell_of_row wr p2 0 _ 55 (0, 0) HE.out.b.h2]; rfl
        have gf6 := HE.out.f.flo.cs.2.2.2.2.2.2
        have HSI : Hid (SI d.A (d.S x) d.entry (d.M x) (d.E x) 0 l1b l2) := Lib.hid ⟨HSB.out, HSTb.out, fun i hm hi => by
          have hk : Key (i : Int) := Key.mk (by omega) (by omega)
          exact (HT.out i hk).2 hm (HD.out _ hk) i rfl hi, fun j _ h0 => by omega⟩
        have HEA : Hid (Calls Try.prog 28 #[.pointer (some ⟨d.B2, 0, none⟩), .func (.func 52) #[] #[.pointer (some ⟨p2, 0, none⟩), .pointer (some ⟨p5, 0, none⟩)]] wr fun e w' => e = .returned (.tuple #[]) ∧ ∃ l', ∃ l1, Ent d w (W V1 V2) R p2 p4 p5 x l1 l' w' ∧ SI d.A (d.S x) d.entry (d.M x) (d.E x) l'.length l1 l') :=
          Lib.hid (eachSpread_any (.pointer (some ⟨p2, 0, none⟩)) (.pointer (some ⟨p5, 0, none⟩)) d.B2 d.A.length hsm (fun k l w' => ∃ l1, Ent d w (W V1 V2) R p2 p4 p5 x l1 l w' ∧ SI d.A (d.S x) d.entry (d.M x) (d.E x) k l1 l)
            (fun k l w' h => by
              obtain ⟨l1, ⟨Va, Vb, hE⟩, _⟩ := h
              exact ⟨Vb, hE.f.v2⟩)
            (fun k l w' hk h => by
              obtain ⟨l1, ⟨Va, Vb, hE⟩, hS⟩ := h
              have hi := hE.f.v2.node _ (List.getElem_mem hk)
              refine (spread2_any d w (W V1 V2) R p2 p4 p5 x l1 l l[k] hi w' ⟨Va, Vb, hE⟩).mono ?_
              rintro e w3 ⟨rfl, h3⟩
              obtain ⟨a, b⟩ := hS.next hk
              exact ⟨rfl, _, b, _, h3, a⟩)
            l2 wr ⟨l1b, ⟨V1, V2c, HE.out⟩, HSI.out⟩)
        go_wp2_with (go_at_call 28; (with_reducible refine HEA.out.mono ?_); rintro e w6 ⟨rfl, l', l1', h1, h2⟩; have H1 := Lib.hid h1; have H2 := Lib.hid h2; clear h1 h2)
        go_end0
        obtain ⟨Va, Vb, hE⟩ := H1.out
        exact ⟨rfl, Va, Vb, l1', l', hE.f, H2.out.done⟩
      · intro a v w6 cnt' hka hsa hit hlt hgr hsz hen
        have HKA := Lib.hid hka
        have HSA := Lib.hid hsa
        have HIT6 := Lib.hid hit
        have HE6 := Lib.hid (HE.out.off HOF.out hgr)
        have HOF6 : Hid (Off d w w6 R V1 V2c p2 p4 p5 r) := Lib.hid ⟨HOF.out.r0, HOF.out.r1, HOF.out.r2, HOF.out.r3, HOF.out.r4, by have := HOF.out.r5; omega⟩
        have g2 : w6.cell? ⟨p2, 0, none⟩ = some (.pointer (some ⟨d.fb, 0, none⟩)) := by rw [cell_of_row w6 p2 0 _ 55 (0, 0) HE6.out.b.h2]; rfl
        have gf6 := HE6.out.f.flo.cs.2.2.2.2.2.2
        have HLT := Lib.hid hlt
        clear hka hsa hit hgr hsz hlt
        go_wp2_with (go_at_call 27; (with_reducible refine (come_any V2c d.B2 d.A.length l2 a _ hsm HE6.out.f.v2).mono ?_); rintro e w7 ⟨rfl, h7⟩; have HC7 := Lib.hid h7; clear h7)
        have HN : Hid (∃ V2c', EB2 d w (W V1 V2) w7 R V1 V2c' p2 p4 p5 x l1b (comeL d.A.length l2 a) ∧ ItF Try.prog 3 w7 o1 r (fun z => S z && !decide (z = a)) cnt' ∧ Off d w w7 R V1 V2c' p2 p4 p5 r) := Lib.hid (by
          obtain ⟨V2c', hE', hk, hv⟩ := HE6.out.come2 HC7.out
          refine ⟨V2c', hE', HIT6.out.block (hk.block r HOF6.out.r5 HOF6.out.r2) (fun b e => hk.block b (HE6.out.f.flo.lt b (HR1.out b e)) fun e2 => HE6.out.f.d2 b e2 (HR1.out b e)), ⟨HOF6.out.r0, HOF6.out.r1, fun e => ?_, HOF6.out.r3, HOF6.out.r4, Nat.lt_of_lt_of_le HOF6.out.r5 hk.size⟩⟩
          rcases hv r e with q | q
          · exact HOF6.out.r2 q
          · have := HOF6.out.r5; omega)
        have HSB7 := Lib.hid (HSB.out.made (A := d.A) ((HT.out a HKA.out).1 HSA.out))
        have HT7 : Hid (∀ z, Key z → ((S z && !decide (z = a)) = true → d.M x z = true) ∧ (d.M x z = true → (S z && !decide (z = a)) = false → ∀ i : Nat, (i : Int) = z → i < d.A.length → i ∈ comeL d.A.length l2 a)) := Lib.hid (fun z hz => by
          refine ⟨fun h => (HT.out z hz).1 (by simp at h; exact h.1), fun h1 h2 i hi hl => ?_⟩
          by_cases e : z = a
          · exact mem_comeL.2 (Or.inr ⟨by omega, hl⟩)
          · have : S z = false := by simpa [e] using h2
            exact mem_comeL.2 (Or.inl ((HT.out z hz).2 h1 this i hi hl)))
        obtain ⟨V2c', hE', hI', hO'⟩ := HN.out
        have HE7 := Lib.hid hE'
        have HI7 := Lib.hid hI'
        have HO7 := Lib.hid hO'
        clear hE' hI' hO' HN
        go_roundg cnt'
        case measure => exact HLT.out
        case rel => go_light; exact ⟨V2c', _, _, HE7, HSB7, HI7, HT7, HO7⟩
  | true =>
    have HSX := Lib.hid hS
    clear hS
    go_upto_region 6 with (go_at_call 51; (refine (setHas_any d.so 1000 d.S x _ HKX.out HE3.out.f.flo.hs).mono ?_); rintro e w4 ⟨rfl, h4⟩; rw [HSX.out]; have HE4 := Lib.hid (HE3.out.fresh h4); clear h4)
    clear gf4 g2
    have HD4 : Hid (∀ w', Fresh w4 w' → Ent d w (W V1 V2) R p2 p4 p5 x [] [] w') := Lib.hid (fun w' hf => ⟨V1, V2, HE4.out.fresh hf⟩)
    go_region_held3 (fun w' => w'.cell? ⟨p5, 0, none⟩ = some (.func (.func 50) #[] #[.pointer (some ⟨p2, 0, none⟩), .pointer (some ⟨p4, 0, none⟩)]) ∧ w'.cell? ⟨p2, 0, none⟩ = some (.pointer (some ⟨d.fb, 0, none⟩)) ∧ w'.cell? ⟨d.fb, 3, none⟩ = some (.int .i64 d.entry)) (first | exact (HD4.out _ (Fresh.refl _)).three | exact (HD4.out _ (Fresh.refl _).drew).three | exact HEN.out.three) ((go_at_call 50; (refine (enter_any d w (W V1 V2) R p2 p4 p5 x [] [] d.entry _ (HD4.out _ (by first | exact Fresh.refl _ | exact (Fresh.refl _).drew))).mono ?_); rintro e w5b ⟨rfl, h5, _⟩; have HEN := Lib.hid h5; clear h5))
    obtain ⟨V1a, V2a, hE4⟩ := HEN.out
    obtain ⟨l1b, hl1b⟩ : ∃ l1b : List Nat, l1b = comeL d.A.length [] d.entry := ⟨_, rfl⟩
    obtain ⟨l2b, hl2b⟩ : ∃ l2b : List Nat, l2b = entL2 d.A.length (d.E x) [] [] d.entry := ⟨_, rfl⟩
    rw [← hl1b, ← hl2b] at hE4
    have HSBb : Hid (SB d.A (d.S x) d.entry (d.M x) (d.E x) l1b l2b) := Lib.hid (by rw [hl1b, hl2b]; exact SB.none.enter fun i hi hl => .start HSX.out hi hl)
    have HSTb : Hid (d.S x = true → ∀ e : Nat, (e : Int) = d.entry → e < d.A.length → e ∈ l1b) := Lib.hid (fun _ e he hl => by rw [hl1b]; exact mem_comeL.2 (Or.inr ⟨he, hl⟩))
    clear HE4
    have HE4 := Lib.hid hE4
    clear hE4 hl1b hl2b HE3 HD4 HEN
    have g2 : w5b.cell? ⟨p2, 0, none⟩ = some (.pointer (some ⟨d.fb, 0, none⟩)) := by rw [cell_of_row w5b p2 0 _ 55 (0, 0) HE4.out.b.h2]; rfl
    have gf1 := HE4.out.f.flo.cs.2.1
    obtain ⟨o1, hl1, ⟨n1, f1, hn1, hm1, hs1⟩, hr1⟩ := HE4.out.f.flo.hm.at' HKX.out
    have HL1 := Lib.hid hl1
    have HM1 := Lib.hid hm1
    have HS1 := Lib.hid hs1
    have HR1 := Lib.hid hr1
    clear hl1 hm1 hs1 hr1
    go_wp2_with (first | (at_lookup; refine wpList_lookF rfl _ _ 58 rfl 3 60 Try.underlying3 Try.underlying58 (some d.mb) d.nm d.Fm rfl HE4.out.f.flo.hm.map x rfl HKX.out (.map none) (zero60 _) ?_; rw [HL1.out]) | (at_range; refine wpList_rangeF rfl _ 60 rfl 3 68 Try.underlying3 Try.underlying60 o1 n1 f1 rfl HM1.out ?_; intro w5 cnt hit hgr hsz _; have HIT := Lib.hid hit; have HGR := Lib.hid hgr; have HSZ := Lib.hid hsz; clear hit hgr hsz))
    try go_frame
    have HF5 : Hid (Fresh w5b w5) := Lib.hid ((Fresh.refl w5b).grown HGR.out fun k e => by cases e)
    have HE5 := Lib.hid (HE4.out.fresh HF5.out)
    have HOF : Hid (Off d w w5 R V1a V2a p2 p4 p5 w5b.heap.size) := Lib.hid (by
      obtain ⟨z2, z4, z5⟩ := HE4.out.b.lts
      exact ⟨fun e => by have := HE4.out.f.flo.lt _ e; omega, fun e => by have := HE4.out.f.v1.lt _ e; omega, fun e => by have := HE4.out.f.v2.lt _ e; omega, ⟨by omega, by omega, by omega⟩, HE4.out.f.keep.size, by have := HSZ.out; omega⟩)
    obtain ⟨r, hr⟩ : ∃ r, r = w5b.heap.size := ⟨_, rfl⟩
    rw [← hr] at HOF HIT
    rw [← hr]
    have HT0 : Hid (∀ a, Key a → ((f1 a).isSome = true → d.M x a = true) ∧ (d.M x a = true → (f1 a).isSome = false → ∀ i : Nat, (i : Int) = a → i < d.A.length → i ∈ l2b)) := Lib.hid (fun a ha => by
      rw [(HS1.out a ha).1]
      exact ⟨id, fun h1 h2 => by rw [h1] at h2; cases h2⟩)
    clear hr g2 gf1 HL1 HM1 HS1 HGR HSZ HF5 HE4
    go_loopg [6] cnt (fun k s6 wr => ∃ (V2c : Nat → Prop) (l2 : List Nat) (S : Int → Bool), Hid (EB2 d w (W V1 V2) wr R V1a V2c p2 p4 p5 x l1b l2) ∧ Hid (SB d.A (d.S x) d.entry (d.M x) (d.E x) l1b l2) ∧ Hid (ItF Try.prog 3 wr o1 r S k) ∧ Hid (∀ a, Key a → (S a = true → d.M x a = true) ∧ (d.M x a = true → S a = false → ∀ i : Nat, (i : Int) = a → i < d.A.length → i ∈ l2)) ∧ Hid (Off d w wr R V1a V2c p2 p4 p5 r))
    case atStart => exact ⟨V2a, l2b, _, HE5, HSBb, HIT, HT0, HOF⟩
    case round =>
      clear HE5 HSBb HIT HT0 HOF
      obtain ⟨V2c, l2, S, HE, HSB, HIT, HT, HOF⟩ := hrel
      go_wp2_with (at_next; refine wpList_nextF rfl _ rfl Try.underlying3 o1 r S _ rfl HIT.out ?_ ?_)
      · intro hdone
        have HD := Lib.hid hdone
        clear hdone
        have g2 : wr.cell? ⟨p2, 0, none⟩ = some (.pointer (some ⟨d.fb, 0, none⟩)) := by rw [cell_of_row wr p2 0 _ 55 (0, 0) HE.out.b.h2]; rfl
        have gf6 := HE.out.f.flo.cs.2.2.2.2.2.2
        have HSI : Hid (SI d.A (d.S x) d.entry (d.M x) (d.E x) 0 l1b l2) := Lib.hid ⟨HSB.out, HSTb.out, fun i hm hi => by
          have hk : Key (i : Int) := Key.mk (by omega) (by omega)
          exact (HT.out i hk).2 hm (HD.out _ hk) i rfl hi, fun j _ h0 => by omega⟩
        have HEA : Hid (Calls Try.prog 28 #[.pointer (some ⟨d.B2, 0, none⟩), .func (.func 52) #[] #[.pointer (some ⟨p2, 0, none⟩), .pointer (some ⟨p5, 0, none⟩)]] wr fun e w' => e = .returned (.tuple #[]) ∧ ∃ l', ∃ l1, Ent d w (W V1 V2) R p2 p4 p5 x l1 l' w' ∧ SI d.A (d.S x) d.entry (d.M x) (d.E x) l'.length l1 l') :=
          Lib.hid (eachSpread_any (.pointer (some ⟨p2, 0, none⟩)) (.pointer (some ⟨p5, 0, none⟩)) d.B2 d.A.length hsm (fun k l w' => ∃ l1, Ent d w (W V1 V2) R p2 p4 p5 x l1 l w' ∧ SI d.A (d.S x) d.entry (d.M x) (d.E x) k l1 l)
            (fun k l w' h => by
              obtain ⟨l1, ⟨Va, Vb, hE⟩, _⟩ := h
              exact ⟨Vb, hE.f.v2⟩)
            (fun k l w' hk h => by
              obtain ⟨l1, ⟨Va, Vb, hE⟩, hS⟩ := h
              have hi := hE.f.v2.node _ (List.getElem_mem hk)
              refine (spread2_any d w (W V1 V2) R p2 p4 p5 x l1 l l[k] hi w' ⟨Va, Vb, hE⟩).mono ?_
              rintro e w3 ⟨rfl, h3⟩
              obtain ⟨a, b⟩ := hS.next hk
              exact ⟨rfl, _, b, _, h3, a⟩)
            l2 wr ⟨l1b, ⟨V1a, V2c, HE.out⟩, HSI.out⟩)
        go_wp2_with (go_at_call 28; (with_reducible refine HEA.out.mono ?_); rintro e w6 ⟨rfl, l', l1', h1, h2⟩; have H1 := Lib.hid h1; have H2 := Lib.hid h2; clear h1 h2)
        go_end0
        obtain ⟨Va, Vb, hE⟩ := H1.out
        exact ⟨rfl, Va, Vb, l1', l', hE.f, H2.out.done⟩
      · intro a v w6 cnt' hka hsa hit hlt hgr hsz hen
        have HKA := Lib.hid hka
        have HSA := Lib.hid hsa
        have HIT6 := Lib.hid hit
        have HE6 := Lib.hid (HE.out.off HOF.out hgr)
        have HOF6 : Hid (Off d w w6 R V1a V2c p2 p4 p5 r) := Lib.hid ⟨HOF.out.r0, HOF.out.r1, HOF.out.r2, HOF.out.r3, HOF.out.r4, by have := HOF.out.r5; omega⟩
        have g2 : w6.cell? ⟨p2, 0, none⟩ = some (.pointer (some ⟨d.fb, 0, none⟩)) := by rw [cell_of_row w6 p2 0 _ 55 (0, 0) HE6.out.b.h2]; rfl
        have gf6 := HE6.out.f.flo.cs.2.2.2.2.2.2
        have HLT := Lib.hid hlt
        clear hka hsa hit hgr hsz hlt
        go_wp2_with (go_at_call 27; (with_reducible refine (come_any V2c d.B2 d.A.length l2 a _ hsm HE6.out.f.v2).mono ?_); rintro e w7 ⟨rfl, h7⟩; have HC7 := Lib.hid h7; clear h7)
        have HN : Hid (∃ V2c', EB2 d w (W V1 V2) w7 R V1a V2c' p2 p4 p5 x l1b (comeL d.A.length l2 a) ∧ ItF Try.prog 3 w7 o1 r (fun z => S z && !decide (z = a)) cnt' ∧ Off d w w7 R V1a V2c' p2 p4 p5 r) := Lib.hid (by
          obtain ⟨V2c', hE', hk, hv⟩ := HE6.out.come2 HC7.out
          refine ⟨V2c', hE', HIT6.out.block (hk.block r HOF6.out.r5 HOF6.out.r2) (fun b e => hk.block b (HE6.out.f.flo.lt b (HR1.out b e)) fun e2 => HE6.out.f.d2 b e2 (HR1.out b e)), ⟨HOF6.out.r0, HOF6.out.r1, fun e => ?_, HOF6.out.r3, HOF6.out.r4, Nat.lt_of_lt_of_le HOF6.out.r5 hk.size⟩⟩
          rcases hv r e with q | q
          · exact HOF6.out.r2 q
          · have := HOF6.out.r5; omega)
        have HSB7 := Lib.hid (HSB.out.made (A := d.A) ((HT.out a HKA.out).1 HSA.out))
        have HT7 : Hid (∀ z, Key z → ((S z && !decide (z = a)) = true → d.M x z = true) ∧ (d.M x z = true → (S z && !decide (z = a)) = false → ∀ i : Nat, (i : Int) = z → i < d.A.length → i ∈ comeL d.A.length l2 a)) := Lib.hid (fun z hz => by
          refine ⟨fun h => (HT.out z hz).1 (by simp at h; exact h.1), fun h1 h2 i hi hl => ?_⟩
          by_cases e : z = a
          · exact mem_comeL.2 (Or.inr ⟨by omega, hl⟩)
          · have : S z = false := by simpa [e] using h2
            exact mem_comeL.2 (Or.inl ((HT.out z hz).2 h1 this i hi hl)))
        obtain ⟨V2c', hE', hI', hO'⟩ := HN.out
        have HE7 := Lib.hid hE'
        have HI7 := Lib.hid hI'
        have HO7 := Lib.hid hO'
        clear hE' hI' hO' HN
        go_roundg cnt'
        case measure => exact HLT.out
        case rel => go_light; exact ⟨V2c', _, _, HE7, HSB7, HI7, HT7, HO7⟩
end Go.Proofs.Ytlmlgdojmcmllaa
