/- CtypeMeets' function: the members and their layout. -/
import Derived.Test.YteiomcbphbbpkaaDoorEv
namespace Go.Proofs.YteiomcbphbbpkaaDoor
set_option linter.unusedSimpArgs false
set_option linter.unusedVariables false
open Go.RowKit

/-- What Lay answers of these members. -/
def MP (r : Rec) (ok : Nat → Prop) (w : World) (fp : Option Addr) (n fc : Nat) (S A I C : Int) : Prop :=
  (C = 0 ∧ ∃ s, layF f0 0 r.un (r.fds r.N) LS.zero = .inl s ∧ n = s.acc.length ∧ S = mul s.sz s.al ∧ A = s.al ∧ FSlice ok w s.acc fp n fc ∧ S ≤ 1048576) ∨
  (n = 0 ∧ S = 0 ∧ ((I = -1 ∧ C = 7) ∨ (0 ≤ I ∧ (C = 4 ∨ C = 5))))
theorem layF_code {f : Nat → La} {kn : Nat} {un : Bool} : ∀ (fs : List Fd) (s : LS) (i : Nat) (c : Int), layF f kn un fs s = .inr (i, c) → c = 4 ∨ c = 5
  | [], s, i, c, e => by simp [layF] at e
  | x :: r, s, i, c, e => by
    simp only [layF] at e
    split at e
    · simp at e; exact Or.inl e.2.symm
    · split at e
      · simp at e; exact Or.inr e.2.symm
      · exact layF_code r _ _ _ e
theorem Rec.names (r : Rec) (k : Nat) : ∀ x ∈ r.fds k, isName x.nm := by
  intro x hx
  obtain ⟨i, -, rfl⟩ := List.mem_map.1 hx
  exact isName_of _
theorem Rec.small (r : Rec) (k : Nat) : ∀ x ∈ r.fds k, x.ks.small ∧ x.ks.length ≤ 9 := by
  intro x hx
  obtain ⟨i, -, rfl⟩ := List.mem_map.1 hx
  exact mkT_small _ _ 61 0
theorem lay_uni (r : Rec) (p : Option Addr) (c : Nat) (w0 w : World) (hf : Fresh w0 w) (hs : FSlice (fun _ => True) w0 (r.fds r.N) p r.N c) :
    Calls Tryd.prog 33 #[.string ⟨#[114]⟩, .bool r.un, .slice p r.N c, .slice none 0 0] w fun e w' => (∃ nm un fp n fc S A I C, e = .returned (.tuple #[.agg #[.string nm, .bool un, .slice fp n fc, .int .i64 S, .int .i64 A], .int .i64 I, .int .i64 C]) ∧ MP r (fun b => w.heap.size ≤ b) w' fp n fc S A I C) ∧ Fresh w w' := by
  refine (lay_any f0 none 0 0 ⟨#[114]⟩ r.un (r.fds r.N) p r.N c w0 w hf hs (Or.inl rfl) good0 (Nat.le_refl _) (Nat.zero_le _) (r.names r.N) (r.small r.N)).mono ?_
  rintro e w' ⟨hw, h⟩
  cases hl : layF f0 0 r.un (r.fds r.N) LS.zero with
  | inr ic =>
    obtain ⟨i, c⟩ := ic
    rw [hl] at h
    dsimp only at h
    exact ⟨⟨_, _, _, _, _, _, _, _, _, h, Or.inr ⟨rfl, rfl, Or.inr ⟨by omega, layF_code _ _ _ _ hl⟩⟩⟩, hw⟩
  | inl s =>
    rw [hl] at h
    dsimp only at h
    by_cases hM : 1048576 < mul s.sz s.al
    · rw [if_pos hM] at h
      exact ⟨⟨_, _, _, _, _, _, _, _, _, h, Or.inr ⟨rfl, rfl, Or.inl ⟨rfl, rfl⟩⟩⟩, hw⟩
    · rw [if_neg hM] at h
      obtain ⟨fp, fc, xs, rfl, hown, hc⟩ := h
      exact ⟨⟨_, _, _, _, _, _, _, _, _, rfl, Or.inl ⟨rfl, s, hl, rfl, rfl, rfl, FSlice.of_own (base := w.heap.size + 3) (fun b hb => by omega) hown (hc.mono (fun b _ hb => by have := hb.1; omega)), by omega⟩⟩, hw⟩
theorem FSlice.set {ok : Nat → Prop} {w : World} {fs : List Fd} {p : Option Addr} {n c : Nat} (h : FSlice ok w fs p n c) {g : Nat} (hg : ¬ ok g) (i : Nat) (v : Value) : FSlice ok (w.setCell ⟨g, i, none⟩ v) fs p n c :=
  h.turn (fun B k u hB hu => by rw [← hu]; exact World.cell?_of_block (Below.heap_setCell _ _ _ _ (fun e => hg (by rw [← show B = g from e]; exact hB)))) (fun _ h => h)
theorem MP.later {r : Rec} {ok : Nat → Prop} {w w' : World} {fp : Option Addr} {n fc : Nat} {S A I C : Int} (h : MP r ok w fp n fc S A I C) (hf : Fresh w w') : MP r ok w' fp n fc S A I C := by
  rcases h with ⟨h0, s, h1, h2, h3, h4, h5, h6⟩ | h
  · exact Or.inl ⟨h0, s, h1, h2, h3, h4, h5.later hf, h6⟩
  · exact Or.inr h
theorem MP.set {r : Rec} {ok : Nat → Prop} {w : World} {fp : Option Addr} {n fc : Nat} {S A I C : Int} (h : MP r ok w fp n fc S A I C) {g : Nat} (hg : ¬ ok g) (i : Nat) (v : Value) : MP r ok (w.setCell ⟨g, i, none⟩ v) fp n fc S A I C := by
  rcases h with ⟨h0, s, h1, h2, h3, h4, h5, h6⟩ | h
  · exact Or.inl ⟨h0, s, h1, h2, h3, h4, h5.set hg i v, h6⟩
  · exact Or.inr h
/-- The record's box. -/
structure R5 (w : World) (b : Nat) (r : Rec) (np : Option Addr) (nc : Nat) (tp : Option Addr) (tc : Nat) : Prop where
  c0 : w.cell? ⟨b, 0, none⟩ = some (.int .i64 r.name)
  c1 : w.cell? ⟨b, 1, none⟩ = some (.bool r.un)
  c2 : w.cell? ⟨b, 2, none⟩ = some (.slice np r.nn nc)
  c3 : w.cell? ⟨b, 3, none⟩ = some (.slice tp r.N tc)
  c4 : w.cell? ⟨b, 4, none⟩ = some (.bool r.forget)
theorem R5.later {w w' : World} {b : Nat} {r : Rec} {np : Option Addr} {nc : Nat} {tp : Option Addr} {tc : Nat} (h : R5 w b r np nc tp tc) (hf : Fresh w w') : R5 w' b r np nc tp tc :=
  ⟨hf.at' h.c0, hf.at' h.c1, hf.at' h.c2, hf.at' h.c3, hf.at' h.c4⟩
set_option maxRecDepth 100000 in
set_option maxHeartbeats 8000000 in
theorem meets_law (r : Rec) (np : Option Addr) (nc : Nat) (tp : Option Addr) (tc : Nat) (w : World) (hr : RecAt w r np nc tp tc) (hN : r.N ≤ 1048576) :
    Calls Tryd.prog 6 #[.agg #[.int .i64 r.name, .bool r.un, .slice np r.nn nc, .slice tp r.N tc, .bool r.forget]] w fun e w' => e = .returned (.bool true) ∧ Fresh w w' := by
  have HR := Lib.hid hr
  have HN := Lib.hid hN
  clear hr hN
  have B0 := Lib.hid (Blk.new w #[.int .i64 r.name, .bool r.un, .slice np r.nn nc, .slice tp r.N tc, .bool r.forget] 53)
  go_enter Tryd.func6, Tryd.ntmps6
  go_wp2_with fail
  go_at_call 8; refine (fixed_any _).mono ?_; rintro e w1 ⟨rfl, h1⟩
  have T1 : Hid (R5 w1 w.heap.size r np nc tp tc) := Lib.hid (by have b := B0.out.fresh h1; exact ⟨b.1 0 _ rfl, b.1 1 _ rfl, b.1 2 _ rfl, b.1 3 _ rfl, b.1 4 _ rfl⟩)
  have F1 : Hid (Fresh w w1) := Lib.hid (by (repeat' first | with_reducible exact Fresh.refl _ | with_reducible assumption | with_reducible refine Fresh.alloc ?_ _ _ | with_reducible refine Fresh.drew ?_ | with_reducible refine Fresh.drewN ?_ _ | with_reducible refine Fresh.setCell ?_ ?_ _ | with_reducible refine Fresh.trans ?_ (by assumption) | (simp; done) | (simp; omega)))
  have hb1 : w.heap.size < w1.heap.size := by have := h1.size; simp at this; omega
  clear h1 B0
  go_upto_region 3 with fail
  generalize w1 = W at *
  go_cut [3, 4, 5] (fun s3 s4 s5 wx => ∃ (c : Nat) (I C : Int), s3 = .pointer (some ⟨c, 0, none⟩) ∧ s4 = .int .i64 I ∧ s5 = .int .i64 C ∧ Hid (∃ ok nm un fp n fc S A, W.heap.size ≤ c ∧ Fresh W wx ∧ Blk wx c [.string nm, .bool un, .slice fp n fc, .int .i64 S, .int .i64 A] ∧ MP r ok wx fp n fc S A I C))
  case first =>
    have hE : Fresh W W.drew := (Fresh.refl W).drew
    have hz2 : W.heap.size ≤ W.drew.heap.size := Nat.le_refl _
    go_region_held3 (fun w' => w'.cell? ⟨w.heap.size, 0, none⟩ = some (.int .i64 r.name) ∧ w'.cell? ⟨w.heap.size, 1, none⟩ = some (.bool r.un) ∧ w'.cell? ⟨w.heap.size, 2, none⟩ = some (.slice np r.nn nc) ∧ w'.cell? ⟨w.heap.size, 3, none⟩ = some (.slice tp r.N tc) ∧ w'.cell? ⟨w.heap.size, 4, none⟩ = some (.bool r.forget)) (first | done | with_reducible exact ⟨(T1.out.later (hE)).c0, (T1.out.later (hE)).c1, (T1.out.later (hE)).c2, (T1.out.later (hE)).c3, (T1.out.later (hE)).c4⟩ | with_reducible exact ⟨(T1.out.later (((Fresh.refl W).alloc _ _).drew)).c0, (T1.out.later (((Fresh.refl W).alloc _ _).drew)).c1, (T1.out.later (((Fresh.refl W).alloc _ _).drew)).c2, (T1.out.later (((Fresh.refl W).alloc _ _).drew)).c3, (T1.out.later (((Fresh.refl W).alloc _ _).drew)).c4⟩ | with_reducible exact ⟨(T1.out.later (hE.alloc _ _)).c0, (T1.out.later (hE.alloc _ _)).c1, (T1.out.later (hE.alloc _ _)).c2, (T1.out.later (hE.alloc _ _)).c3, (T1.out.later (hE.alloc _ _)).c4⟩ | with_reducible exact ⟨(T1.out.later ((((((hE).setCell (Nat.le_refl _) _).setCell (Nat.le_refl _) _).setCell (Nat.le_refl _) _).setCell (Nat.le_refl _) _).setCell (Nat.le_refl _) _)).c0, (T1.out.later ((((((hE).setCell (Nat.le_refl _) _).setCell (Nat.le_refl _) _).setCell (Nat.le_refl _) _).setCell (Nat.le_refl _) _).setCell (Nat.le_refl _) _)).c1, (T1.out.later ((((((hE).setCell (Nat.le_refl _) _).setCell (Nat.le_refl _) _).setCell (Nat.le_refl _) _).setCell (Nat.le_refl _) _).setCell (Nat.le_refl _) _)).c2, (T1.out.later ((((((hE).setCell (Nat.le_refl _) _).setCell (Nat.le_refl _) _).setCell (Nat.le_refl _) _).setCell (Nat.le_refl _) _).setCell (Nat.le_refl _) _)).c3, (T1.out.later ((((((hE).setCell (Nat.le_refl _) _).setCell (Nat.le_refl _) _).setCell (Nat.le_refl _) _).setCell (Nat.le_refl _) _).setCell (Nat.le_refl _) _)).c4⟩ | with_reducible exact ⟨(T1.out.later ((((((hE).setCell hz2 _).setCell hz2 _).setCell hz2 _).setCell hz2 _).setCell hz2 _)).c0, (T1.out.later ((((((hE).setCell hz2 _).setCell hz2 _).setCell hz2 _).setCell hz2 _).setCell hz2 _)).c1, (T1.out.later ((((((hE).setCell hz2 _).setCell hz2 _).setCell hz2 _).setCell hz2 _).setCell hz2 _)).c2, (T1.out.later ((((((hE).setCell hz2 _).setCell hz2 _).setCell hz2 _).setCell hz2 _).setCell hz2 _)).c3, (T1.out.later ((((((hE).setCell hz2 _).setCell hz2 _).setCell hz2 _).setCell hz2 _).setCell hz2 _)).c4⟩) (first | (go_at_call 34; (with_reducible refine (fields_any r np nc tp tc w _ (by first | exact F1.out.trans hE | exact F1.out.trans ((Fresh.refl W).alloc _ _).drew) HR.out HN.out).mono ?_); rintro e w2 ⟨⟨p2, c2, xs2, rfl, hown2, hfc2⟩, h2⟩; have hFS := Lib.hid (FSlice.of_own (ok := fun _ => True) (fun _ _ => trivial) hown2 (hfc2.mono (fun _ _ _ => trivial))); have hE : Fresh W w2 := (by first | exact hE.trans h2 | exact ((Fresh.refl W).alloc _ _).drew.trans h2); have hz2 : W.heap.size ≤ w2.heap.size := hE.size; (try (have T18 := (Blk.new W #[.string ⟨#[]⟩, .bool false, .slice none 0 0, .int .i64 0, .int .i64 0] 36).fresh ((Fresh.refl _).drew.trans h2); have HT := Lib.hid T18; have hz3 : W.heap.size < w2.heap.size := T18.2.2; clear T18)); have hb3 : w.heap.size < w2.heap.size := (by omega); clear h2 hown2 hfc2) | (go_at_call 33; (with_reducible refine (lay_uni r p2 c2 w2 _ (by first | exact Fresh.refl _ | exact (Fresh.refl _).alloc _ _) hFS.out).mono ?_); rintro e w3 ⟨⟨nm, un, fp, n, fc, S, A, I, C, rfl, hMP⟩, h3⟩; have HMP := Lib.hid hMP; have hE3 : Fresh W w3 := (by first | exact hE.trans h3 | exact (hE.alloc _ _).trans h3); (try (have T18 := HT.out.fresh h3; have y0 := T18.1 0 _ rfl; have y1 := T18.1 1 _ rfl; have y2 := T18.1 2 _ rfl; have y3 := T18.1 3 _ rfl; have y4 := T18.1 4 _ rfl; have yf := T18.2.1; have yz := T18.2.2; have HB3 := Lib.hid T18; clear T18)); (try (have T18 := (Blk.new w2 #[.string ⟨#[]⟩, .bool false, .slice none 0 0, .int .i64 0, .int .i64 0] 36).fresh h3; have y0 := T18.1 0 _ rfl; have y1 := T18.1 1 _ rfl; have y2 := T18.1 2 _ rfl; have y3 := T18.1 3 _ rfl; have y4 := T18.1 4 _ rfl; have yf := T18.2.1; have yz := T18.2.2; have HB3 := Lib.hid T18; clear T18)); have hE := hE3; have hb4 : w.heap.size < w3.heap.size := (by have := hE3.size; omega); clear h3 hMP hE3))
    all_goals (go_wp2_with fail; go_meet)
    all_goals (refine ⟨_, _, _, rfl, rfl, rfl, Lib.hid ?_⟩)
    all_goals first
      | exact ⟨_, nm, un, fp, n, fc, S, A, hE.size, hE.alloc _ _, Blk.new w3 _ 36, HMP.out.later ((Fresh.refl _).alloc _ _)⟩
      | exact ⟨_, nm, un, fp, n, fc, S, A, hz2, Fresh.setCell (p := ⟨w2.heap.size, 4, none⟩) (Fresh.setCell (p := ⟨w2.heap.size, 3, none⟩) (Fresh.setCell (p := ⟨w2.heap.size, 2, none⟩) (Fresh.setCell (p := ⟨w2.heap.size, 1, none⟩) (Fresh.setCell (p := ⟨w2.heap.size, 0, none⟩) (hE) hz2 _) hz2 _) hz2 _) hz2 _) hz2 _, (((((HB3.out).put (i := 0) (by simp) _).put (i := 1) (by simp) _).put (i := 2) (by simp) _).put (i := 3) (by simp) _).put (i := 4) (by simp) _, (((((HMP.out).set (by simp) 0 _).set (by simp) 1 _).set (by simp) 2 _).set (by simp) 3 _).set (by simp) 4 _⟩
      | exact ⟨_, nm, un, fp, n, fc, S, A, Nat.le_refl _, Fresh.setCell (p := ⟨W.heap.size, 4, none⟩) (Fresh.setCell (p := ⟨W.heap.size, 3, none⟩) (Fresh.setCell (p := ⟨W.heap.size, 2, none⟩) (Fresh.setCell (p := ⟨W.heap.size, 1, none⟩) (Fresh.setCell (p := ⟨W.heap.size, 0, none⟩) (hE) (Nat.le_refl _) _) (Nat.le_refl _) _) (Nat.le_refl _) _) (Nat.le_refl _) _) (Nat.le_refl _) _, (((((HB3.out).put (i := 0) (by simp) _).put (i := 1) (by simp) _).put (i := 2) (by simp) _).put (i := 3) (by simp) _).put (i := 4) (by simp) _, (((((HMP.out).set (by simp; omega) 0 _).set (by simp; omega) 1 _).set (by simp; omega) 2 _).set (by simp; omega) 3 _).set (by simp; omega) 4 _⟩
  case rest =>
    obtain ⟨c, I, C, rfl, rfl, rfl, HC⟩ := hcut
    obtain ⟨ok, nm, un, fp, n, fc, S, A, hc, hf, hb, hm⟩ := HC.out
    clear HC
    have HFW := Lib.hid hf
    have HB := Lib.hid hb
    have HFT := Lib.hid (F1.out.trans hf)
    have T1 := Lib.hid (T1.out.later hf)
    have b0 := (hb).1 0 _ rfl; have b1 := (hb).1 1 _ rfl; have b2 := (hb).1 2 _ rfl; have b3 := (hb).1 3 _ rfl; have b4 := (hb).1 4 _ rfl; have bf := (hb).2.1; have bz := (hb).2.2
    clear hf hb
    rcases hm with ⟨rfl, s, hl, rfl, rfl, rfl, hFS, hS⟩ | ⟨rfl, rfl, hcase⟩
    · have hg := layF_good (r.fds r.N) _ _ (LGood.zero r.un) hl
      have HG := Lib.hid hg.1
      have HLEN : Hid (s.acc.length = r.N) := Lib.hid (by rw [hg.2, Rec.fds_len]; simp [LS.zero])
      have HFS := Lib.hid hFS
      have hbd := mul_bd s.sz s.al hg.1.sz0 hg.1.al2.pos
      have hmax : fc ≤ 9223372036854775807 := hFS.2.2.1
      have hnc : s.acc.length ≤ fc := hFS.2.1
      have HSZ : Hid (s.sz ≤ 1048576 ∧ s.sz ≤ mul s.sz s.al) := Lib.hid (by omega)
      have HMM := Lib.hid (mul_mod s.sz s.al)
      have HAL := Lib.hid hg.1.al2
      clear hg hl hFS hbd hc
      generalize hn : s.acc.length = n at *
      have HNN := Lib.hid hn
      clear hn
      generalize mul s.sz s.al = S at *
      have HS := Lib.hid hS
      clear hS
      go_wp2_with fail
      clear b0 b1 b2 b3 b4 bf bz
      go_loopw [6, 43] (fun e6 i wr => ∃ (k : Nat) (e : Int), k ≤ n ∧ e6 = .int .i64 e ∧ i = .int .i64 k ∧ Hid (Chain r.un e (s.acc.drop k)) ∧ Hid (0 ≤ e ∧ e ≤ 1048576) ∧ Hid (Fresh wc wr)) (fun _ i _ => n - (intOf i).toNat)
      case atStart => exact ⟨0, 0, by omega, rfl, rfl, Lib.hid HG.out.chain, Lib.hid (by omega), Lib.hid (Fresh.refl _)⟩
      case round =>
        obtain ⟨k, e, hk, rfl, rfl, HC, HE, FW⟩ := hrel
        by_cases hlt : k < n
        · obtain ⟨x, hx⟩ : ∃ x, s.acc[k]? = some x := ⟨_, List.getElem?_eq_getElem (by have := HNN.out; omega)⟩
          have hd : s.acc.drop k = x :: s.acc.drop (k + 1) := by
            obtain ⟨hk', rfl⟩ := List.getElem?_eq_some_iff.1 hx
            exact List.drop_eq_getElem_cons hk'
          have hch := HC.out
          rw [hd] at hch
          obtain ⟨⟨hp, z0, z1, hoff, o0, hu1, hu2⟩, hch2⟩ := hch
          have HC2 := Lib.hid hch2
          obtain ⟨hal1, hal2⟩ := HG.out.all x (List.mem_of_getElem? hx)
          have hap := hp.pos
          have ha8 : al x ≤ 8 := by rcases hp with q | q | q | q <;> omega
          obtain ⟨B, off, p', n', c', rfl, hks, hat⟩ := HFS.out.at' hx
          have SZ : Hid (∀ X, Fresh wc X → Calls Tryd.prog 11 #[.agg #[.int .i64 x.h.kind, .int .i64 x.h.size, .int .i64 x.h.len, .bool x.h.flag, .string x.h.name, .slice p' n' c'], .slice none 0 0] X fun e w' => e = .returned (.tuple #[.int .i64 (sz x), .int .i64 (al x)]) ∧ Fresh X w') := Lib.hid (fun X hX => size_all f0 none 0 0 good0 (Nat.le_refl _) (Nat.zero_le _) x.ks ok x.h p' n' c' wc X hX hks (Or.inl rfl))
          have hat2 := hat.later FW.out
          obtain ⟨c0, c1, c2, c3, c4, c5, c6, c7⟩ := hat2
          have cz := cell_lt c0
          simp only at cz
          clear hx hd hch2 hks hat
          have hlt' : (k : Int) < (n : Int) := by omega
          have HOK := Lib.hid (And.intro hoff (And.intro o0 (And.intro hu1 (And.intro hu2 (And.intro hal1 (And.intro hal2 (And.intro z0 (And.intro z1 (And.intro hap ha8)))))))))
          clear hoff o0 hu1 hu2 hal1 hal2 z0 z1 hap ha8 hp
          generalize sz x = Z at *
          generalize al x = a at *
          go_upto_region 10 with fail
          have F9 : Hid (Fresh wc (wr.alloc (.cells #[.string x.nm, .int .i64 x.h.kind, .int .i64 x.h.size, .int .i64 x.h.len, .bool x.h.flag, .string x.h.name, .slice p' n' c', .int .i64 x.off] 59))) := Lib.hid (FW.out.trans (by (repeat' first | with_reducible exact Fresh.refl _ | with_reducible assumption | with_reducible refine Fresh.alloc ?_ _ _ | with_reducible refine Fresh.drew ?_ | with_reducible refine Fresh.drewN ?_ _ | with_reducible refine Fresh.setCell ?_ ?_ _ | with_reducible refine Fresh.trans ?_ (by assumption) | (simp; done) | (simp; omega))))
          have T8 : Hid (Blk (wr.alloc (.cells #[.string x.nm, .int .i64 x.h.kind, .int .i64 x.h.size, .int .i64 x.h.len, .bool x.h.flag, .string x.h.name, .slice p' n' c', .int .i64 x.off] 59)) wr.heap.size [.string x.nm, .int .i64 x.h.kind, .int .i64 x.h.size, .int .i64 x.h.len, .bool x.h.flag, .string x.h.name, .slice p' n' c', .int .i64 x.off]) := Lib.hid (Blk.new wr #[.string x.nm, .int .i64 x.h.kind, .int .i64 x.h.size, .int .i64 x.h.len, .bool x.h.flag, .string x.h.name, .slice p' n' c', .int .i64 x.off] 59)
          clear c0 c1 c2 c3 c4 c5 c6 c7 cz FW
          generalize (wr.alloc (.cells #[.string x.nm, .int .i64 x.h.kind, .int .i64 x.h.size, .int .i64 x.h.len, .bool x.h.flag, .string x.h.name, .slice p' n' c', .int .i64 x.off] 59)) = W9 at *
          generalize wr.heap.size = b8 at *
          have t8 := T8.out
          have t0 := (t8).1 0 _ rfl; have t1 := (t8).1 1 _ rfl; have t2 := (t8).1 2 _ rfl; have t3 := (t8).1 3 _ rfl; have t4 := (t8).1 4 _ rfl; have t5 := (t8).1 5 _ rfl; have t6 := (t8).1 6 _ rfl; have t7 := (t8).1 7 _ rfl; have tf := (t8).2.1; have tz := (t8).2.2
          clear t8
          go_wp2_with fail
          clear t0 t1 t2 t3 t4 t5 t6 t7 tf tz
          go_at_call 11; refine (SZ.out _ F9.out).mono ?_; rintro e2 w10 ⟨rfl, h10⟩
          have F10 := Lib.hid (F9.out.trans h10)
          have t8 := T8.out.fresh h10
          have t2 := t8.1 7 _ rfl
          have hB := HB.out.fresh F10.out
          have b0 := (hB).1 0 _ rfl; have b1 := (hB).1 1 _ rfl; have b2 := (hB).1 2 _ rfl; have b3 := (hB).1 3 _ rfl; have b4 := (hB).1 4 _ rfl; have bf := (hB).2.1; have bz := (hB).2.2
          have T2 := T1.out.later F10.out
          have r1 := T2.c1
          clear t8 hB T2 h10
          go_upto_region 11 with fail
          obtain ⟨hoff, o0, hu1, hu2, hal1, hal2, z0, z1, ap, ha8⟩ := HOK.out
          have HU := Lib.hid (And.intro hu1 hu2)
          have hz := HSZ.out
          have hs := HS.out
          have hap := HAL.out.pos
          have g1 : x.off.tmod a = 0 := by rw [Int.tmod_eq_emod_of_nonneg o0]; exact hoff
          have g2 : s.al.tmod a = 0 := by rw [Int.tmod_eq_emod_of_nonneg (by omega)]; exact hal1
          have g3 : x.off + Z ≤ S := by omega
          have he := HE.out
          clear hu1 hu2 hoff hal1 hal2 hz
          rcases (Bool.eq_false_or_eq_true r.un).symm with hun | hun
          · have hq := HU.out.2 hun
            rw [hun] at r1
            have HUN := Lib.hid hun
            clear hun
            go_wp2_with fail
            go_roundw
            case rel => exact ⟨k + 1, x.off + Z, by omega, rfl, by go_num, HC2, Lib.hid (by omega), F10⟩
            case measure => simp [intOf]; omega
          · have hq := HU.out.1 hun
            rw [hun] at r1
            have HUN := Lib.hid hun
            clear hun
            go_wp2_with fail
            go_roundw
            case rel => exact ⟨k + 1, Z, by omega, rfl, by go_num, Lib.hid (by have := HC2.out; rw [hq, Int.zero_add] at this; exact this), Lib.hid (by omega), F10⟩
            case measure => simp [intOf]; omega
        · obtain rfl : k = n := by omega
          have hB := HB.out.fresh FW.out
          have b0 := (hB).1 0 _ rfl; have b1 := (hB).1 1 _ rfl; have b2 := (hB).1 2 _ rfl; have b3 := (hB).1 3 _ rfl; have b4 := (hB).1 4 _ rfl; have bf := (hB).2.1; have bz := (hB).2.2
          have T2 := T1.out.later FW.out
          have r3 := T2.c3
          clear hB T2
          have hap := HAL.out.pos
          have hsz := HSZ.out
          have hsn := HG.out.sz0
          have g1 : S.tmod s.al = 0 := by rw [Int.tmod_eq_emod_of_nonneg (by omega)]; exact HMM.out
          have hs := HS.out
          have hln : ((k : Int) == (r.N : Int)) = true := by rw [HLEN.out]; simp
          go_wp2_with fail
          go_returns
          exact ⟨rfl, HFT.out.trans FW.out⟩
    · rcases hcase with ⟨rfl, rfl⟩ | ⟨hI, rfl | rfl⟩
      · clear hc
        go_wp2_with fail
        go_returns
        exact ⟨rfl, HFT.out⟩
      · clear hc
        have q1 : decide (0 ≤ I) = true := by simpa using hI
        go_wp2_with fail
        go_returns
        exact ⟨rfl, HFT.out⟩
      · clear hc
        have q1 : decide (0 ≤ I) = true := by simpa using hI
        go_wp2_with fail
        go_returns
        exact ⟨rfl, HFT.out⟩
end Go.Proofs.YteiomcbphbbpkaaDoor
