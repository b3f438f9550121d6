/- Two rows that a walk makes longer, beside one another. -/
import Derived.Test.YtlmlgdojmcmllaaRi
namespace Go.Proofs.Ytlmlgdojmcmllaa
set_option linter.unusedSimpArgs false
set_option linter.unusedVariables false
open Go.RowKit
open Solve

structure Nice (g : Graph) (s l : List Nat) : Prop where
  ns : s.Nodup
  lt : ∀ x ∈ s, x < g.length
  nl : l.Nodup
  sub : ∀ x ∈ l, x ∈ s
theorem nice_visits {g : Graph} {ks s l s' l' : List Nat} (a : Visits g ks s l s' l') (h : Nice g s l) (hk : ∀ k ∈ ks, k < g.length) : Nice g s' l' := by
  induction a with
  | nil => exact h
  | skip _ _ ih => exact ih h fun k hk' => hk k (by simp [hk'])
  | @go k ks s l s1 l1 s' l' hn a1 a2 ih1 ih2 =>
    have hkl : k ∉ l := fun e => hn (h.sub k e)
    have h1 : Nice g (s ++ [k]) l := ⟨List.nodup_append.2 ⟨h.ns, by simp, fun x hx y hy => by
        have : y = k := by simpa using hy
        exact fun e => hn (this ▸ e ▸ hx)⟩, fun x hx => by
        rcases List.mem_append.1 hx with e | e
        · exact h.lt x e
        · have : x = k := by simpa using e
          rw [this]; exact hk k (by simp), h.nl, fun x hx => List.mem_append_left _ (h.sub x hx)⟩
    have h2 := ih1 h1 fun j hj => fol_lt hj
    have v := visits_vis a1 h1.sub h1.nl
    have hk1 : k ∉ l1 := fun e => v.fresh k e hkl (by simp)
    have hks : k ∈ s1 := (v.new k).2 (Or.inl (by simp))
    refine ih2 ⟨h2.ns, h2.lt, List.nodup_append.2 ⟨h2.nl, by simp, fun x hx y hy => by
        have : y = k := by simpa using hy
        exact fun e => hk1 (this ▸ e ▸ hx)⟩, fun x hx => ?_⟩ fun j hj => hk j (by simp [hj])
    rcases List.mem_append.1 hx with e | e
    · exact h2.sub x e
    · have : x = k := by simpa using e
      rw [this]; exact hks
theorem nat_sub : ∀ {a b : List Nat}, a.Nodup → (∀ x ∈ a, x ∈ b) → a.length ≤ b.length
  | [], _, _, _ => by simp
  | x :: a, b, h, hs => by
    have h' := List.nodup_cons.1 h
    have hx : x ∈ b := hs x (by simp)
    have := nat_sub (a := a) (b := b.erase x) h'.2 fun y hy => by
      have hne : y ≠ x := fun e => h'.1 (e ▸ hy)
      exact (List.mem_erase_of_ne hne).2 (hs y (by simp [hy]))
    have e := List.length_erase_of_mem hx
    have : 0 < b.length := List.length_pos_of_mem hx
    simp only [List.length_cons]; omega
theorem Nice.ls {g : Graph} {s l : List Nat} (h : Nice g s l) : l.length ≤ s.length := nat_sub h.nl h.sub
theorem Nice.sn {g : Graph} {s l : List Nat} (h : Nice g s l) : s.length ≤ g.length := by
  have := nat_sub (b := List.range g.length) h.ns fun x hx => List.mem_range.2 (h.lt x hx)
  rwa [List.length_range] at this
theorem Nice.room {g : Graph} {s l : List Nat} (h : Nice g s l) {i : Nat} (hi : i < g.length) (hn : i ∉ s) : s.length < g.length := by
  have := nat_sub (a := i :: s) (b := List.range g.length) (List.nodup_cons.2 ⟨hn, h.ns⟩) fun x hx => by
    rcases List.mem_cons.1 hx with e | e
    · rw [e]; exact List.mem_range.2 hi
    · exact List.mem_range.2 (h.lt x e)
  rw [List.length_range] at this
  simp only [List.length_cons] at this
  omega
theorem Nice.push {g : Graph} {s l : List Nat} (h : Nice g s l) {k : Nat} (hk : k < g.length) (hn : k ∉ s) : Nice g (s ++ [k]) l :=
  ⟨List.nodup_append.2 ⟨h.ns, by simp, fun x hx y hy => by
        have : y = k := by simpa using hy
        exact fun e => hn (this ▸ e ▸ hx)⟩, fun x hx => by
        rcases List.mem_append.1 hx with e | e
        · exact h.lt x e
        · have : x = k := by simpa using e
          rw [this]; exact hk, h.nl, fun x hx => List.mem_append_left _ (h.sub x hx)⟩
theorem has_ints (l : List Nat) (k : Nat) : has (ints l) (k : Int) = decide (k ∈ l) := by
  unfold has ints
  rw [decide_eq_decide, List.mem_map]
  constructor
  · rintro ⟨a, ha, e⟩
    have : a = k := by omega
    exact this ▸ ha
  · intro h; exact ⟨k, h, rfl⟩
/-- Two rows of the call's own. -/
structure Two (B0 : Nat) (w : World) (sv lv : Value) (s l : List Nat) : Prop where
  qs : Que w B0 3 sv (nums (ints s))
  ql : Que w B0 3 lv (nums (ints l))
  ap : ∀ b, sv.ownBlock = some b → lv.ownBlock ≠ some b
/-- What becomes of the rest. -/
structure Tr2 (B0 : Nat) (w w' : World) (sv lv sv' lv' : Value) : Prop where
  bel : Below B0 w w'
  sts : Sts (fun b => some b ≠ sv.ownBlock ∧ some b ≠ lv.ownBlock) w w'
  os : ∀ b, sv'.ownBlock = some b → sv.ownBlock = some b ∨ lv.ownBlock = some b ∨ w.heap.size ≤ b
  ol : ∀ b, lv'.ownBlock = some b → sv.ownBlock = some b ∨ lv.ownBlock = some b ∨ w.heap.size ≤ b
theorem Two.fresh {B0 : Nat} {w w' : World} {sv lv : Value} {s l : List Nat} (h : Two B0 w sv lv s l) (hf : Fresh w w') : Two B0 w' sv lv s l := ⟨h.qs.fresh hf, h.ql.fresh hf, h.ap⟩
theorem Tr2.refl (B0 : Nat) (w : World) (sv lv : Value) : Tr2 B0 w w sv lv sv lv := ⟨Below.refl _ _, fun _ _ _ _ h => h, fun _ h => Or.inl h, fun _ h => Or.inr (Or.inl h)⟩
theorem Tr2.fresh {B0 : Nat} {w w1 w2 : World} {a b c d : Value} (h : Tr2 B0 w w1 a b c d) (hf : Fresh w1 w2) (hB : B0 ≤ w.heap.size) : Tr2 B0 w w2 a b c d :=
  ⟨h.bel.trans (hf.below.mono (Nat.le_trans hB h.bel.size)), h.sts.trans (hf.sts _), h.os, h.ol⟩
theorem Tr2.trans {B0 : Nat} {w w1 w2 : World} {a b c d e f : Value} (h : Tr2 B0 w w1 a b c d) (k : Tr2 B0 w1 w2 c d e f) : Tr2 B0 w w2 a b e f := by
  have hz := h.bel.size
  refine ⟨h.bel.trans k.bel, fun x o v hx hv => ?_, fun x hx => ?_, fun x hx => ?_⟩
  · have hlt : x < w.heap.size := cell_lt hv
    refine k.sts x o v ⟨fun e1 => ?_, fun e1 => ?_⟩ (h.sts x o v hx hv)
    · rcases h.os x e1.symm with r | r | r
      · exact hx.1 r.symm
      · exact hx.2 r.symm
      · omega
    · rcases h.ol x e1.symm with r | r | r
      · exact hx.1 r.symm
      · exact hx.2 r.symm
      · omega
  · rcases k.os x hx with r | r | r
    · exact h.os x r
    · exact h.ol x r
    · exact Or.inr (Or.inr (by omega))
  · rcases k.ol x hx with r | r | r
    · exact h.os x r
    · exact h.ol x r
    · exact Or.inr (Or.inr (by omega))
theorem two_seen {B0 : Nat} {w wa w1 : World} {sv lv sv' : Value} {s l : List Nat} {i : Nat} (h : Two B0 w sv lv s l) (hB : B0 ≤ w.heap.size) (hf : Fresh w wa) (hq : Que w1 B0 3 sv' (nums (ints s) ++ [Value.int IntKind.i64 (i : Int)])) (hg : wa.grownBy w1 sv.ownBlock) (hat : sv'.ownBlock = sv.ownBlock ∨ sv'.ownBlock = some wa.heap.size) :
    Two B0 w1 sv' lv (s ++ [i]) l ∧ Tr2 B0 w w1 sv lv sv' lv := by
  have hz := hf.size
  refine ⟨⟨by rw [ints_app, nums_app]; exact hq, h.ql.kept fun k hk => ?_, fun b hb => ?_⟩, ?_, ?_, fun b hb => ?_, fun b hb => Or.inr (Or.inl hb)⟩
  · have hl := (h.ql.lt k hk).2
    rw [hg.block k (by omega) (fun e => h.ap k e.symm hk)]
    exact hf.below.block k hl
  · rcases hat with e | e
    · exact h.ap b (e ▸ hb)
    · intro hl
      have := (h.ql.lt b hl).2
      rw [e] at hb
      injection hb with hb
      omega
  · exact ((hf.below.mono hB)).grown hg (by omega) fun k hk => (h.qs.lt k hk).1
  · exact (hf.sts _).trans fun b o v hb hv => sts_grown hg b o v hb.1 hv
  · rcases hat with e | e
    · exact Or.inl (e ▸ hb)
    · rw [e] at hb
      injection hb with hb
      exact Or.inr (Or.inr (by omega))
theorem two_left {B0 : Nat} {w wa w1 : World} {sv lv lv' : Value} {s l : List Nat} {i : Nat} (h : Two B0 w sv lv s l) (hB : B0 ≤ w.heap.size) (hf : Fresh w wa) (hq : Que w1 B0 3 lv' (nums (ints l) ++ [Value.int IntKind.i64 (i : Int)])) (hg : wa.grownBy w1 lv.ownBlock) (hat : lv'.ownBlock = lv.ownBlock ∨ lv'.ownBlock = some wa.heap.size) :
    Two B0 w1 sv lv' s (l ++ [i]) ∧ Tr2 B0 w w1 sv lv sv lv' := by
  have hz := hf.size
  refine ⟨⟨h.qs.kept fun k hk => ?_, by rw [ints_app, nums_app]; exact hq, fun b hb hl => ?_⟩, ?_, ?_, fun b hb => Or.inl hb, fun b hb => ?_⟩
  · have hl := (h.qs.lt k hk).2
    rw [hg.block k (by omega) (fun e => h.ap k hk e.symm)]
    exact hf.below.block k hl
  · rcases hat with e | e
    · exact h.ap b hb (e ▸ hl)
    · have := (h.qs.lt b hb).2
      rw [e] at hl
      injection hl with hl
      omega
  · exact ((hf.below.mono hB)).grown hg (by omega) fun k hk => (h.ql.lt k hk).1
  · exact (hf.sts _).trans fun b o v hb hv => sts_grown hg b o v hb.2 hv
  · rcases hat with e | e
    · exact Or.inr (Or.inl (e ▸ hb))
    · rw [e] at hb
      injection hb with hb
      exact Or.inr (Or.inr (by omega))
theorem below_sts {B : Nat} {w w' : World} (h : Below B w w') : Sts (· < B) w w' := fun b o v hb hv => (h.cell (p := ⟨b, o, none⟩) hb).trans hv
theorem tr2_ints {B0 : Nat} {w w' : World} {a b c d u : Value} {x : List Int} (h : Tr2 B0 w w' a b c d) (hx : Ints (fun k => some k ≠ a.ownBlock ∧ some k ≠ b.ownBlock) w u x) : Ints (fun k => some k ≠ c.ownBlock ∧ some k ≠ d.ownBlock) w' u x := by
  have h1 := hx.imp (ok' := fun k => (some k ≠ a.ownBlock ∧ some k ≠ b.ownBlock) ∧ k < w.heap.size) fun k hk hh => ⟨hh, hk⟩
  refine (h1.sts fun k o y hk hy => h.sts k o y hk.1 hy).imp fun k _ hk => ⟨fun e => ?_, fun e => ?_⟩
  · rcases h.os k e.symm with r | r | r
    · exact hk.1.1 r.symm
    · exact hk.1.2 r.symm
    · have := hk.2; omega
  · rcases h.ol k e.symm with r | r | r
    · exact hk.1.1 r.symm
    · exact hk.1.2 r.symm
    · have := hk.2; omega
theorem visits_len {g : Graph} {ks s l s' l' : List Nat} (a : Visits g ks s l s' l') (hs : ∀ x ∈ l, x ∈ s) (hn : l.Nodup) : s.length ≤ s'.length := by
  obtain ⟨S, e⟩ := (visits_vis a hs hn).seen
  rw [e]; simp
theorem Visits.append {g : Graph} {ks ks' s l s1 l1 s2 l2 : List Nat} (a : Visits g ks s l s1 l1) (b : Visits g ks' s1 l1 s2 l2) : Visits g (ks ++ ks') s l s2 l2 := by
  induction a with
  | nil => exact b
  | skip h _ ih => exact .skip h (ih b)
  | go h a _ _ ih => exact .go h a (ih b)
theorem Que.ints {w : World} {base : Nat} {e : TypeId} {v : Value} {l : List Int} (h : Que w base e v (nums l)) : Ints (fun _ => True) w v l := h.row fun _ _ => trivial
def WalkPost (g : Graph) (i : Nat) (B0 : Nat) (s l : List Nat) (sv lv : Value) (w : World) (e : Ending) (w' : World) : Prop :=
  ∃ sv' lv' s' l', e = .returned (.tuple #[sv', lv']) ∧ Visits g [i] s l s' l' ∧ Two B0 w' sv' lv' s' l' ∧ Tr2 B0 w w' sv lv sv' lv'
set_option maxHeartbeats 16000000 in
set_option maxRecDepth 100000 in
theorem walkR_any (g : Graph) (hg : Sm g) (B0 : Nat) (v : Value) : ∀ (m : Nat) (i : Nat) (s l : List Nat) (sv lv : Value) (w : World), g.length ≤ s.length + m → i < g.length → i ∉ s → Nice g s l → B0 ≤ w.heap.size →
    Rows2 (· < B0) (· < B0) w v g → Two B0 w sv lv s l → Calls Try.prog 33 #[v, .int .i64 i, sv, lv] w (WalkPost g i B0 s l sv lv w) := by
  intro m
  induction m with
  | zero =>
    intro i s l sv lv w hm hi hn hN
    have := hN.room hi hn
    omega
  | succ m ih =>
    intro i s l sv lv w hmz hi hn hN hB h hT
    have HR := Lib.hid h
    obtain ⟨p, cap, rfl, ⟨hc, hm⟩, _⟩ := h.form
    unfold maxLen at hm
    have hl := hg.len
    have hro := hN.room hi hn
    have hls := hN.ls
    have HG := Lib.hid hg
    have HT := Lib.hid hT
    have HN := Lib.hid hN
    have HI := Lib.hid hn
    have IH := Lib.hid ih
    have hrow := hg.row i
    obtain ⟨i0, hi0, hz0, hz1, hz2⟩ := info_parts int_info
    clear h hg hT hN hn ih
    go_enter Try.func33, Try.ntmps33
    go_wp2_with (first | (at_builtin; refine wpList_app _ rfl (.tmp 12) (.tmp 14) _ rfl B0 3 i0 (.int .i64 0) 8 Try.underlying28 hi0 hz0 hz1 hz2 rfl _ _ rfl (HT.out.qs.alloc _ _) _ [Value.int IntKind.i64 (i : Int)] rfl (news_one _ _ _ _) (by intro y hy; simp at hy; subst hy; rfl) (by simp only [nums_len, ints_len, List.length_singleton, maxLen]; omega) (by simp only [nums_len, ints_len, List.length_singleton]; omega) (by simp; omega) ?_; intro sv1 w1 hq1 hg1 ha1; have HT1 := Lib.hid (two_seen HT.out hB ((Fresh.refl w).alloc _ _) hq1 hg1 ha1); clear hq1 hg1 ha1; have hz1w := HT1.out.2.bel.size; have hB1 : B0 ≤ w1.heap.size := by omega) | (go_at_call 30; (with_reducible refine (follows_any _ g i _ hi (by omega) (HR.out.sts (below_sts HT1.out.2.bel) (below_sts HT1.out.2.bel))).mono ?_); rintro e1 w2 ⟨u, rfl, hu, h1⟩; have HQ := Lib.hid hu; have HF2 := Lib.hid h1; clear hu h1))
    have hqi : Ints (fun _ => True) w2 u (ints (fol g i)) := HQ.out.row (fun _ _ => trivial)
    obtain ⟨q, cap', hq, ⟨hc', hm'⟩, _⟩ := hqi.form
    clear hqi
    unfold maxLen at hm'
    rw [ints_len] at hq hc'
    subst hq
    have hfl : (fol g i).length ≤ 20 := Nat.le_trans (nodes_len _ _) hrow
    have HP := Lib.hid (HN.out.push hi HI.out)
    have HX : Hid (Ints (fun k => some k ≠ sv1.ownBlock ∧ some k ≠ lv.ownBlock) w2 (.slice q (fol g i).length cap') (ints (fol g i))) := by
      refine Lib.hid (HQ.out.row fun b hb => ?_)
      have h0 := (HQ.out.lt b hb).1
      exact ⟨fun e => by have := (HT1.out.1.qs.lt b e.symm).2; omega, fun e => by have := (HT1.out.1.ql.lt b e.symm).2; omega⟩
    have HT2 := Lib.hid (HT1.out.1.fresh HF2.out)
    have HR2 := Lib.hid (HT1.out.2.fresh HF2.out hB)
    clear HQ HT1 HF2
    go_loopg [2, 3, 11] (fol g i).length (fun k s2 s3 s11 wx => ∃ (s1 l1 : List Nat) (j : Nat), s11 = .int .i64 j ∧ j ≤ (fol g i).length ∧ k = (fol g i).length - j ∧ Hid (Two B0 wx s2 s3 s1 l1) ∧ Hid (Tr2 B0 w wx sv lv s2 s3) ∧ Hid (Ints (fun k => some k ≠ s2.ownBlock ∧ some k ≠ s3.ownBlock) wx (.slice q (fol g i).length cap') (ints (fol g i))) ∧ Hid (Visits g ((fol g i).take j) (s ++ [i]) l s1 l1) ∧ Hid (Nice g s1 l1))
    case atStart => exact ⟨s ++ [i], l, 0, rfl, by omega, rfl, HT2, HR2, HX, Lib.hid .nil, HP⟩
    case round =>
      clear HT2 HR2 HX
      obtain ⟨s1, l1, j, rfl, hj, rfl, HT2, HR2, HX, HV, HN1⟩ := hrel
      have hBr : B0 ≤ wr.heap.size := Nat.le_trans hB HR2.out.bel.size
      by_cases hjl : j < (fol g i).length
      · obtain ⟨B', off', rfl, hB', hcell⟩ := nodes_cell HX.out hjl
        obtain ⟨x, hx⟩ : ∃ x, x = (fol g i)[j] := ⟨_, rfl⟩
        rw [← hx] at hcell
        have hxm : x ∈ fol g i := by rw [hx]; exact List.getElem_mem hjl
        have hxl : x < g.length := fol_lt hxm
        have HTK := Lib.hid (take_one hjl)
        rw [← hx] at HTK
        have HC := Lib.hid hcell
        clear hx hxm
        by_cases hin : x ∈ s1
        · have HH := Lib.hid (show has (ints s1) (x : Int) = true by rw [has_ints]; simpa using hin)
          have HV' := Lib.hid (HV.out.snoc hin)
          rw [← HTK.out] at HV'
          clear hin
          go_wp2_with (go_at_call 22; (with_reducible refine (has_any _ (ints s1) _ _ HT2.out.qs.ints).mono ?_); rintro e w3 ⟨rfl, h3⟩; rw [HH.out]; have F3 := Lib.hid h3; clear h3)
          go_roundg ((fol g i).length - (j + 1))
          case measure => go_light; omega
          case rel => go_light; exact ⟨s1, l1, j + 1, by go_num, by omega, rfl, Lib.hid (HT2.out.fresh F3.out), Lib.hid (HR2.out.fresh F3.out hB), Lib.hid (HX.out.fresh F3.out), HV', HN1⟩
        · have HH := Lib.hid (show has (ints s1) (x : Int) = false by rw [has_ints]; simpa using hin)
          have HIN := Lib.hid hin
          have hmz' : g.length ≤ s1.length + m := by
            have := visits_len HV.out HP.out.sub HP.out.nl
            simp at this; omega
          clear hin
          go_wp2_with (first | (go_at_call 22; (with_reducible refine (has_any _ (ints s1) _ _ HT2.out.qs.ints).mono ?_); rintro e w3 ⟨rfl, h3⟩; rw [HH.out]; have F3 := Lib.hid h3; clear h3; have HC3 := F3.out.sts (fun _ => True) _ _ _ trivial HC.out) | (go_at_call 33; (with_reducible refine (IH.out x s1 l1 u2 u3 _ hmz' hxl HIN.out HN1.out (Nat.le_trans hBr F3.out.size) (HR.out.sts (below_sts (HR2.out.fresh F3.out hB).bel) (below_sts (HR2.out.fresh F3.out hB).bel)) (HT2.out.fresh F3.out)).mono ?_); rintro e w4 ⟨sv4, lv4, s4, l4, rfl, hv4, ht4, htr4⟩; have HV4 := Lib.hid hv4; have HT4 := Lib.hid ht4; have HTR4 := Lib.hid htr4; clear hv4 ht4 htr4 HC3))
          have HV5 : Hid (Visits g ((fol g i).take (j + 1)) (s ++ [i]) l s4 l4) := Lib.hid (by rw [HTK.out]; exact Visits.append HV.out HV4.out)
          have HN5 := Lib.hid (nice_visits HV4.out HN1.out (by intro k hk; have : k = x := by simpa using hk
                                                               omega))
          have HR5 := Lib.hid ((HR2.out.fresh F3.out hB).trans HTR4.out)
          have HX5 := Lib.hid (tr2_ints HTR4.out (HX.out.fresh F3.out))
          go_roundg ((fol g i).length - (j + 1))
          case measure => go_light; omega
          case rel => go_light; exact ⟨s4, l4, j + 1, by go_num, by omega, rfl, HT4, HR5, HX5, HV5, HN5⟩
      · have HV5 : Hid (Visits g (fol g i) (s ++ [i]) l s1 l1) := by
          have := HV.out
          rw [List.take_of_length_le (by omega)] at this
          exact Lib.hid this
        have hls1 := HN1.out.ls
        have hsn1 := HN1.out.sn
        go_wp2_with (at_builtin; refine wpList_app _ rfl (.tmp 44) (.tmp 46) _ rfl B0 3 i0 (.int .i64 0) 8 Try.underlying28 hi0 hz0 hz1 hz2 rfl _ _ rfl (HT2.out.ql.alloc _ _) _ [Value.int IntKind.i64 (i : Int)] rfl (news_one _ _ _ _) (by intro y hy; simp at hy; subst hy; rfl) (by simp only [nums_len, ints_len, List.length_singleton, maxLen]; omega) (by simp only [nums_len, ints_len, List.length_singleton]; omega) (by simp; omega) ?_; intro lv5 w5 hq5 hg5 ha5; have HT5 := Lib.hid (two_left HT2.out hBr ((Fresh.refl wr).alloc _ _) hq5 hg5 ha5); clear hq5 hg5 ha5)
        go_ret2
        exact ⟨_, _, _, _, rfl, .go HI.out HV5.out .nil, HT5.out.1, HR2.out.trans HT5.out.2⟩
end Go.Proofs.Ytlmlgdojmcmllaa
