/- A row of bytes of the call's own, beside boxes of other types. -/
import Derived.Test.YtcmfmfgedhfaeaaGreatDoorNd
import Derived.Test.YtcmfmfgedhfaeaaGreatDoorLt
import Derived.Test.YtcmfmfgedhfaeaaGreatDoorMb
import Derived.Test.YtcmfmfgedhfaeaaGreatDoorUa
import Derived.Lib.MapLaws
import Derived.Stop.FmtQuoteTie
import Derived.Stop.FmtRuneSmall
import Derived.Deep.CutRange
import Derived.Deep.CutBlock
namespace Go.Proofs.YtcmfmfgedhfaeaaGreatDoor
set_option linter.unusedSimpArgs false
set_option linter.unusedVariables false
open Go.RowKit

theorem sizeB (a : ByteArray) : a.size = a.data.toList.length := by rw [Array.length_toList]; rfl
/-- A block of cells of this type. -/
def Box (w : World) (c : Nat) (t : TypeId) (cs : Array Value) : Prop := w.heap[c]? = some (.cells cs t (0, 0))
theorem Box.new (w : World) (cs : Array Value) (t : TypeId) : Box (w.alloc (.cells cs t)) w.heap.size t cs := heap_alloc_new w _
theorem Box.lt {w : World} {c : Nat} {t : TypeId} {cs : Array Value} (h : Box w c t cs) : c < w.heap.size := (Array.getElem?_eq_some_iff.1 h).1
theorem Box.later {w w' : World} {c : Nat} {t : TypeId} {cs : Array Value} (h : Box w c t cs) (hf : Below w.heap.size w w') : Box w' c t cs := (hf.block c h.lt).trans h
theorem own_belowT {w w' : World} (k : Below w.heap.size w w') {base : Nat} {e : TypeId} {size : Nat} {v : Value} {n : Nat} {xs : List Value} (h : w.ownsRow base e size v n xs) : w'.ownsRow base e size v n xs :=
  h.kept (row := none) ⟨k.os, k.tape, k.output, k.size, fun i hi _ => k.block i hi⟩ (by cases hv : v.ownBlock <;> simp)
/-- A row of bytes of the call's own. -/
structure Rw (w X : World) (v : Value) (l : List UInt8) : Prop where
  own : X.ownsRow w.heap.size 5 1 v l.length (Lib.byteCells l)
  f : Fresh w X
theorem Rw.nil (w X : World) (h : Fresh w X) : Rw w X (.slice none 0 0) [] := ⟨World.ownsRow_nil .., h⟩
theorem Rw.later {w X Y : World} {v : Value} {l : List UInt8} (h : Rw w X v l) (k : Fresh X Y) : Rw w Y v l := ⟨own_belowT k.below h.own, h.f.trans k⟩
theorem Rw.grown {w X Y : World} {v : Value} {l : List UInt8} (h : Rw w X v l) (hg : X.grownBy Y v.ownBlock) : Fresh w Y :=
  ⟨h.f.below.trans ((Kp.grown (R := w.heap.size) (b := w.heap.size) hg (fun g hg => (h.own.lt g hg).1) h.f.size).below (Nat.le_refl _) (Nat.le_refl _) h.f.size)⟩
/-- What is no row of bytes stays. -/
def Keeps (X Y : World) : Prop := ∀ c t cs, t ≠ 5 → Box X c t cs → Box Y c t cs
theorem Keeps.trans {X Y Z : World} (h : Keeps X Y) (k : Keeps Y Z) : Keeps X Z := fun c t cs ht hb => k c t cs ht (h c t cs ht hb)
theorem Keeps.fresh {X Y : World} (h : Fresh X Y) : Keeps X Y := fun c t cs ht hb => hb.later h.below
theorem Rw.not_box {w X : World} {v : Value} {l : List UInt8} (h : Rw w X v l) {c : Nat} {t : TypeId} {cs : Array Value} (ht : t ≠ 5) (hb : Box X c t cs) : v.ownBlock ≠ some c := fun e => by
  rcases h.own.2 with ⟨rfl, _⟩ | ⟨g, cap, cur, rfl, -, hh, -⟩
  · cases e
  · obtain rfl : g = c := Option.some.inj e
    have h2 : X.heap[g]? = some (.cells cs t (0, 0)) := hb
    rw [hh] at h2
    injection h2 with h2
    injection h2 with _ h3
    exact ht h3.symm
theorem Rw.keeps {w X Y : World} {v : Value} {l : List UInt8} (h : Rw w X v l) (hg : X.grownBy Y v.ownBlock) : Keeps X Y := fun c t cs ht hb =>
  (hg.block c hb.lt (fun e => h.not_box ht hb e.symm)).trans hb
/-- A store into a block of another type. -/
theorem Rw.set {w X : World} {v : Value} {l : List UInt8} (h : Rw w X v l) {c : Nat} {t : TypeId} {cs : Array Value} (ht : t ≠ 5) (hb : Box X c t cs) (hc : w.heap.size ≤ c) (o : Nat) (u : Value) : Rw w (X.setCell ⟨c, o, none⟩ u) v l :=
  ⟨h.own.kept (row := some c) ⟨rfl, rfl, rfl, by simp [World.setCell], fun k _ hk => Below.heap_setCell _ _ _ _ (fun e => hk (by simp [e]))⟩ (Or.inr (h.not_box ht hb)), h.f.setCell hc _⟩
theorem Box.put {X : World} {c : Nat} {t : TypeId} {cs : Array Value} (hb : Box X c t cs) (o : Nat) (u : Value) : Box (X.setCell ⟨c, o, none⟩ u) c t (cs.setIfInBounds o u) := by
  unfold Box at *
  simp [World.setCell, Array.getElem?_modify, hb]
theorem Box.off {X : World} {c : Nat} {t : TypeId} {cs : Array Value} (h : Box X c t cs) {c' : Nat} {t' : TypeId} {cs' : Array Value} (ht : t ≠ t') (hb : Box X c' t' cs') (o : Nat) (u : Value) : Box (X.setCell ⟨c', o, none⟩ u) c t cs := by
  have hne : c ≠ c' := fun e => by
    subst e
    have h1 : X.heap[c]? = some (.cells cs t (0, 0)) := h
    have h2 : X.heap[c]? = some (.cells cs' t' (0, 0)) := hb
    rw [h1] at h2
    injection h2 with h2
    injection h2 with _ h3
    exact ht h3
  exact (Below.heap_setCell _ _ _ _ hne).trans h
theorem Rw.back {w X : World} {v : Value} {l : List UInt8} (h : Rw w X v l) (hl : l ≠ []) : (convert 34 9 v).run Tryz.prog X = .ok (.string ⟨l.toArray⟩) X := by
  obtain ⟨g, hg⟩ : ∃ g, v.ownBlock = some g := by
    rcases h.own.2 with ⟨_, h0⟩ | ⟨g, cap, cur, rfl, _⟩
    · exact absurd (List.length_eq_zero_iff.1 h0) hl
    · exact ⟨g, rfl⟩
  have hc := h.own.cells hg
  obtain ⟨cap, rfl⟩ : ∃ cap, v = .slice (some ⟨g, 0, none⟩) l.length cap := by
    rcases h.own.2 with ⟨_, h0⟩ | ⟨g', cap, cur, rfl, _⟩
    · exact absurd (List.length_eq_zero_iff.1 h0) hl
    · obtain rfl : g' = g := Option.some.inj hg
      exact ⟨cap, rfl⟩
  exact run_convert_bytes_back X 34 9 5 ⟨g, 0, none⟩ cap l Tryz.underlying34 Tryz.underlying5 Tryz.underlying9 (fun j hj => hc j _ (by simp [Lib.byteCells, hj]))
theorem wp_strR {ops : Array Oper} {rest : List Oper} {o : Oper} {a : Act} {Q : Exit → Act → World → Prop} {X : World} (hgd : o.guard = none) (sl x : Operand) (ho : o.op = .call { callee := .builtin .append, args := #[sl, x], argTypes := #[34, 9] })
    {w : World} (v : Value) (l : List UInt8) (hs : a.eval sl = v) (h : Rw w X v l) (s : ByteArray) (hx : a.eval x = .string s) (hfit : l.length + s.data.toList.length ≤ 140737488355328)
    (k : ∀ v' X', Rw w X' v' (l ++ s.data.toList) → Keeps X X' → wpList Tryz.prog ops Q rest (a.put o.dst v') X') : wpList Tryz.prog ops Q (o :: rest) a X := by
  obtain ⟨i0, hi, hz0, hz1, hz2⟩ := info_parts info5
  have e := sizeB s
  refine Lib.wpList_append_own_string _ hgd sl x 34 9 ho w.heap.size 5 i0 Tryz.underlying34 Tryz.underlying9 hi hz0 hz1 hz2 v l.length (Lib.byteCells l) hs h.own s hx (by unfold maxLen; omega) (by omega) h.f.size (fun v' X' h1 h2 _ => ?_)
  refine k v' X' ⟨?_, h.grown h2⟩ (h.keeps h2)
  rw [List.length_append, ← e, Lib.byteCells_append]
  exact h1
theorem wp_bytR {ops : Array Oper} {rest : List Oper} {o : Oper} {a : Act} {Q : Exit → Act → World → Prop} {X : World} (hgd : o.guard = none) (sl x : Operand) (ho : o.op = .call { callee := .builtin .append, args := #[sl, x], argTypes := #[34, 34] })
    {w : World} (v : Value) (l : List UInt8) (hs : a.eval sl = v) (h : Rw w X v l) (t : List UInt8) (B n c : Nat) (hx : a.eval x = .slice (some ⟨B, 0, none⟩) n c) (hn : n = t.length) (hc : ∀ j u, (Lib.byteCells t)[j]? = some u → X.cell? ((⟨B, 0, none⟩ : Addr).add j) = some u) (hfit : l.length + t.length ≤ 140737488355328)
    (k : ∀ v' X', Rw w X' v' (l ++ t) → Keeps X X' → wpList Tryz.prog ops Q rest (a.put o.dst v') X') : wpList Tryz.prog ops Q (o :: rest) a X := by
  obtain ⟨i0, hi, hz0, hz1, hz2⟩ := info_parts info5
  subst hn
  refine wpList_append_own X hgd sl x 34 ho w.heap.size 5 i0 (.int .u8 0) 1 1 Tryz.underlying34 hi hz0 hz1 hz2 rfl (by decide) v l.length (Lib.byteCells l) hs h.own ⟨B, 0, none⟩ t.length c (Lib.byteCells t) hx (by rw [Lib.byteCells_length, Nat.mul_one]) hc ?_ (by unfold maxLen; omega) (by omega) h.f.size (fun v' X' h1 h2 _ => ?_)
  · intro u hu
    obtain ⟨b, -, rfl⟩ := List.mem_map.1 hu
    rfl
  · refine k v' X' ⟨?_, h.grown h2⟩ (h.keeps h2)
    rw [List.length_append, Lib.byteCells_append]
    exact h1
theorem new_bytes (X : World) (t : List UInt8) (cs : Array Value) (hcs : cs.toList = Lib.byteCells t) : ∀ j u, (Lib.byteCells t)[j]? = some u → (X.alloc (.cells cs 5)).cell? ((⟨X.heap.size, 0, none⟩ : Addr).add j) = some u := fun j u hu => by
  rw [Go.WideShapes.add_plain, Nat.zero_add, World.cell?_alloc_at _ _ _ _ rfl, ← hu, ← hcs]
  simp
end Go.Proofs.YtcmfmfgedhfaeaaGreatDoor
/- The reference: what stands in quotes. -/
namespace Go.Proofs.YtcmfmfgedhfaeaaGreatDoor
set_option linter.unusedSimpArgs false
set_option linter.unusedVariables false
open Go.RowKit

theorem enc_size (x : List UInt8) (hx : x ≠ []) (hv : Lib.decodeL x ≠ (65533, 1)) : (Utf8.encode ((Lib.decodeL x).1 : Int)).size = (Lib.decodeL x).2 := by
  have h1 := Lib.encode_decode x hx (fun e => hv (Prod.ext e.1 e.2))
  have h2 := congrArg List.length h1
  have h3 := congrArg List.length (Go.Extern.FmtText.encode_eq (Lib.decodeL x).1)
  have hw := decL_w x hx
  unfold Lib.encodeRune at h2
  rw [List.length_map, List.length_take] at h2
  rw [← h3] at h2
  unfold Go.Extern.FmtText.nums at h2
  rw [List.length_map] at h2
  rw [size_list]
  omega
theorem dec_bnd2 (x : List UInt8) : (Lib.decodeL x).1 ≤ 1114111 := by
  have := Go.decode_max ⟨x.toArray⟩ 0
  exact this
theorem ext_tailL (s : ByteArray) (i : Nat) (h : i ≤ s.size) : (s.extract i s.size).data.toList = s.data.toList.drop i := by
  rw [Lib.extract_data, List.take_of_length_le]
  rw [List.length_drop, ← size_list]
  omega
def quoW (s : ByteArray) : PR → Value
  | .err _ => .tuple #[tokV 0 ⟨#[]⟩ 0 ⟨#[]⟩, .bool false]
  | .tok k n b d => .tuple #[tokV k (s.extract 0 n) b ⟨d.toArray⟩, .bool true]
def zTok : Array Value := #[.int .i64 0, .int .i64 0, .int .i64 0, .string ⟨#[]⟩, .int .u64 0, .string ⟨#[]⟩]
theorem Box.blk {w : World} {c : Nat} {t : TypeId} {cs : Array Value} (h : Box w c t cs) : Blk w c cs.toList :=
  ⟨fun i v hv => by rw [Lib.cell_of_heap h]; simpa using hv, fun o => by simp [World.frozen?, (show w.heap[c]? = some (.cells cs t (0, 0)) from h)], h.lt⟩
theorem Rw.iter {w X : World} {v : Value} {l : List UInt8} (h : Rw w X v l) {b : Nat} {t : ByteArray} {p : Nat} (hk : X.heap[b]? = some (.stringIter t p)) (hb : w.heap.size ≤ b) (q : Nat) : Rw w (X.iterAt b t q) v l := by
  have ne : v.ownBlock ≠ some b := fun e => by
    rcases h.own.2 with ⟨rfl, _⟩ | ⟨g, cap, cur, rfl, -, hh, -⟩
    · cases e
    · obtain rfl : g = b := Option.some.inj e
      rw [hh] at hk
      cases hk
  exact ⟨h.own.kept (row := some b) ⟨rfl, rfl, rfl, by rw [Lib.iterAt_size]; exact Nat.le_refl _, fun k _ hk => Lib.iterAt_other X b k t q (fun e => hk (by simp [e]))⟩ (Or.inr ne), ⟨Lib.below_iterAt h.f.below hb t q⟩⟩
theorem Box.iter {X : World} {c : Nat} {ty : TypeId} {cs : Array Value} (h : Box X c ty cs) {b : Nat} {t : ByteArray} {p : Nat} (hk : X.heap[b]? = some (.stringIter t p)) (q : Nat) : Box (X.iterAt b t q) c ty cs := by
  have hne : c ≠ b := fun e => by
    subst e
    have h1 : X.heap[c]? = some (.cells cs ty (0, 0)) := h
    rw [h1] at hk
    cases hk
  exact (Lib.iterAt_other X b c t q hne).trans h
theorem Rw.back2 {w X : World} {v : Value} {l : List UInt8} (h : Rw w X v l) : (convert 34 9 v).run Tryz.prog X = .ok (.string ⟨l.toArray⟩) X := by
  by_cases hl : l = []
  · subst hl
    rcases h.own.2 with ⟨rfl, _⟩ | ⟨g, cap, cur, rfl, -, hh, -⟩
    · rw [run_convert_bytes_string X 34 9 5 none _ _ Tryz.underlying34 Tryz.underlying5 Tryz.underlying9]
      simp [Conv.bytesToString]
      rfl
    · exact run_convert_bytes_back X 34 9 5 ⟨g, 0, none⟩ _ [] Tryz.underlying34 Tryz.underlying5 Tryz.underlying9 (fun j hj => absurd hj (by simp))
  · exact h.back hl
section
set_option maxRecDepth 100000
set_option maxHeartbeats 2000000
theorem quoR_any (s : ByteArray) (q : UInt8) (r : List UInt8) (hl : s.data.toList = q :: r) (hq : q = 39 ∨ q = 34) (hV : Val r) (hs : s.size ≤ 1048576) (w : World) :
    Calls Tryz.prog 32 #[.string s] w fun e w' => e = .returned (quoW s (quoR q r)) ∧ Fresh w w' := by
  have h0 : 0 < s.size := by rw [size_list, hl]; simp
  have h0I : (0 : Int) < (s.size : Int) := by omega
  have hq0 : s[0]'h0 = q := by rw [get_L, hl]; rfl
  obtain ⟨Z, hZ⟩ : ∃ Z, Z = qR q r.length r [] 0 0 := ⟨_, rfl⟩
  have HZ : Hid (quoW s (quoR q r) = quoW s (quoE q s.size Z)) := Lib.hid (by unfold quoR; rw [hZ, size_list, hl]; rfl)
  rw [HZ.out]
  have hd1 : s.data.toList.drop 1 = r := by rw [hl]; rfl
  have HR : Hid (qR q (s.size - 1) (s.data.toList.drop 1) [] 0 0 = Z) := Lib.hid (by rw [hd1, hZ]; congr 1; rw [size_list, hl]; simp)
  have HV : Hid (Val (s.data.toList.drop 1)) := Lib.hid (by rw [hd1]; exact hV)
  have HQ := Lib.hid hq
  have HQ0 := Lib.hid hq0
  clear hZ HZ hd1 hV hl hq hq0
  have A := Lib.hid (Box.new w zTok 32)
  have F := Lib.hid ((Fresh.refl w).alloc zTok 32)
  have W0 := Lib.hid (Rw.nil w _ F.out)
  obtain ⟨qI, hqI⟩ : ∃ qI : Int, qI = (q.toNat : Int) := ⟨_, rfl⟩
  go_enter Tryz.func32, Tryz.ntmps32
  go_upto_block 0 with fail
  change Hid (Box (w.alloc (.cells #[.int .i64 0, .int .i64 0, .int .i64 0, .string ⟨#[]⟩, .int .u64 0, .string ⟨#[]⟩] 32)) w.heap.size 32 zTok) at A
  change Hid (Rw w (w.alloc (.cells #[.int .i64 0, .int .i64 0, .int .i64 0, .string ⟨#[]⟩, .int .u64 0, .string ⟨#[]⟩] 32)) (.slice none 0 0) []) at W0
  clear F
  generalize w.alloc (.cells #[.int .i64 0, .int .i64 0, .int .i64 0, .string ⟨#[]⟩, .int .u64 0, .string ⟨#[]⟩] 32) = W1 at *
  have eC : ((s[0]'h0).toNat : Int) = qI := by rw [hqI, HQ0.out]
  rw [eC]
  have HQI := Lib.hid hqI
  clear hqI eC
  go_cut [5, 6, 7, 8] from 9 to 83 (fun vd vn vv vi wx => ∃ (i n v : Nat) (d : List UInt8), vn = .int .i64 n ∧ vv = .int .u64 v ∧ vi = .int .i64 i ∧ 1 ≤ i ∧ i ≤ s.size ∧ n ≤ i ∧ d.length ≤ i ∧ Hid (Z = some (s.data.toList.drop i, d, n, v)) ∧ Hid (Rw w wx vd d) ∧ Hid (Box wx w.heap.size 32 zTok))
  case first =>
    go_wp2_with fail
    go_loopw [3, 5, 6, 7, 8] (fun vr vd vn vv vi wr => ∃ (i n v f : Nat) (d : List UInt8), vr = .bool false ∧ vn = .int .i64 n ∧ vv = .int .u64 v ∧ vi = .int .i64 i ∧ 1 ≤ i ∧ i ≤ s.size ∧ n ≤ i ∧ d.length ≤ i ∧ s.size ≤ i + f ∧ Hid (qR q f (s.data.toList.drop i) d n v = Z) ∧ Hid (Val (s.data.toList.drop i)) ∧ Hid (Rw w wr vd d) ∧ Hid (Box wr w.heap.size 32 zTok)) (fun _ _ _ _ vi _ => s.size - (intOf vi).toNat)
    case atStart => exact ⟨1, 0, 0, s.size - 1, [], rfl, rfl, rfl, rfl, Nat.le_refl _, h0, by omega, by simp, by omega, HR, HV, W0, A⟩
    case round =>
      obtain ⟨i, n, v, f, d, rfl, rfl, rfl, rfl, h1i, hi, hni, hdi, hif, HS, HVi, HRw, HB⟩ := hrel
      clear HR HV W0 A
      by_cases hlt : i < s.size
      · have hltI : (i : Int) < (s.size : Int) := by omega
        have hC := get_L s i hlt
        have hdr := drop_get s i hlt
        obtain ⟨f, rfl⟩ : ∃ g, f = g + 1 := ⟨f - 1, by omega⟩
        have HS2 : Hid (qR q (f + 1) ((s[i]'hlt) :: s.data.toList.drop (i + 1)) d n v = Z) := Lib.hid (by rw [← hdr]; exact HS.out)
        by_cases c1 : s[i]'hlt = q
        · have e1 : ((s[i]'hlt).toNat : Int) = qI := by rw [c1, HQI.out]
          have b1 : (((s[i]'hlt).toNat : Int) != qI) = false := by simp [e1]
          have hE : Hid (Z = some (s.data.toList.drop i, d, n, v)) := Lib.hid (by
            rw [← HS2.out, hdr]
            simp only [qR, c1, true_or, if_true])
          clear HS HS2 HVi hC hdr c1 e1
          go_wp2_with fail
          go_meet
          exact ⟨i, n, v, d, rfl, rfl, rfl, h1i, hi, hni, hdi, hE, HRw, HB⟩
        · have b1 : (((s[i]'hlt).toNat : Int) != qI) = true := by
            simp only [bne_iff_ne, ne_eq, HQI.out]
            exact fun e => c1 (UInt8.toNat_inj.1 (by omega))
          by_cases c2 : (s[i]'hlt).toNat = 10
          · have b2 : (((s[i]'hlt).toNat : Int) != 10) = false := by simp [c2]
            have c2' : s[i]'hlt = 10 := (u_nat _ 10 (by decide)).2 c2
            have hE : Hid (Z = some (s.data.toList.drop i, d, n, v)) := Lib.hid (by
              rw [← HS2.out, hdr]
              simp only [qR, c2', or_true, if_true])
            clear HS HS2 HVi hC hdr c1 c2 c2'
            go_wp2_with fail
            go_meet
            exact ⟨i, n, v, d, rfl, rfl, rfl, h1i, hi, hni, hdi, hE, HRw, HB⟩
          · have b2 : (((s[i]'hlt).toNat : Int) != 10) = true := by simp only [bne_iff_ne, ne_eq]; omega
            have c2' : ¬ s[i]'hlt = 10 := fun e => c2 ((u_nat _ 10 (by decide)).1 e)
            by_cases c3 : (s[i]'hlt).toNat = 92
            · have b3 : (((s[i]'hlt).toNat : Int) == 92) = true := u8_eq _ 92 c3
              have c3' : s[i]'hlt = 92 := (u_nat _ 92 (by decide)).2 c3
              have hES := fun hk => esc_spec (s.data.toList.drop (i + 1)) hk
              have C := Lib.hid (fun X => escR_any s i hs (by omega) X)
              have HS3 : Hid ((if (escL (s.data.toList.drop (i + 1))).2 = 0 then none else qR q f ((s.data.toList.drop (i + 1)).drop (escL (s.data.toList.drop (i + 1))).2) (d ++ [UInt8.ofNat (escL (s.data.toList.drop (i + 1))).1]) (n + 1) (escL (s.data.toList.drop (i + 1))).1) = Z) := Lib.hid (by
                rw [← HS2.out]
                have c1' : ¬ (92 : UInt8) = q := by rw [← c3']; exact c1
                have e10 : ¬ (92 : UInt8) = 10 := by decide
                rw [c3']
                simp only [qR, c1', e10, or_self, if_false, if_true])
              have HVi2 : Hid (Val (s.data.toList.drop (i + 1))) := Lib.hid (by
                have := HVi.out
                rw [hdr] at this
                exact val_lo this (by omega))
              clear HS HS2 HVi hC hdr c1 c2 c2' c3 c3'
              by_cases hk : (escL (s.data.toList.drop (i + 1))).2 = 0
              · have hZ : Z = none := by rw [← HS3.out, if_pos hk]
                have C2 := Lib.hid (show ∀ X, Calls Tryz.prog 46 #[.string s, .int .i64 i] X fun e w' => e = .returned (.tuple #[.int .u8 0, .int .i64 0, .bool false]) ∧ Fresh X w' from fun X => by
                  have := C.out X
                  unfold escRV at this
                  rw [if_pos hk] at this
                  exact this)
                subst hZ
                clear C hES hk HS3 HVi2
                go_wp2_with fail
                go_at_call 46; refine (C2.out _).mono ?_; rintro e w1 ⟨rfl, f1⟩
                have B := (HB.out.later f1.below).blk
                have r0 := B.1 0 _ rfl
                have r1 := B.1 1 _ rfl
                have r2 := B.1 2 _ rfl
                have r3 := B.1 3 _ rfl
                have r4 := B.1 4 _ rfl
                have r5 := B.1 5 _ rfl
                have rf := B.2.1
                have rz := B.2.2
                have F2 := Lib.hid (HRw.out.f.trans f1)
                clear B HB HRw f1 C2
                go_wp2_with fail
                refine bodyPost_ret (v := ?_) ?_ rfl ?_; rotate_left 1; focus (simp [results, Tryz.results32, go_sem, *]; (try rfl); done)
                exact ⟨rfl, by (repeat' first | with_reducible exact F2.out | with_reducible refine Fresh.setCell ?_ (Nat.le_refl _) _)⟩
              · obtain ⟨kk, hle, hval, -, -, hby⟩ := hES hk
                rw [if_neg hk] at HS3
                have C2 := Lib.hid (show ∀ X, Calls Tryz.prog 46 #[.string s, .int .i64 i] X fun e w' => e = .returned (.tuple #[.int .u8 (escL (s.data.toList.drop (i + 1))).1, .int .i64 ((i + 1 + (escL (s.data.toList.drop (i + 1))).2 : Nat) : Int), .bool true]) ∧ Fresh X w' from fun X => by
                  have := C.out X
                  unfold escRV at this
                  rw [if_neg hk] at this
                  exact this)
                have HV3 := Lib.hid (hval HVi2.out)
                rw [List.length_drop, ← size_list] at hle
                rw [List.drop_drop] at HS3 HV3
                clear C hES hk HVi2 hval
                generalize (escL (s.data.toList.drop (i + 1))).1 = eb at *
                generalize (escL (s.data.toList.drop (i + 1))).2 = ek at *
                have hbu : (UInt8.ofNat eb).toNat = eb := by simp; omega
                have HBC : Hid (Lib.byteCells [UInt8.ofNat eb] = [.int .u8 eb]) := Lib.hid (by simp only [Lib.byteCells, List.map_cons, List.map_nil, hbu])
                have hw1 : IntKind.u64.wrap (eb : Int) = (eb : Int) := IntWalk.u64_in _ (by omega)
                have hw2 : IntKind.i64.wrap ((n : Int) + 1) = (n : Int) + 1 := IntWalk.i64_in _ (by omega)
                have HL : Hid (d.length + 1 ≤ 140737488355328) := Lib.hid (by omega)
                have HDL : Hid ((d ++ [UInt8.ofNat eb]).length ≤ i + 1 + ek) := Lib.hid (by rw [List.length_append]; simp; omega)
                clear hbu
                go_wp2_with fail
                go_at_call 46; refine (C2.out _).mono ?_; rintro e w1 ⟨rfl, f1⟩
                have f5 : Fresh w1 (w1.alloc (.cells #[.int .u8 eb] 5)) := (Fresh.refl w1).alloc _ _
                have R5 := Lib.hid ((HRw.out.later f1).later f5)
                have B5 := Lib.hid ((HB.out.later f1.below).later f5.below)
                clear f1 f5 HB HRw C2
                go_wp2_with (at_builtin; refine wp_bytR rfl _ _ rfl _ _ rfl R5.out [UInt8.ofNat eb] w1.heap.size _ _ rfl rfl (new_bytes w1 [UInt8.ofNat eb] _ HBC.out.symm) HL.out ?_)
                intro v6 X6 r6 k6
                have R6 := Lib.hid r6
                have B6 := Lib.hid (k6 _ _ _ (by decide) B5.out)
                clear r6 k6 R5 B5
                go_wp2_with fail
                go_roundw
                case rel => exact ⟨i + 1 + ek, n + 1, eb, f, _, rfl, by go_num, rfl, rfl, by omega, by omega, by omega, HDL.out, by omega, HS3, HV3, R6, B6⟩
                case measure => simp [intOf]; omega
            · have b3 : (((s[i]'hlt).toNat : Int) == 92) = false := u8_ne _ 92 c3
              have c3' : ¬ s[i]'hlt = 92 := fun e => c3 ((u_nat _ 92 (by decide)).1 e)
              obtain ⟨T, hT⟩ : ∃ T, T = s.extract i s.size := ⟨_, rfl⟩
              have hTl : T.data.toList = s.data.toList.drop i := by rw [hT, ext_tailL _ _ hi]
              have hTz : T.size = s.size - i := by rw [size_list, hTl, List.length_drop, ← size_list]
              have hne : s.data.toList.drop i ≠ [] := by rw [hdr]; simp
              have hvd := val_dec HVi.out hne
              have hdw := decL_w (s.data.toList.drop i) hne
              have hdT : Utf8.decode T 0 = Lib.decodeL (s.data.toList.drop i) := by rw [← Lib.decodeL_drop, hTl, List.drop_zero]
              have hes := enc_size _ hne hvd.1
              have HMX := Lib.hid (dec_bnd2 (s.data.toList.drop i))
              have HS3 : Hid (qR q f (s.data.toList.drop (i + (Lib.decodeL (s.data.toList.drop i)).2)) (d ++ (s.data.toList.drop i).take (Lib.decodeL (s.data.toList.drop i)).2) (n + 1) (Lib.decodeL (s.data.toList.drop i)).1 = Z) := Lib.hid (by
                have e : ∀ (c : UInt8) (y : List UInt8), ¬ c = q → ¬ c = 10 → ¬ c = 92 → qR q (f + 1) (c :: y) d n v = qR q f ((c :: y).drop (Lib.decodeL (c :: y)).2) (d ++ (c :: y).take (Lib.decodeL (c :: y)).2) (n + 1) (Lib.decodeL (c :: y)).1 := fun c y k1 k2 k3 => by
                  simp only [qR, k1, k2, k3, or_self, if_false]
                rw [← HS2.out, e _ _ c1 c2' c3', ← hdr, List.drop_drop])
              have HV3 := Lib.hid hvd.2
              rw [List.drop_drop] at HV3
              rw [List.length_drop, ← size_list] at hdw
              clear HS HS2 HVi hC hdr c1 c2 c2' c3 c3' hvd hne
              generalize hrn : (Lib.decodeL (s.data.toList.drop i)).1 = rn at *
              generalize hwd : (Lib.decodeL (s.data.toList.drop i)).2 = wd at *
              obtain ⟨K, hK⟩ : ∃ K : Nat, K = i + wd := ⟨_, rfl⟩
              rw [← hK] at HS3 HV3
              have HEL : Hid ((s.extract i K).data.toList = (s.data.toList.drop i).take wd) := Lib.hid (by rw [Lib.extract_data, hK, Nat.add_sub_cancel_left])
              have HD0 : Hid (Utf8.decode T 0 = (rn, wd)) := Lib.hid (by rw [hdT, ← hrn, ← hwd])
              have HT := Lib.hid hT
              have HTZ := Lib.hid hTz
              have HES := Lib.hid hes
              clear hT hTl hTz hdT hrn hwd hes
              have s1 : (i : Int) ≤ (s.size : Int) := by omega
              have hwi : Hid (IntKind.i64.wrap ((i : Int) + (wd : Int)) = (K : Int)) := Lib.hid ((IntWalk.i64_in _ (by omega)).trans (by omega))
              have hwr : IntKind.u64.wrap (rn : Int) = (rn : Int) := IntWalk.u64_in _ (by have := HMX.out; omega)
              have HWD := Lib.hid hdw
              have hKi : i < K := by omega
              have hKs : K ≤ s.size := by omega
              have HK := Lib.hid hK
              clear hK
              go_upto_block 2 with fail
              rw [← HT.out]
              have fI : Fresh wr (wr.iter T 0) := (Fresh.refl _).obj _
              have HK0 : Hid ((wr.iter T 0).heap[wr.heap.size]? = some (.stringIter T 0)) := Lib.hid (World.iter_heap wr T 0)
              have HR0 := Lib.hid (HRw.out.later fI)
              have HB0 := Lib.hid (HB.out.later fI.below)
              have HWZ : Hid (w.heap.size ≤ wr.heap.size) := Lib.hid HRw.out.f.size
              clear HRw HB fI
              generalize wr.iter T 0 = WI at *
              generalize wr.heap.size = IB at *
              go_cut [7, 12, 13, 14] from 62 to 74 (fun v7 v12 _ _ wx => v7 = .int .u64 rn ∧ v12 = .int .i64 (K : Int) ∧ Hid (Rw w wx u5 d) ∧ Hid (Box wx w.heap.size 32 zTok))
              case first =>
                go_wp2_with fail
                go_loopw [7, 12] (fun v7 v12 wy => ∃ pos : Nat, Hid (wy.heap[IB]? = some (.stringIter T pos)) ∧ Hid (Rw w wy u5 d) ∧ Hid (Box wy w.heap.size 32 zTok) ∧ ((pos = 0 ∧ v7 = .int .u64 v ∧ v12 = .int .i64 i) ∨ (pos = wd ∧ v7 = .int .u64 rn ∧ v12 = .int .i64 (K : Int)))) (fun _ _ wy => s.size + 1 - wy.iterPos IB)
                case atStart => exact ⟨0, HK0, HR0, HB0, Or.inl ⟨rfl, rfl, rfl⟩⟩
                case round =>
                  obtain ⟨pos, HKy, HRy, HBy, hcase⟩ := hrel
                  clear HR0 HB0 HK0
                  have HMU : Hid (wr.iterPos IB = pos) := Lib.hid (by simp [World.iterPos, HKy.out])
                  have HK1 := Lib.hid (fun p2 : Nat => Lib.iterAt_heap wr IB T pos p2 HKy.out)
                  have HR1 := Lib.hid (fun p2 : Nat => HRy.out.iter HKy.out HWZ.out p2)
                  have HB1 := Lib.hid (fun p2 : Nat => HBy.out.iter HKy.out p2)
                  rcases hcase with ⟨rfl, rfl, rfl⟩ | ⟨rfl, rfl, rfl⟩
                  · have hp : 0 < T.size := by rw [HTZ.out]; omega
                    have hnext := fun ty => Lib.run_next_any_at (P := Tryz.prog) wr IB T 0 ty HKy.out hp
                    rw [HD0.out, Nat.zero_add] at hnext
                    have HK2 := Lib.hid (HK1.out wd)
                    have HR2 := Lib.hid (HR1.out wd)
                    have HB2 := Lib.hid (HB1.out wd)
                    have hes := HES.out
                    have hwi2 := hwi.out
                    simp only at hnext
                    clear HKy HRy HBy HK1 HR1 HB1
                    generalize wr.iterAt IB T wd = W5 at *
                    have HM5 : Hid (W5.iterPos IB = wd) := Lib.hid (by simp [World.iterPos, HK2.out])
                    go_wp2_with fail
                    go_roundw
                    case rel => exact ⟨wd, HK2, HR2, HB2, Or.inr ⟨rfl, rfl, rfl⟩⟩
                    case measure => rw [HM5.out, HMU.out]; have := HWD.out; omega
                  · by_cases hp : pos < T.size
                    · have hnext : ∀ ty, (Instr.next (.pointer (some ⟨IB, 0, none⟩)) true ty).run Tryz.prog wr = _ := fun ty => Lib.run_next_any_at wr IB T pos ty HKy.out hp
                      have hgt : (0 : Int) < (pos : Int) := by have := HWD.out; omega
                      have HR2 := Lib.hid (HR1.out (pos + (Utf8.decode T pos).2))
                      have HB2 := Lib.hid (HB1.out (pos + (Utf8.decode T pos).2))
                      clear HKy HRy HBy HK1 HR1 HB1
                      generalize wr.iterAt IB T (pos + (Utf8.decode T pos).2) = W5 at *
                      generalize (((Utf8.decode T pos).1 : Nat) : Int) = rr at hnext
                      generalize ((pos : Nat) : Int) = P at hnext hgt
                      clear hp
                      go_wp2_with fail
                      go_meet
                      exact ⟨rfl, rfl, HR2, HB2⟩
                    · have hnext : ∀ ty, (Instr.next (.pointer (some ⟨IB, 0, none⟩)) true ty).run Tryz.prog wr = _ := fun ty => Lib.run_next_end_at wr IB T pos ty HKy.out hp
                      clear HK1 HR1 HB1
                      go_wp2_with fail
                      go_meet
                      exact ⟨rfl, rfl, HRy, HBy⟩
              case rest =>
                obtain ⟨rfl, rfl, HR1, HB1⟩ := hcut
                have HL : Hid (d.length + (s.extract i K).data.toList.length ≤ 140737488355328) := Lib.hid (by rw [HEL.out, List.length_take, List.length_drop, ← size_list]; have := HK.out; omega)
                have s2 : (i : Int) ≤ (K : Int) := by omega
                have s3 : (K : Int) ≤ (s.size : Int) := by omega
                have hw2 : IntKind.i64.wrap ((n : Int) + 1) = (n : Int) + 1 := IntWalk.i64_in _ (by omega)
                have HDL : Hid ((d ++ (s.data.toList.drop i).take wd).length ≤ K) := Lib.hid (by rw [List.length_append, List.length_take, List.length_drop, ← size_list]; have := HK.out; omega)
                have HKW : Hid (K - i = wd) := Lib.hid (by have := HK.out; omega)
                clear HR0 HB0 HK0 HEL HT HTZ HD0
                go_wp2_with (at_builtin; refine wp_strR rfl _ _ rfl _ _ rfl HR1.out (s.extract i K) rfl HL.out ?_)
                intro v6 X6 r6 k6
                have R6 : Hid (Rw w X6 v6 (d ++ (s.data.toList.drop i).take wd)) := Lib.hid (by
                  have h := r6
                  try simp only [Lib.extract_data] at h
                  rw [HKW.out] at h
                  exact h)
                have B6 := Lib.hid (k6 _ _ _ (by decide) HB1.out)
                clear r6 k6 HR1 HB1
                go_wp2_with fail
                go_roundw
                case rel => exact ⟨K, n + 1, rn, f, _, rfl, by go_num, rfl, rfl, by omega, by omega, by omega, HDL.out, by omega, HS3, HV3, R6, B6⟩
                case measure => simp [intOf]; omega
      · have hltI : decide ((i : Int) < (s.size : Int)) = false := decide_eq_false (by omega)
        have hltJ : ¬ (i : Int) < (s.size : Int) := by omega
        have hnil : s.data.toList.drop i = [] := List.drop_eq_nil_of_le (by rw [← size_list]; omega)
        have hE : Hid (Z = some (s.data.toList.drop i, d, n, v)) := Lib.hid (by
          rw [← HS.out, hnil]
          cases f <;> rfl)
        clear HS HVi hnil
        go_wp2_with fail
        go_meet
        exact ⟨i, n, v, d, rfl, rfl, rfl, h1i, hi, hni, hdi, hE, HRw, HB⟩
  case rest =>
    obtain ⟨i, n, v, d, rfl, rfl, rfl, h1i, hi, hni, hdi, HE, HRw, HB⟩ := hcut
    clear HR HV W0 A
    have HEE : Hid (quoE q s.size Z = if (s.data.toList.drop i).head? ≠ some q ∨ (q = 39 ∧ n ≠ 1) then .err 2 else if q = 39 then .tok 5 (s.size - (s.data.toList.drop i).length + 1) v [] else .tok 6 (s.size - (s.data.toList.drop i).length + 1) 0 d) := Lib.hid (by rw [HE.out]; rfl)
    have hlen : (s.data.toList.drop i).length = s.size - i := by rw [List.length_drop, ← size_list]
    by_cases hlt : i < s.size
    · have hltI : (i : Int) < (s.size : Int) := by omega
      have g1 : decide ((s.size : Int) ≤ (i : Int)) = false := decide_eq_false (by omega)
      have g2 : ¬ (s.size : Int) ≤ (i : Int) := by omega
      have hhd : (s.data.toList.drop i).head? = some (s[i]'hlt) := by rw [drop_get s i hlt]; rfl
      by_cases c1 : s[i]'hlt = q
      · have e1 : ((s[i]'hlt).toNat : Int) = qI := by rw [c1, HQI.out]
        have b1 : (((s[i]'hlt).toNat : Int) != qI) = false := by simp [e1]
        rcases HQ.out with hq | hq
        · have q39 : qI = 39 := by rw [HQI.out, hq]; rfl
          subst q39
          by_cases hn : n = 1
          · have hR : Hid (quoW s (quoE q s.size Z) = .tuple #[tokV 5 (s.extract 0 (i + 1)) v ⟨#[]⟩, .bool true]) := Lib.hid (by
              rw [HEE.out, hhd, c1, if_neg (by rintro (h | h); exact h rfl; exact h.2 hn), if_pos hq, hlen, show s.size - (s.size - i) + 1 = i + 1 by omega]
              rfl)
            have hn1 : (n : Int) = 1 := by omega
            have s1 : (i : Int) + 1 ≤ (s.size : Int) := by omega
            have s0 : (0 : Int) ≤ (i : Int) + 1 := by omega
            have hw1 : IntKind.i64.wrap ((i : Int) + 1) = (i : Int) + 1 := IntWalk.i64_in _ (by omega)
            clear HEE hlen hhd c1 hq HE hn hni
            have B := HB.out.blk
            have r0 := B.1 0 _ rfl
            have r1 := B.1 1 _ rfl
            have r2 := B.1 2 _ rfl
            have r3 := B.1 3 _ rfl
            have r4 := B.1 4 _ rfl
            have r5 := B.1 5 _ rfl
            have rf := B.2.1
            have rz := B.2.2
            have F2 := Lib.hid HRw.out.f
            clear B HB
            go_wp2_with fail
            refine bodyPost_ret (v := ?_) ?_ rfl ?_; rotate_left 1; focus (simp [results, Tryz.results32, go_sem, *]; (try rfl); done)
            exact ⟨by rw [hR.out]; rfl, by (repeat' first | with_reducible exact F2.out | with_reducible refine Fresh.setCell ?_ (Nat.le_refl _) _)⟩
          · have hR : Hid (quoW s (quoE q s.size Z) = .tuple #[tokV 0 ⟨#[]⟩ 0 ⟨#[]⟩, .bool false]) := Lib.hid (by
              rw [HEE.out, if_pos (Or.inr ⟨hq, hn⟩)]
              rfl)
            have hn1 : ((n : Int) != 1) = true := by simp only [bne_iff_ne, ne_eq]; omega
            have hn2 : ¬ (n : Int) = 1 := by omega
            clear HEE hlen hhd c1 hq HE hn hni
            have B := HB.out.blk
            have r0 := B.1 0 _ rfl
            have r1 := B.1 1 _ rfl
            have r2 := B.1 2 _ rfl
            have r3 := B.1 3 _ rfl
            have r4 := B.1 4 _ rfl
            have r5 := B.1 5 _ rfl
            have rf := B.2.1
            have rz := B.2.2
            have F2 := Lib.hid HRw.out.f
            clear B HB
            go_wp2_with fail
            refine bodyPost_ret (v := ?_) ?_ rfl ?_; rotate_left 1; focus (simp [results, Tryz.results32, go_sem, *]; (try rfl); done)
            exact ⟨by rw [hR.out]; rfl, by (repeat' first | with_reducible exact F2.out | with_reducible refine Fresh.setCell ?_ (Nat.le_refl _) _)⟩
        · have q34 : qI = 34 := by rw [HQI.out, hq]; rfl
          subst q34
          have hq39 : ¬ q = 39 := by rw [hq]; decide
          have hR : Hid (quoW s (quoE q s.size Z) = .tuple #[tokV 6 (s.extract 0 (i + 1)) 0 ⟨d.toArray⟩, .bool true]) := Lib.hid (by
            rw [HEE.out, hhd, c1, if_neg (by rintro (h | h); exact h rfl; exact hq39 h.1), if_neg hq39, hlen, show s.size - (s.size - i) + 1 = i + 1 by omega]
            rfl)
          have s1 : (i : Int) + 1 ≤ (s.size : Int) := by omega
          have s0 : (0 : Int) ≤ (i : Int) + 1 := by omega
          have hw1 : IntKind.i64.wrap ((i : Int) + 1) = (i : Int) + 1 := IntWalk.i64_in _ (by omega)
          have hcv := (HRw.out.later (Fresh.refl _).drew).back2
          clear HEE hlen hhd c1 hq hq39 HE hni
          have B := HB.out.blk
          have r0 := B.1 0 _ rfl
          have r1 := B.1 1 _ rfl
          have r2 := B.1 2 _ rfl
          have r3 := B.1 3 _ rfl
          have r4 := B.1 4 _ rfl
          have r5 := B.1 5 _ rfl
          have rf := B.2.1
          have rz := B.2.2
          have F2 := Lib.hid HRw.out.f
          clear B HB
          go_upto_region 24 with fail
          go_region
          go_wp2_with fail
          refine bodyPost_ret (v := ?_) ?_ rfl ?_; rotate_left 1; focus (simp [results, Tryz.results32, go_sem, *]; (try rfl); done)
          exact ⟨by rw [hR.out]; rfl, by (repeat' first | with_reducible exact F2.out | with_reducible refine Fresh.drew ?_ | with_reducible refine Fresh.setCell ?_ (Nat.le_refl _) _)⟩
      · have b1 : (((s[i]'hlt).toNat : Int) != qI) = true := by
          simp only [bne_iff_ne, ne_eq, HQI.out]
          exact fun e => c1 (UInt8.toNat_inj.1 (by omega))
        have hR : Hid (quoW s (quoE q s.size Z) = .tuple #[tokV 0 ⟨#[]⟩ 0 ⟨#[]⟩, .bool false]) := Lib.hid (by
          rw [HEE.out, hhd, if_pos (Or.inl (fun e => c1 (Option.some.inj e)))]
          rfl)
        clear HEE hlen hhd c1 HE hni
        have B := HB.out.blk
        have r0 := B.1 0 _ rfl
        have r1 := B.1 1 _ rfl
        have r2 := B.1 2 _ rfl
        have r3 := B.1 3 _ rfl
        have r4 := B.1 4 _ rfl
        have r5 := B.1 5 _ rfl
        have rf := B.2.1
        have rz := B.2.2
        have F2 := Lib.hid HRw.out.f
        clear B HB
        go_wp2_with fail
        refine bodyPost_ret (v := ?_) ?_ rfl ?_; rotate_left 1; focus (simp [results, Tryz.results32, go_sem, *]; (try rfl); done)
        exact ⟨by rw [hR.out]; rfl, by (repeat' first | with_reducible exact F2.out | with_reducible refine Fresh.setCell ?_ (Nat.le_refl _) _)⟩
    · have g1 : (s.size : Int) ≤ (i : Int) := by omega
      have hnil : s.data.toList.drop i = [] := List.drop_eq_nil_of_le (by rw [← size_list]; omega)
      have hR : Hid (quoW s (quoE q s.size Z) = .tuple #[tokV 0 ⟨#[]⟩ 0 ⟨#[]⟩, .bool false]) := Lib.hid (by
        rw [HEE.out, hnil, if_pos (Or.inl (by simp))]
        rfl)
      clear HEE hlen hnil HE hni
      have B := HB.out.blk
      have r0 := B.1 0 _ rfl
      have r1 := B.1 1 _ rfl
      have r2 := B.1 2 _ rfl
      have r3 := B.1 3 _ rfl
      have r4 := B.1 4 _ rfl
      have r5 := B.1 5 _ rfl
      have rf := B.2.1
      have rz := B.2.2
      have F2 := Lib.hid HRw.out.f
      clear B HB
      go_wp2_with fail
      refine bodyPost_ret (v := ?_) ?_ rfl ?_; rotate_left 1; focus (simp [results, Tryz.results32, go_sem, *]; (try rfl); done)
      exact ⟨by rw [hR.out]; rfl, by (repeat' first | with_reducible exact F2.out | with_reducible refine Fresh.setCell ?_ (Nat.le_refl _) _)⟩
end
end Go.Proofs.YtcmfmfgedhfaeaaGreatDoor
