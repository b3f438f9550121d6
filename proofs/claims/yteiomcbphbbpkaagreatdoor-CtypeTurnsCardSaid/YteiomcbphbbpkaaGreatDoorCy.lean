/- Lay, plainly; what its loop keeps. -/
import Derived.Test.YteiomcbphbbpkaaGreatDoorCx
import Derived.Maps.OwnSet
namespace Go.Proofs.YteiomcbphbbpkaaGreatDoor
set_option linter.unusedSimpArgs false
set_option linter.unusedVariables false
open Go.RowKit Go.Maps Go.WideMaps

/-- The names that are made: one letter each. -/
def isName (b : ByteArray) : Prop := ∃ k, k < 26 ∧ b = alpha.extract k (k + 1)
theorem isName_of (n : Int) : isName (nameOf n) := by
  obtain ⟨h0, h1⟩ := nmI_bd n
  refine ⟨(nmI n).toNat, by omega, ?_⟩
  unfold nameOf
  rw [show (nmI n + 1).toNat = (nmI n).toNat + 1 by omega]
def nmCode (b : ByteArray) : Nat := (b.data[0]?.getD 0).toNat - 97
theorem nmCode_all : ((List.range 26).all fun k => nmCode (alpha.extract k (k + 1)) == k && decide ((alpha.extract k (k + 1)).size = 1)) = true := by kernel_rfl
theorem nmCode_at {k : Nat} (hk : k < 26) : nmCode (alpha.extract k (k + 1)) = k ∧ (alpha.extract k (k + 1)).size = 1 := by
  have := List.all_eq_true.1 nmCode_all k (by simpa using hk)
  simpa using this
theorem isName.small {b : ByteArray} (h : isName b) : b.size ≤ maxLen := by
  obtain ⟨k, hk, rfl⟩ := h
  rw [(nmCode_at hk).2]
  decide
theorem isName.inj {a b : ByteArray} (ha : isName a) (hb : isName b) (h : nmCode a = nmCode b) : a = b := by
  obtain ⟨k, hk, rfl⟩ := ha
  obtain ⟨j, hj, rfl⟩ := hb
  rw [(nmCode_at hk).1, (nmCode_at hj).1] at h
  rw [h]
theorem isName.lt {a : ByteArray} (ha : isName a) : nmCode a < 26 := by
  obtain ⟨k, hk, rfl⟩ := ha
  rw [(nmCode_at hk).1]
  exact hk
theorem nodup_le : ∀ (n : Nat) (l : List Nat), l.Nodup → (∀ x ∈ l, x < n) → l.length ≤ n
  | 0, l, _, h => by
    cases l with
    | nil => simp
    | cons x r => exact absurd (h x (by simp)) (by omega)
  | n + 1, l, hd, h => by
    by_cases hn : n ∈ l
    · have h1 := nodup_le n (l.erase n) (hd.erase n) (fun x hx => by
        have h2 := (hd.mem_erase_iff).1 hx
        have := h x h2.2
        have := h2.1
        omega)
      have h3 := List.length_erase_of_mem hn
      omega
    · have := nodup_le n l hd (fun x hx => by
        have h1 := h x hx
        have h2 : x ≠ n := fun e => hn (e ▸ hx)
        omega)
      omega
/-- How far it has come. -/
structure LS where
  acc : List Fd
  sz : Int
  al : Int
def hasN (acc : List Fd) (nm : ByteArray) : Bool := acc.any (fun y => y.nm.data.toList == nm.data.toList)
def Fd.size (f : Nat → La) (kn : Nat) (x : Fd) : Int × Int := sizeH f kn x.h (x.ks.size0 f kn)
def LS.add (f : Nat → La) (kn : Nat) (un : Bool) (s : LS) (x : Fd) : LS :=
  ⟨s.acc ++ [⟨x.nm, x.h, x.ks, if un then 0 else mul s.sz (x.size f kn).2⟩], max s.sz ((if un then 0 else mul s.sz (x.size f kn).2) + (x.size f kn).1), max s.al (x.size f kn).2⟩
def layF (f : Nat → La) (kn : Nat) (un : Bool) : List Fd → LS → LS ⊕ (Nat × Int)
  | [], s => .inl s
  | x :: r, s => if hasN s.acc x.nm then .inr (s.acc.length, 4) else if (x.size f kn).2 = 0 then .inr (s.acc.length, 5) else layF f kn un r (s.add f kn un x)
def LS.zero : LS := ⟨[], 0, 1⟩
/-- What the loop keeps. -/
structure LInv (f : Nat → La) (kn : Nat) (un : Bool) (fs : List Fd) (k : Nat) (s : LS) : Prop where
  eq : layF f kn un fs LS.zero = layF f kn un (fs.drop k) s
  len : s.acc.length = k
  nd : (s.acc.map (fun y => nmCode y.nm)).Nodup
  nm : ∀ y ∈ s.acc, isName y.nm
  sz0 : 0 ≤ s.sz
  sz1 : s.sz ≤ k * 1048583
  al0 : 1 ≤ s.al
  al1 : s.al ≤ 8
theorem LInv.zero (f : Nat → La) (kn : Nat) (un : Bool) (fs : List Fd) : LInv f kn un fs 0 LS.zero :=
  ⟨rfl, rfl, by simp [LS.zero], by simp [LS.zero], by simp [LS.zero], by simp [LS.zero], by simp [LS.zero], by simp [LS.zero]⟩
theorem LInv.le {f : Nat → La} {kn : Nat} {un : Bool} {fs : List Fd} {k : Nat} {s : LS} (h : LInv f kn un fs k s) : k ≤ 26 := by
  have := nodup_le 26 _ h.nd (fun x hx => by
    obtain ⟨y, hy, rfl⟩ := List.mem_map.1 hx
    exact (h.nm y hy).lt)
  rw [List.length_map, h.len] at this
  exact this
theorem Fd.size_bd {f : Nat → La} {kn : Nat} (hg : Good f kn) (x : Fd) : 0 ≤ (x.size f kn).1 ∧ (x.size f kn).1 ≤ 1048576 ∧ 0 ≤ (x.size f kn).2 ∧ (x.size f kn).2 ≤ 8 :=
  sizeH_bd hg _ _ (size0_bd hg _).1 (size0_bd hg _).2.2
theorem LInv.step {f : Nat → La} {kn : Nat} {un : Bool} {fs : List Fd} {k : Nat} {s : LS} (hg : Good f kn) (h : LInv f kn un fs k s) {x : Fd} (hx : fs[k]? = some x) (hn : isName x.nm) (hh : hasN s.acc x.nm = false) (ha : (x.size f kn).2 ≠ 0) :
    LInv f kn un fs (k + 1) (s.add f kn un x) := by
  obtain ⟨b0, b1, b2, b3⟩ := Fd.size_bd hg x
  have hd : fs.drop k = x :: fs.drop (k + 1) := by
    obtain ⟨hk, rfl⟩ := List.getElem?_eq_some_iff.1 hx
    exact List.drop_eq_getElem_cons hk
  have hM := mul_bd s.sz (x.size f kn).2 h.sz0 (by omega)
  have hM' : 0 ≤ (if un = true then 0 else mul s.sz (x.size f kn).2) ∧ (if un = true then 0 else mul s.sz (x.size f kn).2) ≤ s.sz + 7 := by
    have := h.sz0
    split <;> omega
  refine ⟨?_, by simp [LS.add, h.len], ?_, ?_, ?_, ?_, ?_, ?_⟩
  · rw [h.eq, hd]
    simp only [layF]
    rw [hh]
    simp [ha]
  · simp only [LS.add, List.map_append, List.map_cons, List.map_nil]
    rw [List.nodup_append]
    refine ⟨h.nd, by simp, fun a ha' b hb => ?_⟩
    simp only [List.mem_singleton] at hb
    subst hb
    obtain ⟨y, hy, rfl⟩ := List.mem_map.1 ha'
    intro e
    have e' := (h.nm y hy).inj hn e
    simp only [hasN, List.any_eq_false] at hh
    exact hh y hy (by rw [e']; simp)
  · intro y hy
    simp only [LS.add, List.mem_append, List.mem_singleton] at hy
    rcases hy with hy | rfl
    · exact h.nm y hy
    · exact hn
  · simp only [LS.add]
    have := h.sz0
    omega
  · simp only [LS.add]
    have := h.sz1
    have := h.sz0
    push_cast
    omega
  · simp only [LS.add]
    have := h.al0
    omega
  · simp only [LS.add]
    have := h.al1
    omega
theorem LInv.twice {f : Nat → La} {kn : Nat} {un : Bool} {fs : List Fd} {k : Nat} {s : LS} (h : LInv f kn un fs k s) {x : Fd} (hx : fs[k]? = some x) (hh : hasN s.acc x.nm = true) : layF f kn un fs LS.zero = .inr (k, 4) := by
  obtain ⟨hk, rfl⟩ := List.getElem?_eq_some_iff.1 hx
  rw [h.eq, List.drop_eq_getElem_cons hk]
  simp only [layF]
  rw [hh, h.len]
  simp
theorem LInv.bad {f : Nat → La} {kn : Nat} {un : Bool} {fs : List Fd} {k : Nat} {s : LS} (h : LInv f kn un fs k s) {x : Fd} (hx : fs[k]? = some x) (hh : hasN s.acc x.nm = false) (ha : (x.size f kn).2 = 0) : layF f kn un fs LS.zero = .inr (k, 5) := by
  obtain ⟨hk, rfl⟩ := List.getElem?_eq_some_iff.1 hx
  rw [h.eq, List.drop_eq_getElem_cons hk]
  simp only [layF]
  rw [hh, h.len]
  simp [ha]
theorem LInv.done {f : Nat → La} {kn : Nat} {un : Bool} {fs : List Fd} {s : LS} (h : LInv f kn un fs fs.length s) : layF f kn un fs LS.zero = .inl s := by
  rw [h.eq, List.drop_length]
  rfl
/-- The names as keys. -/
def keysOf (acc : List Fd) : List Lit := acc.map (fun y => .string y.nm.data.toList)
theorem has_keys {H : Type} (acc : List Fd) (nm : ByteArray) : Maps.has (setOf (H := H) (.agg []) (keysOf acc)) (.string nm.data.toList) = hasN acc nm := by
  rw [has_setOf _ _ _ (fun x hx => by
    obtain ⟨y, _, rfl⟩ := List.mem_map.1 hx
    trivial)]
  unfold keysOf hasN
  rw [List.any_map]
  rfl
theorem law9 : Keyed Tryz.prog 9 := string_keyed Tryz.underlying9
/-- One of a row of members. -/
structure FdAt (w : World) (B o : Nat) (x : Fd) (p : Option Addr) (n cap : Nat) : Prop where
  c0 : w.cell? ⟨B, o, none⟩ = some (.string x.nm)
  c1 : w.cell? ⟨B, o + 1, none⟩ = some (.int .i64 x.h.kind)
  c2 : w.cell? ⟨B, o + 2, none⟩ = some (.int .i64 x.h.size)
  c3 : w.cell? ⟨B, o + 3, none⟩ = some (.int .i64 x.h.len)
  c4 : w.cell? ⟨B, o + 4, none⟩ = some (.bool x.h.flag)
  c5 : w.cell? ⟨B, o + 5, none⟩ = some (.string x.h.name)
  c6 : w.cell? ⟨B, o + 6, none⟩ = some (.slice p n cap)
  c7 : w.cell? ⟨B, o + 7, none⟩ = some (.int .i64 x.off)
theorem FdAt.later {w w' : World} {B o : Nat} {x : Fd} {p : Option Addr} {n cap : Nat} (h : FdAt w B o x p n cap) (hf : Fresh w w') : FdAt w' B o x p n cap :=
  ⟨hf.at' h.c0, hf.at' h.c1, hf.at' h.c2, hf.at' h.c3, hf.at' h.c4, hf.at' h.c5, hf.at' h.c6, hf.at' h.c7⟩
theorem Fcells.at' {ok : Nat → Prop} {w : World} : ∀ {a : List Fd} {xs : List Value} {k : Nat} {x : Fd}, Fcells ok w a xs → a[k]? = some x → ∃ p n cap, Kids ok w x.ks p n cap ∧ xs[k * 8]? = some (.string x.nm) ∧ xs[k * 8 + 1]? = some (.int .i64 x.h.kind) ∧ xs[k * 8 + 2]? = some (.int .i64 x.h.size) ∧ xs[k * 8 + 3]? = some (.int .i64 x.h.len) ∧ xs[k * 8 + 4]? = some (.bool x.h.flag) ∧ xs[k * 8 + 5]? = some (.string x.h.name) ∧ xs[k * 8 + 6]? = some (.slice p n cap) ∧ xs[k * 8 + 7]? = some (.int .i64 x.off)
  | [], _, _, _, _, h => by simp at h
  | f :: r, xs, 0, x, ⟨p, n, cap, ys, e, hk, hr⟩, h => by
    simp at h
    subst h e
    exact ⟨p, n, cap, hk, rfl, rfl, rfl, rfl, rfl, rfl, rfl, rfl⟩
  | f :: r, xs, k + 1, x, ⟨p, n, cap, ys, e, hk, hr⟩, h => by
    simp at h
    subst e
    obtain ⟨p', n', cap', hk', c⟩ := hr.at' h
    have e8 : ∀ i, (Value.string f.nm :: .int .i64 f.h.kind :: .int .i64 f.h.size :: .int .i64 f.h.len :: .bool f.h.flag :: .string f.h.name :: .slice p n cap :: .int .i64 f.off :: ys)[(k + 1) * 8 + i]? = ys[k * 8 + i]? := fun i => by
      rw [show (k + 1) * 8 + i = k * 8 + i + 1 + 1 + 1 + 1 + 1 + 1 + 1 + 1 by omega]
      rfl
    have e0 := e8 0
    simp only [Nat.add_zero] at e0
    refine ⟨p', n', cap', hk', ?_⟩
    rw [e0, e8 1, e8 2, e8 3, e8 4, e8 5, e8 6, e8 7]
    exact c
theorem FSlice.at' {ok : Nat → Prop} {w : World} {fs : List Fd} {p : Option Addr} {n cap k : Nat} {x : Fd} (h : FSlice ok w fs p n cap) (hx : fs[k]? = some x) : ∃ B off p' n' c', p = some ⟨B, off, none⟩ ∧ Kids ok w x.ks p' n' c' ∧ FdAt w B (off + k * 8) x p' n' c' := by
  obtain ⟨hn, hc, hm, xs, hcells, hr⟩ := h
  obtain ⟨hk, -⟩ := List.getElem?_eq_some_iff.1 hx
  rcases hr with ⟨-, h0, -⟩ | ⟨B, off, rfl, -, hv⟩
  · omega
  · obtain ⟨p', n', c', hks, e0, e1, e2, e3, e4, e5, e6, e7⟩ := hcells.at' hx
    exact ⟨B, off, p', n', c', rfl, hks, hv _ _ e0, hv _ _ e1, hv _ _ e2, hv _ _ e3, hv _ _ e4, hv _ _ e5, hv _ _ e6, hv _ _ e7⟩
theorem Fcells.mono {ok ok' : Nat → Prop} {w : World} {a : List Fd} {xs : List Value} (h : Fcells ok w a xs) (ho : ∀ B, B < w.heap.size → ok B → ok' B) : Fcells ok' w a xs := h.turn (fun _ _ _ _ hv => hv) ho
theorem Fcells.set {ok : Nat → Prop} {w : World} {a : List Fd} {xs : List Value} (h : Fcells ok w a xs) {g : Nat} (hg : ¬ ok g) (i : Nat) (v : Value) : Fcells ok (w.setCell ⟨g, i, none⟩ v) a xs :=
  h.turn (fun B k u hB hu => by rw [← hu]; exact World.cell?_of_block (Below.heap_setCell _ _ _ _ (fun e => hg (by rw [← show B = g from e]; exact hB)))) (fun _ _ h => h)
theorem ownsMap_kept {P : Program} {k : TypeId} {R : Value → Option (DataW Unit × List MemPlace)} {w w' : World} {b n : Nat} {D : DataW Unit} (h : w.ownsMap P k R b n D) (hb : w'.heap[b]? = w.heap[b]?) : w'.ownsMap P k R b n D := by
  obtain ⟨es, clock, hb', r⟩ := h
  exact ⟨es, clock, hb.trans hb', r⟩
theorem ownsMap_lt {P : Program} {k : TypeId} {R : Value → Option (DataW Unit × List MemPlace)} {w : World} {b n : Nat} {D : DataW Unit} (h : w.ownsMap P k R b n D) : b < w.heap.size := by
  obtain ⟨es, clock, hb', r⟩ := h
  by_cases hh : b < w.heap.size
  · exact hh
  · rw [Array.getElem?_eq_none (by omega)] at hb'
    simp at hb'
end Go.Proofs.YteiomcbphbbpkaaGreatDoor
