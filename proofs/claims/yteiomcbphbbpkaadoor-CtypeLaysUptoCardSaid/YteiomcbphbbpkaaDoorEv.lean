/- What holds of a layout's members, plainly. -/
import Derived.Test.YteiomcbphbbpkaaDoorEu
namespace Go.Proofs.YteiomcbphbbpkaaDoor
set_option linter.unusedSimpArgs false
set_option linter.unusedVariables false
open Go.RowKit

def f0 : Nat → La := fun _ => la0
theorem good0 : Good f0 0 := fun i hi => by omega
def P2 (a : Int) : Prop := a = 1 ∨ a = 2 ∨ a = 4 ∨ a = 8
theorem csize_P2 (c : Int) : csize c = 0 ∨ P2 (csize c) := by
  unfold csize P2
  repeat' split
  all_goals omega
theorem recSize0 (nm : ByteArray) (un : Bool) : recSize f0 0 nm un = (0, 0) := rfl
theorem sizeH_P2 (h : Hd) (s : Int × Int) (hs : s.2 = 0 ∨ P2 s.2) : (sizeH f0 0 h s).2 = 0 ∨ P2 (sizeH f0 0 h s).2 := by
  unfold sizeH
  split
  · unfold arrS
    repeat' split
    all_goals first | exact Or.inl rfl | exact hs
  · split
    · rw [recSize0]; exact Or.inl rfl
    · exact csize_P2 _
theorem size0_P2 : ∀ ks : Tys, (ks.size0 f0 0).2 = 0 ∨ P2 (ks.size0 f0 0).2
  | .nil => Or.inl rfl
  | .cons h ks _ => sizeH_P2 h _ (size0_P2 ks)
theorem Fd.P2 (x : Fd) : (x.size f0 0).2 = 0 ∨ Go.Proofs.YteiomcbphbbpkaaDoor.P2 (x.size f0 0).2 := sizeH_P2 x.h _ (size0_P2 x.ks)
def sz (y : Fd) : Int := (y.size f0 0).1
def al (y : Fd) : Int := (y.size f0 0).2
/-- A member behind others that end at e. -/
def OkM (un : Bool) (y : Fd) (e : Int) : Prop := P2 (al y) ∧ 0 ≤ sz y ∧ sz y ≤ 1048576 ∧ y.off % al y = 0 ∧ 0 ≤ y.off ∧ (un = true → y.off = 0) ∧ (un = false → e ≤ y.off ∧ y.off < e + al y)
def Chain (un : Bool) : Int → List Fd → Prop
  | _, [] => True
  | e, y :: r => OkM un y e ∧ Chain un (y.off + sz y) r
def endOf : Int → List Fd → Int
  | e, [] => e
  | _, y :: r => endOf (y.off + sz y) r
theorem Chain.snoc {un : Bool} : ∀ {e : Int} {l : List Fd} {x : Fd}, Chain un e l → OkM un x (endOf e l) → Chain un e (l ++ [x])
  | _, [], _, _, h => ⟨h, trivial⟩
  | _, _ :: _, _, hc, h => ⟨hc.1, Chain.snoc hc.2 h⟩
theorem endOf_snoc : ∀ (e : Int) (l : List Fd) (x : Fd), endOf e (l ++ [x]) = x.off + sz x
  | _, [], _ => rfl
  | _, y :: r, x => endOf_snoc _ r x
theorem chain_P2 {un : Bool} : ∀ {e : Int} {l : List Fd}, Chain un e l → ∀ y ∈ l, P2 (al y)
  | _, [], _, y, hy => by simp at hy
  | _, x :: r, h, y, hy => by
    rcases List.mem_cons.1 hy with rfl | hy
    · exact h.1.1
    · exact chain_P2 h.2 y hy
/-- What holds of how far it has come. -/
structure LGood (un : Bool) (s : LS) : Prop where
  chain : Chain un 0 s.acc
  all : ∀ y ∈ s.acc, s.al % al y = 0 ∧ y.off + sz y ≤ s.sz
  al2 : P2 s.al
  last : un = false → s.sz = endOf 0 s.acc
  sz0 : 0 ≤ s.sz
theorem P2.dvd {a b : Int} (ha : P2 a) (hb : P2 b) (h : b ≤ a) : a % b = 0 := by
  rcases ha with rfl | rfl | rfl | rfl <;> rcases hb with rfl | rfl | rfl | rfl <;> first | rfl | omega
theorem P2.pos {a : Int} (h : P2 a) : 1 ≤ a := by rcases h with rfl | rfl | rfl | rfl <;> omega
theorem mul_mod (n a : Int) : mul n a % a = 0 := by
  unfold mul
  exact Int.mul_emod_left _ _
theorem LGood.zero (un : Bool) : LGood un LS.zero := ⟨trivial, by simp [LS.zero], Or.inl rfl, fun _ => rfl, by simp [LS.zero]⟩
theorem max_P2 {a b : Int} (ha : P2 a) (hb : P2 b) : P2 (max a b) := by
  rcases Int.le_total a b with h | h
  · rw [Int.max_eq_right h]; exact hb
  · rw [Int.max_eq_left h]; exact ha
theorem LGood.add {un : Bool} {s : LS} (h : LGood un s) (x : Fd) (hx : (x.size f0 0).2 ≠ 0) : LGood un (s.add f0 0 un x) := by
  have hp : P2 (al x) := (Fd.P2 x).resolve_left hx
  have hp1 := hp.pos
  have hb := Fd.size_bd good0 x
  have hz := h.sz0
  have hmb := mul_bd s.sz (al x) hz hp1
  have hmm := mul_mod s.sz (al x)
  have e1 : s.add f0 0 un x = ⟨s.acc ++ [⟨x.nm, x.h, x.ks, if un then 0 else mul s.sz (al x)⟩], max s.sz ((if un then 0 else mul s.sz (al x)) + sz x), max s.al (al x)⟩ := rfl
  rw [e1]
  have hs0 : 0 ≤ sz x := hb.1
  have hs1 : sz x ≤ 1048576 := hb.2.1
  have hM0 : 0 ≤ (if un = true then 0 else mul s.sz (al x)) := by split <;> omega
  generalize hM : (if un = true then 0 else mul s.sz (al x)) = M at *
  have hok : OkM un ⟨x.nm, x.h, x.ks, M⟩ (endOf 0 s.acc) := by
    refine ⟨hp, hs0, hs1, ?_, hM0, fun hu => ?_, fun hu => ?_⟩
    · show M % al x = 0
      cases un
      · rw [← hM, if_neg (by simp)]; exact hmm
      · rw [← hM, if_pos rfl]; exact Int.zero_emod _
    · show M = 0
      rw [← hM, if_pos hu]
    · have hM' : M = mul s.sz (al x) := by rw [← hM, hu]; rfl
      have := h.last hu
      show endOf 0 s.acc ≤ M ∧ M < endOf 0 s.acc + al x
      omega
  refine ⟨h.chain.snoc hok, ?_, max_P2 h.al2 hp, ?_, ?_⟩
  · intro y hy
    rcases List.mem_append.1 hy with hy | hy
    · obtain ⟨y1, y2⟩ := h.all y hy
      refine ⟨?_, by show y.off + sz y ≤ max s.sz (M + sz x); omega⟩
      show (max s.al (al x)) % al y = 0
      rcases Int.le_total s.al (al x) with g | g
      · rw [Int.max_eq_right g]
        have hy2 : P2 (al y) := by
          have := h.chain
          exact chain_P2 this y hy
        have hle : al y ≤ s.al := by
          have := h.al2.pos
          have hpy := hy2.pos
          exact Int.le_of_dvd (by omega) (Int.dvd_of_emod_eq_zero y1)
        exact hp.dvd hy2 (by omega)
      · rw [Int.max_eq_left g]; exact y1
    · simp only [List.mem_singleton] at hy
      subst hy
      refine ⟨?_, by show M + sz x ≤ max s.sz (M + sz x); omega⟩
      show (max s.al (al x)) % al x = 0
      exact (max_P2 h.al2 hp).dvd hp (by omega)
  · intro hu
    rw [endOf_snoc]
    show max s.sz (M + sz x) = M + sz x
    have hM' : M = mul s.sz (al x) := by rw [← hM, hu]; rfl
    omega
  · show 0 ≤ max s.sz (M + sz x)
    omega
theorem layF_good {un : Bool} : ∀ (fs : List Fd) (s s' : LS), LGood un s → layF f0 0 un fs s = .inl s' → LGood un s' ∧ s'.acc.length = s.acc.length + fs.length
  | [], s, s', h, e => by
    simp only [layF, Sum.inl.injEq] at e
    subst e
    exact ⟨h, by simp⟩
  | x :: r, s, s', h, e => by
    simp only [layF] at e
    split at e
    · cases e
    · split at e
      · cases e
      · rename_i _ hx
        have := layF_good r _ _ (h.add x hx) e
        refine ⟨this.1, ?_⟩
        rw [this.2]
        simp [LS.add]
        omega
end Go.Proofs.YteiomcbphbbpkaaDoor
