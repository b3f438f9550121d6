/- A pointer that is broken into: what the plain memory holds then. -/
import Derived.Test.YtjbflmpnmobngaaMy
namespace Go.Proofs.Ytjbflmpnmobngaa
set_option linter.unusedSimpArgs false
set_option linter.unusedVariables false
open Go.RowKit

def kvL (c : Int) : Int := if kindL c = 2 then 2 else if kindL c = 3 then 3 else 1
def S1 : Int → Option BS := putS noS 1 ⟨24, false, noCell, noPtr⟩
def S2 (U blk : Int) : Int → Option BS := (storeS S1 6 4 8 1 4 U blk).2
def S3 (U blk c a : Int) : Bool × (Int → Option BS) := storeS (S2 U blk) c 4 a 1 (kvL c) 7 0
theorem s2_ok (U blk : Int) : (storeS S1 6 4 8 1 4 U blk).1 = true ∧ loadS (S2 U blk) 6 4 8 1 = ((4, U, blk), true) := ⟨by kernel_rfl, by kernel_rfl⟩
theorem chunk_cases (c : Int) : c = 1 ∨ c = 2 ∨ c = 3 ∨ c = 4 ∨ c = 5 ∨ c = 6 ∨ c = 7 ∨ sizeL c = 0 := by
  unfold sizeL; repeat' split
  all_goals omega
theorem at_cases (a : Int) (h0 : 0 ≤ a) (h1 : a < 24) : a = 0 ∨ a = 1 ∨ a = 2 ∨ a = 3 ∨ a = 4 ∨ a = 5 ∨ a = 6 ∨ a = 7 ∨ a = 8 ∨ a = 9 ∨ a = 10 ∨ a = 11 ∨ a = 12 ∨ a = 13 ∨ a = 14 ∨ a = 15 ∨ a = 16 ∨ a = 17 ∨ a = 18 ∨ a = 19 ∨ a = 20 ∨ a = 21 ∨ a = 22 ∨ a = 23 := by omega
def storedB (n a : Int) : Bool := decide (0 < n) && (a % n == 0) && decide (a + n ≤ 24)
def nowV (U blk n a : Int) : Int × Int × Int := if storedB n a && decide (a < 16) && decide (8 < a + n) then (if a == 8 && n == 8 then (2, 7, 0) else (0, 0, 0)) else (4, U, blk)
def Pieces (U blk c a : Int) : Prop := (S3 U blk c a).1 = storedB (sizeL c) a ∧ loadS (S3 U blk c a).2 6 4 8 1 = (nowV U blk (sizeL c) a, true)
theorem pieces1 (U blk a : Int) (h0 : 0 ≤ a) (h1 : a < 24) : Pieces U blk 1 a := by
  rcases at_cases a h0 h1 with rfl | rfl | rfl | rfl | rfl | rfl | rfl | rfl | rfl | rfl | rfl | rfl | rfl | rfl | rfl | rfl | rfl | rfl | rfl | rfl | rfl | rfl | rfl | rfl
  all_goals exact ⟨by kernel_rfl, by kernel_rfl⟩
theorem pieces2 (U blk a : Int) (h0 : 0 ≤ a) (h1 : a < 24) : Pieces U blk 2 a := by
  rcases at_cases a h0 h1 with rfl | rfl | rfl | rfl | rfl | rfl | rfl | rfl | rfl | rfl | rfl | rfl | rfl | rfl | rfl | rfl | rfl | rfl | rfl | rfl | rfl | rfl | rfl | rfl
  all_goals exact ⟨by kernel_rfl, by kernel_rfl⟩
theorem pieces3 (U blk a : Int) (h0 : 0 ≤ a) (h1 : a < 24) : Pieces U blk 3 a := by
  rcases at_cases a h0 h1 with rfl | rfl | rfl | rfl | rfl | rfl | rfl | rfl | rfl | rfl | rfl | rfl | rfl | rfl | rfl | rfl | rfl | rfl | rfl | rfl | rfl | rfl | rfl | rfl
  all_goals exact ⟨by kernel_rfl, by kernel_rfl⟩
theorem pieces4 (U blk a : Int) (h0 : 0 ≤ a) (h1 : a < 24) : Pieces U blk 4 a := by
  rcases at_cases a h0 h1 with rfl | rfl | rfl | rfl | rfl | rfl | rfl | rfl | rfl | rfl | rfl | rfl | rfl | rfl | rfl | rfl | rfl | rfl | rfl | rfl | rfl | rfl | rfl | rfl
  all_goals exact ⟨by kernel_rfl, by kernel_rfl⟩
theorem pieces5 (U blk a : Int) (h0 : 0 ≤ a) (h1 : a < 24) : Pieces U blk 5 a := by
  rcases at_cases a h0 h1 with rfl | rfl | rfl | rfl | rfl | rfl | rfl | rfl | rfl | rfl | rfl | rfl | rfl | rfl | rfl | rfl | rfl | rfl | rfl | rfl | rfl | rfl | rfl | rfl
  all_goals exact ⟨by kernel_rfl, by kernel_rfl⟩
theorem pieces6 (U blk a : Int) (h0 : 0 ≤ a) (h1 : a < 24) : Pieces U blk 6 a := by
  rcases at_cases a h0 h1 with rfl | rfl | rfl | rfl | rfl | rfl | rfl | rfl | rfl | rfl | rfl | rfl | rfl | rfl | rfl | rfl | rfl | rfl | rfl | rfl | rfl | rfl | rfl | rfl
  all_goals exact ⟨by kernel_rfl, by kernel_rfl⟩
theorem pieces7 (U blk a : Int) (h0 : 0 ≤ a) (h1 : a < 24) : Pieces U blk 7 a := by
  rcases at_cases a h0 h1 with rfl | rfl | rfl | rfl | rfl | rfl | rfl | rfl | rfl | rfl | rfl | rfl | rfl | rfl | rfl | rfl | rfl | rfl | rfl | rfl | rfl | rfl | rfl | rfl
  all_goals exact ⟨by kernel_rfl, by kernel_rfl⟩
theorem reach_size0 (S : Int → Option BS) (c k n b : Int) (h : sizeL c = 0) : reachS S c k n b = none := by
  unfold reachS
  split
  · split
    · rfl
    · rw [if_neg]; simp [goesB, h]
  · rfl
theorem pieces0 (U blk c a : Int) (h : sizeL c = 0) : Pieces U blk c a := by
  have e : S3 U blk c a = (false, S2 U blk) := by unfold S3 storeS; rw [reach_size0 _ _ _ _ _ h]
  unfold Pieces
  rw [e, h]
  exact ⟨by simp [storedB], by rw [(s2_ok U blk).2]; simp [nowV, storedB]⟩
theorem pieces (U blk c a : Int) (h0 : 0 ≤ a) (h1 : a < 24) : Pieces U blk c a := by
  rcases chunk_cases c with rfl | rfl | rfl | rfl | rfl | rfl | rfl | h
  · exact pieces1 U blk a h0 h1
  · exact pieces2 U blk a h0 h1
  · exact pieces3 U blk a h0 h1
  · exact pieces4 U blk a h0 h1
  · exact pieces5 U blk a h0 h1
  · exact pieces6 U blk a h0 h1
  · exact pieces7 U blk a h0 h1
  · exact pieces0 U blk c a h
/-- The ways that the statement can go. -/
inductive Way (n a : Int) : Prop where
  | none (h : n = 0)
  | odd (h : 0 < n) (h2 : a % n ≠ 0)
  | far (h : 0 < n) (h2 : a % n = 0) (h3 : 24 < a + n)
  | behind (h : 0 < n) (h2 : a % n = 0) (h3 : a + n ≤ 24) (h4 : 16 ≤ a)
  | ahead (h : 0 < n) (h2 : a % n = 0) (h3 : a + n ≤ 24) (h4 : a < 16) (h5 : a + n ≤ 8)
  | into (h : 0 < n) (h2 : a % n = 0) (h3 : a + n ≤ 24) (h4 : a < 16) (h5 : 8 < a + n) (h6 : a ≠ 8)
  | part (h : 0 < n) (h2 : a % n = 0) (h3 : a + n ≤ 24) (h4 : a < 16) (h5 : 8 < a + n) (h6 : a = 8) (h7 : n ≠ 8)
  | all (h6 : a = 8) (h7 : n = 8)
theorem way (n a : Int) (h : 0 ≤ n) : Way n a := by
  by_cases h0 : n = 0
  · exact .none h0
  have h1 : 0 < n := by omega
  by_cases h2 : a % n = 0
  · by_cases h3 : a + n ≤ 24
    · by_cases h4 : a < 16
      · by_cases h5 : 8 < a + n
        · by_cases h6 : a = 8
          · by_cases h7 : n = 8
            · exact .all h6 h7
            · exact .part h1 h2 h3 h4 h5 h6 h7
          · exact .into h1 h2 h3 h4 h5 h6
        · exact .ahead h1 h2 h3 h4 (by omega)
      · exact .behind h1 h2 h3 (by omega)
    · exact .far h1 h2 (by omega)
  · exact .odd h1 h2
theorem kv_cases (c : Int) : kindL c = 0 ∨ kindL c = 1 ∨ kindL c = 2 ∨ kindL c = 3 := by
  unfold kindL; repeat' split
  all_goals simp
end Go.Proofs.Ytjbflmpnmobngaa
