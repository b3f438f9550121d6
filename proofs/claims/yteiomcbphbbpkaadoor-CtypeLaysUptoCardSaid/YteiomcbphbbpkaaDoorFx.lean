/- Types as they are made: well formed; when two are the same. -/
import Derived.Test.YteiomcbphbbpkaaDoorEi
namespace Go.Proofs.YteiomcbphbbpkaaDoor
set_option linter.unusedSimpArgs false
set_option linter.unusedVariables false
open Go.RowKit

/-- A header and how many parts stand under it. -/
def WFh (h : Hd) (ks : Tys) : Prop :=
  (h = Hd.zero ∧ ks = .nil) ∨ (h = hd1 1 ∧ ks = .nil) ∨ (∃ s u, h = numHd s u ∧ ks = .nil) ∨ (h = hd1 3 ∧ ks = .nil) ∨ (h = hd1 4 ∧ ks.length = 1) ∨ (∃ l, h = arrHd l ∧ ks.length = 1) ∨ (∃ nm u, h = recHd nm u ∧ ks = .nil) ∨ (h = hd1 7 ∧ 1 ≤ ks.length)
def Tys.wf : Tys → Prop
  | .nil => True
  | .cons h k r => (WFh h k ∧ k.wf) ∧ r.wf
theorem Tys.wf_append : ∀ {a b : Tys}, a.wf → b.wf → (a.append b).wf
  | .nil, _, _, h => h
  | .cons _ _ _, _, h, k => ⟨h.1, Tys.wf_append h.2 k⟩
theorem params_wf {f : Nat → Mk} (hf : ∀ i, WFh (f i).h (f i).ks ∧ (f i).ks.wf) : ∀ c j, (params f c j).1.wf
  | 0, _ => trivial
  | c + 1, j => Tys.wf_append (params_wf hf c j) ⟨hf _, trivial⟩
theorem wf_zero : WFh Hd.zero .nil ∧ (Tys.nil).wf := ⟨Or.inl ⟨rfl, rfl⟩, trivial⟩
theorem mkT_wf (zs : Nat → Int) (n : Nat) : ∀ d i, WFh (mkT zs n d i).h (mkT zs n d i).ks ∧ (mkT zs n d i).ks.wf
  | 0, _ => wf_zero
  | d + 1, i => by
    have ih := mkT_wf zs n d
    unfold mkT mkS
    split
    · exact wf_zero
    · split
      · exact ⟨Or.inr (Or.inl ⟨rfl, rfl⟩), trivial⟩
      · split
        · exact ⟨Or.inr (Or.inr (Or.inl ⟨_, _, rfl, rfl⟩)), trivial⟩
        · split
          · exact ⟨Or.inr (Or.inr (Or.inr (Or.inl ⟨rfl, rfl⟩))), trivial⟩
          · split
            · exact ⟨Or.inr (Or.inr (Or.inr (Or.inr (Or.inl ⟨rfl, rfl⟩)))), ih _, trivial⟩
            · split
              · unfold mkM
                split
                · exact ⟨Or.inr (Or.inr (Or.inr (Or.inr (Or.inr (Or.inl ⟨_, rfl, rfl⟩))))), ih _, trivial⟩
                · split
                  · exact ⟨Or.inr (Or.inr (Or.inr (Or.inr (Or.inr (Or.inr (Or.inl ⟨_, _, rfl, rfl⟩)))))), trivial⟩
                  · split
                    · exact ⟨Or.inr (Or.inr (Or.inr (Or.inr (Or.inr (Or.inr (Or.inl ⟨_, _, rfl, rfl⟩)))))), trivial⟩
                    · refine ⟨Or.inr (Or.inr (Or.inr (Or.inr (Or.inr (Or.inr (Or.inr ⟨rfl, ?_⟩)))))), ih _, params_wf ih _ _⟩
                      simp only [Tys.length]
                      omega
              · split
                · exact ⟨Or.inr (Or.inr (Or.inl ⟨_, _, rfl, rfl⟩)), trivial⟩
                · exact wf_zero
/-- Rows of types, one beside the other. -/
def eqRow : Tys → Tys → Bool
  | .nil, .nil => true
  | .cons h k r, .cons h' k' r' => eqH h h' && eqRow k k' && eqRow r r'
  | _, _ => false
def eqT (a : Hd) (ks : Tys) (b : Hd) (js : Tys) : Bool := eqH a b && eqRow ks js
theorem eqH_refl (a : Hd) : eqH a a = true := by simp [eqH]
theorem eqH_comm (a b : Hd) : eqH a b = eqH b a := by
  cases h : eqH a b
  · cases h' : eqH b a
    · rfl
    · rw [eqH_eq h', eqH_refl] at h; cases h
  · rw [eqH_eq h, eqH_refl]
theorem eqRow_refl : ∀ ks : Tys, eqRow ks ks = true
  | .nil => rfl
  | .cons h k r => by simp [eqRow, eqH_refl, eqRow_refl k, eqRow_refl r]
theorem eqRow_comm : ∀ ks js : Tys, eqRow ks js = eqRow js ks
  | .nil, .nil => rfl
  | .nil, .cons _ _ _ => rfl
  | .cons _ _ _, .nil => rfl
  | .cons h k r, .cons h' k' r' => by simp only [eqRow]; rw [eqH_comm h h', eqRow_comm k k', eqRow_comm r r']
theorem eqT_comm (a : Hd) (ks : Tys) (b : Hd) (js : Tys) : eqT a ks b js = eqT b js a ks := by unfold eqT; rw [eqH_comm, eqRow_comm]
theorem eqT_refl (a : Hd) (ks : Tys) : eqT a ks a ks = true := by unfold eqT; rw [eqH_refl, eqRow_refl]; rfl
end Go.Proofs.YteiomcbphbbpkaaDoor
/- Same: types of unlike kinds. -/
namespace Go.Proofs.YteiomcbphbbpkaaDoor
set_option linter.unusedSimpArgs false
set_option linter.unusedVariables false
open Go.RowKit

section
variable {ok2 : Nat → Prop} (b : Hd) (js : Tys) (q : Option Addr) (m mc : Nat) (w0 w : World) (hf : Fresh w0 w) (hjs : Kids ok2 w0 js q m mc) (hk : 0 ≤ b.kind ∧ b.kind ≤ 7)
include hf hjs hk
theorem viewNot1 (hn : b.kind ≠ 1) : Calls Tryd.prog 43 #[.agg #[.int .i64 b.kind, .int .i64 b.size, .int .i64 b.len, .bool b.flag, .string b.name, .slice q m mc]] w fun e w' => (∃ V, e = .returned V ∧ ∀ X : World, (Instr.typeAssert V 20 98 true).run Tryd.prog X = .ok (.tuple #[.agg #[], .bool false]) X) ∧ Fresh w w' := by
  have hc : b.kind < 1 ∨ b.kind = 2 ∨ b.kind = 3 ∨ b.kind = 4 ∨ b.kind = 5 ∨ b.kind = 6 ∨ b.kind = 7 := by omega
  rcases hc with h0 | h | h | h | h | h | h
  · refine (view0 b q m mc w (Or.inl h0)).mono ?_
    rintro e w' ⟨rfl, h⟩
    exact ⟨⟨_, rfl, as_nil_98⟩, h⟩
  · refine (view2 b q m mc w h).mono ?_
    rintro e w' ⟨rfl, h⟩
    exact ⟨⟨_, rfl, as_62_98 _⟩, h⟩
  · refine (view3 b q m mc w h).mono ?_
    rintro e w' ⟨rfl, h⟩
    exact ⟨⟨_, rfl, as_65_98 _⟩, h⟩
  · refine (view4 b js q m mc w w0 hf hjs h).mono ?_
    rintro e w' ⟨⟨p1, n1, c1, rfl, -⟩, h⟩
    exact ⟨⟨_, rfl, as_71_98 _⟩, h⟩
  · refine (view5 b js q m mc w w0 hf hjs h).mono ?_
    rintro e w' ⟨⟨p1, n1, c1, rfl, -⟩, h⟩
    exact ⟨⟨_, rfl, as_69_98 _⟩, h⟩
  · refine (view6 b q m mc w h).mono ?_
    rintro e w' ⟨rfl, h⟩
    exact ⟨⟨_, rfl, as_67_98 _⟩, h⟩
  · refine (view7 b js q m mc w w0 hf hjs h).mono ?_
    rintro e w' ⟨⟨p1, n1, c1, p2, n2, c2, rfl, -⟩, h⟩
    exact ⟨⟨_, rfl, as_85_98 _⟩, h⟩
theorem viewNot2 (hn : b.kind ≠ 2) : Calls Tryd.prog 43 #[.agg #[.int .i64 b.kind, .int .i64 b.size, .int .i64 b.len, .bool b.flag, .string b.name, .slice q m mc]] w fun e w' => (∃ V, e = .returned V ∧ ∀ X : World, (Instr.typeAssert V 20 62 true).run Tryd.prog X = .ok (.tuple #[.agg #[.int .i64 0, .bool false], .bool false]) X) ∧ Fresh w w' := by
  have hc : b.kind < 1 ∨ b.kind = 1 ∨ b.kind = 3 ∨ b.kind = 4 ∨ b.kind = 5 ∨ b.kind = 6 ∨ b.kind = 7 := by omega
  rcases hc with h0 | h | h | h | h | h | h
  · refine (view0 b q m mc w (Or.inl h0)).mono ?_
    rintro e w' ⟨rfl, h⟩
    exact ⟨⟨_, rfl, as_nil_62⟩, h⟩
  · refine (view1 b q m mc w h).mono ?_
    rintro e w' ⟨rfl, h⟩
    exact ⟨⟨_, rfl, as_98_62 _⟩, h⟩
  · refine (view3 b q m mc w h).mono ?_
    rintro e w' ⟨rfl, h⟩
    exact ⟨⟨_, rfl, as_65_62 _⟩, h⟩
  · refine (view4 b js q m mc w w0 hf hjs h).mono ?_
    rintro e w' ⟨⟨p1, n1, c1, rfl, -⟩, h⟩
    exact ⟨⟨_, rfl, as_71_62 _⟩, h⟩
  · refine (view5 b js q m mc w w0 hf hjs h).mono ?_
    rintro e w' ⟨⟨p1, n1, c1, rfl, -⟩, h⟩
    exact ⟨⟨_, rfl, as_69_62 _⟩, h⟩
  · refine (view6 b q m mc w h).mono ?_
    rintro e w' ⟨rfl, h⟩
    exact ⟨⟨_, rfl, as_67_62 _⟩, h⟩
  · refine (view7 b js q m mc w w0 hf hjs h).mono ?_
    rintro e w' ⟨⟨p1, n1, c1, p2, n2, c2, rfl, -⟩, h⟩
    exact ⟨⟨_, rfl, as_85_62 _⟩, h⟩
theorem viewNot3 (hn : b.kind ≠ 3) : Calls Tryd.prog 43 #[.agg #[.int .i64 b.kind, .int .i64 b.size, .int .i64 b.len, .bool b.flag, .string b.name, .slice q m mc]] w fun e w' => (∃ V, e = .returned V ∧ ∀ X : World, (Instr.typeAssert V 20 65 true).run Tryd.prog X = .ok (.tuple #[.agg #[], .bool false]) X) ∧ Fresh w w' := by
  have hc : b.kind < 1 ∨ b.kind = 1 ∨ b.kind = 2 ∨ b.kind = 4 ∨ b.kind = 5 ∨ b.kind = 6 ∨ b.kind = 7 := by omega
  rcases hc with h0 | h | h | h | h | h | h
  · refine (view0 b q m mc w (Or.inl h0)).mono ?_
    rintro e w' ⟨rfl, h⟩
    exact ⟨⟨_, rfl, as_nil_65⟩, h⟩
  · refine (view1 b q m mc w h).mono ?_
    rintro e w' ⟨rfl, h⟩
    exact ⟨⟨_, rfl, as_98_65 _⟩, h⟩
  · refine (view2 b q m mc w h).mono ?_
    rintro e w' ⟨rfl, h⟩
    exact ⟨⟨_, rfl, as_62_65 _⟩, h⟩
  · refine (view4 b js q m mc w w0 hf hjs h).mono ?_
    rintro e w' ⟨⟨p1, n1, c1, rfl, -⟩, h⟩
    exact ⟨⟨_, rfl, as_71_65 _⟩, h⟩
  · refine (view5 b js q m mc w w0 hf hjs h).mono ?_
    rintro e w' ⟨⟨p1, n1, c1, rfl, -⟩, h⟩
    exact ⟨⟨_, rfl, as_69_65 _⟩, h⟩
  · refine (view6 b q m mc w h).mono ?_
    rintro e w' ⟨rfl, h⟩
    exact ⟨⟨_, rfl, as_67_65 _⟩, h⟩
  · refine (view7 b js q m mc w w0 hf hjs h).mono ?_
    rintro e w' ⟨⟨p1, n1, c1, p2, n2, c2, rfl, -⟩, h⟩
    exact ⟨⟨_, rfl, as_85_65 _⟩, h⟩
theorem viewNot4 (hn : b.kind ≠ 4) : Calls Tryd.prog 43 #[.agg #[.int .i64 b.kind, .int .i64 b.size, .int .i64 b.len, .bool b.flag, .string b.name, .slice q m mc]] w fun e w' => (∃ V, e = .returned V ∧ ∀ X : World, (Instr.typeAssert V 20 71 true).run Tryd.prog X = .ok (.tuple #[.agg #[.int .i64 0, .int .i64 0, .int .i64 0, .bool false, .string ⟨#[]⟩, .slice none 0 0], .bool false]) X) ∧ Fresh w w' := by
  have hc : b.kind < 1 ∨ b.kind = 1 ∨ b.kind = 2 ∨ b.kind = 3 ∨ b.kind = 5 ∨ b.kind = 6 ∨ b.kind = 7 := by omega
  rcases hc with h0 | h | h | h | h | h | h
  · refine (view0 b q m mc w (Or.inl h0)).mono ?_
    rintro e w' ⟨rfl, h⟩
    exact ⟨⟨_, rfl, as_nil_71⟩, h⟩
  · refine (view1 b q m mc w h).mono ?_
    rintro e w' ⟨rfl, h⟩
    exact ⟨⟨_, rfl, as_98_71 _⟩, h⟩
  · refine (view2 b q m mc w h).mono ?_
    rintro e w' ⟨rfl, h⟩
    exact ⟨⟨_, rfl, as_62_71 _⟩, h⟩
  · refine (view3 b q m mc w h).mono ?_
    rintro e w' ⟨rfl, h⟩
    exact ⟨⟨_, rfl, as_65_71 _⟩, h⟩
  · refine (view5 b js q m mc w w0 hf hjs h).mono ?_
    rintro e w' ⟨⟨p1, n1, c1, rfl, -⟩, h⟩
    exact ⟨⟨_, rfl, as_69_71 _⟩, h⟩
  · refine (view6 b q m mc w h).mono ?_
    rintro e w' ⟨rfl, h⟩
    exact ⟨⟨_, rfl, as_67_71 _⟩, h⟩
  · refine (view7 b js q m mc w w0 hf hjs h).mono ?_
    rintro e w' ⟨⟨p1, n1, c1, p2, n2, c2, rfl, -⟩, h⟩
    exact ⟨⟨_, rfl, as_85_71 _⟩, h⟩
theorem viewNot5 (hn : b.kind ≠ 5) : Calls Tryd.prog 43 #[.agg #[.int .i64 b.kind, .int .i64 b.size, .int .i64 b.len, .bool b.flag, .string b.name, .slice q m mc]] w fun e w' => (∃ V, e = .returned V ∧ ∀ X : World, (Instr.typeAssert V 20 69 true).run Tryd.prog X = .ok (.tuple #[.agg #[.int .i64 0, .int .i64 0, .int .i64 0, .bool false, .string ⟨#[]⟩, .slice none 0 0, .int .i64 0], .bool false]) X) ∧ Fresh w w' := by
  have hc : b.kind < 1 ∨ b.kind = 1 ∨ b.kind = 2 ∨ b.kind = 3 ∨ b.kind = 4 ∨ b.kind = 6 ∨ b.kind = 7 := by omega
  rcases hc with h0 | h | h | h | h | h | h
  · refine (view0 b q m mc w (Or.inl h0)).mono ?_
    rintro e w' ⟨rfl, h⟩
    exact ⟨⟨_, rfl, as_nil_69⟩, h⟩
  · refine (view1 b q m mc w h).mono ?_
    rintro e w' ⟨rfl, h⟩
    exact ⟨⟨_, rfl, as_98_69 _⟩, h⟩
  · refine (view2 b q m mc w h).mono ?_
    rintro e w' ⟨rfl, h⟩
    exact ⟨⟨_, rfl, as_62_69 _⟩, h⟩
  · refine (view3 b q m mc w h).mono ?_
    rintro e w' ⟨rfl, h⟩
    exact ⟨⟨_, rfl, as_65_69 _⟩, h⟩
  · refine (view4 b js q m mc w w0 hf hjs h).mono ?_
    rintro e w' ⟨⟨p1, n1, c1, rfl, -⟩, h⟩
    exact ⟨⟨_, rfl, as_71_69 _⟩, h⟩
  · refine (view6 b q m mc w h).mono ?_
    rintro e w' ⟨rfl, h⟩
    exact ⟨⟨_, rfl, as_67_69 _⟩, h⟩
  · refine (view7 b js q m mc w w0 hf hjs h).mono ?_
    rintro e w' ⟨⟨p1, n1, c1, p2, n2, c2, rfl, -⟩, h⟩
    exact ⟨⟨_, rfl, as_85_69 _⟩, h⟩
theorem viewNot6 (hn : b.kind ≠ 6) : Calls Tryd.prog 43 #[.agg #[.int .i64 b.kind, .int .i64 b.size, .int .i64 b.len, .bool b.flag, .string b.name, .slice q m mc]] w fun e w' => (∃ V, e = .returned V ∧ ∀ X : World, (Instr.typeAssert V 20 67 true).run Tryd.prog X = .ok (.tuple #[.agg #[.string ⟨#[]⟩, .bool false], .bool false]) X) ∧ Fresh w w' := by
  have hc : b.kind < 1 ∨ b.kind = 1 ∨ b.kind = 2 ∨ b.kind = 3 ∨ b.kind = 4 ∨ b.kind = 5 ∨ b.kind = 7 := by omega
  rcases hc with h0 | h | h | h | h | h | h
  · refine (view0 b q m mc w (Or.inl h0)).mono ?_
    rintro e w' ⟨rfl, h⟩
    exact ⟨⟨_, rfl, as_nil_67⟩, h⟩
  · refine (view1 b q m mc w h).mono ?_
    rintro e w' ⟨rfl, h⟩
    exact ⟨⟨_, rfl, as_98_67 _⟩, h⟩
  · refine (view2 b q m mc w h).mono ?_
    rintro e w' ⟨rfl, h⟩
    exact ⟨⟨_, rfl, as_62_67 _⟩, h⟩
  · refine (view3 b q m mc w h).mono ?_
    rintro e w' ⟨rfl, h⟩
    exact ⟨⟨_, rfl, as_65_67 _⟩, h⟩
  · refine (view4 b js q m mc w w0 hf hjs h).mono ?_
    rintro e w' ⟨⟨p1, n1, c1, rfl, -⟩, h⟩
    exact ⟨⟨_, rfl, as_71_67 _⟩, h⟩
  · refine (view5 b js q m mc w w0 hf hjs h).mono ?_
    rintro e w' ⟨⟨p1, n1, c1, rfl, -⟩, h⟩
    exact ⟨⟨_, rfl, as_69_67 _⟩, h⟩
  · refine (view7 b js q m mc w w0 hf hjs h).mono ?_
    rintro e w' ⟨⟨p1, n1, c1, p2, n2, c2, rfl, -⟩, h⟩
    exact ⟨⟨_, rfl, as_85_67 _⟩, h⟩
theorem viewNot7 (hn : b.kind ≠ 7) : Calls Tryd.prog 43 #[.agg #[.int .i64 b.kind, .int .i64 b.size, .int .i64 b.len, .bool b.flag, .string b.name, .slice q m mc]] w fun e w' => (∃ V, e = .returned V ∧ ∀ X : World, (Instr.typeAssert V 20 85 true).run Tryd.prog X = .ok (.tuple #[.agg #[.int .i64 0, .int .i64 0, .int .i64 0, .bool false, .string ⟨#[]⟩, .slice none 0 0, .slice none 0 0], .bool false]) X) ∧ Fresh w w' := by
  have hc : b.kind < 1 ∨ b.kind = 1 ∨ b.kind = 2 ∨ b.kind = 3 ∨ b.kind = 4 ∨ b.kind = 5 ∨ b.kind = 6 := by omega
  rcases hc with h0 | h | h | h | h | h | h
  · refine (view0 b q m mc w (Or.inl h0)).mono ?_
    rintro e w' ⟨rfl, h⟩
    exact ⟨⟨_, rfl, as_nil_85⟩, h⟩
  · refine (view1 b q m mc w h).mono ?_
    rintro e w' ⟨rfl, h⟩
    exact ⟨⟨_, rfl, as_98_85 _⟩, h⟩
  · refine (view2 b q m mc w h).mono ?_
    rintro e w' ⟨rfl, h⟩
    exact ⟨⟨_, rfl, as_62_85 _⟩, h⟩
  · refine (view3 b q m mc w h).mono ?_
    rintro e w' ⟨rfl, h⟩
    exact ⟨⟨_, rfl, as_65_85 _⟩, h⟩
  · refine (view4 b js q m mc w w0 hf hjs h).mono ?_
    rintro e w' ⟨⟨p1, n1, c1, rfl, -⟩, h⟩
    exact ⟨⟨_, rfl, as_71_85 _⟩, h⟩
  · refine (view5 b js q m mc w w0 hf hjs h).mono ?_
    rintro e w' ⟨⟨p1, n1, c1, rfl, -⟩, h⟩
    exact ⟨⟨_, rfl, as_69_85 _⟩, h⟩
  · refine (view6 b q m mc w h).mono ?_
    rintro e w' ⟨rfl, h⟩
    exact ⟨⟨_, rfl, as_67_85 _⟩, h⟩
theorem viewSome (hn : b.kind ≠ 0) : Calls Tryd.prog 43 #[.agg #[.int .i64 b.kind, .int .i64 b.size, .int .i64 b.len, .bool b.flag, .string b.name, .slice q m mc]] w fun e w' => (∃ t v, e = .returned (.iface t v)) ∧ Fresh w w' := by
  have hc : b.kind = 1 ∨ b.kind = 2 ∨ b.kind = 3 ∨ b.kind = 4 ∨ b.kind = 5 ∨ b.kind = 6 ∨ b.kind = 7 := by omega
  rcases hc with h | h | h | h | h | h | h
  · refine (view1 b q m mc w h).mono ?_
    rintro e w' ⟨rfl, h⟩
    exact ⟨⟨_, _, rfl⟩, h⟩
  · refine (view2 b q m mc w h).mono ?_
    rintro e w' ⟨rfl, h⟩
    exact ⟨⟨_, _, rfl⟩, h⟩
  · refine (view3 b q m mc w h).mono ?_
    rintro e w' ⟨rfl, h⟩
    exact ⟨⟨_, _, rfl⟩, h⟩
  · refine (view4 b js q m mc w w0 hf hjs h).mono ?_
    rintro e w' ⟨⟨p1, n1, c1, rfl, -⟩, h⟩
    exact ⟨⟨_, _, rfl⟩, h⟩
  · refine (view5 b js q m mc w w0 hf hjs h).mono ?_
    rintro e w' ⟨⟨p1, n1, c1, rfl, -⟩, h⟩
    exact ⟨⟨_, _, rfl⟩, h⟩
  · refine (view6 b q m mc w h).mono ?_
    rintro e w' ⟨rfl, h⟩
    exact ⟨⟨_, _, rfl⟩, h⟩
  · refine (view7 b js q m mc w w0 hf hjs h).mono ?_
    rintro e w' ⟨⟨p1, n1, c1, p2, n2, c2, rfl, -⟩, h⟩
    exact ⟨⟨_, _, rfl⟩, h⟩
end
attribute [local go_sem] as_98_98 as_98_62 as_98_65 as_98_67 as_98_71 as_98_69 as_98_85 as_62_98 as_62_62 as_62_65 as_62_67 as_62_71 as_62_69 as_62_85 as_65_98 as_65_62 as_65_65 as_65_67 as_65_71 as_65_69 as_65_85 as_67_98 as_67_62 as_67_65 as_67_67 as_67_71 as_67_69 as_67_85 as_71_98 as_71_62 as_71_65 as_71_67 as_71_71 as_71_69 as_71_85 as_69_98 as_69_62 as_69_65 as_69_67 as_69_71 as_69_69 as_69_85 as_85_98 as_85_62 as_85_65 as_85_67 as_85_71 as_85_69 as_85_85 as_nil_98 as_nil_62 as_nil_65 as_nil_67 as_nil_71 as_nil_69 as_nil_85
section
variable {ok ok2 : Nat → Prop} (a b : Hd) (ks js : Tys) (p q : Option Addr) (n m cap mc : Nat) (w0 w : World) (hf : Fresh w0 w) (hks : Kids ok w0 ks p n cap) (hjs : Kids ok2 w0 js q m mc) (hk : 0 ≤ b.kind ∧ b.kind ≤ 7)
include hf hks hjs hk
set_option maxHeartbeats 2000000 in
theorem same_no1 (ha : a.kind = 1) (hb : b.kind ≠ 1) : Calls Tryd.prog 28 #[.agg #[.int .i64 a.kind, .int .i64 a.size, .int .i64 a.len, .bool a.flag, .string a.name, .slice p n cap], .agg #[.int .i64 b.kind, .int .i64 b.size, .int .i64 b.len, .bool b.flag, .string b.name, .slice q m mc]] w fun e w' => e = .returned (.bool false) ∧ Fresh w w' := by
  have HA := Lib.hid ha
  have HB := Lib.hid hb
  have HK := Lib.hid hk
  have HF := Lib.hid hf
  have HKS := Lib.hid hks
  have HJS := Lib.hid hjs
  clear ha hb hk hf hks hjs
  have X0 := Lib.hid (BY.new w a b p q n m cap mc)
  go_enter Tryd.func28, Tryd.ntmps28
  go_wp2_with fail
  go_at_call 43; refine (view1 a p n cap _ HA.out).mono ?_; rintro e w1 ⟨rfl, h1⟩; have X1 := Lib.hid (X0.out.later h1); clear h1
  obtain ⟨b0, b1, b2, b3, b4, b5, bf⟩ := X1.out.bb; have bz := cell_lt b0; simp only at bz
  go_wp2_with fail
  go_at_call 43; refine (viewNot1 b js q m mc w0 _ (HF.out.trans (X1.out.fr.trans (by (repeat' first | with_reducible exact Fresh.refl _ | with_reducible assumption | with_reducible refine Fresh.alloc ?_ _ _ | with_reducible refine Fresh.drew ?_ | with_reducible refine Fresh.drewN ?_ _ | with_reducible refine Fresh.setCell ?_ ?_ _ | with_reducible refine Fresh.trans ?_ (by assumption) | (simp; done) | (simp; omega))))) HJS.out HK.out HB.out).mono ?_; rintro e w2 ⟨⟨V, rfl, hV⟩, h2⟩
  have H2 := Lib.hid (X1.out.fr.trans (show Fresh w1 w2 from (by (repeat' first | with_reducible exact Fresh.refl _ | with_reducible assumption | with_reducible refine Fresh.alloc ?_ _ _ | with_reducible refine Fresh.drew ?_ | with_reducible refine Fresh.drewN ?_ _ | with_reducible refine Fresh.setCell ?_ ?_ _ | with_reducible refine Fresh.trans ?_ (by assumption) | (simp; done) | (simp; omega)))))
  clear h2 b0 b1 b2 b3 b4 b5 bf bz X0 X1
  go_wp2_with fail
  go_returns
  exact ⟨rfl, H2.out.trans (by (repeat' first | with_reducible exact Fresh.refl _ | with_reducible assumption | with_reducible refine Fresh.alloc ?_ _ _ | with_reducible refine Fresh.drew ?_ | with_reducible refine Fresh.drewN ?_ _ | with_reducible refine Fresh.setCell ?_ ?_ _ | with_reducible refine Fresh.trans ?_ (by assumption) | (simp; done) | (simp; omega)))⟩
set_option maxHeartbeats 2000000 in
theorem same_no2 (ha : a.kind = 2) (hb : b.kind ≠ 2) : Calls Tryd.prog 28 #[.agg #[.int .i64 a.kind, .int .i64 a.size, .int .i64 a.len, .bool a.flag, .string a.name, .slice p n cap], .agg #[.int .i64 b.kind, .int .i64 b.size, .int .i64 b.len, .bool b.flag, .string b.name, .slice q m mc]] w fun e w' => e = .returned (.bool false) ∧ Fresh w w' := by
  have HA := Lib.hid ha
  have HB := Lib.hid hb
  have HK := Lib.hid hk
  have HF := Lib.hid hf
  have HKS := Lib.hid hks
  have HJS := Lib.hid hjs
  clear ha hb hk hf hks hjs
  have X0 := Lib.hid (BY.new w a b p q n m cap mc)
  go_enter Tryd.func28, Tryd.ntmps28
  go_wp2_with fail
  go_at_call 43; refine (view2 a p n cap _ HA.out).mono ?_; rintro e w1 ⟨rfl, h1⟩; have X1 := Lib.hid (X0.out.later h1); clear h1
  obtain ⟨b0, b1, b2, b3, b4, b5, bf⟩ := X1.out.bb; have bz := cell_lt b0; simp only at bz
  go_wp2_with fail
  go_at_call 43; refine (viewNot2 b js q m mc w0 _ (HF.out.trans (X1.out.fr.trans (by (repeat' first | with_reducible exact Fresh.refl _ | with_reducible assumption | with_reducible refine Fresh.alloc ?_ _ _ | with_reducible refine Fresh.drew ?_ | with_reducible refine Fresh.drewN ?_ _ | with_reducible refine Fresh.setCell ?_ ?_ _ | with_reducible refine Fresh.trans ?_ (by assumption) | (simp; done) | (simp; omega))))) HJS.out HK.out HB.out).mono ?_; rintro e w2 ⟨⟨V, rfl, hV⟩, h2⟩
  have H2 := Lib.hid (X1.out.fr.trans (show Fresh w1 w2 from (by (repeat' first | with_reducible exact Fresh.refl _ | with_reducible assumption | with_reducible refine Fresh.alloc ?_ _ _ | with_reducible refine Fresh.drew ?_ | with_reducible refine Fresh.drewN ?_ _ | with_reducible refine Fresh.setCell ?_ ?_ _ | with_reducible refine Fresh.trans ?_ (by assumption) | (simp; done) | (simp; omega)))))
  clear h2 b0 b1 b2 b3 b4 b5 bf bz X0 X1
  go_wp2_with fail
  go_returns
  exact ⟨rfl, H2.out.trans (by (repeat' first | with_reducible exact Fresh.refl _ | with_reducible assumption | with_reducible refine Fresh.alloc ?_ _ _ | with_reducible refine Fresh.drew ?_ | with_reducible refine Fresh.drewN ?_ _ | with_reducible refine Fresh.setCell ?_ ?_ _ | with_reducible refine Fresh.trans ?_ (by assumption) | (simp; done) | (simp; omega)))⟩
set_option maxHeartbeats 2000000 in
theorem same_no3 (ha : a.kind = 3) (hb : b.kind ≠ 3) : Calls Tryd.prog 28 #[.agg #[.int .i64 a.kind, .int .i64 a.size, .int .i64 a.len, .bool a.flag, .string a.name, .slice p n cap], .agg #[.int .i64 b.kind, .int .i64 b.size, .int .i64 b.len, .bool b.flag, .string b.name, .slice q m mc]] w fun e w' => e = .returned (.bool false) ∧ Fresh w w' := by
  have HA := Lib.hid ha
  have HB := Lib.hid hb
  have HK := Lib.hid hk
  have HF := Lib.hid hf
  have HKS := Lib.hid hks
  have HJS := Lib.hid hjs
  clear ha hb hk hf hks hjs
  have X0 := Lib.hid (BY.new w a b p q n m cap mc)
  go_enter Tryd.func28, Tryd.ntmps28
  go_wp2_with fail
  go_at_call 43; refine (view3 a p n cap _ HA.out).mono ?_; rintro e w1 ⟨rfl, h1⟩; have X1 := Lib.hid (X0.out.later h1); clear h1
  obtain ⟨b0, b1, b2, b3, b4, b5, bf⟩ := X1.out.bb; have bz := cell_lt b0; simp only at bz
  go_wp2_with fail
  go_at_call 43; refine (viewNot3 b js q m mc w0 _ (HF.out.trans (X1.out.fr.trans (by (repeat' first | with_reducible exact Fresh.refl _ | with_reducible assumption | with_reducible refine Fresh.alloc ?_ _ _ | with_reducible refine Fresh.drew ?_ | with_reducible refine Fresh.drewN ?_ _ | with_reducible refine Fresh.setCell ?_ ?_ _ | with_reducible refine Fresh.trans ?_ (by assumption) | (simp; done) | (simp; omega))))) HJS.out HK.out HB.out).mono ?_; rintro e w2 ⟨⟨V, rfl, hV⟩, h2⟩
  have H2 := Lib.hid (X1.out.fr.trans (show Fresh w1 w2 from (by (repeat' first | with_reducible exact Fresh.refl _ | with_reducible assumption | with_reducible refine Fresh.alloc ?_ _ _ | with_reducible refine Fresh.drew ?_ | with_reducible refine Fresh.drewN ?_ _ | with_reducible refine Fresh.setCell ?_ ?_ _ | with_reducible refine Fresh.trans ?_ (by assumption) | (simp; done) | (simp; omega)))))
  clear h2 b0 b1 b2 b3 b4 b5 bf bz X0 X1
  go_wp2_with fail
  go_returns
  exact ⟨rfl, H2.out.trans (by (repeat' first | with_reducible exact Fresh.refl _ | with_reducible assumption | with_reducible refine Fresh.alloc ?_ _ _ | with_reducible refine Fresh.drew ?_ | with_reducible refine Fresh.drewN ?_ _ | with_reducible refine Fresh.setCell ?_ ?_ _ | with_reducible refine Fresh.trans ?_ (by assumption) | (simp; done) | (simp; omega)))⟩
set_option maxHeartbeats 2000000 in
theorem same_no4 (ha : a.kind = 4) (hb : b.kind ≠ 4) : Calls Tryd.prog 28 #[.agg #[.int .i64 a.kind, .int .i64 a.size, .int .i64 a.len, .bool a.flag, .string a.name, .slice p n cap], .agg #[.int .i64 b.kind, .int .i64 b.size, .int .i64 b.len, .bool b.flag, .string b.name, .slice q m mc]] w fun e w' => e = .returned (.bool false) ∧ Fresh w w' := by
  have HA := Lib.hid ha
  have HB := Lib.hid hb
  have HK := Lib.hid hk
  have HF := Lib.hid hf
  have HKS := Lib.hid hks
  have HJS := Lib.hid hjs
  clear ha hb hk hf hks hjs
  have X0 := Lib.hid (BY.new w a b p q n m cap mc)
  go_enter Tryd.func28, Tryd.ntmps28
  go_wp2_with fail
  go_at_call 43; refine (view4 a ks p n cap _ w0 (HF.out.trans X0.out.fr) HKS.out HA.out).mono ?_; rintro e w1 ⟨⟨p1, n1, c1, rfl, -⟩, h1⟩; have X1 := Lib.hid (X0.out.later h1); clear h1
  obtain ⟨b0, b1, b2, b3, b4, b5, bf⟩ := X1.out.bb; have bz := cell_lt b0; simp only at bz
  go_wp2_with fail
  go_at_call 43; refine (viewNot4 b js q m mc w0 _ (HF.out.trans (X1.out.fr.trans (by (repeat' first | with_reducible exact Fresh.refl _ | with_reducible assumption | with_reducible refine Fresh.alloc ?_ _ _ | with_reducible refine Fresh.drew ?_ | with_reducible refine Fresh.drewN ?_ _ | with_reducible refine Fresh.setCell ?_ ?_ _ | with_reducible refine Fresh.trans ?_ (by assumption) | (simp; done) | (simp; omega))))) HJS.out HK.out HB.out).mono ?_; rintro e w2 ⟨⟨V, rfl, hV⟩, h2⟩
  have H2 := Lib.hid (X1.out.fr.trans (show Fresh w1 w2 from (by (repeat' first | with_reducible exact Fresh.refl _ | with_reducible assumption | with_reducible refine Fresh.alloc ?_ _ _ | with_reducible refine Fresh.drew ?_ | with_reducible refine Fresh.drewN ?_ _ | with_reducible refine Fresh.setCell ?_ ?_ _ | with_reducible refine Fresh.trans ?_ (by assumption) | (simp; done) | (simp; omega)))))
  clear h2 b0 b1 b2 b3 b4 b5 bf bz X0 X1
  go_wp2_with fail
  go_returns
  exact ⟨rfl, H2.out.trans (by (repeat' first | with_reducible exact Fresh.refl _ | with_reducible assumption | with_reducible refine Fresh.alloc ?_ _ _ | with_reducible refine Fresh.drew ?_ | with_reducible refine Fresh.drewN ?_ _ | with_reducible refine Fresh.setCell ?_ ?_ _ | with_reducible refine Fresh.trans ?_ (by assumption) | (simp; done) | (simp; omega)))⟩
set_option maxHeartbeats 2000000 in
theorem same_no5 (ha : a.kind = 5) (hb : b.kind ≠ 5) : Calls Tryd.prog 28 #[.agg #[.int .i64 a.kind, .int .i64 a.size, .int .i64 a.len, .bool a.flag, .string a.name, .slice p n cap], .agg #[.int .i64 b.kind, .int .i64 b.size, .int .i64 b.len, .bool b.flag, .string b.name, .slice q m mc]] w fun e w' => e = .returned (.bool false) ∧ Fresh w w' := by
  have HA := Lib.hid ha
  have HB := Lib.hid hb
  have HK := Lib.hid hk
  have HF := Lib.hid hf
  have HKS := Lib.hid hks
  have HJS := Lib.hid hjs
  clear ha hb hk hf hks hjs
  have X0 := Lib.hid (BY.new w a b p q n m cap mc)
  go_enter Tryd.func28, Tryd.ntmps28
  go_wp2_with fail
  go_at_call 43; refine (view5 a ks p n cap _ w0 (HF.out.trans X0.out.fr) HKS.out HA.out).mono ?_; rintro e w1 ⟨⟨p1, n1, c1, rfl, -⟩, h1⟩; have X1 := Lib.hid (X0.out.later h1); clear h1
  obtain ⟨b0, b1, b2, b3, b4, b5, bf⟩ := X1.out.bb; have bz := cell_lt b0; simp only at bz
  go_wp2_with fail
  go_at_call 43; refine (viewNot5 b js q m mc w0 _ (HF.out.trans (X1.out.fr.trans (by (repeat' first | with_reducible exact Fresh.refl _ | with_reducible assumption | with_reducible refine Fresh.alloc ?_ _ _ | with_reducible refine Fresh.drew ?_ | with_reducible refine Fresh.drewN ?_ _ | with_reducible refine Fresh.setCell ?_ ?_ _ | with_reducible refine Fresh.trans ?_ (by assumption) | (simp; done) | (simp; omega))))) HJS.out HK.out HB.out).mono ?_; rintro e w2 ⟨⟨V, rfl, hV⟩, h2⟩
  have H2 := Lib.hid (X1.out.fr.trans (show Fresh w1 w2 from (by (repeat' first | with_reducible exact Fresh.refl _ | with_reducible assumption | with_reducible refine Fresh.alloc ?_ _ _ | with_reducible refine Fresh.drew ?_ | with_reducible refine Fresh.drewN ?_ _ | with_reducible refine Fresh.setCell ?_ ?_ _ | with_reducible refine Fresh.trans ?_ (by assumption) | (simp; done) | (simp; omega)))))
  clear h2 b0 b1 b2 b3 b4 b5 bf bz X0 X1
  go_wp2_with fail
  go_returns
  exact ⟨rfl, H2.out.trans (by (repeat' first | with_reducible exact Fresh.refl _ | with_reducible assumption | with_reducible refine Fresh.alloc ?_ _ _ | with_reducible refine Fresh.drew ?_ | with_reducible refine Fresh.drewN ?_ _ | with_reducible refine Fresh.setCell ?_ ?_ _ | with_reducible refine Fresh.trans ?_ (by assumption) | (simp; done) | (simp; omega)))⟩
set_option maxHeartbeats 2000000 in
theorem same_no6 (ha : a.kind = 6) (hb : b.kind ≠ 6) : Calls Tryd.prog 28 #[.agg #[.int .i64 a.kind, .int .i64 a.size, .int .i64 a.len, .bool a.flag, .string a.name, .slice p n cap], .agg #[.int .i64 b.kind, .int .i64 b.size, .int .i64 b.len, .bool b.flag, .string b.name, .slice q m mc]] w fun e w' => e = .returned (.bool false) ∧ Fresh w w' := by
  have HA := Lib.hid ha
  have HB := Lib.hid hb
  have HK := Lib.hid hk
  have HF := Lib.hid hf
  have HKS := Lib.hid hks
  have HJS := Lib.hid hjs
  clear ha hb hk hf hks hjs
  have X0 := Lib.hid (BY.new w a b p q n m cap mc)
  go_enter Tryd.func28, Tryd.ntmps28
  go_wp2_with fail
  go_at_call 43; refine (view6 a p n cap _ HA.out).mono ?_; rintro e w1 ⟨rfl, h1⟩; have X1 := Lib.hid (X0.out.later h1); clear h1
  obtain ⟨b0, b1, b2, b3, b4, b5, bf⟩ := X1.out.bb; have bz := cell_lt b0; simp only at bz
  go_wp2_with fail
  go_at_call 43; refine (viewNot6 b js q m mc w0 _ (HF.out.trans (X1.out.fr.trans (by (repeat' first | with_reducible exact Fresh.refl _ | with_reducible assumption | with_reducible refine Fresh.alloc ?_ _ _ | with_reducible refine Fresh.drew ?_ | with_reducible refine Fresh.drewN ?_ _ | with_reducible refine Fresh.setCell ?_ ?_ _ | with_reducible refine Fresh.trans ?_ (by assumption) | (simp; done) | (simp; omega))))) HJS.out HK.out HB.out).mono ?_; rintro e w2 ⟨⟨V, rfl, hV⟩, h2⟩
  have H2 := Lib.hid (X1.out.fr.trans (show Fresh w1 w2 from (by (repeat' first | with_reducible exact Fresh.refl _ | with_reducible assumption | with_reducible refine Fresh.alloc ?_ _ _ | with_reducible refine Fresh.drew ?_ | with_reducible refine Fresh.drewN ?_ _ | with_reducible refine Fresh.setCell ?_ ?_ _ | with_reducible refine Fresh.trans ?_ (by assumption) | (simp; done) | (simp; omega)))))
  clear h2 b0 b1 b2 b3 b4 b5 bf bz X0 X1
  go_wp2_with fail
  go_returns
  exact ⟨rfl, H2.out.trans (by (repeat' first | with_reducible exact Fresh.refl _ | with_reducible assumption | with_reducible refine Fresh.alloc ?_ _ _ | with_reducible refine Fresh.drew ?_ | with_reducible refine Fresh.drewN ?_ _ | with_reducible refine Fresh.setCell ?_ ?_ _ | with_reducible refine Fresh.trans ?_ (by assumption) | (simp; done) | (simp; omega)))⟩
set_option maxHeartbeats 2000000 in
theorem same_no7 (ha : a.kind = 7) (hb : b.kind ≠ 7) : Calls Tryd.prog 28 #[.agg #[.int .i64 a.kind, .int .i64 a.size, .int .i64 a.len, .bool a.flag, .string a.name, .slice p n cap], .agg #[.int .i64 b.kind, .int .i64 b.size, .int .i64 b.len, .bool b.flag, .string b.name, .slice q m mc]] w fun e w' => e = .returned (.bool false) ∧ Fresh w w' := by
  have HA := Lib.hid ha
  have HB := Lib.hid hb
  have HK := Lib.hid hk
  have HF := Lib.hid hf
  have HKS := Lib.hid hks
  have HJS := Lib.hid hjs
  clear ha hb hk hf hks hjs
  have X0 := Lib.hid (BY.new w a b p q n m cap mc)
  go_enter Tryd.func28, Tryd.ntmps28
  go_wp2_with fail
  go_at_call 43; refine (view7 a ks p n cap _ w0 (HF.out.trans X0.out.fr) HKS.out HA.out).mono ?_; rintro e w1 ⟨⟨p1, n1, c1, p2, n2, c2, rfl, -⟩, h1⟩; have X1 := Lib.hid (X0.out.later h1); clear h1
  obtain ⟨b0, b1, b2, b3, b4, b5, bf⟩ := X1.out.bb; have bz := cell_lt b0; simp only at bz
  go_wp2_with fail
  go_at_call 43; refine (viewNot7 b js q m mc w0 _ (HF.out.trans (X1.out.fr.trans (by (repeat' first | with_reducible exact Fresh.refl _ | with_reducible assumption | with_reducible refine Fresh.alloc ?_ _ _ | with_reducible refine Fresh.drew ?_ | with_reducible refine Fresh.drewN ?_ _ | with_reducible refine Fresh.setCell ?_ ?_ _ | with_reducible refine Fresh.trans ?_ (by assumption) | (simp; done) | (simp; omega))))) HJS.out HK.out HB.out).mono ?_; rintro e w2 ⟨⟨V, rfl, hV⟩, h2⟩
  have H2 := Lib.hid (X1.out.fr.trans (show Fresh w1 w2 from (by (repeat' first | with_reducible exact Fresh.refl _ | with_reducible assumption | with_reducible refine Fresh.alloc ?_ _ _ | with_reducible refine Fresh.drew ?_ | with_reducible refine Fresh.drewN ?_ _ | with_reducible refine Fresh.setCell ?_ ?_ _ | with_reducible refine Fresh.trans ?_ (by assumption) | (simp; done) | (simp; omega)))))
  clear h2 b0 b1 b2 b3 b4 b5 bf bz X0 X1
  go_wp2_with fail
  go_returns
  exact ⟨rfl, H2.out.trans (by (repeat' first | with_reducible exact Fresh.refl _ | with_reducible assumption | with_reducible refine Fresh.alloc ?_ _ _ | with_reducible refine Fresh.drew ?_ | with_reducible refine Fresh.drewN ?_ _ | with_reducible refine Fresh.setCell ?_ ?_ _ | with_reducible refine Fresh.trans ?_ (by assumption) | (simp; done) | (simp; omega)))⟩
end
end Go.Proofs.YteiomcbphbbpkaaDoor
/- Same: types of like kinds. -/
namespace Go.Proofs.YteiomcbphbbpkaaDoor
set_option linter.unusedSimpArgs false
set_option linter.unusedVariables false
open Go.RowKit

attribute [local go_sem] as_98_98 as_98_62 as_98_65 as_98_67 as_98_71 as_98_69 as_98_85 as_62_98 as_62_62 as_62_65 as_62_67 as_62_71 as_62_69 as_62_85 as_65_98 as_65_62 as_65_65 as_65_67 as_65_71 as_65_69 as_65_85 as_67_98 as_67_62 as_67_65 as_67_67 as_67_71 as_67_69 as_67_85 as_71_98 as_71_62 as_71_65 as_71_67 as_71_71 as_71_69 as_71_85 as_69_98 as_69_62 as_69_65 as_69_67 as_69_71 as_69_69 as_69_85 as_85_98 as_85_62 as_85_65 as_85_67 as_85_71 as_85_69 as_85_85 as_nil_98 as_nil_62 as_nil_65 as_nil_67 as_nil_71 as_nil_69 as_nil_85
section
variable (a b : Hd) (p q : Option Addr) (n m cap mc : Nat) (w : World)
set_option maxHeartbeats 2000000 in
theorem same_is2 (ha : a.kind = 2) (hb : b.kind = 2) : Calls Tryd.prog 28 #[.agg #[.int .i64 a.kind, .int .i64 a.size, .int .i64 a.len, .bool a.flag, .string a.name, .slice p n cap], .agg #[.int .i64 b.kind, .int .i64 b.size, .int .i64 b.len, .bool b.flag, .string b.name, .slice q m mc]] w fun e w' => e = .returned (.bool (a.size == b.size && a.flag == b.flag)) ∧ Fresh w w' := by
  have HA := Lib.hid ha
  have HB := Lib.hid hb
  clear ha hb
  have X0 := Lib.hid (BY.new w a b p q n m cap mc)
  go_enter Tryd.func28, Tryd.ntmps28
  go_wp2_with fail
  go_at_call 43; refine (view2 a p n cap _ HA.out).mono ?_; rintro e w1 ⟨rfl, h1⟩; have X1 := Lib.hid (X0.out.later h1); clear h1
  obtain ⟨b0, b1, b2, b3, b4, b5, bf⟩ := X1.out.bb; have bz := cell_lt b0; simp only at bz
  go_wp2_with fail
  go_at_call 43; refine (view2 b q m mc _ HB.out).mono ?_; rintro e w2 ⟨rfl, h2⟩; have X2 := Lib.hid ((X1.out.later ((Fresh.refl _).alloc #[.int .i64 a.size, .bool a.flag] 62)).later h2)
  have t6 := (Blk.new w1 #[.int .i64 a.size, .bool a.flag] 62).fresh h2
  have g0 := t6.1 0 _ rfl
  have g1 := t6.1 1 _ rfl
  have gz := t6.2.2
  clear t6 b0 b1 b2 b3 b4 b5 bf bz h2
  go_wp2_with fail
  all_goals go_returns
  all_goals (refine ⟨ret_bool ?_, X2.out.fr.trans (by (repeat' first | with_reducible exact Fresh.refl _ | with_reducible assumption | with_reducible refine Fresh.alloc ?_ _ _ | with_reducible refine Fresh.drew ?_ | with_reducible refine Fresh.drewN ?_ _ | with_reducible refine Fresh.setCell ?_ ?_ _ | with_reducible refine Fresh.trans ?_ (by assumption) | (simp; done) | (simp; omega)))⟩)
  all_goals simp [*]
set_option maxHeartbeats 2000000 in
theorem same_is6 (ha : a.kind = 6) (hb : b.kind = 6) : Calls Tryd.prog 28 #[.agg #[.int .i64 a.kind, .int .i64 a.size, .int .i64 a.len, .bool a.flag, .string a.name, .slice p n cap], .agg #[.int .i64 b.kind, .int .i64 b.size, .int .i64 b.len, .bool b.flag, .string b.name, .slice q m mc]] w fun e w' => e = .returned (.bool (a.name.toList == b.name.toList && a.flag == b.flag)) ∧ Fresh w w' := by
  have HA := Lib.hid ha
  have HB := Lib.hid hb
  clear ha hb
  have X0 := Lib.hid (BY.new w a b p q n m cap mc)
  go_enter Tryd.func28, Tryd.ntmps28
  go_wp2_with fail
  go_at_call 43; refine (view6 a p n cap _ HA.out).mono ?_; rintro e w1 ⟨rfl, h1⟩; have X1 := Lib.hid (X0.out.later h1); clear h1
  obtain ⟨b0, b1, b2, b3, b4, b5, bf⟩ := X1.out.bb; have bz := cell_lt b0; simp only at bz
  go_wp2_with fail
  go_at_call 43; refine (view6 b q m mc _ HB.out).mono ?_; rintro e w2 ⟨rfl, h2⟩; have X2 := Lib.hid ((X1.out.later ((Fresh.refl _).alloc #[.string a.name, .bool a.flag] 67)).later h2)
  have t6 := (Blk.new w1 #[.string a.name, .bool a.flag] 67).fresh h2
  have g0 := t6.1 0 _ rfl
  have g1 := t6.1 1 _ rfl
  have gz := t6.2.2
  clear t6 b0 b1 b2 b3 b4 b5 bf bz h2
  go_wp2_with fail
  all_goals go_returns
  all_goals (refine ⟨ret_bool ?_, X2.out.fr.trans (by (repeat' first | with_reducible exact Fresh.refl _ | with_reducible assumption | with_reducible refine Fresh.alloc ?_ _ _ | with_reducible refine Fresh.drew ?_ | with_reducible refine Fresh.drewN ?_ _ | with_reducible refine Fresh.setCell ?_ ?_ _ | with_reducible refine Fresh.trans ?_ (by assumption) | (simp; done) | (simp; omega)))⟩)
  all_goals simp [*]
set_option maxHeartbeats 2000000 in
theorem same_is1 (ha : a.kind = 1) (hb : b.kind = 1) : Calls Tryd.prog 28 #[.agg #[.int .i64 a.kind, .int .i64 a.size, .int .i64 a.len, .bool a.flag, .string a.name, .slice p n cap], .agg #[.int .i64 b.kind, .int .i64 b.size, .int .i64 b.len, .bool b.flag, .string b.name, .slice q m mc]] w fun e w' => e = .returned (.bool true) ∧ Fresh w w' := by
  have HA := Lib.hid ha
  have HB := Lib.hid hb
  clear ha hb
  have X0 := Lib.hid (BY.new w a b p q n m cap mc)
  go_enter Tryd.func28, Tryd.ntmps28
  go_wp2_with fail
  go_at_call 43; refine (view1 a p n cap _ HA.out).mono ?_; rintro e w1 ⟨rfl, h1⟩; have X1 := Lib.hid (X0.out.later h1); clear h1
  obtain ⟨b0, b1, b2, b3, b4, b5, bf⟩ := X1.out.bb; have bz := cell_lt b0; simp only at bz
  go_wp2_with fail
  go_at_call 43; refine (view1 b q m mc _ HB.out).mono ?_; rintro e w2 ⟨rfl, h2⟩; have X2 := Lib.hid ((X1.out.later ((Fresh.refl _).alloc #[] 98)).later h2)
  clear b0 b1 b2 b3 b4 b5 bf bz h2
  go_wp2_with fail
  go_returns
  exact ⟨rfl, X2.out.fr.trans (by (repeat' first | with_reducible exact Fresh.refl _ | with_reducible assumption | with_reducible refine Fresh.alloc ?_ _ _ | with_reducible refine Fresh.drew ?_ | with_reducible refine Fresh.drewN ?_ _ | with_reducible refine Fresh.setCell ?_ ?_ _ | with_reducible refine Fresh.trans ?_ (by assumption) | (simp; done) | (simp; omega)))⟩
set_option maxHeartbeats 2000000 in
theorem same_is3 (ha : a.kind = 3) (hb : b.kind = 3) : Calls Tryd.prog 28 #[.agg #[.int .i64 a.kind, .int .i64 a.size, .int .i64 a.len, .bool a.flag, .string a.name, .slice p n cap], .agg #[.int .i64 b.kind, .int .i64 b.size, .int .i64 b.len, .bool b.flag, .string b.name, .slice q m mc]] w fun e w' => e = .returned (.bool true) ∧ Fresh w w' := by
  have HA := Lib.hid ha
  have HB := Lib.hid hb
  clear ha hb
  have X0 := Lib.hid (BY.new w a b p q n m cap mc)
  go_enter Tryd.func28, Tryd.ntmps28
  go_wp2_with fail
  go_at_call 43; refine (view3 a p n cap _ HA.out).mono ?_; rintro e w1 ⟨rfl, h1⟩; have X1 := Lib.hid (X0.out.later h1); clear h1
  obtain ⟨b0, b1, b2, b3, b4, b5, bf⟩ := X1.out.bb; have bz := cell_lt b0; simp only at bz
  go_wp2_with fail
  go_at_call 43; refine (view3 b q m mc _ HB.out).mono ?_; rintro e w2 ⟨rfl, h2⟩; have X2 := Lib.hid ((X1.out.later ((Fresh.refl _).alloc #[] 65)).later h2)
  clear b0 b1 b2 b3 b4 b5 bf bz h2
  go_wp2_with fail
  go_returns
  exact ⟨rfl, X2.out.fr.trans (by (repeat' first | with_reducible exact Fresh.refl _ | with_reducible assumption | with_reducible refine Fresh.alloc ?_ _ _ | with_reducible refine Fresh.drew ?_ | with_reducible refine Fresh.drewN ?_ _ | with_reducible refine Fresh.setCell ?_ ?_ _ | with_reducible refine Fresh.trans ?_ (by assumption) | (simp; done) | (simp; omega)))⟩
end
end Go.Proofs.YteiomcbphbbpkaaDoor
/- Same: pointers, arrays, none. -/
namespace Go.Proofs.YteiomcbphbbpkaaDoor
set_option linter.unusedSimpArgs false
set_option linter.unusedVariables false
open Go.RowKit

attribute [local go_sem] as_98_98 as_98_62 as_98_65 as_98_67 as_98_71 as_98_69 as_98_85 as_62_98 as_62_62 as_62_65 as_62_67 as_62_71 as_62_69 as_62_85 as_65_98 as_65_62 as_65_65 as_65_67 as_65_71 as_65_69 as_65_85 as_67_98 as_67_62 as_67_65 as_67_67 as_67_71 as_67_69 as_67_85 as_71_98 as_71_62 as_71_65 as_71_67 as_71_71 as_71_69 as_71_85 as_69_98 as_69_62 as_69_65 as_69_67 as_69_71 as_69_69 as_69_85 as_85_98 as_85_62 as_85_65 as_85_67 as_85_71 as_85_69 as_85_85 as_nil_98 as_nil_62 as_nil_65 as_nil_67 as_nil_71 as_nil_69 as_nil_85
section
variable {ok ok2 : Nat → Prop} (a b : Hd) (ks js : Tys) (p q : Option Addr) (n m cap mc : Nat) (w0 w : World) (hf : Fresh w0 w) (hks : Kids ok w0 ks p n cap) (hjs : Kids ok2 w0 js q m mc) (K : Bool)
include hf hks hjs
set_option maxHeartbeats 2000000 in
theorem same_b4 (ha : a.kind = 4) (hb : b.kind = 4) (kid : ∀ (X : World) (p' q' : Option Addr) (n' cap' m' mc' : Nat), Fresh w0 X → Kids ok w0 ks.kids p' n' cap' → Kids ok2 w0 js.kids q' m' mc' → Calls Tryd.prog 28 #[.agg #[.int .i64 ks.hd.kind, .int .i64 ks.hd.size, .int .i64 ks.hd.len, .bool ks.hd.flag, .string ks.hd.name, .slice p' n' cap'], .agg #[.int .i64 js.hd.kind, .int .i64 js.hd.size, .int .i64 js.hd.len, .bool js.hd.flag, .string js.hd.name, .slice q' m' mc']] X fun e w' => e = .returned (.bool K) ∧ Fresh X w') :
    Calls Tryd.prog 28 #[.agg #[.int .i64 a.kind, .int .i64 a.size, .int .i64 a.len, .bool a.flag, .string a.name, .slice p n cap], .agg #[.int .i64 b.kind, .int .i64 b.size, .int .i64 b.len, .bool b.flag, .string b.name, .slice q m mc]] w fun e w' => e = .returned (.bool K) ∧ Fresh w w' := by
  have HA := Lib.hid ha
  have HB := Lib.hid hb
  have HK := Lib.hid hks
  have HJ := Lib.hid hjs
  have HF := Lib.hid hf
  have KID := Lib.hid kid
  clear ha hb hks hjs hf kid
  have X0 := Lib.hid (BY.new w a b p q n m cap mc)
  go_enter Tryd.func28, Tryd.ntmps28
  go_wp2_with fail
  go_at_call 43; refine (view4 a ks p n cap _ w0 (HF.out.trans (by (repeat' first | with_reducible exact Fresh.refl _ | with_reducible assumption | with_reducible refine Fresh.alloc ?_ _ _ | with_reducible refine Fresh.drew ?_ | with_reducible refine Fresh.drewN ?_ _ | with_reducible refine Fresh.setCell ?_ ?_ _ | with_reducible refine Fresh.trans ?_ (by assumption) | (simp; done) | (simp; omega)))) HK.out HA.out).mono ?_; rintro e w1 ⟨⟨p1, n1, cap1, rfl, hk1⟩, h1⟩; have HK1 := Lib.hid hk1; clear hk1; have X1 := Lib.hid (X0.out.later h1); clear h1
  obtain ⟨b0, b1, b2, b3, b4, b5, bf⟩ := X1.out.bb; have bz := cell_lt b0; simp only at bz
  go_wp2_with fail
  go_at_call 43; refine (view4 b js q m mc _ w0 (HF.out.trans (X1.out.fr.trans (by (repeat' first | with_reducible exact Fresh.refl _ | with_reducible assumption | with_reducible refine Fresh.alloc ?_ _ _ | with_reducible refine Fresh.drew ?_ | with_reducible refine Fresh.drewN ?_ _ | with_reducible refine Fresh.setCell ?_ ?_ _ | with_reducible refine Fresh.trans ?_ (by assumption) | (simp; done) | (simp; omega))))) HJ.out HB.out).mono ?_; rintro e w1b ⟨⟨p1b, n1b, cap1b, rfl, hk1b⟩, h1b⟩; have HK1b := Lib.hid hk1b; clear hk1b; have X2 := Lib.hid ((X1.out.later ((Fresh.refl _).alloc #[.int .i64 ks.hd.kind, .int .i64 ks.hd.size, .int .i64 ks.hd.len, .bool ks.hd.flag, .string ks.hd.name, .slice p1 n1 cap1] 71)).later h1b)
  have t6 := (Blk.new w1 #[.int .i64 ks.hd.kind, .int .i64 ks.hd.size, .int .i64 ks.hd.len, .bool ks.hd.flag, .string ks.hd.name, .slice p1 n1 cap1] 71).fresh h1b
  have g0 := (t6).1 0 _ rfl; have g1 := (t6).1 1 _ rfl; have g2 := (t6).1 2 _ rfl; have g3 := (t6).1 3 _ rfl; have g4 := (t6).1 4 _ rfl; have g5 := (t6).1 5 _ rfl; have gf := (t6).2.1; have gz := (t6).2.2
  clear t6 b0 b1 b2 b3 b4 b5 bf bz h1b
  go_wp2_with fail
  go_at_call 28; refine (KID.out _ p1 p1b n1 cap1 n1b cap1b (HF.out.trans (X2.out.fr.trans (by (repeat' first | with_reducible exact Fresh.refl _ | with_reducible assumption | with_reducible refine Fresh.alloc ?_ _ _ | with_reducible refine Fresh.drew ?_ | with_reducible refine Fresh.drewN ?_ _ | with_reducible refine Fresh.setCell ?_ ?_ _ | with_reducible refine Fresh.trans ?_ (by assumption) | (simp; done) | (simp; omega))))) HK1.out HK1b.out).mono ?_; rintro e w3 ⟨rfl, h3⟩
  have F3 := Lib.hid (X2.out.fr.trans (show Fresh w1b w3 from (by (repeat' first | with_reducible exact Fresh.refl _ | with_reducible assumption | with_reducible refine Fresh.alloc ?_ _ _ | with_reducible refine Fresh.drew ?_ | with_reducible refine Fresh.drewN ?_ _ | with_reducible refine Fresh.setCell ?_ ?_ _ | with_reducible refine Fresh.trans ?_ (by assumption) | (simp; done) | (simp; omega)))))
  go_wp2_with fail
  go_returns
  exact ⟨rfl, F3.out⟩
set_option maxHeartbeats 2000000 in
theorem same_b5 (ha : a.kind = 5) (hb : b.kind = 5) (kid : ∀ (X : World) (p' q' : Option Addr) (n' cap' m' mc' : Nat), Fresh w0 X → Kids ok w0 ks.kids p' n' cap' → Kids ok2 w0 js.kids q' m' mc' → Calls Tryd.prog 28 #[.agg #[.int .i64 ks.hd.kind, .int .i64 ks.hd.size, .int .i64 ks.hd.len, .bool ks.hd.flag, .string ks.hd.name, .slice p' n' cap'], .agg #[.int .i64 js.hd.kind, .int .i64 js.hd.size, .int .i64 js.hd.len, .bool js.hd.flag, .string js.hd.name, .slice q' m' mc']] X fun e w' => e = .returned (.bool K) ∧ Fresh X w') :
    Calls Tryd.prog 28 #[.agg #[.int .i64 a.kind, .int .i64 a.size, .int .i64 a.len, .bool a.flag, .string a.name, .slice p n cap], .agg #[.int .i64 b.kind, .int .i64 b.size, .int .i64 b.len, .bool b.flag, .string b.name, .slice q m mc]] w fun e w' => e = .returned (.bool (a.len == b.len && K)) ∧ Fresh w w' := by
  have HR : Hid ((a.len == b.len) = true ∨ (a.len == b.len) = false) := Lib.hid (by cases (a.len == b.len) <;> simp)
  generalize hR : (a.len == b.len && K) = R
  have HRR := Lib.hid hR
  clear hR
  have HA := Lib.hid ha
  have HB := Lib.hid hb
  have HK := Lib.hid hks
  have HJ := Lib.hid hjs
  have HF := Lib.hid hf
  have KID := Lib.hid kid
  clear ha hb hks hjs hf kid
  have X0 := Lib.hid (BY.new w a b p q n m cap mc)
  go_enter Tryd.func28, Tryd.ntmps28
  go_wp2_with fail
  go_at_call 43; refine (view5 a ks p n cap _ w0 (HF.out.trans (by (repeat' first | with_reducible exact Fresh.refl _ | with_reducible assumption | with_reducible refine Fresh.alloc ?_ _ _ | with_reducible refine Fresh.drew ?_ | with_reducible refine Fresh.drewN ?_ _ | with_reducible refine Fresh.setCell ?_ ?_ _ | with_reducible refine Fresh.trans ?_ (by assumption) | (simp; done) | (simp; omega)))) HK.out HA.out).mono ?_; rintro e w1 ⟨⟨p1, n1, cap1, rfl, hk1⟩, h1⟩; have HK1 := Lib.hid hk1; clear hk1; have X1 := Lib.hid (X0.out.later h1); clear h1
  obtain ⟨b0, b1, b2, b3, b4, b5, bf⟩ := X1.out.bb; have bz := cell_lt b0; simp only at bz
  go_wp2_with fail
  go_at_call 43; refine (view5 b js q m mc _ w0 (HF.out.trans (X1.out.fr.trans (by (repeat' first | with_reducible exact Fresh.refl _ | with_reducible assumption | with_reducible refine Fresh.alloc ?_ _ _ | with_reducible refine Fresh.drew ?_ | with_reducible refine Fresh.drewN ?_ _ | with_reducible refine Fresh.setCell ?_ ?_ _ | with_reducible refine Fresh.trans ?_ (by assumption) | (simp; done) | (simp; omega))))) HJ.out HB.out).mono ?_; rintro e w1b ⟨⟨p1b, n1b, cap1b, rfl, hk1b⟩, h1b⟩; have HK1b := Lib.hid hk1b; clear hk1b; have X2 := Lib.hid ((X1.out.later ((Fresh.refl _).alloc #[.int .i64 ks.hd.kind, .int .i64 ks.hd.size, .int .i64 ks.hd.len, .bool ks.hd.flag, .string ks.hd.name, .slice p1 n1 cap1, .int .i64 a.len] 69)).later h1b)
  have t6 := (Blk.new w1 #[.int .i64 ks.hd.kind, .int .i64 ks.hd.size, .int .i64 ks.hd.len, .bool ks.hd.flag, .string ks.hd.name, .slice p1 n1 cap1, .int .i64 a.len] 69).fresh h1b
  have g0 := (t6).1 0 _ rfl; have g1 := (t6).1 1 _ rfl; have g2 := (t6).1 2 _ rfl; have g3 := (t6).1 3 _ rfl; have g4 := (t6).1 4 _ rfl; have g5 := (t6).1 5 _ rfl; have g6 := (t6).1 6 _ rfl; have gf := (t6).2.1; have gz := (t6).2.2
  clear t6 b0 b1 b2 b3 b4 b5 bf bz h1b
  rcases HR.out with e1 | e1
  · have eR := HRR.out
    rw [e1] at eR
    simp only [Bool.true_and] at eR
    subst eR
    clear HR HRR
    go_wp2_with fail
    go_at_call 28; refine (KID.out _ p1 p1b n1 cap1 n1b cap1b (HF.out.trans (X2.out.fr.trans (by (repeat' first | with_reducible exact Fresh.refl _ | with_reducible assumption | with_reducible refine Fresh.alloc ?_ _ _ | with_reducible refine Fresh.drew ?_ | with_reducible refine Fresh.drewN ?_ _ | with_reducible refine Fresh.setCell ?_ ?_ _ | with_reducible refine Fresh.trans ?_ (by assumption) | (simp; done) | (simp; omega))))) HK1.out HK1b.out).mono ?_; rintro e w3 ⟨rfl, h3⟩
    have F3 := Lib.hid (X2.out.fr.trans (show Fresh w1b w3 from (by (repeat' first | with_reducible exact Fresh.refl _ | with_reducible assumption | with_reducible refine Fresh.alloc ?_ _ _ | with_reducible refine Fresh.drew ?_ | with_reducible refine Fresh.drewN ?_ _ | with_reducible refine Fresh.setCell ?_ ?_ _ | with_reducible refine Fresh.trans ?_ (by assumption) | (simp; done) | (simp; omega)))))
    go_wp2_with fail
    go_returns
    exact ⟨rfl, F3.out⟩
  · have eR := HRR.out
    rw [e1] at eR
    simp only [Bool.false_and] at eR
    subst eR
    clear HR HRR
    go_wp2_with fail
    go_returns
    exact ⟨rfl, X2.out.fr.trans (by (repeat' first | with_reducible exact Fresh.refl _ | with_reducible assumption | with_reducible refine Fresh.alloc ?_ _ _ | with_reducible refine Fresh.drew ?_ | with_reducible refine Fresh.drewN ?_ _ | with_reducible refine Fresh.setCell ?_ ?_ _ | with_reducible refine Fresh.trans ?_ (by assumption) | (simp; done) | (simp; omega)))⟩
end
section
variable {ok2 : Nat → Prop} (a b : Hd) (js : Tys) (p q : Option Addr) (n m cap mc : Nat) (w0 w : World) (hf : Fresh w0 w) (hjs : Kids ok2 w0 js q m mc) (hk : 0 ≤ b.kind ∧ b.kind ≤ 7)
include hf hjs hk
set_option maxHeartbeats 2000000 in
theorem same_b0 (ha : a.kind = 0) : Calls Tryd.prog 28 #[.agg #[.int .i64 a.kind, .int .i64 a.size, .int .i64 a.len, .bool a.flag, .string a.name, .slice p n cap], .agg #[.int .i64 b.kind, .int .i64 b.size, .int .i64 b.len, .bool b.flag, .string b.name, .slice q m mc]] w fun e w' => e = .returned (.bool (b.kind == 0)) ∧ Fresh w w' := by
  have HA := Lib.hid ha
  have HK := Lib.hid hk
  have HJ := Lib.hid hjs
  have HF := Lib.hid hf
  clear ha hk hjs hf
  have eqn : ∀ X : World, (binOp .eql 20 .nilIface .nilIface).run Tryd.prog X = .ok (.bool true) X := fun X => by kernel_rfl
  have eqi := eq_if
  have X0 := Lib.hid (BY.new w a b p q n m cap mc)
  by_cases hb : b.kind = 0
  · have HB := Lib.hid hb
    rw [show (b.kind == 0) = true by rw [hb]; rfl]
    clear hb
    go_enter Tryd.func28, Tryd.ntmps28
    go_wp2_with fail
    go_at_call 43; refine (view0 a p n cap _ (Or.inl (by have := HA.out; omega))).mono ?_; rintro e w1 ⟨rfl, h1⟩; have X1 := Lib.hid (X0.out.later h1); clear h1
    obtain ⟨b0, b1, b2, b3, b4, b5, bf⟩ := X1.out.bb; have bz := cell_lt b0; simp only at bz
    go_wp2_with fail
    go_at_call 43; refine (view0 b q m mc _ (Or.inl (by have := HB.out; omega))).mono ?_; rintro e w2 ⟨rfl, h2⟩
    have H2 := Lib.hid (X1.out.fr.trans (show Fresh w1 w2 from (by (repeat' first | with_reducible exact Fresh.refl _ | with_reducible assumption | with_reducible refine Fresh.alloc ?_ _ _ | with_reducible refine Fresh.drew ?_ | with_reducible refine Fresh.drewN ?_ _ | with_reducible refine Fresh.setCell ?_ ?_ _ | with_reducible refine Fresh.trans ?_ (by assumption) | (simp; done) | (simp; omega)))))
    clear h2 b0 b1 b2 b3 b4 b5 bf bz X0 X1
    go_wp2_with fail
    go_returns
    exact ⟨rfl, H2.out⟩
  · have HB := Lib.hid hb
    rw [show (b.kind == 0) = false by simpa using hb]
    clear hb
    go_enter Tryd.func28, Tryd.ntmps28
    go_wp2_with fail
    go_at_call 43; refine (view0 a p n cap _ (Or.inl (by have := HA.out; omega))).mono ?_; rintro e w1 ⟨rfl, h1⟩; have X1 := Lib.hid (X0.out.later h1); clear h1
    obtain ⟨b0, b1, b2, b3, b4, b5, bf⟩ := X1.out.bb; have bz := cell_lt b0; simp only at bz
    go_wp2_with fail
    go_at_call 43; refine (viewSome b js q m mc w0 _ (HF.out.trans (X1.out.fr.trans (by (repeat' first | with_reducible exact Fresh.refl _ | with_reducible assumption | with_reducible refine Fresh.alloc ?_ _ _ | with_reducible refine Fresh.drew ?_ | with_reducible refine Fresh.drewN ?_ _ | with_reducible refine Fresh.setCell ?_ ?_ _ | with_reducible refine Fresh.trans ?_ (by assumption) | (simp; done) | (simp; omega))))) HJ.out HK.out HB.out).mono ?_; rintro e w2 ⟨⟨t, v, rfl⟩, h2⟩
    have H2 := Lib.hid (X1.out.fr.trans (show Fresh w1 w2 from (by (repeat' first | with_reducible exact Fresh.refl _ | with_reducible assumption | with_reducible refine Fresh.alloc ?_ _ _ | with_reducible refine Fresh.drew ?_ | with_reducible refine Fresh.drewN ?_ _ | with_reducible refine Fresh.setCell ?_ ?_ _ | with_reducible refine Fresh.trans ?_ (by assumption) | (simp; done) | (simp; omega)))))
    clear h2 b0 b1 b2 b3 b4 b5 bf bz X0 X1
    go_wp2_with fail
    go_returns
    exact ⟨rfl, H2.out⟩
end
end Go.Proofs.YteiomcbphbbpkaaDoor
/- Same: rows of types, by EqualFunc. -/
namespace Go.Proofs.YteiomcbphbbpkaaDoor
set_option linter.unusedSimpArgs false
set_option linter.unusedVariables false
open Go.RowKit

/-- Same of this type and any well formed one. -/
def SameSpec (a : Hd) (ks : Tys) : Prop := ∀ (ok ok2 : Nat → Prop) (b : Hd) (js : Tys) (p q : Option Addr) (n m cap mc : Nat) (w0 w : World), Fresh w0 w → Kids ok w0 ks p n cap → Kids ok2 w0 js q m mc → WFh b js → js.wf →
  Calls Tryd.prog 28 #[.agg #[.int .i64 a.kind, .int .i64 a.size, .int .i64 a.len, .bool a.flag, .string a.name, .slice p n cap], .agg #[.int .i64 b.kind, .int .i64 b.size, .int .i64 b.len, .bool b.flag, .string b.name, .slice q m mc]] w fun e w' => e = .returned (.bool (eqT a ks b js)) ∧ Fresh w w'
def AllS : Tys → Prop
  | .nil => True
  | .cons h k r => SameSpec h k ∧ AllS r
theorem eqRow_len : ∀ {ks js : Tys}, ks.length ≠ js.length → eqRow ks js = false
  | .nil, .nil, h => absurd rfl h
  | .nil, .cons _ _ _, _ => rfl
  | .cons _ _ _, .nil, _ => rfl
  | .cons a k r, .cons b j s, h => by
    have := eqRow_len (ks := r) (js := s) (by simp [Tys.length] at h; omega)
    simp [eqRow, this]
theorem six_at {w : World} {B o : Nat} {v0 v1 v2 v3 v4 v5 : Value} {zs : List Value} (h : ∀ j u, (v0 :: v1 :: v2 :: v3 :: v4 :: v5 :: zs)[j]? = some u → w.cell? ⟨B, o + j, none⟩ = some u) :
    w.cell? ⟨B, o, none⟩ = some v0 ∧ w.cell? ⟨B, o + 1, none⟩ = some v1 ∧ w.cell? ⟨B, o + 2, none⟩ = some v2 ∧ w.cell? ⟨B, o + 3, none⟩ = some v3 ∧ w.cell? ⟨B, o + 4, none⟩ = some v4 ∧ w.cell? ⟨B, o + 5, none⟩ = some v5 ∧ ∀ j u, zs[j]? = some u → w.cell? ⟨B, o + 6 + j, none⟩ = some u :=
  ⟨h 0 _ rfl, h 1 _ rfl, h 2 _ rfl, h 3 _ rfl, h 4 _ rfl, h 5 _ rfl, fun j u hu => by
    have := h (j + 6) u (by simpa using hu)
    rwa [show o + (j + 6) = o + 6 + j by omega] at this⟩
/-- Where the rest of a row lies. -/
def RestAt (w0 : World) (p : Option Addr) (k : Nat) (zs : List Value) : Prop := ∀ B off, p = some ⟨B, off, none⟩ → ∀ j u, zs[j]? = some u → w0.cell? ⟨B, off + k * 6 + j, none⟩ = some u
set_option maxRecDepth 100000 in
set_option maxHeartbeats 4000000 in
theorem equalFunc_any {ok ok2 : Nat → Prop} (ks js : Tys) (p q : Option Addr) (n m cap mc : Nat) (w0 w : World) (hf : Fresh w0 w) (hks : Kids ok w0 ks p n cap) (hjs : Kids ok2 w0 js q m mc) (hall : AllS ks) (hwf : js.wf) :
    Calls Tryd.prog 60 #[.slice p n cap, .slice q m mc, .func (.func 28) #[] #[]] w fun e w' => e = .returned (.bool (eqRow ks js)) ∧ Fresh w w' := by
  have HN := Lib.hid hks.1
  have HM := Lib.hid hjs.1
  have HF := Lib.hid hf
  have hcap : cap ≤ 9223372036854775807 := hks.2.2.1
  have hnc : n ≤ cap := hks.2.1
  have hmc : m ≤ mc := hjs.2.1
  have hcap2 : mc ≤ 9223372036854775807 := hjs.2.2.1
  by_cases hnm : n = m
  · subst hnm
    obtain ⟨xs, hx, hxl, hxp⟩ := hks.cells
    obtain ⟨ys, hy, hyl, hyp⟩ := hjs.cells
    have HP1 : Hid (n = 0 ∨ ∃ B off, p = some ⟨B, off, none⟩) := Lib.hid (by
      rcases hxp with ⟨-, h, -⟩ | ⟨B, off, e, -⟩
      · exact Or.inl h
      · exact Or.inr ⟨B, off, e⟩)
    have HP2 : Hid (n = 0 ∨ ∃ B off, q = some ⟨B, off, none⟩) := Lib.hid (by
      rcases hyp with ⟨-, h, -⟩ | ⟨B, off, e, -⟩
      · exact Or.inl h
      · exact Or.inr ⟨B, off, e⟩)
    have R1 : Hid (RestAt w0 p 0 xs) := Lib.hid (by
      intro B off e j u hu
      rcases hxp with ⟨e', -⟩ | ⟨B', off', e', h⟩
      · rw [e] at e'; cases e'
      · rw [e] at e'; cases e'
        have := h j u hu
        rw [Go.WideShapes.add_plain] at this
        simpa using this)
    have R2 : Hid (RestAt w0 q 0 ys) := Lib.hid (by
      intro B off e j u hu
      rcases hyp with ⟨e', -⟩ | ⟨B', off', e', h⟩
      · rw [e] at e'; cases e'
      · rw [e] at e'; cases e'
        have := h j u hu
        rw [Go.WideShapes.add_plain] at this
        simpa using this)
    have HX := Lib.hid hx
    have HY := Lib.hid hy
    have HA := Lib.hid hall
    have HW := Lib.hid hwf
    clear hx hxl hxp hy hyl hyp hks hjs hall hwf hf
    generalize hR : eqRow ks js = R
    have HR := Lib.hid hR
    clear hR
    go_enter Tryd.func60, Tryd.ntmps60
    go_wp2_with fail
    go_loopw [17] (fun i wr => ∃ (k : Nat) (r1 r2 : Tys) (zs1 zs2 : List Value), k ≤ n ∧ i = .int .i64 k ∧ Hid (R = eqRow r1 r2 ∧ r1.length = n - k ∧ r2.length = n - k ∧ AllS r1 ∧ r2.wf) ∧ Hid (r1.cells ok w0 zs1 ∧ r2.cells ok2 w0 zs2 ∧ RestAt w0 p k zs1 ∧ RestAt w0 q k zs2) ∧ Hid (Fresh w wr)) (fun i _ => n - (intOf i).toNat)
    case atStart => exact ⟨0, ks, js, xs, ys, by omega, rfl, Lib.hid ⟨HR.out.symm, HN.out.symm, HM.out.symm, HA.out, HW.out⟩, Lib.hid ⟨HX.out, HY.out, R1.out, R2.out⟩, Lib.hid (Fresh.refl w)⟩
    case round =>
      obtain ⟨k, r1, r2, zs1, zs2, hk, rfl, HI, HC, FW⟩ := hrel
      by_cases hlt : k < n
      · cases r1 with
        | nil => exfalso; have := HI.out.2.1; simp [Tys.length] at this; omega
        | cons h1 k1 r1' =>
          cases r2 with
          | nil => exfalso; have := HI.out.2.2.1; simp [Tys.length] at this; omega
          | cons h2 k2 r2' =>
            obtain ⟨⟨p1, n1, c1, zs1', rfl, hk1, hr1⟩, ⟨p2, n2, c2, zs2', rfl, hk2, hr2⟩, ha1, ha2⟩ := HC.out
            obtain ⟨B1, off1, rfl⟩ := HP1.out.resolve_left (by omega)
            obtain ⟨B2, off2, rfl⟩ := HP2.out.resolve_left (by omega)
            obtain ⟨a0, a1, a2, a3, a4, a5, ar⟩ := six_at (ha1 B1 off1 rfl)
            obtain ⟨b0, b1, b2, b3, b4, b5, br⟩ := six_at (ha2 B2 off2 rfl)
            have S1 : Hid (RestAt w0 (some ⟨B1, off1, none⟩) (k + 1) zs1') := Lib.hid (fun B off e j u hu => by
              cases e
              have := ar j u hu
              rwa [show off1 + k * 6 + 6 + j = off1 + (k + 1) * 6 + j by omega] at this)
            have S2 : Hid (RestAt w0 (some ⟨B2, off2, none⟩) (k + 1) zs2') := Lib.hid (fun B off e j u hu => by
              cases e
              have := br j u hu
              rwa [show off2 + k * 6 + 6 + j = off2 + (k + 1) * 6 + j by omega] at this)
            have FX := HF.out.trans FW.out
            have a0 := FX.at' a0
            have a1 := FX.at' a1
            have a2 := FX.at' a2
            have a3 := FX.at' a3
            have a4 := FX.at' a4
            have a5 := FX.at' a5
            have b0 := FX.at' b0
            have b1 := FX.at' b1
            have b2 := FX.at' b2
            have b3 := FX.at' b3
            have b4 := FX.at' b4
            have b5 := FX.at' b5
            have az := cell_lt a0
            have bz := cell_lt b0
            simp only at az bz
            have CS : Hid (∀ X, Fresh w0 X → Calls Tryd.prog 28 #[.agg #[.int .i64 h1.kind, .int .i64 h1.size, .int .i64 h1.len, .bool h1.flag, .string h1.name, .slice p1 n1 c1], .agg #[.int .i64 h2.kind, .int .i64 h2.size, .int .i64 h2.len, .bool h2.flag, .string h2.name, .slice p2 n2 c2]] X fun e w' => e = .returned (.bool (eqT h1 k1 h2 k2)) ∧ Fresh X w') := Lib.hid (fun X hX => HI.out.2.2.2.1.1 ok ok2 h2 k2 p1 p2 n1 n2 c1 c2 w0 X hX hk1 hk2 HI.out.2.2.2.2.1.1 HI.out.2.2.2.2.1.2)
            have HI2 : Hid (R = (eqT h1 k1 h2 k2 && eqRow r1' r2') ∧ r1'.length = n - (k + 1) ∧ r2'.length = n - (k + 1) ∧ AllS r1' ∧ r2'.wf) := Lib.hid (by
              obtain ⟨i1, i2, i3, i4, i5⟩ := HI.out
              refine ⟨i1, ?_, ?_, i4.2, i5.2⟩
              · simp [Tys.length] at i2; omega
              · simp [Tys.length] at i3; omega)
            have HC2 := Lib.hid (And.intro hr1 hr2)
            have hlt' : (k : Int) < (n : Int) := by omega
            clear ar br ha1 ha2 hk1 hk2 hr1 hr2 HI HC FX
            generalize eqT h1 k1 h2 k2 = t at *
            go_wp2_with fail
            go_at_call 28; refine (CS.out _ (HF.out.trans (FW.out.trans (by (repeat' first | with_reducible exact Fresh.refl _ | with_reducible assumption | with_reducible refine Fresh.alloc ?_ _ _ | with_reducible refine Fresh.drew ?_ | with_reducible refine Fresh.drewN ?_ _ | with_reducible refine Fresh.setCell ?_ ?_ _ | with_reducible refine Fresh.trans ?_ (by assumption) | (simp; done) | (simp; omega)))))).mono ?_; rintro e w1 ⟨rfl, h1⟩
            have F1 := Lib.hid (FW.out.trans (show Fresh wr w1 from (by (repeat' first | with_reducible exact Fresh.refl _ | with_reducible assumption | with_reducible refine Fresh.alloc ?_ _ _ | with_reducible refine Fresh.drew ?_ | with_reducible refine Fresh.drewN ?_ _ | with_reducible refine Fresh.setCell ?_ ?_ _ | with_reducible refine Fresh.trans ?_ (by assumption) | (simp; done) | (simp; omega)))))
            clear a0 a1 a2 a3 a4 a5 b0 b1 b2 b3 b4 b5 az bz h1 CS
            cases t
            · obtain rfl : R = false := by rw [HI2.out.1]; rfl
              go_wp2_with fail
              go_returns
              exact ⟨rfl, F1.out⟩
            · go_wp2_with fail
              go_roundw
              case rel => exact ⟨k + 1, r1', r2', zs1', zs2', by omega, by go_num, Lib.hid ⟨by rw [HI2.out.1]; rfl, HI2.out.2.1, HI2.out.2.2.1, HI2.out.2.2.2.1, HI2.out.2.2.2.2⟩, Lib.hid ⟨HC2.out.1, HC2.out.2, S1.out, S2.out⟩, F1⟩
              case measure => simp [intOf]; omega
      · obtain rfl : k = n := by omega
        have hR : R = true := by
          obtain ⟨i1, i2, i3, -, -⟩ := HI.out
          rw [i1]
          cases r1 with
          | nil =>
            cases r2 with
            | nil => rfl
            | cons _ _ _ => simp [Tys.length] at i3
          | cons _ _ _ => simp [Tys.length] at i2
        subst hR
        go_wp2_with fail
        go_returns
        exact ⟨rfl, FW.out⟩
  · have hl : eqRow ks js = false := eqRow_len (by rw [← HN.out, ← HM.out]; exact hnm)
    rw [hl]
    have q1 : ((n : Int) != (m : Int)) = true := by simp; omega
    clear hl hf hks hjs hall hwf hnm
    go_enter Tryd.func60, Tryd.ntmps60
    go_wp2_with fail
    go_returns
    exact ⟨rfl, Fresh.refl w⟩
end Go.Proofs.YteiomcbphbbpkaaDoor
/- Same of every two types that are made. -/
namespace Go.Proofs.YteiomcbphbbpkaaDoor
set_option linter.unusedSimpArgs false
set_option linter.unusedVariables false
open Go.RowKit

attribute [local go_sem] as_98_98 as_98_62 as_98_65 as_98_67 as_98_71 as_98_69 as_98_85 as_62_98 as_62_62 as_62_65 as_62_67 as_62_71 as_62_69 as_62_85 as_65_98 as_65_62 as_65_65 as_65_67 as_65_71 as_65_69 as_65_85 as_67_98 as_67_62 as_67_65 as_67_67 as_67_71 as_67_69 as_67_85 as_71_98 as_71_62 as_71_65 as_71_67 as_71_71 as_71_69 as_71_85 as_69_98 as_69_62 as_69_65 as_69_67 as_69_71 as_69_69 as_69_85 as_85_98 as_85_62 as_85_65 as_85_67 as_85_71 as_85_69 as_85_85 as_nil_98 as_nil_62 as_nil_65 as_nil_67 as_nil_71 as_nil_69 as_nil_85
section
variable {ok ok2 : Nat → Prop} (a b : Hd) (ks js : Tys) (p q : Option Addr) (n m cap mc : Nat) (w0 w : World) (hf : Fresh w0 w) (hks : Kids ok w0 ks p n cap) (hjs : Kids ok2 w0 js q m mc)
include hf hks hjs
set_option maxRecDepth 100000 in
set_option maxHeartbeats 4000000 in
theorem same_b7 (ha : a.kind = 7) (hb : b.kind = 7) (K : Bool) (hall : AllS ks.rest) (hwf : js.rest.wf) (kid : ∀ (X : World) (p' q' : Option Addr) (n' cap' m' mc' : Nat), Fresh w0 X → Kids ok w0 ks.kids p' n' cap' → Kids ok2 w0 js.kids q' m' mc' → Calls Tryd.prog 28 #[.agg #[.int .i64 ks.hd.kind, .int .i64 ks.hd.size, .int .i64 ks.hd.len, .bool ks.hd.flag, .string ks.hd.name, .slice p' n' cap'], .agg #[.int .i64 js.hd.kind, .int .i64 js.hd.size, .int .i64 js.hd.len, .bool js.hd.flag, .string js.hd.name, .slice q' m' mc']] X fun e w' => e = .returned (.bool K) ∧ Fresh X w') :
    Calls Tryd.prog 28 #[.agg #[.int .i64 a.kind, .int .i64 a.size, .int .i64 a.len, .bool a.flag, .string a.name, .slice p n cap], .agg #[.int .i64 b.kind, .int .i64 b.size, .int .i64 b.len, .bool b.flag, .string b.name, .slice q m mc]] w fun e w' => e = .returned (.bool (K && eqRow ks.rest js.rest)) ∧ Fresh w w' := by
  have HA := Lib.hid ha
  have HB := Lib.hid hb
  have HK := Lib.hid hks
  have HJ := Lib.hid hjs
  have HF := Lib.hid hf
  have KID := Lib.hid kid
  have HAL := Lib.hid hall
  have HWF := Lib.hid hwf
  clear ha hb hks hjs hf kid hall hwf
  have X0 := Lib.hid (BY.new w a b p q n m cap mc)
  go_enter Tryd.func28, Tryd.ntmps28
  go_wp2_with fail
  go_at_call 43; refine (view7 a ks p n cap _ w0 (HF.out.trans (by (repeat' first | with_reducible exact Fresh.refl _ | with_reducible assumption | with_reducible refine Fresh.alloc ?_ _ _ | with_reducible refine Fresh.drew ?_ | with_reducible refine Fresh.drewN ?_ _ | with_reducible refine Fresh.setCell ?_ ?_ _ | with_reducible refine Fresh.trans ?_ (by assumption) | (simp; done) | (simp; omega)))) HK.out HA.out).mono ?_; rintro e w1 ⟨⟨p1, n1, cap1, p2, n2, cap2, rfl, hk1, hk2⟩, h1⟩; have HK1 := Lib.hid hk1; have HK2 := Lib.hid hk2; clear hk1 hk2; have X1 := Lib.hid (X0.out.later h1); clear h1
  obtain ⟨b0, b1, b2, b3, b4, b5, bf⟩ := X1.out.bb; have bz := cell_lt b0; simp only at bz
  go_wp2_with fail
  go_at_call 43; refine (view7 b js q m mc _ w0 (HF.out.trans (X1.out.fr.trans (by (repeat' first | with_reducible exact Fresh.refl _ | with_reducible assumption | with_reducible refine Fresh.alloc ?_ _ _ | with_reducible refine Fresh.drew ?_ | with_reducible refine Fresh.drewN ?_ _ | with_reducible refine Fresh.setCell ?_ ?_ _ | with_reducible refine Fresh.trans ?_ (by assumption) | (simp; done) | (simp; omega))))) HJ.out HB.out).mono ?_; rintro e w1b ⟨⟨p1b, n1b, cap1b, p2b, n2b, cap2b, rfl, hk1b, hk2b⟩, h1b⟩; have HK1b := Lib.hid hk1b; have HK2b := Lib.hid hk2b; clear hk1b hk2b; have X2 := Lib.hid ((X1.out.later ((Fresh.refl _).alloc #[.int .i64 ks.hd.kind, .int .i64 ks.hd.size, .int .i64 ks.hd.len, .bool ks.hd.flag, .string ks.hd.name, .slice p1 n1 cap1, .slice p2 n2 cap2] 85)).later h1b)
  have t6 := Lib.hid ((Blk.new w1 #[.int .i64 ks.hd.kind, .int .i64 ks.hd.size, .int .i64 ks.hd.len, .bool ks.hd.flag, .string ks.hd.name, .slice p1 n1 cap1, .slice p2 n2 cap2] 85).fresh h1b)
  clear b0 b1 b2 b3 b4 b5 bf bz h1b
  have g := t6.out
  have g0 := (g).1 0 _ rfl; have g1 := (g).1 1 _ rfl; have g2 := (g).1 2 _ rfl; have g3 := (g).1 3 _ rfl; have g4 := (g).1 4 _ rfl; have g5 := (g).1 5 _ rfl; have g6 := (g).1 6 _ rfl; have gf := (g).2.1; have gz := (g).2.2
  clear g
  go_wp2_with fail
  clear g0 g1 g2 g3 g4 g5 g6 gf gz
  have HD2 := Lib.hid (Blk.new w1b #[.int .i64 js.hd.kind, .int .i64 js.hd.size, .int .i64 js.hd.len, .bool js.hd.flag, .string js.hd.name, .slice p1b n1b cap1b, .slice p2b n2b cap2b] 85)
  go_at_call 28; refine (KID.out _ p1 p1b n1 cap1 n1b cap1b (HF.out.trans (X2.out.fr.trans (by (repeat' first | with_reducible exact Fresh.refl _ | with_reducible assumption | with_reducible refine Fresh.alloc ?_ _ _ | with_reducible refine Fresh.drew ?_ | with_reducible refine Fresh.drewN ?_ _ | with_reducible refine Fresh.setCell ?_ ?_ _ | with_reducible refine Fresh.trans ?_ (by assumption) | (simp; done) | (simp; omega))))) HK1.out HK1b.out).mono ?_; rintro e w3 ⟨rfl, h3⟩
  have F3 := Lib.hid (X2.out.fr.trans (show Fresh w1b w3 from (by (repeat' first | with_reducible exact Fresh.refl _ | with_reducible assumption | with_reducible refine Fresh.alloc ?_ _ _ | with_reducible refine Fresh.drew ?_ | with_reducible refine Fresh.drewN ?_ _ | with_reducible refine Fresh.setCell ?_ ?_ _ | with_reducible refine Fresh.trans ?_ (by assumption) | (simp; done) | (simp; omega)))))
  have g1' := (t6.out.fresh (show Fresh w1b w3 from (by (repeat' first | with_reducible exact Fresh.refl _ | with_reducible assumption | with_reducible refine Fresh.alloc ?_ _ _ | with_reducible refine Fresh.drew ?_ | with_reducible refine Fresh.drewN ?_ _ | with_reducible refine Fresh.setCell ?_ ?_ _ | with_reducible refine Fresh.trans ?_ (by assumption) | (simp; done) | (simp; omega))))).1 6 _ rfl
  have g2' := (HD2.out.fresh h3).1 6 _ rfl
  clear h3
  cases K
  · go_wp2_with fail
    go_returns
    exact ⟨rfl, F3.out⟩
  · go_wp2_with fail
    go_at_call 60; refine (equalFunc_any ks.rest js.rest p2 p2b n2 n2b cap2 cap2b w0 _ (HF.out.trans F3.out) HK2.out HK2b.out HAL.out HWF.out).mono ?_; rintro e w4 ⟨rfl, h4⟩
    go_wp2_with fail
    go_returns
    exact ⟨rfl, F3.out.trans h4⟩
end
end Go.Proofs.YteiomcbphbbpkaaDoor
/- Same of every two types that are made: they are the same just if header and rows are equal. -/
namespace Go.Proofs.YteiomcbphbbpkaaDoor
set_option linter.unusedSimpArgs false
set_option linter.unusedVariables false
open Go.RowKit

theorem WFh.bd {b : Hd} {js : Tys} (h : WFh b js) : 0 ≤ b.kind ∧ b.kind ≤ 7 := by
  rcases h with ⟨rfl, -⟩ | ⟨rfl, -⟩ | ⟨s, u, rfl, -⟩ | ⟨rfl, -⟩ | ⟨rfl, -⟩ | ⟨l, rfl, -⟩ | ⟨nm, u, rfl, -⟩ | ⟨rfl, -⟩ <;> simp [Hd.zero, hd1, numHd, arrHd, recHd]
theorem WFh.k0 {b : Hd} {js : Tys} (h : WFh b js) (hk : b.kind = 0) : b = Hd.zero ∧ js = .nil := by
  rcases h with h | ⟨rfl, -⟩ | ⟨s, u, rfl, -⟩ | ⟨rfl, -⟩ | ⟨rfl, -⟩ | ⟨l, rfl, -⟩ | ⟨nm, u, rfl, -⟩ | ⟨rfl, -⟩ <;> first | exact h | (simp [Hd.zero, hd1, numHd, arrHd, recHd] at hk)
theorem WFh.k1 {b : Hd} {js : Tys} (h : WFh b js) (hk : b.kind = 1) : b = hd1 1 ∧ js = .nil := by
  rcases h with ⟨rfl, -⟩ | h | ⟨s, u, rfl, -⟩ | ⟨rfl, -⟩ | ⟨rfl, -⟩ | ⟨l, rfl, -⟩ | ⟨nm, u, rfl, -⟩ | ⟨rfl, -⟩ <;> first | exact h | (simp [Hd.zero, hd1, numHd, arrHd, recHd] at hk)
theorem WFh.k2 {b : Hd} {js : Tys} (h : WFh b js) (hk : b.kind = 2) : ∃ s u, b = numHd s u ∧ js = .nil := by
  rcases h with ⟨rfl, -⟩ | ⟨rfl, -⟩ | h | ⟨rfl, -⟩ | ⟨rfl, -⟩ | ⟨l, rfl, -⟩ | ⟨nm, u, rfl, -⟩ | ⟨rfl, -⟩ <;> first | exact h | (simp [Hd.zero, hd1, numHd, arrHd, recHd] at hk)
theorem WFh.k3 {b : Hd} {js : Tys} (h : WFh b js) (hk : b.kind = 3) : b = hd1 3 ∧ js = .nil := by
  rcases h with ⟨rfl, -⟩ | ⟨rfl, -⟩ | ⟨s, u, rfl, -⟩ | h | ⟨rfl, -⟩ | ⟨l, rfl, -⟩ | ⟨nm, u, rfl, -⟩ | ⟨rfl, -⟩ <;> first | exact h | (simp [Hd.zero, hd1, numHd, arrHd, recHd] at hk)
theorem WFh.k4 {b : Hd} {js : Tys} (h : WFh b js) (hk : b.kind = 4) : b = hd1 4 ∧ js.length = 1 := by
  rcases h with ⟨rfl, -⟩ | ⟨rfl, -⟩ | ⟨s, u, rfl, -⟩ | ⟨rfl, -⟩ | h | ⟨l, rfl, -⟩ | ⟨nm, u, rfl, -⟩ | ⟨rfl, -⟩ <;> first | exact h | (simp [Hd.zero, hd1, numHd, arrHd, recHd] at hk)
theorem WFh.k5 {b : Hd} {js : Tys} (h : WFh b js) (hk : b.kind = 5) : ∃ l, b = arrHd l ∧ js.length = 1 := by
  rcases h with ⟨rfl, -⟩ | ⟨rfl, -⟩ | ⟨s, u, rfl, -⟩ | ⟨rfl, -⟩ | ⟨rfl, -⟩ | h | ⟨nm, u, rfl, -⟩ | ⟨rfl, -⟩ <;> first | exact h | (simp [Hd.zero, hd1, numHd, arrHd, recHd] at hk)
theorem WFh.k6 {b : Hd} {js : Tys} (h : WFh b js) (hk : b.kind = 6) : ∃ nm u, b = recHd nm u ∧ js = .nil := by
  rcases h with ⟨rfl, -⟩ | ⟨rfl, -⟩ | ⟨s, u, rfl, -⟩ | ⟨rfl, -⟩ | ⟨rfl, -⟩ | ⟨l, rfl, -⟩ | h | ⟨rfl, -⟩ <;> first | exact h | (simp [Hd.zero, hd1, numHd, arrHd, recHd] at hk)
theorem WFh.k7 {b : Hd} {js : Tys} (h : WFh b js) (hk : b.kind = 7) : b = hd1 7 ∧ 1 ≤ js.length := by
  rcases h with ⟨rfl, -⟩ | ⟨rfl, -⟩ | ⟨s, u, rfl, -⟩ | ⟨rfl, -⟩ | ⟨rfl, -⟩ | ⟨l, rfl, -⟩ | ⟨nm, u, rfl, -⟩ | h <;> first | exact h | (simp [Hd.zero, hd1, numHd, arrHd, recHd] at hk)
theorem eqT_no {a b : Hd} {ks js : Tys} (h : a.kind ≠ b.kind) : eqT a ks b js = false := by
  have : (a.kind == b.kind) = false := by simpa using h
  simp [eqT, eqH, this]
theorem len1 {ks : Tys} (h : ks.length = 1) : ∃ a k, ks = .cons a k .nil := by
  cases ks with
  | nil => simp [Tys.length] at h
  | cons a k r =>
    cases r with
    | nil => exact ⟨a, k, rfl⟩
    | cons _ _ _ => simp [Tys.length] at h
theorem len_pos {ks : Tys} (h : 1 ≤ ks.length) : ∃ a k r, ks = .cons a k r := by
  cases ks with
  | nil => simp [Tys.length] at h
  | cons a k r => exact ⟨a, k, r, rfl⟩
theorem sameP_of (a : Hd) (ks : Tys) (hwa : WFh a ks) (hall : AllS ks) : SameSpec a ks := by
  intro ok ok2 b js p q n m cap mc w0 w hf hks hjs hwb hwj
  have hbd := hwb.bd
  rcases hwa with ⟨rfl, rfl⟩ | ⟨rfl, rfl⟩ | ⟨s, u, rfl, rfl⟩ | ⟨rfl, rfl⟩ | ⟨rfl, hl⟩ | ⟨l, rfl, hl⟩ | ⟨nm, u, rfl, rfl⟩ | ⟨rfl, hl⟩
  · have := same_b0 Hd.zero b js p q n m cap mc w0 w hf hjs hbd rfl
    by_cases hb : b.kind = 0
    · obtain ⟨rfl, rfl⟩ := hwb.k0 hb
      rw [eqT_refl]
      exact this
    · rw [eqT_no (show Hd.zero.kind ≠ b.kind from fun e => hb e.symm)]
      rw [show (b.kind == 0) = false by simpa using hb] at this
      exact this
  · by_cases hb : b.kind = 1
    · obtain ⟨rfl, rfl⟩ := hwb.k1 hb
      rw [eqT_refl]
      exact same_is1 (hd1 1) (hd1 1) p q n m cap mc w rfl rfl
    · rw [eqT_no (show (hd1 1).kind ≠ b.kind from fun e => hb e.symm)]
      exact same_no1 (hd1 1) b .nil js p q n m cap mc w0 w hf hks hjs hbd rfl hb
  · by_cases hb : b.kind = 2
    · obtain ⟨s', u', rfl, rfl⟩ := hwb.k2 hb
      have e : eqT (numHd s u) .nil (numHd s' u') .nil = (s == s' && u == u') := by simp [eqT, eqH, eqRow, numHd]
      rw [e]
      exact same_is2 (numHd s u) (numHd s' u') p q n m cap mc w rfl rfl
    · rw [eqT_no (show (numHd s u).kind ≠ b.kind from fun e => hb e.symm)]
      exact same_no2 (numHd s u) b .nil js p q n m cap mc w0 w hf hks hjs hbd rfl hb
  · by_cases hb : b.kind = 3
    · obtain ⟨rfl, rfl⟩ := hwb.k3 hb
      rw [eqT_refl]
      exact same_is3 (hd1 3) (hd1 3) p q n m cap mc w rfl rfl
    · rw [eqT_no (show (hd1 3).kind ≠ b.kind from fun e => hb e.symm)]
      exact same_no3 (hd1 3) b .nil js p q n m cap mc w0 w hf hks hjs hbd rfl hb
  · by_cases hb : b.kind = 4
    · obtain ⟨rfl, hl'⟩ := hwb.k4 hb
      obtain ⟨a1, k1, rfl⟩ := len1 hl
      obtain ⟨b1, j1, rfl⟩ := len1 hl'
      have e : eqT (hd1 4) (.cons a1 k1 .nil) (hd1 4) (.cons b1 j1 .nil) = eqT a1 k1 b1 j1 := by simp [eqT, eqRow, eqH_refl]
      rw [e]
      exact same_b4 (hd1 4) (hd1 4) (.cons a1 k1 .nil) (.cons b1 j1 .nil) p q n m cap mc w0 w hf hks hjs (eqT a1 k1 b1 j1) rfl rfl (fun X p' q' n' c' m' mc' hX h1 h2 => hall.1 ok ok2 b1 j1 p' q' n' m' c' mc' w0 X hX h1 h2 hwj.1.1 hwj.1.2)
    · rw [eqT_no (show (hd1 4).kind ≠ b.kind from fun e => hb e.symm)]
      exact same_no4 (hd1 4) b ks js p q n m cap mc w0 w hf hks hjs hbd rfl hb
  · by_cases hb : b.kind = 5
    · obtain ⟨l', rfl, hl'⟩ := hwb.k5 hb
      obtain ⟨a1, k1, rfl⟩ := len1 hl
      obtain ⟨b1, j1, rfl⟩ := len1 hl'
      have e : eqT (arrHd l) (.cons a1 k1 .nil) (arrHd l') (.cons b1 j1 .nil) = (l == l' && eqT a1 k1 b1 j1) := by simp [eqT, eqRow, eqH, arrHd]
      rw [e]
      exact same_b5 (arrHd l) (arrHd l') (.cons a1 k1 .nil) (.cons b1 j1 .nil) p q n m cap mc w0 w hf hks hjs (eqT a1 k1 b1 j1) rfl rfl (fun X p' q' n' c' m' mc' hX h1 h2 => hall.1 ok ok2 b1 j1 p' q' n' m' c' mc' w0 X hX h1 h2 hwj.1.1 hwj.1.2)
    · rw [eqT_no (show (arrHd l).kind ≠ b.kind from fun e => hb e.symm)]
      exact same_no5 (arrHd l) b ks js p q n m cap mc w0 w hf hks hjs hbd rfl hb
  · by_cases hb : b.kind = 6
    · obtain ⟨nm', u', rfl, rfl⟩ := hwb.k6 hb
      have e : eqT (recHd nm u) .nil (recHd nm' u') .nil = (nm.toList == nm'.toList && u == u') := by
        rw [ByteArray.toList_eq, ByteArray.toList_eq]
        simp only [eqT, eqH, eqRow, recHd]
        cases (nm.data.toList == nm'.data.toList) <;> cases (u == u') <;> simp
      rw [e]
      exact same_is6 (recHd nm u) (recHd nm' u') p q n m cap mc w rfl rfl
    · rw [eqT_no (show (recHd nm u).kind ≠ b.kind from fun e => hb e.symm)]
      exact same_no6 (recHd nm u) b .nil js p q n m cap mc w0 w hf hks hjs hbd rfl hb
  · by_cases hb : b.kind = 7
    · obtain ⟨rfl, hl'⟩ := hwb.k7 hb
      obtain ⟨a1, k1, r1, rfl⟩ := len_pos hl
      obtain ⟨b1, j1, s1, rfl⟩ := len_pos hl'
      have e : eqT (hd1 7) (.cons a1 k1 r1) (hd1 7) (.cons b1 j1 s1) = (eqT a1 k1 b1 j1 && eqRow r1 s1) := by simp [eqT, eqRow, eqH_refl]
      rw [e]
      exact same_b7 (hd1 7) (hd1 7) (.cons a1 k1 r1) (.cons b1 j1 s1) p q n m cap mc w0 w hf hks hjs rfl rfl (eqT a1 k1 b1 j1) hall.2 hwj.2 (fun X p' q' n' c' m' mc' hX h1 h2 => hall.1 ok ok2 b1 j1 p' q' n' m' c' mc' w0 X hX h1 h2 hwj.1.1 hwj.1.2)
    · rw [eqT_no (show (hd1 7).kind ≠ b.kind from fun e => hb e.symm)]
      exact same_no7 (hd1 7) b ks js p q n m cap mc w0 w hf hks hjs hbd rfl hb
theorem allS : ∀ ks : Tys, ks.wf → AllS ks
  | .nil, _ => trivial
  | .cons h k r, hw => ⟨sameP_of h k hw.1.1 (allS k hw.1.2), allS r hw.2⟩
/-- THE PROGRAM'S Same. -/
theorem sameP_any (a : Hd) (ks : Tys) (hwa : WFh a ks) (hw : ks.wf) : SameSpec a ks := sameP_of a ks hwa (allS ks hw)
end Go.Proofs.YteiomcbphbbpkaaDoor
