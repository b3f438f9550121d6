/- Rows of types as rows of cells; names for numbers; functions' types laid. -/
import Derived.Test.YteiomcbphbbpkaaGreatDoorCd
import Derived.OwnWalk
import Derived.Laws.AppendOwnNone
namespace Go.Proofs.YteiomcbphbbpkaaGreatDoor
set_option linter.unusedSimpArgs false
set_option linter.unusedVariables false
open Go.RowKit

/-- The cells of a row, one by one. -/
def Tys.cells (ok : Nat → Prop) (w : World) : Tys → List Value → Prop
  | .nil, xs => xs = []
  | .cons h k r, xs => ∃ p n cap ys, xs = .int .i64 h.kind :: .int .i64 h.size :: .int .i64 h.len :: .bool h.flag :: .string h.name :: .slice p n cap :: ys ∧ Kids ok w k p n cap ∧ r.cells ok w ys
def Tys.append : Tys → Tys → Tys
  | .nil, b => b
  | .cons h k r, b => .cons h k (r.append b)
theorem Tys.length_append : ∀ (a b : Tys), (a.append b).length = a.length + b.length
  | .nil, b => by simp [Tys.append, Tys.length]
  | .cons h k r, b => by simp [Tys.append, Tys.length, Tys.length_append r b]; omega
variable {ok : Nat → Prop}
theorem Tys.cells.append {w : World} : ∀ {a b : Tys} {xs ys : List Value}, a.cells ok w xs → b.cells ok w ys → (a.append b).cells ok w (xs ++ ys)
  | .nil, b, xs, ys, ha, hb => by
    have : xs = [] := ha
    subst this
    exact hb
  | .cons h k r, b, xs, ys, ha, hb => by
    obtain ⟨p, n, cap, zs, rfl, hk, hr⟩ := ha
    exact ⟨p, n, cap, zs ++ ys, rfl, hk, hr.append hb⟩
theorem Tys.cells.later {w w' : World} (hf : Fresh w w') : ∀ {a : Tys} {xs : List Value}, a.cells ok w xs → a.cells ok w' xs
  | .nil, _, h => h
  | .cons _ _ _, _, ⟨p, n, cap, ys, e, hk, hr⟩ => ⟨p, n, cap, ys, e, hk.later hf, hr.later hf⟩
theorem Tys.cells.length {w : World} : ∀ {a : Tys} {xs : List Value}, a.cells ok w xs → xs.length = a.length * 6
  | .nil, _, h => by rw [show _ = [] from h]; rfl
  | .cons _ _ _, _, ⟨p, n, cap, ys, e, hk, hr⟩ => by
    subst e
    have := hr.length
    simp [Tys.length]
    omega
theorem Tys.cells.one {w : World} : ∀ {a : Tys} {xs : List Value}, a.cells ok w xs → ∀ u ∈ xs, u.oneCell' = true
  | .nil, _, h => by rw [show _ = [] from h]; simp
  | .cons _ _ _, _, ⟨p, n, cap, ys, e, hk, hr⟩ => by
    subst e
    intro u hu
    simp only [List.mem_cons] at hu
    rcases hu with rfl | rfl | rfl | rfl | rfl | rfl | hu
    all_goals first | rfl | exact hr.one u hu
theorem Tys.row.cells {w : World} : ∀ {a : Tys} {B off : Nat}, a.row ok w B off → ∃ xs, a.cells ok w xs ∧ ∀ j u, xs[j]? = some u → w.cell? ⟨B, off + j, none⟩ = some u
  | .nil, _, _, _ => ⟨[], rfl, by simp⟩
  | .cons h k r, B, off, ⟨_, ⟨p, n, cap, ⟨c0, c1, c2, c3, c4, c5⟩, hk⟩, hr⟩ => by
    obtain ⟨ys, hy, hc⟩ := hr.cells
    refine ⟨_, ⟨p, n, cap, ys, rfl, hk, hy⟩, fun j u hj => ?_⟩
    match j, hj with
    | 0, hj => simp at hj; subst hj; exact c0
    | 1, hj => simp at hj; subst hj; exact c1
    | 2, hj => simp at hj; subst hj; exact c2
    | 3, hj => simp at hj; subst hj; exact c3
    | 4, hj => simp at hj; subst hj; exact c4
    | 5, hj => simp at hj; subst hj; exact c5
    | j + 6, hj =>
      have := hc j u (by simpa using hj)
      rwa [show off + 6 + j = off + (j + 6) by omega] at this
theorem Tys.cells.row {w : World} : ∀ {a : Tys} {xs : List Value} {B off : Nat}, ok B → a.cells ok w xs → (∀ j u, xs[j]? = some u → w.cell? ⟨B, off + j, none⟩ = some u) → a.row ok w B off
  | .nil, _, _, _, _, _, _ => trivial
  | .cons h k r, _, B, off, hB, ⟨p, n, cap, ys, e, hk, hr⟩, hc => by
    subst e
    refine ⟨hB, ⟨p, n, cap, ⟨hc 0 _ rfl, hc 1 _ rfl, hc 2 _ rfl, hc 3 _ rfl, hc 4 _ rfl, hc 5 _ rfl⟩, hk⟩, hr.row hB fun j u hj => ?_⟩
    rw [show off + 6 + j = off + (j + 6) by omega]
    exact hc (j + 6) u (by simpa using hj)
/-- A row of the call's own that holds types. -/
theorem Kids.of_own {w : World} {base n : Nat} {v : Value} {xs : List Value} {ks : Tys} (ho : ∀ b, base ≤ b → ok b) (h : w.ownsRow base 25 6 v n xs) (hc : ks.cells ok w xs) :
    ∃ p cap, v = .slice p n cap ∧ Kids ok w ks p n cap := by
  have hl := hc.length
  have hn : n = ks.length := by have := h.1; omega
  rcases h.2 with ⟨rfl, h0⟩ | ⟨g, cap, cur, rfl, q0, -, q1, q2, -, -⟩
  · subst h0
    exact ⟨_, _, rfl, hn, Nat.le_refl _, Nat.zero_le _, Or.inl ⟨rfl, rfl, rfl⟩⟩
  · refine ⟨_, _, rfl, hn, q1, q2, Or.inr ⟨g, 0, rfl, hc.row (ho g q0) fun j u hj => ?_⟩⟩
    have := h.cells (g := g) rfl j u hj
    rwa [Go.WideShapes.add_plain] at this
/-- A slice that came in, as cells. -/
theorem Kids.cells {w : World} {ks : Tys} {p : Option Addr} {n cap : Nat} (h : Kids ok w ks p n cap) :
    ∃ xs, ks.cells ok w xs ∧ xs.length = n * 6 ∧ ((p = Option.none ∧ n = 0 ∧ cap = 0 ∧ xs = []) ∨ ∃ B off, p = some ⟨B, off, Option.none⟩ ∧ ∀ j u, xs[j]? = some u → w.cell? ((⟨B, off, Option.none⟩ : Addr).add j) = some u) := by
  obtain ⟨hn, -, -, hr⟩ := h
  rcases hr with ⟨rfl, h0, hc⟩ | ⟨B, off, rfl, hrow⟩
  · cases ks with
    | nil => exact ⟨[], rfl, by simp [h0], Or.inl ⟨rfl, h0, hc, rfl⟩⟩
    | cons _ _ _ => simp [Tys.length] at hn; omega
  · obtain ⟨xs, hc, hx⟩ := hrow.cells
    exact ⟨xs, hc, by rw [hc.length, hn], Or.inr ⟨B, off, rfl, fun j u hj => by rw [Go.WideShapes.add_plain]; exact hx j u hj⟩⟩
theorem own_set {w : World} {base : Nat} {e : TypeId} {size n : Nat} {v : Value} {xs : List Value} (h : w.ownsRow base e size v n xs) {g : Nat} (hg : v.ownBlock ≠ some g) (i : Nat) (u : Value) : (w.setCell ⟨g, i, none⟩ u).ownsRow base e size v n xs :=
  h.kept (row := some g) ⟨rfl, rfl, rfl, by simp [World.setCell], fun k hk hne => Below.heap_setCell w ⟨g, i, none⟩ u k (fun e => hne (by rw [e]))⟩ (Or.inr hg)
theorem own_ne {w : World} {base : Nat} {e : TypeId} {size n : Nat} {v : Value} {xs : List Value} (h : w.ownsRow base e size v n xs) {g : Nat} (hg : g < base) : v.ownBlock ≠ some g :=
  fun e => by have := (h.lt g e).1; omega
theorem info25 : (Tryz.prog.info? 25).map (fun i => (i.zero, i.size, i.bytes)) = some (some (.agg #[.int .i64 0, .int .i64 0, .int .i64 0, .bool false, .string ⟨#[]⟩, .slice none 0 0]), 6, 72) := by kernel_rfl
def alpha : ByteArray := ⟨#[97, 98, 99, 100, 101, 102, 103, 104, 105, 106, 107, 108, 109, 110, 111, 112, 113, 114, 115, 116, 117, 118, 119, 120, 121, 122]⟩
def nmI (n : Int) : Int := (IntKind.u64.wrap n).tmod 26
theorem nmI_bd (n : Int) : 0 ≤ nmI n ∧ nmI n < 26 := by
  unfold nmI
  have : 0 ≤ IntKind.u64.wrap n := by rw [IntKind.wrap_u64]; omega
  rw [Int.tmod_eq_emod_of_nonneg this]
  omega
def nameOf (n : Int) : ByteArray := alpha.extract (nmI n).toNat (nmI n + 1).toNat
theorem name_any (n : Int) (w : World) : Calls Tryz.prog 71 #[.int .i64 n] w fun e w' => e = .returned (.string (nameOf n)) ∧ Fresh w w' := by
  obtain ⟨b0, b1⟩ := nmI_bd n
  have H : Hid (nameOf n = alpha.extract (nmI n).toNat (nmI n + 1).toNat) := Lib.hid rfl
  have e1 : (IntKind.u64.wrap n).tmod 26 = nmI n := rfl
  generalize nmI n = m at *
  unfold alpha at H
  go_enter Tryz.func71, Tryz.ntmps71
  go_wp2
  go_returns
  exact ⟨by rw [H.out]; rfl, (by (repeat' first | with_reducible exact Fresh.refl _ | with_reducible assumption | with_reducible refine Fresh.alloc ?_ _ _ | with_reducible refine Fresh.drew ?_ | with_reducible refine Fresh.drewN ?_ _ | with_reducible refine Fresh.setCell ?_ ?_ _ | with_reducible refine Fresh.trans ?_ (by assumption) | (simp; done) | (simp; omega)))⟩
set_option maxRecDepth 100000 in
set_option maxHeartbeats 2000000 in
theorem fnT_any (h : Hd) (ks ps : Tys) (p q : Option Addr) (n cap m qc : Nat) (w : World) (ho : ∀ b, w.heap.size ≤ b → ok b) (hk : Kids ok w ks p n cap) (hq : Kids ok w ps q m qc) (hm : m ≤ 9) :
    Calls Tryz.prog 72 #[.agg #[.int .i64 h.kind, .int .i64 h.size, .int .i64 h.len, .bool h.flag, .string h.name, .slice p n cap, .slice q m qc]] w
     fun e w' => (∃ p' n' cap', e = .returned (.agg #[.int .i64 7, .int .i64 0, .int .i64 0, .bool false, .string ⟨#[]⟩, .slice p' n' cap']) ∧ Kids ok w' (.cons h ks ps) p' n' cap') ∧ Fresh w w' := by
  obtain ⟨i0, hi, hz0, hz1, hz2⟩ := info_parts info25
  have HK := Lib.hid hk
  have HQ := Lib.hid hq
  have HOK := Lib.hid ho
  clear hk hq ho
  obtain ⟨news, hc, hl, hx⟩ := HQ.out.cells
  have HC := Lib.hid hc
  have HX := Lib.hid hx
  have HL := Lib.hid hl
  clear hc hx hl
  let W2 := (w.alloc (.cells #[.int .i64 h.kind, .int .i64 h.size, .int .i64 h.len, .bool h.flag, .string h.name, .slice p n cap, .slice q m qc] 94)).alloc (.cells #[.int .i64 0, .int .i64 0, .int .i64 0, .bool false, .string ⟨#[]⟩, .slice none 0 0] 25)
  have F2 : Fresh w W2 := (by (repeat' first | with_reducible exact Fresh.refl _ | with_reducible assumption | with_reducible refine Fresh.alloc ?_ _ _ | with_reducible refine Fresh.drew ?_ | with_reducible refine Fresh.drewN ?_ _ | with_reducible refine Fresh.setCell ?_ ?_ _ | with_reducible refine Fresh.trans ?_ (by assumption) | (simp; done) | (simp; omega)))
  have F3 : Fresh w (W2.alloc (.cells #[.int .i64 h.kind, .int .i64 h.size, .int .i64 h.len, .bool h.flag, .string h.name, .slice p n cap] 25)) := F2.alloc _ _
  have hown : (W2.alloc (.cells #[.int .i64 h.kind, .int .i64 h.size, .int .i64 h.len, .bool h.flag, .string h.name, .slice p n cap] 25)).ownsRow W2.heap.size 25 6 (.slice (some ⟨W2.heap.size, 0, none⟩) 1 1) 1 [.int .i64 h.kind, .int .i64 h.size, .int .i64 h.len, .bool h.flag, .string h.name, .slice p n cap] := World.ownsRow_lit W2 #[.int .i64 h.kind, .int .i64 h.size, .int .i64 h.len, .bool h.flag, .string h.name, .slice p n cap] 1 (Nat.le_refl _) (by decide) rfl
  have hr : B6 W2 (w.heap.size + 1) (.int .i64 0) (.int .i64 0) (.int .i64 0) (.bool false) (.string ⟨#[]⟩) (.slice none 0 0) := by
    have := (Blk.new (w.alloc (.cells #[.int .i64 h.kind, .int .i64 h.size, .int .i64 h.len, .bool h.flag, .string h.name, .slice p n cap, .slice q m qc] 94)) #[.int .i64 0, .int .i64 0, .int .i64 0, .bool false, .string ⟨#[]⟩, .slice none 0 0] 25).six
    simpa only [World.size_alloc] using this
  have hs2 : W2.heap.size = w.heap.size + 1 + 1 := by simp [W2]
  have HO := Lib.hid hown
  have HR := Lib.hid hr
  have HF2 := Lib.hid F2
  have HF3 := Lib.hid F3
  have H2 := Lib.hid hs2
  clear hown hr F2 F3 hs2
  rcases HX.out with ⟨rfl, rfl, rfl, rfl⟩ | ⟨B, off, rfl, hx⟩
  · have HP : Hid (ps = .nil) := Lib.hid (by
      cases ps with
      | nil => rfl
      | cons _ _ _ => have := HQ.out.1; simp [Tys.length] at this)
    clear HX
    go_enter Tryz.func72, Tryz.ntmps72
    go_wp2_with (at_builtin; have hown := HO.out; rw [H2.out] at hown; refine wpList_append_own_none rfl _ _ 23 rfl (w.heap.size + 1 + 1) 25 i0 6 Tryz.underlying23 hi _ _ _ rfl hown rfl ?_)
    go_returns
    refine ⟨⟨_, _, _, rfl, ?_⟩, (by (repeat' first | with_reducible exact Fresh.refl _ | with_reducible assumption | with_reducible refine Fresh.alloc ?_ _ _ | with_reducible refine Fresh.drew ?_ | with_reducible refine Fresh.drewN ?_ _ | with_reducible refine Fresh.setCell ?_ ?_ _ | with_reducible refine Fresh.trans ?_ (by assumption) | (simp; done) | (simp; omega)))⟩
    have := Kids.alloc_one (W := (w.alloc (.cells #[.int .i64 h.kind, .int .i64 h.size, .int .i64 h.len, .bool h.flag, .string h.name, .slice p n cap, .slice none 0 0] 94)).alloc (.cells #[.int .i64 7, .int .i64 0, .int .i64 0, .bool false, .string ⟨#[]⟩, .slice (some ⟨w.heap.size + 1 + 1, 0, none⟩) 1 1] 25)) (ok := ok) (h := h) 25 (HOK.out _ (by simp; omega)) (HK.out.later (by (repeat' first | with_reducible exact Fresh.refl _ | with_reducible assumption | with_reducible refine Fresh.alloc ?_ _ _ | with_reducible refine Fresh.drew ?_ | with_reducible refine Fresh.drewN ?_ _ | with_reducible refine Fresh.setCell ?_ ?_ _ | with_reducible refine Fresh.trans ?_ (by assumption) | (simp; done) | (simp; omega))))
    rw [HP.out]
    simpa only [World.size_alloc] using this
  · have HX' := Lib.hid hx
    clear hx HX
    go_enter Tryz.func72, Tryz.ntmps72
    go_wp2_with (at_builtin; have hown := HO.out; rw [H2.out] at hown; refine wpList_append_own _ rfl _ _ 23 rfl (w.heap.size + 1 + 1) 25 i0 (.agg #[.int .i64 0, .int .i64 0, .int .i64 0, .bool false, .string ⟨#[]⟩, .slice none 0 0]) 6 72 Tryz.underlying23 hi hz0 hz1 hz2 rfl (by decide) _ _ _ rfl hown ⟨B, off, none⟩ m qc news rfl HL.out ?c1 ?c2 ?c3 ?c4 ?c5 ?_)
    case c1 => exact fun j u hj => HF3.out.atA (HX'.out j u hj)
    case c2 => exact HC.out.one
    case c3 => unfold maxLen; omega
    case c4 => omega
    case c5 => simp
    intro v' w2 hown' hgrow _
    have F4 : Fresh W2 w2 := ((Fresh.refl W2).alloc #[.int .i64 h.kind, .int .i64 h.size, .int .i64 h.len, .bool h.flag, .string h.name, .slice p n cap] 25).grown hgrow (fun k hk => by rw [H2.out]; exact (hown.lt k hk).1)
    obtain ⟨p', cap', rfl, -⟩ := Kids.of_own (ok := ok) (ks := .cons h ks ps) (fun b hb => HOK.out b (by omega)) hown' ⟨p, n, cap, news, rfl, HK.out.later (HF2.out.trans F4), HC.out.later (HF2.out.trans F4)⟩
    have HW := Lib.hid hown'
    have FF := Lib.hid (HF2.out.trans F4)
    obtain ⟨r0, r1, r2, r3, r4, r5, rf⟩ := HR.out.fresh F4
    clear hown' hgrow hown F4 HX' HR HO
    have rz := cell_lt r0
    simp only at rz
    go_wp2_with fail
    refine bodyPost_ret (v := ?_) ?_ rfl ?_; rotate_left 1; focus (simp [results, Tryz.results72, go_sem, *]; (try rfl); done)
    have F5 : Fresh w ((((((w2.setCell ⟨w.heap.size + 1, 0, none⟩ (.int .i64 7)).setCell ⟨w.heap.size + 1, 1, none⟩ (.int .i64 0)).setCell ⟨w.heap.size + 1, 2, none⟩ (.int .i64 0)).setCell ⟨w.heap.size + 1, 3, none⟩ (.bool false)).setCell ⟨w.heap.size + 1, 4, none⟩ (.string ⟨#[]⟩)).setCell ⟨w.heap.size + 1, 5, none⟩ (.slice p' (1 + m) cap')) :=
      (by repeat' first | with_reducible refine Fresh.setCell ?_ ?_ _ | exact FF.out | (simp; done) | (simp; omega))
    have hne := own_ne HW.out (g := w.heap.size + 1) (by omega)
    have O5 := own_set (own_set (own_set (own_set (own_set (own_set HW.out hne 0 (.int .i64 7)) hne 1 (.int .i64 0)) hne 2 (.int .i64 0)) hne 3 (.bool false)) hne 4 (.string ⟨#[]⟩)) hne 5 (.slice p' (1 + m) cap')
    obtain ⟨p2, cap2, e2, hkk⟩ := Kids.of_own (ok := ok) (ks := .cons h ks ps) (fun b hb => HOK.out b (by omega)) O5 ⟨p, n, cap, news, rfl, HK.out.later F5, HC.out.later F5⟩
    cases e2
    exact ⟨⟨_, _, _, rfl, hkk⟩, F5⟩
end Go.Proofs.YteiomcbphbbpkaaGreatDoor
