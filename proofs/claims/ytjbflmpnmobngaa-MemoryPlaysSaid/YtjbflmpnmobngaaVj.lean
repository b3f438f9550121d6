/- The reference's memory: what Load reads, plainly; Int and Long. -/
import Derived.Test.YtjbflmpnmobngaaVg
import Derived.Deep.DeepAppendWide
import Derived.Deep.RegionLaw
namespace Go.Proofs.Ytjbflmpnmobngaa
set_option linter.unusedSimpArgs false
set_option linter.unusedVariables false
open Go.RowKit

theorem setRow_touch {w : World} {g : Nat} {cur : Array Value} {e : TypeId} (hg : w.heap[g]? = some (.cells cur e (0, 0))) (new : Array Value) : Touch (fun k => some g = some k) w (w.setRow g new) := by
  have hh := setRow_heap w g cur new e _ hg
  refine ⟨rfl, rfl, rfl, by simp, fun k _ hk => setRow_other w g k _ (fun e => hk (by rw [e])), fun x => ?_⟩
  by_cases hx : x.block = g
  · simp [World.frozen?, hx, hg, hh]
  · exact World.frozen?_of_block (setRow_other w g x.block _ hx)
/-- Where a row that grows by one lies. -/
theorem push_where {P : Program} {w : World} {t ty e : TypeId} {i : TypeInfo} {z : Value} {size : Nat} (ht : P.underlying t = some (.slice e)) (hi : P.info? e = some i) (hz : i.zero = some z) (hsize : i.size = size)
    {v : Value} {n : Nat} {xs : List Value} (hown : w.ownsRow 0 e size v n xs)
    {a : Addr} {c : Nat} {news : List Value} (hl : news.length = 1 * size) (hnews : ∀ j u, news[j]? = some u → w.cell? (a.add j) = some u) (h1 : ∀ u ∈ news, u.oneCell' = true)
    (h63 : n + 1 ≤ maxLen) (hbytes : ((n + 1) + (n + 1) / 4 + 192) * i.bytes ≤ 281474976710656) {v' : Value} {w' : World}
    (hr : (Builtin.append_ #[t, t] ty #[v, .slice (some a) 1 c]).run P w = .ok v' w') :
    Touch (fun k => v.ownBlock = some k) w w' ∧ ∃ g' cap', v' = .slice (some ⟨g', 0, none⟩) (n + 1) cap' ∧ (v.ownBlock = some g' ∨ g' = w.heap.size ∧ w.heap.size < w'.heap.size) := by
  subst hsize
  have hsmall : n + 1 ≤ 9223372036854775807 := by simp only [maxLen] at h63; omega
  rcases hown.2 with ⟨rfl, rfl⟩ | ⟨g, cap, cur, rfl, hbg, hg, hnc, hcm, hcs, htake⟩
  · have hr2 := run_append_nil (P := P) w t ty e i z ht hi hz a 1 c news hl hnews (by omega) (by omega) (by have hb := hbytes; simp only [Nat.zero_add] at hb; exact Nat.le_trans (Nat.mul_le_mul_right _ (by omega)) hb)
    rw [hr2] at hr
    injection hr with e1 e2
    subst e1 e2
    exact ⟨((Fresh.refl w).drew.alloc _ _).touch _, _, _, rfl, Or.inr ⟨rfl, by simp⟩⟩
  · by_cases hroom : n + 1 ≤ cap
    · have hfit : n * i.size + news.length ≤ cur.size := by rw [hl, hcs, ← Nat.add_mul]; exact Nat.mul_le_mul_right _ hroom
      have hr2 := run_append_room (P := P) w t ty e i ht hi g n cap cur hg a 1 c news hl hnews h1 hroom hfit
      rw [hr2] at hr
      injection hr with e1 e2
      subst e1 e2
      exact ⟨setRow_touch hg _, _, _, rfl, Or.inl rfl⟩
    · have holds : ∀ j u, xs[j]? = some u → w.cell? ((⟨g, 0, none⟩ : Addr).add j) = some u := hown.cells (g := g) rfl
      have hr2 := run_append_grow (P := P) w t ty e i z ht hi hz ⟨g, 0, none⟩ n cap xs hown.1 holds a 1 c news hl hnews (by omega) (by omega) (growslice_fits_wide (by omega) hbytes)
      rw [hr2] at hr
      injection hr with e1 e2
      subst e1 e2
      exact ⟨((Fresh.refl w).drew.alloc _ _).touch _, _, _, rfl, Or.inr ⟨rfl, by simp⟩⟩
theorem own_base {w : World} {base base' : Nat} {e : TypeId} {size n : Nat} {v : Value} {xs : List Value} (h : w.ownsRow base e size v n xs) (hb : base' ≤ base) : w.ownsRow base' e size v n xs := by
  refine ⟨h.1, ?_⟩
  rcases h.2 with hn | ⟨g, cap, cur, rfl, hbg, rest⟩
  · exact .inl hn
  · exact .inr ⟨g, cap, cur, rfl, Nat.le_trans hb hbg, rest⟩
/-- append of one, in a region that draws. -/
theorem step_app1 {P : Program} {Y : World} {cs : Array Value} {ops : Array Oper} {o : Oper} {a : Act} {K : Act → World → Prop} {Q : Exit → Act → World → Prop} {E : Prop} (hgd : o.guard = none) (s x : Operand) (t : TypeId)
    (ho : o.op = .call { callee := .builtin .append, args := #[s, x], argTypes := #[t, t] })
    (base : Nat) (e : TypeId) (z : Value) (size bytes : Nat) (ht : P.underlying t = some (.slice e)) (hinfo : (P.info? e).map (fun i => (i.zero, i.size, i.bytes)) = some (some z, size, bytes)) (hzs : z.cells.size = size) (hsz : 0 < size)
    (v : Value) (n : Nat) (xs : List Value) (hs : a.eval s = v) (hown : Y.ownsRow base e size v n xs)
    (hx : a.eval x = .slice (some ⟨Y.heap.size, 0, none⟩) 1 1) (hcs : cs.size = size) (h1 : ∀ u ∈ cs.toList, u.oneCell' = true)
    (h63 : n + 1 ≤ maxLen) (hbytes : ((n + 1) + (n + 1) / 4 + 192) * bytes ≤ 281474976710656) (hbase : base ≤ Y.heap.size)
    (h : ∀ v' w', w'.ownsRow base e size v' (n + 1) (xs ++ cs.toList) → Touch (fun k => v.ownBlock = some k) (Y.alloc (.cells cs e)).drew w' → K (a.put o.dst v') w') :
    if Region.wanted o (yielded ops a.tmps) = true then Oper.wp P o a (Y.alloc (.cells cs e)).drew K Q else E := by
  have hw : Region.wanted o (yielded ops a.tmps) = true := by simp [Region.wanted, hgd]
  rw [if_pos hw]
  obtain ⟨i, hi, hzz⟩ := Option.map_eq_some_iff.1 hinfo
  simp only [Prod.mk.injEq] at hzz
  obtain ⟨hz, hsz', hby⟩ := hzz
  have hn : ∀ j u, cs.toList[j]? = some u → (Y.alloc (.cells cs e)).drew.cell? ((⟨Y.heap.size, 0, none⟩ : Addr).add j) = some u := fun j u hj => by
    have hadd : (⟨Y.heap.size, 0, none⟩ : Addr).add j = ⟨Y.heap.size, j, none⟩ := by unfold Addr.add; split <;> simp_all
    rw [hadd, show ∀ W : World, W.drew.cell? _ = W.cell? _ from fun _ => rfl, cell_of_row _ _ _ cs e (0, 0) (heap_alloc_new Y _)]
    simpa using hj
  have hl : cs.toList.length = 1 * size := by simpa using hcs
  have hown' : (Y.alloc (.cells cs e)).drew.ownsRow base e size v n xs := own_block (w' := (Y.alloc (.cells cs e)).drew) (hown.alloc (.cells cs e)) (fun _ _ => rfl)
  obtain ⟨v', w', hr, h2, h3, h4⟩ := run_append_own_wide (P := P) (Y.alloc (.cells cs e)).drew base t o.type e i z size bytes ht hi hz hsz' hby hzs hsz v n xs hown' ⟨Y.heap.size, 0, none⟩ 1 1 cs.toList hl hn h1 h63 hbytes (by simp; omega)
  obtain ⟨r1, _⟩ := push_where (P := P) ht hi hz hsz' (own_base hown' (Nat.zero_le _)) hl hn h1 h63 (by rw [hby]; exact hbytes) hr
  unfold Oper.wp execOp
  simp only [ho, resolve, invoke, builtin, Sem.run_bind, Sem.run_pure, Result.andThen_ok, List.map_toArray, List.map_cons, List.map_nil, hs, hx, hr]
  exact h v' w' h2 r1
def pcD (r : RB) (o : Nat) : (Int × Int × Int) × Nat := if r.kd o = 2 then (r.pc o).getD ((0, 0, 0), 0) else ((0, 0, 0), 0)
def b6 (r : RB) (o : Nat) : Int := if r.kd o = 2 then 0 else r.by' o
/-- A cell's six. -/
def six (r : RB) (o : Nat) : List Value := [.int .i64 (r.kd o : Int), .int .u8 (b6 r o), .int .i64 (pcD r o).1.1, .int .u64 (pcD r o).1.2.1, .int .i64 (pcD r o).1.2.2, .int .i64 ((pcD r o).2 : Int)]
theorem cellV_six {w : World} {K B P N : Nat} {r : RB} (h : RBlk w K B P N r) (o : Nat) : cellV r o = .agg #[.int .i64 (r.kd o : Int), .int .u8 (b6 r o), .int .i64 (pcD r o).1.1, .int .u64 (pcD r o).1.2.1, .int .i64 (pcD r o).1.2.2, .int .i64 ((pcD r o).2 : Int)] := by
  unfold cellV b6 pcD
  by_cases hk : r.kd o = 2
  · obtain ⟨t, ht⟩ := h.k2 o hk
    rw [if_pos hk, if_pos hk, if_pos hk, ht, hk]
    rfl
  · rw [if_neg hk, if_neg hk, if_neg hk]
    rfl
def rowC (r : RB) (off : Nat) : Nat → List Value
  | 0 => []
  | n + 1 => rowC r off n ++ six r (off + n)
theorem six_len (r : RB) (o : Nat) : (six r o).length = 6 := rfl
theorem rowC_len (r : RB) (off : Nat) : ∀ n, (rowC r off n).length = n * 6
  | 0 => rfl
  | n + 1 => by rw [rowC, List.length_append, rowC_len r off n, six_len]; omega
theorem rowC_at (r : RB) (off : Nat) : ∀ n i j, i < n → j < 6 → (rowC r off n)[i * 6 + j]? = (six r (off + i))[j]?
  | 0, i, j, h, _ => absurd h (by omega)
  | n + 1, i, j, h, hj => by
    unfold rowC
    by_cases hi : i < n
    · rw [List.getElem?_append_left (by rw [rowC_len]; omega)]
      exact rowC_at r off n i j hi hj
    · obtain rfl : i = n := by omega
      rw [List.getElem?_append_right (by rw [rowC_len]; omega), rowC_len, Nat.add_sub_cancel_left]
theorem P0_D (r : RB) (off : Nat) : P0 r off = (pcD r off).1 := by
  unfold P0 pcD
  split <;> rfl
theorem isP_D (r : RB) (off m : Nat) : isP r off m = (decide (r.kd (off + m) = 2) && decide ((pcD r (off + m)).2 = m) && decide ((pcD r (off + m)).1 = (pcD r off).1)) := by
  unfold isP
  rw [P0_D]
  by_cases hk : r.kd (off + m) = 2
  · have e : pcD r (off + m) = (r.pc (off + m)).getD ((0, 0, 0), 0) := by unfold pcD; rw [if_pos hk]
    rw [e]
  · rw [decide_eq_false hk]; rfl
section
set_option maxRecDepth 100000
set_option maxHeartbeats 2000000
theorem int39 (n : Int) (w : World) : Calls Try.prog 39 #[.int .i32 n] w fun e w' => e = .returned (.agg #[.int .i64 1, .int .u64 (n % 4294967296), .int .i64 0]) ∧ Fresh w w' := by
  go_enter Try.func39, Try.ntmps39
  go_wp2
  go_returns
  exact ⟨rfl, (Fresh.refl _).alloc _ _⟩
theorem long40 (n : Int) (w : World) : Calls Try.prog 40 #[.int .i64 n] w fun e w' => e = .returned (.agg #[.int .i64 2, .int .u64 (IntKind.u64.wrap n), .int .i64 0]) ∧ Fresh w w' := by
  go_enter Try.func40, Try.ntmps40
  go_wp2
  go_returns
  exact ⟨rfl, (Fresh.refl _).alloc _ _⟩
theorem info76 : (Try.prog.info? 76).map (fun i => (i.zero, i.size, i.bytes)) = some (some zCell, 6, 48) := by kernel_rfl
end
end Go.Proofs.Ytjbflmpnmobngaa
