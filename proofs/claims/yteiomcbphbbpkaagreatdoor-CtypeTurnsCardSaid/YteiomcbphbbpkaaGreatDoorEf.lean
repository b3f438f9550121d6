/- The fixed calls at their literals. -/
import Derived.Test.YteiomcbphbbpkaaGreatDoorEa
import Derived.Test.YteiomcbphbbpkaaGreatDoorEd
import Derived.Test.YteiomcbphbbpkaaGreatDoorEe
namespace Go.Proofs.YteiomcbphbbpkaaGreatDoor
set_option linter.unusedSimpArgs false
set_option linter.unusedVariables false
open Go.RowKit

theorem FSlice.of_own {ok : Nat → Prop} {w : World} {base n cap : Nat} {p : Option Addr} {xs : List Value} {fs : List Fd} (ho : ∀ b, base ≤ b → ok b) (h : w.ownsRow base 43 8 (.slice p n cap) n xs) (hc : Fcells ok w fs xs) : FSlice ok w fs p n cap := by
  have hl := hc.length
  have hn : n = fs.length := by have := h.1; omega
  rcases h.2 with ⟨e, h0⟩ | ⟨g, cap', cur, e, q0, -, q1, q2, -, -⟩
  · cases e
    exact ⟨hn, Nat.le_refl _, Nat.zero_le _, xs, hc, Or.inl ⟨rfl, rfl, rfl⟩⟩
  · cases e
    refine ⟨hn, q1, q2, xs, hc, Or.inr ⟨g, 0, rfl, ho g q0, fun j u hj => ?_⟩⟩
    obtain ⟨hj1, hj2⟩ := List.getElem?_eq_some_iff.1 hj
    rw [h.cellAt _ (by have := h.1; omega)]
    simpa using hj
def la0 : La := ⟨⟨#[]⟩, false, none, 0, 0, 0, 0⟩
def fds : List Fd := [⟨⟨#[99]⟩, numHd 1 false, .nil, 0⟩, ⟨⟨#[110]⟩, numHd 4 false, .nil, 0⟩, ⟨⟨#[100]⟩, hd1 3, .nil, 0⟩]
def fdo : List Fd := [⟨⟨#[99]⟩, numHd 1 false, .nil, 0⟩, ⟨⟨#[110]⟩, numHd 4 false, .nil, 4⟩, ⟨⟨#[100]⟩, hd1 3, .nil, 8⟩]
theorem layF_lit : layF (fun _ => la0) 0 false fds LS.zero = .inl ⟨fdo, 16, 8⟩ := by kernel_rfl
theorem mul_lit : mul 16 8 = 16 := by kernel_rfl
theorem isName_c : isName ⟨#[99]⟩ := ⟨2, by decide, by kernel_rfl⟩
theorem isName_n : isName ⟨#[110]⟩ := ⟨13, by decide, by kernel_rfl⟩
theorem isName_d : isName ⟨#[100]⟩ := ⟨3, by decide, by kernel_rfl⟩
theorem names_lit : ∀ x ∈ fds, isName x.nm := by
  intro x hx
  simp only [fds, List.mem_cons, List.not_mem_nil, or_false] at hx
  rcases hx with rfl | rfl | rfl
  · exact isName_c
  · exact isName_n
  · exact isName_d
theorem small_lit : ∀ x ∈ fds, x.ks.small ∧ x.ks.length ≤ 9 := by
  intro x hx
  simp only [fds, List.mem_cons, List.not_mem_nil, or_false] at hx
  rcases hx with rfl | rfl | rfl <;> exact ⟨trivial, by decide⟩
theorem small_lit2 : ∀ x ∈ fdo, x.ks.small ∧ x.ks.length ≤ 9 := by
  intro x hx
  simp only [fdo, List.mem_cons, List.not_mem_nil, or_false] at hx
  rcases hx with rfl | rfl | rfl <;> exact ⟨trivial, by decide⟩
@[reducible] def NUM (s : Int) (u : Bool) : Value := .agg #[.int .i64 2, .int .i64 s, .int .i64 0, .bool u, .string ⟨#[]⟩, .slice none 0 0]
/-- The three members as a row of cells. -/
def c24 : Array Value := #[.string ⟨#[99]⟩, .int .i64 2, .int .i64 1, .int .i64 0, .bool false, .string ⟨#[]⟩, .slice none 0 0, .int .i64 0, .string ⟨#[110]⟩, .int .i64 2, .int .i64 4, .int .i64 0, .bool false, .string ⟨#[]⟩, .slice none 0 0, .int .i64 0, .string ⟨#[100]⟩, .int .i64 3, .int .i64 0, .int .i64 0, .bool false, .string ⟨#[]⟩, .slice none 0 0, .int .i64 0]
theorem fds_row (w : World) : FSlice (fun _ => True) (w.alloc (.cells c24 43)) fds (some ⟨w.heap.size, 0, none⟩) 3 3 := by
  refine ⟨rfl, Nat.le_refl _, by unfold maxLen; omega, c24.toList, ?_, Or.inr ⟨w.heap.size, 0, rfl, trivial, fun j u hj => by rw [Nat.zero_add]; exact (Blk.new w c24 43).1 j u hj⟩⟩
  exact ⟨_, _, _, _, rfl, Kids.none _, _, _, _, _, rfl, Kids.none _, _, _, _, _, rfl, Kids.none _, rfl⟩
theorem fdo_off {ok : Nat → Prop} {w : World} {xs : List Value} (h : Fcells ok w fdo xs) : xs[15]? = some (.int .i64 4) ∧ xs.length = 24 := by
  obtain ⟨p, n, c, ys, rfl, -, h⟩ := h
  obtain ⟨p, n, c, ys, rfl, -, h⟩ := h
  obtain ⟨p, n, c, ys, rfl, -, rfl⟩ := h
  exact ⟨rfl, rfl⟩
def LayLit (w : World) (e : Ending) (w' : World) : Prop :=
  (∃ g fc, e = .returned (.tuple #[.agg #[.string ⟨#[115]⟩, .bool false, .slice (some ⟨g, 0, none⟩) 3 fc, .int .i64 16, .int .i64 8], .int .i64 (-1), .int .i64 0]) ∧ w'.cell? ⟨g, 15, none⟩ = some (.int .i64 4) ∧ FSlice (fun b => w.heap.size ≤ b) w' fdo (some ⟨g, 0, none⟩) 3 fc) ∧ Fresh w w'
theorem lay_lit (B : Nat) (w0 w : World) (hf : Fresh w0 w) (hs : FSlice (fun _ => True) w0 fds (some ⟨B, 0, none⟩) 3 3) :
    Calls Tryz.prog 13 #[.string ⟨#[115]⟩, .bool false, .slice (some ⟨B, 0, none⟩) 3 3, .slice none 0 0] w (LayLit w) := by
  refine (lay_any (fun _ => la0) none 0 0 ⟨#[115]⟩ false fds (some ⟨B, 0, none⟩) 3 3 w0 w hf hs (Or.inl rfl) (fun i hi => by omega) (Nat.le_refl _) (Nat.zero_le _) names_lit small_lit).mono ?_
  rintro e w' ⟨hw, h⟩
  rw [layF_lit] at h
  dsimp only at h
  rw [mul_lit, if_neg (by decide)] at h
  obtain ⟨fp, fc, xs, rfl, hown, hc⟩ := h
  have hl3 : fdo.length = 3 := rfl
  rw [hl3] at hown hc
  obtain ⟨g, cap, hv, hb, hlt⟩ := hown.form (by omega)
  have hv' := hv
  simp only [Value.slice.injEq] at hv'
  obtain ⟨rfl, -, rfl⟩ := hv'
  refine ⟨⟨g, fc, rfl, ?_, FSlice.of_own (base := w.heap.size + 3) (fun b hb => by omega) hown (hc.mono (fun b _ hb => by have := hb.1; omega))⟩, hw⟩
  rw [hown.cellAt _ (by have := (fdo_off hc).2; omega)]
  exact (fdo_off hc).1
def fl (g fc : Nat) : Nat → La := fun _ => ⟨⟨#[115]⟩, false, some ⟨g, 0, none⟩, 3, fc, 16, 8⟩
theorem size_lit0 (g fc : Nat) : sizeH (fl g fc) 1 ⟨5, 0, 3, false, ⟨#[]⟩⟩ ((Tys.cons (recHd ⟨#[115]⟩ false) .nil .nil).size0 (fl g fc) 1) = (48, 8) := by kernel_rfl
theorem good_fl (g fc : Nat) : Good (fl g fc) 1 := fun i hi => by simp [fl]
theorem lays_fl {w : World} {K g fc : Nat} (h : Blk w K [.string ⟨#[115]⟩, .bool false, .slice (some ⟨g, 0, none⟩) 3 fc, .int .i64 16, .int .i64 8]) : LaysAt w (some ⟨K, 0, none⟩) 1 (fl g fc) := by
  refine Or.inr ⟨K, 0, rfl, fun i hi => ?_⟩
  obtain rfl : i = 0 := by omega
  exact ⟨h.1 0 _ rfl, h.1 1 _ rfl, h.1 2 _ rfl, h.1 3 _ rfl, h.1 4 _ rfl⟩
theorem size_lit {ok : Nat → Prop} (K g fc : Nat) (p : Option Addr) (w0 w : World) (hf : Fresh w0 w) (hk : Kids ok w0 (.cons (recHd ⟨#[115]⟩ false) .nil .nil) p 1 1) (hl : LaysAt w0 (some ⟨K, 0, none⟩) 1 (fl g fc)) :
    Calls Tryz.prog 14 #[.agg #[.int .i64 5, .int .i64 0, .int .i64 3, .bool false, .string ⟨#[]⟩, .slice p 1 1], .slice (some ⟨K, 0, none⟩) 1 1] w fun e w' => e = .returned (.tuple #[.int .i64 48, .int .i64 8]) ∧ Fresh w w' := by
  have := size_all (fl g fc) (some ⟨K, 0, none⟩) 1 1 (good_fl g fc) (Nat.le_refl _) (by unfold maxLen; omega) (.cons (recHd ⟨#[115]⟩ false) .nil .nil) ok ⟨5, 0, 3, false, ⟨#[]⟩⟩ p 1 1 w0 w hf hk hl
  rw [size_lit0] at this
  exact this
theorem com_lit : comHd (numHd 1 false) (numHd 4 true) = numHd 4 true ∧ comOk (numHd 1 false) (numHd 4 true) = true := by constructor <;> kernel_rfl
theorem common_lit (w : World) : Calls Tryz.prog 17 #[NUM 1 false, NUM 4 true] w fun e w' => e = .returned (.tuple #[.agg #[.int .i64 2, .int .i64 4, .int .i64 0, .bool true, .string ⟨#[]⟩, .slice none 0 0], .bool true]) ∧ Fresh w w' := by
  have := common_any (ok := fun _ => True) (ok2 := fun _ => True) (numHd 1 false) (numHd 4 true) .nil .nil none none 0 0 0 0 w w (Fresh.refl w) (Kids.none w) (Kids.none w) ⟨trivial, by decide⟩ ⟨trivial, by decide⟩
  rw [com_lit.1, com_lit.2] at this
  exact this
theorem ops_lit0 : opsOk (numHd 8 false) (numHd 1 false) = true ∧ (opsL (numHd 8 false) (numHd 1 false)).length = 2 ∧ (opsL (numHd 8 false) (numHd 1 false))[1]? = some 80 := by refine ⟨?_, ?_, ?_⟩ <;> kernel_rfl
theorem ops_lit (w : World) : Calls Tryz.prog 18 #[NUM 8 false, NUM 1 false] w fun e w' => (∃ g c, e = .returned (.tuple #[.slice (some ⟨g, 0, none⟩) 2 c, .bool true]) ∧ w'.cell? ⟨g, 1, none⟩ = some (.int .i64 80)) ∧ Fresh w w' := by
  refine (ops_any (ok := fun _ => True) (ok2 := fun _ => True) (numHd 8 false) (numHd 1 false) .nil .nil none none 0 0 0 0 w w (Fresh.refl w) (Kids.none w) (Kids.none w)).mono ?_
  rintro e w' ⟨⟨v, rfl, hv⟩, h⟩
  unfold Ints at hv
  obtain ⟨q0, q1, q2⟩ := ops_lit0
  rw [q1] at hv
  obtain ⟨g, cap, rfl, hb, hlt⟩ := hv.form (by omega)
  refine ⟨⟨g, cap, by rw [q0], ?_⟩, h⟩
  rw [hv.cellAt _ (by omega), List.getElem?_map, q2]
  rfl
theorem find_lit {ok : Nat → Prop} (K g fc : Nat) (w0 w : World) (hf : Fresh w0 w) (hl : LaysAt w0 (some ⟨K, 0, none⟩) 1 (fl g fc)) (hs : FSlice ok w0 fdo (some ⟨g, 0, none⟩) 3 fc) :
    Calls Tryz.prog 19 #[.slice (some ⟨K, 0, none⟩) 1 1, .string ⟨#[115]⟩] w fun e w' => (∃ p n c, e = .returned (.tuple #[.agg #[.string ⟨#[115]⟩, .bool false, .slice p n c, .int .i64 16, .int .i64 8], .bool true])) ∧ Fresh w w' := by
  refine (find_any (fl g fc) (fun _ => fdo) (some ⟨K, 0, none⟩) 1 1 ⟨#[115]⟩ w0 w hf hl (Nat.le_refl _) (by unfold maxLen; omega) (fun i hi => ⟨hs, by simp [fl], small_lit2⟩)).mono ?_
  rintro e w' ⟨h, hw⟩
  rcases h with ⟨h, -⟩ | ⟨i, F, fp, fc', xs, hi, -, -, -, rfl, -⟩
  · have := h 0 (by omega)
    revert this
    simp [fl]
  · exact ⟨⟨_, _, _, rfl⟩, hw⟩
def tyP : Tys := .cons ⟨4, 0, 0, false, ⟨#[]⟩⟩ (.cons (numHd 4 false) .nil .nil) .nil
@[reducible] def ARR (p : Option Addr) : Value := .agg #[.int .i64 5, .int .i64 0, .int .i64 3, .bool false, .string ⟨#[]⟩, .slice p 1 1]
theorem text_arr {ok : Nat → Prop} (p : Option Addr) (w0 w : World) (hf : Fresh w0 w) (hk : Kids ok w0 tyP p 1 1) : Calls Tryz.prog 22 #[ARR p] w fun e w' => e = .returned (.string ⟨#[105, 110, 116, 42, 91, 51, 93]⟩) ∧ Fresh w w' :=
  text_lit ⟨5, 0, 3, false, ⟨#[]⟩⟩ tyP p 1 1 w0 w hf hk rfl rfl rfl rfl rfl rfl
theorem depth_arr {ok : Nat → Prop} (p : Option Addr) (w0 w : World) (hf : Fresh w0 w) (hk : Kids ok w0 tyP p 1 1) : Calls Tryz.prog 23 #[ARR p] w fun e w' => e = .returned (.int .i64 3) ∧ Fresh w w' :=
  depth_up5 ⟨5, 0, 3, false, ⟨#[]⟩⟩ tyP p 1 1 w0 w hf hk 2 (by omega) (by omega) rfl (fun X p' n' c' hX hk' =>
    depth_up4 tyP.hd tyP.kids p' n' c' w0 X hX hk' 1 (by omega) (by omega) rfl (fun X p' n' c' hX hk' => depth_num (numHd 4 false) p' n' c' X rfl))
theorem same_arr {ok ok2 : Nat → Prop} (p q : Option Addr) (w0 w : World) (hf : Fresh w0 w) (hk : Kids ok w0 tyP p 1 1) (hj : Kids ok2 w0 tyP q 1 1) : Calls Tryz.prog 21 #[ARR p, ARR q] w fun e w' => e = .returned (.bool true) ∧ Fresh w w' :=
  same_up5 ⟨5, 0, 3, false, ⟨#[]⟩⟩ ⟨5, 0, 3, false, ⟨#[]⟩⟩ tyP tyP p q 1 1 1 1 w0 w hf hk hj rfl rfl rfl (fun X p' q' n' c' m' mc' hX hk' hj' =>
    same_up4 tyP.hd tyP.hd tyP.kids tyP.kids p' q' n' m' c' mc' w0 X hX hk' hj' rfl rfl rfl (fun X p' q' n' c' m' mc' hX hk' hj' => same_num (numHd 4 false) (numHd 4 false) p' q' n' m' c' mc' X rfl rfl rfl rfl))
theorem same_num4 (u : Bool) (w : World) : Calls Tryz.prog 21 #[NUM 4 u, NUM 4 u] w fun e w' => e = .returned (.bool true) ∧ Fresh w w' :=
  same_num (numHd 4 u) (numHd 4 u) none none 0 0 0 0 w rfl rfl rfl rfl
theorem pro_lit : pro (numHd 1 false) = numHd 4 false ∧ proK (numHd 1 false) .nil = .nil := by constructor <;> kernel_rfl
theorem promote_lit (w : World) : Calls Tryz.prog 25 #[NUM 1 false] w fun e w' => (∃ p n c, e = .returned (.agg #[.int .i64 2, .int .i64 4, .int .i64 0, .bool false, .string ⟨#[]⟩, .slice p n c])) ∧ Fresh w w' := by
  refine (promote_any (ok := fun _ => True) (numHd 1 false) .nil none 0 0 w w (Fresh.refl w) (Kids.none w) trivial (by decide)).mono ?_
  rintro e w' ⟨⟨p, n, c, rfl, -⟩, h⟩
  rw [pro_lit.1]
  exact ⟨⟨p, n, c, rfl⟩, h⟩
theorem same_pro (p : Option Addr) (n c : Nat) (w : World) : Calls Tryz.prog 21 #[.agg #[.int .i64 2, .int .i64 4, .int .i64 0, .bool false, .string ⟨#[]⟩, .slice p n c], NUM 4 false] w fun e w' => e = .returned (.bool true) ∧ Fresh w w' :=
  same_num (numHd 4 false) (numHd 4 false) p none n 0 c 0 w rfl rfl rfl rfl
@[reducible] def FLT : Value := .agg #[.int .i64 3, .int .i64 0, .int .i64 0, .bool false, .string ⟨#[]⟩, .slice none 0 0]
theorem chunk_flt (w : World) : Calls Tryz.prog 24 #[FLT] w fun e w' => e = .returned (.int .i64 7) ∧ Fresh w w' := chunk_any (ok := fun _ => True) (hd1 3) .nil none 0 0 w w (Fresh.refl w) (Kids.none w)
@[reducible] def PTR (p : Option Addr) : Value := .agg #[.int .i64 4, .int .i64 0, .int .i64 0, .bool false, .string ⟨#[]⟩, .slice p 1 1]
theorem kind_ptr {ok : Nat → Prop} (ks : Tys) (p : Option Addr) (w0 w : World) (hf : Fresh w0 w) (hk : Kids ok w0 ks p 1 1) : Calls Tryz.prog 9 #[PTR p] w fun e w' => e = .returned (.int .i64 2) ∧ Fresh w w' := kind_any ⟨4, 0, 0, false, ⟨#[]⟩⟩ ks p 1 1 w0 w hf hk
end Go.Proofs.YteiomcbphbbpkaaGreatDoor
