
set_option linter.unusedSimpArgs false
set_option linter.unusedVariables false
namespace Solve
/-- Rising, each once. -/
def Inc (l : List Int) : Prop := l.Pairwise (· < ·)
theorem inc_nil : Inc [] := List.Pairwise.nil
theorem Inc.tail {a : Int} {l : List Int} (h : Inc (a :: l)) : Inc l := (List.pairwise_cons.1 h).2
theorem inc_eq : ∀ {a b : List Int}, Inc a → Inc b → (∀ x, x ∈ a ↔ x ∈ b) → a = b
  | [], [], _, _, _ => rfl
  | [], y :: b, _, _, h => absurd ((h y).2 (by simp)) (by simp)
  | x :: a, [], _, _, h => absurd ((h x).1 (by simp)) (by simp)
  | x :: a, y :: b, ha, hb, h => by
    have ha' := List.pairwise_cons.1 ha
    have hb' := List.pairwise_cons.1 hb
    have exy : x = y := by
      have h1 : x = y ∨ x ∈ b := by simpa using (h x).1 (by simp)
      have h2 : y = x ∨ y ∈ a := by simpa using (h y).2 (by simp)
      rcases h1 with h1 | h1
      · exact h1
      · rcases h2 with h2 | h2
        · exact h2.symm
        · have := hb'.1 x h1; have := ha'.1 y h2; omega
    subst exy
    have : a = b := inc_eq ha'.2 hb'.2 fun z => by
      constructor
      · intro hz
        have : z = x ∨ z ∈ b := by simpa using (h z).1 (by simp [hz])
        rcases this with e | e
        · have := ha'.1 z hz; omega
        · exact e
      · intro hz
        have : z = x ∨ z ∈ a := by simpa using (h z).2 (by simp [hz])
        rcases this with e | e
        · have := hb'.1 z hz; omega
        · exact e
    rw [this]
/-- A number put into a rising row. -/
def addL (l : List Int) (x : Int) : List Int := if x ∈ l then l else l.takeWhile (· < x) ++ x :: l.dropWhile (· < x)
theorem mem_addL (l : List Int) (x y : Int) : y ∈ addL l x ↔ y ∈ l ∨ y = x := by
  unfold addL
  by_cases h : x ∈ l
  · rw [if_pos h]; exact ⟨Or.inl, fun e => e.elim id fun e => e ▸ h⟩
  · rw [if_neg h]
    have e := List.takeWhile_append_dropWhile (p := fun z : Int => decide (z < x)) (l := l)
    have : y ∈ l ↔ y ∈ l.takeWhile (· < x) ∨ y ∈ l.dropWhile (· < x) := by
      rw [← List.mem_append, e]
    simp only [List.mem_append, List.mem_cons, this]
    constructor
    · rintro (h | h | h) <;> simp [h]
    · rintro ((h | h) | h) <;> simp [h]
theorem drop_ge {l : List Int} {x : Int} (h : Inc l) : ∀ y ∈ l.dropWhile (· < x), x ≤ y := by
  induction l with
  | nil => simp
  | cons a l ih =>
    intro y hy
    by_cases ha : a < x
    · rw [List.dropWhile_cons_of_pos (by simpa using ha)] at hy
      exact ih h.tail y hy
    · rw [List.dropWhile_cons_of_neg (by simpa using ha)] at hy
      have h' := List.pairwise_cons.1 h
      rcases List.mem_cons.1 hy with e | e
      · omega
      · have := h'.1 y e; omega
theorem take_lt {l : List Int} {x : Int} : ∀ y ∈ l.takeWhile (· < x), y < x := by
  induction l with
  | nil => simp
  | cons a l ih =>
    intro y hy
    by_cases ha : a < x
    · rw [List.takeWhile_cons_of_pos (by simpa using ha)] at hy
      rcases List.mem_cons.1 hy with e | e
      · omega
      · exact ih y e
    · rw [List.takeWhile_cons_of_neg (by simpa using ha)] at hy
      simp at hy
theorem inc_addL {l : List Int} (x : Int) (h : Inc l) : Inc (addL l x) := by
  unfold addL
  by_cases hx : x ∈ l
  · rw [if_pos hx]; exact h
  · rw [if_neg hx]
    have e := List.takeWhile_append_dropWhile (p := fun z : Int => decide (z < x)) (l := l)
    have h2 : Inc (l.takeWhile (· < x) ++ l.dropWhile (· < x)) := by rw [e]; exact h
    have h3 := List.pairwise_append.1 h2
    refine List.pairwise_append.2 ⟨h3.1, List.pairwise_cons.2 ⟨fun y hy => ?_, h3.2.1⟩, fun a ha b hb => ?_⟩
    · have h5 := drop_ge h y hy
      have : y ∈ l := by have := List.mem_append_right (l.takeWhile (· < x)) hy; rwa [e] at this
      have : y ≠ x := fun e => hx (e ▸ this)
      omega
    · rcases List.mem_cons.1 hb with e | e
      · rw [e]; exact take_lt a ha
      · exact h3.2.2 a ha b e
theorem len_addL (l : List Int) (x : Int) : l.length ≤ (addL l x).length := by
  unfold addL
  by_cases hx : x ∈ l
  · rw [if_pos hx]; exact Nat.le_refl _
  · rw [if_neg hx]
    have e := congrArg List.length (List.takeWhile_append_dropWhile (p := fun z : Int => decide (z < x)) (l := l))
    simp only [List.length_append, List.length_cons] at e ⊢
    omega
theorem len_addL_le (l : List Int) (x : Int) : (addL l x).length ≤ l.length + 1 := by
  unfold addL
  by_cases hx : x ∈ l
  · rw [if_pos hx]; omega
  · rw [if_neg hx]
    have e := congrArg List.length (List.takeWhile_append_dropWhile (p := fun z : Int => decide (z < x)) (l := l))
    simp only [List.length_append, List.length_cons] at e ⊢
    omega
theorem len_addL_new {l : List Int} {x : Int} (hx : x ∉ l) : (addL l x).length = l.length + 1 := by
  unfold addL
  rw [if_neg hx]
  have e := congrArg List.length (List.takeWhile_append_dropWhile (p := fun z : Int => decide (z < x)) (l := l))
  simp only [List.length_append, List.length_cons] at e ⊢
  omega
/-- A row has no more than what it is made of. -/
theorem len_sub : ∀ {a : List Int} {b : List Int}, a.Nodup → (∀ x ∈ a, x ∈ b) → a.length ≤ b.length
  | [], _, _, _ => by simp
  | x :: a, b, h, hs => by
    have h' := List.nodup_cons.1 h
    have hx : x ∈ b := hs x (by simp)
    have := len_sub (a := a) (b := b.erase x) h'.2 fun y hy => by
      have hne : y ≠ x := fun e => h'.1 (e ▸ hy)
      exact (List.mem_erase_of_ne hne).2 (hs y (by simp [hy]))
    have e := List.length_erase_of_mem hx
    have : 0 < b.length := List.length_pos_of_mem hx
    simp only [List.length_cons]; omega
theorem Inc.nodup {l : List Int} (h : Inc l) : l.Nodup := List.Pairwise.imp (fun h => by omega) h
/-- A rising row that has all of another and is no longer is that one. -/
theorem inc_same {a b : List Int} (ha : Inc a) (hb : Inc b) (hs : ∀ x ∈ a, x ∈ b) (hl : b.length ≤ a.length) : a = b := by
  refine inc_eq ha hb fun x => ⟨hs x, fun hx => ?_⟩
  by_cases h : x ∈ a
  · exact h
  · have : (x :: a).length ≤ b.length := len_sub (List.nodup_cons.2 ⟨h, ha.nodup⟩) fun y hy => by
      rcases List.mem_cons.1 hy with e | e
      · exact e ▸ hx
      · exact hs y e
    simp only [List.length_cons] at this; omega
/-- Many numbers put into a rising row. -/
def addsL (l : List Int) (xs : List Int) : List Int := xs.foldl addL l
theorem mem_addsL (xs : List Int) : ∀ (l : List Int) (y : Int), y ∈ addsL l xs ↔ y ∈ l ∨ y ∈ xs := by
  unfold addsL
  induction xs with
  | nil => simp
  | cons x xs ih => intro l y; rw [List.foldl_cons, ih, mem_addL]; simp [or_assoc]
theorem inc_addsL (xs : List Int) : ∀ {l : List Int}, Inc l → Inc (addsL l xs) := by
  unfold addsL
  induction xs with
  | nil => exact fun h => h
  | cons x xs ih => intro l h; exact ih (inc_addL x h)
theorem len_addsL (xs : List Int) : ∀ (l : List Int), l.length ≤ (addsL l xs).length := by
  unfold addsL
  induction xs with
  | nil => intro l; exact Nat.le_refl _
  | cons x xs ih => intro l; exact Nat.le_trans (len_addL l x) (ih _)
theorem len_addsL_le (xs : List Int) : ∀ (l : List Int), (addsL l xs).length ≤ l.length + xs.length := by
  unfold addsL
  induction xs with
  | nil => intro l; exact Nat.le_refl _
  | cons x xs ih => intro l; have := ih (addL l x); have := len_addL_le l x; simp only [List.foldl_cons, List.length_cons]; omega
theorem fold_take {α β : Type} (f : β → α → β) (b : β) (l : List α) (k : Nat) (h : k < l.length) : (l.take (k + 1)).foldl f b = f ((l.take k).foldl f b) l[k] := by
  rw [List.take_succ_eq_append_getElem h, List.foldl_append]; rfl

/-- Those of some numbers that are nodes. -/
def nodesOf (n : Nat) (l : List Int) : List Nat := l.filterMap fun k => if 0 ≤ k ∧ k < (n : Int) then some k.toNat else none
theorem mem_nodesOf {n : Nat} {l : List Int} {k : Nat} : k ∈ nodesOf n l ↔ (k : Int) ∈ l ∧ k < n := by
  unfold nodesOf
  rw [List.mem_filterMap]
  constructor
  · rintro ⟨a, ha, e⟩
    by_cases h : 0 ≤ a ∧ a < (n : Int)
    · rw [if_pos h] at e
      have : a.toNat = k := by simpa using e
      have : a = (k : Int) := by omega
      exact ⟨this ▸ ha, by omega⟩
    · rw [if_neg h] at e; simp at e
  · rintro ⟨h1, h2⟩
    exact ⟨k, h1, by rw [if_pos ⟨by omega, by omega⟩]; simp⟩
abbrev Graph := List (List Int)
/-- What follows a node. -/
def fol (g : Graph) (i : Nat) : List Nat := nodesOf g.length (g.getD i [])
theorem fol_lt {g : Graph} {i k : Nat} (h : k ∈ fol g i) : k < g.length := (mem_nodesOf.1 h).2
theorem fol_from {g : Graph} {i k : Nat} (h : k ∈ fol g i) : i < g.length := by
  by_cases hi : i < g.length
  · exact hi
  · have : g.getD i [] = [] := by simp [List.getD, List.getElem?_eq_none (Nat.le_of_not_lt hi)]
    unfold fol at h
    rw [this] at h
    simp [nodesOf] at h
inductive Path (g : Graph) : Nat → Nat → Prop
  | refl (i) : Path g i i
  | step {i j k} : Path g i j → k ∈ fol g j → Path g i k
theorem Path.trans {g : Graph} {i j k : Nat} (a : Path g i j) (b : Path g j k) : Path g i k := by
  induction b with
  | refl => exact a
  | step _ h ih => exact ih.step h
theorem Path.head {g : Graph} {i j k : Nat} (h : j ∈ fol g i) (b : Path g j k) : Path g i k := ((Path.refl i).step h).trans b
theorem Path.closed {g : Graph} {i j : Nat} {P : Nat → Prop} (a : Path g i j) (h : P i) (hc : ∀ i k, P i → k ∈ fol g i → P k) : P j := by
  induction a with
  | refl => exact h
  | step _ hk ih => exact hc _ _ ih hk
theorem Path.lt {g : Graph} {i j : Nat} (a : Path g i j) (h : i < g.length) : j < g.length := by
  cases a with
  | refl => exact h
  | step _ hk => exact fol_lt hk
/-- The sets against the arrows. -/
inductive BackP (g u s : Graph) : Nat → Int → Prop
  | use {i x} : i < g.length → x ∈ u.getD i [] → BackP g u s i x
  | pass {i k x} : k ∈ fol g i → BackP g u s k x → x ∉ s.getD i [] → BackP g u s i x
/-- The sets along the arrows. -/
inductive FwdP (g : Graph) (entry : Nat) (start : List Int) (m e : Graph) : Nat → Int → Prop
  | start {x} : x ∈ start → FwdP g entry start m e entry x
  | make {i k x} : Path g entry i → k ∈ fol g i → x ∈ m.getD i [] → FwdP g entry start m e k x
  | pass {i k x} : Path g entry i → k ∈ fol g i → FwdP g entry start m e i x → x ∉ e.getD i [] → FwdP g entry start m e k x
end Solve


set_option linter.unusedSimpArgs false
set_option linter.unusedVariables false
namespace Solve
/-- Some numbers, but not those of another row, put into a rising row. -/
def passL (ex r xs : List Int) : List Int := xs.foldl (fun r x => if x ∈ ex then r else addL r x) r
theorem mem_passL (ex xs : List Int) : ∀ (r : List Int) (y : Int), y ∈ passL ex r xs ↔ y ∈ r ∨ (y ∈ xs ∧ y ∉ ex) := by
  unfold passL
  induction xs with
  | nil => simp
  | cons x xs ih =>
    intro r y
    rw [List.foldl_cons, ih]
    by_cases h : x ∈ ex
    · rw [if_pos h]
      constructor
      · rintro (h1 | ⟨h1, h2⟩)
        · exact Or.inl h1
        · exact Or.inr ⟨by simp [h1], h2⟩
      · rintro (h1 | ⟨h1, h2⟩)
        · exact Or.inl h1
        · rcases List.mem_cons.1 h1 with e | e
          · exact absurd h (e ▸ h2)
          · exact Or.inr ⟨e, h2⟩
    · rw [if_neg h, mem_addL]
      constructor
      · rintro ((h1 | h1) | ⟨h1, h2⟩)
        · exact Or.inl h1
        · exact Or.inr ⟨by simp [h1], h1 ▸ h⟩
        · exact Or.inr ⟨by simp [h1], h2⟩
      · rintro (h1 | ⟨h1, h2⟩)
        · exact Or.inl (Or.inl h1)
        · rcases List.mem_cons.1 h1 with e | e
          · exact Or.inl (Or.inr e)
          · exact Or.inr ⟨e, h2⟩
theorem inc_passL (ex xs : List Int) : ∀ {r : List Int}, Inc r → Inc (passL ex r xs) := by
  unfold passL
  induction xs with
  | nil => exact fun h => h
  | cons x xs ih =>
    intro r h
    rw [List.foldl_cons]
    by_cases hx : x ∈ ex
    · rw [if_pos hx]; exact ih h
    · rw [if_neg hx]; exact ih (inc_addL x h)
theorem len_passL_le (ex xs : List Int) : ∀ (r : List Int), (passL ex r xs).length ≤ r.length + xs.length := by
  unfold passL
  induction xs with
  | nil => intro r; exact Nat.le_refl _
  | cons x xs ih =>
    intro r
    rw [List.foldl_cons]
    by_cases hx : x ∈ ex
    · rw [if_pos hx]; have := ih r; simp only [List.length_cons]; omega
    · rw [if_neg hx]; have := ih (addL r x); have := len_addL_le r x; simp only [List.length_cons]; omega
theorem passL_nil (r xs : List Int) : passL [] r xs = addsL r xs := by simp [passL, addsL]

def row (ls : Graph) (i : Nat) : List Int := ls.getD i []
theorem row_out {ls : Graph} {i : Nat} (h : ls.length ≤ i) : row ls i = [] := by simp [row, List.getD, List.getElem?_eq_none h]
theorem row_set {ls : Graph} {i j : Nat} {r : List Int} (h : i < ls.length) : row (ls.set i r) j = if j = i then r else row ls j := by
  unfold row List.getD
  rw [List.getElem?_set]
  by_cases e : i = j
  · subst e; simp [h]
  · rw [if_neg e, if_neg (fun x => e x.symm)]
theorem row_ext {a b : Graph} (hl : a.length = b.length) (h : ∀ i, i < a.length → row a i = row b i) : a = b := by
  refine List.ext_getElem hl fun i h1 h2 => ?_
  have := h i h1
  simp only [row, List.getD, List.getElem?_eq_getElem h1, List.getElem?_eq_getElem h2, Option.getD_some] at this
  exact this
def tot (ls : Graph) : Nat := (ls.map List.length).sum
theorem sum_le : ∀ {a b : List Nat}, a.length = b.length → (∀ i, i < a.length → a.getD i 0 ≤ b.getD i 0) → a.sum ≤ b.sum
  | [], [], _, _ => Nat.le_refl _
  | x :: a, y :: b, hl, h => by
    have h0 := h 0 (by simp)
    have := sum_le (a := a) (b := b) (by simpa using hl) fun i hi => by have := h (i + 1) (by simpa using hi); simpa using this
    simp only [List.sum_cons]
    simp at h0
    omega
theorem sum_eq : ∀ {a b : List Nat}, a.length = b.length → (∀ i, i < a.length → a.getD i 0 ≤ b.getD i 0) → b.sum ≤ a.sum → ∀ i, i < a.length → b.getD i 0 = a.getD i 0
  | [], [], _, _, _ => fun i hi => by simp at hi
  | x :: a, y :: b, hl, h, hs => by
    have h0 := h 0 (by simp)
    have hr : ∀ i, i < a.length → a.getD i 0 ≤ b.getD i 0 := fun i hi => by have := h (i + 1) (by simpa using hi); simpa using this
    have h1 := sum_le (a := a) (b := b) (by simpa using hl) hr
    simp only [List.sum_cons] at hs
    simp at h0
    intro i hi
    cases i with
    | zero => simp; omega
    | succ i => have := sum_eq (a := a) (b := b) (by simpa using hl) hr (by omega) i (by simpa using hi); simpa using this
theorem lens_at (ls : Graph) (i : Nat) : (ls.map List.length).getD i 0 = (row ls i).length := by
  unfold row List.getD
  rw [List.getElem?_map]
  cases ls[i]? <;> simp
/-- Rows that have grown. -/
structure Grows (a b : Graph) : Prop where
  len : b.length = a.length
  sub : ∀ i x, x ∈ row a i → x ∈ row b i
theorem Grows.refl (a : Graph) : Grows a a := ⟨rfl, fun _ _ h => h⟩
theorem Grows.trans {a b c : Graph} (h : Grows a b) (k : Grows b c) : Grows a c := ⟨k.len.trans h.len, fun i x hx => k.sub i x (h.sub i x hx)⟩
def Rising (a : Graph) : Prop := ∀ i, Inc (row a i)
theorem Grows.le {a b : Graph} (h : Grows a b) (ha : Rising a) (i : Nat) : (row a i).length ≤ (row b i).length := len_sub (ha i).nodup (h.sub i)
theorem Grows.tot {a b : Graph} (h : Grows a b) (ha : Rising a) : tot a ≤ tot b := by
  refine sum_le (by simp [h.len]) fun i _ => ?_
  rw [lens_at, lens_at]; exact h.le ha i
theorem Grows.eq {a b : Graph} (h : Grows a b) (ha : Rising a) (hb : Rising b) (ht : Solve.tot b ≤ Solve.tot a) : b = a := by
  refine row_ext h.len fun i hi => ?_
  have := sum_eq (a := a.map List.length) (b := b.map List.length) (by simp [h.len]) (fun i _ => by rw [lens_at, lens_at]; exact h.le ha i) ht i (by simpa [h.len] using hi)
  rw [lens_at, lens_at] at this
  exact (inc_same (ha i) (hb i) (h.sub i) (by omega)).symm
/-- Numbers put into one of the rows. -/
def put (ls : Graph) (k : Nat) (xs ex : List Int) : Graph := ls.set k (passL ex (row ls k) xs)
theorem put_len (ls : Graph) (k : Nat) (xs ex : List Int) : (put ls k xs ex).length = ls.length := by simp [put]
theorem row_put {ls : Graph} {k j : Nat} {xs ex : List Int} (h : k < ls.length) : row (put ls k xs ex) j = if j = k then passL ex (row ls k) xs else row ls j := row_set h
theorem put_grows {ls : Graph} {k : Nat} (xs ex : List Int) (h : k < ls.length) : Grows ls (put ls k xs ex) := by
  refine ⟨put_len _ _ _ _, fun i x hx => ?_⟩
  rw [row_put h]
  by_cases e : i = k
  · subst e; rw [if_pos rfl, mem_passL]; exact Or.inl hx
  · rw [if_neg e]; exact hx
theorem put_has {ls : Graph} {k : Nat} {xs ex : List Int} (h : k < ls.length) {x : Int} (hx : x ∈ xs) (he : x ∉ ex) : x ∈ row (put ls k xs ex) k := by
  rw [row_put h, if_pos rfl, mem_passL]; exact Or.inr ⟨hx, he⟩
/-- Rising rows of what is to be in them. -/
structure Sound (n : Nat) (P : Nat → Int → Prop) (ls : Graph) : Prop where
  len : ls.length = n
  inc : Rising ls
  ok : ∀ i x, x ∈ row ls i → P i x
theorem Sound.put {n : Nat} {P : Nat → Int → Prop} {ls : Graph} (h : Sound n P ls) {k : Nat} (hk : k < n) {xs ex : List Int} (hp : ∀ x, x ∈ xs → x ∉ ex → P k x) : Sound n P (put ls k xs ex) := by
  have hl : k < ls.length := by rw [h.len]; exact hk
  refine ⟨(put_len _ _ _ _).trans h.len, fun i => ?_, fun i x hx => ?_⟩
  · rw [row_put hl]
    by_cases e : i = k
    · rw [if_pos e]; exact inc_passL _ _ (h.inc k)
    · rw [if_neg e]; exact h.inc i
  · rw [row_put hl] at hx
    by_cases e : i = k
    · subst e
      rw [if_pos rfl, mem_passL] at hx
      rcases hx with h1 | ⟨h1, h2⟩
      · exact h.ok _ _ h1
      · exact hp x h1 h2
    · rw [if_neg e] at hx; exact h.ok i x hx
theorem row_rep (n i : Nat) : row (List.replicate n []) i = [] := by
  by_cases h : i < n
  · simp [row, List.getD, h]
  · exact row_out (by simp; omega)
theorem Sound.start (n : Nat) (P : Nat → Int → Prop) : Sound n P (List.replicate n []) :=
  ⟨by simp, fun i => by rw [row_rep]; exact inc_nil, fun i x hx => by rw [row_rep] at hx; simp at hx⟩
/-- No more can be in the rows than there is. -/
theorem Sound.tot_le {n : Nat} {P : Nat → Int → Prop} {ls : Graph} (h : Sound n P ls) (U : List Int) (hU : ∀ i x, P i x → x ∈ U) : tot ls ≤ n * U.length := by
  have : (ls.map List.length).sum ≤ (List.replicate n U.length).sum := sum_le (by simp [h.len]) fun i hi => by
    rw [lens_at]
    have : (List.replicate n U.length).getD i 0 = U.length := by
      have hi' : i < n := by simpa [h.len] using hi
      simp [List.getD, hi']
    rw [this]
    exact len_sub (h.inc i).nodup fun x hx => hU i x (h.ok i x hx)
  simpa [tot] using this
theorem Sound.row_le {n : Nat} {P : Nat → Int → Prop} {ls : Graph} (h : Sound n P ls) (U : List Int) (hU : ∀ i x, P i x → x ∈ U) (i : Nat) : (row ls i).length ≤ U.length :=
  len_sub (h.inc i).nodup fun x hx => hU i x (h.ok i x hx)

/-- A node's round against the arrows. -/
def nodeB (g u s : Graph) (ls : Graph) (i : Nat) : Graph := (fol g i).foldl (fun ls k => put ls i (row ls k) (row s i)) (put ls i (row u i) [])
section
variable {g u s : Graph}
theorem foldB {i : Nat} (ks : List Nat) (hks : ∀ k ∈ ks, k ∈ fol g i) (hi : i < g.length) : ∀ {ls : Graph}, Sound g.length (BackP g u s) ls →
    Sound g.length (BackP g u s) (ks.foldl (fun ls k => put ls i (row ls k) (row s i)) ls) ∧ Grows ls (ks.foldl (fun ls k => put ls i (row ls k) (row s i)) ls) ∧
    (∀ j, j ≠ i → row (ks.foldl (fun ls k => put ls i (row ls k) (row s i)) ls) j = row ls j) ∧
    ∀ k ∈ ks, ∀ x ∈ row ls k, x ∉ row s i → x ∈ row (ks.foldl (fun ls k => put ls i (row ls k) (row s i)) ls) i := by
  induction ks with
  | nil => intro ls h; exact ⟨h, Grows.refl _, fun _ _ => rfl, fun k hk => by simp at hk⟩
  | cons k ks ih =>
    intro ls h
    have hl : i < ls.length := by rw [h.len]; exact hi
    have h1 : Sound g.length (BackP g u s) (put ls i (row ls k) (row s i)) := h.put hi fun x hx he => .pass (hks k (by simp)) (h.ok k x hx) he
    obtain ⟨a, b, c, d⟩ := ih (fun k hk => hks k (by simp [hk])) h1
    have gr := put_grows (row ls k) (row s i) hl
    refine ⟨a, gr.trans b, fun j hj => ?_, fun k' hk' x hx he => ?_⟩
    · rw [List.foldl_cons, c j hj, row_put hl, if_neg hj]
    · rcases List.mem_cons.1 hk' with e | e
      · subst e; exact b.sub i x (put_has hl hx he)
      · exact d k' e x (gr.sub k' x hx) he
theorem nodeB_good {i : Nat} (hi : i < g.length) {ls : Graph} (h : Sound g.length (BackP g u s) ls) :
    Sound g.length (BackP g u s) (nodeB g u s ls i) ∧ Grows ls (nodeB g u s ls i) ∧ (∀ j, j ≠ i → row (nodeB g u s ls i) j = row ls j) ∧
    (∀ x ∈ row u i, x ∈ row (nodeB g u s ls i) i) ∧ ∀ k ∈ fol g i, ∀ x ∈ row ls k, x ∉ row s i → x ∈ row (nodeB g u s ls i) i := by
  have hl : i < ls.length := by rw [h.len]; exact hi
  have h1 : Sound g.length (BackP g u s) (put ls i (row u i) []) := h.put hi fun x hx _ => .use hi hx
  have gr := put_grows (row u i) [] hl
  obtain ⟨a, b, c, d⟩ := foldB (g := g) (u := u) (s := s) (fol g i) (fun k hk => hk) hi h1
  refine ⟨a, gr.trans b, fun j hj => ?_, fun x hx => ?_, fun k hk x hx he => ?_⟩
  · unfold nodeB; rw [c j hj, row_put hl, if_neg hj]
  · exact b.sub i x (put_has hl hx (by simp))
  · exact d k hk x (gr.sub k x hx) he
/-- What is closed is whole. -/
def ClosedAt (g u s ls : Graph) (i : Nat) : Prop := (∀ x ∈ row u i, x ∈ row ls i) ∧ ∀ k ∈ fol g i, ∀ x ∈ row ls k, x ∉ row s i → x ∈ row ls i
theorem nodeB_same {i : Nat} (hi : i < g.length) {ls : Graph} (h : Sound g.length (BackP g u s) ls) (he : ¬ (row ls i).length < (row (nodeB g u s ls i) i).length) :
    nodeB g u s ls i = ls ∧ ClosedAt g u s ls i := by
  obtain ⟨a, b, c, d, e⟩ := nodeB_good hi h
  have : nodeB g u s ls i = ls := by
    refine row_ext b.len fun j _ => ?_
    by_cases hj : j = i
    · subst hj; exact (inc_same (h.inc j) (a.inc j) (b.sub j) (by omega)).symm
    · exact c j hj
  rw [this] at d e
  exact ⟨this, d, e⟩
theorem back_whole {ls : Graph} (h : Sound g.length (BackP g u s) ls) (hc : ∀ i, i < g.length → ClosedAt g u s ls i) (i : Nat) (x : Int) : x ∈ row ls i ↔ BackP g u s i x := by
  refine ⟨h.ok i x, fun hx => ?_⟩
  induction hx with
  | use hi hx => exact (hc _ hi).1 _ hx
  | pass hk _ he ih => exact (hc _ (fol_from hk)).2 _ hk _ ih he
theorem nodeB_tot {i : Nat} (hi : i < g.length) {ls : Graph} (h : Sound g.length (BackP g u s) ls) (he : (row ls i).length < (row (nodeB g u s ls i) i).length) : tot ls < tot (nodeB g u s ls i) := by
  obtain ⟨a, b, c, d, e⟩ := nodeB_good hi h
  have h1 := b.tot h.inc
  by_cases h2 : tot (nodeB g u s ls i) ≤ tot ls
  · rw [b.eq h.inc a.inc h2] at he; omega
  · omega
end
/-- A step along an arrow. -/
def edgeF (m e : Graph) (i : Nat) (ls : Graph) (k : Nat) : Graph := put (put ls k (row m i) []) k (row (put ls k (row m i) []) i) (row e i)
section
variable {g : Graph} {entry : Nat} {start : List Int} {m e : Graph}
theorem edgeF_good {i k : Nat} (hp : Path g entry i) (hk : k ∈ fol g i) {ls : Graph} (h : Sound g.length (FwdP g entry start m e) ls) :
    Sound g.length (FwdP g entry start m e) (edgeF m e i ls k) ∧ Grows ls (edgeF m e i ls k) ∧ (∀ j, j ≠ k → row (edgeF m e i ls k) j = row ls j) ∧
    (∀ x ∈ row m i, x ∈ row (edgeF m e i ls k) k) ∧ ∀ x ∈ row ls i, x ∉ row e i → x ∈ row (edgeF m e i ls k) k := by
  have hk' := fol_lt hk
  have hl : k < ls.length := by rw [h.len]; exact hk'
  have h1 : Sound g.length (FwdP g entry start m e) (put ls k (row m i) []) := h.put hk' fun x hx _ => .make hp hk hx
  have hl1 : k < (put ls k (row m i) []).length := by rw [put_len]; exact hl
  have h2 : Sound g.length (FwdP g entry start m e) (edgeF m e i ls k) := h1.put hk' fun x hx he => .pass hp hk (h1.ok i x hx) he
  have g1 := put_grows (row m i) [] hl
  have g2 := put_grows (row (put ls k (row m i) []) i) (row e i) hl1
  refine ⟨h2, g1.trans g2, fun j hj => ?_, fun x hx => ?_, fun x hx he => ?_⟩
  · unfold edgeF; rw [row_put hl1, if_neg hj, row_put hl, if_neg hj]
  · exact g2.sub k x (put_has hl hx (by simp))
  · exact put_has hl1 (g1.sub i x hx) he
def ClosedF (m e ls : Graph) (i k : Nat) : Prop := (∀ x ∈ row m i, x ∈ row ls k) ∧ ∀ x ∈ row ls i, x ∉ row e i → x ∈ row ls k
theorem edgeF_same {i k : Nat} (hp : Path g entry i) (hk : k ∈ fol g i) {ls : Graph} (h : Sound g.length (FwdP g entry start m e) ls) (he : ¬ (row ls k).length < (row (edgeF m e i ls k) k).length) :
    edgeF m e i ls k = ls ∧ ClosedF m e ls i k := by
  obtain ⟨a, b, c, d, f⟩ := edgeF_good (start := start) hp hk h
  have : edgeF m e i ls k = ls := by
    refine row_ext b.len fun j _ => ?_
    by_cases hj : j = k
    · subst hj; exact (inc_same (h.inc j) (a.inc j) (b.sub j) (by omega)).symm
    · exact c j hj
  rw [this] at d f
  exact ⟨this, d, f⟩
theorem edgeF_tot {i k : Nat} (hp : Path g entry i) (hk : k ∈ fol g i) {ls : Graph} (h : Sound g.length (FwdP g entry start m e) ls) (he : (row ls k).length < (row (edgeF m e i ls k) k).length) : tot ls < tot (edgeF m e i ls k) := by
  obtain ⟨a, b, c, d, f⟩ := edgeF_good (start := start) hp hk h
  have h1 := b.tot h.inc
  by_cases h2 : tot (edgeF m e i ls k) ≤ tot ls
  · rw [b.eq h.inc a.inc h2] at he; omega
  · omega
theorem fwd_whole {ls : Graph} (h : Sound g.length (FwdP g entry start m e) ls) (hs : ∀ x ∈ start, x ∈ row ls entry) (hc : ∀ i, Path g entry i → ∀ k ∈ fol g i, ClosedF m e ls i k) (i : Nat) (x : Int) : x ∈ row ls i ↔ FwdP g entry start m e i x := by
  refine ⟨h.ok i x, fun hx => ?_⟩
  induction hx with
  | start hx => exact hs _ hx
  | make hp hk hx => exact (hc _ hp _ hk).1 _ hx
  | pass hp hk _ he ih => exact (hc _ hp _ hk).2 _ ih he
end
theorem mem_flat {u : Graph} {i : Nat} {x : Int} (h : x ∈ row u i) : x ∈ u.flatten := by
  by_cases hi : i < u.length
  · simp only [row, List.getD, List.getElem?_eq_getElem hi, Option.getD_some] at h
    exact List.mem_flatten.2 ⟨u[i], List.getElem_mem hi, h⟩
  · rw [row_out (by omega)] at h; simp at h
theorem back_univ {g u s : Graph} (i : Nat) (x : Int) (h : BackP g u s i x) : x ∈ u.flatten := by
  induction h with
  | use _ hx => exact mem_flat hx
  | pass _ _ _ ih => exact ih
theorem fwd_univ {g : Graph} {entry : Nat} {start : List Int} {m e : Graph} (i : Nat) (x : Int) (h : FwdP g entry start m e i x) : x ∈ start ++ m.flatten := by
  induction h with
  | start hx => exact List.mem_append_left _ hx
  | make _ _ hx => exact List.mem_append_right _ (mem_flat hx)
  | pass _ _ _ _ ih => exact ih
end Solve


set_option linter.unusedSimpArgs false
set_option linter.unusedVariables false
namespace Solve
/-- Going depth-first: what is seen, what is left. -/
inductive Visits (g : Graph) : List Nat → List Nat → List Nat → List Nat → List Nat → Prop
  | nil {s l} : Visits g [] s l s l
  | skip {k ks s l s' l'} : k ∈ s → Visits g ks s l s' l' → Visits g (k :: ks) s l s' l'
  | go {k ks s l s1 l1 s' l'} : k ∉ s → Visits g (fol g k) (s ++ [k]) l s1 l1 → Visits g ks s1 (l1 ++ [k]) s' l' → Visits g (k :: ks) s l s' l'
theorem Visits.unique {g : Graph} {ks s l s1 l1 s2 l2 : List Nat} (a : Visits g ks s l s1 l1) (b : Visits g ks s l s2 l2) : s1 = s2 ∧ l1 = l2 := by
  induction a generalizing s2 l2 with
  | nil => cases b; exact ⟨rfl, rfl⟩
  | skip h _ ih =>
    cases b with
    | skip _ b => exact ih b
    | go h' _ _ => exact absurd h h'
  | go h _ _ ih1 ih2 =>
    cases b with
    | skip h' _ => exact absurd h' h
    | go _ b1 b2 =>
      obtain ⟨rfl, rfl⟩ := ih1 b1
      exact ih2 b2
theorem Visits.snoc {g : Graph} {ks s l s' l' : List Nat} (a : Visits g ks s l s' l') {k : Nat} (h : k ∈ s') : Visits g (ks ++ [k]) s l s' l' := by
  induction a with
  | nil => exact .skip h .nil
  | skip h' _ ih => exact .skip h' (ih h)
  | go h' a _ _ ih => exact .go h' a (ih h)
theorem Visits.snoc_go {g : Graph} {ks s l s1 l1 s2 l2 : List Nat} (a : Visits g ks s l s1 l1) {k : Nat} (h : k ∉ s1) (b : Visits g (fol g k) (s1 ++ [k]) l1 s2 l2) : Visits g (ks ++ [k]) s l s2 (l2 ++ [k]) := by
  induction a with
  | nil => exact .go h b .nil
  | skip h' _ ih => exact .skip h' (ih h b)
  | go h' a _ _ ih => exact .go h' a (ih h b)
/-- What a visit leaves behind. -/
structure Vis (g : Graph) (ks s l s' l' : List Nat) : Prop where
  seen : ∃ S, s' = s ++ S
  left : ∃ L, l' = l ++ L
  new : ∀ x, x ∈ s' ↔ x ∈ s ∨ (x ∈ l' ∧ x ∉ l)
  fresh : ∀ x, x ∈ l' → x ∉ l → x ∉ s
  nodup : l'.Nodup
  all : ∀ k ∈ ks, k ∈ s'
theorem visits_vis {g : Graph} {ks s l s' l' : List Nat} (a : Visits g ks s l s' l') (hl : ∀ x ∈ l, x ∈ s) (hn : l.Nodup) :
    Vis g ks s l s' l' := by
  induction a with
  | nil => exact ⟨⟨[], by simp⟩, ⟨[], by simp⟩, fun x => by simp, fun x h h' => absurd h h', hn, fun k hk => by simp at hk⟩
  | skip h _ ih =>
    have v := ih hl hn
    exact ⟨v.seen, v.left, v.new, v.fresh, v.nodup, fun k hk => by
      rcases List.mem_cons.1 hk with e | e
      · exact (v.new k).2 (Or.inl (e ▸ h))
      · exact v.all k e⟩
  | @go k ks s l s1 l1 s' l' h _ _ ih1 ih2 =>
    have v1 := ih1 (fun x hx => by simp [hl x hx]) hn
    have hkl : k ∉ l := fun hk => h (hl k hk)
    have hk1 : k ∉ l1 := fun hk => v1.fresh k hk hkl (by simp)
    have hs1 : ∀ x, x ∈ l1 ++ [k] → x ∈ s1 := fun x hx => by
      rcases List.mem_append.1 hx with e | e
      · by_cases hxl : x ∈ l
        · exact (v1.new x).2 (Or.inl (by simp [hl x hxl]))
        · exact (v1.new x).2 (Or.inr ⟨e, hxl⟩)
      · have : x = k := by simpa using e
        exact (v1.new x).2 (Or.inl (by simp [this]))
    have v2 := ih2 hs1 (List.nodup_append.2 ⟨v1.nodup, by simp, fun x hx y hy => by
      have : y = k := by simpa using hy
      exact fun e => hk1 (this ▸ e ▸ hx)⟩)
    obtain ⟨S1, e1⟩ := v1.seen
    obtain ⟨S2, e2⟩ := v2.seen
    obtain ⟨L1, f1⟩ := v1.left
    obtain ⟨L2, f2⟩ := v2.left
    have hll : ∀ x, x ∈ l → x ∈ l1 := fun x hx => by rw [f1]; simp [hx]
    have hl1' : ∀ x, x ∈ l1 ++ [k] → x ∈ l' := fun x hx => by rw [f2]; exact List.mem_append_left _ hx
    refine ⟨⟨k :: S1 ++ S2, by rw [e2, e1]; simp⟩, ⟨L1 ++ k :: L2, by rw [f2, f1]; simp⟩, fun x => ?_, fun x hx hxl => ?_, v2.nodup, fun j hj => ?_⟩
    · rw [v2.new x, v1.new x]
      constructor
      · rintro ((h1 | h1) | h1)
        · rcases List.mem_append.1 h1 with e | e
          · exact Or.inl e
          · have : x = k := by simpa using e
            exact Or.inr ⟨hl1' x (by simp [this]), this ▸ hkl⟩
        · exact Or.inr ⟨hl1' x (by simp [h1.1]), h1.2⟩
        · exact Or.inr ⟨h1.1, fun e => h1.2 (by simp [hll x e])⟩
      · rintro (h1 | ⟨h1, h2⟩)
        · exact Or.inl (Or.inl (by simp [h1]))
        · by_cases hx1 : x ∈ l1 ++ [k]
          · rcases List.mem_append.1 hx1 with e | e
            · exact Or.inl (Or.inr ⟨e, h2⟩)
            · exact Or.inl (Or.inl (List.mem_append_right _ e))
          · exact Or.inr ⟨h1, hx1⟩
    · by_cases hx1 : x ∈ l1 ++ [k]
      · rcases List.mem_append.1 hx1 with e | e
        · have := v1.fresh x e hxl
          exact fun hs => this (by simp [hs])
        · have : x = k := by simpa using e
          exact this ▸ h
      · have := v2.fresh x hx hx1
        exact fun hs => this ((v1.new x).2 (Or.inl (by simp [hs])))
    · rcases List.mem_cons.1 hj with e | e
      · exact (v2.new j).2 (Or.inl (hs1 j (by simp [e])))
      · exact v2.all j e
/-- Where a node stands in a row: what is ahead of it. -/
def Back (g : Graph) (l0 l : List Nat) : Prop := ∀ A i B, l = A ++ i :: B → i ∉ l0 → ∀ k ∈ fol g i, k ∈ A ∨ Path g k i
theorem split_at {a b : List Nat} {A : List Nat} {i : Nat} {B : List Nat} (h : a ++ b = A ++ i :: B) : (∃ C, a = A ++ i :: C ∧ B = C ++ b) ∨ ∃ C, A = a ++ C ∧ b = C ++ i :: B := by
  rcases List.append_eq_append_iff.1 h with ⟨C, h1, h2⟩ | ⟨C, h1, h2⟩
  · exact Or.inr ⟨C, h1, h2⟩
  · cases C with
    | nil => exact Or.inr ⟨[], by simpa using h1.symm, by simpa using h2.symm⟩
    | cons c C =>
      simp only [List.cons_append, List.cons.injEq] at h2
      exact Or.inl ⟨C, by rw [h1, h2.1], h2.2⟩
theorem visits_order {g : Graph} {ks s l s' l' : List Nat} (a : Visits g ks s l s' l') (hl : ∀ x ∈ l, x ∈ s) (hn : l.Nodup)
    (hg : ∀ x ∈ s, x ∉ l → ∀ k ∈ ks, Path g x k) :
    Back g l l' ∧ ∀ x ∈ l', x ∉ l → ∃ k ∈ ks, Path g k x := by
  induction a with
  | @nil s l => exact ⟨fun A i B e hi => absurd (by rw [e]; simp : i ∈ l) hi, fun x h h' => absurd h h'⟩
  | skip h _ ih =>
    obtain ⟨p, q⟩ := ih hl hn fun x hx hxl k hk => hg x hx hxl k (by simp [hk])
    exact ⟨p, fun x hx hxl => by obtain ⟨k, hk, hp⟩ := q x hx hxl; exact ⟨k, by simp [hk], hp⟩⟩
  | @go k ks s l s1 l1 s' l' h a1 a2 ih1 ih2 =>
    have hls : ∀ x ∈ l, x ∈ s ++ [k] := fun x hx => by simp [hl x hx]
    have v1 := visits_vis a1 hls hn
    have hkl : k ∉ l := fun hk => h (hl k hk)
    have hk1 : k ∉ l1 := fun hk => v1.fresh k hk hkl (by simp)
    have hs1 : ∀ x, x ∈ l1 ++ [k] → x ∈ s1 := fun x hx => by
      rcases List.mem_append.1 hx with e | e
      · by_cases hxl : x ∈ l
        · exact (v1.new x).2 (Or.inl (by simp [hl x hxl]))
        · exact (v1.new x).2 (Or.inr ⟨e, hxl⟩)
      · have : x = k := by simpa using e
        exact (v1.new x).2 (Or.inl (by simp [this]))
    have hn1 : (l1 ++ [k]).Nodup := List.nodup_append.2 ⟨v1.nodup, by simp, fun x hx y hy => by
      have : y = k := by simpa using hy
      exact fun e => hk1 (this ▸ e ▸ hx)⟩
    obtain ⟨p1, q1⟩ := ih1 hls hn fun x hx hxl j hj => by
      rcases List.mem_append.1 hx with e | e
      · exact (hg x e hxl k (by simp)).step hj
      · have : x = k := by simpa using e
        exact this ▸ (Path.refl k).step hj
    have gray : ∀ x ∈ s1, x ∉ l1 ++ [k] → x ∈ s ∧ x ∉ l := fun x hx hx1 => by
      rcases (v1.new x).1 hx with e | e
      · rcases List.mem_append.1 e with f | f
        · refine ⟨f, fun hxl => hx1 ?_⟩
          obtain ⟨L1, f1⟩ := v1.left
          rw [f1]; simp [hxl]
        · exact absurd (by simp; exact Or.inr (by simpa using f)) hx1
      · exact absurd (by simp [e.1]) hx1
    obtain ⟨p2, q2⟩ := ih2 hs1 hn1 fun x hx hx1 j hj => (fun ⟨a, b⟩ => hg x a b j (by simp [hj])) (gray x hx hx1)
    have hreach : ∀ x ∈ l1, x ∉ l → Path g k x := fun x hx hxl => by
      obtain ⟨j, hj, hp⟩ := q1 x hx hxl
      exact Path.head hj hp
    refine ⟨fun A i B e hi j hj => ?_, fun x hx hxl => ?_⟩
    · by_cases hi1 : i ∈ l1 ++ [k]
      · -- i was left inside
        have v2 := visits_vis a2 hs1 hn1
        obtain ⟨L2, f2⟩ := v2.left
        rw [f2] at e
        rcases split_at e with ⟨C, e1, _⟩ | ⟨C, e1, e2⟩
        · -- i stands in l1 ++ [k]
          rcases split_at e1 with ⟨D, e3, _⟩ | ⟨D, e3, e4⟩
          · exact p1 A i D e3 hi j hj
          · -- i = k, A = l1
            have : D = [] ∧ i = k := by
              cases D with
              | nil => simp at e4; exact ⟨rfl, e4.1.symm⟩
              | cons d D => simp at e4
            obtain ⟨rfl, rfl⟩ := this
            simp only [List.append_nil] at e3
            subst e3
            -- j follows i: seen behind the inner visit
            have hj1 : j ∈ s1 := v1.all j hj
            rcases (v1.new j).1 hj1 with f | f
            · rcases List.mem_append.1 f with f | f
              · by_cases hjl : j ∈ l
                · obtain ⟨L1, f1⟩ := v1.left
                  exact Or.inl (by rw [f1]; simp [hjl])
                · exact Or.inr (hg j f hjl i (by simp))
              · have : j = i := by simpa using f
                exact Or.inr (by rw [this]; exact Path.refl _)
            · exact Or.inl f.1
        · -- i stands behind, but it also stands in l1 ++ [k]: not twice
          have hnd := v2.nodup
          rw [f2] at hnd
          exact absurd rfl ((List.nodup_append.1 hnd).2.2 i hi1 i (by rw [e2]; simp))
      · exact p2 A i B e hi1 j hj
    · by_cases hx1 : x ∈ l1 ++ [k]
      · rcases List.mem_append.1 hx1 with e | e
        · exact ⟨k, by simp, hreach x e hxl⟩
        · have : x = k := by simpa using e
          exact ⟨k, by simp, by rw [this]; exact Path.refl _⟩
      · obtain ⟨j, hj, hp⟩ := q2 x hx hx1
        exact ⟨j, by simp [hj], hp⟩
theorem visits_mono {g : Graph} {ks s l s' l' : List Nat} (a : Visits g ks s l s' l') : ∀ x ∈ s, x ∈ s' := by
  induction a with
  | nil => exact fun x h => h
  | skip _ _ ih => exact ih
  | go _ _ _ i1 i2 => exact fun x h => i2 x (i1 x (by simp [h]))
theorem visits_all {g : Graph} {ks s l s' l' : List Nat} (a : Visits g ks s l s' l') : ∀ k ∈ ks, k ∈ s' := by
  induction a with
  | nil => exact fun x h => by simp at h
  | skip h a ih =>
    intro k hk
    rcases List.mem_cons.1 hk with e | e
    · exact visits_mono a k (e ▸ h)
    · exact ih k e
  | go h a1 a2 i1 i2 =>
    intro k hk
    rcases List.mem_cons.1 hk with e | e
    · exact visits_mono a2 k (visits_mono a1 k (by simp [e]))
    · exact i2 k e
/-- From one node. -/
theorem visit_one {g : Graph} {i : Nat} {s l : List Nat} (a : Visits g [i] [] [] s l) :
    (∃ A, l = A ++ [i]) ∧ l.Nodup ∧ (∀ x, x ∈ l ↔ Path g i x) ∧ ∀ A j B, l = A ++ j :: B → ∀ k ∈ fol g j, k ∈ A ∨ Path g k j := by
  have v := visits_vis a (fun x hx => by simp at hx) (by simp)
  obtain ⟨p, q⟩ := visits_order a (fun x hx => by simp at hx) (by simp) fun x hx => by simp at hx
  have hsl : ∀ x, x ∈ s ↔ x ∈ l := fun x => by rw [v.new x]; simp
  have hA : ∃ A, l = A ++ [i] := by
    cases a with
    | skip h _ => simp at h
    | go _ a1 a2 => cases a2; exact ⟨_, rfl⟩
  have hc : ∀ A j B, l = A ++ j :: B → ∀ k ∈ fol g j, k ∈ l := by
    -- every follower of one that was left has been seen
    have : ∀ {ks s l s' l' : List Nat}, Visits g ks s l s' l' → ∀ x ∈ l', x ∉ l → ∀ k ∈ fol g x, k ∈ s' := by
      intro ks s l s' l' a
      induction a with
      | nil => exact fun x h h' => absurd h h'
      | skip _ _ ih => exact ih
      | @go k ks s l s1 l1 s' l' h a1 a2 ih1 ih2 =>
        intro x hx hxl j hj
        by_cases hx1 : x ∈ l1 ++ [k]
        · rcases List.mem_append.1 hx1 with e | e
          · exact visits_mono a2 j (ih1 x e hxl j hj)
          · have : x = k := by simpa using e
            exact visits_mono a2 j (visits_all a1 j (this ▸ hj))
        · exact ih2 x hx hx1 j hj
    intro A j B e k hk
    exact (hsl k).1 (this a j (by rw [e]; simp) (by simp) k hk)
  refine ⟨hA, v.nodup, fun x => ⟨fun hx => ?_, fun hx => ?_⟩, fun A j B e => p A j B e (by simp)⟩
  · obtain ⟨k, hk, hp⟩ := q x hx (by simp)
    have : k = i := by simpa using hk
    exact this ▸ hp
  · refine hx.closed (P := fun x => x ∈ l) ((hsl i).1 (v.all i (by simp))) fun j k hj hk => ?_
    obtain ⟨A, B, e⟩ := List.append_of_mem hj
    exact hc A j B e k hk
end Solve


set_option linter.unusedSimpArgs false
set_option linter.unusedVariables false
namespace Solve
/-- Does a row of nodes have its mark? -/
def flag (b : List Bool) (i : Nat) : Bool := b.getD i false
theorem flag_set {b : List Bool} {i j : Nat} (h : i < b.length) : flag (b.set i true) j = (decide (j = i) || flag b j) := by
  unfold flag List.getD
  rw [List.getElem?_set]
  by_cases e : i = j
  · subst e; simp [h]
  · rw [if_neg e]
    have : decide (j = i) = false := by simpa using fun x => e x.symm
    rw [this]; simp
theorem flag_rep (n j : Nat) : flag (List.replicate n false) j = false := by
  unfold flag List.getD
  by_cases h : j < n <;> simp [h]
theorem flag_lt {b : List Bool} {i : Nat} (h : flag b i = true) : i < b.length := by
  by_cases hi : i < b.length
  · exact hi
  · simp [flag, List.getD, List.getElem?_eq_none (Nat.le_of_not_lt hi)] at h
def unseen (b : List Bool) : Nat := (b.filter (! ·)).length
theorem unseen_set : ∀ {b : List Bool} {i : Nat}, i < b.length → flag b i = false → unseen (b.set i true) + 1 = unseen b
  | [], i, h, _ => by simp at h
  | x :: b, 0, _, h => by
    have : x = false := by simpa [flag] using h
    subst this; simp [unseen]
  | x :: b, i + 1, h, hf => by
    have := unseen_set (b := b) (i := i) (by simpa using h) (by simpa [flag] using hf)
    cases x <;> simp [unseen] at this ⊢ <;> omega
theorem unseen_le (b : List Bool) : unseen b ≤ b.length := List.length_filter_le _ _
/-- Is a number needed, looked for node by node: those seen, those still to come. -/
structure Seek (g u s : Graph) (x : Int) (b : List Bool) (q : List Nat) : Prop where
  len : b.length = g.length
  lt : ∀ i ∈ q, i < g.length ∧ flag b i = true
  done : ∀ i, flag b i = true → i ∉ q → x ∉ row u i ∧ (x ∈ row s i ∨ ∀ k ∈ fol g i, flag b k = true)
theorem way_end {g u s : Graph} {x : Int} {b : List Bool} (h : Seek g u s x b []) (i : Nat) (hb : flag b i = true) : ¬ BackP g u s i x := by
  intro hx
  induction hx with
  | use _ hx => exact (h.done _ hb (by simp)).1 hx
  | pass hk _ he ih =>
    rcases (h.done _ hb (by simp)).2 with h1 | h1
    · exact he h1
    · exact ih h (h1 _ hk)
theorem way_start {g u s : Graph} {x : Int} {i : Nat} (hi : i < g.length) : Seek g u s x ((List.replicate g.length false).set i true) [i] := by
  refine ⟨by simp, fun j hj => ?_, fun j hb hj => ?_⟩
  · have : j = i := by simpa using hj
    rw [this]; exact ⟨hi, by rw [flag_set (by simpa using hi)]; simp⟩
  · rw [flag_set (by simpa using hi), flag_rep] at hb
    have : j = i := by simpa using hb
    exact absurd (by simp [this]) hj
/-- One node gone through: the followers not seen yet are put behind. -/
def pushW (bq : List Bool × List Nat) (k : Nat) : List Bool × List Nat := if flag bq.1 k then bq else (bq.1.set k true, bq.2 ++ [k])
structure Push (g : Graph) (b : List Bool) (q : List Nat) (ks : List Nat) (r : List Bool × List Nat) : Prop where
  len : r.1.length = b.length
  mono : ∀ i, flag b i = true → flag r.1 i = true
  all : ∀ k ∈ ks, flag r.1 k = true
  keeps : ∀ i ∈ q, i ∈ r.2
  new : ∀ i, flag r.1 i = true → flag b i = true ∨ i ∈ r.2
  lt : ∀ i ∈ r.2, i ∈ q ∨ (i < b.length ∧ flag r.1 i = true)
  size : 2 * unseen r.1 + r.2.length ≤ 2 * unseen b + q.length
theorem push_nil (g : Graph) (b : List Bool) (q : List Nat) : Push g b q [] (b, q) :=
  ⟨rfl, fun _ h => h, fun k hk => by simp at hk, fun _ h => h, fun _ h => Or.inl h, fun _ h => Or.inl h, Nat.le_refl _⟩
theorem Push.snoc {g : Graph} {b : List Bool} {q ks : List Nat} {r : List Bool × List Nat} (h : Push g b q ks r) {k : Nat} (hk : k < b.length) : Push g b q (ks ++ [k]) (pushW r k) := by
  unfold pushW
  cases hf : flag r.1 k with
  | true =>
    simp only [if_true]
    exact ⟨h.len, h.mono, fun j hj => by
      rcases List.mem_append.1 hj with e | e
      · exact h.all j e
      · have : j = k := by simpa using e
        rw [this]; exact hf, h.keeps, h.new, h.lt, h.size⟩
  | false =>
    simp only [Bool.false_eq_true, if_false]
    have hk' : k < r.1.length := by rw [h.len]; exact hk
    have hs := unseen_set hk' hf
    have hz := h.size
    refine ⟨by simp [h.len], fun i hi => ?_, fun j hj => ?_, fun i hi => ?_, fun i hi => ?_, fun i hi => ?_, ?_⟩
    · rw [flag_set hk', h.mono i hi]; simp
    · rw [flag_set hk']
      rcases List.mem_append.1 hj with e | e
      · rw [h.all j e]; simp
      · have : j = k := by simpa using e
        simp [this]
    · simp [h.keeps i hi]
    · simp only at hi
      rw [flag_set hk'] at hi
      by_cases e : i = k
      · exact Or.inr (by simp [e])
      · rcases h.new i (by simpa [e] using hi) with h1 | h1
        · exact Or.inl h1
        · exact Or.inr (by simp [h1])
    · rcases List.mem_append.1 hi with e | e
      · rcases h.lt i e with h1 | h1
        · exact Or.inl h1
        · exact Or.inr ⟨h1.1, by simp only; rw [flag_set hk', h1.2]; simp⟩
      · have : i = k := by simpa using e
        exact Or.inr ⟨this ▸ hk, by simp only; rw [flag_set hk', this]; simp⟩
    · simp only [List.length_append, List.length_singleton]; omega
theorem way_skip {g u s : Graph} {x : Int} {b : List Bool} {i : Nat} {q : List Nat} (h : Seek g u s x b (i :: q)) (hu : x ∉ row u i) (hs : x ∈ row s i) : Seek g u s x b q := by
  refine ⟨h.len, fun j hj => h.lt j (by simp [hj]), fun j hb hj => ?_⟩
  by_cases e : j = i
  · subst e; exact ⟨hu, Or.inl hs⟩
  · exact h.done j hb (by simp [e, hj])
theorem way_push {g u s : Graph} {x : Int} {b : List Bool} {i : Nat} {q : List Nat} (h : Seek g u s x b (i :: q)) (hu : x ∉ row u i) {r : List Bool × List Nat} (hp : Push g b q (fol g i) r) : Seek g u s x r.1 r.2 := by
  refine ⟨hp.len.trans h.len, fun j hj => ?_, fun j hb hj => ?_⟩
  · rcases hp.lt j hj with e | e
    · exact ⟨(h.lt j (by simp [e])).1, hp.mono j (h.lt j (by simp [e])).2⟩
    · exact ⟨h.len ▸ e.1, e.2⟩
  · rcases hp.new j hb with e | e
    · by_cases ei : j = i
      · subst ei; exact ⟨hu, Or.inr hp.all⟩
      · have := h.done j e (by
          have : j ∉ q := fun hq => hj (hp.keeps j hq)
          simp [ei, this])
        exact ⟨this.1, this.2.imp id fun f k hk => hp.mono k (f k hk)⟩
    · exact absurd e hj
/-- The same, against the arrows: where does a number come from? -/
structure Trail (g : Graph) (entry : Nat) (start : List Int) (m e : Graph) (x : Int) (b : List Bool) (q : List Nat) : Prop where
  len : b.length = g.length
  lt : ∀ i ∈ q, i < g.length ∧ flag b i = true
  done : ∀ i, flag b i = true → i ∉ q → ¬ (i = entry ∧ x ∈ start) ∧ ∀ k, Path g entry k → i ∈ fol g k → x ∉ row m k ∧ (x ∈ row e k ∨ flag b k = true)
theorem come_end {g : Graph} {entry : Nat} {start : List Int} {m e : Graph} {x : Int} {b : List Bool} (h : Trail g entry start m e x b []) (i : Nat) (hb : flag b i = true) : ¬ FwdP g entry start m e i x := by
  intro hx
  induction hx with
  | start hx => exact (h.done _ hb (by simp)).1 ⟨rfl, hx⟩
  | make hp hk hx => exact ((h.done _ hb (by simp)).2 _ hp hk).1 hx
  | pass hp hk _ he ih =>
    rcases ((h.done _ hb (by simp)).2 _ hp hk).2 with h1 | h1
    · exact he h1
    · exact ih h h1
theorem come_start {g : Graph} {entry : Nat} {start : List Int} {m e : Graph} {x : Int} {i : Nat} (hi : i < g.length) : Trail g entry start m e x ((List.replicate g.length false).set i true) [i] := by
  refine ⟨by simp, fun j hj => ?_, fun j hb hj => ?_⟩
  · have : j = i := by simpa using hj
    rw [this]; exact ⟨hi, by rw [flag_set (by simpa using hi)]; simp⟩
  · rw [flag_set (by simpa using hi), flag_rep] at hb
    have : j = i := by simpa using hb
    exact absurd (by simp [this]) hj
theorem come_push {g : Graph} {entry : Nat} {start : List Int} {m e : Graph} {x : Int} {b : List Bool} {i : Nat} {q : List Nat} (h : Trail g entry start m e x b (i :: q)) (h1 : ¬ (i = entry ∧ x ∈ start)) (h2 : ∀ k, Path g entry k → i ∈ fol g k → x ∉ row m k)
    {ks : List Nat} (hks : ∀ k, Path g entry k → i ∈ fol g k → x ∉ row e k → k ∈ ks) {r : List Bool × List Nat} (hp : Push g b q ks r) : Trail g entry start m e x r.1 r.2 := by
  refine ⟨hp.len.trans h.len, fun j hj => ?_, fun j hb hj => ?_⟩
  · rcases hp.lt j hj with e | e
    · exact ⟨(h.lt j (by simp [e])).1, hp.mono j (h.lt j (by simp [e])).2⟩
    · exact ⟨h.len ▸ e.1, e.2⟩
  · rcases hp.new j hb with f | f
    · by_cases ei : j = i
      · subst ei
        refine ⟨h1, fun k hk hj => ⟨h2 k hk hj, ?_⟩⟩
        by_cases hx : x ∈ row e k
        · exact Or.inl hx
        · exact Or.inr (hp.all k (hks k hk hj hx))
      · have := h.done j f (by
          have : j ∉ q := fun hq => hj (hp.keeps j hq)
          simp [ei, this])
        exact ⟨this.1, fun k hk hj => ⟨(this.2 k hk hj).1, (this.2 k hk hj).2.imp id fun f => hp.mono k f⟩⟩
    · exact absurd f hj
/-- What is reached, told by a row of marks. -/
structure Reached (g : Graph) (entry : Nat) (b : List Bool) : Prop where
  len : b.length = g.length
  ok : ∀ i, flag b i = true → Path g entry i
  at' : flag b entry = true
theorem met_start {g : Graph} {entry : Nat} (h : entry < g.length) : Reached g entry ((List.replicate g.length false).set entry true) :=
  ⟨by simp, fun i hb => by
    rw [flag_set (by simpa using h), flag_rep] at hb
    have : i = entry := by simpa using hb
    rw [this]; exact Path.refl _, by rw [flag_set (by simpa using h)]; simp⟩
theorem Reached.set {g : Graph} {entry : Nat} {b : List Bool} (h : Reached g entry b) {i k : Nat} (hi : flag b i = true) (hk : k ∈ fol g i) : Reached g entry (b.set k true) := by
  have hk' : k < b.length := by rw [h.len]; exact fol_lt hk
  refine ⟨by simp [h.len], fun j hj => ?_, ?_⟩
  · rw [flag_set hk'] at hj
    by_cases e : j = k
    · rw [e]; exact (h.ok i hi).step hk
    · exact h.ok j (by simpa [e] using hj)
  · rw [flag_set hk', h.at']; simp
theorem met_whole {g : Graph} {entry : Nat} {b : List Bool} (h : Reached g entry b) (hc : ∀ i, flag b i = true → ∀ k ∈ fol g i, flag b k = true) (i : Nat) : flag b i = true ↔ Path g entry i :=
  ⟨h.ok i, fun hp => hp.closed (P := fun i => flag b i = true) h.at' fun i k hi hk => hc i hi k hk⟩
theorem flags_eq {a b : List Bool} (hl : a.length = b.length) (h : ∀ i, flag a i = true ↔ flag b i = true) : a = b := by
  refine List.ext_getElem hl fun i h1 h2 => ?_
  have := h i
  simp only [flag, List.getD, List.getElem?_eq_getElem h1, List.getElem?_eq_getElem h2, Option.getD_some] at this
  exact Bool.eq_iff_iff.2 this
end Solve


