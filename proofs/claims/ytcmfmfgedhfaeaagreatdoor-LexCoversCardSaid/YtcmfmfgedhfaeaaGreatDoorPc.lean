/- The token at the beginning of a row of bytes, plainly. -/
import Derived.Test.YtcmfmfgedhfaeaaGreatDoorPb
import Derived.Lib.ParseIntB
import Derived.Lib.SlTrimSet
import Derived.Lib.Case
import Derived.Lib.AtoiAllMem
import Derived.Lib.TrimUEq
import Derived.Lib.CutLaws
namespace Go.Proofs.YtcmfmfgedhfaeaaGreatDoor
set_option linter.unusedSimpArgs false
set_option linter.unusedVariables false

/-- A digit's value; 255: no digit. -/
def digV (c : Nat) : Nat := if 48 ≤ c ∧ c ≤ 57 then c - 48 else if 97 ≤ c ||| 32 ∧ c ||| 32 ≤ 122 then (c ||| 32) - 87 else 255
/-- strconv.ParseUint behind its test for the empty text: M: the greatest number; cut: the least that overflows. -/
def puB (base cut M acc : Nat) : List UInt8 → Lib.NumEnd Nat
  | [] => .ok acc
  | c :: r => if base ≤ digV c.toNat then Lib.NumEnd.syntax else if cut ≤ acc then .range else if M < acc * base + digV c.toNat then .range else puB base cut M (acc * base + digV c.toNat) r
/-- .. of any text. -/
def puL (base cut M : Nat) (l : List UInt8) : Lib.NumEnd Nat := if l = [] then Lib.NumEnd.syntax else puB base cut M 0 l
def okOf : Lib.NumEnd Nat → Option Nat
  | .ok n => some n
  | _ => none
def M64 : Nat := 18446744073709551615
def p16 (l : List UInt8) : Option Nat := okOf (puL 16 1152921504606846976 M64 l)
def p8 (l : List UInt8) : Option Nat := okOf (puL 8 2305843009213693952 M64 l)
def p10 (l : List UInt8) : Option Nat := okOf (if l = [] then Lib.NumEnd.syntax else Lib.parseUint10 0 l)
def ulC : List UInt8 := [117, 85, 108, 76]
def sufOk (l : List UInt8) : Bool := decide (l.map Lib.lowerB ∈ ([[], [117], [108], [117, 108], [108, 117]] : List (List UInt8)))
/-- The value of a TokInt. -/
def wholeL (l : List UInt8) : Option Nat :=
  if sufOk (l.drop (Lib.trimRightS l ulC).length) = false then none
  else if Lib.hasPrefix (Lib.trimRightS l ulC) [48, 120] = true then p16 ((Lib.trimRightS l ulC).drop 2)
  else if Lib.hasPrefix (Lib.trimRightS l ulC) [48, 88] = true then p16 ((Lib.trimRightS l ulC).drop 2)
  else if 1 < (Lib.trimRightS l ulC).length ∧ (Lib.trimRightS l ulC).getD 0 0 = 48 then p8 ((Lib.trimRightS l ulC).drop 1)
  else p10 (Lib.trimRightS l ulC)
inductive PR where
  | err (e : Nat)
  | tok (kind n bits : Nat) (data : List UInt8)
def p16b (l : List UInt8) : Option Nat := okOf (puL 16 1152921504606846976 255 l)
/-- The byte of two digits of sixteen behind an x. -/
def escO : Option Nat → Nat × Nat
  | some n => (n, 3)
  | none => (0, 0)
def escX (l : List UInt8) : Nat × Nat := if l.length < 2 then (0, 0) else escO (p16b (l.take 2))
def escL : List UInt8 → Nat × Nat
  | [] => (0, 0)
  | c :: r => if c.toNat = 110 then (10, 1) else if c.toNat = 116 then (9, 1) else if c.toNat = 114 then (13, 1) else if c.toNat = 48 then (0, 1)
    else if c.toNat = 92 then (c.toNat, 1) else if c.toNat = 39 then (c.toNat, 1) else if c.toNat = 34 then (c.toNat, 1)
    else if c.toNat = 120 then escX r else (0, 0)
theorem puB_le (base cut M : Nat) : ∀ (l : List UInt8) (acc n : Nat), acc ≤ M → puB base cut M acc l = .ok n → n ≤ M
  | [], acc, n, h, e => by simp only [puB, Lib.NumEnd.ok.injEq] at e; omega
  | c :: r, acc, n, h, e => by
    simp only [puB] at e
    split at e
    · cases e
    · split at e
      · cases e
      · split at e
        · cases e
        · exact puB_le base cut M r _ n (by omega) e
theorem p16b_le (l : List UInt8) (n : Nat) (h : p16b l = some n) : n ≤ 255 := by
  unfold p16b puL at h
  split at h
  · simp [okOf] at h
  · cases hp : puB 16 1152921504606846976 255 0 l with
    | ok m => rw [hp] at h; simp only [okOf, Option.some.injEq] at h; subst h; exact puB_le _ _ _ _ _ _ (by omega) hp
    | range => rw [hp] at h; simp [okOf] at h
    | _        => rw [hp] at h; simp [okOf] at h
/-- How many bytes up to the closing quote, with it. -/
def quotL (q : UInt8) (x : List UInt8) : Option Nat :=
  let e := 1 + quoL (q.toNat : Int) false (x.drop 1)
  if e = x.length ∨ x.getD e 0 ≠ q then none else some (e + 1)
def onlyL (l : List UInt8) : Option Nat :=
  if Lib.hasPrefix l [92] = true then (if 0 < (escL (Lib.trimPrefix l [92])).2 ∧ (escL (Lib.trimPrefix l [92])).2 = (Lib.trimPrefix l [92]).length then some (escL (Lib.trimPrefix l [92])).1 else none)
  else (if 0 < l.length ∧ (Lib.decodeL l).2 = l.length then some (Lib.decodeL l).1 else none)
def bytesL : Nat → List UInt8 → Option (List UInt8)
  | 0, _ => none
  | f + 1, l =>
    if (Lib.cut l [92]).2.2 = false then some (Lib.cut l [92]).1
    else if (escL (Lib.cut l [92]).2.1).2 = 0 then none
    else (bytesL f ((Lib.cut l [92]).2.1.drop (escL (Lib.cut l [92]).2.1).2)).map fun d => (Lib.cut l [92]).1 ++ UInt8.ofNat (escL (Lib.cut l [92]).2.1).1 :: d
end Go.Proofs.YtcmfmfgedhfaeaaGreatDoor
