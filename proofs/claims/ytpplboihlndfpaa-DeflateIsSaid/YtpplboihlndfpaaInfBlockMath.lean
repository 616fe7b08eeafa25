/-
  Blocks, one behind another, and what stands around them, as functions on bytes.
-/
import Derived.Test.YtpplboihlndfpaaInfMath
import Derived.Test.YtpplboihlndfpaaInfSumsMath
import Derived.Test.YtpplboihlndfpaaInfOwnMath
namespace Go.Proofs.Ytpplboihlndfpaa.Ix
set_option linter.unusedSimpArgs false
set_option linter.unusedVariables false

/-- What stands behind a block's own trees. -/
def ownBlkV (B : List UInt8) (out : List UInt8) : Except Int (List Nat × List Nat × Nat) → Except Int (List UInt8 × Nat)
  | .error e => .error e
  | .ok (S, D, t1) => pressGo S D B (8 * B.length + 1) t1 out
/-- What stands in a block of such a kind. -/
def kindV (k : Nat) (B : List UInt8) (t : Nat) (out : List UInt8) : Except Int (List UInt8 × Nat) :=
  if k = 0 then storedV B t out else if k = 1 then pressGo fixS fixD B (8 * B.length + 1) t out else if k = 2 then ownBlkV B out (ownV B t) else .error 3
def lastV (last : Bool) : Except Int (List UInt8 × Nat) → Except Int (Bool × List UInt8 × Nat)
  | .error e => .error e
  | .ok (o, t') => .ok (last, o, t')
def blockV (B : List UInt8) (t : Nat) (out : List UInt8) : Except Int (Bool × List UInt8 × Nat) :=
  if t + 3 ≤ 8 * B.length then lastV (bitAt B t == 1) (kindV (numAt B 2 (t + 1)) B (t + 3) out) else .error 4
def rawGo (B : List UInt8) : Nat → Nat → List UInt8 → Except Int (List UInt8 × Nat)
  | 0, _, _ => .error 0
  | f + 1, t, out => match blockV B t out with
    | .error e => .error e
    | .ok (last, o, t') => if last then .ok (o, (t' + 7) / 8) else rawGo B f t' o
def rawV (B : List UInt8) : Except Int (List UInt8 × Nat) := rawGo B (8 * B.length + 1) 0 []
def headV (x y : UInt8) : Bool := x.toNat % 16 == 8 && (decide (x.toNat / 16 ≤ 7) && ((x.toNat * 256 + y.toNat) % 31 == 0 && y.toNat / 32 % 2 == 0))
def sumV (l : List UInt8) : Nat := (l.take 4).foldl (fun n v => n * 256 + v.toNat) 0
/-- What stands behind the blocks. -/
def tailV (B : List UInt8) : Except Int (List UInt8 × Nat) → Except Int (List UInt8 × Nat)
  | .error e => .error e
  | .ok (o, n) => if B.length - 2 - n < 4 then .error 4
    else if sumV ((B.drop 2).drop n) = adler o then .ok (o, n + 6) else .error 3
def zlibV (B : List UInt8) : Except Int (List UInt8 × Nat) :=
  if B.length < 2 then .error 4
  else if headV (B.getD 0 0) (B.getD 1 0) = false then .error 3
  else tailV B (rawV (B.drop 2))

theorem rawGo_succ (B : List UInt8) (f t : Nat) (out : List UInt8) : rawGo B (f + 1) t out = match blockV B t out with
    | .error e => .error e
    | .ok (last, o, t') => if last then .ok (o, (t' + 7) / 8) else rawGo B f t' o := rfl
theorem raw_no {B : List UInt8} {f t : Nat} {out : List UInt8} {k : Int} (h : blockV B t out = .error k) : rawGo B (f + 1) t out = .error k := by
  rw [rawGo_succ, h]
theorem raw_last {B : List UInt8} {f t t' : Nat} {out o : List UInt8} (h : blockV B t out = .ok (true, o, t')) : rawGo B (f + 1) t out = .ok (o, (t' + 7) / 8) := by
  rw [rawGo_succ, h]; rfl
theorem raw_more {B : List UInt8} {f t t' : Nat} {out o : List UInt8} (h : blockV B t out = .ok (false, o, t')) : rawGo B (f + 1) t out = rawGo B f t' o := by
  rw [rawGo_succ, h]; rfl

theorem putV'_len {out o : List UInt8} {v : UInt8} (h : putV' out v = .ok o) : o.length = out.length + 1 := by
  unfold putV' at h
  split at h
  · cases h
  · injection h with h; subst h; simp
theorem storedGo_ge (B : List UInt8) : ∀ n t out o t', storedGo B n t out = .ok (o, t') → t ≤ t'
  | 0, t, out, o, t', h => by injection h with h; injection h with h1 h2; omega
  | n + 1, t, out, o, t', h => by
    rw [storedGo] at h
    split at h
    · cases h
    · split at h
      · cases h
      · have := storedGo_ge B n _ _ _ _ h; omega

/-- The document's example. -/
theorem zlib_example : zlibV [120, 156, 75, 4, 0, 0, 98, 0, 98] = .ok ([97], 9) := by kernel_rfl
theorem adler_example : adler [97] = 6422626 := by kernel_rfl

end Go.Proofs.Ytpplboihlndfpaa.Ix
