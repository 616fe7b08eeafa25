/-
  A map from three bytes to places that a call has made: read as a function.
-/
import Derived.Test.YtpplboihlndfpaaDefLong
import Derived.Maps.OwnSet
import Derived.Maps.Own
import Derived.Maps.OwnOps
import Derived.WideKeyArr
namespace Go.Proofs.Ytpplboihlndfpaa
open Go.RowKit Go.Maps Dx
set_option linter.unusedSimpArgs false
set_option linter.unusedVariables false

theorem arr3 : Go.WideMaps.ArrKey Try.prog 75 5 3 := ⟨Try.underlying75, by kernel_rfl, by kernel_rfl, by kernel_rfl⟩
theorem k3 : Keyed Try.prog 75 := Keyed.of_law arr3.law
theorem zero_int3 (w : World) : (zeroValue 3).run Try.prog w = .ok (.int .i64 0) w := by kernel_rfl

/-- Three bytes as a value. -/
def v3 (x y z : UInt8) : Value := .agg #[.int .u8 (x.toNat : Int), .int .u8 (y.toNat : Int), .int .u8 (z.toNat : Int)]
theorem u8_key (x : UInt8) : Lit.keyBytes (.int .u8 (x.toNat : Int)) = [x] := by
  have h := x.toNat_lt
  show bytesBE 1 (((x.toNat : Int) % 256).toNat) = [x]
  have e : ((x.toNat : Int) % 256).toNat = x.toNat := by omega
  rw [e]
  show [UInt8.ofNat (x.toNat % 256)] = [x]
  rw [Nat.mod_eq_of_lt (by omega)]
  simp
theorem u8_wf (x : UInt8) : (Lit.int .u8 (x.toNat : Int)).wf = true := by
  have key : (List.range 256).all (fun n => (Lit.int .u8 (((UInt8.ofNat n).toNat : Nat) : Int)).wf) = true := by kernel_rfl
  have := List.all_eq_true.1 key x.toNat (List.mem_range.2 x.toNat_lt)
  simpa using this
theorem lits_one (D : Nat) (x : UInt8) : Try.prog.keyLits (D + 1) 5 [.int .u8 (x.toNat : Int)] = some [.int .u8 (x.toNat : Int)] := by
  unfold Program.keyLits
  simp [Try.underlying5, u8_wf]
set_option maxRecDepth 100000 in
theorem key3 (x y z : UInt8) : keyOf Try.prog 75 (v3 x y z) = some (.string [x, y, z]) := by
  have hkt : Try.prog.keyType 75 = true := by kernel_rfl
  have hc3 : Try.prog.cellsOf 75 = 3 := by kernel_rfl
  have hc1 : Try.prog.cellsOf 5 = 1 := by kernel_rfl
  obtain ⟨m, hm⟩ : ∃ m, Try.prog.types.size = m + 1 := ⟨Try.prog.types.size - 1, by kernel_rfl⟩
  unfold keyOf
  simp only [Try.underlying75]
  rw [if_pos (by simp [hkt, v3, Value.formed, Try.underlying75, hc3])]
  rw [hm]
  have hl : Try.prog.keyLits (m + 1 + 1) 75 (v3 x y z).cells.toList = some [.int .u8 (x.toNat : Int), .int .u8 (y.toNat : Int), .int .u8 (z.toNat : Int)] := by
    unfold Program.keyLits
    simp only [Try.underlying75, hc3, hc1, v3, Value.cells]
    rw [if_pos (by rfl)]
    rw [show List.range 3 = [0, 1, 2] from rfl]
    simp only [List.mapM_cons, List.mapM_nil, bind, Option.bind, pure]
    rw [show (List.take 1 (List.drop (0 * 1) (#[Value.int .u8 (x.toNat : Int), .int .u8 (y.toNat : Int), .int .u8 (z.toNat : Int)] : Array Value).toList)) = [.int .u8 (x.toNat : Int)] from rfl,
      show (List.take 1 (List.drop (1 * 1) (#[Value.int .u8 (x.toNat : Int), .int .u8 (y.toNat : Int), .int .u8 (z.toNat : Int)] : Array Value).toList)) = [.int .u8 (y.toNat : Int)] from rfl,
      show (List.take 1 (List.drop (2 * 1) (#[Value.int .u8 (x.toNat : Int), .int .u8 (y.toNat : Int), .int .u8 (z.toNat : Int)] : Array Value).toList)) = [.int .u8 (z.toNat : Int)] from rfl]
    rw [lits_one, lits_one, lits_one]
    rfl
  rw [hl]
  simp only [Option.map_some, keyBytes, List.flatMap_cons, List.flatMap_nil, u8_key]
  rfl

/-- Block b is a map of at most n entries; J tells what it holds. -/
def Idx3 (w : World) (b n : Nat) (J : List UInt8 → Option Nat) : Prop :=
  ∃ D : DataW Unit, w.ownsMap Try.prog 75 (plainElem Try.prog 3) b n D ∧
    ∀ key : List UInt8, (∀ i, J key = some i → Maps.has D (.string key) = true ∧ D.atKey (.string key) (.lit (.int .i64 0)) = .lit (.int .i64 (i : Int))) ∧ (J key = none → Maps.has D (.string key) = false)
theorem Idx3.made (w : World) : Idx3 (w.alloc (.map #[] 0)) w.heap.size 0 (fun _ => none) :=
  ⟨_, World.ownsMap_made w Try.prog 75 _, fun _ => ⟨fun _ h => (by simp at h), fun _ => rfl⟩⟩
theorem Idx3.kept {w w' : World} {b n : Nat} {J : List UInt8 → Option Nat} (h : Idx3 w b n J) {r : Option Nat} (g : w.grownBy w' r) (hne : some b ≠ r) : Idx3 w' b n J := by
  obtain ⟨D, ho, hJ⟩ := h
  exact ⟨D, ho.kept g hne, hJ⟩
theorem Idx3.keptK {w w' : World} {b n : Nat} {J : List UInt8 → Option Nat} (h : Idx3 w b n J) (k : Kept w w') : Idx3 w' b n J := h.kept (gbK k none) (by simp)
theorem Idx3.lt {w : World} {b n : Nat} {J : List UInt8 → Option Nat} (h : Idx3 w b n J) : b < w.heap.size := by
  obtain ⟨D, ho, _⟩ := h; exact ho.lt
theorem Idx3.mono {w : World} {b n n' : Nat} {J : List UInt8 → Option Nat} (h : Idx3 w b n J) (hn : n ≤ n') : Idx3 w b n' J := by
  obtain ⟨D, ho, hJ⟩ := h; exact ⟨D, ho.mono hn, hJ⟩

section
variable {ops : Array Oper} {rest : List Oper} {o : Oper} {a : Act} {Q : Exit → Act → World → Prop} {w : World} {b n : Nat} {J : List UInt8 → Option Nat}

set_option maxRecDepth 100000 in
theorem wpList_idx3_ok (hg : o.guard = none) (m x : Operand) (hop : o.op = Op.lookup 74 m x true) (hI : Idx3 w b n J) (hm : a.eval m = .map (some b)) (k1 k2 k3' : UInt8) (hx : a.eval x = v3 k1 k2 k3')
    (hK : wpList Try.prog ops Q rest (a.put o.dst (.tuple #[.int .i64 ((J [k1, k2, k3']).getD 0 : Nat), .bool (J [k1, k2, k3']).isSome])) w) :
    wpList Try.prog ops Q (o :: rest) a w := by
  obtain ⟨D, ho, hJ⟩ := hI
  refine wpList_lookup_own_ok_int w hg m x 74 hop 75 3 .i64 k3 Try.underlying74 Try.underlying3 (zero_int3 w) b n D hm ho (v3 k1 k2 k3') (.string [k1, k2, k3']) hx (key3 k1 k2 k3') ?_
  intro c hc _
  obtain ⟨h1, h2⟩ := hJ [k1, k2, k3']
  cases hj : J [k1, k2, k3'] with
  | none =>
    rw [hj] at hK
    have hh := h2 hj
    rw [atKey_of_not_has hh] at hc
    obtain rfl : c = 0 := by injection hc with e; injection e with _ e; exact e.symm
    rw [hh]; exact hK
  | some i =>
    rw [hj] at hK
    obtain ⟨hh, hv⟩ := h1 i hj
    rw [hv] at hc
    obtain rfl : c = (i : Int) := by injection hc with e; injection e with _ e; exact e.symm
    rw [hh]; exact hK

theorem lit3_ne {a b : List UInt8} (h : a ≠ b) : (Lit.string a) ≠ .string b := fun e => h (by injection e)
set_option maxRecDepth 100000 in
theorem wpList_idx3_put (hg : o.guard = none) (m x v : Operand) (hop : o.op = Op.mapUpdate 74 m x v) (hI : Idx3 w b n J) (hn : n < maxLen) (hm : a.eval m = .map (some b)) (k1 k2 k3' : UInt8) (hx : a.eval x = v3 k1 k2 k3') (i : Nat) (hv : a.eval v = .int .i64 (i : Int)) (hi : i ≤ 1099511627776)
    (hK : ∀ w', Idx3 w' b (n + 1) (fun k => if k = [k1, k2, k3'] then some i else J k) → w.grownBy w' (some b) → wpList Try.prog ops Q rest (a.put o.dst undef) w') :
    wpList Try.prog ops Q (o :: rest) a w := by
  obtain ⟨D, ho, hJ⟩ := hI
  refine wpList_mapUpdate_own w hg m x v 74 hop 75 3 k3 Try.underlying74 _ b n D hm ho hn (v3 k1 k2 k3') (.int .i64 (i : Int)) (.string [k1, k2, k3']) hx hv (key3 k1 k2 k3') _ [] (plainElem_int Try.underlying3 (WalkArith.wf_i64 (by omega))) ?_
  intro w' ho' hg'
  refine hK w' ⟨_, ho', fun k' => ⟨fun j hj => ?_, fun hj => ?_⟩⟩ hg'
  · by_cases e : k' = [k1, k2, k3']
    · subst e
      simp only [if_true, Option.some.injEq] at hj
      subst hj
      exact ⟨has_put_same (ho.tidy k3).isMap (by trivial) _, atKey_put_same (ho.tidy k3).isMap (by trivial) _ _⟩
    · simp only [if_neg e] at hj
      obtain ⟨h1, h2⟩ := (hJ k').1 j hj
      exact ⟨by rw [has_put_other (lit3_ne e)]; exact h1, by rw [atKey_put_other (lit3_ne e)]; exact h2⟩
  · by_cases e : k' = [k1, k2, k3']
    · subst e; simp at hj
    · simp only [if_neg e] at hj
      rw [has_put_other (lit3_ne e)]; exact (hJ k').2 hj
end

/-- The nearest place ahead of the k-th where such three bytes stand. -/
def lastK (b : List UInt8) (key : List UInt8) : Nat → Option Nat
  | 0 => none
  | k + 1 => if key = [at' b k, at' b (k + 1), at' b (k + 2)] then some k else lastK b key k
theorem lastK_near (b : List UInt8) (i : Nat) : ∀ k, lastK b [at' b i, at' b (i + 1), at' b (i + 2)] k = near b i k
  | 0 => rfl
  | k + 1 => by
    rw [lastK, near, lastK_near b i k]
    by_cases c : at' b k = at' b i ∧ at' b (k + 1) = at' b (i + 1) ∧ at' b (k + 2) = at' b (i + 2)
    · rw [if_pos c, if_pos (by rw [c.1, c.2.1, c.2.2])]
    · rw [if_neg c, if_neg (fun e => c ?_)]
      injection e with e1 e2
      injection e2 with e2 e3
      injection e3 with e3 _
      exact ⟨e1.symm, e2.symm, e3.symm⟩

end Go.Proofs.Ytpplboihlndfpaa
