/-
  Bytes and numbers among a law's arguments.
-/
import Derived.Test.YtpplboihlndfpaaInfPut
import Derived.Test.YtpplboihlndfpaaInfCodes
import Derived.Test.YtpplboihlndfpaaPost
import Derived.Deep.AppendLies
import Derived.Laws.AppendOwnNone
import Derived.Laws.OwnMore
namespace Go.Proofs.Ytpplboihlndfpaa
open Go.ChangeShapes Go.WideShapes Go.ChangeAt Go.RowKit Ix
set_option linter.unusedSimpArgs false
set_option linter.unusedVariables false

/-- Bytes that came in. -/
def ByArg (w : World) (v : Value) (l : List UInt8) : Prop := ∃ p c, v = .slice p l.length c ∧ ByR w w.heap.size p l ∧ l.length ≤ c ∧ l.length ≤ maxLen ∧ (p = none → c = 0)
/-- Numbers that came in. -/
def IntArg (w : World) (v : Value) (X : List Int) : Prop := ∃ p c, v = .slice p X.length c ∧ IntsR w p X ∧ X.length ≤ c ∧ X.length ≤ maxLen
theorem cells_u8 : Try.prog.cellsOf 5 = 1 := by kernel_rfl
theorem cells_i64 : Try.prog.cellsOf 3 = 1 := by kernel_rfl

section
variable {H : Type} {enc : TypeId × Value → H}
set_option maxRecDepth 100000 in
theorem open_bytes {W : World} {base : Nat} {v : Value} {d : DataW H} {p : List MemPlace} (hval : Value.okWide Try.prog W .any base 22 v) (h1 : DataW.Trod enc Try.prog W 0 (fun _ => true) true 22 v d p) :
    ∃ l, ByArg W v l := by
  obtain ⟨a1, len, cap, rfl⟩ := okWide_slice Try.underlying22 hval
  obtain ⟨fuel, hf⟩ := h1
  rcases open_ints Try.underlying22 Try.underlying5 cells_u8 hf with ⟨hcs, _⟩ | ⟨a, len', cap', zs, hcs, _, hl, hm, hz, _, hcell, hwz⟩
  · simp [Value.cells] at hcs
    obtain ⟨rfl, rfl, rfl⟩ := hcs
    exact ⟨[], none, 0, rfl, fun i hi => (by cases hi), Nat.zero_le _, Nat.zero_le _, fun _ => rfl⟩
  · simp [Value.cells] at hcs
    obtain ⟨rfl, rfl, rfl⟩ := hcs
    simp only [if_true] at hz
    have hlen : ((zs.take len).map fun n => UInt8.ofNat n.toNat).length = len := by simp; omega
    refine ⟨(zs.take len).map fun n => UInt8.ofNat n.toNat, _, cap, by rw [hlen], ?_, by rw [hlen]; exact hl, by rw [hlen]; omega, fun e => by cases e⟩
    intro j hj
    rw [hlen] at hj
    obtain ⟨ab, ao, spot⟩ := a
    have hspot : spot = none := by simpa [Addr.add] using World.cell?_spot (hcell 0 (by omega))
    subst hspot
    have hcj := hcell j (by omega)
    rw [Addr.add_lit] at hcj
    refine ⟨ab, ao, rfl, World.block_lt_of_cell? W _ hcj, ?_⟩
    rw [hcj]
    have hb := range_u8 hwz j
    simp only [List.getElem_map, List.getElem_take]
    have e : zs.getD j 0 = zs[j]'(by omega) := by simp [List.getD, List.getElem?_eq_getElem (show j < zs.length by omega)]
    rw [List.getD_eq_getElem?_getD] at e
    rw [e] at hb
    rw [List.getD_eq_getElem?_getD, e]
    congr 2
    simp only [UInt8.toNat_ofNat']
    omega
set_option maxRecDepth 100000 in
theorem open_i64s {W : World} {base : Nat} {v : Value} {d : DataW H} {p : List MemPlace} (hval : Value.okWide Try.prog W .any base 55 v) (h1 : DataW.Trod enc Try.prog W 0 (fun _ => true) true 55 v d p) :
    ∃ X, IntArg W v X := by
  obtain ⟨a1, len, cap, rfl⟩ := okWide_slice Try.underlying55 hval
  obtain ⟨fuel, hf⟩ := h1
  rcases open_ints Try.underlying55 Try.underlying3 cells_i64 hf with ⟨hcs, _⟩ | ⟨a, len', cap', zs, hcs, _, hl, hm, hz, _, hcell, hwz⟩
  · simp [Value.cells] at hcs
    obtain ⟨rfl, rfl, rfl⟩ := hcs
    exact ⟨[], _, _, rfl, fun i hi => (by cases hi), Nat.zero_le _, Nat.zero_le _⟩
  · simp [Value.cells] at hcs
    obtain ⟨rfl, rfl, rfl⟩ := hcs
    simp only [if_true] at hz
    have hlen : (zs.take len).length = len := by simp; omega
    refine ⟨zs.take len, _, cap, by rw [hlen], ?_, by rw [hlen]; exact hl, by rw [hlen]; omega⟩
    intro i hi
    rw [hlen] at hi
    obtain ⟨ab, ao, spot⟩ := a
    have hspot : spot = none := by simpa [Addr.add] using World.cell?_spot (hcell 0 (by omega))
    subst hspot
    have hci := hcell i (by omega)
    rw [Addr.add_lit] at hci
    refine ⟨ab, ao, rfl, World.block_lt_of_cell? W _ hci, ?_⟩
    rw [hci]
    have e : zs.getD i 0 = zs[i]'(by omega) := by simp [List.getD, List.getElem?_eq_getElem (show i < zs.length by omega)]
    rw [List.getD_eq_getElem?_getD] at e
    simp [List.getElem_take, List.getElem?_eq_getElem (show i < zs.length by omega)]
end

theorem nat_and_low (x : Nat) : x &&& 65535 = x % 65536 := Nat.and_two_pow_sub_one_eq_mod x 16
theorem ofInt64 (z : Int) : (BitVec.ofInt 64 z).toNat = (z % 18446744073709551616).toNat := BitVec.toNat_ofInt z
theorem and_low (z : Int) : bits BinOp.and IntKind.i64 z 65535 = z % 65536 := by
  have e2 : (BitVec.ofInt 64 (65535 : Int)).toNat = 65535 := by decide
  have h1 : (BitVec.ofInt 64 z &&& BitVec.ofInt 64 (65535 : Int)).toNat = (z % 18446744073709551616).toNat % 65536 := by
    rw [BitVec.toNat_and, e2, ofInt64]
    generalize (z % 18446744073709551616).toNat = x
    exact nat_and_low x
  have h : (((z % 18446744073709551616).toNat % 65536 : Nat) : Int) = z % 65536 := by omega
  show IntKind.i64.wrap ((BitVec.ofInt 64 z &&& BitVec.ofInt 64 (65535 : Int)).toNat : Int) = _
  rw [h1, h]
  exact IntWalk.i64_in _ (by omega)

/-- Bytes that lie somewhere are appended to bytes of one's own. -/
theorem wpList_app_in {ops : Array Oper} {rest : List Oper} {o : Oper} {a : Act} {Q : Exit → Act → World → Prop} (hgd : o.guard = none) (s x : Operand)
    (ho : o.op = .call { callee := .builtin .append, args := #[s, x], argTypes := #[22, 22] })
    {W : World} {B0 : Nat} {v : Value} {l : List UInt8} (hown : Out W B0 v l) (hs : a.eval s = v) (p : Option Addr) (n c : Nat) (news : List UInt8) (hn : n = news.length) (hx : a.eval x = .slice p n c) (hb : ByR W W.heap.size p news) (h0 : 0 < n) (hB : B0 ≤ W.heap.size) (hlen : l.length + n ≤ 1099511627776)
    (h : ∀ g cap w', Out w' B0 (.slice (some ⟨g, 0, none⟩) (l.length + n) cap) (l ++ news) → W.grownBy w' v.ownBlock → (v.ownBlock = some g ∨ g = W.heap.size) → g < w'.heap.size →
      wpList Try.prog ops Q rest (a.put o.dst (.slice (some ⟨g, 0, none⟩) (l.length + n) cap)) w') :
    wpList Try.prog ops Q (o :: rest) a W := by
  obtain ⟨i0, hi, hz0, hz1, hz2⟩ := info_parts info_byte
  subst hn
  obtain ⟨k, ofs, hp, hk, -⟩ := hb 0 h0
  subst hp
  refine wpList_append_lies _ hgd s x 22 ho B0 5 i0 (.int .u8 0) 1 1 Try.underlying22 hi hz0 hz1 hz2 rfl (by decide) v l.length (bytsV l) hs hown ⟨k, ofs, none⟩ news.length c (bytsV news) hx (by simp [bytsV]) ?_ ?_ h0 (by unfold maxLen; omega) (by omega) hB _ rfl ?_
  · intro j u hj
    rw [Addr.add_lit]
    have hjl : j < news.length := by have := (List.getElem?_eq_some_iff.1 hj).1; simpa [bytsV] using this
    obtain ⟨k', o', hp', -, hc⟩ := hb j hjl
    have e1 : k' = k ∧ o' = ofs := by
      have e := Option.some.inj hp'
      exact ⟨(congrArg Addr.block e).symm, (congrArg Addr.off e).symm⟩
    rw [← e1.1, ← e1.2, hc, ← hj]
    simp [bytsV, hjl]
  · intro u hu
    simp only [bytsV, List.mem_map] at hu
    obtain ⟨c, -, rfl⟩ := hu
    rfl
  · intro g cap w' h1 h2 h3 h4
    refine h g cap w' ?_ h2 h3 h4
    unfold Out
    rw [List.length_append, show bytsV (l ++ news) = bytsV l ++ bytsV news by simp [bytsV]]
    exact h1
theorem wpList_app_any {ops : Array Oper} {rest : List Oper} {o : Oper} {a : Act} {Q : Exit → Act → World → Prop} (hgd : o.guard = none) (s x : Operand)
    (ho : o.op = .call { callee := .builtin .append, args := #[s, x], argTypes := #[22, 22] })
    {W : World} {B0 : Nat} {v : Value} {l : List UInt8} (hown : Out W B0 v l) (hs : a.eval s = v) (p : Option Addr) (n c : Nat) (news : List UInt8) (hn : n = news.length) (hx : a.eval x = .slice p n c) (hb : ByR W W.heap.size p news) (hp : p = none → n = 0 ∧ c = 0) (hB : B0 ≤ W.heap.size) (hlen : l.length + n ≤ 1099511627776)
    (h : ∀ v' w', Out w' B0 v' (l ++ news) → W.grownBy w' v.ownBlock → wpList Try.prog ops Q rest (a.put o.dst v') w') :
    wpList Try.prog ops Q (o :: rest) a W := by
  obtain ⟨i0, hi, hz0, hz1, hz2⟩ := info_parts info_byte
  subst hn
  cases p with
  | none =>
    obtain ⟨h1, rfl⟩ := hp rfl
    obtain rfl : news = [] := List.length_eq_zero_iff.1 h1
    refine wpList_append_own_none hgd s x 22 ho B0 5 i0 1 Try.underlying22 hi v l.length (bytsV l) hs hown hx ?_
    exact h v W (by rw [List.append_nil]; exact hown) ⟨rfl, rfl, rfl, Nat.le_refl _, fun _ _ _ => rfl⟩
  | some ad =>
    refine wpList_append_own _ hgd s x 22 ho B0 5 i0 (.int .u8 0) 1 1 Try.underlying22 hi hz0 hz1 hz2 rfl (by decide) v l.length (bytsV l) hs hown ad news.length c (bytsV news) hx (by simp [bytsV]) ?_ ?_ (by unfold maxLen; omega) (by omega) hB ?_
    · intro j u hj
      have hjl : j < news.length := by have := (List.getElem?_eq_some_iff.1 hj).1; simpa [bytsV] using this
      obtain ⟨k', o', hp', -, hc⟩ := hb j hjl
      have e := Option.some.inj hp'
      subst e
      rw [Addr.add_lit, hc, ← hj]
      simp [bytsV, hjl]
    · intro u hu
      simp only [bytsV, List.mem_map] at hu
      obtain ⟨c, -, rfl⟩ := hu
      rfl
    · intro v' w' h1 h2 _
      refine h v' w' ?_ h2
      unfold Out
      rw [List.length_append, show bytsV (l ++ news) = bytsV l ++ bytsV news by simp [bytsV]]
      exact h1
theorem Out.shape {w : World} {B : Nat} {v : Value} {l : List UInt8} (h : Out w B v l) (h0 : 0 < l.length) : ∃ g cap, v = .slice (some ⟨g, 0, none⟩) l.length cap ∧ l.length ≤ cap := by
  rcases h.2 with ⟨-, h1⟩ | ⟨g, cap, cur, rfl, -, -, hle, -⟩
  · omega
  · exact ⟨g, cap, rfl, hle⟩
theorem Out.lit (W : World) {B0 : Nat} (hB : B0 ≤ W.heap.size) (l : List UInt8) (h : l.length ≤ 1000) : Out (W.alloc (.cells (bytsV l).toArray 5)) B0 (.slice (some ⟨W.heap.size, 0, none⟩) l.length l.length) l := by
  have z := World.ownsRow_lit (base := B0) (e := 5) (size := 1) W (bytsV l).toArray l.length hB (by unfold maxLen; omega) (by simp [bytsV])
  unfold Out
  simpa using z
theorem Out.empty (W : World) {B0 : Nat} (hB : B0 ≤ W.heap.size) : Out (W.alloc (.cells #[] 5)) B0 (.slice (some ⟨W.heap.size, 0, none⟩) 0 0) [] :=
  World.ownsRow_made W #[] 0 hB (Nat.zero_le _) rfl
theorem Out.set {w : World} {B g cap n : Nat} {l : List UInt8} (h : Out w B (.slice (some ⟨g, 0, none⟩) n cap) l) (hn : n = l.length) (j : Nat) (hj : j < l.length) (x : UInt8) : ByR (w.setCell ⟨g, j, none⟩ (.int .u8 (x.toNat : Int))) (w.setCell ⟨g, j, none⟩ (.int .u8 (x.toNat : Int))).heap.size (some ⟨g, 0, none⟩) (l.set j x) := by
  subst hn
  intro i hi
  rw [List.length_set] at hi
  rcases h.2 with ⟨h1, -⟩ | ⟨g', cap', cur, h1, -, hh, hle, -, hs, -⟩
  · cases h1
  · injection h1 with e1 e2 e3
    injection e1 with e1
    injection e1 with e1
    subst e1 e3
    have hbk : Blk w g cur 5 := hh
    refine ⟨g, 0, rfl, by simpa using hbk.lt, ?_⟩
    rw [Nat.zero_add, (hbk.set j _).cell i]
    by_cases e : j = i
    · subst e
      rw [Array.getElem?_setIfInBounds_self_of_lt (by omega)]
      simp
    · rw [Array.getElem?_setIfInBounds_ne e, ← hbk.cell i]
      rcases h.parts with ⟨h1, -⟩ | ⟨g2, cap2, h1, -, hc⟩
      · cases h1
      · injection h1 with e1 e2 e3
        injection e1 with e1
        injection e1 with e1
        subst e1
        rw [hc i hi]
        simp [List.getElem_set_ne e]

end Go.Proofs.Ytpplboihlndfpaa
