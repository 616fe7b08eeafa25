/-
  Two slices of entries one behind the other: slices.Grow, slices.Concat.
-/
import Derived.Test.YtoablpaehhjchaaGreatDoorXrfRow
import Derived.Lib.AppendZeros
import Derived.Laws.AppendOwnNone
import Derived.OwnWalk
namespace Go.Proofs.YtoablpaehhjchaaGreatDoor
open Go.RowKit Rx
set_option linter.unusedSimpArgs false
set_option linter.unusedVariables false

set_option maxRecDepth 100000 in
theorem GrowE_nil (n : Nat) (hn : n ≤ 1099511627776) (w : World) :
    Calls Tryz.prog 49 #[.slice none 0 0, .int .i64 n] w fun e w' => ∃ v, e = .returned v ∧ Ents 65 w' w.heap.size v [] ∧ Kept w w' := by
  by_cases h0 : n = 0
  · subst h0
    go_enter Tryz.func49, Tryz.ntmps49
    go_wp2_with fail
    go_ret
    exact ⟨_, rfl, World.ownsRow_nil _ _ _ _, Kept.refl w⟩
  have h1 : 0 < n := by omega
  obtain ⟨i0, hi, hz0, hz1, hz2⟩ := info_parts info_xent
  have hr := Lib.run_append_nil_zeros (P := Tryz.prog) w 22 3 22 65 i0 _ .i64 .i64 Tryz.underlying22 Tryz.underlying3 hi hz0 n h1 (by omega) (by omega) (by rw [hz2]; omega)
  have c1 := grownCap_ge w n 0 65
  have c2 := grownCap_le_maxLen w n 0 65 (by unfold maxLen; omega)
  have hsz : (Builtin.zeroCells (Value.agg #[.int .i64 0, .int .i64 0, .int .i64 0, .bool false]).cells n ++ Builtin.zeroCells (Value.agg #[.int .i64 0, .int .i64 0, .int .i64 0, .bool false]).cells (grownCap w n 0 65 - n)).size = grownCap w n 0 65 * 4 := by
    rw [Array.size_append, size_zeroCells, size_zeroCells]
    simp [Value.cells]; omega
  have HOWN := Lib.hid (World.ownsRow_made (base := w.heap.size) (e := 65) (size := 4) w.drew _ _ (Nat.le_refl _) c2 hsz)
  have HK := Lib.hid (show Kept w (w.drew.alloc (.cells (Builtin.zeroCells (Value.agg #[.int .i64 0, .int .i64 0, .int .i64 0, .bool false]).cells n ++ Builtin.zeroCells (Value.agg #[.int .i64 0, .int .i64 0, .int .i64 0, .bool false]).cells (grownCap w n 0 65 - n)) 65)) from ((Kept.refl w).drew).allocO _)
  obtain ⟨cap, hcap⟩ : ∃ cap, cap = grownCap w n 0 65 := ⟨_, rfl⟩
  obtain ⟨W2, hW2⟩ : ∃ W2, W2 = w.drew.alloc (.cells (Builtin.zeroCells (Value.agg #[.int .i64 0, .int .i64 0, .int .i64 0, .bool false]).cells n ++ Builtin.zeroCells (Value.agg #[.int .i64 0, .int .i64 0, .int .i64 0, .bool false]).cells (grownCap w n 0 65 - n)) 65) := ⟨_, rfl⟩
  rw [← hW2] at hr HOWN HK
  rw [← hcap] at hr HOWN c1 c2
  clear hW2 hcap hsz
  have i0' : ¬ (n : Int) < 0 := by omega
  have i1' : (0 : Int) < (n : Int) := by omega
  go_enter Tryz.func49, Tryz.ntmps49
  go_wp2_with (at_builtin; refine Lib.wpList_append_run _ rfl _ _ _ _ rfl _ _ rfl rfl _ _ hr ?_)
  go_ret
  exact ⟨_, rfl, HOWN.out, HK.out⟩

theorem entR_cells {W : World} {B0 k o : Nat} {es : List Xent} (hes : EntR W B0 (some ⟨k, o, none⟩) es) (j : Nat) (u : Value) (hj : (entC es)[j]? = some u) : W.cell? ((⟨k, o, none⟩ : Addr).add j) = some u := by
  have hj4 := (List.getElem?_eq_some_iff.1 hj).1
  rw [entC_len] at hj4
  rw [Addr.add_lit]
  obtain ⟨i, q, hq, rfl⟩ : ∃ i q, q < 4 ∧ j = i * 4 + q := ⟨j / 4, j % 4, Nat.mod_lt _ (by decide), by omega⟩
  have hi4 : i < es.length := by omega
  rw [entC_get es i hi4 q hq] at hj
  obtain ⟨k', of', hp, -, h0, h1, h2, h3⟩ := hes i hi4
  injection hp with hp
  injection hp with e1 e2 e3
  subst e1 e2
  match q, hq with
  | 0, _ => rw [show o + (i * 4 + 0) = o + i * 4 by omega, h0]; exact hj
  | 1, _ => rw [show o + (i * 4 + 1) = o + i * 4 + 1 by omega, h1]; exact hj
  | 2, _ => rw [show o + (i * 4 + 2) = o + i * 4 + 2 by omega, h2]; exact hj
  | 3, _ => rw [show o + (i * 4 + 3) = o + i * 4 + 3 by omega, h3]; exact hj

set_option maxRecDepth 100000 in
/-- A slice's entries, if it has any, are appended to an own row. -/
theorem wpList_app_slice {ops : Array Oper} {rest : List Oper} {o : Oper} {a : Act} {Q : Exit → Act → World → Prop} (hgd : o.guard = none) (s x : Operand)
    (ho : o.op = .call { callee := .builtin .append, args := #[s, x], argTypes := #[22, 22] })
    {W : World} {B : Nat} {v : Value} {l : List Xent} (hown : Ents 65 W B v l) (hs : a.eval s = v) (p : Option Addr) (es : List Xent) (c : Nat) (hes : EntR W W.heap.size p es) (hnil : p = none → c = 0) 
    (hx : a.eval x = .slice p es.length c) (hB : B ≤ W.heap.size) (hlen : l.length + es.length ≤ 1099511627776)
    (h : ∀ v' w', Ents 65 w' B v' (l ++ es) → W.grownBy w' v.ownBlock → wpList Tryz.prog ops Q rest (a.put o.dst v') w') :
    wpList Tryz.prog ops Q (o :: rest) a W := by
  obtain ⟨i0, hi, hz0, hz1, hz2⟩ := info_parts info_xent
  cases p with
  | none =>
    have he : es = [] := by
      cases es with
      | nil => rfl
      | cons e r =>
        obtain ⟨k, o, hp, _⟩ := hes 0 (by simp)
        cases hp
    subst he
    have hc := hnil rfl
    subst hc
    refine wpList_append_own_none hgd s x 22 ho B 65 i0 4 Tryz.underlying22 hi v l.length (entC l) hs hown hx ?_
    exact h v W (by rw [List.append_nil]; exact hown) ⟨rfl, rfl, rfl, Nat.le_refl _, fun _ _ _ => rfl⟩
  | some ad =>
    have hcs : ∀ j u, (entC es)[j]? = some u → W.cell? (ad.add j) = some u := by
      cases es with
      | nil => intro j u hj; simp [entC] at hj
      | cons e r =>
        obtain ⟨k, of, hp, -⟩ := hes 0 (by simp)
        injection hp with hp
        subst hp
        exact entR_cells hes
    refine wpList_append_own _ hgd s x 22 ho B 65 i0 _ 4 32 Tryz.underlying22 hi hz0 hz1 hz2 rfl (by decide) v l.length (entC l) hs hown ad es.length c (entC es) hx (by rw [entC_len]; omega)
      hcs entC_one_cell (by unfold maxLen; omega) (by omega) hB ?_
    intro v' w' h1 h2 _
    refine h v' w' ?_ h2
    unfold Ents
    rw [List.length_append, entC_app]
    exact h1

/-- A slice of entries: where it lies. -/
def Sl (W : World) (p : Option Addr) (c : Nat) (es : List Xent) : Prop := EntR W W.heap.size p es ∧ (p = none → c = 0) ∧ es.length ≤ c
theorem Sl.see {w w' : World} {p : Option Addr} {c : Nat} {l : List Xent} (h : Sl w p c l) (k : Kept w w') : Sl w' p c l := ⟨h.1.see k, h.2⟩
theorem Ents.sl {T : TypeId} {w : World} {B : Nat} {v : Value} {l : List Xent} (h : Ents T w B v l) : ∃ p c, v = .slice p l.length c ∧ Sl w p c l := by
  obtain ⟨p, c, rfl, h1, h2⟩ := h.shape
  refine ⟨p, c, rfl, h.entR, ?_, h1⟩
  rintro rfl
  rcases h.2 with ⟨he, _⟩ | ⟨g, cap, cur, he, _⟩
  · injection he
  · cases he

def catL (a b : List Xent) : Nat → List Xent
  | 0 => []
  | 1 => a
  | _ => a ++ b

set_option maxRecDepth 100000 in
set_option maxHeartbeats 2000000 in
theorem ConcatE_any (a b : List Xent) (pa pb : Option Addr) (ca cb k : Nat) (w : World) (hk : Blk w k #[.slice pa a.length ca, .slice pb b.length cb] 22) (ha : Sl w pa ca a) (hb : Sl w pb cb b) (hs : a.length + b.length ≤ 1099511627776) :
    Calls Tryz.prog 31 #[.slice (some ⟨k, 0, none⟩) 2 2] w fun e w' => ∃ v, e = .returned v ∧ Ents 65 w' w.heap.size v (a ++ b) ∧ Kept w w' := by
  have HK := Lib.hid hk
  have HA := Lib.hid ha
  have HB := Lib.hid hb
  have GR0 := GrowE_nil (a.length + b.length) hs w
  rw [Int.natCast_add] at GR0
  have GR := Lib.hid GR0
  clear GR0
  clear hk ha hb
  go_enter Tryz.func31, Tryz.ntmps31
  go_wp2_with fail
  go_loopg [3, 11] 3 (fun x s i wr => ∃ j : Nat, x = 3 - j ∧ j ≤ 2 ∧ s = .int .i64 ((catL a b j).length : Nat) ∧ i = .int .i64 j ∧ w = wr)
  case atStart => exact ⟨0, rfl, by omega, rfl, rfl, rfl⟩
  case round =>
    obtain ⟨j, hx, hj, rfl, rfl, rfl⟩ := hrel
    obtain ⟨c0, c1⟩ := HK.out.cells2
    have hjc : j = 0 ∨ j = 1 ∨ j = 2 := by omega
    rcases hjc with rfl | rfl | rfl
    · have l0 : (catL a b 0).length = 0 := rfl
      have i1 : ¬ (a.length : Int) < 0 := by omega
      rw [l0]
      clear l0
      go_wp2_with fail
      go_roundg 2
      case measure => omega
      case rel => exact ⟨1, rfl, by omega, by simp [catL], rfl, rfl⟩
    · have l0 : (catL a b 1).length = a.length := rfl
      have i1 : ¬ (a.length : Int) + (b.length : Int) < 0 := by omega
      have i2 : wrap64 ((a.length : Int) + (b.length : Int)) = (a.length : Int) + (b.length : Int) := by unfold wrap64; omega
      rw [l0]
      clear l0
      go_wp2_with fail
      go_roundg 1
      case measure => omega
      case rel => exact ⟨2, rfl, by omega, by simp [catL], rfl, rfl⟩
    · have l0 : (catL a b 2).length = a.length + b.length := by simp [catL]
      rw [l0]
      clear l0
      go_wp2_with fail
      (with_reducible refine GR.out.mono ?_)
      rintro e w1 ⟨v1, rfl, ho1, hk1⟩
      have HO1 := Lib.hid ho1
      have HK1 := Lib.hid hk1
      clear ho1 hk1 c0 c1
      go_wp2_with fail
      go_loopg [6, 27] 3 (fun x s i wr => ∃ (q : Nat) (v : Value), x = 3 - q ∧ q ≤ 2 ∧ v = s ∧ i = .int .i64 q ∧ Ents 65 wr w.heap.size v (catL a b q) ∧ Kept w wr)
      case atStart => exact ⟨0, v1, rfl, by omega, rfl, rfl, HO1.out, HK1.out⟩
      case round =>
        obtain ⟨q, v, hx2, hq, rfl, rfl, ho, hkk⟩ := hrel
        have HO := Lib.hid ho
        have HK2 := Lib.hid hkk
        have hwl := Below.size hkk
        obtain ⟨c0, c1⟩ := (HK.out.kept hkk).cells2
        have HA2 := Lib.hid (HA.out.see hkk)
        have HB2 := Lib.hid (HB.out.see hkk)
        clear ho hkk
        have hqc : q = 0 ∨ q = 1 ∨ q = 2 := by omega
        rcases hqc with rfl | rfl | rfl
        · go_wp2_with (at_builtin; refine wpList_app_slice (by rfl) _ _ (by rfl) HO.out (by rfl) pa a ca HA2.out.1 HA2.out.2.1 (by rfl) hwl (by simp [catL]; omega) ?_; intro v6 w6 ho6 hg6)
          have O6 := Lib.hid (show Ents 65 w6 w.heap.size v6 (catL a b 1) from ho6)
          have K6 := Lib.hid (show Kept w w6 from Below.grown HK2.out hg6 hwl (fun y hy => (HO.out.lt y hy).1))
          clear ho6 hg6
          go_wp2_with fail
          go_roundg 2
          case measure => omega
          case rel => exact ⟨1, v6, rfl, by omega, rfl, rfl, O6.out, K6.out⟩
        · go_wp2_with (at_builtin; refine wpList_app_slice (by rfl) _ _ (by rfl) HO.out (by rfl) pb b cb HB2.out.1 HB2.out.2.1 (by rfl) hwl (by simp [catL]; omega) ?_; intro v6 w6 ho6 hg6)
          have O6 := Lib.hid (show Ents 65 w6 w.heap.size v6 (catL a b 2) from ho6)
          have K6 := Lib.hid (show Kept w w6 from Below.grown HK2.out hg6 hwl (fun y hy => (HO.out.lt y hy).1))
          clear ho6 hg6
          go_wp2_with fail
          go_roundg 1
          case measure => omega
          case rel => exact ⟨2, v6, rfl, by omega, rfl, rfl, O6.out, K6.out⟩
        · go_wp2_with fail
          go_ret
          exact ⟨v, rfl, HO.out, HK2.out⟩

end Go.Proofs.YtoablpaehhjchaaGreatDoor
