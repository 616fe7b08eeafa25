/-
  The reference's tokens; theirs; what tokens are as bytes, by the reference.
-/
import Derived.Test.YtpplboihlndfpaaDefExpand
import Derived.Test.YtpplboihlndfpaaInfArgs
import Derived.StillTailTactics
import Derived.Deep.RegionHeld3
import Derived.BigRegion
namespace Go.Proofs.Ytpplboihlndfpaa
open Go.RowKit Ix Dx
set_option linter.unusedSimpArgs false
set_option linter.unusedVariables false

/-- Tokens of the reference, of the call's own. -/
def RToks (w : World) (B : Nat) (v : Value) (l : List Tok) : Prop := w.ownsRow B 48 3 v l.length (tokC l)
theorem info_rtok : (Try.prog.info? 48).map (fun i => (i.zero, i.size, i.bytes)) = some (some (.agg #[.int .u8 0, .int .i64 0, .int .i64 0]), 3, 24) := by kernel_rfl
theorem RToks.lt {w : World} {B : Nat} {v : Value} {l : List Tok} (h : RToks w B v l) : ∀ k, v.ownBlock = some k → B ≤ k ∧ k < w.heap.size := World.ownsRow.lt h
theorem RToks.gb {w w' : World} {B : Nat} {v : Value} {l : List Tok} (h : RToks w B v l) {r : Option Nat} (g : w.grownBy w' r) (hne : v.ownBlock = none ∨ v.ownBlock ≠ r) : RToks w' B v l := World.ownsRow.kept h g hne
theorem RToks.kept {w w' : World} {B : Nat} {v : Value} {l : List Tok} (h : RToks w B v l) (k : Kept w w') : RToks w' B v l :=
  h.gb (gbK k none) (by cases hv : v.ownBlock with
    | none => exact .inl rfl
    | some g => exact .inr (by simp))
theorem RToks.shape {w : World} {B : Nat} {v : Value} {l : List Tok} (h : RToks w B v l) : ∃ p cap, v = .slice p l.length cap ∧ l.length ≤ cap ∧ (p = none → l = []) := by
  rcases h.2 with ⟨rfl, h0⟩ | ⟨g, cap, cur, rfl, _, _, hn, _⟩
  · exact ⟨none, 0, by rw [h0], by omega, fun _ => List.length_eq_zero_iff.1 h0⟩
  · exact ⟨_, _, rfl, hn, fun e => by cases e⟩
theorem RToks.base {w : World} {B B' : Nat} {v : Value} {l : List Tok} (h : RToks w B v l) (hB : B' ≤ B) : RToks w B' v l :=
  ⟨h.1, by
    rcases h.2 with h1 | ⟨g, cap, cur, h1, h2, h3⟩
    · exact .inl h1
    · exact .inr ⟨g, cap, cur, h1, by omega, h3⟩⟩
theorem RToks.tokR {w : World} {B : Nat} {p : Option Addr} {n c : Nat} {l : List Tok} (h : RToks w B (.slice p n c) l) : TokR w w.heap.size p l := fun i hi => by
  have h0 := h
  rcases h.2 with ⟨_, h1⟩ | ⟨g, cap, cur, he, hb, hh, hn, hc, hs, ht⟩
  · omega
  · injection he with e1 e2 e3
    subst e1 e2 e3
    have hlt := (World.ownsRow.lt h0 g rfl).2
    have hl := tokC_len l
    have key : ∀ q, q < 3 → w.cell? ⟨g, i * 3 + q, none⟩ = (tokc l[i])[q]? := fun q hq => by
      rw [World.ownsRow.cellAt h0 (i * 3 + q) (by omega), tokC_get l i hi q hq]
    refine ⟨g, 0, rfl, hlt, ?_, ?_, ?_⟩
    · rw [Nat.zero_add]; exact key 0 (by decide)
    · rw [Nat.zero_add]; exact key 1 (by decide)
    · rw [Nat.zero_add]; exact key 2 (by decide)

set_option maxRecDepth 100000 in
theorem wpList_app_rtok {ops : Array Oper} {rest : List Oper} {o : Oper} {a : Act} {Q : Exit → Act → World → Prop} (hgd : o.guard = none) (s x : Operand)
    (ho : o.op = .call { callee := .builtin .append, args := #[s, x], argTypes := #[28, 28] })
    {W : World} {B : Nat} {v : Value} {l : List Tok} (hown : RToks W B v l) (hs : a.eval s = v) (t : Tok) (cells : Array Value) (hc : cells = (tokc t).toArray)
    (hx : a.eval x = .slice (some ⟨W.heap.size, 0, none⟩) 1 1) (hB : B ≤ W.heap.size) (hlen : l.length ≤ 1099511627776)
    (h : ∀ g cap w', RToks w' B (.slice (some ⟨g, 0, none⟩) (l.length + 1) cap) (l ++ [t]) → (W.alloc (.cells cells 48)).grownBy w' v.ownBlock → (v.ownBlock = some g ∨ g = W.heap.size + 1) →
      wpList Try.prog ops Q rest (a.put o.dst (.slice (some ⟨g, 0, none⟩) (l.length + 1) cap)) w') :
    wpList Try.prog ops Q (o :: rest) a (W.alloc (.cells cells 48)) := by
  obtain ⟨i0, hi, hz0, hz1, hz2⟩ := info_parts info_rtok
  subst hc
  refine wpList_append_lies _ hgd s x 28 ho B 48 i0 _ 3 24 Try.underlying28 hi hz0 hz1 hz2 rfl (by decide) v l.length (tokC l) hs (World.ownsRow.alloc hown _) ⟨W.heap.size, 0, none⟩ 1 1 (tokc t) hx rfl
    ?_ ?_ (by decide) (by unfold maxLen; omega) (by omega) (by simp; omega) (W.heap.size + 1) (by simp) ?_
  · intro j u hj
    rw [Addr.add_lit, Nat.zero_add]
    have := (Blk.fresh W (tokc t).toArray 48).cell j
    rw [this]
    simpa using hj
  · intro u hu
    simp only [tokc, List.mem_cons, List.not_mem_nil, or_false] at hu
    rcases hu with rfl | rfl | rfl <;> rfl
  · intro g cap w' h1 h2 h3 _
    refine h g cap w' ?_ h2 h3
    unfold RToks
    rw [List.length_append, show tokC (l ++ [t]) = tokC l ++ tokc t by unfold tokC; simp]
    exact h1

/-- Such a token is appended, in a region that draws its order. -/
theorem step_app_rtok {ops : Array Oper} {o : Oper} {a : Act} {K : Act → World → Prop} {Q : Exit → Act → World → Prop} {E : Prop} (hgd : o.guard = none) (s x : Operand)
    (ho : o.op = .call { callee := .builtin .append, args := #[s, x], argTypes := #[28, 28] })
    {W : World} (B : Nat) (v : Value) (l : List Tok) (hs : a.eval s = v) (hown : RToks W B v l) (t : Tok) (g : Nat) (hb : Blk W g (tokc t).toArray 48)
    (hx : a.eval x = .slice (some ⟨g, 0, none⟩) 1 1) (hB : B ≤ W.heap.size) (hlen : l.length ≤ 1099511627776)
    (h : ∀ v' w', RToks w' B v' (l ++ [t]) → W.grownBy w' v.ownBlock → K (a.put o.dst v') w') :
    if Region.wanted o (yielded ops a.tmps) = true then Oper.wp Try.prog o a W K Q else E := by
  obtain ⟨i0, hi, hz0, hz1, hz2⟩ := info_parts info_rtok
  refine step_append_lies _ hgd s x 28 ho B 48 i0 _ 3 24 Try.underlying28 hi hz0 hz1 hz2 rfl (by decide) v l.length (tokC l) hs hown ⟨g, 0, none⟩ 1 1 (tokc t) hx rfl
    ?_ ?_ (by decide) (by unfold maxLen; omega) (by omega) hB _ rfl ?_
  · intro j u hj
    rw [Addr.add_lit, Nat.zero_add, hb.cell j]
    simpa using hj
  · intro u hu
    simp only [tokc, List.mem_cons, List.not_mem_nil, or_false] at hu
    rcases hu with rfl | rfl | rfl <;> rfl
  · intro g' cap w' h1 h2 h3 _
    refine h _ w' ?_ h2
    unfold RToks
    rw [List.length_append, show tokC (l ++ [t]) = tokC l ++ tokc t by unfold tokC; simp]
    exact h1

set_option maxRecDepth 100000 in
set_option maxHeartbeats 4000000 in
theorem theirs_any (l : List Tok) (p : Option Addr) (c : Nat) (w : World) (h : TokR w w.heap.size p l) (hB : l.length ≤ 1099511627776) :
    Calls Try.prog 14 #[.slice p l.length c] w fun e w' => ∃ v, e = .returned v ∧ RToks w' w.heap.size v l ∧ Kept w w' := by
  have HT := Lib.hid h
  clear h
  go_enter Try.func14, Try.ntmps14
  go_wp2_with fail
  go_loopg [3, 4] l.length (fun m x y wr => ∃ (j : Nat) (vv : Value), vv = x ∧ m = l.length - j ∧ j ≤ l.length ∧ y = .int .i64 j ∧ RToks wr w.heap.size vv (l.take j) ∧ Kept w wr)
  case atStart => exact ⟨0, _, rfl, rfl, Nat.zero_le _, rfl, World.ownsRow_nil _ _ _ _, Kept.refl w⟩
  case round =>
    obtain ⟨j, vv, rfl, hm, hj, rfl, ho, hk⟩ := hrel
    have HO := Lib.hid ho
    have HK := Lib.hid hk
    have hsr := Below.size hk
    clear ho hk
    by_cases hlt : j < l.length
    · have j1 : (j : Int) < (l.length : Int) := by omega
      obtain ⟨kb, o, hp, hkb, c0, c1, c2⟩ := (HT.out.keep (Nat.le_refl _) HK.out) j hlt
      subst hp
      have htk : l.take (j + 1) = l.take j ++ [l[j]] := List.take_succ_eq_append_getElem hlt
      obtain ⟨t, ht⟩ : ∃ t, t = l[j] := ⟨_, rfl⟩
      rw [← ht] at c0 c1 c2 htk
      have HTK := Lib.hid htk
      have hll : (l.take j).length = j := by rw [List.length_take]; omega
      have HLL := Lib.hid hll
      have hlb : (l.take j).length ≤ 1099511627776 := by omega
      clear ht htk hll
      go_upto_region 5 with fail
      have KA := Lib.hid (show Kept wr ((wr.alloc (.cells #[.int .u8 (t.lit.toNat : Int), .int .i64 t.len, .int .i64 t.dist] 48)).drew) from ((Kept.refl wr).allocO _).drew)
      have OA := Lib.hid (HO.out.kept KA.out)
      have BA := Lib.hid (show Blk ((wr.alloc (.cells #[.int .u8 (t.lit.toNat : Int), .int .i64 t.len, .int .i64 t.dist] 48)).drew) wr.heap.size (tokc t).toArray 48 from (Blk.fresh wr _ _).drew)
      have hsA := Nat.le_trans hsr (Below.size KA.out)
      have CC := Lib.hid (fun w5 (g : ((wr.alloc (.cells #[.int .u8 (t.lit.toNat : Int), .int .i64 t.len, .int .i64 t.dist] 48)).drew).grownBy w5 vv.ownBlock) => (show w5.heap[kb]? = wr.heap[kb]? from
        (g.block kb (by have := Below.size KA.out; omega) (fun e => by have := (HO.out.lt kb e.symm).1; omega)).trans (KA.out.block kb (by omega))))
      have C0 := Lib.hid c0
      have C1 := Lib.hid c1
      have C2 := Lib.hid c2
      go_region_held3 (fun w' => w'.cell? ⟨kb, o + j * 3, none⟩ = some (.int .u8 (t.lit.toNat : Int)) ∧ w'.cell? ⟨kb, o + j * 3 + 1, none⟩ = some (.int .i64 t.len) ∧ w'.cell? ⟨kb, o + j * 3 + 2, none⟩ = some (.int .i64 t.dist)) (first | go_keep | exact ⟨d0, d1, d2⟩ | exact ⟨C0.out, C1.out, C2.out⟩ | simp [d0, d1, d2]) ((refine step_app_rtok (by rfl) _ _ (by rfl) w.heap.size vv (l.take j) (by rfl) OA.out t wr.heap.size BA.out (by rfl) hsA hlb ?_; intro v' w5 hown5 hgrow5; have d0 : w5.cell? ⟨kb, o + j * 3, none⟩ = some (.int .u8 (t.lit.toNat : Int)) := (World.cell?_of_block (CC.out w5 hgrow5)).trans C0.out; have d1 : w5.cell? ⟨kb, o + j * 3 + 1, none⟩ = some (.int .i64 t.len) := (World.cell?_of_block (CC.out w5 hgrow5)).trans C1.out; have d2 : w5.cell? ⟨kb, o + j * 3 + 2, none⟩ = some (.int .i64 t.dist) := (World.cell?_of_block (CC.out w5 hgrow5)).trans C2.out))
      all_goals
        have O5 := Lib.hid hown5
        have K5 := Lib.hid (show Kept w w5 from Below.grown (HK.out.trans KA.out) hgrow5 hsA (fun y hy => (HO.out.lt y hy).1))
        rw [← HTK.out] at O5
        clear hown5 hgrow5 d0 d1 d2 c0 c1 c2
        go_wp2_with fail
        go_roundg (l.length - (j + 1))
        case measure => omega
        case rel => exact ⟨j + 1, v', rfl, rfl, by omega, by go_num, O5.out, K5.out⟩
    · obtain rfl : j = l.length := by omega
      have O2 := HO.out
      rw [List.take_length] at O2
      have O3 := Lib.hid O2
      clear O2
      go_wp2_with fail
      go_ret
      exact ⟨_, rfl, O3.out, HK.out⟩

end Go.Proofs.Ytpplboihlndfpaa
