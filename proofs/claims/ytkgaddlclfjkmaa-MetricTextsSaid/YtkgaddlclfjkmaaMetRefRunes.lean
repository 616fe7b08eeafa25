/-
  The reference's characters of a text; whether one stands alone.
-/
import Derived.Test.YtkgaddlclfjkmaaMetEnc
import Derived.Deep.AppendLies
import Derived.BigGuard
namespace Go.Proofs.Ytkgaddlclfjkmaa
open Go.RowKit
set_option linter.unusedSimpArgs false
set_option linter.unusedVariables false

set_option maxRecDepth 100000 in
theorem RAlone_any (r : Nat) (w : World) (hr : r ≤ 1114111) :
    Calls Try.prog 27 #[.int .i64 r] w fun e w' => e = .returned (.bool (Mt.alone r)) ∧ w = w' := by
  obtain ⟨a, ha⟩ : ∃ a, a = Mt.alone r := ⟨_, rfl⟩
  have ways := Mt.alone_ways r
  rw [← ha] at ways ⊢
  clear ha
  rcases ways with ⟨rfl, rfl⟩ | ⟨rfl, rfl⟩ | ⟨rfl, rfl⟩ | ⟨⟨h0, h1⟩, rfl⟩ | ⟨⟨h0, h1, h2⟩, rfl⟩ | ⟨⟨h0, h1, h2, h3⟩, rfl⟩ | ⟨⟨h0, h1⟩, rfl⟩ | ⟨rfl, rfl⟩ | ⟨h0, rfl⟩
  all_goals
    first
      | (have z : r ≠ 9 ∧ r ≠ 10 ∧ r ≠ 13 := by omega
         have e1 : ((r : Int) == 9) = false := by rw [beq_eq_false_iff_ne]; omega
         have e2 : ((r : Int) == 10) = false := by rw [beq_eq_false_iff_ne]; omega
         have e3 : ((r : Int) == 13) = false := by rw [beq_eq_false_iff_ne]; omega
         clear z)
      | skip
    try (have e4 : ((r : Int) != 173) = true := by (rw [bne_iff_ne]; omega))
    try (have e5 : decide ((r : Int) ≤ 126) = false := by (rw [decide_eq_false_iff_not]; omega))
    try (have e6 : decide ((r : Int) ≤ 255) = false := by (rw [decide_eq_false_iff_not]; omega))
    try clear h3
    try clear h2
    go_enter Try.func27, Try.ntmps27
    go_wp2_with fail
    all_goals
      go_ret
      exact ⟨rfl, rfl⟩

theorem Mt.info_i32 : (Try.prog.info? 21).map (fun i => (i.zero, i.size, i.bytes)) = some (some (.int .i32 0), 1, 4) := by kernel_rfl
def Mt.runesV (l : List Nat) : List Value := l.map fun r => .int .i32 (r : Nat)
/-- Characters of a call's own. -/
def OwR (w : World) (B : Nat) (v : Value) (l : List Nat) : Prop := w.ownsRow B 21 1 v l.length (Mt.runesV l)
theorem OwR.nil (w : World) (B : Nat) : OwR w B (.slice none 0 0) [] := World.ownsRow_nil _ _ _ _
theorem OwR.lt {w : World} {B : Nat} {v : Value} {l : List Nat} (h : OwR w B v l) : ∀ k, v.ownBlock = some k → B ≤ k ∧ k < w.heap.size := World.ownsRow.lt h
theorem OwR.gb {w w' : World} {B : Nat} {v : Value} {l : List Nat} (h : OwR w B v l) {r : Option Nat} (g : w.grownBy w' r) (hne : v.ownBlock = none ∨ v.ownBlock ≠ r) : OwR w' B v l := World.ownsRow.kept h g hne
theorem OwR.kept {w w' : World} {B : Nat} {v : Value} {l : List Nat} (h : OwR w B v l) (k : Kept w w') : OwR w' B v l :=
  h.gb (r := none) ⟨k.os, k.tape, k.output, k.size, fun j hj _ => k.block j hj⟩ (by cases hv : v.ownBlock with
    | none => exact .inl rfl
    | some g => exact .inr (by simp))
theorem OwR.kind {w : World} {B : Nat} {v : Value} {l : List Nat} (h : OwR w B v l) : ∀ g, v.ownBlock = some g → ∃ c fz, w.heap[g]? = some (.cells c 21 fz) := by
  intro g hg
  rcases h.2 with ⟨rfl, _⟩ | ⟨g', cap, cur, rfl, _, hh, _⟩
  · simp [Value.ownBlock] at hg
  · simp only [Value.ownBlock, Option.some.injEq] at hg
    subst hg
    exact ⟨cur, _, hh⟩
theorem OwR.shape {w : World} {B : Nat} {v : Value} {l : List Nat} (h : OwR w B v l) : ∃ p c, v = .slice p l.length c ∧ l.length ≤ c ∧ (∀ i (hi : i < l.length), ∃ k, p = some ⟨k, 0, none⟩ ∧ B ≤ k ∧ k < w.heap.size ∧ w.cell? ⟨k, i, none⟩ = some (.int .i32 (l[i] : Nat))) := by
  rcases h.2 with ⟨hv, h0⟩ | ⟨g, cap, cur, hv, hB, hh, hlc, _⟩
  · exact ⟨none, 0, by rw [hv, h0], by omega, fun i hi => by omega⟩
  · refine ⟨some ⟨g, 0, none⟩, cap, hv, by omega, fun i hi => ⟨g, rfl, hB, ?_, ?_⟩⟩
    · exact (Array.getElem?_eq_some_iff.1 hh).1
    · have h2 := h
      unfold OwR at h2
      rw [hv] at h2
      rw [World.ownsRow.cellAt h2 i (by omega)]
      simp [Mt.runesV, hi]
theorem OwR.iterAt {w : World} {B : Nat} {v : Value} {l : List Nat} (h : OwR w B v l) {k : Nat} {s : ByteArray} {pos : Nat} (hk : w.heap[k]? = some (.stringIter s pos)) (pos' : Nat) : OwR (w.iterAt k s pos') B v l := by
  refine World.ownsRow.kept h (w' := w.iterAt k s pos') (row := some k) ⟨rfl, rfl, rfl, by rw [Lib.iterAt_size]; exact Nat.le_refl _, fun j _ hj => Lib.iterAt_other w k j s pos' (fun e => hj (by rw [e]))⟩ ?_
  cases hv : v.ownBlock with
  | none => exact .inl rfl
  | some g =>
    refine .inr fun e => ?_
    obtain ⟨c, fz, hh⟩ := h.kind g hv
    rw [Option.some.inj e, hk] at hh
    cases hh
theorem wpList_app_rune {ops : Array Oper} {rest : List Oper} {o : Oper} {a : Act} {Q : Exit → Act → World → Prop} (hgd : o.guard = none) (s x : Operand)
    (ho : o.op = .call { callee := .builtin .append, args := #[s, x], argTypes := #[50, 50] })
    {W : World} {B : Nat} {v : Value} {l : List Nat} (hown : OwR W B v l) (hs : a.eval s = v) (r : Nat)
    (hx : a.eval x = .slice (some ⟨W.heap.size, 0, none⟩) 1 1) (hB : B ≤ W.heap.size) (hlen : l.length + 1 ≤ 1099511627776)
    (h : ∀ v' w', OwR w' B v' (l ++ [r]) → Below B W w' → (∀ (k : Nat) (s : ByteArray) (pos : Nat), W.heap[k]? = some (Obj.stringIter s pos) → w'.heap[k]? = some (Obj.stringIter s pos)) → wpList Try.prog ops Q rest (a.put o.dst v') w') :
    wpList Try.prog ops Q (o :: rest) a (W.alloc (.cells #[.int .i32 (r : Nat)] 21)) := by
  obtain ⟨i0, hi, hz0, hz1, hz2⟩ := info_parts Mt.info_i32
  have hk := hown.kind
  have hl0 := hown.lt
  refine wpList_append_lies _ hgd s x 50 ho B 21 i0 (.int .i32 0) 1 4 Try.underlying50 hi hz0 hz1 hz2 rfl (by decide) v l.length (Mt.runesV l) hs (World.ownsRow.alloc hown _) ⟨W.heap.size, 0, none⟩ 1 1 [.int .i32 (r : Nat)] hx rfl
    ?_ ?_ (by decide) (by unfold maxLen; omega) (by omega) (by simp; omega) _ rfl ?_
  · intro j u hj
    rw [Addr.add_lit, Nat.zero_add, (Blk.fresh W #[.int .i32 (r : Nat)] 21).cell j]
    simpa using hj
  · intro u hu
    rw [List.mem_singleton.1 hu]; rfl
  · intro g cap w' h1 h2 _ _
    refine h _ w' ?_ (((Below.refl B W).alloc hB _).grown h2 (by simp; omega) (fun j hj => (hl0 j hj).1)) fun k s pos hkk => ?_
    · unfold OwR
      rw [List.length_append, show Mt.runesV (l ++ [r]) = Mt.runesV l ++ [.int .i32 (r : Nat)] by simp [Mt.runesV]]
      exact h1
    · have hlt : k < W.heap.size := (Array.getElem?_eq_some_iff.1 hkk).1
      rw [h2.block k (by simp; omega) (fun e => by
        obtain ⟨c, fz, hh⟩ := hk k e.symm
        rw [hkk] at hh; cases hh)]
      exact (heap_alloc_old W _ hlt).trans hkk

set_option maxRecDepth 100000 in
theorem Runes_any (u : ByteArray) (w : World) (hu : u.size ≤ 1073741000) :
    Calls Try.prog 26 #[.string u] w fun e w' => ∃ v, e = .returned v ∧ OwR w' w.heap.size v (Mt.runes u.data.toList) ∧ Kept w w' := by
  obtain ⟨L, hL⟩ : ∃ L, L = u.data.toList := ⟨_, rfl⟩
  have hlen : L.length = u.size := by rw [hL]; simp
  rw [← hL]
  have DR := Lib.hid (fun pos => (show Go.Lib.decodeL (L.drop pos) = Utf8.decode u pos by rw [hL]; exact Lib.decodeL_drop u pos))
  have HL := Lib.hid hlen
  clear hL hlen
  go_enter Try.func26, Try.ntmps26
  go_wp2_with fail
  go_loopg [3] (u.size + 1) (fun m x wr => ∃ (pos : Nat) (l : List Nat) (vv : Value), m = u.size + 1 - pos ∧ vv = x ∧ pos ≤ u.size ∧ OwR wr w.heap.size vv l ∧ Hid (Mt.runes L = l ++ Mt.runes (L.drop pos)) ∧ wr.heap[w.heap.size]? = some (.stringIter u pos) ∧ Kept w wr ∧ l.length ≤ pos)
  case atStart => exact ⟨0, [], _, by simp, rfl, Nat.zero_le _, (OwR.nil _ _), Lib.hid (by simp), World.iter_heap w u 0, (Kept.refl w).allocO _, Nat.le_refl _⟩
  case round =>
    obtain ⟨pos, l, vv, hm, rfl, hp, ho, HR, hit, hk, hlp⟩ := hrel
    have HO := Lib.hid ho
    have HK := Lib.hid hk
    have hsz : w.heap.size < wr.heap.size := (Array.getElem?_eq_some_iff.1 hit).1
    by_cases hlt : pos < u.size
    · have hne : L.drop pos ≠ [] := by
        intro e
        have := congrArg List.length e
        rw [List.length_drop, HL.out, List.length_nil] at this; omega
      have HC := Lib.hid (Mt.runes_cons _ hne)
      have hd1 := Mt.decodeL_pos _ hne
      have hd2 := Mt.decodeL_le _ hne
      rw [List.length_drop, HL.out] at hd2
      have hnx : ∀ ty, (Instr.next (.pointer (some ⟨w.heap.size, 0, none⟩)) true ty).run Try.prog wr = _ := fun ty => Lib.run_next_any_at wr w.heap.size u pos ty hit hlt
      rw [List.drop_drop] at HC
      rw [DR.out] at HC hd1 hd2
      obtain ⟨r, hr⟩ : ∃ r, r = (Utf8.decode u pos).1 := ⟨_, rfl⟩
      obtain ⟨d, hd⟩ : ∃ d, d = (Utf8.decode u pos).2 := ⟨_, rfl⟩
      rw [← hr] at hnx HC
      rw [← hd] at hnx hd1 hd2 HC
      clear hr hd
      obtain ⟨w1, hw1⟩ : ∃ w1, w1 = wr.iterAt w.heap.size u (pos + d) := ⟨_, rfl⟩
      have K1 := Lib.hid (show Kept w w1 by rw [hw1]; exact Lib.below_iterAt hk (Nat.le_refl _) u (pos + d))
      have I1 := Lib.hid (show w1.heap[w.heap.size]? = some (.stringIter u (pos + d)) by rw [hw1]; exact Lib.iterAt_heap wr w.heap.size u pos (pos + d) hit)
      have O1 := Lib.hid (show OwR w1 w.heap.size vv l by rw [hw1]; exact ho.iterAt hit _)
      have S1 := Lib.hid (show w.heap.size < w1.heap.size by rw [hw1, Lib.iterAt_size]; exact hsz)
      rw [← hw1] at hnx
      clear hw1 hit hk ho
      go_wp2_with (at_builtin; refine wpList_app_rune rfl _ _ rfl O1.out rfl r rfl (Nat.le_of_lt S1.out) (by omega) ?_; intro v' w3 hb3 hbl3 hit3)
      have B3 := Lib.hid hb3
      have B4 := Lib.hid hbl3
      have B5 := Lib.hid hit3
      clear hb3 hbl3 hit3
      go_roundg (u.size + 1 - (pos + d))
      case measure => omega
      case rel =>
        refine ⟨pos + d, l ++ [r], v', rfl, rfl, by omega, B3.out, Lib.hid ?_, B5.out _ _ _ I1.out, Below.trans K1.out B4.out, by simp; omega⟩
        rw [List.append_assoc]; exact HR.out.trans (by rw [HC.out]; rfl)
    · obtain rfl : pos = u.size := by omega
      have hnx : ∀ ty, (Instr.next (.pointer (some ⟨w.heap.size, 0, none⟩)) true ty).run Try.prog wr = _ := fun ty => Lib.run_next_end_at wr w.heap.size u u.size ty hit hlt
      have hR := HR.out
      rw [List.drop_eq_nil_of_le (by rw [HL.out]; exact Nat.le_refl _), Mt.runes_nil, List.append_nil] at hR
      have HT := Lib.hid hR
      clear hR ho hit
      go_wp2_with fail
      go_ret
      exact ⟨_, rfl, by rw [HT.out]; exact HO.out, HK.out⟩

end Go.Proofs.Ytkgaddlclfjkmaa
