/-
  A tree as it lies in memory, and on its way.
-/
import Derived.Test.YtpplboihlndfpaaInfArr
import Derived.Test.YtpplboihlndfpaaInfSumsMath
import Derived.Deep.AppendLies
import Derived.OwnWalk
namespace Go.Proofs.Ytpplboihlndfpaa
open Go.RowKit Ix
set_option linter.unusedSimpArgs false
set_option linter.unusedVariables false

def natsV (l : List Nat) : List Value := l.map fun n => .int .i64 (Int.ofNat n)
/-- The cells of a tree. -/
def treeCells (F : Nat → Int) (S : Nat → Value) : Array Value := ((List.range 16).map (fun i => Value.int .i64 (F i)) ++ (List.range 16).map S).toArray
theorem treeCells_first (F : Nat → Int) (S : Nat → Value) (i : Nat) (h : i < 16) : (treeCells F S)[i]? = some (.int .i64 (F i)) := by
  unfold treeCells
  rw [List.getElem?_toArray, List.getElem?_append_left (by simpa using h)]
  simp [h]
theorem treeCells_slice (F : Nat → Int) (S : Nat → Value) (i : Nat) (h : i < 16) : (treeCells F S)[16 + i]? = some (S i) := by
  unfold treeCells
  rw [List.getElem?_toArray, List.getElem?_append_right (by simp)]
  simp [h]
theorem treeCells_setF (F : Nat → Int) (S : Nat → Value) (i : Nat) (h : i < 16) (v : Int) : (treeCells F S).setIfInBounds i (.int .i64 v) = treeCells (fun j => if j = i then v else F j) S := by
  apply Array.ext_getElem?
  intro j
  rw [Array.getElem?_setIfInBounds]
  by_cases e : i = j
  · subst e
    rw [if_pos rfl, if_pos (by unfold treeCells; simp; omega), treeCells_first _ _ _ h, if_pos rfl]
  · rw [if_neg e]
    by_cases hj : j < 16
    · rw [treeCells_first _ _ _ hj, treeCells_first _ _ _ hj, if_neg (Ne.symm e)]
    · obtain ⟨k, rfl⟩ : ∃ k, j = 16 + k := ⟨j - 16, by omega⟩
      by_cases hk : k < 16
      · rw [treeCells_slice _ _ _ hk, treeCells_slice _ _ _ hk]
      · rw [Array.getElem?_eq_none (by unfold treeCells; simp; omega), Array.getElem?_eq_none (by unfold treeCells; simp; omega)]
theorem treeCells_setS (F : Nat → Int) (S : Nat → Value) (i : Nat) (h : i < 16) (v : Value) : (treeCells F S).setIfInBounds (16 + i) v = treeCells F (fun j => if j = i then v else S j) := by
  apply Array.ext_getElem?
  intro j
  rw [Array.getElem?_setIfInBounds]
  by_cases e : 16 + i = j
  · subst e
    rw [if_pos rfl, if_pos (by unfold treeCells; simp; omega), treeCells_slice _ _ _ h, if_pos rfl]
  · rw [if_neg e]
    by_cases hj : j < 16
    · rw [treeCells_first _ _ _ hj, treeCells_first _ _ _ hj]
    · obtain ⟨k, rfl⟩ : ∃ k, j = 16 + k := ⟨j - 16, by omega⟩
      by_cases hk : k < 16
      · rw [treeCells_slice _ _ _ hk, treeCells_slice _ _ _ hk, if_neg (by omega)]
      · rw [Array.getElem?_eq_none (by unfold treeCells; simp; omega), Array.getElem?_eq_none (by unfold treeCells; simp; omega)]

/-- The symbols of so many bits so far. -/
def sy (L : List Nat) (j n : Nat) : List Nat := if n = 0 then [] else pos (L.take j) n
def fi (L : List Nat) (j n : Nat) : Int := if sy L j n = [] then 0 else (fst L n : Nat)
theorem sy_len (L : List Nat) (j n : Nat) (hj : j ≤ L.length) (hn : n ≠ 0) : (sy L j n).length = cnt (L.take j) n := by
  unfold sy; rw [if_neg hn, pos_take_len L n j hj]
theorem sy_step (L : List Nat) (j : Nat) (h : j < L.length) (h0 : L[j] ≠ 0) (n : Nat) : sy L (j + 1) n = if n = L[j] then sy L j n ++ [j] else sy L j n := by
  unfold sy
  by_cases e0 : n = 0
  · subst e0; rw [if_pos rfl, if_pos rfl, if_neg (Ne.symm h0)]
  · rw [if_neg e0, if_neg e0, pos_take L j h]
    by_cases e : n = L[j]
    · rw [if_pos e, if_pos e.symm]
    · rw [if_neg e, if_neg (Ne.symm e), List.append_nil]
theorem sy_skip (L : List Nat) (j : Nat) (h : j < L.length) (h0 : L[j] = 0) : sy L (j + 1) = sy L j := by
  funext n
  unfold sy
  by_cases e0 : n = 0
  · subst e0; rw [if_pos rfl, if_pos rfl]
  · rw [if_neg e0, if_neg e0, pos_take L j h, if_neg (by omega), List.append_nil]
theorem fi_skip (L : List Nat) (j : Nat) (h : j < L.length) (h0 : L[j] = 0) : fi L (j + 1) = fi L j := by
  funext n; unfold fi; rw [sy_skip L j h h0]
/-- The first one of its length. -/
theorem fi_new (L : List Nat) (j : Nat) (h : j < L.length) (h0 : L[j] ≠ 0) (he : sy L j L[j] = []) : (fun n => if n = L[j] then ((code L j : Nat) : Int) else fi L j n) = fi L (j + 1) := by
  funext n
  unfold fi
  rw [sy_step L j h h0]
  by_cases e : n = L[j]
  · subst e
    have hc : cnt (L.take j) L[j] = 0 := by rw [← sy_len L j _ (by omega) h0, he]; rfl
    rw [if_pos rfl, if_pos rfl, if_neg (by simp), code_eq L j h (by omega), hc]; rfl
  · rw [if_neg e, if_neg e]
theorem fi_old (L : List Nat) (j : Nat) (h : j < L.length) (h0 : L[j] ≠ 0) (he : sy L j L[j] ≠ []) : fi L j = fi L (j + 1) := by
  funext n
  unfold fi
  rw [sy_step L j h h0]
  by_cases e : n = L[j]
  · subst e
    rw [if_neg he, if_pos rfl, if_neg (by simp)]
  · rw [if_neg e]

/-- A tree on its way: those of the first j. -/
structure TB (w : World) (B tb : Nat) (L : List Nat) (j : Nat) (S : Nat → Value) : Prop where
  row : ∀ n, n < 16 → w.ownsRow B 3 1 (S n) (sy L j n).length (natsV (sy L j n))
  nil : ∀ n, n < 16 → sy L j n = [] → S n = .slice none 0 0
  far : ∀ n, n < 16 → (S n).ownBlock ≠ some tb
  apart : ∀ n m, n < 16 → m < 16 → n ≠ m → ∀ g, (S n).ownBlock = some g → (S m).ownBlock ≠ some g
theorem TB.kept {w w' : World} {B tb : Nat} {L : List Nat} {j : Nat} {S : Nat → Value} (h : TB w B tb L j S) (k : Kept w w') : TB w' B tb L j S :=
  ⟨fun n hn => (h.row n hn).kept (row := none) ⟨k.os, k.tape, k.output, k.size, fun j hj _ => k.block j hj⟩ (by
    cases hv : (S n).ownBlock with
    | none => exact .inl rfl
    | some g => exact .inr (by simp)), h.nil, h.far, h.apart⟩
theorem TB.other {w : World} {B tb : Nat} {L : List Nat} {j : Nat} {S : Nat → Value} (h : TB w B tb L j S) (o : Nat) (v : Value) : TB (w.setCell ⟨tb, o, none⟩ v) B tb L j S :=
  ⟨fun n hn => (h.row n hn).kept (row := some tb) ⟨rfl, rfl, rfl, by simp, fun k _ hk => Below.heap_setCell w ⟨tb, o, none⟩ v k (fun e => hk (by rw [e]))⟩ (.inr (h.far n hn)), h.nil, h.far, h.apart⟩
/-- One symbol more. -/
theorem TB.app {w w' : World} {B tb : Nat} {L : List Nat} {j : Nat} {S : Nat → Value} (h : TB w B tb L j S) (hj : j < L.length) (h0 : L[j] ≠ 0) (h16 : L[j] < 16) {g cap : Nat}
    (hown : w'.ownsRow B 3 1 (.slice (some ⟨g, 0, none⟩) ((sy L j L[j]).length + 1) cap) ((sy L j L[j]).length + 1) (natsV (sy L j L[j]) ++ natsV [j])) (hg : w.grownBy w' (S L[j]).ownBlock)
    (hat : (S L[j]).ownBlock = some g ∨ w.heap.size ≤ g) (htb : tb < w.heap.size) : TB w' B tb L (j + 1) (fun n => if n = L[j] then .slice (some ⟨g, 0, none⟩) ((sy L j L[j]).length + 1) cap else S n) := by
  have hgn : ∀ n, n < 16 → n ≠ L[j] → (S n).ownBlock ≠ some g := by
    intro n hn hne e
    rcases hat with e2 | e2
    · exact h.apart n L[j] hn h16 hne g e e2
    · have := (World.ownsRow.lt (h.row n hn) g e).2; omega
  refine ⟨fun n hn => ?_, fun n hn he => ?_, fun n hn => ?_, fun n m hn hm hne g' e1 => ?_⟩
  · rw [sy_step L j hj h0]
    by_cases e : n = L[j]
    · subst e
      simp only [if_pos]
      rw [List.length_append, List.length_singleton]
      have : natsV (sy L j L[j] ++ [j]) = natsV (sy L j L[j]) ++ natsV [j] := by simp [natsV]
      rw [this]; exact hown
    · simp only [if_neg e]
      refine (h.row n hn).kept hg ?_
      cases hv : (S n).ownBlock with
      | none => exact .inl rfl
      | some g' => exact .inr (by intro e3; exact h.apart n L[j] hn h16 e g' hv e3.symm)
  · rw [sy_step L j hj h0] at he
    by_cases e : n = L[j]
    · subst e; simp at he
    · simp only [if_neg e] at he ⊢; exact h.nil n hn he
  · by_cases e : n = L[j]
    · simp only [if_pos e]
      intro e2
      injection e2 with e2
      subst e2
      rcases hat with e3 | e3
      · exact h.far _ h16 e3
      · have htb' : g < w.heap.size := htb
        omega
    · simp only [if_neg e]; exact h.far n hn
  · by_cases e : n = L[j]
    · simp only [if_pos e] at e1
      injection e1 with e1
      subst e1
      have : m ≠ L[j] := by omega
      simp only [if_neg this]; exact hgn m hm this
    · simp only [if_neg e] at e1
      by_cases em : m = L[j]
      · simp only [if_pos em]
        intro e3
        injection e3 with e3
        subst e3
        exact hgn n hn e e1
      · simp only [if_neg em]; exact h.apart n m hn hm hne g' e1

/-- Block tb is the tree of these lengths; what it reads lies in blocks that fit fp. -/
structure Tree (w : World) (fp : Nat → Prop) (tb : Nat) (L : List Nat) : Prop where
  here : fp tb
  lt : ∀ b, fp b → b < w.heap.size
  first : ∀ n, n < 16 → w.cell? ⟨tb, n, none⟩ = some (.int .i64 (fi L L.length n))
  slice : ∀ n, n < 16 → ∃ p c, w.cell? ⟨tb, 16 + n, none⟩ = some (.slice p (sy L L.length n).length c) ∧ ∀ i (h : i < (sy L L.length n).length), ∃ g, p = some ⟨g, 0, none⟩ ∧ fp g ∧ w.cell? ⟨g, i, none⟩ = some (.int .i64 ((sy L L.length n)[i] : Nat))
theorem Tree.move {w w' : World} {fp : Nat → Prop} {tb : Nat} {L : List Nat} (h : Tree w fp tb L) (hs : w.heap.size ≤ w'.heap.size) (k : ∀ b, fp b → w'.heap[b]? = w.heap[b]?) : Tree w' fp tb L := by
  refine ⟨h.here, fun b hb => Nat.lt_of_lt_of_le (h.lt b hb) hs, fun n hn => ?_, fun n hn => ?_⟩
  · rw [← h.first n hn]; exact World.cell?_of_block (k tb h.here)
  · obtain ⟨p, c, h1, h2⟩ := h.slice n hn
    refine ⟨p, c, by rw [← h1]; exact World.cell?_of_block (k tb h.here), fun i hi => ?_⟩
    obtain ⟨g, hp, hg, hc⟩ := h2 i hi
    exact ⟨g, hp, hg, by rw [← hc]; exact World.cell?_of_block (k g hg)⟩
theorem Tree.wide {w : World} {fp : Nat → Prop} {B tb : Nat} {L : List Nat} (h : Tree w fp tb L) (hw : ∀ b, fp b → B ≤ b ∧ b < w.heap.size) : Tree w (fun b => B ≤ b ∧ b < w.heap.size) tb L :=
  ⟨hw _ h.here, fun b hb => hb.2, h.first, fun n hn => by
    obtain ⟨p, c, h1, h2⟩ := h.slice n hn
    exact ⟨p, c, h1, fun i hi => by
      obtain ⟨g, hp, hg, hc⟩ := h2 i hi
      exact ⟨g, hp, hw g hg, hc⟩⟩⟩
theorem Tree.kept {w w' : World} {fp : Nat → Prop} {tb : Nat} {L : List Nat} (h : Tree w fp tb L) (k : Kept w w') : Tree w' fp tb L :=
  h.move (Below.size k) fun b hb => k.block b (h.lt b hb)
/-- When all are in. -/
theorem TB.tree {w : World} {B tb : Nat} {L : List Nat} {S : Nat → Value} (h : TB w B tb L L.length S) {t : TypeId} (hb : Blk w tb (treeCells (fi L L.length) S) t) (hB : B ≤ tb) : Tree w (fun b => B ≤ b ∧ b < w.heap.size) tb L := by
  refine ⟨⟨hB, hb.lt⟩, fun b hb => hb.2, fun n hn => by rw [hb.cell, treeCells_first _ _ _ hn], fun n hn => ?_⟩
  rcases (h.row n hn).2 with ⟨hv, h0⟩ | ⟨g, cap, cur, hv, hbg, hh, hle, hc, hs, ht⟩
  · refine ⟨none, 0, by rw [hb.cell, treeCells_slice _ _ _ hn, hv, h0], fun i hi => ?_⟩
    omega
  · have hbk : Blk w g cur 3 := hh
    refine ⟨some ⟨g, 0, none⟩, cap, by rw [hb.cell, treeCells_slice _ _ _ hn, hv], fun i hi => ⟨g, rfl, ⟨hbg, hbk.lt⟩, ?_⟩⟩
    have hr := h.row n hn
    rw [hv] at hr
    rw [World.ownsRow.cellAt hr i (by omega)]
    simp [natsV, hi]

end Go.Proofs.Ytpplboihlndfpaa
