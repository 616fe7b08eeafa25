/-
  How an object lies in memory: six cells, and behind two of them rows of objects and of entries.
-/
import Derived.Test.YtakbhdhlcnpejaaMathS
import Derived.Test.YtakbhdhlcnpejaaXBase
import Derived.Test.YtakbhdhlcnpejaaLexW1
import Derived.Laws.OwnMore
namespace Go.Proofs.Ytakbhdhlcnpejaa
open Go.RowKit Cx

/-- Where an object's lists lie, and their capacities. -/
structure Hd where
  p : Option Addr
  c : Nat
  q : Option Addr
  e : Nat

def Hd.none : Hd := ⟨.none, 0, .none, 0⟩
def cells6 (o : Ob) (h : Hd) : List Value := [.int .i64 o.k, .int .i64 o.n, .int .i64 o.f, .string o.s, .slice h.p o.l.length h.c, .slice h.q o.d.length h.e]
def cells7 (e : Entr) (h : Hd) : List Value := .string e.1 :: cells6 e.2 h
def objV (o : Ob) (h : Hd) : Value := .agg #[.int .i64 o.k, .int .i64 o.n, .int .i64 o.f, .string o.s, .slice h.p o.l.length h.c, .slice h.q o.d.length h.e]
def entV (e : Entr) (h : Hd) : Value := .agg #[.string e.1, .int .i64 e.2.k, .int .i64 e.2.n, .int .i64 e.2.f, .string e.2.s, .slice h.p e.2.l.length h.c, .slice h.q e.2.d.length h.e]

/-- What a cell reads as, of the blocks that fit. -/
abbrev Cells := Nat → Nat → Value → Prop
def Cel (P : Nat → Prop) (w : World) : Cells := fun b o v => P b ∧ w.cell? ⟨b, o, none⟩ = some v
def RowAt (R : Cells) (b o : Nat) (cs : List Value) : Prop := ∀ j v, cs[j]? = some v → R b (o + j) v

inductive Lies (R : Cells) : Ob → Hd → Prop
  | mk (k n f : Int) (s : ByteArray) (l : List Ob) (d : List (ByteArray × Ob)) (h : Hd) (H E : Nat → Hd)
    (hk : l.length ≤ maxLen ∧ d.length ≤ maxLen ∧ s.size ≤ maxLen)
    (hl : ∀ i (hi : i < l.length), Lies R l[i] (H i))
    (hlc : ∀ i (hi : i < l.length), ∃ b o, h.p = some ⟨b, o, none⟩ ∧ RowAt R b (o + i * 6) (cells6 l[i] (H i)))
    (hd : ∀ i (hi : i < d.length), Lies R d[i].2 (E i))
    (hds : ∀ i (hi : i < d.length), d[i].1.size ≤ maxLen)
    (hdc : ∀ i (hi : i < d.length), ∃ b o, h.q = some ⟨b, o, none⟩ ∧ RowAt R b (o + i * 7) (cells7 d[i] (E i))) :
    Lies R (.mk k n f s l d) h

theorem Lies.mono {R R' : Cells} (hR : ∀ b o v, R b o v → R' b o v) {o : Ob} {h : Hd} (hl : Lies R o h) : Lies R' o h := by
  induction hl with
  | mk k n f s l d h H E hk hl hlc hd hds hdc ih1 ih2 =>
    exact .mk k n f s l d h H E hk ih1
      (fun i hi => by obtain ⟨b, o, e, r⟩ := hlc i hi; exact ⟨b, o, e, fun j v hj => hR _ _ _ (r j v hj)⟩)
      ih2 hds
      (fun i hi => by obtain ⟨b, o, e, r⟩ := hdc i hi; exact ⟨b, o, e, fun j v hj => hR _ _ _ (r j v hj)⟩)

theorem Cel.keep {P P' : Nat → Prop} {w w' : World} (hP : ∀ b, P b → b < w.heap.size → P' b ∧ w'.heap[b]? = w.heap[b]?) (b o : Nat) (v : Value) (h : Cel P w b o v) : Cel P' w' b o v := by
  have hlt := World.block_lt_of_cell? w ⟨b, o, none⟩ h.2
  obtain ⟨h1, h2⟩ := hP b h.1 hlt
  exact ⟨h1, by rw [World.cell?_of_block (w := w) (a := ⟨b, o, none⟩) h2]; exact h.2⟩
theorem Lies.keep {P P' : Nat → Prop} {w w' : World} {o : Ob} {h : Hd} (hl : Lies (Cel P w) o h) (hP : ∀ b, P b → b < w.heap.size → P' b ∧ w'.heap[b]? = w.heap[b]?) : Lies (Cel P' w') o h :=
  hl.mono (Cel.keep hP)
theorem Lies.kept {P : Nat → Prop} {w w' : World} {o : Ob} {h : Hd} (hl : Lies (Cel P w) o h) (k : Kept w w') : Lies (Cel P w') o h :=
  hl.keep fun b hb hlt => ⟨hb, k.below.block b hlt⟩
theorem Lies.gb {P : Nat → Prop} {w w' : World} {o : Ob} {h : Hd} {r : Option Nat} (hl : Lies (Cel P w) o h) (k : w.grownBy w' r) (hr : ∀ b, P b → some b ≠ r) : Lies (Cel P w') o h :=
  hl.keep fun b hb hlt => ⟨hb, k.block b hlt (hr b hb)⟩
theorem Lies.weak {P P' : Nat → Prop} {w : World} {o : Ob} {h : Hd} (hl : Lies (Cel P w) o h) (hP : ∀ b, P b → P' b) : Lies (Cel P' w) o h :=
  hl.keep fun b hb _ => ⟨hP b hb, rfl⟩

/-- An object without lists. -/
theorem Lies.flat (R : Cells) (k n f : Int) (s : ByteArray) (h : Hd) (hs : s.size ≤ maxLen) : Lies R (.mk k n f s [] []) h :=
  .mk k n f s [] [] h (fun _ => h) (fun _ => h) ⟨Nat.zero_le _, Nat.zero_le _, hs⟩ (fun _ hi => absurd hi (Nat.not_lt_zero _)) (fun _ hi => absurd hi (Nat.not_lt_zero _)) (fun _ hi => absurd hi (Nat.not_lt_zero _)) (fun _ hi => absurd hi (Nat.not_lt_zero _)) (fun _ hi => absurd hi (Nat.not_lt_zero _))

theorem Lies.bounds {R : Cells} {o : Ob} {h : Hd} (hl : Lies R o h) : o.l.length ≤ maxLen ∧ o.d.length ≤ maxLen ∧ o.s.size ≤ maxLen := by
  cases hl with | mk k n f s l d h H E hk hl hlc hd hds hdc => exact hk

/-- The i-th object of a list, and its cells. -/
theorem Lies.elem {P : Nat → Prop} {w : World} {o : Ob} {h : Hd} (hl : Lies (Cel P w) o h) (i : Nat) (hi : i < o.l.length) :
    ∃ x b off h', o.l[i] = x ∧ h.p = some ⟨b, off, none⟩ ∧ P b ∧ b < w.heap.size ∧ Lies (Cel P w) x h' ∧
      w.cell? ⟨b, off + i * 6, none⟩ = some (.int .i64 x.k) ∧ w.cell? ⟨b, off + i * 6 + 1, none⟩ = some (.int .i64 x.n) ∧ w.cell? ⟨b, off + i * 6 + 2, none⟩ = some (.int .i64 x.f) ∧
      w.cell? ⟨b, off + i * 6 + 3, none⟩ = some (.string x.s) ∧ w.cell? ⟨b, off + i * 6 + 4, none⟩ = some (.slice h'.p x.l.length h'.c) ∧ w.cell? ⟨b, off + i * 6 + 5, none⟩ = some (.slice h'.q x.d.length h'.e) := by
  cases hl with
  | mk k n f s l d h H E hk hl hlc hd hds hdc =>
    obtain ⟨b, off, e, r⟩ := hlc i hi
    exact ⟨l[i], b, off, H i, rfl, e, (r 0 _ rfl).1, World.block_lt_of_cell? w _ (r 0 _ rfl).2, hl i hi, (r 0 _ rfl).2, (r 1 _ rfl).2, (r 2 _ rfl).2, (r 3 _ rfl).2, (r 4 _ rfl).2, (r 5 _ rfl).2⟩
/-- The i-th entry, and its cells. -/
theorem Lies.entry {P : Nat → Prop} {w : World} {o : Ob} {h : Hd} (hl : Lies (Cel P w) o h) (i : Nat) (hi : i < o.d.length) :
    ∃ key x b off h', o.d[i] = (key, x) ∧ h.q = some ⟨b, off, none⟩ ∧ P b ∧ b < w.heap.size ∧ Lies (Cel P w) x h' ∧ key.size ≤ maxLen ∧
      w.cell? ⟨b, off + i * 7, none⟩ = some (.string key) ∧
      w.cell? ⟨b, off + i * 7 + 1, none⟩ = some (.int .i64 x.k) ∧ w.cell? ⟨b, off + i * 7 + 2, none⟩ = some (.int .i64 x.n) ∧ w.cell? ⟨b, off + i * 7 + 3, none⟩ = some (.int .i64 x.f) ∧
      w.cell? ⟨b, off + i * 7 + 4, none⟩ = some (.string x.s) ∧ w.cell? ⟨b, off + i * 7 + 5, none⟩ = some (.slice h'.p x.l.length h'.c) ∧ w.cell? ⟨b, off + i * 7 + 6, none⟩ = some (.slice h'.q x.d.length h'.e) := by
  cases hl with
  | mk k n f s l d h H E hk hl hlc hd hds hdc =>
    obtain ⟨b, off, e, r⟩ := hdc i hi
    exact ⟨d[i].1, d[i].2, b, off, E i, rfl, e, (r 0 _ rfl).1, World.block_lt_of_cell? w _ (r 0 _ rfl).2, hd i hi, hds i hi, (r 0 _ rfl).2, (r 1 _ rfl).2, (r 2 _ rfl).2, (r 3 _ rfl).2, (r 4 _ rfl).2, (r 5 _ rfl).2, (r 6 _ rfl).2⟩

theorem flat_get {α β : Type} (f : α → List β) (n : Nat) (hn : ∀ a, (f a).length = n) : ∀ (rows : List α) (i q : Nat) (hi : i < rows.length), q < n → (rows.flatMap f)[i * n + q]? = (f rows[i])[q]?
  | [], _, _, h, _ => absurd h (Nat.not_lt_zero _)
  | a :: r, 0, q, _, hq => by
    rw [List.flatMap_cons, Nat.zero_mul, Nat.zero_add, List.getElem?_append_left (by rw [hn]; exact hq)]; rfl
  | a :: r, i + 1, q, h, hq => by
    have hi : i < r.length := by simpa using h
    rw [List.flatMap_cons, List.getElem?_append_right (by rw [hn, Nat.succ_mul]; omega), hn, show (i + 1) * n + q - n = i * n + q by rw [Nat.succ_mul]; omega, flat_get f n hn r i q hi hq]; rfl
theorem flat_len {α β : Type} (f : α → List β) (n : Nat) (hn : ∀ a, (f a).length = n) : ∀ rows : List α, (rows.flatMap f).length = rows.length * n
  | [] => by simp
  | a :: r => by rw [List.flatMap_cons, List.length_append, hn, flat_len f n hn r, List.length_cons, Nat.succ_mul]; omega

/-- The rows of objects, and of entries, flat. -/
abbrev ORow := List (Ob × Hd)
abbrev ERow := List (Entr × Hd)
def flatO (rs : ORow) : List Value := rs.flatMap fun r => cells6 r.1 r.2
def flatE (rs : ERow) : List Value := rs.flatMap fun r => cells7 r.1 r.2
theorem flatO_len (rs : ORow) : (flatO rs).length = rs.length * 6 := flat_len _ 6 (fun _ => rfl) rs
theorem flatE_len (rs : ERow) : (flatE rs).length = rs.length * 7 := flat_len _ 7 (fun _ => rfl) rs
theorem flatO_snoc (rs : ORow) (o : Ob) (h : Hd) : flatO (rs ++ [(o, h)]) = flatO rs ++ cells6 o h := by
  unfold flatO; rw [List.flatMap_append]; simp
theorem flatE_snoc (rs : ERow) (e : Entr) (h : Hd) : flatE (rs ++ [(e, h)]) = flatE rs ++ cells7 e h := by
  unfold flatE; rw [List.flatMap_append]; simp
theorem oneCell6 (o : Ob) (h : Hd) : ∀ u ∈ cells6 o h, u.oneCell' = true := by
  intro u hu
  simp only [cells6, List.mem_cons, List.not_mem_nil, or_false] at hu
  rcases hu with rfl | rfl | rfl | rfl | rfl | rfl <;> rfl
theorem oneCell7 (e : Entr) (h : Hd) : ∀ u ∈ cells7 e h, u.oneCell' = true := by
  intro u hu
  rcases List.mem_cons.1 hu with rfl | hu
  · rfl
  · exact oneCell6 _ _ u hu

end Go.Proofs.Ytakbhdhlcnpejaa
