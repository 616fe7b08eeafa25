/-
  An entry of the call's own gets another object.
-/
import Derived.Test.YtdfgbdonnpbfcaaCosOwnP
namespace Go.Proofs.Ytdfgbdonnpbfcaa
open Go.RowKit Cx

theorem flat_setE (x : Ob) (h : Hd) : ∀ (rows : List (Entr × Hd)) (i : Nat) (e : ByteArray), (∀ hi : i < rows.length, rows[i].1.1 = e) →
    KE.flat (rows.set i ((e, x), h)) = ((((((KE.flat rows).set (i * 7 + 1) (.int .i64 x.k)).set (i * 7 + 2) (.int .i64 x.n)).set (i * 7 + 3) (.int .i64 x.f)).set (i * 7 + 4) (.string x.s)).set (i * 7 + 5) (.slice h.p x.l.length h.c)).set (i * 7 + 6) (.slice h.q x.d.length h.e)
  | [], _, _, _ => by simp [Kind.flat]
  | a :: r, 0, e, he => by
    obtain rfl : a.1.1 = e := he (by simp)
    rfl
  | a :: r, i + 1, e, he => by
    have ih := flat_setE x h r i e (fun hi => he (by simpa using hi))
    have e1 : ∀ q, (i + 1) * 7 + q = i * 7 + q + 1 + 1 + 1 + 1 + 1 + 1 + 1 := fun q => by omega
    rw [e1 1, e1 2, e1 3, e1 4, e1 5, e1 6]
    show cells7 a.1 a.2 ++ KE.flat (r.set i ((e, x), h)) = _
    rw [ih]
    rfl

theorem OwnP.put {P : Nat → Prop} {N : Nat} {w : World} {g cap : Nat} {acc : List (Entr × Hd)} (h : OwnP KE P N w (.slice (some ⟨g, 0, none⟩) acc.length cap) acc) (i : Nat) (hi : i < acc.length) (x : Ob) (d : Hd) (hx : Lies (Cel (fun b => P b ∧ b < N) w) x d) :
    OwnP KE P N ((((((w.setCell ⟨g, i * 7 + 1, none⟩ (.int .i64 x.k)).setCell ⟨g, i * 7 + 2, none⟩ (.int .i64 x.n)).setCell ⟨g, i * 7 + 3, none⟩ (.int .i64 x.f)).setCell ⟨g, i * 7 + 4, none⟩ (.string x.s)).setCell ⟨g, i * 7 + 5, none⟩ (.slice d.p x.l.length d.c)).setCell ⟨g, i * 7 + 6, none⟩ (.slice d.q x.d.length d.e)) (.slice (some ⟨g, 0, none⟩) acc.length cap) (acc.set i ((acc[i].1.1, x), d)) := by
  have hg := (h.own.lt g rfl).1
  have s1 := h.own.stored (i * 7 + 1) (.int .i64 x.k)
  have s2 := s1.1.stored (i * 7 + 2) (.int .i64 x.n)
  have s3 := s2.1.stored (i * 7 + 3) (.int .i64 x.f)
  have s4 := s3.1.stored (i * 7 + 4) (.string x.s)
  have s5 := s4.1.stored (i * 7 + 5) (.slice d.p x.l.length d.c)
  have s6 := s5.1.stored (i * 7 + 6) (.slice d.q x.d.length d.e)
  have hf := flat_setE x d acc i acc[i].1.1 (fun _ => rfl)
  have hn : ∀ b, (P b ∧ b < N) → b ≠ g := fun b hb e => by have := hb.2; omega
  have keep : ∀ {o : Ob} {e : Hd}, Lies (Cel (fun b => P b ∧ b < N) w) o e → Lies (Cel (fun b => P b ∧ b < N) ((((((w.setCell ⟨g, i * 7 + 1, none⟩ (.int .i64 x.k)).setCell ⟨g, i * 7 + 2, none⟩ (.int .i64 x.n)).setCell ⟨g, i * 7 + 3, none⟩ (.int .i64 x.f)).setCell ⟨g, i * 7 + 4, none⟩ (.string x.s)).setCell ⟨g, i * 7 + 5, none⟩ (.slice d.p x.l.length d.c)).setCell ⟨g, i * 7 + 6, none⟩ (.slice d.q x.d.length d.e))) o e :=
    fun hl => (((((hl.set hn _).set hn _).set hn _).set hn _).set hn _).set hn _
  refine ⟨?_, fun r hr => ?_, ?_⟩
  · rw [hf, List.length_set]; exact s6.1
  · rcases List.mem_or_eq_of_mem_set hr with hr | rfl
    · exact keep (h.lies r hr)
    · exact keep hx
  · have := h.base
    simpa using this

/-- The stores turn that row's block and no other. -/
theorem OwnP.put_gb {P : Nat → Prop} {N : Nat} {w : World} {g cap : Nat} {acc : List (Entr × Hd)} (h : OwnP KE P N w (.slice (some ⟨g, 0, none⟩) acc.length cap) acc) (i : Nat) (x : Ob) (d : Hd) :
    w.grownBy ((((((w.setCell ⟨g, i * 7 + 1, none⟩ (.int .i64 x.k)).setCell ⟨g, i * 7 + 2, none⟩ (.int .i64 x.n)).setCell ⟨g, i * 7 + 3, none⟩ (.int .i64 x.f)).setCell ⟨g, i * 7 + 4, none⟩ (.string x.s)).setCell ⟨g, i * 7 + 5, none⟩ (.slice d.p x.l.length d.c)).setCell ⟨g, i * 7 + 6, none⟩ (.slice d.q x.d.length d.e)) (some g) := by
  have s1 := h.own.stored (i * 7 + 1) (.int .i64 x.k)
  have s2 := s1.1.stored (i * 7 + 2) (.int .i64 x.n)
  have s3 := s2.1.stored (i * 7 + 3) (.int .i64 x.f)
  have s4 := s3.1.stored (i * 7 + 4) (.string x.s)
  have s5 := s4.1.stored (i * 7 + 5) (.slice d.p x.l.length d.c)
  have s6 := s5.1.stored (i * 7 + 6) (.slice d.q x.d.length d.e)
  have tr : ∀ {a b c : World}, a.grownBy b (some g) → b.grownBy c (some g) → a.grownBy c (some g) := fun g1 g2 =>
    ⟨g2.os.trans g1.os, g2.tape.trans g1.tape, g2.output.trans g1.output, Nat.le_trans g1.size g2.size, fun k hk hne => (g2.block k (Nat.lt_of_lt_of_le hk g1.size) hne).trans (g1.block k hk hne)⟩
  exact tr (tr (tr (tr (tr s1.2 s2.2) s3.2) s4.2) s5.2) s6.2

end Go.Proofs.Ytdfgbdonnpbfcaa
