/-
  The objects up to what ends them: what the rest's upTo answers, if it is so of each object within.
  The entries up to what ends them: what the rest's upTo answers, if it is so of each entry within.
-/
import Derived.Test.YtbgdeaeikijdgaaGreatDoorCosRows
import Derived.Test.YtbgdeaeikijdgaaGreatDoorLexM
namespace Go.Proofs.YtbgdeaeikijdgaaGreatDoor
open Go.RowKit Cx

/-- A token of the text s, or its like. -/
def TokOk (s : ByteArray) (t : Lx.Tok) : Prop := t.to ≤ s.size ∧ (-2147483648 ≤ t.f ∧ t.f ≤ 2147483648) ∧ t.s.length ≤ s.size
theorem tokOk_next (s : ByteArray) (a : Int) : TokOk s (Lx.nextV s.data.toList a).2 := by
  have h1 := Lx.next_to s.data.toList a
  have h2 := Lx.next_len s.data.toList a
  have hl : s.data.toList.length = s.size := by simp
  rw [hl] at h1 h2
  exact ⟨h1, ⟨h2.1, h2.2.1⟩, h2.2.2⟩

/-- What a reader of an object leaves. -/
def ObjPost (s : ByteArray) (dep rb : Nat) (w : World) (X : Int × Ob × Nat) (e : Ending) (w' : World) : Prop :=
  ∃ h, e = .returned (.tuple #[objV X.2.1 h, .int .i64 X.1]) ∧ (X.1 = 0 → Rst s (X.2.2 : Int) (dep : Int) rb w') ∧ w.grownBy w' (some rb) ∧ Lies (Cel (fun b => w.heap.size ≤ b) w') X.2.1 h
def ObjC (F : Nat) : Prop := ∀ (s : ByteArray) (t : Lx.Tok) (dep rb : Nat) (w : World), s.size ≤ 4294967295 → HasMax w → TokOk s t → Rst s (t.to : Int) (dep : Int) rb w → 3 * (s.size - t.to) + 2 ≤ F → dep ≤ 64 →
  Calls Tryz.prog 155 #[.pointer (some ⟨rb, 0, none⟩), tkV t] w (ObjPost s dep rb w (objOf F s.data.toList dep t))

/-- What a reader of a list leaves. -/
def UpPost {α β : Type} (K : Kind α) (nm : α → β) (s : ByteArray) (dep rb : Nat) (w : World) (Y : Int × List β × Nat) (e : Ending) (w' : World) : Prop :=
  w.grownBy w' (some rb) ∧ ((Y.1 = 0 ∧ ∃ (acc : List α) (p : Option Addr) (cap : Nat), e = .returned (.tuple #[.slice p acc.length cap, .int .i64 0]) ∧ acc.map nm = Y.2.1 ∧ acc.length ≤ 1024 ∧ OwnK K w.heap.size w' (.slice p acc.length cap) acc ∧ Rst s (Y.2.2 : Int) (dep : Int) rb w') ∨
    (Y.1 ≠ 0 ∧ e = .returned (.tuple #[.slice none 0 0, .int .i64 Y.1])))

section
variable {α β : Type} {K : Kind α} {nm : α → β} {s : ByteArray} {dep rb : Nat} {w w' : World} {Y : Int × List β × Nat}
theorem up_bad (g : w.grownBy w' (some rb)) (er : Int) (hY : Y = (er, [], 0)) (he : er ≠ 0) : UpPost K nm s dep rb w Y (.returned (.tuple #[.slice none 0 0, .int .i64 er])) w' :=
  ⟨g, .inr (by subst hY; exact ⟨he, rfl⟩)⟩
theorem up_good (g : w.grownBy w' (some rb)) (acc : List α) (p : Option Addr) (cap tq : Nat) (hY : Y = (0, acc.map nm, tq)) (hacc : acc.length ≤ 1024) (own : OwnK K w.heap.size w' (.slice p acc.length cap) acc) (r : Rst s (tq : Int) (dep : Int) rb w') :
    UpPost K nm s dep rb w Y (.returned (.tuple #[.slice p acc.length cap, .int .i64 0])) w' :=
  ⟨g, .inl (by subst hY; exact ⟨rfl, acc, p, cap, rfl, rfl, hacc, own, r⟩)⟩
end

theorem gb_thenOwn {a b c : World} {rb : Nat} {r : Option Nat} (h : a.grownBy b (some rb)) (g : b.grownBy c r) (hr : ∀ k, r = some k → a.heap.size ≤ k) : a.grownBy c (some rb) :=
  ⟨g.os.trans h.os, g.tape.trans h.tape, g.output.trans h.output, Nat.le_trans h.size g.size, fun j hj hn => (g.block j (Nat.lt_of_lt_of_le hj h.size) (fun e => by have := hr j e.symm; omega)).trans (h.block j hj hn)⟩
theorem Rst.gbOwn {s : ByteArray} {a dep : Int} {rb N : Nat} {w w' : World} {r : Option Nat} (h : Rst s a dep rb w) (g : w.grownBy w' r) (hr : ∀ k, r = some k → N ≤ k) (hN : rb < N) : Rst s a dep rb w' :=
  Blk.gb h g (fun e => by have := hr rb e.symm; omega)

theorem obj_to {F : Nat} {s : ByteArray} {dep : Nat} {t : Lx.Tok} (ht : t.to ≤ s.size) (h : (objOf F s.data.toList dep t).1 = 0) : t.to ≤ (objOf F s.data.toList dep t).2.2 ∧ (objOf F s.data.toList dep t).2.2 ≤ s.size := by
  have hl : s.data.toList.length = s.size := by simp
  have := (ends_all s.data.toList F).1 dep t (by rw [hl]; exact ht) h
  rwa [hl] at this
theorem ent_to {F : Nat} {s : ByteArray} {dep : Nat} {t : Lx.Tok} (ht : t.to ≤ s.size) (h : (entOf F s.data.toList dep t).1 = 0) : t.to ≤ (entOf F s.data.toList dep t).2.2 ∧ (entOf F s.data.toList dep t).2.2 ≤ s.size := by
  have hl : s.data.toList.length = s.size := by simp
  have := (ends_all s.data.toList F).2.2.2 dep t (by rw [hl]; exact ht) h
  rwa [hl] at this

theorem ent_objectOf : Ent 155 := Go.Proofs.enters_of Tryz.func155 (by kernel_rfl) rfl

theorem upO_deep (s : ByteArray) (a : Int) (rb : Nat) (fv : Value) (w : World) (hr : Rst s a 64 rb w) :
    Calls Tryz.prog 210 #[.pointer (some ⟨rb, 0, none⟩), .int .i64 5, fv] w fun e w' => e = .returned (.tuple #[.slice none 0 0, .int .i64 5]) ∧ w = w' := by
  obtain ⟨c0, c1, c2⟩ := hr.cells
  clear hr
  go_enter Tryz.func210, Tryz.ntmps210
  go_wp2_with fail
  go_ret2
  exact ⟨rfl, rfl⟩

set_option maxRecDepth 100000 in
set_option maxHeartbeats 4000000 in
theorem upO_any (F : Nat) (IH : ∀ F', F' < F → ObjC F') (s : ByteArray) (k0 dep rb : Nat) (w : World) (hs : s.size ≤ 4294967295) (hm : HasMax w) (hr : Rst s (k0 : Int) (dep : Int) rb w) (hF : 3 * (s.size - k0) + 1 ≤ F) (hk0 : k0 ≤ s.size) (hdep : dep < 64)
    (Y : Int × List Ob × Nat) (hY : Y = upO F s.data.toList (dep + 1) [] k0) :
    Calls Tryz.prog 210 #[.pointer (some ⟨rb, 0, none⟩), .int .i64 5, .func (.func 155) #[.pointer (some ⟨rb, 0, none⟩)] #[]] w (UpPost KO (·.1) s dep rb w Y) := by
  have HIH := Lib.hid IH
  have HM := Lib.hid hm
  have HR := Lib.hid hr
  have HY := Lib.hid hY.symm
  have eo := ent_objectOf
  unfold Ent at eo
  obtain ⟨c0, c1, c2⟩ := hr.cells
  have rf := Blk.free hr
  have hne : ((dep : Int) == 64) = false := by rw [beq_eq_false_iff_ne]; omega
  have R1 := Lib.hid (hr.deep ((dep : Int) + 1))
  have G1 := Lib.hid (gb_setAt w rb 2 (.int .i64 ((dep : Int) + 1)))
  have HZ := Lib.hid hr.lt
  clear IH hm hr hY
  go_enter Tryz.func210, Tryz.ntmps210
  go_wp2_with fail
  go_loopg [8] (F) (fun m a wr => ∃ (acc : List (Ob × Hd)) (k : Nat) (p : Option Addr) (cap : Nat), a = .slice p acc.length cap ∧ 3 * (s.size - k) + 1 ≤ m ∧ m ≤ F ∧ k ≤ s.size ∧ acc.length ≤ 1024 ∧ Hid (upO m s.data.toList (dep + 1) (acc.map (·.1)) k = Y) ∧ Rst s (k : Int) ((dep : Int) + 1) rb wr ∧ w.grownBy wr (some rb) ∧ OwnK KO w.heap.size wr (.slice p acc.length cap) acc)
  case atStart => exact ⟨[], k0, none, 0, rfl, hF, Nat.le_refl _, hk0, Nat.zero_le _, HY, R1.out, G1.out, OwnK.nil _ _ _⟩
  case round =>
    obtain ⟨acc, k, p, cap, rfl, hm1, hmF, hk, hacc, HU, hrk, hgk, hown⟩ := hrel
    obtain ⟨m, rfl⟩ : ∃ m, gk = m + 1 := ⟨gk - 1, by omega⟩
    have RK := Lib.hid hrk
    have GK := Lib.hid hgk
    have OK := Lib.hid hown
    obtain ⟨T, hT⟩ : ∃ T, T = Lx.nextV s.data.toList (k : Int) := ⟨_, rfl⟩
    have HU1 := Lib.hid (show Y = (if T.1 ≠ 0 then (T.1, [], 0) else if T.2.kind = 5 then (0, acc.map (·.1), T.2.to) else if T.2.kind = 0 then (4, [], 0) else if (acc.map (·.1)).length = 1024 then (6, [], 0)
      else if (objOf m s.data.toList (dep + 1) T.2).1 = 0 then upO m s.data.toList (dep + 1) (acc.map (·.1) ++ [(objOf m s.data.toList (dep + 1) T.2).2.1]) (objOf m s.data.toList (dep + 1) T.2).2.2 else ((objOf m s.data.toList (dep + 1) T.2).1, [], 0)) by
      rw [← HU.out, upO, ← hT])
    have HT := Lib.hid hT
    have TO := Lib.hid (show TokOk s T.2 by rw [hT]; exact tokOk_next s k)
    have TB := Lib.hid (fun h : T.1 = 0 => show (T.2.kind = 0 ∨ k < T.2.to) by
      rw [hT] at h ⊢
      have := Lx.next_bd s.data.toList (k : Int) h
      omega)
    clear hrk hgk hown hT HU R1 G1
    go_wp2_with fail
    (with_reducible refine (token_any s (k : Int) ((dep : Int) + 1) rb _ hs (HR.out.max HM.out GK.out) RK.out T HT.out).mono ?_)
    rintro e w2 ⟨rfl, hr2, hg2⟩
    obtain ⟨er, kd, fv, st, wh, fr, tq⟩ := T
    have G2 := Lib.hid (gb_trans GK.out hg2)
    have O2 := Lib.hid (OK.out.gb hg2 (fun _ e => by cases e; exact HZ.out))
    have R2 := Lib.hid hr2
    clear hr2 hg2 OK RK GK
    unfold tkV
    simp only [] at HU1 R2 TO TB ⊢
    by_cases he : er = 0
    · subst he
      have R3 := Lib.hid (show Rst s (tq : Int) ((dep : Int) + 1) rb w2 by simpa using R2.out)
      have TB3 := Lib.hid (TB.out rfl)
      have HU2 := Lib.hid (show Y = (if kd = 5 then (0, acc.map (·.1), tq) else if kd = 0 then (4, [], 0) else if (acc.map (·.1)).length = 1024 then (6, [], 0)
        else if (objOf m s.data.toList (dep + 1) ⟨kd, fv, st, wh, fr, tq⟩).1 = 0 then upO m s.data.toList (dep + 1) (acc.map (·.1) ++ [(objOf m s.data.toList (dep + 1) ⟨kd, fv, st, wh, fr, tq⟩).2.1]) (objOf m s.data.toList (dep + 1) ⟨kd, fv, st, wh, fr, tq⟩).2.2 else ((objOf m s.data.toList (dep + 1) ⟨kd, fv, st, wh, fr, tq⟩).1, [], 0)) by
        rw [HU1.out, if_neg (by simp)])
      have G3 := Lib.hid (gb_alloc G2.out (.cells #[.int .i64 kd, .int .i64 fv, .string ⟨st.toArray⟩, .bool wh, .int .i64 fr, .int .i64 tq] 108))
      have R4 := Lib.hid (R3.out.alloc (.cells #[.int .i64 kd, .int .i64 fv, .string ⟨st.toArray⟩, .bool wh, .int .i64 fr, .int .i64 tq] 108))
      have O4 := Lib.hid (O2.out.kept ((Kept.refl w2).alloc #[.int .i64 kd, .int .i64 fv, .string ⟨st.toArray⟩, .bool wh, .int .i64 fr, .int .i64 tq] 108))
      have B4 := Lib.hid (Blk.fresh w2 #[.int .i64 kd, .int .i64 fv, .string ⟨st.toArray⟩, .bool wh, .int .i64 fr, .int .i64 tq] 108)
      clear R2 TB HU1
      clear c0 c1 c2 rf
      obtain ⟨c0, c1, c2⟩ := R3.out.cells
      have rf := Blk.free R3.out
      have rz := R3.out.lt
      by_cases h5 : kd = 5
      · subst h5
        have HYV := Lib.hid (show Y = (0, acc.map (·.1), tq) by rw [HU2.out, if_pos rfl])
        have O5 := Lib.hid ((O2.out.gb (gb_setAt w2 rb 2 (.int .i64 dep)) (fun _ e => by cases e; exact HZ.out)).kept ((Kept.refl _).alloc #[.int .i64 5, .int .i64 fv, .string ⟨st.toArray⟩, .bool wh, .int .i64 fr, .int .i64 tq] 108))
        have R5 := Lib.hid ((R3.out.deep (dep : Int)).alloc (.cells #[.int .i64 5, .int .i64 fv, .string ⟨st.toArray⟩, .bool wh, .int .i64 fr, .int .i64 tq] 108))
        have G5 := Lib.hid (gb_alloc (gb_own G2.out 2 (.int .i64 dep)) (.cells #[.int .i64 5, .int .i64 fv, .string ⟨st.toArray⟩, .bool wh, .int .i64 fr, .int .i64 tq] 108))
        go_wp2_with fail
        go_ret2
        exact up_good G5.out acc p cap tq HYV.out hacc O5.out R5.out
      have e5 : (kd == 5) = false := by rw [beq_eq_false_iff_ne]; exact h5
      by_cases h0 : kd = 0
      · subst h0
        have HYV := Lib.hid (show Y = (4, [], 0) by rw [HU2.out, if_neg h5, if_pos rfl])
        go_wp2_with fail
        go_ret2
        exact up_bad G3.out 4 HYV.out (by decide)
      have e0 : (kd == 0) = false := by rw [beq_eq_false_iff_ne]; exact h0
      by_cases hl : acc.length = 1024
      · have HYV := Lib.hid (show Y = (6, [], 0) by rw [HU2.out, if_neg h5, if_neg h0, if_pos (by rw [List.length_map]; exact hl)])
        have el : ((acc.length : Int) == 1024) = true := by rw [beq_iff_eq]; omega
        have HL := Lib.hid hl
        clear hl h5 h0
        go_wp2_with fail
        go_ret2
        exact up_bad G3.out 6 HYV.out (by decide)
      have el : ((acc.length : Int) == 1024) = false := by rw [beq_eq_false_iff_ne]; omega
      obtain ⟨⟨xe, xo, xk⟩, hX⟩ : ∃ X, X = objOf m s.data.toList (dep + 1) ⟨kd, fv, st, wh, fr, tq⟩ := ⟨_, rfl⟩
      have HU3 := Lib.hid (show Y = if xe = 0 then upO m s.data.toList (dep + 1) (acc.map (·.1) ++ [xo]) xk else (xe, [], 0) by
        rw [HU2.out, if_neg h5, if_neg h0, if_neg (by rw [List.length_map]; exact hl), ← hX])
      have hlt : acc.length < 1024 := by omega
      have hkt : k < tq := by have := TB3.out; omega
      have htq : tq ≤ s.size := TO.out.1
      have CO := HIH.out m (by omega) s ⟨kd, fv, st, wh, fr, tq⟩ (dep + 1) rb (w2.alloc (.cells #[.int .i64 kd, .int .i64 fv, .string ⟨st.toArray⟩, .bool wh, .int .i64 fr, .int .i64 tq] 108)) hs (HR.out.max HM.out G3.out) TO.out R4.out (by simp only []; omega) (by omega)
      rw [← hX] at CO
      have XB := Lib.hid (fun h : xe = 0 => obj_to (F := m) (s := s) (dep := dep + 1) (t := ⟨kd, fv, st, wh, fr, tq⟩) htq (by rw [← hX]; exact h))
      rw [← hX] at XB
      unfold tkV at CO
      simp only [] at CO XB
      have CO1 := Lib.hid CO
      clear CO hX hl h5 h0 HU2
      have hsz2 := O2.out
      have MB := Lib.hid (show ∀ b, Value.ownBlock (.slice p acc.length cap) = some b → b < (w2.alloc (.cells #[.int .i64 kd, .int .i64 fv, .string ⟨st.toArray⟩, .bool wh, .int .i64 fr, .int .i64 tq] 108)).heap.size from fun b hb => (O4.out.own.lt b hb).2)
      have NB := Lib.hid (show w.heap.size ≤ (w2.alloc (.cells #[.int .i64 kd, .int .i64 fv, .string ⟨st.toArray⟩, .bool wh, .int .i64 fr, .int .i64 tq] 108)).heap.size from G3.out.size)
      clear hsz2
      by_cases hx0 : xe = 0
      · subst hx0
        have HU4 := Lib.hid (show upO m s.data.toList (dep + 1) (acc.map (·.1) ++ [xo]) xk = Y by rw [HU3.out, if_pos rfl])
        obtain ⟨hxk1, hxk2⟩ := XB.out rfl
        go_wp2_with fail
        (with_reducible refine CO1.out.mono ?_)
        rintro e w4 ⟨h, rfl, hr4, hg4, hx4⟩
        unfold objV
        simp only []
        have R6 := Lib.hid (hr4 rfl)
        have G6 := Lib.hid (gb_trans G3.out hg4)
        have X6 := Lib.hid hx4
        have O6 := Lib.hid (O4.out.gb hg4 (fun _ e => by cases e; exact HZ.out))
        have S6 := Lib.hid hg4.size
        clear hr4 hg4 hx4
        have O7 := Lib.hid (O6.out.kept ((Kept.refl w4).alloc #[.int .i64 xo.k, .int .i64 xo.n, .int .i64 xo.f, .string xo.s, .slice h.p xo.l.length h.c, .slice h.q xo.d.length h.e] 43))
        have X7 := Lib.hid (X6.out.kept ((Kept.refl w4).alloc #[.int .i64 xo.k, .int .i64 xo.n, .int .i64 xo.f, .string xo.s, .slice h.p xo.l.length h.c, .slice h.q xo.d.length h.e] 43))
        have G7 := Lib.hid (gb_alloc (gb_alloc G6.out (.cells #[.int .i64 xo.k, .int .i64 xo.n, .int .i64 xo.f, .string xo.s, .slice h.p xo.l.length h.c, .slice h.q xo.d.length h.e] 43)) (.cells #[.int .i64 xo.k, .int .i64 xo.n, .int .i64 xo.f, .string xo.s, .slice h.p xo.l.length h.c, .slice h.q xo.d.length h.e] 43))
        have R7 := Lib.hid ((R6.out.alloc (.cells #[.int .i64 xo.k, .int .i64 xo.n, .int .i64 xo.f, .string xo.s, .slice h.p xo.l.length h.c, .slice h.q xo.d.length h.e] 43)).alloc (.cells #[.int .i64 xo.k, .int .i64 xo.n, .int .i64 xo.f, .string xo.s, .slice h.p xo.l.length h.c, .slice h.q xo.d.length h.e] 43))
        have hB : w.heap.size ≤ (w4.alloc (.cells #[.int .i64 xo.k, .int .i64 xo.n, .int .i64 xo.f, .string xo.s, .slice h.p xo.l.length h.c, .slice h.q xo.d.length h.e] 43)).heap.size := (gb_alloc G6.out _).size
        have OL := Lib.hid (fun k hk => (O7.out.own.lt k hk).1)
        go_wp2_with (at_builtin; refine wpList_app_obj rfl _ _ rfl w.heap.size acc O7.out rfl (xo, h) _ rfl (w4.heap.size + 1) (by simp) rfl hB (by omega) ?_)
        intro g cap' w5 own5 hg5 hl5 hlt5
        have G8 := Lib.hid (gb_thenOwn G7.out hg5 OL.out)
        have R8 := Lib.hid (R7.out.gbOwn hg5 OL.out HZ.out)
        have O8 := Lib.hid (OwnK.app (x := (xo, h)) O7.out X7.out MB.out NB.out own5 hg5 (by simpa using hl5))
        have hLen : (acc ++ [(xo, h)]).length = acc.length + 1 := by simp
        have HLen := Lib.hid hLen
        clear own5 hg5 hl5 hlt5 hLen
        go_wp2_with fail
        go_roundg m
        case measure => omega
        case rel =>
          refine ⟨acc ++ [(xo, h)], xk, some ⟨g, 0, none⟩, cap', by rw [HLen.out], by omega, by omega, hxk2, by rw [HLen.out]; omega, Lib.hid ?_, R8.out, G8.out, by rw [HLen.out]; exact O8.out⟩
          rw [List.map_append]; exact HU4.out
      · have HYV := Lib.hid (show Y = (xe, [], 0) by rw [HU3.out, if_neg hx0])
        have hne1 : (xe != 0) = true := by simpa using hx0
        have hx0' := Lib.hid hx0
        clear hx0
        go_wp2_with fail
        (with_reducible refine CO1.out.mono ?_)
        rintro e w4 ⟨h, rfl, hr4, hg4, hx4⟩
        unfold objV
        simp only []
        have G6 := Lib.hid (gb_trans G3.out hg4)
        clear hr4 hg4 hx4
        go_wp2_with fail
        go_ret2
        exact up_bad (gb_alloc G6.out _) xe HYV.out hx0'.out
    · have HYV := Lib.hid (show Y = (er, [], 0) by rw [HU1.out, if_pos he])
      have hne1 : (er != 0) = true := by simpa using he
      have he' := Lib.hid he
      clear he
      go_wp2_with fail
      go_ret2
      exact up_bad (gb_alloc G2.out _) er HYV.out he'.out

end Go.Proofs.YtbgdeaeikijdgaaGreatDoor

namespace Go.Proofs.YtbgdeaeikijdgaaGreatDoor
open Go.RowKit Cx

/-- What the reader of an entry leaves. -/
def EntPost (s : ByteArray) (dep rb : Nat) (w : World) (X : Int × Entr × Nat) (e : Ending) (w' : World) : Prop :=
  ∃ h, e = .returned (.tuple #[entV X.2.1 h, .int .i64 X.1]) ∧ (X.1 = 0 → Rst s (X.2.2 : Int) (dep : Int) rb w') ∧ w.grownBy w' (some rb) ∧ Lies (Cel (fun b => w.heap.size ≤ b) w') X.2.1.2 h
def EntC (F : Nat) : Prop := ∀ (s : ByteArray) (t : Lx.Tok) (dep rb : Nat) (w : World), s.size ≤ 4294967295 → HasMax w → TokOk s t → Rst s (t.to : Int) (dep : Int) rb w → 3 * (s.size - t.to) + 3 ≤ F → dep ≤ 64 →
  Calls Tryz.prog 212 #[.pointer (some ⟨rb, 0, none⟩), tkV t] w (EntPost s dep rb w (entOf F s.data.toList dep t))

theorem ent_entryOf : Ent 212 := Go.Proofs.enters_of Tryz.func212 (by kernel_rfl) rfl

theorem upE_deep (s : ByteArray) (a : Int) (rb : Nat) (fv : Value) (w : World) (hr : Rst s a 64 rb w) :
    Calls Tryz.prog 211 #[.pointer (some ⟨rb, 0, none⟩), .int .i64 7, fv] w fun e w' => e = .returned (.tuple #[.slice none 0 0, .int .i64 5]) ∧ w = w' := by
  obtain ⟨c0, c1, c2⟩ := hr.cells
  clear hr
  go_enter Tryz.func211, Tryz.ntmps211
  go_wp2_with fail
  go_ret2
  exact ⟨rfl, rfl⟩

set_option maxRecDepth 100000 in
set_option maxHeartbeats 4000000 in
theorem upE_any (F : Nat) (IH : ∀ F', F' < F → EntC F') (s : ByteArray) (k0 dep rb : Nat) (w : World) (hs : s.size ≤ 4294967295) (hm : HasMax w) (hr : Rst s (k0 : Int) (dep : Int) rb w) (hF : 3 * (s.size - k0) + 1 ≤ F) (hk0 : k0 ≤ s.size) (hdep : dep < 64)
    (Y : Int × List Entr × Nat) (hY : Y = upE F s.data.toList (dep + 1) [] k0) :
    Calls Tryz.prog 211 #[.pointer (some ⟨rb, 0, none⟩), .int .i64 7, .func (.func 212) #[.pointer (some ⟨rb, 0, none⟩)] #[]] w (UpPost KE (·.1) s dep rb w Y) := by
  have HIH := Lib.hid IH
  have HM := Lib.hid hm
  have HR := Lib.hid hr
  have HY := Lib.hid hY.symm
  have eo := ent_entryOf
  unfold Ent at eo
  obtain ⟨c0, c1, c2⟩ := hr.cells
  have rf := Blk.free hr
  have hne : ((dep : Int) == 64) = false := by rw [beq_eq_false_iff_ne]; omega
  have R1 := Lib.hid (hr.deep ((dep : Int) + 1))
  have G1 := Lib.hid (gb_setAt w rb 2 (.int .i64 ((dep : Int) + 1)))
  have HZ := Lib.hid hr.lt
  clear IH hm hr hY
  go_enter Tryz.func211, Tryz.ntmps211
  go_wp2_with fail
  go_loopg [8] (F) (fun m a wr => ∃ (acc : List (Entr × Hd)) (k : Nat) (p : Option Addr) (cap : Nat), a = .slice p acc.length cap ∧ 3 * (s.size - k) + 1 ≤ m ∧ m ≤ F ∧ k ≤ s.size ∧ acc.length ≤ 1024 ∧ Hid (upE m s.data.toList (dep + 1) (acc.map (·.1)) k = Y) ∧ Rst s (k : Int) ((dep : Int) + 1) rb wr ∧ w.grownBy wr (some rb) ∧ OwnK KE w.heap.size wr (.slice p acc.length cap) acc)
  case atStart => exact ⟨[], k0, none, 0, rfl, hF, Nat.le_refl _, hk0, Nat.zero_le _, HY, R1.out, G1.out, OwnK.nil _ _ _⟩
  case round =>
    obtain ⟨acc, k, p, cap, rfl, hm1, hmF, hk, hacc, HU, hrk, hgk, hown⟩ := hrel
    obtain ⟨m, rfl⟩ : ∃ m, gk = m + 1 := ⟨gk - 1, by omega⟩
    have RK := Lib.hid hrk
    have GK := Lib.hid hgk
    have OK := Lib.hid hown
    obtain ⟨T, hT⟩ : ∃ T, T = Lx.nextV s.data.toList (k : Int) := ⟨_, rfl⟩
    have HU1 := Lib.hid (show Y = (if T.1 ≠ 0 then (T.1, [], 0) else if T.2.kind = 7 then (0, acc.map (·.1), T.2.to) else if T.2.kind = 0 then (4, [], 0) else if (acc.map (·.1)).length = 1024 then (6, [], 0)
      else if (entOf m s.data.toList (dep + 1) T.2).1 = 0 then upE m s.data.toList (dep + 1) (acc.map (·.1) ++ [(entOf m s.data.toList (dep + 1) T.2).2.1]) (entOf m s.data.toList (dep + 1) T.2).2.2 else ((entOf m s.data.toList (dep + 1) T.2).1, [], 0)) by
      rw [← HU.out, upE, ← hT])
    have HT := Lib.hid hT
    have TO := Lib.hid (show TokOk s T.2 by rw [hT]; exact tokOk_next s k)
    have TB := Lib.hid (fun h : T.1 = 0 => show (T.2.kind = 0 ∨ k < T.2.to) by
      rw [hT] at h ⊢
      have := Lx.next_bd s.data.toList (k : Int) h
      omega)
    clear hrk hgk hown hT HU R1 G1
    go_wp2_with fail
    (with_reducible refine (token_any s (k : Int) ((dep : Int) + 1) rb _ hs (HR.out.max HM.out GK.out) RK.out T HT.out).mono ?_)
    rintro e w2 ⟨rfl, hr2, hg2⟩
    obtain ⟨er, kd, fv, st, wh, fr, tq⟩ := T
    have G2 := Lib.hid (gb_trans GK.out hg2)
    have O2 := Lib.hid (OK.out.gb hg2 (fun _ e => by cases e; exact HZ.out))
    have R2 := Lib.hid hr2
    clear hr2 hg2 OK RK GK
    unfold tkV
    simp only [] at HU1 R2 TO TB ⊢
    by_cases he : er = 0
    · subst he
      have R3 := Lib.hid (show Rst s (tq : Int) ((dep : Int) + 1) rb w2 by simpa using R2.out)
      have TB3 := Lib.hid (TB.out rfl)
      have HU2 := Lib.hid (show Y = (if kd = 7 then (0, acc.map (·.1), tq) else if kd = 0 then (4, [], 0) else if (acc.map (·.1)).length = 1024 then (6, [], 0)
        else if (entOf m s.data.toList (dep + 1) ⟨kd, fv, st, wh, fr, tq⟩).1 = 0 then upE m s.data.toList (dep + 1) (acc.map (·.1) ++ [(entOf m s.data.toList (dep + 1) ⟨kd, fv, st, wh, fr, tq⟩).2.1]) (entOf m s.data.toList (dep + 1) ⟨kd, fv, st, wh, fr, tq⟩).2.2 else ((entOf m s.data.toList (dep + 1) ⟨kd, fv, st, wh, fr, tq⟩).1, [], 0)) by
        rw [HU1.out, if_neg (by simp)])
      have G3 := Lib.hid (gb_alloc G2.out (.cells #[.int .i64 kd, .int .i64 fv, .string ⟨st.toArray⟩, .bool wh, .int .i64 fr, .int .i64 tq] 108))
      have R4 := Lib.hid (R3.out.alloc (.cells #[.int .i64 kd, .int .i64 fv, .string ⟨st.toArray⟩, .bool wh, .int .i64 fr, .int .i64 tq] 108))
      have O4 := Lib.hid (O2.out.kept ((Kept.refl w2).alloc #[.int .i64 kd, .int .i64 fv, .string ⟨st.toArray⟩, .bool wh, .int .i64 fr, .int .i64 tq] 108))
      have B4 := Lib.hid (Blk.fresh w2 #[.int .i64 kd, .int .i64 fv, .string ⟨st.toArray⟩, .bool wh, .int .i64 fr, .int .i64 tq] 108)
      clear R2 TB HU1
      clear c0 c1 c2 rf
      obtain ⟨c0, c1, c2⟩ := R3.out.cells
      have rf := Blk.free R3.out
      have rz := R3.out.lt
      by_cases h7 : kd = 7
      · subst h7
        have HYV := Lib.hid (show Y = (0, acc.map (·.1), tq) by rw [HU2.out, if_pos rfl])
        have O5 := Lib.hid ((O2.out.gb (gb_setAt w2 rb 2 (.int .i64 dep)) (fun _ e => by cases e; exact HZ.out)).kept ((Kept.refl _).alloc #[.int .i64 7, .int .i64 fv, .string ⟨st.toArray⟩, .bool wh, .int .i64 fr, .int .i64 tq] 108))
        have R5 := Lib.hid ((R3.out.deep (dep : Int)).alloc (.cells #[.int .i64 7, .int .i64 fv, .string ⟨st.toArray⟩, .bool wh, .int .i64 fr, .int .i64 tq] 108))
        have G5 := Lib.hid (gb_alloc (gb_own G2.out 2 (.int .i64 dep)) (.cells #[.int .i64 7, .int .i64 fv, .string ⟨st.toArray⟩, .bool wh, .int .i64 fr, .int .i64 tq] 108))
        go_wp2_with fail
        go_ret2
        exact up_good G5.out acc p cap tq HYV.out hacc O5.out R5.out
      have e7 : (kd == 7) = false := by rw [beq_eq_false_iff_ne]; exact h7
      by_cases h0 : kd = 0
      · subst h0
        have HYV := Lib.hid (show Y = (4, [], 0) by rw [HU2.out, if_neg h7, if_pos rfl])
        go_wp2_with fail
        go_ret2
        exact up_bad G3.out 4 HYV.out (by decide)
      have e0 : (kd == 0) = false := by rw [beq_eq_false_iff_ne]; exact h0
      by_cases hl : acc.length = 1024
      · have HYV := Lib.hid (show Y = (6, [], 0) by rw [HU2.out, if_neg h7, if_neg h0, if_pos (by rw [List.length_map]; exact hl)])
        have el : ((acc.length : Int) == 1024) = true := by rw [beq_iff_eq]; omega
        have HL := Lib.hid hl
        clear hl h7 h0
        go_wp2_with fail
        go_ret2
        exact up_bad G3.out 6 HYV.out (by decide)
      have el : ((acc.length : Int) == 1024) = false := by rw [beq_eq_false_iff_ne]; omega
      obtain ⟨⟨xe, xo, xk⟩, hX⟩ : ∃ X, X = entOf m s.data.toList (dep + 1) ⟨kd, fv, st, wh, fr, tq⟩ := ⟨_, rfl⟩
      have HU3 := Lib.hid (show Y = if xe = 0 then upE m s.data.toList (dep + 1) (acc.map (·.1) ++ [xo]) xk else (xe, [], 0) by
        rw [HU2.out, if_neg h7, if_neg h0, if_neg (by rw [List.length_map]; exact hl), ← hX])
      have hlt : acc.length < 1024 := by omega
      have hkt : k < tq := by have := TB3.out; omega
      have htq : tq ≤ s.size := TO.out.1
      have CO := HIH.out m (by omega) s ⟨kd, fv, st, wh, fr, tq⟩ (dep + 1) rb (w2.alloc (.cells #[.int .i64 kd, .int .i64 fv, .string ⟨st.toArray⟩, .bool wh, .int .i64 fr, .int .i64 tq] 108)) hs (HR.out.max HM.out G3.out) TO.out R4.out (by simp only []; omega) (by omega)
      rw [← hX] at CO
      have XB := Lib.hid (fun h : xe = 0 => ent_to (F := m) (s := s) (dep := dep + 1) (t := ⟨kd, fv, st, wh, fr, tq⟩) htq (by rw [← hX]; exact h))
      rw [← hX] at XB
      unfold tkV at CO
      simp only [] at CO XB
      have CO1 := Lib.hid CO
      clear CO hX hl h7 h0 HU2
      have hsz2 := O2.out
      have MB := Lib.hid (show ∀ b, Value.ownBlock (.slice p acc.length cap) = some b → b < (w2.alloc (.cells #[.int .i64 kd, .int .i64 fv, .string ⟨st.toArray⟩, .bool wh, .int .i64 fr, .int .i64 tq] 108)).heap.size from fun b hb => (O4.out.own.lt b hb).2)
      have NB := Lib.hid (show w.heap.size ≤ (w2.alloc (.cells #[.int .i64 kd, .int .i64 fv, .string ⟨st.toArray⟩, .bool wh, .int .i64 fr, .int .i64 tq] 108)).heap.size from G3.out.size)
      clear hsz2
      by_cases hx0 : xe = 0
      · subst hx0
        have HU4 := Lib.hid (show upE m s.data.toList (dep + 1) (acc.map (·.1) ++ [xo]) xk = Y by rw [HU3.out, if_pos rfl])
        obtain ⟨hxk1, hxk2⟩ := XB.out rfl
        go_wp2_with fail
        (with_reducible refine CO1.out.mono ?_)
        rintro e w4 ⟨h, rfl, hr4, hg4, hx4⟩
        unfold entV
        simp only []
        have R6 := Lib.hid (hr4 rfl)
        have G6 := Lib.hid (gb_trans G3.out hg4)
        have X6 := Lib.hid hx4
        have O6 := Lib.hid (O4.out.gb hg4 (fun _ e => by cases e; exact HZ.out))
        have S6 := Lib.hid hg4.size
        clear hr4 hg4 hx4
        have O7 := Lib.hid (O6.out.kept ((Kept.refl w4).alloc #[.string xo.1, .int .i64 xo.2.k, .int .i64 xo.2.n, .int .i64 xo.2.f, .string xo.2.s, .slice h.p xo.2.l.length h.c, .slice h.q xo.2.d.length h.e] 143))
        have X7 := Lib.hid (X6.out.kept ((Kept.refl w4).alloc #[.string xo.1, .int .i64 xo.2.k, .int .i64 xo.2.n, .int .i64 xo.2.f, .string xo.2.s, .slice h.p xo.2.l.length h.c, .slice h.q xo.2.d.length h.e] 143))
        have G7 := Lib.hid (gb_alloc (gb_alloc G6.out (.cells #[.string xo.1, .int .i64 xo.2.k, .int .i64 xo.2.n, .int .i64 xo.2.f, .string xo.2.s, .slice h.p xo.2.l.length h.c, .slice h.q xo.2.d.length h.e] 143)) (.cells #[.string xo.1, .int .i64 xo.2.k, .int .i64 xo.2.n, .int .i64 xo.2.f, .string xo.2.s, .slice h.p xo.2.l.length h.c, .slice h.q xo.2.d.length h.e] 143))
        have R7 := Lib.hid ((R6.out.alloc (.cells #[.string xo.1, .int .i64 xo.2.k, .int .i64 xo.2.n, .int .i64 xo.2.f, .string xo.2.s, .slice h.p xo.2.l.length h.c, .slice h.q xo.2.d.length h.e] 143)).alloc (.cells #[.string xo.1, .int .i64 xo.2.k, .int .i64 xo.2.n, .int .i64 xo.2.f, .string xo.2.s, .slice h.p xo.2.l.length h.c, .slice h.q xo.2.d.length h.e] 143))
        have hB : w.heap.size ≤ (w4.alloc (.cells #[.string xo.1, .int .i64 xo.2.k, .int .i64 xo.2.n, .int .i64 xo.2.f, .string xo.2.s, .slice h.p xo.2.l.length h.c, .slice h.q xo.2.d.length h.e] 143)).heap.size := (gb_alloc G6.out _).size
        have OL := Lib.hid (fun k hk => (O7.out.own.lt k hk).1)
        go_wp2_with (at_builtin; refine wpList_app_ent rfl _ _ rfl w.heap.size acc O7.out rfl (xo, h) _ rfl (w4.heap.size + 1) (by simp) rfl hB (by omega) ?_)
        intro g cap' w5 own5 hg5 hl5 hlt5
        have G8 := Lib.hid (gb_thenOwn G7.out hg5 OL.out)
        have R8 := Lib.hid (R7.out.gbOwn hg5 OL.out HZ.out)
        have O8 := Lib.hid (OwnK.app (x := (xo, h)) O7.out X7.out MB.out NB.out own5 hg5 (by simpa using hl5))
        have hLen : (acc ++ [(xo, h)]).length = acc.length + 1 := by simp
        have HLen := Lib.hid hLen
        clear own5 hg5 hl5 hlt5 hLen
        go_wp2_with fail
        go_roundg m
        case measure => omega
        case rel =>
          refine ⟨acc ++ [(xo, h)], xk, some ⟨g, 0, none⟩, cap', by rw [HLen.out], by omega, by omega, hxk2, by rw [HLen.out]; omega, Lib.hid ?_, R8.out, G8.out, by rw [HLen.out]; exact O8.out⟩
          rw [List.map_append]; exact HU4.out
      · have HYV := Lib.hid (show Y = (xe, [], 0) by rw [HU3.out, if_neg hx0])
        have hne1 : (xe != 0) = true := by simpa using hx0
        have hx0' := Lib.hid hx0
        clear hx0
        go_wp2_with fail
        (with_reducible refine CO1.out.mono ?_)
        rintro e w4 ⟨h, rfl, hr4, hg4, hx4⟩
        unfold entV
        simp only []
        have G6 := Lib.hid (gb_trans G3.out hg4)
        clear hr4 hg4 hx4
        go_wp2_with fail
        go_ret2
        exact up_bad (gb_alloc G6.out _) xe HYV.out hx0'.out
    · have HYV := Lib.hid (show Y = (er, [], 0) by rw [HU1.out, if_pos he])
      have hne1 : (er != 0) = true := by simpa using he
      have he' := Lib.hid he
      clear he
      go_wp2_with fail
      go_ret2
      exact up_bad (gb_alloc G2.out _) er HYV.out he'.out

end Go.Proofs.YtbgdeaeikijdgaaGreatDoor
