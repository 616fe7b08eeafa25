/-
  The law CosSame, walked.
-/
import Derived.Test.YtdfgbdonnpbfcaaCosAwake
import Derived.Test.YtdfgbdonnpbfcaaCosFew
import Derived.Test.YtdfgbdonnpbfcaaCosMath
namespace Go.Proofs.Ytdfgbdonnpbfcaa
open Go.RowKit Cx
set_option linter.unusedSimpArgs false
set_option linter.unusedVariables false

theorem count_le_mk : ∀ N : Nat, ∀ o : Ob, SizeOf.sizeOf o ≤ N → o.count ≤ o.wt := by
  intro N
  induction N with
  | zero => intro o h; cases o; simp at h
  | succ N ih =>
    intro o h
    have hL : ∀ l : List Ob, (∀ x ∈ l, x.count ≤ x.wt) → countL l ≤ wtL l := by
      intro l
      induction l with
      | nil => intro _; rw [countL]; exact Nat.zero_le _
      | cons x r ihl =>
        intro hx
        have h1 := hx x List.mem_cons_self
        have h2 := ihl fun y hy => hx y (List.mem_cons_of_mem _ hy)
        rw [countL_cons, wtL_cons]; omega
    have hD : ∀ l : List Entr, (∀ x ∈ l, x.2.count ≤ x.2.wt) → countD l ≤ wtD l := by
      intro l
      induction l with
      | nil => intro _; rw [countD]; exact Nat.zero_le _
      | cons x r ihl =>
        intro hx
        have h1 := hx x List.mem_cons_self
        have h2 := ihl fun y hy => hx y (List.mem_cons_of_mem _ hy)
        rw [countD_cons, wtD_cons]; omega
    have h1 := hL o.l fun x hx => ih x (by have := sizeOf_l hx; omega)
    have h2 := hD o.d fun x hx => ih x.2 (by have := sizeOf_d hx; omega)
    rw [wt_eq]
    obtain ⟨k, n, f, s, l, d⟩ := o
    rw [count_mk]
    simp only [Ob.l, Ob.d, Ob.s] at h1 h2 ⊢
    split <;> split <;> omega
theorem count_le_wt (o : Ob) : o.count ≤ o.wt := count_le_mk _ o (Nat.le_refl _)

theorem rowAt_blk {P : Nat → Prop} {w : World} {b : Nat} {cs : List Value} {t : TypeId} (hP : P b) (hb : Blk w b cs.toArray t) (off : Nat) (row : List Value) (h : ∀ j v, row[j]? = some v → cs[off + j]? = some v) : RowAt (Cel P w) b off row := by
  intro j v hj
  refine ⟨hP, ?_⟩
  rw [hb.cell (off + j), List.getElem?_toArray]
  exact h j v hj
theorem lies_in {P : Nat → Prop} {w : World} {a : Ob} {h : Hd} {b : Nat} {t : TypeId} (hl : Lies (Cel P w) a h) (hP : P b) (hb : Blk w b (cells6 a h).toArray t) : Lies (Cel P w) (inA a) ⟨some ⟨b, 0, none⟩, 1, none, 0⟩ := by
  refine .mk 5 0 0 ⟨#[]⟩ [a] [] _ (fun _ => h) (fun _ => h) ⟨Nat.le_of_lt (by simp [maxLen]), Nat.zero_le _, Nat.zero_le _⟩ (fun i hi => ?_) (fun i hi => ?_) (fun _ hi => absurd hi (Nat.not_lt_zero _)) (fun _ hi => absurd hi (Nat.not_lt_zero _)) (fun _ hi => absurd hi (Nat.not_lt_zero _))
  · obtain rfl : i = 0 := by simpa using hi
    exact hl
  · obtain rfl : i = 0 := by simpa using hi
    exact ⟨b, 0, rfl, rowAt_blk hP hb _ _ fun j v hj => by simpa using hj⟩
theorem lies_two {P : Nat → Prop} {w : World} {a c : Ob} {h g : Hd} {b : Nat} {t : TypeId} {key other : ByteArray} (hl : Lies (Cel P w) a h) (hl' : Lies (Cel P w) c g) (hk : key.size ≤ maxLen) (hk' : other.size ≤ maxLen) (hP : P b) (hb : Blk w b (cells7 (key, a) h ++ cells7 (other, c) g).toArray t) :
    Lies (Cel P w) (two key other a c) ⟨none, 0, some ⟨b, 0, none⟩, 2⟩ := by
  refine .mk 6 0 0 ⟨#[]⟩ [] [(key, a), (other, c)] _ (fun _ => h) (fun i => if i = 0 then h else g) ⟨Nat.zero_le _, Nat.le_of_lt (by simp [maxLen]), Nat.zero_le _⟩ (fun _ hi => absurd hi (Nat.not_lt_zero _)) (fun _ hi => absurd hi (Nat.not_lt_zero _)) (fun i hi => ?_) (fun i hi => ?_) (fun i hi => ?_)
  · match i, hi with
    | 0, _ => exact hl
    | 1, _ => exact hl'
  · match i, hi with
    | 0, _ => exact hk
    | 1, _ => exact hk'
  · match i, hi with
    | 0, _ => exact ⟨b, 0, rfl, rowAt_blk hP hb _ _ fun j v hj => by
        have hj7 : j < 7 := (List.getElem?_eq_some_iff.1 hj).1
        rw [show 0 + 0 * 7 + j = j by omega, List.getElem?_append_left (by exact hj7)]; exact hj⟩
    | 1, _ => exact ⟨b, 0, rfl, rowAt_blk hP hb _ _ fun j v hj => by
        rw [List.getElem?_append_right (by show 7 ≤ _; omega), show 0 + 1 * 7 + j - (cells7 (key, a) h).length = j by show 0 + 1 * 7 + j - 7 = j; omega]; exact hj⟩

set_option maxRecDepth 100000 in
set_option maxHeartbeats 4000000 in
theorem cosSameLaw_any (a : Ob) (ha : Hd) (b : Ob) (hb : Hd) (key : ByteArray) (w : World) (hm : HasMax w) (hla : Lies (Cel (fun _ => True) w) a ha) (hfa : Ob.Fits 140737488355328 a) (hlb : Lies (Cel (fun _ => True) w) b hb) (hfb : Ob.Fits 140737488355328 b) :
    Calls Try.prog 4 #[objV a ha, objV b hb, .string key] w fun e w' => e = .returned (.bool true) ∧ Kept w w' := by
  have HM := Lib.hid hm
  have LA := Lib.hid hla
  have LB := Lib.hid hlb
  have FA := Lib.hid (fun w' (k : Kept w w') => Few_any _ a ha 2000 w' (hla.kept k) hfa (by omega) (by omega))
  have FB := Lib.hid (fun w' (k : Kept w w') => Few_any _ b hb 2000 w' (hlb.kept k) hfb (by omega) (by omega))
  have WA := Lib.hid (fun h => few_le a 2000 0 h)
  have WB := Lib.hid (fun h => few_le b 2000 0 h)
  obtain ⟨pa, ca, qa, ea⟩ := ha
  obtain ⟨pb, cb, qb, eb⟩ := hb
  have HX := Lib.hid (In.fresh' (k := w.heap.size + 1) (In.fresh (In.start w) #[.int .i64 a.k, .int .i64 a.n, .int .i64 a.f, .string a.s, .slice pa a.l.length ca, .slice qa a.d.length ea] 26) #[.int .i64 b.k, .int .i64 b.n, .int .i64 b.f, .string b.s, .slice pb b.l.length cb, .slice qb b.d.length eb] 26 (by simp))
  have KX := Lib.hid (In.k HX.out)
  have HMX := Lib.hid (hm.kept KX.out)
  clear hm hla hlb hfa hfb
  unfold objV at FA FB ⊢
  simp only [] at FA FB
  obtain ⟨ya, hya⟩ : ∃ ya, ya = decide (0 ≤ few a 2000 0) := ⟨_, rfl⟩
  obtain ⟨yb, hyb⟩ : ∃ yb, yb = decide (0 ≤ few b 2000 0) := ⟨_, rfl⟩
  rw [← hya] at FA
  rw [← hyb] at FB
  have HYA := Lib.hid hya
  have HYB := Lib.hid hyb
  clear hya hyb
  go_enter Try.func4, Try.ntmps4
  go_wp2_with fail
  (with_reducible refine (cosAwake_any _ HMX.out).mono ?_)
  rintro e w1 ⟨rfl, hk1⟩
  have HX1 := Lib.hid (HX.out.kept hk1)
  have K1 := Lib.hid (In.k HX1.out)
  obtain ⟨t0, t1, t2, t3, t4, t5⟩ := (HX1.out.mem (List.mem_cons_of_mem _ List.mem_cons_self)).cells6
  obtain ⟨v0, v1, v2, v3, v4, v5⟩ := (HX1.out.mem List.mem_cons_self).cells6
  clear hk1
  cases ya
  · go_wp2_with fail
    (with_reducible refine (FA.out _ K1.out).mono ?_)
    rintro e w2 ⟨rfl, hk2⟩
    have K2 := Lib.hid (K1.out.trans hk2)
    clear hk2
    go_wp2_with fail
    go_ret
    exact ⟨rfl, K2.out⟩
  · go_wp2_with fail
    (with_reducible refine (FA.out _ K1.out).mono ?_)
    rintro e w2 ⟨rfl, hk2⟩
    have HX2 := Lib.hid (HX1.out.kept hk2)
    have K2 := Lib.hid (In.k HX2.out)
    have WA1 := Lib.hid (WA.out (of_decide_eq_true HYA.out.symm))
    clear t0 t1 t2 t3 t4 t5 v0 v1 v2 v3 v4 v5
    obtain ⟨t0, t1, t2, t3, t4, t5⟩ := (HX2.out.mem (List.mem_cons_of_mem _ List.mem_cons_self)).cells6
    obtain ⟨v0, v1, v2, v3, v4, v5⟩ := (HX2.out.mem List.mem_cons_self).cells6
    clear hk2
    cases yb
    · go_wp2_with fail
      (with_reducible refine (FB.out _ K2.out).mono ?_)
      rintro e w3 ⟨rfl, hk3⟩
      have K3 := Lib.hid (K2.out.trans hk3)
      clear hk3
      go_wp2_with fail
      go_ret
      exact ⟨rfl, K3.out⟩
    · go_wp2_with fail
      (with_reducible refine (FB.out _ K2.out).mono ?_)
      rintro e w3 ⟨rfl, hk3⟩
      have HX3 := Lib.hid (HX2.out.kept hk3)
      have K3 := Lib.hid (In.k HX3.out)
      have WB1 := Lib.hid (WB.out (of_decide_eq_true HYB.out.symm))
      clear t0 t1 t2 t3 t4 t5 v0 v1 v2 v3 v4 v5
      obtain ⟨t0, t1, t2, t3, t4, t5⟩ := (HX3.out.mem (List.mem_cons_of_mem _ List.mem_cons_self)).cells6
      obtain ⟨v0, v1, v2, v3, v4, v5⟩ := (HX3.out.mem List.mem_cons_self).cells6
      clear hk3
      by_cases hkey : 300 < key.size
      · go_wp2_with fail
        go_ret
        exact ⟨rfl, K3.out⟩
      · have z0 := (HX3.out.mem (List.mem_cons_of_mem _ List.mem_cons_self)).lt
        have z1 := (HX3.out.mem List.mem_cons_self).lt
        have hks : key.size ≤ 300 := by omega
        obtain ⟨B0, hB0⟩ : ∃ B0, B0 = w.heap.size + 1 := ⟨_, rfl⟩
        rw [← hB0] at HX3 z1 v0 v1 v2 v3 v4 v5 ⊢
        obtain ⟨A0, hA0⟩ : ∃ A0, A0 = w.heap.size := ⟨_, rfl⟩
        rw [← hA0] at HX3 z0 t0 t1 t2 t3 t4 t5 ⊢
        clear hA0 hB0
        have HX7 := Lib.hid (In.fresh' (k := w3.heap.size + 1 + 1 + 1 + 1 + 1) (In.fresh' (k := w3.heap.size + 1 + 1 + 1 + 1) (In.fresh' (k := w3.heap.size + 1 + 1 + 1) (In.fresh' (k := w3.heap.size + 1 + 1) (In.fresh' (k := w3.heap.size + 1) (In.fresh' (k := w3.heap.size) HX3.out #[.int .i64 a.k, .int .i64 a.n, .int .i64 a.f, .string a.s, .slice pa a.l.length ca, .slice qa a.d.length ea] 26 (by simp)) #[.int .i64 5, .int .i64 0, .int .i64 0, .string ⟨#[]⟩, .slice (some ⟨w3.heap.size, 0, none⟩) 1 1, .slice none 0 0] 26 (by simp)) #[.string key, .int .i64 a.k, .int .i64 a.n, .int .i64 a.f, .string a.s, .slice pa a.l.length ca, .slice qa a.d.length ea, .string (key ++ ⟨#[120]⟩), .int .i64 b.k, .int .i64 b.n, .int .i64 b.f, .string b.s, .slice pb b.l.length cb, .slice qb b.d.length eb] 34 (by simp)) #[.int .i64 6, .int .i64 0, .int .i64 0, .string ⟨#[]⟩, .slice none 0 0, .slice (some ⟨w3.heap.size + 1 + 1, 0, none⟩) 2 2] 26 (by simp)) #[.string (key ++ ⟨#[120]⟩), .int .i64 b.k, .int .i64 b.n, .int .i64 b.f, .string b.s, .slice pb b.l.length cb, .slice qb b.d.length eb, .string key, .int .i64 a.k, .int .i64 a.n, .int .i64 a.f, .string a.s, .slice pa a.l.length ca, .slice qa a.d.length ea] 34 (by simp)) #[.int .i64 6, .int .i64 0, .int .i64 0, .string ⟨#[]⟩, .slice none 0 0, .slice (some ⟨w3.heap.size + 1 + 1 + 1 + 1, 0, none⟩) 2 2] 26 (by simp))
        have za1 : A0 < w3.heap.size + 1 := by omega
        have za2 : A0 < w3.heap.size + 1 + 1 := by omega
        have za3 : A0 < w3.heap.size + 1 + 1 + 1 := by omega
        have za4 : A0 < w3.heap.size + 1 + 1 + 1 + 1 := by omega
        have zb1 : B0 < w3.heap.size + 1 := by omega
        have zb2 : B0 < w3.heap.size + 1 + 1 := by omega
        have zb3 : B0 < w3.heap.size + 1 + 1 + 1 := by omega
        have zb4 : B0 < w3.heap.size + 1 + 1 + 1 + 1 := by omega
        clear HX HX1 HX2 KX K1 K2 K3 HMX
        go_wp2_with fail
        obtain ⟨E0, hE0⟩ : ∃ E0, E0 = w3.heap.size + 1 + 1 + 1 + 1 + 1 := ⟨_, rfl⟩
        rw [← hE0] at HX7 ⊢
        clear hE0
        obtain ⟨P2, hP2⟩ : ∃ P2, P2 = w3.heap.size + 1 + 1 + 1 + 1 := ⟨_, rfl⟩
        rw [← hP2] at HX7 ⊢
        clear hP2
        obtain ⟨D0, hD0⟩ : ∃ D0, D0 = w3.heap.size + 1 + 1 + 1 := ⟨_, rfl⟩
        rw [← hD0] at HX7 ⊢
        clear hD0
        obtain ⟨P1, hP1⟩ : ∃ P1, P1 = w3.heap.size + 1 + 1 := ⟨_, rfl⟩
        rw [← hP1] at HX7 ⊢
        clear hP1
        obtain ⟨C0, hC0⟩ : ∃ C0, C0 = w3.heap.size + 1 := ⟨_, rfl⟩
        rw [← hC0] at HX7 ⊢
        clear hC0
        obtain ⟨P0, hP0⟩ : ∃ P0, P0 = w3.heap.size := ⟨_, rfl⟩
        rw [← hP0] at HX7 ⊢
        clear hP0
        generalize ((((((w3.alloc (.cells #[.int .i64 a.k, .int .i64 a.n, .int .i64 a.f, .string a.s, .slice pa a.l.length ca, .slice qa a.d.length ea] 26)).alloc (.cells #[.int .i64 5, .int .i64 0, .int .i64 0, .string ⟨#[]⟩, .slice (some ⟨P0, 0, none⟩) 1 1, .slice none 0 0] 26)).alloc (.cells #[.string key, .int .i64 a.k, .int .i64 a.n, .int .i64 a.f, .string a.s, .slice pa a.l.length ca, .slice qa a.d.length ea, .string (key ++ ⟨#[120]⟩), .int .i64 b.k, .int .i64 b.n, .int .i64 b.f, .string b.s, .slice pb b.l.length cb, .slice qb b.d.length eb] 34)).alloc (.cells #[.int .i64 6, .int .i64 0, .int .i64 0, .string ⟨#[]⟩, .slice none 0 0, .slice (some ⟨P1, 0, none⟩) 2 2] 26)).alloc (.cells #[.string (key ++ ⟨#[120]⟩), .int .i64 b.k, .int .i64 b.n, .int .i64 b.f, .string b.s, .slice pb b.l.length cb, .slice qb b.d.length eb, .string key, .int .i64 a.k, .int .i64 a.n, .int .i64 a.f, .string a.s, .slice pa a.l.length ca, .slice qa a.d.length ea] 34)).alloc (.cells #[.int .i64 6, .int .i64 0, .int .i64 0, .string ⟨#[]⟩, .slice none 0 0, .slice (some ⟨P2, 0, none⟩) 2 2] 26)) = W at HX7 ⊢
        have KW := Lib.hid (In.k HX7.out)
        have LAW := Lib.hid (LA.out.kept KW.out)
        have LBW := Lib.hid (LB.out.kept KW.out)
        have hkm : key.size ≤ maxLen := by unfold maxLen; omega
        have hxs : (key ++ ⟨#[120]⟩ : ByteArray).size = key.size + 1 := by rw [ByteArray.size_append]; rfl
        have hxm : (key ++ ⟨#[120]⟩ : ByteArray).size ≤ maxLen := by rw [hxs]; unfold maxLen; omega
        have hne : key ≠ key ++ ⟨#[120]⟩ := fun e => by
          have := congrArg ByteArray.size e
          rw [hxs] at this; omega
        have LIN := Lib.hid (lies_in (t := 26) LAW.out trivial (HX7.out.mem (List.mem_cons_of_mem _ (List.mem_cons_of_mem _ (List.mem_cons_of_mem _ (List.mem_cons_of_mem _ (List.mem_cons_of_mem _ List.mem_cons_self)))))))
        have LD := Lib.hid (lies_two (t := 34) (key := key) (other := key ++ ⟨#[120]⟩) LAW.out LBW.out hkm hxm trivial (HX7.out.mem (List.mem_cons_of_mem _ (List.mem_cons_of_mem _ (List.mem_cons_of_mem _ List.mem_cons_self)))))
        have LE := Lib.hid (lies_two (t := 34) (key := key ++ ⟨#[120]⟩) (other := key) LBW.out LAW.out hxm hkm trivial (HX7.out.mem (List.mem_cons_of_mem _ List.mem_cons_self)))
        have wa : a.wt ≤ 2000 := by have := WA1.out; omega
        have wb : b.wt ≤ 2000 := by have := WB1.out; omega
        have na : a.count ≤ 2000 := Nat.le_trans (count_le_wt a) wa
        have nb : b.count ≤ 2000 := Nat.le_trans (count_le_wt b) wb
        have wi : (inA a).wt ≤ 4294967296 := by unfold inA; rw [wt_eq]; simp only [Ob.s, Ob.l, Ob.d, wtL, wtD]; show 1 + 0 + (a.wt + 0) + 0 ≤ _; omega
        have wd : (two key (key ++ ⟨#[120]⟩) a b).wt ≤ 4294967296 := by unfold two; rw [wt_eq]; simp only [Ob.s, Ob.l, Ob.d, wtL, wtD, hxs]; show 1 + 0 + 0 + (key.size + a.wt + (key.size + 1 + b.wt + 0)) ≤ _; omega
        have we : (two (key ++ ⟨#[120]⟩) key b a).wt ≤ 4294967296 := by unfold two; rw [wt_eq]; simp only [Ob.s, Ob.l, Ob.d, wtL, wtD, hxs]; show 1 + 0 + 0 + (key.size + 1 + b.wt + (key.size + a.wt + 0)) ≤ _; omega
        obtain ⟨Y, hY⟩ : ∃ Y, Y = a.same b := ⟨_, rfl⟩
        obtain ⟨NA, hNA⟩ : ∃ NA, NA = a.count := ⟨_, rfl⟩
        obtain ⟨NB, hNB⟩ : ∃ NB, NB = b.count := ⟨_, rfl⟩
        have C1 := Lib.hid (show ∀ w', Kept W w' → Calls Try.prog 12 #[.agg #[.int .i64 a.k, .int .i64 a.n, .int .i64 a.f, .string a.s, .slice pa a.l.length ca, .slice qa a.d.length ea], .agg #[.int .i64 a.k, .int .i64 a.n, .int .i64 a.f, .string a.s, .slice pa a.l.length ca, .slice qa a.d.length ea]] w' fun e w'' => e = .returned (.bool true) ∧ Kept w' w'' from fun w' k => by
          have h := cosSame_any (fun _ => True) a a _ _ w' (LAW.out.kept k) (LAW.out.kept k) (by omega) (by omega)
          rw [same_self] at h; exact h)
        have C2 := Lib.hid (show ∀ w', Kept W w' → Calls Try.prog 12 #[.agg #[.int .i64 a.k, .int .i64 a.n, .int .i64 a.f, .string a.s, .slice pa a.l.length ca, .slice qa a.d.length ea], .agg #[.int .i64 b.k, .int .i64 b.n, .int .i64 b.f, .string b.s, .slice pb b.l.length cb, .slice qb b.d.length eb]] w' fun e w'' => e = .returned (.bool Y) ∧ Kept w' w'' from fun w' k => by
          have h := cosSame_any (fun _ => True) a b _ _ w' (LAW.out.kept k) (LBW.out.kept k) (by omega) (by omega)
          rw [← hY] at h; exact h)
        have C3 := Lib.hid (show ∀ w', Kept W w' → Calls Try.prog 12 #[.agg #[.int .i64 b.k, .int .i64 b.n, .int .i64 b.f, .string b.s, .slice pb b.l.length cb, .slice qb b.d.length eb], .agg #[.int .i64 a.k, .int .i64 a.n, .int .i64 a.f, .string a.s, .slice pa a.l.length ca, .slice qa a.d.length ea]] w' fun e w'' => e = .returned (.bool Y) ∧ Kept w' w'' from fun w' k => by
          have h := cosSame_any (fun _ => True) b a _ _ w' (LBW.out.kept k) (LAW.out.kept k) (by omega) (by omega)
          rw [same_comm, ← hY] at h; exact h)
        have C4 := Lib.hid (show ∀ w', Kept W w' → Calls Try.prog 12 #[.agg #[.int .i64 a.k, .int .i64 a.n, .int .i64 a.f, .string a.s, .slice pa a.l.length ca, .slice qa a.d.length ea], .agg #[.int .i64 5, .int .i64 0, .int .i64 0, .string ⟨#[]⟩, .slice (some ⟨P0, 0, none⟩) 1 1, .slice none 0 0]] w' fun e w'' => e = .returned (.bool false) ∧ Kept w' w'' from fun w' k => by
          have h := cosSame_any (fun _ => True) a (inA a) _ _ w' (LAW.out.kept k) (LIN.out.kept k) (by omega) wi
          rw [same_in] at h; exact h)
        have C5 := Lib.hid (show ∀ w', Kept W w' → Calls Try.prog 12 #[.agg #[.int .i64 6, .int .i64 0, .int .i64 0, .string ⟨#[]⟩, .slice none 0 0, .slice (some ⟨P1, 0, none⟩) 2 2], .agg #[.int .i64 6, .int .i64 0, .int .i64 0, .string ⟨#[]⟩, .slice none 0 0, .slice (some ⟨P2, 0, none⟩) 2 2]] w' fun e w'' => e = .returned (.bool true) ∧ Kept w' w'' from fun w' k => by
          have h := cosSame_any (fun _ => True) (two key (key ++ ⟨#[120]⟩) a b) (two (key ++ ⟨#[120]⟩) key b a) _ _ w' (LD.out.kept k) (LE.out.kept k) wd we
          rw [same_two _ _ hne] at h; exact h)
        have N1 := Lib.hid (show ∀ w', Kept W w' → Calls Try.prog 13 #[.agg #[.int .i64 a.k, .int .i64 a.n, .int .i64 a.f, .string a.s, .slice pa a.l.length ca, .slice qa a.d.length ea]] w' fun e w'' => e = .returned (.int .i64 NA) ∧ Kept w' w'' from fun w' k => by
          have h := Count_any (fun _ => True) _ a _ w' (Nat.le_refl _) (LAW.out.kept k) (by omega)
          rw [← hNA] at h; exact h)
        have N2 := Lib.hid (show ∀ w', Kept W w' → Calls Try.prog 13 #[.agg #[.int .i64 b.k, .int .i64 b.n, .int .i64 b.f, .string b.s, .slice pb b.l.length cb, .slice qb b.d.length eb]] w' fun e w'' => e = .returned (.int .i64 NB) ∧ Kept w' w'' from fun w' k => by
          have h := Count_any (fun _ => True) _ b _ w' (Nat.le_refl _) (LBW.out.kept k) (by omega)
          rw [← hNB] at h; exact h)
        have N3 := Lib.hid (show ∀ w', Kept W w' → Calls Try.prog 13 #[.agg #[.int .i64 5, .int .i64 0, .int .i64 0, .string ⟨#[]⟩, .slice (some ⟨P0, 0, none⟩) 1 1, .slice none 0 0]] w' fun e w'' => e = .returned (.int .i64 (NA + 1)) ∧ Kept w' w'' from fun w' k => by
          have h := Count_any (fun _ => True) _ (inA a) _ w' (Nat.le_refl _) (LIN.out.kept k) (by rw [count_in]; omega)
          rw [count_in, ← hNA] at h; exact h)
        have N4 := Lib.hid (show ∀ w', Kept W w' → Calls Try.prog 13 #[.agg #[.int .i64 6, .int .i64 0, .int .i64 0, .string ⟨#[]⟩, .slice none 0 0, .slice (some ⟨P1, 0, none⟩) 2 2]] w' fun e w'' => e = .returned (.int .i64 (NA + NB + 1)) ∧ Kept w' w'' from fun w' k => by
          have h := Count_any (fun _ => True) _ (two key (key ++ ⟨#[120]⟩) a b) _ w' (Nat.le_refl _) (LD.out.kept k) (by rw [count_two]; omega)
          rw [count_two, ← hNA, ← hNB] at h; exact h)
        have hna : NA ≤ 2000 := by omega
        have hnb : NB ≤ 2000 := by omega
        have hw1 : IntKind.i64.wrap ((NA : Int) + 1) = (NA : Int) + 1 := by rw [IntKind.wrap_i64]; omega
        have hw2 : IntKind.i64.wrap ((NA : Int) + (NB : Int)) = (NA : Int) + (NB : Int) := by rw [IntKind.wrap_i64]; omega
        have hw3 : IntKind.i64.wrap ((NA : Int) + (NB : Int) + 1) = (NA : Int) + (NB : Int) + 1 := by rw [IntKind.wrap_i64]; omega
        have hyy : (Y == Y) = true := beq_self_eq_true _
        have hq1 : ((NA : Int) + 1 == (NA : Int) + 1) = true := beq_self_eq_true _
        have hq2 : ((NA : Int) + (NB : Int) + 1 == (NA : Int) + (NB : Int) + 1) = true := beq_self_eq_true _
        have SK := Lib.hid (show ∀ w', Kept W w' → (w'.cell? ⟨A0, 0, none⟩ = some (.int .i64 a.k) ∧ w'.cell? ⟨A0, 1, none⟩ = some (.int .i64 a.n) ∧ w'.cell? ⟨A0, 2, none⟩ = some (.int .i64 a.f) ∧ w'.cell? ⟨A0, 3, none⟩ = some (.string a.s) ∧ w'.cell? ⟨A0, 4, none⟩ = some (.slice pa a.l.length ca) ∧ w'.cell? ⟨A0, 5, none⟩ = some (.slice qa a.d.length ea)) ∧ (w'.cell? ⟨B0, 0, none⟩ = some (.int .i64 b.k) ∧ w'.cell? ⟨B0, 1, none⟩ = some (.int .i64 b.n) ∧ w'.cell? ⟨B0, 2, none⟩ = some (.int .i64 b.f) ∧ w'.cell? ⟨B0, 3, none⟩ = some (.string b.s) ∧ w'.cell? ⟨B0, 4, none⟩ = some (.slice pb b.l.length cb) ∧ w'.cell? ⟨B0, 5, none⟩ = some (.slice qb b.d.length eb)) ∧ (w'.cell? ⟨C0, 0, none⟩ = some (.int .i64 5) ∧ w'.cell? ⟨C0, 1, none⟩ = some (.int .i64 0) ∧ w'.cell? ⟨C0, 2, none⟩ = some (.int .i64 0) ∧ w'.cell? ⟨C0, 3, none⟩ = some (.string ⟨#[]⟩) ∧ w'.cell? ⟨C0, 4, none⟩ = some (.slice (some ⟨P0, 0, none⟩) 1 1) ∧ w'.cell? ⟨C0, 5, none⟩ = some (.slice none 0 0)) ∧ (w'.cell? ⟨D0, 0, none⟩ = some (.int .i64 6) ∧ w'.cell? ⟨D0, 1, none⟩ = some (.int .i64 0) ∧ w'.cell? ⟨D0, 2, none⟩ = some (.int .i64 0) ∧ w'.cell? ⟨D0, 3, none⟩ = some (.string ⟨#[]⟩) ∧ w'.cell? ⟨D0, 4, none⟩ = some (.slice none 0 0) ∧ w'.cell? ⟨D0, 5, none⟩ = some (.slice (some ⟨P1, 0, none⟩) 2 2)) ∧ (w'.cell? ⟨E0, 0, none⟩ = some (.int .i64 6) ∧ w'.cell? ⟨E0, 1, none⟩ = some (.int .i64 0) ∧ w'.cell? ⟨E0, 2, none⟩ = some (.int .i64 0) ∧ w'.cell? ⟨E0, 3, none⟩ = some (.string ⟨#[]⟩) ∧ w'.cell? ⟨E0, 4, none⟩ = some (.slice none 0 0) ∧ w'.cell? ⟨E0, 5, none⟩ = some (.slice (some ⟨P2, 0, none⟩) 2 2)) from fun w' k => ⟨((HX7.out.mem (List.mem_cons_of_mem _ (List.mem_cons_of_mem _ (List.mem_cons_of_mem _ (List.mem_cons_of_mem _ (List.mem_cons_of_mem _ (List.mem_cons_of_mem _ (List.mem_cons_of_mem _ List.mem_cons_self)))))))).kept k).cells6, ((HX7.out.mem (List.mem_cons_of_mem _ (List.mem_cons_of_mem _ (List.mem_cons_of_mem _ (List.mem_cons_of_mem _ (List.mem_cons_of_mem _ (List.mem_cons_of_mem _ List.mem_cons_self))))))).kept k).cells6, ((HX7.out.mem (List.mem_cons_of_mem _ (List.mem_cons_of_mem _ (List.mem_cons_of_mem _ (List.mem_cons_of_mem _ List.mem_cons_self))))).kept k).cells6, ((HX7.out.mem (List.mem_cons_of_mem _ (List.mem_cons_of_mem _ List.mem_cons_self))).kept k).cells6, ((HX7.out.mem List.mem_cons_self).kept k).cells6⟩)
        have KX := Lib.hid (Kept.refl W)
        clear t0 t1 t2 t3 t4 t5 v0 v1 v2 v3 v4 v5 hY hNA hNB wi wd we wa wb na nb hne hxm hxs hkm za1 za2 za3 za4 zb1 zb2 zb3 zb4 z0 z1 HX3 LIN LD LE LAW LBW LA LB WA WB WA1 WB1 HYA HYB FA FB HM HX7
        obtain ⟨⟨s0, s1, s2, s3, s4, s5⟩, ⟨u0, u1, u2, u3, u4, u5⟩, ⟨x0, x1, x2, x3, x4, x5⟩, ⟨y0, y1, y2, y3, y4, y5⟩, z0, z1, z2, z3, z4, z5⟩ := SK.out _ KX.out
        go_region_held3 (fun w' => (w'.cell? ⟨A0, 0, none⟩ = some (.int .i64 a.k) ∧ w'.cell? ⟨A0, 1, none⟩ = some (.int .i64 a.n) ∧ w'.cell? ⟨A0, 2, none⟩ = some (.int .i64 a.f) ∧ w'.cell? ⟨A0, 3, none⟩ = some (.string a.s) ∧ w'.cell? ⟨A0, 4, none⟩ = some (.slice pa a.l.length ca) ∧ w'.cell? ⟨A0, 5, none⟩ = some (.slice qa a.d.length ea)) ∧ (w'.cell? ⟨B0, 0, none⟩ = some (.int .i64 b.k) ∧ w'.cell? ⟨B0, 1, none⟩ = some (.int .i64 b.n) ∧ w'.cell? ⟨B0, 2, none⟩ = some (.int .i64 b.f) ∧ w'.cell? ⟨B0, 3, none⟩ = some (.string b.s) ∧ w'.cell? ⟨B0, 4, none⟩ = some (.slice pb b.l.length cb) ∧ w'.cell? ⟨B0, 5, none⟩ = some (.slice qb b.d.length eb)) ∧ (w'.cell? ⟨C0, 0, none⟩ = some (.int .i64 5) ∧ w'.cell? ⟨C0, 1, none⟩ = some (.int .i64 0) ∧ w'.cell? ⟨C0, 2, none⟩ = some (.int .i64 0) ∧ w'.cell? ⟨C0, 3, none⟩ = some (.string ⟨#[]⟩) ∧ w'.cell? ⟨C0, 4, none⟩ = some (.slice (some ⟨P0, 0, none⟩) 1 1) ∧ w'.cell? ⟨C0, 5, none⟩ = some (.slice none 0 0)) ∧ (w'.cell? ⟨D0, 0, none⟩ = some (.int .i64 6) ∧ w'.cell? ⟨D0, 1, none⟩ = some (.int .i64 0) ∧ w'.cell? ⟨D0, 2, none⟩ = some (.int .i64 0) ∧ w'.cell? ⟨D0, 3, none⟩ = some (.string ⟨#[]⟩) ∧ w'.cell? ⟨D0, 4, none⟩ = some (.slice none 0 0) ∧ w'.cell? ⟨D0, 5, none⟩ = some (.slice (some ⟨P1, 0, none⟩) 2 2)) ∧ (w'.cell? ⟨E0, 0, none⟩ = some (.int .i64 6) ∧ w'.cell? ⟨E0, 1, none⟩ = some (.int .i64 0) ∧ w'.cell? ⟨E0, 2, none⟩ = some (.int .i64 0) ∧ w'.cell? ⟨E0, 3, none⟩ = some (.string ⟨#[]⟩) ∧ w'.cell? ⟨E0, 4, none⟩ = some (.slice none 0 0) ∧ w'.cell? ⟨E0, 5, none⟩ = some (.slice (some ⟨P2, 0, none⟩) 2 2))) (go_keep)
          (first
          | (go_at_call 12; (first | (with_reducible refine (C1.out _ KX.out).mono ?_) | (with_reducible refine (C1.out _ KX.out.drew).mono ?_) | (with_reducible refine (C2.out _ KX.out).mono ?_) | (with_reducible refine (C2.out _ KX.out.drew).mono ?_) | (with_reducible refine (C3.out _ KX.out).mono ?_) | (with_reducible refine (C3.out _ KX.out.drew).mono ?_) | (with_reducible refine (C4.out _ KX.out).mono ?_) | (with_reducible refine (C4.out _ KX.out.drew).mono ?_) | (with_reducible refine (C5.out _ KX.out).mono ?_) | (with_reducible refine (C5.out _ KX.out.drew).mono ?_)); rintro e wn ⟨rfl, kn⟩; (first | (with_reducible have KX := Lib.hid (KX.out.trans kn)) | (with_reducible have KX := Lib.hid (KX.out.drew.trans kn))); obtain ⟨⟨s0, s1, s2, s3, s4, s5⟩, ⟨u0, u1, u2, u3, u4, u5⟩, ⟨x0, x1, x2, x3, x4, x5⟩, ⟨y0, y1, y2, y3, y4, y5⟩, z0, z1, z2, z3, z4, z5⟩ := SK.out _ KX.out)
          | (go_at_call 13; (first | (with_reducible refine (N1.out _ KX.out).mono ?_) | (with_reducible refine (N1.out _ KX.out.drew).mono ?_) | (with_reducible refine (N2.out _ KX.out).mono ?_) | (with_reducible refine (N2.out _ KX.out.drew).mono ?_) | (with_reducible refine (N3.out _ KX.out).mono ?_) | (with_reducible refine (N3.out _ KX.out.drew).mono ?_) | (with_reducible refine (N4.out _ KX.out).mono ?_) | (with_reducible refine (N4.out _ KX.out.drew).mono ?_)); rintro e wn ⟨rfl, kn⟩; (first | (with_reducible have KX := Lib.hid (KX.out.trans kn)) | (with_reducible have KX := Lib.hid (KX.out.drew.trans kn))); obtain ⟨⟨s0, s1, s2, s3, s4, s5⟩, ⟨u0, u1, u2, u3, u4, u5⟩, ⟨x0, x1, x2, x3, x4, x5⟩, ⟨y0, y1, y2, y3, y4, y5⟩, z0, z1, z2, z3, z4, z5⟩ := SK.out _ KX.out))
        all_goals
          go_wp2_with fail
          go_ret
          exact ⟨rfl, KW.out.trans KX.out⟩

end Go.Proofs.Ytdfgbdonnpbfcaa
