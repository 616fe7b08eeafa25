/-
  What the small functions of package cos on tokens answer.
-/
import Derived.Test.YtdfgbdonnpbfcaaCosTokMath
import Derived.Test.YtdfgbdonnpbfcaaCosLies
import Derived.Test.YtdfgbdonnpbfcaaLexToken
import Derived.Test.YtdfgbdonnpbfcaaFixAll
import Derived.Deep.RegionHeld3
import Derived.Deep.DrawnRows
namespace Go.Proofs.Ytdfgbdonnpbfcaa
open Go.RowKit Cx
attribute [local go_sem ↓] Go.wp_at_zero Go.wp_at_succ

/-- A token as a value. -/
def tkV (t : Lx.Tok) : Value := .agg #[.int .i64 t.kind, .int .i64 t.f, .string ⟨t.s.toArray⟩, .bool t.whole, .int .i64 t.frm, .int .i64 t.to]

theorem units_any (f : Int) (w : World) (h0 : -9223372036854775808 ≤ f) (h1 : f ≤ 9223372036854775807) :
    Calls Try.prog 69 #[.int .i64 f] w fun e w' => e = .returned (.int .i64 (f.tdiv 1000)) ∧ w = w' := by
  go_enter Try.func69, Try.ntmps69
  go_wp2_with fail
  go_ret
  exact ⟨rfl, rfl⟩

theorem isCount_any (t : Lx.Tok) (w : World) :
    Calls Try.prog 36 #[tkV t] w fun e w' => e = .returned (.bool (wholeT t)) ∧ Kept w w' := by
  obtain ⟨k, f, s, wh, fr, tq⟩ := t
  have HV := Lib.hid (show wholeT ⟨k, f, s, wh, fr, tq⟩ = (k == 1 && wh && decide (0 ≤ f)) from rfl)
  unfold tkV
  simp only []
  cases h1 : (k == 1) <;> cases wh
  all_goals
    go_enter Try.func36, Try.ntmps36
    go_wp2_with fail
    go_ret
    exact ⟨ret_bool (by rw [HV.out, h1]; first | done | rfl | simp), (Kept.refl w).alloc _ _⟩

theorem numOf_any (t : Lx.Tok) (w : World) :
    Calls Try.prog 37 #[tkV t] w fun e w' => e = .returned (objV (numV t) Hd.none) ∧ Kept w w' := by
  obtain ⟨k, f, s, wh, fr, tq⟩ := t
  unfold tkV objV Hd.none numV
  simp only [Ob.k, Ob.n, Ob.f, Ob.s, Ob.l, Ob.d, List.length_nil]
  cases wh
  · go_enter Try.func37, Try.ntmps37
    go_wp2_with fail
    refine bodyPost_ret (v := .agg #[.int .i64 2, .int .i64 0, .int .i64 f, .string ⟨#[]⟩, .slice none 0 0, .slice none 0 0]) ?_ rfl ⟨rfl, ?_⟩
    · simp [results, Try.results37, go_sem]
    · repeat (with_reducible first | exact (Kept.refl w) | refine Kept.drew ?_ | refine Kept.alloc ?_ _ _ | refine Kept.set ?_ (by simp) _)
  · go_enter Try.func37, Try.ntmps37
    go_wp2_with fail
    refine bodyPost_ret (v := .agg #[.int .i64 2, .int .i64 1, .int .i64 f, .string ⟨#[]⟩, .slice none 0 0, .slice none 0 0]) ?_ rfl ⟨rfl, ?_⟩
    · simp [results, Try.results37, go_sem]
    · repeat (with_reducible first | exact (Kept.refl w) | refine Kept.drew ?_ | refine Kept.alloc ?_ _ _ | refine Kept.set ?_ (by simp) _)

theorem isWord_any (t : Lx.Tok) (l : List UInt8) (w : World) :
    Calls Try.prog 52 #[tkV t, .string ⟨l.toArray⟩] w fun e w' => e = .returned (.bool (isW t l)) ∧ Kept w w' := by
  obtain ⟨k, f, s, wh, fr, tq⟩ := t
  have HV := Lib.hid (show isW ⟨k, f, s, wh, fr, tq⟩ l = (k == 8 && s == l) from rfl)
  unfold tkV
  simp only []
  cases h1 : (k == 8)
  all_goals
    go_enter Try.func52, Try.ntmps52
    go_wp2_with fail
    go_ret
    exact ⟨ret_bool (by rw [HV.out, h1]; first | done | rfl | simp), (Kept.refl w).alloc _ _⟩

theorem cosWord_any (s : ByteArray) (w : World) :
    Calls Try.prog 30 #[.string s] w fun e w' => e = .returned (objV (.mk 3 0 0 s [] []) Hd.none) ∧ Kept w w' := by
  unfold objV Hd.none
  simp only [Ob.k, Ob.n, Ob.f, Ob.s, Ob.l, Ob.d, List.length_nil]
  go_enter Try.func30, Try.ntmps30
  go_wp2_with fail
  refine bodyPost_ret (v := .agg #[.int .i64 3, .int .i64 0, .int .i64 0, .string s, .slice none 0 0, .slice none 0 0]) ?_ rfl ⟨rfl, ?_⟩
  · simp [results, Try.results30, go_sem]
  · repeat (with_reducible first | exact (Kept.refl w) | refine Kept.drew ?_ | refine Kept.alloc ?_ _ _ | refine Kept.set ?_ (by simp) _)

/-- A whole number's object. -/
def intO (n : Int) : Ob := if Fx.intE n = 0 then .mk 2 1 (Fx.intV n) ⟨#[]⟩ [] [] else nul
theorem cosInt_any (n : Int) (w : World) (hn : -9223372036854775808 ≤ n) (hn' : n ≤ 9223372036854775807) :
    Calls Try.prog 15 #[.int .i64 n] w fun e w' => e = .returned (objV (intO n) Hd.none) ∧ Kept w w' := by
  unfold objV Hd.none
  obtain ⟨v, hv⟩ : ∃ v, v = Fx.intV n := ⟨_, rfl⟩
  obtain ⟨er, her⟩ : ∃ er, er = Fx.intE n := ⟨_, rfl⟩
  have CI := Lib.hid (show ∀ w, Calls Try.prog 24 #[.int .i64 n] w fun e w' => e = .returned (.tuple #[.int .i64 v, .int .i64 er]) ∧ Kept w w' from fun w => by rw [hv, her]; exact Int_any n w hn hn')
  by_cases he : er = 0
  · have HI := Lib.hid (show intO n = .mk 2 1 v ⟨#[]⟩ [] [] by unfold intO; rw [← her, if_pos he, hv])
    subst he
    clear hv her
    rw [HI.out]
    simp only [Ob.k, Ob.n, Ob.f, Ob.s, Ob.l, Ob.d, List.length_nil]
    go_enter Try.func15, Try.ntmps15
    go_wp2_with fail
    (with_reducible refine (CI.out _).mono ?_)
    rintro e w2 ⟨rfl, hk⟩
    have HB := Lib.hid ((Blk.fresh w #[.int .i64 0, .int .i64 0, .int .i64 0, .string ⟨#[]⟩, .slice none 0 0, .slice none 0 0] 26).kept hk)
    have HK := Lib.hid (((Kept.refl w).alloc #[.int .i64 0, .int .i64 0, .int .i64 0, .string ⟨#[]⟩, .slice none 0 0, .slice none 0 0] 26).trans hk)
    obtain ⟨t0, t1, t2, t3, t4, t5⟩ := HB.out.cells6
    have tf := HB.out.free
    have hz := HB.out.lt
    clear hk
    go_wp2_with fail
    refine bodyPost_ret (v := .agg #[.int .i64 2, .int .i64 1, .int .i64 v, .string ⟨#[]⟩, .slice none 0 0, .slice none 0 0]) ?_ rfl ⟨rfl, ?_⟩
    · simp [results, Try.results15, go_sem, t0, t1, t2, t3, t4, t5]
    · repeat (with_reducible first | exact HK.out | refine Kept.drew ?_ | refine Kept.set ?_ (Nat.le_refl _) _)
  · have HI := Lib.hid (show intO n = nul by unfold intO; rw [← her, if_neg he])
    have hne : (er != 0) = true := by simpa using he
    clear hv her he
    rw [HI.out]
    unfold nul
    simp only [Ob.k, Ob.n, Ob.f, Ob.s, Ob.l, Ob.d, List.length_nil]
    go_enter Try.func15, Try.ntmps15
    go_wp2_with fail
    (with_reducible refine (CI.out _).mono ?_)
    rintro e w2 ⟨rfl, hk⟩
    have HB := Lib.hid ((Blk.fresh w #[.int .i64 0, .int .i64 0, .int .i64 0, .string ⟨#[]⟩, .slice none 0 0, .slice none 0 0] 26).kept hk)
    have HK := Lib.hid (((Kept.refl w).alloc #[.int .i64 0, .int .i64 0, .int .i64 0, .string ⟨#[]⟩, .slice none 0 0, .slice none 0 0] 26).trans hk)
    obtain ⟨t0, t1, t2, t3, t4, t5⟩ := HB.out.cells6
    have tf := HB.out.free
    have hz := HB.out.lt
    clear hk
    go_wp2_with fail
    refine bodyPost_ret (v := .agg #[.int .i64 0, .int .i64 0, .int .i64 0, .string ⟨#[]⟩, .slice none 0 0, .slice none 0 0]) ?_ rfl ⟨rfl, ?_⟩
    · simp [results, Try.results15, go_sem, t0, t1, t2, t3, t4, t5]
    · repeat (with_reducible first | exact HK.out | refine Kept.drew ?_ | refine Kept.set ?_ (Nat.le_refl _) _)

end Go.Proofs.Ytdfgbdonnpbfcaa
