/-
  What the small functions of package cos on tokens answer.
-/
import Derived.Test.YtnmehngedljgoaaGreatDoorLexM
import Derived.Test.YtnmehngedljgoaaGreatDoorCosLies
import Derived.Test.YtnmehngedljgoaaGreatDoorLexW2
import Derived.Test.YtnmehngedljgoaaGreatDoorFixW
import Derived.Deep.RegionHeld3
import Derived.Deep.DrawnRows
namespace Go.Proofs.YtnmehngedljgoaaGreatDoor
open Go.RowKit Cx
attribute [local go_sem ↓] Go.wp_at_zero Go.wp_at_succ

/-- A token as a value. -/
def tkV (t : Lx.Tok) : Value := .agg #[.int .i64 t.kind, .int .i64 t.f, .string ⟨t.s.toArray⟩, .bool t.whole, .int .i64 t.frm, .int .i64 t.to]

theorem units_any (f : Int) (w : World) (h0 : -9223372036854775808 ≤ f) (h1 : f ≤ 9223372036854775807) :
    Calls Tryz.prog 189 #[.int .i64 f] w fun e w' => e = .returned (.int .i64 (f.tdiv 1000)) ∧ w = w' := by
  go_enter Tryz.func189, Tryz.ntmps189
  go_wp2_with fail
  go_ret
  exact ⟨rfl, rfl⟩

theorem isCount_any (t : Lx.Tok) (w : World) :
    Calls Tryz.prog 119 #[tkV t] w fun e w' => e = .returned (.bool (wholeT t)) ∧ Kept w w' := by
  obtain ⟨k, f, s, wh, fr, tq⟩ := t
  have HV := Lib.hid (show wholeT ⟨k, f, s, wh, fr, tq⟩ = (k == 1 && wh && decide (0 ≤ f)) from rfl)
  unfold tkV
  simp only []
  cases h1 : (k == 1) <;> cases wh
  all_goals
    go_enter Tryz.func119, Tryz.ntmps119
    go_wp2_with fail
    go_ret
    exact ⟨ret_bool (by rw [HV.out, h1]; first | done | rfl | simp), (Kept.refl w).alloc _ _⟩

theorem numOf_any (t : Lx.Tok) (w : World) :
    Calls Tryz.prog 120 #[tkV t] w fun e w' => e = .returned (objV (numV t) Hd.none) ∧ Kept w w' := by
  obtain ⟨k, f, s, wh, fr, tq⟩ := t
  unfold tkV objV Hd.none numV
  simp only [Ob.k, Ob.n, Ob.f, Ob.s, Ob.l, Ob.d, List.length_nil]
  cases wh
  · go_enter Tryz.func120, Tryz.ntmps120
    go_wp2_with fail
    refine bodyPost_ret (v := .agg #[.int .i64 2, .int .i64 0, .int .i64 f, .string ⟨#[]⟩, .slice none 0 0, .slice none 0 0]) ?_ rfl ⟨rfl, ?_⟩
    · simp [results, Tryz.results120, go_sem]
    · repeat (with_reducible first | exact (Kept.refl w) | refine Kept.drew ?_ | refine Kept.alloc ?_ _ _ | refine Kept.set ?_ (by simp) _)
  · go_enter Tryz.func120, Tryz.ntmps120
    go_wp2_with fail
    refine bodyPost_ret (v := .agg #[.int .i64 2, .int .i64 1, .int .i64 f, .string ⟨#[]⟩, .slice none 0 0, .slice none 0 0]) ?_ rfl ⟨rfl, ?_⟩
    · simp [results, Tryz.results120, go_sem]
    · repeat (with_reducible first | exact (Kept.refl w) | refine Kept.drew ?_ | refine Kept.alloc ?_ _ _ | refine Kept.set ?_ (by simp) _)

theorem isWord_any (t : Lx.Tok) (l : List UInt8) (w : World) :
    Calls Tryz.prog 158 #[tkV t, .string ⟨l.toArray⟩] w fun e w' => e = .returned (.bool (isW t l)) ∧ Kept w w' := by
  obtain ⟨k, f, s, wh, fr, tq⟩ := t
  have HV := Lib.hid (show isW ⟨k, f, s, wh, fr, tq⟩ l = (k == 8 && s == l) from rfl)
  unfold tkV
  simp only []
  cases h1 : (k == 8)
  all_goals
    go_enter Tryz.func158, Tryz.ntmps158
    go_wp2_with fail
    go_ret
    exact ⟨ret_bool (by rw [HV.out, h1]; first | done | rfl | simp), (Kept.refl w).alloc _ _⟩

theorem cosWord_any (s : ByteArray) (w : World) :
    Calls Tryz.prog 98 #[.string s] w fun e w' => e = .returned (objV (.mk 3 0 0 s [] []) Hd.none) ∧ Kept w w' := by
  unfold objV Hd.none
  simp only [Ob.k, Ob.n, Ob.f, Ob.s, Ob.l, Ob.d, List.length_nil]
  go_enter Tryz.func98, Tryz.ntmps98
  go_wp2_with fail
  refine bodyPost_ret (v := .agg #[.int .i64 3, .int .i64 0, .int .i64 0, .string s, .slice none 0 0, .slice none 0 0]) ?_ rfl ⟨rfl, ?_⟩
  · simp [results, Tryz.results98, go_sem]
  · repeat (with_reducible first | exact (Kept.refl w) | refine Kept.drew ?_ | refine Kept.alloc ?_ _ _ | refine Kept.set ?_ (by simp) _)

/-- A whole number's object. -/
def intO (n : Int) : Ob := if Fx.intE n = 0 then .mk 2 1 (Fx.intV n) ⟨#[]⟩ [] [] else nul
theorem cosInt_any (n : Int) (w : World) (hn : -9223372036854775808 ≤ n) (hn' : n ≤ 9223372036854775807) :
    Calls Tryz.prog 44 #[.int .i64 n] w fun e w' => e = .returned (objV (intO n) Hd.none) ∧ Kept w w' := by
  unfold objV Hd.none
  obtain ⟨v, hv⟩ : ∃ v, v = Fx.intV n := ⟨_, rfl⟩
  obtain ⟨er, her⟩ : ∃ er, er = Fx.intE n := ⟨_, rfl⟩
  have CI := Lib.hid (show ∀ w, Calls Tryz.prog 82 #[.int .i64 n] w fun e w' => e = .returned (.tuple #[.int .i64 v, .int .i64 er]) ∧ Kept w w' from fun w => by rw [hv, her]; exact Int_any n w hn hn')
  by_cases he : er = 0
  · have HI := Lib.hid (show intO n = .mk 2 1 v ⟨#[]⟩ [] [] by unfold intO; rw [← her, if_pos he, hv])
    subst he
    clear hv her
    rw [HI.out]
    simp only [Ob.k, Ob.n, Ob.f, Ob.s, Ob.l, Ob.d, List.length_nil]
    go_enter Tryz.func44, Tryz.ntmps44
    go_wp2_with fail
    (with_reducible refine (CI.out _).mono ?_)
    rintro e w2 ⟨rfl, hk⟩
    have HB := Lib.hid ((Blk.fresh w #[.int .i64 0, .int .i64 0, .int .i64 0, .string ⟨#[]⟩, .slice none 0 0, .slice none 0 0] 26).kept hk)
    have HK := Lib.hid (((Kept.refl w).alloc #[.int .i64 0, .int .i64 0, .int .i64 0, .string ⟨#[]⟩, .slice none 0 0, .slice none 0 0] 26).trans hk)
    obtain ⟨t0, t1, t2, t3, t4, t5⟩ := HB.out.cells6
    have tf := HB.out.free
    have hz := HB.out.lt
    clear hk
    go_wp2_with fail
    refine bodyPost_ret (v := .agg #[.int .i64 2, .int .i64 1, .int .i64 v, .string ⟨#[]⟩, .slice none 0 0, .slice none 0 0]) ?_ rfl ⟨rfl, ?_⟩
    · simp [results, Tryz.results44, go_sem, t0, t1, t2, t3, t4, t5]
    · repeat (with_reducible first | exact HK.out | refine Kept.drew ?_ | refine Kept.set ?_ (Nat.le_refl _) _)
  · have HI := Lib.hid (show intO n = nul by unfold intO; rw [← her, if_neg he])
    have hne : (er != 0) = true := by simpa using he
    clear hv her he
    rw [HI.out]
    unfold nul
    simp only [Ob.k, Ob.n, Ob.f, Ob.s, Ob.l, Ob.d, List.length_nil]
    go_enter Tryz.func44, Tryz.ntmps44
    go_wp2_with fail
    (with_reducible refine (CI.out _).mono ?_)
    rintro e w2 ⟨rfl, hk⟩
    have HB := Lib.hid ((Blk.fresh w #[.int .i64 0, .int .i64 0, .int .i64 0, .string ⟨#[]⟩, .slice none 0 0, .slice none 0 0] 26).kept hk)
    have HK := Lib.hid (((Kept.refl w).alloc #[.int .i64 0, .int .i64 0, .int .i64 0, .string ⟨#[]⟩, .slice none 0 0, .slice none 0 0] 26).trans hk)
    obtain ⟨t0, t1, t2, t3, t4, t5⟩ := HB.out.cells6
    have tf := HB.out.free
    have hz := HB.out.lt
    clear hk
    go_wp2_with fail
    refine bodyPost_ret (v := .agg #[.int .i64 0, .int .i64 0, .int .i64 0, .string ⟨#[]⟩, .slice none 0 0, .slice none 0 0]) ?_ rfl ⟨rfl, ?_⟩
    · simp [results, Tryz.results44, go_sem, t0, t1, t2, t3, t4, t5]
    · repeat (with_reducible first | exact HK.out | refine Kept.drew ?_ | refine Kept.set ?_ (Nat.le_refl _) _)

end Go.Proofs.YtnmehngedljgoaaGreatDoor
