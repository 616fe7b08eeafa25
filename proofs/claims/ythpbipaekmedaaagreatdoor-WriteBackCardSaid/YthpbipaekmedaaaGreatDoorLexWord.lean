/-
  What package lex's wordOrNumber answers.
-/
import Derived.Test.YthpbipaekmedaaaGreatDoorLexW1
import Derived.Test.YthpbipaekmedaaaGreatDoorFixW
namespace Go.Proofs.YthpbipaekmedaaaGreatDoor
open Go.RowKit

theorem Contains_point (l : List UInt8) (w : World) :
    Calls Tryz.prog 115 #[.string ⟨l.toArray⟩, .string ⟨#[46]⟩] w fun e w' => e = .returned (.bool (Lx.pointIn l)) ∧ w = w' :=
  (Tryz.strings_Contains_one ⟨l.toArray⟩ 46 w).mono fun e w' ⟨he, hw⟩ => ⟨by rw [he]; rfl, hw.symm⟩

theorem extract_run (s : ByteArray) (k n : Nat) : s.extract k (k + n) = ⟨((s.data.toList.drop k).take n).toArray⟩ := by
  apply ByteArray.ext
  rw [ByteArray.data_extract]
  apply Array.ext'
  simp [List.take_drop]

set_option maxRecDepth 100000 in
set_option maxHeartbeats 2000000 in
theorem wordOrNumber_any (s : ByteArray) (k : Nat) (w : World) (hk : k < s.size) (hs : s.size ≤ 4294967296) (hreg : Lx.reg s[k] = true) (hm : HasMax w) (T : Int × Lx.Tok) (hT : T = Lx.wordV s.data.toList k) :
    Calls Tryz.prog 91 #[.string s, .int .i64 k] w fun e w' =>
      e = .returned (.tuple #[.agg #[.int .i64 T.2.kind, .int .i64 T.2.f, .string ⟨T.2.s.toArray⟩, .bool T.2.whole, .int .i64 T.2.frm, .int .i64 T.2.to], .int .i64 T.1]) ∧ Kept w w' := by
  obtain ⟨n, hn⟩ : ∃ n, n = Lx.tw Lx.reg (s.data.toList.drop k) := ⟨_, rfl⟩
  have HN := Lib.hid hn
  have hnl : k + n ≤ s.size := by
    have := Lx.tw_le Lx.reg (s.data.toList.drop k)
    rw [← hn] at this; simp at this; omega
  have hn1 : 1 ≤ n := by rw [hn, drop_cons s k hk, Lx.tw, if_pos hreg]; omega
  have hx := extract_run s k n
  obtain ⟨run, hrun⟩ : ∃ run, run = (s.data.toList.drop k).take n := ⟨_, rfl⟩
  rw [← hrun] at hx
  have HRUN := Lib.hid hrun
  have hlen : run.length = n := by rw [hrun]; simp; omega
  have hpos : 0 < (⟨run.toArray⟩ : ByteArray).size := by show 0 < run.toArray.size; simp; omega
  have hfst : (⟨run.toArray⟩ : ByteArray)[0] = s[k] := by
    subst hrun
    show (((s.data.toList.drop k).take n).toArray)[0] = s[k]
    simp
    rfl
  clear hrun
  have HT := Lib.hid hT
  clear hT hn
  go_enter Tryz.func91, Tryz.ntmps91
  go_wp2_with fail
  refine (over_any s k _).mono ?_
  rintro e w' ⟨rfl, rfl⟩
  have HR := Lib.hid (open_run s k w)
  go_wp2_with fail
  refine (takeAll_any _ #[] Lx.reg ent_regular s _ k _ HR.out.here (by omega) (by omega) (fun w => fits_regular w)).mono ?_
  rintro e w2 ⟨rfl, ha, hg⟩
  rw [← HN.out] at ha
  have HR2 := Lib.hid (HR.out.take ha hg)
  clear ha hg
  go_wp2_with fail
  refine (place_any s _ _ _ HR2.out.here).mono ?_
  rintro e w' ⟨rfl, rfl⟩
  go_wp2_with fail
  refine (beginsNumber_any _ _).mono ?_
  rintro e w' ⟨rfl, rfl⟩
  obtain ⟨r0, r1, r2, r3, r4, r5⟩ := HR2.out.res.cells6
  have rf := HR2.out.res.free
  cases hb : Lx.numB s[k]
  · have HV := Lib.hid (show T = (0, ⟨8, 0, run, false, 0, k + n⟩) by
      rw [HT.out, Lx.wordV, drop_cons s k hk, List.headD_cons, if_neg (by rw [hb]; simp), ← drop_cons s k hk, ← HN.out, ← HRUN.out])
    go_wp2_with fail
    refine bodyPost_ret (v := .tuple #[.agg #[.int .i64 8, .int .i64 0, .string ⟨run.toArray⟩, .bool false, .int .i64 0, .int .i64 (k + n)], .int .i64 0]) ?_ rfl ⟨ret_tok (by rw [HV.out]) (by rw [HV.out]) (by rw [HV.out]) (by rw [HV.out]) (by rw [HV.out]; rfl) (by rw [HV.out]; rfl) (by rw [HV.out]), ?_⟩
    · simp [results, Tryz.results91, go_sem, r0, r1, r2, r3, r4, r5]
    · repeat (with_reducible first | exact HR2.out.kept | refine Kept.drew ?_ | refine Kept.set ?_ (Nat.le_refl _) _)
  · go_wp2_with fail
    refine (Parse_max run _ (by omega) (hm.kept HR2.out.kept)).mono ?_
    rintro e w3 ⟨rfl, hk3⟩
    have HR3 := Lib.hid (HR2.out.res.kept hk3)
    have HK3 := Lib.hid (HR2.out.kept.trans hk3)
    obtain ⟨q0, q1, q2, q3, q4, q5⟩ := HR3.out.cells6
    have qf := HR3.out.free
    clear hk3
    by_cases he : Fx.parseE run = 0
    · have HV := Lib.hid (show T = (0, ⟨1, Fx.parseV run, [], !Lx.pointIn run, 0, k + n⟩) by
        rw [HT.out, Lx.wordV, drop_cons s k hk, List.headD_cons, if_pos hb, ← drop_cons s k hk, ← HN.out, ← HRUN.out, if_pos he])
      rw [he]
      go_wp2_with fail
      refine (Contains_point run _).mono ?_
      rintro e w' ⟨rfl, rfl⟩
      go_wp2_with fail
      refine bodyPost_ret (v := .tuple #[.agg #[.int .i64 1, .int .i64 (Fx.parseV run), .string ⟨#[]⟩, .bool (!Lx.pointIn run), .int .i64 0, .int .i64 (k + n)], .int .i64 0]) ?_ rfl ⟨ret_tok (by rw [HV.out]) (by rw [HV.out]) (by rw [HV.out]) (by rw [HV.out]) (by rw [HV.out]; rfl) (by rw [HV.out]; rfl) (by rw [HV.out]), ?_⟩
      · simp [results, Tryz.results91, go_sem, q0, q1, q2, q3, q4, q5]
      · repeat (with_reducible first | exact HK3.out | refine Kept.drew ?_ | refine Kept.set ?_ (Nat.le_refl _) _)
    · have HV := Lib.hid (show T = (Fx.parseE run, Lx.zero) by
        rw [HT.out, Lx.wordV, drop_cons s k hk, List.headD_cons, if_pos hb, ← drop_cons s k hk, ← HN.out, ← HRUN.out, if_neg he])
      have hne : (Fx.parseE run != 0) = true := by simpa using he
      clear he
      go_wp2_with fail
      refine bodyPost_ret (v := .tuple #[.agg #[.int .i64 0, .int .i64 0, .string ⟨#[]⟩, .bool false, .int .i64 0, .int .i64 0], .int .i64 (Fx.parseE run)]) ?_ rfl ⟨ret_tok (by rw [HV.out]; rfl) (by rw [HV.out]; rfl) (by rw [HV.out]; rfl) (by rw [HV.out]; rfl) (by rw [HV.out]; rfl) (by rw [HV.out]; rfl) (by rw [HV.out]), ?_⟩
      · simp [results, Tryz.results91, go_sem, q0, q1, q2, q3, q4, q5]
      · repeat (with_reducible first | exact HK3.out | refine Kept.drew ?_ | refine Kept.set ?_ (Nat.le_refl _) _)

end Go.Proofs.YthpbipaekmedaaaGreatDoor
