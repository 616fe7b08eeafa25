/-
  What package lex's tokenAt and Next answer.
-/
import Derived.Test.YthpbipaekmedaaaGreatDoorLexName
import Derived.Test.YthpbipaekmedaaaGreatDoorLexText
import Derived.Test.YthpbipaekmedaaaGreatDoorLexDigits
import Derived.Test.YthpbipaekmedaaaGreatDoorLexWord
namespace Go.Proofs.YthpbipaekmedaaaGreatDoor
open Go.RowKit

theorem Blk.drewN {w : World} {b : Nat} {cs : Array Value} {t : TypeId} (h : Blk w b cs t) (n : Nat) : Blk (w.drewN n) b cs t := h
theorem twice_of (s : ByteArray) (k : Nat) (hk : k < s.size) : Lib.hasPrefix (s.extract (k + 1) s.size).data.toList (s.extract k (k + 1)).data.toList = ((s.data.toList.drop (k + 1)).head? == some s[k]) := by
  have h1 : (s.extract (k + 1) s.size).data.toList = s.data.toList.drop (k + 1) := by
    rw [ByteArray.data_extract]
    simp [List.take_of_length_le]
  have h2 : (s.extract k (k + 1)).data.toList = [s[k]] := by
    rw [extract_run s k 1]
    show (s.data.toList.drop k).take 1 = _
    rw [drop_cons s k hk]; rfl
  rw [h1, h2, Lib.hasPrefix]
  cases s.data.toList.drop (k + 1) with
  | nil => rfl
  | cons b r =>
    rw [List.isPrefixOf, List.isPrefixOf, Bool.and_true, List.head?_cons, Bool.eq_iff_iff]
    rw [beq_iff_eq, beq_iff_eq, Option.some.injEq]; exact eq_comm

theorem twice_any (s : ByteArray) (k : Nat) (hk : k < s.size) (w : World) :
    Calls Tryz.prog 87 #[.string (s.extract (k + 1) s.size), .string (s.extract k (k + 1))] w fun e w' => e = .returned (.bool ((s.data.toList.drop (k + 1)).head? == some s[k])) ∧ w' = w :=
  (Tryz.strings_HasPrefix _ _ w).mono fun e w' ⟨he, hw⟩ => ⟨by rw [he, twice_of s k hk], hw⟩

theorem reg_of {c : UInt8} (h0 : Lx.white c = false) (h1 : c ≠ 91) (h2 : c ≠ 93) (h3 : c ≠ 60) (h4 : c ≠ 62) (h5 : c ≠ 47) (h6 : c ≠ 40) (h7 : c ≠ 41) (h8 : c ≠ 123) (h9 : c ≠ 125) (h10 : c ≠ 37) : Lx.reg c = true := by
  have := Lx.byte_all (fun c => Lx.white c || c == 91 || c == 93 || c == 60 || c == 62 || c == 47 || c == 40 || c == 41 || c == 123 || c == 125 || c == 37 || Lx.reg c) (by kernel_rfl) c
  have e : ∀ d : UInt8, c ≠ d → (c == d) = false := fun d h => beq_eq_false_iff_ne.2 h
  rw [h0, e _ h1, e _ h2, e _ h3, e _ h4, e _ h5, e _ h6, e _ h7, e _ h8, e _ h9, e _ h10] at this
  exact this

set_option maxRecDepth 100000 in
set_option maxHeartbeats 4000000 in
theorem tokenAt_any (s : ByteArray) (k : Nat) (w : World) (hk : k ≤ s.size) (hs : s.size ≤ 4294967295) (hsp : ∀ h : k < s.size, Lx.white s[k] = false ∧ s[k] ≠ 37) (hm : HasMax w) (T : Int × Lx.Tok) (hT : T = Lx.tokV s.data.toList k) :
    Calls Tryz.prog 66 #[.string s, .int .i64 k] w fun e w' =>
      e = .returned (.tuple #[.agg #[.int .i64 T.2.kind, .int .i64 T.2.f, .string ⟨T.2.s.toArray⟩, .bool T.2.whole, .int .i64 T.2.frm, .int .i64 T.2.to], .int .i64 T.1]) ∧ Kept w w' := by
  have HT := Lib.hid hT
  have HSP := Lib.hid hsp
  have HM := Lib.hid hm
  clear hT hsp hm
  have KA := Lib.hid ((Kept.refl w).alloc tok0 72)
  obtain ⟨q0, q1, q2, q3, q4, q5⟩ := (Blk.fresh w tok0 72).cells6
  unfold tok0 at q0 q1 q2 q3 q4 q5
  by_cases hlt : k < s.size
  · have HD := Lib.hid (drop_cons s k hlt)
    obtain ⟨hw, h37⟩ := HSP.out hlt
    have HW := Lib.hid hw
    clear hw
    have hne : ((k : Int) == (s.size : Int)) = false := by rw [beq_eq_false_iff_ne]; omega
    have i1 : IntKind.i64.wrap ((k : Int) + 1) = (k : Int) + 1 := IntWalk.i64_in _ (by omega)
    have i2 : (0 : Int) ≤ (k : Int) + 1 := by omega
    have i3 : (k : Int) + 1 ≤ (s.size : Int) := by omega
    have i4 : (0 : Int) ≤ (k : Int) := by omega
    have i5 : (k : Int) ≤ (k : Int) + 1 := by omega
    have i6 : ((k : Int) + 1).toNat = k + 1 := by omega
    obtain ⟨tw, htw⟩ : ∃ tw, tw = ((s.data.toList.drop (k + 1)).head? == some s[k]) := ⟨_, rfl⟩
    have cT : ∀ w, Calls Tryz.prog 87 #[.string (s.extract (k + 1) s.size), .string (s.extract k (k + 1))] w fun e w' => e = .returned (.bool tw) ∧ w' = w := by
      intro w; rw [htw]; exact twice_any s k hlt w
    have HTW := Lib.hid htw
    have CT := Lib.hid cT
    clear htw cT
    go_enter Tryz.func66, Tryz.ntmps66
    go_wp2_with fail
    go_quiet ((go_at_call 87; exact Calls.quiet_of_same (CT.out _)))
    clear i1 i2 i3 i4 i5 i6
    by_cases h91 : s[k] = 91
    · have e91 := byte_is h91 91 rfl
      have HV := Lib.hid (show T = (0, ⟨4, 0, [], false, 0, k + 1⟩) by rw [HT.out, Lx.tokV, HD.out, h91]; rfl)
      clear h91 h37
      go_wp2_with fail
      refine bodyPost_ret (v := .tuple #[.agg #[.int .i64 4, .int .i64 0, .string ⟨#[]⟩, .bool false, .int .i64 0, .int .i64 (k + 1 : Nat)], .int .i64 0]) ?_ rfl ⟨by rw [HV.out]; first | done | rfl, ?_⟩
      · simp [results, Tryz.results66, go_sem]
      · repeat (with_reducible first | exact (Kept.refl w) | refine Kept.drew ?_ | refine Kept.drewN ?_ _ | refine Kept.alloc ?_ _ _ | refine Kept.set ?_ (Nat.le_refl _) _)
    have e91 := byte_not h91 91 rfl
    by_cases h93 : s[k] = 93
    · have e93 := byte_is h93 93 rfl
      have HV := Lib.hid (show T = (0, ⟨5, 0, [], false, 0, k + 1⟩) by rw [HT.out, Lx.tokV, HD.out, h93]; rfl)
      clear h91 h93 h37
      go_wp2_with fail
      refine bodyPost_ret (v := .tuple #[.agg #[.int .i64 5, .int .i64 0, .string ⟨#[]⟩, .bool false, .int .i64 0, .int .i64 (k + 1 : Nat)], .int .i64 0]) ?_ rfl ⟨by rw [HV.out]; first | done | rfl, ?_⟩
      · simp [results, Tryz.results66, go_sem]
      · repeat (with_reducible first | exact (Kept.refl w) | refine Kept.drew ?_ | refine Kept.drewN ?_ _ | refine Kept.alloc ?_ _ _ | refine Kept.set ?_ (Nat.le_refl _) _)
    have e93 := byte_not h93 93 rfl
    by_cases h60 : s[k] = 60
    · have e60 := byte_is h60 60 rfl
      have HH := Lib.hid (show T = if tw then (0, ⟨6, 0, [], false, 0, k + 2⟩) else Lx.ofR3 3 (Lx.hexGo [] none (s.data.toList.drop (k + 1)) (k + 1)) by rw [HT.out, Lx.tokV, HD.out, HTW.out, h60]; rfl)
      clear h91 h93 h60 h37
      cases tw
      · have HV := Lib.hid (show T = Lx.ofR3 3 (Lx.hexGo [] none (s.data.toList.drop (k + 1)) (k + 1)) from HH.out)
        go_wp2_with fail
        refine (digitText_any s (k + 1) _ (by omega) (by omega) T HV.out).mono ?_
        rintro e w2 ⟨rfl, hk2⟩
        have HB2 := Lib.hid ((((Blk.fresh w tok0 72).drewN _).kept hk2))
        have HK2 := Lib.hid (((KA.out.drewN _).trans hk2))
        obtain ⟨p0, p1, p2, p3, p4, p5⟩ := HB2.out.cells6
        have pf := HB2.out.free
        clear hk2
        go_wp2_with fail
        refine bodyPost_ret (v := .tuple #[.agg #[.int .i64 T.2.kind, .int .i64 T.2.f, .string ⟨T.2.s.toArray⟩, .bool T.2.whole, .int .i64 T.2.frm, .int .i64 T.2.to], .int .i64 T.1]) ?_ rfl ⟨rfl, ?_⟩
        · simp [results, Tryz.results66, go_sem, p0, p1, p2, p3, p4, p5]
        · repeat (with_reducible first | exact HK2.out | refine Kept.drew ?_ | refine Kept.drewN ?_ _ | refine Kept.alloc ?_ _ _ | refine Kept.set ?_ (Nat.le_refl _) _)
      · have HV := Lib.hid (show T = (0, ⟨6, 0, [], false, 0, k + 2⟩) from HH.out)
        go_wp2_with fail
        refine bodyPost_ret (v := .tuple #[.agg #[.int .i64 6, .int .i64 0, .string ⟨#[]⟩, .bool false, .int .i64 0, .int .i64 (k + 2 : Nat)], .int .i64 0]) ?_ rfl ⟨by rw [HV.out]; first | done | rfl, ?_⟩
        · simp [results, Tryz.results66, go_sem]
        · repeat (with_reducible first | exact (Kept.refl w) | refine Kept.drew ?_ | refine Kept.drewN ?_ _ | refine Kept.alloc ?_ _ _ | refine Kept.set ?_ (Nat.le_refl _) _)
    have e60 := byte_not h60 60 rfl
    by_cases h62 : s[k] = 62
    · have e62 := byte_is h62 62 rfl
      have HH := Lib.hid (show T = if tw then (0, ⟨7, 0, [], false, 0, k + 2⟩) else (3, Lx.zero) by rw [HT.out, Lx.tokV, HD.out, HTW.out, h62]; rfl)
      clear h91 h93 h60 h62 h37
      cases tw
      · have HV := Lib.hid (show T = (3, Lx.zero) from HH.out)
        go_wp2_with fail
        refine bodyPost_ret (v := .tuple #[.agg #[.int .i64 0, .int .i64 0, .string ⟨#[]⟩, .bool false, .int .i64 0, .int .i64 0], .int .i64 3]) ?_ rfl ⟨by rw [HV.out]; first | done | rfl, ?_⟩
        · simp [results, Tryz.results66, go_sem]
        · repeat (with_reducible first | exact (Kept.refl w) | refine Kept.drew ?_ | refine Kept.drewN ?_ _ | refine Kept.alloc ?_ _ _ | refine Kept.set ?_ (Nat.le_refl _) _)
      · have HV := Lib.hid (show T = (0, ⟨7, 0, [], false, 0, k + 2⟩) from HH.out)
        go_wp2_with fail
        refine bodyPost_ret (v := .tuple #[.agg #[.int .i64 7, .int .i64 0, .string ⟨#[]⟩, .bool false, .int .i64 0, .int .i64 (k + 2 : Nat)], .int .i64 0]) ?_ rfl ⟨by rw [HV.out]; first | done | rfl, ?_⟩
        · simp [results, Tryz.results66, go_sem]
        · repeat (with_reducible first | exact (Kept.refl w) | refine Kept.drew ?_ | refine Kept.drewN ?_ _ | refine Kept.alloc ?_ _ _ | refine Kept.set ?_ (Nat.le_refl _) _)
    have e62 := byte_not h62 62 rfl
    by_cases h47 : s[k] = 47
    · have e47 := byte_is h47 47 rfl
      have HV := Lib.hid (show T = Lx.ofR3 2 (Lx.nameGo [] 0 (s.data.toList.drop (k + 1)) (k + 1)) by rw [HT.out, Lx.tokV, HD.out, h47]; rfl)
      clear h91 h93 h60 h62 h47 h37
      go_wp2_with fail
      refine (nameToken_any s (k + 1) _ (by omega) (by omega) T HV.out).mono ?_
      rintro e w2 ⟨rfl, hk2⟩
      have HB2 := Lib.hid ((((Blk.fresh w tok0 72).drewN _).kept hk2))
      have HK2 := Lib.hid (((KA.out.drewN _).trans hk2))
      obtain ⟨p0, p1, p2, p3, p4, p5⟩ := HB2.out.cells6
      have pf := HB2.out.free
      clear hk2
      go_wp2_with fail
      refine bodyPost_ret (v := .tuple #[.agg #[.int .i64 T.2.kind, .int .i64 T.2.f, .string ⟨T.2.s.toArray⟩, .bool T.2.whole, .int .i64 T.2.frm, .int .i64 T.2.to], .int .i64 T.1]) ?_ rfl ⟨rfl, ?_⟩
      · simp [results, Tryz.results66, go_sem, p0, p1, p2, p3, p4, p5]
      · repeat (with_reducible first | exact HK2.out | refine Kept.drew ?_ | refine Kept.drewN ?_ _ | refine Kept.alloc ?_ _ _ | refine Kept.set ?_ (Nat.le_refl _) _)
    have e47 := byte_not h47 47 rfl
    by_cases h40 : s[k] = 40
    · have e40 := byte_is h40 40 rfl
      have HV := Lib.hid (show T = Lx.ofR3 3 (Lx.textGo [] 0 0 (s.data.toList.drop (k + 1)) (k + 1)) by rw [HT.out, Lx.tokV, HD.out, h40]; rfl)
      clear h91 h93 h60 h62 h47 h40 h37
      go_wp2_with fail
      refine (plainText_any s (k + 1) _ (by omega) (by omega) T HV.out).mono ?_
      rintro e w2 ⟨rfl, hk2⟩
      have HB2 := Lib.hid ((((Blk.fresh w tok0 72).drewN _).kept hk2))
      have HK2 := Lib.hid (((KA.out.drewN _).trans hk2))
      obtain ⟨p0, p1, p2, p3, p4, p5⟩ := HB2.out.cells6
      have pf := HB2.out.free
      clear hk2
      go_wp2_with fail
      refine bodyPost_ret (v := .tuple #[.agg #[.int .i64 T.2.kind, .int .i64 T.2.f, .string ⟨T.2.s.toArray⟩, .bool T.2.whole, .int .i64 T.2.frm, .int .i64 T.2.to], .int .i64 T.1]) ?_ rfl ⟨rfl, ?_⟩
      · simp [results, Tryz.results66, go_sem, p0, p1, p2, p3, p4, p5]
      · repeat (with_reducible first | exact HK2.out | refine Kept.drew ?_ | refine Kept.drewN ?_ _ | refine Kept.alloc ?_ _ _ | refine Kept.set ?_ (Nat.le_refl _) _)
    have e40 := byte_not h40 40 rfl
    by_cases h41 : s[k] = 41
    · have e41 := byte_is h41 41 rfl
      have HV := Lib.hid (show T = (3, Lx.zero) by rw [HT.out, Lx.tokV, HD.out, h41]; rfl)
      clear h91 h93 h60 h62 h47 h40 h41 h37
      go_wp2_with fail
      refine bodyPost_ret (v := .tuple #[.agg #[.int .i64 0, .int .i64 0, .string ⟨#[]⟩, .bool false, .int .i64 0, .int .i64 0], .int .i64 3]) ?_ rfl ⟨by rw [HV.out]; first | done | rfl, ?_⟩
      · simp [results, Tryz.results66, go_sem]
      · repeat (with_reducible first | exact (Kept.refl w) | refine Kept.drew ?_ | refine Kept.drewN ?_ _ | refine Kept.alloc ?_ _ _ | refine Kept.set ?_ (Nat.le_refl _) _)
    have e41 := byte_not h41 41 rfl
    by_cases h123 : s[k] = 123
    · have e123 := byte_is h123 123 rfl
      have HV := Lib.hid (show T = (3, Lx.zero) by rw [HT.out, Lx.tokV, HD.out, h123]; rfl)
      clear h91 h93 h60 h62 h47 h40 h41 h123 h37
      go_wp2_with fail
      refine bodyPost_ret (v := .tuple #[.agg #[.int .i64 0, .int .i64 0, .string ⟨#[]⟩, .bool false, .int .i64 0, .int .i64 0], .int .i64 3]) ?_ rfl ⟨by rw [HV.out]; first | done | rfl, ?_⟩
      · simp [results, Tryz.results66, go_sem]
      · repeat (with_reducible first | exact (Kept.refl w) | refine Kept.drew ?_ | refine Kept.drewN ?_ _ | refine Kept.alloc ?_ _ _ | refine Kept.set ?_ (Nat.le_refl _) _)
    have e123 := byte_not h123 123 rfl
    by_cases h125 : s[k] = 125
    · have e125 := byte_is h125 125 rfl
      have HV := Lib.hid (show T = (3, Lx.zero) by rw [HT.out, Lx.tokV, HD.out, h125]; rfl)
      clear h91 h93 h60 h62 h47 h40 h41 h123 h125 h37
      go_wp2_with fail
      refine bodyPost_ret (v := .tuple #[.agg #[.int .i64 0, .int .i64 0, .string ⟨#[]⟩, .bool false, .int .i64 0, .int .i64 0], .int .i64 3]) ?_ rfl ⟨by rw [HV.out]; first | done | rfl, ?_⟩
      · simp [results, Tryz.results66, go_sem]
      · repeat (with_reducible first | exact (Kept.refl w) | refine Kept.drew ?_ | refine Kept.drewN ?_ _ | refine Kept.alloc ?_ _ _ | refine Kept.set ?_ (Nat.le_refl _) _)
    · have e125 := byte_not h125 125 rfl
      have HRG := Lib.hid (reg_of HW.out h91 h93 h60 h62 h47 h40 h41 h123 h125 h37)
      have HV := Lib.hid (show T = Lx.wordV s.data.toList k by
        rw [HT.out, Lx.tokV, HD.out]; simp only [beq_iff_eq, h91, h93, h60, h62, h47, h40, h41, h123, h125, Bool.or_eq_true, or_self, if_false])
      clear h91 h93 h60 h62 h47 h40 h41 h123 h125 h37
      go_wp2_with fail
      refine (wordOrNumber_any s k _ hlt (by omega) HRG.out (HM.out.kept (KA.out.drewN _)) T HV.out).mono ?_
      rintro e w2 ⟨rfl, hk2⟩
      have HB2 := Lib.hid ((((Blk.fresh w tok0 72).drewN _).kept hk2))
      have HK2 := Lib.hid (((KA.out.drewN _).trans hk2))
      obtain ⟨p0, p1, p2, p3, p4, p5⟩ := HB2.out.cells6
      have pf := HB2.out.free
      clear hk2
      go_wp2_with fail
      refine bodyPost_ret (v := .tuple #[.agg #[.int .i64 T.2.kind, .int .i64 T.2.f, .string ⟨T.2.s.toArray⟩, .bool T.2.whole, .int .i64 T.2.frm, .int .i64 T.2.to], .int .i64 T.1]) ?_ rfl ⟨rfl, ?_⟩
      · simp [results, Tryz.results66, go_sem, p0, p1, p2, p3, p4, p5]
      · repeat (with_reducible first | exact HK2.out | refine Kept.drew ?_ | refine Kept.drewN ?_ _ | refine Kept.alloc ?_ _ _ | refine Kept.set ?_ (Nat.le_refl _) _)
  · obtain rfl : k = s.size := by omega
    have HV := Lib.hid (show T = (0, ⟨0, 0, [], false, 0, s.size⟩) by rw [HT.out, Lx.tokV, drop_end s s.size (Nat.le_refl _)])
    go_enter Tryz.func66, Tryz.ntmps66
    go_wp2_with fail
    refine bodyPost_ret (v := .tuple #[.agg #[.int .i64 0, .int .i64 0, .string ⟨#[]⟩, .bool false, .int .i64 0, .int .i64 s.size], .int .i64 0]) ?_ rfl ⟨by rw [HV.out]; first | done | rfl, ?_⟩
    · simp [results, Tryz.results66, go_sem]
    · repeat (with_reducible first | exact (Kept.refl w) | refine Kept.drew ?_ | refine Kept.alloc ?_ _ _ | refine Kept.set ?_ (Nat.le_refl _) _)

theorem spc_stops (s : ByteArray) (k : Nat) (h : k < s.size) (e : Lx.spc false (s.data.toList.drop k) = 0) : Lx.white s[k] = false ∧ s[k] ≠ 37 := by
  rw [drop_cons s k h, Lx.spc] at e
  cases hw : Lx.white s[k]
  · refine ⟨rfl, fun h37 => ?_⟩
    rw [hw, h37] at e
    simp at e
  · rw [hw] at e; simp at e

theorem spc_rest : ∀ (c : Bool) (l : List UInt8), Lx.spc false (l.drop (Lx.spc c l)) = 0
  | c, [] => by rw [List.drop_nil]; rfl
  | true, b :: r => by
    rw [Lx.spc]
    split
    · rw [List.drop_succ_cons]; exact spc_rest true r
    · rw [List.drop_succ_cons]; exact spc_rest false r
  | false, b :: r => by
    cases hw : Lx.white b
    · by_cases h37 : (b == 37) = true
      · rw [Lx.spc, hw, if_neg (by simp), if_pos h37, List.drop_succ_cons]; exact spc_rest true r
      · rw [show Lx.spc false (b :: r) = 0 by rw [Lx.spc, hw, if_neg (by simp), if_neg h37], List.drop_zero, Lx.spc, hw, if_neg (by simp), if_neg h37]
    · rw [Lx.spc, hw, if_pos rfl, List.drop_succ_cons]; exact spc_rest false r

theorem space_fits (l : List UInt8) (a : Int) : Lx.spaceV l a ≤ l.length ∧ Lx.spc false (l.drop (Lx.spaceV l a)) = 0 := by
  unfold Lx.spaceV
  constructor
  · have := Lx.spc_le false (l.drop (min (max a 0) (l.length : Int)).toNat)
    simp at this; omega
  · rw [← List.drop_drop]; exact spc_rest _ _

set_option maxRecDepth 100000 in
set_option maxHeartbeats 4000000 in
theorem Next_any (s : ByteArray) (a : Int) (w : World) (hs : s.size ≤ 4294967295) (hm : HasMax w) (T : Int × Lx.Tok) (hT : T = Lx.nextV s.data.toList a) :
    Calls Tryz.prog 53 #[.string s, .int .i64 a] w fun e w' =>
      e = .returned (.tuple #[.agg #[.int .i64 T.2.kind, .int .i64 T.2.f, .string ⟨T.2.s.toArray⟩, .bool T.2.whole, .int .i64 T.2.frm, .int .i64 T.2.to], .int .i64 T.1]) ∧ Kept w w' := by
  have HT := Lib.hid hT
  have HM := Lib.hid hm
  clear hT hm
  have KA := Lib.hid ((Kept.refl w).alloc tok0 72)
  have hlen : s.data.toList.length = s.size := by simp
  by_cases hin : 0 ≤ a ∧ a ≤ (s.size : Int)
  · obtain ⟨a0, a1⟩ := hin
    obtain ⟨K, hK⟩ : ∃ K, K = Lx.spaceV s.data.toList a := ⟨_, rfl⟩
    obtain ⟨hkl, hst⟩ := space_fits s.data.toList a
    rw [← hK, hlen] at hkl
    rw [← hK] at hst
    obtain ⟨U, hU⟩ : ∃ U, U = Lx.tokV s.data.toList K := ⟨_, rfl⟩
    have HV := Lib.hid (show T = if U.1 = 0 then (0, { U.2 with frm := K }) else (U.1, Lx.zero) by
      rw [HT.out, Lx.nextV, hlen, if_pos ⟨a0, a1⟩, ← hK, ← hU])
    have HK := Lib.hid hK
    have HU := Lib.hid hU
    have HS := Lib.hid (fun h : K < s.size => spc_stops s K h hst)
    clear hK hU hst hlen
    go_enter Tryz.func53, Tryz.ntmps53
    go_wp2_with fail
    refine (Space_any s a _ (by omega)).mono ?_
    rintro e w2 ⟨rfl, hk2⟩
    rw [← HK.out]
    have HB2 := Lib.hid ((Blk.fresh w tok0 72).kept hk2)
    have HK2 := Lib.hid (KA.out.trans hk2)
    clear hk2
    go_wp2_with fail
    refine (tokenAt_any s K _ hkl hs HS.out (HM.out.kept HK2.out) U HU.out).mono ?_
    rintro e w3 ⟨rfl, hk3⟩
    have HB3 := Lib.hid (HB2.out.kept hk3)
    have HK3 := Lib.hid (HK2.out.trans hk3)
    obtain ⟨p0, p1, p2, p3, p4, p5⟩ := HB3.out.cells6
    have pf := HB3.out.free
    have hz : w.heap.size < w3.heap.size := HB3.out.lt
    clear hk3
    by_cases he : U.1 = 0
    · have HW := Lib.hid (show T = (0, { U.2 with frm := K }) by rw [HV.out, if_pos he])
      rw [he]
      go_wp2_with fail
      refine bodyPost_ret (v := .tuple #[.agg #[.int .i64 U.2.kind, .int .i64 U.2.f, .string ⟨U.2.s.toArray⟩, .bool U.2.whole, .int .i64 K, .int .i64 U.2.to], .int .i64 0]) ?_ rfl ⟨by rw [HW.out]; first | done | rfl, ?_⟩
      · simp [results, Tryz.results53, go_sem, p0, p1, p2, p3, p4, p5, hz]
      · repeat (with_reducible first | exact HK3.out | refine Kept.drew ?_ | refine Kept.drewN ?_ _ | refine Kept.alloc ?_ _ _ | refine Kept.set ?_ (by omega) _)
    · have HW := Lib.hid (show T = (U.1, Lx.zero) by rw [HV.out, if_neg he])
      have hne : (U.1 != 0) = true := by simpa using he
      clear he
      go_wp2_with fail
      refine bodyPost_ret (v := .tuple #[.agg #[.int .i64 0, .int .i64 0, .string ⟨#[]⟩, .bool false, .int .i64 0, .int .i64 0], .int .i64 U.1]) ?_ rfl ⟨by rw [HW.out]; first | done | rfl, ?_⟩
      · simp [results, Tryz.results53, go_sem, p0, p1, p2, p3, p4, p5, hz]
      · repeat (with_reducible first | exact HK3.out | refine Kept.drew ?_ | refine Kept.drewN ?_ _ | refine Kept.alloc ?_ _ _ | refine Kept.set ?_ (by omega) _)
  · have HV := Lib.hid (show T = (1, Lx.zero) by rw [HT.out, Lx.nextV, hlen, if_neg hin])
    have hout : a < 0 ∨ (s.size : Int) < a := by omega
    clear hin hlen
    rcases hout with h | h
    · go_enter Tryz.func53, Tryz.ntmps53
      go_wp2_with fail
      refine bodyPost_ret (v := .tuple #[.agg #[.int .i64 0, .int .i64 0, .string ⟨#[]⟩, .bool false, .int .i64 0, .int .i64 0], .int .i64 1]) ?_ rfl ⟨by rw [HV.out]; first | done | rfl, ?_⟩
      · simp [results, Tryz.results53, go_sem]
      · repeat (with_reducible first | exact (Kept.refl w) | refine Kept.drew ?_ | refine Kept.alloc ?_ _ _ | refine Kept.set ?_ (Nat.le_refl _) _)
    · have h0 : ¬ a < 0 := by omega
      go_enter Tryz.func53, Tryz.ntmps53
      go_wp2_with fail
      refine bodyPost_ret (v := .tuple #[.agg #[.int .i64 0, .int .i64 0, .string ⟨#[]⟩, .bool false, .int .i64 0, .int .i64 0], .int .i64 1]) ?_ rfl ⟨by rw [HV.out]; first | done | rfl, ?_⟩
      · simp [results, Tryz.results53, go_sem]
      · repeat (with_reducible first | exact (Kept.refl w) | refine Kept.drew ?_ | refine Kept.alloc ?_ _ _ | refine Kept.set ?_ (Nat.le_refl _) _)

end Go.Proofs.YthpbipaekmedaaaGreatDoor
