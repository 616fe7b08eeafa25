/-
  What package lex's nameToken answers: the Name behind its sign.
-/
import Derived.Test.YthpbipaekmedaaaGreatDoorLexW1
namespace Go.Proofs.YthpbipaekmedaaaGreatDoor
open Go.RowKit

theorem hexV_lt {c : UInt8} (h : Lx.isHex c = true) : (Lx.hexV c).toNat < 16 := by
  have := Lx.byte_all (fun c => !Lx.isHex c || decide ((Lx.hexV c).toNat < 16)) (by kernel_rfl) c
  rw [h] at this; simpa using this
theorem hex_two {c d : UInt8} (hc : Lx.isHex c = true) (hd : Lx.isHex d = true) :
    bits BinOp.or IntKind.u8 (((Lx.hexV c).toNat : Int) * 16 % 256) ((Lx.hexV d).toNat : Int) = ((Lx.hexV c <<< 4 ||| Lx.hexV d).toNat : Int) := by
  have key : (List.range 16).all (fun a => (List.range 16).all fun b => bits BinOp.or IntKind.u8 (((UInt8.ofNat a).toNat : Int) * 16 % 256) ((UInt8.ofNat b).toNat : Int) == ((UInt8.ofNat a <<< 4 ||| UInt8.ofNat b).toNat : Int)) = true := by kernel_rfl
  have h1 := List.all_eq_true.1 (List.all_eq_true.1 key _ (List.mem_range.2 (hexV_lt hc))) _ (List.mem_range.2 (hexV_lt hd))
  simpa using h1

set_option maxRecDepth 100000 in
set_option maxHeartbeats 2000000 in
theorem nameToken_any (s : ByteArray) (k : Nat) (w : World) (hk : k ≤ s.size) (hs : s.size ≤ 4294967296) (T : Int × Lx.Tok) (hT : T = Lx.ofR3 2 (Lx.nameGo [] 0 (s.data.toList.drop k) k)) :
    Calls Tryz.prog 89 #[.string s, .int .i64 k] w fun e w' =>
      e = .returned (.tuple #[.agg #[.int .i64 T.2.kind, .int .i64 T.2.f, .string ⟨T.2.s.toArray⟩, .bool T.2.whole, .int .i64 T.2.frm, .int .i64 T.2.to], .int .i64 T.1]) ∧ Kept w w' := by
  have HT := Lib.hid hT
  clear hT
  go_enter Tryz.func89, Tryz.ntmps89
  go_wp2_with fail
  refine (over_any s k _).mono ?_
  rintro e w' ⟨rfl, rfl⟩
  have hrun := open_run s k w
  go_wp2_with fail
  go_loopg [8] (s.size - k) (fun n v wr => ∃ (j : Nat) (acc : List UInt8), n = s.size - j ∧ j ≤ s.size ∧ acc.length ≤ j ∧ Run w s j acc v wr ∧ Hid (T = Lx.ofR3 2 (Lx.nameGo acc 0 (s.data.toList.drop j) j)))
  case atStart => exact ⟨k, [], rfl, hk, Nat.zero_le _, hrun, HT⟩
  case round =>
    clear hrun
    obtain ⟨j, acc, hn, hj, hl, hr, HE⟩ := hrel
    have HR := Lib.hid hr
    by_cases hyes : ∃ h : j < s.size, Lx.reg s[j] = true
    · obtain ⟨hlt, hp⟩ := hyes
      have HD := Lib.hid (drop_cons s j hlt)
      clear hr
      go_wp2_with fail
      refine (take_yes _ #[] Lx.reg ent_regular s _ j _ HR.out.here hlt (by omega) (fits_regular _) hp).mono ?_
      rintro e w2 ⟨rfl, ha, hg⟩
      have hr2 := HR.out.take ha hg
      have HR2 := Lib.hid hr2
      have hB : w.heap.size ≤ w2.heap.size := Below.size hr2.kept
      clear ha hg
      by_cases h35 : s[j] = 35
      · have e35 := byte_is h35 35 rfl
        by_cases hy1 : ∃ h : j + 1 < s.size, Lx.isHex s[j + 1] = true
        · obtain ⟨hlt1, hp1⟩ := hy1
          have HD1 := Lib.hid (drop_cons s (j + 1) hlt1)
          by_cases hy2 : ∃ h : j + 1 + 1 < s.size, Lx.isHex s[j + 1 + 1] = true
          · obtain ⟨hlt2, hp2⟩ := hy2
            have HD2 := Lib.hid (drop_cons s (j + 1 + 1) hlt2)
            have HX := Lib.hid (hex_two hp1 hp2)
            have HV := Lib.hid (show T = Lx.ofR3 2 (Lx.nameGo (acc ++ [Lx.hexV s[j + 1] <<< 4 ||| Lx.hexV s[j + 1 + 1]]) 0 (s.data.toList.drop (j + 3)) (j + 3)) by
              rw [HE.out, HD.out, HD1.out, HD2.out, Lx.name_two h35 hp1 hp2])
            clear h35 hr2
            go_wp2_with fail
            refine (take_yes _ #[] Lx.isHex ent_isDigit16 s _ (j + 1) _ HR2.out.here hlt1 (by omega) (fits_isDigit16 _) hp1).mono ?_
            rintro e w3 ⟨rfl, ha, hg⟩
            have HR3 := Lib.hid (HR2.out.take ha hg)
            clear ha hg
            go_wp2_with fail
            refine (take_yes _ #[] Lx.isHex ent_isDigit16 s _ (j + 1 + 1) _ HR3.out.here hlt2 (by omega) (fits_isDigit16 _) hp2).mono ?_
            rintro e w4 ⟨rfl, ha, hg⟩
            have HR4 := Lib.hid (HR3.out.take ha hg)
            clear ha hg
            go_wp2_with fail
            refine (digit16_any _ _ hp1).mono ?_
            rintro e w5 ⟨rfl, rfl⟩
            go_wp2_with fail
            refine (digit16_any _ _ hp2).mono ?_
            rintro e w5 ⟨rfl, rfl⟩
            go_wp2_with (at_builtin; refine wpList_app_bytes rfl _ _ rfl w.heap.size _ acc rfl HR4.out.own [Lx.hexV s[j + 1] <<< 4 ||| Lx.hexV s[j + 1 + 1]] _ (by rw [HX.out]; rfl) 1 _ rfl rfl (Below.size HR4.out.kept) (by simp; omega) ?_)
            intro v' w5 hown5 hgrow
            have hr5 := (HR4.out.alloc _).app rfl rfl hown5 hgrow
            clear hown5 hgrow
            go_wp2_with fail
            go_roundg (s.size - (j + 3))
            case measure => omega
            case rel => exact ⟨j + 3, _, rfl, by omega, by simp; omega, hr5, HV⟩
          · have hn2 : ∀ h : j + 1 + 1 < s.size, Lx.isHex s[j + 1 + 1] = false := fun h => Bool.eq_false_iff.2 fun e => hy2 ⟨h, e⟩
            have HV := Lib.hid (show T = (3, Lx.zero) by
              rw [HE.out, HD.out, HD1.out]
              by_cases h2 : j + 1 + 1 < s.size
              · rw [drop_cons s _ h2, Lx.name_bad2 h35 (by rw [hn2 h2]; simp)]; rfl
              · rw [drop_end s _ (by omega), Lx.name_bad1 h35]; rfl)
            have HN := Lib.hid hn2
            clear h35 hr2 hy2 hn2
            go_wp2_with fail
            refine (take_yes _ #[] Lx.isHex ent_isDigit16 s _ (j + 1) _ HR2.out.here hlt1 (by omega) (fits_isDigit16 _) hp1).mono ?_
            rintro e w3 ⟨rfl, ha, hg⟩
            have hr3 := HR2.out.take ha hg
            have HR3 := Lib.hid hr3
            obtain ⟨r0, r1, r2, r3, r4, r5⟩ := hr3.res.cells6
            have rf := hr3.res.free
            clear ha hg hr3
            go_wp2_with fail
            refine (take_not _ #[] Lx.isHex ent_isDigit16 s _ (j + 1 + 1) _ HR3.out.here (by omega) (fits_isDigit16 _) HN.out).mono ?_
            rintro e w4 ⟨rfl, rfl⟩
            go_wp2_with fail
            refine bodyPost_ret (v := .tuple #[.agg #[.int .i64 0, .int .i64 0, .string ⟨#[]⟩, .bool false, .int .i64 0, .int .i64 0], .int .i64 3]) ?_ rfl ⟨by rw [HV.out]; first | done | rfl, ?_⟩
            · simp [results, Tryz.results89, go_sem, r0, r1, r2, r3, r4, r5]
            · repeat (with_reducible first | exact HR3.out.kept | refine Kept.drew ?_ | refine Kept.set ?_ (Nat.le_refl _) _)
        · have hn1 : ∀ h : j + 1 < s.size, Lx.isHex s[j + 1] = false := fun h => Bool.eq_false_iff.2 fun e => hy1 ⟨h, e⟩
          have HV := Lib.hid (show T = (3, Lx.zero) by
            rw [HE.out, HD.out]
            by_cases h2 : j + 1 < s.size
            · rw [drop_cons s _ h2, Lx.name_bad3 h35 (hn1 h2)]; rfl
            · rw [drop_end s _ (by omega), Lx.name_bad0 h35]; rfl)
          have HN := Lib.hid hn1
          obtain ⟨r0, r1, r2, r3, r4, r5⟩ := hr2.res.cells6
          have rf := hr2.res.free
          clear h35 hr2 hy1 hn1
          go_wp2_with fail
          refine (take_not _ #[] Lx.isHex ent_isDigit16 s _ (j + 1) _ HR2.out.here (by omega) (fits_isDigit16 _) HN.out).mono ?_
          rintro e w4 ⟨rfl, rfl⟩
          go_wp2_with fail
          refine (take_not _ #[] Lx.isHex ent_isDigit16 s _ (j + 1) _ HR2.out.here (by omega) (fits_isDigit16 _) HN.out).mono ?_
          rintro e w4 ⟨rfl, rfl⟩
          go_wp2_with fail
          refine bodyPost_ret (v := .tuple #[.agg #[.int .i64 0, .int .i64 0, .string ⟨#[]⟩, .bool false, .int .i64 0, .int .i64 0], .int .i64 3]) ?_ rfl ⟨by rw [HV.out]; first | done | rfl, ?_⟩
          · simp [results, Tryz.results89, go_sem, r0, r1, r2, r3, r4, r5]
          · repeat (with_reducible first | exact HR2.out.kept | refine Kept.drew ?_ | refine Kept.set ?_ (Nat.le_refl _) _)
      · have e35 := byte_not h35 35 rfl
        have HV := Lib.hid (show T = Lx.ofR3 2 (Lx.nameGo (acc ++ [s[j]]) 0 (s.data.toList.drop (j + 1)) (j + 1)) by
          rw [HE.out, HD.out, Lx.name_byte hp h35])
        clear h35 hr2
        go_wp2_with (at_builtin; refine wpList_app_bytes rfl _ _ rfl w.heap.size _ acc rfl HR2.out.own [s[j]] _ rfl 1 _ rfl rfl hB (by simp; omega) ?_)
        intro v' w3 hown3 hgrow
        have hr3 := (HR2.out.alloc _).app rfl rfl hown3 hgrow
        clear hown3 hgrow
        go_wp2_with fail
        go_roundg (s.size - (j + 1))
        case measure => omega
        case rel => exact ⟨j + 1, _, rfl, by omega, by simp; omega, hr3, HV⟩
    · have hn0 : ∀ h : j < s.size, Lx.reg s[j] = false := fun h => Bool.eq_false_iff.2 fun e => hyes ⟨h, e⟩
      have HV := Lib.hid (show T = (0, ⟨2, 0, acc, false, 0, j⟩) by
        rw [HE.out]
        by_cases h2 : j < s.size
        · rw [drop_cons s _ h2, Lx.name_stop (hn0 h2)]; rfl
        · rw [drop_end s _ (by omega), Lx.name_end]; rfl)
      have HN := Lib.hid hn0
      have hcv := hr.drew.own.string
      obtain ⟨r0, r1, r2, r3, r4, r5⟩ := hr.res.cells6
      have rf := hr.res.free
      clear hr hyes hn0
      go_wp2_with fail
      refine (take_not _ #[] Lx.reg ent_regular s _ _ _ HR.out.here hj (fits_regular _) HN.out).mono ?_
      rintro e w' ⟨rfl, rfl⟩
      go_wp2_with fail
      go_region_with (go_at_call 106; refine (place_any s _ _ _ HR.out.drew.here).mono ?_; rintro e w' ⟨rfl, rfl⟩)
      all_goals
        go_wp2_with fail
        refine bodyPost_ret (v := .tuple #[.agg #[.int .i64 2, .int .i64 0, .string ⟨acc.toArray⟩, .bool false, .int .i64 0, .int .i64 j], .int .i64 0]) ?_ rfl ⟨by rw [HV.out]; first | done | rfl, ?_⟩
        · simp [results, Tryz.results89, go_sem, r0, r1, r2, r3, r4, r5]
        · repeat (with_reducible first | exact HR.out.kept | refine Kept.drew ?_ | refine Kept.set ?_ (Nat.le_refl _) _)

end Go.Proofs.YthpbipaekmedaaaGreatDoor
