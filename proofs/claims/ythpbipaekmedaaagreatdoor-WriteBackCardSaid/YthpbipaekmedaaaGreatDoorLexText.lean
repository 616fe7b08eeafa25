/-
  What package lex's plainText answers: the Text behind "(".
-/
import Derived.Test.YthpbipaekmedaaaGreatDoorLexEsc
namespace Go.Proofs.YthpbipaekmedaaaGreatDoor
open Go.RowKit

set_option maxRecDepth 100000 in
set_option maxHeartbeats 4000000 in
theorem plainText_any (s : ByteArray) (k : Nat) (w : World) (hk : k ≤ s.size) (hs : s.size ≤ 4294967296) (T : Int × Lx.Tok) (hT : T = Lx.ofR3 3 (Lx.textGo [] 0 0 (s.data.toList.drop k) k)) :
    Calls Tryz.prog 90 #[.string s, .int .i64 k] w fun e w' =>
      e = .returned (.tuple #[.agg #[.int .i64 T.2.kind, .int .i64 T.2.f, .string ⟨T.2.s.toArray⟩, .bool T.2.whole, .int .i64 T.2.frm, .int .i64 T.2.to], .int .i64 T.1]) ∧ Kept w w' := by
  have HT := Lib.hid hT
  clear hT
  go_enter Tryz.func90, Tryz.ntmps90
  go_wp2_with fail
  refine (over_any s k _).mono ?_
  rintro e w' ⟨rfl, rfl⟩
  have hrun := open_run s k w
  go_wp2_with fail
  go_loopg [8, 9] (s.size - k) (fun n v x wr => ∃ (j d : Nat) (acc : List UInt8), n = s.size - j ∧ j ≤ s.size ∧ d ≤ j ∧ x = .int .i64 ((d : Int) + 1) ∧ acc.length ≤ j ∧ Run w s j acc v wr ∧ Hid (T = Lx.ofR3 3 (Lx.textGo acc d 0 (s.data.toList.drop j) j)))
  case atStart => exact ⟨k, 0, [], rfl, hk, Nat.zero_le _, by go_num, Nat.zero_le _, hrun, HT⟩
  case round =>
    clear hrun
    obtain ⟨j, d, acc, hn, hj, hd, rfl, hl, hr, HE⟩ := hrel
    have HR := Lib.hid hr
    clear hr
    by_cases hlt : j < s.size
    · have HD := Lib.hid (drop_cons s j hlt)
      go_wp2_with fail
      refine (take_yes _ #[] (fun _ => true) ent_anyByte s _ j _ HR.out.here hlt (by omega) (fits_anyByte _) rfl).mono ?_
      rintro e w2 ⟨rfl, ha, hg⟩
      have HR2 := Lib.hid (HR.out.take ha hg)
      have hB : w.heap.size ≤ w2.heap.size := Below.size HR2.out.kept
      clear ha hg
      by_cases h40 : s[j] = 40
      · have e1 := byte_is h40 40 rfl
        have HV := Lib.hid (show T = Lx.ofR3 3 (Lx.textGo (acc ++ [s[j]]) (d + 1) 0 (s.data.toList.drop (j + 1)) (j + 1)) by rw [HE.out, HD.out, Lx.text_open h40, h40])
        clear h40
        go_wp2_with (at_builtin; refine wpList_app_bytes rfl _ _ rfl w.heap.size _ acc rfl HR2.out.own [s[j]] _ rfl 1 _ rfl rfl hB (by simp; omega) ?_)
        intro v' w3 hown3 hgrow
        have HR3 := Lib.hid ((HR2.out.alloc _).app rfl rfl hown3 hgrow)
        clear hown3 hgrow
        go_wp2_with fail
        go_roundg (s.size - (j + 1))
        case measure => omega
        case rel => exact ⟨j + 1, d + 1, _, rfl, by omega, by omega, by go_num, by simp; omega, HR3.out, HV⟩
      have e40 := byte_not h40 40 rfl
      by_cases h41 : s[j] = 41
      · have e1 := byte_is h41 41 rfl
        cases d with
        | zero =>
          have HV := Lib.hid (show T = (0, ⟨3, 0, acc, false, 0, j + 1⟩) by rw [HE.out, HD.out, Lx.text_done h41]; rfl)
          have hcv := HR2.out.drew.own.string
          obtain ⟨r0, r1, r2, r3, r4, r5⟩ := HR2.out.res.cells6
          have rf := HR2.out.res.free
          clear h40 h41
          go_wp2_with fail
          go_region_with (go_at_call 106; refine (place_any s _ _ _ HR2.out.drew.here).mono ?_; rintro e w' ⟨rfl, rfl⟩)
          all_goals
            go_wp2_with fail
            refine bodyPost_ret (v := .tuple #[.agg #[.int .i64 3, .int .i64 0, .string ⟨acc.toArray⟩, .bool false, .int .i64 0, .int .i64 (j + 1 : Nat)], .int .i64 0]) ?_ rfl ⟨by rw [HV.out]; first | done | rfl, ?_⟩
            · simp [results, Tryz.results90, go_sem, r0, r1, r2, r3, r4, r5]
            · repeat (with_reducible first | exact HR2.out.kept | refine Kept.drew ?_ | refine Kept.set ?_ (Nat.le_refl _) _)
        | succ d =>
          have HV := Lib.hid (show T = Lx.ofR3 3 (Lx.textGo (acc ++ [s[j]]) d 0 (s.data.toList.drop (j + 1)) (j + 1)) by rw [HE.out, HD.out, Lx.text_close h41, h41])
          clear h40 h41
          go_wp2_with (at_builtin; refine wpList_app_bytes rfl _ _ rfl w.heap.size _ acc rfl HR2.out.own [s[j]] _ rfl 1 _ rfl rfl hB (by simp; omega) ?_)
          intro v' w3 hown3 hgrow
          have HR3 := Lib.hid ((HR2.out.alloc _).app rfl rfl hown3 hgrow)
          clear hown3 hgrow
          go_wp2_with fail
          go_roundg (s.size - (j + 1))
          case measure => omega
          case rel => exact ⟨j + 1, d, _, rfl, by omega, by omega, by go_num, by simp; omega, HR3.out, HV⟩
      have e41 := byte_not h41 41 rfl
      by_cases h13 : s[j] = 13
      · have e1 := byte_is h13 13 rfl
        have HV := Lib.hid (show T = Lx.ofR3 3 (Lx.textGo (acc ++ [10]) d 0 (s.data.toList.drop (j + 1 + Lx.crlf (s.data.toList.drop (j + 1)))) (j + 1 + Lx.crlf (s.data.toList.drop (j + 1)))) by
          rw [HE.out, HD.out, Lx.text_cr h13, List.drop_drop])
        clear h40 h41 h13
        go_wp2_with fail
        refine (is_any 10 _).mono ?_
        rintro e w3 ⟨rfl, rfl⟩
        have HR3 := Lib.hid (HR2.out.alloc (.cells #[.int .u8 ((10 : UInt8).toNat : Int)] 5))
        have HB := Lib.hid (Blk.fresh w2 #[.int .u8 ((10 : UInt8).toNat : Int)] 5)
        go_wp2_with fail
        by_cases hyes : ∃ h : j + 1 < s.size, (s[j + 1] == (10 : UInt8)) = true
        · obtain ⟨hk1, hp1⟩ := hyes
          have HC := Lib.hid (show Lx.crlf (s.data.toList.drop (j + 1)) = 1 by
            rw [drop_cons s _ hk1]; show (if s[j + 1] == 10 then 1 else 0) = 1; rw [if_pos hp1])
          refine (take_yes _ #[.pointer (some ⟨w2.heap.size, 0, none⟩)] (fun x => x == 10) ent_is s _ (j + 1) _ HR3.out.here hk1 (by omega) (fits_is 10 _ _ HB.out) hp1).mono ?_
          rintro e w4 ⟨rfl, ha, hg⟩
          have HR4 := Lib.hid (HR3.out.take ha hg)
          have hB4 : w.heap.size ≤ w4.heap.size := Below.size HR4.out.kept
          clear ha hg
          go_wp2_with (at_builtin; refine wpList_app_bytes rfl _ _ rfl w.heap.size _ acc rfl HR4.out.own [10] _ rfl 1 _ rfl rfl hB4 (by simp; omega) ?_)
          intro v' w5 hown5 hgrow
          have HR5 := Lib.hid ((HR4.out.alloc _).app rfl rfl hown5 hgrow)
          clear hown5 hgrow
          go_wp2_with fail
          go_roundg (s.size - (j + 1 + 1))
          case measure => omega
          case rel => exact ⟨j + 1 + 1, d, _, rfl, by omega, by omega, rfl, by simp; omega, HR5.out, Lib.hid (by rw [HV.out, HC.out])⟩
        · have hn0 : ∀ h : j + 1 < s.size, (s[j + 1] == (10 : UInt8)) = false := fun h => Bool.eq_false_iff.2 fun e => hyes ⟨h, e⟩
          have HC := Lib.hid (show Lx.crlf (s.data.toList.drop (j + 1)) = 0 by
            by_cases h1 : j + 1 < s.size
            · rw [drop_cons s _ h1]; show (if s[j + 1] == 10 then 1 else 0) = 0; rw [if_neg (by rw [hn0 h1]; simp)]
            · rw [drop_end s _ (by omega)]; rfl)
          clear hyes
          have HN := Lib.hid hn0
          clear hn0
          refine (take_not _ #[.pointer (some ⟨w2.heap.size, 0, none⟩)] (fun x => x == 10) ent_is s _ (j + 1) _ HR3.out.here (by omega) (fits_is 10 _ _ HB.out) HN.out).mono ?_
          rintro e w4 ⟨rfl, rfl⟩
          have hB3 : w.heap.size ≤ (w2.alloc (.cells #[.int .u8 ((10 : UInt8).toNat : Int)] 5)).heap.size := Below.size HR3.out.kept
          obtain ⟨w3, hw3⟩ : ∃ w3, w3 = w2.alloc (.cells #[.int .u8 ((10 : UInt8).toNat : Int)] 5) := ⟨_, rfl⟩
          rw [← hw3] at HR3 hB3 ⊢
          clear hw3 HB
          go_wp2_with (at_builtin; refine wpList_app_bytes rfl _ _ rfl w.heap.size _ acc rfl HR3.out.own [10] _ rfl 1 _ rfl rfl hB3 (by simp; omega) ?_)
          intro v' w5 hown5 hgrow
          have HR5 := Lib.hid ((HR3.out.alloc _).app rfl rfl hown5 hgrow)
          clear hown5 hgrow
          go_wp2_with fail
          go_roundg (s.size - (j + 1))
          case measure => omega
          case rel => exact ⟨j + 1, d, _, rfl, by omega, by omega, rfl, by simp; omega, HR5.out, Lib.hid (by rw [HV.out, HC.out])⟩
      have e13 := byte_not h13 13 rfl
      by_cases h92 : s[j] = 92
      · have e1 := byte_is h92 92 rfl
        have HV := Lib.hid (show T = Lx.ofR3 3 (Lx.textGo (acc ++ (Lx.esc (s.data.toList.drop (j + 1))).1) d 0 (s.data.toList.drop (j + 1 + (Lx.esc (s.data.toList.drop (j + 1))).2)) (j + 1 + (Lx.esc (s.data.toList.drop (j + 1))).2)) by
          rw [HE.out, HD.out, Lx.text_esc h92, List.drop_drop])
        clear h40 h41 h13 h92
        by_cases hk1 : j + 1 < s.size
        · have HL := Lib.hid (Lx.esc_le (l := s.data.toList.drop (j + 1)))
          have HL2 := Lib.hid (Lx.esc_len (l := s.data.toList.drop (j + 1)))
          go_wp2_with fail
          refine (appendEscaped_any s (j + 1) acc _ w w2 HR2.out hk1 (by omega) (by omega)).mono ?_
          rintro e w3 ⟨v', rfl, hr3⟩
          have HR3 := Lib.hid hr3
          clear hr3
          go_wp2_with fail
          go_roundg (s.size - (j + 1 + (Lx.esc (s.data.toList.drop (j + 1))).2))
          case measure => omega
          case rel => exact ⟨_, d, _, rfl, by have := HL.out; simp at this; omega, by omega, rfl, by have := HL2.out; simp; omega, HR3.out, HV⟩
        · have hsz : j + 1 = s.size := by omega
          have HW := Lib.hid (show T = (4, Lx.zero) by
            rw [HE.out, HD.out, drop_end s _ (by omega)]
            rw [Lx.text_esc (by
              have := e1; simp at this
              exact UInt8.toNat_inj.1 (by have h : (92 : UInt8).toNat = 92 := rfl; omega))]
            rw [List.drop_nil, Lx.text_end]; rfl)
          have HA := Lib.hid (show At s (w.heap.size + 1) s.size w2 by rw [← hsz]; exact HR2.out.here)
          obtain ⟨r0, r1, r2, r3, r4, r5⟩ := HR2.out.res.cells6
          have rf := HR2.out.res.free
          clear hsz
          go_wp2_with fail
          refine (appendEscaped_end s _ _ _ HA.out).mono ?_
          rintro e w3 ⟨rfl, rfl⟩
          go_wp2_with fail
          refine bodyPost_ret (v := .tuple #[.agg #[.int .i64 0, .int .i64 0, .string ⟨#[]⟩, .bool false, .int .i64 0, .int .i64 0], .int .i64 4]) ?_ rfl ⟨by rw [HW.out]; first | done | rfl, ?_⟩
          · simp [results, Tryz.results90, go_sem, r0, r1, r2, r3, r4, r5]
          · repeat (with_reducible first | exact HR2.out.kept | refine Kept.drew ?_ | refine Kept.set ?_ (Nat.le_refl _) _)
      · have e92 := byte_not h92 92 rfl
        have HV := Lib.hid (show T = Lx.ofR3 3 (Lx.textGo (acc ++ [s[j]]) d 0 (s.data.toList.drop (j + 1)) (j + 1)) by rw [HE.out, HD.out, Lx.text_byte h92 h40 h41 h13])
        clear h40 h41 h13 h92
        go_wp2_with (at_builtin; refine wpList_app_bytes rfl _ _ rfl w.heap.size _ acc rfl HR2.out.own [s[j]] _ rfl 1 _ rfl rfl hB (by simp; omega) ?_)
        intro v' w3 hown3 hgrow
        have HR3 := Lib.hid ((HR2.out.alloc _).app rfl rfl hown3 hgrow)
        clear hown3 hgrow
        go_wp2_with fail
        go_roundg (s.size - (j + 1))
        case measure => omega
        case rel => exact ⟨j + 1, d, _, rfl, by omega, by omega, rfl, by simp; omega, HR3.out, HV⟩
    · obtain rfl : j = s.size := by omega
      have HV := Lib.hid (show T = (4, Lx.zero) by rw [HE.out, drop_end s s.size (Nat.le_refl _), Lx.text_end]; rfl)
      obtain ⟨r0, r1, r2, r3, r4, r5⟩ := HR.out.res.cells6
      have rf := HR.out.res.free
      go_wp2_with fail
      refine (take_end _ #[] s _ _ HR.out.here).mono ?_
      rintro e w' ⟨rfl, rfl⟩
      go_wp2_with fail
      refine bodyPost_ret (v := .tuple #[.agg #[.int .i64 0, .int .i64 0, .string ⟨#[]⟩, .bool false, .int .i64 0, .int .i64 0], .int .i64 4]) ?_ rfl ⟨by rw [HV.out]; first | done | rfl, ?_⟩
      · simp [results, Tryz.results90, go_sem, r0, r1, r2, r3, r4, r5]
      · repeat (with_reducible first | exact HR.out.kept | refine Kept.drew ?_ | refine Kept.set ?_ (Nat.le_refl _) _)

end Go.Proofs.YthpbipaekmedaaaGreatDoor
