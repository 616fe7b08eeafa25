/-
  What package lex's nameToken answers: the Name behind its sign.
  What package lex's number8 and appendEscaped answer: what a backslash stands for.
  What package lex's plainText answers: the Text behind "(".
  What package lex's digitText answers: the Text behind "<".
  What package lex's wordOrNumber answers.
  What package lex's tokenAt and Next answer.
-/
import Derived.Test.YtbgdeaeikijdgaaGreatDoorLexW1
import Derived.Outline
import Derived.Test.YtbgdeaeikijdgaaGreatDoorFixW
namespace Go.Proofs.YtbgdeaeikijdgaaGreatDoor
open Go.RowKit

theorem hexV_lt {c : UInt8} (h : Lx.isHex c = true) : (Lx.hexV c).toNat < 16 := by
  have := Lx.byte_all (fun c => !Lx.isHex c || decide ((Lx.hexV c).toNat < 16)) (by kernel_rfl) c
  rw [h] at this; simpa using this
theorem hex_two {c d : UInt8} (hc : Lx.isHex c = true) (hd : Lx.isHex d = true) :
    bits BinOp.or IntKind.u8 (((Lx.hexV c).toNat : Int) * 16 % 256) ((Lx.hexV d).toNat : Int) = ((Lx.hexV c <<< 4 ||| Lx.hexV d).toNat : Int) := by
  have key : (List.range 16).all (fun a => (List.range 16).all fun b => bits BinOp.or IntKind.u8 (((UInt8.ofNat a).toNat : Int) * 16 % 256) ((UInt8.ofNat b).toNat : Int) == ((UInt8.ofNat a <<< 4 ||| UInt8.ofNat b).toNat : Int)) = true := by kernel_rfl
  have h1 := List.all_eq_true.1 (List.all_eq_true.1 key _ (List.mem_range.2 (hexV_lt hc))) _ (List.mem_range.2 (hexV_lt hd))
  simpa using h1

set_option maxRecDepth 100000 in
set_option maxHeartbeats 2000000 in
theorem nameToken_any (s : ByteArray) (k : Nat) (w : World) (hk : k ≤ s.size) (hs : s.size ≤ 4294967296) (T : Int × Lx.Tok) (hT : T = Lx.ofR3 2 (Lx.nameGo [] 0 (s.data.toList.drop k) k)) :
    Calls Tryz.prog 106 #[.string s, .int .i64 k] w fun e w' =>
      e = .returned (.tuple #[.agg #[.int .i64 T.2.kind, .int .i64 T.2.f, .string ⟨T.2.s.toArray⟩, .bool T.2.whole, .int .i64 T.2.frm, .int .i64 T.2.to], .int .i64 T.1]) ∧ Kept w w' := by
  have HT := Lib.hid hT
  clear hT
  go_enter Tryz.func106, Tryz.ntmps106
  go_wp2_with fail
  refine (over_any s k _).mono ?_
  rintro e w' ⟨rfl, rfl⟩
  have hrun := open_run s k w
  go_wp2_with fail
  go_loopg [8] (s.size - k) (fun n v wr => ∃ (j : Nat) (acc : List UInt8), n = s.size - j ∧ j ≤ s.size ∧ acc.length ≤ j ∧ Run w s j acc v wr ∧ Hid (T = Lx.ofR3 2 (Lx.nameGo acc 0 (s.data.toList.drop j) j)))
  case atStart => exact ⟨k, [], rfl, hk, Nat.zero_le _, hrun, HT⟩
  case round =>
    clear hrun
    obtain ⟨j, acc, hn, hj, hl, hr, HE⟩ := hrel
    have HR := Lib.hid hr
    by_cases hyes : ∃ h : j < s.size, Lx.reg s[j] = true
    · obtain ⟨hlt, hp⟩ := hyes
      have HD := Lib.hid (drop_cons s j hlt)
      clear hr
      go_wp2_with fail
      refine (take_yes _ #[] Lx.reg ent_regular s _ j _ HR.out.here hlt (by omega) (fits_regular _) hp).mono ?_
      rintro e w2 ⟨rfl, ha, hg⟩
      have hr2 := HR.out.take ha hg
      have HR2 := Lib.hid hr2
      have hB : w.heap.size ≤ w2.heap.size := Below.size hr2.kept
      clear ha hg
      by_cases h35 : s[j] = 35
      · have e35 := byte_is h35 35 rfl
        by_cases hy1 : ∃ h : j + 1 < s.size, Lx.isHex s[j + 1] = true
        · obtain ⟨hlt1, hp1⟩ := hy1
          have HD1 := Lib.hid (drop_cons s (j + 1) hlt1)
          by_cases hy2 : ∃ h : j + 1 + 1 < s.size, Lx.isHex s[j + 1 + 1] = true
          · obtain ⟨hlt2, hp2⟩ := hy2
            have HD2 := Lib.hid (drop_cons s (j + 1 + 1) hlt2)
            have HX := Lib.hid (hex_two hp1 hp2)
            have HV := Lib.hid (show T = Lx.ofR3 2 (Lx.nameGo (acc ++ [Lx.hexV s[j + 1] <<< 4 ||| Lx.hexV s[j + 1 + 1]]) 0 (s.data.toList.drop (j + 3)) (j + 3)) by
              rw [HE.out, HD.out, HD1.out, HD2.out, Lx.name_two h35 hp1 hp2])
            clear h35 hr2
            go_wp2_with fail
            refine (take_yes _ #[] Lx.isHex ent_isDigit16 s _ (j + 1) _ HR2.out.here hlt1 (by omega) (fits_isDigit16 _) hp1).mono ?_
            rintro e w3 ⟨rfl, ha, hg⟩
            have HR3 := Lib.hid (HR2.out.take ha hg)
            clear ha hg
            go_wp2_with fail
            refine (take_yes _ #[] Lx.isHex ent_isDigit16 s _ (j + 1 + 1) _ HR3.out.here hlt2 (by omega) (fits_isDigit16 _) hp2).mono ?_
            rintro e w4 ⟨rfl, ha, hg⟩
            have HR4 := Lib.hid (HR3.out.take ha hg)
            clear ha hg
            go_wp2_with fail
            refine (digit16_any _ _ hp1).mono ?_
            rintro e w5 ⟨rfl, rfl⟩
            go_wp2_with fail
            refine (digit16_any _ _ hp2).mono ?_
            rintro e w5 ⟨rfl, rfl⟩
            go_wp2_with (at_builtin; refine wpList_app_bytes rfl _ _ rfl w.heap.size _ acc rfl HR4.out.own [Lx.hexV s[j + 1] <<< 4 ||| Lx.hexV s[j + 1 + 1]] _ (by rw [HX.out]; rfl) 1 _ rfl rfl (Below.size HR4.out.kept) (by simp; omega) ?_)
            intro v' w5 hown5 hgrow
            have hr5 := (HR4.out.alloc _).app rfl rfl hown5 hgrow
            clear hown5 hgrow
            go_wp2_with fail
            go_roundg (s.size - (j + 3))
            case measure => omega
            case rel => exact ⟨j + 3, _, rfl, by omega, by simp; omega, hr5, HV⟩
          · have hn2 : ∀ h : j + 1 + 1 < s.size, Lx.isHex s[j + 1 + 1] = false := fun h => Bool.eq_false_iff.2 fun e => hy2 ⟨h, e⟩
            have HV := Lib.hid (show T = (3, Lx.zero) by
              rw [HE.out, HD.out, HD1.out]
              by_cases h2 : j + 1 + 1 < s.size
              · rw [drop_cons s _ h2, Lx.name_bad2 h35 (by rw [hn2 h2]; simp)]; rfl
              · rw [drop_end s _ (by omega), Lx.name_bad1 h35]; rfl)
            have HN := Lib.hid hn2
            clear h35 hr2 hy2 hn2
            go_wp2_with fail
            refine (take_yes _ #[] Lx.isHex ent_isDigit16 s _ (j + 1) _ HR2.out.here hlt1 (by omega) (fits_isDigit16 _) hp1).mono ?_
            rintro e w3 ⟨rfl, ha, hg⟩
            have hr3 := HR2.out.take ha hg
            have HR3 := Lib.hid hr3
            obtain ⟨r0, r1, r2, r3, r4, r5⟩ := hr3.res.cells6
            have rf := hr3.res.free
            clear ha hg hr3
            go_wp2_with fail
            refine (take_not _ #[] Lx.isHex ent_isDigit16 s _ (j + 1 + 1) _ HR3.out.here (by omega) (fits_isDigit16 _) HN.out).mono ?_
            rintro e w4 ⟨rfl, rfl⟩
            go_wp2_with fail
            refine bodyPost_ret (v := .tuple #[.agg #[.int .i64 0, .int .i64 0, .string ⟨#[]⟩, .bool false, .int .i64 0, .int .i64 0], .int .i64 3]) ?_ rfl ⟨by rw [HV.out]; first | done | rfl, ?_⟩
            · simp [results, Tryz.results106, go_sem, r0, r1, r2, r3, r4, r5]
            · repeat (with_reducible first | exact HR3.out.kept | refine Kept.drew ?_ | refine Kept.set ?_ (Nat.le_refl _) _)
        · have hn1 : ∀ h : j + 1 < s.size, Lx.isHex s[j + 1] = false := fun h => Bool.eq_false_iff.2 fun e => hy1 ⟨h, e⟩
          have HV := Lib.hid (show T = (3, Lx.zero) by
            rw [HE.out, HD.out]
            by_cases h2 : j + 1 < s.size
            · rw [drop_cons s _ h2, Lx.name_bad3 h35 (hn1 h2)]; rfl
            · rw [drop_end s _ (by omega), Lx.name_bad0 h35]; rfl)
          have HN := Lib.hid hn1
          obtain ⟨r0, r1, r2, r3, r4, r5⟩ := hr2.res.cells6
          have rf := hr2.res.free
          clear h35 hr2 hy1 hn1
          go_wp2_with fail
          refine (take_not _ #[] Lx.isHex ent_isDigit16 s _ (j + 1) _ HR2.out.here (by omega) (fits_isDigit16 _) HN.out).mono ?_
          rintro e w4 ⟨rfl, rfl⟩
          go_wp2_with fail
          refine (take_not _ #[] Lx.isHex ent_isDigit16 s _ (j + 1) _ HR2.out.here (by omega) (fits_isDigit16 _) HN.out).mono ?_
          rintro e w4 ⟨rfl, rfl⟩
          go_wp2_with fail
          refine bodyPost_ret (v := .tuple #[.agg #[.int .i64 0, .int .i64 0, .string ⟨#[]⟩, .bool false, .int .i64 0, .int .i64 0], .int .i64 3]) ?_ rfl ⟨by rw [HV.out]; first | done | rfl, ?_⟩
          · simp [results, Tryz.results106, go_sem, r0, r1, r2, r3, r4, r5]
          · repeat (with_reducible first | exact HR2.out.kept | refine Kept.drew ?_ | refine Kept.set ?_ (Nat.le_refl _) _)
      · have e35 := byte_not h35 35 rfl
        have HV := Lib.hid (show T = Lx.ofR3 2 (Lx.nameGo (acc ++ [s[j]]) 0 (s.data.toList.drop (j + 1)) (j + 1)) by
          rw [HE.out, HD.out, Lx.name_byte hp h35])
        clear h35 hr2
        go_wp2_with (at_builtin; refine wpList_app_bytes rfl _ _ rfl w.heap.size _ acc rfl HR2.out.own [s[j]] _ rfl 1 _ rfl rfl hB (by simp; omega) ?_)
        intro v' w3 hown3 hgrow
        have hr3 := (HR2.out.alloc _).app rfl rfl hown3 hgrow
        clear hown3 hgrow
        go_wp2_with fail
        go_roundg (s.size - (j + 1))
        case measure => omega
        case rel => exact ⟨j + 1, _, rfl, by omega, by simp; omega, hr3, HV⟩
    · have hn0 : ∀ h : j < s.size, Lx.reg s[j] = false := fun h => Bool.eq_false_iff.2 fun e => hyes ⟨h, e⟩
      have HV := Lib.hid (show T = (0, ⟨2, 0, acc, false, 0, j⟩) by
        rw [HE.out]
        by_cases h2 : j < s.size
        · rw [drop_cons s _ h2, Lx.name_stop (hn0 h2)]; rfl
        · rw [drop_end s _ (by omega), Lx.name_end]; rfl)
      have HN := Lib.hid hn0
      have hcv := hr.drew.own.string
      obtain ⟨r0, r1, r2, r3, r4, r5⟩ := hr.res.cells6
      have rf := hr.res.free
      clear hr hyes hn0
      go_wp2_with fail
      refine (take_not _ #[] Lx.reg ent_regular s _ _ _ HR.out.here hj (fits_regular _) HN.out).mono ?_
      rintro e w' ⟨rfl, rfl⟩
      go_wp2_with fail
      go_region_with (go_at_call 136; refine (place_any s _ _ _ HR.out.drew.here).mono ?_; rintro e w' ⟨rfl, rfl⟩)
      all_goals
        go_wp2_with fail
        refine bodyPost_ret (v := .tuple #[.agg #[.int .i64 2, .int .i64 0, .string ⟨acc.toArray⟩, .bool false, .int .i64 0, .int .i64 j], .int .i64 0]) ?_ rfl ⟨by rw [HV.out]; first | done | rfl, ?_⟩
        · simp [results, Tryz.results106, go_sem, r0, r1, r2, r3, r4, r5]
        · repeat (with_reducible first | exact HR.out.kept | refine Kept.drew ?_ | refine Kept.set ?_ (Nat.le_refl _) _)

end Go.Proofs.YtbgdeaeikijdgaaGreatDoor

namespace Go.Proofs.YtbgdeaeikijdgaaGreatDoor
open Go.RowKit

theorem oct_step {u : Nat} {c : UInt8} (hu : u < 64) (hc : Lx.isOct c = true) :
    bits BinOp.or IntKind.u8 ((u : Int) * 8 % 256) ((c.toNat : Int) - 48) = (((8 * u + (c.toNat - 48)) % 256 : Nat) : Int) := by
  have key : (List.range 64).all (fun a => (List.range 8).all fun b => bits BinOp.or IntKind.u8 ((a : Int) * 8 % 256) (b : Int) == (((8 * a + b) % 256 : Nat) : Int)) = true := by kernel_rfl
  have h48 : 48 ≤ c.toNat ∧ c.toNat ≤ 55 := by simpa [Lx.isOct] using hc
  have h1 := List.all_eq_true.1 (List.all_eq_true.1 key u (List.mem_range.2 hu)) (c.toNat - 48) (List.mem_range.2 (by omega))
  have h2 : ((c.toNat - 48 : Nat) : Int) = (c.toNat : Int) - 48 := by omega
  rw [h2] at h1
  simpa using h1

set_option maxHeartbeats 1000000 in
theorem number8_any (c : UInt8) (hc : Lx.isOct c = true) (s : ByteArray) (b k : Nat) (w : World) (hat : At s b k w) (hk : k ≤ s.size) (hs : s.size ≤ 4294967296) :
    Calls Tryz.prog 166 #[.int .u8 (c.toNat : Int), .func (.func 135) #[] #[.pointer (some ⟨b + 1, 0, none⟩), .pointer (some ⟨b, 0, none⟩)]] w fun e w' =>
      e = .returned (.int .u8 (((Lx.oct (c.toNat - 48) 2 (s.data.toList.drop k)).1 % 256 : Nat) : Int)) ∧ At s b (k + (Lx.oct (c.toNat - 48) 2 (s.data.toList.drop k)).2) w' ∧ w.grownBy w' (some (b + 1)) := by
  have h48 : 48 ≤ c.toNat ∧ c.toNat ≤ 55 := by simpa [Lx.isOct] using hc
  obtain ⟨h0, h1⟩ := h48
  obtain ⟨R, hR⟩ : ∃ R, R = Lx.oct (c.toNat - 48) 2 (s.data.toList.drop k) := ⟨_, rfl⟩
  rw [← hR]
  have HR := Lib.hid hR
  clear hR hc
  go_enter Tryz.func166, Tryz.ntmps166
  go_wp2_with fail
  go_loopg [5, 10] 2 (fun n x i wr => ∃ (q v j : Nat), n = 2 - q ∧ q ≤ 2 ∧ i = .int .i64 q ∧ x = .int .u8 ((v % 256 : Nat) : Int) ∧ (q = 2 ∨ v < 64) ∧ (q ≠ 0 ∨ v < 8) ∧ j ≤ s.size ∧ At s b j wr ∧ w.grownBy wr (some (b + 1)) ∧ Hid ((Lx.oct v (2 - q) (s.data.toList.drop j)).1 = R.1 ∧ j + (Lx.oct v (2 - q) (s.data.toList.drop j)).2 = k + R.2))
  case atStart =>
    refine ⟨0, c.toNat - 48, k, rfl, by omega, rfl, ?_, .inr (by omega), .inr (by omega), hk, hat, gb_refl _ _, Lib.hid (by rw [HR.out]; exact ⟨rfl, rfl⟩)⟩
    have : (c.toNat - 48) % 256 = c.toNat - 48 := Nat.mod_eq_of_lt (by omega)
    rw [this]
    first | rfl | (congr 1; omega)
  case round =>
    obtain ⟨q, v, j, hn, hq, rfl, rfl, hv, hv0, hj, ha, hgb, HE⟩ := hrel
    have HG := Lib.hid hgb
    have HA := Lib.hid ha
    by_cases hlt : q < 2
    · by_cases hyes : ∃ h : j < s.size, Lx.isOct s[j] = true
      · obtain ⟨hjs, hp⟩ := hyes
        have hv' : v < 64 := by omega
        have HD := Lib.hid (drop_cons s j hjs)
        have hm : v % 256 = v := Nat.mod_eq_of_lt (by omega)
        have HT := Lib.hid (show (Lx.oct (8 * v + (s[j].toNat - 48)) (2 - (q + 1)) (s.data.toList.drop (j + 1))).1 = R.1 ∧ j + 1 + (Lx.oct (8 * v + (s[j].toNat - 48)) (2 - (q + 1)) (s.data.toList.drop (j + 1))).2 = k + R.2 by
          have := HE.out
          rw [HD.out, show 2 - q = (2 - (q + 1)) + 1 by omega, Lx.oct, if_pos hp] at this
          refine ⟨this.1, ?_⟩
          have h2 := this.2
          simp only at h2
          omega)
        have hs2 : 48 ≤ s[j].toNat ∧ s[j].toNat ≤ 55 := by simpa [Lx.isOct] using hp
        obtain ⟨g0, g1⟩ := hs2
        have HX := Lib.hid (oct_step (u := v) hv' hp)
        have HV := Lib.hid hv'
        have HV0 := Lib.hid hv0
        rw [hm]
        clear hgb ha hm hv hv0 hv'
        go_wp2_with fail
        refine (take_yes _ #[] Lx.isOct ent_isDigit8 s _ j _ HA.out hjs (by omega) (fits_isDigit8 _) hp).mono ?_
        rintro e w2 ⟨rfl, ha2, hg2⟩
        have HA2 := Lib.hid ha2
        have HG2 := Lib.hid (gb_trans HG.out hg2)
        clear ha2 hg2
        go_wp2_with fail
        go_roundg (2 - (q + 1))
        case measure => omega
        case rel =>
          refine ⟨q + 1, 8 * v + (s[j].toNat - 48), j + 1, rfl, by omega, by go_num, ?_, ?_, .inl (by omega), by omega, HA2.out, HG2.out, HT⟩
          · rw [HX.out]
          · have := HV.out; have := HV0.out; omega
      · have hn0 : ∀ h : j < s.size, Lx.isOct s[j] = false := fun h => Bool.eq_false_iff.2 fun e => hyes ⟨h, e⟩
        have HT := Lib.hid (show v = R.1 ∧ j = k + R.2 by
          have := HE.out
          rw [show 2 - q = (2 - (q + 1)) + 1 by omega] at this
          by_cases h2 : j < s.size
          · rw [drop_cons s j h2, Lx.oct, if_neg (by rw [hn0 h2]; simp)] at this
            exact this
          · rw [drop_end s j (by omega), Lx.oct] at this
            exact this)
        have HN := Lib.hid hn0
        clear hgb ha hyes hn0 hv hv0
        go_wp2_with fail
        refine (take_not _ #[] Lx.isOct ent_isDigit8 s _ j _ HA.out hj (fits_isDigit8 _) HN.out).mono ?_
        rintro e w2 ⟨rfl, rfl⟩
        go_wp2_with fail
        go_ret
        exact ⟨ret_int (by have := HT.out.1; omega), by rw [← HT.out.2]; exact HA.out, HG.out⟩
    · obtain rfl : q = 2 := by omega
      have HT := Lib.hid (show v = R.1 ∧ j = k + R.2 from by
        have := HE.out
        rw [Nat.sub_self, Lx.oct] at this
        exact this)
      clear hgb ha hv hv0
      go_wp2_with fail
      go_ret
      exact ⟨ret_int (by have := HT.out.1; omega), by rw [← HT.out.2]; exact HA.out, HG.out⟩

theorem letters_no {c : UInt8} (h : Lib.indexByte [110, 114, 116, 98, 102] c = -1) : Lx.escB c = c := by
  have := Lx.byte_all (fun c => !(Lib.indexByte [110, 114, 116, 98, 102] c == -1) || (Lx.escB c == c)) (by kernel_rfl) c
  rw [h] at this; simpa using this
theorem letters_ways (c : UInt8) : (Lib.indexByte [110, 114, 116, 98, 102] c = 0 ∧ Lx.escB c = 10) ∨ (Lib.indexByte [110, 114, 116, 98, 102] c = 1 ∧ Lx.escB c = 13) ∨ (Lib.indexByte [110, 114, 116, 98, 102] c = 2 ∧ Lx.escB c = 9) ∨
    (Lib.indexByte [110, 114, 116, 98, 102] c = 3 ∧ Lx.escB c = 8) ∨ (Lib.indexByte [110, 114, 116, 98, 102] c = 4 ∧ Lx.escB c = 12) ∨ (Lib.indexByte [110, 114, 116, 98, 102] c = -1 ∧ Lx.escB c = c) := by
  have := Lx.byte_all (fun c => decide ((Lib.indexByte [110, 114, 116, 98, 102] c = 0 ∧ Lx.escB c = 10) ∨ (Lib.indexByte [110, 114, 116, 98, 102] c = 1 ∧ Lx.escB c = 13) ∨ (Lib.indexByte [110, 114, 116, 98, 102] c = 2 ∧ Lx.escB c = 9) ∨
    (Lib.indexByte [110, 114, 116, 98, 102] c = 3 ∧ Lx.escB c = 8) ∨ (Lib.indexByte [110, 114, 116, 98, 102] c = 4 ∧ Lx.escB c = 12) ∨ (Lib.indexByte [110, 114, 116, 98, 102] c = -1 ∧ Lx.escB c = c))) (by kernel_rfl) c
  simpa using this
theorem IndexByte_is (l : List UInt8) (c : UInt8) (n : Int) (h : Lib.indexByte l c = n) (w : World) :
    Calls Tryz.prog 151 #[.string ⟨l.toArray⟩, .int .u8 (c.toNat : Int)] w fun e w' => e = .returned (.int .i64 n) ∧ w = w' := by
  subst h; exact IndexByte_at l c w

theorem ret_pair {v : Value} {a b : Value} (h : a = b) : Ending.returned (.tuple #[v, a]) = .returned (.tuple #[v, b]) := by rw [h]

/-- With nothing behind the backslash. -/
theorem appendEscaped_end (s : ByteArray) (b : Nat) (v : Value) (w : World) (hat : At s b s.size w) :
    Calls Tryz.prog 143 #[v, .func (.func 135) #[] #[.pointer (some ⟨b + 1, 0, none⟩), .pointer (some ⟨b, 0, none⟩)]] w fun e w' =>
      e = .returned (.tuple #[.slice none 0 0, .bool false]) ∧ w = w' := by
  go_enter Tryz.func143, Tryz.ntmps143
  go_wp2_with fail
  refine (take_end _ #[] s b _ hat).mono ?_
  rintro e w2 ⟨rfl, rfl⟩
  go_wp2_with fail
  refine (take_end _ #[] s b _ hat).mono ?_
  rintro e w2 ⟨rfl, rfl⟩
  go_wp2_with fail
  go_ret2
  exact ⟨rfl, rfl⟩

set_option maxHeartbeats 2000000 in
theorem appendEscaped_any (s : ByteArray) (k : Nat) (acc : List UInt8) (v : Value) (w wr : World) (hr : Run w s k acc v wr) (hk : k < s.size) (hs : s.size ≤ 4294967296) (hl : acc.length ≤ k) :
    Calls Tryz.prog 143 #[v, .func (.func 135) #[] #[.pointer (some ⟨w.heap.size + 1 + 1, 0, none⟩), .pointer (some ⟨w.heap.size + 1, 0, none⟩)]] wr fun e w' =>
      ∃ v', e = .returned (.tuple #[v', .bool true]) ∧ Run w s (k + (Lx.esc (s.data.toList.drop k)).2) (acc ++ (Lx.esc (s.data.toList.drop k)).1) v' w' := by
  have HR := Lib.hid hr
  have HD := Lib.hid (drop_cons s k hk)
  clear hr
  cases hp : Lx.isOct s[k]
  · have HT : ∀ w, At s (w.heap.size + 1) k w → True := fun _ _ => trivial
    clear HT
    by_cases h13 : s[k] = 13
    · have e13 := byte_is h13 13 rfl
      have e10 : ((s[k].toNat : Int) == 10) = false := by rw [h13]; rfl
      have HE := Lib.hid (show Lx.esc (s.data.toList.drop k) = ([], 1 + Lx.crlf (s.data.toList.drop (k + 1))) by rw [HD.out, Lx.esc_cr h13])
      clear h13
      go_enter Tryz.func143, Tryz.ntmps143
      go_wp2_with fail
      refine (take_no _ #[] Lx.isOct ent_isDigit8 s _ k _ HR.out.here hk (fits_isDigit8 _) hp).mono ?_
      rintro e w2 ⟨rfl, rfl⟩
      go_wp2_with fail
      refine (take_yes _ #[] (fun _ => true) ent_anyByte s _ k _ HR.out.here hk (by omega) (fits_anyByte _) rfl).mono ?_
      rintro e w2 ⟨rfl, ha, hg⟩
      have HR2 := Lib.hid (HR.out.take ha hg)
      clear ha hg
      go_wp2_with fail
      refine (is_any 10 _).mono ?_
      rintro e w3 ⟨rfl, rfl⟩
      have HR3 := Lib.hid (HR2.out.alloc (.cells #[.int .u8 ((10 : UInt8).toNat : Int)] 5))
      have HB := Lib.hid (Blk.fresh w2 #[.int .u8 ((10 : UInt8).toNat : Int)] 5)
      go_wp2_with fail
      by_cases hyes : ∃ h : k + 1 < s.size, (s[k + 1] == (10 : UInt8)) = true
      · obtain ⟨hk1, hp1⟩ := hyes
        have HC := Lib.hid (show Lx.crlf (s.data.toList.drop (k + 1)) = 1 by
          rw [drop_cons s _ hk1]; show (if s[k + 1] == 10 then 1 else 0) = 1; rw [if_pos hp1])
        refine (take_yes _ #[.pointer (some ⟨w2.heap.size, 0, none⟩)] (fun x => x == 10) ent_is s _ (k + 1) _ HR3.out.here hk1 (by omega) (fits_is 10 _ _ HB.out) hp1).mono ?_
        rintro e w4 ⟨rfl, ha, hg⟩
        have HR4 := Lib.hid (HR3.out.take ha hg)
        clear ha hg
        go_wp2_with fail
        go_ret2
        exact ⟨v, rfl, by rw [HE.out, HC.out, List.append_nil]; exact HR4.out⟩
      · have hn0 : ∀ h : k + 1 < s.size, (s[k + 1] == (10 : UInt8)) = false := fun h => Bool.eq_false_iff.2 fun e => hyes ⟨h, e⟩
        have HC := Lib.hid (show Lx.crlf (s.data.toList.drop (k + 1)) = 0 by
          by_cases h1 : k + 1 < s.size
          · rw [drop_cons s _ h1]; show (if s[k + 1] == 10 then 1 else 0) = 0; rw [if_neg (by rw [hn0 h1]; simp)]
          · rw [drop_end s _ (by omega)]; rfl)
        clear hyes
        have HN := Lib.hid hn0
        clear hn0
        refine (take_not _ #[.pointer (some ⟨w2.heap.size, 0, none⟩)] (fun x => x == 10) ent_is s _ (k + 1) _ HR3.out.here (by omega) (fits_is 10 _ _ HB.out) HN.out).mono ?_
        rintro e w4 ⟨rfl, rfl⟩
        go_wp2_with fail
        go_ret2
        exact ⟨v, rfl, by rw [HE.out, HC.out, List.append_nil]; exact HR3.out⟩
    by_cases h10 : s[k] = 10
    · have e13 := byte_not h13 13 rfl
      have e10 := byte_is h10 10 rfl
      have HE := Lib.hid (show Lx.esc (s.data.toList.drop k) = ([], 1) by rw [HD.out, Lx.esc_lf h10])
      clear h13 h10
      go_enter Tryz.func143, Tryz.ntmps143
      go_wp2_with fail
      refine (take_no _ #[] Lx.isOct ent_isDigit8 s _ k _ HR.out.here hk (fits_isDigit8 _) hp).mono ?_
      rintro e w2 ⟨rfl, rfl⟩
      go_wp2_with fail
      refine (take_yes _ #[] (fun _ => true) ent_anyByte s _ k _ HR.out.here hk (by omega) (fits_anyByte _) rfl).mono ?_
      rintro e w2 ⟨rfl, ha, hg⟩
      have HR2 := Lib.hid (HR.out.take ha hg)
      clear ha hg
      go_wp2_with fail
      go_ret2
      exact ⟨v, rfl, by rw [HE.out, List.append_nil]; exact HR2.out⟩
    · have e13 := byte_not h13 13 rfl
      have e10 := byte_not h10 10 rfl
      have HE := Lib.hid (show Lx.esc (s.data.toList.drop k) = ([Lx.escB s[k]], 1) by rw [HD.out, Lx.esc_other hp h13 h10])
      clear h13 h10
      rcases letters_ways s[k] with ⟨hi, hb⟩ | ⟨hi, hb⟩ | ⟨hi, hb⟩ | ⟨hi, hb⟩ | ⟨hi, hb⟩ | ⟨hi, hb⟩
      all_goals
        rw [hb] at HE
        have HI := Lib.hid hi
        clear hi hb
        go_enter Tryz.func143, Tryz.ntmps143
        go_wp2_with fail
        refine (take_no _ #[] Lx.isOct ent_isDigit8 s _ k _ HR.out.here hk (fits_isDigit8 _) hp).mono ?_
        rintro e w2 ⟨rfl, rfl⟩
        go_wp2_with fail
        refine (take_yes _ #[] (fun _ => true) ent_anyByte s _ k _ HR.out.here hk (by omega) (fits_anyByte _) rfl).mono ?_
        rintro e w2 ⟨rfl, ha, hg⟩
        have HR2 := Lib.hid (HR.out.take ha hg)
        have hB : w.heap.size ≤ w2.heap.size := Below.size HR2.out.kept
        clear ha hg
        go_wp2_with fail
        refine (IndexByte_is [110, 114, 116, 98, 102] s[k] _ HI.out _).mono ?_
        rintro e w3 ⟨rfl, rfl⟩
        go_wp2_with (at_builtin; refine wpList_app_bytes rfl _ _ rfl w.heap.size _ acc rfl HR2.out.own [_] _ rfl 1 _ rfl rfl hB (by simp; omega) ?_)
        intro v' w3 hown3 hgrow
        have HR3 := Lib.hid ((HR2.out.alloc _).app rfl rfl hown3 hgrow)
        clear hown3 hgrow
        go_wp2_with fail
        go_ret2
        exact ⟨v', rfl, by rw [HE.out]; exact HR3.out⟩
  · have HE := Lib.hid (show Lx.esc (s.data.toList.drop k) = ([UInt8.ofNat (Lx.oct (s[k].toNat - 48) 2 (s.data.toList.drop (k + 1))).1], (Lx.oct (s[k].toNat - 48) 2 (s.data.toList.drop (k + 1))).2 + 1) by rw [HD.out, Lx.esc_oct hp])
    obtain ⟨R, hR⟩ : ∃ R, R = Lx.oct (s[k].toNat - 48) 2 (s.data.toList.drop (k + 1)) := ⟨_, rfl⟩
    have HRR := Lib.hid hR
    clear hR
    go_enter Tryz.func143, Tryz.ntmps143
    go_wp2_with fail
    refine (take_yes _ #[] Lx.isOct ent_isDigit8 s _ k _ HR.out.here hk (by omega) (fits_isDigit8 _) hp).mono ?_
    rintro e w2 ⟨rfl, ha, hg⟩
    have HR2 := Lib.hid (HR.out.take ha hg)
    clear ha hg
    go_wp2_with fail
    refine (number8_any s[k] hp s _ (k + 1) _ HR2.out.here (by omega) (by omega)).mono ?_
    rintro e w3 ⟨rfl, ha, hg⟩
    rw [← HRR.out] at ha ⊢
    have HR3 := Lib.hid (HR2.out.take ha hg)
    have hB : w.heap.size ≤ w3.heap.size := Below.size HR3.out.kept
    clear ha hg
    go_wp2_with (at_builtin; refine wpList_app_bytes rfl _ _ rfl w.heap.size _ acc rfl HR3.out.own [UInt8.ofNat R.1] _ (by simp [bytesV]) 1 _ rfl rfl hB (by simp; omega) ?_)
    intro v' w4 hown4 hgrow
    have HR4 := Lib.hid ((HR3.out.alloc _).app rfl rfl hown4 hgrow)
    clear hown4 hgrow
    go_wp2_with fail
    go_ret2
    refine ⟨v', rfl, ?_⟩
    rw [HE.out, ← HRR.out]
    have := HR4.out
    rw [show k + 1 + R.2 = k + (R.2 + 1) by omega] at this
    exact this

end Go.Proofs.YtbgdeaeikijdgaaGreatDoor

namespace Go.Proofs.YtbgdeaeikijdgaaGreatDoor
open Go.RowKit

set_option maxRecDepth 100000 in
set_option maxHeartbeats 4000000 in
theorem plainText_any (s : ByteArray) (k : Nat) (w : World) (hk : k ≤ s.size) (hs : s.size ≤ 4294967296) (T : Int × Lx.Tok) (hT : T = Lx.ofR3 3 (Lx.textGo [] 0 0 (s.data.toList.drop k) k)) :
    Calls Tryz.prog 107 #[.string s, .int .i64 k] w fun e w' =>
      e = .returned (.tuple #[.agg #[.int .i64 T.2.kind, .int .i64 T.2.f, .string ⟨T.2.s.toArray⟩, .bool T.2.whole, .int .i64 T.2.frm, .int .i64 T.2.to], .int .i64 T.1]) ∧ Kept w w' := by
  have HT := Lib.hid hT
  clear hT
  go_enter Tryz.func107, Tryz.ntmps107
  go_wp2_with fail
  refine (over_any s k _).mono ?_
  rintro e w' ⟨rfl, rfl⟩
  have hrun := open_run s k w
  go_wp2_with fail
  go_loopg [8, 9] (s.size - k) (fun n v x wr => ∃ (j d : Nat) (acc : List UInt8), n = s.size - j ∧ j ≤ s.size ∧ d ≤ j ∧ x = .int .i64 ((d : Int) + 1) ∧ acc.length ≤ j ∧ Run w s j acc v wr ∧ Hid (T = Lx.ofR3 3 (Lx.textGo acc d 0 (s.data.toList.drop j) j)))
  case atStart => exact ⟨k, 0, [], rfl, hk, Nat.zero_le _, by go_num, Nat.zero_le _, hrun, HT⟩
  case round =>
    clear hrun
    obtain ⟨j, d, acc, hn, hj, hd, rfl, hl, hr, HE⟩ := hrel
    have HR := Lib.hid hr
    clear hr
    by_cases hlt : j < s.size
    · have HD := Lib.hid (drop_cons s j hlt)
      go_wp2_with fail
      refine (take_yes _ #[] (fun _ => true) ent_anyByte s _ j _ HR.out.here hlt (by omega) (fits_anyByte _) rfl).mono ?_
      rintro e w2 ⟨rfl, ha, hg⟩
      have HR2 := Lib.hid (HR.out.take ha hg)
      have hB : w.heap.size ≤ w2.heap.size := Below.size HR2.out.kept
      clear ha hg
      by_cases h40 : s[j] = 40
      · have e1 := byte_is h40 40 rfl
        have HV := Lib.hid (show T = Lx.ofR3 3 (Lx.textGo (acc ++ [s[j]]) (d + 1) 0 (s.data.toList.drop (j + 1)) (j + 1)) by rw [HE.out, HD.out, Lx.text_open h40, h40])
        clear h40
        go_wp2_with (at_builtin; refine wpList_app_bytes rfl _ _ rfl w.heap.size _ acc rfl HR2.out.own [s[j]] _ rfl 1 _ rfl rfl hB (by simp; omega) ?_)
        intro v' w3 hown3 hgrow
        have HR3 := Lib.hid ((HR2.out.alloc _).app rfl rfl hown3 hgrow)
        clear hown3 hgrow
        go_wp2_with fail
        go_roundg (s.size - (j + 1))
        case measure => omega
        case rel => exact ⟨j + 1, d + 1, _, rfl, by omega, by omega, by go_num, by simp; omega, HR3.out, HV⟩
      have e40 := byte_not h40 40 rfl
      by_cases h41 : s[j] = 41
      · have e1 := byte_is h41 41 rfl
        cases d with
        | zero =>
          have HV := Lib.hid (show T = (0, ⟨3, 0, acc, false, 0, j + 1⟩) by rw [HE.out, HD.out, Lx.text_done h41]; rfl)
          have hcv := HR2.out.drew.own.string
          obtain ⟨r0, r1, r2, r3, r4, r5⟩ := HR2.out.res.cells6
          have rf := HR2.out.res.free
          clear h40 h41
          go_wp2_with fail
          go_region_with (go_at_call 136; refine (place_any s _ _ _ HR2.out.drew.here).mono ?_; rintro e w' ⟨rfl, rfl⟩)
          all_goals
            go_wp2_with fail
            refine bodyPost_ret (v := .tuple #[.agg #[.int .i64 3, .int .i64 0, .string ⟨acc.toArray⟩, .bool false, .int .i64 0, .int .i64 (j + 1 : Nat)], .int .i64 0]) ?_ rfl ⟨by rw [HV.out]; first | done | rfl, ?_⟩
            · simp [results, Tryz.results107, go_sem, r0, r1, r2, r3, r4, r5]
            · repeat (with_reducible first | exact HR2.out.kept | refine Kept.drew ?_ | refine Kept.set ?_ (Nat.le_refl _) _)
        | succ d =>
          have HV := Lib.hid (show T = Lx.ofR3 3 (Lx.textGo (acc ++ [s[j]]) d 0 (s.data.toList.drop (j + 1)) (j + 1)) by rw [HE.out, HD.out, Lx.text_close h41, h41])
          clear h40 h41
          go_wp2_with (at_builtin; refine wpList_app_bytes rfl _ _ rfl w.heap.size _ acc rfl HR2.out.own [s[j]] _ rfl 1 _ rfl rfl hB (by simp; omega) ?_)
          intro v' w3 hown3 hgrow
          have HR3 := Lib.hid ((HR2.out.alloc _).app rfl rfl hown3 hgrow)
          clear hown3 hgrow
          go_wp2_with fail
          go_roundg (s.size - (j + 1))
          case measure => omega
          case rel => exact ⟨j + 1, d, _, rfl, by omega, by omega, by go_num, by simp; omega, HR3.out, HV⟩
      have e41 := byte_not h41 41 rfl
      by_cases h13 : s[j] = 13
      · have e1 := byte_is h13 13 rfl
        have HV := Lib.hid (show T = Lx.ofR3 3 (Lx.textGo (acc ++ [10]) d 0 (s.data.toList.drop (j + 1 + Lx.crlf (s.data.toList.drop (j + 1)))) (j + 1 + Lx.crlf (s.data.toList.drop (j + 1)))) by
          rw [HE.out, HD.out, Lx.text_cr h13, List.drop_drop])
        clear h40 h41 h13
        go_wp2_with fail
        refine (is_any 10 _).mono ?_
        rintro e w3 ⟨rfl, rfl⟩
        have HR3 := Lib.hid (HR2.out.alloc (.cells #[.int .u8 ((10 : UInt8).toNat : Int)] 5))
        have HB := Lib.hid (Blk.fresh w2 #[.int .u8 ((10 : UInt8).toNat : Int)] 5)
        go_wp2_with fail
        by_cases hyes : ∃ h : j + 1 < s.size, (s[j + 1] == (10 : UInt8)) = true
        · obtain ⟨hk1, hp1⟩ := hyes
          have HC := Lib.hid (show Lx.crlf (s.data.toList.drop (j + 1)) = 1 by
            rw [drop_cons s _ hk1]; show (if s[j + 1] == 10 then 1 else 0) = 1; rw [if_pos hp1])
          refine (take_yes _ #[.pointer (some ⟨w2.heap.size, 0, none⟩)] (fun x => x == 10) ent_is s _ (j + 1) _ HR3.out.here hk1 (by omega) (fits_is 10 _ _ HB.out) hp1).mono ?_
          rintro e w4 ⟨rfl, ha, hg⟩
          have HR4 := Lib.hid (HR3.out.take ha hg)
          have hB4 : w.heap.size ≤ w4.heap.size := Below.size HR4.out.kept
          clear ha hg
          go_wp2_with (at_builtin; refine wpList_app_bytes rfl _ _ rfl w.heap.size _ acc rfl HR4.out.own [10] _ rfl 1 _ rfl rfl hB4 (by simp; omega) ?_)
          intro v' w5 hown5 hgrow
          have HR5 := Lib.hid ((HR4.out.alloc _).app rfl rfl hown5 hgrow)
          clear hown5 hgrow
          go_wp2_with fail
          go_roundg (s.size - (j + 1 + 1))
          case measure => omega
          case rel => exact ⟨j + 1 + 1, d, _, rfl, by omega, by omega, rfl, by simp; omega, HR5.out, Lib.hid (by rw [HV.out, HC.out])⟩
        · have hn0 : ∀ h : j + 1 < s.size, (s[j + 1] == (10 : UInt8)) = false := fun h => Bool.eq_false_iff.2 fun e => hyes ⟨h, e⟩
          have HC := Lib.hid (show Lx.crlf (s.data.toList.drop (j + 1)) = 0 by
            by_cases h1 : j + 1 < s.size
            · rw [drop_cons s _ h1]; show (if s[j + 1] == 10 then 1 else 0) = 0; rw [if_neg (by rw [hn0 h1]; simp)]
            · rw [drop_end s _ (by omega)]; rfl)
          clear hyes
          have HN := Lib.hid hn0
          clear hn0
          refine (take_not _ #[.pointer (some ⟨w2.heap.size, 0, none⟩)] (fun x => x == 10) ent_is s _ (j + 1) _ HR3.out.here (by omega) (fits_is 10 _ _ HB.out) HN.out).mono ?_
          rintro e w4 ⟨rfl, rfl⟩
          have hB3 : w.heap.size ≤ (w2.alloc (.cells #[.int .u8 ((10 : UInt8).toNat : Int)] 5)).heap.size := Below.size HR3.out.kept
          obtain ⟨w3, hw3⟩ : ∃ w3, w3 = w2.alloc (.cells #[.int .u8 ((10 : UInt8).toNat : Int)] 5) := ⟨_, rfl⟩
          rw [← hw3] at HR3 hB3 ⊢
          clear hw3 HB
          go_wp2_with (at_builtin; refine wpList_app_bytes rfl _ _ rfl w.heap.size _ acc rfl HR3.out.own [10] _ rfl 1 _ rfl rfl hB3 (by simp; omega) ?_)
          intro v' w5 hown5 hgrow
          have HR5 := Lib.hid ((HR3.out.alloc _).app rfl rfl hown5 hgrow)
          clear hown5 hgrow
          go_wp2_with fail
          go_roundg (s.size - (j + 1))
          case measure => omega
          case rel => exact ⟨j + 1, d, _, rfl, by omega, by omega, rfl, by simp; omega, HR5.out, Lib.hid (by rw [HV.out, HC.out])⟩
      have e13 := byte_not h13 13 rfl
      by_cases h92 : s[j] = 92
      · have e1 := byte_is h92 92 rfl
        have HV := Lib.hid (show T = Lx.ofR3 3 (Lx.textGo (acc ++ (Lx.esc (s.data.toList.drop (j + 1))).1) d 0 (s.data.toList.drop (j + 1 + (Lx.esc (s.data.toList.drop (j + 1))).2)) (j + 1 + (Lx.esc (s.data.toList.drop (j + 1))).2)) by
          rw [HE.out, HD.out, Lx.text_esc h92, List.drop_drop])
        clear h40 h41 h13 h92
        by_cases hk1 : j + 1 < s.size
        · have HL := Lib.hid (Lx.esc_le (l := s.data.toList.drop (j + 1)))
          have HL2 := Lib.hid (Lx.esc_len (l := s.data.toList.drop (j + 1)))
          go_wp2_with fail
          refine (appendEscaped_any s (j + 1) acc _ w w2 HR2.out hk1 (by omega) (by omega)).mono ?_
          rintro e w3 ⟨v', rfl, hr3⟩
          have HR3 := Lib.hid hr3
          clear hr3
          go_wp2_with fail
          go_roundg (s.size - (j + 1 + (Lx.esc (s.data.toList.drop (j + 1))).2))
          case measure => omega
          case rel => exact ⟨_, d, _, rfl, by have := HL.out; simp at this; omega, by omega, rfl, by have := HL2.out; simp; omega, HR3.out, HV⟩
        · have hsz : j + 1 = s.size := by omega
          have HW := Lib.hid (show T = (4, Lx.zero) by
            rw [HE.out, HD.out, drop_end s _ (by omega)]
            rw [Lx.text_esc (by
              have := e1; simp at this
              exact UInt8.toNat_inj.1 (by have h : (92 : UInt8).toNat = 92 := rfl; omega))]
            rw [List.drop_nil, Lx.text_end]; rfl)
          have HA := Lib.hid (show At s (w.heap.size + 1) s.size w2 by rw [← hsz]; exact HR2.out.here)
          obtain ⟨r0, r1, r2, r3, r4, r5⟩ := HR2.out.res.cells6
          have rf := HR2.out.res.free
          clear hsz
          go_wp2_with fail
          refine (appendEscaped_end s _ _ _ HA.out).mono ?_
          rintro e w3 ⟨rfl, rfl⟩
          go_wp2_with fail
          refine bodyPost_ret (v := .tuple #[.agg #[.int .i64 0, .int .i64 0, .string ⟨#[]⟩, .bool false, .int .i64 0, .int .i64 0], .int .i64 4]) ?_ rfl ⟨by rw [HW.out]; first | done | rfl, ?_⟩
          · simp [results, Tryz.results107, go_sem, r0, r1, r2, r3, r4, r5]
          · repeat (with_reducible first | exact HR2.out.kept | refine Kept.drew ?_ | refine Kept.set ?_ (Nat.le_refl _) _)
      · have e92 := byte_not h92 92 rfl
        have HV := Lib.hid (show T = Lx.ofR3 3 (Lx.textGo (acc ++ [s[j]]) d 0 (s.data.toList.drop (j + 1)) (j + 1)) by rw [HE.out, HD.out, Lx.text_byte h92 h40 h41 h13])
        clear h40 h41 h13 h92
        go_wp2_with (at_builtin; refine wpList_app_bytes rfl _ _ rfl w.heap.size _ acc rfl HR2.out.own [s[j]] _ rfl 1 _ rfl rfl hB (by simp; omega) ?_)
        intro v' w3 hown3 hgrow
        have HR3 := Lib.hid ((HR2.out.alloc _).app rfl rfl hown3 hgrow)
        clear hown3 hgrow
        go_wp2_with fail
        go_roundg (s.size - (j + 1))
        case measure => omega
        case rel => exact ⟨j + 1, d, _, rfl, by omega, by omega, rfl, by simp; omega, HR3.out, HV⟩
    · obtain rfl : j = s.size := by omega
      have HV := Lib.hid (show T = (4, Lx.zero) by rw [HE.out, drop_end s s.size (Nat.le_refl _), Lx.text_end]; rfl)
      obtain ⟨r0, r1, r2, r3, r4, r5⟩ := HR.out.res.cells6
      have rf := HR.out.res.free
      go_wp2_with fail
      refine (take_end _ #[] s _ _ HR.out.here).mono ?_
      rintro e w' ⟨rfl, rfl⟩
      go_wp2_with fail
      refine bodyPost_ret (v := .tuple #[.agg #[.int .i64 0, .int .i64 0, .string ⟨#[]⟩, .bool false, .int .i64 0, .int .i64 0], .int .i64 4]) ?_ rfl ⟨by rw [HV.out]; first | done | rfl, ?_⟩
      · simp [results, Tryz.results107, go_sem, r0, r1, r2, r3, r4, r5]
      · repeat (with_reducible first | exact HR.out.kept | refine Kept.drew ?_ | refine Kept.set ?_ (Nat.le_refl _) _)

end Go.Proofs.YtbgdeaeikijdgaaGreatDoor

namespace Go.Proofs.YtbgdeaeikijdgaaGreatDoor
open Go.RowKit

/-- The last of the bytes, and one in its place. -/
theorem Owns.last {w : World} {B : Nat} {v : Value} {acc : List UInt8} {u : UInt8} (h : Owns w B v (acc ++ [u])) :
    ∃ g cap, v = .slice (some ⟨g, 0, none⟩) (acc.length + 1) cap ∧ B ≤ g ∧ w.cell? ⟨g, acc.length, none⟩ = some (.int .u8 (u.toNat : Int)) ∧ w.frozen? ⟨g, acc.length, none⟩ = false ∧
      (∀ b cs t, Blk w b cs t → t ≠ 5 → b ≠ g) ∧ ∀ x : UInt8, Owns (w.setCell ⟨g, acc.length, none⟩ (.int .u8 (x.toNat : Int))) B v (acc ++ [x]) := by
  have h0 := h
  unfold Owns at h
  rw [List.length_append, List.length_singleton] at h
  rcases h.2 with ⟨_, h0⟩ | ⟨g, cap, cur, rfl, hb, hh, hn, hc, hs, ht⟩
  · omega
  · have hcell := World.ownsRow.cellAt h acc.length (by omega)
    have hl : acc.length < cur.size := by omega
    refine ⟨g, cap, rfl, hb, ?_, ?_, ?_, ?_⟩
    · rw [hcell]; simp [bytesV]
    · exact Blk.frozen (show Blk w g cur 5 from hh) _
    · intro b cs t hbk hne e
      have := h0.ne hbk hne
      simp [Value.ownBlock] at this
      exact this e
    · intro x
      unfold Owns
      rw [List.length_append, List.length_singleton]
      refine ⟨by simp [bytesV], .inr ⟨g, cap, cur.setIfInBounds acc.length (.int .u8 (x.toNat : Int)), rfl, hb, heap_setCell_same w g acc.length cur _ _ hh, hn, hc, by simpa using hs, ?_⟩⟩
      rw [Nat.mul_one] at ht ⊢
      rw [bytesV_app] at ht ⊢
      have hlen : (cur.setIfInBounds acc.length (.int .u8 (x.toNat : Int))).toList = cur.toList.set acc.length (.int .u8 (x.toNat : Int)) := by simp
      rw [hlen, List.take_set, ht, List.set_append_right _ _ (by simp [bytesV])]
      simp [bytesV]

theorem Run.last {w wr : World} {s : ByteArray} {k : Nat} {v : Value} {acc : List UInt8} {u : UInt8} (h : Run w s k (acc ++ [u]) v wr) :
    ∃ g cap, v = .slice (some ⟨g, 0, none⟩) (acc.length + 1) cap ∧ wr.cell? ⟨g, acc.length, none⟩ = some (.int .u8 (u.toNat : Int)) ∧ wr.frozen? ⟨g, acc.length, none⟩ = false ∧
      ∀ x : UInt8, Run w s k (acc ++ [x]) v (wr.setCell ⟨g, acc.length, none⟩ (.int .u8 (x.toNat : Int))) := by
  obtain ⟨g, cap, hv, hB, hc, hf, hd, hs⟩ := h.own.last
  exact ⟨g, cap, hv, hc, hf, fun x => ⟨h.kept.set hB _, h.res.other (hd _ _ _ h.res (by decide)) _, ⟨h.here.1.other (hd _ _ _ h.here.1 (by decide)) _, h.here.2.other (hd _ _ _ h.here.2 (by decide)) _⟩, hs x⟩⟩

theorem hexD_lt {c : UInt8} (h : Lx.isHex c = true) : (Lx.hexV c).toNat < 16 := by
  have := Lx.byte_all (fun c => !Lx.isHex c || decide ((Lx.hexV c).toNat < 16)) (by kernel_rfl) c
  rw [h] at this; simpa using this
theorem hex_or (u : UInt8) {c : UInt8} (hc : Lx.isHex c = true) : bits BinOp.or IntKind.u8 (u.toNat : Int) ((Lx.hexV c).toNat : Int) = ((u ||| Lx.hexV c).toNat : Int) := by
  have key : (List.range 256).all (fun a => (List.range 16).all fun b => bits BinOp.or IntKind.u8 ((UInt8.ofNat a).toNat : Int) ((UInt8.ofNat b).toNat : Int) == ((UInt8.ofNat a ||| UInt8.ofNat b).toNat : Int)) = true := by kernel_rfl
  have h1 := List.all_eq_true.1 (List.all_eq_true.1 key _ (List.mem_range.2 u.toNat_lt)) _ (List.mem_range.2 (hexD_lt hc))
  simpa using h1
theorem hex_shl {c : UInt8} (hc : Lx.isHex c = true) : ((Lx.hexV c).toNat : Int) * (16 : Int) % (256 : Int) = ((Lx.hexV c <<< 4).toNat : Int) := by
  have key : (List.range 16).all (fun a => ((UInt8.ofNat a).toNat : Int) * (16 : Int) % (256 : Int) == ((UInt8.ofNat a <<< 4).toNat : Int)) = true := by kernel_rfl
  have h1 := List.all_eq_true.1 key _ (List.mem_range.2 (hexD_lt hc))
  simpa using h1

set_option maxRecDepth 100000 in
set_option maxHeartbeats 4000000 in
theorem digitText_any (s : ByteArray) (k : Nat) (w : World) (hk : k ≤ s.size) (hs : s.size ≤ 4294967296) (T : Int × Lx.Tok) (hT : T = Lx.ofR3 3 (Lx.hexGo [] none (s.data.toList.drop k) k)) :
    Calls Tryz.prog 105 #[.string s, .int .i64 k] w fun e w' =>
      e = .returned (.tuple #[.agg #[.int .i64 T.2.kind, .int .i64 T.2.f, .string ⟨T.2.s.toArray⟩, .bool T.2.whole, .int .i64 T.2.frm, .int .i64 T.2.to], .int .i64 T.1]) ∧ Kept w w' := by
  have HT := Lib.hid hT
  clear hT
  go_enter Tryz.func105, Tryz.ntmps105
  go_wp2_with fail
  refine (over_any s k _).mono ?_
  rintro e w' ⟨rfl, rfl⟩
  have hrun := open_run s k w
  go_wp2_with fail
  go_loopg [8, 9] (s.size - k) (fun n v x wr => ∃ (j : Nat) (h : Option UInt8) (acc : List UInt8), n = s.size - j ∧ j ≤ s.size ∧ x = .bool h.isSome ∧ acc.length + 1 ≤ j + 1 ∧ Run w s j (acc ++ h.toList) v wr ∧ Hid (T = Lx.ofR3 3 (Lx.hexGo acc h (s.data.toList.drop j) j)))
  case atStart => exact ⟨k, none, [], rfl, hk, rfl, by simp, hrun, HT⟩
  case round =>
    clear hrun
    obtain ⟨j, h, acc, hn, hj, rfl, hl, hr, HE⟩ := hrel
    have HR := Lib.hid hr
    clear hr
    by_cases hlt : j < s.size
    · have HD := Lib.hid (drop_cons s j hlt)
      go_wp2_with fail
      refine (take_yes _ #[] (fun _ => true) ent_anyByte s _ j _ HR.out.here hlt (by omega) (fits_anyByte _) rfl).mono ?_
      rintro e w2 ⟨rfl, ha, hg⟩
      have HR2 := Lib.hid (HR.out.take ha hg)
      have hB : w.heap.size ≤ w2.heap.size := Below.size HR2.out.kept
      obtain ⟨r0, r1, r2, r3, r4, r5⟩ := HR2.out.res.cells6
      have rf := HR2.out.res.free
      clear ha hg
      by_cases h62 : s[j] = 62
      · have e1 := byte_is h62 62 rfl
        have HV := Lib.hid (show T = (0, ⟨3, 0, acc ++ h.toList, false, 0, j + 1⟩) by rw [HE.out, HD.out, Lx.hex_done h62]; rfl)
        have hcv := HR2.out.drew.own.string
        clear h62
        go_wp2_with fail
        go_region_with (go_at_call 136; refine (place_any s _ _ _ HR2.out.drew.here).mono ?_; rintro e w' ⟨rfl, rfl⟩)
        all_goals
          go_wp2_with fail
          refine bodyPost_ret (v := .tuple #[.agg #[.int .i64 3, .int .i64 0, .string ⟨(acc ++ h.toList).toArray⟩, .bool false, .int .i64 0, .int .i64 (j + 1 : Nat)], .int .i64 0]) ?_ rfl ⟨by rw [HV.out]; first | done | rfl, ?_⟩
          · simp [results, Tryz.results105, go_sem, r0, r1, r2, r3, r4, r5]
          · repeat (with_reducible first | exact HR2.out.kept | refine Kept.drew ?_ | refine Kept.set ?_ (Nat.le_refl _) _)
      have e62 := byte_not h62 62 rfl
      cases hw : Lx.white s[j]
      · cases hx : Lx.isHex s[j]
        · have HV := Lib.hid (show T = (3, Lx.zero) by rw [HE.out, HD.out, Lx.hex_bad h62 hw hx]; rfl)
          clear h62
          go_wp2_with fail
          refine (White_any _ _).mono ?_
          rintro e w' ⟨rfl, rfl⟩
          rw [hw]
          go_wp2_with fail
          refine (isDigit16_any _ _).mono ?_
          rintro e w' ⟨rfl, rfl⟩
          rw [hx]
          go_wp2_with fail
          refine bodyPost_ret (v := .tuple #[.agg #[.int .i64 0, .int .i64 0, .string ⟨#[]⟩, .bool false, .int .i64 0, .int .i64 0], .int .i64 3]) ?_ rfl ⟨by rw [HV.out]; first | done | rfl, ?_⟩
          · simp [results, Tryz.results105, go_sem, r0, r1, r2, r3, r4, r5]
          · repeat (with_reducible first | exact HR2.out.kept | refine Kept.drew ?_ | refine Kept.set ?_ (Nat.le_refl _) _)
        · go_wp2_with fail
          refine (White_any _ _).mono ?_
          rintro e w' ⟨rfl, rfl⟩
          rw [hw]
          go_wp2_with fail
          refine (isDigit16_any _ _).mono ?_
          rintro e w' ⟨rfl, rfl⟩
          rw [hx]
          cases h with
          | none =>
            have HV := Lib.hid (show T = Lx.ofR3 3 (Lx.hexGo acc (some (Lx.hexV s[j] <<< 4)) (s.data.toList.drop (j + 1)) (j + 1)) by rw [HE.out, HD.out, Lx.hex_first hx])
            have HO := Lib.hid (show Owns w2 w.heap.size _ acc by have := HR2.out.own; simpa using this)
            clear h62
            go_wp2_with fail
            refine (digit16_any _ _ hx).mono ?_
            rintro e w' ⟨rfl, rfl⟩
            have HSH := Lib.hid (hex_shl hx)
            go_wp2_with (at_builtin; refine wpList_app_bytes rfl _ _ rfl w.heap.size _ acc rfl HO.out [Lx.hexV s[j] <<< 4] _ (by rw [HSH.out]; rfl) 1 _ rfl rfl hB (by simp; omega) ?_)
            intro v' w3 hown3 hgrow
            have HR3 := Lib.hid ((HR2.out.alloc _).app (acc := acc ++ (none : Option UInt8).toList) (news := [Lx.hexV s[j] <<< 4]) (by simp) (by simp) hown3 hgrow)
            clear hown3 hgrow
            go_wp2_with fail
            go_roundg (s.size - (j + 1))
            case measure => omega
            case rel => exact ⟨j + 1, some _, acc, rfl, by omega, rfl, by omega, by simpa using HR3.out, HV⟩
          | some u =>
            have HV := Lib.hid (show T = Lx.ofR3 3 (Lx.hexGo (acc ++ [u ||| Lx.hexV s[j]]) none (s.data.toList.drop (j + 1)) (j + 1)) by rw [HE.out, HD.out, Lx.hex_second hx])
            have hR : Run w s (j + 1) (acc ++ [u]) _ w2 := HR2.out
            obtain ⟨g, cap, rfl, hcell, hfroz, hset⟩ := hR.drew.last
            have HS := Lib.hid (hset (u ||| Lx.hexV s[j]))
            have hX := hex_or u hx
            clear h62 hR hset
            obtain ⟨m, hm⟩ : ∃ m, m = acc.length := ⟨_, rfl⟩
            rw [← hm] at hcell hfroz HR HR2 HS hl ⊢
            have HM := Lib.hid hm
            clear hm
            go_wp2_with fail
            have hw2 : IntKind.i64.wrap ((m : Int) + 1 - 1) = m := by rw [Int.add_sub_cancel]; exact IntWalk.i64_in _ (by omega)
            have hw3 : IntKind.i64.wrap (m : Int) = m := IntWalk.i64_in _ (by omega)
            have hb1 : (0 : Int) ≤ m := by omega
            have hb2 : (m : Int) < (m : Int) + 1 := by omega
            go_region_with (go_at_call 141; refine (digit16_any _ _ hx).mono ?_; rintro e w' ⟨rfl, rfl⟩)
            all_goals
              clear hw2 hw3
              have HL := Lib.hid hl
              go_wp2_with fail
              go_roundg (s.size - (j + 1))
              case measure => omega
              case rel => exact ⟨j + 1, none, acc ++ [u ||| Lx.hexV s[j]], rfl, by omega, rfl, by have := HM.out; simp; omega, by rw [show (none : Option UInt8).toList = [] from rfl, List.append_nil]; exact HS.out, HV⟩
      · have HV := Lib.hid (show T = Lx.ofR3 3 (Lx.hexGo acc h (s.data.toList.drop (j + 1)) (j + 1)) by rw [HE.out, HD.out, Lx.hex_white h62 hw])
        clear h62
        go_wp2_with fail
        refine (White_any _ _).mono ?_
        rintro e w' ⟨rfl, rfl⟩
        rw [hw]
        go_wp2_with fail
        go_roundg (s.size - (j + 1))
        case measure => omega
        case rel => exact ⟨j + 1, h, acc, rfl, by omega, rfl, by omega, HR2.out, HV⟩
    · obtain rfl : j = s.size := by omega
      have HV := Lib.hid (show T = (4, Lx.zero) by rw [HE.out, drop_end s s.size (Nat.le_refl _), Lx.hex_end]; rfl)
      obtain ⟨r0, r1, r2, r3, r4, r5⟩ := HR.out.res.cells6
      have rf := HR.out.res.free
      go_wp2_with fail
      refine (take_end _ #[] s _ _ HR.out.here).mono ?_
      rintro e w' ⟨rfl, rfl⟩
      go_wp2_with fail
      refine bodyPost_ret (v := .tuple #[.agg #[.int .i64 0, .int .i64 0, .string ⟨#[]⟩, .bool false, .int .i64 0, .int .i64 0], .int .i64 4]) ?_ rfl ⟨by rw [HV.out]; first | done | rfl, ?_⟩
      · simp [results, Tryz.results105, go_sem, r0, r1, r2, r3, r4, r5]
      · repeat (with_reducible first | exact HR.out.kept | refine Kept.drew ?_ | refine Kept.set ?_ (Nat.le_refl _) _)

end Go.Proofs.YtbgdeaeikijdgaaGreatDoor

namespace Go.Proofs.YtbgdeaeikijdgaaGreatDoor
open Go.RowKit

theorem Contains_point (l : List UInt8) (w : World) :
    Calls Tryz.prog 146 #[.string ⟨l.toArray⟩, .string ⟨#[46]⟩] w fun e w' => e = .returned (.bool (Lx.pointIn l)) ∧ w = w' :=
  (Tryz.strings_Contains_one ⟨l.toArray⟩ 46 w).mono fun e w' ⟨he, hw⟩ => ⟨by rw [he]; rfl, hw.symm⟩

theorem extract_run (s : ByteArray) (k n : Nat) : s.extract k (k + n) = ⟨((s.data.toList.drop k).take n).toArray⟩ := by
  apply ByteArray.ext
  rw [ByteArray.data_extract]
  apply Array.ext'
  simp [List.take_drop]

set_option maxRecDepth 100000 in
set_option maxHeartbeats 2000000 in
theorem wordOrNumber_any (s : ByteArray) (k : Nat) (w : World) (hk : k < s.size) (hs : s.size ≤ 4294967296) (hreg : Lx.reg s[k] = true) (hm : HasMax w) (T : Int × Lx.Tok) (hT : T = Lx.wordV s.data.toList k) :
    Calls Tryz.prog 108 #[.string s, .int .i64 k] w fun e w' =>
      e = .returned (.tuple #[.agg #[.int .i64 T.2.kind, .int .i64 T.2.f, .string ⟨T.2.s.toArray⟩, .bool T.2.whole, .int .i64 T.2.frm, .int .i64 T.2.to], .int .i64 T.1]) ∧ Kept w w' := by
  obtain ⟨n, hn⟩ : ∃ n, n = Lx.tw Lx.reg (s.data.toList.drop k) := ⟨_, rfl⟩
  have HN := Lib.hid hn
  have hnl : k + n ≤ s.size := by
    have := Lx.tw_le Lx.reg (s.data.toList.drop k)
    rw [← hn] at this; simp at this; omega
  have hn1 : 1 ≤ n := by rw [hn, drop_cons s k hk, Lx.tw, if_pos hreg]; omega
  have hx := extract_run s k n
  obtain ⟨run, hrun⟩ : ∃ run, run = (s.data.toList.drop k).take n := ⟨_, rfl⟩
  rw [← hrun] at hx
  have HRUN := Lib.hid hrun
  have hlen : run.length = n := by rw [hrun]; simp; omega
  have hpos : 0 < (⟨run.toArray⟩ : ByteArray).size := by show 0 < run.toArray.size; simp; omega
  have hfst : (⟨run.toArray⟩ : ByteArray)[0] = s[k] := by
    subst hrun
    show (((s.data.toList.drop k).take n).toArray)[0] = s[k]
    simp
    rfl
  clear hrun
  have HT := Lib.hid hT
  clear hT hn
  go_enter Tryz.func108, Tryz.ntmps108
  go_wp2_with fail
  refine (over_any s k _).mono ?_
  rintro e w' ⟨rfl, rfl⟩
  have HR := Lib.hid (open_run s k w)
  go_wp2_with fail
  refine (takeAll_any _ #[] Lx.reg ent_regular s _ k _ HR.out.here (by omega) (by omega) (fun w => fits_regular w)).mono ?_
  rintro e w2 ⟨rfl, ha, hg⟩
  rw [← HN.out] at ha
  have HR2 := Lib.hid (HR.out.take ha hg)
  clear ha hg
  go_wp2_with fail
  refine (place_any s _ _ _ HR2.out.here).mono ?_
  rintro e w' ⟨rfl, rfl⟩
  go_wp2_with fail
  refine (beginsNumber_any _ _).mono ?_
  rintro e w' ⟨rfl, rfl⟩
  obtain ⟨r0, r1, r2, r3, r4, r5⟩ := HR2.out.res.cells6
  have rf := HR2.out.res.free
  cases hb : Lx.numB s[k]
  · have HV := Lib.hid (show T = (0, ⟨8, 0, run, false, 0, k + n⟩) by
      rw [HT.out, Lx.wordV, drop_cons s k hk, List.headD_cons, if_neg (by rw [hb]; simp), ← drop_cons s k hk, ← HN.out, ← HRUN.out])
    go_wp2_with fail
    refine bodyPost_ret (v := .tuple #[.agg #[.int .i64 8, .int .i64 0, .string ⟨run.toArray⟩, .bool false, .int .i64 0, .int .i64 (k + n)], .int .i64 0]) ?_ rfl ⟨ret_tok (by rw [HV.out]) (by rw [HV.out]) (by rw [HV.out]) (by rw [HV.out]) (by rw [HV.out]; rfl) (by rw [HV.out]; rfl) (by rw [HV.out]), ?_⟩
    · simp [results, Tryz.results108, go_sem, r0, r1, r2, r3, r4, r5]
    · repeat (with_reducible first | exact HR2.out.kept | refine Kept.drew ?_ | refine Kept.set ?_ (Nat.le_refl _) _)
  · go_wp2_with fail
    refine (Parse_max run _ (by omega) (hm.kept HR2.out.kept)).mono ?_
    rintro e w3 ⟨rfl, hk3⟩
    have HR3 := Lib.hid (HR2.out.res.kept hk3)
    have HK3 := Lib.hid (HR2.out.kept.trans hk3)
    obtain ⟨q0, q1, q2, q3, q4, q5⟩ := HR3.out.cells6
    have qf := HR3.out.free
    clear hk3
    by_cases he : Fx.parseE run = 0
    · have HV := Lib.hid (show T = (0, ⟨1, Fx.parseV run, [], !Lx.pointIn run, 0, k + n⟩) by
        rw [HT.out, Lx.wordV, drop_cons s k hk, List.headD_cons, if_pos hb, ← drop_cons s k hk, ← HN.out, ← HRUN.out, if_pos he])
      rw [he]
      go_wp2_with fail
      refine (Contains_point run _).mono ?_
      rintro e w' ⟨rfl, rfl⟩
      go_wp2_with fail
      refine bodyPost_ret (v := .tuple #[.agg #[.int .i64 1, .int .i64 (Fx.parseV run), .string ⟨#[]⟩, .bool (!Lx.pointIn run), .int .i64 0, .int .i64 (k + n)], .int .i64 0]) ?_ rfl ⟨ret_tok (by rw [HV.out]) (by rw [HV.out]) (by rw [HV.out]) (by rw [HV.out]) (by rw [HV.out]; rfl) (by rw [HV.out]; rfl) (by rw [HV.out]), ?_⟩
      · simp [results, Tryz.results108, go_sem, q0, q1, q2, q3, q4, q5]
      · repeat (with_reducible first | exact HK3.out | refine Kept.drew ?_ | refine Kept.set ?_ (Nat.le_refl _) _)
    · have HV := Lib.hid (show T = (Fx.parseE run, Lx.zero) by
        rw [HT.out, Lx.wordV, drop_cons s k hk, List.headD_cons, if_pos hb, ← drop_cons s k hk, ← HN.out, ← HRUN.out, if_neg he])
      have hne : (Fx.parseE run != 0) = true := by simpa using he
      clear he
      go_wp2_with fail
      refine bodyPost_ret (v := .tuple #[.agg #[.int .i64 0, .int .i64 0, .string ⟨#[]⟩, .bool false, .int .i64 0, .int .i64 0], .int .i64 (Fx.parseE run)]) ?_ rfl ⟨ret_tok (by rw [HV.out]; rfl) (by rw [HV.out]; rfl) (by rw [HV.out]; rfl) (by rw [HV.out]; rfl) (by rw [HV.out]; rfl) (by rw [HV.out]; rfl) (by rw [HV.out]), ?_⟩
      · simp [results, Tryz.results108, go_sem, q0, q1, q2, q3, q4, q5]
      · repeat (with_reducible first | exact HK3.out | refine Kept.drew ?_ | refine Kept.set ?_ (Nat.le_refl _) _)

end Go.Proofs.YtbgdeaeikijdgaaGreatDoor

namespace Go.Proofs.YtbgdeaeikijdgaaGreatDoor
open Go.RowKit

theorem Blk.drewN {w : World} {b : Nat} {cs : Array Value} {t : TypeId} (h : Blk w b cs t) (n : Nat) : Blk (w.drewN n) b cs t := h
theorem twice_of (s : ByteArray) (k : Nat) (hk : k < s.size) : Lib.hasPrefix (s.extract (k + 1) s.size).data.toList (s.extract k (k + 1)).data.toList = ((s.data.toList.drop (k + 1)).head? == some s[k]) := by
  have h1 : (s.extract (k + 1) s.size).data.toList = s.data.toList.drop (k + 1) := by
    rw [ByteArray.data_extract]
    simp [List.take_of_length_le]
  have h2 : (s.extract k (k + 1)).data.toList = [s[k]] := by
    rw [extract_run s k 1]
    show (s.data.toList.drop k).take 1 = _
    rw [drop_cons s k hk]; rfl
  rw [h1, h2, Lib.hasPrefix]
  cases s.data.toList.drop (k + 1) with
  | nil => rfl
  | cons b r =>
    rw [List.isPrefixOf, List.isPrefixOf, Bool.and_true, List.head?_cons, Bool.eq_iff_iff]
    rw [beq_iff_eq, beq_iff_eq, Option.some.injEq]; exact eq_comm

theorem twice_any (s : ByteArray) (k : Nat) (hk : k < s.size) (w : World) :
    Calls Tryz.prog 104 #[.string (s.extract (k + 1) s.size), .string (s.extract k (k + 1))] w fun e w' => e = .returned (.bool ((s.data.toList.drop (k + 1)).head? == some s[k])) ∧ w' = w :=
  (Tryz.strings_HasPrefix _ _ w).mono fun e w' ⟨he, hw⟩ => ⟨by rw [he, twice_of s k hk], hw⟩

theorem reg_of {c : UInt8} (h0 : Lx.white c = false) (h1 : c ≠ 91) (h2 : c ≠ 93) (h3 : c ≠ 60) (h4 : c ≠ 62) (h5 : c ≠ 47) (h6 : c ≠ 40) (h7 : c ≠ 41) (h8 : c ≠ 123) (h9 : c ≠ 125) (h10 : c ≠ 37) : Lx.reg c = true := by
  have := Lx.byte_all (fun c => Lx.white c || c == 91 || c == 93 || c == 60 || c == 62 || c == 47 || c == 40 || c == 41 || c == 123 || c == 125 || c == 37 || Lx.reg c) (by kernel_rfl) c
  have e : ∀ d : UInt8, c ≠ d → (c == d) = false := fun d h => beq_eq_false_iff_ne.2 h
  rw [h0, e _ h1, e _ h2, e _ h3, e _ h4, e _ h5, e _ h6, e _ h7, e _ h8, e _ h9, e _ h10] at this
  exact this

set_option maxRecDepth 100000 in
set_option maxHeartbeats 4000000 in
theorem tokenAt_any (s : ByteArray) (k : Nat) (w : World) (hk : k ≤ s.size) (hs : s.size ≤ 4294967295) (hsp : ∀ h : k < s.size, Lx.white s[k] = false ∧ s[k] ≠ 37) (hm : HasMax w) (T : Int × Lx.Tok) (hT : T = Lx.tokV s.data.toList k) :
    Calls Tryz.prog 73 #[.string s, .int .i64 k] w fun e w' =>
      e = .returned (.tuple #[.agg #[.int .i64 T.2.kind, .int .i64 T.2.f, .string ⟨T.2.s.toArray⟩, .bool T.2.whole, .int .i64 T.2.frm, .int .i64 T.2.to], .int .i64 T.1]) ∧ Kept w w' := by
  have HT := Lib.hid hT
  have HSP := Lib.hid hsp
  have HM := Lib.hid hm
  clear hT hsp hm
  have KA := Lib.hid ((Kept.refl w).alloc tok0 108)
  obtain ⟨q0, q1, q2, q3, q4, q5⟩ := (Blk.fresh w tok0 108).cells6
  unfold tok0 at q0 q1 q2 q3 q4 q5
  by_cases hlt : k < s.size
  · have HD := Lib.hid (drop_cons s k hlt)
    obtain ⟨hw, h37⟩ := HSP.out hlt
    have HW := Lib.hid hw
    clear hw
    have hne : ((k : Int) == (s.size : Int)) = false := by rw [beq_eq_false_iff_ne]; omega
    have i1 : IntKind.i64.wrap ((k : Int) + 1) = (k : Int) + 1 := IntWalk.i64_in _ (by omega)
    have i2 : (0 : Int) ≤ (k : Int) + 1 := by omega
    have i3 : (k : Int) + 1 ≤ (s.size : Int) := by omega
    have i4 : (0 : Int) ≤ (k : Int) := by omega
    have i5 : (k : Int) ≤ (k : Int) + 1 := by omega
    have i6 : ((k : Int) + 1).toNat = k + 1 := by omega
    obtain ⟨tw, htw⟩ : ∃ tw, tw = ((s.data.toList.drop (k + 1)).head? == some s[k]) := ⟨_, rfl⟩
    have cT : ∀ w, Calls Tryz.prog 104 #[.string (s.extract (k + 1) s.size), .string (s.extract k (k + 1))] w fun e w' => e = .returned (.bool tw) ∧ w' = w := by
      intro w; rw [htw]; exact twice_any s k hlt w
    have HTW := Lib.hid htw
    have CT := Lib.hid cT
    clear htw cT
    go_enter Tryz.func73, Tryz.ntmps73
    go_wp2_with fail
    go_quiet ((go_at_call 104; exact Calls.quiet_of_same (CT.out _)))
    clear i1 i2 i3 i4 i5 i6
    by_cases h91 : s[k] = 91
    · have e91 := byte_is h91 91 rfl
      have HV := Lib.hid (show T = (0, ⟨4, 0, [], false, 0, k + 1⟩) by rw [HT.out, Lx.tokV, HD.out, h91]; rfl)
      clear h91 h37
      go_wp2_with fail
      refine bodyPost_ret (v := .tuple #[.agg #[.int .i64 4, .int .i64 0, .string ⟨#[]⟩, .bool false, .int .i64 0, .int .i64 (k + 1 : Nat)], .int .i64 0]) ?_ rfl ⟨by rw [HV.out]; first | done | rfl, ?_⟩
      · simp [results, Tryz.results73, go_sem]
      · repeat (with_reducible first | exact (Kept.refl w) | refine Kept.drew ?_ | refine Kept.drewN ?_ _ | refine Kept.alloc ?_ _ _ | refine Kept.set ?_ (Nat.le_refl _) _)
    have e91 := byte_not h91 91 rfl
    by_cases h93 : s[k] = 93
    · have e93 := byte_is h93 93 rfl
      have HV := Lib.hid (show T = (0, ⟨5, 0, [], false, 0, k + 1⟩) by rw [HT.out, Lx.tokV, HD.out, h93]; rfl)
      clear h91 h93 h37
      go_wp2_with fail
      refine bodyPost_ret (v := .tuple #[.agg #[.int .i64 5, .int .i64 0, .string ⟨#[]⟩, .bool false, .int .i64 0, .int .i64 (k + 1 : Nat)], .int .i64 0]) ?_ rfl ⟨by rw [HV.out]; first | done | rfl, ?_⟩
      · simp [results, Tryz.results73, go_sem]
      · repeat (with_reducible first | exact (Kept.refl w) | refine Kept.drew ?_ | refine Kept.drewN ?_ _ | refine Kept.alloc ?_ _ _ | refine Kept.set ?_ (Nat.le_refl _) _)
    have e93 := byte_not h93 93 rfl
    by_cases h60 : s[k] = 60
    · have e60 := byte_is h60 60 rfl
      have HH := Lib.hid (show T = if tw then (0, ⟨6, 0, [], false, 0, k + 2⟩) else Lx.ofR3 3 (Lx.hexGo [] none (s.data.toList.drop (k + 1)) (k + 1)) by rw [HT.out, Lx.tokV, HD.out, HTW.out, h60]; rfl)
      clear h91 h93 h60 h37
      cases tw
      · have HV := Lib.hid (show T = Lx.ofR3 3 (Lx.hexGo [] none (s.data.toList.drop (k + 1)) (k + 1)) from HH.out)
        go_wp2_with fail
        refine (digitText_any s (k + 1) _ (by omega) (by omega) T HV.out).mono ?_
        rintro e w2 ⟨rfl, hk2⟩
        have HB2 := Lib.hid ((((Blk.fresh w tok0 108).drewN _).kept hk2))
        have HK2 := Lib.hid (((KA.out.drewN _).trans hk2))
        obtain ⟨p0, p1, p2, p3, p4, p5⟩ := HB2.out.cells6
        have pf := HB2.out.free
        clear hk2
        go_wp2_with fail
        refine bodyPost_ret (v := .tuple #[.agg #[.int .i64 T.2.kind, .int .i64 T.2.f, .string ⟨T.2.s.toArray⟩, .bool T.2.whole, .int .i64 T.2.frm, .int .i64 T.2.to], .int .i64 T.1]) ?_ rfl ⟨rfl, ?_⟩
        · simp [results, Tryz.results73, go_sem, p0, p1, p2, p3, p4, p5]
        · repeat (with_reducible first | exact HK2.out | refine Kept.drew ?_ | refine Kept.drewN ?_ _ | refine Kept.alloc ?_ _ _ | refine Kept.set ?_ (Nat.le_refl _) _)
      · have HV := Lib.hid (show T = (0, ⟨6, 0, [], false, 0, k + 2⟩) from HH.out)
        go_wp2_with fail
        refine bodyPost_ret (v := .tuple #[.agg #[.int .i64 6, .int .i64 0, .string ⟨#[]⟩, .bool false, .int .i64 0, .int .i64 (k + 2 : Nat)], .int .i64 0]) ?_ rfl ⟨by rw [HV.out]; first | done | rfl, ?_⟩
        · simp [results, Tryz.results73, go_sem]
        · repeat (with_reducible first | exact (Kept.refl w) | refine Kept.drew ?_ | refine Kept.drewN ?_ _ | refine Kept.alloc ?_ _ _ | refine Kept.set ?_ (Nat.le_refl _) _)
    have e60 := byte_not h60 60 rfl
    by_cases h62 : s[k] = 62
    · have e62 := byte_is h62 62 rfl
      have HH := Lib.hid (show T = if tw then (0, ⟨7, 0, [], false, 0, k + 2⟩) else (3, Lx.zero) by rw [HT.out, Lx.tokV, HD.out, HTW.out, h62]; rfl)
      clear h91 h93 h60 h62 h37
      cases tw
      · have HV := Lib.hid (show T = (3, Lx.zero) from HH.out)
        go_wp2_with fail
        refine bodyPost_ret (v := .tuple #[.agg #[.int .i64 0, .int .i64 0, .string ⟨#[]⟩, .bool false, .int .i64 0, .int .i64 0], .int .i64 3]) ?_ rfl ⟨by rw [HV.out]; first | done | rfl, ?_⟩
        · simp [results, Tryz.results73, go_sem]
        · repeat (with_reducible first | exact (Kept.refl w) | refine Kept.drew ?_ | refine Kept.drewN ?_ _ | refine Kept.alloc ?_ _ _ | refine Kept.set ?_ (Nat.le_refl _) _)
      · have HV := Lib.hid (show T = (0, ⟨7, 0, [], false, 0, k + 2⟩) from HH.out)
        go_wp2_with fail
        refine bodyPost_ret (v := .tuple #[.agg #[.int .i64 7, .int .i64 0, .string ⟨#[]⟩, .bool false, .int .i64 0, .int .i64 (k + 2 : Nat)], .int .i64 0]) ?_ rfl ⟨by rw [HV.out]; first | done | rfl, ?_⟩
        · simp [results, Tryz.results73, go_sem]
        · repeat (with_reducible first | exact (Kept.refl w) | refine Kept.drew ?_ | refine Kept.drewN ?_ _ | refine Kept.alloc ?_ _ _ | refine Kept.set ?_ (Nat.le_refl _) _)
    have e62 := byte_not h62 62 rfl
    by_cases h47 : s[k] = 47
    · have e47 := byte_is h47 47 rfl
      have HV := Lib.hid (show T = Lx.ofR3 2 (Lx.nameGo [] 0 (s.data.toList.drop (k + 1)) (k + 1)) by rw [HT.out, Lx.tokV, HD.out, h47]; rfl)
      clear h91 h93 h60 h62 h47 h37
      go_wp2_with fail
      refine (nameToken_any s (k + 1) _ (by omega) (by omega) T HV.out).mono ?_
      rintro e w2 ⟨rfl, hk2⟩
      have HB2 := Lib.hid ((((Blk.fresh w tok0 108).drewN _).kept hk2))
      have HK2 := Lib.hid (((KA.out.drewN _).trans hk2))
      obtain ⟨p0, p1, p2, p3, p4, p5⟩ := HB2.out.cells6
      have pf := HB2.out.free
      clear hk2
      go_wp2_with fail
      refine bodyPost_ret (v := .tuple #[.agg #[.int .i64 T.2.kind, .int .i64 T.2.f, .string ⟨T.2.s.toArray⟩, .bool T.2.whole, .int .i64 T.2.frm, .int .i64 T.2.to], .int .i64 T.1]) ?_ rfl ⟨rfl, ?_⟩
      · simp [results, Tryz.results73, go_sem, p0, p1, p2, p3, p4, p5]
      · repeat (with_reducible first | exact HK2.out | refine Kept.drew ?_ | refine Kept.drewN ?_ _ | refine Kept.alloc ?_ _ _ | refine Kept.set ?_ (Nat.le_refl _) _)
    have e47 := byte_not h47 47 rfl
    by_cases h40 : s[k] = 40
    · have e40 := byte_is h40 40 rfl
      have HV := Lib.hid (show T = Lx.ofR3 3 (Lx.textGo [] 0 0 (s.data.toList.drop (k + 1)) (k + 1)) by rw [HT.out, Lx.tokV, HD.out, h40]; rfl)
      clear h91 h93 h60 h62 h47 h40 h37
      go_wp2_with fail
      refine (plainText_any s (k + 1) _ (by omega) (by omega) T HV.out).mono ?_
      rintro e w2 ⟨rfl, hk2⟩
      have HB2 := Lib.hid ((((Blk.fresh w tok0 108).drewN _).kept hk2))
      have HK2 := Lib.hid (((KA.out.drewN _).trans hk2))
      obtain ⟨p0, p1, p2, p3, p4, p5⟩ := HB2.out.cells6
      have pf := HB2.out.free
      clear hk2
      go_wp2_with fail
      refine bodyPost_ret (v := .tuple #[.agg #[.int .i64 T.2.kind, .int .i64 T.2.f, .string ⟨T.2.s.toArray⟩, .bool T.2.whole, .int .i64 T.2.frm, .int .i64 T.2.to], .int .i64 T.1]) ?_ rfl ⟨rfl, ?_⟩
      · simp [results, Tryz.results73, go_sem, p0, p1, p2, p3, p4, p5]
      · repeat (with_reducible first | exact HK2.out | refine Kept.drew ?_ | refine Kept.drewN ?_ _ | refine Kept.alloc ?_ _ _ | refine Kept.set ?_ (Nat.le_refl _) _)
    have e40 := byte_not h40 40 rfl
    by_cases h41 : s[k] = 41
    · have e41 := byte_is h41 41 rfl
      have HV := Lib.hid (show T = (3, Lx.zero) by rw [HT.out, Lx.tokV, HD.out, h41]; rfl)
      clear h91 h93 h60 h62 h47 h40 h41 h37
      go_wp2_with fail
      refine bodyPost_ret (v := .tuple #[.agg #[.int .i64 0, .int .i64 0, .string ⟨#[]⟩, .bool false, .int .i64 0, .int .i64 0], .int .i64 3]) ?_ rfl ⟨by rw [HV.out]; first | done | rfl, ?_⟩
      · simp [results, Tryz.results73, go_sem]
      · repeat (with_reducible first | exact (Kept.refl w) | refine Kept.drew ?_ | refine Kept.drewN ?_ _ | refine Kept.alloc ?_ _ _ | refine Kept.set ?_ (Nat.le_refl _) _)
    have e41 := byte_not h41 41 rfl
    by_cases h123 : s[k] = 123
    · have e123 := byte_is h123 123 rfl
      have HV := Lib.hid (show T = (3, Lx.zero) by rw [HT.out, Lx.tokV, HD.out, h123]; rfl)
      clear h91 h93 h60 h62 h47 h40 h41 h123 h37
      go_wp2_with fail
      refine bodyPost_ret (v := .tuple #[.agg #[.int .i64 0, .int .i64 0, .string ⟨#[]⟩, .bool false, .int .i64 0, .int .i64 0], .int .i64 3]) ?_ rfl ⟨by rw [HV.out]; first | done | rfl, ?_⟩
      · simp [results, Tryz.results73, go_sem]
      · repeat (with_reducible first | exact (Kept.refl w) | refine Kept.drew ?_ | refine Kept.drewN ?_ _ | refine Kept.alloc ?_ _ _ | refine Kept.set ?_ (Nat.le_refl _) _)
    have e123 := byte_not h123 123 rfl
    by_cases h125 : s[k] = 125
    · have e125 := byte_is h125 125 rfl
      have HV := Lib.hid (show T = (3, Lx.zero) by rw [HT.out, Lx.tokV, HD.out, h125]; rfl)
      clear h91 h93 h60 h62 h47 h40 h41 h123 h125 h37
      go_wp2_with fail
      refine bodyPost_ret (v := .tuple #[.agg #[.int .i64 0, .int .i64 0, .string ⟨#[]⟩, .bool false, .int .i64 0, .int .i64 0], .int .i64 3]) ?_ rfl ⟨by rw [HV.out]; first | done | rfl, ?_⟩
      · simp [results, Tryz.results73, go_sem]
      · repeat (with_reducible first | exact (Kept.refl w) | refine Kept.drew ?_ | refine Kept.drewN ?_ _ | refine Kept.alloc ?_ _ _ | refine Kept.set ?_ (Nat.le_refl _) _)
    · have e125 := byte_not h125 125 rfl
      have HRG := Lib.hid (reg_of HW.out h91 h93 h60 h62 h47 h40 h41 h123 h125 h37)
      have HV := Lib.hid (show T = Lx.wordV s.data.toList k by
        rw [HT.out, Lx.tokV, HD.out]; simp only [beq_iff_eq, h91, h93, h60, h62, h47, h40, h41, h123, h125, Bool.or_eq_true, or_self, if_false])
      clear h91 h93 h60 h62 h47 h40 h41 h123 h125 h37
      go_wp2_with fail
      refine (wordOrNumber_any s k _ hlt (by omega) HRG.out (HM.out.kept (KA.out.drewN _)) T HV.out).mono ?_
      rintro e w2 ⟨rfl, hk2⟩
      have HB2 := Lib.hid ((((Blk.fresh w tok0 108).drewN _).kept hk2))
      have HK2 := Lib.hid (((KA.out.drewN _).trans hk2))
      obtain ⟨p0, p1, p2, p3, p4, p5⟩ := HB2.out.cells6
      have pf := HB2.out.free
      clear hk2
      go_wp2_with fail
      refine bodyPost_ret (v := .tuple #[.agg #[.int .i64 T.2.kind, .int .i64 T.2.f, .string ⟨T.2.s.toArray⟩, .bool T.2.whole, .int .i64 T.2.frm, .int .i64 T.2.to], .int .i64 T.1]) ?_ rfl ⟨rfl, ?_⟩
      · simp [results, Tryz.results73, go_sem, p0, p1, p2, p3, p4, p5]
      · repeat (with_reducible first | exact HK2.out | refine Kept.drew ?_ | refine Kept.drewN ?_ _ | refine Kept.alloc ?_ _ _ | refine Kept.set ?_ (Nat.le_refl _) _)
  · obtain rfl : k = s.size := by omega
    have HV := Lib.hid (show T = (0, ⟨0, 0, [], false, 0, s.size⟩) by rw [HT.out, Lx.tokV, drop_end s s.size (Nat.le_refl _)])
    go_enter Tryz.func73, Tryz.ntmps73
    go_wp2_with fail
    refine bodyPost_ret (v := .tuple #[.agg #[.int .i64 0, .int .i64 0, .string ⟨#[]⟩, .bool false, .int .i64 0, .int .i64 s.size], .int .i64 0]) ?_ rfl ⟨by rw [HV.out]; first | done | rfl, ?_⟩
    · simp [results, Tryz.results73, go_sem]
    · repeat (with_reducible first | exact (Kept.refl w) | refine Kept.drew ?_ | refine Kept.alloc ?_ _ _ | refine Kept.set ?_ (Nat.le_refl _) _)

theorem spc_stops (s : ByteArray) (k : Nat) (h : k < s.size) (e : Lx.spc false (s.data.toList.drop k) = 0) : Lx.white s[k] = false ∧ s[k] ≠ 37 := by
  rw [drop_cons s k h, Lx.spc] at e
  cases hw : Lx.white s[k]
  · refine ⟨rfl, fun h37 => ?_⟩
    rw [hw, h37] at e
    simp at e
  · rw [hw] at e; simp at e

theorem spc_rest : ∀ (c : Bool) (l : List UInt8), Lx.spc false (l.drop (Lx.spc c l)) = 0
  | c, [] => by rw [List.drop_nil]; rfl
  | true, b :: r => by
    rw [Lx.spc]
    split
    · rw [List.drop_succ_cons]; exact spc_rest true r
    · rw [List.drop_succ_cons]; exact spc_rest false r
  | false, b :: r => by
    cases hw : Lx.white b
    · by_cases h37 : (b == 37) = true
      · rw [Lx.spc, hw, if_neg (by simp), if_pos h37, List.drop_succ_cons]; exact spc_rest true r
      · rw [show Lx.spc false (b :: r) = 0 by rw [Lx.spc, hw, if_neg (by simp), if_neg h37], List.drop_zero, Lx.spc, hw, if_neg (by simp), if_neg h37]
    · rw [Lx.spc, hw, if_pos rfl, List.drop_succ_cons]; exact spc_rest false r

theorem space_fits (l : List UInt8) (a : Int) : Lx.spaceV l a ≤ l.length ∧ Lx.spc false (l.drop (Lx.spaceV l a)) = 0 := by
  unfold Lx.spaceV
  constructor
  · have := Lx.spc_le false (l.drop (min (max a 0) (l.length : Int)).toNat)
    simp at this; omega
  · rw [← List.drop_drop]; exact spc_rest _ _

set_option maxRecDepth 100000 in
set_option maxHeartbeats 4000000 in
theorem Next_any (s : ByteArray) (a : Int) (w : World) (hs : s.size ≤ 4294967295) (hm : HasMax w) (T : Int × Lx.Tok) (hT : T = Lx.nextV s.data.toList a) :
    Calls Tryz.prog 44 #[.string s, .int .i64 a] w fun e w' =>
      e = .returned (.tuple #[.agg #[.int .i64 T.2.kind, .int .i64 T.2.f, .string ⟨T.2.s.toArray⟩, .bool T.2.whole, .int .i64 T.2.frm, .int .i64 T.2.to], .int .i64 T.1]) ∧ Kept w w' := by
  have HT := Lib.hid hT
  have HM := Lib.hid hm
  clear hT hm
  have KA := Lib.hid ((Kept.refl w).alloc tok0 108)
  have hlen : s.data.toList.length = s.size := by simp
  by_cases hin : 0 ≤ a ∧ a ≤ (s.size : Int)
  · obtain ⟨a0, a1⟩ := hin
    obtain ⟨K, hK⟩ : ∃ K, K = Lx.spaceV s.data.toList a := ⟨_, rfl⟩
    obtain ⟨hkl, hst⟩ := space_fits s.data.toList a
    rw [← hK, hlen] at hkl
    rw [← hK] at hst
    obtain ⟨U, hU⟩ : ∃ U, U = Lx.tokV s.data.toList K := ⟨_, rfl⟩
    have HV := Lib.hid (show T = if U.1 = 0 then (0, { U.2 with frm := K }) else (U.1, Lx.zero) by
      rw [HT.out, Lx.nextV, hlen, if_pos ⟨a0, a1⟩, ← hK, ← hU])
    have HK := Lib.hid hK
    have HU := Lib.hid hU
    have HS := Lib.hid (fun h : K < s.size => spc_stops s K h hst)
    clear hK hU hst hlen
    go_enter Tryz.func44, Tryz.ntmps44
    go_wp2_with fail
    refine (Space_any s a _ (by omega)).mono ?_
    rintro e w2 ⟨rfl, hk2⟩
    rw [← HK.out]
    have HB2 := Lib.hid ((Blk.fresh w tok0 108).kept hk2)
    have HK2 := Lib.hid (KA.out.trans hk2)
    clear hk2
    go_wp2_with fail
    refine (tokenAt_any s K _ hkl hs HS.out (HM.out.kept HK2.out) U HU.out).mono ?_
    rintro e w3 ⟨rfl, hk3⟩
    have HB3 := Lib.hid (HB2.out.kept hk3)
    have HK3 := Lib.hid (HK2.out.trans hk3)
    obtain ⟨p0, p1, p2, p3, p4, p5⟩ := HB3.out.cells6
    have pf := HB3.out.free
    have hz : w.heap.size < w3.heap.size := HB3.out.lt
    clear hk3
    by_cases he : U.1 = 0
    · have HW := Lib.hid (show T = (0, { U.2 with frm := K }) by rw [HV.out, if_pos he])
      rw [he]
      go_wp2_with fail
      refine bodyPost_ret (v := .tuple #[.agg #[.int .i64 U.2.kind, .int .i64 U.2.f, .string ⟨U.2.s.toArray⟩, .bool U.2.whole, .int .i64 K, .int .i64 U.2.to], .int .i64 0]) ?_ rfl ⟨by rw [HW.out]; first | done | rfl, ?_⟩
      · simp [results, Tryz.results44, go_sem, p0, p1, p2, p3, p4, p5, hz]
      · repeat (with_reducible first | exact HK3.out | refine Kept.drew ?_ | refine Kept.drewN ?_ _ | refine Kept.alloc ?_ _ _ | refine Kept.set ?_ (by omega) _)
    · have HW := Lib.hid (show T = (U.1, Lx.zero) by rw [HV.out, if_neg he])
      have hne : (U.1 != 0) = true := by simpa using he
      clear he
      go_wp2_with fail
      refine bodyPost_ret (v := .tuple #[.agg #[.int .i64 0, .int .i64 0, .string ⟨#[]⟩, .bool false, .int .i64 0, .int .i64 0], .int .i64 U.1]) ?_ rfl ⟨by rw [HW.out]; first | done | rfl, ?_⟩
      · simp [results, Tryz.results44, go_sem, p0, p1, p2, p3, p4, p5, hz]
      · repeat (with_reducible first | exact HK3.out | refine Kept.drew ?_ | refine Kept.drewN ?_ _ | refine Kept.alloc ?_ _ _ | refine Kept.set ?_ (by omega) _)
  · have HV := Lib.hid (show T = (1, Lx.zero) by rw [HT.out, Lx.nextV, hlen, if_neg hin])
    have hout : a < 0 ∨ (s.size : Int) < a := by omega
    clear hin hlen
    rcases hout with h | h
    · go_enter Tryz.func44, Tryz.ntmps44
      go_wp2_with fail
      refine bodyPost_ret (v := .tuple #[.agg #[.int .i64 0, .int .i64 0, .string ⟨#[]⟩, .bool false, .int .i64 0, .int .i64 0], .int .i64 1]) ?_ rfl ⟨by rw [HV.out]; first | done | rfl, ?_⟩
      · simp [results, Tryz.results44, go_sem]
      · repeat (with_reducible first | exact (Kept.refl w) | refine Kept.drew ?_ | refine Kept.alloc ?_ _ _ | refine Kept.set ?_ (Nat.le_refl _) _)
    · have h0 : ¬ a < 0 := by omega
      go_enter Tryz.func44, Tryz.ntmps44
      go_wp2_with fail
      refine bodyPost_ret (v := .tuple #[.agg #[.int .i64 0, .int .i64 0, .string ⟨#[]⟩, .bool false, .int .i64 0, .int .i64 0], .int .i64 1]) ?_ rfl ⟨by rw [HV.out]; first | done | rfl, ?_⟩
      · simp [results, Tryz.results44, go_sem]
      · repeat (with_reducible first | exact (Kept.refl w) | refine Kept.drew ?_ | refine Kept.alloc ?_ _ _ | refine Kept.set ?_ (Nat.le_refl _) _)

end Go.Proofs.YtbgdeaeikijdgaaGreatDoor
