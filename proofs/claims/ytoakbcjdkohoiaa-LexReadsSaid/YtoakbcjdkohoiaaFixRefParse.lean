/-
  What the document's own Parse of layer 1 (the reference) answers.
-/
import Derived.Test.YtoakbcjdkohoiaaFixRef
import Derived.Test.YtoakbcjdkohoiaaFixPrint
import Derived.Test.YtoakbcjdkohoiaaFixText
import Derived.Test.YtoakbcjdkohoiaaFixRefParseMath
import Derived.Deep.DeepCutAuto
namespace Go.Proofs.Ytoakbcjdkohoiaa
open Go.RowKit

set_option maxHeartbeats 400000 in
theorem Rdigits_any (s : ByteArray) (w : World) (hs : s.size ≤ 9223372036854775807) :
    Calls Try.prog 78 #[.string s] w fun e w' => e = .returned (.int .i64 (Fx.cntDig s.data.toList)) ∧ w = w' := by
  go_enter Try.func78, Try.ntmps78
  go_wp2
  go_loop [3] (fun i => ∃ k : Nat, k ≤ s.size ∧ i = .int .i64 k ∧ Hid (Fx.allDig (s.data.toList.take k) = true)) (fun i => s.size - (intOf i).toNat)
  case atStart => exact ⟨0, Nat.zero_le _, rfl, Lib.hid rfl⟩
  case round =>
    obtain ⟨k, hk, rfl, hd⟩ := hrel
    by_cases hlt : k < s.size
    · have HE := Lib.hid (take_snoc s k hlt)
      have HX := Lib.hid (show s.data.toList[k]? = some s[k] from List.getElem?_eq_getElem (l := s.data.toList) (by simpa using hlt))
      have HL := Lib.hid (show k ≤ s.data.toList.length by simpa using hk)
      have HC := Lib.hid (fun (h : Fx.isDig s[k] = false) => Fx.cnt_of hd.out HL.out (fun c hc => by rw [HX.out] at hc; injection hc with e; exact e ▸ h))
      by_cases h1 : 48 ≤ (s[k].toNat : Int)
      · by_cases h2 : (s[k].toNat : Int) ≤ 57
        · have HN := Lib.hid (show Fx.isDig s[k] = true by rw [Fx.isDig_iff]; omega)
          go_wp2
          go_round
          case rel => exact ⟨k + 1, by omega, by go_num, Lib.hid (by rw [HE.out]; exact Fx.allDig_snoc hd.out HN.out)⟩
          case measure => simp [intOf]; omega
        · have HN := Lib.hid (show Fx.isDig s[k] = false by rw [Bool.eq_false_iff, Ne, Fx.isDig_iff]; omega)
          go_wp2
          go_ret
          exact ⟨ret_int (by rw [HC.out HN.out]), rfl⟩
      · have HN := Lib.hid (show Fx.isDig s[k] = false by rw [Bool.eq_false_iff, Ne, Fx.isDig_iff]; omega)
        go_wp2
        go_ret
        exact ⟨ret_int (by rw [HC.out HN.out]), rfl⟩
    · have HC := Lib.hid (Fx.cnt_of hd.out (show k ≤ s.data.toList.length by simpa using hk) (fun c hc => by rw [List.getElem?_eq_none (by simp; omega)] at hc; cases hc))
      go_wp2
      go_ret
      exact ⟨ret_int (by rw [HC.out]), rfl⟩

theorem Rdigits_list (l : List UInt8) (w : World) (hl : l.length ≤ 9223372036854775807) :
    Calls Try.prog 78 #[.string ⟨l.toArray⟩] w fun e w' => e = .returned (.int .i64 (Fx.cntDig l)) ∧ w = w' :=
  Rdigits_any ⟨l.toArray⟩ w (show l.toArray.size ≤ _ by simpa using hl)
theorem bytes_take (t : List UInt8) (k : Nat) : (⟨t.toArray⟩ : ByteArray).extract 0 k = ⟨(t.take k).toArray⟩ := by
  apply ByteArray.ext
  rw [ByteArray.data_extract]
  simp only [List.extract_toArray, List.extract_eq_take_drop]
  simp
theorem bytes_piece (t : List UInt8) (a k : Nat) : (⟨t.toArray⟩ : ByteArray).extract a k = ⟨((t.drop a).take (k - a)).toArray⟩ := by
  apply ByteArray.ext
  rw [ByteArray.data_extract]
  simp only [List.extract_toArray, List.extract_eq_take_drop]

theorem Rdigits_drop (d : List UInt8) (k : Nat) (w : World) (hl : d.length ≤ 9223372036854775807) :
    Calls Try.prog 78 #[.string ((⟨d.toArray⟩ : ByteArray).extract k d.length)] w fun e w' => e = .returned (.int .i64 (Fx.cntDig (d.drop k))) ∧ w = w' := by
  rw [bytes_drop]
  exact Rdigits_list (d.drop k) w (by rw [List.length_drop]; omega)

theorem bytes_pad (a p : List UInt8) : (⟨a.toArray⟩ : ByteArray) ++ ((⟨p.toArray⟩ : ByteArray) ++ ⟨#[48, 48, 48, 48]⟩).extract 0 3 = ⟨(a ++ Fx.pad3 p).toArray⟩ := by
  have e : (⟨p.toArray⟩ : ByteArray) ++ ⟨#[48, 48, 48, 48]⟩ = ⟨(p ++ [48, 48, 48, 48]).toArray⟩ := bytes_append p [48, 48, 48, 48]
  rw [e, bytes_take, bytes_append]
  rfl

theorem vbool {a b : Bool} (h : a = b) : Value.bool a = Value.bool b := by rw [h]

set_option maxRecDepth 100000 in
set_option maxHeartbeats 1000000 in
theorem RParse_short (l : List UInt8) (w : World) (hl : l.length ≤ 400) :
    Calls Try.prog 61 #[.string ⟨l.toArray⟩] w fun e w' => e = .returned (.tuple #[.int .i64 (Fx.parseV l), .int .i64 (Fx.parseE l)]) ∧ Kept w w' := by
  go_enter Try.func61, Try.ntmps61
  go_upto_region 3 with (fail)
  go_cut [4] (fun m wc => m = .bool (Fx.signOf l) ∧ w = wc)
  case first =>
    cases l with
    | nil =>
      go_wp2_with fail
      go_meet
      case rel => exact ⟨rfl, rfl⟩
    | cons c r =>
      have hz : 0 < (⟨(c :: r).toArray⟩ : ByteArray).size := Nat.succ_pos _
      have e0 : (⟨(c :: r).toArray⟩ : ByteArray)[0] = c := rfl
      have e1 : ((⟨(c :: r).toArray⟩ : ByteArray)[0].toNat : Int) = c.toNat := by rw [e0]
      clear e0
      by_cases hp : c.toNat = 43
      · have b1 : (((⟨(c :: r).toArray⟩ : ByteArray)[0].toNat : Int) == 43) = true := by rw [beq_iff_eq]; omega
        have b2 : (((⟨(c :: r).toArray⟩ : ByteArray)[0].toNat : Int) == 45) = false := by rw [beq_eq_false_iff_ne]; omega
        have HS := Lib.hid (Fx.sign_plus hp r)
        clear e1 hp
        go_wp2_with fail
        go_meet
        case rel => exact ⟨vbool HS.out.1.symm, rfl⟩
      by_cases hm : c.toNat = 45
      · have b1 : (((⟨(c :: r).toArray⟩ : ByteArray)[0].toNat : Int) == 43) = false := by rw [beq_eq_false_iff_ne]; omega
        have b2 : (((⟨(c :: r).toArray⟩ : ByteArray)[0].toNat : Int) == 45) = true := by rw [beq_iff_eq]; omega
        have HS := Lib.hid (Fx.sign_minus hm r)
        clear e1 hp hm
        go_wp2_with fail
        go_meet
        case rel => exact ⟨vbool HS.out.1.symm, rfl⟩
      · have b1 : (((⟨(c :: r).toArray⟩ : ByteArray)[0].toNat : Int) == 43) = false := by rw [beq_eq_false_iff_ne]; omega
        have b2 : (((⟨(c :: r).toArray⟩ : ByteArray)[0].toNat : Int) == 45) = false := by rw [beq_eq_false_iff_ne]; omega
        have HS := Lib.hid (Fx.sign_none hp hm r)
        clear e1 hp hm
        go_wp2_with fail
        go_meet
        case rel => exact ⟨vbool HS.out.1.symm, rfl⟩
  case rest =>
    obtain ⟨rfl, rfl⟩ := hcut
    go_upto_region 4 with (fail)
    go_cut [32] (fun m wc => m = .bool (Fx.hasSign l) ∧ w = wc)
    case first =>
      cases l with
      | nil =>
        go_wp2_with fail
        go_meet
        case rel => exact ⟨rfl, rfl⟩
      | cons c r =>
        have hz : 0 < (⟨(c :: r).toArray⟩ : ByteArray).size := Nat.succ_pos _
        have e0 : (⟨(c :: r).toArray⟩ : ByteArray)[0] = c := rfl
        have e1 : ((⟨(c :: r).toArray⟩ : ByteArray)[0].toNat : Int) = c.toNat := by rw [e0]
        clear e0
        by_cases hp : c.toNat = 43
        · have b1 : (((⟨(c :: r).toArray⟩ : ByteArray)[0].toNat : Int) == 43) = true := by rw [beq_iff_eq]; omega
          have b2 : (((⟨(c :: r).toArray⟩ : ByteArray)[0].toNat : Int) == 45) = false := by rw [beq_eq_false_iff_ne]; omega
          have HS := Lib.hid ((Fx.hasSign_of (c := c) (r := r)).1 (.inl hp))
          clear e1 hp
          go_wp2_with fail
          go_meet
          case rel => exact ⟨vbool HS.out.symm, rfl⟩
        by_cases hm : c.toNat = 45
        · have b1 : (((⟨(c :: r).toArray⟩ : ByteArray)[0].toNat : Int) == 43) = false := by rw [beq_eq_false_iff_ne]; omega
          have b2 : (((⟨(c :: r).toArray⟩ : ByteArray)[0].toNat : Int) == 45) = true := by rw [beq_iff_eq]; omega
          have HS := Lib.hid ((Fx.hasSign_of (c := c) (r := r)).1 (.inr hm))
          clear e1 hp hm
          go_wp2_with fail
          go_meet
          case rel => exact ⟨vbool HS.out.symm, rfl⟩
        · have b1 : (((⟨(c :: r).toArray⟩ : ByteArray)[0].toNat : Int) == 43) = false := by rw [beq_eq_false_iff_ne]; omega
          have b2 : (((⟨(c :: r).toArray⟩ : ByteArray)[0].toNat : Int) == 45) = false := by rw [beq_eq_false_iff_ne]; omega
          have HS := Lib.hid ((Fx.hasSign_of (c := c) (r := r)).2 hp hm)
          clear e1 hp hm
          go_wp2_with fail
          go_meet
          case rel => exact ⟨vbool HS.out.symm, rfl⟩
    case rest =>
      obtain ⟨rfl, rfl⟩ := hcut
      go_upto_if 32 with (fail)
      go_cut [0] (fun s wc => s = .string ⟨(Fx.behindSign l).toArray⟩ ∧ w = wc)
      case first =>
        cases hs : Fx.hasSign l
        · have HS := Lib.hid (Fx.hasSign_no hs)
          go_wp2_with fail
          go_meet
          case rel => exact ⟨by rw [HS.out], rfl⟩
        · obtain ⟨l1, hb⟩ := Fx.hasSign_yes hs
          have HS := Lib.hid hb
          clear hb
          go_wp2_with fail
          go_meet
          case rel => exact ⟨congrArg Value.string (by rw [HS.out]; exact bytes_drop l 1), rfl⟩
      case rest =>
        obtain ⟨rfl, rfl⟩ := hcut
        have hb := Fx.behindSign_le l
        obtain ⟨d, hd⟩ : ∃ d, Fx.behindSign l = d := ⟨_, rfl⟩
        rw [hd] at hb
        rw [hd]
        have HD := Lib.hid hd
        clear hd
        have hdl : d.length ≤ 400 := by omega
        clear hb
        have hc := Fx.cnt_le d
        go_wp2_with fail
        refine (Rdigits_list d _ (by omega)).mono ?_
        rintro e w' ⟨rfl, rfl⟩
        go_upto_region 9 with (fail)
        go_cut [49] (fun m wc => m = .bool (Fx.pointed d) ∧ w = wc)
        case first =>
          cases hp : Fx.pointed d
          · rcases Fx.pointed_no hp with h1 | ⟨h1, h2⟩
            · have hlt : decide (Fx.cntDig d < d.length) = false := by simp; omega
              have HL := Lib.hid h1
              clear h1
              go_wp2_with fail
              go_meet
              case rel => exact ⟨vbool hp.symm, rfl⟩
            · have hz : Fx.cntDig d < (⟨d.toArray⟩ : ByteArray).size := by show _ < d.toArray.size; simpa using h1
              have hb : (((⟨d.toArray⟩ : ByteArray)[Fx.cntDig d].toNat : Int) == 46) = false := by
                rw [beq_eq_false_iff_ne]
                intro e
                refine h2 (⟨d.toArray⟩ : ByteArray)[Fx.cntDig d] (List.getElem?_eq_getElem (l := d) h1) ?_
                exact UInt8.toNat_inj.1 (by show _ = 46; omega)
              clear h2
              go_wp2_with fail
              go_meet
              case rel => exact ⟨vbool hp.symm, rfl⟩
          · obtain ⟨h1, h2⟩ := Fx.pointed_lt hp
            have hz : Fx.cntDig d < (⟨d.toArray⟩ : ByteArray).size := by show _ < d.toArray.size; simpa using h1
            have hb : (((⟨d.toArray⟩ : ByteArray)[Fx.cntDig d].toNat : Int) == 46) = true := by
              rw [beq_iff_eq]
              have e : (⟨d.toArray⟩ : ByteArray)[Fx.cntDig d] = 46 := by
                have := List.getElem?_eq_getElem (l := d) h1
                rw [h2] at this
                injection this with e
                exact e.symm
              rw [e]; rfl
            clear h2
            go_wp2_with fail
            go_meet
            case rel => exact ⟨vbool hp.symm, rfl⟩
        case rest =>
          obtain ⟨rfl, rfl⟩ := hcut
          go_upto_if 49 with (fail)
          go_cut [5, 6, 7] (fun n a p wc => n = .int .i64 (Fx.refN d) ∧ a = .string ⟨(Fx.refA d).toArray⟩ ∧ p = .string ⟨(Fx.refP d).toArray⟩ ∧ w = wc)
          case first =>
            cases hp : Fx.pointed d
            · have HN := Lib.hid (show Fx.refN d = Fx.cntDig d from if_neg (by rw [hp]; simp))
              have HP := Lib.hid (show Fx.refP d = [] from if_neg (by rw [hp]; simp))
              go_wp2_with fail
              go_meet
              case rel => exact ⟨by rw [HN.out], congrArg Value.string (by rw [bytes_take, Fx.take_cnt]; rfl), by rw [HP.out], rfl⟩
            · obtain ⟨h1, h2⟩ := Fx.pointed_lt hp
              clear h2
              have HN := Lib.hid (show Fx.refN d = Fx.cntDig d + 1 + Fx.cntDig (d.drop (Fx.cntDig d + 1)) by
                rw [← Fx.refP_len hp]; exact if_pos hp)
              have HP := Lib.hid (show Fx.refP d = (d.drop (Fx.cntDig d + 1)).take (Fx.cntDig (d.drop (Fx.cntDig d + 1))) by
                rw [Fx.take_cnt]; exact if_pos hp)
              have hk : Fx.cntDig d + 1 + Fx.cntDig (d.drop (Fx.cntDig d + 1)) ≤ d.length := by rw [← HN.out]; exact Fx.refN_le d
              go_wp2_with fail
              refine (Rdigits_drop d _ _ (by omega)).mono ?_
              rintro e w' ⟨rfl, rfl⟩
              generalize Fx.cntDig (d.drop (Fx.cntDig d + 1)) = k at *
              go_wp2_with fail
              go_meet
              case rel => exact ⟨by rw [HN.out]; go_num, congrArg Value.string (by rw [bytes_take, Fx.take_cnt]; rfl), congrArg Value.string (by rw [HP.out, bytes_piece]; congr 4; omega), rfl⟩
          case rest =>
            obtain ⟨rfl, rfl, rfl, rfl⟩ := hcut
            have hN := Fx.refN_le d
            have hAl : (Fx.refA d).length ≤ 400 := by rw [Fx.refA_len]; omega
            have hPl : (Fx.refP d).length ≤ 400 := by have := Fx.refP_le d; omega
            rcases Fx.ref_test d with ⟨f1, f2, f3, f4, f5⟩ | ⟨f1, f2⟩
            · have t1 : decide (Fx.refN d < d.length) = false := by simp; omega
              have t2 : (((Fx.refA d).length : Int) + ((Fx.refP d).length : Int) == 0) = false := by rw [beq_eq_false_iff_ne]; omega
              have HP0 := Lib.hid (fun hs => Fx.ref_pos hl HD.out f1 f4 f5 hs)
              have HP1 := Lib.hid (fun hs => Fx.ref_neg hl HD.out f1 f4 f5 hs)
              have HBig := Lib.hid (fun (k : Nat) h => Fx.ref_big (k := k) hl HD.out f1 f4 f5 h)
              have HAd := Lib.hid (Fx.allDig_append.2 ⟨Fx.refA_dig d, Fx.allDig_pad (Fx.refP_dig d)⟩)
              have HV := Lib.hid (show Fx.refV (Fx.refA d) (Fx.refP d) = Fx.valFrom 0 (Fx.refA d ++ Fx.pad3 (Fx.refP d)) from rfl)
              have HB := Lib.hid (bytes_pad (Fx.refA d) (Fx.refP d))
              have hEl : (Fx.refA d ++ Fx.pad3 (Fx.refP d)).length ≤ 403 := by rw [List.length_append, Fx.pad3_len]; omega
              clear f1 f2 f3 f4 f5
              go_wp2_with fail
              rw [HB.out]
              obtain ⟨E, hE⟩ : ∃ E, Fx.refA d ++ Fx.pad3 (Fx.refP d) = E := ⟨_, rfl⟩
              rw [hE] at hEl HAd HV HBig
              rw [hE]
              clear hE HB
              go_loop [9, 10] (fun v i => ∃ k : Nat, k ≤ E.length ∧ i = .int .i64 k ∧ v = .int .i64 (Fx.valFrom 0 (E.take k)) ∧ 0 ≤ Fx.valFrom 0 (E.take k) ∧ Fx.valFrom 0 (E.take k) ≤ 1099511627776) (fun _ i => E.length - (intOf i).toNat)
              case atStart => exact ⟨0, Nat.zero_le _, rfl, rfl, (show (0 : Int) ≤ 0 by omega), (show (0 : Int) ≤ 1099511627776 by omega)⟩
              case round =>
                obtain ⟨k, hk, rfl, rfl, v0, v1⟩ := hrel
                by_cases hlt : k < E.length
                · have hz : k < (⟨E.toArray⟩ : ByteArray).size := by show _ < E.toArray.size; simpa using hlt
                  have ec : (⟨E.toArray⟩ : ByteArray)[k] = E[k] := rfl
                  have HE := Lib.hid (show Fx.valFrom 0 (E.take (k + 1)) = 10 * Fx.valFrom 0 (E.take k) + (((⟨E.toArray⟩ : ByteArray)[k].toNat : Int) - 48) by
                    rw [List.take_succ_eq_append_getElem hlt, Fx.valFrom_snoc]; rfl)
                  obtain ⟨c0, c1⟩ := Fx.isDig_iff.1 (Fx.allDig_mem HAd.out (List.getElem_mem hlt))
                  rw [← ec] at c0 c1
                  clear ec
                  have HBk := Lib.hid (fun h => HBig.out (k + 1) h)
                  generalize Fx.valFrom 0 (E.take k) = v at *
                  by_cases hg : 1099511627776 < v * 10 + (((⟨E.toArray⟩ : ByteArray)[k].toNat : Int) - 48)
                  · go_wp2_with fail
                    go_ret2
                    have hh := HBk.out (by rw [HE.out]; omega)
                    exact ⟨ret_ints hh.1.symm hh.2.symm, Kept.refl _⟩
                  · go_wp2_with fail
                    go_round
                    case rel => exact ⟨k + 1, by omega, by go_num, by rw [HE.out]; congr 1; omega, by rw [HE.out]; omega, by rw [HE.out]; omega⟩
                    case measure => simp [intOf]; omega
                · have HK := Lib.hid (show Fx.valFrom 0 (E.take k) = Fx.refV (Fx.refA d) (Fx.refP d) by
                    rw [HV.out, List.take_of_length_le (by omega)])
                  rw [HK.out] at v0 v1
                  rw [HK.out]
                  by_cases h3 : 3 < (Fx.refP d).length
                  · have hz : 3 < (⟨(Fx.refP d).toArray⟩ : ByteArray).size := by show _ < (Fx.refP d).toArray.size; simpa using h3
                    have HDa := Lib.hid (show Fx.dAt (Fx.refP d) 3 = ((⟨(Fx.refP d).toArray⟩ : ByteArray)[3].toNat : Int) from Fx.dAt_in h3)
                    by_cases h5 : 53 ≤ ((⟨(Fx.refP d).toArray⟩ : ByteArray)[3].toNat : Int)
                    · have HR := Lib.hid (Fx.refR_up (a := Fx.refA d) (p := Fx.refP d) (by rw [HDa.out]; exact h5))
                      cases hs : Fx.signOf l
                      · have HH := Lib.hid (HP0.out hs)
                        go_wp2_with (go_at_call 79; refine (Rtold_any _ _).mono ?_; rintro e w' ⟨rfl, rfl⟩)
                        go_ret2
                        exact ⟨ret_ints (by rw [HH.out.1, HR.out]) (by rw [HH.out.2, HR.out]), Kept.refl _⟩
                      · have HH := Lib.hid (HP1.out hs)
                        go_wp2_with (go_at_call 79; refine (Rtold_any _ _).mono ?_; rintro e w' ⟨rfl, rfl⟩)
                        go_ret2
                        exact ⟨ret_ints (by rw [HH.out.1, HR.out]) (by rw [HH.out.2, HR.out]), Kept.refl _⟩
                    · have HR := Lib.hid (Fx.refR_down (a := Fx.refA d) (p := Fx.refP d) (by rw [HDa.out]; exact h5))
                      cases hs : Fx.signOf l
                      · have HH := Lib.hid (HP0.out hs)
                        go_wp2_with (go_at_call 79; refine (Rtold_any _ _).mono ?_; rintro e w' ⟨rfl, rfl⟩)
                        go_ret2
                        exact ⟨ret_ints (by rw [HH.out.1, HR.out]) (by rw [HH.out.2, HR.out]), Kept.refl _⟩
                      · have HH := Lib.hid (HP1.out hs)
                        go_wp2_with (go_at_call 79; refine (Rtold_any _ _).mono ?_; rintro e w' ⟨rfl, rfl⟩)
                        go_ret2
                        exact ⟨ret_ints (by rw [HH.out.1, HR.out]) (by rw [HH.out.2, HR.out]), Kept.refl _⟩
                  · have HR := Lib.hid (Fx.refR_down (a := Fx.refA d) (p := Fx.refP d) (by rw [Fx.dAt_out h3]; omega))
                    cases hs : Fx.signOf l
                    · have HH := Lib.hid (HP0.out hs)
                      go_wp2_with (go_at_call 79; refine (Rtold_any _ _).mono ?_; rintro e w' ⟨rfl, rfl⟩)
                      go_ret2
                      exact ⟨ret_ints (by rw [HH.out.1, HR.out]) (by rw [HH.out.2, HR.out]), Kept.refl _⟩
                    · have HH := Lib.hid (HP1.out hs)
                      go_wp2_with (go_at_call 79; refine (Rtold_any _ _).mono ?_; rintro e w' ⟨rfl, rfl⟩)
                      go_ret2
                      exact ⟨ret_ints (by rw [HH.out.1, HR.out]) (by rw [HH.out.2, HR.out]), Kept.refl _⟩
            · have HF := Lib.hid (Fx.parse_form (l := l) (by omega) (by rw [HD.out]; exact f1))
              by_cases t0 : Fx.refN d < d.length
              · have t1 : decide (Fx.refN d < d.length) = true := by simpa using t0
                clear f1 f2
                go_wp2_with fail
                go_ret2
                exact ⟨ret_ints HF.out.1.symm HF.out.2.symm, Kept.refl _⟩
              · have t1 : decide (Fx.refN d < d.length) = false := by simpa using t0
                have t2 : (((Fx.refA d).length : Int) + ((Fx.refP d).length : Int) == 0) = true := by rw [beq_iff_eq]; omega
                clear f1 f2
                go_wp2_with fail
                go_ret2
                exact ⟨ret_ints HF.out.1.symm HF.out.2.symm, Kept.refl _⟩

set_option maxRecDepth 100000 in
set_option maxHeartbeats 400000 in
theorem RParse_long (l : List UInt8) (w : World) (hl : 400 < l.length) (hl' : l.length ≤ 9223372036854775807) :
    Calls Try.prog 61 #[.string ⟨l.toArray⟩] w fun e w' => e = .returned (.tuple #[.int .i64 (Fx.parseV l), .int .i64 (Fx.parseE l)]) ∧ Kept w w' := by
  have HP := Lib.hid (Fx.parse_long hl)
  go_enter Try.func61, Try.ntmps61
  go_wp2_with fail
  go_ret2
  exact ⟨ret_ints HP.out.1.symm HP.out.2.symm, Kept.refl _⟩

theorem RParse_any (l : List UInt8) (w : World) (hl : l.length ≤ 9223372036854775807) :
    Calls Try.prog 61 #[.string ⟨l.toArray⟩] w fun e w' => e = .returned (.tuple #[.int .i64 (Fx.parseV l), .int .i64 (Fx.parseE l)]) ∧ Kept w w' := by
  by_cases h : 400 < l.length
  · exact RParse_long l w h hl
  · exact RParse_short l w (by omega)

end Go.Proofs.Ytoakbcjdkohoiaa
