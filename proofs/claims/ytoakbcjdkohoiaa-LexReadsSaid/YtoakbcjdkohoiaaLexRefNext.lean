/-
  What the document's Next of layer 3 is.
-/
import Derived.Test.YtoakbcjdkohoiaaLexRefWordNum
import Derived.Test.YtoakbcjdkohoiaaLexRefPair
import Derived.Test.YtoakbcjdkohoiaaLexRefDigits
import Derived.Test.YtoakbcjdkohoiaaLexRefSpace
import Derived.Test.YtoakbcjdkohoiaaLexRefName
import Derived.Test.YtoakbcjdkohoiaaLexToken
namespace Go.Proofs.Ytoakbcjdkohoiaa
open Go.RowKit

theorem rdelim_of {c : UInt8} (h0 : Lx.white c = false) (h1 : c ≠ 91) (h2 : c ≠ 93) (h3 : c ≠ 60) (h4 : c ≠ 62) (h5 : c ≠ 47) (h6 : c ≠ 40) (h7 : c ≠ 41) (h8 : c ≠ 123) (h9 : c ≠ 125) (h10 : c ≠ 37) : Lx.delim c = false := by
  have := reg_of h0 h1 h2 h3 h4 h5 h6 h7 h8 h9 h10
  unfold Lx.reg at this
  cases h : Lx.delim c
  · rfl
  · rw [h] at this; simp at this

/-- The token of regular bytes, with where it begins. -/
theorem Rword_any (s : ByteArray) (k : Nat) (w : World) (hk : k < s.size) (hs : s.size ≤ 4294967295) (U : Int × Lx.Tok) (hU : U = Lx.wordV s.data.toList k) (T : Int × Lx.Tok) (hT : T = if U.1 = 0 then (0, { U.2 with frm := k }) else (U.1, Lx.zero)) :
    Calls Try.prog 35 #[.string s, .int .i64 k] w fun e w' =>
      e = .returned (.tuple #[.agg #[.int .i64 T.2.kind, .int .i64 T.2.f, .string ⟨T.2.s.toArray⟩, .bool T.2.whole, .int .i64 T.2.frm, .int .i64 T.2.to], .int .i64 T.1]) ∧ Kept w w' := by
  have hd := drop_cons s k hk
  cases hb : Lx.numB s[k]
  · refine (Rword_plain s k w hk hs hb _ rfl _ rfl).mono ?_
    rintro e w' ⟨rfl, hkp⟩
    refine ⟨?_, hkp⟩
    have h1 : U = (0, ⟨8, 0, (s.data.toList.drop k).take (Lx.tw Lx.reg (s.data.toList.drop k)), false, 0, k + Lx.tw Lx.reg (s.data.toList.drop k)⟩) := by
      rw [hU, Lx.wordV, show (s.data.toList.drop k).headD 0 = s[k] by rw [hd]; rfl, hb]; rfl
    rw [hT, h1]; rfl
  · refine (Rword_num s k w hk hs hb _ rfl _ rfl _ _ rfl rfl _ rfl).mono ?_
    rintro e w' ⟨rfl, hkp⟩
    refine ⟨?_, hkp⟩
    have h1 : U = if Fx.parseE ((s.data.toList.drop k).take (Lx.tw Lx.reg (s.data.toList.drop k))) = 0 then
      (0, ⟨1, Fx.parseV ((s.data.toList.drop k).take (Lx.tw Lx.reg (s.data.toList.drop k))), [], !Lx.pointIn ((s.data.toList.drop k).take (Lx.tw Lx.reg (s.data.toList.drop k))), 0, k + Lx.tw Lx.reg (s.data.toList.drop k)⟩)
      else (Fx.parseE ((s.data.toList.drop k).take (Lx.tw Lx.reg (s.data.toList.drop k))), Lx.zero) := by
      rw [hU, Lx.wordV, show (s.data.toList.drop k).headD 0 = s[k] by rw [hd]; rfl, hb]; rfl
    by_cases h0 : Fx.parseE ((s.data.toList.drop k).take (Lx.tw Lx.reg (s.data.toList.drop k))) = 0
    · rw [if_pos h0] at h1 ⊢
      rw [hT, h1, h0]; rfl
    · rw [if_neg h0] at h1 ⊢
      rw [hT, h1]; simp only [if_neg h0]; rfl

set_option maxRecDepth 100000 in
set_option maxHeartbeats 4000000 in
theorem RNext_any (s : ByteArray) (a : Int) (w : World) (hs : s.size ≤ 4294967290) (T : Int × Lx.Tok) (hT : T = Lx.nextV s.data.toList a) :
    Calls Try.prog 10 #[.string s, .int .i64 a] w fun e w' =>
      e = .returned (.tuple #[.agg #[.int .i64 T.2.kind, .int .i64 T.2.f, .string ⟨T.2.s.toArray⟩, .bool T.2.whole, .int .i64 T.2.frm, .int .i64 T.2.to], .int .i64 T.1]) ∧ Kept w w' := by
  have HT := Lib.hid hT
  clear hT
  have hlen : s.data.toList.length = s.size := by simp
  by_cases hin : 0 ≤ a ∧ a ≤ (s.size : Int)
  · obtain ⟨a0, a1⟩ := hin
    obtain ⟨K, hK⟩ : ∃ K, K = Lx.spaceV s.data.toList a := ⟨_, rfl⟩
    obtain ⟨hkl, hst⟩ := space_fits s.data.toList a
    rw [← hK, hlen] at hkl
    rw [← hK] at hst
    obtain ⟨U, hU⟩ : ∃ U, U = Lx.tokV s.data.toList K := ⟨_, rfl⟩
    have HV := Lib.hid (show T = if U.1 = 0 then (0, { U.2 with frm := K }) else (U.1, Lx.zero) by
      rw [HT.out, Lx.nextV, hlen, if_pos ⟨a0, a1⟩, ← hK, ← hU])
    have HK := Lib.hid hK
    have HU := Lib.hid hU
    have HS := Lib.hid (fun h : K < s.size => spc_stops s K h hst)
    clear hK hU hst hlen
    have KA := Lib.hid (((Kept.refl w).alloc #[.int .i64 0, .int .i64 0, .string ⟨#[]⟩, .bool false, .int .i64 0, .int .i64 0] 29).alloc #[.int .i64 0, .int .i64 0, .string ⟨#[]⟩, .bool false, .int .i64 K, .int .i64 0] 29)
    by_cases hlt : K < s.size
    · have HD := Lib.hid (drop_cons s K hlt)
      obtain ⟨hw, h37⟩ := HS.out hlt
      have HW := Lib.hid hw
      clear hw
      have hne : ((K : Int) == (s.size : Int)) = false := by rw [beq_eq_false_iff_ne]; omega
      obtain ⟨tw, htw⟩ : ∃ tw, tw = ((s.data.toList.drop (K + 1)).head? == some s[K]) := ⟨_, rfl⟩
      have cP : ∀ w, Calls Try.prog 31 #[.string s, .int .i64 K] w fun e w' => e = .returned (.bool tw) ∧ ∃ n, w' = w.drewN n := fun w => Rpair_any s K w hlt (by omega) tw htw
      have HTW := Lib.hid htw
      have CP := Lib.hid cP
      clear htw cP
      go_enter Try.func10, Try.ntmps10
      go_wp2_with fail
      (with_reducible refine (RSpace_any s a _ (by omega)).mono ?_)
      rintro e w1 ⟨rfl, rfl⟩
      rw [← HK.out]
      by_cases h91 : s[K] = 91
      · have e91 := byte_is h91 91 rfl
        have HU' := Lib.hid (show U = (0, ⟨4, 0, [], false, 0, K + 1⟩) by rw [HU.out, Lx.tokV, HD.out, h91]; rfl)
        have HX := Lib.hid (show T = (0, ⟨4, 0, [], false, K, K + 1⟩) by rw [HV.out, HU'.out]; rfl)
        clear h37 h91
        go_wp2_with fail
        refine bodyPost_ret (v := .tuple #[.agg #[.int .i64 4, .int .i64 0, .string ⟨#[]⟩, .bool false, .int .i64 K, .int .i64 (K + 1 : Nat)], .int .i64 0]) ?_ rfl ⟨by rw [HX.out]; first | done | rfl, ?_⟩
        · simp [results, Try.results10, go_sem]
        · repeat (with_reducible first | exact (Kept.refl w) | refine Kept.drew ?_ | refine Kept.drewN ?_ _ | refine Kept.alloc ?_ _ _ | refine Kept.set ?_ (Nat.le_refl _) _ | refine Kept.set ?_ (Nat.le_succ _) _)
      have e91 := byte_not h91 91 rfl
      by_cases h93 : s[K] = 93
      · have e93 := byte_is h93 93 rfl
        have HU' := Lib.hid (show U = (0, ⟨5, 0, [], false, 0, K + 1⟩) by rw [HU.out, Lx.tokV, HD.out, h93]; rfl)
        have HX := Lib.hid (show T = (0, ⟨5, 0, [], false, K, K + 1⟩) by rw [HV.out, HU'.out]; rfl)
        clear h37 h91 h93
        go_wp2_with fail
        refine bodyPost_ret (v := .tuple #[.agg #[.int .i64 5, .int .i64 0, .string ⟨#[]⟩, .bool false, .int .i64 K, .int .i64 (K + 1 : Nat)], .int .i64 0]) ?_ rfl ⟨by rw [HX.out]; first | done | rfl, ?_⟩
        · simp [results, Try.results10, go_sem]
        · repeat (with_reducible first | exact (Kept.refl w) | refine Kept.drew ?_ | refine Kept.drewN ?_ _ | refine Kept.alloc ?_ _ _ | refine Kept.set ?_ (Nat.le_refl _) _ | refine Kept.set ?_ (Nat.le_succ _) _)
      have e93 := byte_not h93 93 rfl
      by_cases h60 : s[K] = 60
      · have e60 := byte_is h60 60 rfl
        have HH := Lib.hid (show U = if tw then (0, ⟨6, 0, [], false, 0, K + 2⟩) else Lx.ofR3 3 (Lx.hexGo [] none (s.data.toList.drop (K + 1)) (K + 1)) by rw [HU.out, Lx.tokV, HD.out, HTW.out, h60]; rfl)
        clear h37 h91 h93 h60
        cases tw
        · have HX0 := Lib.hid (show U = Lx.ofR3 3 (Lx.hexGo [] none (s.data.toList.drop (K + 1)) (K + 1)) from HH.out)
          go_wp2_with fail
          (with_reducible refine (CP.out _).mono ?_)
          rintro e w2 ⟨rfl, n2, rfl⟩
          go_wp2_with fail
          obtain ⟨R, hR⟩ : ∃ R, R = Lx.hexGo [] none (s.data.toList.drop (K + 1)) (K + 1) := ⟨_, rfl⟩
          have HU' := Lib.hid (show U = Lx.ofR3 3 R by rw [HX0.out, hR])
          have HR := Lib.hid hR
          clear hR
          have CR := Lib.hid (show ∀ w, Calls Try.prog 34 #[.string s, .int .i64 ((K : Int) + 1)] w fun e w' => e = .returned (.tuple #[.string ⟨R.2.1.toArray⟩, .int .i64 R.2.2, .int .i64 R.1]) ∧ Kept w w' from fun w => RhexText_any s (K + 1) w (by omega) (by omega) R HR.out)
          (with_reducible refine (CR.out _).mono ?_)
          rintro e w3 ⟨rfl, hk3⟩
          have HB3 := Lib.hid (((((Blk.fresh w #[.int .i64 0, .int .i64 0, .string ⟨#[]⟩, .bool false, .int .i64 0, .int .i64 0] 29).alloc (.cells #[.int .i64 0, .int .i64 0, .string ⟨#[]⟩, .bool false, .int .i64 K, .int .i64 ((K : Int) + 1)] 29)).drewN n2).other (by omega) (.int .i64 3)).kept hk3)
          have HT3 := Lib.hid ((((Blk.fresh' (w := w.alloc (.cells #[.int .i64 0, .int .i64 0, .string ⟨#[]⟩, .bool false, .int .i64 0, .int .i64 0] 29)) (b := w.heap.size + 1) #[.int .i64 0, .int .i64 0, .string ⟨#[]⟩, .bool false, .int .i64 K, .int .i64 ((K : Int) + 1)] 29 (by simp)).drewN n2).set 0 (.int .i64 3)).kept hk3)
          have HK3 := Lib.hid ((((((Kept.refl w).alloc #[.int .i64 0, .int .i64 0, .string ⟨#[]⟩, .bool false, .int .i64 0, .int .i64 0] 29).alloc #[.int .i64 0, .int .i64 0, .string ⟨#[]⟩, .bool false, .int .i64 K, .int .i64 ((K : Int) + 1)] 29).drewN n2).set (Nat.le_succ _) (.int .i64 3)).trans hk3)
          clear hk3
          obtain ⟨t0, t1, t2, t3, t4, t5⟩ := HT3.out.cells6
          have tf := HT3.out.free
          obtain ⟨r0, r1, r2, r3, r4, r5⟩ := HB3.out.cells6
          have rf := HB3.out.free
          have hsz := HT3.out.lt
          have hsz0 := HB3.out.lt
          by_cases he : R.1 = 0
          · have HX := Lib.hid (show T = (0, ⟨3, 0, R.2.1, false, K, R.2.2⟩) by rw [HV.out, HU'.out, Lx.ofR3, if_pos he]; rfl)
            rw [he]
            go_wp2_with fail
            refine bodyPost_ret (v := .tuple #[.agg #[.int .i64 3, .int .i64 0, .string ⟨R.2.1.toArray⟩, .bool false, .int .i64 K, .int .i64 R.2.2], .int .i64 0]) ?_ rfl ⟨by rw [HX.out]; first | done | rfl, ?_⟩
            · simp [results, Try.results10, go_sem, r0, r1, r2, r3, r4, r5]
            · repeat (with_reducible first | exact HK3.out | refine Kept.drew ?_ | refine Kept.set ?_ (Nat.le_refl _) _ | refine Kept.set ?_ (Nat.le_succ _) _)
          · have HX := Lib.hid (show T = (R.1, Lx.zero) by rw [HV.out, HU'.out, Lx.ofR3, if_neg he, if_neg he])
            have hne1 : (R.1 != 0) = true := by simpa using he
            clear he
            go_wp2_with fail
            refine bodyPost_ret (v := .tuple #[.agg #[.int .i64 0, .int .i64 0, .string ⟨#[]⟩, .bool false, .int .i64 0, .int .i64 0], .int .i64 R.1]) ?_ rfl ⟨by rw [HX.out]; first | done | rfl, ?_⟩
            · simp [results, Try.results10, go_sem, r0, r1, r2, r3, r4, r5]
            · repeat (with_reducible first | exact HK3.out | refine Kept.drew ?_ | refine Kept.set ?_ (Nat.le_refl _) _ | refine Kept.set ?_ (Nat.le_succ _) _)
        · have HX := Lib.hid (show T = (0, ⟨6, 0, [], false, K, K + 2⟩) by rw [HV.out, HH.out]; rfl)
          go_wp2_with fail
          (with_reducible refine (CP.out _).mono ?_)
          rintro e w2 ⟨rfl, n2, rfl⟩
          go_wp2_with fail
          refine bodyPost_ret (v := .tuple #[.agg #[.int .i64 6, .int .i64 0, .string ⟨#[]⟩, .bool false, .int .i64 K, .int .i64 (K + 2 : Nat)], .int .i64 0]) ?_ rfl ⟨by rw [HX.out]; first | done | rfl, ?_⟩
          · simp [results, Try.results10, go_sem]
          · repeat (with_reducible first | exact (Kept.refl w) | refine Kept.drew ?_ | refine Kept.drewN ?_ _ | refine Kept.alloc ?_ _ _ | refine Kept.set ?_ (Nat.le_refl _) _ | refine Kept.set ?_ (Nat.le_succ _) _)
      have e60 := byte_not h60 60 rfl
      by_cases h62 : s[K] = 62
      · have e62 := byte_is h62 62 rfl
        have HH := Lib.hid (show U = if tw then (0, ⟨7, 0, [], false, 0, K + 2⟩) else (3, Lx.zero) by rw [HU.out, Lx.tokV, HD.out, HTW.out, h62]; rfl)
        have HDL := Lib.hid (show Lx.delim s[K] = true by rw [h62]; rfl)
        clear h37 h91 h93 h60 h62
        cases tw
        · have HX := Lib.hid (show T = (3, Lx.zero) by rw [HV.out, HH.out]; rfl)
          go_wp2_with fail
          (with_reducible refine (CP.out _).mono ?_)
          rintro e w2 ⟨rfl, n2, rfl⟩
          go_wp2_with fail
          (with_reducible refine (RDelim_any _ _).mono ?_)
          rintro e w3 ⟨rfl, rfl⟩
          rw [HDL.out]
          go_wp2_with fail
          refine bodyPost_ret (v := .tuple #[.agg #[.int .i64 0, .int .i64 0, .string ⟨#[]⟩, .bool false, .int .i64 0, .int .i64 0], .int .i64 3]) ?_ rfl ⟨by rw [HX.out]; first | done | rfl, ?_⟩
          · simp [results, Try.results10, go_sem]
          · repeat (with_reducible first | exact (Kept.refl w) | refine Kept.drew ?_ | refine Kept.drewN ?_ _ | refine Kept.alloc ?_ _ _ | refine Kept.set ?_ (Nat.le_refl _) _ | refine Kept.set ?_ (Nat.le_succ _) _)
        · have HX := Lib.hid (show T = (0, ⟨7, 0, [], false, K, K + 2⟩) by rw [HV.out, HH.out]; rfl)
          go_wp2_with fail
          (with_reducible refine (CP.out _).mono ?_)
          rintro e w2 ⟨rfl, n2, rfl⟩
          go_wp2_with fail
          refine bodyPost_ret (v := .tuple #[.agg #[.int .i64 7, .int .i64 0, .string ⟨#[]⟩, .bool false, .int .i64 K, .int .i64 (K + 2 : Nat)], .int .i64 0]) ?_ rfl ⟨by rw [HX.out]; first | done | rfl, ?_⟩
          · simp [results, Try.results10, go_sem]
          · repeat (with_reducible first | exact (Kept.refl w) | refine Kept.drew ?_ | refine Kept.drewN ?_ _ | refine Kept.alloc ?_ _ _ | refine Kept.set ?_ (Nat.le_refl _) _ | refine Kept.set ?_ (Nat.le_succ _) _)
      have e62 := byte_not h62 62 rfl
      by_cases h47 : s[K] = 47
      · have e47 := byte_is h47 47 rfl
        have HX0 := Lib.hid (show U = Lx.ofR3 2 (Lx.nameGo [] 0 (s.data.toList.drop (K + 1)) (K + 1)) by rw [HU.out, Lx.tokV, HD.out, h47]; rfl)
        clear h37 h91 h93 h60 h62 h47
        go_wp2_with fail
        obtain ⟨R, hR⟩ : ∃ R, R = Lx.nameGo [] 0 (s.data.toList.drop (K + 1)) (K + 1) := ⟨_, rfl⟩
        have HU' := Lib.hid (show U = Lx.ofR3 2 R by rw [HX0.out, hR])
        have HR := Lib.hid hR
        clear hR
        have CR := Lib.hid (show ∀ w, Calls Try.prog 32 #[.string s, .int .i64 ((K : Int) + 1)] w fun e w' => e = .returned (.tuple #[.string ⟨R.2.1.toArray⟩, .int .i64 R.2.2, .int .i64 R.1]) ∧ Kept w w' from fun w => Rname_any s (K + 1) w (by omega) (by omega) R HR.out)
        (with_reducible refine (CR.out _).mono ?_)
        rintro e w3 ⟨rfl, hk3⟩
        have HB3 := Lib.hid (((Blk.fresh w #[.int .i64 0, .int .i64 0, .string ⟨#[]⟩, .bool false, .int .i64 0, .int .i64 0] 29).alloc (.cells #[.int .i64 2, .int .i64 0, .string ⟨#[]⟩, .bool false, .int .i64 K, .int .i64 ((K : Int) + 1)] 29)).kept hk3)
        have HT3 := Lib.hid ((Blk.fresh' (w := w.alloc (.cells #[.int .i64 0, .int .i64 0, .string ⟨#[]⟩, .bool false, .int .i64 0, .int .i64 0] 29)) (b := w.heap.size + 1) #[.int .i64 2, .int .i64 0, .string ⟨#[]⟩, .bool false, .int .i64 K, .int .i64 ((K : Int) + 1)] 29 (by simp)).kept hk3)
        have HK3 := Lib.hid ((((Kept.refl w).alloc #[.int .i64 0, .int .i64 0, .string ⟨#[]⟩, .bool false, .int .i64 0, .int .i64 0] 29).alloc #[.int .i64 2, .int .i64 0, .string ⟨#[]⟩, .bool false, .int .i64 K, .int .i64 ((K : Int) + 1)] 29).trans hk3)
        clear hk3
        obtain ⟨t0, t1, t2, t3, t4, t5⟩ := HT3.out.cells6
        have tf := HT3.out.free
        obtain ⟨r0, r1, r2, r3, r4, r5⟩ := HB3.out.cells6
        have rf := HB3.out.free
        have hsz := HT3.out.lt
        have hsz0 := HB3.out.lt
        by_cases he : R.1 = 0
        · have HX := Lib.hid (show T = (0, ⟨2, 0, R.2.1, false, K, R.2.2⟩) by rw [HV.out, HU'.out, Lx.ofR3, if_pos he]; rfl)
          rw [he]
          go_wp2_with fail
          refine bodyPost_ret (v := .tuple #[.agg #[.int .i64 2, .int .i64 0, .string ⟨R.2.1.toArray⟩, .bool false, .int .i64 K, .int .i64 R.2.2], .int .i64 0]) ?_ rfl ⟨by rw [HX.out]; first | done | rfl, ?_⟩
          · simp [results, Try.results10, go_sem, r0, r1, r2, r3, r4, r5]
          · repeat (with_reducible first | exact HK3.out | refine Kept.drew ?_ | refine Kept.set ?_ (Nat.le_refl _) _ | refine Kept.set ?_ (Nat.le_succ _) _)
        · have HX := Lib.hid (show T = (R.1, Lx.zero) by rw [HV.out, HU'.out, Lx.ofR3, if_neg he, if_neg he])
          have hne1 : (R.1 != 0) = true := by simpa using he
          clear he
          go_wp2_with fail
          refine bodyPost_ret (v := .tuple #[.agg #[.int .i64 0, .int .i64 0, .string ⟨#[]⟩, .bool false, .int .i64 0, .int .i64 0], .int .i64 R.1]) ?_ rfl ⟨by rw [HX.out]; first | done | rfl, ?_⟩
          · simp [results, Try.results10, go_sem, r0, r1, r2, r3, r4, r5]
          · repeat (with_reducible first | exact HK3.out | refine Kept.drew ?_ | refine Kept.set ?_ (Nat.le_refl _) _ | refine Kept.set ?_ (Nat.le_succ _) _)
      have e47 := byte_not h47 47 rfl
      by_cases h40 : s[K] = 40
      · have e40 := byte_is h40 40 rfl
        have HX0 := Lib.hid (show U = Lx.ofR3 3 (Lx.textGo [] 0 0 (s.data.toList.drop (K + 1)) (K + 1)) by rw [HU.out, Lx.tokV, HD.out, h40]; rfl)
        clear h37 h91 h93 h60 h62 h47 h40
        go_wp2_with fail
        obtain ⟨R, hR⟩ : ∃ R, R = Lx.textGo [] 0 0 (s.data.toList.drop (K + 1)) (K + 1) := ⟨_, rfl⟩
        have HU' := Lib.hid (show U = Lx.ofR3 3 R by rw [HX0.out, hR])
        have HR := Lib.hid hR
        clear hR
        have CR := Lib.hid (show ∀ w, Calls Try.prog 33 #[.string s, .int .i64 ((K : Int) + 1)] w fun e w' => e = .returned (.tuple #[.string ⟨R.2.1.toArray⟩, .int .i64 R.2.2, .int .i64 R.1]) ∧ Kept w w' from fun w => Rtext_any s (K + 1) w (by omega) (by omega) R HR.out)
        (with_reducible refine (CR.out _).mono ?_)
        rintro e w3 ⟨rfl, hk3⟩
        have HB3 := Lib.hid (((Blk.fresh w #[.int .i64 0, .int .i64 0, .string ⟨#[]⟩, .bool false, .int .i64 0, .int .i64 0] 29).alloc (.cells #[.int .i64 3, .int .i64 0, .string ⟨#[]⟩, .bool false, .int .i64 K, .int .i64 ((K : Int) + 1)] 29)).kept hk3)
        have HT3 := Lib.hid ((Blk.fresh' (w := w.alloc (.cells #[.int .i64 0, .int .i64 0, .string ⟨#[]⟩, .bool false, .int .i64 0, .int .i64 0] 29)) (b := w.heap.size + 1) #[.int .i64 3, .int .i64 0, .string ⟨#[]⟩, .bool false, .int .i64 K, .int .i64 ((K : Int) + 1)] 29 (by simp)).kept hk3)
        have HK3 := Lib.hid ((((Kept.refl w).alloc #[.int .i64 0, .int .i64 0, .string ⟨#[]⟩, .bool false, .int .i64 0, .int .i64 0] 29).alloc #[.int .i64 3, .int .i64 0, .string ⟨#[]⟩, .bool false, .int .i64 K, .int .i64 ((K : Int) + 1)] 29).trans hk3)
        clear hk3
        obtain ⟨t0, t1, t2, t3, t4, t5⟩ := HT3.out.cells6
        have tf := HT3.out.free
        obtain ⟨r0, r1, r2, r3, r4, r5⟩ := HB3.out.cells6
        have rf := HB3.out.free
        have hsz := HT3.out.lt
        have hsz0 := HB3.out.lt
        by_cases he : R.1 = 0
        · have HX := Lib.hid (show T = (0, ⟨3, 0, R.2.1, false, K, R.2.2⟩) by rw [HV.out, HU'.out, Lx.ofR3, if_pos he]; rfl)
          rw [he]
          go_wp2_with fail
          refine bodyPost_ret (v := .tuple #[.agg #[.int .i64 3, .int .i64 0, .string ⟨R.2.1.toArray⟩, .bool false, .int .i64 K, .int .i64 R.2.2], .int .i64 0]) ?_ rfl ⟨by rw [HX.out]; first | done | rfl, ?_⟩
          · simp [results, Try.results10, go_sem, r0, r1, r2, r3, r4, r5]
          · repeat (with_reducible first | exact HK3.out | refine Kept.drew ?_ | refine Kept.set ?_ (Nat.le_refl _) _ | refine Kept.set ?_ (Nat.le_succ _) _)
        · have HX := Lib.hid (show T = (R.1, Lx.zero) by rw [HV.out, HU'.out, Lx.ofR3, if_neg he, if_neg he])
          have hne1 : (R.1 != 0) = true := by simpa using he
          clear he
          go_wp2_with fail
          refine bodyPost_ret (v := .tuple #[.agg #[.int .i64 0, .int .i64 0, .string ⟨#[]⟩, .bool false, .int .i64 0, .int .i64 0], .int .i64 R.1]) ?_ rfl ⟨by rw [HX.out]; first | done | rfl, ?_⟩
          · simp [results, Try.results10, go_sem, r0, r1, r2, r3, r4, r5]
          · repeat (with_reducible first | exact HK3.out | refine Kept.drew ?_ | refine Kept.set ?_ (Nat.le_refl _) _ | refine Kept.set ?_ (Nat.le_succ _) _)
      have e40 := byte_not h40 40 rfl
      by_cases h41 : s[K] = 41
      · have e41 := byte_is h41 41 rfl
        have HU' := Lib.hid (show U = (3, Lx.zero) by rw [HU.out, Lx.tokV, HD.out, h41]; rfl)
        have HX := Lib.hid (show T = (3, Lx.zero) by rw [HV.out, HU'.out]; rfl)
        have HDL := Lib.hid (show Lx.delim s[K] = true by rw [h41]; rfl)
        clear h37 h91 h93 h60 h62 h47 h40 h41
        go_wp2_with fail
        (with_reducible refine (RDelim_any _ _).mono ?_)
        rintro e w3 ⟨rfl, rfl⟩
        rw [HDL.out]
        go_wp2_with fail
        refine bodyPost_ret (v := .tuple #[.agg #[.int .i64 0, .int .i64 0, .string ⟨#[]⟩, .bool false, .int .i64 0, .int .i64 0], .int .i64 3]) ?_ rfl ⟨by rw [HX.out]; first | done | rfl, ?_⟩
        · simp [results, Try.results10, go_sem]
        · repeat (with_reducible first | exact (Kept.refl w) | refine Kept.drew ?_ | refine Kept.drewN ?_ _ | refine Kept.alloc ?_ _ _ | refine Kept.set ?_ (Nat.le_refl _) _ | refine Kept.set ?_ (Nat.le_succ _) _)
      have e41 := byte_not h41 41 rfl
      by_cases h123 : s[K] = 123
      · have e123 := byte_is h123 123 rfl
        have HU' := Lib.hid (show U = (3, Lx.zero) by rw [HU.out, Lx.tokV, HD.out, h123]; rfl)
        have HX := Lib.hid (show T = (3, Lx.zero) by rw [HV.out, HU'.out]; rfl)
        have HDL := Lib.hid (show Lx.delim s[K] = true by rw [h123]; rfl)
        clear h37 h91 h93 h60 h62 h47 h40 h41 h123
        go_wp2_with fail
        (with_reducible refine (RDelim_any _ _).mono ?_)
        rintro e w3 ⟨rfl, rfl⟩
        rw [HDL.out]
        go_wp2_with fail
        refine bodyPost_ret (v := .tuple #[.agg #[.int .i64 0, .int .i64 0, .string ⟨#[]⟩, .bool false, .int .i64 0, .int .i64 0], .int .i64 3]) ?_ rfl ⟨by rw [HX.out]; first | done | rfl, ?_⟩
        · simp [results, Try.results10, go_sem]
        · repeat (with_reducible first | exact (Kept.refl w) | refine Kept.drew ?_ | refine Kept.drewN ?_ _ | refine Kept.alloc ?_ _ _ | refine Kept.set ?_ (Nat.le_refl _) _ | refine Kept.set ?_ (Nat.le_succ _) _)
      have e123 := byte_not h123 123 rfl
      by_cases h125 : s[K] = 125
      · have e125 := byte_is h125 125 rfl
        have HU' := Lib.hid (show U = (3, Lx.zero) by rw [HU.out, Lx.tokV, HD.out, h125]; rfl)
        have HX := Lib.hid (show T = (3, Lx.zero) by rw [HV.out, HU'.out]; rfl)
        have HDL := Lib.hid (show Lx.delim s[K] = true by rw [h125]; rfl)
        clear h37 h91 h93 h60 h62 h47 h40 h41 h123 h125
        go_wp2_with fail
        (with_reducible refine (RDelim_any _ _).mono ?_)
        rintro e w3 ⟨rfl, rfl⟩
        rw [HDL.out]
        go_wp2_with fail
        refine bodyPost_ret (v := .tuple #[.agg #[.int .i64 0, .int .i64 0, .string ⟨#[]⟩, .bool false, .int .i64 0, .int .i64 0], .int .i64 3]) ?_ rfl ⟨by rw [HX.out]; first | done | rfl, ?_⟩
        · simp [results, Try.results10, go_sem]
        · repeat (with_reducible first | exact (Kept.refl w) | refine Kept.drew ?_ | refine Kept.drewN ?_ _ | refine Kept.alloc ?_ _ _ | refine Kept.set ?_ (Nat.le_refl _) _ | refine Kept.set ?_ (Nat.le_succ _) _)
      have e125 := byte_not h125 125 rfl
      have HDL := Lib.hid (rdelim_of HW.out h91 h93 h60 h62 h47 h40 h41 h123 h125 h37)
      have HU' := Lib.hid (show U = Lx.wordV s.data.toList K by
        rw [HU.out, Lx.tokV, HD.out]; simp only [beq_iff_eq, h91, h93, h60, h62, h47, h40, h41, h123, h125, Bool.or_eq_true, or_self, if_false])
      clear h37 h91 h93 h60 h62 h47 h40 h41 h123 h125
      go_wp2_with fail
      (with_reducible refine (RDelim_any _ _).mono ?_)
      rintro e w3 ⟨rfl, rfl⟩
      rw [HDL.out]
      go_wp2_with fail
      (with_reducible refine (Rword_any s K _ hlt (by omega) U HU'.out T HV.out).mono ?_)
      rintro e w3 ⟨rfl, hk3⟩
      have HB3 := Lib.hid ((((Blk.fresh w #[.int .i64 0, .int .i64 0, .string ⟨#[]⟩, .bool false, .int .i64 0, .int .i64 0] 29).alloc (.cells #[.int .i64 0, .int .i64 0, .string ⟨#[]⟩, .bool false, .int .i64 K, .int .i64 ((K : Int) + 1)] 29))).kept hk3)
      have HK3 := Lib.hid (((((Kept.refl w).alloc #[.int .i64 0, .int .i64 0, .string ⟨#[]⟩, .bool false, .int .i64 0, .int .i64 0] 29).alloc #[.int .i64 0, .int .i64 0, .string ⟨#[]⟩, .bool false, .int .i64 K, .int .i64 ((K : Int) + 1)] 29)).trans hk3)
      clear hk3
      obtain ⟨r0, r1, r2, r3, r4, r5⟩ := HB3.out.cells6
      have rf := HB3.out.free
      have hsz0 := HB3.out.lt
      go_wp2_with fail
      refine bodyPost_ret (v := .tuple #[.agg #[.int .i64 T.2.kind, .int .i64 T.2.f, .string ⟨T.2.s.toArray⟩, .bool T.2.whole, .int .i64 T.2.frm, .int .i64 T.2.to], .int .i64 T.1]) ?_ rfl ⟨rfl, ?_⟩
      · simp [results, Try.results10, go_sem, r0, r1, r2, r3, r4, r5]
      · repeat (with_reducible first | exact HK3.out | refine Kept.drew ?_ | refine Kept.set ?_ (Nat.le_refl _) _ | refine Kept.set ?_ (Nat.le_succ _) _)
    · obtain rfl : K = s.size := by omega
      have HU' := Lib.hid (show U = (0, ⟨0, 0, [], false, 0, s.size⟩) by rw [HU.out, Lx.tokV, drop_end s s.size (Nat.le_refl _)])
      have HX := Lib.hid (show T = (0, ⟨0, 0, [], false, s.size, s.size⟩) by rw [HV.out, HU'.out]; rfl)
      go_enter Try.func10, Try.ntmps10
      go_wp2_with fail
      (with_reducible refine (RSpace_any s a _ (by omega)).mono ?_)
      rintro e w1 ⟨rfl, rfl⟩
      rw [← HK.out]
      go_wp2_with fail
      refine bodyPost_ret (v := .tuple #[.agg #[.int .i64 0, .int .i64 0, .string ⟨#[]⟩, .bool false, .int .i64 s.size, .int .i64 s.size], .int .i64 0]) ?_ rfl ⟨by rw [HX.out]; first | done | rfl, ?_⟩
      · simp [results, Try.results10, go_sem]
      · repeat (with_reducible first | exact (Kept.refl w) | refine Kept.drew ?_ | refine Kept.alloc ?_ _ _ | refine Kept.set ?_ (Nat.le_refl _) _ | refine Kept.set ?_ (Nat.le_succ _) _)
  · have HV := Lib.hid (show T = (1, Lx.zero) by rw [HT.out, Lx.nextV, hlen, if_neg hin])
    have hout : a < 0 ∨ (s.size : Int) < a := by omega
    clear hin hlen
    rcases hout with h | h
    · go_enter Try.func10, Try.ntmps10
      go_wp2_with fail
      refine bodyPost_ret (v := .tuple #[.agg #[.int .i64 0, .int .i64 0, .string ⟨#[]⟩, .bool false, .int .i64 0, .int .i64 0], .int .i64 1]) ?_ rfl ⟨by rw [HV.out]; first | done | rfl, ?_⟩
      · simp [results, Try.results10, go_sem]
      · repeat (with_reducible first | exact (Kept.refl w) | refine Kept.drew ?_ | refine Kept.alloc ?_ _ _ | refine Kept.set ?_ (Nat.le_refl _) _)
    · have h0 : ¬ a < 0 := by omega
      go_enter Try.func10, Try.ntmps10
      go_wp2_with fail
      refine bodyPost_ret (v := .tuple #[.agg #[.int .i64 0, .int .i64 0, .string ⟨#[]⟩, .bool false, .int .i64 0, .int .i64 0], .int .i64 1]) ?_ rfl ⟨by rw [HV.out]; first | done | rfl, ?_⟩
      · simp [results, Try.results10, go_sem]
      · repeat (with_reducible first | exact (Kept.refl w) | refine Kept.drew ?_ | refine Kept.alloc ?_ _ _ | refine Kept.set ?_ (Nat.le_refl _) _)

end Go.Proofs.Ytoakbcjdkohoiaa
