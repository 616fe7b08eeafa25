/-
  What the document's word of layer 3 is: a Number.
-/
import Derived.Test.YtoakbcjdkohoiaaLexRefWord
import Derived.Test.YtoakbcjdkohoiaaFixRefParse
namespace Go.Proofs.Ytoakbcjdkohoiaa
open Go.RowKit

theorem numB_yes {c : UInt8} (h : Lx.numB c = true) : c = 43 ∨ (c ≠ 43 ∧ c = 45) ∨ (c ≠ 43 ∧ c ≠ 45 ∧ c = 46) ∨ (c ≠ 43 ∧ c ≠ 45 ∧ c ≠ 46 ∧ 48 ≤ c.toNat ∧ c.toNat ≤ 57) := by
  have := Lx.byte_all (fun c => !Lx.numB c || (c == 43 || (c != 43 && c == 45) || (c != 43 && c != 45 && c == 46) || (c != 43 && c != 45 && c != 46 && decide (48 ≤ c.toNat) && decide (c.toNat ≤ 57)))) (by kernel_rfl) c
  rw [h] at this
  simpa [and_assoc, or_assoc] using this

theorem ne46 (c : UInt8) : ((c.toNat : Int) != 46) = (c != 46) := by
  have := Lx.byte_all (fun c => ((c.toNat : Int) != 46) == (c != 46)) (by kernel_rfl) c
  simpa using this
theorem point_all : ∀ l : List UInt8, l.all (· != 46) = !Lx.pointIn l := by
  intro l
  unfold Lx.pointIn
  induction l with
  | nil => rfl
  | cons b r ih =>
    have hge := Lib.indexByte_ge r 46
    rw [List.all_cons, ih, Lib.indexByte]
    by_cases hb : b = 46
    · simp [hb]
    · by_cases h1 : Lib.indexByte r 46 = -1
      · simp [hb, h1]
      · have h2 : 0 ≤ Lib.indexByte r 46 := by omega
        have h3 : 0 ≤ Lib.indexByte r 46 + 1 := by omega
        simp [hb, h1, h2, h3]

set_option maxRecDepth 100000 in
set_option maxHeartbeats 4000000 in
theorem Rword_num (s : ByteArray) (k : Nat) (w : World) (hk : k < s.size) (hs : s.size ≤ 4294967295) (hb : Lx.numB s[k] = true) (n : Nat) (hn : n = Lx.tw Lx.reg (s.data.toList.drop k)) (run : List UInt8) (hrun : run = (s.data.toList.drop k).take n)
    (pe pv : Int) (hpe : pe = Fx.parseE run) (hpv : pv = Fx.parseV run) (pw : Bool) (hpw : pw = !Lx.pointIn run) :
    Calls Try.prog 35 #[.string s, .int .i64 k] w fun e w' => e = .returned (.tuple #[(if pe = 0 then .agg #[.int .i64 1, .int .i64 pv, .string ⟨#[]⟩, .bool pw, .int .i64 k, .int .i64 (k + n : Nat)] else .agg #[.int .i64 0, .int .i64 0, .string ⟨#[]⟩, .bool false, .int .i64 0, .int .i64 0]), .int .i64 pe]) ∧ Kept w w' := by
  have hnl : k + n ≤ s.size := by
    have := Lx.tw_le Lx.reg (s.data.toList.drop k)
    rw [← hn] at this; simp at this; omega
  have hx := extract_run s k n
  rw [← hrun] at hx
  have HN := Lib.hid hn
  have hlen : run.length = n := by rw [hrun]; simp; omega
  have HPE := Lib.hid hpe
  have HPV := Lib.hid hpv
  have HPW := Lib.hid hpw
  have hrs : (⟨run.toArray⟩ : ByteArray).size = n := by show run.toArray.size = n; simp [hlen]
  have hways : ((s[k].toNat : Int) != 43) = false ∨ (((s[k].toNat : Int) != 43) = true ∧ ((s[k].toNat : Int) != 45) = false) ∨ (((s[k].toNat : Int) != 43) = true ∧ ((s[k].toNat : Int) != 45) = true ∧ ((s[k].toNat : Int) != 46) = false) ∨ (((s[k].toNat : Int) != 43) = true ∧ ((s[k].toNat : Int) != 45) = true ∧ ((s[k].toNat : Int) != 46) = true ∧ 48 ≤ s[k].toNat ∧ s[k].toNat ≤ 57) := by
    rcases numB_yes hb with h | ⟨h1, h⟩ | ⟨h1, h2, h⟩ | ⟨h1, h2, h3, h4, h5⟩
    · exact .inl (by rw [h]; rfl)
    · exact .inr (.inl ⟨by simp only [bne, rbyte_not h1 43 rfl]; rfl, by rw [h]; rfl⟩)
    · exact .inr (.inr (.inl ⟨by simp only [bne, rbyte_not h1 43 rfl]; rfl, by simp only [bne, rbyte_not h2 45 rfl]; rfl, by rw [h]; rfl⟩))
    · exact .inr (.inr (.inr ⟨by simp only [bne, rbyte_not h1 43 rfl]; rfl, by simp only [bne, rbyte_not h2 45 rfl]; rfl, by simp only [bne, rbyte_not h3 46 rfl]; rfl, h4, h5⟩))
  clear hn hrun hb hpe hpv hpw
  rcases hways with e1 | ⟨e1, e2⟩ | ⟨e1, e2, e3⟩ | ⟨e1, e2, e3, e4, e5⟩
  all_goals
    go_enter Try.func35, Try.ntmps35
    go_wp2_with fail
    (with_reducible refine (Rrun_any s k _ (by omega) (by omega)).mono ?_)
    rintro e w1 ⟨rfl, rfl⟩
    rw [← HN.out]
    go_wp2_with fail
    have HB0 := Lib.hid ((Blk.fresh w #[.int .i64 0, .int .i64 0, .string ⟨#[]⟩, .bool false, .int .i64 0, .int .i64 0] 29).alloc (.cells #[.int .i64 1, .int .i64 0, .string ⟨run.toArray⟩, .bool true, .int .i64 k, .int .i64 (k + n)] 29))
    have HT0 := Lib.hid (Blk.fresh' (w := w.alloc (.cells #[.int .i64 0, .int .i64 0, .string ⟨#[]⟩, .bool false, .int .i64 0, .int .i64 0] 29)) (b := w.heap.size + 1) #[.int .i64 1, .int .i64 0, .string ⟨run.toArray⟩, .bool true, .int .i64 k, .int .i64 (k + n)] 29 (by simp))
    have HK0 := Lib.hid (((Kept.refl w).alloc #[.int .i64 0, .int .i64 0, .string ⟨#[]⟩, .bool false, .int .i64 0, .int .i64 0] 29).alloc #[.int .i64 1, .int .i64 0, .string ⟨run.toArray⟩, .bool true, .int .i64 k, .int .i64 (k + n)] 29)
    go_loopg [8] (n) (fun m i wr => ∃ (q : Nat) (b : Bool), m = n - q ∧ q ≤ n ∧ i = .int .i64 q ∧ Blk wr w.heap.size #[.int .i64 0, .int .i64 0, .string ⟨#[]⟩, .bool false, .int .i64 0, .int .i64 0] 29 ∧ Blk wr (w.heap.size + 1) #[.int .i64 1, .int .i64 0, .string ⟨run.toArray⟩, .bool b, .int .i64 k, .int .i64 (k + n)] 29 ∧ Kept w wr ∧ Hid (b = (run.take q).all (· != 46)))
    case atStart => exact ⟨0, true, by omega, by omega, rfl, HB0.out, HT0.out, HK0.out, Lib.hid (by simp)⟩
    case round =>
      obtain ⟨q, b, hm, hq, rfl, hb0, hbt, hkp, HQ⟩ := hrel
      have HB := Lib.hid hb0
      have HT := Lib.hid hbt
      have HK := Lib.hid hkp
      obtain ⟨t0, t1, t2, t3, t4, t5⟩ := hbt.cells6
      have tf := hbt.free
      clear hb0 hbt hkp HB0 HT0 HK0
      by_cases hlt : q < n
      · have hbyte : (⟨run.toArray⟩ : ByteArray)[q]'(by rw [hrs]; exact hlt) = run[q]'(by omega) := by show run.toArray[q]'_ = _; simp
        have e46 := ne46 (run[q]'(by omega))
        have HQ1 := Lib.hid (show (run.take (q + 1)).all (· != 46) = ((run.take q).all (· != 46) && (run[q]'(by omega) != 46)) by
          rw [List.take_succ_eq_append_getElem (by omega), List.all_append]; simp)
        rw [← HQ.out] at HQ1
        rw [← hbyte] at e46 HQ1
        cases b
        · clear hbyte e46
          go_wp2_with fail
          go_roundg (n - (q + 1))
          case measure => omega
          case rel => exact ⟨q + 1, false, by omega, by omega, by go_num, HB.out.other (by omega) _, HT.out.set 3 _, HK.out.set (Nat.le_succ _) _, Lib.hid (by rw [HQ1.out]; rfl)⟩
        · cases hc : ((⟨run.toArray⟩ : ByteArray)[q]'(by rw [hrs]; exact hlt) != 46)
          all_goals
            rw [hc] at e46 HQ1
            clear hbyte hc
            go_wp2_with fail
            go_roundg (n - (q + 1))
            case measure => omega
            case rel => exact ⟨q + 1, _, by omega, by omega, by go_num, HB.out.other (by omega) _, HT.out.set 3 _, HK.out.set (Nat.le_succ _) _, Lib.hid (by rw [HQ1.out]; rfl)⟩
      · obtain rfl : q = n := by omega
        have HBP := Lib.hid (show b = pw by
          rw [HQ.out, HPW.out, List.take_of_length_le (by omega), point_all])
        rw [HBP.out] at HT t3
        go_wp2_with fail
        (with_reducible refine (RParse_any run _ (by omega)).mono ?_)
        rintro e w3 ⟨rfl, hk3⟩
        rw [← HPE.out, ← HPV.out]
        have HB3 := Lib.hid (HB.out.kept hk3)
        have HT3 := Lib.hid (HT.out.kept hk3)
        have HK3 := Lib.hid (HK.out.trans hk3)
        clear t0 t1 t2 t3 t4 t5 tf hk3
        obtain ⟨t0, t1, t2, t3, t4, t5⟩ := HT3.out.cells6
        have tf := HT3.out.free
        obtain ⟨r0, r1, r2, r3, r4, r5⟩ := HB3.out.cells6
        have rf := HB3.out.free
        have hsz := HT3.out.lt
        have hsz0 := HB3.out.lt
        by_cases hpe0 : pe = 0
        · subst hpe0
          go_wp2_with fail
          refine bodyPost_ret (v := .tuple #[.agg #[.int .i64 1, .int .i64 pv, .string ⟨#[]⟩, .bool pw, .int .i64 k, .int .i64 (k + q)], .int .i64 0]) ?_ rfl ⟨by first | done | rfl | simp, ?_⟩
          · simp [results, Try.results35, go_sem, r0, r1, r2, r3, r4, r5]
          · repeat (with_reducible first | exact HK3.out | refine Kept.drew ?_ | refine Kept.set ?_ (Nat.le_refl _) _ | refine Kept.set ?_ (Nat.le_succ _) _)
        · go_wp2_with fail
          refine bodyPost_ret (v := .tuple #[.agg #[.int .i64 0, .int .i64 0, .string ⟨#[]⟩, .bool false, .int .i64 0, .int .i64 0], .int .i64 pe]) ?_ rfl ⟨by first | done | rfl | simp, ?_⟩
          · simp [results, Try.results35, go_sem, r0, r1, r2, r3, r4, r5]
          · repeat (with_reducible first | exact HK3.out | refine Kept.drew ?_ | refine Kept.set ?_ (Nat.le_refl _) _ | refine Kept.set ?_ (Nat.le_succ _) _)

end Go.Proofs.Ytoakbcjdkohoiaa
