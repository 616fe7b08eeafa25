/-
  A block of bytes as they are.
-/
import Derived.Test.YtpplboihlndfpaaDoorInfPut
import Derived.Test.YtpplboihlndfpaaDoorInfSpan
namespace Go.Proofs.YtpplboihlndfpaaDoor
open Go.RowKit Ix
set_option linter.unusedSimpArgs false
set_option linter.unusedVariables false

theorem xor_ffff {n : Nat} (h : n < 65536) : bits BinOp.xor IntKind.i64 (n : Int) 65535 = ((65535 - n : Nat) : Int) := by
  show IntKind.i64.wrap ((BitVec.ofInt 64 (n : Int) ^^^ BitVec.ofInt 64 ((65535 : Nat) : Int)).toNat : Int) = _
  rw [BitVec.ofInt_natCast, BitVec.ofInt_natCast, BitVec.toNat_xor, BitVec.toNat_ofNat, BitVec.toNat_ofNat, Nat.mod_eq_of_lt (by omega), Nat.mod_eq_of_lt (by omega)]
  have h1 : (BitVec.ofNat 16 n ^^^ BitVec.allOnes 16).toNat = 65535 - n := by
    rw [BitVec.xor_allOnes, BitVec.toNat_not, BitVec.toNat_ofNat, Nat.mod_eq_of_lt (by omega)]
  rw [BitVec.toNat_xor, BitVec.toNat_ofNat, Nat.mod_eq_of_lt (by omega), BitVec.toNat_allOnes] at h1
  rw [h1]
  exact IntWalk.i64_in _ (by omega)

/-- What a block, or what stands in it, leaves. -/
def BlkA (w : World) (B0 b : Nat) (p : Option Addr) (c : Nat) (B : List UInt8) (v gv : Value) (r : Except Int (List UInt8 × Nat)) (e : Ending) (w' : World) : Prop := match r with
  | .error k => e = .panicked (thrown k) ∧ Below b w w'
  | .ok (o, t') => e = .returned (.tuple #[]) ∧ t' ≤ 8 * B.length ∧ ∃ v', Ou w' B0 b p c B t' v' o gv ∧ Gr w b v w' v'
theorem BlkA.cases {w : World} {B0 b : Nat} {p : Option Addr} {c : Nat} {B : List UInt8} {v gv : Value} {r : Except Int (List UInt8 × Nat)} {e : Ending} {w' : World} (h : BlkA w B0 b p c B v gv r e w') :
    (∃ k, r = .error k ∧ e = .panicked (thrown k) ∧ Below b w w') ∨ ∃ o t' v', r = .ok (o, t') ∧ e = .returned (.tuple #[]) ∧ t' ≤ 8 * B.length ∧ Ou w' B0 b p c B t' v' o gv ∧ Gr w b v w' v' := by
  unfold BlkA at h
  rcases r with k | ⟨o, t'⟩
  · exact .inl ⟨k, rfl, h⟩
  · obtain ⟨h1, h2, v', h3, h4⟩ := h; exact .inr ⟨o, t', v', rfl, h1, h2, h3, h4⟩
theorem below_gb {w w' : World} {b : Nat} (g : w.grownBy w' (some b)) (hb : b ≤ w.heap.size) : Below b w w' :=
  ⟨g.os, g.tape, g.output, g.size, fun j hj => g.block j (by omega) (by intro e; injection e with e; omega)⟩

set_option maxRecDepth 100000 in
set_option maxHeartbeats 4000000 in
theorem stored_any {w : World} {B0 b : Nat} {p : Option Addr} {c : Nat} {B : List UInt8} {t : Nat} {v gv : Value} {out : List UInt8} (h : Ou w B0 b p c B t v out gv) (h8 : t ≤ 8 * B.length) (hB : B.length ≤ 1099511627776) :
    Calls Tryd.prog 78 #[.pointer (some ⟨b, 0, none⟩)] w (BlkA w B0 b p c B v gv (storedV B t out)) := by
  have hp := run_thrown
  have HO := Lib.hid h
  have HLOW := Lib.hid h.low
  have HBL := Lib.hid (Nat.le_of_lt h.bi.blk.lt)
  have LR := Lib.hid (leaveRest_any h.bi h8 hB)
  have hu8 : up8 t ≤ 8 * B.length := by unfold up8; omega
  obtain ⟨u, hu⟩ : ∃ u, u = up8 t := ⟨_, rfl⟩
  have hum : u % 8 = 0 := by rw [hu]; unfold up8; omega
  have HV := Lib.hid (show storedV B t out = if u + 32 ≤ 8 * B.length then if numAt B 16 u + numAt B 16 (u + 16) = 65535 then storedGo B (numAt B 16 u) (u + 32) out else .error 3 else .error 4 by rw [hu]; rfl)
  rw [← hu] at LR hu8
  clear h hu
  go_enter Tryd.func78, Tryd.ntmps78
  go_wp2_with fail
  (with_reducible refine LR.out.mono ?_)
  rintro e w1 ⟨rfl, hb1, hg1⟩
  have HO1 := Lib.hid (HO.out.bits ⟨hb1, hg1⟩)
  have HG1 := Lib.hid hg1
  have NA := Lib.hid (number_lit 16 16 rfl (by decide) hb1 hu8 hB)
  clear hb1 hg1
  go_wp2_with fail
  (with_reducible refine NA.out.mono ?_)
  intro e w2 hs
  rcases hs.cases with ⟨k', hr, rfl, hg⟩ | ⟨n, t2, hr, rfl, hb2, ht2⟩
  · have HR := Lib.hid (show storedV B t out = .error k' by
      unfold numV at hr
      split at hr
      · cases hr
      · injection hr with hr; subst hr
        rw [HV.out, if_neg (by omega)])
    clear hs hr
    go_wp2_with fail
    refine ⟨rfl, ?_⟩
    unfold BlkA
    rw [HR.out]
    exact ⟨rfl, below_gb (gbT HG1.out hg) HBL.out⟩
  · obtain ⟨hn0, rfl, hn1⟩ : numAt B 16 u = n ∧ t2 = u + 16 ∧ u + 16 ≤ 8 * B.length := by
      unfold numV at hr
      split at hr
      · rename_i hle
        injection hr with hr; injection hr with h1 h2
        exact ⟨h1, h2.symm, hle⟩
      · cases hr
    have hn := numAt_lt B u 16
    rw [hn0] at hn
    rw [hn0] at HV
    have HO2 := Lib.hid (HO1.out.bits hb2)
    have HG2 := Lib.hid (gbT HG1.out hb2.2)
    have NB := Lib.hid (number_lit 16 16 rfl (by decide) hb2.1 ht2 hB)
    have hx := xor_ffff (show n < 65536 from hn)
    clear hs hr hb2 hn0
    go_wp2_with fail
    (with_reducible refine NB.out.mono ?_)
    intro e w3 hs
    rcases hs.cases with ⟨k', hr, rfl, hg⟩ | ⟨m, t3, hr, rfl, hb3, ht3⟩
    · have HR := Lib.hid (show storedV B t out = .error k' by
        unfold numV at hr
        split at hr
        · cases hr
        · injection hr with hr; subst hr
          rw [HV.out, if_neg (by omega)])
      clear hs hr
      go_wp2_with fail
      refine ⟨rfl, ?_⟩
      unfold BlkA
      rw [HR.out]
      exact ⟨rfl, below_gb (gbT HG2.out hg) HBL.out⟩
    · obtain ⟨hm0, rfl, hm1⟩ : numAt B 16 (u + 16) = m ∧ t3 = u + 32 ∧ u + 32 ≤ 8 * B.length := by
        unfold numV at hr
        split at hr
        · rename_i hle
          injection hr with hr; injection hr with h1 h2
          exact ⟨h1, by omega, by omega⟩
        · cases hr
      have hm := numAt_lt B (u + 16) 16
      rw [hm0] at hm HV
      have HV2 := Lib.hid (HV.out.trans (if_pos hm1))
      have HO3 := Lib.hid (HO2.out.bits hb3)
      have HG3 := Lib.hid (gbT HG2.out hb3.2)
      clear hs hr hb3 hm0
      by_cases hs : n + m = 65535
      · have HV3 := Lib.hid (HV2.out.trans (if_pos hs))
        have hne : ((m : Int) != ((65535 - n : Nat) : Int)) = false := by rw [bne_eq_false_iff_eq]; omega
        obtain ⟨y, hy⟩ : ∃ y : Int, y = ((65535 - n : Nat) : Int) := ⟨_, rfl⟩
        rw [← hy] at hx hne
        clear hy
        go_wp2_with fail
        go_loopg [20] n (fun k x wr => ∃ (i : Nat) (o : List UInt8) (v1 : Value), k = n - i ∧ i ≤ n ∧ x = .int .i64 i ∧ u + 32 + 8 * i ≤ 8 * B.length ∧ Ou wr B0 b p c B (u + 32 + 8 * i) v1 o gv ∧ Gr w b v wr v1 ∧ Hid (storedGo B (n - i) (u + 32 + 8 * i) o = storedGo B n (u + 32) out))
        case atStart => exact ⟨0, out, v, rfl, Nat.zero_le _, rfl, hm1, HO3.out, Gr.ofGb HG3.out, Lib.hid rfl⟩
        case round =>
          obtain ⟨i, o, v1, hk0, hi, rfl, hle, ho1, hg1, HS⟩ := hrel
          have HO4 := Lib.hid ho1
          have HG4 := Lib.hid hg1
          clear ho1 hg1
          by_cases hlt : i < n
          · obtain ⟨kk, hk⟩ : ∃ kk, n - i = kk + 1 := ⟨n - i - 1, by omega⟩
            by_cases hend : u + 32 + 8 * i < 8 * B.length
            · have HS2 := Lib.hid (show storedGo B n (u + 32) out = match putV' o (B.getD ((u + 32 + 8 * i) / 8) 0) with | .error e => .error e | .ok out' => storedGo B kk (u + 32 + 8 * i + 8) out' by
                rw [← HS.out, hk, storedGo, if_neg (by omega)]
                generalize putV' o (B.getD ((u + 32 + 8 * i) / 8) 0) = r
                cases r <;> rfl)
              have WB := Lib.hid (wholeByte_ok HO4.out.bi hend hB)
              obtain ⟨x, hxx⟩ : ∃ x, x = B.getD ((u + 32 + 8 * i) / 8) 0 := ⟨_, rfl⟩
              rw [← hxx] at HS2 WB
              clear hxx
              go_wp2_with fail
              (with_reducible refine WB.out.mono ?_)
              rintro e w5 ⟨rfl, hb5⟩
              have PU := Lib.hid (put_any (HO4.out.bits hb5) x)
              have HG5 := Lib.hid (HG4.out.trans (Gr.ofGb hb5.2))
              clear hb5
              go_wp2_with fail
              (with_reducible refine PU.out.mono ?_)
              intro e w6 hput
              rcases hput.cases with ⟨k', hr, rfl, hg⟩ | ⟨o', v', hr, rfl, ho, hg⟩
              · have HR := Lib.hid (show storedGo B n (u + 32) out = .error k' by rw [HS2.out, hr])
                clear hput hr
                go_wp2_with fail
                refine ⟨rfl, ?_⟩
                unfold BlkA
                rw [HV3.out, HR.out]
                exact ⟨rfl, (HG5.out.below HLOW.out HBL.out).trans hg⟩
              · have HR := Lib.hid (show storedGo B kk (u + 32 + 8 * i + 8) o' = storedGo B n (u + 32) out by rw [HS2.out, hr])
                have HO6 := Lib.hid ho
                have HG6 := Lib.hid (HG5.out.trans hg)
                clear hput hr ho hg
                go_wp2_with fail
                go_roundg (n - (i + 1))
                case measure => omega
                case rel => exact ⟨i + 1, o', v', rfl, by omega, by go_num, by omega, by rw [show u + 32 + 8 * (i + 1) = u + 32 + 8 * i + 8 by omega]; exact HO6.out, HG6.out, Lib.hid (by rw [show n - (i + 1) = kk by omega, show u + 32 + 8 * (i + 1) = u + 32 + 8 * i + 8 by omega]; exact HR.out)⟩
            · have HR := Lib.hid (show storedGo B n (u + 32) out = .error 4 by
                rw [← HS.out, hk, storedGo, if_pos (by omega)])
              have WN := Lib.hid (wholeByte_no HO4.out.bi (by omega) hB)
              go_wp2_with fail
              (with_reducible refine WN.out.mono ?_)
              rintro e w5 ⟨rfl, hg⟩
              have HG5 := Lib.hid (HG4.out.trans (Gr.ofGb hg))
              clear hg
              go_wp2_with fail
              refine ⟨rfl, ?_⟩
              unfold BlkA
              rw [HV3.out, HR.out]
              exact ⟨rfl, HG5.out.below HLOW.out HBL.out⟩
          · obtain rfl : i = n := by omega
            have HR := Lib.hid (show storedGo B i (u + 32) out = .ok (o, u + 32 + 8 * i) by rw [← HS.out, Nat.sub_self]; rfl)
            go_wp2_with fail
            refine bodyPost_end (results_none rfl _ _ _) rfl ?_
            unfold BlkA
            rw [HV3.out, HR.out]
            exact ⟨rfl, hle, v1, HO4.out, HG4.out⟩
      · have HV3 := Lib.hid (HV2.out.trans (if_neg hs))
        have hne : ((m : Int) != ((65535 - n : Nat) : Int)) = true := by rw [bne_iff_ne]; omega
        obtain ⟨y, hy⟩ : ∃ y : Int, y = ((65535 - n : Nat) : Int) := ⟨_, rfl⟩
        rw [← hy] at hx hne
        clear hy
        go_wp2_with fail
        refine ⟨rfl, ?_⟩
        unfold BlkA
        rw [HV3.out]
        exact ⟨rfl, below_gb HG3.out HBL.out⟩

end Go.Proofs.YtpplboihlndfpaaDoor
