/-
  The sum of bytes is another, if one byte is.
-/
import Derived.Test.YtkobcgemllcfoaaDoorInfArgs
import Derived.Test.YtkobcgemllcfoaaDoorInfAwake
namespace Go.Proofs.YtkobcgemllcfoaaDoor
open Go.RowKit Ix
set_option linter.unusedSimpArgs false
set_option linter.unusedVariables false

theorem adler_nil_any (w : World) : Calls Tryd.prog 28 #[.slice none 0 0] w fun e w' => e = .returned (.int .u32 1) ∧ Kept w w' :=
  (Adler_any [] none 0 w (fun i hi => (by cases hi)) (by decide)).mono fun e w' ⟨h, k⟩ => ⟨h, k⟩
theorem xor_byte (u v : UInt8) : bits BinOp.xor IntKind.u8 (u.toNat : Int) (v.toNat : Int) = ((u ^^^ v).toNat : Int) := by
  show IntKind.u8.wrap ((BitVec.ofInt 8 (u.toNat : Int) ^^^ BitVec.ofInt 8 (v.toNat : Int)).toNat : Int) = _
  have hu := u.toNat_lt
  have hv := v.toNat_lt
  rw [BitVec.ofInt_natCast, BitVec.ofInt_natCast, BitVec.toNat_xor, BitVec.toNat_ofNat, BitVec.toNat_ofNat, Nat.mod_eq_of_lt (by omega), Nat.mod_eq_of_lt (by omega), UInt8.toNat_xor]
  have : u.toNat ^^^ v.toNat < 2 ^ 8 := Nat.xor_lt_two_pow hu hv
  show ((u.toNat ^^^ v.toNat : Nat) : Int) % 256 = _
  omega

set_option maxRecDepth 100000 in
set_option maxHeartbeats 4000000 in
theorem InflateSums_walk (v : Value) (B : List UInt8) (at' : Int) (by' : UInt8) (w : World) (h : ByArg w v B) (ha : -9223372036854775808 ≤ at' ∧ at' ≤ 9223372036854775807) :
    Calls Tryd.prog 10 #[v, .int .i64 at', .int .u8 (by'.toNat : Int)] w fun e w' => e = .returned (.bool true) ∧ Kept w w' := by
  obtain ⟨p, c, rfl, hb, hlc, hlm, -⟩ := h
  have HB := Lib.hid hb
  have AW := Lib.hid (awake6_any w)
  have AN := Lib.hid adler_nil_any
  clear hb
  by_cases h0 : B.length = 0
  · have e1 : ((B.length : Int) == 0) = true := by rw [beq_iff_eq]; omega
    go_enter Tryd.func10, Tryd.ntmps10
    go_wp2_with fail
    (with_reducible refine AW.out.mono ?_)
    rintro e w1 ⟨rfl, hk1⟩
    have K1 := Lib.hid hk1
    clear hk1
    go_wp2_with fail
    (with_reducible refine (AN.out _).mono ?_)
    rintro e w2 ⟨rfl, hk2⟩
    have K2 := Lib.hid (K1.out.trans hk2)
    clear hk2
    go_wp2_with fail
    go_ret
    exact ⟨rfl, K2.out⟩
  have e1 : ((B.length : Int) == 0) = false := by rw [beq_eq_false_iff_ne]; omega
  by_cases h1 : 3000 < B.length
  · have e2 : (3000 : Int) < (B.length : Int) := by omega
    go_enter Tryd.func10, Tryd.ntmps10
    go_wp2_with fail
    (with_reducible refine AW.out.mono ?_)
    rintro e w1 ⟨rfl, hk1⟩
    have K1 := Lib.hid hk1
    clear hk1
    go_wp2_with fail
    (with_reducible refine (AN.out _).mono ?_)
    rintro e w2 ⟨rfl, hk2⟩
    have K2 := Lib.hid (K1.out.trans hk2)
    clear hk2
    go_wp2_with fail
    go_ret
    exact ⟨rfl, K2.out⟩
  have e2 : ¬ (3000 : Int) < (B.length : Int) := by omega
  by_cases h2 : by' = 0
  · have e3 : ((by'.toNat : Int) == 0) = true := by rw [h2]; rfl
    clear h2
    go_enter Tryd.func10, Tryd.ntmps10
    go_wp2_with fail
    (with_reducible refine AW.out.mono ?_)
    rintro e w1 ⟨rfl, hk1⟩
    have K1 := Lib.hid hk1
    clear hk1
    go_wp2_with fail
    (with_reducible refine (AN.out _).mono ?_)
    rintro e w2 ⟨rfl, hk2⟩
    have K2 := Lib.hid (K1.out.trans hk2)
    clear hk2
    go_wp2_with fail
    go_ret
    exact ⟨rfl, K2.out⟩
  have e3 : ((by'.toNat : Int) == 0) = false := by
    rw [beq_eq_false_iff_ne]
    intro e
    exact h2 (UInt8.toNat_inj.1 (by show by'.toNat = 0; omega))
  go_enter Tryd.func10, Tryd.ntmps10
  go_wp2_with fail
  (with_reducible refine AW.out.mono ?_)
  rintro e w1 ⟨rfl, hk1⟩
  have K1 := Lib.hid hk1
  clear hk1
  go_wp2_with fail
  (with_reducible refine (AN.out _).mono ?_)
  rintro e w2 ⟨rfl, hk2⟩
  have K2 := Lib.hid (K1.out.trans hk2)
  clear hk2
  obtain ⟨kb, ko, hp, hkb, -⟩ := HB.out 0 (by omega)
  subst hp
  have HB2 := Lib.hid (HB.out.kept K2.out (Nat.le_refl _))
  have KE := Lib.hid (show Kept w (w2.alloc (.cells #[] 5)) from K2.out.allocO _)
  have HBE := Lib.hid (HB.out.kept KE.out (Nat.le_refl _))
  have HOE := Lib.hid (Out.empty w2 (B0 := w.heap.size) (Below.size K2.out))
  have hw2 := Below.size K2.out
  obtain ⟨z, hz⟩ : ∃ z, z = at' % 65536 := ⟨_, rfl⟩
  have hal := and_low at'
  rw [← hz] at hal
  obtain ⟨y, hy⟩ : ∃ y : Nat, z = (y : Int) := ⟨z.toNat, by omega⟩
  rw [hy] at hal
  obtain ⟨j, hj⟩ : ∃ j : Nat, j = y % B.length := ⟨_, rfl⟩
  have hjl : j < B.length := by rw [hj]; exact Nat.mod_lt _ (by omega)
  have hji : (y : Int) % (B.length : Int) = (j : Int) := by rw [hj]; simp
  have hN0 : ¬ (B.length : Int) = 0 := by omega
  have hji2 : (j : Int) < (B.length : Int) := by omega
  go_upto_region 6 with (at_builtin; refine wpList_app_in rfl _ _ rfl HOE.out rfl _ _ _ B rfl rfl HBE.out (by omega) (by simp; omega) (by simp; omega) ?_; intro g cap w3 ho3 hg3 hat3 hgl3; have HO3 := Lib.hid ho3; have HG3 := Lib.hid hg3; have HA3 := Lib.hid hat3; clear ho3 hg3 hat3)
  simp only [hji]
  have hl3 : (([] : List UInt8).length + B.length) = B.length := by simp
  have hnn : (([] : List UInt8) ++ B) = B := rfl
  rw [hl3, hnn] at HO3
  have hcj : w3.cell? ⟨g, j, none⟩ = some (.int .u8 (B[j].toNat : Int)) := by
    rcases HO3.out.parts with ⟨h1, -⟩ | ⟨g2, cap2, h1, -, hc⟩
    · cases h1
    · injection h1 with e1 e2 e3
      injection e1 with e1
      injection e1 with e1
      subst e1
      exact hc j hjl
  have hfj := World.ownsRow.frozenAt HO3.out j
  have hx := xor_byte B[j] by'
  obtain ⟨x, hx0⟩ : ∃ x, x = B[j] ^^^ by' := ⟨_, rfl⟩
  rw [← hx0] at hx
  have AD1 := Lib.hid (fun w' (k : Kept w w') => Adler_any B _ c w' (HB.out.kept k (Nat.le_refl _)) (by omega))
  have K3 := Lib.hid (show Kept w w3 from Below.grown KE.out HG3.out (by simp; omega) (fun x hx => by
    have := (HOE.out.lt x hx).1; omega))
  have hgw : w.heap.size ≤ g := ((HO3.out).lt g rfl).1
  have HS := Lib.hid (HO3.out.set rfl j hjl x)
  have K4 := Lib.hid (show Kept w (w3.setCell ⟨g, j, none⟩ (.int .u8 (x.toNat : Int))) from K3.out.set hgw _)
  have AD2 := Lib.hid (fun w' (k : Kept (w3.setCell ⟨g, j, none⟩ (.int .u8 (x.toNat : Int))) w') => (show Calls Tryd.prog 28 #[.slice (some ⟨g, 0, none⟩) B.length cap] w' _ from by
    have z := Adler_any (B.set j x) (some ⟨g, 0, none⟩) cap w' (HS.out.kept k (Nat.le_refl _)) (by rw [List.length_set]; omega)
    rw [List.length_set] at z
    exact z))
  have hne : x ≠ B[j] := by
    rw [hx0]
    intro e
    apply h2
    have e2 := congrArg (fun q => B[j] ^^^ q) e
    simpa [← UInt8.xor_assoc] using e2
  have hdiff := adler_set B j x hjl hne
  have HD := Lib.hid (show (((adler B : Nat) : Int) != ((adler (B.set j x) : Nat) : Int)) = true by rw [bne_iff_ne]; omega)
  clear hdiff hne hal hz hy ha hlm hl3 hnn hx0 hj hji hN0 h0 h1 h2 hw2 hgw
  have hj0 : (0 : Int) ≤ (j : Int) := by omega
  go_wp2_with fail
  (with_reducible refine (AD1.out _ K4.out).mono ?_)
  rintro e w5 ⟨rfl, hk5⟩
  have K5 := Lib.hid hk5
  clear hk5
  go_wp2_with fail
  (with_reducible refine (AD2.out _ K5.out).mono ?_)
  rintro e w6 ⟨rfl, hk6⟩
  have K6 := Lib.hid (K4.out.trans (K5.out.trans hk6))
  have hd := HD.out
  clear hk6
  go_wp2_with fail
  go_ret
  exact ⟨rfl, K6.out⟩

end Go.Proofs.YtkobcgemllcfoaaDoor
