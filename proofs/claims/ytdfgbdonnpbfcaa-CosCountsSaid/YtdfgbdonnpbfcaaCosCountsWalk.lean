/-
  The law CosCounts, walked.
-/
import Derived.Test.YtdfgbdonnpbfcaaCosAwake
import Derived.Test.YtdfgbdonnpbfcaaCosMath
namespace Go.Proofs.Ytdfgbdonnpbfcaa
open Go.RowKit Cx
set_option linter.unusedSimpArgs false
set_option linter.unusedVariables false

theorem and31 (n : Int) : ∃ k : Nat, bits BinOp.and IntKind.i64 n 31 = (k : Int) ∧ k ≤ 31 := by
  have hle : (BitVec.ofInt 64 n &&& BitVec.ofInt 64 31).toNat ≤ 31 := by
    rw [BitVec.toNat_and]
    exact Nat.and_le_right (n := (BitVec.ofInt 64 n).toNat) (m := 31)
  refine ⟨(BitVec.ofInt 64 n &&& BitVec.ofInt 64 31).toNat, ?_, hle⟩
  show IntKind.i64.wrap ((BitVec.ofInt 64 n &&& BitVec.ofInt 64 31).toNat : Int) = _
  exact IntWalk.i64_in _ (by omega)

theorem ext_nm : ∀ j < 33, (⟨#[97, 98, 99, 100, 101, 102, 103, 104, 105, 106, 107, 108, 109, 110, 111, 112, 113, 114, 115, 116, 117, 118, 119, 120, 121, 122, 65, 66, 67, 68, 69, 70, 71]⟩ : ByteArray).extract j (j + 1) = nm j := by decide

theorem setN_any (k : Int) (hk : k = 6 ∨ k = 8) (P : Nat → Prop) (j : Nat) (hj : j < 32) (p q : Option Addr) (c d : Nat) (w : World) (h1 : Lies (Cel P w) (oN k 0 j) ⟨p, c, q, d⟩) :
    Calls Try.prog 10 #[.agg #[.int .i64 k, .int .i64 0, .int .i64 0, .string ⟨#[]⟩, .slice p 0 c, .slice q j d], .string (nm j), .agg #[.int .i64 2, .int .i64 1, .int .i64 (1000 * j), .string ⟨#[]⟩, .slice none 0 0, .slice none 0 0]] w fun e w' =>
      ∃ p c q d, e = .returned (.agg #[.int .i64 k, .int .i64 0, .int .i64 0, .string ⟨#[]⟩, .slice p 0 c, .slice q (j + 1) d]) ∧ Kept w w' ∧ Lies (Cel (fun b => P b ∨ w.heap.size ≤ b) w') (oN k 0 (j + 1)) ⟨p, c, q, d⟩ := by
  have h := cosSet_any P (oN k 0 j) ⟨p, c, q, d⟩ (nm j) (oW (1000 * j)) ⟨none, 0, none, 0⟩ w h1 (Lies.flat _ 2 1 _ ⟨#[]⟩ _ (Nat.zero_le _)) (Nat.le_of_lt (by simp [nm, maxLen, ByteArray.size])) (by simp [oN, Ob.d, es_len]; omega)
  rw [oN_set hk j hj] at h
  unfold objV at h
  simp only [oN, oW, Ob.k, Ob.n, Ob.f, Ob.s, Ob.l, Ob.d, es_len, List.length_nil] at h
  exact h.mono fun _ _ ⟨⟨p, c, q, d⟩, he, hkk, hl⟩ => ⟨p, c, q, d, he, hkk, hl⟩
theorem delN_any (k : Int) (hk : k = 6 ∨ k = 8) (P : Nat → Prop) (a n : Nat) (hj : a + (n + 1) ≤ 32) (p q : Option Addr) (c d : Nat) (w : World) (h1 : Lies (Cel P w) (oN k a (n + 1)) ⟨p, c, q, d⟩) :
    Calls Try.prog 10 #[.agg #[.int .i64 k, .int .i64 0, .int .i64 0, .string ⟨#[]⟩, .slice p 0 c, .slice q (n + 1) d], .string (nm a), .agg #[.int .i64 0, .int .i64 0, .int .i64 0, .string ⟨#[]⟩, .slice none 0 0, .slice none 0 0]] w fun e w' =>
      ∃ p c q d, e = .returned (.agg #[.int .i64 k, .int .i64 0, .int .i64 0, .string ⟨#[]⟩, .slice p 0 c, .slice q n d]) ∧ Kept w w' ∧ Lies (Cel (fun b => P b ∨ w.heap.size ≤ b) w') (oN k (a + 1) n) ⟨p, c, q, d⟩ := by
  have h := cosSet_any P (oN k a (n + 1)) ⟨p, c, q, d⟩ (nm a) nul ⟨none, 0, none, 0⟩ w h1 (Lies.flat _ 0 0 _ ⟨#[]⟩ _ (Nat.zero_le _)) (Nat.le_of_lt (by simp [nm, maxLen, ByteArray.size])) (by simp [oN, Ob.d, es_len]; omega)
  rw [oN_del hk a n hj] at h
  unfold objV at h
  simp only [oN, nul, Ob.k, Ob.n, Ob.f, Ob.s, Ob.l, Ob.d, es_len, List.length_nil] at h
  exact h.mono fun _ _ ⟨⟨p, c, q, d⟩, he, hkk, hl⟩ => ⟨p, c, q, d, he, hkk, hl⟩
theorem getN_any (k : Int) (hk : k = 6 ∨ k = 8) (P : Nat → Prop) (n i : Nat) (hn : n ≤ 32) (hi : i < n) (p q : Option Addr) (c d : Nat) (w : World) (h1 : Lies (Cel P w) (oN k 0 n) ⟨p, c, q, d⟩) :
    Calls Try.prog 11 #[.agg #[.int .i64 k, .int .i64 0, .int .i64 0, .string ⟨#[]⟩, .slice p 0 c, .slice q n d], .string (nm i)] w fun e w' =>
      ∃ p c q d, e = .returned (.agg #[.int .i64 2, .int .i64 1, .int .i64 (1000 * i), .string ⟨#[]⟩, .slice p 0 c, .slice q 0 d]) ∧ Kept w w' := by
  have h := cosGet_any P (oN k 0 n) ⟨p, c, q, d⟩ (nm i) w h1
  rw [oN_get hk n i hn hi] at h
  unfold objV at h
  simp only [oN, oW, Ob.k, Ob.n, Ob.f, Ob.s, Ob.l, Ob.d, es_len, List.length_nil] at h
  exact h.mono fun _ _ ⟨⟨p, c, q, d⟩, he, hkk, _⟩ => ⟨p, c, q, d, he, hkk⟩
theorem countN_any (k : Int) (hk : k = 6 ∨ k = 8) (P : Nat → Prop) (n : Nat) (hn : n ≤ 32) (p q : Option Addr) (c d : Nat) (w : World) (h1 : Lies (Cel P w) (oN k 0 n) ⟨p, c, q, d⟩) :
    Calls Try.prog 13 #[.agg #[.int .i64 k, .int .i64 0, .int .i64 0, .string ⟨#[]⟩, .slice p 0 c, .slice q n d]] w fun e w' => e = .returned (.int .i64 (n + 1)) ∧ Kept w w' := by
  have h := Count_any P _ (oN k 0 n) ⟨p, c, q, d⟩ w (Nat.le_refl _) h1 (by rw [oN_count hk]; omega)
  rw [oN_count hk] at h
  unfold objV at h
  simp only [oN, Ob.k, Ob.n, Ob.f, Ob.s, Ob.l, Ob.d, es_len, List.length_nil] at h
  exact h.mono fun _ _ ⟨he, hkk⟩ => ⟨by rw [he]; congr 2, hkk⟩
theorem setP_any (k : Int) (hk : k = 6 ∨ k = 8) (b0 : Nat) (j : Nat) (hj : j < 32) (p q : Option Addr) (c d : Nat) (w : World) (hb : b0 < w.heap.size) (h1 : Lies (Cel (fun b => b ≠ b0) w) (oN k 0 j) ⟨p, c, q, d⟩) :
    Calls Try.prog 10 #[.agg #[.int .i64 k, .int .i64 0, .int .i64 0, .string ⟨#[]⟩, .slice p 0 c, .slice q j d], .string (nm j), .agg #[.int .i64 2, .int .i64 1, .int .i64 (1000 * j), .string ⟨#[]⟩, .slice none 0 0, .slice none 0 0]] w fun e w' =>
      ∃ p c q d, e = .returned (.agg #[.int .i64 k, .int .i64 0, .int .i64 0, .string ⟨#[]⟩, .slice p 0 c, .slice q (j + 1) d]) ∧ Kept w w' ∧ Lies (Cel (fun b => b ≠ b0) w') (oN k 0 (j + 1)) ⟨p, c, q, d⟩ :=
  (setN_any k hk _ j hj p q c d w h1).mono fun _ _ ⟨p3, c3, q3, d3, he, hk, hl⟩ => ⟨p3, c3, q3, d3, he, hk, hl.weak fun b h => by omega⟩
theorem delP_any (k : Int) (hk : k = 6 ∨ k = 8) (b0 : Nat) (a n : Nat) (hj : a + (n + 1) ≤ 32) (p q : Option Addr) (c d : Nat) (w : World) (hb : b0 < w.heap.size) (h1 : Lies (Cel (fun b => b ≠ b0) w) (oN k a (n + 1)) ⟨p, c, q, d⟩) :
    Calls Try.prog 10 #[.agg #[.int .i64 k, .int .i64 0, .int .i64 0, .string ⟨#[]⟩, .slice p 0 c, .slice q (n + 1) d], .string (nm a), .agg #[.int .i64 0, .int .i64 0, .int .i64 0, .string ⟨#[]⟩, .slice none 0 0, .slice none 0 0]] w fun e w' =>
      ∃ p c q d, e = .returned (.agg #[.int .i64 k, .int .i64 0, .int .i64 0, .string ⟨#[]⟩, .slice p 0 c, .slice q n d]) ∧ Kept w w' ∧ Lies (Cel (fun b => b ≠ b0) w') (oN k (a + 1) n) ⟨p, c, q, d⟩ :=
  (delN_any k hk _ a n hj p q c d w h1).mono fun _ _ ⟨p3, c3, q3, d3, he, hk, hl⟩ => ⟨p3, c3, q3, d3, he, hk, hl.weak fun b h => by omega⟩

theorem int_oW : ∀ j : Nat, j < 32 → intO j = oW (1000 * j) := fun j hj => by
  have : ∀ j < 32, (Fx.intE ((j : Nat) : Int), Fx.intV ((j : Nat) : Int)) = (0, 1000 * ((j : Nat) : Int)) := by decide
  have := this j hj
  unfold intO oW
  rw [if_pos (congrArg Prod.fst this), show Fx.intV ((j : Nat) : Int) = 1000 * j from congrArg Prod.snd this]

theorem intN_any (j : Nat) (hj : j < 32) (w : World) : Calls Try.prog 15 #[.int .i64 j] w fun e w' => e = .returned (.agg #[.int .i64 2, .int .i64 1, .int .i64 (1000 * j), .string ⟨#[]⟩, .slice none 0 0, .slice none 0 0]) ∧ Kept w w' :=
  (cosInt_any j w (by omega) (by omega)).mono fun _ _ ⟨he, hk⟩ => ⟨by rw [he, int_oW j hj]; rfl, hk⟩

set_option maxRecDepth 100000 in
set_option maxHeartbeats 4000000 in
theorem cosCounts_any (n kind : Int) (w : World) (hm : HasMax w) : Calls Try.prog 6 #[.int .i64 n, .int .i64 kind] w fun e w' => e = .returned (.bool true) ∧ Kept w w' := by
  have HM := Lib.hid hm
  clear hm
  obtain ⟨K, hK, hK31⟩ := and31 n
  obtain ⟨B, hB⟩ : ∃ B, B = (bits BinOp.and IntKind.i64 kind 1 == 1) := ⟨_, rfl⟩
  go_enter Try.func6, Try.ntmps6
  go_wp2_with fail
  (with_reducible refine (cosAwake_any _ HM.out).mono ?_)
  rintro e w1 ⟨rfl, hk1⟩
  have HX1 := Lib.hid (In.fresh (In.kept (In.start w) hk1) #[.int .i64 6, .int .i64 0, .int .i64 0, .string ⟨#[]⟩, .slice none 0 0, .slice none 0 0] 26)
  have HX2 := Lib.hid (In.fresh (In.kept (In.start w) hk1) #[.int .i64 8, .int .i64 0, .int .i64 0, .string ⟨#[]⟩, .slice none 0 0, .slice none 0 0] 26)
  have hb0 : w.heap.size ≤ w1.heap.size := hk1.size
  clear hk1
  cases B
  · have hB' := hB.symm
    clear hB
    have HX := HX1
    clear HX1 HX2
    go_wp2_with fail
    obtain ⟨b0, hb⟩ : ∃ b0, b0 = w1.heap.size := ⟨_, rfl⟩
    rw [← hb] at HX hb0 ⊢
    clear hb
    go_loopg [9] K (fun m i wr => ∃ (j : Nat) (p q : Option Addr) (c d : Nat), m = K - j ∧ j ≤ K ∧ i = .int .i64 j ∧ In w [(b0, #[.int .i64 6, .int .i64 0, .int .i64 0, .string ⟨#[]⟩, .slice p 0 c, .slice q j d], 26)] wr ∧ Lies (Cel (fun b => b ≠ b0) wr) (oN 6 0 j) ⟨p, c, q, d⟩)
    case atStart => exact ⟨0, none, none, 0, 0, by omega, Nat.zero_le _, rfl, HX.out, Lies.flat _ 6 0 0 ⟨#[]⟩ _ (Nat.zero_le _)⟩
    case round =>
      obtain ⟨j, p, q, c, d, hm, hj, rfl, hI, hL⟩ := hrel
      have HI := Lib.hid hI
      have HL := Lib.hid hL
      have SK := Lib.hid (show ∀ w', Kept wr w' → (w'.cell? ⟨b0, 0, none⟩ = some (.int .i64 6) ∧ w'.cell? ⟨b0, 1, none⟩ = some (.int .i64 0) ∧ w'.cell? ⟨b0, 2, none⟩ = some (.int .i64 0) ∧ w'.cell? ⟨b0, 3, none⟩ = some (.string ⟨#[]⟩) ∧ w'.cell? ⟨b0, 4, none⟩ = some (.slice p 0 c) ∧ w'.cell? ⟨b0, 5, none⟩ = some (.slice q j d)) from fun w' k => ((HI.out.mem List.mem_cons_self).kept k).cells6)
      obtain ⟨t0, t1, t2, t3, t4, t5⟩ := SK.out _ (Kept.refl wr)
      clear hI hL HX
      by_cases hlt : j < K
      · have hex : (⟨#[97, 98, 99, 100, 101, 102, 103, 104, 105, 106, 107, 108, 109, 110, 111, 112, 113, 114, 115, 116, 117, 118, 119, 120, 121, 122, 65, 66, 67, 68, 69, 70, 71]⟩ : ByteArray).extract j (j + 1) = nm j := ext_nm j (by omega)
        have hw1 : IntKind.i64.wrap ((j : Int) + 1) = (j : Int) + 1 := by rw [IntKind.wrap_i64]; omega
        have hi0 : (0 : Int) ≤ (j : Int) := by omega
        have hi1 : (j : Int) ≤ (j : Int) + 1 := by omega
        have hi2 : (j : Int) + 1 ≤ 33 := by omega
        have hi3 : (j : Int) ≤ 33 := by omega
        have KX := Lib.hid (Kept.refl wr)
        have SETN := Lib.hid (setP_any 6 (by decide) b0 j (by omega) p q c d)
        have INTN := Lib.hid (intN_any j (by omega))
        go_wp2_with fail
        go_region_with
          (first
          | (go_at_call 15; (with_reducible refine (INTN.out _).mono ?_); rintro e wn ⟨rfl, kn⟩; (first | (with_reducible have KX := Lib.hid (KX.out.trans kn)) | (with_reducible have KX := Lib.hid (KX.out.drew.trans kn)) | (with_reducible have KX := Lib.hid (KX.out.drew.drew.trans kn))); obtain ⟨t0, t1, t2, t3, t4, t5⟩ := SK.out _ KX.out)
          | (go_at_call 10; (first | (with_reducible refine (SETN.out _ ((HI.out.mem List.mem_cons_self).kept KX.out).lt (HL.out.kept KX.out)).mono ?_) | (with_reducible refine (SETN.out _ ((HI.out.mem List.mem_cons_self).kept KX.out.drew).lt (HL.out.kept KX.out.drew)).mono ?_) | (with_reducible refine (SETN.out _ ((HI.out.mem List.mem_cons_self).kept KX.out.drew.drew).lt (HL.out.kept KX.out.drew.drew)).mono ?_)); rintro e wn ⟨p3, c3, q3, d3, rfl, kn, lx⟩; (first | (with_reducible have KX := Lib.hid (KX.out.trans kn)) | (with_reducible have KX := Lib.hid (KX.out.drew.trans kn)) | (with_reducible have KX := Lib.hid (KX.out.drew.drew.trans kn))); obtain ⟨t0, t1, t2, t3, t4, t5⟩ := SK.out _ KX.out; have BN := Lib.hid ((HI.out.mem List.mem_cons_self).kept KX.out); have uf := BN.out.free; have uz := BN.out.lt; have LX := Lib.hid lx; have IX := Lib.hid (In.tail (HI.out.kept KX.out))))
        all_goals
          go_wp2_with fail
          have IZ := Lib.hid (In.set6 IX.out BN.out hb0 (fun x hx => absurd hx List.not_mem_nil) (.int .i64 6) (.int .i64 0) (.int .i64 0) (.string ⟨#[]⟩) (.slice p3 0 c3) (.slice q3 (j + 1) d3))
          go_roundg (K - (j + 1))
          case measure => omega
          case rel =>
            refine ⟨j + 1, p3, q3, c3, d3, rfl, by omega, by go_num, ?_, ?_⟩
            · exact IZ.out
            · repeat (with_reducible first | exact LX.out | refine Lies.set ?_ (fun b h => h) _)
      · obtain rfl : j = K := by omega
        have CNT := Lib.hid (countN_any 6 (by decide) (fun b => b ≠ b0) j (by omega) p q c d)
        have hkb : ((j : Int) != (j : Int)) = false := bne_self_eq_false _
        go_wp2_with fail
        (with_reducible refine (CNT.out _ HL.out).mono ?_)
        rintro e w2 ⟨rfl, hk2⟩
        have HI2 := Lib.hid (HI.out.kept hk2)
        have HL2 := Lib.hid (HL.out.kept hk2)
        have HE2 := Lib.hid (show ∀ i (hi : i < j), (oN 6 0 j).d[i]'(by simpa [oN, Ob.d, es_len] using hi) = (nm i, oW (1000 * i)) from fun i hi => by
          simp only [oN, Ob.d]
          rw [es_get, Nat.zero_add])
        have hkb' : ((j : Int) + 1 != (j : Int) + 1) = false := bne_self_eq_false _
        clear hk2 t0 t1 t2 t3 t4 t5 SK HI HL hlt hj hm
        go_wp2_with fail
        go_loopg [10] j (fun m i wr => ∃ (i0 : Nat), m = j - i0 ∧ i0 ≤ j ∧ i = .int .i64 i0 ∧ In w [(b0, #[.int .i64 6, .int .i64 0, .int .i64 0, .string ⟨#[]⟩, .slice p 0 c, .slice q j d], 26)] wr ∧ Lies (Cel (fun b => b ≠ b0) wr) (oN 6 0 j) ⟨p, c, q, d⟩)
        case atStart => exact ⟨0, by omega, Nat.zero_le _, rfl, HI2.out, HL2.out⟩
        case round =>
          obtain ⟨i, hm, hi, rfl, hI, hL⟩ := hrel
          have HI := Lib.hid hI
          have HL := Lib.hid hL
          obtain ⟨t0, t1, t2, t3, t4, t5⟩ := (HI.out.mem List.mem_cons_self).cells6
          clear hI hL HI2 HL2
          by_cases hlt : i < j
          · obtain ⟨ek, x, b1, off, ⟨p', c', q', e'⟩, hxe, hqq, -, hbl, hx, -, z0, -⟩ := HL.out.entry i (by simpa [oN, Ob.d, es_len] using hlt)
            rw [HE2.out i hlt] at hxe
            injection hxe with hx1 hx2
            subst hx1
            simp only [] at hqq
            subst hqq
            have hex : (⟨#[97, 98, 99, 100, 101, 102, 103, 104, 105, 106, 107, 108, 109, 110, 111, 112, 113, 114, 115, 116, 117, 118, 119, 120, 121, 122, 65, 66, 67, 68, 69, 70, 71]⟩ : ByteArray).extract i (i + 1) = nm i := ext_nm i (by omega)
            have hw1 : IntKind.i64.wrap ((i : Int) + 1) = (i : Int) + 1 := by rw [IntKind.wrap_i64]; omega
            have hw2 : IntKind.i64.wrap (1000 * (i : Int)) = 1000 * (i : Int) := by rw [IntKind.wrap_i64]; omega
            have hi0 : (0 : Int) ≤ (i : Int) := by omega
            have hi1 : (i : Int) ≤ (i : Int) + 1 := by omega
            have hi2 : (i : Int) + 1 ≤ 33 := by omega
            have hi3 : (i : Int) ≤ 33 := by omega
            have hff := field_F
            have hneq : ((1000 * (i : Int)) != (1000 * (i : Int))) = false := bne_self_eq_false _
            have hkk2 : ((nm i).toList == (nm i).toList) = true := beq_self_eq_true _

            have GETN := Lib.hid (getN_any 6 (by decide) (fun b => b ≠ b0) j i (by omega) hlt p (some ⟨b1, off, none⟩) c d)
            have KX := Lib.hid (Kept.refl wr)
            have SK := Lib.hid (show ∀ w', Kept wr w' → (w'.cell? ⟨b0, 0, none⟩ = some (.int .i64 6) ∧ w'.cell? ⟨b0, 1, none⟩ = some (.int .i64 0) ∧ w'.cell? ⟨b0, 2, none⟩ = some (.int .i64 0) ∧ w'.cell? ⟨b0, 3, none⟩ = some (.string ⟨#[]⟩) ∧ w'.cell? ⟨b0, 4, none⟩ = some (.slice p 0 c) ∧ w'.cell? ⟨b0, 5, none⟩ = some (.slice (some ⟨b1, off, none⟩) j d)) ∧ w'.cell? ⟨b1, off + i * 7, none⟩ = some (.string (nm i)) from fun w' k => ⟨((HI.out.mem List.mem_cons_self).kept k).cells6, ((Kept.cells k).1 _ _ hbl).trans z0⟩)
            clear hx hx2
            go_wp2_with fail
            go_region_held3 (fun w' => (w'.cell? ⟨b0, 0, none⟩ = some (.int .i64 6) ∧ w'.cell? ⟨b0, 1, none⟩ = some (.int .i64 0) ∧ w'.cell? ⟨b0, 2, none⟩ = some (.int .i64 0) ∧ w'.cell? ⟨b0, 3, none⟩ = some (.string ⟨#[]⟩) ∧ w'.cell? ⟨b0, 4, none⟩ = some (.slice p 0 c) ∧ w'.cell? ⟨b0, 5, none⟩ = some (.slice (some ⟨b1, off, none⟩) j d)) ∧ w'.cell? ⟨b1, off + i * 7, none⟩ = some (.string (nm i))) (go_keep)
              (first
              | (go_at_call 11; (first | (with_reducible refine (GETN.out _ (HL.out.kept KX.out)).mono ?_) | (with_reducible refine (GETN.out _ (HL.out.kept KX.out.drew)).mono ?_) | (with_reducible refine (GETN.out _ (HL.out.kept KX.out.drew.drew)).mono ?_)); rintro e wn ⟨p3, c3, q3, d3, rfl, kn⟩; (first | (with_reducible have KX := Lib.hid (KX.out.trans kn)) | (with_reducible have KX := Lib.hid (KX.out.drew.trans kn)) | (with_reducible have KX := Lib.hid (KX.out.drew.drew.trans kn))); obtain ⟨⟨t0, t1, t2, t3, t4, t5⟩, z0⟩ := SK.out _ KX.out))
            all_goals
              go_wp2_with fail
              go_roundg (j - (i + 1))
              case measure => omega
              case rel => exact ⟨i + 1, rfl, by omega, by go_num, HI.out.kept KX.out, HL.out.kept KX.out⟩
          · obtain rfl : i = j := by omega
            clear hlt
            go_wp2_with fail
            clear t0 t1 t2 t3 t4 t5
            go_loopg [11] i (fun m v wr => ∃ (a r : Nat) (p q : Option Addr) (c d : Nat), m = r ∧ a + r = i ∧ v = .int .i64 a ∧ In w [(b0, #[.int .i64 6, .int .i64 0, .int .i64 0, .string ⟨#[]⟩, .slice p 0 c, .slice q r d], 26)] wr ∧ Lies (Cel (fun b => b ≠ b0) wr) (oN 6 a r) ⟨p, c, q, d⟩)
            case atStart => exact ⟨0, i, p, q, c, d, rfl, by omega, rfl, HI.out, HL.out⟩
            case round =>
              clear HI HL
              obtain ⟨j, r, p, q, c, d, hm, hj, rfl, hI, hL⟩ := hrel
              have HI := Lib.hid hI
              have HL := Lib.hid hL
              obtain ⟨t0, t1, t2, t3, t4, t5⟩ := (HI.out.mem List.mem_cons_self).cells6
              clear hI hL
              by_cases h0 : r = 0
              · subst h0
                obtain rfl : j = i := by omega
                have HK := Lib.hid (In.k HI.out)
                go_wp2_with fail
                go_ret
                exact ⟨rfl, HK.out⟩
              · obtain ⟨r, rfl⟩ : ∃ q, r = q + 1 := ⟨r - 1, by omega⟩
                clear h0
                have hlt : j < i := by omega
                have SK := Lib.hid (show ∀ w', Kept wr w' → (w'.cell? ⟨b0, 0, none⟩ = some (.int .i64 6) ∧ w'.cell? ⟨b0, 1, none⟩ = some (.int .i64 0) ∧ w'.cell? ⟨b0, 2, none⟩ = some (.int .i64 0) ∧ w'.cell? ⟨b0, 3, none⟩ = some (.string ⟨#[]⟩) ∧ w'.cell? ⟨b0, 4, none⟩ = some (.slice p 0 c) ∧ w'.cell? ⟨b0, 5, none⟩ = some (.slice q (r + 1) d)) from fun w' k => ((HI.out.mem List.mem_cons_self).kept k).cells6)
                have hex : (⟨#[97, 98, 99, 100, 101, 102, 103, 104, 105, 106, 107, 108, 109, 110, 111, 112, 113, 114, 115, 116, 117, 118, 119, 120, 121, 122, 65, 66, 67, 68, 69, 70, 71]⟩ : ByteArray).extract j (j + 1) = nm j := ext_nm j (by omega)
                have hw1 : IntKind.i64.wrap ((j : Int) + 1) = (j : Int) + 1 := by rw [IntKind.wrap_i64]; omega
                have hi0 : (0 : Int) ≤ (j : Int) := by omega
                have hi1 : (j : Int) ≤ (j : Int) + 1 := by omega
                have hi2 : (j : Int) + 1 ≤ 33 := by omega
                have hi3 : (j : Int) ≤ 33 := by omega
                have KX := Lib.hid (Kept.refl wr)
                have SETN := Lib.hid (delP_any 6 (by decide) b0 j r (by omega) p q c d)
                go_wp2_with fail
                go_region_with
                  (first
                  | (go_at_call 10; (first | (with_reducible refine (SETN.out _ ((HI.out.mem List.mem_cons_self).kept KX.out).lt (HL.out.kept KX.out)).mono ?_) | (with_reducible refine (SETN.out _ ((HI.out.mem List.mem_cons_self).kept KX.out.drew).lt (HL.out.kept KX.out.drew)).mono ?_) | (with_reducible refine (SETN.out _ ((HI.out.mem List.mem_cons_self).kept KX.out.drew.drew).lt (HL.out.kept KX.out.drew.drew)).mono ?_)); rintro e wn ⟨p3, c3, q3, d3, rfl, kn, lx⟩; (first | (with_reducible have KX := Lib.hid (KX.out.trans kn)) | (with_reducible have KX := Lib.hid (KX.out.drew.trans kn)) | (with_reducible have KX := Lib.hid (KX.out.drew.drew.trans kn))); obtain ⟨t0, t1, t2, t3, t4, t5⟩ := SK.out _ KX.out; have BN := Lib.hid ((HI.out.mem List.mem_cons_self).kept KX.out); have uf := BN.out.free; have uz := BN.out.lt; have LX := Lib.hid lx; have IX := Lib.hid (In.tail (HI.out.kept KX.out))))
                all_goals
                  go_wp2_with fail
                  have IZ := Lib.hid (In.set6 IX.out BN.out hb0 (fun x hx => absurd hx List.not_mem_nil) (.int .i64 6) (.int .i64 0) (.int .i64 0) (.string ⟨#[]⟩) (.slice p3 0 c3) (.slice q3 r d3))
                  go_roundg r
                  case measure => omega
                  case rel =>
                    refine ⟨j + 1, r, p3, q3, c3, d3, rfl, by omega, by go_num, ?_, ?_⟩
                    · exact IZ.out
                    · repeat (with_reducible first | exact LX.out | refine Lies.set ?_ (fun b h => h) _)
  · have hB' := hB.symm
    clear hB
    have HX := HX2
    clear HX1 HX2
    go_wp2_with fail
    obtain ⟨b0, hb⟩ : ∃ b0, b0 = w1.heap.size := ⟨_, rfl⟩
    rw [← hb] at HX hb0 ⊢
    clear hb
    go_loopg [9] K (fun m i wr => ∃ (j : Nat) (p q : Option Addr) (c d : Nat), m = K - j ∧ j ≤ K ∧ i = .int .i64 j ∧ In w [(b0, #[.int .i64 8, .int .i64 0, .int .i64 0, .string ⟨#[]⟩, .slice p 0 c, .slice q j d], 26)] wr ∧ Lies (Cel (fun b => b ≠ b0) wr) (oN 8 0 j) ⟨p, c, q, d⟩)
    case atStart => exact ⟨0, none, none, 0, 0, by omega, Nat.zero_le _, rfl, HX.out, Lies.flat _ 8 0 0 ⟨#[]⟩ _ (Nat.zero_le _)⟩
    case round =>
      obtain ⟨j, p, q, c, d, hm, hj, rfl, hI, hL⟩ := hrel
      have HI := Lib.hid hI
      have HL := Lib.hid hL
      have SK := Lib.hid (show ∀ w', Kept wr w' → (w'.cell? ⟨b0, 0, none⟩ = some (.int .i64 8) ∧ w'.cell? ⟨b0, 1, none⟩ = some (.int .i64 0) ∧ w'.cell? ⟨b0, 2, none⟩ = some (.int .i64 0) ∧ w'.cell? ⟨b0, 3, none⟩ = some (.string ⟨#[]⟩) ∧ w'.cell? ⟨b0, 4, none⟩ = some (.slice p 0 c) ∧ w'.cell? ⟨b0, 5, none⟩ = some (.slice q j d)) from fun w' k => ((HI.out.mem List.mem_cons_self).kept k).cells6)
      obtain ⟨t0, t1, t2, t3, t4, t5⟩ := SK.out _ (Kept.refl wr)
      clear hI hL HX
      by_cases hlt : j < K
      · have hex : (⟨#[97, 98, 99, 100, 101, 102, 103, 104, 105, 106, 107, 108, 109, 110, 111, 112, 113, 114, 115, 116, 117, 118, 119, 120, 121, 122, 65, 66, 67, 68, 69, 70, 71]⟩ : ByteArray).extract j (j + 1) = nm j := ext_nm j (by omega)
        have hw1 : IntKind.i64.wrap ((j : Int) + 1) = (j : Int) + 1 := by rw [IntKind.wrap_i64]; omega
        have hi0 : (0 : Int) ≤ (j : Int) := by omega
        have hi1 : (j : Int) ≤ (j : Int) + 1 := by omega
        have hi2 : (j : Int) + 1 ≤ 33 := by omega
        have hi3 : (j : Int) ≤ 33 := by omega
        have KX := Lib.hid (Kept.refl wr)
        have SETN := Lib.hid (setP_any 8 (by decide) b0 j (by omega) p q c d)
        have INTN := Lib.hid (intN_any j (by omega))
        go_wp2_with fail
        go_region_with
          (first
          | (go_at_call 15; (with_reducible refine (INTN.out _).mono ?_); rintro e wn ⟨rfl, kn⟩; (first | (with_reducible have KX := Lib.hid (KX.out.trans kn)) | (with_reducible have KX := Lib.hid (KX.out.drew.trans kn)) | (with_reducible have KX := Lib.hid (KX.out.drew.drew.trans kn))); obtain ⟨t0, t1, t2, t3, t4, t5⟩ := SK.out _ KX.out)
          | (go_at_call 10; (first | (with_reducible refine (SETN.out _ ((HI.out.mem List.mem_cons_self).kept KX.out).lt (HL.out.kept KX.out)).mono ?_) | (with_reducible refine (SETN.out _ ((HI.out.mem List.mem_cons_self).kept KX.out.drew).lt (HL.out.kept KX.out.drew)).mono ?_) | (with_reducible refine (SETN.out _ ((HI.out.mem List.mem_cons_self).kept KX.out.drew.drew).lt (HL.out.kept KX.out.drew.drew)).mono ?_)); rintro e wn ⟨p3, c3, q3, d3, rfl, kn, lx⟩; (first | (with_reducible have KX := Lib.hid (KX.out.trans kn)) | (with_reducible have KX := Lib.hid (KX.out.drew.trans kn)) | (with_reducible have KX := Lib.hid (KX.out.drew.drew.trans kn))); obtain ⟨t0, t1, t2, t3, t4, t5⟩ := SK.out _ KX.out; have BN := Lib.hid ((HI.out.mem List.mem_cons_self).kept KX.out); have uf := BN.out.free; have uz := BN.out.lt; have LX := Lib.hid lx; have IX := Lib.hid (In.tail (HI.out.kept KX.out))))
        all_goals
          go_wp2_with fail
          have IZ := Lib.hid (In.set6 IX.out BN.out hb0 (fun x hx => absurd hx List.not_mem_nil) (.int .i64 8) (.int .i64 0) (.int .i64 0) (.string ⟨#[]⟩) (.slice p3 0 c3) (.slice q3 (j + 1) d3))
          go_roundg (K - (j + 1))
          case measure => omega
          case rel =>
            refine ⟨j + 1, p3, q3, c3, d3, rfl, by omega, by go_num, ?_, ?_⟩
            · exact IZ.out
            · repeat (with_reducible first | exact LX.out | refine Lies.set ?_ (fun b h => h) _)
      · obtain rfl : j = K := by omega
        have CNT := Lib.hid (countN_any 8 (by decide) (fun b => b ≠ b0) j (by omega) p q c d)
        have hkb : ((j : Int) != (j : Int)) = false := bne_self_eq_false _
        go_wp2_with fail
        (with_reducible refine (CNT.out _ HL.out).mono ?_)
        rintro e w2 ⟨rfl, hk2⟩
        have HI2 := Lib.hid (HI.out.kept hk2)
        have HL2 := Lib.hid (HL.out.kept hk2)
        have HE2 := Lib.hid (show ∀ i (hi : i < j), (oN 8 0 j).d[i]'(by simpa [oN, Ob.d, es_len] using hi) = (nm i, oW (1000 * i)) from fun i hi => by
          simp only [oN, Ob.d]
          rw [es_get, Nat.zero_add])
        have hkb' : ((j : Int) + 1 != (j : Int) + 1) = false := bne_self_eq_false _
        clear hk2 t0 t1 t2 t3 t4 t5 SK HI HL hlt hj hm
        go_wp2_with fail
        go_loopg [10] j (fun m i wr => ∃ (i0 : Nat), m = j - i0 ∧ i0 ≤ j ∧ i = .int .i64 i0 ∧ In w [(b0, #[.int .i64 8, .int .i64 0, .int .i64 0, .string ⟨#[]⟩, .slice p 0 c, .slice q j d], 26)] wr ∧ Lies (Cel (fun b => b ≠ b0) wr) (oN 8 0 j) ⟨p, c, q, d⟩)
        case atStart => exact ⟨0, by omega, Nat.zero_le _, rfl, HI2.out, HL2.out⟩
        case round =>
          obtain ⟨i, hm, hi, rfl, hI, hL⟩ := hrel
          have HI := Lib.hid hI
          have HL := Lib.hid hL
          obtain ⟨t0, t1, t2, t3, t4, t5⟩ := (HI.out.mem List.mem_cons_self).cells6
          clear hI hL HI2 HL2
          by_cases hlt : i < j
          · obtain ⟨ek, x, b1, off, ⟨p', c', q', e'⟩, hxe, hqq, -, hbl, hx, -, z0, -⟩ := HL.out.entry i (by simpa [oN, Ob.d, es_len] using hlt)
            rw [HE2.out i hlt] at hxe
            injection hxe with hx1 hx2
            subst hx1
            simp only [] at hqq
            subst hqq
            have hex : (⟨#[97, 98, 99, 100, 101, 102, 103, 104, 105, 106, 107, 108, 109, 110, 111, 112, 113, 114, 115, 116, 117, 118, 119, 120, 121, 122, 65, 66, 67, 68, 69, 70, 71]⟩ : ByteArray).extract i (i + 1) = nm i := ext_nm i (by omega)
            have hw1 : IntKind.i64.wrap ((i : Int) + 1) = (i : Int) + 1 := by rw [IntKind.wrap_i64]; omega
            have hw2 : IntKind.i64.wrap (1000 * (i : Int)) = 1000 * (i : Int) := by rw [IntKind.wrap_i64]; omega
            have hi0 : (0 : Int) ≤ (i : Int) := by omega
            have hi1 : (i : Int) ≤ (i : Int) + 1 := by omega
            have hi2 : (i : Int) + 1 ≤ 33 := by omega
            have hi3 : (i : Int) ≤ 33 := by omega
            have hff := field_F
            have hneq : ((1000 * (i : Int)) != (1000 * (i : Int))) = false := bne_self_eq_false _
            have hkk2 : ((nm i).toList == (nm i).toList) = true := beq_self_eq_true _

            have GETN := Lib.hid (getN_any 8 (by decide) (fun b => b ≠ b0) j i (by omega) hlt p (some ⟨b1, off, none⟩) c d)
            have KX := Lib.hid (Kept.refl wr)
            have SK := Lib.hid (show ∀ w', Kept wr w' → (w'.cell? ⟨b0, 0, none⟩ = some (.int .i64 8) ∧ w'.cell? ⟨b0, 1, none⟩ = some (.int .i64 0) ∧ w'.cell? ⟨b0, 2, none⟩ = some (.int .i64 0) ∧ w'.cell? ⟨b0, 3, none⟩ = some (.string ⟨#[]⟩) ∧ w'.cell? ⟨b0, 4, none⟩ = some (.slice p 0 c) ∧ w'.cell? ⟨b0, 5, none⟩ = some (.slice (some ⟨b1, off, none⟩) j d)) ∧ w'.cell? ⟨b1, off + i * 7, none⟩ = some (.string (nm i)) from fun w' k => ⟨((HI.out.mem List.mem_cons_self).kept k).cells6, ((Kept.cells k).1 _ _ hbl).trans z0⟩)
            clear hx hx2
            go_wp2_with fail
            go_region_held3 (fun w' => (w'.cell? ⟨b0, 0, none⟩ = some (.int .i64 8) ∧ w'.cell? ⟨b0, 1, none⟩ = some (.int .i64 0) ∧ w'.cell? ⟨b0, 2, none⟩ = some (.int .i64 0) ∧ w'.cell? ⟨b0, 3, none⟩ = some (.string ⟨#[]⟩) ∧ w'.cell? ⟨b0, 4, none⟩ = some (.slice p 0 c) ∧ w'.cell? ⟨b0, 5, none⟩ = some (.slice (some ⟨b1, off, none⟩) j d)) ∧ w'.cell? ⟨b1, off + i * 7, none⟩ = some (.string (nm i))) (go_keep)
              (first
              | (go_at_call 11; (first | (with_reducible refine (GETN.out _ (HL.out.kept KX.out)).mono ?_) | (with_reducible refine (GETN.out _ (HL.out.kept KX.out.drew)).mono ?_) | (with_reducible refine (GETN.out _ (HL.out.kept KX.out.drew.drew)).mono ?_)); rintro e wn ⟨p3, c3, q3, d3, rfl, kn⟩; (first | (with_reducible have KX := Lib.hid (KX.out.trans kn)) | (with_reducible have KX := Lib.hid (KX.out.drew.trans kn)) | (with_reducible have KX := Lib.hid (KX.out.drew.drew.trans kn))); obtain ⟨⟨t0, t1, t2, t3, t4, t5⟩, z0⟩ := SK.out _ KX.out))
            all_goals
              go_wp2_with fail
              go_roundg (j - (i + 1))
              case measure => omega
              case rel => exact ⟨i + 1, rfl, by omega, by go_num, HI.out.kept KX.out, HL.out.kept KX.out⟩
          · obtain rfl : i = j := by omega
            clear hlt
            go_wp2_with fail
            clear t0 t1 t2 t3 t4 t5
            go_loopg [11] i (fun m v wr => ∃ (a r : Nat) (p q : Option Addr) (c d : Nat), m = r ∧ a + r = i ∧ v = .int .i64 a ∧ In w [(b0, #[.int .i64 8, .int .i64 0, .int .i64 0, .string ⟨#[]⟩, .slice p 0 c, .slice q r d], 26)] wr ∧ Lies (Cel (fun b => b ≠ b0) wr) (oN 8 a r) ⟨p, c, q, d⟩)
            case atStart => exact ⟨0, i, p, q, c, d, rfl, by omega, rfl, HI.out, HL.out⟩
            case round =>
              clear HI HL
              obtain ⟨j, r, p, q, c, d, hm, hj, rfl, hI, hL⟩ := hrel
              have HI := Lib.hid hI
              have HL := Lib.hid hL
              obtain ⟨t0, t1, t2, t3, t4, t5⟩ := (HI.out.mem List.mem_cons_self).cells6
              clear hI hL
              by_cases h0 : r = 0
              · subst h0
                obtain rfl : j = i := by omega
                have HK := Lib.hid (In.k HI.out)
                go_wp2_with fail
                go_ret
                exact ⟨rfl, HK.out⟩
              · obtain ⟨r, rfl⟩ : ∃ q, r = q + 1 := ⟨r - 1, by omega⟩
                clear h0
                have hlt : j < i := by omega
                have SK := Lib.hid (show ∀ w', Kept wr w' → (w'.cell? ⟨b0, 0, none⟩ = some (.int .i64 8) ∧ w'.cell? ⟨b0, 1, none⟩ = some (.int .i64 0) ∧ w'.cell? ⟨b0, 2, none⟩ = some (.int .i64 0) ∧ w'.cell? ⟨b0, 3, none⟩ = some (.string ⟨#[]⟩) ∧ w'.cell? ⟨b0, 4, none⟩ = some (.slice p 0 c) ∧ w'.cell? ⟨b0, 5, none⟩ = some (.slice q (r + 1) d)) from fun w' k => ((HI.out.mem List.mem_cons_self).kept k).cells6)
                have hex : (⟨#[97, 98, 99, 100, 101, 102, 103, 104, 105, 106, 107, 108, 109, 110, 111, 112, 113, 114, 115, 116, 117, 118, 119, 120, 121, 122, 65, 66, 67, 68, 69, 70, 71]⟩ : ByteArray).extract j (j + 1) = nm j := ext_nm j (by omega)
                have hw1 : IntKind.i64.wrap ((j : Int) + 1) = (j : Int) + 1 := by rw [IntKind.wrap_i64]; omega
                have hi0 : (0 : Int) ≤ (j : Int) := by omega
                have hi1 : (j : Int) ≤ (j : Int) + 1 := by omega
                have hi2 : (j : Int) + 1 ≤ 33 := by omega
                have hi3 : (j : Int) ≤ 33 := by omega
                have KX := Lib.hid (Kept.refl wr)
                have SETN := Lib.hid (delP_any 8 (by decide) b0 j r (by omega) p q c d)
                go_wp2_with fail
                go_region_with
                  (first
                  | (go_at_call 10; (first | (with_reducible refine (SETN.out _ ((HI.out.mem List.mem_cons_self).kept KX.out).lt (HL.out.kept KX.out)).mono ?_) | (with_reducible refine (SETN.out _ ((HI.out.mem List.mem_cons_self).kept KX.out.drew).lt (HL.out.kept KX.out.drew)).mono ?_) | (with_reducible refine (SETN.out _ ((HI.out.mem List.mem_cons_self).kept KX.out.drew.drew).lt (HL.out.kept KX.out.drew.drew)).mono ?_)); rintro e wn ⟨p3, c3, q3, d3, rfl, kn, lx⟩; (first | (with_reducible have KX := Lib.hid (KX.out.trans kn)) | (with_reducible have KX := Lib.hid (KX.out.drew.trans kn)) | (with_reducible have KX := Lib.hid (KX.out.drew.drew.trans kn))); obtain ⟨t0, t1, t2, t3, t4, t5⟩ := SK.out _ KX.out; have BN := Lib.hid ((HI.out.mem List.mem_cons_self).kept KX.out); have uf := BN.out.free; have uz := BN.out.lt; have LX := Lib.hid lx; have IX := Lib.hid (In.tail (HI.out.kept KX.out))))
                all_goals
                  go_wp2_with fail
                  have IZ := Lib.hid (In.set6 IX.out BN.out hb0 (fun x hx => absurd hx List.not_mem_nil) (.int .i64 8) (.int .i64 0) (.int .i64 0) (.string ⟨#[]⟩) (.slice p3 0 c3) (.slice q3 r d3))
                  go_roundg r
                  case measure => omega
                  case rel =>
                    refine ⟨j + 1, r, p3, q3, c3, d3, rfl, by omega, by go_num, ?_, ?_⟩
                    · exact IZ.out
                    · repeat (with_reducible first | exact LX.out | refine Lies.set ?_ (fun b h => h) _)

end Go.Proofs.Ytdfgbdonnpbfcaa
