/-
  What package cos's sameEntries says, under what Same says of all that stand in the first list.
-/
import Derived.Test.YtdfgbdonnpbfcaaCosEqual
import Derived.Deep.RegionHeld3
import Derived.Deep.DrawnRows
namespace Go.Proofs.Ytdfgbdonnpbfcaa
open Go.RowKit Cx

set_option maxRecDepth 100000 in
set_option maxHeartbeats 4000000 in
theorem sameEntries_any (P : Nat → Prop) (a b : List Entr) (q1 q2 : Option Addr) (c1 c2 : Nat) (w : World) (h1 : Lies (Cel P w) (dictO a) ⟨none, 0, q1, c1⟩) (h2 : Lies (Cel P w) (dictO b) ⟨none, 0, q2, c2⟩) (IH : ∀ e ∈ a, SameC P e.2) (hw : ∀ e ∈ b, e.2.wt ≤ 4294967296) (ha : a.length ≤ 4294967296) (hb : b.length ≤ 4294967296) :
    Calls Try.prog 22 #[.slice q1 a.length c1, .slice q2 b.length c2] w fun e w' => e = .returned (.bool (nkGo [] a == nkGo [] b && sameE [] a b)) ∧ Kept w w' := by
  have H1 := Lib.hid h1
  have H2 := Lib.hid h2
  have HI := Lib.hid IH
  have HW := Lib.hid hw
  have FA := Lib.hid (firsts_any P a q1 c1 w h1 ha)
  have FB := Lib.hid (fun w' (k : Kept w w') => firsts_any P b q2 c2 w' (h2.kept k) hb)
  clear h1 h2 IH hw
  obtain ⟨na, hna⟩ : ∃ na, na = nkGo [] a := ⟨_, rfl⟩
  obtain ⟨nb, hnb⟩ : ∃ nb, nb = nkGo [] b := ⟨_, rfl⟩
  rw [← hna, ← hnb]
  rw [← hna] at FA
  rw [← hnb] at FB
  clear hna hnb
  cases hq : (na == nb)
  · have hq' : ((na : Int) != (nb : Int)) = true := by
      rw [bne_iff_ne]; intro e; have := Int.ofNat.inj e; rw [beq_eq_false_iff_ne] at hq; exact hq this
    rw [Bool.false_and]
    clear hq
    go_enter Try.func22, Try.ntmps22
    go_wp2_with fail
    (with_reducible refine FA.out.mono ?_)
    rintro e w1 ⟨rfl, hI1, hk1⟩
    have IA := Lib.hid hI1
    have K1 := Lib.hid hk1
    clear hI1 hk1
    go_wp2_with fail
    (with_reducible refine (FB.out _ K1.out).mono ?_)
    rintro e w2 ⟨rfl, hI2, hk2⟩
    have IA2 := Lib.hid (IA.out.keptK hk2)
    have IB := Lib.hid hI2
    have K2 := Lib.hid (K1.out.trans hk2)
    clear hI2 hk2 IA
    go_wp2_with (first | (at_len; refine wpList_idxs_len rfl _ rfl IA2.out rfl ?_) | (at_len; refine wpList_idxs_len rfl _ rfl IB.out rfl ?_))
    go_ret
    exact ⟨rfl, K2.out⟩
  · have hq' : ((na : Int) != (nb : Int)) = false := by
      rw [beq_iff_eq] at hq; subst hq; exact bne_self_eq_false _
    rw [Bool.true_and]
    clear hq
    go_enter Try.func22, Try.ntmps22
    go_wp2_with fail
    (with_reducible refine FA.out.mono ?_)
    rintro e w1 ⟨rfl, hI1, hk1⟩
    have IA := Lib.hid hI1
    have K1 := Lib.hid hk1
    clear hI1 hk1
    go_wp2_with fail
    (with_reducible refine (FB.out _ K1.out).mono ?_)
    rintro e w2 ⟨rfl, hI2, hk2⟩
    have IA2 := Lib.hid (IA.out.keptK hk2)
    have IB := Lib.hid hI2
    have K2 := Lib.hid (K1.out.trans hk2)
    clear hI2 hk2 IA
    obtain ⟨A, hA⟩ : ∃ A, A = w.heap.size := ⟨_, rfl⟩
    obtain ⟨B, hB⟩ : ∃ B, B = w1.heap.size := ⟨_, rfl⟩
    rw [← hA] at IA2 ⊢
    rw [← hB] at IB ⊢
    clear hA hB
    go_wp2_with (first | (at_len; refine wpList_idxs_len rfl _ rfl IA2.out rfl ?_) | (at_len; refine wpList_idxs_len rfl _ rfl IB.out rfl ?_))
    go_loopg [22] (a.length) (fun m i wr => ∃ (j : Nat), m = a.length - j ∧ j ≤ a.length ∧ i = .int .i64 j ∧ Kept w wr ∧ Idx wr A a.length (fstJ a) ∧ Idx wr B b.length (fstJ b) ∧ Hid (sameE [] a b = sameE (a.take j) (a.drop j) b))
    case atStart => exact ⟨0, by omega, Nat.zero_le _, rfl, K2.out, IA2.out.idx, IB.out.idx, Lib.hid (by rw [List.take_zero, List.drop_zero])⟩
    case round =>
      obtain ⟨j, hm, hj, rfl, hk, hIA, hIB, HS⟩ := hrel
      have HK := Lib.hid hk
      have HA := Lib.hid hIA
      have HB := Lib.hid hIB
      clear hk hIA hIB IA2 IB K2
      by_cases hlt : j < a.length
      · obtain ⟨ek, x, b1, off, ⟨p', c', q', e'⟩, hxe, hqq, hPb, hbl, hx, hks, z0, y0, y1, y2, y3, y4, y5⟩ := (H1.out.kept HK.out).entry j hlt
        simp only [dictO, Ob.d] at hxe
        simp only [] at hqq y4 y5
        subst hqq
        have HEK := Lib.hid hks
        have HXL := Lib.hid hx
        have HST := Lib.hid (show sameE (a.take j) (a.drop j) b = ((hasK (a.take j) ek || (hasK b ek && x.same (getD b ek))) && sameE (a.take (j + 1)) (a.drop (j + 1)) b) by rw [sameE_step a b j hlt, hxe])
        have HFA := Lib.hid (show fstJ a ek = some j ↔ hasK (a.take j) ek = false by have := fstJ_at a j hlt; rwa [hxe] at this)
        have HHA := Lib.hid (show fstJ a ek = some (idxK a ek) by
          have := hasK_at a j hlt
          rw [hxe] at this
          unfold fstJ; rw [this, if_pos rfl])
        have CS := HI.out (ek, x) (by rw [← hxe]; exact List.getElem_mem hlt)
        have CS1 := Lib.hid CS
        have HB1 := Lib.hid (Blk.fresh wr #[.string ek, .int .i64 x.k, .int .i64 x.n, .int .i64 x.f, .string x.s, .slice p' x.l.length c', .slice q' x.d.length e'] 34)
        have K1' := Lib.hid (HK.out.alloc #[.string ek, .int .i64 x.k, .int .i64 x.n, .int .i64 x.f, .string x.s, .slice p' x.l.length c', .slice q' x.d.length e'] 34)
        have A1 := Lib.hid (HA.out.keptK ((Kept.refl wr).alloc #[.string ek, .int .i64 x.k, .int .i64 x.n, .int .i64 x.f, .string x.s, .slice p' x.l.length c', .slice q' x.d.length e'] 34))
        have B1 := Lib.hid (HB.out.keptK ((Kept.refl wr).alloc #[.string ek, .int .i64 x.k, .int .i64 x.n, .int .i64 x.f, .string x.s, .slice p' x.l.length c', .slice q' x.d.length e'] 34))
        have XL1 := Lib.hid (HXL.out.kept ((Kept.refl wr).alloc #[.string ek, .int .i64 x.k, .int .i64 x.n, .int .i64 x.f, .string x.s, .slice p' x.l.length c', .slice q' x.d.length e'] 34))
        clear CS hx hxe hPb hks
        obtain ⟨ia, hia⟩ : ∃ ia, ia = idxK a ek := ⟨_, rfl⟩
        rw [← hia] at HHA
        clear hia
        cases hT : hasK (a.take j) ek
        · -- the first one of its key
          have hij : ia = j := by
            have h1 := HFA.out.2 hT
            rw [HHA.out] at h1
            injection h1
          rw [hij] at HHA
          clear hij
          have hnn : ((j : Int) != (j : Int)) = false := bne_self_eq_false _
          cases hJ : fstJ b ek with
          | none =>
            have HR := Lib.hid (show sameE [] a b = false by rw [HS.out, HST.out, hT, fstJ_none hJ]; rfl)
            go_wp2_with (first | (at_lookup; refine wpList_idx_get rfl _ _ rfl A1.out rfl ek rfl HEK.out ?_; rw [HHA.out]; simp only [Option.getD_some]) | (at_lookup; refine wpList_idx_ok rfl _ _ rfl B1.out rfl ek rfl HEK.out ?_; rw [hJ]; simp only [Option.getD_none, Option.isSome_none]))
            go_quiet (fail)
            go_wp2_with fail
            go_ret
            exact ⟨ret_bool HR.out.symm, by
              repeat (with_reducible first | exact K1'.out | refine Kept.drewN ?_ _ | refine Kept.drew ?_)⟩
          | some jb =>
            obtain ⟨hB1, -, hjb, hjv⟩ := fstJ_some hJ
            obtain ⟨ek2, y, b2, off2, ⟨p2', c2', q2', e2'⟩, hye, hqq2, hPb2, hbl2, hy, -, v0, u1, u2, u3, u4, u5, u6⟩ := (H2.out.kept K1'.out).entry jb hjb
            simp only [dictO, Ob.d] at hye
            simp only [] at hqq2 u5 u6
            subst hqq2
            rw [hye] at hjv
            have HJV := Lib.hid (show getD b ek = y from hjv.symm)
            have YL1 := Lib.hid hy
            have HYW := Lib.hid (show y.wt ≤ 4294967296 from HW.out (ek2, y) (by rw [← hye]; exact List.getElem_mem hjb))
            have CS2 := CS1.out y ⟨p', c', q', e'⟩ ⟨p2', c2', q2', e2'⟩
            unfold objV at CS2
            simp only [] at CS2
            have CS3 := Lib.hid CS2
            clear CS2 hy hye hPb2 hjv
            have SK := Lib.hid (show ∀ w', Kept (wr.alloc (.cells #[.string ek, .int .i64 x.k, .int .i64 x.n, .int .i64 x.f, .string x.s, .slice p' x.l.length c', .slice q' x.d.length e'] 34)) w' → (w'.cell? ⟨wr.heap.size, 1, none⟩ = some (.int .i64 x.k) ∧ w'.cell? ⟨wr.heap.size, 2, none⟩ = some (.int .i64 x.n) ∧ w'.cell? ⟨wr.heap.size, 3, none⟩ = some (.int .i64 x.f) ∧ w'.cell? ⟨wr.heap.size, 4, none⟩ = some (.string x.s) ∧ w'.cell? ⟨wr.heap.size, 5, none⟩ = some (.slice p' x.l.length c') ∧ w'.cell? ⟨wr.heap.size, 6, none⟩ = some (.slice q' x.d.length e')) ∧ w'.cell? ⟨b2, off2 + jb * 7 + 1, none⟩ = some (.int .i64 y.k) ∧ w'.cell? ⟨b2, off2 + jb * 7 + 2, none⟩ = some (.int .i64 y.n) ∧ w'.cell? ⟨b2, off2 + jb * 7 + 3, none⟩ = some (.int .i64 y.f) ∧ w'.cell? ⟨b2, off2 + jb * 7 + 4, none⟩ = some (.string y.s) ∧ w'.cell? ⟨b2, off2 + jb * 7 + 5, none⟩ = some (.slice p2' y.l.length c2') ∧ w'.cell? ⟨b2, off2 + jb * 7 + 6, none⟩ = some (.slice q2' y.d.length e2') from fun w' k => by
              obtain ⟨_, g1, g2, g3, g4, g5, g6⟩ := (HB1.out.kept k).cells7
              exact ⟨⟨g1, g2, g3, g4, g5, g6⟩, ((Kept.cells k).1 _ _ hbl2).trans u1, ((Kept.cells k).1 _ _ hbl2).trans u2, ((Kept.cells k).1 _ _ hbl2).trans u3, ((Kept.cells k).1 _ _ hbl2).trans u4, ((Kept.cells k).1 _ _ hbl2).trans u5, ((Kept.cells k).1 _ _ hbl2).trans u6⟩)
            cases hb' : x.same y
            · have HR := Lib.hid (show sameE [] a b = false by rw [HS.out, HST.out, hT, hB1, HJV.out, hb']; rfl)
              rw [hb'] at CS3
              go_wp2_with (first | (at_lookup; refine wpList_idx_get rfl _ _ rfl A1.out rfl ek rfl HEK.out ?_; rw [HHA.out]; simp only [Option.getD_some]) | (at_lookup; refine wpList_idx_ok rfl _ _ rfl B1.out rfl ek rfl HEK.out ?_; rw [hJ]; simp only [Option.getD_some, Option.isSome_some]))
              go_region_held3 (fun w' => (w'.cell? ⟨wr.heap.size, 1, none⟩ = some (.int .i64 x.k) ∧ w'.cell? ⟨wr.heap.size, 2, none⟩ = some (.int .i64 x.n) ∧ w'.cell? ⟨wr.heap.size, 3, none⟩ = some (.int .i64 x.f) ∧ w'.cell? ⟨wr.heap.size, 4, none⟩ = some (.string x.s) ∧ w'.cell? ⟨wr.heap.size, 5, none⟩ = some (.slice p' x.l.length c') ∧ w'.cell? ⟨wr.heap.size, 6, none⟩ = some (.slice q' x.d.length e')) ∧ w'.cell? ⟨b2, off2 + jb * 7 + 1, none⟩ = some (.int .i64 y.k) ∧ w'.cell? ⟨b2, off2 + jb * 7 + 2, none⟩ = some (.int .i64 y.n) ∧ w'.cell? ⟨b2, off2 + jb * 7 + 3, none⟩ = some (.int .i64 y.f) ∧ w'.cell? ⟨b2, off2 + jb * 7 + 4, none⟩ = some (.string y.s) ∧ w'.cell? ⟨b2, off2 + jb * 7 + 5, none⟩ = some (.slice p2' y.l.length c2') ∧ w'.cell? ⟨b2, off2 + jb * 7 + 6, none⟩ = some (.slice q2' y.d.length e2')) (go_keep)
                (first | (go_at_call 12; (first | (with_reducible refine (CS3.out _ XL1.out YL1.out HYW.out).mono ?_) | (with_reducible refine (CS3.out _ (XL1.out.kept (Kept.refl _).drew) (YL1.out.kept (Kept.refl _).drew) HYW.out).mono ?_)); rintro e wn ⟨rfl, kn⟩; (first | (with_reducible have SN := SK.out _ kn) | (with_reducible have SN := SK.out _ ((Kept.refl _).drew.trans kn))); obtain ⟨⟨s1, s2, s3, s4, s5, s6⟩, r1, r2, r3, r4, r5, r6⟩ := SN; (first | (with_reducible have KN := Lib.hid (K1'.out.trans kn)) | (with_reducible have KN := Lib.hid (K1'.out.drew.trans kn))); (first | (with_reducible have AN := Lib.hid (A1.out.keptK kn)) | (with_reducible have AN := Lib.hid ((A1.out.keptK (Kept.refl _).drew).keptK kn))); (first | (with_reducible have BN := Lib.hid (B1.out.keptK kn)) | (with_reducible have BN := Lib.hid ((B1.out.keptK (Kept.refl _).drew).keptK kn)))))
              all_goals
                go_wp2_with fail
                go_ret
                exact ⟨ret_bool HR.out.symm, KN.out⟩
            · have HS1 := Lib.hid (show sameE [] a b = sameE (a.take (j + 1)) (a.drop (j + 1)) b by rw [HS.out, HST.out, hT, hB1, HJV.out, hb']; rfl)
              rw [hb'] at CS3
              go_wp2_with (first | (at_lookup; refine wpList_idx_get rfl _ _ rfl A1.out rfl ek rfl HEK.out ?_; rw [HHA.out]; simp only [Option.getD_some]) | (at_lookup; refine wpList_idx_ok rfl _ _ rfl B1.out rfl ek rfl HEK.out ?_; rw [hJ]; simp only [Option.getD_some, Option.isSome_some]))
              go_region_held3 (fun w' => (w'.cell? ⟨wr.heap.size, 1, none⟩ = some (.int .i64 x.k) ∧ w'.cell? ⟨wr.heap.size, 2, none⟩ = some (.int .i64 x.n) ∧ w'.cell? ⟨wr.heap.size, 3, none⟩ = some (.int .i64 x.f) ∧ w'.cell? ⟨wr.heap.size, 4, none⟩ = some (.string x.s) ∧ w'.cell? ⟨wr.heap.size, 5, none⟩ = some (.slice p' x.l.length c') ∧ w'.cell? ⟨wr.heap.size, 6, none⟩ = some (.slice q' x.d.length e')) ∧ w'.cell? ⟨b2, off2 + jb * 7 + 1, none⟩ = some (.int .i64 y.k) ∧ w'.cell? ⟨b2, off2 + jb * 7 + 2, none⟩ = some (.int .i64 y.n) ∧ w'.cell? ⟨b2, off2 + jb * 7 + 3, none⟩ = some (.int .i64 y.f) ∧ w'.cell? ⟨b2, off2 + jb * 7 + 4, none⟩ = some (.string y.s) ∧ w'.cell? ⟨b2, off2 + jb * 7 + 5, none⟩ = some (.slice p2' y.l.length c2') ∧ w'.cell? ⟨b2, off2 + jb * 7 + 6, none⟩ = some (.slice q2' y.d.length e2')) (go_keep)
                (first | (go_at_call 12; (first | (with_reducible refine (CS3.out _ XL1.out YL1.out HYW.out).mono ?_) | (with_reducible refine (CS3.out _ (XL1.out.kept (Kept.refl _).drew) (YL1.out.kept (Kept.refl _).drew) HYW.out).mono ?_)); rintro e wn ⟨rfl, kn⟩; (first | (with_reducible have SN := SK.out _ kn) | (with_reducible have SN := SK.out _ ((Kept.refl _).drew.trans kn))); obtain ⟨⟨s1, s2, s3, s4, s5, s6⟩, r1, r2, r3, r4, r5, r6⟩ := SN; (first | (with_reducible have KN := Lib.hid (K1'.out.trans kn)) | (with_reducible have KN := Lib.hid (K1'.out.drew.trans kn))); (first | (with_reducible have AN := Lib.hid (A1.out.keptK kn)) | (with_reducible have AN := Lib.hid ((A1.out.keptK (Kept.refl _).drew).keptK kn))); (first | (with_reducible have BN := Lib.hid (B1.out.keptK kn)) | (with_reducible have BN := Lib.hid ((B1.out.keptK (Kept.refl _).drew).keptK kn)))))
              all_goals
                go_wp2_with fail
                go_roundg (a.length - (j + 1))
                case measure => omega
                case rel => exact ⟨j + 1, rfl, by omega, by go_num, KN.out, AN.out, BN.out, HS1⟩
        · -- not the first
          have hnn : ((ia : Int) != (j : Int)) = true := by
            rw [bne_iff_ne]
            intro e
            have e' := Int.ofNat.inj e
            subst e'
            have := HFA.out.1 HHA.out
            rw [hT] at this
            cases this
          have HS1 := Lib.hid (show sameE [] a b = sameE (a.take (j + 1)) (a.drop (j + 1)) b by rw [HS.out, HST.out, hT, Bool.true_or, Bool.true_and])
          go_wp2_with (at_lookup; refine wpList_idx_get rfl _ _ rfl A1.out rfl ek rfl HEK.out ?_; rw [HHA.out]; simp only [Option.getD_some])
          go_roundg (a.length - (j + 1))
          case measure => omega
          case rel => exact ⟨j + 1, rfl, by omega, by go_num, K1'.out, A1.out, B1.out, HS1⟩
      · obtain rfl : j = a.length := by omega
        have HR := Lib.hid (show sameE [] a b = true by rw [HS.out, List.drop_eq_nil_of_le (Nat.le_refl _), sameE])
        go_wp2_with fail
        go_ret
        exact ⟨ret_bool HR.out.symm, HK.out⟩

end Go.Proofs.Ytdfgbdonnpbfcaa
