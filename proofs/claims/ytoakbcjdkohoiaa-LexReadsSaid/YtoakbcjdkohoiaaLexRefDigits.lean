/-
  What the document's digits of layer 3 is: the Text behind "<".
-/
import Derived.Test.YtoakbcjdkohoiaaLexRefNums
namespace Go.Proofs.Ytoakbcjdkohoiaa
open Go.RowKit

theorem Nums.drew {w : World} {B : Nat} {v : Value} {l : List UInt8} (h : Nums w B v l) : Nums w.drew B v l := h
theorem Nums.shape {w : World} {B : Nat} {v : Value} {l : List UInt8} (h : Nums w B v l) (n : Nat) (hn : n = l.length) : ∃ b c, v = .slice b n c := by
  subst hn
  rcases h.parts with ⟨rfl, rfl⟩ | ⟨g, cap, cur, rfl, _⟩
  · exact ⟨_, _, rfl⟩
  · exact ⟨_, _, rfl⟩

set_option maxRecDepth 100000 in
set_option maxHeartbeats 4000000 in
theorem RhexText_any (s : ByteArray) (k : Nat) (w : World) (hk : k ≤ s.size) (hs : s.size ≤ 4294967290) (R : Lx.R3) (hR : R = Lx.hexGo [] none (s.data.toList.drop k) k) :
    Calls Try.prog 34 #[.string s, .int .i64 k] w fun e w' => e = .returned (.tuple #[.string ⟨R.2.1.toArray⟩, .int .i64 R.2.2, .int .i64 R.1]) ∧ Kept w w' := by
  have HR := Lib.hid hR
  clear hR
  go_enter Try.func34, Try.ntmps34
  go_wp2_with fail
  go_loopg [1, 7] (s.size - k) (fun n i v wr => ∃ (j : Nat) (l : List UInt8), n = s.size - j ∧ j ≤ s.size ∧ i = .int .i64 j ∧ l.length ≤ j ∧ (∀ (m : Nat) (h : m < l.length), l[m].toNat < 16) ∧ Nums wr w.heap.size v l ∧ Kept w wr ∧ Hid (R = Lx.hexGo (Lx.packA l) (Lx.packH l) (s.data.toList.drop j) j))
  case atStart => exact ⟨k, [], rfl, hk, rfl, Nat.zero_le _, fun m h => absurd h (by simp), Nums.nil _ _, Kept.refl w, HR⟩
  case round =>
    obtain ⟨j, l, hn, hj, rfl, hl, h16, ho, hkp, HE⟩ := hrel
    have HN := Lib.hid ho
    have HK := Lib.hid hkp
    have H16 := Lib.hid h16
    have hB : w.heap.size ≤ wr.heap.size := Below.size hkp
    clear ho hkp h16
    by_cases hlt : j < s.size
    · have HD := Lib.hid (rdrop_cons s j hlt)
      cases hw : Lx.white s[j]
      · have HW := Lib.hid hw
        by_cases h62 : s[j] = 62
        · have e62 := rbyte_is h62 62 rfl
          obtain ⟨L, hL⟩ : ∃ L, L = if l.length % 2 = 1 then l ++ [0] else l := ⟨_, rfl⟩
          have HV := Lib.hid (show R = (0, Lx.packA L, j + 1) by rw [HE.out, HD.out, Lx.pack_done h62 l _ _ L hL])
          clear h62 hw
          by_cases hodd : l.length % 2 = 1
          · rw [if_pos hodd] at hL
            obtain ⟨b0, c0, rfl⟩ := HN.out.shape l.length rfl
            have hm2 : ((l.length : Int)).tmod 2 = 1 := by rw [Int.tmod_eq_emod_of_nonneg (by omega)]; omega
            have HLL := Lib.hid hL
            have hLe : L.length % 2 = 0 := by rw [hL]; simp; omega
            have hLl : L.length ≤ j + 1 := by rw [hL]; simp; omega
            have H16L := Lib.hid (show ∀ (m : Nat) (h : m < L.length), L[m].toNat < 16 from fun m h => by
              subst hL
              by_cases hml : m < l.length
              · rw [List.getElem_append_left hml]; exact H16.out m hml
              · rw [List.getElem_append_right (by omega)]; simp)
            clear hL
            go_wp2_with fail
            (with_reducible refine (RWhite_any _ _).mono ?_)
            rintro e w2 ⟨rfl, rfl⟩
            rw [HW.out]
            go_wp2_with (at_builtin; refine wpList_app_num rfl _ _ rfl HN.out 0 _ rfl rfl rfl hB (by omega) ?_)
            intro v3 w3 hown3 hgrow
            have HN3 := Lib.hid (show Nums w3 w.heap.size v3 L by rw [HLL.out]; exact hown3)
            have HK3 := Lib.hid (show Kept w w3 from (HK.out.alloc _ _).grown hgrow (by simp; omega) (fun i hi => (HN.out.lt i hi).1))
            clear hown3 hgrow
            obtain ⟨b3, c3, rfl⟩ := HN3.out.shape L.length rfl
            go_wp2_with fail
            go_loopg [8, 9] (L.length) (fun n b i wx => ∃ (q m : Nat), q = 2 * m ∧ n = L.length - q ∧ q ≤ L.length ∧ i = .int .i64 q ∧ Owns wx w.heap.size b ((Lx.packA L).take m) ∧ Nums wx w.heap.size (.slice b3 L.length c3) L ∧ Kept w wx)
            case atStart => exact ⟨0, 0, rfl, by omega, by omega, rfl, by rw [List.take_zero]; exact Owns.nil _ _, HN3.out, HK3.out⟩
            case round =>
              obtain ⟨q, m, hqm, hn, hq, rfl, ho, hnu, hkp⟩ := hrel
              have HO4 := Lib.hid ho
              have HN4 := Lib.hid hnu
              have HK4 := Lib.hid hkp
              have hB4 : w.heap.size ≤ wr.heap.size := Below.size hkp
              clear ho hnu hkp
              by_cases hmore : q < L.length
              · have hq1 : q + 1 < L.length := by omega
                rcases HN4.out.parts with ⟨_, h0⟩ | ⟨g, cap, cur, hv, hcap, hg, hbk, hcells⟩
                · rw [h0] at hmore; simp at hmore
                · simp only [Value.slice.injEq, true_and] at hv
                  obtain ⟨rfl, rfl⟩ := hv
                  have hgl : g < wr.heap.size := hbk.lt
                  have c0 := hcells q (by omega)
                  have c1 := hcells (q + 1) hq1
                  have hlt1 := H16L.out q (by omega)
                  have hlt2 := H16L.out (q + 1) hq1
                  have HP := Lib.hid (show (Lx.packA L).take (m + 1) = (Lx.packA L).take m ++ [L[q] <<< 4 ||| L[q + 1]] by
                    subst hqm
                    obtain ⟨h', e⟩ := Lx.pack_at L m (by omega)
                    rw [List.take_succ_eq_append_getElem h', e])
                  obtain ⟨x, hx⟩ : ∃ x, x = L[q].toNat := ⟨_, rfl⟩
                  obtain ⟨y, hy⟩ : ∃ y, y = L[q + 1].toNat := ⟨_, rfl⟩
                  obtain ⟨z, hz⟩ : ∃ z, z = L[q] <<< 4 ||| L[q + 1] := ⟨_, rfl⟩
                  have hzv : (16 * (x : Int) + (y : Int)) = (z.toNat : Int) := by rw [hx, hy, hz]; exact hex_sum hlt1 hlt2
                  rw [← hx] at c0 hlt1
                  rw [← hy] at c1 hlt2
                  rw [← hz] at HP
                  have HZV := Lib.hid hzv
                  have HQM := Lib.hid hqm
                  have hmb : m ≤ 4294967295 := by omega
                  have HBK := Lib.hid hbk
                  have C0 := Lib.hid ((hbk.cell q).symm.trans c0)
                  have C1 := Lib.hid ((hbk.cell (q + 1)).symm.trans c1)
                  clear hx hy hz hzv hcells hqm hbk
                  have i1 : IntKind.i64.wrap (16 * (x : Int)) = 16 * (x : Int) := IntWalk.i64_in _ (by omega)
                  have i2 : IntKind.i64.wrap (16 * (x : Int) + (y : Int)) = 16 * (x : Int) + (y : Int) := IntWalk.i64_in _ (by omega)
                  have i3 : IntKind.u8.wrap (16 * (x : Int) + (y : Int)) = 16 * (x : Int) + (y : Int) := by unfold IntKind.wrap; simp [IntKind.signed, IntKind.bits]; omega
                  have i4 : IntKind.i64.wrap ((q : Int) + 1) = (q : Int) + 1 := IntWalk.i64_in _ (by omega)
                  have i6 : (0 : Int) ≤ (q : Int) + 1 := by omega
                  have i7 : (q : Int) + 1 < (L.length : Int) := by omega
                  have i8 : (q : Int) < (L.length : Int) := by omega
                  have e2 : ((q : Int) + 1).toNat = q + 1 := by omega
                  go_wp2_with fail
                  go_region_held3 (fun w' => w'.cell? ⟨g, q, none⟩ = some (.int .i64 (x : Int)) ∧ w'.cell? ⟨g, q + 1, none⟩ = some (.int .i64 (y : Int))) (first | go_keep | exact ⟨d0, d1⟩ | simp [d0, d1]) (first | (refine step_app_bytes (by rfl) _ _ (by rfl) w.heap.size _ ((Lx.packA L).take m) (by rfl) (HO4.out.alloc _).drew [z] wr.heap.size 1 _ (by first | (rw [HZV.out]; exact (Blk.fresh wr _ _).drew) | (simp only [e2, i2, i3, HZV.out]; exact (Blk.fresh wr _ _).drew)) (by rfl) (by simp) (by rfl) (by simp; omega) (by simp; omega) ?_; intro v' w5 hown5 hgrow5; have hk5 := ((HBK.out.alloc _).drew).gb hgrow5 (HO4.out.ne HBK.out (by decide)); have d0 := (hk5.cell q).trans C0.out; have d1 := (hk5.cell (q + 1)).trans C1.out; clear hk5))
                  all_goals
                    clear i1 i2 i3 i4 c0 c1 d0 d1
                    have HO5 := Lib.hid hown5
                    have HN5 := Lib.hid ((HN4.out.alloc _).drew.app (HO4.out.alloc _).drew hgrow5)
                    have HK5 := Lib.hid (show Kept w w5 from (Below.drew (HK4.out.alloc _ _)).grown hgrow5 (by simp; omega) (fun i hi => (HO4.out.lt i hi).1))
                    clear hown5 hgrow5
                    go_wp2_with fail
                    go_roundg (L.length - (q + 2))
                    case measure => omega
                    case rel => exact ⟨q + 2, m + 1, by have := HQM.out; omega, rfl, by omega, by go_num, by rw [HP.out]; exact HO5.out, HN5.out, HK5.out⟩
              · obtain rfl : q = L.length := by omega
                have HP := Lib.hid (show (Lx.packA L).take m = Lx.packA L by
                  rw [List.take_of_length_le]
                  have := (Lx.pack_even L).2; omega)
                rw [HP.out] at HO4
                have hcv := HO4.out.string
                go_wp2_with fail
                go_ret3
                exact ⟨ret3 (by rw [HV.out]) (by rw [HV.out]; rfl) (by rw [HV.out]), HK4.out⟩
          · rw [if_neg hodd] at hL
            obtain ⟨b0, c0, rfl⟩ := HN.out.shape L.length (by rw [hL])
            have hm2 : ((L.length : Int)).tmod 2 = 0 := by rw [hL, Int.tmod_eq_emod_of_nonneg (by omega)]; omega
            have HLL := Lib.hid hL
            have hLe : L.length % 2 = 0 := by rw [hL]; omega
            have hLl : L.length ≤ j + 1 := by rw [hL]; omega
            have H16L := Lib.hid (show ∀ (m : Nat) (h : m < L.length), L[m].toNat < 16 from fun m h => by subst hL; exact H16.out m h)
            clear hL
            go_wp2_with fail
            (with_reducible refine (RWhite_any _ _).mono ?_)
            rintro e w2 ⟨rfl, rfl⟩
            rw [HW.out]
            have HN3 := Lib.hid (show Nums wr w.heap.size (.slice b0 L.length c0) L by have := HN.out; rwa [← HLL.out] at this)
            have HK3 := HK
            go_wp2_with fail
            go_loopg [8, 9] (L.length) (fun n b i wx => ∃ (q m : Nat), q = 2 * m ∧ n = L.length - q ∧ q ≤ L.length ∧ i = .int .i64 q ∧ Owns wx w.heap.size b ((Lx.packA L).take m) ∧ Nums wx w.heap.size (.slice b0 L.length c0) L ∧ Kept w wx)
            case atStart => exact ⟨0, 0, rfl, by omega, by omega, rfl, by rw [List.take_zero]; exact Owns.nil _ _, HN3.out, HK3.out⟩
            case round =>
              obtain ⟨q, m, hqm, hn, hq, rfl, ho, hnu, hkp⟩ := hrel
              have HO4 := Lib.hid ho
              have HN4 := Lib.hid hnu
              have HK4 := Lib.hid hkp
              have hB4 : w.heap.size ≤ wr.heap.size := Below.size hkp
              clear ho hnu hkp
              by_cases hmore : q < L.length
              · have hq1 : q + 1 < L.length := by omega
                rcases HN4.out.parts with ⟨_, h0⟩ | ⟨g, cap, cur, hv, hcap, hg, hbk, hcells⟩
                · rw [h0] at hmore; simp at hmore
                · simp only [Value.slice.injEq, true_and] at hv
                  obtain ⟨rfl, rfl⟩ := hv
                  have hgl : g < wr.heap.size := hbk.lt
                  have c0 := hcells q (by omega)
                  have c1 := hcells (q + 1) hq1
                  have hlt1 := H16L.out q (by omega)
                  have hlt2 := H16L.out (q + 1) hq1
                  have HP := Lib.hid (show (Lx.packA L).take (m + 1) = (Lx.packA L).take m ++ [L[q] <<< 4 ||| L[q + 1]] by
                    subst hqm
                    obtain ⟨h', e⟩ := Lx.pack_at L m (by omega)
                    rw [List.take_succ_eq_append_getElem h', e])
                  obtain ⟨x, hx⟩ : ∃ x, x = L[q].toNat := ⟨_, rfl⟩
                  obtain ⟨y, hy⟩ : ∃ y, y = L[q + 1].toNat := ⟨_, rfl⟩
                  obtain ⟨z, hz⟩ : ∃ z, z = L[q] <<< 4 ||| L[q + 1] := ⟨_, rfl⟩
                  have hzv : (16 * (x : Int) + (y : Int)) = (z.toNat : Int) := by rw [hx, hy, hz]; exact hex_sum hlt1 hlt2
                  rw [← hx] at c0 hlt1
                  rw [← hy] at c1 hlt2
                  rw [← hz] at HP
                  have HZV := Lib.hid hzv
                  have HQM := Lib.hid hqm
                  have hmb : m ≤ 4294967295 := by omega
                  have HBK := Lib.hid hbk
                  have C0 := Lib.hid ((hbk.cell q).symm.trans c0)
                  have C1 := Lib.hid ((hbk.cell (q + 1)).symm.trans c1)
                  clear hx hy hz hzv hcells hqm hbk
                  have i1 : IntKind.i64.wrap (16 * (x : Int)) = 16 * (x : Int) := IntWalk.i64_in _ (by omega)
                  have i2 : IntKind.i64.wrap (16 * (x : Int) + (y : Int)) = 16 * (x : Int) + (y : Int) := IntWalk.i64_in _ (by omega)
                  have i3 : IntKind.u8.wrap (16 * (x : Int) + (y : Int)) = 16 * (x : Int) + (y : Int) := by unfold IntKind.wrap; simp [IntKind.signed, IntKind.bits]; omega
                  have i4 : IntKind.i64.wrap ((q : Int) + 1) = (q : Int) + 1 := IntWalk.i64_in _ (by omega)
                  have i6 : (0 : Int) ≤ (q : Int) + 1 := by omega
                  have i7 : (q : Int) + 1 < (L.length : Int) := by omega
                  have i8 : (q : Int) < (L.length : Int) := by omega
                  have e2 : ((q : Int) + 1).toNat = q + 1 := by omega
                  go_wp2_with fail
                  go_region_held3 (fun w' => w'.cell? ⟨g, q, none⟩ = some (.int .i64 (x : Int)) ∧ w'.cell? ⟨g, q + 1, none⟩ = some (.int .i64 (y : Int))) (first | go_keep | exact ⟨d0, d1⟩ | simp [d0, d1]) (first | (refine step_app_bytes (by rfl) _ _ (by rfl) w.heap.size _ ((Lx.packA L).take m) (by rfl) (HO4.out.alloc _).drew [z] wr.heap.size 1 _ (by first | (rw [HZV.out]; exact (Blk.fresh wr _ _).drew) | (simp only [e2, i2, i3, HZV.out]; exact (Blk.fresh wr _ _).drew)) (by rfl) (by simp) (by rfl) (by simp; omega) (by simp; omega) ?_; intro v' w5 hown5 hgrow5; have hk5 := ((HBK.out.alloc _).drew).gb hgrow5 (HO4.out.ne HBK.out (by decide)); have d0 := (hk5.cell q).trans C0.out; have d1 := (hk5.cell (q + 1)).trans C1.out; clear hk5))
                  all_goals
                    clear i1 i2 i3 i4 c0 c1 d0 d1
                    have HO5 := Lib.hid hown5
                    have HN5 := Lib.hid ((HN4.out.alloc _).drew.app (HO4.out.alloc _).drew hgrow5)
                    have HK5 := Lib.hid (show Kept w w5 from (Below.drew (HK4.out.alloc _ _)).grown hgrow5 (by simp; omega) (fun i hi => (HO4.out.lt i hi).1))
                    clear hown5 hgrow5
                    go_wp2_with fail
                    go_roundg (L.length - (q + 2))
                    case measure => omega
                    case rel => exact ⟨q + 2, m + 1, by have := HQM.out; omega, rfl, by omega, by go_num, by rw [HP.out]; exact HO5.out, HN5.out, HK5.out⟩
              · obtain rfl : q = L.length := by omega
                have HP := Lib.hid (show (Lx.packA L).take m = Lx.packA L by
                  rw [List.take_of_length_le]
                  have := (Lx.pack_even L).2; omega)
                rw [HP.out] at HO4
                have hcv := HO4.out.string
                go_wp2_with fail
                go_ret3
                exact ⟨ret3 (by rw [HV.out]) (by rw [HV.out]; rfl) (by rw [HV.out]), HK4.out⟩
        · have e62 := rbyte_not h62 62 rfl
          cases hx : Lx.isHex s[j]
          · have HV := Lib.hid (show R = (3, [], 0) by rw [HE.out, HD.out, Lx.hex_bad h62 hw hx])
            have HI := Lib.hid (hexI_no hx)
            clear h62 hw hx
            go_wp2_with fail
            (with_reducible refine (RWhite_any _ _).mono ?_)
            rintro e w2 ⟨rfl, rfl⟩
            rw [HW.out]
            go_wp2_with fail
            (with_reducible refine (Rhex_any _ _).mono ?_)
            rintro e w2 ⟨rfl, rfl⟩
            rw [HI.out]
            go_wp2_with fail
            go_ret3
            exact ⟨ret3 (by rw [HV.out]) (by rw [HV.out]; rfl) (by rw [HV.out]), HK.out⟩
          · have HV := Lib.hid (show R = Lx.hexGo (Lx.packA (l ++ [Lx.hexV s[j]])) (Lx.packH (l ++ [Lx.hexV s[j]])) (s.data.toList.drop (j + 1)) (j + 1) by rw [HE.out, HD.out, Lx.pack_step hx])
            have HI := Lib.hid (hexI_yes hx)
            have HL := Lib.hid (hexV_lt' hx)
            clear h62 hw hx
            go_wp2_with fail
            (with_reducible refine (RWhite_any _ _).mono ?_)
            rintro e w2 ⟨rfl, rfl⟩
            rw [HW.out]
            go_wp2_with fail
            (with_reducible refine (Rhex_any _ _).mono ?_)
            rintro e w2 ⟨rfl, rfl⟩
            rw [HI.out]
            go_wp2_with fail
            (with_reducible refine (Rhex_any _ _).mono ?_)
            rintro e w2 ⟨rfl, rfl⟩
            rw [HI.out]
            go_wp2_with (at_builtin; refine wpList_app_num rfl _ _ rfl HN.out (Lx.hexV s[j]) _ rfl rfl rfl hB (by omega) ?_)
            intro v' w3 hown3 hgrow
            have HO3 := Lib.hid hown3
            have HG3 := Lib.hid (show Kept w w3 from (HK.out.alloc _ _).grown hgrow (by simp; omega) (fun i hi => (HN.out.lt i hi).1))
            clear hown3 hgrow
            go_wp2_with fail
            go_roundg (s.size - (j + 1))
            case measure => omega
            case rel =>
              refine ⟨j + 1, _, rfl, by omega, by go_num, by simp; omega, fun m h => ?_, HO3.out, HG3.out, HV⟩
              by_cases hml : m < l.length
              · rw [List.getElem_append_left hml]; exact H16.out m hml
              · rw [List.getElem_append_right (by omega)]; simpa using HL.out
      · have HW := Lib.hid hw
        have HV := Lib.hid (show R = Lx.hexGo (Lx.packA l) (Lx.packH l) (s.data.toList.drop (j + 1)) (j + 1) by rw [HE.out, HD.out, Lx.hex_white (white_not hw) hw])
        clear hw
        go_wp2_with fail
        (with_reducible refine (RWhite_any _ _).mono ?_)
        rintro e w2 ⟨rfl, rfl⟩
        rw [HW.out]
        go_wp2_with fail
        go_roundg (s.size - (j + 1))
        case measure => omega
        case rel => exact ⟨j + 1, l, rfl, by omega, by go_num, by omega, H16.out, HN.out, HK.out, HV⟩
    · have HV := Lib.hid (show R = (4, [], 0) by rw [HE.out, rdrop_end s j (by omega), Lx.hex_end])
      go_wp2_with fail
      go_ret3
      exact ⟨ret3 (by rw [HV.out]) (by rw [HV.out]; rfl) (by rw [HV.out]), HK.out⟩

end Go.Proofs.Ytoakbcjdkohoiaa
