/-
  What the document's name of layer 3 is: the Name behind its sign.
-/
import Derived.Test.YtoakbcjdkohoiaaLexRefBytes
import Derived.Test.YtoakbcjdkohoiaaLexQuote
namespace Go.Proofs.Ytoakbcjdkohoiaa
open Go.RowKit

theorem ret3 {x y : ByteArray} {a b c d : Int} (h1 : x = y) (h2 : a = b) (h3 : c = d) : Ending.returned (.tuple #[.string x, .int .i64 a, .int .i64 c]) = .returned (.tuple #[.string y, .int .i64 b, .int .i64 d]) := by rw [h1, h2, h3]
theorem hexV_lt' {c : UInt8} (h : Lx.isHex c = true) : (Lx.hexV c).toNat < 16 := by
  have := Lx.byte_all (fun c => !Lx.isHex c || decide ((Lx.hexV c).toNat < 16)) (by kernel_rfl) c
  rw [h] at this; simpa using this
theorem hex_sum {a b : UInt8} (ha : a.toNat < 16) (hb : b.toNat < 16) : (16 * (a.toNat : Int) + (b.toNat : Int)) = ((a <<< 4 ||| b).toNat : Int) := by
  have key : (List.range 16).all (fun a => (List.range 16).all fun b => (16 * ((UInt8.ofNat a).toNat : Int) + ((UInt8.ofNat b).toNat : Int)) == ((UInt8.ofNat a <<< 4 ||| UInt8.ofNat b).toNat : Int)) = true := by kernel_rfl
  have h1 := List.all_eq_true.1 (List.all_eq_true.1 key _ (List.mem_range.2 ha)) _ (List.mem_range.2 hb)
  simpa using h1
theorem hexI_yes {c : UInt8} (h : Lx.isHex c = true) : hexI c = (Lx.hexV c).toNat := if_pos h
theorem hexI_no {c : UInt8} (h : Lx.isHex c = false) : hexI c = -1 := if_neg (by rw [h]; simp)
theorem hex_reg {c : UInt8} (h : Lx.isHex c = true) : Lx.reg c = true := by
  have := Lx.byte_all (fun c => !Lx.isHex c || Lx.reg c) (by kernel_rfl) c
  rw [h] at this; simpa using this
theorem tw_in (p : UInt8 → Bool) (s : ByteArray) (k i : Nat) (h : i < Lx.tw p (s.data.toList.drop k)) (hk : k + i < s.size) : p s[k + i] = true := by
  have := Lx.tw_take p (s.data.toList.drop k) (s[k + i]) (by
    rw [List.mem_take_iff_getElem]
    refine ⟨i, by have := Lx.tw_le p (s.data.toList.drop k); simp at this ⊢; omega, ?_⟩
    simp; rfl)
  exact this
theorem tw_out (p : UInt8 → Bool) (s : ByteArray) (k : Nat) (h : k + Lx.tw p (s.data.toList.drop k) < s.size) : p s[k + Lx.tw p (s.data.toList.drop k)] = false := by
  have key : ∀ l : List UInt8, ∀ h : Lx.tw p l < l.length, p l[Lx.tw p l] = false := by
    intro l
    induction l with
    | nil => intro h; simp at h
    | cons b r ih =>
      intro h
      cases e : p b
      · have : Lx.tw p (b :: r) = 0 := by rw [Lx.tw, e]; rfl
        simp [this, e]
      · have e2 : Lx.tw p (b :: r) = Lx.tw p r + 1 := by rw [Lx.tw, if_pos e]
        simp only [e2, List.getElem_cons_succ]
        exact ih (by rw [e2] at h; simpa using h)
  have := key (s.data.toList.drop k) (by simp; omega)
  simp at this
  exact this

set_option maxRecDepth 100000 in
set_option maxHeartbeats 4000000 in
theorem Rname_any (s : ByteArray) (k : Nat) (w : World) (hk : k ≤ s.size) (hs : s.size ≤ 4294967295) (R : Lx.R3) (hR : R = Lx.nameGo [] 0 (s.data.toList.drop k) k) :
    Calls Try.prog 32 #[.string s, .int .i64 k] w fun e w' => e = .returned (.tuple #[.string ⟨R.2.1.toArray⟩, .int .i64 R.2.2, .int .i64 R.1]) ∧ Kept w w' := by
  have HR := Lib.hid hR
  obtain ⟨E, hE⟩ : ∃ E, E = k + Lx.tw Lx.reg (s.data.toList.drop k) := ⟨_, rfl⟩
  have hEs : E ≤ s.size := by have := Lx.tw_le Lx.reg (s.data.toList.drop k); simp at this; omega
  have hkE : k ≤ E := by omega
  have HIN := Lib.hid (show ∀ (j : Nat) (h : j < s.size), k ≤ j → j < E → Lx.reg s[j] = true from fun j h h1 h2 => by
    have := tw_in Lx.reg s k (j - k) (by omega) (by omega)
    simpa [show k + (j - k) = j by omega] using this)
  have HOUT := Lib.hid (show ∀ h : E < s.size, Lx.reg s[E] = false from fun h => by
    have := tw_out Lx.reg s k (by omega)
    simpa [← hE] using this)
  have HE := Lib.hid hE
  clear hR hE
  go_enter Try.func32, Try.ntmps32
  go_wp2_with fail
  (with_reducible refine (Rrun_any s k _ hk (by omega)).mono ?_)
  rintro e w1 ⟨rfl, rfl⟩
  rw [← HE.out]
  go_wp2_with fail
  go_loopg [8, 9] (E - k) (fun n v i wr => ∃ (j : Nat) (acc : List UInt8), n = E - j ∧ k ≤ j ∧ j ≤ E ∧ i = .int .i64 j ∧ acc.length ≤ j ∧ Owns wr w.heap.size v acc ∧ Kept w wr ∧ Hid (R = Lx.nameGo acc 0 (s.data.toList.drop j) j))
  case atStart => exact ⟨k, [], rfl, Nat.le_refl _, hkE, rfl, Nat.zero_le _, Owns.nil _ _, Kept.refl w, HR⟩
  case round =>
    obtain ⟨j, acc, hn, hkj, hjE, rfl, hl, ho, hkp, HN⟩ := hrel
    have HO := Lib.hid ho
    have HK := Lib.hid hkp
    have hB : w.heap.size ≤ wr.heap.size := Below.size hkp
    clear ho hkp
    by_cases hlt : j < E
    · have hjs : j < s.size := by omega
      have HD := Lib.hid (rdrop_cons s j hjs)
      have HRG := Lib.hid (HIN.out j hjs hkj hlt)
      by_cases h35 : s[j] = 35
      · have e35 : ((s[j].toNat : Int) != 35) = false := by rw [h35]; rfl
        by_cases h2 : j + 2 < E
        · have hj1 : j + 1 < s.size := by omega
          have hj2 : j + 1 + 1 < s.size := by omega
          have hj2' : j + 2 < s.size := by omega
          have HD1 := Lib.hid (rdrop_cons s (j + 1) hj1)
          have HD2 := Lib.hid (rdrop_cons s (j + 1 + 1) hj2)
          have HH35 := Lib.hid h35
          clear h35
          cases hx1 : Lx.isHex s[j + 1]
          · have HV := Lib.hid (show R = (3, [], 0) by rw [HN.out, HD.out, HD1.out, Lx.name_bad3 HH35.out hx1])
            have HI := Lib.hid (hexI_no hx1)
            clear hx1
            go_wp2_with fail
            (with_reducible refine (Rhex_any _ _).mono ?_)
            rintro e w2 ⟨rfl, rfl⟩
            rw [HI.out]
            go_wp2_with fail
            go_ret3
            exact ⟨ret3 (by rw [HV.out]) (by rw [HV.out]; rfl) (by rw [HV.out]), HK.out⟩
          · have HX1 := Lib.hid hx1
            have HI1 := Lib.hid (hexI_yes hx1)
            have hlt1 := hexV_lt' hx1
            clear hx1
            cases hx2 : Lx.isHex s[j + 2]
            · have HV := Lib.hid (show R = (3, [], 0) by rw [HN.out, HD.out, HD1.out, HD2.out, Lx.name_bad2 HH35.out (by rw [show Lx.isHex s[j + 1 + 1] = false from hx2]; simp)])
              have HI := Lib.hid (hexI_no hx2)
              clear hx2
              go_wp2_with fail
              (with_reducible refine (Rhex_any _ _).mono ?_)
              rintro e w2 ⟨rfl, rfl⟩
              rw [HI1.out]
              go_wp2_with fail
              (with_reducible refine (Rhex_any _ _).mono ?_)
              rintro e w2 ⟨rfl, rfl⟩
              rw [HI.out]
              go_wp2_with fail
              go_ret3
              exact ⟨ret3 (by rw [HV.out]) (by rw [HV.out]; rfl) (by rw [HV.out]), HK.out⟩
            · have HX2 := Lib.hid hx2
              have HI2 := Lib.hid (hexI_yes hx2)
              have hlt2 := hexV_lt' hx2
              have HV := Lib.hid (show R = Lx.nameGo (acc ++ [Lx.hexV s[j + 1] <<< 4 ||| Lx.hexV s[j + 2]]) 0 (s.data.toList.drop (j + 3)) (j + 3) by
                rw [HN.out, HD.out, HD1.out, HD2.out, Lx.name_two HH35.out HX1.out hx2])
              clear hx2
              go_wp2_with fail
              (with_reducible refine (Rhex_any _ _).mono ?_)
              rintro e w2 ⟨rfl, rfl⟩
              rw [HI1.out]
              go_wp2_with fail
              (with_reducible refine (Rhex_any _ _).mono ?_)
              rintro e w2 ⟨rfl, rfl⟩
              rw [HI2.out]
              go_wp2_with fail
              obtain ⟨x, hx⟩ : ∃ x, x = (Lx.hexV s[j + 1]).toNat := ⟨_, rfl⟩
              obtain ⟨y, hy⟩ : ∃ y, y = (Lx.hexV s[j + 2]).toNat := ⟨_, rfl⟩
              obtain ⟨z, hz⟩ : ∃ z, z = Lx.hexV s[j + 1] <<< 4 ||| Lx.hexV s[j + 2] := ⟨_, rfl⟩
              have hzv : (16 * (x : Int) + (y : Int)) = (z.toNat : Int) := by rw [hx, hy, hz]; exact hex_sum hlt1 hlt2
              have hq1 : hexI s[j + 1] = (x : Int) := by rw [HI1.out, hx]
              have hq2 : hexI s[j + 2] = (y : Int) := by rw [HI2.out, hy]
              rw [← hx] at hlt1
              rw [← hy] at hlt2
              rw [← hz] at HV
              have HZV := Lib.hid hzv
              clear hx hy hz hzv
              have i1 : IntKind.i64.wrap (16 * (x : Int)) = 16 * (x : Int) := IntWalk.i64_in _ (by omega)
              have i2 : IntKind.i64.wrap (16 * (x : Int) + (y : Int)) = 16 * (x : Int) + (y : Int) := IntWalk.i64_in _ (by omega)
              have i3 : IntKind.u8.wrap (16 * (x : Int) + (y : Int)) = 16 * (x : Int) + (y : Int) := by unfold IntKind.wrap; simp [IntKind.signed, IntKind.bits]; omega
              have i4 : IntKind.i64.wrap ((j : Int) + 1) = (j : Int) + 1 := IntWalk.i64_in _ (by omega)
              have i5 : IntKind.i64.wrap ((j : Int) + 2) = (j : Int) + 2 := IntWalk.i64_in _ (by omega)
              have i6 : (0 : Int) ≤ (j : Int) + 1 := by omega
              have i7 : (j : Int) + 1 < (s.size : Int) := by omega
              have i8 : (0 : Int) ≤ (j : Int) + 2 := by omega
              have i9 : (j : Int) + 2 < (s.size : Int) := by omega
              have e2 : ((j : Int) + 2).toNat = j + 2 := by omega
              go_region_held3 (fun _ => True) (trivial) (first | (go_at_call 59; (with_reducible refine (Rhex_any _ _).mono ?_); rintro e w' ⟨rfl, rfl⟩) | (refine step_app_bytes (by rfl) _ _ (by rfl) w.heap.size _ acc (by rfl) (HO.out.alloc _).drew [z] wr.heap.size 1 _ (by first | (rw [HZV.out]; exact (Blk.fresh wr _ _).drew) | (simp only [e2, hq2, i2, i3, HZV.out]; exact (Blk.fresh wr _ _).drew)) (by rfl) (by simp) (by rfl) (by simp; omega) (by simp; omega) ?_; intro v' w3 hown3 hgrow))
              all_goals
                clear i1 i2 i3 i4 i5
                have HO3 := Lib.hid hown3
                have HG3 := Lib.hid (show Kept w w3 from (Below.drew (HK.out.alloc _ _)).grown hgrow (by simp; omega) (fun i hi => (HO.out.lt i hi).1))
                clear hown3 hgrow
                go_wp2_with fail
                go_roundg (E - (j + 3))
                case measure => omega
                case rel => exact ⟨j + 3, _, rfl, by omega, by omega, by go_num, by simp; omega, HO3.out, HG3.out, HV⟩
        · have HV := Lib.hid (show R = (3, [], 0) by
            rw [HN.out, HD.out]
            have hno : ∀ i, E ≤ i → i ≤ E → ∀ h : i < s.size, Lx.isHex s[i] = false := fun i h1 h2 h => by
              obtain rfl : i = E := by omega
              exact Bool.eq_false_iff.2 fun e => by have := HOUT.out h; rw [hex_reg e] at this; cases this
            by_cases ha : j + 1 < s.size
            · rw [rdrop_cons s _ ha]
              by_cases hb : j + 1 = E
              · exact Lx.name_bad3 h35 (hno _ (by omega) (by omega) ha) _ _ _
              · by_cases hc : j + 1 + 1 < s.size
                · rw [rdrop_cons s _ hc]
                  exact Lx.name_bad2 h35 (by rw [hno (j + 1 + 1) (by omega) (by omega) hc]; simp) _ _ _
                · rw [rdrop_end s _ (by omega)]; exact Lx.name_bad1 h35 _ _ _
            · rw [rdrop_end s _ (by omega)]; exact Lx.name_bad0 h35 _ _)
          clear h35
          go_wp2_with fail
          go_ret3
          exact ⟨ret3 (by rw [HV.out]) (by rw [HV.out]; rfl) (by rw [HV.out]), HK.out⟩
      · have e35 : ((s[j].toNat : Int) != 35) = true := by simp only [bne, rbyte_not h35 35 rfl]; rfl
        have HV := Lib.hid (show R = Lx.nameGo (acc ++ [s[j]]) 0 (s.data.toList.drop (j + 1)) (j + 1) by rw [HN.out, HD.out, Lx.name_byte HRG.out h35])
        clear h35
        go_wp2_with (at_builtin; refine wpList_app_bytes rfl _ _ rfl w.heap.size _ acc rfl HO.out [s[j]] _ rfl 1 _ rfl rfl hB (by simp; omega) ?_)
        intro v' w3 hown3 hgrow
        have HO3 := Lib.hid hown3
        have HG3 := Lib.hid (show Kept w w3 from (HK.out.alloc _ _).grown hgrow (by simp; omega) (fun i hi => (HO.out.lt i hi).1))
        clear hown3 hgrow
        go_wp2_with fail
        go_roundg (E - (j + 1))
        case measure => omega
        case rel => exact ⟨j + 1, _, rfl, by omega, by omega, by go_num, by simp; omega, HO3.out, HG3.out, HV⟩
    · obtain rfl : j = E := by omega
      have HV := Lib.hid (show R = (0, acc, j) by
        rw [HN.out]
        by_cases h : j < s.size
        · rw [rdrop_cons s _ h, Lx.name_stop (HOUT.out h)]
        · rw [rdrop_end s _ (by omega), Lx.name_end])
      have hcv := HO.out.string
      go_wp2_with fail
      go_ret3
      exact ⟨ret3 (by rw [HV.out]) (by rw [HV.out]) (by rw [HV.out]), HK.out⟩

end Go.Proofs.Ytoakbcjdkohoiaa
