/-
  The reference's Bytes.
-/
import Derived.Test.YtkgaddlclfjkmaaMetRefRunes
namespace Go.Proofs.Ytkgaddlclfjkmaa
open Go.RowKit
set_option linter.unusedSimpArgs false
set_option linter.unusedVariables false

theorem OwR.oth {w w' : World} {B : Nat} {v : Value} {l : List Nat} (h : OwR w B v l) (k : Lib.OthersKept 5 none w w') : OwR w' B v l := by
  refine ⟨h.1, ?_⟩
  rcases h.2 with hn | ⟨g, cap, cur, hv, hB, hh, hr⟩
  · exact .inl hn
  · exact .inr ⟨g, cap, cur, hv, hB, k g _ hh (by simp) (fun c fz e => by cases e), hr⟩

set_option maxRecDepth 100000 in
set_option maxHeartbeats 4000000 in
theorem RBytes_any (u : ByteArray) (w : World) (hu : u.size ≤ 1073741000) :
    Calls Try.prog 16 #[.string u] w fun e w' => e = .returned (.tuple #[.string ⟨(Mt.bytesV u.data.toList).toArray⟩, .bool (Mt.bytesB u.data.toList)]) ∧ Kept w w' := by
  obtain ⟨L, hL⟩ : ∃ L, L = u.data.toList := ⟨_, rfl⟩
  have hlen : L.length = u.size := by rw [hL]; simp
  have C := Lib.hid (Runes_any u w hu)
  rw [← hL] at C ⊢
  obtain ⟨R, hR⟩ : ∃ R, R = Mt.runes L := ⟨_, rfl⟩
  have hRl : R.length ≤ 1073741000 := by rw [hR]; have := Mt.runes_len L; omega
  have HOK := Lib.hid (show ∀ r ∈ R, Mt.okR r by rw [hR]; exact Mt.runes_ok L)
  rw [← hR] at C
  have HR := Lib.hid hR
  clear hL hlen hR
  go_enter Try.func16, Try.ntmps16
  go_wp2_with fail
  (with_reducible refine C.out.mono ?_)
  rintro e w1 ⟨v1, rfl, ho1, hk1⟩
  have O1 := Lib.hid ho1
  have K1 := Lib.hid hk1
  obtain ⟨p, c, rfl, hpc, hcell⟩ := ho1.shape
  have CE := Lib.hid (fun (wx : World) (h : OwR wx w.heap.size (.slice p R.length c) R) => (h.shape))
  obtain ⟨n, hn⟩ : ∃ n, n = R.length := ⟨_, rfl⟩
  rw [← hn] at hRl
  have HN := Lib.hid hn
  clear ho1 hk1 hcell hpc
  rw [← hn]
  clear hn
  go_wp2_with fail
  go_loopg [4, 6] (n + 1) (fun m x y wr => ∃ (j : Nat) (vv : Value), m = n - j + 1 ∧ vv = x ∧ y = .int .i64 j ∧ j ≤ n ∧ OwB wr w.heap.size vv (Mt.asBytes (R.take j)) ∧ Hid (∀ r ∈ R.take j, Mt.alone r = true) ∧ OwR wr w.heap.size (.slice p R.length c) R ∧ Kept w wr)
  case atStart => exact ⟨0, _, rfl, rfl, rfl, Nat.zero_le _, OwB.nil _ _, Lib.hid (by simp), O1.out, K1.out⟩
  case round =>
    obtain ⟨j, vv, hm, rfl, rfl, hj, hb, HP, ho, hk⟩ := hrel
    have HB := Lib.hid hb
    have HO := Lib.hid ho
    have HK := Lib.hid hk
    by_cases hlt : j < n
    · have hlt2 : j < R.length := by rw [← HN.out]; exact hlt
      obtain ⟨p', c', hpe, -, hcells⟩ := ho.shape
      obtain ⟨hp1, hp2⟩ : p = p' ∧ c = c' := by injection hpe with e1 e2 e3; exact ⟨e1, e3⟩
      subst hp1 hp2
      obtain ⟨kb, rfl, hkB, hkl, hc⟩ := hcells j hlt2
      obtain ⟨r, hr⟩ : ∃ r, r = R[j] := ⟨_, rfl⟩
      rw [← hr] at hc
      have hrk := HOK.out r (by rw [hr]; exact List.getElem_mem hlt2)
      have hr1 : r ≤ 1114111 := by unfold Mt.okR at hrk; omega
      have HT := Lib.hid (show R.take (j + 1) = R.take j ++ [r] by rw [hr]; exact List.take_succ_eq_append_getElem hlt2)
      have HMR := Lib.hid (show r ∈ R by rw [hr]; exact List.getElem_mem hlt2)
      have AL := Lib.hid (fun wx => RAlone_any r wx hr1)
      have hj0 : (0 : Int) ≤ (j : Int) := by omega
      have hi0 : (0 : Int) ≤ (r : Int) := by omega
      have hi1 : (r : Int) ≤ 1114111 := by omega
      clear hb ho hk hcells hpe hrk hr
      cases ha : Mt.alone r
      · rw [ha] at AL
        have HF := Lib.hid (show Mt.bytesB L = false by
          unfold Mt.bytesB
          rw [← HR.out]
          exact List.all_eq_false.2 ⟨r, HMR.out, by rw [ha]; simp⟩)
        have HV := Lib.hid (show Mt.bytesV L = [] by unfold Mt.bytesV; rw [HF.out]; rfl)
        clear ha
        go_wp2_with fail
        (with_reducible refine (AL.out _).mono ?_)
        rintro e w2 ⟨rfl, rfl⟩
        go_wp2_with fail
        go_ret2
        exact ⟨by rw [HF.out, HV.out]; rfl, HK.out⟩
      · rw [ha] at AL
        have h8 := Mt.alone_lt ha
        have HA := Lib.hid ha
        clear ha
        have hw8 : ((r : Int) % 256) = (r : Int) := by omega
        have hsz := Below.size HK.out
        have htl : (Mt.asBytes (R.take j)).length + 1 ≤ 1099511627776 := by rw [Mt.asBytes, List.length_map, List.length_take]; have := Nat.min_le_left j R.length; omega
        go_wp2_with fail
        (with_reducible refine (AL.out _).mono ?_)
        rintro e w2 ⟨rfl, rfl⟩
        go_wp2_with (at_builtin; refine wpList_app_bv rfl _ _ rfl (.inl HB.out) rfl [r.toUInt8] _ (by simp only [Lib.byteCells, List.map_cons, List.map_nil]; rw [Mt.u8_lit r h8]) 1 rfl (by decide) rfl hsz htl ?_; intro v' w3 hb3)
        have B3 := Lib.hid hb3
        clear hb3
        go_roundg (n - (j + 1) + 1)
        case measure => omega
        case rel =>
          refine ⟨j + 1, v', rfl, rfl, by go_num, by omega, ?_, Lib.hid ?_, HO.out.oth B3.out.2.2, Below.trans HK.out B3.out.2.1⟩
          · rw [HT.out, show Mt.asBytes (R.take j ++ [r]) = Mt.asBytes (R.take j) ++ [r.toUInt8] by simp [Mt.asBytes]]; exact B3.out.1
          · rw [HT.out]
            intro q hq
            rcases List.mem_append.1 hq with hq | hq
            · exact HP.out q hq
            · rw [List.mem_singleton.1 hq]; exact HA.out
    · obtain rfl : j = n := by omega
      have hT : R.take j = R := by rw [HN.out, List.take_length]
      have HB2 := Lib.hid (show Mt.bytesB L = true by
        unfold Mt.bytesB
        rw [← HR.out]
        exact List.all_eq_true.2 (by have := HP.out; rw [hT] at this; exact this))
      have HV := Lib.hid (show Mt.bytesV L = Mt.asBytes (R.take j) by unfold Mt.bytesV; rw [HB2.out, if_pos rfl, ← HR.out, hT])
      have hst := hb.string
      clear hT hb ho hk
      go_wp2_with fail
      go_ret2
      exact ⟨by rw [HB2.out, HV.out]; rfl, HK.out⟩

end Go.Proofs.Ytkgaddlclfjkmaa
