/-
  What the document's text of layer 3 is: the Text behind "(".
-/
import Derived.Test.YtoakbcjdkohoiaaLexRefEscElse
import Derived.Test.YtoakbcjdkohoiaaLexRefName
import Derived.Laws.AppendOwnNone
namespace Go.Proofs.Ytoakbcjdkohoiaa
open Go.RowKit

theorem Owns.stay {w w' : World} {B : Nat} {v : Value} {acc : List UInt8} (h : Owns w B v acc) (k : Kept w w') : Owns w' B v acc := by
  refine h.gb (r := none) ⟨k.os, k.tape, k.output, k.size, fun i hi _ => k.block i hi⟩ ?_
  cases v.ownBlock <;> simp

/-- The few bytes are appended to one's own. -/
theorem wpList_app_few {ops : Array Oper} {rest : List Oper} {o : Oper} {a : Act} {Q : Exit → Act → World → Prop} (hgd : o.guard = none) (s x : Operand)
    (ho : o.op = .call { callee := .builtin .append, args := #[s, x], argTypes := #[79, 79] })
    {W : World} {B C : Nat} {v u : Value} {acc news : List UInt8} (hown : Owns W B v acc) (hfew : Few C W u news) (hs : a.eval s = v) (hx : a.eval x = u) (hB : B ≤ W.heap.size) (hlen : acc.length + news.length ≤ 140737488355328)
    (h : ∀ v' w', Owns w' B v' (acc ++ news) → W.grownBy w' v.ownBlock → wpList Try.prog ops Q rest (a.put o.dst v') w') :
    wpList Try.prog ops Q (o :: rest) a W := by
  obtain ⟨i0, hi, hz0, hz1, hz2⟩ := info_parts info_u8
  rcases hfew with ⟨rfl, rfl⟩ | ⟨g, b, rfl, rfl, hb, _⟩
  · refine wpList_append_own_none hgd s x 79 ho B 5 i0 1 Try.underlying79 hi v acc.length (bytesV acc) hs hown hx ?_
    exact h v W (by rw [List.append_nil]; exact hown) (gb_refl _ _)
  · refine wpList_append_own _ hgd s x 79 ho B 5 i0 (.int .u8 0) 1 1 Try.underlying79 hi hz0 hz1 hz2 rfl (by decide) v acc.length (bytesV acc) hs hown ⟨g, 0, none⟩ 1 1 (bytesV [b]) hx (by simp [bytesV])
      ?_ ?_ (by unfold maxLen; simp at hlen; omega) (by simp at hlen; omega) (by omega) ?_
    · intro j z hj
      rw [Addr.add_lit, Nat.zero_add, hb.cell j]
      simpa [bytesV] using hj
    · intro z hz
      simp only [bytesV, List.mem_map] at hz
      obtain ⟨b, _, rfl⟩ := hz
      rfl
    · intro v' w' h1 h2 _
      refine h v' w' ?_ h2
      unfold Owns
      rw [bytesV_app, List.length_append]
      exact h1

theorem tail_list (s : ByteArray) (k : Nat) : (s.extract k s.size).data.toList = s.data.toList.drop k := by
  rw [ByteArray.data_extract, Array.toList_extract]
  simp
  rw [List.take_of_length_le (by simp)]
theorem tail_size (s : ByteArray) (k : Nat) : (s.extract k s.size).size = s.size - k := by simp

set_option maxRecDepth 100000 in
set_option maxHeartbeats 4000000 in
theorem Rtext_any (s : ByteArray) (k : Nat) (w : World) (hk : k ≤ s.size) (hs : s.size ≤ 4294967295) (R : Lx.R3) (hR : R = Lx.textGo [] 0 0 (s.data.toList.drop k) k) :
    Calls Try.prog 33 #[.string s, .int .i64 k] w fun e w' => e = .returned (.tuple #[.string ⟨R.2.1.toArray⟩, .int .i64 R.2.2, .int .i64 R.1]) ∧ Kept w w' := by
  have HR := Lib.hid hR
  clear hR
  go_enter Try.func33, Try.ntmps33
  go_wp2_with fail
  go_loopg [1, 7, 8] (s.size - k) (fun n i v x wr => ∃ (j d : Nat) (acc : List UInt8), n = s.size - j ∧ j ≤ s.size ∧ d ≤ j ∧ i = .int .i64 j ∧ x = .int .i64 d ∧ acc.length ≤ j ∧ Owns wr w.heap.size v acc ∧ Kept w wr ∧ Hid (R = Lx.textGo acc d 0 (s.data.toList.drop j) j))
  case atStart => exact ⟨k, 0, [], rfl, hk, Nat.zero_le _, rfl, rfl, Nat.zero_le _, Owns.nil _ _, Kept.refl w, HR⟩
  case round =>
    obtain ⟨j, d, acc, hn, hj, hd, rfl, rfl, hl, ho, hkp, HE⟩ := hrel
    have HO := Lib.hid ho
    have HK := Lib.hid hkp
    have hB : w.heap.size ≤ wr.heap.size := Below.size hkp
    clear ho hkp
    by_cases hlt : j < s.size
    · have HD := Lib.hid (rdrop_cons s j hlt)
      by_cases h92 : s[j] = 92
      · have e92 := byte_is h92 92 rfl
        have HV := Lib.hid (show R = Lx.textGo (acc ++ (Lx.esc (s.data.toList.drop (j + 1))).1) d 0 (s.data.toList.drop (j + 1 + (Lx.esc (s.data.toList.drop (j + 1))).2)) (j + 1 + (Lx.esc (s.data.toList.drop (j + 1))).2) by
          rw [HE.out, HD.out, Lx.text_esc h92, List.drop_drop])
        clear h92
        by_cases hk1 : j + 1 < s.size
        · have HL := Lib.hid (Lx.esc_le (l := s.data.toList.drop (j + 1)))
          have HL2 := Lib.hid (Lx.esc_len (l := s.data.toList.drop (j + 1)))
          obtain ⟨X, hX⟩ : ∃ X, X = Lx.esc (s.data.toList.drop (j + 1)) := ⟨_, rfl⟩
          rw [← hX] at HV HL HL2
          have HX := Lib.hid hX
          clear hX
          go_wp2_with fail
          (with_reducible refine (Rescape_any _ _ (by rw [tail_size]; omega) (by rw [tail_size]; omega) X.1 X.2 (by rw [tail_list]; exact HX.out)).mono ?_)
          rintro e w2 ⟨u, rfl, hfew, hk2⟩
          have HF := Lib.hid hfew
          have HO2 := Lib.hid (HO.out.stay hk2)
          have HK2 := Lib.hid (HK.out.trans hk2)
          have hB2 : w.heap.size ≤ w2.heap.size := Below.size HK2.out
          have hl1 : X.2 ≤ s.size - (j + 1) := by have := HL.out; simpa using this
          have hl2 : X.1.length ≤ X.2 := HL2.out
          clear hfew hk2
          go_wp2_with (at_builtin; refine wpList_app_few rfl _ _ rfl HO2.out HF.out rfl rfl hB2 (by omega) ?_)
          intro v' w3 hown3 hgrow
          have HO3 := Lib.hid hown3
          have HG3 := Lib.hid (show Kept w w3 from HK2.out.grown hgrow hB2 (fun i hi => (HO2.out.lt i hi).1))
          clear hown3 hgrow
          go_wp2_with fail
          go_roundg (s.size - (j + 1 + X.2))
          case measure => omega
          case rel => exact ⟨j + 1 + X.2, d, _, rfl, by omega, by omega, by go_num, by go_num, by simp; omega, HO3.out, HG3.out, HV⟩
        · have HW := Lib.hid (show R = (4, [], 0) by
            have h0 : s.data.toList.drop (j + 1) = [] := rdrop_end s _ (by omega)
            rw [HV.out, h0]
            show Lx.textGo (acc ++ []) d 0 (s.data.toList.drop (j + 1 + 0)) _ = _
            rw [Nat.add_zero, h0, Lx.text_end])
          go_wp2_with fail
          go_ret3
          exact ⟨ret3 (by rw [HW.out]) (by rw [HW.out]; rfl) (by rw [HW.out]), HK.out⟩
      have e92 := byte_not h92 92 rfl
      by_cases h40 : s[j] = 40
      · have e40 := byte_is h40 40 rfl
        have HV := Lib.hid (show R = Lx.textGo (acc ++ [s[j]]) (d + 1) 0 (s.data.toList.drop (j + 1)) (j + 1) by rw [HE.out, HD.out, Lx.text_open h40, h40])
        clear h40 h92
        go_wp2_with (at_builtin; refine wpList_app_bytes rfl _ _ rfl w.heap.size _ acc rfl HO.out [s[j]] _ rfl 1 _ rfl rfl hB (by simp; omega) ?_)
        intro v' w3 hown3 hgrow
        have HO3 := Lib.hid hown3
        have HG3 := Lib.hid (show Kept w w3 from (HK.out.alloc _ _).grown hgrow (by simp; omega) (fun i hi => (HO.out.lt i hi).1))
        clear hown3 hgrow
        go_wp2_with fail
        go_roundg (s.size - (j + 1))
        case measure => omega
        case rel => exact ⟨j + 1, d + 1, _, rfl, by omega, by omega, by go_num, by go_num, by simp; omega, HO3.out, HG3.out, HV⟩
      have e40 := byte_not h40 40 rfl
      by_cases h41 : s[j] = 41
      · have e41 := byte_is h41 41 rfl
        cases d with
        | zero =>
          have HV := Lib.hid (show R = (0, acc, j + 1) by rw [HE.out, HD.out, Lx.text_done h41])
          have hcv := HO.out.string
          clear h40 h41 h92
          go_wp2_with fail
          go_ret3
          exact ⟨ret3 (by rw [HV.out]) (by rw [HV.out]; rfl) (by rw [HV.out]), HK.out⟩
        | succ d =>
          have HV := Lib.hid (show R = Lx.textGo (acc ++ [s[j]]) d 0 (s.data.toList.drop (j + 1)) (j + 1) by rw [HE.out, HD.out, Lx.text_close h41, h41])
          clear h40 h41 h92
          go_wp2_with (at_builtin; refine wpList_app_bytes rfl _ _ rfl w.heap.size _ acc rfl HO.out [s[j]] _ rfl 1 _ rfl rfl hB (by simp; omega) ?_)
          intro v' w3 hown3 hgrow
          have HO3 := Lib.hid hown3
          have HG3 := Lib.hid (show Kept w w3 from (HK.out.alloc _ _).grown hgrow (by simp; omega) (fun i hi => (HO.out.lt i hi).1))
          clear hown3 hgrow
          go_wp2_with fail
          go_roundg (s.size - (j + 1))
          case measure => omega
          case rel => exact ⟨j + 1, d, _, rfl, by omega, by omega, by go_num, by go_num, by simp; omega, HO3.out, HG3.out, HV⟩
      have e41 := byte_not h41 41 rfl
      by_cases h13 : s[j] = 13
      · have e13 := byte_is h13 13 rfl
        have HV := Lib.hid (show R = Lx.textGo (acc ++ [10]) d 0 (s.data.toList.drop (j + 1 + Lx.crlf (s.data.toList.drop (j + 1)))) (j + 1 + Lx.crlf (s.data.toList.drop (j + 1))) by
          rw [HE.out, HD.out, Lx.text_cr h13, List.drop_drop])
        clear h40 h41 h13 h92
        by_cases hk1 : j + 1 < s.size
        · have HD1 := Lib.hid (rdrop_cons s (j + 1) hk1)
          by_cases h10 : s[j + 1] = 10
          · have e10 := byte_is h10 10 rfl
            have HC := Lib.hid (show Lx.crlf (s.data.toList.drop (j + 1)) = 1 by rw [HD1.out]; show (if s[j + 1] == 10 then 1 else 0) = 1; rw [h10]; rfl)
            clear h10
            go_wp2_with (at_builtin; refine wpList_app_bytes rfl _ _ rfl w.heap.size _ acc rfl HO.out [10] _ rfl 1 _ rfl rfl hB (by simp; omega) ?_)
            intro v' w3 hown3 hgrow
            have HO3 := Lib.hid hown3
            have HG3 := Lib.hid (show Kept w w3 from (HK.out.alloc _ _).grown hgrow (by simp; omega) (fun i hi => (HO.out.lt i hi).1))
            clear hown3 hgrow
            go_wp2_with fail
            go_roundg (s.size - (j + 1 + 1))
            case measure => omega
            case rel => exact ⟨j + 1 + 1, d, _, rfl, by omega, by omega, by go_num, by go_num, by simp; omega, HO3.out, HG3.out, Lib.hid (by rw [HV.out, HC.out])⟩
          · have e10 := byte_not h10 10 rfl
            have HC := Lib.hid (show Lx.crlf (s.data.toList.drop (j + 1)) = 0 by rw [HD1.out]; show (if s[j + 1] == 10 then 1 else 0) = 0; simp [h10])
            clear h10
            go_wp2_with (at_builtin; refine wpList_app_bytes rfl _ _ rfl w.heap.size _ acc rfl HO.out [10] _ rfl 1 _ rfl rfl hB (by simp; omega) ?_)
            intro v' w3 hown3 hgrow
            have HO3 := Lib.hid hown3
            have HG3 := Lib.hid (show Kept w w3 from (HK.out.alloc _ _).grown hgrow (by simp; omega) (fun i hi => (HO.out.lt i hi).1))
            clear hown3 hgrow
            go_wp2_with fail
            go_roundg (s.size - (j + 1))
            case measure => omega
            case rel => exact ⟨j + 1, d, _, rfl, by omega, by omega, by go_num, by go_num, by simp; omega, HO3.out, HG3.out, Lib.hid (by rw [HV.out, HC.out])⟩
        · have HC := Lib.hid (show Lx.crlf (s.data.toList.drop (j + 1)) = 0 by rw [rdrop_end s _ (by omega)]; rfl)
          go_wp2_with (at_builtin; refine wpList_app_bytes rfl _ _ rfl w.heap.size _ acc rfl HO.out [10] _ rfl 1 _ rfl rfl hB (by simp; omega) ?_)
          intro v' w3 hown3 hgrow
          have HO3 := Lib.hid hown3
          have HG3 := Lib.hid (show Kept w w3 from (HK.out.alloc _ _).grown hgrow (by simp; omega) (fun i hi => (HO.out.lt i hi).1))
          clear hown3 hgrow
          go_wp2_with fail
          go_roundg (s.size - (j + 1))
          case measure => omega
          case rel => exact ⟨j + 1, d, _, rfl, by omega, by omega, by go_num, by go_num, by simp; omega, HO3.out, HG3.out, Lib.hid (by rw [HV.out, HC.out])⟩
      have e13 := byte_not h13 13 rfl
      have HV := Lib.hid (show R = Lx.textGo (acc ++ [s[j]]) d 0 (s.data.toList.drop (j + 1)) (j + 1) by rw [HE.out, HD.out, Lx.text_byte h92 h40 h41 h13])
      clear h40 h41 h13 h92
      go_wp2_with (at_builtin; refine wpList_app_bytes rfl _ _ rfl w.heap.size _ acc rfl HO.out [s[j]] _ rfl 1 _ rfl rfl hB (by simp; omega) ?_)
      intro v' w3 hown3 hgrow
      have HO3 := Lib.hid hown3
      have HG3 := Lib.hid (show Kept w w3 from (HK.out.alloc _ _).grown hgrow (by simp; omega) (fun i hi => (HO.out.lt i hi).1))
      clear hown3 hgrow
      go_wp2_with fail
      go_roundg (s.size - (j + 1))
      case measure => omega
      case rel => exact ⟨j + 1, d, _, rfl, by omega, by omega, by go_num, by go_num, by simp; omega, HO3.out, HG3.out, HV⟩
    · have HV := Lib.hid (show R = (4, [], 0) by rw [HE.out, rdrop_end s j (by omega), Lx.text_end])
      go_wp2_with fail
      go_ret3
      exact ⟨ret3 (by rw [HV.out]) (by rw [HV.out]; rfl) (by rw [HV.out]), HK.out⟩

end Go.Proofs.Ytoakbcjdkohoiaa
