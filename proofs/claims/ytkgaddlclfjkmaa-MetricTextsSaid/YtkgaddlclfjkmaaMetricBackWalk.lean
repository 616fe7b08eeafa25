/-
  There and back: what was decoded is encoded, and decoded, to itself.
-/
import Derived.Test.YtkgaddlclfjkmaaMetAwake
namespace Go.Proofs.Ytkgaddlclfjkmaa
open Go.RowKit
set_option linter.unusedSimpArgs false
set_option linter.unusedVariables false

theorem Mt.decodeV_len (s : List UInt8) : (Mt.decodeV s).length ≤ 4 * s.length := by
  have h1 := (Mt.enc_len (Mt.chars s)).2
  have h2 := Mt.chars_len s
  unfold Mt.decodeV; omega
theorem Mt.bytesV_len (u : List UInt8) : (Mt.bytesV u).length ≤ u.length := by
  have := Mt.runes_len u
  unfold Mt.bytesV
  split
  · rw [Mt.asBytes, List.length_map]; exact this
  · simp
theorem Mt.encodeV_len (u : List UInt8) : (Mt.encodeV u).length ≤ 4 * u.length + 2 := by
  have h1 := Mt.bytesV_len u
  have h2 := Mt.pairs_len (Mt.runes u)
  have h3 := Mt.runes_len u
  unfold Mt.encodeV
  split
  · omega
  · simp only [List.length_cons]; omega
theorem Decode_of (a b : ByteArray) (h : Mt.decodeV a.data.toList = b.data.toList) (hl : a.size ≤ 268435000) (w : World) :
    Calls Try.prog 17 #[.string a] w fun e w' => e = .returned (.string b) ∧ Kept w w' := by
  have := Decode_any a.data.toList w (by simpa using hl)
  rw [h] at this
  exact this
theorem Encode_of (a b : ByteArray) (h : Mt.encodeV a.data.toList = b.data.toList) (hl : a.size ≤ 268435000) (w : World) :
    Calls Try.prog 19 #[.string a] w fun e w' => e = .returned (.string b) ∧ Kept w w' := by
  have := Encode_any a w hl
  rw [h] at this
  exact this
theorem Mt.marked_ways (B : ByteArray) : (Mt.marked B.data.toList = true ∧ ∃ h : 1 < B.size, B[0] = 254 ∧ B[1] = 255) ∨ (Mt.marked B.data.toList = false ∧ ((¬ 1 < B.size) ∨ (∃ h : 1 < B.size, B[0] ≠ 254) ∨ (∃ h : 1 < B.size, B[0] = 254 ∧ B[1] ≠ 255))) := by
  obtain ⟨⟨l⟩⟩ := B
  match l with
  | [] => exact .inr ⟨rfl, .inl (by simp [ByteArray.size])⟩
  | [a] => exact .inr ⟨rfl, .inl (by simp [ByteArray.size])⟩
  | a :: b :: t =>
    have hs : 1 < (⟨⟨a :: b :: t⟩⟩ : ByteArray).size := by show 1 < (a :: b :: t).length; simp
    by_cases h1 : a = 254
    · by_cases h2 : b = 255
      · exact .inl ⟨by show (a == 254 && b == 255) = true; rw [h1, h2]; rfl, hs, h1, h2⟩
      · exact .inr ⟨by show (a == 254 && b == 255) = false; rw [beq_eq_false_iff_ne.2 h2]; simp, .inr (.inr ⟨hs, h1, h2⟩)⟩
    · exact .inr ⟨by show (a == 254 && b == 255) = false; rw [beq_eq_false_iff_ne.2 h1]; rfl, .inr (.inl ⟨hs, h1⟩)⟩
theorem Mt.byte_is {c d : UInt8} (h : c = d) (n : Int) (hn : (d.toNat : Int) = n) : ((c.toNat : Int) == n) = true := by
  subst h; subst hn; simp
theorem Mt.byte_not {c d : UInt8} (h : c ≠ d) (n : Int) (hn : (d.toNat : Int) = n) : ((c.toNat : Int) == n) = false := by
  subst hn
  rw [beq_eq_false_iff_ne]
  intro e
  exact h (UInt8.toNat_inj.1 (by omega))

set_option maxRecDepth 100000 in
set_option maxHeartbeats 4000000 in
theorem MetricBack_walk (s : ByteArray) (w : World) :
    Calls Try.prog 5 #[.string s] w fun e w' => e = .returned (.bool true) ∧ Kept w w' := by
  have AW := Lib.hid (awake13_any w)
  by_cases hbig : (1000 : Int) < (s.size : Int)
  · go_enter Try.func5, Try.ntmps5
    go_wp2_with fail
    (with_reducible refine AW.out.mono ?_)
    rintro e w1 ⟨rfl, hk1⟩
    have K1 := Lib.hid hk1
    clear hk1
    go_wp2_with fail
    go_ret
    exact ⟨rfl, K1.out⟩
  have hs : s.data.toList.length ≤ 1000 := by rw [Lib.size_eq] at hbig; omega
  obtain ⟨U, hU⟩ : ∃ U : ByteArray, U = ⟨(Mt.decodeV s.data.toList).toArray⟩ := ⟨_, rfl⟩
  have hUl : U.data.toList = Mt.decodeV s.data.toList := by rw [hU]
  have hU1 : U.data.toList.length ≤ 4000 := by rw [hUl]; have := Mt.decodeV_len s.data.toList; omega
  have CD := Lib.hid (fun wx => Decode_of s U hUl.symm (by rw [Lib.size_eq]; omega) wx)
  obtain ⟨E, hE⟩ : ∃ E : ByteArray, E = ⟨(Mt.encodeV U.data.toList).toArray⟩ := ⟨_, rfl⟩
  have hEl : E.data.toList = Mt.encodeV U.data.toList := by rw [hE]
  have hE1 : E.data.toList.length ≤ 20000 := by rw [hEl]; have := Mt.encodeV_len U.data.toList; omega
  have CE := Lib.hid (fun wx => Encode_of U E hEl.symm (by rw [Lib.size_eq]; omega) wx)
  have CDE := Lib.hid (fun wx => Decode_of E U (by rw [hEl, hUl]; exact Mt.back_any _) (by rw [Lib.size_eq]; omega) wx)
  obtain ⟨B, hB⟩ : ∃ B : ByteArray, B = ⟨(Mt.bytesV U.data.toList).toArray⟩ := ⟨_, rfl⟩
  have hBl : B.data.toList = Mt.bytesV U.data.toList := by rw [hB]
  have hB1 : B.data.toList.length ≤ 20000 := by rw [hBl]; have := Mt.bytesV_len U.data.toList; omega
  have CB := Lib.hid (fun wx => Bytes_any U wx (by rw [Lib.size_eq]; omega))
  rw [← hB] at CB
  have HW := Mt.marked_ways B
  obtain ⟨ok, hok⟩ : ∃ ok, ok = Mt.bytesB U.data.toList := ⟨_, rfl⟩
  have HR : ok = true → Mt.marked B.data.toList = false → B = E ∧ Mt.decodeV B.data.toList = U.data.toList := by
    intro h1 h2
    have h3 := Mt.bytes_any s.data.toList (by rw [← hUl, ← hok]; exact h1) (by rw [← hUl, ← hBl]; exact h2)
    rw [← hUl, ← hBl] at h3
    exact ⟨by rw [hE, h3.2], h3.1⟩
  rw [← hok] at CB
  clear hU hUl hE hEl hB hBl hok hU1 hE1
  cases ok
  · go_enter Try.func5, Try.ntmps5
    clear HR HW
    go_wp2_with fail
    (with_reducible refine AW.out.mono ?_)
    rintro e w1 ⟨rfl, hk1⟩
    have K1 := Lib.hid hk1
    clear hk1
    go_wp2_with fail
    (with_reducible refine (CD.out _).mono ?_)
    rintro e w2 ⟨rfl, hk2⟩
    have K2 := Lib.hid (K1.out.trans hk2)
    clear hk2
    go_wp2_with fail
    (with_reducible refine (CB.out _).mono ?_)
    rintro e w3 ⟨rfl, hk3⟩
    have K3 := Lib.hid (K2.out.trans hk3)
    clear hk3
    go_wp2_with fail
    (with_reducible refine (CE.out _).mono ?_)
    rintro e w4 ⟨rfl, hk4⟩
    have K4 := Lib.hid (K3.out.trans hk4)
    clear hk4
    go_wp2_with fail
    (with_reducible refine (CDE.out _).mono ?_)
    rintro e w5 ⟨rfl, hk5⟩
    have K5 := Lib.hid (K4.out.trans hk5)
    clear hk5
    go_wp2_with fail
    go_ret
    exact ⟨rfl, K5.out⟩
  · rcases HW with ⟨hmk, hsz, h0, h1⟩ | ⟨hmk, hsz | ⟨hsz, h0⟩ | ⟨hsz, h0, h1⟩⟩
    · have z0 : (1 : Int) < (B.size : Int) := by omega
      have z1 : (0 : Int) < (B.size : Int) := by omega
      have b0 := Mt.byte_is h0 254 rfl
      have b1 := Mt.byte_is h1 255 rfl
      clear HR hmk h0 h1 hB1
      go_enter Try.func5, Try.ntmps5
      go_wp2_with fail
      (with_reducible refine AW.out.mono ?_)
      rintro e w1 ⟨rfl, hk1⟩
      have K1 := Lib.hid hk1
      clear hk1
      go_wp2_with fail
      (with_reducible refine (CD.out _).mono ?_)
      rintro e w2 ⟨rfl, hk2⟩
      have K2 := Lib.hid (K1.out.trans hk2)
      clear hk2
      go_wp2_with fail
      (with_reducible refine (CB.out _).mono ?_)
      rintro e w3 ⟨rfl, hk3⟩
      have K3 := Lib.hid (K2.out.trans hk3)
      clear hk3
      go_wp2_with fail
      (with_reducible refine (CE.out _).mono ?_)
      rintro e w4 ⟨rfl, hk4⟩
      have K4 := Lib.hid (K3.out.trans hk4)
      clear hk4
      go_wp2_with fail
      (with_reducible refine (CDE.out _).mono ?_)
      rintro e w5 ⟨rfl, hk5⟩
      have K5 := Lib.hid (K4.out.trans hk5)
      clear hk5
      go_wp2_with fail
      go_ret
      exact ⟨rfl, K5.out⟩
    · have z0 : ¬ (1 : Int) < (B.size : Int) := by omega
      obtain ⟨rfl, hdb⟩ := HR rfl hmk
      have CDB := Lib.hid (fun wx => Decode_of B U hdb (by rw [Lib.size_eq]; omega) wx)
      clear HR hmk hdb hB1
      go_enter Try.func5, Try.ntmps5
      go_wp2_with fail
      (with_reducible refine AW.out.mono ?_)
      rintro e w1 ⟨rfl, hk1⟩
      have K1 := Lib.hid hk1
      clear hk1
      go_wp2_with fail
      (with_reducible refine (CD.out _).mono ?_)
      rintro e w2 ⟨rfl, hk2⟩
      have K2 := Lib.hid (K1.out.trans hk2)
      clear hk2
      go_wp2_with fail
      (with_reducible refine (CB.out _).mono ?_)
      rintro e w3 ⟨rfl, hk3⟩
      have K3 := Lib.hid (K2.out.trans hk3)
      clear hk3
      go_wp2_with fail
      (with_reducible refine (CE.out _).mono ?_)
      rintro e w4 ⟨rfl, hk4⟩
      have K4 := Lib.hid (K3.out.trans hk4)
      clear hk4
      go_wp2_with fail
      (with_reducible refine (CDE.out _).mono ?_)
      rintro e w5 ⟨rfl, hk5⟩
      have K5 := Lib.hid (K4.out.trans hk5)
      clear hk5
      go_wp2_with fail
      (with_reducible refine (CDB.out _).mono ?_)
      rintro e w6 ⟨rfl, hk6⟩
      have K6 := Lib.hid (K5.out.trans hk6)
      clear hk6
      go_wp2_with fail
      (with_reducible refine (CE.out _).mono ?_)
      rintro e w7 ⟨rfl, hk7⟩
      have K7 := Lib.hid (K6.out.trans hk7)
      clear hk7
      go_wp2_with fail
      go_ret
      exact ⟨rfl, K7.out⟩
    · have z0 : (1 : Int) < (B.size : Int) := by omega
      have z1 : (0 : Int) < (B.size : Int) := by omega
      have b0 := Mt.byte_not h0 254 rfl
      clear h0
      obtain ⟨rfl, hdb⟩ := HR rfl hmk
      have CDB := Lib.hid (fun wx => Decode_of B U hdb (by rw [Lib.size_eq]; omega) wx)
      clear HR hmk hdb hB1
      go_enter Try.func5, Try.ntmps5
      go_wp2_with fail
      (with_reducible refine AW.out.mono ?_)
      rintro e w1 ⟨rfl, hk1⟩
      have K1 := Lib.hid hk1
      clear hk1
      go_wp2_with fail
      (with_reducible refine (CD.out _).mono ?_)
      rintro e w2 ⟨rfl, hk2⟩
      have K2 := Lib.hid (K1.out.trans hk2)
      clear hk2
      go_wp2_with fail
      (with_reducible refine (CB.out _).mono ?_)
      rintro e w3 ⟨rfl, hk3⟩
      have K3 := Lib.hid (K2.out.trans hk3)
      clear hk3
      go_wp2_with fail
      (with_reducible refine (CE.out _).mono ?_)
      rintro e w4 ⟨rfl, hk4⟩
      have K4 := Lib.hid (K3.out.trans hk4)
      clear hk4
      go_wp2_with fail
      (with_reducible refine (CDE.out _).mono ?_)
      rintro e w5 ⟨rfl, hk5⟩
      have K5 := Lib.hid (K4.out.trans hk5)
      clear hk5
      go_wp2_with fail
      (with_reducible refine (CDB.out _).mono ?_)
      rintro e w6 ⟨rfl, hk6⟩
      have K6 := Lib.hid (K5.out.trans hk6)
      clear hk6
      go_wp2_with fail
      (with_reducible refine (CE.out _).mono ?_)
      rintro e w7 ⟨rfl, hk7⟩
      have K7 := Lib.hid (K6.out.trans hk7)
      clear hk7
      go_wp2_with fail
      go_ret
      exact ⟨rfl, K7.out⟩
    · have z0 : (1 : Int) < (B.size : Int) := by omega
      have z1 : (0 : Int) < (B.size : Int) := by omega
      have b0 := Mt.byte_is h0 254 rfl
      have b1 := Mt.byte_not h1 255 rfl
      clear h0 h1
      obtain ⟨rfl, hdb⟩ := HR rfl hmk
      have CDB := Lib.hid (fun wx => Decode_of B U hdb (by rw [Lib.size_eq]; omega) wx)
      clear HR hmk hdb hB1
      go_enter Try.func5, Try.ntmps5
      go_wp2_with fail
      (with_reducible refine AW.out.mono ?_)
      rintro e w1 ⟨rfl, hk1⟩
      have K1 := Lib.hid hk1
      clear hk1
      go_wp2_with fail
      (with_reducible refine (CD.out _).mono ?_)
      rintro e w2 ⟨rfl, hk2⟩
      have K2 := Lib.hid (K1.out.trans hk2)
      clear hk2
      go_wp2_with fail
      (with_reducible refine (CB.out _).mono ?_)
      rintro e w3 ⟨rfl, hk3⟩
      have K3 := Lib.hid (K2.out.trans hk3)
      clear hk3
      go_wp2_with fail
      (with_reducible refine (CE.out _).mono ?_)
      rintro e w4 ⟨rfl, hk4⟩
      have K4 := Lib.hid (K3.out.trans hk4)
      clear hk4
      go_wp2_with fail
      (with_reducible refine (CDE.out _).mono ?_)
      rintro e w5 ⟨rfl, hk5⟩
      have K5 := Lib.hid (K4.out.trans hk5)
      clear hk5
      go_wp2_with fail
      (with_reducible refine (CDB.out _).mono ?_)
      rintro e w6 ⟨rfl, hk6⟩
      have K6 := Lib.hid (K5.out.trans hk6)
      clear hk6
      go_wp2_with fail
      (with_reducible refine (CE.out _).mono ?_)
      rintro e w7 ⟨rfl, hk7⟩
      have K7 := Lib.hid (K6.out.trans hk7)
      clear hk7
      go_wp2_with fail
      go_ret
      exact ⟨rfl, K7.out⟩

end Go.Proofs.Ytkgaddlclfjkmaa
