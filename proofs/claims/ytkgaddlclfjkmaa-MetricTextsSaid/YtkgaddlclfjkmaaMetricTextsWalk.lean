/-
  Any bytes as UTF-8, and any UTF-8 as bytes, are what the document says.
-/
import Derived.Test.YtkgaddlclfjkmaaMetRefDecode
import Derived.Test.YtkgaddlclfjkmaaMetRefEncode
namespace Go.Proofs.Ytkgaddlclfjkmaa
open Go.RowKit
set_option linter.unusedSimpArgs false
set_option linter.unusedVariables false

set_option maxRecDepth 100000 in
set_option maxHeartbeats 4000000 in
theorem MetricTexts_walk (s : ByteArray) (w : World) :
    Calls Try.prog 4 #[.string s] w fun e w' => e = .returned (.bool true) ∧ Kept w w' := by
  have AW := Lib.hid (awake13_any w)
  by_cases hbig : (1000 : Int) < (s.size : Int)
  · go_enter Try.func4, Try.ntmps4
    go_wp2_with fail
    (with_reducible refine AW.out.mono ?_)
    rintro e w1 ⟨rfl, hk1⟩
    have K1 := Lib.hid hk1
    clear hk1
    go_wp2_with fail
    go_ret
    exact ⟨rfl, K1.out⟩
  have hs : s.size ≤ 1000 := by omega
  have hl : s.data.toList.length ≤ 268435000 := by rw [← Lib.size_eq]; omega
  obtain ⟨U, hU⟩ : ∃ U : ByteArray, U = ⟨(Mt.decodeV s.data.toList).toArray⟩ := ⟨_, rfl⟩
  obtain ⟨E, hE⟩ : ∃ E : ByteArray, E = ⟨(Mt.encodeV s.data.toList).toArray⟩ := ⟨_, rfl⟩
  obtain ⟨B, hB⟩ : ∃ B : ByteArray, B = ⟨(Mt.bytesV s.data.toList).toArray⟩ := ⟨_, rfl⟩
  obtain ⟨ok, hok⟩ : ∃ ok, ok = Mt.bytesB s.data.toList := ⟨_, rfl⟩
  have C1 := Lib.hid (fun wx => Bytes_any s wx (by omega))
  have C2 := Lib.hid (fun wx => RBytes_any s wx (by omega))
  have C3 := Lib.hid (fun wx => (show Calls Try.prog 17 #[.string s] wx fun e w' => e = .returned (.string U) ∧ Kept wx w' from hU ▸ Decode_any s.data.toList wx hl))
  have C4 := Lib.hid (fun wx => (show Calls Try.prog 18 #[.string s] wx fun e w' => e = .returned (.string U) ∧ Kept wx w' from hU ▸ RDecode_any s.data.toList wx hl))
  have C5 := Lib.hid (fun wx => Encode_any s wx (by omega))
  have C6 := Lib.hid (fun wx => REncode_any s wx (by omega))
  rw [← hB, ← hok] at C1 C2
  rw [← hE] at C5 C6
  have hbb : (ok == ok) = true := by simp
  clear hU hE hB hok hl hs
  go_enter Try.func4, Try.ntmps4
  go_wp2_with fail
  (with_reducible refine AW.out.mono ?_)
  rintro e w1 ⟨rfl, hk1⟩
  have K1 := Lib.hid hk1
  clear hk1
  go_wp2_with fail
  (with_reducible refine (C1.out _).mono ?_)
  rintro e w2 ⟨rfl, hk2⟩
  have K2 := Lib.hid (K1.out.trans hk2)
  clear hk2
  go_wp2_with fail
  (with_reducible refine (C2.out _).mono ?_)
  rintro e w3 ⟨rfl, hk3⟩
  have K3 := Lib.hid (K2.out.trans hk3)
  clear hk3
  go_wp2_with fail
  (with_reducible refine (C3.out _).mono ?_)
  rintro e w4 ⟨rfl, hk4⟩
  have K4 := Lib.hid (K3.out.trans hk4)
  clear hk4
  go_wp2_with fail
  (with_reducible refine (C4.out _).mono ?_)
  rintro e w5 ⟨rfl, hk5⟩
  have K5 := Lib.hid (K4.out.trans hk5)
  clear hk5
  go_wp2_with fail
  (with_reducible refine (C5.out _).mono ?_)
  rintro e w6 ⟨rfl, hk6⟩
  have K6 := Lib.hid (K5.out.trans hk6)
  clear hk6
  go_wp2_with fail
  (with_reducible refine (C6.out _).mono ?_)
  rintro e w7 ⟨rfl, hk7⟩
  have K7 := Lib.hid (K6.out.trans hk7)
  clear hk7
  go_wp2_with fail
  go_ret
  exact ⟨rfl, K7.out⟩

end Go.Proofs.Ytkgaddlclfjkmaa
