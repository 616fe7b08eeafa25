/-
  The document's example of layer 13.
-/
import Derived.Test.YtkgaddlclfjkmaaMetStd
import Derived.Test.YtkgaddlclfjkmaaMetDecode
import Derived.Test.YtkgaddlclfjkmaaMetEncode
namespace Go.Proofs.Ytkgaddlclfjkmaa
open Go.RowKit
set_option linter.unusedSimpArgs false
set_option linter.unusedVariables false

theorem Mt.ex_width : Mt.helv.width [65, 32] = 945 := by kernel_rfl
theorem Mt.ex_dec : Mt.decodeV [254, 255, 32, 172] = [226, 130, 172] := by kernel_rfl
theorem Mt.ex_enc : Mt.encodeV [97] = [97] := by kernel_rfl

set_option maxRecDepth 100000 in
theorem awake13_any (w : World) :
    Calls Try.prog 9 #[] w fun e w' => e = .returned (.bool true) ∧ Kept w w' := by
  have CS := Lib.hid (fun wx => Standard_helv wx)
  have CD := Lib.hid (fun wx => (show Calls Try.prog 17 #[.string ⟨#[254, 255, 32, 172]⟩] wx fun e w' => e = .returned (.string ⟨#[226, 130, 172]⟩) ∧ Kept wx w' by
    have := Decode_any [254, 255, 32, 172] wx (by decide)
    rw [Mt.ex_dec] at this; exact this))
  have CE := Lib.hid (fun wx => (show Calls Try.prog 19 #[.string ⟨#[97]⟩] wx fun e w' => e = .returned (.string ⟨#[97]⟩) ∧ Kept wx w' by
    have := Encode_any ⟨#[97]⟩ wx (by decide)
    rw [show (⟨#[97]⟩ : ByteArray).data.toList = [97] from rfl, Mt.ex_enc] at this; exact this))
  go_enter Try.func9, Try.ntmps9
  go_wp2_with fail
  (with_reducible refine (CS.out _).mono ?_)
  rintro e w1 ⟨p, c, rfl, hn, hk1⟩
  have K1 := Lib.hid hk1
  clear hk1
  unfold Mt.fontV
  obtain ⟨L, hL⟩ : ∃ L, L = Mt.helv.ws.length := ⟨_, rfl⟩
  have CW := Lib.hid (fun wx (k : Kept w1 wx) => (show Calls Try.prog 13 #[.agg #[.int .i64 32, .slice p L c, .int .i64 556], .string ⟨#[65, 32]⟩] wx fun e w' => e = .returned (.int .i64 945) ∧ Kept wx w' by
    have := (Width_any Mt.helv p c ⟨#[65, 32]⟩ wx ((hn.keep (Nat.le_refl _) k).up (Below.size k)) Mt.helv_sane (by decide))
    rw [show (⟨#[65, 32]⟩ : ByteArray).data.toList = [65, 32] from rfl, Mt.ex_width, ← hL] at this
    exact this))
  rw [← hL]
  have q0 : ((Mt.helv.first : Nat) : Int) = 32 := rfl
  have q1 : ((Mt.helv.other : Nat) : Int) = 556 := rfl
  rw [q0, q1]
  clear hn hL q0 q1 CS
  go_wp2_with fail
  (with_reducible refine (CW.out _ ((Kept.refl _).alloc _ _)).mono ?_)
  rintro e w2 ⟨rfl, hk2⟩
  have K2 := Lib.hid (show Kept w w2 from (K1.out.alloc _ _).trans hk2)
  clear hk2
  go_wp2_with fail
  (with_reducible refine (CD.out _).mono ?_)
  rintro e w3 ⟨rfl, hk3⟩
  have K3 := Lib.hid (K2.out.trans hk3)
  clear hk3
  go_wp2_with fail
  (with_reducible refine (CE.out _).mono ?_)
  rintro e w4 ⟨rfl, hk4⟩
  have K4 := Lib.hid (K3.out.trans hk4)
  clear hk4
  go_wp2_with fail
  go_ret
  exact ⟨rfl, K4.out⟩

end Go.Proofs.Ytkgaddlclfjkmaa
