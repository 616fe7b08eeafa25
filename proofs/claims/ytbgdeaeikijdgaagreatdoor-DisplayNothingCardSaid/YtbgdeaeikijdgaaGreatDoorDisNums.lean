/-
  How many numbers an operator begins with, and these numbers.
-/
import Derived.Test.YtbgdeaeikijdgaaGreatDoorDisM
import Derived.Deep.LoopGhost
namespace Go.Proofs.YtbgdeaeikijdgaaGreatDoor
open Go.RowKit Cx Px
set_option linter.unusedSimpArgs false
set_option linter.unusedVariables false

set_option maxRecDepth 100000 in
theorem ofN_q (w : World) : Calls Tryz.prog 36 #[.string ⟨#[113]⟩] w fun e w' => e = .returned (.int .i64 0) ∧ w = w' := by
  obtain ⟨nm, hn⟩ : ∃ nm : ByteArray, nm = ⟨#[113]⟩ := ⟨_, rfl⟩
  rw [← hn]
  have e0 : (nm.toList == [99, 109]) = false := by rw [hn]; kernel_rfl
  have e1 : (nm.toList == [84, 109]) = false := by rw [hn]; kernel_rfl
  have e2 : (nm.toList == [114, 101]) = false := by rw [hn]; kernel_rfl
  have e3 : (nm.toList == [114, 103]) = false := by rw [hn]; kernel_rfl
  have e4 : (nm.toList == [82, 71]) = false := by rw [hn]; kernel_rfl
  have e5 : (nm.toList == [109]) = false := by rw [hn]; kernel_rfl
  have e6 : (nm.toList == [108]) = false := by rw [hn]; kernel_rfl
  have e7 : (nm.toList == [84, 100]) = false := by rw [hn]; kernel_rfl
  have e8 : (nm.toList == [84, 68]) = false := by rw [hn]; kernel_rfl
  have e9 : (nm.toList == [119]) = false := by rw [hn]; kernel_rfl
  have e10 : (nm.toList == [103]) = false := by rw [hn]; kernel_rfl
  have e11 : (nm.toList == [71]) = false := by rw [hn]; kernel_rfl
  have e12 : (nm.toList == [84, 76]) = false := by rw [hn]; kernel_rfl
  clear hn
  go_enter Tryz.func36, Tryz.ntmps36
  go_wp2_with fail
  go_ret
  exact ⟨rfl, rfl⟩

set_option maxRecDepth 100000 in
theorem ofN_bigQ (w : World) : Calls Tryz.prog 36 #[.string ⟨#[81]⟩] w fun e w' => e = .returned (.int .i64 0) ∧ w = w' := by
  obtain ⟨nm, hn⟩ : ∃ nm : ByteArray, nm = ⟨#[81]⟩ := ⟨_, rfl⟩
  rw [← hn]
  have e0 : (nm.toList == [99, 109]) = false := by rw [hn]; kernel_rfl
  have e1 : (nm.toList == [84, 109]) = false := by rw [hn]; kernel_rfl
  have e2 : (nm.toList == [114, 101]) = false := by rw [hn]; kernel_rfl
  have e3 : (nm.toList == [114, 103]) = false := by rw [hn]; kernel_rfl
  have e4 : (nm.toList == [82, 71]) = false := by rw [hn]; kernel_rfl
  have e5 : (nm.toList == [109]) = false := by rw [hn]; kernel_rfl
  have e6 : (nm.toList == [108]) = false := by rw [hn]; kernel_rfl
  have e7 : (nm.toList == [84, 100]) = false := by rw [hn]; kernel_rfl
  have e8 : (nm.toList == [84, 68]) = false := by rw [hn]; kernel_rfl
  have e9 : (nm.toList == [119]) = false := by rw [hn]; kernel_rfl
  have e10 : (nm.toList == [103]) = false := by rw [hn]; kernel_rfl
  have e11 : (nm.toList == [71]) = false := by rw [hn]; kernel_rfl
  have e12 : (nm.toList == [84, 76]) = false := by rw [hn]; kernel_rfl
  clear hn
  go_enter Tryz.func36, Tryz.ntmps36
  go_wp2_with fail
  go_ret
  exact ⟨rfl, rfl⟩

set_option maxRecDepth 100000 in
theorem ofN_cm (w : World) : Calls Tryz.prog 36 #[.string ⟨#[99, 109]⟩] w fun e w' => e = .returned (.int .i64 6) ∧ w = w' := by
  obtain ⟨nm, hn⟩ : ∃ nm : ByteArray, nm = ⟨#[99, 109]⟩ := ⟨_, rfl⟩
  rw [← hn]
  have e0 : (nm.toList == [99, 109]) = true := by rw [hn]; kernel_rfl
  clear hn
  go_enter Tryz.func36, Tryz.ntmps36
  go_wp2_with fail
  go_ret
  exact ⟨rfl, rfl⟩

set_option maxRecDepth 100000 in
theorem ofN_w (w : World) : Calls Tryz.prog 36 #[.string ⟨#[119]⟩] w fun e w' => e = .returned (.int .i64 1) ∧ w = w' := by
  obtain ⟨nm, hn⟩ : ∃ nm : ByteArray, nm = ⟨#[119]⟩ := ⟨_, rfl⟩
  rw [← hn]
  have e0 : (nm.toList == [99, 109]) = false := by rw [hn]; kernel_rfl
  have e1 : (nm.toList == [84, 109]) = false := by rw [hn]; kernel_rfl
  have e2 : (nm.toList == [114, 101]) = false := by rw [hn]; kernel_rfl
  have e3 : (nm.toList == [114, 103]) = false := by rw [hn]; kernel_rfl
  have e4 : (nm.toList == [82, 71]) = false := by rw [hn]; kernel_rfl
  have e5 : (nm.toList == [109]) = false := by rw [hn]; kernel_rfl
  have e6 : (nm.toList == [108]) = false := by rw [hn]; kernel_rfl
  have e7 : (nm.toList == [84, 100]) = false := by rw [hn]; kernel_rfl
  have e8 : (nm.toList == [84, 68]) = false := by rw [hn]; kernel_rfl
  have e9 : (nm.toList == [119]) = true := by rw [hn]; kernel_rfl
  clear hn
  go_enter Tryz.func36, Tryz.ntmps36
  go_wp2_with fail
  go_ret
  exact ⟨rfl, rfl⟩

set_option maxRecDepth 100000 in
theorem ofN_g (w : World) : Calls Tryz.prog 36 #[.string ⟨#[103]⟩] w fun e w' => e = .returned (.int .i64 1) ∧ w = w' := by
  obtain ⟨nm, hn⟩ : ∃ nm : ByteArray, nm = ⟨#[103]⟩ := ⟨_, rfl⟩
  rw [← hn]
  have e0 : (nm.toList == [99, 109]) = false := by rw [hn]; kernel_rfl
  have e1 : (nm.toList == [84, 109]) = false := by rw [hn]; kernel_rfl
  have e2 : (nm.toList == [114, 101]) = false := by rw [hn]; kernel_rfl
  have e3 : (nm.toList == [114, 103]) = false := by rw [hn]; kernel_rfl
  have e4 : (nm.toList == [82, 71]) = false := by rw [hn]; kernel_rfl
  have e5 : (nm.toList == [109]) = false := by rw [hn]; kernel_rfl
  have e6 : (nm.toList == [108]) = false := by rw [hn]; kernel_rfl
  have e7 : (nm.toList == [84, 100]) = false := by rw [hn]; kernel_rfl
  have e8 : (nm.toList == [84, 68]) = false := by rw [hn]; kernel_rfl
  have e9 : (nm.toList == [119]) = false := by rw [hn]; kernel_rfl
  have e10 : (nm.toList == [103]) = true := by rw [hn]; kernel_rfl
  clear hn
  go_enter Tryz.func36, Tryz.ntmps36
  go_wp2_with fail
  go_ret
  exact ⟨rfl, rfl⟩

set_option maxRecDepth 100000 in
theorem ofN_bigG (w : World) : Calls Tryz.prog 36 #[.string ⟨#[71]⟩] w fun e w' => e = .returned (.int .i64 1) ∧ w = w' := by
  obtain ⟨nm, hn⟩ : ∃ nm : ByteArray, nm = ⟨#[71]⟩ := ⟨_, rfl⟩
  rw [← hn]
  have e0 : (nm.toList == [99, 109]) = false := by rw [hn]; kernel_rfl
  have e1 : (nm.toList == [84, 109]) = false := by rw [hn]; kernel_rfl
  have e2 : (nm.toList == [114, 101]) = false := by rw [hn]; kernel_rfl
  have e3 : (nm.toList == [114, 103]) = false := by rw [hn]; kernel_rfl
  have e4 : (nm.toList == [82, 71]) = false := by rw [hn]; kernel_rfl
  have e5 : (nm.toList == [109]) = false := by rw [hn]; kernel_rfl
  have e6 : (nm.toList == [108]) = false := by rw [hn]; kernel_rfl
  have e7 : (nm.toList == [84, 100]) = false := by rw [hn]; kernel_rfl
  have e8 : (nm.toList == [84, 68]) = false := by rw [hn]; kernel_rfl
  have e9 : (nm.toList == [119]) = false := by rw [hn]; kernel_rfl
  have e10 : (nm.toList == [103]) = false := by rw [hn]; kernel_rfl
  have e11 : (nm.toList == [71]) = true := by rw [hn]; kernel_rfl
  clear hn
  go_enter Tryz.func36, Tryz.ntmps36
  go_wp2_with fail
  go_ret
  exact ⟨rfl, rfl⟩

set_option maxRecDepth 100000 in
theorem ofN_rg (w : World) : Calls Tryz.prog 36 #[.string ⟨#[114, 103]⟩] w fun e w' => e = .returned (.int .i64 3) ∧ w = w' := by
  obtain ⟨nm, hn⟩ : ∃ nm : ByteArray, nm = ⟨#[114, 103]⟩ := ⟨_, rfl⟩
  rw [← hn]
  have e0 : (nm.toList == [99, 109]) = false := by rw [hn]; kernel_rfl
  have e1 : (nm.toList == [84, 109]) = false := by rw [hn]; kernel_rfl
  have e2 : (nm.toList == [114, 101]) = false := by rw [hn]; kernel_rfl
  have e3 : (nm.toList == [114, 103]) = true := by rw [hn]; kernel_rfl
  clear hn
  go_enter Tryz.func36, Tryz.ntmps36
  go_wp2_with fail
  go_ret
  exact ⟨rfl, rfl⟩

set_option maxRecDepth 100000 in
theorem ofN_m (w : World) : Calls Tryz.prog 36 #[.string ⟨#[109]⟩] w fun e w' => e = .returned (.int .i64 2) ∧ w = w' := by
  obtain ⟨nm, hn⟩ : ∃ nm : ByteArray, nm = ⟨#[109]⟩ := ⟨_, rfl⟩
  rw [← hn]
  have e0 : (nm.toList == [99, 109]) = false := by rw [hn]; kernel_rfl
  have e1 : (nm.toList == [84, 109]) = false := by rw [hn]; kernel_rfl
  have e2 : (nm.toList == [114, 101]) = false := by rw [hn]; kernel_rfl
  have e3 : (nm.toList == [114, 103]) = false := by rw [hn]; kernel_rfl
  have e4 : (nm.toList == [82, 71]) = false := by rw [hn]; kernel_rfl
  have e5 : (nm.toList == [109]) = true := by rw [hn]; kernel_rfl
  clear hn
  go_enter Tryz.func36, Tryz.ntmps36
  go_wp2_with fail
  go_ret
  exact ⟨rfl, rfl⟩

set_option maxRecDepth 100000 in
theorem ofN_l (w : World) : Calls Tryz.prog 36 #[.string ⟨#[108]⟩] w fun e w' => e = .returned (.int .i64 2) ∧ w = w' := by
  obtain ⟨nm, hn⟩ : ∃ nm : ByteArray, nm = ⟨#[108]⟩ := ⟨_, rfl⟩
  rw [← hn]
  have e0 : (nm.toList == [99, 109]) = false := by rw [hn]; kernel_rfl
  have e1 : (nm.toList == [84, 109]) = false := by rw [hn]; kernel_rfl
  have e2 : (nm.toList == [114, 101]) = false := by rw [hn]; kernel_rfl
  have e3 : (nm.toList == [114, 103]) = false := by rw [hn]; kernel_rfl
  have e4 : (nm.toList == [82, 71]) = false := by rw [hn]; kernel_rfl
  have e5 : (nm.toList == [109]) = false := by rw [hn]; kernel_rfl
  have e6 : (nm.toList == [108]) = true := by rw [hn]; kernel_rfl
  clear hn
  go_enter Tryz.func36, Tryz.ntmps36
  go_wp2_with fail
  go_ret
  exact ⟨rfl, rfl⟩

set_option maxRecDepth 100000 in
theorem ofN_re (w : World) : Calls Tryz.prog 36 #[.string ⟨#[114, 101]⟩] w fun e w' => e = .returned (.int .i64 4) ∧ w = w' := by
  obtain ⟨nm, hn⟩ : ∃ nm : ByteArray, nm = ⟨#[114, 101]⟩ := ⟨_, rfl⟩
  rw [← hn]
  have e0 : (nm.toList == [99, 109]) = false := by rw [hn]; kernel_rfl
  have e1 : (nm.toList == [84, 109]) = false := by rw [hn]; kernel_rfl
  have e2 : (nm.toList == [114, 101]) = true := by rw [hn]; kernel_rfl
  clear hn
  go_enter Tryz.func36, Tryz.ntmps36
  go_wp2_with fail
  go_ret
  exact ⟨rfl, rfl⟩

set_option maxRecDepth 100000 in
theorem ofN_f (w : World) : Calls Tryz.prog 36 #[.string ⟨#[102]⟩] w fun e w' => e = .returned (.int .i64 0) ∧ w = w' := by
  obtain ⟨nm, hn⟩ : ∃ nm : ByteArray, nm = ⟨#[102]⟩ := ⟨_, rfl⟩
  rw [← hn]
  have e0 : (nm.toList == [99, 109]) = false := by rw [hn]; kernel_rfl
  have e1 : (nm.toList == [84, 109]) = false := by rw [hn]; kernel_rfl
  have e2 : (nm.toList == [114, 101]) = false := by rw [hn]; kernel_rfl
  have e3 : (nm.toList == [114, 103]) = false := by rw [hn]; kernel_rfl
  have e4 : (nm.toList == [82, 71]) = false := by rw [hn]; kernel_rfl
  have e5 : (nm.toList == [109]) = false := by rw [hn]; kernel_rfl
  have e6 : (nm.toList == [108]) = false := by rw [hn]; kernel_rfl
  have e7 : (nm.toList == [84, 100]) = false := by rw [hn]; kernel_rfl
  have e8 : (nm.toList == [84, 68]) = false := by rw [hn]; kernel_rfl
  have e9 : (nm.toList == [119]) = false := by rw [hn]; kernel_rfl
  have e10 : (nm.toList == [103]) = false := by rw [hn]; kernel_rfl
  have e11 : (nm.toList == [71]) = false := by rw [hn]; kernel_rfl
  have e12 : (nm.toList == [84, 76]) = false := by rw [hn]; kernel_rfl
  clear hn
  go_enter Tryz.func36, Tryz.ntmps36
  go_wp2_with fail
  go_ret
  exact ⟨rfl, rfl⟩

set_option maxRecDepth 100000 in
theorem ofN_bigS (w : World) : Calls Tryz.prog 36 #[.string ⟨#[83]⟩] w fun e w' => e = .returned (.int .i64 0) ∧ w = w' := by
  obtain ⟨nm, hn⟩ : ∃ nm : ByteArray, nm = ⟨#[83]⟩ := ⟨_, rfl⟩
  rw [← hn]
  have e0 : (nm.toList == [99, 109]) = false := by rw [hn]; kernel_rfl
  have e1 : (nm.toList == [84, 109]) = false := by rw [hn]; kernel_rfl
  have e2 : (nm.toList == [114, 101]) = false := by rw [hn]; kernel_rfl
  have e3 : (nm.toList == [114, 103]) = false := by rw [hn]; kernel_rfl
  have e4 : (nm.toList == [82, 71]) = false := by rw [hn]; kernel_rfl
  have e5 : (nm.toList == [109]) = false := by rw [hn]; kernel_rfl
  have e6 : (nm.toList == [108]) = false := by rw [hn]; kernel_rfl
  have e7 : (nm.toList == [84, 100]) = false := by rw [hn]; kernel_rfl
  have e8 : (nm.toList == [84, 68]) = false := by rw [hn]; kernel_rfl
  have e9 : (nm.toList == [119]) = false := by rw [hn]; kernel_rfl
  have e10 : (nm.toList == [103]) = false := by rw [hn]; kernel_rfl
  have e11 : (nm.toList == [71]) = false := by rw [hn]; kernel_rfl
  have e12 : (nm.toList == [84, 76]) = false := by rw [hn]; kernel_rfl
  clear hn
  go_enter Tryz.func36, Tryz.ntmps36
  go_wp2_with fail
  go_ret
  exact ⟨rfl, rfl⟩

set_option maxRecDepth 100000 in
theorem ofN_bigB (w : World) : Calls Tryz.prog 36 #[.string ⟨#[66]⟩] w fun e w' => e = .returned (.int .i64 0) ∧ w = w' := by
  obtain ⟨nm, hn⟩ : ∃ nm : ByteArray, nm = ⟨#[66]⟩ := ⟨_, rfl⟩
  rw [← hn]
  have e0 : (nm.toList == [99, 109]) = false := by rw [hn]; kernel_rfl
  have e1 : (nm.toList == [84, 109]) = false := by rw [hn]; kernel_rfl
  have e2 : (nm.toList == [114, 101]) = false := by rw [hn]; kernel_rfl
  have e3 : (nm.toList == [114, 103]) = false := by rw [hn]; kernel_rfl
  have e4 : (nm.toList == [82, 71]) = false := by rw [hn]; kernel_rfl
  have e5 : (nm.toList == [109]) = false := by rw [hn]; kernel_rfl
  have e6 : (nm.toList == [108]) = false := by rw [hn]; kernel_rfl
  have e7 : (nm.toList == [84, 100]) = false := by rw [hn]; kernel_rfl
  have e8 : (nm.toList == [84, 68]) = false := by rw [hn]; kernel_rfl
  have e9 : (nm.toList == [119]) = false := by rw [hn]; kernel_rfl
  have e10 : (nm.toList == [103]) = false := by rw [hn]; kernel_rfl
  have e11 : (nm.toList == [71]) = false := by rw [hn]; kernel_rfl
  have e12 : (nm.toList == [84, 76]) = false := by rw [hn]; kernel_rfl
  clear hn
  go_enter Tryz.func36, Tryz.ntmps36
  go_wp2_with fail
  go_ret
  exact ⟨rfl, rfl⟩

set_option maxRecDepth 100000 in
theorem ofN_s (w : World) : Calls Tryz.prog 36 #[.string ⟨#[115]⟩] w fun e w' => e = .returned (.int .i64 0) ∧ w = w' := by
  obtain ⟨nm, hn⟩ : ∃ nm : ByteArray, nm = ⟨#[115]⟩ := ⟨_, rfl⟩
  rw [← hn]
  have e0 : (nm.toList == [99, 109]) = false := by rw [hn]; kernel_rfl
  have e1 : (nm.toList == [84, 109]) = false := by rw [hn]; kernel_rfl
  have e2 : (nm.toList == [114, 101]) = false := by rw [hn]; kernel_rfl
  have e3 : (nm.toList == [114, 103]) = false := by rw [hn]; kernel_rfl
  have e4 : (nm.toList == [82, 71]) = false := by rw [hn]; kernel_rfl
  have e5 : (nm.toList == [109]) = false := by rw [hn]; kernel_rfl
  have e6 : (nm.toList == [108]) = false := by rw [hn]; kernel_rfl
  have e7 : (nm.toList == [84, 100]) = false := by rw [hn]; kernel_rfl
  have e8 : (nm.toList == [84, 68]) = false := by rw [hn]; kernel_rfl
  have e9 : (nm.toList == [119]) = false := by rw [hn]; kernel_rfl
  have e10 : (nm.toList == [103]) = false := by rw [hn]; kernel_rfl
  have e11 : (nm.toList == [71]) = false := by rw [hn]; kernel_rfl
  have e12 : (nm.toList == [84, 76]) = false := by rw [hn]; kernel_rfl
  clear hn
  go_enter Tryz.func36, Tryz.ntmps36
  go_wp2_with fail
  go_ret
  exact ⟨rfl, rfl⟩

set_option maxRecDepth 100000 in
theorem ofN_n (w : World) : Calls Tryz.prog 36 #[.string ⟨#[110]⟩] w fun e w' => e = .returned (.int .i64 0) ∧ w = w' := by
  obtain ⟨nm, hn⟩ : ∃ nm : ByteArray, nm = ⟨#[110]⟩ := ⟨_, rfl⟩
  rw [← hn]
  have e0 : (nm.toList == [99, 109]) = false := by rw [hn]; kernel_rfl
  have e1 : (nm.toList == [84, 109]) = false := by rw [hn]; kernel_rfl
  have e2 : (nm.toList == [114, 101]) = false := by rw [hn]; kernel_rfl
  have e3 : (nm.toList == [114, 103]) = false := by rw [hn]; kernel_rfl
  have e4 : (nm.toList == [82, 71]) = false := by rw [hn]; kernel_rfl
  have e5 : (nm.toList == [109]) = false := by rw [hn]; kernel_rfl
  have e6 : (nm.toList == [108]) = false := by rw [hn]; kernel_rfl
  have e7 : (nm.toList == [84, 100]) = false := by rw [hn]; kernel_rfl
  have e8 : (nm.toList == [84, 68]) = false := by rw [hn]; kernel_rfl
  have e9 : (nm.toList == [119]) = false := by rw [hn]; kernel_rfl
  have e10 : (nm.toList == [103]) = false := by rw [hn]; kernel_rfl
  have e11 : (nm.toList == [71]) = false := by rw [hn]; kernel_rfl
  have e12 : (nm.toList == [84, 76]) = false := by rw [hn]; kernel_rfl
  clear hn
  go_enter Tryz.func36, Tryz.ntmps36
  go_wp2_with fail
  go_ret
  exact ⟨rfl, rfl⟩

set_option maxRecDepth 100000 in
theorem ofN_BT (w : World) : Calls Tryz.prog 36 #[.string ⟨#[66, 84]⟩] w fun e w' => e = .returned (.int .i64 0) ∧ w = w' := by
  obtain ⟨nm, hn⟩ : ∃ nm : ByteArray, nm = ⟨#[66, 84]⟩ := ⟨_, rfl⟩
  rw [← hn]
  have e0 : (nm.toList == [99, 109]) = false := by rw [hn]; kernel_rfl
  have e1 : (nm.toList == [84, 109]) = false := by rw [hn]; kernel_rfl
  have e2 : (nm.toList == [114, 101]) = false := by rw [hn]; kernel_rfl
  have e3 : (nm.toList == [114, 103]) = false := by rw [hn]; kernel_rfl
  have e4 : (nm.toList == [82, 71]) = false := by rw [hn]; kernel_rfl
  have e5 : (nm.toList == [109]) = false := by rw [hn]; kernel_rfl
  have e6 : (nm.toList == [108]) = false := by rw [hn]; kernel_rfl
  have e7 : (nm.toList == [84, 100]) = false := by rw [hn]; kernel_rfl
  have e8 : (nm.toList == [84, 68]) = false := by rw [hn]; kernel_rfl
  have e9 : (nm.toList == [119]) = false := by rw [hn]; kernel_rfl
  have e10 : (nm.toList == [103]) = false := by rw [hn]; kernel_rfl
  have e11 : (nm.toList == [71]) = false := by rw [hn]; kernel_rfl
  have e12 : (nm.toList == [84, 76]) = false := by rw [hn]; kernel_rfl
  clear hn
  go_enter Tryz.func36, Tryz.ntmps36
  go_wp2_with fail
  go_ret
  exact ⟨rfl, rfl⟩

set_option maxRecDepth 100000 in
theorem ofN_Td (w : World) : Calls Tryz.prog 36 #[.string ⟨#[84, 100]⟩] w fun e w' => e = .returned (.int .i64 2) ∧ w = w' := by
  obtain ⟨nm, hn⟩ : ∃ nm : ByteArray, nm = ⟨#[84, 100]⟩ := ⟨_, rfl⟩
  rw [← hn]
  have e0 : (nm.toList == [99, 109]) = false := by rw [hn]; kernel_rfl
  have e1 : (nm.toList == [84, 109]) = false := by rw [hn]; kernel_rfl
  have e2 : (nm.toList == [114, 101]) = false := by rw [hn]; kernel_rfl
  have e3 : (nm.toList == [114, 103]) = false := by rw [hn]; kernel_rfl
  have e4 : (nm.toList == [82, 71]) = false := by rw [hn]; kernel_rfl
  have e5 : (nm.toList == [109]) = false := by rw [hn]; kernel_rfl
  have e6 : (nm.toList == [108]) = false := by rw [hn]; kernel_rfl
  have e7 : (nm.toList == [84, 100]) = true := by rw [hn]; kernel_rfl
  clear hn
  go_enter Tryz.func36, Tryz.ntmps36
  go_wp2_with fail
  go_ret
  exact ⟨rfl, rfl⟩

set_option maxRecDepth 100000 in
theorem ofN_Tf (w : World) : Calls Tryz.prog 36 #[.string ⟨#[84, 102]⟩] w fun e w' => e = .returned (.int .i64 0) ∧ w = w' := by
  obtain ⟨nm, hn⟩ : ∃ nm : ByteArray, nm = ⟨#[84, 102]⟩ := ⟨_, rfl⟩
  rw [← hn]
  have e0 : (nm.toList == [99, 109]) = false := by rw [hn]; kernel_rfl
  have e1 : (nm.toList == [84, 109]) = false := by rw [hn]; kernel_rfl
  have e2 : (nm.toList == [114, 101]) = false := by rw [hn]; kernel_rfl
  have e3 : (nm.toList == [114, 103]) = false := by rw [hn]; kernel_rfl
  have e4 : (nm.toList == [82, 71]) = false := by rw [hn]; kernel_rfl
  have e5 : (nm.toList == [109]) = false := by rw [hn]; kernel_rfl
  have e6 : (nm.toList == [108]) = false := by rw [hn]; kernel_rfl
  have e7 : (nm.toList == [84, 100]) = false := by rw [hn]; kernel_rfl
  have e8 : (nm.toList == [84, 68]) = false := by rw [hn]; kernel_rfl
  have e9 : (nm.toList == [119]) = false := by rw [hn]; kernel_rfl
  have e10 : (nm.toList == [103]) = false := by rw [hn]; kernel_rfl
  have e11 : (nm.toList == [71]) = false := by rw [hn]; kernel_rfl
  have e12 : (nm.toList == [84, 76]) = false := by rw [hn]; kernel_rfl
  clear hn
  go_enter Tryz.func36, Tryz.ntmps36
  go_wp2_with fail
  go_ret
  exact ⟨rfl, rfl⟩

set_option maxRecDepth 100000 in
theorem ofN_Tj (w : World) : Calls Tryz.prog 36 #[.string ⟨#[84, 106]⟩] w fun e w' => e = .returned (.int .i64 0) ∧ w = w' := by
  obtain ⟨nm, hn⟩ : ∃ nm : ByteArray, nm = ⟨#[84, 106]⟩ := ⟨_, rfl⟩
  rw [← hn]
  have e0 : (nm.toList == [99, 109]) = false := by rw [hn]; kernel_rfl
  have e1 : (nm.toList == [84, 109]) = false := by rw [hn]; kernel_rfl
  have e2 : (nm.toList == [114, 101]) = false := by rw [hn]; kernel_rfl
  have e3 : (nm.toList == [114, 103]) = false := by rw [hn]; kernel_rfl
  have e4 : (nm.toList == [82, 71]) = false := by rw [hn]; kernel_rfl
  have e5 : (nm.toList == [109]) = false := by rw [hn]; kernel_rfl
  have e6 : (nm.toList == [108]) = false := by rw [hn]; kernel_rfl
  have e7 : (nm.toList == [84, 100]) = false := by rw [hn]; kernel_rfl
  have e8 : (nm.toList == [84, 68]) = false := by rw [hn]; kernel_rfl
  have e9 : (nm.toList == [119]) = false := by rw [hn]; kernel_rfl
  have e10 : (nm.toList == [103]) = false := by rw [hn]; kernel_rfl
  have e11 : (nm.toList == [71]) = false := by rw [hn]; kernel_rfl
  have e12 : (nm.toList == [84, 76]) = false := by rw [hn]; kernel_rfl
  clear hn
  go_enter Tryz.func36, Tryz.ntmps36
  go_wp2_with fail
  go_ret
  exact ⟨rfl, rfl⟩

set_option maxRecDepth 100000 in
theorem ofN_none (nm : ByteArray) (w : World) (h : ∀ s ∈ known, nm.data.toList ≠ s) : Calls Tryz.prog 36 #[.string nm] w fun e w' => e = .returned (.int .i64 0) ∧ w = w' := by
  have e0 : (nm.toList == [99, 109]) = false := by have := h [99, 109] (by decide); simpa [Lib.toList_data] using this
  have e1 : (nm.toList == [84, 109]) = false := by have := h [84, 109] (by decide); simpa [Lib.toList_data] using this
  have e2 : (nm.toList == [114, 101]) = false := by have := h [114, 101] (by decide); simpa [Lib.toList_data] using this
  have e3 : (nm.toList == [114, 103]) = false := by have := h [114, 103] (by decide); simpa [Lib.toList_data] using this
  have e4 : (nm.toList == [82, 71]) = false := by have := h [82, 71] (by decide); simpa [Lib.toList_data] using this
  have e5 : (nm.toList == [109]) = false := by have := h [109] (by decide); simpa [Lib.toList_data] using this
  have e6 : (nm.toList == [108]) = false := by have := h [108] (by decide); simpa [Lib.toList_data] using this
  have e7 : (nm.toList == [84, 100]) = false := by have := h [84, 100] (by decide); simpa [Lib.toList_data] using this
  have e8 : (nm.toList == [84, 68]) = false := by have := h [84, 68] (by decide); simpa [Lib.toList_data] using this
  have e9 : (nm.toList == [119]) = false := by have := h [119] (by decide); simpa [Lib.toList_data] using this
  have e10 : (nm.toList == [103]) = false := by have := h [103] (by decide); simpa [Lib.toList_data] using this
  have e11 : (nm.toList == [71]) = false := by have := h [71] (by decide); simpa [Lib.toList_data] using this
  have e12 : (nm.toList == [84, 76]) = false := by have := h [84, 76] (by decide); simpa [Lib.toList_data] using this
  clear h
  go_enter Tryz.func36, Tryz.ntmps36
  go_wp2_with fail
  go_ret
  exact ⟨rfl, rfl⟩

/-- The first so many numbers, and 0 behind them. -/
def numI (fs : List Int) (i k : Nat) : Int := if k < i then fs.getD k 0 else 0
def numAt (fs : List Int) (i k : Nat) : Value := .int .i64 (numI fs i k)
def numArr (fs : List Int) (i : Nat) : Array Value := #[numAt fs i 0, numAt fs i 1, numAt fs i 2, numAt fs i 3, numAt fs i 4, numAt fs i 5]
theorem numArr_set (fs : List Int) (i : Nat) (hi : i < 6) : (numArr fs i).setIfInBounds i (.int .i64 (fs.getD i 0)) = numArr fs (i + 1) := by
  match i, hi with
  | 0, _ => simp [numArr, numAt, numI]
  | 1, _ => simp [numArr, numAt, numI]
  | 2, _ => simp [numArr, numAt, numI]
  | 3, _ => simp [numArr, numAt, numI]
  | 4, _ => simp [numArr, numAt, numI]
  | 5, _ => simp [numArr, numAt, numI]
theorem numArr_at (fs : List Int) (i q : Nat) (hq : q < 6) : (numArr fs i)[q]? = some (numAt fs i q) := by
  match q, hq with
  | 0, _ => rfl
  | 1, _ => rfl
  | 2, _ => rfl
  | 3, _ => rfl
  | 4, _ => rfl
  | 5, _ => rfl

set_option maxRecDepth 100000 in
set_option maxHeartbeats 8000000 in
theorem numbers_any (l : List Ob) (p : Option Addr) (c : Nat) (fs : List Int) (w : World) (hl : ∀ i (hi : i < l.length), ∃ b off, p = some ⟨b, off, none⟩ ∧ b < w.heap.size ∧ w.cell? ⟨b, off + i * 6, none⟩ = some (.int .i64 l[i].k) ∧ w.cell? ⟨b, off + i * 6 + 2, none⟩ = some (.int .i64 l[i].f))
    (hN : HasN l fs) (h6 : fs.length ≤ 6) :
    Calls Tryz.prog 35 #[.slice p l.length c, .int .i64 fs.length] w fun e w' => e = .returned (.tuple #[.agg (numArr fs fs.length), .int .i64 0]) ∧ Kept w w' := by
  have HL := Lib.hid hl
  have HN := Lib.hid hN
  obtain ⟨n, hn⟩ : ∃ n, n = fs.length := ⟨_, rfl⟩
  obtain ⟨L, hL⟩ : ∃ L, L = l.length := ⟨_, rfl⟩
  have HNN := Lib.hid hn
  have HLL := Lib.hid hL
  rw [← hn] at h6 ⊢
  rw [← hL]
  have K0 := Lib.hid (((Kept.refl w).alloc #[.int .i64 0, .int .i64 0, .int .i64 0, .int .i64 0, .int .i64 0, .int .i64 0] 27).alloc #[.int .i64 0, .int .i64 0, .int .i64 0, .int .i64 0, .int .i64 0, .int .i64 0] 27)
  have A0 := Lib.hid ((Blk.fresh w #[.int .i64 0, .int .i64 0, .int .i64 0, .int .i64 0, .int .i64 0, .int .i64 0] 27).alloc (.cells #[.int .i64 0, .int .i64 0, .int .i64 0, .int .i64 0, .int .i64 0, .int .i64 0] 27 (0, 0)))
  have B0 := Lib.hid (Blk.fresh' (w := w.alloc (.cells #[.int .i64 0, .int .i64 0, .int .i64 0, .int .i64 0, .int .i64 0, .int .i64 0] 27 (0, 0))) (b := w.heap.size + 1) #[.int .i64 0, .int .i64 0, .int .i64 0, .int .i64 0, .int .i64 0, .int .i64 0] 27 (by simp))
  clear hl hN hn hL
  go_enter Tryz.func35, Tryz.ntmps35
  go_wp2_with fail
  go_loopg [9] n (fun m i wr => ∃ j : Nat, m = n - j ∧ j ≤ n ∧ i = .int .i64 j ∧ Hid (Blk wr (w.heap.size + 1) (numArr fs j) 27) ∧ Hid (Blk wr w.heap.size #[.int .i64 0, .int .i64 0, .int .i64 0, .int .i64 0, .int .i64 0, .int .i64 0] 27) ∧ Hid (Kept w wr))
  case atStart => exact ⟨0, by omega, Nat.zero_le _, rfl, B0, A0, K0⟩
  case round =>
    obtain ⟨j, hm, hj, rfl, HB, HA, HK⟩ := hrel
    have bf := HB.out.free
    have bz := HB.out.lt
    by_cases hlt : j < n
    · have j1 : (j : Int) < (n : Int) := by omega
      obtain ⟨h2, hk, hf⟩ := HN.out j (by rw [← HNN.out]; exact hlt)
      obtain ⟨b, off, hp, hb, c0, c2⟩ := HL.out j h2
      subst hp
      have c0 := (HK.out.cells.1 b _ hb).trans c0
      have c2 := (HK.out.cells.1 b _ hb).trans c2
      rw [hk] at c0
      rw [hf] at c2
      have hfd : fs[j]'(by rw [← HNN.out]; exact hlt) = fs.getD j 0 := by
        rw [List.getD_eq_getElem?_getD, List.getElem?_eq_getElem (by rw [← HNN.out]; exact hlt)]; rfl
      rw [hfd] at c2
      obtain ⟨F, hF⟩ : ∃ F, F = fs.getD j 0 := ⟨_, rfl⟩
      rw [← hF] at c2
      have j2 : ¬ (L : Int) ≤ (j : Int) := by have := HLL.out; omega
      have j3 : (j : Int) < (L : Int) := by omega
      have jd : decide ((L : Int) ≤ (j : Int)) = false := by simpa using j2
      have j6 : (j : Int) < 6 := by omega
      have b0 : wr.cell? ⟨w.heap.size + 1, j, none⟩ ≠ none := by rw [HB.out.cell j, numArr_at fs j j (by omega)]; simp
      obtain ⟨bv, hbv⟩ : ∃ bv, wr.cell? ⟨w.heap.size + 1, j, none⟩ = some bv := ⟨_, (HB.out.cell j).trans (numArr_at fs j j (by omega))⟩
      have HB1 := Lib.hid (HB.out.set j (.int .i64 F))
      rw [hF, numArr_set fs j (by omega), ← hF] at HB1
      have HA1 := Lib.hid (HA.out.other (k := w.heap.size + 1) (o := j) (by omega) (.int .i64 F))
      have HK1 := Lib.hid (HK.out.set (k := w.heap.size + 1) (o := j) (by omega) (.int .i64 F))
      clear hk hf hfd hF
      go_wp2_with fail
      go_roundg (n - (j + 1))
      case measure => omega
      case rel => exact ⟨j + 1, rfl, by omega, by go_num, HB1, HA1, HK1⟩
    · obtain rfl : j = n := by omega
      have q0 : wr.cell? ⟨w.heap.size + 1, 0, none⟩ = some (.int .i64 (numI fs j 0)) := (HB.out.cell 0).trans (numArr_at fs j 0 (by decide))
      have q1 : wr.cell? ⟨w.heap.size + 1, 1, none⟩ = some (.int .i64 (numI fs j 1)) := (HB.out.cell 1).trans (numArr_at fs j 1 (by decide))
      have q2 : wr.cell? ⟨w.heap.size + 1, 2, none⟩ = some (.int .i64 (numI fs j 2)) := (HB.out.cell 2).trans (numArr_at fs j 2 (by decide))
      have q3 : wr.cell? ⟨w.heap.size + 1, 3, none⟩ = some (.int .i64 (numI fs j 3)) := (HB.out.cell 3).trans (numArr_at fs j 3 (by decide))
      have q4 : wr.cell? ⟨w.heap.size + 1, 4, none⟩ = some (.int .i64 (numI fs j 4)) := (HB.out.cell 4).trans (numArr_at fs j 4 (by decide))
      have q5 : wr.cell? ⟨w.heap.size + 1, 5, none⟩ = some (.int .i64 (numI fs j 5)) := (HB.out.cell 5).trans (numArr_at fs j 5 (by decide))
      have af := HA.out.free
      have az := HA.out.lt
      obtain ⟨z0, z1, z2, z3, z4, z5⟩ := HA.out.cells6
      go_wp2_with fail
      refine bodyPost_ret (v := .tuple #[.agg #[.int .i64 (numI fs j 0), .int .i64 (numI fs j 1), .int .i64 (numI fs j 2), .int .i64 (numI fs j 3), .int .i64 (numI fs j 4), .int .i64 (numI fs j 5)], .int .i64 0]) ?_ rfl ⟨rfl, ?_⟩
      · simp [results, Tryz.results35, go_sem, numArr, z0, z1, z2, z3, z4, z5, az]
      · repeat (with_reducible first | exact HK.out | refine Kept.drew ?_ | refine Kept.set ?_ (Nat.le_refl _) _)

set_option maxRecDepth 100000 in
theorem first_any (o : Ob) (h : Hd) (p : Option Addr) (n c : Nat) (k : Int) (w : World) (hn : 0 < n) (b off : Nat) (hp : p = some ⟨b, off, none⟩) (hk : o.k = k)
    (hc : w.cell? ⟨b, off, none⟩ = some (.int .i64 o.k) ∧ w.cell? ⟨b, off + 1, none⟩ = some (.int .i64 o.n) ∧ w.cell? ⟨b, off + 2, none⟩ = some (.int .i64 o.f) ∧ w.cell? ⟨b, off + 3, none⟩ = some (.string o.s) ∧ w.cell? ⟨b, off + 4, none⟩ = some (.slice h.p o.l.length h.c) ∧ w.cell? ⟨b, off + 5, none⟩ = some (.slice h.q o.d.length h.e)) (hb : b < w.heap.size) :
    Calls Tryz.prog 65 #[.slice p n c, .int .i64 k] w fun e w' => e = .returned (.tuple #[objV o h, .int .i64 0]) ∧ Kept w w' := by
  obtain ⟨c0, c1, c2, c3, c4, c5⟩ := hc
  subst hp
  subst hk
  have n0 : ((n : Int) == 0) = false := by rw [beq_eq_false_iff_ne]; omega
  have n1 : (0 : Int) < (n : Int) := by omega
  unfold objV
  go_enter Tryz.func65, Tryz.ntmps65
  go_wp2_with fail
  refine bodyPost_ret (v := .tuple #[.agg #[.int .i64 o.k, .int .i64 o.n, .int .i64 o.f, .string o.s, .slice h.p o.l.length h.c, .slice h.q o.d.length h.e], .int .i64 0]) ?_ rfl ⟨rfl, ?_⟩
  · simp [results, Tryz.results65, go_sem]
  · repeat (with_reducible first | exact Kept.refl _ | refine Kept.set ?_ (Nat.le_refl _) _ | refine Kept.alloc ?_ _ _ | refine Kept.drew ?_)

end Go.Proofs.YtbgdeaeikijdgaaGreatDoor
