import Derived.Test.YtoablpaehhjchaaGreatDoorStoO
import Derived.Test.YtoablpaehhjchaaGreatDoorStoFree
import Derived.Test.YtoablpaehhjchaaGreatDoorStoM
import Derived.Test.YtoablpaehhjchaaGreatDoorWrC
import Derived.Test.YtoablpaehhjchaaGreatDoorXrfAwake
import Derived.Lib.ConvBytes
namespace Go.Proofs.YtoablpaehhjchaaGreatDoor
open Go.RowKit Cx Sx Rx
set_option linter.unusedSimpArgs false
set_option linter.unusedVariables false

theorem okw_of {w : World} (h : Fine w) : Okw w := ⟨h.1, w.heap.size, Lib.tabBelow_of_tabIs h.2, Nat.le_refl _⟩

theorem to_bytes (S : ByteArray) (w : World) : ∃ cap W2, (convert 9 69 (.string S)).run Tryz.prog w = .ok (.slice (some ⟨w.heap.size, 0, none⟩) S.size cap) W2 ∧ Kept w W2 ∧
    ∀ W, Kept W2 W → (convert 69 9 (.slice (some ⟨w.heap.size, 0, none⟩) S.size cap)).run Tryz.prog W = .ok (.string S) W := by
  refine ⟨_, Lib.bytesWorld w 5 S, Lib.run_convert_string_bytes (P := Tryz.prog) w 9 69 5 S Tryz.underlying9 Tryz.underlying69 Tryz.underlying5, ?_, fun W k => ?_⟩
  · refine ⟨?_, ?_, ?_, by rw [Lib.bytesWorld_size]; omega, fun k hk => Lib.bytesWorld_at_old w _ _ k hk⟩
    all_goals (unfold Lib.bytesWorld World.freeze; split <;> rfl)
  · have hlt : w.heap.size < (Lib.bytesWorld w 5 S).heap.size := by rw [Lib.bytesWorld_size]; omega
    have h := run_convert_bytes_back (P := Tryz.prog) W 69 9 5 ⟨w.heap.size, 0, none⟩ (grownCap w S.size 0 5) S.data.toList Tryz.underlying69 Tryz.underlying5 Tryz.underlying9 (fun j hj => by
      rw [Addr.add_lit, Nat.zero_add, k.cells.1 _ _ hlt, Lib.bytesWorld_cell w _ S j (by simpa using hj)]
      have hj' : j < S.data.toList.length := hj
      simp [List.getD_eq_getElem?_getD, List.getElem?_eq_getElem hj'])
    have e : S.data.toList.length = S.size := by simp
    rw [e] at h
    exact h

theorem awO_ok : Ob.Ok awO := .mk _ _ _ _ _ _ (by decide) (by decide) (by decide) (by decide) (by decide) (fun x h => by cases h) (fun x h => by cases h) (fun x h => by cases h)
theorem awD_ok : Ob.Ok awD := .mk _ _ _ _ _ _ (by decide) (by decide) (by decide) (by decide) (by decide) (fun x h => by cases h) (fun x h => by cases h) (fun x h => by cases h)
def aw27 : Ob := .mk 2 1 27000 ⟨#[]⟩ [] []
theorem aw27_ok : Ob.Ok aw27 := .mk _ _ _ _ _ _ (by decide) (by decide) (by decide) (by decide) (by decide) (fun x h => by cases h) (fun x h => by cases h) (fun x h => by cases h)
theorem aw27_int : intO 27 = aw27 := by kernel_rfl
theorem aw27_T : objT aw27 = [50, 55] := by kernel_rfl
theorem aw27_E : objE aw27 = 0 := by kernel_rfl
theorem awD_T : objT awD = [60, 60, 62, 62] := by kernel_rfl
theorem awD_E : objE awD = 0 := by kernel_rfl
theorem awO_len : awO.text.length = 2 := by kernel_rfl
theorem awD_len : awD.text.length = 4 := by kernel_rfl
theorem aw27_len : aw27.text.length = 2 := by kernel_rfl
theorem aw_cat : ((((((⟨(awH ++ awI).toArray⟩ : ByteArray) ++ ⟨awX.toArray⟩) ++ ⟨#[116, 114, 97, 105, 108, 101, 114, 10]⟩) ++ ⟨([60, 60, 62, 62] : List UInt8).toArray⟩) ++ ⟨#[10, 115, 116, 97, 114, 116, 120, 114, 101, 102, 10]⟩) ++ ⟨([50, 55] : List UInt8).toArray⟩) ++ ⟨#[10, 37, 37, 69, 79, 70, 10]⟩ = (⟨awF.toArray⟩ : ByteArray) := by
  have h1 : (⟨#[116, 114, 97, 105, 108, 101, 114, 10]⟩ : ByteArray) = ⟨([116, 114, 97, 105, 108, 101, 114, 10] : List UInt8).toArray⟩ := rfl
  have h2 : (⟨#[10, 115, 116, 97, 114, 116, 120, 114, 101, 102, 10]⟩ : ByteArray) = ⟨([10, 115, 116, 97, 114, 116, 120, 114, 101, 102, 10] : List UInt8).toArray⟩ := rfl
  have h3 : (⟨#[10, 37, 37, 69, 79, 70, 10]⟩ : ByteArray) = ⟨([10, 37, 37, 69, 79, 70, 10] : List UInt8).toArray⟩ := rfl
  rw [h1, h2, h3, bytes_appendX, bytes_appendX, bytes_appendX, bytes_appendX, bytes_appendX, bytes_appendX]
  rfl

theorem awInd (w : World) (hf : Fine w) :
    Calls Tryz.prog 54 #[.int .i64 1, .int .i64 0, .agg #[.int .i64 3, .int .i64 0, .int .i64 0, .string ⟨#[65]⟩, .slice none 0 0, .slice none 0 0]] w fun e w' => e = .returned (.tuple #[.string ⟨awI.toArray⟩, .int .i64 0]) ∧ Kept w w' := by
  have h := Indirect0_any (fun _ => True) 1 0 awO ⟨none, 0, none, 0⟩ w (by decide) (by decide) (by decide) (by decide) aw_sane (by decide) (Lies.flat _ 3 0 0 ⟨#[65]⟩ _ (by decide)) hf awO_ok (by rw [awO_len]; decide)
  rw [aw_obj] at h
  exact h
theorem awDict (w : World) (hf : Fine w) :
    Calls Tryz.prog 57 #[.agg #[.int .i64 6, .int .i64 0, .int .i64 0, .string ⟨#[]⟩, .slice none 0 0, .slice none 0 0]] w fun e w' => e = .returned (.tuple #[.string ⟨([60, 60, 62, 62] : List UInt8).toArray⟩, .int .i64 0]) ∧ Kept w w' := by
  have h := ObjectW_any (fun _ => True) awD ⟨none, 0, none, 0⟩ w (Lies.flat _ 6 0 0 ⟨#[]⟩ _ (by decide)) hf (fun _ => awD_ok) (fun _ => by rw [awD_len]; decide)
  rw [awD_T, awD_E] at h
  exact h
theorem awNum (w : World) (hf : Fine w) :
    Calls Tryz.prog 57 #[.agg #[.int .i64 2, .int .i64 1, .int .i64 27000, .string ⟨#[]⟩, .slice none 0 0, .slice none 0 0]] w fun e w' => e = .returned (.tuple #[.string ⟨([50, 55] : List UInt8).toArray⟩, .int .i64 0]) ∧ Kept w w' := by
  have h := ObjectW_any (fun _ => True) aw27 ⟨none, 0, none, 0⟩ w (Lies.flat _ 2 1 27000 ⟨#[]⟩ _ (by decide)) hf (fun _ => aw27_ok) (fun _ => by rw [aw27_len]; decide)
  rw [aw27_T, aw27_E] at h
  exact h
theorem awInt (w : World) :
    Calls Tryz.prog 56 #[.int .i64 27] w fun e w' => e = .returned (.agg #[.int .i64 2, .int .i64 1, .int .i64 27000, .string ⟨#[]⟩, .slice none 0 0, .slice none 0 0]) ∧ Kept w w' := by
  have h := cosInt_any 27 w (by decide) (by decide)
  rw [aw27_int] at h
  exact h

set_option maxRecDepth 100000 in
set_option maxHeartbeats 8000000 in
theorem laid1_any (g : Nat) (w : World) (hb : Blk w g #[.int .i64 3, .int .i64 0, .int .i64 0, .string ⟨#[65]⟩, .slice none 0 0, .slice none 0 0] 39) (hf : Fine w) (S : ByteArray) (hS : S = ⟨awF.toArray⟩) :
    Calls Tryz.prog 35 #[.slice (some ⟨g, 0, none⟩) 1 1, .int .i64 (-1)] w fun e w' => e = .returned (.tuple #[.string S, .bool true]) ∧ Kept w w' := by
  have HF := Lib.hid hf
  have HB := Lib.hid hb
  have hm1 : ¬ (0 : Int) ≤ -1 := by decide
  obtain ⟨SI, hSI⟩ : ∃ SI : ByteArray, SI = ⟨awI.toArray⟩ := ⟨_, rfl⟩
  obtain ⟨SA, hSA⟩ : ∃ SA : ByteArray, SA = ⟨(awH ++ awI).toArray⟩ := ⟨_, rfl⟩
  obtain ⟨SX, hSX⟩ : ∃ SX : ByteArray, SX = ⟨awX.toArray⟩ := ⟨_, rfl⟩
  obtain ⟨SD, hSD⟩ : ∃ SD : ByteArray, SD = ⟨([60, 60, 62, 62] : List UInt8).toArray⟩ := ⟨_, rfl⟩
  obtain ⟨SN, hSN⟩ : ∃ SN : ByteArray, SN = ⟨([50, 55] : List UInt8).toArray⟩ := ⟨_, rfl⟩
  have HC := Lib.hid (show ((((((SA ++ SX) ++ ⟨#[116, 114, 97, 105, 108, 101, 114, 10]⟩) ++ SD) ++ ⟨#[10, 115, 116, 97, 114, 116, 120, 114, 101, 102, 10]⟩) ++ SN) ++ ⟨#[10, 37, 37, 69, 79, 70, 10]⟩) = S from by rw [hSA, hSX, hSD, hSN, hS]; exact aw_cat)
  have HA := Lib.hid (show (⟨#[37, 80, 68, 70, 45, 49, 46, 55, 10]⟩ : ByteArray) ++ SI = SA from by
    rw [hSI, hSA, show (⟨#[37, 80, 68, 70, 45, 49, 46, 55, 10]⟩ : ByteArray) = ⟨awH.toArray⟩ from rfl, bytes_appendX])
  have z1 : SI.size = 18 := by rw [hSI]; rfl
  have z2 : SA.size = 27 := by rw [hSA]; rfl
  have z3 : SX.size = 29 := by rw [hSX]; rfl
  have z4 : SD.size = 4 := by rw [hSD]; rfl
  have z5 : SN.size = 2 := by rw [hSN]; rfl
  have CI := Lib.hid (fun W (k : Kept w W) => show Calls Tryz.prog 54 #[.int .i64 1, .int .i64 0, .agg #[.int .i64 3, .int .i64 0, .int .i64 0, .string ⟨#[65]⟩, .slice none 0 0, .slice none 0 0]] W fun e w' => e = .returned (.tuple #[.string SI, .int .i64 0]) ∧ Kept W w' from by rw [hSI]; exact awInd W (hf.kept k))
  have CX := Lib.hid (fun W (k : Kept w W) (p : Option Addr) (c : Nat) (hs : Sl W p c [awE]) => show Calls Tryz.prog 7 #[.slice p 1 c] W fun e w' => e = .returned (.tuple #[.string SX, .int .i64 0]) ∧ Kept W w' from by
    obtain ⟨-, B, hT, hB⟩ := okw_of (hf.kept k)
    have z := Write_any [awE] p c B W hs.1 hT hB (fun t ht => by rw [List.mem_singleton.1 ht]; exact ⟨by decide, by decide⟩) hs.2.2 (by decide)
    rw [aw_xref, aw_xrefE, ← hSX] at z
    exact z)
  have CD := Lib.hid (fun W (k : Kept w W) => show Calls Tryz.prog 57 #[.agg #[.int .i64 6, .int .i64 0, .int .i64 0, .string ⟨#[]⟩, .slice none 0 0, .slice none 0 0]] W fun e w' => e = .returned (.tuple #[.string SD, .int .i64 0]) ∧ Kept W w' from by rw [hSD]; exact awDict W (hf.kept k))
  have CN := Lib.hid (fun W (k : Kept w W) => show Calls Tryz.prog 57 #[.agg #[.int .i64 2, .int .i64 1, .int .i64 27000, .string ⟨#[]⟩, .slice none 0 0, .slice none 0 0]] W fun e w' => e = .returned (.tuple #[.string SN, .int .i64 0]) ∧ Kept W w' from by rw [hSN]; exact awNum W (hf.kept k))
  clear hb hf hS hSI hSA hSX hSD hSN
  go_enter Tryz.func35, Tryz.ntmps35
  go_wp2_with fail
  go_loopg [6, 7, 8] 2 (fun m s t i wr => (m = 2 ∧ s = .string ⟨#[37, 80, 68, 70, 45, 49, 46, 55, 10]⟩ ∧ t = .slice none 0 0 ∧ i = .int .i64 0 ∧ Hid (Kept w wr)) ∨ (m = 1 ∧ s = .string SA ∧ (∃ p c, t = .slice p 1 c ∧ Hid (Sl wr p c [awE])) ∧ i = .int .i64 1 ∧ Hid (Kept w wr)))
  case atStart => exact .inl ⟨rfl, rfl, rfl, rfl, Lib.hid (Kept.refl w)⟩
  case round =>
    rcases hrel with ⟨rfl, rfl, rfl, rfl, KR⟩ | ⟨rfl, rfl, ⟨p, c, rfl, HSL⟩, rfl, KR⟩
    · have B1 := Lib.hid (HB.out.kept KR.out)
      obtain ⟨c0, c1, c2, c3, c4, c5⟩ := B1.out.cells6
      go_wp2_with fail
      (with_reducible refine (CI.out _ KR.out).mono ?_)
      rintro e w1 ⟨rfl, hk1⟩
      have K1 := Lib.hid (KR.out.trans hk1)
      clear hk1 c0 c1 c2 c3 c4 c5
      have E1 := Lib.hid (Blk.fresh w1 #[.int .i64 1, .int .i64 9, .int .i64 0, .bool true] 65)
      have K2 := Lib.hid (K1.out.allocO (.cells #[.int .i64 1, .int .i64 9, .int .i64 0, .bool true] 65))
      have N2 := Lib.hid (Ents.nil 65 w.heap.size (w1.alloc (.cells #[.int .i64 1, .int .i64 9, .int .i64 0, .bool true] 65)))
      have hB2 : w.heap.size ≤ (w1.alloc (.cells #[.int .i64 1, .int .i64 9, .int .i64 0, .bool true] 65)).heap.size := Below.size K2.out
      go_wp2_with (at_builtin; refine wpList_app_ents rfl _ _ rfl N2.out rfl (some ⟨w1.heap.size, 0, none⟩) [awE] 1 1 rfl (by decide) (one_sl (e := awE) E1.out).1 rfl hB2 (by decide) ?_; intro g5 cap5 w5 ho5 hg5 hl5)
      obtain ⟨p5, c5, he5, hsl5⟩ := ho5.sl
      have S5 := Lib.hid hsl5
      have K5 := Lib.hid (show Kept w w5 from Below.grown K2.out hg5 hB2 (fun y hy => by cases hy))
      clear ho5 hg5 hl5 hsl5
      injection he5 with he1 he2 he3
      subst he1 he3
      go_wp2_with fail
      rw [HA.out]
      go_roundg 1
      case measure => omega
      case rel => exact .inr ⟨rfl, rfl, ⟨_, _, rfl, S5⟩, rfl, K5⟩
    · go_wp2_with fail
      (with_reducible refine (CX.out _ KR.out _ _ HSL.out).mono ?_)
      rintro e w1 ⟨rfl, hk1⟩
      have K1 := Lib.hid (KR.out.trans hk1)
      clear hk1
      have D1 := Lib.hid (Blk.fresh w1 #[.int .i64 6, .int .i64 0, .int .i64 0, .string ⟨#[]⟩, .slice none 0 0, .slice none 0 0] 39)
      have K2 := Lib.hid (K1.out.allocO (.cells #[.int .i64 6, .int .i64 0, .int .i64 0, .string ⟨#[]⟩, .slice none 0 0, .slice none 0 0] 39))
      go_wp2_with fail
      (with_reducible refine (CD.out _ K2.out).mono ?_)
      rintro e w3 ⟨rfl, hk3⟩
      have K3 := Lib.hid (K2.out.trans hk3)
      clear hk3
      go_wp2_with fail
      (with_reducible refine (awInt _).mono ?_)
      rintro e w4 ⟨rfl, hk4⟩
      have K4 := Lib.hid (K3.out.trans hk4)
      clear hk4
      go_wp2_with fail
      (with_reducible refine (CN.out _ K4.out).mono ?_)
      rintro e w5 ⟨rfl, hk5⟩
      have K5 := Lib.hid (K4.out.trans hk5)
      clear hk5
      go_wp2_with fail
      go_ret2
      exact ⟨by rw [HC.out]; rfl, K5.out⟩

end Go.Proofs.YtoablpaehhjchaaGreatDoor

namespace Go.Proofs.YtoablpaehhjchaaGreatDoor
open Go.RowKit Cx Sx Rx
set_option linter.unusedSimpArgs false
set_option linter.unusedVariables false

theorem aw_free : IsFree [⟨1, 0, awO⟩] 2 := by
  refine ⟨by decide, fun x hx => ?_, fun m h1 h2 => ⟨⟨1, 0, awO⟩, List.mem_cons_self, by show (1 : Int) = m; omega⟩⟩
  obtain rfl := List.mem_singleton.1 hx
  show (1 : Int) ≠ 2
  decide
theorem aw_find : findV [⟨1, 0, awO⟩] 1 = awO := by rw [findV, if_pos rfl]

set_option maxRecDepth 100000 in
set_option maxHeartbeats 8000000 in
theorem awake9_any (w : World) (hf : Fine w) :
    Calls Tryz.prog 13 #[] w fun e w' => e = .returned (.bool true) ∧ Kept w w' := by
  have HF := Lib.hid hf
  obtain ⟨S, hS⟩ : ∃ S : ByteArray, S = ⟨awF.toArray⟩ := ⟨_, rfl⟩
  have hSz : S.size ≤ 65536 := by rw [hS]; decide
  have HO := Lib.hid (show OpenR S.data.toList (0, [⟨1, 0, awO⟩], awD) by rw [hS]; exact aw_open)
  have B0 := Lib.hid (Blk.fresh w #[.int .i64 3, .int .i64 0, .int .i64 0, .string ⟨#[65]⟩, .slice none 0 0, .slice none 0 0] 39)
  have K0 := Lib.hid (show Kept w (w.alloc (.cells #[.int .i64 3, .int .i64 0, .int .i64 0, .string ⟨#[65]⟩, .slice none 0 0, .slice none 0 0] 39)) from (Kept.refl w).allocO _)
  have CL := Lib.hid (laid1_any _ _ B0.out (hf.kept K0.out) S hS)
  clear hf hS
  go_enter Tryz.func13, Tryz.ntmps13
  go_wp2_with fail
  (with_reducible refine CL.out.mono ?_)
  rintro e w1 ⟨rfl, hk1⟩
  have K1 := Lib.hid (K0.out.trans hk1)
  clear hk1 CL
  obtain ⟨cap, W2, hcv, hk2, hback⟩ := to_bytes S w1
  have K2 := Lib.hid (K1.out.trans hk2)
  have CO := Lib.hid (Open_any _ S W2 hSz (HF.out.kept K2.out).1 hback)
  clear hk2 hback hSz
  go_wp2_with fail
  (with_reducible refine CO.out.mono ?_)
  rintro e w3 ⟨X, p, c, ⟨hp, hc, hq, he⟩, hX, rfl, hk3, hN, hL, -, -, -⟩
  obtain rfl := openR_one HO.out hX
  have K3 := Lib.hid (K2.out.trans hk3)
  have N3 := Lib.hid hN
  clear hX hk3 hN hL CO hcv HO
  unfold fileV
  simp only [awD, Ob.k, Ob.n, Ob.f, Ob.s, Ob.l, Ob.d, List.length_nil, List.length_singleton]
  have F4 := Lib.hid (Blk.fresh w3 #[.slice p 1 c, .int .i64 6, .int .i64 0, .int .i64 0, .string ⟨#[]⟩, .slice hp 0 hc, .slice hq 0 he] 46)
  have K4 := Lib.hid (K3.out.allocO (.cells #[.slice p 1 c, .int .i64 6, .int .i64 0, .int .i64 0, .string ⟨#[]⟩, .slice hp 0 hc, .slice hq 0 he] 46))
  have N4 := Lib.hid (N3.out.kept ((Kept.refl w3).allocO (.cells #[.slice p 1 c, .int .i64 6, .int .i64 0, .int .i64 0, .string ⟨#[]⟩, .slice hp 0 hc, .slice hq 0 he] 46)))
  have CF := Lib.hid (fun W (k : Kept (w3.alloc (.cells #[.slice p 1 c, .int .i64 6, .int .i64 0, .int .i64 0, .string ⟨#[]⟩, .slice hp 0 hc, .slice hq 0 he] 46)) W) => show Calls Tryz.prog 19 #[.agg #[.slice p 1 c, .int .i64 6, .int .i64 0, .int .i64 0, .string ⟨#[]⟩, .slice hp 0 hc, .slice hq 0 he], .int .i64 1] W fun e w' => ∃ h', e = .returned (objV awO h') ∧ Kept W w' from by
    have z := Find_any _ [⟨1, 0, awO⟩] p c awD ⟨hp, hc, hq, he⟩ 1 W (N4.out.kept k)
    rw [aw_find] at z
    exact z.mono fun e w' ⟨h', he', hk', _⟩ => ⟨h', he', hk'⟩)
  have CE := Lib.hid (fun W (k : Kept (w3.alloc (.cells #[.slice p 1 c, .int .i64 6, .int .i64 0, .int .i64 0, .string ⟨#[]⟩, .slice hp 0 hc, .slice hq 0 he] 46)) W) => show Calls Tryz.prog 24 #[.agg #[.slice p 1 c, .int .i64 6, .int .i64 0, .int .i64 0, .string ⟨#[]⟩, .slice hp 0 hc, .slice hq 0 he]] W fun e w' => e = .returned (.int .i64 2) ∧ Kept W w' from
    (Free_any _ [⟨1, 0, awO⟩] p c awD ⟨hp, hc, hq, he⟩ W (N4.out.kept k) (by decide)).mono fun e w' ⟨n, hn, he', hk'⟩ => ⟨by rw [he', free_one hn aw_free], hk'⟩)
  obtain ⟨f0, f1, f2, f3, f4, f5, f6⟩ := F4.out.cells7
  go_wp2_with fail
  (with_reducible refine (CF.out _ (Kept.refl _)).mono ?_)
  rintro e w5 ⟨⟨ap, ac, aq, ae⟩, rfl, hk5⟩
  have hfd : ∀ W : World, (Instr.field 39 (.agg #[.int .i64 3, .int .i64 0, .int .i64 0, .string ⟨#[65]⟩, .slice ap 0 ac, .slice aq 0 ae]) 3).run Tryz.prog W = .ok (.string ⟨#[65]⟩) W := fun _ => by kernel_rfl
  have K5 := Lib.hid hk5
  have F5 := Lib.hid (F4.out.kept hk5)
  clear hk5 f0 f1 f2 f3 f4 f5 f6
  unfold objV
  simp only [awO, Ob.k, Ob.n, Ob.f, Ob.s, Ob.l, Ob.d, List.length_nil]
  obtain ⟨f0, f1, f2, f3, f4, f5, f6⟩ := F5.out.cells7
  go_wp2_with fail
  (with_reducible refine (CE.out _ K5.out).mono ?_)
  rintro e w6 ⟨rfl, hk6⟩
  have K6 := Lib.hid (K4.out.trans (K5.out.trans hk6))
  clear hk6
  go_wp2_with fail
  go_ret
  exact ⟨rfl, K6.out⟩

end Go.Proofs.YtoablpaehhjchaaGreatDoor
