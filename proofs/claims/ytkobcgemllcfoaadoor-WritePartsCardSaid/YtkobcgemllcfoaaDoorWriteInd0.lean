/-
  Indirect of an object that is no Stream, and may be.
-/
import Derived.Test.YtkobcgemllcfoaaDoorWriteTop
namespace Go.Proofs.YtkobcgemllcfoaaDoor
open Go.RowKit Cx
set_option linter.unusedSimpArgs false
set_option linter.unusedVariables false

theorem FB.fine {B : Nat} {w : World} (h : FB B w) : Fine w := h.1

set_option maxRecDepth 100000 in
set_option maxHeartbeats 4000000 in
theorem Indirect0_any (P : Nat → Prop) (m g : Int) (x : Ob) (h : Hd) (w : World) (hm0 : 0 ≤ m) (hm1 : m ≤ 2147483) (hg0 : 0 ≤ g) (hg1 : g ≤ 2147483) (hs : x.sane 0 = 0) (hk : x.k ≠ 8) (hl : Lies (Cel P w) x h) (hf : Fine w) (hx : Ob.Ok x) (hlen : x.text.length ≤ 137438953472) :
    Calls Tryd.prog 16 #[.int .i64 m, .int .i64 g, objV x h] w fun e w' => e = .returned (.tuple #[.string ⟨((Lib.itoa m ++ [32] ++ Lib.itoa g ++ [32, 111, 98, 106, 10]) ++ x.text ++ [10, 101, 110, 100, 111, 98, 106, 10]).toArray⟩, .int .i64 0]) ∧ Kept w w' := by
  have HS := Lib.hid (fun w' (k : Kept w w') => SaneW_any P x h w' (hl.kept k))
  rw [hs] at HS
  have HL := Lib.hid hl
  have HF := Lib.hid hf
  have HP := Lib.hid (putObject_any _ x (Nat.le_refl _) hx h)
  have HI := Lib.hid (fun w' (k : Fine w') => Itoa_any m w' (by omega) (by omega) k)
  have HG := Lib.hid (fun w' (k : Fine w') => Itoa_any g w' (by omega) (by omega) k)
  obtain ⟨T, hT⟩ : ∃ T, T = x.text := ⟨_, rfl⟩
  obtain ⟨M, hM⟩ : ∃ M, M = Lib.itoa m := ⟨_, rfl⟩
  obtain ⟨G, hG⟩ : ∃ G, G = Lib.itoa g := ⟨_, rfl⟩
  have HML := Lib.hid (show M.length ≤ 1000 by rw [hM]; exact Nat.le_trans (Fx.itoa_len hm0 (by omega)).2 (by decide))
  have HGL := Lib.hid (show G.length ≤ 1000 by rw [hG]; exact Nat.le_trans (Fx.itoa_len hg0 (by omega)).2 (by decide))
  rw [← hT] at hlen ⊢
  rw [← hM, ← hG]
  obtain ⟨R, hR⟩ : ∃ R, R = (M ++ [32] ++ G ++ [32, 111, 98, 106, 10]) ++ T ++ [10, 101, 110, 100, 111, 98, 106, 10] := ⟨_, rfl⟩
  rw [← hR]
  have HR := Lib.hid hR
  clear hR
  rw [← hM] at HI
  rw [← hG] at HG
  have HN := Lib.hid hlen
  have HTX := Lib.hid hT
  clear hl hf hx hlen hT hM hG hs
  obtain ⟨p, c, q, ec⟩ := h
  obtain ⟨k, n, f, s, l, d⟩ := x
  have hk8 : (k == 8) = false := by rw [beq_eq_false_iff_ne]; exact hk
  have a0 : ¬ (m < 0) := by omega
  have a1 : ¬ (2147483 < m) := by omega
  have b0 : ¬ (g < 0) := by omega
  have b1 : ¬ (2147483 < g) := by omega
  clear hk
  unfold putV objV at HP
  unfold objV at HS ⊢
  simp only [Ob.k, Ob.n, Ob.f, Ob.s, Ob.l, Ob.d] at HS HP ⊢
  have K1 := Lib.hid ((Kept.refl w).alloc #[.int .i64 k, .int .i64 n, .int .i64 f, .string s, .slice p l.length c, .slice q d.length ec] 26)
  have BK := Lib.hid (Blk.fresh w #[.int .i64 k, .int .i64 n, .int .i64 f, .string s, .slice p l.length c, .slice q d.length ec] 26)
  go_enter Tryd.func16, Tryd.ntmps16
  go_wp2_with fail
  (with_reducible refine (HS.out _ K1.out).mono ?_)
  rintro e w1 ⟨rfl, hk1⟩
  have K2 := Lib.hid (K1.out.trans hk1)
  have BK2 := Lib.hid (BK.out.kept hk1)
  obtain ⟨u0, u1, u2, u3, u4, u5⟩ := BK2.out.cells6
  clear hk1
  have BU := Lib.hid (builder_any w1)
  unfold putV toldV at BU
  go_wp2_with fail
  (with_reducible refine BU.out.mono ?_)
  rintro e w2 ⟨rfl, hb2, hk2⟩
  have B2 := Lib.hid hb2
  have K3 := Lib.hid (K2.out.trans hk2)
  have F2 := Lib.hid ((FB.of (HF.out.kept K2.out)).kept hk2)
  have L2 := Lib.hid (Lies.low HL.out K3.out K2.out.size)
  have BK3 := Lib.hid (BK2.out.kept hk2)
  have KB := Lib.hid (show Below w1.heap.size w1 w2 from hk2)
  clear hb2 hk2 u0 u1 u2 u3 u4 u5
  go_wp2_with fail
  (with_reducible refine (HI.out _ F2.out.fine).mono ?_)
  rintro e w3 ⟨rfl, hk3⟩
  have B3 := Lib.hid (B2.out.kept hk3)
  have R3 := Lib.hid ((Fr.refl w1.heap.size w1.heap.size w2).kept hk3 B2.out.2)
  have F3 := Lib.hid (F2.out.kept hk3)
  clear hk3
  go_wp2_with fail
  (with_reducible refine (HG.out _ F3.out.fine).mono ?_)
  rintro e w4 ⟨rfl, hk4⟩
  have B4 := Lib.hid (B3.out.kept hk4)
  have R4 := Lib.hid (R3.out.kept hk4 B3.out.2)
  have P4 := Lib.hid (put4_any _ _ [] ⟨M.toArray⟩ ⟨#[32]⟩ ⟨G.toArray⟩ ⟨#[32, 111, 98, 106, 10]⟩ w4 B4.out (by have := HML.out; have := HGL.out; show 0 + (M.toArray.size + 1 + G.toArray.size + 5) ≤ _; rw [List.size_toArray, List.size_toArray]; omega))
  clear hk4
  go_wp2_with fail
  (with_reducible refine P4.out.mono ?_)
  rintro e w5 ⟨rfl, hb5, hf5⟩
  have B5 := Lib.hid (hb5.cast (show _ = M ++ [32] ++ G ++ [32, 111, 98, 106, 10] from rfl))
  have R5 := Lib.hid (R4.out.trans hf5)
  have PO := Lib.hid (HP.out _ _ _ w5 (R5.out.lies L2.out) B5.out (F2.out.below R5.out.1) (by rw [← HTX.out]; have := HN.out; have := HML.out; have := HGL.out; simp only [List.length_append, List.length_cons, List.length_nil]; omega))
  rw [← HTX.out] at PO
  obtain ⟨u0, u1, u2, u3, u4, u5⟩ := (R5.out.blk BK3.out (by have := BK2.out.lt; omega) (by decide)).cells6
  clear hb5 hf5
  go_wp2_with fail
  (with_reducible refine PO.out.mono ?_)
  rintro e w6 ⟨rfl, hb6, hf6⟩
  have B6 := Lib.hid hb6
  have R6 := Lib.hid (R5.out.trans hf6)
  have P6 := Lib.hid (put1_any _ _ _ ⟨#[10, 101, 110, 100, 111, 98, 106, 10]⟩ w6 B6.out (by have := HN.out; have := HML.out; have := HGL.out; simp only [List.length_append, List.length_cons, List.length_nil]; show _ + 8 ≤ _; omega))
  clear hb6 hf6 u0 u1 u2 u3 u4 u5
  go_wp2_with fail
  (with_reducible refine P6.out.mono ?_)
  rintro e w7 ⟨rfl, hb7, hf7⟩
  have B7 := Lib.hid (hb7.cast (show _ = R from HR.out.symm))
  have TD := Lib.hid (Tryd.Builder_String_any_k _ _ _ w7 B7.out.1 B7.out.2)
  have KC := Lib.hid (KB.out.trans (R6.out.trans hf7).1)
  clear hb7 hf7
  go_wp2_with fail
  (with_reducible refine TD.out.mono ?_)
  rintro e w8 ⟨rfl, -, hk8', -⟩
  have K8 := Lib.hid (show Kept w w8 from K2.out.trans (show Kept w1 w8 from KC.out.trans hk8'))
  clear hk8'
  go_wp2_with fail
  go_ret2
  exact ⟨rfl, K8.out⟩

end Go.Proofs.YtkobcgemllcfoaaDoor
