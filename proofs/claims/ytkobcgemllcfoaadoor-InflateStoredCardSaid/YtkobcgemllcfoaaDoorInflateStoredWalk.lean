/-
  Bytes in blocks of the kind 0 are told as they are; cut off they are not.
-/
import Derived.Test.YtkobcgemllcfoaaDoorInfArgs
import Derived.Test.YtkobcgemllcfoaaDoorInfAwake
import Derived.Test.YtkobcgemllcfoaaDoorInfStoredMath
namespace Go.Proofs.YtkobcgemllcfoaaDoor
open Go.RowKit Ix
set_option linter.unusedSimpArgs false
set_option linter.unusedVariables false

theorem not_byte {x : Nat} (h : x < 256) : bits BinOp.xor IntKind.u8 (if IntKind.u8.signed = true then -1 else IntKind.u8.max) (x : Int) = ((255 - x : Nat) : Int) := by
  have key : (List.range 256).all (fun x => bits BinOp.xor IntKind.u8 (if IntKind.u8.signed = true then -1 else IntKind.u8.max) (x : Int) == ((255 - x : Nat) : Int)) = true := by kernel_rfl
  exact beq_iff_eq.1 (List.all_eq_true.1 key x (List.mem_range.2 h))
/-- Five bytes ahead of n bytes. -/
def hd5 (last n : Nat) : List UInt8 := [UInt8.ofNat last, UInt8.ofNat (n % 256), UInt8.ofNat (n / 256), UInt8.ofNat (255 - n % 256), UInt8.ofNat (255 - n / 256)]
theorem hd5_cells {n last : Nat} (h : n ≤ 2000) (hl : last < 2) (z : Int) (hz : z = (last : Int)) :
    (#[.int .u8 z, .int .u8 ((n : Int) % 256), .int .u8 ((n : Int) / 256), .int .u8 (bits BinOp.xor IntKind.u8 (if IntKind.u8.signed = true then -1 else IntKind.u8.max) ((n : Int) % 256)), .int .u8 (bits BinOp.xor IntKind.u8 (if IntKind.u8.signed = true then -1 else IntKind.u8.max) ((n : Int) / 256))] : Array Value) = (bytsV (hd5 last n)).toArray := by
  have e1 : ((n : Int) % 256) = ((n % 256 : Nat) : Int) := by omega
  have e2 : ((n : Int) / 256) = ((n / 256 : Nat) : Int) := by omega
  rw [e1, e2, not_byte (by omega), not_byte (by omega), hz]
  unfold hd5 bytsV
  simp only [List.map_cons, List.map_nil, UInt8.toNat_ofNat', Nat.reducePow]
  rw [Nat.mod_eq_of_lt (show last < 256 by omega), Nat.mod_eq_of_lt (show n % 256 < 256 by omega), Nat.mod_eq_of_lt (show n / 256 < 256 by omega), Nat.mod_eq_of_lt (show 255 - n % 256 < 256 by omega), Nat.mod_eq_of_lt (show 255 - n / 256 < 256 by omega)]
theorem hd5_two (a b : List UInt8) (ha : a.length ≤ 2000) (hb : b.length ≤ 2000) : TwoB a b (UInt8.ofNat 0) (UInt8.ofNat (a.length % 256)) (UInt8.ofNat (a.length / 256)) (UInt8.ofNat (255 - a.length % 256)) (UInt8.ofNat (255 - a.length / 256)) (UInt8.ofNat 1) (UInt8.ofNat (b.length % 256)) (UInt8.ofNat (b.length / 256)) (UInt8.ofNat (255 - b.length % 256)) (UInt8.ofNat (255 - b.length / 256)) := by
  constructor <;> (try simp only [UInt8.toNat_ofNat', Nat.reducePow]) <;> omega
theorem hd5_all (a b : List UInt8) : hd5 0 a.length ++ a ++ hd5 1 b.length ++ b = twoB a b (UInt8.ofNat 0) (UInt8.ofNat (a.length % 256)) (UInt8.ofNat (a.length / 256)) (UInt8.ofNat (255 - a.length % 256)) (UInt8.ofNat (255 - a.length / 256)) (UInt8.ofNat 1) (UInt8.ofNat (b.length % 256)) (UInt8.ofNat (b.length / 256)) (UInt8.ofNat (255 - b.length % 256)) (UInt8.ofNat (255 - b.length / 256)) := rfl
theorem hd5_len (l n : Nat) : (hd5 l n).length = 5 := rfl
theorem ByR.string {w : World} {B0 : Nat} {p : Option Addr} {l : List UInt8} {c : Nat} (h : ByR w B0 p l) (hp : p = none → l = []) : (convert 38 9 (.slice p l.length c)).run Tryd.prog w = .ok (.string ⟨l.toArray⟩) w := by
  cases p with
  | none =>
    obtain rfl := hp rfl
    exact run_convert_bytes_nil (P := Tryd.prog) w 38 5 Tryd.underlying38 Tryd.underlying5 0 c _ Tryd.underlying9
  | some ad =>
    refine run_convert_bytes_back (P := Tryd.prog) w 38 9 5 ad c l Tryd.underlying38 Tryd.underlying5 Tryd.underlying9 fun j hj => ?_
    obtain ⟨k', o', hp', -, hc⟩ := h j hj
    have e := Option.some.inj hp'
    subst e
    rw [Addr.add_lit]
    exact hc
theorem ByR.take {w : World} {B0 : Nat} {p : Option Addr} {l : List UInt8} (h : ByR w B0 p l) (k : Nat) : ByR w B0 p (l.take k) := by
  intro i hi
  have hi2 : i < l.length := by rw [List.length_take] at hi; omega
  obtain ⟨k', o', hp, hk, hc⟩ := h i hi2
  exact ⟨k', o', hp, hk, by rw [hc]; simp⟩
theorem Out.byR' {w : World} {B g n c : Nat} {l : List UInt8} (h : Out w B (.slice (some ⟨g, 0, none⟩) n c) l) : ByR w w.heap.size (some ⟨g, 0, none⟩) l := by
  obtain ⟨p, c', e, hb⟩ := h.byR
  injection e with e1 e2 e3
  rw [e1]; exact hb
theorem lit_byR (W : World) (l : List UInt8) : ByR (W.alloc (.cells (bytsV l).toArray 5)) (W.alloc (.cells (bytsV l).toArray 5)).heap.size (some ⟨W.heap.size, 0, none⟩) l := by
  intro i hi
  refine ⟨W.heap.size, 0, rfl, by simp, ?_⟩
  rw [Nat.zero_add, (Blk.fresh W (bytsV l).toArray 5).cell i]
  simp [bytsV, hi]

set_option maxRecDepth 100000 in
set_option maxHeartbeats 4000000 in
theorem InflateStored_walk (v0 : Value) (a : List UInt8) (v1 : Value) (b : List UInt8) (v2 : Value) (more : List UInt8) (cut : Int) (w : World) (h0 : ByArg w v0 a) (h1 : ByArg w v1 b) (h2 : ByArg w v2 more) (hc : -9223372036854775808 ≤ cut ∧ cut ≤ 9223372036854775807) :
    Calls Tryd.prog 8 #[v0, v1, v2, .int .i64 cut] w fun e w' => e = .returned (.bool true) ∧ Kept w w' := by
  obtain ⟨pa, ca, rfl, ha, hac, ham, han⟩ := h0
  obtain ⟨pb, cb, rfl, hb, hbc, hbm, hbn⟩ := h1
  obtain ⟨pm, cm, rfl, hm, hmc, hmm, hmn⟩ := h2
  have RA := Lib.hid ha
  have RB := Lib.hid hb
  have RM := Lib.hid hm
  have AW := Lib.hid (awake6_any w)
  clear ha hb hm
  by_cases k0 : 2000 < a.length ∨ 2000 < b.length ∨ 300 < more.length
  · have e1 : (2000 : Int) < (a.length : Int) ∨ ¬ (2000 : Int) < (a.length : Int) ∧ (2000 : Int) < (b.length : Int) ∨ ¬ (2000 : Int) < (a.length : Int) ∧ ¬ (2000 : Int) < (b.length : Int) ∧ (300 : Int) < (more.length : Int) := by omega
    clear k0
    rcases e1 with e1 | ⟨e1, e2⟩ | ⟨e1, e2, e3⟩
    all_goals
      go_enter Tryd.func8, Tryd.ntmps8
      go_wp2_with fail
      (with_reducible refine AW.out.mono ?_)
      rintro e w1 ⟨rfl, hk1⟩
      have K1 := Lib.hid hk1
      clear hk1
      go_wp2_with fail
      go_ret
      exact ⟨rfl, K1.out⟩
  · have e1 : ¬ (2000 : Int) < (a.length : Int) := by omega
    have e2 : ¬ (2000 : Int) < (b.length : Int) := by omega
    have e3 : ¬ (300 : Int) < (more.length : Int) := by omega
    go_enter Tryd.func8, Tryd.ntmps8
    go_wp2_with fail
    (with_reducible refine AW.out.mono ?_)
    rintro e w1 ⟨rfl, hk1⟩
    have K1 := Lib.hid hk1
    clear hk1
    have ka : a.length ≤ 2000 := by omega
    have kb : b.length ≤ 2000 := by omega
    have km : more.length ≤ 300 := by omega
    have hw1 := Below.size K1.out
    have HC1 := hd5_cells ka (last := 0) (by decide) 0 rfl
    go_upto_region 5 with fail
    have KA := Lib.hid (show Kept w (w1.alloc (.cells (bytsV (hd5 0 a.length)).toArray 5)) from K1.out.allocO _)
    have OA := Lib.hid (Out.lit w1 (B0 := w.heap.size) hw1 (hd5 0 a.length) (by rw [hd5_len]; decide))
    rw [hd5_len] at OA
    obtain ⟨W1, hW1⟩ : ∃ W1, W1 = w1.alloc (.cells (bytsV (hd5 0 a.length)).toArray 5) := ⟨_, rfl⟩
    rw [← hW1] at KA OA ⊢
    clear hW1 HC1
    have hs1 := Below.size KA.out
    have hl2 : (hd5 0 a.length ++ a).length = 5 + a.length := by rw [List.length_append, hd5_len]
    have hl3 : (hd5 0 a.length ++ a ++ hd5 1 b.length).length = 10 + a.length := by rw [List.length_append, hl2, hd5_len]; omega
    obtain ⟨N, hN⟩ : ∃ N, N = a.length + b.length + 10 := ⟨_, rfl⟩
    have hlX := two_len a b (UInt8.ofNat 0) (UInt8.ofNat (a.length % 256)) (UInt8.ofNat (a.length / 256)) (UInt8.ofNat (255 - a.length % 256)) (UInt8.ofNat (255 - a.length / 256)) (UInt8.ofNat 1) (UInt8.ofNat (b.length % 256)) (UInt8.ofNat (b.length / 256)) (UInt8.ofNat (255 - b.length % 256)) (UInt8.ofNat (255 - b.length / 256))
    rw [← hN] at hlX
    have hN10 : 10 ≤ N := by omega
    have hNle : N ≤ 4010 := by omega
    have HN := Lib.hid hN
    clear hN
    go_upto_region 6 with (at_builtin; refine wpList_app_any rfl _ _ rfl OA.out rfl pa _ ca a rfl rfl (RA.out.kept KA.out (Nat.le_refl _)) (fun e => ⟨by have := han e; omega, han e⟩) hs1 (by rw [hd5_len]; omega) ?_; intro v2 w2 ho2 hg2; obtain ⟨g2, cap2, hv2, hc2⟩ := ho2.shape (by rw [hl2]; omega); rw [hl2] at hv2 hc2; subst hv2; have O2 := Lib.hid ho2; have K2 := Lib.hid (show Kept w w2 from Below.grown KA.out hg2 hs1 (fun x hx => (OA.out.lt x hx).1)); clear ho2 hg2)
    have HC2 := hd5_cells kb (last := 1) (by decide) 1 rfl
    have hs2 := Below.size K2.out
    have OL2 := Lib.hid (O2.out.kept (show Kept w2 (w2.alloc (.cells (bytsV (hd5 1 b.length)).toArray 5)) from (Kept.refl w2).allocO _))
    have KL2 := Lib.hid (show Kept w (w2.alloc (.cells (bytsV (hd5 1 b.length)).toArray 5)) from K2.out.allocO _)
    have hsL2 := Below.size KL2.out
    go_upto_region 7 with (at_builtin; refine wpList_app_any rfl _ _ rfl OL2.out rfl (some ⟨w2.heap.size, 0, none⟩) 5 5 (hd5 1 b.length) rfl rfl (lit_byR w2 (hd5 1 b.length)) (fun e => by cases e) hsL2 (by rw [hl2]; omega) ?_; intro v3 w3 ho3 hg3; obtain ⟨g3, cap3, hv3, hc3⟩ := ho3.shape (by rw [hl3]; omega); rw [hl3] at hv3 hc3; subst hv3; have O3 := Lib.hid ho3; have K3 := Lib.hid (show Kept w w3 from Below.grown KL2.out hg3 hsL2 (fun x hx => (OL2.out.lt x hx).1)); clear ho3 hg3)
    have hs3 := Below.size K3.out
    try clear HC2
    go_upto_region 8 with (at_builtin; refine wpList_app_any rfl _ _ rfl O3.out rfl pb _ cb b rfl rfl (RB.out.kept K3.out (Nat.le_refl _)) (fun e => ⟨by have := hbn e; omega, hbn e⟩) hs3 (by rw [hl3]; omega) ?_; intro v4 w4 ho4 hg4; obtain ⟨g4, cap4, hv4, hc4⟩ := ho4.shape (by rw [hd5_all, hlX]; omega); rw [hd5_all, hlX] at hv4 hc4; subst hv4; have O4 := Lib.hid ho4; have K4 := Lib.hid (show Kept w w4 from Below.grown K3.out hg4 hs3 (fun x hx => (O3.out.lt x hx).1)); clear ho4 hg4)
    rw [hd5_all] at O4
    have HT := Lib.hid (hd5_two a b ka kb)
    have HR1 := Lib.hid (raw_two HT.out more)
    have HR2 := Lib.hid (raw_cut HT.out)
    obtain ⟨X, hX⟩ : ∃ X, X = twoB a b (UInt8.ofNat 0) (UInt8.ofNat (a.length % 256)) (UInt8.ofNat (a.length / 256)) (UInt8.ofNat (255 - a.length % 256)) (UInt8.ofNat (255 - a.length / 256)) (UInt8.ofNat 1) (UInt8.ofNat (b.length % 256)) (UInt8.ofNat (b.length / 256)) (UInt8.ofNat (255 - b.length % 256)) (UInt8.ofNat (255 - b.length / 256)) := ⟨_, rfl⟩
    rw [← hX] at O4 hlX HR1 HR2
    rw [← HN.out] at HR1 HR2
    clear hX HT
    have hs4 := Below.size K4.out
    have hl6 : (X ++ more).length = N + more.length := by rw [List.length_append, hlX]
    have KE4 := Lib.hid (show Kept w4 (w4.alloc (.cells #[] 5)) from (Kept.refl w4).allocO _)
    have hsE := Below.size KE4.out
    have OE := Lib.hid (Out.empty w4 (B0 := w4.heap.size) (Nat.le_refl _))
    have BX := Lib.hid ((O4.out.kept KE4.out).byR')
    have hj0 := and_low cut
    obtain ⟨z, hz⟩ : ∃ z, z = cut % 65536 := ⟨_, rfl⟩
    rw [← hz] at hj0
    obtain ⟨y, hy⟩ : ∃ y : Nat, z = (y : Int) := ⟨z.toNat, by omega⟩
    rw [hy] at hj0
    obtain ⟨j, hj⟩ : ∃ j : Nat, j = y % N := ⟨_, rfl⟩
    have hjl : j < N := by rw [hj]; exact Nat.mod_lt _ (by omega)
    have hji : (y : Int) % (N : Int) = (j : Int) := by rw [hj]; simp
    have hN0 : ¬ (N : Int) = 0 := by omega
    go_upto_region 10 with (first
      | (at_builtin; refine wpList_app_any rfl _ _ rfl OE.out rfl (some ⟨g4, 0, none⟩) _ cap4 X hlX.symm rfl BX.out (fun e => by cases e) hsE (by simp; omega) ?_; intro v5 w5 ho5 hg5; rw [List.nil_append] at ho5; obtain ⟨g5, cap5, hv5, hc5⟩ := ho5.shape (by omega); rw [hlX] at hv5 hc5; subst hv5; have O5 := Lib.hid ho5; have K5 := Lib.hid (show Kept w4 w5 from Below.grown KE4.out hg5 hsE (fun x hx => (OE.out.lt x hx).1)); clear ho5 hg5)
      | (at_builtin; refine wpList_app_any rfl _ _ rfl O5.out rfl pm _ cm more rfl rfl (RM.out.kept (K4.out.trans K5.out) (Nat.le_refl _)) (fun e => ⟨by have := hmn e; omega, hmn e⟩) (Below.size K5.out) (by omega) ?_; intro v6 w6 ho6 hg6; obtain ⟨g6, cap6, hv6, hc6⟩ := ho6.shape (by rw [hl6]; omega); rw [hl6] at hv6 hc6; subst hv6; have O6 := Lib.hid ho6; have K6 := Lib.hid (show Kept w4 w6 from Below.grown K5.out hg6 (Below.size K5.out) (fun x hx => (O5.out.lt x hx).1)); clear ho6 hg6)
      | (have RW := Lib.hid (show Calls Tryd.prog 21 #[.slice (some ⟨g6, 0, none⟩) (N + more.length) cap6] w6 (RawA w6 (.ok (a ++ b, N))) from (by have zz := Raw_any (X ++ more) (some ⟨g6, 0, none⟩) cap6 w6 O6.out.byR' (by rw [hl6]; omega) (by rw [HR1.out]; intro e; cases e); rw [hl6, HR1.out] at zz; exact zz)); go_at_call 21; (with_reducible refine RW.out.mono ?_); rintro e w7 ⟨hk7, v7, rfl, ho7, -⟩; have O7 := Lib.hid ho7; have K7 := Lib.hid (K6.out.trans hk7); clear ho7 hk7))
    simp only [hji]
    have hjc : (j : Int) ≤ (cap4 : Int) := by omega
    have hjc2 : j ≤ cap4 := by omega
    have hj00 : (0 : Int) ≤ (j : Int) := by omega
    have hlj : (X.take j).length = j := by rw [List.length_take]; omega
    have hr2 := HR2.out j hjl
    have RW2 := Lib.hid (show Calls Tryd.prog 21 #[.slice (some ⟨g4, 0, none⟩) j cap4] w7 (RawA w7 (.error 4)) from (by
      have zz := Raw_any (X.take j) (some ⟨g4, 0, none⟩) cap4 w7 (((O4.out.kept K7.out).byR').take j) (by rw [hlj]; omega) (by rw [hr2]; intro e; injection e with e; omega)
      rw [hlj, hr2] at zz
      exact zz))
    clear hr2 hlj hj hy hz hj0
    go_wp2_with fail
    (with_reducible refine RW2.out.mono ?_)
    rintro e w8 ⟨hk8, he⟩
    obtain rfl : e = .returned (.tuple #[.slice none 0 0, .int .i64 0, .int .i64 4]) := he
    have K8 := Lib.hid (K4.out.trans (K7.out.trans hk8))
    have O8 := Lib.hid (O7.out.kept hk8)
    have s1 := O8.out.string
    have s2 := ((RA.out.kept K8.out (Nat.le_refl _)).string (c := ca) (fun e => List.length_eq_zero_iff.1 (by have := han e; omega)))
    have s3 := ((RB.out.kept K8.out (Nat.le_refl _)).string (c := cb) (fun e => List.length_eq_zero_iff.1 (by have := hbn e; omega)))
    have hab : (⟨a.toArray⟩ : ByteArray) ++ (⟨b.toArray⟩ : ByteArray) = ⟨(a ++ b).toArray⟩ := by
      apply ByteArray.ext
      simp
    clear hk8
    go_wp2_with fail
    go_ret
    exact ⟨rfl, K8.out⟩

end Go.Proofs.YtkobcgemllcfoaaDoor
