/-
  The reference's Tokens: every place is tried.
-/
import Derived.Test.YtpplboihlndfpaaDefRefMatch
import Derived.Test.YtpplboihlndfpaaDefRefExpand
namespace Go.Proofs.Ytpplboihlndfpaa
open Go.RowKit Ix Dx
set_option linter.unusedSimpArgs false
set_option linter.unusedVariables false
attribute [local go_sem ↓] run_greatest3

/-- Where the search begins, nothing lies that counts. -/
theorem Best.begin (b : List UInt8) (i lo : Nat) (h : lo = i - 32768) : Best b i 0 lo 0 0 := ⟨fun j h1 h2 h4 => by omega, fun _ => rfl, fun h => absurd rfl h⟩
theorem best_low {b : List UInt8} {i lo hi n d : Nat} (h : Best b i lo hi n d) : n = 0 ∧ d = 0 ∨ 3 ≤ n := by
  by_cases e : n = 0
  · exact .inl ⟨e, h.none e⟩
  · exact .inr (h.some e).1

theorem Blk.set3 {w : World} {b : Nat} {u0 u1 u2 : Value} {t : TypeId} (h : Blk w b #[u0, u1, u2] t) (v0 v1 v2 : Value) :
    Blk (((w.setCell ⟨b, 0, none⟩ v0).setCell ⟨b, 1, none⟩ v1).setCell ⟨b, 2, none⟩ v2) b #[v0, v1, v2] t := by
  have := ((h.set 0 v0).set 1 v1).set 2 v2
  simpa using this
theorem Kept.set3 {a w : World} (h : Kept a w) {k : Nat} (hp : a.heap.size ≤ k) (v0 v1 v2 : Value) :
    Kept a (((w.setCell ⟨k, 0, none⟩ v0).setCell ⟨k, 1, none⟩ v1).setCell ⟨k, 2, none⟩ v2) := ((h.set hp v0).set hp v1).set hp v2
theorem RToks.set {w : World} {B : Nat} {v : Value} {l : List Tok} (h : RToks w B v l) {k : Nat} (o : Nat) (u : Value) (hk : v.ownBlock ≠ some k) : RToks (w.setCell ⟨k, o, none⟩ u) B v l := h.gb (gbS w k o u) (.inr hk)
theorem RToks.set3 {w : World} {B : Nat} {v : Value} {l : List Tok} (h : RToks w B v l) {k : Nat} (v0 v1 v2 : Value) (hk : v.ownBlock ≠ some k) :
    RToks (((w.setCell ⟨k, 0, none⟩ v0).setCell ⟨k, 1, none⟩ v1).setCell ⟨k, 2, none⟩ v2) B v l := ((h.set 0 v0 hk).set 1 v1 hk).set 2 v2 hk

set_option maxRecDepth 100000 in
set_option maxHeartbeats 4000000 in
theorem refTokens_any (b : List UInt8) (p : Option Addr) (c : Nat) (w : World) (h : ByR w w.heap.size p b) (hB : b.length ≤ 1099511627776) :
    Calls Try.prog 16 #[.slice p b.length c] w fun e w' => ∃ v, e = .returned v ∧ RToks w' w.heap.size v (tokens b) ∧ Kept w w' := by
  have HB := Lib.hid h
  clear h
  go_enter Try.func16, Try.ntmps16
  go_wp2_with fail
  go_loopg [3, 4] b.length (fun m lv y wr => ∃ (i : Nat) (acc : List Tok) (f : Nat) (vv : Value), vv = lv ∧ m = b.length - i ∧ i ≤ b.length ∧ y = .int .i64 i ∧ acc.length ≤ i ∧ Hid (acc ++ toks b f i = tokens b ∧ b.length ≤ f + i) ∧ RToks wr w.heap.size vv acc ∧ Kept w wr)
  case atStart => exact ⟨0, [], b.length, _, rfl, by omega, Nat.zero_le _, rfl, Nat.le_refl _, Lib.hid ⟨rfl, Nat.le_refl _⟩, World.ownsRow_nil _ _ _ _, Kept.refl w⟩
  case round =>
    obtain ⟨i, acc, f, vv, rfl, hmi, hi, rfl, hal, HT, ht, hk⟩ := hrel
    have HO := Lib.hid ht
    have HK := Lib.hid hk
    have hsr := Below.size hk
    clear ht hk
    by_cases hlt : i < b.length
    · have i1 : (i : Int) < (b.length : Int) := by omega
      obtain ⟨lo, hlo⟩ : ∃ lo, lo = i - 32768 := ⟨_, rfl⟩
      have m1 : max (0 : Int) ((i : Int) - 32768) = (lo : Int) := by omega
      have w1 : IntKind.i64.wrap ((i : Int) - 32768) = (i : Int) - 32768 := IntWalk.i64_in _ (by omega)
      have hlo2 : lo ≤ i := by omega
      have B0 := Lib.hid (Best.begin b i lo hlo)
      have HLO := Lib.hid hlo
      clear hlo
      have KA := Lib.hid (show Kept wr (wr.alloc (.cells #[.int .u8 0, .int .i64 0, .int .i64 0] 48)) from (Kept.refl wr).allocO _)
      have BA := Lib.hid (Blk.fresh wr #[.int .u8 0, .int .i64 0, .int .i64 0] 48)
      go_upto_region 6 with fail
      obtain ⟨W3, hW3⟩ : ∃ W3, W3 = wr.alloc (.cells #[.int .u8 0, .int .i64 0, .int .i64 0] 48) := ⟨_, rfl⟩
      rw [← hW3] at KA BA ⊢
      obtain ⟨tb, htb⟩ : ∃ tb, tb = wr.heap.size := ⟨_, rfl⟩
      rw [← htb] at BA ⊢
      have HNE := Lib.hid (show vv.ownBlock ≠ some tb from fun e => by have := (HO.out.lt tb e).2; omega)
      have htw : w.heap.size ≤ tb := by omega
      have O3 := Lib.hid (HO.out.kept KA.out)
      have K3 := Lib.hid (HK.out.trans KA.out)
      have htl3 : tb < W3.heap.size := BA.out.lt
      clear hW3 htb HK HO KA m1 w1
      go_loopg [6] (i - lo) (fun m y wq => ∃ (j n d : Nat), m = i - j ∧ j ≤ i ∧ lo ≤ j ∧ y = .int .i64 j ∧ n ≤ 258 ∧ Blk wq tb #[.int .u8 0, .int .i64 n, .int .i64 d] 48 ∧ Hid (Best b i 0 j n d) ∧ RToks wq w.heap.size vv acc ∧ Kept w wq)
      case atStart => exact ⟨lo, 0, 0, rfl, hlo2, Nat.le_refl _, rfl, by omega, BA.out, B0, O3.out, K3.out⟩
      case round =>
        obtain ⟨j, n, d, hmj, hji, hlj, rfl, hn258, hbk, HBS, ho, hk⟩ := hrel
        have BQ := Lib.hid hbk
        have OQ := Lib.hid ho
        have KQ := Lib.hid hk
        have hsq := Below.size hk
        have htq := hbk.lt
        clear hbk ho hk
        by_cases hjl : j < i
        · have j1 : (j : Int) < (i : Int) := by omega
          have MA := Lib.hid (refMatch_any b i j p c (show ByR wr wr.heap.size p b from fun t ht => by
            obtain ⟨kb, o, h1, h2, h3⟩ := (HB.out.keep (Nat.le_refl _) KQ.out) t ht
            exact ⟨kb, o, h1, by omega, h3⟩) hjl hlt hB)
          have hAB := HBS.out.above hjl (by have := HLO.out; omega) (Nat.zero_le _)
          have hM := M_le b i j
          have htop := top_le b i
          obtain ⟨k, hk⟩ : ∃ k, k = M b i j := ⟨_, rfl⟩
          rw [← hk] at MA hAB hM
          have hk258 : k ≤ 258 := by omega
          clear hk hM htop
          go_wp2_with fail
          (with_reducible refine MA.out.mono ?_)
          rintro e w4 ⟨rfl, hk4⟩
          have B4 := Lib.hid (BQ.out.kept hk4)
          have O4 := Lib.hid (OQ.out.kept hk4)
          have K4 := Lib.hid (KQ.out.trans hk4)
          obtain ⟨e0, e1, e2⟩ := B4.out.cells3
          have ht4 := B4.out.lt
          have hf4 := B4.out.free
          clear hk4
          by_cases c3 : 3 ≤ k
          · have q1 : (3 : Int) ≤ (k : Int) := by omega
            by_cases cn : n ≤ k
            · have q2 : (n : Int) ≤ (k : Int) := by omega
              have NB := Lib.hid (hAB.1 ⟨c3, cn⟩)
              obtain ⟨dd, hdd⟩ : ∃ dd : Nat, dd = i - j := ⟨_, rfl⟩
              have z1 : (i : Int) - (j : Int) = (dd : Int) := by omega
              have z2 : IntKind.i64.wrap (dd : Int) = (dd : Int) := IntWalk.i64_in _ (by omega)
              rw [← hdd] at NB
              clear hAB hdd
              go_wp2_with fail
              go_roundg (i - (j + 1))
              case measure => omega
              case rel => exact ⟨j + 1, k, dd, rfl, by omega, by omega, by go_num, hk258, B4.out.set3 _ _ _, NB, O4.out.set3 _ _ _ HNE.out, K4.out.set3 htw _ _ _⟩
            · have q2 : ¬ (n : Int) ≤ (k : Int) := by omega
              have NB := Lib.hid (hAB.2 (fun h => cn h.2))
              clear hAB
              go_wp2_with fail
              go_roundg (i - (j + 1))
              case measure => omega
              case rel => exact ⟨j + 1, n, d, rfl, by omega, by omega, by go_num, hn258, B4.out, NB, O4.out, K4.out⟩
          · have q1 : ¬ (3 : Int) ≤ (k : Int) := by omega
            have NB := Lib.hid (hAB.2 (fun h => c3 h.1))
            clear hAB
            go_wp2_with fail
            go_roundg (i - (j + 1))
            case measure => omega
            case rel => exact ⟨j + 1, n, d, rfl, by omega, by omega, by go_num, hn258, B4.out, NB, O4.out, K4.out⟩
        · obtain rfl : j = i := by omega
          have HL := long_is HBS.out
          have hlow := best_low HBS.out
          have hle := long_le b j
          have htp := top_le b j
          rw [HL] at hle
          have hle : n ≤ top b j ∧ d ≤ 32768 := hle
          obtain ⟨e0, e1, e2⟩ := BQ.out.cells3
          have hf4 := BQ.out.free
          rcases hlow with ⟨h0, hd0⟩ | h3
          · subst h0 hd0
            obtain ⟨g, hg, hstep⟩ := toks_lit hlt HT.out.2 (by rw [HL])
            have HT2 := Lib.hid (show (acc ++ [⟨at' b j, 0, 0⟩]) ++ toks b g (j + 1) = tokens b by rw [List.append_assoc, List.singleton_append, ← hstep]; exact HT.out.1)
            have HG := Lib.hid hg
            obtain ⟨kb, o, hp, hkb, hcx⟩ := (HB.out.keep (Nat.le_refl _) KQ.out) j hlt
            rw [at_getElem b j hlt] at hcx
            subst hp
            obtain ⟨x, hx⟩ : ∃ x, x = at' b j := ⟨_, rfl⟩
            rw [← hx] at hcx HT2
            have z0 : (((0 : Nat) : Int) == 0) = true := rfl
            have m2 : max (1 : Int) ((0 : Nat) : Int) = 1 := by decide
            have hkt : kb ≠ tb := by omega
            have OS := Lib.hid (OQ.out.set 0 (.int .u8 (x.toNat : Int)) HNE.out)
            have KS := Lib.hid (KQ.out.set (k := tb) (o := 0) htw (.int .u8 (x.toNat : Int)))
            have BS := Lib.hid (show Blk (wr.setCell ⟨tb, 0, none⟩ (.int .u8 (x.toNat : Int))) tb #[.int .u8 (x.toNat : Int), .int .i64 0, .int .i64 0] 48 by
              have z := BQ.out.set 0 (.int .u8 (x.toNat : Int)); simpa using z)
            clear hg hstep hx HL hle htp
            go_upto_region 13 with fail
            obtain ⟨W5, hW5⟩ : ∃ W5, W5 = wr.setCell ⟨tb, 0, none⟩ (.int .u8 (x.toNat : Int)) := ⟨_, rfl⟩
            rw [← hW5] at OS KS BS ⊢
            obtain ⟨e0, e1, e2⟩ := BS.out.cells3
            have hs5 := Below.size KS.out
            have ht5 := BS.out.lt
            clear hW5 hcx
            go_wp2_with (at_builtin; go_loud (refine wpList_app_rtok rfl _ _ rfl OS.out rfl ⟨x, 0, 0⟩ _ rfl rfl (by omega) (by omega) ?_); intro g5 cap5 w5 ho5 hg5 hat5; have O5 := Lib.hid ho5; have K5 := Lib.hid (show Kept w w5 from Below.grown (KS.out.allocO _) hg5 (by simp; omega) (fun y hy => (OS.out.lt y hy).1)); have F5 := (show w5.cell? ⟨tb, 1, none⟩ = some (.int .i64 0) from by rw [← e1]; exact (World.cell?_of_block (hg5.block tb (by simp; omega) (fun h => HNE.out h.symm))).trans (World.cell?_of_block (Below.heap_alloc W5 _ tb BS.out.lt))); clear ho5 hg5 hat5)
            go_roundg (b.length - (j + 1))
            case measure => omega
            case rel => exact ⟨j + 1, acc ++ [⟨x, 0, 0⟩], g, _, rfl, rfl, by omega, by go_num, by simp; omega, Lib.hid ⟨HT2.out, HG.out⟩, by simpa using O5.out, K5.out⟩
          · obtain ⟨g, hg, hstep⟩ := toks_match hlt HT.out.2 (by rw [HL]; show n ≠ 0; omega)
            rw [HL] at hg hstep
            have hstep : toks b _ j = ⟨0, (n : Int), (d : Int)⟩ :: toks b g (j + n) := hstep
            have HT2 := Lib.hid (show (acc ++ [⟨0, (n : Int), (d : Int)⟩]) ++ toks b g (j + n) = tokens b by rw [List.append_assoc, List.singleton_append, ← hstep]; exact HT.out.1)
            have HG := Lib.hid (show b.length ≤ g + (j + n) from hg)
            have z0 : ((n : Int) == 0) = false := by rw [beq_eq_false_iff_ne]; omega
            have m2 : max (1 : Int) (n : Int) = (n : Int) := by omega
            have hn1 : 1 ≤ n := by omega
            have hn2 : j + n ≤ b.length := by omega
            clear hg hstep HL hle htp h3
            go_wp2_with (at_builtin; go_loud (refine wpList_app_rtok rfl _ _ rfl OQ.out rfl ⟨0, (n : Int), (d : Int)⟩ _ rfl rfl (by omega) (by omega) ?_); intro g5 cap5 w5 ho5 hg5 hat5; have O5 := Lib.hid ho5; have K5 := Lib.hid (show Kept w w5 from Below.grown (KQ.out.allocO _) hg5 (by simp; omega) (fun y hy => (OQ.out.lt y hy).1)); have F5 := (show w5.cell? ⟨tb, 1, none⟩ = some (.int .i64 n) from by rw [← e1]; exact (World.cell?_of_block (hg5.block tb (by simp; omega) (fun h => HNE.out h.symm))).trans (World.cell?_of_block (Below.heap_alloc wr _ tb BQ.out.lt))); clear ho5 hg5 hat5)
            go_roundg (b.length - (j + n))
            case measure => omega
            case rel => exact ⟨j + n, acc ++ [⟨0, (n : Int), (d : Int)⟩], g, _, rfl, rfl, hn2, by go_num, by simp; omega, Lib.hid ⟨HT2.out, HG.out⟩, by simpa using O5.out, K5.out⟩
    · have HE := Lib.hid (show acc = tokens b by rw [← HT.out.1, toks_end b f i (by omega), List.append_nil])
      go_wp2_with fail
      go_ret
      exact ⟨_, rfl, by rw [← HE.out]; exact HO.out, HK.out⟩

end Go.Proofs.Ytpplboihlndfpaa
