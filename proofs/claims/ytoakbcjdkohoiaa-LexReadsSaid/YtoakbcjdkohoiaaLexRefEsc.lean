/-
  What the document's escape of layer 3 is: what a backslash's text is, and how many bytes it takes.
-/
import Derived.Test.YtoakbcjdkohoiaaLexRefBytes
import Derived.Test.YtoakbcjdkohoiaaLexQuote
namespace Go.Proofs.Ytoakbcjdkohoiaa
open Go.RowKit

/-- No bytes, or one in a block of its own. -/
def Few (B : Nat) (w : World) (v : Value) (l : List UInt8) : Prop :=
  (v = .slice none 0 0 ∧ l = []) ∨ ∃ g b, v = .slice (some ⟨g, 0, none⟩) 1 1 ∧ l = [b] ∧ Blk w g #[.int .u8 (b.toNat : Int)] 5 ∧ B ≤ g

theorem ret_pair' {v : Value} {a b : Int} (h : a = b) : Ending.returned (.tuple #[v, .int .i64 a]) = .returned (.tuple #[v, .int .i64 b]) := by rw [h]
theorem escB_ways (c : UInt8) : (c = 110 ∧ Lx.escB c = 10) ∨ (c = 114 ∧ Lx.escB c = 13) ∨ (c = 116 ∧ Lx.escB c = 9) ∨ (c = 98 ∧ Lx.escB c = 8) ∨ (c = 102 ∧ Lx.escB c = 12) ∨ ((c ≠ 110 ∧ c ≠ 114 ∧ c ≠ 116 ∧ c ≠ 98 ∧ c ≠ 102) ∧ Lx.escB c = c) := by
  have := Lx.byte_all (fun c => decide ((c = 110 ∧ Lx.escB c = 10) ∨ (c = 114 ∧ Lx.escB c = 13) ∨ (c = 116 ∧ Lx.escB c = 9) ∨ (c = 98 ∧ Lx.escB c = 8) ∨ (c = 102 ∧ Lx.escB c = 12) ∨ ((c ≠ 110 ∧ c ≠ 114 ∧ c ≠ 116 ∧ c ≠ 98 ∧ c ≠ 102) ∧ Lx.escB c = c))) (by kernel_rfl) c
  exact of_decide_eq_true this

set_option maxRecDepth 100000 in
set_option maxHeartbeats 4000000 in
theorem Rescape_oct (s : ByteArray) (w : World) (h0 : 0 < s.size) (hs : s.size ≤ 4294967296) (ho : Lx.isOct s[0] = true) (x : List UInt8) (n : Nat) (hx : (x, n) = Lx.esc s.data.toList) :
    Calls Try.prog 60 #[.string s] w fun e w' => ∃ v, e = .returned (.tuple #[v, .int .i64 n]) ∧ Few w.heap.size w' v x ∧ Kept w w' := by
  obtain ⟨R, hR⟩ : ∃ R, R = Lx.oct 0 3 s.data.toList := ⟨_, rfl⟩
  have hd : s.data.toList = s[0] :: s.data.toList.drop 1 := by
    have := rdrop_cons s 0 h0
    rwa [List.drop_zero] at this
  have hxn : x = [UInt8.ofNat R.1] ∧ n = R.2 := by
    have h1 := hx
    rw [hd, Lx.esc_cons, if_pos ho, ← hd, ← hR] at h1
    exact ⟨(Prod.mk.inj h1).1, (Prod.mk.inj h1).2⟩
  have hR2 : 1 ≤ R.2 := by rw [hR, hd]; exact Lx.oct_pos ho _
  obtain ⟨rfl, rfl⟩ := hxn
  have HR := Lib.hid hR
  clear hR hx hd ho
  go_enter Try.func60, Try.ntmps60
  go_wp2_with fail
  go_loop [4, 5] (fun i v => ∃ q u : Nat, q ≤ 3 ∧ q ≤ s.size ∧ i = .int .i64 q ∧ v = .int .i64 u ∧ (q = 0 → u = 0) ∧ (q = 1 → u < 8) ∧ (q = 2 → u < 64) ∧ u < 512 ∧ Hid ((Lx.oct u (3 - q) (s.data.toList.drop q)).1 = R.1 ∧ q + (Lx.oct u (3 - q) (s.data.toList.drop q)).2 = R.2)) (fun i _ => 3 - (intOf i).toNat)
  case atStart => exact ⟨0, 0, by omega, by omega, rfl, rfl, fun _ => rfl, fun h => by omega, fun h => by omega, by omega, Lib.hid (by rw [List.drop_zero, HR.out]; simp)⟩
  case round =>
    obtain ⟨q, u, hq, hqs, rfl, rfl, u0, u1, u2, u3, HE⟩ := hrel
    have HU := Lib.hid (And.intro u0 (And.intro u1 u2))
    clear u0 u1 u2
    by_cases hyes : q < 3 ∧ ∃ h : q < s.size, Lx.isOct s[q] = true
    · obtain ⟨hq3, hlt, ho⟩ := hyes
      have h48 : 48 ≤ s[q].toNat ∧ s[q].toNat ≤ 55 := by simpa [Lx.isOct] using ho
      obtain ⟨c0, c1⟩ := h48
      have HT := Lib.hid (show (Lx.oct (8 * u + (s[q].toNat - 48)) (3 - (q + 1)) (s.data.toList.drop (q + 1))).1 = R.1 ∧ q + 1 + (Lx.oct (8 * u + (s[q].toNat - 48)) (3 - (q + 1)) (s.data.toList.drop (q + 1))).2 = R.2 by
        have := HE.out
        rw [rdrop_cons s q hlt, show 3 - q = (3 - (q + 1)) + 1 by omega, Lx.oct, if_pos ho] at this
        refine ⟨this.1, ?_⟩
        have h2 := this.2
        simp only at h2
        omega)
      have hu : u < 64 := by
        obtain ⟨a, b, c⟩ := HU.out
        have : q = 0 ∨ q = 1 ∨ q = 2 := by omega
        rcases this with h | h | h
        · have := a h; omega
        · have := b h; omega
        · have := c h; omega
      clear ho
      go_wp2_with fail
      go_round
      case rel =>
        refine ⟨q + 1, 8 * u + (s[q].toNat - 48), by omega, by omega, by go_num, by go_num, fun h => by omega, fun h => ?_, fun h => ?_, by omega, HT⟩
        · have := HU.out.1 (by omega); omega
        · have := HU.out.2.1 (by omega); omega
      case measure => simp [intOf]; omega
    · have HT := Lib.hid (show u = R.1 ∧ q = R.2 by
        have := HE.out
        by_cases h3 : q < 3
        · by_cases hlt : q < s.size
          · have ho : Lx.isOct s[q] = false := Bool.eq_false_iff.2 fun e => hyes ⟨h3, hlt, e⟩
            rw [rdrop_cons s q hlt, show 3 - q = (3 - (q + 1)) + 1 by omega, Lx.oct, if_neg (by rw [ho]; simp)] at this
            exact this
          · rw [rdrop_end s q (by omega), show 3 - q = (3 - (q + 1)) + 1 by omega, Lx.oct] at this
            exact this
        · rw [show 3 - q = 0 by omega, Lx.oct] at this
          exact this)
      have hq1 : 1 ≤ q := by rw [HT.out.2]; exact hR2
      have HV := Lib.hid (show ((u : Int) % 256) = ((UInt8.ofNat R.1).toNat : Int) by rw [← HT.out.1]; simp)
      have hways : s.size ≤ q ∨ (q < s.size ∧ 3 ≤ q) ∨ (q < 3 ∧ ∃ h : q < s.size, s[q].toNat < 48) ∨ (q < 3 ∧ ∃ h : q < s.size, 48 ≤ s[q].toNat ∧ 55 < s[q].toNat) := by
        by_cases h3 : q < 3
        · by_cases hlt : q < s.size
          · have ho : ¬ (Lx.isOct s[q] = true) := fun e => hyes ⟨h3, hlt, e⟩
            simp [Lx.isOct] at ho
            by_cases h48 : s[q].toNat < 48
            · exact .inr (.inr (.inl ⟨h3, hlt, h48⟩))
            · exact .inr (.inr (.inr ⟨h3, hlt, by omega, ho (by omega)⟩))
          · exact .inl (by omega)
        · by_cases hlt : q < s.size
          · exact .inr (.inl ⟨hlt, by omega⟩)
          · exact .inl (by omega)
      clear hyes
      rcases hways with h | ⟨h', h⟩ | ⟨h, h', h''⟩ | ⟨h, h', h'', h3⟩
      all_goals
        go_wp2_with fail
        go_ret2
        exact ⟨_, ret_pair' (by have := HT.out.2; omega), .inr ⟨w.heap.size, UInt8.ofNat R.1, rfl, rfl, by rw [← HV.out]; exact Blk.fresh w _ _, Nat.le_refl _⟩, (Kept.refl w).alloc _ _⟩

end Go.Proofs.Ytoakbcjdkohoiaa
