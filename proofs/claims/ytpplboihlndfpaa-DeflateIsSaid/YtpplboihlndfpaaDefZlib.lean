/-
  Bytes as blocks, with a head and a sum; the document's examples.
-/
import Derived.Test.YtpplboihlndfpaaDefRaw
import Derived.Test.YtpplboihlndfpaaInfAdler
namespace Go.Proofs.Ytpplboihlndfpaa
open Go.RowKit Ix Dx
set_option linter.unusedSimpArgs false
set_option linter.unusedVariables false

theorem Out.see {w : World} {B : Nat} {v : Value} {l : List UInt8} (h : Out w B v l) : ∃ q cap, v = .slice q l.length cap ∧ l.length ≤ cap ∧ ByR w w.heap.size q l ∧ (q = none → l.length = 0 ∧ cap = 0) := by
  have h0 := h
  rcases h.2 with ⟨rfl, h1⟩ | ⟨g, cap, cur, rfl, hb, hh, hle, -⟩
  · exact ⟨none, 0, by rw [h1], by omega, fun i hi => by omega, fun _ => ⟨h1, rfl⟩⟩
  · refine ⟨some ⟨g, 0, none⟩, cap, rfl, hle, fun i hi => ?_, fun e => by cases e⟩
    refine ⟨g, 0, rfl, (h0.lt g rfl).2, ?_⟩
    rw [Nat.zero_add, h0.cellO i hi]
    simp [List.getD, hi]
theorem Out.lit' (W : World) {B0 : Nat} (hB : B0 ≤ W.heap.size) (l : List UInt8) (cs : Array Value) (hcs : cs = (bytsV l).toArray) (n : Nat) (hn : n = l.length) (h : l.length ≤ 1000) : Out (W.alloc (.cells cs 5)) B0 (.slice (some ⟨W.heap.size, 0, none⟩) n n) l := by
  subst hcs hn
  exact Out.lit W hB l h
theorem sum4_cells (m1 m2 m3 m4 : Nat) (h1 : m1 < 256) (h2 : m2 < 256) (h3 : m3 < 256) (h4 : m4 < 256) : (bytsV [UInt8.ofNat m1, UInt8.ofNat m2, UInt8.ofNat m3, UInt8.ofNat m4]).toArray = #[.int .u8 (m1 : Int), .int .u8 (m2 : Int), .int .u8 (m3 : Int), .int .u8 (m4 : Int)] := by
  unfold bytsV
  simp only [List.map_cons, List.map_nil]
  rw [u8_of h1, u8_of h2, u8_of h3, u8_of h4]
theorem adler_lt' (l : List UInt8) : adler l < 4294967296 := by
  have := adlerGo_lt l 1 0 (by decide) (by decide)
  unfold adler; omega
theorem blkV_len (first : Nat) (b : List UInt8) : (blkV first b).length = b.length + 5 := by unfold blkV; simp
theorem stoGo_len : ∀ f b, (stoGo f b).length ≤ 6 * b.length + 5
  | 0, b => by rw [stoGo, blkV_len]; omega
  | f + 1, b => by
    rw [stoGo]
    split
    · have := stoGo_len f (b.drop 65535)
      rw [List.length_append, blkV_len, List.length_take]
      rw [List.length_drop] at this
      omega
    · rw [blkV_len]; omega
theorem rawZ_len {b : List UInt8} {kind : Int} {r : List UInt8} (h : rawZ b kind = .ok r) : r.length ≤ 1073741824 := by
  unfold rawZ at h
  split at h
  · cases h
  · split at h
    · cases h
    · split at h
      · injection h with h
        subst h
        have := stoGo_len b.length b
        unfold stoV; omega
      · injection h with h
        subst h
        have h1 := toksBits_le (tokens b) (fun t ht => toks_ok b _ _ t ht)
        have h2 := tokens_len b
        have h3 : (symBits 256).length ≤ 9 := by unfold symBits; rw [codeBits_len]; exact symN_le 256
        unfold pressV
        rw [pkL_len]
        unfold pressBits
        rw [List.length_append, List.length_append]
        simp only [List.length_cons, List.length_nil]
        omega

set_option maxRecDepth 100000 in
set_option maxHeartbeats 1000000 in
theorem defZlib_any (b : List UInt8) (kind : Int) (p : Option Addr) (c : Nat) (w : World) (h : ByR w w.heap.size p b) (hc : b.length ≤ c) (hp : p = none → c = 0) (hB : b.length ≤ 1099511627776) (hk : -9223372036854775808 ≤ kind ∧ kind ≤ 9223372036854775807) :
    Calls Try.prog 11 #[.slice p b.length c, .int .i64 kind] w (DRawA w (zlibZ b kind)) := by
  have HB := Lib.hid h
  have RW := Lib.hid (defRaw_any b kind p c w h hc hp hB hk)
  clear h
  go_enter Try.func11, Try.ntmps11
  go_wp2_with fail
  (with_reducible refine RW.out.mono ?_)
  intro e w1 hr
  unfold DRawA at hr
  obtain ⟨hk1, hr⟩ := hr
  have K1 := Lib.hid hk1
  have hs1 := Below.size hk1
  clear hk1
  cases hV : rawZ b kind with
  | error k =>
    rw [hV] at hr
    subst hr
    have HZ := Lib.hid (show zlibZ b kind = .error k by unfold zlibZ; rw [hV])
    have hk0 : (k != 0) = true := by
      rw [bne_iff_ne]
      unfold rawZ at hV
      split at hV
      · injection hV with hV; omega
      · split at hV
        · injection hV with hV; omega
        · split at hV <;> cases hV
    clear hV
    go_wp2_with fail
    go_ret2
    unfold DRawA
    rw [HZ.out]
    exact ⟨K1.out, rfl⟩
  | ok r =>
    rw [hV] at hr
    obtain ⟨v, rfl, hov⟩ := hr
    have HZ := Lib.hid (show zlibZ b kind = .ok ([120, 1] ++ r ++ sumB (adler b)) by unfold zlibZ; rw [hV])
    have hrl := rawZ_len hV
    obtain ⟨q, cap, rfl, hqc, hqb, hqn⟩ := hov.see
    have HQ := Lib.hid hqb
    have HN := Lib.hid hqn
    clear hov hV hqb hqn
    have O1 := Lib.hid (Out.lit' w1 (B0 := w.heap.size) hs1 [120, 1] #[.int .u8 120, .int .u8 1] rfl 2 rfl (by decide))
    have KA := Lib.hid (show Kept w1 (w1.alloc (.cells #[.int .u8 120, .int .u8 1] 5)) from (Kept.refl w1).allocO _)
    have BA := Lib.hid (show ByR (w1.alloc (.cells #[.int .u8 120, .int .u8 1] 5)) (w1.alloc (.cells #[.int .u8 120, .int .u8 1] 5)).heap.size q r from fun i hi => by
      obtain ⟨kb, o, h1, h2, h3⟩ := HQ.out i hi
      exact ⟨kb, o, h1, by simp; omega, by rw [← h3]; exact KA.out.cells.1 _ _ h2⟩)
    have hsA : w.heap.size ≤ (w1.alloc (.cells #[.int .u8 120, .int .u8 1] 5)).heap.size := by simp; omega
    obtain ⟨n, hn⟩ : ∃ n, n = adler b := ⟨_, rfl⟩
    have hnl : n < 4294967296 := by rw [hn]; exact adler_lt' b
    obtain ⟨m1, h1⟩ : ∃ m1, m1 = n / 16777216 := ⟨_, rfl⟩
    obtain ⟨m2, h2⟩ : ∃ m2, m2 = n / 65536 % 256 := ⟨_, rfl⟩
    obtain ⟨m3, h3⟩ : ∃ m3, m3 = n / 256 % 256 := ⟨_, rfl⟩
    obtain ⟨m4, h4⟩ : ∃ m4, m4 = n % 256 := ⟨_, rfl⟩
    have s1 : (n : Int) / 16777216 = (m1 : Int) := by omega
    have s1' : (m1 : Int) % 256 = (m1 : Int) := by omega
    have s2 : (n : Int) / 65536 % 256 = (m2 : Int) := by omega
    have s3 : (n : Int) / 256 % 256 = (m3 : Int) := by omega
    have s4 : (n : Int) % 256 = (m4 : Int) := by omega
    have HC := Lib.hid (sum4_cells m1 m2 m3 m4 (by omega) (by omega) (by omega) (by omega))
    have HS := Lib.hid (show sumB (adler b) = [UInt8.ofNat m1, UInt8.ofNat m2, UInt8.ofNat m3, UInt8.ofNat m4] by rw [← hn]; unfold sumB; rw [h1, h2, h3, h4])
    have AD := Lib.hid (fun w' (k : Kept w w') => (show Calls Try.prog 25 #[.slice p b.length c] w' fun e w'' => e = .returned (.int .u32 n) ∧ Kept w' w'' by
      rw [hn]
      exact Adler_any b p c w' (fun i hi => by
        obtain ⟨kb, o, a1, a2, a3⟩ := (HB.out.keep (Nat.le_refl _) k) i hi
        exact ⟨kb, o, a1, by have := Below.size k; omega, a3⟩) hB))
    have hl2 : (([120, 1] : List UInt8) ++ r).length = 2 + r.length := by simp; omega
    clear hn h1 h2 h3 h4
    go_upto_region 5 with (at_builtin; go_loud (refine wpList_app_any rfl _ _ rfl O1.out rfl q r.length cap r rfl rfl BA.out HN.out hsA (by simp; omega) ?_); intro v5 w5 ho5 hg5; have O5 := Lib.hid ho5; have G5 := Lib.hid hg5; clear ho5 hg5)
    have K5 := Lib.hid (show Kept w w5 from Below.grown (K1.out.trans KA.out) G5.out hsA (fun k hk => by have := (O1.out.lt k hk).1; omega))
    obtain ⟨g5, cap5, hv5, -⟩ := O5.out.shapeO (by rw [hl2]; omega)
    rw [hl2] at hv5
    subst hv5
    go_wp2_with fail
    (with_reducible refine (AD.out _ K5.out).mono ?_)
    rintro e w6 ⟨rfl, hk6⟩
    have O6 := Lib.hid (O5.out.kept hk6)
    have K6 := Lib.hid (K5.out.trans hk6)
    have hs6 := Below.size K6.out
    clear hk6
    have O7 := Lib.hid (O6.out.kept (show Kept w6 (w6.alloc (.cells #[.int .u8 (m1 : Int), .int .u8 (m2 : Int), .int .u8 (m3 : Int), .int .u8 (m4 : Int)] 5)) from (Kept.refl w6).allocO _))
    have K7 := Lib.hid (show Kept w (w6.alloc (.cells #[.int .u8 (m1 : Int), .int .u8 (m2 : Int), .int .u8 (m3 : Int), .int .u8 (m4 : Int)] 5)) from K6.out.allocO _)
    have B7 := Lib.hid (lit_byR' w6 [UInt8.ofNat m1, UInt8.ofNat m2, UInt8.ofNat m3, UInt8.ofNat m4])
    rw [HC.out] at B7
    have hs7 := Below.size K7.out
    go_wp2_with (at_builtin; go_loud (refine wpList_app_in rfl _ _ rfl O7.out rfl (some ⟨w6.heap.size, 0, none⟩) 4 4 [UInt8.ofNat m1, UInt8.ofNat m2, UInt8.ofNat m3, UInt8.ofNat m4] rfl rfl B7.out (by decide) hs7 (by rw [hl2]; omega) ?_); intro g8 cap8 w8 ho8 hg8 hat8 hl8; have O8 := Lib.hid ho8; have G8 := Lib.hid hg8; clear ho8 hg8 hat8)
    go_ret2
    unfold DRawA
    rw [HZ.out, HS.out]
    exact ⟨Below.grown K7.out G8.out hs7 (fun k hk => (O7.out.lt k hk).1), _, rfl, O8.out⟩

end Go.Proofs.Ytpplboihlndfpaa
