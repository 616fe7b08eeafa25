/-
  The law DisplayNothing answers true.
-/
import Derived.Test.YtbgdeaeikijdgaaGreatDoorDisN
import Derived.Test.YtbgdeaeikijdgaaGreatDoorDisAwake
import Derived.Test.YtbgdeaeikijdgaaGreatDoorMaxOf
namespace Go.Proofs.YtbgdeaeikijdgaaGreatDoor
open Go.RowKit Cx Px
set_option linter.unusedSimpArgs false
set_option linter.unusedVariables false

theorem andN7 (n : Int) : ∃ k : Nat, bits BinOp.and IntKind.i64 n 7 = (k : Int) ∧ k ≤ 7 := by
  have hle : (BitVec.ofInt 64 n &&& BitVec.ofInt 64 7).toNat ≤ 7 := by
    rw [BitVec.toNat_and]
    exact Nat.and_le_right (n := (BitVec.ofInt 64 n).toNat) (m := 7)
  refine ⟨(BitVec.ofInt 64 n &&& BitVec.ofInt 64 7).toNat, ?_, hle⟩
  show IntKind.i64.wrap ((BitVec.ofInt 64 n &&& BitVec.ofInt 64 7).toNat : Int) = _
  exact IntWalk.i64_in _ (by omega)

/-- '[]byte(s)' of a text is that text again. -/
theorem conv_of {w W : World} {s : ByteArray} {cap : Nat} {fr : Nat × Nat} (k : Kept (w.alloc (.cells (bytesRow s cap) 5 fr)) W) :
    (convert 46 9 (.slice (some ⟨w.heap.size, 0, none⟩) s.size cap)).run Tryz.prog W = .ok (.string s) W := by
  have h := run_convert_bytes_back (P := Tryz.prog) W 46 9 5 ⟨w.heap.size, 0, none⟩ cap s.data.toList Tryz.underlying46 Tryz.underlying5 Tryz.underlying9 (fun j hj => by
    rw [Addr.add_lit, Nat.zero_add, k.cells.1 _ _ (by simp)]
    have hj' : j < s.data.size := by simpa using hj
    have e : (w.alloc (.cells (bytesRow s cap) 5 fr)).cell? ⟨w.heap.size, j, none⟩ = (bytesRow s cap)[j]? := World.cell?_alloc_mark _ _ _ _ _
    rw [e, bytesRow_at s cap j hj']
    rfl)
  have e1 : s.data.toList.length = s.size := by simp
  have e2 : (⟨s.data.toList.toArray⟩ : ByteArray) = s := by simp
  rw [e1, e2] at h
  exact h

set_option maxRecDepth 100000 in
set_option maxHeartbeats 16000000 in
theorem DisplayNothing_walk (s : ByteArray) (n : Int) (w : World) (hf : HasMax w) :
    Calls Tryz.prog 6 #[.string s, .int .i64 n] w fun e w' => e = .returned (.bool true) ∧ Kept w w' := by
  have HF := Lib.hid hf
  have AW := Lib.hid (awake12_any w hf)
  clear hf
  obtain ⟨kn, hkn, hk7⟩ := andN7 n
  by_cases h0 : s.toList = []
  · have e0 : (s.toList == []) = true := by simpa using h0
    clear h0 hkn hk7
    go_enter Tryz.func6, Tryz.ntmps6
    go_wp2_with fail
    (with_reducible refine AW.out.mono ?_)
    rintro e w1 ⟨rfl, hk1⟩
    go_wp2_with fail
    go_ret
    exact ⟨rfl, hk1⟩
  have e0 : (s.toList == []) = false := by simpa using h0
  by_cases hs : 20 < s.size
  · clear h0 hkn hk7
    go_enter Tryz.func6, Tryz.ntmps6
    go_wp2_with fail
    (with_reducible refine AW.out.mono ?_)
    rintro e w1 ⟨rfl, hk1⟩
    go_wp2_with fail
    go_ret
    exact ⟨rfl, hk1⟩
  have hs' : s.size ≤ 20 := by omega
  have H0 := Lib.hid h0
  clear hs h0
  go_enter Tryz.func6, Tryz.ntmps6
  go_wp2_with fail
  (with_reducible refine AW.out.mono ?_)
  rintro e w1 ⟨rfl, hk1⟩
  have HK1 := Lib.hid hk1
  clear hk1 AW
  go_wp2_with fail
  go_loop [6] (fun i => ∃ k : Nat, k ≤ s.size ∧ i = .int .i64 k ∧ Hid (∀ (j : Nat) (h : j < s.size), j < k → s[j] = 120 ∨ s[j] = 121 ∨ s[j] = 122)) (fun i => s.size - (intOf i).toNat)
  case atStart => exact ⟨0, Nat.zero_le _, rfl, Lib.hid (fun j h hj => by omega)⟩
  case round =>
    obtain ⟨k, hk, rfl, HE⟩ := hrel
    by_cases hlt : k < s.size
    · by_cases ha : (s[k].toNat : Int) < 120
      · go_wp2_with fail
        go_ret
        exact ⟨rfl, HK1.out⟩
      by_cases hb : 122 < (s[k].toNat : Int)
      · go_wp2_with fail
        go_ret
        exact ⟨rfl, HK1.out⟩
      have HN := Lib.hid (show ∀ (j : Nat) (h : j < s.size), j < k + 1 → s[j] = 120 ∨ s[j] = 121 ∨ s[j] = 122 from fun j h hj => by
        by_cases e : j = k
        · subst e
          have : s[j].toNat = 120 ∨ s[j].toNat = 121 ∨ s[j].toNat = 122 := by omega
          rcases this with e | e | e
          · exact .inl (by rw [← UInt8.toNat_inj, e]; rfl)
          · exact .inr (.inl (by rw [← UInt8.toNat_inj, e]; rfl))
          · exact .inr (.inr (by rw [← UInt8.toNat_inj, e]; rfl))
        · exact HE.out j h (by omega))
      go_wp2_with fail
      go_round
      case rel => exact ⟨k + 1, by omega, by go_num, HN⟩
      case measure => simp [intOf]; omega
    · obtain rfl : k = s.size := by omega
      have XY := Lib.hid (show Xyz s from ⟨by have := H0.out; rwa [Lib.toList_data] at this, fun b hb => by
        obtain ⟨j, hj, rfl⟩ := List.mem_iff_getElem.1 hb
        have hj' : j < s.size := by simpa using hj
        have := HE.out j hj' hj'
        rw [show s.data.toList[j] = s[j] from rfl]
        exact this⟩)
      go_wp2_with fail
      go_loopg [7, 8] kn (fun m t i wr => ∃ k : Nat, m = kn - k ∧ k ≤ kn ∧ t = .string (repT s k) ∧ i = .int .i64 k ∧ Hid (Kept w wr))
      case atStart => exact ⟨0, by omega, Nat.zero_le _, rfl, rfl, HK1⟩
      case round =>
        rename World => wr
        obtain ⟨k, hm, hk', rfl, rfl, KR⟩ := hrel
        by_cases hlt2 : k < kn
        · have j1 : (k : Int) < (kn : Int) := by omega
          obtain ⟨T, hT⟩ : ∃ T, T = repT s k := ⟨_, rfl⟩
          have hTz : T.size ≤ 420 := by rw [hT]; have := rep_size s hs' k; omega
          have HT := Lib.hid (show repT s (k + 1) = T ++ ⟨#[40, 97, 41, 32, 49, 32, 47, 98, 32]⟩ ++ s ++ ⟨#[32, 48, 32, 48, 32, 109, 32, 49, 32, 49, 32, 108, 32, 110, 32]⟩ by rw [hT]; rfl)
          rw [← hT]
          clear hT
          go_wp2_with fail
          go_roundg (kn - (k + 1))
          case measure => omega
          case rel => exact ⟨k + 1, rfl, by omega, by rw [HT.out], by go_num, KR⟩
        · obtain rfl : k = kn := by omega
          obtain ⟨U, hU⟩ : ∃ U, U = repT s k ++ (⟨#[102, 32, 83, 32, 66, 32, 115, 32, 110]⟩ : ByteArray) := ⟨_, rfl⟩
          have hTz : (repT s k).size ≤ 420 := by have := rep_size s hs' k; omega
          have hUz : U.size ≤ 430 := by rw [hU, ByteArray.size_append]; have : (⟨#[102, 32, 83, 32, 66, 32, 115, 32, 110]⟩ : ByteArray).size = 9 := rfl; omega
          have hUs : U.size = (repT s k).size + 9 := by rw [hU, ByteArray.size_append]; rfl
          obtain ⟨G, hG⟩ : ∃ G, G = grownCap wr ((repT s k).size + 9) 0 5 := ⟨_, rfl⟩
          have KB := Lib.hid ((KR.out.allocO (.cells (bytesRow U G) 5 ((bytesRow U G).size, (bytesRow U G).size + 1))).drew)
          have KD := Lib.hid ((Kept.refl (wr.alloc (.cells (bytesRow U G) 5 ((bytesRow U G).size, (bytesRow U G).size + 1)))).drew)
          have RU := Lib.hid (fun W (k' : Kept (wr.alloc (.cells (bytesRow U G) 5 ((bytesRow U G).size, (bytesRow U G).size + 1))).drew W) => show Calls Tryz.prog 12 #[.agg #[.slice none 0 0, .int .i64 0, .int .i64 0, .int .i64 0, .string ⟨#[]⟩, .slice none 0 0, .slice none 0 0], .agg #[.int .i64 0, .int .i64 0, .int .i64 0, .string ⟨#[]⟩, .slice none 0 0, .slice none 0 0], .slice (some ⟨wr.heap.size, 0, none⟩) ((repT s k).size + 9) G] W _ from Run_any (.slice (some ⟨wr.heap.size, 0, none⟩) ((repT s k).size + 9) G) U W (by omega) (HF.out.kept (KB.out.trans k')) (fun W' k'' => by rw [← hUs]; exact conv_of (KD.out.trans (k'.trans k''))) (reps s k ++ tailO ++ [lastO]) (by rw [hU]; exact no_parse XY.out k (by omega)) (nothing_basic XY.out k) (by rw [List.length_append, List.length_append, reps_len]; simp [tailO]; omega) _ (nothing_draws XY.out k))
          have kcv := run_bytes_of_string (P := Tryz.prog) wr 9 46 5 U Tryz.underlying9 Tryz.underlying46 Tryz.underlying5
          rw [hUs, ← hG, hU] at kcv
          have HU := Lib.hid hU
          clear hU hG
          go_wp2_with fail
          rw [← HU.out]
          (with_reducible refine (RU.out _ (Kept.refl _)).mono ?_)
          rintro e w2 ⟨I, p, c, rfl, hk2, hI, hR⟩
          have K2 := Lib.hid (KB.out.trans hk2)
          obtain ⟨i, hi, h1, h5⟩ := nothing_out
          rw [hi] at hI
          obtain ⟨d, rfl⟩ := one_of hI
          obtain ⟨kb, off, hp, -, hbl, yy⟩ := hR.at' 0 (by simp)
          subst hp
          have y0 : w2.cell? ⟨kb, off, none⟩ = some (.int .i64 i.kind) := by have := yy 0 _ rfl; simpa using this
          have y7 : w2.cell? ⟨kb, off + 7, none⟩ = some (.slice d.p i.path.length d.c) := by have := yy 7 _ rfl; simpa using this
          rw [h1] at y0
          rw [h5] at y7
          simp only [List.length_singleton]
          clear hk2 hI hR hi h1 h5 yy RU kcv
          go_wp2_with fail
          go_ret
          exact ⟨rfl, K2.out⟩

end Go.Proofs.YtbgdeaeikijdgaaGreatDoor
