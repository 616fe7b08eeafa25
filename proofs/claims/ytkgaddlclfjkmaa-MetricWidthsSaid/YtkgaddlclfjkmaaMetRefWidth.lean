/-
  The reference's width of a text; a width in a size, both ways.
-/
import Derived.Test.YtkgaddlclfjkmaaMetFontArg
import Derived.Test.YtkgaddlclfjkmaaFixRef
import Derived.BigQuiet
import Derived.Deep.QuietTactic
namespace Go.Proofs.Ytkgaddlclfjkmaa
open Go.RowKit
set_option linter.unusedSimpArgs false
set_option linter.unusedVariables false

theorem Blk.drewN' {w : World} {b : Nat} {cs : Array Value} {t : TypeId} (h : Blk w b cs t) (n : Nat) : Blk (w.drewN n) b cs t := h
/-- What is found among the first k widths. -/
def Mt.upto (t : Mt.Fo) (b k : Nat) : Nat := if t.first ≤ b ∧ b - t.first < k then t.ws.getD (b - t.first) t.other else t.other
theorem Mt.upto_zero (t : Mt.Fo) (b : Nat) : Mt.upto t b 0 = t.other := by
  unfold Mt.upto; rw [if_neg (by omega)]
theorem Mt.upto_all (t : Mt.Fo) (b : Nat) : Mt.upto t b t.ws.length = t.one b := by
  unfold Mt.upto Mt.Fo.one
  by_cases h : t.first ≤ b
  · by_cases h2 : b - t.first < t.ws.length
    · rw [if_pos ⟨h, h2⟩, if_pos h]
    · rw [if_neg (by omega), if_pos h, List.getD_eq_getElem?_getD, List.getElem?_eq_none (by omega)]; rfl
  · rw [if_neg (by omega), if_neg h]
theorem Mt.upto_hit (t : Mt.Fo) (b k : Nat) (hk : k < t.ws.length) (h : t.first + k = b) : Mt.upto t b (k + 1) = t.ws[k] := by
  unfold Mt.upto
  have e : b - t.first = k := by omega
  rw [if_pos (by omega), List.getD_eq_getElem?_getD, e, List.getElem?_eq_getElem hk]; rfl
theorem Mt.upto_miss (t : Mt.Fo) (b k : Nat) (h : t.first + k ≠ b) : Mt.upto t b (k + 1) = Mt.upto t b k := by
  unfold Mt.upto
  by_cases h2 : t.first ≤ b ∧ b - t.first < k
  · rw [if_pos h2, if_pos (by omega)]
  · rw [if_neg h2, if_neg (by omega)]

set_option maxRecDepth 100000 in
set_option maxHeartbeats 4000000 in
theorem RWidth_any (t : Mt.Fo) (p : Option Addr) (c : Nat) (s : ByteArray) (w : World) (h : NuR w w.heap.size p t.ws) (hs : t.Sane) (hl : s.size ≤ 4294967296) :
    Calls Try.prog 14 #[.agg #[.int .i64 t.first, .slice p t.ws.length c, .int .i64 t.other], .string s] w fun e w' => e = .returned (.int .i64 (t.width s.data.toList)) ∧ Kept w w' := by
  have HR := Lib.hid h
  have HS := Lib.hid hs
  obtain ⟨l, hll⟩ : ∃ l, l = s.data.toList := ⟨_, rfl⟩
  have hlen : l.length = s.size := by rw [hll]; simp
  rw [← hll]
  have HL := Lib.hid hll
  have HN := Lib.hid hlen
  obtain ⟨f, hf⟩ : ∃ f, f = t.first := ⟨_, rfl⟩
  obtain ⟨L, hL⟩ : ∃ L, L = t.ws.length := ⟨_, rfl⟩
  obtain ⟨o, ho⟩ : ∃ o, o = t.other := ⟨_, rfl⟩
  have hf1 : f ≤ 255 := by rw [hf]; exact hs.1
  have hL1 : L ≤ 256 := by rw [hL]; exact hs.2.2.1
  have ho1 : o ≤ 5000 := by rw [ho]; exact hs.2.1
  rw [← hf, ← hL, ← ho]
  have HF := Lib.hid hf
  have HLL := Lib.hid hL
  have HO := Lib.hid ho
  clear h hs hll hlen hf hL ho
  go_enter Try.func14, Try.ntmps14
  go_wp2_with fail
  go_loopg [5, 6] (s.size + 1) (fun m x i wr => ∃ (j n : Nat), m = s.size - j + 1 ∧ j ≤ s.size ∧ x = .int .i64 n ∧ i = .int .i64 j ∧ Hid (n = t.width (l.take j)) ∧ Blk wr w.heap.size #[.int .i64 f, .slice p L c, .int .i64 o] 24 ∧ Kept w wr)
  case atStart => exact ⟨0, 0, rfl, Nat.zero_le _, rfl, rfl, Lib.hid rfl, Blk.fresh _ _ _, (Kept.refl _).alloc _ _⟩
  case round =>
    obtain ⟨j, n, hm, hj, rfl, rfl, hn, hb, hk⟩ := hrel
    have hnb : n ≤ 5000 * s.size := by
      rw [hn.out]
      have := Mt.Fo.width_le HS.out (l.take j)
      have h2 : (l.take j).length ≤ s.size := by rw [← HN.out]; exact List.length_take_le' _ _
      omega
    by_cases hlt : j < s.size
    · have hlt2 : j < l.length := by rw [HN.out]; exact hlt
      have HG := Lib.hid (show s[j] = l[j] by simp [HL.out]; rfl)
      have HM := Lib.hid (show n + t.one s[j].toNat = t.width (l.take (j + 1)) by rw [Mt.take_width _ _ _ hlt2, hn.out, HG.out])
      have hv1 := Mt.Fo.one_le HS.out s[j].toNat
      obtain ⟨x, hx⟩ : ∃ x, x = s[j].toNat := ⟨_, rfl⟩
      rw [← hx] at HM hv1
      have hi : ((s[j].toNat : Nat) : Int) = (x : Int) := by rw [hx]
      have hx1 : x < 256 := by rw [hx]; exact s[j].toNat_lt
      have HB := Lib.hid hb
      have HK := Lib.hid hk
      have e0 := hb.cell 0
      have e1 := hb.cell 1
      have e2 := hb.cell 2
      have hj0 : (0 : Int) ≤ (j : Int) := by omega
      have hj1 : (j : Int) < (s.size : Int) := by omega
      clear hn hb hk hx
      go_wp2_with fail
      clear e0 e1 e2
      go_loopg [7, 8] (L + 1) (fun m y z wr => ∃ (k v : Nat), m = L - k + 1 ∧ k ≤ L ∧ y = .int .i64 v ∧ z = .int .i64 k ∧ Hid (v = Mt.upto t x k) ∧ Blk wr w.heap.size #[.int .i64 f, .slice p L c, .int .i64 o] 24 ∧ Kept w wr)
      case atStart => exact ⟨0, o, rfl, Nat.zero_le _, rfl, rfl, Lib.hid (by rw [Mt.upto_zero, HO.out]), HB.out, HK.out⟩
      case round =>
        obtain ⟨k, v, hmk, hkL, rfl, rfl, hv, hb, hk⟩ := hrel
        have HB := Lib.hid hb
        have HK := Lib.hid hk
        have e0 := hb.cell 0
        have e1 := hb.cell 1
        have e2 := hb.cell 2
        have hbl := hb.lt
        by_cases hkl : k < L
        · have hkl2 : k < t.ws.length := by rw [← HLL.out]; exact hkl
          obtain ⟨kb, q, hp, hkb, hc⟩ := HR.out k hkl2
          have hc2 : wr.cell? ⟨kb, q + k, none⟩ = some (.int .i64 (t.ws[k] : Nat)) := by rw [hk.cells.1 _ _ hkb]; exact hc
          obtain ⟨u, hu⟩ : ∃ u, u = t.ws[k] := ⟨_, rfl⟩
          rw [← hu] at hc2
          subst hp
          have hk0 : (0 : Int) ≤ (k : Int) := by omega
          have hw0 : IntKind.i64.wrap ((f : Int) + (k : Int)) = (f : Int) + (k : Int) := by rw [IntKind.wrap_i64]; omega
          by_cases hit : f + k = x
          · have hq : ((f : Int) + (k : Int) == (x : Int)) = true := by rw [beq_iff_eq]; omega
            have HU := Lib.hid (show u = Mt.upto t x (k + 1) by rw [hu, Mt.upto_hit t x k hkl2 (by rw [← HF.out]; exact hit)])
            clear hu hc hb hk hit hv
            go_wp2_with fail
            go_quiet (fail)
            go_wp2_with fail
            go_roundg (L - (k + 1) + 1)
            case measure => omega
            case rel => exact ⟨k + 1, u, rfl, by omega, rfl, by go_num, HU, Blk.drewN' HB.out nq, by repeat (with_reducible first | exact HK.out | refine Kept.drew ?_ | refine Kept.drewN ?_ _)⟩
          · have hq : ((f : Int) + (k : Int) == (x : Int)) = false := by rw [beq_eq_false_iff_ne]; omega
            have HU := Lib.hid (show v = Mt.upto t x (k + 1) by rw [hv.out, Mt.upto_miss t x k (by rw [← HF.out]; exact hit)])
            clear hu hc hb hk hit hv
            go_wp2_with fail
            go_quiet (fail)
            go_wp2_with fail
            go_roundg (L - (k + 1) + 1)
            case measure => omega
            case rel => exact ⟨k + 1, v, rfl, by omega, rfl, by go_num, HU, Blk.drewN' HB.out nq, by repeat (with_reducible first | exact HK.out | refine Kept.drew ?_ | refine Kept.drewN ?_ _)⟩
        · obtain rfl : k = L := by omega
          have HV := Lib.hid (show v = t.one x by rw [hv.out, HLL.out, Mt.upto_all])
          have hvb : v ≤ 5000 := by rw [HV.out]; exact hv1
          clear hv hb hk
          go_wp2_with fail
          go_roundg (s.size - (j + 1) + 1)
          case measure => omega
          case rel => exact ⟨j + 1, n + v, rfl, by omega, by go_num, by go_num, Lib.hid (by rw [HV.out]; exact HM.out), HB.out, HK.out⟩
    · obtain rfl : j = s.size := by omega
      have HT := Lib.hid (show n = t.width l by rw [hn.out, ← HN.out, List.take_length])
      clear hn
      go_wp2_with fail
      go_ret
      exact ⟨by rw [← HT.out]; rfl, by assumption⟩

end Go.Proofs.Ytkgaddlclfjkmaa
