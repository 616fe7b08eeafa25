/-
  A font's widths: one byte's, and a text's.
-/
import Derived.Test.YtkgaddlclfjkmaaBlk
import Derived.Test.YtkgaddlclfjkmaaFixOps
import Derived.Test.YtkgaddlclfjkmaaMetMath
import Derived.Deep.LoopGhost
import Derived.Deep.RegionHeld3
import Derived.Deep.RegionLaw
namespace Go.Proofs.Ytkgaddlclfjkmaa
open Go.RowKit
set_option linter.unusedSimpArgs false
set_option linter.unusedVariables false

/-- A font. -/
structure Mt.Fo where
  first : Nat
  ws : List Nat
  other : Nat
/-- The width of one byte. -/
def Mt.Fo.one (t : Mt.Fo) (b : Nat) : Nat := if t.first ≤ b then t.ws.getD (b - t.first) t.other else t.other
/-- The width of a text. -/
def Mt.Fo.width (t : Mt.Fo) : List UInt8 → Nat
  | [] => 0
  | b :: l => t.one b.toNat + t.width l
def Mt.Fo.Sane (t : Mt.Fo) : Prop := t.first ≤ 255 ∧ t.other ≤ 5000 ∧ t.ws.length ≤ 256 ∧ ∀ x ∈ t.ws, x ≤ 5000
theorem Mt.Fo.one_le {t : Mt.Fo} (h : t.Sane) (b : Nat) : t.one b ≤ 5000 := by
  unfold Mt.Fo.one
  split
  · by_cases hl : b - t.first < t.ws.length
    · rw [List.getD_eq_getElem?_getD, List.getElem?_eq_getElem hl]
      exact h.2.2.2 _ (List.getElem_mem hl)
    · rw [List.getD_eq_getElem?_getD, List.getElem?_eq_none (by omega)]
      exact h.2.1
  · exact h.2.1
theorem Mt.Fo.width_le {t : Mt.Fo} (h : t.Sane) : ∀ l : List UInt8, t.width l ≤ 5000 * l.length
  | [] => Nat.le_refl _
  | b :: l => by
    have := Mt.Fo.width_le h l
    have := Mt.Fo.one_le h b.toNat
    simp [Mt.Fo.width]; omega
theorem Mt.Fo.width_append (t : Mt.Fo) : ∀ a b : List UInt8, t.width (a ++ b) = t.width a + t.width b
  | [], b => by simp [Mt.Fo.width]
  | c :: a, b => by
    have := Mt.Fo.width_append t a b
    simp [Mt.Fo.width, this]; omega

/-- Numbers that can be read. -/
def NuR (w : World) (B : Nat) (p : Option Addr) (l : List Nat) : Prop :=
  ∀ i (h : i < l.length), ∃ k o, p = some ⟨k, o, none⟩ ∧ k < B ∧ w.cell? ⟨k, o + i, none⟩ = some (.int .i64 (l[i] : Nat))
theorem NuR.keep {w w' : World} {B : Nat} {p : Option Addr} {l : List Nat} (h : NuR w B p l) (hB : B ≤ w.heap.size) (k : Kept w w') : NuR w' B p l := fun i hi => by
  obtain ⟨kb, o, h1, h2, h3⟩ := h i hi
  exact ⟨kb, o, h1, h2, by rw [k.cells.1 _ _ (Nat.lt_of_lt_of_le h2 hB)]; exact h3⟩
theorem NuR.up {w : World} {B B' : Nat} {p : Option Addr} {l : List Nat} (h : NuR w B p l) (hB : B ≤ B') : NuR w B' p l := fun i hi => by
  obtain ⟨kb, o, h1, h2, h3⟩ := h i hi
  exact ⟨kb, o, h1, Nat.lt_of_lt_of_le h2 hB, h3⟩

set_option maxRecDepth 100000 in
theorem widthOf_any (t : Mt.Fo) (p : Option Addr) (c : Nat) (b : UInt8) (w : World) (h : NuR w w.heap.size p t.ws) (hs : t.Sane) :
    Calls Try.prog 24 #[.agg #[.int .i64 t.first, .slice p t.ws.length c, .int .i64 t.other], .int .u8 b.toNat] w fun e w' => e = .returned (.int .i64 (t.one b.toNat)) ∧ Kept w w' := by
  obtain ⟨n, hn⟩ : ∃ n, n = b.toNat := ⟨_, rfl⟩
  have hb : n < 256 := by rw [hn]; exact b.toNat_lt
  rw [← hn]
  clear hn
  obtain ⟨f, hf⟩ : ∃ f, f = t.first := ⟨_, rfl⟩
  obtain ⟨L, hL⟩ : ∃ L, L = t.ws.length := ⟨_, rfl⟩
  have hf1 : f ≤ 255 := by rw [hf]; exact hs.1
  have hL1 : L ≤ 256 := by rw [hL]; exact hs.2.2.1
  by_cases h1 : f ≤ n
  · by_cases h2 : n - f < L
    · obtain ⟨kb, o, rfl, hkb, hc⟩ := h (n - f) (by omega)
      have HE := Lib.hid (show t.one n = t.ws[n - f]'(by omega) by
        unfold Mt.Fo.one
        rw [if_pos (by omega), List.getD_eq_getElem?_getD, ← hf, List.getElem?_eq_getElem (by omega)]; rfl)
      obtain ⟨v, hv⟩ : ∃ v, v = t.ws[n - f]'(by omega) := ⟨_, rfl⟩
      rw [← hv] at hc HE
      clear hv
      rw [← hf, ← hL]
      clear hf hL h hs
      obtain ⟨k, hk⟩ : ∃ k, k = n - f := ⟨_, rfl⟩
      rw [← hk] at hc h2
      have hk1 : (n : Int) - (f : Int) = (k : Int) := by omega
      have hk0 : ¬ (k : Int) < 0 := by omega
      have hk2 : ¬ (L : Int) ≤ (k : Int) := by omega
      have HK := Lib.hid hk
      clear hk
      go_enter Try.func24, Try.ntmps24
      go_wp2_with fail
      go_ret
      exact ⟨by rw [HE.out]; rfl, by repeat (with_reducible first | exact Kept.refl _ | refine Kept.alloc ?_ _ _)⟩
    · have HE := Lib.hid (show t.one n = t.other by
        unfold Mt.Fo.one
        rw [if_pos (by omega), List.getD_eq_getElem?_getD, List.getElem?_eq_none (by omega)]; rfl)
      rw [← hf, ← hL]
      clear hf hL h hs
      obtain ⟨v, hv⟩ : ∃ v, v = t.other := ⟨_, rfl⟩
      rw [← hv] at HE ⊢
      clear hv
      obtain ⟨k, hk⟩ : ∃ k, k = n - f := ⟨_, rfl⟩
      rw [← hk] at h2
      have hk1 : (n : Int) - (f : Int) = (k : Int) := by omega
      have hk0 : ¬ (k : Int) < 0 := by omega
      have hk2 : (L : Int) ≤ (k : Int) := by omega
      have HK := Lib.hid hk
      clear hk
      go_enter Try.func24, Try.ntmps24
      go_wp2_with fail
      go_ret
      exact ⟨by rw [HE.out]; rfl, by repeat (with_reducible first | exact Kept.refl _ | refine Kept.alloc ?_ _ _)⟩
  · have HE := Lib.hid (show t.one n = t.other by
      unfold Mt.Fo.one
      rw [if_neg (by omega)])
    rw [← hf, ← hL]
    clear hf hL h hs
    obtain ⟨v, hv⟩ : ∃ v, v = t.other := ⟨_, rfl⟩
    rw [← hv] at HE ⊢
    clear hv
    have hk0 : (n : Int) - (f : Int) < 0 := by omega
    have hk3 : (n : Int) < (f : Int) := by omega
    go_enter Try.func24, Try.ntmps24
    go_wp2_with fail
    go_ret
    exact ⟨by rw [HE.out]; rfl, by repeat (with_reducible first | exact Kept.refl _ | refine Kept.alloc ?_ _ _)⟩

theorem Mt.take_width (t : Mt.Fo) (l : List UInt8) (j : Nat) (h : j < l.length) : t.width (l.take (j + 1)) = t.width (l.take j) + t.one l[j].toNat := by
  rw [List.take_succ_eq_append_getElem h, Mt.Fo.width_append]
  simp [Mt.Fo.width]

set_option maxRecDepth 100000 in
/-- A text's width. -/
theorem Width_any (t : Mt.Fo) (p : Option Addr) (c : Nat) (s : ByteArray) (w : World) (h : NuR w w.heap.size p t.ws) (hs : t.Sane) (hl : s.size ≤ 4294967296) :
    Calls Try.prog 13 #[.agg #[.int .i64 t.first, .slice p t.ws.length c, .int .i64 t.other], .string s] w fun e w' => e = .returned (.int .i64 (t.width s.data.toList)) ∧ Kept w w' := by
  have HR := Lib.hid h
  have HS := Lib.hid hs
  obtain ⟨l, hll⟩ : ∃ l, l = s.data.toList := ⟨_, rfl⟩
  have hlen : l.length = s.size := by rw [hll]; simp
  rw [← hll]
  have HL := Lib.hid hll
  have HN := Lib.hid hlen
  clear h hs hll hlen
  obtain ⟨f, hf⟩ : ∃ f, f = t.first := ⟨_, rfl⟩
  obtain ⟨L, hL⟩ : ∃ L, L = t.ws.length := ⟨_, rfl⟩
  obtain ⟨o, ho⟩ : ∃ o, o = t.other := ⟨_, rfl⟩
  have C := Lib.hid (fun (b : UInt8) (wx : World) (k : Kept w wx) => widthOf_any t p c b wx ((HR.out.keep (Nat.le_refl _) k).up (Below.size k)) HS.out)
  rw [← hf, ← hL, ← ho] at C ⊢
  clear hf hL ho
  go_enter Try.func13, Try.ntmps13
  go_wp2_with fail
  go_loopg [5, 6, 12] (s.size) (fun m x y i wr => ∃ (j n : Nat), m = s.size - j ∧ j ≤ s.size ∧ x = .int .i64 n ∧ y = .int .i64 0 ∧ i = .int .i64 j ∧ Hid (n = t.width (l.take j)) ∧ Blk wr w.heap.size #[.int .i64 f, .slice p L c, .int .i64 o] 28 ∧ Kept w wr)
  case atStart => exact ⟨0, 0, rfl, Nat.zero_le _, rfl, rfl, rfl, Lib.hid rfl, Blk.fresh _ _ _, (Kept.refl _).alloc _ _⟩
  case round =>
    obtain ⟨j, n, hm, hj, rfl, rfl, rfl, hn, hb, hk⟩ := hrel
    have hnb : n ≤ 5000 * s.size := by
      rw [hn.out]
      have := Mt.Fo.width_le HS.out (l.take j)
      have h2 : (l.take j).length ≤ s.size := by rw [← HN.out]; exact List.length_take_le' _ _
      omega
    by_cases hlt : j < s.size
    · have hlt2 : j < l.length := by rw [HN.out]; exact hlt
      have HG := Lib.hid (show s[j] = l[j] by simp [HL.out]; rfl)
      have HB := Lib.hid hb
      have HK := Lib.hid hk
      have HM := Lib.hid (show n + t.one s[j].toNat = t.width (l.take (j + 1)) by rw [Mt.take_width _ _ _ hlt2, hn.out, HG.out])
      have CC := Lib.hid (C.out s[j])
      have hv1 := Mt.Fo.one_le HS.out s[j].toNat
      obtain ⟨v, hv⟩ : ∃ v, v = t.one s[j].toNat := ⟨_, rfl⟩
      rw [← hv] at CC HM hv1
      have e0 : wr.cell? ⟨w.heap.size, 0, none⟩ = some (.int .i64 f) := hb.cell 0
      have e1 : wr.cell? ⟨w.heap.size, 1, none⟩ = some (.slice p L c) := hb.cell 1
      have e2 : wr.cell? ⟨w.heap.size, 2, none⟩ = some (.int .i64 o) := hb.cell 2
      have hsz := hb.lt
      have hj0 : (0 : Int) ≤ (j : Int) := by omega
      have hj1 : (j : Int) < (s.size : Int) := by omega
      have E0 := Lib.hid e0
      have E1 := Lib.hid e1
      have E2 := Lib.hid e2
      clear hn hb hk hv
      go_wp2_with fail
      go_region_held3 (fun w' => w'.cell? ⟨w.heap.size, 0, none⟩ = some (.int .i64 f) ∧ w'.cell? ⟨w.heap.size, 1, none⟩ = some (.slice p L c) ∧ w'.cell? ⟨w.heap.size, 2, none⟩ = some (.int .i64 o)) (first | go_keep | exact ⟨e0, e1, e2⟩ | exact ⟨d0, d1, d2⟩) ((go_at_call 24; with_reducible refine (CC.out _ HK.out.drew).mono ?_; rintro e w5 ⟨rfl, hk5⟩; have d0 : w5.cell? ⟨w.heap.size, 0, none⟩ = some (.int .i64 f) := (((Kept.refl wr).drew.trans hk5).cells.1 _ _ hsz).trans E0.out; have d1 : w5.cell? ⟨w.heap.size, 1, none⟩ = some (.slice p L c) := (((Kept.refl wr).drew.trans hk5).cells.1 _ _ hsz).trans E1.out; have d2 : w5.cell? ⟨w.heap.size, 2, none⟩ = some (.int .i64 o) := (((Kept.refl wr).drew.trans hk5).cells.1 _ _ hsz).trans E2.out))
      have K5 := Lib.hid hk5
      clear hk5 d0 d1 d2 e0 e1 e2
      have q1 : ¬ (v : Int) < 0 := by omega
      have q2 : ¬ (n : Int) + (v : Int) < (n : Int) := by omega
      go_wp2_with fail
      all_goals
        go_roundg (s.size - (j + 1))
        case measure => omega
        case rel => exact ⟨j + 1, n + v, rfl, by omega, by go_num, rfl, by go_num, Lib.hid HM.out, (HB.out.drew).kept K5.out, (HK.out.drew).trans K5.out⟩
    · obtain rfl : j = s.size := by omega
      have HT := Lib.hid (show n = t.width l by rw [hn.out, ← HN.out, List.take_length])
      clear hn
      go_wp2_with fail
      go_ret
      exact ⟨by rw [← HT.out]; rfl, by assumption⟩

end Go.Proofs.Ytkgaddlclfjkmaa
