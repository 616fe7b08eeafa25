/-
  What putArr and putDict put: under what putObject puts of all that stands in them.
-/
import Derived.Test.YtkobcgemllcfoaaDoorWritePutObj
namespace Go.Proofs.YtkobcgemllcfoaaDoor
open Go.RowKit Cx
set_option linter.unusedSimpArgs false
set_option linter.unusedVariables false

/-- What putObject puts of an object. -/
def PutC (x : Ob) : Prop :=
  ∀ (h : Hd) (B b : Nat) (acc : List UInt8) (w : World), Lies (Cel (fun k => k < B) w) x h → Bld B b acc w → FB B w → acc.length + x.text.length ≤ 140737488355328 →
    Calls Tryd.prog 32 #[putV b, objV x h] w fun e w' => e = .returned (.tuple #[]) ∧ Bld B b (acc ++ x.text) w' ∧ Fr B b w w'

theorem Bld.cast {B b : Nat} {l m : List UInt8} {w : World} (h : Bld B b l w) (e : l = m) : Bld B b m w := e ▸ h

set_option maxRecDepth 100000 in
set_option maxHeartbeats 4000000 in
theorem putArr_any (B b : Nat) (acc : List UInt8) (l : List Ob) (p : Option Addr) (c : Nat) (w : World) (hl : Lies (Cel (fun k => k < B) w) (.mk 5 0 0 ⟨#[]⟩ l []) ⟨p, c, none, 0⟩) (IH : ∀ z ∈ l, PutC z) (hb : Bld B b acc w) (hf : FB B w) (hll : l.length ≤ 4294967296)
    (hlen : acc.length + (91 :: (textL false l ++ [93])).length ≤ 140737488355328) :
    Calls Tryd.prog 64 #[putV b, .slice p l.length c] w fun e w' => e = .returned (.tuple #[]) ∧ Bld B b (acc ++ 91 :: (textL false l ++ [93])) w' ∧ Fr B b w w' := by
  have HL := Lib.hid hl
  have HI := Lib.hid IH
  have HB := Lib.hid hb
  have HF := Lib.hid hf
  have HN := Lib.hid (show acc.length + (textL false l).length + 2 ≤ 140737488355328 by rw [List.length_cons, List.length_append] at hlen; simp at hlen; omega)
  have P0 := Lib.hid (put1_any B b acc ⟨#[91]⟩ w hb (by have := HN.out; show acc.length + 1 ≤ _; omega))
  clear hl IH hb hf hlen
  unfold putV
  go_enter Tryd.func64, Tryd.ntmps64
  go_wp2_with fail
  (with_reducible refine P0.out.mono ?_)
  rintro e w1 ⟨rfl, hb1, hr1⟩
  have HB1 := Lib.hid (show Bld B b (acc ++ [91]) w1 from hb1)
  have HR1 := Lib.hid hr1
  clear hb1 hr1 P0
  go_wp2_with fail
  go_loopg [11] (l.length) (fun m i wr => ∃ (j : Nat) (T : List UInt8), m = l.length - j ∧ j ≤ l.length ∧ i = .int .i64 j ∧ Bld B b (acc ++ [91] ++ T) wr ∧ Fr B b w wr ∧ Hid (T ++ textL (decide (0 < j)) (l.drop j) = textL false l))
  case atStart => exact ⟨0, [], by omega, Nat.zero_le _, rfl, by rw [List.append_nil]; exact HB1.out, HR1.out, Lib.hid rfl⟩
  case round =>
    obtain ⟨j, T, hm, hj, rfl, hbr, hfr, HS⟩ := hrel
    have HBR := Lib.hid hbr
    have HFR := Lib.hid hfr
    clear hbr hfr HB1 HR1
    by_cases hlt : j < l.length
    · obtain ⟨x, bb, off, ⟨p', c', q', e'⟩, hxe, hp, hP, hbl, hx, y0, y1, y2, y3, y4, y5⟩ := (HFR.out.lies HL.out).elem j hlt
      simp only [Ob.l] at hxe
      simp only [] at hp y4 y5
      subst hp
      have hmem := List.getElem_mem hlt
      rw [hxe] at hmem
      have HST := Lib.hid (show (T ++ (if 0 < j then [32] else []) ++ x.text) ++ textL (decide (0 < j + 1)) (l.drop (j + 1)) = textL false l by
        rw [← HS.out, textL_step l j hlt, hxe]; simp only [List.append_assoc])
      have HSL := Lib.hid (show T.length + (if 0 < j then [32] else [] : List UInt8).length + x.text.length ≤ (textL false l).length by
        have := congrArg List.length HST.out
        simp only [List.length_append] at this ⊢; omega)
      have B1 := Lib.hid (HBR.out.alloc #[.int .i64 x.k, .int .i64 x.n, .int .i64 x.f, .string x.s, .slice p' x.l.length c', .slice q' x.d.length e'] 26)
      have F1 := Lib.hid (HFR.out.alloc HBR.out.2 #[.int .i64 x.k, .int .i64 x.n, .int .i64 x.f, .string x.s, .slice p' x.l.length c', .slice q' x.d.length e'] 26)
      have BK := Lib.hid (Blk.fresh wr #[.int .i64 x.k, .int .i64 x.n, .int .i64 x.f, .string x.s, .slice p' x.l.length c', .slice q' x.d.length e'] 26)
      have LX := Lib.hid (((show Fr B b wr (wr.alloc (.cells #[.int .i64 x.k, .int .i64 x.n, .int .i64 x.f, .string x.s, .slice p' x.l.length c', .slice q' x.d.length e'] 26)) from (Fr.refl B b wr).alloc HBR.out.2 #[.int .i64 x.k, .int .i64 x.n, .int .i64 x.f, .string x.s, .slice p' x.l.length c', .slice q' x.d.length e'] 26)).lies hx)
      have PB := Lib.hid (putBetween_any B b (acc ++ [91] ++ T) j _ B1.out (by have := HN.out; have := HSL.out; simp only [List.length_append, List.length_cons, List.length_nil]; omega) (by omega))
      have IX := Lib.hid (HI.out x hmem ⟨p', c', q', e'⟩ B b)
      have hne := (show wr.heap.size ≠ b by have := HBR.out.at; omega)
      have HNE := Lib.hid hne
      clear hx hmem hxe hP hne
      unfold putV at PB
      go_wp2_with fail
      (with_reducible refine PB.out.mono ?_)
      rintro e w3 ⟨rfl, hb3, hf3⟩
      have B3 := Lib.hid hb3
      have F3 := Lib.hid (F1.out.trans hf3)
      have L3 := Lib.hid (hf3.lies LX.out)
      obtain ⟨u0, u1, u2, u3, u4, u5⟩ := (hf3.blk BK.out HNE.out (by decide)).cells6
      have IY := Lib.hid (IX.out _ w3 L3.out B3.out (HF.out.below F3.out.1) (by have := HN.out; have := HSL.out; simp only [List.length_append, List.length_cons, List.length_nil]; omega))
      clear hb3 hf3 y0 y1 y2 y3 y4 y5
      unfold putV objV at IY
      simp only [] at IY
      go_wp2_with fail
      (with_reducible refine IY.out.mono ?_)
      rintro e w4 ⟨rfl, hb4, hf4⟩
      have B4 := Lib.hid (hb4.cast (show _ = acc ++ [91] ++ (T ++ (if 0 < j then [32] else []) ++ x.text) by simp only [List.append_assoc]))
      have F4 := Lib.hid (F3.out.trans hf4)
      clear hb4 hf4 u0 u1 u2 u3 u4 u5
      go_wp2_with fail
      go_roundg (l.length - (j + 1))
      case measure => omega
      case rel => exact ⟨j + 1, _, rfl, by omega, by go_num, B4.out, F4.out, HST⟩
    · obtain rfl : j = l.length := by omega
      have HT := Lib.hid (show T = textL false l by have := HS.out; rwa [List.drop_eq_nil_of_le (Nat.le_refl _), textL_nil, List.append_nil] at this)
      have P1 := Lib.hid (put1_any B b _ ⟨#[93]⟩ wr HBR.out (by have := HN.out; rw [HT.out]; simp only [List.length_append, List.length_cons, List.length_nil]; show _ + 1 ≤ _; omega))
      go_wp2_with fail
      (with_reducible refine P1.out.mono ?_)
      rintro e w5 ⟨rfl, hb5, hf5⟩
      have B5 := Lib.hid (hb5.cast (show _ = acc ++ 91 :: (textL false l ++ [93]) by rw [HT.out]; simp))
      have F5 := Lib.hid (HFR.out.trans hf5)
      clear hb5 hf5
      go_wp2_with fail
      refine bodyPost_end (results_none rfl _ _ _) rfl ?_
      exact ⟨rfl, B5.out, F5.out⟩

theorem putL_any (B b : Nat) (l : List UInt8) (ss : List ByteArray) (w : World) (hb : Bld B b l w) (hlen : l.length + (catT ss).length ≤ 140737488355328) (hss : ss.length ≤ 1000) :
    Calls Tryd.prog 56 #[.slice (some ⟨w.heap.size, 0, none⟩) ss.length ss.length, .pointer (some ⟨b, 0, none⟩)] (w.alloc (.cells (ss.map Value.string).toArray 9)) fun e w' => e = .returned (.tuple #[]) ∧ Bld B b (l ++ catT ss) w' ∧ Fr B b w w' :=
  (put_any B b w.heap.size l ss _ (hb.alloc _ _) (Blk.fresh w _ 9) (by have := hb.at; omega) hlen hss).mono fun _ _ ⟨he, h1, h2⟩ => ⟨he, h1, ((Fr.refl B b w).alloc hb.2 _ _).trans h2⟩
theorem put2_any (B b : Nat) (l : List UInt8) (s1 s2 : ByteArray) (w : World) (hb : Bld B b l w) (hlen : l.length + (s1.size + s2.size) ≤ 140737488355328) :
    Calls Tryd.prog 56 #[.slice (some ⟨w.heap.size, 0, none⟩) 2 2, .pointer (some ⟨b, 0, none⟩)] (w.alloc (.cells #[.string s1, .string s2] 9)) fun e w' => e = .returned (.tuple #[]) ∧ Bld B b (l ++ (s1.data.toList ++ s2.data.toList)) w' ∧ Fr B b w w' := by
  have hc : catT [s1, s2] = s1.data.toList ++ s2.data.toList := by unfold catT; simp
  have h := putL_any B b l [s1, s2] w hb (by rw [hc, List.length_append, Array.length_toList, Array.length_toList]; exact hlen) (by simp)
  rw [hc] at h
  exact h
theorem Blk.cells7w {w : World} {b : Nat} {v0 v1 v2 v3 v4 v5 v6 : Value} {t : TypeId} (h : Blk w b #[v0, v1, v2, v3, v4, v5, v6] t) : w.cell? ⟨b, 0, none⟩ = some v0 ∧ w.cell? ⟨b, 1, none⟩ = some v1 ∧ w.cell? ⟨b, 2, none⟩ = some v2 ∧ w.cell? ⟨b, 3, none⟩ = some v3 ∧ w.cell? ⟨b, 4, none⟩ = some v4 ∧ w.cell? ⟨b, 5, none⟩ = some v5 ∧ w.cell? ⟨b, 6, none⟩ = some v6 :=
  ⟨h.cell 0, h.cell 1, h.cell 2, h.cell 3, h.cell 4, h.cell 5, h.cell 6⟩

set_option maxRecDepth 100000 in
set_option maxHeartbeats 4000000 in
theorem putDict_any (B b : Nat) (acc : List UInt8) (l : List Entr) (q : Option Addr) (c : Nat) (w : World) (hl : Lies (Cel (fun k => k < B) w) (.mk 6 0 0 ⟨#[]⟩ [] l) ⟨none, 0, q, c⟩) (IH : ∀ z ∈ l, PutC z.2) (hb : Bld B b acc w) (hf : FB B w) (hll : l.length ≤ 4294967296) (hkk : ∀ z ∈ l, z.1.size ≤ 4294967296)
    (hlen : acc.length + ([60, 60] ++ textD false l ++ [62, 62]).length ≤ 140737488355328) :
    Calls Tryd.prog 65 #[putV b, .slice q l.length c] w fun e w' => e = .returned (.tuple #[]) ∧ Bld B b (acc ++ ([60, 60] ++ textD false l ++ [62, 62])) w' ∧ Fr B b w w' := by
  have HL := Lib.hid hl
  have HI := Lib.hid IH
  have HB := Lib.hid hb
  have HF := Lib.hid hf
  have HKK := Lib.hid hkk
  have HN := Lib.hid (show acc.length + (textD false l).length + 4 ≤ 140737488355328 by simp only [List.length_append, List.length_cons, List.length_nil] at hlen; omega)
  have P0 := Lib.hid (put1_any B b acc ⟨#[60, 60]⟩ w hb (by have := HN.out; show acc.length + 2 ≤ _; omega))
  clear hl IH hb hf hlen hkk
  unfold putV
  go_enter Tryd.func65, Tryd.ntmps65
  go_wp2_with fail
  (with_reducible refine P0.out.mono ?_)
  rintro e w1 ⟨rfl, hb1, hr1⟩
  have HB1 := Lib.hid (show Bld B b (acc ++ [60, 60]) w1 from hb1)
  have HR1 := Lib.hid hr1
  clear hb1 hr1 P0
  go_wp2_with fail
  go_loopg [11] (l.length) (fun m i wr => ∃ (j : Nat) (T : List UInt8), m = l.length - j ∧ j ≤ l.length ∧ i = .int .i64 j ∧ Bld B b (acc ++ [60, 60] ++ T) wr ∧ Fr B b w wr ∧ Hid (T ++ textD (decide (0 < j)) (l.drop j) = textD false l))
  case atStart => exact ⟨0, [], by omega, Nat.zero_le _, rfl, by rw [List.append_nil]; exact HB1.out, HR1.out, Lib.hid rfl⟩
  case round =>
    obtain ⟨j, T, hm, hj, rfl, hbr, hfr, HS⟩ := hrel
    have HBR := Lib.hid hbr
    have HFR := Lib.hid hfr
    clear hbr hfr HB1 HR1
    by_cases hlt : j < l.length
    · obtain ⟨ek, x, bb, off, ⟨p', c', q', e'⟩, hxe, hp, hP, hbl, hx, -, z0, y0, y1, y2, y3, y4, y5⟩ := (HFR.out.lies HL.out).entry j hlt
      simp only [Ob.d] at hxe
      simp only [] at hp y4 y5
      subst hp
      have hmem := List.getElem_mem hlt
      rw [hxe] at hmem
      obtain ⟨NM, hNM⟩ : ∃ NM, NM = Lx.nameV ek.data.toList := ⟨_, rfl⟩
      have HST := Lib.hid (show (T ++ (if 0 < j then [32] else []) ++ (NM ++ [32]) ++ x.text) ++ textD (decide (0 < j + 1)) (l.drop (j + 1)) = textD false l by
        rw [← HS.out, textD_step l j hlt, hxe, hNM]; simp only [List.append_assoc])
      have HSL := Lib.hid (show T.length + (if 0 < j then [32] else [] : List UInt8).length + (NM.length + 1) + x.text.length ≤ (textD false l).length by
        have := congrArg List.length HST.out
        simp only [List.length_append, List.length_cons, List.length_nil] at this ⊢; omega)
      have HNO := Lib.hid (fun w' => NameOf_any ek w' (HKK.out (ek, x) hmem))
      rw [← hNM] at HNO
      have B1 := Lib.hid (HBR.out.alloc #[.string ek, .int .i64 x.k, .int .i64 x.n, .int .i64 x.f, .string x.s, .slice p' x.l.length c', .slice q' x.d.length e'] 36)
      have F1 := Lib.hid (HFR.out.alloc HBR.out.2 #[.string ek, .int .i64 x.k, .int .i64 x.n, .int .i64 x.f, .string x.s, .slice p' x.l.length c', .slice q' x.d.length e'] 36)
      have BK := Lib.hid (Blk.fresh wr #[.string ek, .int .i64 x.k, .int .i64 x.n, .int .i64 x.f, .string x.s, .slice p' x.l.length c', .slice q' x.d.length e'] 36)
      have LX := Lib.hid (((show Fr B b wr (wr.alloc (.cells #[.string ek, .int .i64 x.k, .int .i64 x.n, .int .i64 x.f, .string x.s, .slice p' x.l.length c', .slice q' x.d.length e'] 36)) from (Fr.refl B b wr).alloc HBR.out.2 #[.string ek, .int .i64 x.k, .int .i64 x.n, .int .i64 x.f, .string x.s, .slice p' x.l.length c', .slice q' x.d.length e'] 36)).lies hx)
      have PB := Lib.hid (putBetween_any B b (acc ++ [60, 60] ++ T) j _ B1.out (by have := HN.out; have := HSL.out; simp only [List.length_append, List.length_cons, List.length_nil]; omega) (by omega))
      have IX := Lib.hid (HI.out (ek, x) hmem ⟨p', c', q', e'⟩ B b)
      have hne := (show wr.heap.size ≠ b by have := HBR.out.at; omega)
      have HNE := Lib.hid hne
      clear hx hmem hxe hP hne hNM
      unfold putV at PB
      go_wp2_with fail
      (with_reducible refine PB.out.mono ?_)
      rintro e w3 ⟨rfl, hb3, hf3⟩
      have B3 := Lib.hid hb3
      have F3 := Lib.hid (F1.out.trans hf3)
      have L3 := Lib.hid (hf3.lies LX.out)
      have BK3 := Lib.hid (hf3.blk BK.out HNE.out (by decide))
      obtain ⟨k0, u0, u1, u2, u3, u4, u5⟩ := BK3.out.cells7w
      clear hb3 hf3 z0 y0 y1 y2 y3 y4 y5
      go_wp2_with fail
      (with_reducible refine (HNO.out _).mono ?_)
      rintro e w4 ⟨rfl, hk4⟩
      have B4 := Lib.hid (B3.out.kept hk4)
      have FK := (Fr.refl B b w3).kept hk4 B3.out.2
      have F4 := Lib.hid (F3.out.trans FK)
      have L4 := Lib.hid (FK.lies L3.out)
      have BK4 := Lib.hid (BK3.out.kept hk4)
      have P2 := Lib.hid (put2_any B b _ ⟨NM.toArray⟩ ⟨#[32]⟩ w4 B4.out (by
        have := HN.out; have := HSL.out
        simp only [List.length_append, List.length_cons, List.length_nil]
        show _ + (NM.toArray.size + 1) ≤ _
        rw [List.size_toArray]; omega))
      clear hk4 FK k0 u0 u1 u2 u3 u4 u5
      go_wp2_with fail
      (with_reducible refine P2.out.mono ?_)
      rintro e w5 ⟨rfl, hb5, hf5⟩
      have B5 := Lib.hid (hb5.cast (show _ = acc ++ [60, 60] ++ (T ++ (if 0 < j then [32] else []) ++ (NM ++ [32])) by simp only [List.append_assoc]))
      have F5 := Lib.hid (F4.out.trans hf5)
      have L5 := Lib.hid (hf5.lies L4.out)
      obtain ⟨k0, u0, u1, u2, u3, u4, u5⟩ := (hf5.blk BK4.out HNE.out (by decide)).cells7w
      have IY := Lib.hid (IX.out _ w5 L5.out B5.out (HF.out.below F5.out.1) (by have := HN.out; have := HSL.out; simp only [List.length_append, List.length_cons, List.length_nil]; omega))
      clear hb5 hf5
      unfold putV objV at IY
      simp only [] at IY
      go_wp2_with fail
      (with_reducible refine IY.out.mono ?_)
      rintro e w6 ⟨rfl, hb6, hf6⟩
      have B6 := Lib.hid (hb6.cast (show _ = acc ++ [60, 60] ++ (T ++ (if 0 < j then [32] else []) ++ (NM ++ [32]) ++ x.text) by simp only [List.append_assoc]))
      have F6 := Lib.hid (F5.out.trans hf6)
      clear hb6 hf6 k0 u0 u1 u2 u3 u4 u5
      go_wp2_with fail
      go_roundg (l.length - (j + 1))
      case measure => omega
      case rel => exact ⟨j + 1, _, rfl, by omega, by go_num, B6.out, F6.out, HST⟩
    · obtain rfl : j = l.length := by omega
      have HT := Lib.hid (show T = textD false l by have := HS.out; rwa [List.drop_eq_nil_of_le (Nat.le_refl _), textD_nil, List.append_nil] at this)
      have P1 := Lib.hid (put1_any B b _ ⟨#[62, 62]⟩ wr HBR.out (by have := HN.out; rw [HT.out]; simp only [List.length_append, List.length_cons, List.length_nil]; show _ + 2 ≤ _; omega))
      go_wp2_with fail
      (with_reducible refine P1.out.mono ?_)
      rintro e w5 ⟨rfl, hb5, hf5⟩
      have B5 := Lib.hid (hb5.cast (show _ = acc ++ ([60, 60] ++ textD false l ++ [62, 62]) by rw [HT.out]; simp))
      have F5 := Lib.hid (HFR.out.trans hf5)
      clear hb5 hf5
      go_wp2_with fail
      refine bodyPost_end (results_none rfl _ _ _) rfl ?_
      exact ⟨rfl, B5.out, F5.out⟩

end Go.Proofs.YtkobcgemllcfoaaDoor
