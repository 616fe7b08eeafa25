/-
  What putObject puts of any object: its text.
  What putArr and putDict put: under what putObject puts of all that stands in them.
  What putObject puts of any object: its text.
-/
import Derived.Test.YtkpagahnmbchjaaGreatDoorWrA
import Derived.Test.YtkpagahnmbchjaaGreatDoorWriteSane
import Derived.Test.YtkpagahnmbchjaaGreatDoorFixW
import Derived.Test.YtkpagahnmbchjaaGreatDoorFixMs
import Derived.Test.YtkpagahnmbchjaaGreatDoorLexNameOf
import Derived.Test.YtkpagahnmbchjaaGreatDoorCosWt
import Derived.Test.YtkpagahnmbchjaaGreatDoorLexQuote
namespace Go.Proofs.YtkpagahnmbchjaaGreatDoor
open Go.RowKit Cx
set_option linter.unusedSimpArgs false
set_option linter.unusedVariables false

abbrev putV (b : Nat) : Value := .func (.func 48) #[] #[.pointer (some ⟨b, 0, none⟩)]

theorem Bld.alloc {B b : Nat} {l : List UInt8} {w : World} (h : Bld B b l w) (c : Array Value) (t : TypeId) : Bld B b l (w.alloc (.cells c t (0, 0))) := h.kept ((Kept.refl w).alloc c t)
theorem Fr.alloc {B b : Nat} {w1 w2 : World} (h : Fr B b w1 w2) (hB : B ≤ w2.heap.size) (c : Array Value) (t : TypeId) : Fr B b w1 (w2.alloc (.cells c t (0, 0))) := h.kept ((Kept.refl w2).alloc c t) hB

/-- One text. -/
theorem put1_any (B b : Nat) (l : List UInt8) (s : ByteArray) (w : World) (hb : Bld B b l w) (hlen : l.length + s.size ≤ 140737488355328) :
    Calls Tryz.prog 48 #[.slice (some ⟨w.heap.size, 0, none⟩) 1 1, .pointer (some ⟨b, 0, none⟩)] (w.alloc (.cells #[.string s] 9)) fun e w' => e = .returned (.tuple #[]) ∧ Bld B b (l ++ s.data.toList) w' ∧ Fr B b w w' := by
  have hs : (catT [s]).length = s.size := by unfold catT; simp
  have h := put_any B b w.heap.size l [s] (w.alloc (.cells #[.string s] 9)) (hb.alloc _ _) (Blk.fresh w #[.string s] 9) (by have := hb.at; omega) (by rw [hs]; exact hlen) (by simp)
  have hc : catT [s] = s.data.toList := by unfold catT; simp
  rw [hc] at h
  exact h.mono fun _ _ ⟨he, h1, h2⟩ => ⟨he, h1, ((Fr.refl B b w).alloc hb.2 _ _).trans h2⟩

set_option maxRecDepth 100000 in
theorem putBetween_any (B b : Nat) (l : List UInt8) (i : Nat) (w : World) (hb : Bld B b l w) (hlen : l.length + 1 ≤ 140737488355328) (hi : i ≤ 4294967296) :
    Calls Tryz.prog 83 #[putV b, .int .i64 i] w fun e w' => e = .returned (.tuple #[]) ∧ Bld B b (l ++ if 0 < i then [32] else []) w' ∧ Fr B b w w' := by
  have HB := Lib.hid hb
  have P1 := Lib.hid (put1_any B b l ⟨#[32]⟩ w hb hlen)
  clear hb
  unfold putV
  by_cases h : 0 < i
  · have hi0 : (0 : Int) < (i : Int) := by omega
    rw [if_pos h]
    clear h
    go_enter Tryz.func83, Tryz.ntmps83
    go_wp2_with fail
    (with_reducible refine P1.out.mono ?_)
    rintro e w2 ⟨rfl, h1, h2⟩
    have H1 := Lib.hid h1
    have H2 := Lib.hid h2
    clear h1 h2
    go_wp2_with fail
    refine bodyPost_end (results_none rfl _ _ _) rfl ?_
    exact ⟨rfl, H1.out, H2.out⟩
  · have hi0 : ¬ (0 : Int) < (i : Int) := by omega
    rw [if_neg h, List.append_nil]
    clear h
    go_enter Tryz.func83, Tryz.ntmps83
    go_wp2_with fail
    refine bodyPost_end (results_none rfl _ _ _) rfl ?_
    exact ⟨rfl, HB.out, Fr.refl B b w⟩

theorem printL_le (f : Int) : (Fx.printL f).length ≤ 100 := by
  cases h : Fx.saneB f
  · rw [Fx.print_none h]; decide
  · exact Nat.le_trans (Fx.print_back h).2.2 (by decide)

/-- The library's tables lie below B. -/
def FB (B : Nat) (w : World) : Prop := Fine w ∧ 0 < B ∧ 1 < B

theorem FB.below {B : Nat} {w w' : World} (h : FB B w) (k : Below B w w') : FB B w' := by
  obtain ⟨⟨⟨m, hm⟩, ht⟩, h1, h2⟩ := h
  refine ⟨⟨⟨m, ?_⟩, ?_⟩, h1, h2⟩
  · rw [World.cell?_of_block (w := w) (a := ⟨0, 0, none⟩) (k.block _ h1)]; exact hm
  · unfold Lib.TabIs World.var? at *
    rw [show Tryz.prog.globalNamed "internal/strconv.uint64pow10" = some 1 by kernel_rfl] at *
    simp only [Option.bind_some] at *
    rw [k.block _ h2]; exact ht

theorem FB.kept {B : Nat} {w w' : World} (h : FB B w) (k : Kept w w') : FB B w' := ⟨h.1.kept k, h.2⟩

set_option maxRecDepth 100000 in
theorem numText_any (o : Ob) (h : Hd) (w : World) (hf : Fine w) :
    Calls Tryz.prog 50 #[objV o h] w fun e w' => e = .returned (.string ⟨(numT o.n o.f).toArray⟩) ∧ Kept w w' := by
  have HF := Lib.hid (fun w' (k : Kept w w') => Print_any o.f w' (hf.kept k))
  have HW := Lib.hid (isWholeW_any o.f)
  obtain ⟨p, c, q, e⟩ := h
  obtain ⟨V, hV⟩ : ∃ V, V = wholeF o.f := ⟨_, rfl⟩
  obtain ⟨L, hL⟩ : ∃ L, L = Fx.printL o.f := ⟨_, rfl⟩
  have HN := Lib.hid (show numT o.n o.f = L ++ (if o.n = 0 ∧ V = true then [46, 48] else []) by rw [hL, hV]; rfl)
  obtain ⟨R, hR⟩ : ∃ R, R = numT o.n o.f := ⟨_, rfl⟩
  rw [← hR] at HN ⊢
  rw [← hL] at HF
  rw [← hV] at HW
  have HI := Lib.hid (In.fresh (In.start w) #[.int .i64 o.k, .int .i64 o.n, .int .i64 o.f, .string o.s, .slice p o.l.length c, .slice q o.d.length e] 32)
  have K1 := Lib.hid (In.kW HI.out)
  have HLL := Lib.hid (show L.length ≤ 100 from by rw [hL]; exact printL_le o.f)
  clear hV hL hR hf
  unfold objV
  obtain ⟨k, n, f, s, l, d⟩ := o
  have HN := Lib.hid (show R = L ++ (if n = 0 ∧ V = true then [46, 48] else []) from HN.out)
  simp only [Ob.k, Ob.n, Ob.f, Ob.s, Ob.l, Ob.d] at HF HW HI K1 ⊢
  cases h0 : (n == 0)
  · have hn0 : n ≠ 0 := by simpa using h0
    have HA := Lib.hid (show R = L by rw [HN.out, if_neg (fun h => hn0 h.1), List.append_nil])
    clear hn0
    go_enter Tryz.func50, Tryz.ntmps50
    go_wp2_with fail
    (with_reducible refine (HF.out _ K1.out).mono ?_)
    rintro e' w2 ⟨rfl, hk2⟩
    have HI2 := Lib.hid (HI.out.kept hk2)
    have K2 := Lib.hid (In.kW HI2.out)
    obtain ⟨u0, u1, u2, u3, u4, u5⟩ := (HI2.out.mem List.mem_cons_self).cells6
    clear hk2
    go_wp2_with fail
    go_ret
    exact ⟨ret_str (by rw [HA.out]), K2.out⟩
  · have hn0 : n = 0 := by simpa using h0
    cases V
    · have HA := Lib.hid (show R = L by rw [HN.out, if_neg (fun h => by cases h.2), List.append_nil])
      clear hn0
      go_enter Tryz.func50, Tryz.ntmps50
      go_wp2_with fail
      (with_reducible refine (HF.out _ K1.out).mono ?_)
      rintro e' w2 ⟨rfl, hk2⟩
      have HI2 := Lib.hid (HI.out.kept hk2)
      have K2 := Lib.hid (In.kW HI2.out)
      obtain ⟨u0, u1, u2, u3, u4, u5⟩ := (HI2.out.mem List.mem_cons_self).cells6
      clear hk2
      go_wp2_with fail
      (with_reducible refine (HW.out _).mono ?_)
      rintro e' w3 ⟨rfl, hk3⟩
      have K3 := Lib.hid (K2.out.trans hk3)
      clear hk3
      go_wp2_with fail
      go_ret
      exact ⟨ret_str (by rw [HA.out]), K3.out⟩
    · have HA := Lib.hid (show R = L ++ [46, 48] by rw [HN.out, if_pos ⟨hn0, rfl⟩])
      have HC := Lib.hid (show (⟨L.toArray⟩ ++ ⟨#[46, 48]⟩ : ByteArray) = ⟨R.toArray⟩ by rw [HA.out]; apply ByteArray.ext; simp)
      have hLL := HLL.out
      clear hn0
      go_enter Tryz.func50, Tryz.ntmps50
      go_wp2_with fail
      (with_reducible refine (HF.out _ K1.out).mono ?_)
      rintro e' w2 ⟨rfl, hk2⟩
      have HI2 := Lib.hid (HI.out.kept hk2)
      have K2 := Lib.hid (In.kW HI2.out)
      obtain ⟨u0, u1, u2, u3, u4, u5⟩ := (HI2.out.mem List.mem_cons_self).cells6
      clear hk2
      go_wp2_with fail
      (with_reducible refine (HW.out _).mono ?_)
      rintro e' w3 ⟨rfl, hk3⟩
      have K3 := Lib.hid (K2.out.trans hk3)
      clear hk3
      go_wp2_with fail
      go_ret
      exact ⟨ret_str HC.out, K3.out⟩

end Go.Proofs.YtkpagahnmbchjaaGreatDoor

namespace Go.Proofs.YtkpagahnmbchjaaGreatDoor
open Go.RowKit Cx
set_option linter.unusedSimpArgs false
set_option linter.unusedVariables false

/-- What putObject puts of an object. -/
def PutC (x : Ob) : Prop :=
  ∀ (h : Hd) (B b : Nat) (acc : List UInt8) (w : World), Lies (Cel (fun k => k < B) w) x h → Bld B b acc w → FB B w → acc.length + x.text.length ≤ 140737488355328 →
    Calls Tryz.prog 40 #[putV b, objV x h] w fun e w' => e = .returned (.tuple #[]) ∧ Bld B b (acc ++ x.text) w' ∧ Fr B b w w'

theorem Bld.cast {B b : Nat} {l m : List UInt8} {w : World} (h : Bld B b l w) (e : l = m) : Bld B b m w := e ▸ h

set_option maxRecDepth 100000 in
set_option maxHeartbeats 4000000 in
theorem putArr_any (B b : Nat) (acc : List UInt8) (l : List Ob) (p : Option Addr) (c : Nat) (w : World) (hl : Lies (Cel (fun k => k < B) w) (.mk 5 0 0 ⟨#[]⟩ l []) ⟨p, c, none, 0⟩) (IH : ∀ z ∈ l, PutC z) (hb : Bld B b acc w) (hf : FB B w) (hll : l.length ≤ 4294967296)
    (hlen : acc.length + (91 :: (textL false l ++ [93])).length ≤ 140737488355328) :
    Calls Tryz.prog 55 #[putV b, .slice p l.length c] w fun e w' => e = .returned (.tuple #[]) ∧ Bld B b (acc ++ 91 :: (textL false l ++ [93])) w' ∧ Fr B b w w' := by
  have HL := Lib.hid hl
  have HI := Lib.hid IH
  have HB := Lib.hid hb
  have HF := Lib.hid hf
  have HN := Lib.hid (show acc.length + (textL false l).length + 2 ≤ 140737488355328 by rw [List.length_cons, List.length_append] at hlen; simp at hlen; omega)
  have P0 := Lib.hid (put1_any B b acc ⟨#[91]⟩ w hb (by have := HN.out; show acc.length + 1 ≤ _; omega))
  clear hl IH hb hf hlen
  unfold putV
  go_enter Tryz.func55, Tryz.ntmps55
  go_wp2_with fail
  (with_reducible refine P0.out.mono ?_)
  rintro e w1 ⟨rfl, hb1, hr1⟩
  have HB1 := Lib.hid (show Bld B b (acc ++ [91]) w1 from hb1)
  have HR1 := Lib.hid hr1
  clear hb1 hr1 P0
  go_wp2_with fail
  go_loopg [11] (l.length) (fun m i wr => ∃ (j : Nat) (T : List UInt8), m = l.length - j ∧ j ≤ l.length ∧ i = .int .i64 j ∧ Bld B b (acc ++ [91] ++ T) wr ∧ Fr B b w wr ∧ Hid (T ++ textL (decide (0 < j)) (l.drop j) = textL false l))
  case atStart => exact ⟨0, [], by omega, Nat.zero_le _, rfl, by rw [List.append_nil]; exact HB1.out, HR1.out, Lib.hid rfl⟩
  case round =>
    obtain ⟨j, T, hm, hj, rfl, hbr, hfr, HS⟩ := hrel
    have HBR := Lib.hid hbr
    have HFR := Lib.hid hfr
    clear hbr hfr HB1 HR1
    by_cases hlt : j < l.length
    · obtain ⟨x, bb, off, ⟨p', c', q', e'⟩, hxe, hp, hP, hbl, hx, y0, y1, y2, y3, y4, y5⟩ := (HFR.out.lies HL.out).elem j hlt
      simp only [Ob.l] at hxe
      simp only [] at hp y4 y5
      subst hp
      have hmem := List.getElem_mem hlt
      rw [hxe] at hmem
      have HST := Lib.hid (show (T ++ (if 0 < j then [32] else []) ++ x.text) ++ textL (decide (0 < j + 1)) (l.drop (j + 1)) = textL false l by
        rw [← HS.out, textL_step l j hlt, hxe]; simp only [List.append_assoc])
      have HSL := Lib.hid (show T.length + (if 0 < j then [32] else [] : List UInt8).length + x.text.length ≤ (textL false l).length by
        have := congrArg List.length HST.out
        simp only [List.length_append] at this ⊢; omega)
      have B1 := Lib.hid (HBR.out.alloc #[.int .i64 x.k, .int .i64 x.n, .int .i64 x.f, .string x.s, .slice p' x.l.length c', .slice q' x.d.length e'] 32)
      have F1 := Lib.hid (HFR.out.alloc HBR.out.2 #[.int .i64 x.k, .int .i64 x.n, .int .i64 x.f, .string x.s, .slice p' x.l.length c', .slice q' x.d.length e'] 32)
      have BK := Lib.hid (Blk.fresh wr #[.int .i64 x.k, .int .i64 x.n, .int .i64 x.f, .string x.s, .slice p' x.l.length c', .slice q' x.d.length e'] 32)
      have LX := Lib.hid (((show Fr B b wr (wr.alloc (.cells #[.int .i64 x.k, .int .i64 x.n, .int .i64 x.f, .string x.s, .slice p' x.l.length c', .slice q' x.d.length e'] 32)) from (Fr.refl B b wr).alloc HBR.out.2 #[.int .i64 x.k, .int .i64 x.n, .int .i64 x.f, .string x.s, .slice p' x.l.length c', .slice q' x.d.length e'] 32)).lies hx)
      have PB := Lib.hid (putBetween_any B b (acc ++ [91] ++ T) j _ B1.out (by have := HN.out; have := HSL.out; simp only [List.length_append, List.length_cons, List.length_nil]; omega) (by omega))
      have IX := Lib.hid (HI.out x hmem ⟨p', c', q', e'⟩ B b)
      have hne := (show wr.heap.size ≠ b by have := HBR.out.at; omega)
      have HNE := Lib.hid hne
      clear hx hmem hxe hP hne
      unfold putV at PB
      go_wp2_with fail
      (with_reducible refine PB.out.mono ?_)
      rintro e w3 ⟨rfl, hb3, hf3⟩
      have B3 := Lib.hid hb3
      have F3 := Lib.hid (F1.out.trans hf3)
      have L3 := Lib.hid (hf3.lies LX.out)
      obtain ⟨u0, u1, u2, u3, u4, u5⟩ := (hf3.blk BK.out HNE.out (by decide)).cells6
      have IY := Lib.hid (IX.out _ w3 L3.out B3.out (HF.out.below F3.out.1) (by have := HN.out; have := HSL.out; simp only [List.length_append, List.length_cons, List.length_nil]; omega))
      clear hb3 hf3 y0 y1 y2 y3 y4 y5
      unfold putV objV at IY
      simp only [] at IY
      go_wp2_with fail
      (with_reducible refine IY.out.mono ?_)
      rintro e w4 ⟨rfl, hb4, hf4⟩
      have B4 := Lib.hid (hb4.cast (show _ = acc ++ [91] ++ (T ++ (if 0 < j then [32] else []) ++ x.text) by simp only [List.append_assoc]))
      have F4 := Lib.hid (F3.out.trans hf4)
      clear hb4 hf4 u0 u1 u2 u3 u4 u5
      go_wp2_with fail
      go_roundg (l.length - (j + 1))
      case measure => omega
      case rel => exact ⟨j + 1, _, rfl, by omega, by go_num, B4.out, F4.out, HST⟩
    · obtain rfl : j = l.length := by omega
      have HT := Lib.hid (show T = textL false l by have := HS.out; rwa [List.drop_eq_nil_of_le (Nat.le_refl _), textL_nil, List.append_nil] at this)
      have P1 := Lib.hid (put1_any B b _ ⟨#[93]⟩ wr HBR.out (by have := HN.out; rw [HT.out]; simp only [List.length_append, List.length_cons, List.length_nil]; show _ + 1 ≤ _; omega))
      go_wp2_with fail
      (with_reducible refine P1.out.mono ?_)
      rintro e w5 ⟨rfl, hb5, hf5⟩
      have B5 := Lib.hid (hb5.cast (show _ = acc ++ 91 :: (textL false l ++ [93]) by rw [HT.out]; simp))
      have F5 := Lib.hid (HFR.out.trans hf5)
      clear hb5 hf5
      go_wp2_with fail
      refine bodyPost_end (results_none rfl _ _ _) rfl ?_
      exact ⟨rfl, B5.out, F5.out⟩

theorem putL_any (B b : Nat) (l : List UInt8) (ss : List ByteArray) (w : World) (hb : Bld B b l w) (hlen : l.length + (catT ss).length ≤ 140737488355328) (hss : ss.length ≤ 1000) :
    Calls Tryz.prog 48 #[.slice (some ⟨w.heap.size, 0, none⟩) ss.length ss.length, .pointer (some ⟨b, 0, none⟩)] (w.alloc (.cells (ss.map Value.string).toArray 9)) fun e w' => e = .returned (.tuple #[]) ∧ Bld B b (l ++ catT ss) w' ∧ Fr B b w w' :=
  (put_any B b w.heap.size l ss _ (hb.alloc _ _) (Blk.fresh w _ 9) (by have := hb.at; omega) hlen hss).mono fun _ _ ⟨he, h1, h2⟩ => ⟨he, h1, ((Fr.refl B b w).alloc hb.2 _ _).trans h2⟩
theorem put2_any (B b : Nat) (l : List UInt8) (s1 s2 : ByteArray) (w : World) (hb : Bld B b l w) (hlen : l.length + (s1.size + s2.size) ≤ 140737488355328) :
    Calls Tryz.prog 48 #[.slice (some ⟨w.heap.size, 0, none⟩) 2 2, .pointer (some ⟨b, 0, none⟩)] (w.alloc (.cells #[.string s1, .string s2] 9)) fun e w' => e = .returned (.tuple #[]) ∧ Bld B b (l ++ (s1.data.toList ++ s2.data.toList)) w' ∧ Fr B b w w' := by
  have hc : catT [s1, s2] = s1.data.toList ++ s2.data.toList := by unfold catT; simp
  have h := putL_any B b l [s1, s2] w hb (by rw [hc, List.length_append, Array.length_toList, Array.length_toList]; exact hlen) (by simp)
  rw [hc] at h
  exact h
theorem Blk.cells7w {w : World} {b : Nat} {v0 v1 v2 v3 v4 v5 v6 : Value} {t : TypeId} (h : Blk w b #[v0, v1, v2, v3, v4, v5, v6] t) : w.cell? ⟨b, 0, none⟩ = some v0 ∧ w.cell? ⟨b, 1, none⟩ = some v1 ∧ w.cell? ⟨b, 2, none⟩ = some v2 ∧ w.cell? ⟨b, 3, none⟩ = some v3 ∧ w.cell? ⟨b, 4, none⟩ = some v4 ∧ w.cell? ⟨b, 5, none⟩ = some v5 ∧ w.cell? ⟨b, 6, none⟩ = some v6 :=
  ⟨h.cell 0, h.cell 1, h.cell 2, h.cell 3, h.cell 4, h.cell 5, h.cell 6⟩

set_option maxRecDepth 100000 in
set_option maxHeartbeats 4000000 in
theorem putDict_any (B b : Nat) (acc : List UInt8) (l : List Entr) (q : Option Addr) (c : Nat) (w : World) (hl : Lies (Cel (fun k => k < B) w) (.mk 6 0 0 ⟨#[]⟩ [] l) ⟨none, 0, q, c⟩) (IH : ∀ z ∈ l, PutC z.2) (hb : Bld B b acc w) (hf : FB B w) (hll : l.length ≤ 4294967296) (hkk : ∀ z ∈ l, z.1.size ≤ 4294967296)
    (hlen : acc.length + ([60, 60] ++ textD false l ++ [62, 62]).length ≤ 140737488355328) :
    Calls Tryz.prog 56 #[putV b, .slice q l.length c] w fun e w' => e = .returned (.tuple #[]) ∧ Bld B b (acc ++ ([60, 60] ++ textD false l ++ [62, 62])) w' ∧ Fr B b w w' := by
  have HL := Lib.hid hl
  have HI := Lib.hid IH
  have HB := Lib.hid hb
  have HF := Lib.hid hf
  have HKK := Lib.hid hkk
  have HN := Lib.hid (show acc.length + (textD false l).length + 4 ≤ 140737488355328 by simp only [List.length_append, List.length_cons, List.length_nil] at hlen; omega)
  have P0 := Lib.hid (put1_any B b acc ⟨#[60, 60]⟩ w hb (by have := HN.out; show acc.length + 2 ≤ _; omega))
  clear hl IH hb hf hlen hkk
  unfold putV
  go_enter Tryz.func56, Tryz.ntmps56
  go_wp2_with fail
  (with_reducible refine P0.out.mono ?_)
  rintro e w1 ⟨rfl, hb1, hr1⟩
  have HB1 := Lib.hid (show Bld B b (acc ++ [60, 60]) w1 from hb1)
  have HR1 := Lib.hid hr1
  clear hb1 hr1 P0
  go_wp2_with fail
  go_loopg [11] (l.length) (fun m i wr => ∃ (j : Nat) (T : List UInt8), m = l.length - j ∧ j ≤ l.length ∧ i = .int .i64 j ∧ Bld B b (acc ++ [60, 60] ++ T) wr ∧ Fr B b w wr ∧ Hid (T ++ textD (decide (0 < j)) (l.drop j) = textD false l))
  case atStart => exact ⟨0, [], by omega, Nat.zero_le _, rfl, by rw [List.append_nil]; exact HB1.out, HR1.out, Lib.hid rfl⟩
  case round =>
    obtain ⟨j, T, hm, hj, rfl, hbr, hfr, HS⟩ := hrel
    have HBR := Lib.hid hbr
    have HFR := Lib.hid hfr
    clear hbr hfr HB1 HR1
    by_cases hlt : j < l.length
    · obtain ⟨ek, x, bb, off, ⟨p', c', q', e'⟩, hxe, hp, hP, hbl, hx, -, z0, y0, y1, y2, y3, y4, y5⟩ := (HFR.out.lies HL.out).entry j hlt
      simp only [Ob.d] at hxe
      simp only [] at hp y4 y5
      subst hp
      have hmem := List.getElem_mem hlt
      rw [hxe] at hmem
      obtain ⟨NM, hNM⟩ : ∃ NM, NM = Lx.nameV ek.data.toList := ⟨_, rfl⟩
      have HST := Lib.hid (show (T ++ (if 0 < j then [32] else []) ++ (NM ++ [32]) ++ x.text) ++ textD (decide (0 < j + 1)) (l.drop (j + 1)) = textD false l by
        rw [← HS.out, textD_step l j hlt, hxe, hNM]; simp only [List.append_assoc])
      have HSL := Lib.hid (show T.length + (if 0 < j then [32] else [] : List UInt8).length + (NM.length + 1) + x.text.length ≤ (textD false l).length by
        have := congrArg List.length HST.out
        simp only [List.length_append, List.length_cons, List.length_nil] at this ⊢; omega)
      have HNO := Lib.hid (fun w' => NameOf_any ek w' (HKK.out (ek, x) hmem))
      rw [← hNM] at HNO
      have B1 := Lib.hid (HBR.out.alloc #[.string ek, .int .i64 x.k, .int .i64 x.n, .int .i64 x.f, .string x.s, .slice p' x.l.length c', .slice q' x.d.length e'] 50)
      have F1 := Lib.hid (HFR.out.alloc HBR.out.2 #[.string ek, .int .i64 x.k, .int .i64 x.n, .int .i64 x.f, .string x.s, .slice p' x.l.length c', .slice q' x.d.length e'] 50)
      have BK := Lib.hid (Blk.fresh wr #[.string ek, .int .i64 x.k, .int .i64 x.n, .int .i64 x.f, .string x.s, .slice p' x.l.length c', .slice q' x.d.length e'] 50)
      have LX := Lib.hid (((show Fr B b wr (wr.alloc (.cells #[.string ek, .int .i64 x.k, .int .i64 x.n, .int .i64 x.f, .string x.s, .slice p' x.l.length c', .slice q' x.d.length e'] 50)) from (Fr.refl B b wr).alloc HBR.out.2 #[.string ek, .int .i64 x.k, .int .i64 x.n, .int .i64 x.f, .string x.s, .slice p' x.l.length c', .slice q' x.d.length e'] 50)).lies hx)
      have PB := Lib.hid (putBetween_any B b (acc ++ [60, 60] ++ T) j _ B1.out (by have := HN.out; have := HSL.out; simp only [List.length_append, List.length_cons, List.length_nil]; omega) (by omega))
      have IX := Lib.hid (HI.out (ek, x) hmem ⟨p', c', q', e'⟩ B b)
      have hne := (show wr.heap.size ≠ b by have := HBR.out.at; omega)
      have HNE := Lib.hid hne
      clear hx hmem hxe hP hne hNM
      unfold putV at PB
      go_wp2_with fail
      (with_reducible refine PB.out.mono ?_)
      rintro e w3 ⟨rfl, hb3, hf3⟩
      have B3 := Lib.hid hb3
      have F3 := Lib.hid (F1.out.trans hf3)
      have L3 := Lib.hid (hf3.lies LX.out)
      have BK3 := Lib.hid (hf3.blk BK.out HNE.out (by decide))
      obtain ⟨k0, u0, u1, u2, u3, u4, u5⟩ := BK3.out.cells7w
      clear hb3 hf3 z0 y0 y1 y2 y3 y4 y5
      go_wp2_with fail
      (with_reducible refine (HNO.out _).mono ?_)
      rintro e w4 ⟨rfl, hk4⟩
      have B4 := Lib.hid (B3.out.kept hk4)
      have FK := (Fr.refl B b w3).kept hk4 B3.out.2
      have F4 := Lib.hid (F3.out.trans FK)
      have L4 := Lib.hid (FK.lies L3.out)
      have BK4 := Lib.hid (BK3.out.kept hk4)
      have P2 := Lib.hid (put2_any B b _ ⟨NM.toArray⟩ ⟨#[32]⟩ w4 B4.out (by
        have := HN.out; have := HSL.out
        simp only [List.length_append, List.length_cons, List.length_nil]
        show _ + (NM.toArray.size + 1) ≤ _
        rw [List.size_toArray]; omega))
      clear hk4 FK k0 u0 u1 u2 u3 u4 u5
      go_wp2_with fail
      (with_reducible refine P2.out.mono ?_)
      rintro e w5 ⟨rfl, hb5, hf5⟩
      have B5 := Lib.hid (hb5.cast (show _ = acc ++ [60, 60] ++ (T ++ (if 0 < j then [32] else []) ++ (NM ++ [32])) by simp only [List.append_assoc]))
      have F5 := Lib.hid (F4.out.trans hf5)
      have L5 := Lib.hid (hf5.lies L4.out)
      obtain ⟨k0, u0, u1, u2, u3, u4, u5⟩ := (hf5.blk BK4.out HNE.out (by decide)).cells7w
      have IY := Lib.hid (IX.out _ w5 L5.out B5.out (HF.out.below F5.out.1) (by have := HN.out; have := HSL.out; simp only [List.length_append, List.length_cons, List.length_nil]; omega))
      clear hb5 hf5
      unfold putV objV at IY
      simp only [] at IY
      go_wp2_with fail
      (with_reducible refine IY.out.mono ?_)
      rintro e w6 ⟨rfl, hb6, hf6⟩
      have B6 := Lib.hid (hb6.cast (show _ = acc ++ [60, 60] ++ (T ++ (if 0 < j then [32] else []) ++ (NM ++ [32]) ++ x.text) by simp only [List.append_assoc]))
      have F6 := Lib.hid (F5.out.trans hf6)
      clear hb6 hf6 k0 u0 u1 u2 u3 u4 u5
      go_wp2_with fail
      go_roundg (l.length - (j + 1))
      case measure => omega
      case rel => exact ⟨j + 1, _, rfl, by omega, by go_num, B6.out, F6.out, HST⟩
    · obtain rfl : j = l.length := by omega
      have HT := Lib.hid (show T = textD false l by have := HS.out; rwa [List.drop_eq_nil_of_le (Nat.le_refl _), textD_nil, List.append_nil] at this)
      have P1 := Lib.hid (put1_any B b _ ⟨#[62, 62]⟩ wr HBR.out (by have := HN.out; rw [HT.out]; simp only [List.length_append, List.length_cons, List.length_nil]; show _ + 2 ≤ _; omega))
      go_wp2_with fail
      (with_reducible refine P1.out.mono ?_)
      rintro e w5 ⟨rfl, hb5, hf5⟩
      have B5 := Lib.hid (hb5.cast (show _ = acc ++ ([60, 60] ++ textD false l ++ [62, 62]) by rw [HT.out]; simp))
      have F5 := Lib.hid (HFR.out.trans hf5)
      clear hb5 hf5
      go_wp2_with fail
      refine bodyPost_end (results_none rfl _ _ _) rfl ?_
      exact ⟨rfl, B5.out, F5.out⟩

end Go.Proofs.YtkpagahnmbchjaaGreatDoor

namespace Go.Proofs.YtkpagahnmbchjaaGreatDoor
open Go.RowKit Cx
set_option linter.unusedSimpArgs false
set_option linter.unusedVariables false

theorem put1_at (B b N : Nat) (l : List UInt8) (s : ByteArray) (w : World) (hN : N = w.heap.size) (hb : Bld B b l w) (hlen : l.length + s.size ≤ 140737488355328) :
    Calls Tryz.prog 48 #[.slice (some ⟨N, 0, none⟩) 1 1, .pointer (some ⟨b, 0, none⟩)] (w.alloc (.cells #[.string s] 9)) fun e w' => e = .returned (.tuple #[]) ∧ Bld B b (l ++ s.data.toList) w' ∧ Fr B b w w' := by
  subst hN
  exact put1_any B b l s w hb hlen

theorem put3_any (B b : Nat) (l : List UInt8) (s1 s2 s3 : ByteArray) (w : World) (hb : Bld B b l w) (hlen : l.length + (s1.size + s2.size + s3.size) ≤ 140737488355328) :
    Calls Tryz.prog 48 #[.slice (some ⟨w.heap.size, 0, none⟩) 3 3, .pointer (some ⟨b, 0, none⟩)] (w.alloc (.cells #[.string s1, .string s2, .string s3] 9)) fun e w' => e = .returned (.tuple #[]) ∧ Bld B b (l ++ (s1.data.toList ++ s2.data.toList ++ s3.data.toList)) w' ∧ Fr B b w w' := by
  have hc : catT [s1, s2, s3] = s1.data.toList ++ s2.data.toList ++ s3.data.toList := by unfold catT; simp
  have h := putL_any B b l [s1, s2, s3] w hb (by rw [hc, List.length_append, List.length_append, Array.length_toList, Array.length_toList, Array.length_toList]; exact hlen) (by simp)
  rw [hc] at h
  exact h

theorem put4_any (B b : Nat) (l : List UInt8) (s1 s2 s3 s4 : ByteArray) (w : World) (hb : Bld B b l w) (hlen : l.length + (s1.size + s2.size + s3.size + s4.size) ≤ 140737488355328) :
    Calls Tryz.prog 48 #[.slice (some ⟨w.heap.size, 0, none⟩) 4 4, .pointer (some ⟨b, 0, none⟩)] (w.alloc (.cells #[.string s1, .string s2, .string s3, .string s4] 9)) fun e w' => e = .returned (.tuple #[]) ∧ Bld B b (l ++ (s1.data.toList ++ s2.data.toList ++ s3.data.toList ++ s4.data.toList)) w' ∧ Fr B b w w' := by
  have hc : catT [s1, s2, s3, s4] = s1.data.toList ++ s2.data.toList ++ s3.data.toList ++ s4.data.toList := by unfold catT; simp
  have h := putL_any B b l [s1, s2, s3, s4] w hb (by rw [hc, List.length_append, List.length_append, List.length_append, Array.length_toList, Array.length_toList, Array.length_toList, Array.length_toList]; exact hlen) (by simp)
  rw [hc] at h
  exact h

theorem formatBool_text (n : Int) : Lib.formatBool (n == 1) = if n = 1 then trueT else falseT := by
  by_cases h : n = 1
  · rw [if_pos h, h]; rfl
  · rw [if_neg h, show (n == 1) = false by rw [beq_eq_false_iff_ne]; exact h]; rfl

set_option maxRecDepth 100000 in
set_option maxHeartbeats 4000000 in
theorem putK_0 (n f : Int) (s : ByteArray) (l : List Ob) (d : List Entr) : PutC (.mk 0 n f s l d) := by
  rintro ⟨p, c, q, ec⟩ B b acc w hl hb hf hlen
  rw [show (Ob.mk 0 n f s l d).text = nullT by rw [text_mk]; simp] at hlen ⊢
  have B1 := Lib.hid (hb.alloc #[.int .i64 0, .int .i64 n, .int .i64 f, .string s, .slice p l.length c, .slice q d.length ec] 32)
  have F1 := Lib.hid ((Fr.refl B b w).alloc hb.2 #[.int .i64 0, .int .i64 n, .int .i64 f, .string s, .slice p l.length c, .slice q d.length ec] 32)
  have P1 := Lib.hid (put1_at B b (w.heap.size + 1) acc ⟨#[110, 117, 108, 108]⟩ _ (Array.size_push _).symm B1.out hlen)
  clear hl hb hf hlen
  unfold putV objV
  simp only [Ob.k, Ob.n, Ob.f, Ob.s, Ob.l, Ob.d]
  go_enter Tryz.func40, Tryz.ntmps40
  go_wp2_with fail
  (with_reducible refine P1.out.mono ?_)
  rintro e w2 ⟨rfl, hb2, hf2⟩
  have B2 := Lib.hid (hb2.cast (show _ = acc ++ nullT from rfl))
  have F2 := Lib.hid (F1.out.trans hf2)
  clear hb2 hf2
  go_wp2_with fail
  refine bodyPost_end (results_none rfl _ _ _) rfl ?_
  exact ⟨rfl, B2.out, F2.out⟩

set_option maxRecDepth 100000 in
set_option maxHeartbeats 4000000 in
theorem putK_1 (n f : Int) (s : ByteArray) (l : List Ob) (d : List Entr) : PutC (.mk 1 n f s l d) := by
  rintro ⟨p, c, q, ec⟩ B b acc w hl hb hf hlen
  rw [show (Ob.mk 1 n f s l d).text = (if n = 1 then trueT else falseT) by rw [text_mk]; simp] at hlen ⊢
  have B1 := Lib.hid (hb.alloc #[.int .i64 1, .int .i64 n, .int .i64 f, .string s, .slice p l.length c, .slice q d.length ec] 32)
  have F1 := Lib.hid ((Fr.refl B b w).alloc hb.2 #[.int .i64 1, .int .i64 n, .int .i64 f, .string s, .slice p l.length c, .slice q d.length ec] 32)
  obtain ⟨T, hT⟩ : ∃ T, T = Lib.formatBool (n == 1) := ⟨_, rfl⟩
  rw [← formatBool_text n, ← hT] at hlen ⊢
  have HFB := Lib.hid (fun w' => Tryz.strconv_FormatBool (n == 1) w')
  rw [← hT] at HFB
  have P1 := Lib.hid (put1_at B b (w.heap.size + 1) acc ⟨T.toArray⟩ _ (Array.size_push _).symm B1.out (by show acc.length + T.toArray.size ≤ _; rw [List.size_toArray]; exact hlen))
  clear hl hb hf hlen hT
  unfold putV objV
  simp only [Ob.k, Ob.n, Ob.f, Ob.s, Ob.l, Ob.d]
  go_enter Tryz.func40, Tryz.ntmps40
  go_wp2_with fail
  (with_reducible refine (HFB.out _).mono ?_)
  rintro e w2 ⟨rfl, rfl⟩
  go_wp2_with fail
  (with_reducible refine P1.out.mono ?_)
  rintro e w3 ⟨rfl, hb3, hf3⟩
  have B3 := Lib.hid (hb3.cast (show _ = acc ++ T from rfl))
  have F3 := Lib.hid (F1.out.trans hf3)
  clear hb3 hf3
  go_wp2_with fail
  refine bodyPost_end (results_none rfl _ _ _) rfl ?_
  exact ⟨rfl, B3.out, F3.out⟩

set_option maxRecDepth 100000 in
set_option maxHeartbeats 4000000 in
theorem putK_2 (n f : Int) (s : ByteArray) (l : List Ob) (d : List Entr) : PutC (.mk 2 n f s l d) := by
  rintro ⟨p, c, q, ec⟩ B b acc w hl hb hf hlen
  rw [show (Ob.mk 2 n f s l d).text = numT n f by rw [text_mk]; simp] at hlen ⊢
  have B1 := Lib.hid (hb.alloc #[.int .i64 2, .int .i64 n, .int .i64 f, .string s, .slice p l.length c, .slice q d.length ec] 32)
  have F1 := Lib.hid ((Fr.refl B b w).alloc hb.2 #[.int .i64 2, .int .i64 n, .int .i64 f, .string s, .slice p l.length c, .slice q d.length ec] 32)
  have HNT := Lib.hid (numText_any (.mk 2 n f s l d) ⟨p, c, q, ec⟩ _ (hf.below F1.out.1).1)
  obtain ⟨T, hT⟩ : ∃ T, T = numT n f := ⟨_, rfl⟩
  have HNT := Lib.hid (show Calls Tryz.prog 50 #[objV (.mk 2 n f s l d) ⟨p, c, q, ec⟩] _ (fun e w' => e = .returned (.string ⟨T.toArray⟩) ∧ Kept _ w') by rw [hT]; exact HNT.out)
  rw [← hT] at hlen ⊢
  have HN := Lib.hid hlen
  clear hl hb hf hlen hT
  unfold objV at HNT
  simp only [Ob.k, Ob.n, Ob.f, Ob.s, Ob.l, Ob.d] at HNT
  unfold putV objV
  simp only [Ob.k, Ob.n, Ob.f, Ob.s, Ob.l, Ob.d]
  go_enter Tryz.func40, Tryz.ntmps40
  go_wp2_with fail
  (with_reducible refine HNT.out.mono ?_)
  rintro e w2 ⟨rfl, hk⟩
  have B2 := Lib.hid (B1.out.kept hk)
  have F2 := Lib.hid (F1.out.kept hk B1.out.2)
  have P2 := Lib.hid (put1_any B b acc ⟨T.toArray⟩ w2 B2.out (by have := HN.out; show acc.length + T.toArray.size ≤ _; rw [List.size_toArray]; exact this))
  clear hk
  go_wp2_with fail
  (with_reducible refine P2.out.mono ?_)
  rintro e w3 ⟨rfl, hb3, hf3⟩
  have B3 := Lib.hid (hb3.cast (show _ = acc ++ T from rfl))
  have F3 := Lib.hid (F2.out.trans hf3)
  clear hb3 hf3
  go_wp2_with fail
  refine bodyPost_end (results_none rfl _ _ _) rfl ?_
  exact ⟨rfl, B3.out, F3.out⟩

set_option maxRecDepth 100000 in
set_option maxHeartbeats 4000000 in
theorem putK_3 (n f : Int) (s : ByteArray) (l : List Ob) (d : List Entr) (hs : s.size ≤ 4294967296) : PutC (.mk 3 n f s l d) := by
  rintro ⟨p, c, q, ec⟩ B b acc w hl hb hf hlen
  rw [show (Ob.mk 3 n f s l d).text = Lx.nameV s.data.toList by rw [text_mk]; simp] at hlen ⊢
  have B1 := Lib.hid (hb.alloc #[.int .i64 3, .int .i64 n, .int .i64 f, .string s, .slice p l.length c, .slice q d.length ec] 32)
  have F1 := Lib.hid ((Fr.refl B b w).alloc hb.2 #[.int .i64 3, .int .i64 n, .int .i64 f, .string s, .slice p l.length c, .slice q d.length ec] 32)
  have HNT := Lib.hid (fun w' => NameOf_any s w' hs)
  obtain ⟨T, hT⟩ : ∃ T, T = Lx.nameV s.data.toList := ⟨_, rfl⟩
  rw [← hT] at hlen HNT ⊢
  have HN := Lib.hid hlen
  clear hl hb hf hlen hT
  unfold putV objV
  simp only [Ob.k, Ob.n, Ob.f, Ob.s, Ob.l, Ob.d]
  go_enter Tryz.func40, Tryz.ntmps40
  go_wp2_with fail
  (with_reducible refine (HNT.out _).mono ?_)
  rintro e w2 ⟨rfl, hk⟩
  have B2 := Lib.hid (B1.out.kept hk)
  have F2 := Lib.hid (F1.out.kept hk B1.out.2)
  have P2 := Lib.hid (put1_any B b acc ⟨T.toArray⟩ w2 B2.out (by have := HN.out; show acc.length + T.toArray.size ≤ _; rw [List.size_toArray]; exact this))
  clear hk
  go_wp2_with fail
  (with_reducible refine P2.out.mono ?_)
  rintro e w3 ⟨rfl, hb3, hf3⟩
  have B3 := Lib.hid (hb3.cast (show _ = acc ++ T from rfl))
  have F3 := Lib.hid (F2.out.trans hf3)
  clear hb3 hf3
  go_wp2_with fail
  refine bodyPost_end (results_none rfl _ _ _) rfl ?_
  exact ⟨rfl, B3.out, F3.out⟩

set_option maxRecDepth 100000 in
set_option maxHeartbeats 4000000 in
theorem putK_4 (n f : Int) (s : ByteArray) (l : List Ob) (d : List Entr) (hs : s.size ≤ 4294967296) : PutC (.mk 4 n f s l d) := by
  rintro ⟨p, c, q, ec⟩ B b acc w hl hb hf hlen
  rw [show (Ob.mk 4 n f s l d).text = Lx.quoteV s.data.toList by rw [text_mk]; simp] at hlen ⊢
  have B1 := Lib.hid (hb.alloc #[.int .i64 4, .int .i64 n, .int .i64 f, .string s, .slice p l.length c, .slice q d.length ec] 32)
  have F1 := Lib.hid ((Fr.refl B b w).alloc hb.2 #[.int .i64 4, .int .i64 n, .int .i64 f, .string s, .slice p l.length c, .slice q d.length ec] 32)
  have HNT := Lib.hid (fun w' => Quote_any s w' hs)
  obtain ⟨T, hT⟩ : ∃ T, T = Lx.quoteV s.data.toList := ⟨_, rfl⟩
  rw [← hT] at hlen HNT ⊢
  have HN := Lib.hid hlen
  clear hl hb hf hlen hT
  unfold putV objV
  simp only [Ob.k, Ob.n, Ob.f, Ob.s, Ob.l, Ob.d]
  go_enter Tryz.func40, Tryz.ntmps40
  go_wp2_with fail
  (with_reducible refine (HNT.out _).mono ?_)
  rintro e w2 ⟨rfl, hk⟩
  have B2 := Lib.hid (B1.out.kept hk)
  have F2 := Lib.hid (F1.out.kept hk B1.out.2)
  have P2 := Lib.hid (put1_any B b acc ⟨T.toArray⟩ w2 B2.out (by have := HN.out; show acc.length + T.toArray.size ≤ _; rw [List.size_toArray]; exact this))
  clear hk
  go_wp2_with fail
  (with_reducible refine P2.out.mono ?_)
  rintro e w3 ⟨rfl, hb3, hf3⟩
  have B3 := Lib.hid (hb3.cast (show _ = acc ++ T from rfl))
  have F3 := Lib.hid (F2.out.trans hf3)
  clear hb3 hf3
  go_wp2_with fail
  refine bodyPost_end (results_none rfl _ _ _) rfl ?_
  exact ⟨rfl, B3.out, F3.out⟩

set_option maxRecDepth 100000 in
set_option maxHeartbeats 4000000 in
theorem putK_5 (n f : Int) (s : ByteArray) (l : List Ob) (d : List Entr) (IH : ∀ z ∈ l, PutC z) (hll : l.length ≤ 4294967296) : PutC (.mk 5 n f s l d) := by
  rintro ⟨p, c, q, ec⟩ B b acc w hl hb hf hlen
  rw [show (Ob.mk 5 n f s l d).text = 91 :: (textL false l ++ [93]) by rw [text_mk]; simp] at hlen ⊢
  have B1 := Lib.hid (hb.alloc #[.int .i64 5, .int .i64 n, .int .i64 f, .string s, .slice p l.length c, .slice q d.length ec] 32)
  have F1 := Lib.hid ((Fr.refl B b w).alloc hb.2 #[.int .i64 5, .int .i64 n, .int .i64 f, .string s, .slice p l.length c, .slice q d.length ec] 32)
  have PA := Lib.hid (putArr_any B b acc l p c _ (F1.out.lies hl).rowL IH B1.out (hf.below F1.out.1) hll hlen)
  obtain ⟨T, hT⟩ : ∃ T, T = 91 :: (textL false l ++ [93]) := ⟨_, rfl⟩
  rw [← hT] at PA ⊢
  clear hl hb hf hlen hT IH hll
  unfold putV at PA
  unfold putV objV
  simp only [Ob.k, Ob.n, Ob.f, Ob.s, Ob.l, Ob.d]
  go_enter Tryz.func40, Tryz.ntmps40
  go_wp2_with fail
  (with_reducible refine PA.out.mono ?_)
  rintro e w2 ⟨rfl, hb2, hf2⟩
  have B2 := Lib.hid (hb2)
  have F2 := Lib.hid (F1.out.trans hf2)
  clear hb2 hf2
  go_wp2_with fail
  refine bodyPost_end (results_none rfl _ _ _) rfl ?_
  exact ⟨rfl, B2.out, F2.out⟩

set_option maxRecDepth 100000 in
set_option maxHeartbeats 4000000 in
theorem putK_6 (n f : Int) (s : ByteArray) (l : List Ob) (d : List Entr) (IH : ∀ z ∈ d, PutC z.2) (hll : d.length ≤ 4294967296) (hkk : ∀ z ∈ d, z.1.size ≤ 4294967296) : PutC (.mk 6 n f s l d) := by
  rintro ⟨p, c, q, ec⟩ B b acc w hl hb hf hlen
  rw [show (Ob.mk 6 n f s l d).text = [60, 60] ++ textD false d ++ [62, 62] by rw [text_mk]; simp] at hlen ⊢
  have B1 := Lib.hid (hb.alloc #[.int .i64 6, .int .i64 n, .int .i64 f, .string s, .slice p l.length c, .slice q d.length ec] 32)
  have F1 := Lib.hid ((Fr.refl B b w).alloc hb.2 #[.int .i64 6, .int .i64 n, .int .i64 f, .string s, .slice p l.length c, .slice q d.length ec] 32)
  have PA := Lib.hid (putDict_any B b acc d q ec _ (F1.out.lies hl).rowD IH B1.out (hf.below F1.out.1) hll hkk hlen)
  obtain ⟨T, hT⟩ : ∃ T, T = [60, 60] ++ textD false d ++ [62, 62] := ⟨_, rfl⟩
  rw [← hT] at PA ⊢
  clear hl hb hf hlen hT IH hll hkk
  unfold putV at PA
  unfold putV objV
  simp only [Ob.k, Ob.n, Ob.f, Ob.s, Ob.l, Ob.d]
  go_enter Tryz.func40, Tryz.ntmps40
  go_wp2_with fail
  (with_reducible refine PA.out.mono ?_)
  rintro e w2 ⟨rfl, hb2, hf2⟩
  have B2 := Lib.hid (hb2)
  have F2 := Lib.hid (F1.out.trans hf2)
  clear hb2 hf2
  go_wp2_with fail
  refine bodyPost_end (results_none rfl _ _ _) rfl ?_
  exact ⟨rfl, B2.out, F2.out⟩

set_option maxRecDepth 100000 in
set_option maxHeartbeats 4000000 in
theorem putK_8 (n f : Int) (s : ByteArray) (l : List Ob) (d : List Entr) (IH : ∀ z ∈ d, PutC z.2) (hll : d.length ≤ 4294967296) (hkk : ∀ z ∈ d, z.1.size ≤ 4294967296) : PutC (.mk 8 n f s l d) := by
  rintro ⟨p, c, q, ec⟩ B b acc w hl hb hf hlen
  rw [show (Ob.mk 8 n f s l d).text = ([60, 60] ++ textD false d ++ [62, 62]) ++ ([10, 115, 116, 114, 101, 97, 109, 10] ++ s.data.toList ++ [10, 101, 110, 100, 115, 116, 114, 101, 97, 109]) by rw [text_mk]; simp] at hlen ⊢
  have B1 := Lib.hid (hb.alloc #[.int .i64 8, .int .i64 n, .int .i64 f, .string s, .slice p l.length c, .slice q d.length ec] 32)
  have F1 := Lib.hid ((Fr.refl B b w).alloc hb.2 #[.int .i64 8, .int .i64 n, .int .i64 f, .string s, .slice p l.length c, .slice q d.length ec] 32)
  have HN := Lib.hid (show acc.length + ([60, 60] ++ textD false d ++ [62, 62]).length + (s.size + 18) ≤ 140737488355328 by
    rw [List.length_append] at hlen
    have : ([10, 115, 116, 114, 101, 97, 109, 10] ++ s.data.toList ++ [10, 101, 110, 100, 115, 116, 114, 101, 97, 109] : List UInt8).length = s.size + 18 := by simp only [List.length_append, List.length_cons, List.length_nil, Array.length_toList]; show 8 + s.size + 10 = _; omega
    omega)
  have PA := Lib.hid (putDict_any B b acc d q ec _ (F1.out.lies hl).rowD IH B1.out (hf.below F1.out.1) hll hkk (by have := HN.out; omega))
  have BK := Lib.hid (Blk.fresh w #[.int .i64 8, .int .i64 n, .int .i64 f, .string s, .slice p l.length c, .slice q d.length ec] 32)
  have HNE := Lib.hid (show w.heap.size ≠ b by have := hb.at; omega)
  obtain ⟨T, hT⟩ : ∃ T, T = [60, 60] ++ textD false d ++ [62, 62] := ⟨_, rfl⟩
  rw [← hT] at PA HN ⊢
  clear hl hb hf hlen hT IH hll hkk
  unfold putV at PA
  unfold putV objV
  simp only [Ob.k, Ob.n, Ob.f, Ob.s, Ob.l, Ob.d]
  go_enter Tryz.func40, Tryz.ntmps40
  go_wp2_with fail
  (with_reducible refine PA.out.mono ?_)
  rintro e w2 ⟨rfl, hb2, hf2⟩
  have B2 := Lib.hid (hb2)
  have F2 := Lib.hid (F1.out.trans hf2)
  obtain ⟨u0, u1, u2, u3, u4, u5⟩ := (hf2.blk BK.out HNE.out (by decide)).cells6
  have P2 := Lib.hid (put3_any B b _ ⟨#[10, 115, 116, 114, 101, 97, 109, 10]⟩ s ⟨#[10, 101, 110, 100, 115, 116, 114, 101, 97, 109]⟩ w2 B2.out (by have := HN.out; rw [List.length_append]; show _ + (8 + s.size + 10) ≤ _; omega))
  clear hb2 hf2
  go_wp2_with fail
  (with_reducible refine P2.out.mono ?_)
  rintro e w3 ⟨rfl, hb3, hf3⟩
  have B3 := Lib.hid (hb3.cast (show _ = acc ++ (T ++ ([10, 115, 116, 114, 101, 97, 109, 10] ++ s.data.toList ++ [10, 101, 110, 100, 115, 116, 114, 101, 97, 109])) by simp only [List.append_assoc]))
  have F3 := Lib.hid (F2.out.trans hf3)
  clear u0 u1 u2 u3 u4 u5
  clear hb3 hf3
  go_wp2_with fail
  refine bodyPost_end (results_none rfl _ _ _) rfl ?_
  exact ⟨rfl, B3.out, F3.out⟩

set_option maxRecDepth 100000 in
set_option maxHeartbeats 4000000 in
theorem putK_no (k n f : Int) (s : ByteArray) (l : List Ob) (d : List Entr) (h : k < 0 ∨ 8 < k) : PutC (.mk k n f s l d) := by
  rintro ⟨p, c, q, ec⟩ B b acc w hl hb hf hlen
  rw [show (Ob.mk k n f s l d).text = [] by rw [text_mk]; repeat (rw [if_neg (by omega)])] at hlen ⊢
  have B1 := Lib.hid (hb.alloc #[.int .i64 k, .int .i64 n, .int .i64 f, .string s, .slice p l.length c, .slice q d.length ec] 32)
  have F1 := Lib.hid ((Fr.refl B b w).alloc hb.2 #[.int .i64 k, .int .i64 n, .int .i64 f, .string s, .slice p l.length c, .slice q d.length ec] 32)
  have n0 : (k == 0) = false := by rw [beq_eq_false_iff_ne]; omega
  have n1 : (k == 1) = false := by rw [beq_eq_false_iff_ne]; omega
  have n2 : (k == 2) = false := by rw [beq_eq_false_iff_ne]; omega
  have n3 : (k == 3) = false := by rw [beq_eq_false_iff_ne]; omega
  have n4 : (k == 4) = false := by rw [beq_eq_false_iff_ne]; omega
  have n5 : (k == 5) = false := by rw [beq_eq_false_iff_ne]; omega
  have n6 : (k == 6) = false := by rw [beq_eq_false_iff_ne]; omega
  have n7 : (k == 7) = false := by rw [beq_eq_false_iff_ne]; omega
  have n8 : (k == 8) = false := by rw [beq_eq_false_iff_ne]; omega
  clear hl hb hf hlen h
  unfold putV objV
  simp only [Ob.k, Ob.n, Ob.f, Ob.s, Ob.l, Ob.d]
  go_enter Tryz.func40, Tryz.ntmps40
  go_wp2_with fail
  refine bodyPost_end (results_none rfl _ _ _) rfl ?_
  exact ⟨rfl, B1.out.cast (List.append_nil acc).symm, F1.out⟩

end Go.Proofs.YtkpagahnmbchjaaGreatDoor
