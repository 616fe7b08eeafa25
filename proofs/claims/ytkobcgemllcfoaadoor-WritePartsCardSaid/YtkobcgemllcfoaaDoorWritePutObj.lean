/-
  What putObject puts of any object: its text.
-/
import Derived.Test.YtkobcgemllcfoaaDoorWritePut
import Derived.Test.YtkobcgemllcfoaaDoorWriteSane
import Derived.Test.YtkobcgemllcfoaaDoorFixPrint
import Derived.Test.YtkobcgemllcfoaaDoorFixBackMath
import Derived.Test.YtkobcgemllcfoaaDoorLexNameOf
import Derived.Test.YtkobcgemllcfoaaDoorCosWt
namespace Go.Proofs.YtkobcgemllcfoaaDoor
open Go.RowKit Cx
set_option linter.unusedSimpArgs false
set_option linter.unusedVariables false

abbrev putV (b : Nat) : Value := .func (.func 56) #[] #[.pointer (some ⟨b, 0, none⟩)]

theorem Bld.alloc {B b : Nat} {l : List UInt8} {w : World} (h : Bld B b l w) (c : Array Value) (t : TypeId) : Bld B b l (w.alloc (.cells c t (0, 0))) := h.kept ((Kept.refl w).alloc c t)
theorem Fr.alloc {B b : Nat} {w1 w2 : World} (h : Fr B b w1 w2) (hB : B ≤ w2.heap.size) (c : Array Value) (t : TypeId) : Fr B b w1 (w2.alloc (.cells c t (0, 0))) := h.kept ((Kept.refl w2).alloc c t) hB

/-- One text. -/
theorem put1_any (B b : Nat) (l : List UInt8) (s : ByteArray) (w : World) (hb : Bld B b l w) (hlen : l.length + s.size ≤ 140737488355328) :
    Calls Tryd.prog 56 #[.slice (some ⟨w.heap.size, 0, none⟩) 1 1, .pointer (some ⟨b, 0, none⟩)] (w.alloc (.cells #[.string s] 9)) fun e w' => e = .returned (.tuple #[]) ∧ Bld B b (l ++ s.data.toList) w' ∧ Fr B b w w' := by
  have hs : (catT [s]).length = s.size := by unfold catT; simp
  have h := put_any B b w.heap.size l [s] (w.alloc (.cells #[.string s] 9)) (hb.alloc _ _) (Blk.fresh w #[.string s] 9) (by have := hb.at; omega) (by rw [hs]; exact hlen) (by simp)
  have hc : catT [s] = s.data.toList := by unfold catT; simp
  rw [hc] at h
  exact h.mono fun _ _ ⟨he, h1, h2⟩ => ⟨he, h1, ((Fr.refl B b w).alloc hb.2 _ _).trans h2⟩

set_option maxRecDepth 100000 in
theorem putBetween_any (B b : Nat) (l : List UInt8) (i : Nat) (w : World) (hb : Bld B b l w) (hlen : l.length + 1 ≤ 140737488355328) (hi : i ≤ 4294967296) :
    Calls Tryd.prog 98 #[putV b, .int .i64 i] w fun e w' => e = .returned (.tuple #[]) ∧ Bld B b (l ++ if 0 < i then [32] else []) w' ∧ Fr B b w w' := by
  have HB := Lib.hid hb
  have P1 := Lib.hid (put1_any B b l ⟨#[32]⟩ w hb hlen)
  clear hb
  unfold putV
  by_cases h : 0 < i
  · have hi0 : (0 : Int) < (i : Int) := by omega
    rw [if_pos h]
    clear h
    go_enter Tryd.func98, Tryd.ntmps98
    go_wp2_with fail
    (with_reducible refine P1.out.mono ?_)
    rintro e w2 ⟨rfl, h1, h2⟩
    have H1 := Lib.hid h1
    have H2 := Lib.hid h2
    clear h1 h2
    go_wp2_with fail
    refine bodyPost_end (results_none rfl _ _ _) rfl ?_
    exact ⟨rfl, H1.out, H2.out⟩
  · have hi0 : ¬ (0 : Int) < (i : Int) := by omega
    rw [if_neg h, List.append_nil]
    clear h
    go_enter Tryd.func98, Tryd.ntmps98
    go_wp2_with fail
    refine bodyPost_end (results_none rfl _ _ _) rfl ?_
    exact ⟨rfl, HB.out, Fr.refl B b w⟩

theorem printL_le (f : Int) : (Fx.printL f).length ≤ 100 := by
  cases h : Fx.saneB f
  · rw [Fx.print_none h]; decide
  · exact Nat.le_trans (Fx.print_back h).2.2 (by decide)

/-- The library's tables lie below B. -/
def FB (B : Nat) (w : World) : Prop := Fine w ∧ 2 < B ∧ 1 < B

theorem FB.below {B : Nat} {w w' : World} (h : FB B w) (k : Below B w w') : FB B w' := by
  obtain ⟨⟨⟨m, hm⟩, ht⟩, h1, h2⟩ := h
  refine ⟨⟨⟨m, ?_⟩, ?_⟩, h1, h2⟩
  · rw [World.cell?_of_block (w := w) (a := ⟨2, 0, none⟩) (k.block _ h1)]; exact hm
  · unfold Lib.TabIs World.var? at *
    rw [show Tryd.prog.globalNamed "internal/strconv.uint64pow10" = some 1 by kernel_rfl] at *
    simp only [Option.bind_some] at *
    rw [k.block _ h2]; exact ht

theorem FB.kept {B : Nat} {w w' : World} (h : FB B w) (k : Kept w w') : FB B w' := ⟨h.1.kept k, h.2⟩

set_option maxRecDepth 100000 in
theorem numText_any (o : Ob) (h : Hd) (w : World) (hf : Fine w) :
    Calls Tryd.prog 60 #[objV o h] w fun e w' => e = .returned (.string ⟨(numT o.n o.f).toArray⟩) ∧ Kept w w' := by
  have HF := Lib.hid (fun w' (k : Kept w w') => Print_any o.f w' (hf.kept k))
  have HW := Lib.hid (isWholeW_any o.f)
  obtain ⟨p, c, q, e⟩ := h
  obtain ⟨V, hV⟩ : ∃ V, V = wholeF o.f := ⟨_, rfl⟩
  obtain ⟨L, hL⟩ : ∃ L, L = Fx.printL o.f := ⟨_, rfl⟩
  have HN := Lib.hid (show numT o.n o.f = L ++ (if o.n = 0 ∧ V = true then [46, 48] else []) by rw [hL, hV]; rfl)
  obtain ⟨R, hR⟩ : ∃ R, R = numT o.n o.f := ⟨_, rfl⟩
  rw [← hR] at HN ⊢
  rw [← hL] at HF
  rw [← hV] at HW
  have HI := Lib.hid (In.fresh (In.start w) #[.int .i64 o.k, .int .i64 o.n, .int .i64 o.f, .string o.s, .slice p o.l.length c, .slice q o.d.length e] 26)
  have K1 := Lib.hid (In.kW HI.out)
  have HLL := Lib.hid (show L.length ≤ 100 from by rw [hL]; exact printL_le o.f)
  clear hV hL hR hf
  unfold objV
  obtain ⟨k, n, f, s, l, d⟩ := o
  have HN := Lib.hid (show R = L ++ (if n = 0 ∧ V = true then [46, 48] else []) from HN.out)
  simp only [Ob.k, Ob.n, Ob.f, Ob.s, Ob.l, Ob.d] at HF HW HI K1 ⊢
  cases h0 : (n == 0)
  · have hn0 : n ≠ 0 := by simpa using h0
    have HA := Lib.hid (show R = L by rw [HN.out, if_neg (fun h => hn0 h.1), List.append_nil])
    clear hn0
    go_enter Tryd.func60, Tryd.ntmps60
    go_wp2_with fail
    (with_reducible refine (HF.out _ K1.out).mono ?_)
    rintro e' w2 ⟨rfl, hk2⟩
    have HI2 := Lib.hid (HI.out.kept hk2)
    have K2 := Lib.hid (In.kW HI2.out)
    obtain ⟨u0, u1, u2, u3, u4, u5⟩ := (HI2.out.mem List.mem_cons_self).cells6
    clear hk2
    go_wp2_with fail
    go_ret
    exact ⟨ret_str (by rw [HA.out]), K2.out⟩
  · have hn0 : n = 0 := by simpa using h0
    cases V
    · have HA := Lib.hid (show R = L by rw [HN.out, if_neg (fun h => by cases h.2), List.append_nil])
      clear hn0
      go_enter Tryd.func60, Tryd.ntmps60
      go_wp2_with fail
      (with_reducible refine (HF.out _ K1.out).mono ?_)
      rintro e' w2 ⟨rfl, hk2⟩
      have HI2 := Lib.hid (HI.out.kept hk2)
      have K2 := Lib.hid (In.kW HI2.out)
      obtain ⟨u0, u1, u2, u3, u4, u5⟩ := (HI2.out.mem List.mem_cons_self).cells6
      clear hk2
      go_wp2_with fail
      (with_reducible refine (HW.out _).mono ?_)
      rintro e' w3 ⟨rfl, hk3⟩
      have K3 := Lib.hid (K2.out.trans hk3)
      clear hk3
      go_wp2_with fail
      go_ret
      exact ⟨ret_str (by rw [HA.out]), K3.out⟩
    · have HA := Lib.hid (show R = L ++ [46, 48] by rw [HN.out, if_pos ⟨hn0, rfl⟩])
      have HC := Lib.hid (show (⟨L.toArray⟩ ++ ⟨#[46, 48]⟩ : ByteArray) = ⟨R.toArray⟩ by rw [HA.out]; apply ByteArray.ext; simp)
      have hLL := HLL.out
      clear hn0
      go_enter Tryd.func60, Tryd.ntmps60
      go_wp2_with fail
      (with_reducible refine (HF.out _ K1.out).mono ?_)
      rintro e' w2 ⟨rfl, hk2⟩
      have HI2 := Lib.hid (HI.out.kept hk2)
      have K2 := Lib.hid (In.kW HI2.out)
      obtain ⟨u0, u1, u2, u3, u4, u5⟩ := (HI2.out.mem List.mem_cons_self).cells6
      clear hk2
      go_wp2_with fail
      (with_reducible refine (HW.out _).mono ?_)
      rintro e' w3 ⟨rfl, hk3⟩
      have K3 := Lib.hid (K2.out.trans hk3)
      clear hk3
      go_wp2_with fail
      go_ret
      exact ⟨ret_str HC.out, K3.out⟩

end Go.Proofs.YtkobcgemllcfoaaDoor
