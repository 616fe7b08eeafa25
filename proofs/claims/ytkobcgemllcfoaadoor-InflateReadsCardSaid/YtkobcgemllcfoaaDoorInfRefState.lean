/-
  The reference's state: fail, bits, put, more.
-/
import Derived.Test.YtkobcgemllcfoaaDoorInfPut
import Derived.Test.YtkobcgemllcfoaaDoorInfRefMath
import Derived.Test.YtkobcgemllcfoaaDoorInfStored
namespace Go.Proofs.YtkobcgemllcfoaaDoor
open Go.RowKit Ix
set_option linter.unusedSimpArgs false
set_option linter.unusedVariables false

/-- The first error counts. -/
def ef (e k : Int) : Int := if e = 0 then k else e
/-- Block b is a state: bytes that came in, a place among their bits, what came, and the first error. -/
structure Sw (w : World) (B0 b : Nat) (p : Option Addr) (c : Nat) (B : List UInt8) (t : Nat) (v : Value) (out : List UInt8) (e : Int) : Prop where
  blk : Blk w b #[.slice p B.length c, .int .i64 t, v, .int .i64 e] 76
  byt : ByR w B0 p B
  low : B0 ≤ b
  own : Out w (b + 1) v out
  len : out.length ≤ 1048576
  le : t ≤ 8 * B.length
section
variable {w w' : World} {B0 b : Nat} {p : Option Addr} {c : Nat} {B : List UInt8} {t t' : Nat} {v : Value} {out : List UInt8} {e : Int}
theorem Sw.cells (h : Sw w B0 b p c B t v out e) : w.cell? ⟨b, 0, none⟩ = some (.slice p B.length c) ∧ w.cell? ⟨b, 1, none⟩ = some (.int .i64 t) ∧ w.cell? ⟨b, 2, none⟩ = some v ∧ w.cell? ⟨b, 3, none⟩ = some (.int .i64 e) := h.blk.cells4
theorem Sw.lowV (h : Sw w B0 b p c B t v out e) : ∀ k, v.ownBlock = some k → b ≤ k := fun k e => by have := (h.own.lt k e).1; omega
theorem Sw.ne (h : Sw w B0 b p c B t v out e) : v.ownBlock = none ∨ v.ownBlock ≠ some b := by
  cases hv : v.ownBlock with
  | none => exact .inl rfl
  | some g => exact .inr (by intro e; injection e with e; have := (h.own.lt g hv).1; omega)
theorem Sw.kept (h : Sw w B0 b p c B t v out e) (k : Kept w w') : Sw w' B0 b p c B t v out e := by
  refine ⟨h.blk.kept k, fun i hi => ?_, h.low, h.own.kept k, h.len, h.le⟩
  obtain ⟨kb, o, hp, hk, hc⟩ := h.byt i hi
  have h1 := h.blk.lt
  have h2 := h.low
  exact ⟨kb, o, hp, hk, by rw [← hc]; exact k.cells.1 _ _ (by omega)⟩
/-- A store into the state. -/
theorem Sw.setT (h : Sw w B0 b p c B t v out e) (z : Int) (hz : z = (t' : Int)) (hle : t' ≤ 8 * B.length) : Sw (w.setCell ⟨b, 1, none⟩ (.int .i64 z)) B0 b p c B t' v out e := by
  subst hz
  refine ⟨by simpa using h.blk.set 1 (.int .i64 (t' : Int)), fun i hi => ?_, h.low, h.own.gb (gbS _ _ _ _) h.ne, h.len, hle⟩
  obtain ⟨k, o, hp, hk, hc⟩ := h.byt i hi
  have hne : k ≠ b := by have := h.low; omega
  exact ⟨k, o, hp, hk, by rw [← hc]; exact World.cell?_of_block (Below.heap_setCell w ⟨b, 1, none⟩ _ k hne)⟩
theorem Sw.setE (h : Sw w B0 b p c B t v out e) (k : Int) : Sw (w.setCell ⟨b, 3, none⟩ (.int .i64 k)) B0 b p c B t v out k := by
  refine ⟨by simpa using h.blk.set 3 (.int .i64 k), fun i hi => ?_, h.low, h.own.gb (gbS _ _ _ _) h.ne, h.len, h.le⟩
  obtain ⟨k, o, hp, hk, hc⟩ := h.byt i hi
  have hne : k ≠ b := by have := h.low; omega
  exact ⟨k, o, hp, hk, by rw [← hc]; exact World.cell?_of_block (Below.heap_setCell w ⟨b, 3, none⟩ _ k hne)⟩
end
/-- What a call on the state leaves. -/
structure SwR (w : World) (B0 b : Nat) (p : Option Addr) (c : Nat) (B : List UInt8) (v : Value) (w' : World) (t' : Nat) (v' : Value) (out' : List UInt8) (e' : Int) : Prop where
  st : Sw w' B0 b p c B t' v' out' e'
  gr : Gr w b v w' v'
theorem SwR.refl {w : World} {B0 b : Nat} {p : Option Addr} {c : Nat} {B : List UInt8} {t : Nat} {v : Value} {out : List UInt8} {e : Int} (h : Sw w B0 b p c B t v out e) : SwR w B0 b p c B v w t v out e := ⟨h, Gr.refl _ _ _⟩
theorem SwR.kept {w w1 w2 : World} {B0 b : Nat} {p : Option Addr} {c : Nat} {B : List UInt8} {v v1 : Value} {t1 : Nat} {out1 : List UInt8} {e1 : Int} (h : SwR w B0 b p c B v w1 t1 v1 out1 e1) (k : Kept w1 w2) : SwR w B0 b p c B v w2 t1 v1 out1 e1 := ⟨h.st.kept k, h.gr.trans (Gr.ofKept k)⟩
theorem SwR.then {w w1 w2 : World} {B0 b : Nat} {p : Option Addr} {c : Nat} {B : List UInt8} {v v1 v2 : Value} {t1 t2 : Nat} {out1 out2 : List UInt8} {e1 e2 : Int} (h : SwR w B0 b p c B v w1 t1 v1 out1 e1) (k : SwR w1 B0 b p c B v1 w2 t2 v2 out2 e2) : SwR w B0 b p c B v w2 t2 v2 out2 e2 := ⟨k.st, h.gr.trans k.gr⟩
theorem SwR.setT {w w1 : World} {B0 b : Nat} {p : Option Addr} {c : Nat} {B : List UInt8} {v v1 : Value} {t1 t2 : Nat} {out1 : List UInt8} {e1 : Int} (h : SwR w B0 b p c B v w1 t1 v1 out1 e1) (z : Int) (hz : z = (t2 : Int)) (hle : t2 ≤ 8 * B.length) : SwR w B0 b p c B v (w1.setCell ⟨b, 1, none⟩ (.int .i64 z)) t2 v1 out1 e1 := ⟨h.st.setT z hz hle, h.gr.trans (Gr.ofGb (gbS _ _ _ _))⟩

set_option maxRecDepth 100000 in
theorem fail_any {w : World} {B0 b : Nat} {p : Option Addr} {c : Nat} {B : List UInt8} {t : Nat} {v : Value} {out : List UInt8} {e : Int} (h : Sw w B0 b p c B t v out e) (k : Int) :
    Calls Tryd.prog 51 #[.pointer (some ⟨b, 0, none⟩), .int .i64 k] w fun en w' => en = .returned (.tuple #[]) ∧ SwR w B0 b p c B v w' t v out (ef e k) := by
  have HS := Lib.hid h
  obtain ⟨c0, c1, c2, c3⟩ := h.cells
  have hf := h.blk.free
  clear h
  by_cases he : e = 0
  · subst he
    go_enter Tryd.func51, Tryd.ntmps51
    go_wp2_with fail
    refine bodyPost_end (results_none rfl _ _ _) rfl ?_
    exact ⟨rfl, HS.out.setE k, Gr.ofGb (gbS _ _ _ _)⟩
  · have f0 : (e == 0) = false := by rw [beq_eq_false_iff_ne]; exact he
    have HE := Lib.hid (show ef e k = e from if_neg he)
    clear he
    go_enter Tryd.func51, Tryd.ntmps51
    go_wp2_with fail
    refine bodyPost_end (results_none rfl _ _ _) rfl ?_
    rw [HE.out]
    exact ⟨rfl, SwR.refl HS.out⟩

theorem shl_bit {u i : Nat} (hu : u < 2) (hi : i < 17) : wrap64 ((u : Int) * 2 ^ i) = ((u * 2 ^ i : Nat) : Int) ∧ u * 2 ^ i ≤ 65536 := by
  have key : (List.range 17).all (fun i => (List.range 2).all fun u => wrap64 ((u : Int) * 2 ^ i) == ((u * 2 ^ i : Nat) : Int) && decide (u * 2 ^ i ≤ 65536)) = true := by kernel_rfl
  have h1 := List.all_eq_true.1 (List.all_eq_true.1 key i (List.mem_range.2 hi)) u (List.mem_range.2 hu)
  rw [Bool.and_eq_true, beq_iff_eq, decide_eq_true_eq] at h1
  exact h1
theorem numAt_16 (B : List UInt8) (t n : Nat) (h : n ≤ 16) : numAt B n t < 65536 := Nat.lt_of_lt_of_le (numAt_lt B t n) (Nat.pow_le_pow_right (by decide) h)
theorem wrap_sum {x y : Nat} (h : x + y < 131072) : wrap64 ((x : Int) + (y : Int)) = ((x + y : Nat) : Int) := by
  unfold wrap64
  omega
/-- What bits leaves. -/
def BitsA (w : World) (B0 b : Nat) (p : Option Addr) (c : Nat) (B : List UInt8) (t : Nat) (v : Value) (out : List UInt8) (e : Int) (n : Nat) (en : Ending) (w' : World) : Prop :=
  (t + n ≤ 8 * B.length ∧ en = .returned (.int .i64 (numAt B n t)) ∧ SwR w B0 b p c B v w' (t + n) v out e) ∨ (¬ t + n ≤ 8 * B.length ∧ en = .returned (.int .i64 0) ∧ SwR w B0 b p c B v w' (8 * B.length) v out (ef e 4))

set_option maxRecDepth 100000 in
set_option maxHeartbeats 2000000 in
theorem bits_any (n : Nat) {w : World} {B0 b : Nat} {p : Option Addr} {c : Nat} {B : List UInt8} {t : Nat} {v : Value} {out : List UInt8} {e : Int} (h : Sw w B0 b p c B t v out e) (hn : n ≤ 16) (hB : B.length ≤ 1099511627776) :
    Calls Tryd.prog 46 #[.pointer (some ⟨b, 0, none⟩), .int .i64 n] w (BitsA w B0 b p c B t v out e n) := by
  have HS := Lib.hid h
  clear h
  go_enter Tryd.func46, Tryd.ntmps46
  go_wp2_with fail
  go_loopg [5, 6] (n + 1) (fun m xv iv wr => ∃ i x : Nat, m = n + 1 - i ∧ i ≤ n ∧ xv = .int .i64 x ∧ Hid (x = numAt B i t) ∧ x < 131072 ∧ iv = .int .i64 i ∧ t + i ≤ 8 * B.length ∧ SwR w B0 b p c B v wr (t + i) v out e)
  case atStart => exact ⟨0, 0, rfl, Nat.zero_le _, rfl, Lib.hid rfl, by decide, rfl, HS.out.le, SwR.refl HS.out⟩
  case round =>
    obtain ⟨i, x, hm, hi, rfl, HX, hx, rfl, hti, hs⟩ := hrel
    have HR := Lib.hid hs
    obtain ⟨c0, c1, c2, c3⟩ := hs.st.cells
    have hf := hs.st.blk.free
    clear hs
    by_cases hlt : i < n
    · by_cases hend : t + i < 8 * B.length
      · obtain ⟨kb, o, hp, hkb, hc⟩ := HR.out.st.byt ((t + i) / 8) (by omega)
        subst hp
        have hbit := byte_bit B[(t + i) / 8] ((t + i) % 8) (by omega)
        have hbv := bit_val B (t + i) (by omega)
        have hu := bitAt_lt B (t + i)
        have HNS := Lib.hid (show numAt B (i + 1) t = numAt B i t + bitAt B (t + i) * 2 ^ i from rfl)
        obtain ⟨T, hT⟩ : ∃ T, T = t + i := ⟨_, rfl⟩
        simp only [← hT] at hc hbit hbv hu HNS c1 hend
        have HT := Lib.hid hT
        obtain ⟨u, hu2⟩ : ∃ u, u = bitAt B T := ⟨_, rfl⟩
        rw [← hu2] at hbv hu HNS
        obtain ⟨q, hq⟩ : ∃ q, q = B[T / 8].toNat := ⟨_, rfl⟩
        have hq256 : q < 256 := by rw [hq]; exact UInt8.toNat_lt _
        rw [← hq] at hc hbit hbv
        have hbit2 : bits BinOp.and IntKind.u8 ((q : Int) / 2 ^ (T % 8)) 1 = (u : Int) := by
          rw [hbit, ← hbv]; simp
        obtain ⟨hsh, hsl⟩ := shl_bit hu (show i < 17 by omega)
        obtain ⟨y, hy⟩ : ∃ y, y = u * 2 ^ i := ⟨_, rfl⟩
        rw [← hy] at hsh hsl HNS
        have t0 : ¬ 8 * (B.length : Int) ≤ (T : Int) := by omega
        have t1 : (0 : Int) ≤ (T : Int) := by omega
        have t2 : ((T / 8 : Nat) : Int) < (B.length : Int) := by omega
        have t3 : (T : Int) / 8 < (B.length : Int) := by omega
        have t4 : T / 8 < B.length := by omega
        have hBl : B.length ≤ 1099511627776 := hB
        have hns : numAt B (i + 1) t = x + y := by rw [HNS.out, HX.out]
        have hxy : x + y < 131072 := by
          rw [← hns]
          exact Nat.lt_trans (numAt_16 B t (i + 1) (by omega)) (by decide)
        have HNX := Lib.hid hns
        have HWX := Lib.hid (wrap_sum hxy)
        have HTE := Lib.hid hend
        clear hT hu2 hq hy hbit hbv hns HNS
        go_wp2_with fail
        go_quiet (fail)
        go_wp2_with fail
        go_quiet (fail)
        go_wp2_with fail
        go_roundg (n + 1 - (i + 1))
        case measure => omega
        case rel =>
          refine ⟨i + 1, x + y, rfl, by omega, by rw [HWX.out], Lib.hid HNX.out.symm, hxy, by go_num, by have := HT.out; omega, ?_⟩
          refine SwR.setT (HR.out.kept ((Kept.refl wr).drewN _)) _ ?_ ?_
          · rw [HT.out]; omega
          · have := HT.out; omega
      · have FA := Lib.hid (fun w' (k : Kept wr w') => fail_any (HR.out.kept k).st 4)
        have hE : t + i = 8 * B.length := by omega
        have HE := Lib.hid hE
        have t0 : 8 * (B.length : Int) ≤ ((t + i : Nat) : Int) := by omega
        have t5 : 8 * (B.length : Int) ≤ (t : Int) + (i : Int) := by omega
        have HNO := Lib.hid (show ¬ t + n ≤ 8 * B.length by omega)
        have hBl : B.length ≤ 1099511627776 := hB
        clear hE hend
        go_wp2_with fail
        go_quiet (fail)
        have KQ := Lib.hid (show Kept wr (wr.drewN nq) from (Kept.refl wr).drewN nq)
        go_wp2_with fail
        (with_reducible refine (FA.out _ KQ.out).mono ?_)
        rintro en w2 ⟨rfl, hs2⟩
        have HR2 := Lib.hid hs2
        clear hs2
        go_wp2_with fail
        go_ret
        refine .inr ⟨HNO.out, rfl, ?_⟩
        have z := (HR.out.kept KQ.out).then HR2.out
        rw [HE.out] at z
        exact z
    · obtain rfl : i = n := by omega
      go_wp2_with fail
      go_ret
      exact .inl ⟨hti, by rw [HX.out]; rfl, HR.out⟩

end Go.Proofs.YtkobcgemllcfoaaDoor
