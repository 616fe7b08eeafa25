/-
  Bits that are taken from bytes: want, bit, number, leaveRest, wholeByte, begun.
-/
import Derived.Test.YtpplboihlndfpaaDoorHas
import Derived.Test.YtpplboihlndfpaaDoorDefMaths
import Derived.Deep.LoopGhost
import Derived.Test.YtpplboihlndfpaaDoorFixWalks
import Derived.Deep.QuietTactic
import Derived.BigQuiet
namespace Go.Proofs.YtpplboihlndfpaaDoor
open Go.RowKit Ix
set_option linter.unusedSimpArgs false
set_option linter.unusedVariables false

/-- What a panic with an error carries. -/
abbrev thrown (k : Int) : List PanicEntry := [{ v := .iface 29 (.int .i64 k), recovered := false }]

/-- Where bytes lie that came in. -/
def ByR (w : World) (B0 : Nat) (p : Option Addr) (B : List UInt8) : Prop := ∀ i (h : i < B.length), ∃ k o, p = some ⟨k, o, none⟩ ∧ k < B0 ∧ w.cell? ⟨k, o + i, none⟩ = some (.int .u8 (B[i].toNat : Int))

/-- Block b holds bytes that came in, a place among their bits, what came, and trees. -/
structure Bi (w : World) (B0 b : Nat) (p : Option Addr) (c : Nat) (B : List UInt8) (t : Nat) (ov gv : Value) : Prop where
  blk : Blk w b #[.slice p B.length c, .int .i64 t, ov, gv] 70
  byt : ByR w B0 p B
  low : B0 ≤ b

theorem Bi.cells {w : World} {B0 b : Nat} {p : Option Addr} {c : Nat} {B : List UInt8} {t : Nat} {ov gv : Value} (h : Bi w B0 b p c B t ov gv) :
    w.cell? ⟨b, 0, none⟩ = some (.slice p B.length c) ∧ w.cell? ⟨b, 1, none⟩ = some (.int .i64 t) ∧ w.cell? ⟨b, 2, none⟩ = some ov ∧ w.cell? ⟨b, 3, none⟩ = some gv := h.blk.cells4
theorem Bi.move {w : World} {B0 b : Nat} {p : Option Addr} {c : Nat} {B : List UInt8} {t : Nat} {ov gv : Value} (h : Bi w B0 b p c B t ov gv) (v : Int) (t' : Nat) (e : v = (t' : Int)) : Bi (w.setCell ⟨b, 1, none⟩ (.int .i64 v)) B0 b p c B t' ov gv := by
  subst e
  refine ⟨by simpa using h.blk.set 1 (.int .i64 (t' : Int)), fun i hi => ?_, h.low⟩
  obtain ⟨k, o, hp, hk, hc⟩ := h.byt i hi
  refine ⟨k, o, hp, hk, ?_⟩
  have hne : k ≠ b := by have := h.low; omega
  rw [← hc]
  exact World.cell?_of_block (Below.heap_setCell w ⟨b, 1, none⟩ _ k hne)

theorem Bi.kept {w w' : World} {B0 b : Nat} {p : Option Addr} {c : Nat} {B : List UInt8} {t : Nat} {ov gv : Value} (h : Bi w B0 b p c B t ov gv) (k : Kept w w') : Bi w' B0 b p c B t ov gv := by
  refine ⟨h.blk.kept k, fun i hi => ?_, h.low⟩
  obtain ⟨kb, o, hp, hk, hc⟩ := h.byt i hi
  refine ⟨kb, o, hp, hk, ?_⟩
  have := h.blk.lt
  have := h.low
  rw [← hc]
  exact k.cells.1 _ _ (by omega)

/-- A panic with an error. -/
theorem run_thrown (n : Int) (w : World) : (Instr.panic (.iface 29 (.int .i64 n))).run Tryd.prog w = .halt (.panic (.iface 29 (.int .i64 n))) w := rfl

set_option maxRecDepth 100000 in
theorem want_ok {B0 b : Nat} {p : Option Addr} {c : Nat} {B : List UInt8} {t : Nat} {ov gv : Value} {w : World} (h : Bi w B0 b p c B t ov gv) (ht : t < 8 * B.length) (hB : B.length ≤ 1099511627776) :
    Calls Tryd.prog 105 #[.pointer (some ⟨b, 0, none⟩)] w fun e w' => e = .returned (.tuple #[]) ∧ Kept w w' := by
  obtain ⟨c0, c1, c2, c3⟩ := h.cells
  have hq : ((t : Int) / 8 == (B.length : Int)) = false := by rw [beq_eq_false_iff_ne]; omega
  clear h
  go_enter Tryd.func105, Tryd.ntmps105
  go_wp2_with fail
  go_quiet (fail)
  go_wp2_with fail
  refine bodyPost_end (results_none rfl _ _ _) rfl ?_
  exact ⟨rfl, (Kept.refl w).drewN _⟩

set_option maxRecDepth 100000 in
theorem want_no {B0 b : Nat} {p : Option Addr} {c : Nat} {B : List UInt8} {t : Nat} {ov gv : Value} {w : World} (h : Bi w B0 b p c B t ov gv) (ht : t = 8 * B.length) (hB : B.length ≤ 1099511627776) :
    Calls Tryd.prog 105 #[.pointer (some ⟨b, 0, none⟩)] w fun e w' => e = .panicked (thrown 4) ∧ Kept w w' := by
  obtain ⟨c0, c1, c2, c3⟩ := h.cells
  have hq : ((t : Int) / 8 == (B.length : Int)) = true := by rw [beq_iff_eq]; omega
  have hp := run_thrown
  clear h
  go_enter Tryd.func105, Tryd.ntmps105
  go_wp2_with fail
  go_quiet (fail)
  go_wp2_with fail
  exact ⟨rfl, rfl, (Kept.refl w).drewN _⟩

/-- One bit of a byte, as the walk spells it. -/
theorem byte_bit (v : UInt8) (k : Nat) (hk : k < 8) : bits BinOp.and IntKind.u8 ((v.toNat : Int) / 2 ^ k) 1 = ((v.toNat / 2 ^ k % 2 : Nat) : Int) := by
  have key : (List.range 256).all (fun a => (List.range 8).all fun k => bits BinOp.and IntKind.u8 (((UInt8.ofNat a).toNat : Int) / 2 ^ k) 1 == (((UInt8.ofNat a).toNat / 2 ^ k % 2 : Nat) : Int)) = true := by kernel_rfl
  have h1 := List.all_eq_true.1 (List.all_eq_true.1 key _ (List.mem_range.2 v.toNat_lt)) _ (List.mem_range.2 hk)
  simpa using h1

theorem gbR (w : World) (r : Option Nat) : w.grownBy w r := ⟨rfl, rfl, rfl, Nat.le_refl _, fun _ _ _ => rfl⟩
theorem gbT {a b c : World} {r : Option Nat} (h : a.grownBy b r) (k : b.grownBy c r) : a.grownBy c r :=
  ⟨k.os.trans h.os, k.tape.trans h.tape, k.output.trans h.output, Nat.le_trans h.size k.size, fun j hj hn => (k.block j (Nat.lt_of_lt_of_le hj h.size) hn).trans (h.block j hj hn)⟩
theorem gbS (w : World) (k o : Nat) (v : Value) : w.grownBy (w.setCell ⟨k, o, none⟩ v) (some k) := by
  refine ⟨rfl, rfl, rfl, by simp, fun j _ hn => Below.heap_setCell w ⟨k, o, none⟩ v j ?_⟩
  intro h; exact hn (by rw [h])
theorem gbK {w w' : World} (k : Kept w w') (r : Option Nat) : w.grownBy w' r := ⟨k.os, k.tape, k.output, k.size, fun j hj _ => k.block j hj⟩
theorem gbN {a b : World} {r : Option Nat} (h : a.grownBy b r) (n : Nat) : a.grownBy (b.drewN n) r := ⟨h.os, h.tape, h.output, h.size, h.block⟩

theorem Bi.gbv {w w' : World} {B0 b : Nat} {p : Option Addr} {c : Nat} {B : List UInt8} {t : Nat} {ov gv : Value} (h : Bi w B0 b p c B t ov gv) (g : w.grownBy w' (some b)) (v : Int) (t' : Nat) (e : v = (t' : Int)) (hw : Blk w' b #[.slice p B.length c, .int .i64 v, ov, gv] 70) : Bi w' B0 b p c B t' ov gv := by
  subst e
  refine ⟨hw, fun i hi => ?_, h.low⟩
  obtain ⟨k, o, hp, hk, hc⟩ := h.byt i hi
  refine ⟨k, o, hp, hk, ?_⟩
  have h1 := h.low
  have h2 := h.blk.lt
  rw [← hc]
  exact World.cell?_of_block (g.block k (by omega) (by intro e; injection e with e; omega))

/-- What bits.. answer: a value, and the place behind; nothing but block b has turned. -/
abbrev BiR (w : World) (B0 b : Nat) (p : Option Addr) (c : Nat) (B : List UInt8) (t : Nat) (ov gv : Value) (w' : World) : Prop := Bi w' B0 b p c B t ov gv ∧ w.grownBy w' (some b)

theorem bit_val (B : List UInt8) (t : Nat) (h : t / 8 < B.length) : (B[t / 8].toNat : Int) / 2 ^ (t % 8) % 2 = (bitAt B t : Int) := by
  unfold bitAt
  rw [show B.getD (t / 8) 0 = B[t / 8] by simp [List.getD, h]]
  simp

set_option maxRecDepth 100000 in
theorem bit_ok {B0 b : Nat} {p : Option Addr} {c : Nat} {B : List UInt8} {t : Nat} {ov gv : Value} {w : World} (h : Bi w B0 b p c B t ov gv) (ht : t < 8 * B.length) (hB : B.length ≤ 1099511627776) :
    Calls Tryd.prog 76 #[.pointer (some ⟨b, 0, none⟩)] w fun e w' => e = .returned (.int .i64 (bitAt B t)) ∧ BiR w B0 b p c B (t + 1) ov gv w' := by
  have HB := Lib.hid h
  have WO := Lib.hid (want_ok h ht hB)
  clear h
  go_enter Tryd.func76, Tryd.ntmps76
  go_wp2_with fail
  (with_reducible refine WO.out.mono ?_)
  rintro e w1 ⟨rfl, hk⟩
  have HB1 := Lib.hid (HB.out.kept hk)
  obtain ⟨c0, c1, c2, c3⟩ := HB1.out.cells
  have hf := HB1.out.blk.free
  have hi : t / 8 < B.length := by omega
  have HV := Lib.hid (bit_val B t hi)
  obtain ⟨kb, o, hp, hkb, hc⟩ := HB1.out.byt (t / 8) hi
  subst hp
  have hbit := byte_bit B[t / 8] (t % 8) (by omega)
  have K1 := Lib.hid hk
  clear hk
  go_wp2_with fail
  go_quiet (fail)
  go_wp2_with fail
  go_ret
  have K2 := Lib.hid (show Kept w1 (w1.drewN nq) from (Kept.refl w1).drewN nq)
  exact ⟨ret_int HV.out, (HB1.out.kept K2.out).move _ _ (by omega), gbT (gbK (K1.out.trans K2.out) _) (gbS _ _ _ _)⟩

set_option maxRecDepth 100000 in
theorem bit_no {B0 b : Nat} {p : Option Addr} {c : Nat} {B : List UInt8} {t : Nat} {ov gv : Value} {w : World} (h : Bi w B0 b p c B t ov gv) (ht : t = 8 * B.length) (hB : B.length ≤ 1099511627776) :
    Calls Tryd.prog 76 #[.pointer (some ⟨b, 0, none⟩)] w fun e w' => e = .panicked (thrown 4) ∧ w.grownBy w' (some b) := by
  have WO := Lib.hid (want_no h ht hB)
  clear h
  go_enter Tryd.func76, Tryd.ntmps76
  go_wp2_with fail
  (with_reducible refine WO.out.mono ?_)
  rintro e w1 ⟨rfl, hk⟩
  go_wp2_with fail
  exact ⟨rfl, rfl, gbK hk _⟩

theorem nat_or {x y : Nat} (hx : x < 4294967296) (hy : y < 4294967296) : bits BinOp.or IntKind.i64 (x : Int) (y : Int) = ((x ||| y : Nat) : Int) := by
  show IntKind.i64.wrap ((BitVec.ofInt 64 (x : Int) ||| BitVec.ofInt 64 (y : Int)).toNat : Int) = _
  rw [BitVec.ofInt_natCast, BitVec.ofInt_natCast, BitVec.toNat_or, BitVec.toNat_ofNat, BitVec.toNat_ofNat, Nat.mod_eq_of_lt (by omega), Nat.mod_eq_of_lt (by omega)]
  have : x ||| y < 2 ^ 32 := Nat.or_lt_two_pow hx hy
  exact IntWalk.i64_in _ (by omega)
theorem shl_nat {u j : Nat} (hu : u < 65536) (hj : j ≤ 16) : wrap64 ((u : Int) * 2 ^ j) = ((u * 2 ^ j : Nat) : Int) ∧ u * 2 ^ j < 4294967296 := by
  have h1 : 2 ^ j ≤ 2 ^ 16 := Nat.pow_le_pow_right (by decide) hj
  have h2 : u * 2 ^ j ≤ 65535 * 65536 := Nat.mul_le_mul (by omega) h1
  have e : ((u : Int) * 2 ^ j) = ((u * 2 ^ j : Nat) : Int) := by simp
  rw [e]
  generalize u * 2 ^ j = x at h2
  refine ⟨?_, by omega⟩
  unfold wrap64; omega
theorem or_bit {v u j : Nat} (hv : v < 2 ^ j) (hu : u < 2) (hj : j ≤ 16) : bits BinOp.or IntKind.i64 (v : Int) (wrap64 ((u : Int) * 2 ^ j)) = ((v + u * 2 ^ j : Nat) : Int) := by
  obtain ⟨e, hl⟩ := shl_nat (u := u) (by omega) hj
  have h1 : 2 ^ j ≤ 2 ^ 16 := Nat.pow_le_pow_right (by decide) hj
  rw [e, nat_or (by omega) hl]
  have := Nat.two_pow_add_eq_or_of_lt hv u
  rw [Nat.or_comm, Nat.mul_comm u, ← this, Nat.add_comm]

set_option maxRecDepth 100000 in
theorem number_ok (n : Nat) {B0 b : Nat} {p : Option Addr} {c : Nat} {B : List UInt8} {t : Nat} {ov gv : Value} {w : World} (hn : n ≤ 16) (h : Bi w B0 b p c B t ov gv) (ht : t + n ≤ 8 * B.length) (hB : B.length ≤ 1099511627776) :
    Calls Tryd.prog 77 #[.pointer (some ⟨b, 0, none⟩), .int .i64 n] w fun e w' => e = .returned (.int .i64 (numAt B n t)) ∧ BiR w B0 b p c B (t + n) ov gv w' := by
  have HB := Lib.hid h
  clear h
  go_enter Tryd.func77, Tryd.ntmps77
  go_wp2_with fail
  go_loopg [5, 8] n (fun m v i wr => ∃ j : Nat, m = n - j ∧ j ≤ n ∧ v = .int .i64 (numAt B j t) ∧ i = .int .i64 j ∧ BiR w B0 b p c B (t + j) ov gv wr)
  case atStart => exact ⟨0, rfl, Nat.zero_le _, rfl, rfl, HB.out, gbR _ _⟩
  case round =>
    obtain ⟨j, hm, hj, rfl, rfl, hB1, hg⟩ := hrel
    have HBR := Lib.hid hB1
    have HG := Lib.hid hg
    clear hB1 hg
    by_cases hlt : j < n
    · have BO := Lib.hid (bit_ok HBR.out (by omega) hB)
      have hv := numAt_lt B t j
      have hb := bitAt_lt B (t + j)
      have HV := Lib.hid (show numAt B (j + 1) t = numAt B j t + bitAt B (t + j) * 2 ^ j from rfl)
      obtain ⟨v, hve⟩ : ∃ v, v = numAt B j t := ⟨_, rfl⟩
      obtain ⟨u, hue⟩ : ∃ u, u = bitAt B (t + j) := ⟨_, rfl⟩
      rw [← hve] at HV hv ⊢
      rw [← hue] at HV hb BO
      clear hve hue
      go_wp2_with fail
      (with_reducible refine BO.out.mono ?_)
      rintro e w2 ⟨rfl, hb2, hg2⟩
      have HB2 := Lib.hid hb2
      have HG2 := Lib.hid (gbT HG.out hg2)
      have HO := Lib.hid (or_bit hv hb (show j ≤ 16 by omega))
      clear hb2 hg2
      go_wp2_with fail
      go_roundg (n - (j + 1))
      case measure => omega
      case rel => exact ⟨j + 1, rfl, by omega, by rw [HO.out, HV.out], by go_num, HB2.out, HG2.out⟩
    · obtain rfl : j = n := by omega
      go_wp2_with fail
      go_ret
      exact ⟨rfl, HBR.out, HG.out⟩

set_option maxRecDepth 100000 in
theorem number_no (n : Nat) {B0 b : Nat} {p : Option Addr} {c : Nat} {B : List UInt8} {t : Nat} {ov gv : Value} {w : World} (hn : n ≤ 16) (h : Bi w B0 b p c B t ov gv) (h8 : t ≤ 8 * B.length) (ht : 8 * B.length < t + n) (hB : B.length ≤ 1099511627776) :
    Calls Tryd.prog 77 #[.pointer (some ⟨b, 0, none⟩), .int .i64 n] w fun e w' => e = .panicked (thrown 4) ∧ w.grownBy w' (some b) := by
  have HB := Lib.hid h
  clear h
  go_enter Tryd.func77, Tryd.ntmps77
  go_wp2_with fail
  go_loopg [5, 8] n (fun m v i wr => ∃ j : Nat, m = n - j ∧ t + j ≤ 8 * B.length ∧ v = .int .i64 (numAt B j t) ∧ i = .int .i64 j ∧ BiR w B0 b p c B (t + j) ov gv wr)
  case atStart => exact ⟨0, rfl, h8, rfl, rfl, HB.out, gbR _ _⟩
  case round =>
    obtain ⟨j, hm, hj, rfl, rfl, hB1, hg⟩ := hrel
    have HBR := Lib.hid hB1
    have HG := Lib.hid hg
    clear hB1 hg
    by_cases hlt : t + j < 8 * B.length
    · have BO := Lib.hid (bit_ok HBR.out (by omega) hB)
      have hv := numAt_lt B t j
      have hb := bitAt_lt B (t + j)
      have HV := Lib.hid (show numAt B (j + 1) t = numAt B j t + bitAt B (t + j) * 2 ^ j from rfl)
      obtain ⟨v, hve⟩ : ∃ v, v = numAt B j t := ⟨_, rfl⟩
      obtain ⟨u, hue⟩ : ∃ u, u = bitAt B (t + j) := ⟨_, rfl⟩
      rw [← hve] at HV hv ⊢
      rw [← hue] at HV hb BO
      clear hve hue
      go_wp2_with fail
      (with_reducible refine BO.out.mono ?_)
      rintro e w2 ⟨rfl, hb2, hg2⟩
      have HB2 := Lib.hid hb2
      have HG2 := Lib.hid (gbT HG.out hg2)
      have HO := Lib.hid (or_bit hv hb (show j ≤ 16 by omega))
      clear hb2 hg2
      go_wp2_with fail
      go_roundg (n - (j + 1))
      case measure => omega
      case rel => exact ⟨j + 1, rfl, by omega, by rw [HO.out, HV.out], by go_num, HB2.out, HG2.out⟩
    · have BN := Lib.hid (bit_no HBR.out (by omega) hB)
      go_wp2_with fail
      (with_reducible refine BN.out.mono ?_)
      rintro e w2 ⟨rfl, hg2⟩
      have HG2 := Lib.hid (gbT HG.out hg2)
      clear hg2
      go_wp2_with fail
      exact ⟨rfl, rfl, HG2.out⟩

set_option maxRecDepth 100000 in
theorem begun_any {B0 b : Nat} {p : Option Addr} {c : Nat} {B : List UInt8} {t : Nat} {ov gv : Value} {w : World} (h : Bi w B0 b p c B t ov gv) (ht : t ≤ 8 * B.length) (hB : B.length ≤ 1099511627776) :
    Calls Tryd.prog 40 #[.pointer (some ⟨b, 0, none⟩)] w fun e w' => e = .returned (.int .i64 (((t + 7) / 8 : Nat) : Int)) ∧ Kept w w' := by
  obtain ⟨c0, c1, c2, c3⟩ := h.cells
  clear h
  go_enter Tryd.func40, Tryd.ntmps40
  go_wp2_with fail
  go_ret
  exact ⟨ret_int (by omega), Kept.refl w⟩

set_option maxRecDepth 100000 in
theorem leaveRest_any {B0 b : Nat} {p : Option Addr} {c : Nat} {B : List UInt8} {t : Nat} {ov gv : Value} {w : World} (h : Bi w B0 b p c B t ov gv) (ht : t ≤ 8 * B.length) (hB : B.length ≤ 1099511627776) :
    Calls Tryd.prog 106 #[.pointer (some ⟨b, 0, none⟩)] w fun e w' => e = .returned (.tuple #[]) ∧ BiR w B0 b p c B (up8 t) ov gv w' := by
  have HB := Lib.hid h
  have BG := Lib.hid (fun w' (k : Kept w w') => begun_any (h.kept k) ht hB)
  have hf := h.blk.free
  clear h
  go_enter Tryd.func106, Tryd.ntmps106
  go_wp2_with fail
  (with_reducible refine (BG.out _ (Kept.refl w)).mono ?_)
  rintro e w1 ⟨rfl, hk⟩
  have HB1 := Lib.hid (HB.out.kept hk)
  obtain ⟨c0, c1, c2, c3⟩ := HB1.out.cells
  have hf := HB1.out.blk.free
  have K1 := Lib.hid hk
  clear hk
  go_wp2_with fail
  refine bodyPost_end (results_none rfl _ _ _) rfl ?_
  exact ⟨rfl, HB1.out.move _ _ (by unfold up8; omega), gbT (gbK K1.out _) (gbS _ _ _ _)⟩

set_option maxRecDepth 100000 in
theorem wholeByte_ok {B0 b : Nat} {p : Option Addr} {c : Nat} {B : List UInt8} {t : Nat} {ov gv : Value} {w : World} (h : Bi w B0 b p c B t ov gv) (ht : t < 8 * B.length) (hB : B.length ≤ 1099511627776) :
    Calls Tryd.prog 108 #[.pointer (some ⟨b, 0, none⟩)] w fun e w' => e = .returned (.int .u8 ((B.getD (t / 8) 0).toNat : Int)) ∧ BiR w B0 b p c B (t + 8) ov gv w' := by
  have HB := Lib.hid h
  have WO := Lib.hid (want_ok h ht hB)
  clear h
  go_enter Tryd.func108, Tryd.ntmps108
  go_wp2_with fail
  (with_reducible refine WO.out.mono ?_)
  rintro e w1 ⟨rfl, hk⟩
  have HB1 := Lib.hid (HB.out.kept hk)
  obtain ⟨c0, c1, c2, c3⟩ := HB1.out.cells
  have hf := HB1.out.blk.free
  have hi : t / 8 < B.length := by omega
  have HV := Lib.hid (show (B.getD (t / 8) 0) = B[t / 8] by simp [List.getD, hi])
  obtain ⟨kb, o, hp, hkb, hc⟩ := HB1.out.byt (t / 8) hi
  subst hp
  have K1 := Lib.hid hk
  clear hk
  go_wp2_with fail
  go_quiet (fail)
  go_wp2_with fail
  go_ret
  have K2 := Lib.hid (show Kept w1 (w1.drewN nq) from (Kept.refl w1).drewN nq)
  exact ⟨by rw [HV.out]; rfl, (HB1.out.kept K2.out).move _ _ (by omega), gbT (gbK (K1.out.trans K2.out) _) (gbS _ _ _ _)⟩

set_option maxRecDepth 100000 in
theorem wholeByte_no {B0 b : Nat} {p : Option Addr} {c : Nat} {B : List UInt8} {t : Nat} {ov gv : Value} {w : World} (h : Bi w B0 b p c B t ov gv) (ht : t = 8 * B.length) (hB : B.length ≤ 1099511627776) :
    Calls Tryd.prog 108 #[.pointer (some ⟨b, 0, none⟩)] w fun e w' => e = .panicked (thrown 4) ∧ w.grownBy w' (some b) := by
  have WO := Lib.hid (want_no h ht hB)
  clear h
  go_enter Tryd.func108, Tryd.ntmps108
  go_wp2_with fail
  (with_reducible refine WO.out.mono ?_)
  rintro e w1 ⟨rfl, hk⟩
  go_wp2_with fail
  exact ⟨rfl, rfl, gbK hk _⟩

end Go.Proofs.YtpplboihlndfpaaDoor
