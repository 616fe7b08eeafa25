/-
  XrefWrites, out of what the reference's Write and Merge answer.
-/
import Derived.Test.YtoablpaehhjchaaGreatDoorXrfAwake
import Derived.Test.YtoablpaehhjchaaGreatDoorXrfArgs
import Derived.Test.YtoablpaehhjchaaGreatDoorXrfThem
namespace Go.Proofs.YtoablpaehhjchaaGreatDoor
open Go.RowKit Rx
set_option linter.unusedSimpArgs false
set_option linter.unusedVariables false

/-- What the reference's Write answers. -/
def RefWrites : Prop := ∀ (l : List Xent) (p : Option Addr) (c : Nat) (w : World), EntR w w.heap.size p l → l.length ≤ 1048576 →
    Calls Tryz.prog 8 #[.slice p l.length c] w fun e w' => e = .returned (.tuple #[.string ⟨(writeV l).toArray⟩, .int .i64 (writeE l)]) ∧ Kept w w'
/-- What the reference's Merge answers. -/
def RefMerges : Prop := ∀ (a b : List Xent) (pa pb : Option Addr) (ca cb : Nat) (w : World), Sl w pa ca a → Sl w pb cb b → a.length + b.length ≤ 1048576 → (∀ e ∈ a ++ b, Wf e) →
    Calls Tryz.prog 12 #[.slice pa a.length ca, .slice pb b.length cb] w fun e w' => ∃ p c m, e = .returned (.slice p m.length c) ∧ IsM (a ++ b) m ∧ EntR w' w'.heap.size p m ∧ Kept w w'

theorem theirs_full (l : List Xent) (p : Option Addr) (c : Nat) (w : World) (h : EntR w w.heap.size p l) (hB : l.length ≤ 1099511627776) :
    Calls Tryz.prog 9 #[.slice p l.length c] w fun e w' => ∃ p' c', e = .returned (.slice p' l.length c') ∧ Sl w' p' c' l ∧ Kept w w' := by
  refine (xtheirs_any l p c w h hB).mono ?_
  rintro e w' ⟨v, rfl, hE, hk⟩
  obtain ⟨p', c', rfl, hS⟩ := hE.sl
  exact ⟨p', c', rfl, hS, hk⟩
theorem Merge_full (a b : List Xent) (pa pb : Option Addr) (ca cb : Nat) (w : World) (ha : Sl w pa ca a) (hb : Sl w pb cb b) (hs : a.length + b.length ≤ 1099511627776) (hwf : ∀ e ∈ a ++ b, Wf e) :
    Calls Tryz.prog 11 #[.slice pa a.length ca, .slice pb b.length cb] w fun e w' => ∃ p c m, e = .returned (.slice p m.length c) ∧ IsM (a ++ b) m ∧ EntR w' w'.heap.size p m ∧ Kept w w' := by
  refine (Merge_any a b pa pb ca cb w ha hb hs hwf).mono ?_
  rintro e w' ⟨v, m, rfl, hm, hE, hk⟩
  obtain ⟨p, c, rfl, hS⟩ := hE.sl
  exact ⟨p, c, m, rfl, hm, hS.1, hk⟩
theorem Sl.lie {w : World} {p : Option Addr} {c : Nat} {l : List Xent} (h : Sl w p c l) : EntR w w.heap.size p l := h.1

set_option maxRecDepth 100000 in
set_option maxHeartbeats 8000000 in
theorem writes_long (l old : List Xent) (pa pb : Option Addr) (ca cb : Nat) (w : World) (h : Okw w) (hs : 60 < l.length ∨ 60 < old.length) :
    Calls Tryz.prog 3 #[.slice pa l.length ca, .slice pb old.length cb] w fun e w' => e = .returned (.bool true) ∧ Kept w w' := by
  obtain ⟨hm, B, hf, hB⟩ := h
  have CA := Lib.hid (awake8_any B w hm hf hB)
  clear hm hf hB
  by_cases h1 : 60 < l.length
  · have i1 : (60 : Int) < (l.length : Int) := by omega
    clear hs
    go_enter Tryz.func3, Tryz.ntmps3
    go_wp2_with fail
    (with_reducible refine CA.out.mono ?_)
    rintro e w1 ⟨rfl, hk1⟩
    go_wp2_with fail
    go_ret
    exact ⟨rfl, hk1⟩
  · have h2 : 60 < old.length := by omega
    have i1 : ¬ (60 : Int) < (l.length : Int) := by omega
    have i2 : (60 : Int) < (old.length : Int) := by omega
    clear hs
    go_enter Tryz.func3, Tryz.ntmps3
    go_wp2_with fail
    (with_reducible refine CA.out.mono ?_)
    rintro e w1 ⟨rfl, hk1⟩
    go_wp2_with fail
    go_ret
    exact ⟨rfl, hk1⟩

set_option maxRecDepth 100000 in
set_option maxHeartbeats 16000000 in
theorem writes_short (RW : RefWrites) (RM : RefMerges) (l old : List Xent) (pa pb : Option Addr) (ca cb : Nat) (w : World) (h : Okw w) (ha : Sl w pa ca l) (hb : Sl w pb cb old) (wa : ∀ e ∈ l, Wf3 e) (wb : ∀ e ∈ old, Wf3 e) (h60 : l.length ≤ 60) (h61 : old.length ≤ 60) :
    Calls Tryz.prog 3 #[.slice pa l.length ca, .slice pb old.length cb] w fun e w' => e = .returned (.bool true) ∧ Kept w w' := by
  obtain ⟨hm, B, hf, hB⟩ := h
  have CA := Lib.hid (awake8_any B w hm hf hB)
  obtain ⟨S, hS⟩ : ∃ S : ByteArray, S = ⟨(writeV l).toArray⟩ := ⟨_, rfl⟩
  obtain ⟨E, hE⟩ : ∃ E, E = writeE l := ⟨_, rfl⟩
  have CW := Lib.hid (show ∀ W, Kept w W → Calls Tryz.prog 7 #[.slice pa l.length ca] W fun e w' => e = .returned (.tuple #[.string S, .int .i64 E]) ∧ Kept W w' from fun W hk => by
    rw [hS, hE]
    exact Write_any l pa ca B W (ha.1.see hk) (hf.kept hB hk) (Nat.le_trans hB (Below.size hk)) (fun t ht => (wa t ht).2) ha.2.2 (by omega))
  have CR := Lib.hid (show ∀ (p : Option Addr) (c : Nat) W, EntR W W.heap.size p l → Calls Tryz.prog 8 #[.slice p l.length c] W fun e w' => e = .returned (.tuple #[.string S, .int .i64 E]) ∧ Kept W w' from fun p c W he => by
    rw [hS, hE]
    exact RW l p c W he (by omega))
  have hwf : ∀ e ∈ l ++ old, Wf e := fun e he => (List.mem_append.1 he).elim (fun h => (wa e h).1) (fun h => (wb e h).1)
  have CM := Lib.hid (fun W (k : Kept w W) => Merge_full l old pa pb ca cb W (ha.see k) (hb.see k) (by omega) hwf)
  have CRM := Lib.hid (fun (p q : Option Addr) (c d : Nat) W (h1 : Sl W p c l) (h2 : Sl W q d old) => RM l old p q c d W h1 h2 (by omega) hwf)
  have SA := Lib.hid ha
  have SB := Lib.hid hb
  have i1 : ¬ (60 : Int) < (l.length : Int) := by omega
  have i2 : ¬ (60 : Int) < (old.length : Int) := by omega
  have l40 : l.length ≤ 1099511627776 := by omega
  have o40 : old.length ≤ 1099511627776 := by omega
  clear hm hf hB ha hb wa wb hwf hS hE RW RM
  go_enter Tryz.func3, Tryz.ntmps3
  go_wp2_with fail
  (with_reducible refine CA.out.mono ?_)
  rintro e w1 ⟨rfl, hk1⟩
  have K1 := Lib.hid hk1
  clear hk1
  go_wp2_with fail
  (with_reducible refine (CW.out w1 K1.out).mono ?_)
  rintro e w2 ⟨rfl, hk2⟩
  have K2 := Lib.hid (K1.out.trans hk2)
  clear hk2
  go_wp2_with fail
  (with_reducible refine (theirs_full l pa ca w2 (SA.out.see K2.out).lie l40).mono ?_)
  rintro e w3 ⟨p3, c3, rfl, hS3, hk3⟩
  have S3 := Lib.hid hS3
  have K3 := Lib.hid (K2.out.trans hk3)
  clear hS3 hk3
  go_wp2_with fail
  (with_reducible refine (CR.out p3 c3 w3 S3.out.lie).mono ?_)
  rintro e w4 ⟨rfl, hk4⟩
  have K4 := Lib.hid (K3.out.trans hk4)
  clear hk4
  go_wp2_with fail
  (with_reducible refine (CM.out w4 K4.out).mono ?_)
  rintro e w5 ⟨p5, c5, m, rfl, hM, hE5, hk5⟩
  have HM := Lib.hid hM
  have E5 := Lib.hid hE5
  have K5 := Lib.hid (K4.out.trans hk5)
  have hml : m.length ≤ 1099511627776 := by have := isM_len hM; rw [List.length_append] at this; omega
  clear hM hE5 hk5
  go_wp2_with fail
  (with_reducible refine (theirs_full m p5 c5 w5 E5.out hml).mono ?_)
  rintro e w6 ⟨p6, c6, rfl, hS6, hk6⟩
  have S6 := Lib.hid hS6
  have K6 := Lib.hid (K5.out.trans hk6)
  clear hS6 hk6
  go_wp2_with fail
  (with_reducible refine (theirs_full l pa ca w6 (SA.out.see K6.out).lie l40).mono ?_)
  rintro e w7 ⟨p7, c7, rfl, hS7, hk7⟩
  have S7 := Lib.hid hS7
  have S6' := Lib.hid (S6.out.see hk7)
  have K7 := Lib.hid (K6.out.trans hk7)
  clear hS7 hk7
  go_wp2_with fail
  (with_reducible refine (theirs_full old pb cb w7 (SB.out.see K7.out).lie o40).mono ?_)
  rintro e w8 ⟨p8, c8, rfl, hS8, hk8⟩
  have S8 := Lib.hid hS8
  have S7' := Lib.hid (S7.out.see hk8)
  have S6'' := Lib.hid (S6'.out.see hk8)
  have K8 := Lib.hid (K7.out.trans hk8)
  clear hS8 hk8
  go_wp2_with fail
  (with_reducible refine (CRM.out p7 p8 c7 c8 w8 S7'.out S8.out).mono ?_)
  rintro e w9 ⟨p9, c9, m', rfl, hM9, hE9, hk9⟩
  obtain rfl : m = m' := isM_one HM.out hM9
  have E9 := Lib.hid hE9
  have S9 := Lib.hid (S6''.out.see hk9)
  have K9 := Lib.hid (K8.out.trans hk9)
  clear hM9 hE9 hk9
  go_wp2_with fail
  (with_reducible refine (refSame_any m p6 p9 c6 c9 w9 S9.out.lie E9.out hml).mono ?_)
  rintro e w10 ⟨rfl, hk10⟩
  have K10 := Lib.hid (K9.out.trans hk10)
  clear hk10
  go_wp2_with fail
  go_ret
  exact ⟨rfl, K10.out⟩

theorem XrefWrites_of (RW : RefWrites) (RM : RefMerges) (va : Value) (l : List Xent) (vb : Value) (old : List Xent) (w : World) (h : Okw w) (ha : EntArg w va l) (hb : EntArg w vb old) :
    Calls Tryz.prog 3 #[va, vb] w fun e w' => e = .returned (.bool true) ∧ Kept w w' := by
  obtain ⟨pa, ca, rfl, sa, -, wa⟩ := ha
  obtain ⟨pb, cb, rfl, sb, -, wb⟩ := hb
  by_cases hs : 60 < l.length ∨ 60 < old.length
  · exact writes_long l old pa pb ca cb w h hs
  · exact writes_short RW RM l old pa pb ca cb w h sa sb wa wb (by omega) (by omega)

end Go.Proofs.YtoablpaehhjchaaGreatDoor
