/-
  Entries as a table: run, a run's lines, Write.
-/
import Derived.Test.YtoablpaehhjchaaGreatDoorXrfPut
namespace Go.Proofs.YtoablpaehhjchaaGreatDoor
open Go.RowKit Rx
set_option linter.unusedSimpArgs false
set_option linter.unusedVariables false

/-- Bytes of the call's own. -/
def OutB (w : World) (B : Nat) (v : Value) (l : List UInt8) : Prop := w.ownsRow B 5 1 v l.length (Lib.byteCells l)
theorem OutB.lt {w : World} {B : Nat} {v : Value} {l : List UInt8} (h : OutB w B v l) : ∀ k, v.ownBlock = some k → B ≤ k ∧ k < w.heap.size := World.ownsRow.lt h
theorem OutB.kept {w w' : World} {B : Nat} {v : Value} {l : List UInt8} (h : OutB w B v l) (k : Kept w w') : OutB w' B v l :=
  World.ownsRow.kept h (gbX k none) (by cases hv : v.ownBlock with
    | none => exact .inl rfl
    | some g => exact .inr (by simp))
theorem Blk.not_out {w : World} {b B : Nat} {cs : Array Value} {t : TypeId} {v : Value} {l : List UInt8} (h : Blk w b cs t) (ho : OutB w B v l) (hne : t ≠ 5) : some b ≠ v.ownBlock := by
  rcases ho.2 with ⟨rfl, _⟩ | ⟨g, cap, cur, rfl, _, hgb, _⟩
  · simp [Value.ownBlock]
  · intro e
    obtain rfl : b = g := by simpa [Value.ownBlock] using e
    have := (show w.heap[b]? = _ from h).symm.trans hgb
    simp at this
    exact hne this.2
theorem info_byteX : (Tryz.prog.info? 5).map (fun i => (i.zero, i.size, i.bytes)) = some (some (.int .u8 0), 1, 1) := by kernel_rfl

section
variable {ops : Array Oper} {rest : List Oper} {o : Oper} {a : Act} {Q : Exit → Act → World → Prop}
/-- A text is appended to own bytes. -/
theorem wpList_app_text (hgd : o.guard = none) (s x : Operand) (ho : o.op = .call { callee := .builtin .append, args := #[s, x], argTypes := #[69, 9] })
    {W : World} {B : Nat} {v : Value} {l : List UInt8} (hown : OutB W B v l) (hs : a.eval s = v) (t : ByteArray) (hx : a.eval x = .string t) (hB : B ≤ W.heap.size) (hlen : l.length + t.size ≤ 1099511627776)
    (h : ∀ v' w', OutB w' B v' (l ++ t.data.toList) → W.grownBy w' v.ownBlock → wpList Tryz.prog ops Q rest (a.put o.dst v') w') : wpList Tryz.prog ops Q (o :: rest) a W := by
  obtain ⟨i0, hi, hz0, hz1, hz2⟩ := info_parts info_byteX
  refine Lib.wpList_append_own_string _ hgd s x 69 9 ho B 5 i0 Tryz.underlying69 Tryz.underlying9 hi hz0 hz1 hz2 v l.length (Lib.byteCells l) hs hown t hx (by unfold maxLen; omega) (by omega) hB ?_
  intro v' w' h1 h2 _
  refine h v' w' ?_ h2
  unfold OutB
  rw [List.length_append, Lib.byteCells_append]
  simpa [Lib.strCells_eq] using h1
/-- One byte is appended to own bytes. -/
theorem wpList_app_one (hgd : o.guard = none) (s x : Operand) (ho : o.op = .call { callee := .builtin .append, args := #[s, x], argTypes := #[69, 69] })
    {W : World} {B : Nat} {v : Value} {l : List UInt8} (hown : OutB W B v l) (hs : a.eval s = v) (c : UInt8) (cells : Array Value) (hc : cells = #[.int .u8 (c.toNat : Int)]) (hx : a.eval x = .slice (some ⟨W.heap.size, 0, none⟩) 1 1) (hB : B ≤ W.heap.size) (hlen : l.length ≤ 1099511627776)
    (h : ∀ v' w', OutB w' B v' (l ++ [c]) → (W.alloc (.cells cells 5)).grownBy w' v.ownBlock → wpList Tryz.prog ops Q rest (a.put o.dst v') w') : wpList Tryz.prog ops Q (o :: rest) a (W.alloc (.cells cells 5)) := by
  obtain ⟨i0, hi, hz0, hz1, hz2⟩ := info_parts info_byteX
  subst hc
  refine wpList_append_own _ hgd s x 69 ho B 5 i0 _ 1 1 Tryz.underlying69 hi hz0 hz1 hz2 rfl (by decide) v l.length (Lib.byteCells l) hs (World.ownsRow.alloc hown _) ⟨W.heap.size, 0, none⟩ 1 1 [.int .u8 (c.toNat : Int)] hx rfl
    ?_ (by simp [Value.oneCell']) (by unfold maxLen; omega) (by omega) (by simp; omega) ?_
  · intro j u hj
    rw [Addr.add_lit, Nat.zero_add, (Blk.fresh W #[.int .u8 (c.toNat : Int)] 5).cell j]
    simpa using hj
  · intro v' w' h1 h2 _
    refine h v' w' ?_ h2
    unfold OutB
    rw [List.length_append, Lib.byteCells_append]
    exact h1
end

set_option maxRecDepth 100000 in
set_option maxHeartbeats 2000000 in
theorem run_any (l : List Xent) (k of c : Nat) (w : World) (hne : l ≠ []) (h : EntR w w.heap.size (some ⟨k, of, none⟩) l) (hn : ∀ t ∈ l, 0 ≤ t.n ∧ t.n ≤ 4096) (hl : l.length ≤ 1048576) :
    Calls Tryz.prog 27 #[.slice (some ⟨k, of, none⟩) l.length c] w fun e w' => e = .returned (.int .i64 (runL l : Nat)) ∧ Kept w w' := by
  have HT := Lib.hid h
  obtain ⟨e0, r0, hl0⟩ : ∃ e r, l = e :: r := by cases l with
    | nil => exact absurd rfl hne
    | cons e r => exact ⟨e, r, rfl⟩
  have hpos : 0 < l.length := by rw [hl0]; simp
  have hp0 : (0 : Int) < (l.length : Int) := by omega
  have h00 := hn e0 (by rw [hl0]; exact List.mem_cons_self)
  have HE := Lib.hid (show l[0]'hpos = e0 by subst hl0; rfl)
  have HS := Lib.hid (show runL l = 1 + runF (e0.n + ((1 : Nat) : Int)) (l.drop 1) by rw [hl0, runL, List.drop_succ_cons, List.drop_zero, show e0.n + ((1 : Nat) : Int) = e0.n + 1 from rfl]; omega)
  have HNN := Lib.hid hn
  clear h hl0 hne hn
  go_enter Tryz.func27, Tryz.ntmps27
  go_wp2_with fail
  go_loopg [3] l.length (fun x y wr => ∃ (n : Nat), x = l.length + 1 - n ∧ 1 ≤ n ∧ n ≤ l.length ∧ y = .int .i64 n ∧ Hid (runL l = n + runF (e0.n + n) (l.drop n)) ∧ Kept w wr)
  case atStart => exact ⟨1, by omega, Nat.le_refl _, hpos, rfl, Lib.hid HS.out, Kept.refl w⟩
  case round =>
    obtain ⟨n, hx, hn1, hn2, rfl, HR, hk⟩ := hrel
    have HK := Lib.hid hk
    obtain ⟨kb0, o0, hp0', -, a0, a1, a2, a3⟩ := (HT.out.keep (Nat.le_refl _) hk) 0 hpos
    rw [HE.out] at a0
    injection hp0' with hp0'
    injection hp0' with e1 e2
    subst e1 e2
    simp only [Nat.zero_mul, Nat.add_zero] at a0
    clear hk a1 a2 a3 HS
    by_cases hlt : n < l.length
    · have j1 : (n : Int) < (l.length : Int) := by omega
      have j2 : (0 : Int) ≤ (n : Int) := by omega
      obtain ⟨kb, o, hp, hkb, c0, c1, c2, c3⟩ := (HT.out.keep (Nat.le_refl _) HK.out) n hlt
      injection hp with hp
      injection hp with e1 e2
      subst e1 e2
      have hdr : l.drop n = l[n] :: l.drop (n + 1) := List.drop_eq_getElem_cons hlt
      obtain ⟨t, ht⟩ : ∃ t, t = l[n] := ⟨_, rfl⟩
      rw [← ht] at c0 hdr
      have HD := Lib.hid hdr
      clear hdr ht c1 c2 c3
      obtain ⟨tn, htn⟩ : ∃ tn, tn = t.n := ⟨_, rfl⟩
      obtain ⟨en, hen⟩ : ∃ en, en = e0.n := ⟨_, rfl⟩
      rw [← htn] at c0
      rw [← hen] at a0 HR h00
      have i1 : IntKind.i64.wrap (en + (n : Int)) = en + (n : Int) := IntWalk.i64_in _ (by omega)
      have HTN := Lib.hid htn
      clear htn
      by_cases heq : tn = en + (n : Int)
      · have hd : (tn == en + (n : Int)) = true := by simpa using heq
        have HV := Lib.hid (show runL l = (n + 1) + runF (en + ((n + 1 : Nat) : Int)) (l.drop (n + 1)) by
          rw [HR.out, HD.out, runF, if_pos (by rw [← HTN.out]; exact heq), show en + ((n + 1 : Nat) : Int) = en + (n : Int) + 1 by omega]; omega)
        subst heq
        clear hd
        have hd : ((en + (n : Int)) == (en + (n : Int))) = true := by simp
        go_wp2_with fail
        go_quiet (fail)
        go_wp2_with fail
        go_roundg (l.length + 1 - (n + 1))
        case measure => omega
        case rel => exact ⟨n + 1, rfl, by omega, by omega, by go_num, Lib.hid (by rw [← hen]; exact HV.out), HK.out.drewN _⟩
      · have hd : (tn == en + (n : Int)) = false := by simpa using heq
        have HV := Lib.hid (show runL l = n by rw [HR.out, HD.out, runF, if_neg (by rw [← HTN.out]; exact heq), Nat.add_zero])
        clear heq
        go_wp2_with fail
        go_quiet (fail)
        go_wp2_with fail
        go_ret
        exact ⟨by rw [HV.out]; rfl, HK.out.drewN _⟩
    · obtain rfl : n = l.length := by omega
      have HV := Lib.hid (show runL l = l.length by rw [HR.out, List.drop_length, runF]; rfl)
      go_wp2_with fail
      go_quiet (fail)
      go_wp2_with fail
      go_ret
      exact ⟨by rw [HV.out]; rfl, HK.out.drewN _⟩

theorem bytes_appendX (a b : List UInt8) : (⟨a.toArray⟩ : ByteArray) ++ ⟨b.toArray⟩ = ⟨(a ++ b).toArray⟩ := by
  apply ByteArray.ext
  rw [ByteArray.data_append]
  simp
theorem ret_strX {a b : ByteArray} (h : a = b) : Ending.returned (.string a) = .returned (.string b) := by rw [h]

set_option maxRecDepth 100000 in
theorem padded_any (n : Int) (k : Nat) (B : Nat) (w : World) (hf : TB B w) (hB : B ≤ w.heap.size) (h0 : 0 ≤ n) (h1 : n.toNat < 10 ^ k) (hk : 1 ≤ k) (hk2 : k ≤ 10) (hn : n ≤ 9999999999) :
    Calls Tryz.prog 47 #[.int .i64 n, .int .i64 k] w fun e w' => e = .returned (.string ⟨(digs k n.toNat).toArray⟩) ∧ Kept w w' := by
  have hnd : Lib.nDigits n.toNat ≤ k := (nDigits_le_iff hk).2 h1
  obtain ⟨S, hS⟩ : ∃ S, S = (⟨(Lib.itoa n).toArray⟩ : ByteArray) := ⟨_, rfl⟩
  have hsz : S.size = Lib.nDigits n.toNat := by
    rw [hS]; show ((Lib.itoa n).toArray).size = _
    rw [List.size_toArray, itoaN h0, Lib.decDigits_length]
  have C1 := Lib.hid (show Calls Tryz.prog 75 #[.int .i64 n] w fun e w' => e = .returned (.string S) ∧ Kept w w' from by rw [hS]; exact ItoaX n w (by omega) (by omega) hf)
  obtain ⟨j, hj⟩ : ∃ j, k = S.size + j := ⟨k - S.size, by omega⟩
  have CR := Lib.hid (fun W => show Calls Tryz.prog 77 #[.string ⟨#[48]⟩, .int .i64 j] W fun e w' => e = .returned (.string ⟨(List.replicate j 48).toArray⟩) ∧ Kept W w' from
    (Tryz.strings_Repeat ⟨#[48]⟩ j W (by omega) (by show 1 * j ≤ _; omega)).mono fun e w' ⟨he, hw⟩ => ⟨by rw [he]; exact ret_strX (by rw [show (⟨#[48]⟩ : ByteArray).data.toList = [48] from rfl, repeat_zero]), hw⟩)
  have s1 : S.size ≤ 10 := by omega
  have s2 : j ≤ 10 := by omega
  have HV := Lib.hid (show (⟨(List.replicate j 48).toArray⟩ : ByteArray) ++ S = ⟨(digs k n.toNat).toArray⟩ by
    rw [hS, bytes_appendX, itoaN h0]
    congr 2
    obtain ⟨m, rfl⟩ : ∃ m, k = m + 1 := ⟨k - 1, by omega⟩
    rw [digs_dec m n.toNat h1, ← hsz, hj, Nat.add_sub_cancel_left])
  obtain ⟨R0, hR0⟩ : ∃ R0, R0 = (⟨(List.replicate j 48).toArray⟩ : ByteArray) := ⟨_, rfl⟩
  have s3 : R0.size ≤ 10 := by rw [hR0]; show ((List.replicate j 48).toArray).size ≤ 10; simp; omega
  rw [← hR0] at CR HV
  have i1 : IntKind.i64.wrap ((k : Int) - (S.size : Int)) = (j : Int) := by rw [show (k : Int) - (S.size : Int) = (j : Int) by omega]; exact IntWalk.i64_in _ (by omega)
  clear hS hnd h1 hj hsz hf hR0
  go_enter Tryz.func47, Tryz.ntmps47
  go_wp2_with (first | (go_at_call 75; refine C1.out.mono ?_; rintro e w1 ⟨rfl, hk1⟩) | (go_at_call 77; refine (CR.out _).mono ?_; rintro e w2 ⟨rfl, hk2'⟩))
  go_ret
  exact ⟨ret_strX HV.out, hk1.trans hk2'⟩

theorem endOf_any (t : Xent) (w : World) : Calls Tryz.prog 48 #[xentV t] w fun e w' => e = .returned (.string ⟨(if t.used then [32, 110, 32, 10] else [32, 102, 32, 10] : List UInt8).toArray⟩) ∧ Kept w w' := by
  obtain ⟨n, o, g, u⟩ := t
  unfold xentV
  cases u
  all_goals
    go_enter Tryz.func48, Tryz.ntmps48
    go_wp2_with fail
    go_ret
    exact ⟨rfl, (Kept.refl w).allocO _⟩

theorem EntR.below {w w' : World} {B : Nat} {p : Option Addr} {l : List Xent} (h : EntR w B p l) (k : Below B w w') : EntR w' B p l := fun i hi => by
  obtain ⟨kb, o, hp, hk, h0, h1, h2, h3⟩ := h i hi
  exact ⟨kb, o, hp, hk, by rw [← h0]; exact k.cell (p := ⟨kb, _, Option.none⟩) hk, by rw [← h1]; exact k.cell (p := ⟨kb, _, Option.none⟩) hk, by rw [← h2]; exact k.cell (p := ⟨kb, _, Option.none⟩) hk, by rw [← h3]; exact k.cell (p := ⟨kb, _, Option.none⟩) hk⟩
theorem AppI (B : Nat) (i : Int) (v : Value) (acc : List UInt8) (w : World) (ho : OutB w B v acc) (hB : B ≤ w.heap.size) (ht : TB B w) (h0 : 0 ≤ i) (h1 : i ≤ 1099511627776) (hl : acc.length ≤ 1099511627776) :
    Calls Tryz.prog 46 #[v, .int .i64 i, .int .i64 10] w fun e w' => ∃ v', e = .returned v' ∧ OutB w' B v' (acc ++ Lib.itoa i) ∧ Below B w w' :=
  (Tryz.strconv_AppendInt_10 B acc.length i (by omega) (by omega) v (Lib.byteCells acc) w ho hB (by omega) ht).mono fun e w' ⟨v', he, h1, h2, _⟩ => ⟨v', he, by unfold OutB; rw [List.length_append, Lib.byteCells_append]; exact h1, h2⟩
theorem below_app {B : Nat} {w w1 w2 : World} {v : Value} {l : List UInt8} (h : Below B w w1) (ho : OutB w1 B v l) (hg : w1.grownBy w2 v.ownBlock) (hB : B ≤ w1.heap.size) : Below B w w2 :=
  Below.grown h hg hB (fun k e => (ho.lt k e).1)

set_option maxRecDepth 100000 in
set_option maxHeartbeats 8000000 in
theorem appendSection_of (e0 : Xent) (r0 l : List Xent) (k of c B : Nat) (v : Value) (acc : List UInt8) (w : World) (hl0 : l = e0 :: r0) (hE : EntR w B (some ⟨k, of, none⟩) l) (hv : Calls Tryz.prog 46 #[v, .int .i64 e0.n, .int .i64 10] w fun e w' => ∃ v', e = .returned v' ∧ OutB w' B v' (acc ++ Lib.itoa e0.n) ∧ Below B w w') (hB : B ≤ w.heap.size) (hT : TB B w)
    (hg : ∀ t ∈ l, 0 ≤ t.n ∧ t.n < 4096 ∧ 0 ≤ t.off ∧ t.off ≤ 9999999999 ∧ 0 ≤ t.gen ∧ t.gen ≤ 99999) (hl : l.length ≤ 1048576) (hacc : acc.length ≤ 1073741824) :
    Calls Tryz.prog 28 #[v, .slice (some ⟨k, of, none⟩) l.length c] w fun e w' => ∃ v', e = .returned v' ∧ OutB w' B v' (acc ++ headT e0.n l.length ++ l.flatMap lineT) ∧ Below B w w' := by
  have hpos : 0 < l.length := by rw [hl0]; simp
  have hp0 : (0 : Int) < (l.length : Int) := by omega
  have HE0 := Lib.hid (show l[0]'hpos = e0 by subst hl0; rfl)
  have h00 := hg e0 (by rw [hl0]; exact List.mem_cons_self)
  have HE := Lib.hid hE
  have HG := Lib.hid hg
  have HT := Lib.hid hT
  have C1 := Lib.hid hv
  have hd1 : (Lib.itoa e0.n).length ≤ 20 := (Fx.itoa_len h00.1 (by omega)).2
  have hd2 : (Lib.itoa (l.length : Int)).length ≤ 20 := (Fx.itoa_len (by omega) (by omega)).2
  obtain ⟨kb0, o0, hp0', hkB, a0, a1, a2, a3⟩ := hE 0 hpos
  rw [HE0.out] at a0
  injection hp0' with hp0'
  injection hp0' with e1 e2
  subst e1 e2
  simp only [Nat.zero_mul, Nat.add_zero] at a0
  have HH := Lib.hid (show headT e0.n l.length = Lib.itoa e0.n ++ [32] ++ Lib.itoa (l.length : Int) ++ [10] by unfold headT; rw [itoaN h00.1, itoaN (by omega), Int.toNat_natCast])
  clear hl0 hE hv hT hg a1 a2 a3
  go_enter Tryz.func28, Tryz.ntmps28
  go_wp2_with fail
  (with_reducible refine C1.out.mono ?_)
  rintro e w1 ⟨v1, rfl, ho1, hb1⟩
  have O1 := Lib.hid ho1
  have B1 := Lib.hid hb1
  have z1 := Nat.le_trans hB hb1.size
  clear ho1 hb1
  go_wp2_with (at_builtin; refine wpList_app_one (by rfl) _ _ (by rfl) O1.out (by rfl) 32 _ (by rfl) (by rfl) z1 (by rw [List.length_append]; omega) ?_; intro v2 w2 ho2 hg2; have O2 := Lib.hid ho2; have B2 := Lib.hid (Below.grown (B1.out.trans ((Below.refl B w1).alloc z1 _)) hg2 (by simp; omega) (fun k e => (O1.out.lt k e).1)); have z2 := Nat.le_trans hB B2.out.size; clear ho2 hg2)
  (with_reducible refine (AppI B (l.length : Int) v2 _ w2 O2.out z2 (HT.out.on B2.out) (by omega) (by omega) (by simp only [List.length_append, List.length_singleton]; omega)).mono ?_)
  rintro e w3 ⟨v3, rfl, ho3, hb3⟩
  have O3 := Lib.hid ho3
  have B3 := Lib.hid (B2.out.trans hb3)
  have z3 := Nat.le_trans hB B3.out.size
  clear ho3 hb3 O2 B2 z2 O1 B1 z1
  go_wp2_with (at_builtin; refine wpList_app_one (by rfl) _ _ (by rfl) O3.out (by rfl) 10 _ (by rfl) (by rfl) z3 (by simp only [List.length_append, List.length_singleton]; omega) ?_; intro v4 w4 ho4 hg4; have O4 := Lib.hid (show OutB w4 B v4 (acc ++ headT e0.n l.length) from by rw [HH.out]; simpa [List.append_assoc] using ho4); have B4 := Lib.hid (Below.grown (B3.out.trans ((Below.refl B w3).alloc z3 _)) hg4 (by simp; omega) (fun k e => (O3.out.lt k e).1)); clear ho4 hg4)
  have hhl : (acc ++ headT e0.n l.length).length ≤ 1073742848 := by rw [HH.out]; simp only [List.length_append, List.length_singleton]; omega
  obtain ⟨A, hA⟩ : ∃ A, A = acc ++ headT e0.n l.length := ⟨_, rfl⟩
  rw [← hA] at O4 hhl
  have HA := Lib.hid hA
  clear O3 B3 z3 hA HH hd1 hd2 a0
  go_loopg [0, 25] (l.length + 1) (fun x ov y wr => ∃ (j : Nat) (vv : Value), vv = ov ∧ x = l.length + 1 - j ∧ j ≤ l.length ∧ y = .int .i64 j ∧ OutB wr B vv (A ++ (l.take j).flatMap lineT) ∧ Below B w wr)
  case atStart => exact ⟨0, v4, rfl, rfl, Nat.zero_le _, rfl, by simpa using O4.out, B4.out⟩
  case round =>
    obtain ⟨j, vv, rfl, hx, hj, rfl, ho, hb⟩ := hrel
    have OO := Lib.hid ho
    have BB := Lib.hid hb
    have zz := Nat.le_trans hB hb.size
    clear ho hb O4 B4
    by_cases hlt : j < l.length
    · have j1 : (j : Int) < (l.length : Int) := by omega
      obtain ⟨kb, o, hp, hkb, c0, c1, c2, c3⟩ := (HE.out.below BB.out) j hlt
      injection hp with hp
      injection hp with e1 e2
      subst e1 e2
      have htk : l.take (j + 1) = l.take j ++ [l[j]] := List.take_succ_eq_append_getElem hlt
      have hgt := HG.out l[j] (List.getElem_mem hlt)
      obtain ⟨t, ht⟩ : ∃ t, t = l[j] := ⟨_, rfl⟩
      rw [← ht] at c0 c1 c2 c3 htk hgt
      obtain ⟨g1, g2, g3, g4, g5, g6⟩ := hgt
      have hfl : ((l.take j).flatMap lineT).length ≤ 1024 * j := by
        have hgen : ∀ m : List Xent, (m.flatMap lineT).length ≤ 20 * m.length := by
          intro m
          induction m with
          | nil => simp
          | cons x xs ih =>
            rw [List.flatMap_cons, List.length_append, List.length_cons]
            have : (lineT x).length = 20 := by unfold lineT; simp only [List.length_append, digs_len, List.length_singleton]; split <;> rfl
            omega
        have := hgen (l.take j)
        rw [List.length_take] at this; omega
      have hql : (A ++ (l.take j).flatMap lineT).length ≤ 1099511627000 := by rw [List.length_append]; omega
      obtain ⟨Q1, hQ1⟩ : ∃ Q1, Q1 = A ++ (l.take j).flatMap lineT := ⟨_, rfl⟩
      rw [← hQ1] at OO hql
      have HL := Lib.hid (show Q1 ++ digs 10 t.off.toNat ++ [32] ++ digs 5 t.gen.toNat ++ (if t.used then [32, 110, 32, 10] else [32, 102, 32, 10]) = A ++ (l.take (j + 1)).flatMap lineT by
        rw [htk, List.flatMap_append, hQ1, List.flatMap_cons, List.flatMap_nil, lineT]; simp)
      have TT := Lib.hid (HT.out.on BB.out)
      have BE := Lib.hid (Blk.fresh wr #[.int .i64 t.n, .int .i64 t.off, .int .i64 t.gen, .bool t.used] 65)
      have KE := Lib.hid (show Kept wr (wr.alloc (.cells #[.int .i64 t.n, .int .i64 t.off, .int .i64 t.gen, .bool t.used] 65)) from (Kept.refl wr).allocO _)
      have P1 := Lib.hid (show Calls Tryz.prog 47 #[.int .i64 t.off, .int .i64 10] (wr.alloc (.cells #[.int .i64 t.n, .int .i64 t.off, .int .i64 t.gen, .bool t.used] 65)) fun e w' => e = .returned (.string ⟨(digs 10 t.off.toNat).toArray⟩) ∧ Kept _ w' from
        padded_any t.off 10 B _ (TT.out.kept zz KE.out) (Nat.le_trans zz (Below.size KE.out)) g3 (by omega) (by decide) (by decide) g4)
      have P2 := Lib.hid (fun W (hT : TB B W) (hB : B ≤ W.heap.size) => show Calls Tryz.prog 47 #[.int .i64 t.gen, .int .i64 5] W fun e w' => e = .returned (.string ⟨(digs 5 t.gen.toNat).toArray⟩) ∧ Kept W w' from
        padded_any t.gen 5 B W hT hB g5 (by omega) (by decide) (by decide) (by omega))
      have CE := Lib.hid (fun W => endOf_any t W)
      unfold xentV at CE
      obtain ⟨S1, hS1⟩ : ∃ S1, S1 = (⟨(digs 10 t.off.toNat).toArray⟩ : ByteArray) := ⟨_, rfl⟩
      obtain ⟨S2, hS2⟩ : ∃ S2, S2 = (⟨(digs 5 t.gen.toNat).toArray⟩ : ByteArray) := ⟨_, rfl⟩
      obtain ⟨S3, hS3⟩ : ∃ S3, S3 = (⟨(if t.used then [32, 110, 32, 10] else [32, 102, 32, 10] : List UInt8).toArray⟩ : ByteArray) := ⟨_, rfl⟩
      have hz1 : S1.size = 10 := by rw [hS1]; show (digs 10 t.off.toNat).toArray.size = 10; simp [digs_len]
      have hz2 : S2.size = 5 := by rw [hS2]; show (digs 5 t.gen.toNat).toArray.size = 5; simp [digs_len]
      have hz3 : S3.size = 4 := by rw [hS3]; cases t.used <;> rfl
      have HS1 := Lib.hid (show S1.data.toList = digs 10 t.off.toNat by rw [hS1])
      have HS2 := Lib.hid (show S2.data.toList = digs 5 t.gen.toNat by rw [hS2])
      have HS3 := Lib.hid (show S3.data.toList = (if t.used then [32, 110, 32, 10] else [32, 102, 32, 10]) by rw [hS3])
      rw [← hS1] at P1
      rw [← hS2] at P2
      rw [← hS3] at CE
      have l1 : Q1.length + S1.size ≤ 1099511627776 := by rw [hz1]; omega
      have l2 : (Q1 ++ S1.data.toList).length ≤ 1099511627776 := by rw [List.length_append, HS1.out, digs_len]; omega
      have l3 : ((Q1 ++ S1.data.toList) ++ [32]).length + S2.size ≤ 1099511627776 := by rw [List.length_append, List.length_append, HS1.out, digs_len, hz2, List.length_singleton]; omega
      have l4 : (((Q1 ++ S1.data.toList) ++ [32]) ++ S2.data.toList).length + S3.size ≤ 1099511627776 := by rw [List.length_append, List.length_append, List.length_append, HS1.out, HS2.out, digs_len, digs_len, hz3, List.length_singleton]; omega
      clear hS1 hS2 hS3 hz1 hz2 hz3 htk ht hQ1 hfl g1 g2 g3 g4 g5 g6
      go_wp2_with fail
      (with_reducible refine P1.out.mono ?_)
      rintro e w5 ⟨rfl, hk5⟩
      have K5 := Lib.hid (KE.out.trans hk5)
      have E5 := Lib.hid (BE.out.kept hk5)
      have O5 := Lib.hid (OO.out.kept K5.out)
      have z5 := Nat.le_trans zz (Below.size K5.out)
      clear hk5
      go_wp2_with (first
        | (at_builtin; refine wpList_app_text (by rfl) _ _ (by rfl) O5.out (by rfl) S1 (by rfl) z5 l1 ?_; intro v6 w6 ho6 hg6; have O6 := Lib.hid ho6; have B6 := Lib.hid (below_app (BB.out.trans (below_of K5.out zz)) O5.out hg6 z5); have E6 := Lib.hid (show Blk w6 wr.heap.size #[.int .i64 t.n, .int .i64 t.off, .int .i64 t.gen, .bool t.used] 65 from (hg6.block _ E5.out.lt (E5.out.not_out O5.out (by decide))).trans E5.out); have z6 := Nat.le_trans hB B6.out.size; clear ho6 hg6)
        | (at_builtin; refine wpList_app_one (by rfl) _ _ (by rfl) O6.out (by rfl) 32 _ (by rfl) (by rfl) z6 l2 ?_; intro v7 w7 ho7 hg7; have O7 := Lib.hid ho7; have OA6 := Lib.hid (O6.out.kept ((Kept.refl w6).allocO (.cells #[.int .u8 32] 5 (0, 0)))); have B7 := Lib.hid (below_app (B6.out.trans ((Below.refl B w6).alloc z6 _)) OA6.out hg7 (by simp; omega)); have E7 := Lib.hid (show Blk w7 wr.heap.size #[.int .i64 t.n, .int .i64 t.off, .int .i64 t.gen, .bool t.used] 65 from (hg7.block _ (E6.out.alloc _).lt ((E6.out.alloc _).not_out OA6.out (by decide))).trans (E6.out.alloc _)); have z7 := Nat.le_trans hB B7.out.size; obtain ⟨x0, x1, x2, x3⟩ := E7.out.cells4; clear ho7 hg7))
      (with_reducible refine (P2.out w7 (HT.out.on B7.out) z7).mono ?_)
      rintro e w8 ⟨rfl, hk8⟩
      have O8 := Lib.hid (O7.out.kept hk8)
      have B8 := Lib.hid (B7.out.trans (below_of hk8 z7))
      have E8 := Lib.hid (E7.out.kept hk8)
      have z8 := Nat.le_trans hB B8.out.size
      clear hk8 x0 x1 x2 x3
      go_wp2_with (at_builtin; refine wpList_app_text (by rfl) _ _ (by rfl) O8.out (by rfl) S2 (by rfl) z8 l3 ?_; intro v9 w9 ho9 hg9; have O9 := Lib.hid ho9; have B9 := Lib.hid (below_app B8.out O8.out hg9 z8); have E9 := Lib.hid (show Blk w9 wr.heap.size #[.int .i64 t.n, .int .i64 t.off, .int .i64 t.gen, .bool t.used] 65 from (hg9.block _ E8.out.lt (E8.out.not_out O8.out (by decide))).trans E8.out); have z9 := Nat.le_trans hB B9.out.size; obtain ⟨y0, y1, y2, y3⟩ := E9.out.cells4; clear ho9 hg9)
      (with_reducible refine (CE.out w9).mono ?_)
      rintro e w10 ⟨rfl, hk10⟩
      have O10 := Lib.hid (O9.out.kept hk10)
      have B10 := Lib.hid (B9.out.trans (below_of hk10 z9))
      have z10 := Nat.le_trans hB B10.out.size
      clear hk10 y0 y1 y2 y3
      go_wp2_with (at_builtin; refine wpList_app_text (by rfl) _ _ (by rfl) O10.out (by rfl) S3 (by rfl) z10 l4 ?_; intro v11 w11 ho11 hg11; have O11 := Lib.hid (show OutB w11 B v11 (A ++ (l.take (j + 1)).flatMap lineT) from by rw [← HL.out]; rw [HS1.out, HS2.out, HS3.out] at ho11; exact ho11); have B11 := Lib.hid (below_app B10.out O10.out hg11 z10); clear ho11 hg11)
      go_roundg (l.length + 1 - (j + 1))
      case measure => omega
      case rel => exact ⟨j + 1, v11, rfl, rfl, by omega, by go_num, O11.out, B11.out⟩
    · obtain rfl : j = l.length := by omega
      have O9 := Lib.hid (show OutB wr B vv (A ++ l.flatMap lineT) from by have h := OO.out; rwa [List.take_length] at h)
      go_wp2_with fail
      go_ret
      exact ⟨vv, rfl, by have h := O9.out; rw [HA.out] at h; exact h, BB.out⟩

theorem appendSection_any (e0 : Xent) (r0 l : List Xent) (k of c B : Nat) (v : Value) (acc : List UInt8) (w : World) (hl0 : l = e0 :: r0) (hE : EntR w B (some ⟨k, of, none⟩) l) (hv : OutB w B v acc) (hB : B ≤ w.heap.size) (hT : TB B w)
    (hg : ∀ t ∈ l, 0 ≤ t.n ∧ t.n < 4096 ∧ 0 ≤ t.off ∧ t.off ≤ 9999999999 ∧ 0 ≤ t.gen ∧ t.gen ≤ 99999) (hl : l.length ≤ 1048576) (hacc : acc.length ≤ 1073741824) :
    Calls Tryz.prog 28 #[v, .slice (some ⟨k, of, none⟩) l.length c] w fun e w' => ∃ v', e = .returned v' ∧ OutB w' B v' (acc ++ headT e0.n l.length ++ l.flatMap lineT) ∧ Below B w w' := by
  have h00 := hg e0 (by rw [hl0]; exact List.mem_cons_self)
  exact appendSection_of e0 r0 l k of c B v acc w hl0 hE (AppI B e0.n v acc w hv hB hT h00.1 (by omega) (by omega)) hB hT hg hl hacc

end Go.Proofs.YtoablpaehhjchaaGreatDoor
