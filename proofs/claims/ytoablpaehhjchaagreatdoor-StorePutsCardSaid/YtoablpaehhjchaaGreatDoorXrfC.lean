import Derived.Test.YtoablpaehhjchaaGreatDoorXrfM
import Derived.Test.YtoablpaehhjchaaGreatDoorXrfA
import Derived.Test.YtoablpaehhjchaaGreatDoorShelf
import Derived.Lib.AppendStr
import Derived.Lib.AppendIntMem
import Derived.BigQuiet
import Derived.Shelf.Strconv.AppendIntPublic10
import Derived.Lib.AppendZeros
import Derived.Lib.SlBytesConst
namespace Go.Proofs.YtoablpaehhjchaaGreatDoor
open Go.RowKit Rx
set_option linter.unusedSimpArgs false
set_option linter.unusedVariables false

def TB (B : Nat) (w : World) : Prop := Lib.TabBelow Tryz.prog B w "internal/strconv.uint64pow10" .u64 Lib.pow10Tab
theorem TB.on {B : Nat} {w w1 : World} (h : TB B w) (hb : Below B w w1) : TB B w1 := Lib.TabBelow.on h hb
theorem TB.here {B : Nat} {w : World} (h : TB B w) : Lib.TabIs Tryz.prog w "internal/strconv.uint64pow10" .u64 Lib.pow10Tab := Lib.TabBelow.here h
theorem below_of {B : Nat} {w w' : World} (h : Kept w w') (hB : B ≤ w.heap.size) : Below B w w' := Below.mono h hB
theorem TB.kept {B : Nat} {w w1 : World} (h : TB B w) (hB : B ≤ w.heap.size) (k : Kept w w1) : TB B w1 := h.on (below_of k hB)

theorem ItoaX (n : Int) {B : Nat} (w : World) (h0 : -9223372036854775808 ≤ n) (h1 : n ≤ 9223372036854775807) (hf : TB B w) :
    Calls Tryz.prog 75 #[.int .i64 n] w fun e w' => e = .returned (.string ⟨(Lib.itoa n).toArray⟩) ∧ Kept w w' :=
  (Tryz.strconv_Itoa n h0 h1 w hf.here).mono fun _ _ ⟨he, k, os, hw⟩ => ⟨he, by rw [hw]; exact Kept.grow ((Kept.refl _).drewN k) os⟩
theorem itoaN {n : Int} (h : 0 ≤ n) : Lib.itoa n = Lib.decDigits n.toNat := Fx.itoa_pos h
theorem len_gt {n : Int} (h : 0 ≤ n) (k : Nat) (hk : 1 ≤ k) : (k : Int) < (((⟨(Lib.itoa n).toArray⟩ : ByteArray)).size : Int) ↔ (10 : Int) ^ k ≤ n := by
  have e : ((⟨(Lib.itoa n).toArray⟩ : ByteArray)).size = Lib.nDigits n.toNat := by
    show ((Lib.itoa n).toArray).size = _
    rw [List.size_toArray, itoaN h, Lib.decDigits_length]
  rw [e]
  have := nDigits_le_iff (k := k) (n := n.toNat) hk
  have h2 : ((10 ^ k : Nat) : Int) = (10 : Int) ^ k := by simp
  constructor
  · intro h3
    have h4 : ¬ Lib.nDigits n.toNat ≤ k := by omega
    rw [this] at h4
    rw [← h2]; omega
  · intro h3
    rw [← h2] at h3
    have h4 : ¬ n.toNat < 10 ^ k := by omega
    rw [← this] at h4
    omega

def Pos (e : Xent) : Prop := 0 ≤ e.off ∧ e.off ≤ 9223372036854775807 ∧ 0 ≤ e.gen ∧ e.gen ≤ 9223372036854775807

set_option maxRecDepth 100000 in
set_option maxHeartbeats 2000000 in
theorem tooGreat_any (t : Xent) (B : Nat) (w : World) (hf : TB B w) (hB : B ≤ w.heap.size) (hp : Pos t) :
    Calls Tryz.prog 45 #[xentV t] w fun e w' => e = .returned (.bool (tooG t)) ∧ Kept w w' := by
  obtain ⟨p0, p1, p2, p3⟩ := hp
  have hx1 := len_gt p0 10 (by decide)
  have hx2 := len_gt p2 5 (by decide)
  obtain ⟨S1, hS1⟩ : ∃ S1, S1 = (⟨(Lib.itoa t.off).toArray⟩ : ByteArray) := ⟨_, rfl⟩
  obtain ⟨S2, hS2⟩ : ∃ S2, S2 = (⟨(Lib.itoa t.gen).toArray⟩ : ByteArray) := ⟨_, rfl⟩
  rw [← hS1] at hx1
  rw [← hS2] at hx2
  have C1 := Lib.hid (fun W (k : Kept w W) => show Calls Tryz.prog 75 #[.int .i64 t.off] W fun e w' => e = .returned (.string S1) ∧ Kept W w' from by rw [hS1]; exact ItoaX t.off W (by omega) p1 (hf.kept hB k))
  have C2 := Lib.hid (fun W (k : Kept w W) => show Calls Tryz.prog 75 #[.int .i64 t.gen] W fun e w' => e = .returned (.string S2) ∧ Kept W w' from by rw [hS2]; exact ItoaX t.gen W (by omega) p3 (hf.kept hB k))
  have BX := Lib.hid (Blk.fresh w #[.int .i64 t.n, .int .i64 t.off, .int .i64 t.gen, .bool t.used] 65)
  have KX := Lib.hid (show Kept w (w.alloc (.cells #[.int .i64 t.n, .int .i64 t.off, .int .i64 t.gen, .bool t.used] 65)) from (Kept.refl w).allocO _)
  clear hS1 hS2 hf p1 p3
  by_cases g1 : 9999999999 < t.off
  · have q1 : (10 : Int) < (S1.size : Int) := hx1.2 (by omega)
    have hv : tooG t = true := by unfold tooG; rw [decide_eq_true g1]; rfl
    rw [hv]
    clear hv hx1 hx2 g1
    unfold xentV
    go_enter Tryz.func45, Tryz.ntmps45
    go_wp2_with (go_at_call 75; with_reducible refine (C1.out _ KX.out).mono ?_; rintro e w2 ⟨rfl, hk2⟩)
    go_ret
    exact ⟨rfl, KX.out.trans hk2⟩
  · have q1 : ¬ (10 : Int) < (S1.size : Int) := fun h => by have := hx1.1 h; omega
    by_cases g2 : 99999 < t.gen
    · have q2 : (5 : Int) < (S2.size : Int) := hx2.2 (by omega)
      have hv : tooG t = true := by unfold tooG; rw [decide_eq_true g2]; simp
      rw [hv]
      clear hv hx1 hx2 g1 g2
      unfold xentV
      go_enter Tryz.func45, Tryz.ntmps45
      go_wp2_with (go_at_call 75; first | (with_reducible refine (C1.out _ KX.out).mono ?_; rintro e w2 ⟨rfl, hk2⟩; have K2 := Lib.hid (KX.out.trans hk2); have B2 := Lib.hid (BX.out.kept hk2); obtain ⟨b0, b1, b2, b3⟩ := B2.out.cells4; clear hk2) | (with_reducible refine (C2.out _ K2.out).mono ?_; rintro e w3 ⟨rfl, hk3⟩))
      go_ret
      exact ⟨rfl, K2.out.trans hk3⟩
    · have q2 : ¬ (5 : Int) < (S2.size : Int) := fun h => by have := hx2.1 h; omega
      have hv : tooG t = decide (4096 ≤ t.n) := by unfold tooG; rw [decide_eq_false g1, decide_eq_false g2]; rfl
      rw [hv]
      clear hv hx1 hx2 g1 g2
      unfold xentV
      go_enter Tryz.func45, Tryz.ntmps45
      go_wp2_with (go_at_call 75; first | (with_reducible refine (C1.out _ KX.out).mono ?_; rintro e w2 ⟨rfl, hk2⟩; have K2 := Lib.hid (KX.out.trans hk2); have B2 := Lib.hid (BX.out.kept hk2); obtain ⟨b0, b1, b2, b3⟩ := B2.out.cells4; clear hk2) | (with_reducible refine (C2.out _ K2.out).mono ?_; rintro e w3 ⟨rfl, hk3⟩; have K3 := Lib.hid (K2.out.trans hk3); obtain ⟨d0, d1, d2, d3⟩ := (B2.out.kept hk3).cells4; clear hk3))
      go_ret
      exact ⟨congrArg (fun b => Ending.returned (Value.bool b)) (show (decide ((10 : Int) < (S1.size : Int)) || decide ((5 : Int) < (S2.size : Int)) || decide (4096 ≤ t.n)) = decide (4096 ≤ t.n) by rw [decide_eq_false (by omega : ¬ (10 : Int) < (S1.size : Int)), decide_eq_false (by omega : ¬ (5 : Int) < (S2.size : Int))]; rfl), K3.out⟩

set_option maxRecDepth 100000 in
set_option maxHeartbeats 2000000 in
theorem IndexFuncE_any (l : List Xent) (p : Option Addr) (c B : Nat) (w : World) (h : EntR w w.heap.size p l) (hf : TB B w) (hB : B ≤ w.heap.size) (hp : ∀ t ∈ l, Pos t) (hl : l.length ≤ 1099511627776) :
    Calls Tryz.prog 74 #[.slice p l.length c, .func (.func 45) #[] #[]] w fun e w' => ∃ i : Int, e = .returned (.int .i64 i) ∧ (0 ≤ i ↔ l.any tooG = true) ∧ Kept w w' := by
  have HT := Lib.hid h
  have HF := Lib.hid (fun W (k : Kept w W) => hf.kept hB k)
  have HP := Lib.hid hp
  have eg : ∀ args w, (callFunc 45 args).run Tryz.prog w = .ok (.enter 45 args) w := enters_of Tryz.func45 (by kernel_rfl) rfl
  clear h hf hp
  go_enter Tryz.func74, Tryz.ntmps74
  go_wp2_with fail
  go_loopg [5, 8] (l.length + 1) (fun x z y wr => ∃ (j : Nat) (zz : Value), zz = z ∧ x = l.length + 1 - j ∧ j ≤ l.length ∧ y = .int .i64 j ∧ Hid ((l.take j).any tooG = false) ∧ Kept w wr)
  case atStart => exact ⟨0, _, rfl, rfl, Nat.zero_le _, rfl, Lib.hid rfl, Kept.refl w⟩
  case round =>
    obtain ⟨j, zz, rfl, hx, hj, rfl, HN, hk⟩ := hrel
    have HK := Lib.hid hk
    clear hk
    by_cases hlt : j < l.length
    · have j1 : (j : Int) < (l.length : Int) := by omega
      obtain ⟨kb, o, hp, hkb, c0, c1, c2, c3⟩ := (HT.out.keep (Nat.le_refl _) HK.out) j hlt
      subst hp
      have htk : l.take (j + 1) = l.take j ++ [l[j]] := List.take_succ_eq_append_getElem hlt
      have hpt := HP.out l[j] (List.getElem_mem hlt)
      have hmem : l[j] ∈ l := List.getElem_mem hlt
      obtain ⟨t, ht⟩ : ∃ t, t = l[j] := ⟨_, rfl⟩
      rw [← ht] at c0 c1 c2 c3 htk hpt hmem
      have HTK := Lib.hid htk
      have HMEM := Lib.hid hmem
      have CT := Lib.hid (tooGreat_any t B wr (HF.out _ HK.out) (Nat.le_trans hB (Below.size HK.out)) hpt)
      clear ht htk hpt hmem
      unfold xentV at CT
      cases htg : tooG t with
      | true =>
        rw [htg] at CT
        go_wp2_with (go_at_fn 45; refine CT.out.mono ?_; rintro e w2 ⟨rfl, hk2⟩)
        go_ret
        exact ⟨(j : Int), rfl, ⟨fun _ => List.any_eq_true.2 ⟨t, HMEM.out, htg⟩, fun _ => by omega⟩, HK.out.trans hk2⟩
      | false =>
        rw [htg] at CT
        go_wp2_with (go_at_fn 45; refine CT.out.mono ?_; rintro e w2 ⟨rfl, hk2⟩)
        go_roundg (l.length + 1 - (j + 1))
        case measure => omega
        case rel => exact ⟨j + 1, _, rfl, rfl, by omega, by go_num, Lib.hid (by rw [HTK.out, List.any_append, HN.out]; simp [htg]), HK.out.trans hk2⟩
    · obtain rfl : j = l.length := by omega
      have hn := HN.out
      rw [List.take_length] at hn
      have HN2 := Lib.hid hn
      clear hn
      go_wp2_with fail
      go_ret
      exact ⟨-1, rfl, ⟨fun h => absurd h (by decide), fun h => by rw [HN2.out] at h; cases h⟩, HK.out⟩

theorem ContainsFuncE_any (l : List Xent) (p : Option Addr) (c B : Nat) (w : World) (h : EntR w w.heap.size p l) (hf : TB B w) (hB : B ≤ w.heap.size) (hp : ∀ t ∈ l, Pos t) (hl : l.length ≤ 1099511627776) :
    Calls Tryz.prog 44 #[.slice p l.length c, .func (.func 45) #[] #[]] w fun e w' => e = .returned (.bool (l.any tooG)) ∧ Kept w w' := by
  have CI := Lib.hid (IndexFuncE_any l p c B w h hf hB hp hl)
  obtain ⟨r, hr⟩ : ∃ r, r = l.any tooG := ⟨_, rfl⟩
  rw [← hr] at CI ⊢
  clear h hf hp hr
  go_enter Tryz.func44, Tryz.ntmps44
  go_wp2_with (go_at_call 74; refine CI.out.mono ?_; rintro e w2 ⟨i, rfl, hi, hk2⟩)
  go_ret
  exact ⟨rfl, hk2⟩

set_option maxRecDepth 100000 in
set_option maxHeartbeats 4000000 in
theorem xsane_any (l : List Xent) (p : Option Addr) (c B : Nat) (w : World) (h : EntR w w.heap.size p l) (hf : TB B w) (hB : B ≤ w.heap.size) (hw : ∀ t ∈ l, t.off ≤ 9223372036854775807 ∧ t.gen ≤ 9223372036854775807) (hl : l.length ≤ 1099511627776) :
    Calls Tryz.prog 26 #[.slice p l.length c] w fun e w' => e = .returned (.int .i64 (writeE l)) ∧ Kept w w' := by
  have HT := Lib.hid h
  have HF := Lib.hid (fun W (k : Kept w W) => hf.kept hB k)
  have HW := Lib.hid hw
  clear h hf hw
  go_enter Tryz.func26, Tryz.ntmps26
  go_wp2_with fail
  go_loopg [3, 8] (l.length + 1) (fun x z y wr => ∃ (j : Nat) (n : Int), z = .int .i64 n ∧ x = l.length + 1 - j ∧ j ≤ l.length ∧ y = .int .i64 j ∧ -1 ≤ n ∧ Hid (risG n (l.drop j) = risG (-1) l) ∧ Kept w wr)
  case atStart => exact ⟨0, -1, rfl, rfl, Nat.zero_le _, rfl, Int.le_refl _, Lib.hid rfl, Kept.refl w⟩
  case round =>
    obtain ⟨j, n, rfl, hx, hj, rfl, hn1, HN, hk⟩ := hrel
    have HK := Lib.hid hk
    clear hk
    by_cases hlt : j < l.length
    · have j1 : (j : Int) < (l.length : Int) := by omega
      obtain ⟨kb, o, hp, hkb, c0, c1, c2, c3⟩ := (HT.out.keep (Nat.le_refl _) HK.out) j hlt
      subst hp
      have hdr : l.drop j = l[j] :: l.drop (j + 1) := List.drop_eq_getElem_cons hlt
      obtain ⟨t, ht⟩ : ∃ t, t = l[j] := ⟨_, rfl⟩
      rw [← ht] at c0 c1 c2 c3 hdr
      have HD := Lib.hid hdr
      have K2 := Lib.hid (show Kept w (wr.alloc (.cells #[.int .i64 t.n, .int .i64 t.off, .int .i64 t.gen, .bool t.used] 65)) from HK.out.allocO _)
      clear ht hdr
      by_cases hg : n < t.n ∧ 0 ≤ t.off ∧ 0 ≤ t.gen
      · have HV := Lib.hid (show risG t.n (l.drop (j + 1)) = risG (-1) l by rw [← HN.out, HD.out]; exact (ris_good hg).symm)
        obtain ⟨g1, g2, g3⟩ := hg
        have q1 : ¬ t.n ≤ n := by omega
        have q2 : ¬ t.off < 0 := by omega
        have q3 : ¬ t.gen < 0 := by omega
        clear g1 g2 g3
        go_wp2_with fail
        go_roundg (l.length + 1 - (j + 1))
        case measure => omega
        case rel => exact ⟨j + 1, t.n, rfl, rfl, by omega, by go_num, by omega, Lib.hid HV.out, K2.out⟩
      · have HV := Lib.hid (show writeE l = 1 from writeE_one (by rw [← HN.out, HD.out]; exact ris_bad hg))
        rcases (show t.n ≤ n ∨ (¬ t.n ≤ n ∧ t.off < 0) ∨ (¬ t.n ≤ n ∧ ¬ t.off < 0 ∧ t.gen < 0) by omega) with b1 | ⟨b1, b2⟩ | ⟨b1, b2, b3⟩
        all_goals
          clear hg
          go_wp2_with fail
          go_ret
          exact ⟨by rw [HV.out]; rfl, K2.out⟩
    · obtain rfl : j = l.length := by omega
      have hr : risG (-1) l = true := by rw [← HN.out, List.drop_length]; rfl
      have CF := Lib.hid (ContainsFuncE_any l p c B wr (HT.out.see HK.out) (HF.out _ HK.out) (Nat.le_trans hB (Below.size HK.out)) (fun t ht => by have h1 := ris_mem hr t ht; have h2 := HW.out t ht; exact ⟨h1.2.1, h2.1, h1.2.2, h2.2⟩) hl)
      cases hg : l.any tooG with
      | true =>
        have HV := Lib.hid (writeE_two hr hg)
        rw [hg] at CF
        clear hr
        go_wp2_with (go_at_call 44; refine CF.out.mono ?_; rintro e w2 ⟨rfl, hk2⟩)
        go_ret
        exact ⟨by rw [HV.out]; rfl, HK.out.trans hk2⟩
      | false =>
        have HV := Lib.hid (writeE_ok hr hg)
        rw [hg] at CF
        clear hr
        go_wp2_with (go_at_call 44; refine CF.out.mono ?_; rintro e w2 ⟨rfl, hk2⟩)
        go_ret
        exact ⟨by rw [HV.out]; rfl, HK.out.trans hk2⟩

end Go.Proofs.YtoablpaehhjchaaGreatDoor

namespace Go.Proofs.YtoablpaehhjchaaGreatDoor
open Go.RowKit Rx
set_option linter.unusedSimpArgs false
set_option linter.unusedVariables false

def OutB (w : World) (B : Nat) (v : Value) (l : List UInt8) : Prop := w.ownsRow B 5 1 v l.length (Lib.byteCells l)
theorem OutB.lt {w : World} {B : Nat} {v : Value} {l : List UInt8} (h : OutB w B v l) : ∀ k, v.ownBlock = some k → B ≤ k ∧ k < w.heap.size := World.ownsRow.lt h
theorem OutB.kept {w w' : World} {B : Nat} {v : Value} {l : List UInt8} (h : OutB w B v l) (k : Kept w w') : OutB w' B v l :=
  World.ownsRow.kept h (gbX k none) (by cases hv : v.ownBlock with
    | none => exact .inl rfl
    | some g => exact .inr (by simp))
theorem Blk.not_out {w : World} {b B : Nat} {cs : Array Value} {t : TypeId} {v : Value} {l : List UInt8} (h : Blk w b cs t) (ho : OutB w B v l) (hne : t ≠ 5) : some b ≠ v.ownBlock := by
  rcases ho.2 with ⟨rfl, _⟩ | ⟨g, cap, cur, rfl, _, hgb, _⟩
  · simp [Value.ownBlock]
  · intro e
    obtain rfl : b = g := by simpa [Value.ownBlock] using e
    have := (show w.heap[b]? = _ from h).symm.trans hgb
    simp at this
    exact hne this.2
theorem info_byteX : (Tryz.prog.info? 5).map (fun i => (i.zero, i.size, i.bytes)) = some (some (.int .u8 0), 1, 1) := by kernel_rfl

section
variable {ops : Array Oper} {rest : List Oper} {o : Oper} {a : Act} {Q : Exit → Act → World → Prop}

theorem wpList_app_text (hgd : o.guard = none) (s x : Operand) (ho : o.op = .call { callee := .builtin .append, args := #[s, x], argTypes := #[69, 9] })
    {W : World} {B : Nat} {v : Value} {l : List UInt8} (hown : OutB W B v l) (hs : a.eval s = v) (t : ByteArray) (hx : a.eval x = .string t) (hB : B ≤ W.heap.size) (hlen : l.length + t.size ≤ 1099511627776)
    (h : ∀ v' w', OutB w' B v' (l ++ t.data.toList) → W.grownBy w' v.ownBlock → wpList Tryz.prog ops Q rest (a.put o.dst v') w') : wpList Tryz.prog ops Q (o :: rest) a W := by
  obtain ⟨i0, hi, hz0, hz1, hz2⟩ := info_parts info_byteX
  refine Lib.wpList_append_own_string _ hgd s x 69 9 ho B 5 i0 Tryz.underlying69 Tryz.underlying9 hi hz0 hz1 hz2 v l.length (Lib.byteCells l) hs hown t hx (by unfold maxLen; omega) (by omega) hB ?_
  intro v' w' h1 h2 _
  refine h v' w' ?_ h2
  unfold OutB
  rw [List.length_append, Lib.byteCells_append]
  simpa [Lib.strCells_eq] using h1

theorem wpList_app_one (hgd : o.guard = none) (s x : Operand) (ho : o.op = .call { callee := .builtin .append, args := #[s, x], argTypes := #[69, 69] })
    {W : World} {B : Nat} {v : Value} {l : List UInt8} (hown : OutB W B v l) (hs : a.eval s = v) (c : UInt8) (cells : Array Value) (hc : cells = #[.int .u8 (c.toNat : Int)]) (hx : a.eval x = .slice (some ⟨W.heap.size, 0, none⟩) 1 1) (hB : B ≤ W.heap.size) (hlen : l.length ≤ 1099511627776)
    (h : ∀ v' w', OutB w' B v' (l ++ [c]) → (W.alloc (.cells cells 5)).grownBy w' v.ownBlock → wpList Tryz.prog ops Q rest (a.put o.dst v') w') : wpList Tryz.prog ops Q (o :: rest) a (W.alloc (.cells cells 5)) := by
  obtain ⟨i0, hi, hz0, hz1, hz2⟩ := info_parts info_byteX
  subst hc
  refine wpList_append_own _ hgd s x 69 ho B 5 i0 _ 1 1 Tryz.underlying69 hi hz0 hz1 hz2 rfl (by decide) v l.length (Lib.byteCells l) hs (World.ownsRow.alloc hown _) ⟨W.heap.size, 0, none⟩ 1 1 [.int .u8 (c.toNat : Int)] hx rfl
    ?_ (by simp [Value.oneCell']) (by unfold maxLen; omega) (by omega) (by simp; omega) ?_
  · intro j u hj
    rw [Addr.add_lit, Nat.zero_add, (Blk.fresh W #[.int .u8 (c.toNat : Int)] 5).cell j]
    simpa using hj
  · intro v' w' h1 h2 _
    refine h v' w' ?_ h2
    unfold OutB
    rw [List.length_append, Lib.byteCells_append]
    exact h1
end

set_option maxRecDepth 100000 in
set_option maxHeartbeats 2000000 in
theorem run_any (l : List Xent) (k of c : Nat) (w : World) (hne : l ≠ []) (h : EntR w w.heap.size (some ⟨k, of, none⟩) l) (hn : ∀ t ∈ l, 0 ≤ t.n ∧ t.n ≤ 4096) (hl : l.length ≤ 1048576) :
    Calls Tryz.prog 27 #[.slice (some ⟨k, of, none⟩) l.length c] w fun e w' => e = .returned (.int .i64 (runL l : Nat)) ∧ Kept w w' := by
  have HT := Lib.hid h
  obtain ⟨e0, r0, hl0⟩ : ∃ e r, l = e :: r := by cases l with
    | nil => exact absurd rfl hne
    | cons e r => exact ⟨e, r, rfl⟩
  have hpos : 0 < l.length := by rw [hl0]; simp
  have hp0 : (0 : Int) < (l.length : Int) := by omega
  have h00 := hn e0 (by rw [hl0]; exact List.mem_cons_self)
  have HE := Lib.hid (show l[0]'hpos = e0 by subst hl0; rfl)
  have HS := Lib.hid (show runL l = 1 + runF (e0.n + ((1 : Nat) : Int)) (l.drop 1) by rw [hl0, runL, List.drop_succ_cons, List.drop_zero, show e0.n + ((1 : Nat) : Int) = e0.n + 1 from rfl]; omega)
  have HNN := Lib.hid hn
  clear h hl0 hne hn
  go_enter Tryz.func27, Tryz.ntmps27
  go_wp2_with fail
  go_loopg [3] l.length (fun x y wr => ∃ (n : Nat), x = l.length + 1 - n ∧ 1 ≤ n ∧ n ≤ l.length ∧ y = .int .i64 n ∧ Hid (runL l = n + runF (e0.n + n) (l.drop n)) ∧ Kept w wr)
  case atStart => exact ⟨1, by omega, Nat.le_refl _, hpos, rfl, Lib.hid HS.out, Kept.refl w⟩
  case round =>
    obtain ⟨n, hx, hn1, hn2, rfl, HR, hk⟩ := hrel
    have HK := Lib.hid hk
    obtain ⟨kb0, o0, hp0', -, a0, a1, a2, a3⟩ := (HT.out.keep (Nat.le_refl _) hk) 0 hpos
    rw [HE.out] at a0
    injection hp0' with hp0'
    injection hp0' with e1 e2
    subst e1 e2
    simp only [Nat.zero_mul, Nat.add_zero] at a0
    clear hk a1 a2 a3 HS
    by_cases hlt : n < l.length
    · have j1 : (n : Int) < (l.length : Int) := by omega
      have j2 : (0 : Int) ≤ (n : Int) := by omega
      obtain ⟨kb, o, hp, hkb, c0, c1, c2, c3⟩ := (HT.out.keep (Nat.le_refl _) HK.out) n hlt
      injection hp with hp
      injection hp with e1 e2
      subst e1 e2
      have hdr : l.drop n = l[n] :: l.drop (n + 1) := List.drop_eq_getElem_cons hlt
      obtain ⟨t, ht⟩ : ∃ t, t = l[n] := ⟨_, rfl⟩
      rw [← ht] at c0 hdr
      have HD := Lib.hid hdr
      clear hdr ht c1 c2 c3
      obtain ⟨tn, htn⟩ : ∃ tn, tn = t.n := ⟨_, rfl⟩
      obtain ⟨en, hen⟩ : ∃ en, en = e0.n := ⟨_, rfl⟩
      rw [← htn] at c0
      rw [← hen] at a0 HR h00
      have i1 : IntKind.i64.wrap (en + (n : Int)) = en + (n : Int) := IntWalk.i64_in _ (by omega)
      have HTN := Lib.hid htn
      clear htn
      by_cases heq : tn = en + (n : Int)
      · have hd : (tn == en + (n : Int)) = true := by simpa using heq
        have HV := Lib.hid (show runL l = (n + 1) + runF (en + ((n + 1 : Nat) : Int)) (l.drop (n + 1)) by
          rw [HR.out, HD.out, runF, if_pos (by rw [← HTN.out]; exact heq), show en + ((n + 1 : Nat) : Int) = en + (n : Int) + 1 by omega]; omega)
        subst heq
        clear hd
        have hd : ((en + (n : Int)) == (en + (n : Int))) = true := by simp
        go_wp2_with fail
        go_quiet (fail)
        go_wp2_with fail
        go_roundg (l.length + 1 - (n + 1))
        case measure => omega
        case rel => exact ⟨n + 1, rfl, by omega, by omega, by go_num, Lib.hid (by rw [← hen]; exact HV.out), HK.out.drewN _⟩
      · have hd : (tn == en + (n : Int)) = false := by simpa using heq
        have HV := Lib.hid (show runL l = n by rw [HR.out, HD.out, runF, if_neg (by rw [← HTN.out]; exact heq), Nat.add_zero])
        clear heq
        go_wp2_with fail
        go_quiet (fail)
        go_wp2_with fail
        go_ret
        exact ⟨by rw [HV.out]; rfl, HK.out.drewN _⟩
    · obtain rfl : n = l.length := by omega
      have HV := Lib.hid (show runL l = l.length by rw [HR.out, List.drop_length, runF]; rfl)
      go_wp2_with fail
      go_quiet (fail)
      go_wp2_with fail
      go_ret
      exact ⟨by rw [HV.out]; rfl, HK.out.drewN _⟩

theorem bytes_appendX (a b : List UInt8) : (⟨a.toArray⟩ : ByteArray) ++ ⟨b.toArray⟩ = ⟨(a ++ b).toArray⟩ := by
  apply ByteArray.ext
  rw [ByteArray.data_append]
  simp
theorem ret_strX {a b : ByteArray} (h : a = b) : Ending.returned (.string a) = .returned (.string b) := by rw [h]

set_option maxRecDepth 100000 in
theorem padded_any (n : Int) (k : Nat) (B : Nat) (w : World) (hf : TB B w) (hB : B ≤ w.heap.size) (h0 : 0 ≤ n) (h1 : n.toNat < 10 ^ k) (hk : 1 ≤ k) (hk2 : k ≤ 10) (hn : n ≤ 9999999999) :
    Calls Tryz.prog 47 #[.int .i64 n, .int .i64 k] w fun e w' => e = .returned (.string ⟨(digs k n.toNat).toArray⟩) ∧ Kept w w' := by
  have hnd : Lib.nDigits n.toNat ≤ k := (nDigits_le_iff hk).2 h1
  obtain ⟨S, hS⟩ : ∃ S, S = (⟨(Lib.itoa n).toArray⟩ : ByteArray) := ⟨_, rfl⟩
  have hsz : S.size = Lib.nDigits n.toNat := by
    rw [hS]; show ((Lib.itoa n).toArray).size = _
    rw [List.size_toArray, itoaN h0, Lib.decDigits_length]
  have C1 := Lib.hid (show Calls Tryz.prog 75 #[.int .i64 n] w fun e w' => e = .returned (.string S) ∧ Kept w w' from by rw [hS]; exact ItoaX n w (by omega) (by omega) hf)
  obtain ⟨j, hj⟩ : ∃ j, k = S.size + j := ⟨k - S.size, by omega⟩
  have CR := Lib.hid (fun W => show Calls Tryz.prog 77 #[.string ⟨#[48]⟩, .int .i64 j] W fun e w' => e = .returned (.string ⟨(List.replicate j 48).toArray⟩) ∧ Kept W w' from
    (Tryz.strings_Repeat ⟨#[48]⟩ j W (by omega) (by show 1 * j ≤ _; omega)).mono fun e w' ⟨he, hw⟩ => ⟨by rw [he]; exact ret_strX (by rw [show (⟨#[48]⟩ : ByteArray).data.toList = [48] from rfl, repeat_zero]), hw⟩)
  have s1 : S.size ≤ 10 := by omega
  have s2 : j ≤ 10 := by omega
  have HV := Lib.hid (show (⟨(List.replicate j 48).toArray⟩ : ByteArray) ++ S = ⟨(digs k n.toNat).toArray⟩ by
    rw [hS, bytes_appendX, itoaN h0]
    congr 2
    obtain ⟨m, rfl⟩ : ∃ m, k = m + 1 := ⟨k - 1, by omega⟩
    rw [digs_dec m n.toNat h1, ← hsz, hj, Nat.add_sub_cancel_left])
  obtain ⟨R0, hR0⟩ : ∃ R0, R0 = (⟨(List.replicate j 48).toArray⟩ : ByteArray) := ⟨_, rfl⟩
  have s3 : R0.size ≤ 10 := by rw [hR0]; show ((List.replicate j 48).toArray).size ≤ 10; simp; omega
  rw [← hR0] at CR HV
  have i1 : IntKind.i64.wrap ((k : Int) - (S.size : Int)) = (j : Int) := by rw [show (k : Int) - (S.size : Int) = (j : Int) by omega]; exact IntWalk.i64_in _ (by omega)
  clear hS hnd h1 hj hsz hf hR0
  go_enter Tryz.func47, Tryz.ntmps47
  go_wp2_with (first | (go_at_call 75; refine C1.out.mono ?_; rintro e w1 ⟨rfl, hk1⟩) | (go_at_call 77; refine (CR.out _).mono ?_; rintro e w2 ⟨rfl, hk2'⟩))
  go_ret
  exact ⟨ret_strX HV.out, hk1.trans hk2'⟩

theorem endOf_any (t : Xent) (w : World) : Calls Tryz.prog 48 #[xentV t] w fun e w' => e = .returned (.string ⟨(if t.used then [32, 110, 32, 10] else [32, 102, 32, 10] : List UInt8).toArray⟩) ∧ Kept w w' := by
  obtain ⟨n, o, g, u⟩ := t
  unfold xentV
  cases u
  all_goals
    go_enter Tryz.func48, Tryz.ntmps48
    go_wp2_with fail
    go_ret
    exact ⟨rfl, (Kept.refl w).allocO _⟩

theorem EntR.below {w w' : World} {B : Nat} {p : Option Addr} {l : List Xent} (h : EntR w B p l) (k : Below B w w') : EntR w' B p l := fun i hi => by
  obtain ⟨kb, o, hp, hk, h0, h1, h2, h3⟩ := h i hi
  exact ⟨kb, o, hp, hk, by rw [← h0]; exact k.cell (p := ⟨kb, _, Option.none⟩) hk, by rw [← h1]; exact k.cell (p := ⟨kb, _, Option.none⟩) hk, by rw [← h2]; exact k.cell (p := ⟨kb, _, Option.none⟩) hk, by rw [← h3]; exact k.cell (p := ⟨kb, _, Option.none⟩) hk⟩
theorem AppI (B : Nat) (i : Int) (v : Value) (acc : List UInt8) (w : World) (ho : OutB w B v acc) (hB : B ≤ w.heap.size) (ht : TB B w) (h0 : 0 ≤ i) (h1 : i ≤ 1099511627776) (hl : acc.length ≤ 1099511627776) :
    Calls Tryz.prog 46 #[v, .int .i64 i, .int .i64 10] w fun e w' => ∃ v', e = .returned v' ∧ OutB w' B v' (acc ++ Lib.itoa i) ∧ Below B w w' :=
  (Tryz.strconv_AppendInt_10 B acc.length i (by omega) (by omega) v (Lib.byteCells acc) w ho hB (by omega) ht).mono fun e w' ⟨v', he, h1, h2, _⟩ => ⟨v', he, by unfold OutB; rw [List.length_append, Lib.byteCells_append]; exact h1, h2⟩
theorem below_app {B : Nat} {w w1 w2 : World} {v : Value} {l : List UInt8} (h : Below B w w1) (ho : OutB w1 B v l) (hg : w1.grownBy w2 v.ownBlock) (hB : B ≤ w1.heap.size) : Below B w w2 :=
  Below.grown h hg hB (fun k e => (ho.lt k e).1)

set_option maxRecDepth 100000 in
set_option maxHeartbeats 8000000 in
theorem appendSection_of (e0 : Xent) (r0 l : List Xent) (k of c B : Nat) (v : Value) (acc : List UInt8) (w : World) (hl0 : l = e0 :: r0) (hE : EntR w B (some ⟨k, of, none⟩) l) (hv : Calls Tryz.prog 46 #[v, .int .i64 e0.n, .int .i64 10] w fun e w' => ∃ v', e = .returned v' ∧ OutB w' B v' (acc ++ Lib.itoa e0.n) ∧ Below B w w') (hB : B ≤ w.heap.size) (hT : TB B w)
    (hg : ∀ t ∈ l, 0 ≤ t.n ∧ t.n < 4096 ∧ 0 ≤ t.off ∧ t.off ≤ 9999999999 ∧ 0 ≤ t.gen ∧ t.gen ≤ 99999) (hl : l.length ≤ 1048576) (hacc : acc.length ≤ 1073741824) :
    Calls Tryz.prog 28 #[v, .slice (some ⟨k, of, none⟩) l.length c] w fun e w' => ∃ v', e = .returned v' ∧ OutB w' B v' (acc ++ headT e0.n l.length ++ l.flatMap lineT) ∧ Below B w w' := by
  have hpos : 0 < l.length := by rw [hl0]; simp
  have hp0 : (0 : Int) < (l.length : Int) := by omega
  have HE0 := Lib.hid (show l[0]'hpos = e0 by subst hl0; rfl)
  have h00 := hg e0 (by rw [hl0]; exact List.mem_cons_self)
  have HE := Lib.hid hE
  have HG := Lib.hid hg
  have HT := Lib.hid hT
  have C1 := Lib.hid hv
  have hd1 : (Lib.itoa e0.n).length ≤ 20 := (Fx.itoa_len h00.1 (by omega)).2
  have hd2 : (Lib.itoa (l.length : Int)).length ≤ 20 := (Fx.itoa_len (by omega) (by omega)).2
  obtain ⟨kb0, o0, hp0', hkB, a0, a1, a2, a3⟩ := hE 0 hpos
  rw [HE0.out] at a0
  injection hp0' with hp0'
  injection hp0' with e1 e2
  subst e1 e2
  simp only [Nat.zero_mul, Nat.add_zero] at a0
  have HH := Lib.hid (show headT e0.n l.length = Lib.itoa e0.n ++ [32] ++ Lib.itoa (l.length : Int) ++ [10] by unfold headT; rw [itoaN h00.1, itoaN (by omega), Int.toNat_natCast])
  clear hl0 hE hv hT hg a1 a2 a3
  go_enter Tryz.func28, Tryz.ntmps28
  go_wp2_with fail
  (with_reducible refine C1.out.mono ?_)
  rintro e w1 ⟨v1, rfl, ho1, hb1⟩
  have O1 := Lib.hid ho1
  have B1 := Lib.hid hb1
  have z1 := Nat.le_trans hB hb1.size
  clear ho1 hb1
  go_wp2_with (at_builtin; refine wpList_app_one (by rfl) _ _ (by rfl) O1.out (by rfl) 32 _ (by rfl) (by rfl) z1 (by rw [List.length_append]; omega) ?_; intro v2 w2 ho2 hg2; have O2 := Lib.hid ho2; have B2 := Lib.hid (Below.grown (B1.out.trans ((Below.refl B w1).alloc z1 _)) hg2 (by simp; omega) (fun k e => (O1.out.lt k e).1)); have z2 := Nat.le_trans hB B2.out.size; clear ho2 hg2)
  (with_reducible refine (AppI B (l.length : Int) v2 _ w2 O2.out z2 (HT.out.on B2.out) (by omega) (by omega) (by simp only [List.length_append, List.length_singleton]; omega)).mono ?_)
  rintro e w3 ⟨v3, rfl, ho3, hb3⟩
  have O3 := Lib.hid ho3
  have B3 := Lib.hid (B2.out.trans hb3)
  have z3 := Nat.le_trans hB B3.out.size
  clear ho3 hb3 O2 B2 z2 O1 B1 z1
  go_wp2_with (at_builtin; refine wpList_app_one (by rfl) _ _ (by rfl) O3.out (by rfl) 10 _ (by rfl) (by rfl) z3 (by simp only [List.length_append, List.length_singleton]; omega) ?_; intro v4 w4 ho4 hg4; have O4 := Lib.hid (show OutB w4 B v4 (acc ++ headT e0.n l.length) from by rw [HH.out]; simpa [List.append_assoc] using ho4); have B4 := Lib.hid (Below.grown (B3.out.trans ((Below.refl B w3).alloc z3 _)) hg4 (by simp; omega) (fun k e => (O3.out.lt k e).1)); clear ho4 hg4)
  have hhl : (acc ++ headT e0.n l.length).length ≤ 1073742848 := by rw [HH.out]; simp only [List.length_append, List.length_singleton]; omega
  obtain ⟨A, hA⟩ : ∃ A, A = acc ++ headT e0.n l.length := ⟨_, rfl⟩
  rw [← hA] at O4 hhl
  have HA := Lib.hid hA
  clear O3 B3 z3 hA HH hd1 hd2 a0
  go_loopg [0, 25] (l.length + 1) (fun x ov y wr => ∃ (j : Nat) (vv : Value), vv = ov ∧ x = l.length + 1 - j ∧ j ≤ l.length ∧ y = .int .i64 j ∧ OutB wr B vv (A ++ (l.take j).flatMap lineT) ∧ Below B w wr)
  case atStart => exact ⟨0, v4, rfl, rfl, Nat.zero_le _, rfl, by simpa using O4.out, B4.out⟩
  case round =>
    obtain ⟨j, vv, rfl, hx, hj, rfl, ho, hb⟩ := hrel
    have OO := Lib.hid ho
    have BB := Lib.hid hb
    have zz := Nat.le_trans hB hb.size
    clear ho hb O4 B4
    by_cases hlt : j < l.length
    · have j1 : (j : Int) < (l.length : Int) := by omega
      obtain ⟨kb, o, hp, hkb, c0, c1, c2, c3⟩ := (HE.out.below BB.out) j hlt
      injection hp with hp
      injection hp with e1 e2
      subst e1 e2
      have htk : l.take (j + 1) = l.take j ++ [l[j]] := List.take_succ_eq_append_getElem hlt
      have hgt := HG.out l[j] (List.getElem_mem hlt)
      obtain ⟨t, ht⟩ : ∃ t, t = l[j] := ⟨_, rfl⟩
      rw [← ht] at c0 c1 c2 c3 htk hgt
      obtain ⟨g1, g2, g3, g4, g5, g6⟩ := hgt
      have hfl : ((l.take j).flatMap lineT).length ≤ 1024 * j := by
        have hgen : ∀ m : List Xent, (m.flatMap lineT).length ≤ 20 * m.length := by
          intro m
          induction m with
          | nil => simp
          | cons x xs ih =>
            rw [List.flatMap_cons, List.length_append, List.length_cons]
            have : (lineT x).length = 20 := by unfold lineT; simp only [List.length_append, digs_len, List.length_singleton]; split <;> rfl
            omega
        have := hgen (l.take j)
        rw [List.length_take] at this; omega
      have hql : (A ++ (l.take j).flatMap lineT).length ≤ 1099511627000 := by rw [List.length_append]; omega
      obtain ⟨Q1, hQ1⟩ : ∃ Q1, Q1 = A ++ (l.take j).flatMap lineT := ⟨_, rfl⟩
      rw [← hQ1] at OO hql
      have HL := Lib.hid (show Q1 ++ digs 10 t.off.toNat ++ [32] ++ digs 5 t.gen.toNat ++ (if t.used then [32, 110, 32, 10] else [32, 102, 32, 10]) = A ++ (l.take (j + 1)).flatMap lineT by
        rw [htk, List.flatMap_append, hQ1, List.flatMap_cons, List.flatMap_nil, lineT]; simp)
      have TT := Lib.hid (HT.out.on BB.out)
      have BE := Lib.hid (Blk.fresh wr #[.int .i64 t.n, .int .i64 t.off, .int .i64 t.gen, .bool t.used] 65)
      have KE := Lib.hid (show Kept wr (wr.alloc (.cells #[.int .i64 t.n, .int .i64 t.off, .int .i64 t.gen, .bool t.used] 65)) from (Kept.refl wr).allocO _)
      have P1 := Lib.hid (show Calls Tryz.prog 47 #[.int .i64 t.off, .int .i64 10] (wr.alloc (.cells #[.int .i64 t.n, .int .i64 t.off, .int .i64 t.gen, .bool t.used] 65)) fun e w' => e = .returned (.string ⟨(digs 10 t.off.toNat).toArray⟩) ∧ Kept _ w' from
        padded_any t.off 10 B _ (TT.out.kept zz KE.out) (Nat.le_trans zz (Below.size KE.out)) g3 (by omega) (by decide) (by decide) g4)
      have P2 := Lib.hid (fun W (hT : TB B W) (hB : B ≤ W.heap.size) => show Calls Tryz.prog 47 #[.int .i64 t.gen, .int .i64 5] W fun e w' => e = .returned (.string ⟨(digs 5 t.gen.toNat).toArray⟩) ∧ Kept W w' from
        padded_any t.gen 5 B W hT hB g5 (by omega) (by decide) (by decide) (by omega))
      have CE := Lib.hid (fun W => endOf_any t W)
      unfold xentV at CE
      obtain ⟨S1, hS1⟩ : ∃ S1, S1 = (⟨(digs 10 t.off.toNat).toArray⟩ : ByteArray) := ⟨_, rfl⟩
      obtain ⟨S2, hS2⟩ : ∃ S2, S2 = (⟨(digs 5 t.gen.toNat).toArray⟩ : ByteArray) := ⟨_, rfl⟩
      obtain ⟨S3, hS3⟩ : ∃ S3, S3 = (⟨(if t.used then [32, 110, 32, 10] else [32, 102, 32, 10] : List UInt8).toArray⟩ : ByteArray) := ⟨_, rfl⟩
      have hz1 : S1.size = 10 := by rw [hS1]; show (digs 10 t.off.toNat).toArray.size = 10; simp [digs_len]
      have hz2 : S2.size = 5 := by rw [hS2]; show (digs 5 t.gen.toNat).toArray.size = 5; simp [digs_len]
      have hz3 : S3.size = 4 := by rw [hS3]; cases t.used <;> rfl
      have HS1 := Lib.hid (show S1.data.toList = digs 10 t.off.toNat by rw [hS1])
      have HS2 := Lib.hid (show S2.data.toList = digs 5 t.gen.toNat by rw [hS2])
      have HS3 := Lib.hid (show S3.data.toList = (if t.used then [32, 110, 32, 10] else [32, 102, 32, 10]) by rw [hS3])
      rw [← hS1] at P1
      rw [← hS2] at P2
      rw [← hS3] at CE
      have l1 : Q1.length + S1.size ≤ 1099511627776 := by rw [hz1]; omega
      have l2 : (Q1 ++ S1.data.toList).length ≤ 1099511627776 := by rw [List.length_append, HS1.out, digs_len]; omega
      have l3 : ((Q1 ++ S1.data.toList) ++ [32]).length + S2.size ≤ 1099511627776 := by rw [List.length_append, List.length_append, HS1.out, digs_len, hz2, List.length_singleton]; omega
      have l4 : (((Q1 ++ S1.data.toList) ++ [32]) ++ S2.data.toList).length + S3.size ≤ 1099511627776 := by rw [List.length_append, List.length_append, List.length_append, HS1.out, HS2.out, digs_len, digs_len, hz3, List.length_singleton]; omega
      clear hS1 hS2 hS3 hz1 hz2 hz3 htk ht hQ1 hfl g1 g2 g3 g4 g5 g6
      go_wp2_with fail
      (with_reducible refine P1.out.mono ?_)
      rintro e w5 ⟨rfl, hk5⟩
      have K5 := Lib.hid (KE.out.trans hk5)
      have E5 := Lib.hid (BE.out.kept hk5)
      have O5 := Lib.hid (OO.out.kept K5.out)
      have z5 := Nat.le_trans zz (Below.size K5.out)
      clear hk5
      go_wp2_with (first
        | (at_builtin; refine wpList_app_text (by rfl) _ _ (by rfl) O5.out (by rfl) S1 (by rfl) z5 l1 ?_; intro v6 w6 ho6 hg6; have O6 := Lib.hid ho6; have B6 := Lib.hid (below_app (BB.out.trans (below_of K5.out zz)) O5.out hg6 z5); have E6 := Lib.hid (show Blk w6 wr.heap.size #[.int .i64 t.n, .int .i64 t.off, .int .i64 t.gen, .bool t.used] 65 from (hg6.block _ E5.out.lt (E5.out.not_out O5.out (by decide))).trans E5.out); have z6 := Nat.le_trans hB B6.out.size; clear ho6 hg6)
        | (at_builtin; refine wpList_app_one (by rfl) _ _ (by rfl) O6.out (by rfl) 32 _ (by rfl) (by rfl) z6 l2 ?_; intro v7 w7 ho7 hg7; have O7 := Lib.hid ho7; have OA6 := Lib.hid (O6.out.kept ((Kept.refl w6).allocO (.cells #[.int .u8 32] 5 (0, 0)))); have B7 := Lib.hid (below_app (B6.out.trans ((Below.refl B w6).alloc z6 _)) OA6.out hg7 (by simp; omega)); have E7 := Lib.hid (show Blk w7 wr.heap.size #[.int .i64 t.n, .int .i64 t.off, .int .i64 t.gen, .bool t.used] 65 from (hg7.block _ (E6.out.alloc _).lt ((E6.out.alloc _).not_out OA6.out (by decide))).trans (E6.out.alloc _)); have z7 := Nat.le_trans hB B7.out.size; obtain ⟨x0, x1, x2, x3⟩ := E7.out.cells4; clear ho7 hg7))
      (with_reducible refine (P2.out w7 (HT.out.on B7.out) z7).mono ?_)
      rintro e w8 ⟨rfl, hk8⟩
      have O8 := Lib.hid (O7.out.kept hk8)
      have B8 := Lib.hid (B7.out.trans (below_of hk8 z7))
      have E8 := Lib.hid (E7.out.kept hk8)
      have z8 := Nat.le_trans hB B8.out.size
      clear hk8 x0 x1 x2 x3
      go_wp2_with (at_builtin; refine wpList_app_text (by rfl) _ _ (by rfl) O8.out (by rfl) S2 (by rfl) z8 l3 ?_; intro v9 w9 ho9 hg9; have O9 := Lib.hid ho9; have B9 := Lib.hid (below_app B8.out O8.out hg9 z8); have E9 := Lib.hid (show Blk w9 wr.heap.size #[.int .i64 t.n, .int .i64 t.off, .int .i64 t.gen, .bool t.used] 65 from (hg9.block _ E8.out.lt (E8.out.not_out O8.out (by decide))).trans E8.out); have z9 := Nat.le_trans hB B9.out.size; obtain ⟨y0, y1, y2, y3⟩ := E9.out.cells4; clear ho9 hg9)
      (with_reducible refine (CE.out w9).mono ?_)
      rintro e w10 ⟨rfl, hk10⟩
      have O10 := Lib.hid (O9.out.kept hk10)
      have B10 := Lib.hid (B9.out.trans (below_of hk10 z9))
      have z10 := Nat.le_trans hB B10.out.size
      clear hk10 y0 y1 y2 y3
      go_wp2_with (at_builtin; refine wpList_app_text (by rfl) _ _ (by rfl) O10.out (by rfl) S3 (by rfl) z10 l4 ?_; intro v11 w11 ho11 hg11; have O11 := Lib.hid (show OutB w11 B v11 (A ++ (l.take (j + 1)).flatMap lineT) from by rw [← HL.out]; rw [HS1.out, HS2.out, HS3.out] at ho11; exact ho11); have B11 := Lib.hid (below_app B10.out O10.out hg11 z10); clear ho11 hg11)
      go_roundg (l.length + 1 - (j + 1))
      case measure => omega
      case rel => exact ⟨j + 1, v11, rfl, rfl, by omega, by go_num, O11.out, B11.out⟩
    · obtain rfl : j = l.length := by omega
      have O9 := Lib.hid (show OutB wr B vv (A ++ l.flatMap lineT) from by have h := OO.out; rwa [List.take_length] at h)
      go_wp2_with fail
      go_ret
      exact ⟨vv, rfl, by have h := O9.out; rw [HA.out] at h; exact h, BB.out⟩

theorem appendSection_any (e0 : Xent) (r0 l : List Xent) (k of c B : Nat) (v : Value) (acc : List UInt8) (w : World) (hl0 : l = e0 :: r0) (hE : EntR w B (some ⟨k, of, none⟩) l) (hv : OutB w B v acc) (hB : B ≤ w.heap.size) (hT : TB B w)
    (hg : ∀ t ∈ l, 0 ≤ t.n ∧ t.n < 4096 ∧ 0 ≤ t.off ∧ t.off ≤ 9999999999 ∧ 0 ≤ t.gen ∧ t.gen ≤ 99999) (hl : l.length ≤ 1048576) (hacc : acc.length ≤ 1073741824) :
    Calls Tryz.prog 28 #[v, .slice (some ⟨k, of, none⟩) l.length c] w fun e w' => ∃ v', e = .returned v' ∧ OutB w' B v' (acc ++ headT e0.n l.length ++ l.flatMap lineT) ∧ Below B w w' := by
  have h00 := hg e0 (by rw [hl0]; exact List.mem_cons_self)
  exact appendSection_of e0 r0 l k of c B v acc w hl0 hE (AppI B e0.n v acc w hv hB hT h00.1 (by omega) (by omega)) hB hT hg hl hacc

end Go.Proofs.YtoablpaehhjchaaGreatDoor

namespace Go.Proofs
open Go.Shelf Go.RowKit Go.Sort Go.Lib
set_option linter.unusedSimpArgs false
set_option linter.unusedVariables false

def YtoablpaehhjchaaGreatDoor.MkV (w : World) (v : Value) (n : Nat) (xs : List Value) : Prop :=
  xs.length = n ∧ ∃ g, v = .slice (some ⟨g, 0, none⟩) n n ∧ g < w.heap.size ∧ ∀ j u, xs[j]? = some u → w.cell? ((⟨g, 0, none⟩ : Addr).add j) = some u
theorem YtoablpaehhjchaaGreatDoor.MkV.below {w w' : World} {v : Value} {n : Nat} {xs : List Value} (h : YtoablpaehhjchaaGreatDoor.MkV w v n xs) (k : Below w.heap.size w w') : YtoablpaehhjchaaGreatDoor.MkV w' v n xs := by
  obtain ⟨h1, g, h2, h3, h4⟩ := h
  exact ⟨h1, g, h2, Nat.lt_of_lt_of_le h3 k.size, fun j u hj => by rw [← h4 j u hj, Addr.add_lit]; exact k.cell (p := ⟨g, _, none⟩) h3⟩

section
variable {P : Program} (w : World)
theorem YtoablpaehhjchaaGreatDoor.mk_grown (B : Nat) (e : TypeId) (n m : Nat) (xs news : List Value) (hxl : xs.length = n) (hnl : news.length = m) (hm : 0 < m) (h63 : n + m ≤ maxLen) (hB : B ≤ w.heap.size) :
    (w.drew.alloc (.cells (xs.toArray ++ news.toArray ++ Builtin.zeroCells (Value.int .u8 0).cells (grownCap w (n + m) n e - (n + m))) e)).ownsRow B e 1
        (.slice (some ⟨w.heap.size, 0, none⟩) (n + m) (grownCap w (n + m) n e)) (n + m) (xs ++ news) ∧
      w.grownBy (w.drew.alloc (.cells (xs.toArray ++ news.toArray ++ Builtin.zeroCells (Value.int .u8 0).cells (grownCap w (n + m) n e - (n + m))) e)) none := by
  have hge := grownCap_ge w (n + m) n e
  have hcm : grownCap w (n + m) n e ≤ maxLen := grownCap_le_maxLen w (n + m) n e h63
  have hlen : (xs ++ news).length = (n + m) * 1 := by rw [List.length_append, hxl, hnl, Nat.mul_one]
  refine ⟨⟨hlen, .inr ⟨w.heap.size, _, _, rfl, hB, heap_alloc_new w.drew _, hge, hcm, ?_, ?_⟩⟩, ⟨rfl, rfl, rfl, by simp, fun k hk _ => heap_alloc_old w.drew _ hk⟩⟩
  · have hz1 : (Value.int IntKind.u8 0).cells.size = 1 := rfl
    simp only [Array.size_append, List.size_toArray, size_zeroCells, hz1, hxl, hnl]
    omega
  · simp only [Array.toList_append, List.append_assoc]
    rw [← List.append_assoc, ← hlen]
    exact List.take_left

theorem YtoablpaehhjchaaGreatDoor.mk_text (B : Nat) (t u ty e : TypeId) (i : TypeInfo) (ht : P.underlying t = some (.slice e)) (hu : P.underlying u = some .string) (hi : P.info? e = some i) (hz : i.zero = some (.int .u8 0)) (hsize : i.size = 1) (hby : i.bytes = 1)
    (v : Value) (n : Nat) (xs : List Value) (h : YtoablpaehhjchaaGreatDoor.MkV w v n xs) (s : ByteArray) (hs : 0 < s.size) (hl : n + s.size ≤ 140737488355328) (hB : B ≤ w.heap.size) :
    ∃ v' w', (Builtin.append_ #[t, u] ty #[v, .string s]).run P w = .ok v' w' ∧ w'.ownsRow B e 1 v' (n + s.size) (xs ++ strCells s) ∧ w.grownBy w' none := by
  obtain ⟨hxl, g, rfl, _, holds⟩ := h
  have hr := run_append_grow_string (P := P) w t u ty e i (.int .u8 0) ht hu hi hz ⟨g, 0, none⟩ n n xs (by rw [hsize]; simpa using hxl) holds s (by omega) (by omega) (by rw [hby]; exact growslice_fits (by omega) (by omega))
  obtain ⟨h1, h2⟩ := YtoablpaehhjchaaGreatDoor.mk_grown w B e n s.size xs (strCells s) hxl (strCells_length s) hs (by unfold maxLen; omega) hB
  exact ⟨_, _, hr, h1, h2⟩

theorem YtoablpaehhjchaaGreatDoor.mk_row (B : Nat) (t ty e : TypeId) (i : TypeInfo) (ht : P.underlying t = some (.slice e)) (hi : P.info? e = some i) (hz : i.zero = some (.int .u8 0)) (hsize : i.size = 1) (hby : i.bytes = 1)
    (v : Value) (n : Nat) (xs : List Value) (h : YtoablpaehhjchaaGreatDoor.MkV w v n xs) (a : Addr) (m c : Nat) (news : List Value) (hnl : news.length = m) (hnews : ∀ j u, news[j]? = some u → w.cell? (a.add j) = some u) (hs : 0 < m) (hl : n + m ≤ 140737488355328) (hB : B ≤ w.heap.size) :
    ∃ v' w', (Builtin.append_ #[t, t] ty #[v, .slice (some a) m c]).run P w = .ok v' w' ∧ w'.ownsRow B e 1 v' (n + m) (xs ++ news) ∧ w.grownBy w' none := by
  obtain ⟨hxl, g, rfl, _, holds⟩ := h
  have hr := run_append_grow (P := P) w t ty e i (.int .u8 0) ht hi hz ⟨g, 0, none⟩ n n xs (by rw [hsize]; simpa using hxl) holds a m c news (by rw [hsize]; simpa using hnl) hnews (by omega) (by omega) (by rw [hby]; exact growslice_fits (by omega) (by omega))
  obtain ⟨h1, h2⟩ := YtoablpaehhjchaaGreatDoor.mk_grown w B e n m xs news hxl hnl hs (by unfold maxLen; omega) hB
  exact ⟨_, _, hr, h1, h2⟩
end

section
variable {P : Program} {ρ : Ren}
set_option maxHeartbeats 6400000 in
set_option maxRecDepth 100000 in
theorem YtoablpaehhjchaaGreatDoor.mk_small (L : LaysM.n288 P ρ) (B n u : Nat) (hu : u < 100) (sv : Value) (xs : List Value) (w : World) (hmk : YtoablpaehhjchaaGreatDoor.MkV w sv n xs) (hBw : B ≤ w.heap.size) (hlim : n + 20 ≤ 140737488355328) :
    Calls P (ρ.f 288) #[sv, .int .u64 u, .int .i64 10] w fun e w' => ∃ v', e = .returned v' ∧ w'.ownsRow B (ρ.t 5) 1 v' (n + (Lib.decDigits u).length) (xs ++ Lib.byteCells (Lib.decDigits u)) ∧ Below B w w' := by
  have mixed := L.mixed
  have t5 := L.t5; have a5 := L.a5; have z5 := L.z5; have v5 := L.v5
  have t37 := L.t37; have u37 := run_underlying L.t37; have a37 := L.a37; have z37 := L.z37; have v37 := L.v37
  have t53 := L.t53; have a53 := L.a53; have z53 := L.z53; have v53 := L.v53
  have t3 := L.t3; have a3 := L.a3; have z3 := L.z3; have v3 := L.v3
  have t4 := L.t4; have a4 := L.a4; have z4 := L.z4; have v4 := L.v4
  have t9 := L.t9; have a9 := L.a9; have z9 := L.z9; have v9 := L.v9
  have t171 := L.t171; have a171 := L.a171; have z171 := L.z171; have v171 := L.v171
  have t0 := L.t0; have a0 := L.a0; have z0 := L.z0; have v0 := L.v0
  have t173 := L.t173; have a173 := L.a173; have z173 := L.z173; have v173 := L.v173
  have e283 : ∀ args w, (callFunc (ρ.f 283) args).run P w = .ok (.enter (ρ.f 283) args) w := enters_of L.f283 (by kernel_rfl) rfl
  obtain ⟨i0, hi, hz0, hz1, hz2⟩ := info_parts L.i5
  have hlen : (Lib.decDigits u).length ≤ 20 := by
    rw [Lib.decDigits_length]
    by_cases h10 : u < 10
    · rw [Lib.nDigits_small h10]; omega
    · rw [Lib.nDigits_big h10, Lib.nDigits_small (show u / 10 < 10 by omega)]; omega
  have hpos : 0 < (Lib.decDigits u).length := by rw [Lib.decDigits_length]; exact Lib.nDigits_pos u
  have hsz : (⟨(Lib.decDigits u).toArray⟩ : ByteArray).size = (Lib.decDigits u).length := by simp [ByteArray.size]
  obtain ⟨v', w1, hr, hown', hgrow⟩ := YtoablpaehhjchaaGreatDoor.mk_text (P := P) w B (ρ.t 37) (ρ.t 9) (ρ.t 37) (ρ.t 5) i0 L.t37 L.t9 hi hz0 hz1 hz2 sv n xs hmk ⟨(Lib.decDigits u).toArray⟩ (by rw [hsz]; exact hpos) (by rw [hsz]; omega) hBw
  go_enter L.f288, Body.n288_ntmps ρ
  go_wp2_with (first
    | (go_at_fn (ρ.f 283); refine (Any.internal_strconv_small { L with } u hu _).mono ?_; rintro e w' ⟨rfl, rfl⟩)
    | (at_builtin; refine Lib.wpList_append_run _ rfl _ _ (ρ.t 37) (ρ.t 9) rfl _ _ rfl rfl _ _ hr ?_))
  go_ret
  refine ⟨v', rfl, ?_, (Below.refl B _).grown hgrow hBw (fun k hk => by cases hk)⟩
  first | exact hown' | (rw [hsz] at hown'; exact hown')

set_option maxHeartbeats 12800000 in
set_option maxRecDepth 100000 in
theorem YtoablpaehhjchaaGreatDoor.mk_big (L : LaysM.n288 P ρ) (B n u : Nat) (hu : 100 ≤ u) (hu64 : u < 18446744073709551616) (sv : Value) (xs : List Value) (w : World) (hmk : YtoablpaehhjchaaGreatDoor.MkV w sv n xs) (hBw : B ≤ w.heap.size) (hlim : n + 20 ≤ 140737488355328)
    (htab : Lib.TabIs P w "internal/strconv.uint64pow10" .u64 Lib.pow10Tab) :
    Calls P (ρ.f 288) #[sv, .int .u64 u, .int .i64 10] w fun e w' => ∃ v', e = .returned v' ∧ w'.ownsRow B (ρ.t 5) 1 v' (n + (Lib.decDigits u).length) (xs ++ Lib.byteCells (Lib.decDigits u)) ∧ Below B w w' := by
  have mixed := L.mixed
  have t5 := L.t5; have a5 := L.a5; have z5 := L.z5; have v5 := L.v5
  have t37 := L.t37; have u37 := run_underlying L.t37; have a37 := L.a37; have z37 := L.z37; have v37 := L.v37
  have t53 := L.t53; have a53 := L.a53; have z53 := L.z53; have v53 := L.v53
  have t3 := L.t3; have a3 := L.a3; have z3 := L.z3; have v3 := L.v3
  have t4 := L.t4; have a4 := L.a4; have z4 := L.z4; have v4 := L.v4
  have t9 := L.t9; have a9 := L.a9; have z9 := L.z9; have v9 := L.v9
  have t171 := L.t171; have a171 := L.a171; have z171 := L.z171; have v171 := L.v171
  have t0 := L.t0; have a0 := L.a0; have z0 := L.z0; have v0 := L.v0
  have t173 := L.t173; have a173 := L.a173; have z173 := L.z173; have v173 := L.v173
  have e284 : ∀ args w, (callFunc (ρ.f 284) args).run P w = .ok (.enter (ρ.f 284) args) w := enters_of L.f284 (by kernel_rfl) rfl
  have e285 : ∀ args w, (callFunc (ρ.f 285) args).run P w = .ok (.enter (ρ.f 285) args) w := enters_of L.f285 (by kernel_rfl) rfl
  obtain ⟨i0, hi, hz0, hz1, hz2⟩ := info_parts L.i5
  have hu1 : 1 ≤ u := by omega
  have hnd20 : Lib.nDigits u ≤ 20 := by have := Lib.numDigits_eq u hu1 hu64; split at this <;> omega
  have hnd1 : 0 < Lib.nDigits u := Lib.nDigits_pos u
  have hal : P.arrayLen (ρ.t 171) = 24 := by simp [Program.arrayLen, L.t171]
  have hsl : ∀ W, (Instr.sliceAt (ρ.t 171) (.pointer (some ⟨w.heap.size, 0, none⟩)) none (some (.int .i64 (Lib.nDigits u : Int))) none).run P W = .ok (.slice (some ⟨w.heap.size, 0, none⟩) (Lib.nDigits u) 24) W := fun W => by
    rw [run_sliceAt_array_h W (ρ.t 171) ⟨w.heap.size, 0, none⟩ (by simp [Program.arrayLen, Program.elem, L.t171]) .i64 (Lib.nDigits u : Int) (by omega) (by rw [hal]; omega)]
    go_simp
  have hH0 := Lib.holds_zero0 w (ρ.t 171) (Lib.nDigits u) (by omega)
  have hfmt := Any.internal_strconv_formatBase10 { L with } w.heap.size 0 24 u (Array.replicate (Lib.nDigits u) 0) (w.alloc (.cells Lib.zeros24 (ρ.t 171))) hH0 (by rw [Array.size_replicate]; exact Lib.lt_pow_nDigits u) hu64 (by rw [Array.size_replicate]; omega)
  rw [Array.size_replicate] at hfmt
  have HH0 := Lib.hid hH0
  have iu : (100 : Int) ≤ (u : Int) := by omega
  clear hH0 hal
  go_enter L.f288, Body.n288_ntmps ρ
  go_wp2_with (first
    | (go_at_fn (ρ.f 284); refine (Any.internal_strconv_numDigits { L with } u hu1 hu64 _ (Lib.tabIs_alloc htab _)).mono ?_; rintro e w' ⟨rfl, rfl⟩))
  go_at_fn (ρ.f 285)
  refine hfmt.mono ?_
  rintro e w' ⟨rfl, k, v', dk, rfl, hF⟩
  have hcells : ∀ j u', (Lib.byteCells (Lib.decDigits u))[j]? = some u' → ((putRow (fun (b : UInt8) => Value.int .u8 (b.toNat : Int)) (w.alloc (.cells Lib.zeros24 (ρ.t 171))) w.heap.size 0 dk).drewN k).cell? ((⟨w.heap.size, 0, none⟩ : Addr).add j) = some u' := by
    intro j u' hj
    have hjl : j < (Lib.decDigits u).length := by
      have h5 := (List.getElem?_eq_some_iff.1 hj).1
      rwa [Lib.byteCells_length] at h5
    have e5 : (Lib.byteCells (Lib.decDigits u))[j]? = some (Value.int .u8 ((Lib.decDigits u)[j].toNat : Int)) := by simp [Lib.byteCells, hjl]
    rw [e5] at hj
    cases hj
    rw [Lib.row_is_numeral hF j hjl, Lib.add_plain, World.cell?_drewN]
    exact cell?_putRow (fun (b : UInt8) => Value.int .u8 (b.toNat : Int)) _ w.heap.size 0 _ dk HH0.out (by rw [hF.size, Array.size_replicate]) j (by rw [hF.size]; rw [Lib.decDigits_length] at hjl; exact hjl)
  obtain ⟨os, eo⟩ := Lib.fin_at w (.cells Lib.zeros24 (ρ.t 171)) dk k 0
  have hnx2 : Below B w ((putRow (fun (b : UInt8) => Value.int .u8 (b.toNat : Int)) (w.alloc (.cells Lib.zeros24 (ρ.t 171))) w.heap.size 0 dk).drewN k) := by rw [eo]; exact Lib.below_grow B w hBw k os
  have hmk2 : YtoablpaehhjchaaGreatDoor.MkV ((putRow (fun (b : UInt8) => Value.int .u8 (b.toNat : Int)) (w.alloc (.cells Lib.zeros24 (ρ.t 171))) w.heap.size 0 dk).drewN k) sv n xs := hmk.below (by rw [eo]; exact Lib.below_grow w.heap.size w (Nat.le_refl _) k os)
  have hsz2 : w.heap.size ≤ ((putRow (fun (b : UInt8) => Value.int .u8 (b.toNat : Int)) (w.alloc (.cells Lib.zeros24 (ρ.t 171))) w.heap.size 0 dk).drewN k).heap.size := by rw [eo]; exact Lib.size_grow w k os
  generalize (putRow (fun (b : UInt8) => Value.int .u8 (b.toNat : Int)) (w.alloc (.cells Lib.zeros24 (ρ.t 171))) w.heap.size 0 dk).drewN k = W2 at hcells hmk2 hnx2 hsz2 ⊢
  clear eo HH0 hfmt
  obtain ⟨v2, w3, hr, hown', hgrow⟩ := YtoablpaehhjchaaGreatDoor.mk_row (P := P) W2 B (ρ.t 37) (ρ.t 37) (ρ.t 5) i0 L.t37 hi hz0 hz1 hz2 sv n xs hmk2 ⟨w.heap.size, 0, none⟩ (Lib.nDigits u) 24 (Lib.byteCells (Lib.decDigits u)) (by rw [Lib.byteCells_length, Lib.decDigits_length]) hcells hnd1 (by omega) (by omega)
  go_wp2_with (at_builtin; refine Lib.wpList_append_run _ rfl _ _ (ρ.t 37) (ρ.t 37) rfl _ _ rfl rfl _ _ hr ?_)
  go_ret
  refine ⟨v2, rfl, ?_, hnx2.grown hgrow (by omega) (fun k hk => by cases hk)⟩
  rw [Lib.decDigits_length]
  exact hown'

theorem YtoablpaehhjchaaGreatDoor.mk_uint (L : LaysM.n288 P ρ) (B n u : Nat) (hu64 : u < 18446744073709551616) (sv : Value) (xs : List Value) (w : World) (hmk : YtoablpaehhjchaaGreatDoor.MkV w sv n xs) (hBw : B ≤ w.heap.size) (hlim : n + 20 ≤ 140737488355328)
    (htab : Lib.TabIs P w "internal/strconv.uint64pow10" .u64 Lib.pow10Tab) :
    Calls P (ρ.f 288) #[sv, .int .u64 u, .int .i64 10] w fun e w' => ∃ v', e = .returned v' ∧ w'.ownsRow B (ρ.t 5) 1 v' (n + (Lib.decDigits u).length) (xs ++ Lib.byteCells (Lib.decDigits u)) ∧ Below B w w' := by
  by_cases h : u < 100
  · exact YtoablpaehhjchaaGreatDoor.mk_small { L with } B n u h sv xs w hmk hBw hlim
  · exact YtoablpaehhjchaaGreatDoor.mk_big { L with } B n u (by omega) hu64 sv xs w hmk hBw hlim htab

set_option maxHeartbeats 6400000 in
set_option maxRecDepth 100000 in
theorem YtoablpaehhjchaaGreatDoor.mk_int0 (L : LaysM.n249 P ρ) (B n u : Nat) (hu : u < 9223372036854775808) (sv : Value) (xs : List Value) (w : World) (hmk : YtoablpaehhjchaaGreatDoor.MkV w sv n xs) (hBw : B ≤ w.heap.size) (hlim : n + 21 ≤ 140737488355328)
    (htab : Lib.TabBelow P B w "internal/strconv.uint64pow10" .u64 Lib.pow10Tab) :
    Calls P (ρ.f 249) #[sv, .int .i64 u, .int .i64 10] w fun e w' => ∃ v', e = .returned v' ∧ w'.ownsRow B (ρ.t 5) 1 v' (n + (Lib.decDigits u).length) (xs ++ Lib.byteCells (Lib.decDigits u)) ∧ Below B w w' := by
  have mixed := L.mixed
  have t5 := L.t5; have a5 := L.a5; have z5 := L.z5; have v5 := L.v5
  have t37 := L.t37; have u37 := run_underlying L.t37; have a37 := L.a37; have z37 := L.z37; have v37 := L.v37
  have t2 := L.t2; have a2 := L.a2; have z2 := L.z2; have v2 := L.v2
  have t3 := L.t3; have a3 := L.a3; have z3 := L.z3; have v3 := L.v3
  have t53 := L.t53; have a53 := L.a53; have z53 := L.z53; have v53 := L.v53
  have t4 := L.t4; have a4 := L.a4; have z4 := L.z4; have v4 := L.v4
  have e288 : ∀ args w, (callFunc (ρ.f 288) args).run P w = .ok (.enter (ρ.f 288) args) w := enters_of L.f288 (by kernel_rfl) rfl
  have hneg : ¬ ((u : Int) < 0) := by omega
  have hu64 : u < 18446744073709551616 := by omega
  go_enter L.f249, Body.n249_ntmps ρ
  go_wp2_with (go_at_fn (ρ.f 288); refine (YtoablpaehhjchaaGreatDoor.mk_uint { L with } B n u hu64 sv xs w hmk hBw (by omega) htab.here).mono ?_; rintro e w2 ⟨v2, rfl, hown2, hnx2⟩)
  go_wp2
  first | go_ret | go_ret2
  exact ⟨v2, rfl, hown2, hnx2⟩

set_option maxRecDepth 100000 in
theorem YtoablpaehhjchaaGreatDoor.mk_int (L : LaysM.n176 P ρ) (B n u : Nat) (hu : u < 9223372036854775808) (sv : Value) (xs : List Value) (w : World) (hmk : YtoablpaehhjchaaGreatDoor.MkV w sv n xs) (hBw : B ≤ w.heap.size) (hlim : n + 21 ≤ 140737488355328)
    (htab : Lib.TabBelow P B w "internal/strconv.uint64pow10" .u64 Lib.pow10Tab) :
    Calls P (ρ.f 176) #[sv, .int .i64 u, .int .i64 10] w fun e w' => ∃ v', e = .returned v' ∧ w'.ownsRow B (ρ.t 5) 1 v' (n + (Lib.decDigits u).length) (xs ++ Lib.byteCells (Lib.decDigits u)) ∧ Below B w w' := by
  have mixed := L.mixed
  have t5 := L.t5; have a5 := L.a5; have z5 := L.z5; have v5 := L.v5
  have t37 := L.t37; have u37 := run_underlying L.t37; have a37 := L.a37; have z37 := L.z37; have v37 := L.v37
  have t2 := L.t2; have a2 := L.a2; have z2 := L.z2; have v2 := L.v2
  have t3 := L.t3; have a3 := L.a3; have z3 := L.z3; have v3 := L.v3
  have e249 : ∀ args w, (callFunc (ρ.f 249) args).run P w = .ok (.enter (ρ.f 249) args) w := enters_of L.f249 (by kernel_rfl) rfl
  go_enter L.f176, Body.n176_ntmps ρ
  go_wp2_with (go_at_fn (ρ.f 249); refine (YtoablpaehhjchaaGreatDoor.mk_int0 { L with } B n u hu sv xs w hmk hBw hlim htab).mono ?_; rintro e w2 ⟨v2, rfl, hown2, hnx2⟩)
  go_wp2
  first | go_ret | go_ret2
  exact ⟨v2, rfl, hown2, hnx2⟩
end
end Go.Proofs

namespace Go.Proofs.YtoablpaehhjchaaGreatDoor
open Go.RowKit Rx

theorem AppM (B : Nat) (i : Int) (v : Value) (acc : List UInt8) (w : World) (hm : MkV w v acc.length (Lib.byteCells acc)) (hB : B ≤ w.heap.size) (ht : TB B w) (h0 : 0 ≤ i) (h1 : i ≤ 1099511627776) (hl : acc.length ≤ 1099511627776) :
    Calls Tryz.prog 46 #[v, .int .i64 i, .int .i64 10] w fun e w' => ∃ v', e = .returned v' ∧ OutB w' B v' (acc ++ Lib.itoa i) ∧ Below B w w' := by
  obtain ⟨u, rfl⟩ : ∃ u : Nat, i = u := ⟨i.toNat, by omega⟩
  rw [Lib.itoa_nonneg]
  exact (YtoablpaehhjchaaGreatDoor.mk_int Tryz.laysM176 B acc.length u (by omega) v (Lib.byteCells acc) w hm hB (by omega) ht).mono fun e w' ⟨v', he, h1, h2⟩ => ⟨v', he, by unfold OutB; rw [List.length_append, Lib.byteCells_append]; exact h1, h2⟩
end Go.Proofs.YtoablpaehhjchaaGreatDoor

namespace Go.Proofs.YtoablpaehhjchaaGreatDoor
open Go.RowKit Rx
set_option linter.unusedSimpArgs false
set_option linter.unusedVariables false

theorem appendSection_mk (e0 : Xent) (r0 l : List Xent) (k of c B : Nat) (v : Value) (acc : List UInt8) (w : World) (hl0 : l = e0 :: r0) (hE : EntR w B (some ⟨k, of, none⟩) l) (hv : MkV w v acc.length (Lib.byteCells acc)) (hB : B ≤ w.heap.size) (hT : TB B w)
    (hg : ∀ t ∈ l, 0 ≤ t.n ∧ t.n < 4096 ∧ 0 ≤ t.off ∧ t.off ≤ 9999999999 ∧ 0 ≤ t.gen ∧ t.gen ≤ 99999) (hl : l.length ≤ 1048576) (hacc : acc.length ≤ 1073741824) :
    Calls Tryz.prog 28 #[v, .slice (some ⟨k, of, none⟩) l.length c] w fun e w' => ∃ v', e = .returned v' ∧ OutB w' B v' (acc ++ headT e0.n l.length ++ l.flatMap lineT) ∧ Below B w w' := by
  have h00 := hg e0 (by rw [hl0]; exact List.mem_cons_self)
  exact appendSection_of e0 r0 l k of c B v acc w hl0 hE (AppM B e0.n v acc w hv hB hT h00.1 (by omega) (by omega)) hB hT hg hl hacc

def OutM (w : World) (B : Nat) (v : Value) (l : List UInt8) : Prop := OutB w B v l ∨ MkV w v l.length (Lib.byteCells l)
theorem OutM.string {w : World} {B : Nat} {v : Value} {l : List UInt8} (h : OutM w B v l) : (convert 69 9 v).run Tryz.prog w = .ok (.string ⟨l.toArray⟩) w := by
  have key : ∀ g cap, (∀ j u, (Lib.byteCells l)[j]? = some u → w.cell? ((⟨g, 0, none⟩ : Addr).add j) = some u) → (convert 69 9 (.slice (some ⟨g, 0, none⟩) l.length cap)).run Tryz.prog w = .ok (.string ⟨l.toArray⟩) w := fun g cap hc => by
    refine run_convert_bytes_back (P := Tryz.prog) w 69 9 5 ⟨g, 0, none⟩ cap l Tryz.underlying69 Tryz.underlying5 Tryz.underlying9 fun j hj => ?_
    exact hc j _ (by simp [Lib.byteCells, hj])
  rcases h with h | ⟨_, g, rfl, _, hc⟩
  · rcases h.2 with ⟨rfl, h0⟩ | ⟨g, cap, cur, hv, _⟩
    · obtain rfl := List.length_eq_zero_iff.1 h0
      exact run_convert_bytes_nil (P := Tryz.prog) w 69 5 Tryz.underlying69 Tryz.underlying5 0 0 _ Tryz.underlying9
    · have hc := World.ownsRow.cells (g := g) h (by rw [hv]; rfl)
      subst hv
      exact key g cap hc
  · exact key g _ hc
theorem appendSection_m (e0 : Xent) (r0 l : List Xent) (k of c B : Nat) (v : Value) (acc : List UInt8) (w : World) (hl0 : l = e0 :: r0) (hE : EntR w B (some ⟨k, of, none⟩) l) (hv : OutM w B v acc) (hB : B ≤ w.heap.size) (hT : TB B w)
    (hg : ∀ t ∈ l, 0 ≤ t.n ∧ t.n < 4096 ∧ 0 ≤ t.off ∧ t.off ≤ 9999999999 ∧ 0 ≤ t.gen ∧ t.gen ≤ 99999) (hl : l.length ≤ 1048576) (hacc : acc.length ≤ 1073741824) :
    Calls Tryz.prog 28 #[v, .slice (some ⟨k, of, none⟩) l.length c] w fun e w' => ∃ v', e = .returned v' ∧ OutB w' B v' (acc ++ headT e0.n l.length ++ l.flatMap lineT) ∧ Below B w w' := by
  rcases hv with hv | hv
  · exact appendSection_any e0 r0 l k of c B v acc w hl0 hE hv hB hT hg hl hacc
  · exact appendSection_mk e0 r0 l k of c B v acc w hl0 hE hv hB hT hg hl hacc
theorem OutM.kept {w w' : World} {B : Nat} {v : Value} {l : List UInt8} (h : OutM w B v l) (k : Kept w w') : OutM w' B v l := h.elim (fun h => .inl (h.kept k)) (fun h => .inr (h.below k))
theorem marked_mk (w : World) (l : List UInt8) (C : Array Value) (hC : C.toList = Lib.byteCells l) (fr : Nat × Nat) : MkV (w.alloc (.cells C 5 fr)) (.slice (some ⟨w.heap.size, 0, none⟩) l.length l.length) l.length (Lib.byteCells l) := by
  refine ⟨Lib.byteCells_length l, w.heap.size, rfl, by simp, fun j u hj => ?_⟩
  rw [Addr.add_lit, Nat.zero_add, World.cell?_alloc_mark, ← Array.getElem?_toList, hC]
  exact hj

theorem ents_ahead (k of len c n : Nat) (hn : n ≤ c) (hc : 1 ≤ c) (W : World) :
    (Instr.sliceAt 22 (.slice (some ⟨k, of, none⟩) len c) none (some (.int .i64 (n : Int))) none).run Tryz.prog W = .ok (.slice (some ⟨k, of, none⟩) n c) W := by
  have h1 : ¬ c = 0 := by omega
  have h2 : (n : Int) ≤ (c : Int) := by omega
  have h3 : (0 : Int) ≤ (n : Int) := by omega
  go_simp
theorem ents_behind (k of len c n : Nat) (hn : n ≤ len) : ∃ o', (o' = of + n * 4 ∨ n = c) ∧ ∀ W : World,
    (Instr.sliceAt 22 (.slice (some ⟨k, of, none⟩) len c) (some (.int .i64 (n : Int))) none none).run Tryz.prog W = .ok (.slice (some ⟨k, o', none⟩) (len - n) (c - n)) W := by
  have h2 : (n : Int) ≤ (len : Int) := by omega
  have h3 : (0 : Int) ≤ (n : Int) := by omega
  by_cases hc : c = n
  · refine ⟨of, .inr hc.symm, fun W => ?_⟩
    go_simp
  · refine ⟨of + n * 4, .inl rfl, fun W => ?_⟩
    go_simp

theorem line_len (e : Xent) : (lineT e).length = 20 := by
  unfold lineT
  cases e.used <;> simp [digs_len]
theorem body_len : ∀ (l : List Xent) (p : Option Int), (∀ e ∈ l, 0 ≤ e.n ∧ e.n < 4096) → l.length ≤ 4096 → (bodyT p l).length ≤ 33 * l.length
  | [], p, _, _ => by unfold bodyT; simp
  | e :: r, p, h, hl => by
    have ih := body_len r (some e.n) (fun x hx => h x (List.mem_cons_of_mem _ hx)) (by rw [List.length_cons] at hl; omega)
    have h0 := h e List.mem_cons_self
    have h1 : Lib.nDigits e.n.toNat ≤ 4 := (nDigits_le_iff (by decide)).2 (by omega)
    have hr := runL_le (e :: r)
    have h2 : Lib.nDigits (runL (e :: r)) ≤ 4 := (nDigits_le_iff (by decide)).2 (by omega)
    have hh : (headT e.n (runL (e :: r))).length ≤ 10 := by
      unfold headT
      simp only [List.length_append, Lib.decDigits_length, List.length_singleton]
      omega
    rw [bodyT]
    have h3 := line_len e
    split
    · simp only [List.length_append, List.length_nil, List.length_cons]; omega
    · simp only [List.length_append, List.length_cons]; omega
theorem ris_len : ∀ {l : List Xent} {n : Int}, risG n l = true → (∀ e ∈ l, e.n < 4096) → n < 4096 → (l.length : Int) + n < 4096
  | [], n, _, _, h => by simpa using h
  | e :: r, n, h, hm, _ => by
    obtain ⟨h1, _, _, h2⟩ := ris_cons.1 h
    have := ris_len h2 (fun x hx => hm x (List.mem_cons_of_mem _ hx)) (hm e List.mem_cons_self)
    rw [List.length_cons]; omega

set_option maxRecDepth 100000 in
set_option maxHeartbeats 8000000 in
theorem Write_bad (l : List Xent) (p : Option Addr) (c B : Nat) (w : World) (h : EntR w w.heap.size p l) (hf : TB B w) (hB : B ≤ w.heap.size) (hw : ∀ t ∈ l, t.off ≤ 9223372036854775807 ∧ t.gen ≤ 9223372036854775807) (hl : l.length ≤ 1099511627776) (hne : writeE l ≠ 0) :
    Calls Tryz.prog 7 #[.slice p l.length c] w fun e w' => e = .returned (.tuple #[.string ⟨(writeV l).toArray⟩, .int .i64 (writeE l)]) ∧ Kept w w' := by
  have C := Lib.hid (xsane_any l p c B w h hf hB hw hl)
  have HV : writeV l = [] := by unfold writeV; rw [if_neg hne]
  rw [HV]
  obtain ⟨E, hE⟩ : ∃ E, E = writeE l := ⟨_, rfl⟩
  rw [← hE] at C hne ⊢
  have hne2 : ¬ E = 0 := hne
  clear h hf hw hE HV
  go_enter Tryz.func7, Tryz.ntmps7
  go_wp2_with fail
  (with_reducible refine C.out.mono ?_)
  rintro e w1 ⟨rfl, hk1⟩
  go_wp2_with fail
  go_ret2
  exact ⟨rfl, hk1⟩

theorem TB.up {B B' : Nat} {w : World} (h : TB B w) (hB : B ≤ B') : TB B' w := fun W k => h W (k.mono hB)

set_option maxRecDepth 100000 in
set_option maxHeartbeats 16000000 in
theorem Write_good (l : List Xent) (p : Option Addr) (c B : Nat) (w : World) (h : EntR w w.heap.size p l) (hf : TB B w) (hB : B ≤ w.heap.size) (hw : ∀ t ∈ l, t.off ≤ 9223372036854775807 ∧ t.gen ≤ 9223372036854775807) (hc : l.length ≤ c) (hl : l.length ≤ 1099511627776) (hne : writeE l = 0) :
    Calls Tryz.prog 7 #[.slice p l.length c] w fun e w' => e = .returned (.tuple #[.string ⟨(writeV l).toArray⟩, .int .i64 (writeE l)]) ∧ Kept w w' := by
  have C := Lib.hid (xsane_any l p c B w h hf hB hw hl)
  obtain ⟨hris, hall⟩ := writeE_zero hne
  have hlen : l.length ≤ 4096 := by
    have := ris_len hris (fun e he => (hall e he).2.1) (by decide)
    omega
  have hlen2 : (writeT l).length ≤ 200000 := by
    unfold writeT
    rw [List.length_append]
    have := body_len l none (fun e he => ⟨(hall e he).1, (hall e he).2.1⟩) hlen
    have : xrefT.length = 5 := rfl
    omega
  have HV : writeV l = writeT l := by unfold writeV; rw [if_pos hne]
  rw [HV, hne]
  rw [hne] at C
  have HT := Lib.hid (hf.up hB)
  have HE := Lib.hid h
  have HA := Lib.hid hall
  have HL := Lib.hid hlen2
  clear h hf hw hl HV hris hall hne hlen2
  go_enter Tryz.func7, Tryz.ntmps7
  go_wp2_with fail
  (with_reducible refine C.out.mono ?_)
  rintro e w1 ⟨rfl, hk1⟩
  have kc := Lib.run_convert_bytes_const (P := Tryz.prog) w1 69 5 #[.int .u8 120, .int .u8 114, .int .u8 101, .int .u8 102, .int .u8 10] 5 5 Tryz.underlying69 Tryz.underlying5
  have K1 := Lib.hid hk1
  have K2 := Lib.hid (show Kept w (w1.alloc (.cells #[.int .u8 120, .int .u8 114, .int .u8 101, .int .u8 102, .int .u8 10] 5 (5, 6))) from hk1.allocO _)
  have O2 := Lib.hid (show OutM (w1.alloc (.cells #[.int .u8 120, .int .u8 114, .int .u8 101, .int .u8 102, .int .u8 10] 5 (5, 6))) w.heap.size (.slice (some ⟨w1.heap.size, 0, none⟩) 5 5) xrefT from .inr (marked_mk w1 xrefT _ rfl _))
  clear hk1 C
  go_wp2_with fail
  go_loopg [5, 6] (l.length) (fun x ov rv wr => ∃ (m c' : Nat) (q : Option Addr) (vv : Value) (acc : List UInt8), vv = ov ∧ x = l.length - m ∧ m ≤ l.length ∧ rv = .slice q (l.drop m).length c' ∧ (l.drop m).length ≤ c' ∧ EntR wr w.heap.size q (l.drop m) ∧ OutM wr w.heap.size vv acc ∧ Hid (writeT l = acc ++ bodyT none (l.drop m)) ∧ Kept w wr)
  case atStart => exact ⟨0, c, p, _, xrefT, rfl, rfl, Nat.zero_le _, rfl, hc, HE.out.keep (Nat.le_refl _) K2.out, O2.out, Lib.hid rfl, K2.out⟩
  case round =>
    obtain ⟨m, c', q, vv, acc, rfl, hx, hm, rfl, hc', he, ho, HR, hk⟩ := hrel
    have hlm : (l.drop m).length ≤ 4096 := by rw [List.length_drop]; omega
    have hdl : (l.drop m).length = l.length - m := List.length_drop
    have HD := Lib.hid (fun n => show l.drop (m + n) = (l.drop m).drop n by rw [List.drop_drop])
    have HG := Lib.hid (show ∀ t ∈ l.drop m, 0 ≤ t.n ∧ t.n < 4096 ∧ 0 ≤ t.off ∧ t.off ≤ 9999999999 ∧ 0 ≤ t.gen ∧ t.gen ≤ 99999 from fun t ht => HA.out t (List.mem_of_mem_drop ht))
    obtain ⟨M, hM⟩ : ∃ M, M = l.drop m := ⟨_, rfl⟩
    rw [← hM] at hc' he HR hlm HG HD hdl ⊢
    have HM := Lib.hid hM
    have EM := Lib.hid he
    have OM := Lib.hid ho
    have KM := Lib.hid hk
    clear hM he ho hk K1 K2 O2 kc
    by_cases hM0 : M = []
    · have hl0 : M.length = 0 := by rw [hM0]; rfl
      have HS := Lib.hid (show (convert 69 9 vv).run Tryz.prog wr = .ok (.string ⟨(writeT l).toArray⟩) wr by
        have := OM.out.string
        rw [HR.out, hM0, show bodyT none [] = [] by unfold bodyT; rfl, List.append_nil]
        exact this)
      have cv := HS.out
      clear hdl
      go_wp2_with fail
      go_ret2
      exact ⟨rfl, KM.out⟩
    · obtain ⟨e0, r0, hM1⟩ : ∃ e r, M = e :: r := by
        cases M with
        | nil => exact absurd rfl hM0
        | cons e r => exact ⟨e, r, rfl⟩
      have hpos : 0 < M.length := by rw [hM1]; simp
      obtain ⟨k, of, rfl, -⟩ := EM.out 0 hpos
      have CR := Lib.hid (run_any M k of c' wr hM0 (EM.out.mono (by have := Below.size KM.out; exact this)) (fun t ht => by have := HG.out t ht; omega) (by omega))
      have hn1 := runL_pos hM0
      have hn2 := runL_le M
      have HB := Lib.hid (body_run hM1)
      obtain ⟨n, hn⟩ : ∃ n, n = runL M := ⟨_, rfl⟩
      rw [← hn] at CR hn1 hn2 HB
      have htl : (M.take n).length = n := by rw [List.length_take]; omega
      have ht1 : M.take n = e0 :: (r0.take (n - 1)) := by
        rw [hM1]
        obtain ⟨j, rfl⟩ : ∃ j, n = j + 1 := ⟨n - 1, by omega⟩
        rfl
      have hacc : acc.length ≤ 200000 := by
        have := HL.out
        rw [HR.out, List.length_append] at this
        omega
      have CA := Lib.hid (fun W (hk : Kept wr W) => show Calls Tryz.prog 28 #[vv, .slice (some ⟨k, of, none⟩) n c'] W fun e w' => ∃ v', e = .returned v' ∧ OutB w' w.heap.size v' (acc ++ headT e0.n n ++ (M.take n).flatMap lineT) ∧ Below w.heap.size W w' from by
        have z := Below.size KM.out
        have := appendSection_m e0 (r0.take (n - 1)) (M.take n) k of c' w.heap.size vv acc W ht1 ((EM.out.below (below_of hk z)).take n) (OM.out.kept hk) (Nat.le_trans z (Below.size hk)) (HT.out.on (Below.trans (show Below w.heap.size w wr from KM.out) (below_of hk z))) (fun t ht => HG.out t (List.mem_of_mem_take ht)) (by rw [htl]; omega) (by omega)
        rwa [htl] at this)
      have s1 := ents_ahead k of M.length c' n (by omega) (by omega)
      obtain ⟨o', ho', s2⟩ := ents_behind k of M.length c' n hn2
      have EN := Lib.hid (show ∀ W, Below w.heap.size wr W → EntR W w.heap.size (some ⟨k, o', none⟩) (M.drop n) from fun W hb => by
        rcases ho' with rfl | h
        · exact (EM.out.below hb).drop n
        · rw [List.drop_of_length_le (by omega)]
          exact EntR.none _ _ _)
      have HDN := Lib.hid (show (M.drop n).length = M.length - n from List.length_drop)
      have i1 : (0 : Int) < (M.length : Int) := by omega
      have HDL := Lib.hid hdl
      clear hM1 hn htl ht1 hM0 ho' hdl
      go_wp2_with fail
      (with_reducible refine CR.out.mono ?_)
      rintro e w3 ⟨rfl, hk3⟩
      have K3 := Lib.hid hk3
      clear hk3
      go_wp2_with fail
      (with_reducible refine (CA.out w3 K3.out).mono ?_)
      rintro e w4 ⟨v4, rfl, ho4, hb4⟩
      have O4 := Lib.hid ho4
      have B4 := Lib.hid ((below_of K3.out (Below.size KM.out)).trans hb4)
      clear ho4 hb4
      go_wp2_with fail
      go_roundg (l.length - (m + n))
      case measure => have := HDL.out; omega
      case rel =>
        have hdl := HDL.out
        refine ⟨m + n, c' - n, some ⟨k, o', none⟩, v4, _, rfl, rfl, by omega, ?_, ?_, ?_, .inl O4.out, Lib.hid ?_, Below.trans (show Below w.heap.size w wr from KM.out) B4.out⟩
        · rw [HD.out n, HDN.out]
        · rw [HD.out n, HDN.out]; omega
        · rw [HD.out n]; exact EN.out _ B4.out
        · rw [HR.out, HB.out, HD.out n]
          simp only [List.append_assoc]

theorem Write_any (l : List Xent) (p : Option Addr) (c B : Nat) (w : World) (h : EntR w w.heap.size p l) (hf : TB B w) (hB : B ≤ w.heap.size) (hw : ∀ t ∈ l, t.off ≤ 9223372036854775807 ∧ t.gen ≤ 9223372036854775807) (hc : l.length ≤ c) (hl : l.length ≤ 1099511627776) :
    Calls Tryz.prog 7 #[.slice p l.length c] w fun e w' => e = .returned (.tuple #[.string ⟨(writeV l).toArray⟩, .int .i64 (writeE l)]) ∧ Kept w w' := by
  by_cases hne : writeE l = 0
  · exact Write_good l p c B w h hf hB hw hc hl hne
  · exact Write_bad l p c B w h hf hB hw hl hne

end Go.Proofs.YtoablpaehhjchaaGreatDoor
