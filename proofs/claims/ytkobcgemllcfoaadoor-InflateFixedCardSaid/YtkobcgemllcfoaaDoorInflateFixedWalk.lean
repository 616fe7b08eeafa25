/-
  Letters, each by its code of the kind 1, are told as they are.
-/
import Derived.Test.YtkobcgemllcfoaaDoorInfArgs
import Derived.Test.YtkobcgemllcfoaaDoorInfAwake
import Derived.Test.YtkobcgemllcfoaaDoorInfPackMath
import Derived.Test.YtkobcgemllcfoaaDoorInfTreeMem
import Derived.StillTailTactics
namespace Go.Proofs.YtkobcgemllcfoaaDoor
open Go.RowKit Ix
set_option linter.unusedSimpArgs false
set_option linter.unusedVariables false

theorem and_bit {x : Nat} (h : x < 4294967296) : bits BinOp.and IntKind.i64 (x : Int) 1 = ((x % 2 : Nat) : Int) := by
  show IntKind.i64.wrap ((BitVec.ofInt 64 (x : Int) &&& BitVec.ofInt 64 ((1 : Nat) : Int)).toNat : Int) = _
  rw [BitVec.ofInt_natCast, BitVec.ofInt_natCast, BitVec.toNat_and, BitVec.toNat_ofNat, BitVec.toNat_ofNat, Nat.mod_eq_of_lt (by omega), Nat.mod_eq_of_lt (by omega), Nat.and_one_is_mod]
  exact IntWalk.i64_in _ (by omega)
/-- Numbers of the call's own. -/
def Nums (w : World) (B : Nat) (v : Value) (l : List Nat) : Prop := w.ownsRow B 3 1 v l.length (natsV l)
theorem Nums.gb {w w' : World} {B : Nat} {v : Value} {l : List Nat} (h : Nums w B v l) {r : Option Nat} (g : w.grownBy w' r) (hne : v.ownBlock = none ∨ v.ownBlock ≠ r) : Nums w' B v l := World.ownsRow.kept h g hne
theorem Nums.kept {w w' : World} {B : Nat} {v : Value} {l : List Nat} (h : Nums w B v l) (k : Kept w w') : Nums w' B v l :=
  h.gb (gbK k none) (by cases hv : v.ownBlock with
    | none => exact .inl rfl
    | some g => exact .inr (by simp))
theorem Nums.lit (W : World) {B0 : Nat} (hB : B0 ≤ W.heap.size) (l : List Nat) (h : l.length ≤ 1000) : Nums (W.alloc (.cells (natsV l).toArray 3)) B0 (.slice (some ⟨W.heap.size, 0, none⟩) l.length l.length) l := by
  have z := World.ownsRow_lit (base := B0) (e := 3) (size := 1) W (natsV l).toArray l.length hB (by unfold maxLen; omega) (by simp [natsV])
  unfold Nums
  simpa using z
theorem Nums.cell {w : World} {B g n cap : Nat} {l : List Nat} (h : Nums w B (.slice (some ⟨g, 0, none⟩) n cap) l) (hn : n = l.length) (i : Nat) (hi : i < l.length) : w.cell? ⟨g, i, none⟩ = some (.int .i64 (l[i] : Nat)) := by
  subst hn
  rw [World.ownsRow.cellAt h i (by omega)]
  simp [natsV, hi]
theorem wpList_app_nums {ops : Array Oper} {rest : List Oper} {o : Oper} {a : Act} {Q : Exit → Act → World → Prop} (hgd : o.guard = none) (s x : Operand)
    (ho : o.op = .call { callee := .builtin .append, args := #[s, x], argTypes := #[43, 43] })
    {W : World} {B : Nat} {v : Value} {l : List Nat} (hown : Nums W B v l) (hs : a.eval s = v) (news : List Nat) (cells : Array Value) (hcs : cells = (natsV news).toArray) (m : Nat) (hm : m = news.length) (h0 : 0 < m)
    (hx : a.eval x = .slice (some ⟨W.heap.size, 0, none⟩) m m) (hB : B ≤ W.heap.size) (hlen : l.length + m ≤ 1048576)
    (h : ∀ g cap w', Nums w' B (.slice (some ⟨g, 0, none⟩) (l.length + m) cap) (l ++ news) → (W.alloc (.cells cells 3)).grownBy w' v.ownBlock → wpList Tryd.prog ops Q rest (a.put o.dst (.slice (some ⟨g, 0, none⟩) (l.length + m) cap)) w') :
    wpList Tryd.prog ops Q (o :: rest) a (W.alloc (.cells cells 3)) := by
  obtain ⟨i0, hi, hz0, hz1, hz2⟩ := info_parts info_int
  subst hcs hm
  refine wpList_append_lies _ hgd s x 43 ho B 3 i0 (.int .i64 0) 1 8 Tryd.underlying43 hi hz0 hz1 hz2 rfl (by decide) v l.length (natsV l) hs (World.ownsRow.alloc hown _) ⟨W.heap.size, 0, none⟩ news.length news.length (natsV news) hx (by simp [natsV])
    ?_ ?_ h0 (by unfold maxLen; omega) (by omega) (by simp; omega) _ rfl ?_
  · intro j u hj
    rw [Addr.add_lit, Nat.zero_add, (Blk.fresh W (natsV news).toArray 3).cell j]
    simpa using hj
  · intro u hu
    simp only [natsV, List.mem_map] at hu
    obtain ⟨c, -, rfl⟩ := hu
    rfl
  · intro g cap w' h1 h2 _ _
    refine h g cap w' ?_ h2
    unfold Nums
    rw [List.length_append, show natsV (l ++ news) = natsV l ++ natsV news by simp [natsV]]
    exact h1

theorem or_put {x u r : Nat} (hr : r < 8) (hu : u < 2) (hx : x < 2 ^ r) : bits BinOp.or IntKind.u8 (x : Int) ((u * 2 ^ r : Nat) : Int) = ((x + u * 2 ^ r : Nat) : Int) := by
  have key : (List.range 8).all (fun r => (List.range 2).all fun u => (List.range 128).all fun x => decide (2 ^ r ≤ x) || bits BinOp.or IntKind.u8 (x : Int) ((u * 2 ^ r : Nat) : Int) == ((x + u * 2 ^ r : Nat) : Int)) = true := by kernel_rfl
  have h7 : 2 ^ r ≤ 2 ^ 7 := Nat.pow_le_pow_right (by decide) (by omega)
  have h1 := List.all_eq_true.1 (List.all_eq_true.1 (List.all_eq_true.1 key r (List.mem_range.2 hr)) u (List.mem_range.2 hu)) x (List.mem_range.2 (by omega))
  rw [decide_eq_false (by omega), Bool.false_or] at h1
  exact beq_iff_eq.1 h1
theorem shl_put {u r : Nat} (hr : r < 8) (hu : u < 2) : IntKind.i64.wrap ((u : Int) * 2 ^ min (IntKind.u64.wrap (r : Int)).toNat 64) = ((u * 2 ^ r : Nat) : Int) ∧ u * 2 ^ r < 256 := by
  have key : (List.range 8).all (fun r => (List.range 2).all fun u => IntKind.i64.wrap ((u : Int) * 2 ^ min (IntKind.u64.wrap (r : Int)).toNat 64) == ((u * 2 ^ r : Nat) : Int) && decide (u * 2 ^ r < 256)) = true := by kernel_rfl
  have h1 := List.all_eq_true.1 (List.all_eq_true.1 key r (List.mem_range.2 hr)) u (List.mem_range.2 hu)
  rw [Bool.and_eq_true, beq_iff_eq, decide_eq_true_eq] at h1
  exact h1
theorem put_val {x u r : Nat} (hr : r < 8) (hu : u < 2) (hx : x < 2 ^ r) : bits BinOp.or IntKind.u8 (x : Int) (wrap64 ((u : Int) * 2 ^ min r 64) % 256) = ((x + u * 2 ^ r : Nat) : Int) := by
  have h2 : wrap64 ((u : Int) * 2 ^ min r 64) % 256 = ((u * 2 ^ r : Nat) : Int) := by
    have key : (List.range 8).all (fun r => (List.range 2).all fun u => wrap64 ((u : Int) * 2 ^ min r 64) % 256 == ((u * 2 ^ r : Nat) : Int)) = true := by kernel_rfl
    exact beq_iff_eq.1 (List.all_eq_true.1 (List.all_eq_true.1 key r (List.mem_range.2 hr)) u (List.mem_range.2 hu))
  rw [h2]
  exact or_put hr hu hx
/-- A byte of one's own is set. -/
theorem Out.setO {w : World} {B g cap n : Nat} {l : List UInt8} (h : Out w B (.slice (some ⟨g, 0, none⟩) n cap) l) (j : Nat) (x : UInt8) : Out (w.setCell ⟨g, j, none⟩ (.int .u8 (x.toNat : Int))) B (.slice (some ⟨g, 0, none⟩) n cap) (l.set j x) := by
  obtain ⟨h0, h1 | ⟨g', cap', cur, h1, hb, hh, hle, hm, hs, ht⟩⟩ := h
  · cases h1.1
  · injection h1 with e1 e2 e3
    injection e1 with e1
    injection e1 with e1
    subst e1 e3
    have hbk : Blk w g cur 5 := hh
    unfold Out World.ownsRow
    rw [List.length_set]
    refine ⟨by simp [bytsV], .inr ⟨g, cap, cur.setIfInBounds j (.int .u8 (x.toNat : Int)), by rw [e2], hb, hbk.set j _, hle, hm, by rw [Array.size_setIfInBounds]; exact hs, ?_⟩⟩
    rw [Array.toList_setIfInBounds, List.take_set, ht]
    unfold bytsV
    rw [List.map_set]

set_option maxRecDepth 100000 in
set_option maxHeartbeats 4000000 in
theorem InflateFixed_walk (s : ByteArray) (w : World) :
    Calls Tryd.prog 11 #[.string s] w fun e w' => e = .returned (.bool true) ∧ Kept w w' := by
  have AW := Lib.hid (awake6_any w)
  by_cases k0 : 300 < s.size
  · have e1 : (300 : Int) < (s.size : Int) := by omega
    go_enter Tryd.func11, Tryd.ntmps11
    go_wp2_with fail
    (with_reducible refine AW.out.mono ?_)
    rintro e w1 ⟨rfl, hk1⟩
    have K1 := Lib.hid hk1
    clear hk1
    go_wp2_with fail
    go_ret
    exact ⟨rfl, K1.out⟩
  · have e1 : ¬ (300 : Int) < (s.size : Int) := by omega
    have hsz : s.size ≤ 300 := by omega
    go_enter Tryd.func11, Tryd.ntmps11
    go_wp2_with fail
    (with_reducible refine AW.out.mono ?_)
    rintro e w1 ⟨rfl, hk1⟩
    have K1 := Lib.hid hk1
    clear hk1
    go_wp2_with fail
    have hw1 := Below.size K1.out
    obtain ⟨S, hS⟩ : ∃ S, S = s.data.toList := ⟨_, rfl⟩
    have hSl : S.length = s.size := by rw [hS]; rfl
    have HS := Lib.hid hS
    have NA := Lib.hid (show Nums (w1.alloc (.cells #[.int .i64 1, .int .i64 1, .int .i64 0] 3)) w.heap.size (.slice (some ⟨w1.heap.size, 0, none⟩) 3 3) ((List.range 3).map (bitF S)) from Nums.lit w1 hw1 [1, 1, 0] (by decide))
    have KA := Lib.hid (show Kept w (w1.alloc (.cells #[.int .i64 1, .int .i64 1, .int .i64 0] 3)) from K1.out.allocO _)
    obtain ⟨W1, hW1⟩ : ∃ W1, W1 = w1.alloc (.cells #[.int .i64 1, .int .i64 1, .int .i64 0] 3) := ⟨_, rfl⟩
    rw [← hW1] at NA KA ⊢
    clear hW1 hS
    go_loopg [6, 7, 8] (s.size + 1) (fun m bv iv kv wr => ∃ (i g cap : Nat), m = s.size + 1 - i ∧ i ≤ s.size ∧ iv = .int .i64 i ∧ bv = .slice (some ⟨g, 0, none⟩) (3 + 8 * i) cap ∧ Nums wr w.heap.size (.slice (some ⟨g, 0, none⟩) (3 + 8 * i) cap) ((List.range (3 + 8 * i)).map (bitF S)) ∧ Kept w wr ∧ ∀ j, j < i → 97 ≤ (S.getD j 0).toNat ∧ (S.getD j 0).toNat ≤ 122)
    case atStart => exact ⟨0, w1.heap.size, 3, rfl, Nat.zero_le _, rfl, rfl, NA.out, KA.out, fun j hj => by omega⟩
    case round =>
      obtain ⟨i, g, cap, hm, hi, rfl, rfl, hna, hka, hall⟩ := hrel
      obtain ⟨W0, rfl⟩ : ∃ W0, W0 = wr := ⟨_, rfl⟩
      have NI := Lib.hid hna
      have KI := Lib.hid hka
      have HALL := Lib.hid hall
      clear hna hka hall
      by_cases hlt : i < s.size
      · have HG := Lib.hid (show S.getD i 0 = s[i] by
          rw [HS.out]; simp [List.getD, hlt]; rfl)
        by_cases c1 : (s[i].toNat : Int) < 97
        · go_wp2_with fail
          go_ret
          exact ⟨rfl, KI.out⟩
        by_cases c2 : (122 : Int) < (s[i].toNat : Int)
        · go_wp2_with fail
          go_ret
          exact ⟨rfl, KI.out⟩
        go_wp2_with fail
        go_loopg [6, 8] 9 (fun m bv kv wr => ∃ (q g cap : Nat), m = 9 - q ∧ q ≤ 8 ∧ kv = .int .i64 (7 - (q : Int)) ∧ bv = .slice (some ⟨g, 0, none⟩) (3 + 8 * i + q) cap ∧ Nums wr w.heap.size (.slice (some ⟨g, 0, none⟩) (3 + 8 * i + q) cap) ((List.range (3 + 8 * i + q)).map (bitF S)) ∧ Kept w wr)
        case atStart => exact ⟨0, g, cap, rfl, Nat.zero_le _, rfl, rfl, NI.out, KI.out⟩
        case round =>
          obtain ⟨q, g1, cap1, hm2, hq, rfl, rfl, hnq, hkq⟩ := hrel
          have NQ := Lib.hid hnq
          have KQ := Lib.hid hkq
          clear hnq hkq
          by_cases hq8 : q < 8
          · obtain ⟨kk, hkk⟩ : ∃ kk : Nat, (7 : Int) - (q : Int) = (kk : Int) := ⟨7 - q, by omega⟩
            have hkk7 : kk = 7 - q := by omega
            have hu := bitF_letter S i q (by omega) hq8
            have hSi : S[i]'(by omega) = s[i] := by
              have := HG.out
              simpa [List.getD, hSl, hlt] using this
            rw [hSi, ← hkk7] at hu
            obtain ⟨c, hcc⟩ : ∃ c, c = s[i].toNat := ⟨_, rfl⟩
            have hc256 : c < 256 := by rw [hcc]; exact s[i].toNat_lt
            rw [← hcc] at hu
            obtain ⟨u, huu⟩ : ∃ u, u = bitF S (3 + 8 * i + q) := ⟨_, rfl⟩
            rw [← huu] at hu
            have hdiv : (c + 48) / 2 ^ kk ≤ c + 48 := Nat.div_le_self _ _
            have hv : bits BinOp.and IntKind.i64 (((c : Int) + 48) / 2 ^ kk) 1 = (u : Int) := by
              have z := and_bit (x := (c + 48) / 2 ^ kk) (by omega)
              rw [← hu] at z
              rw [← z]
              congr 1
            have HU := Lib.hid huu
            have hk0 : ¬ (kk : Int) < 0 := by omega
            have hkk64 : kk ≤ 7 := by omega
            have HKK := Lib.hid hkk
            simp only [hkk]
            have hlq : ((List.range (3 + 8 * i + q)).map (bitF S)).length = 3 + 8 * i + q := by simp
            have hwq := Below.size KQ.out
            have HBS := Lib.hid (bits_step (bitF S) (3 + 8 * i + q))
            subst hcc
            clear hu huu hdiv hSi hkk hkk7
            go_wp2_with (at_builtin; refine wpList_app_nums rfl _ _ rfl NQ.out rfl [u] _ rfl 1 rfl (by decide) rfl hwq (by rw [hlq]; omega) ?_; intro g2 cap2 w2 hn2 hg2; rw [hlq] at hn2 ⊢; have N2 := Lib.hid hn2; have K2 := Lib.hid (show Kept w w2 from Below.grown (KQ.out.allocO _) hg2 (by simp; omega) (fun x hx => (World.ownsRow.lt NQ.out x hx).1)); clear hn2 hg2)
            go_roundg (9 - (q + 1))
            case measure => omega
            case rel =>
              refine ⟨q + 1, g2, cap2, rfl, by omega, ?_, rfl, ?_, K2.out⟩
              · have := HKK.out
                refine congrArg (Value.int .i64) ?_
                omega
              · have z := N2.out
                rw [HU.out, ← HBS.out] at z
                exact z
          · obtain rfl : q = 8 := by omega
            go_wp2_with fail
            go_roundg (s.size + 1 - (i + 1))
            case measure => omega
            case rel =>
              refine ⟨i + 1, g1, cap1, rfl, by omega, by go_num, rfl, NQ.out, KQ.out, fun j hj => ?_⟩
              by_cases e : j < i
              · exact HALL.out j e
              · obtain rfl : j = i := by omega
                rw [HG.out]; omega
      · obtain rfl : i = s.size := by omega
        have hln : ((List.range (3 + 8 * s.size)).map (bitF S)).length = 3 + 8 * s.size := by simp
        have hbe := bits_end S
        rw [hSl] at hbe
        have HBE := Lib.hid hbe
        have hwI := Below.size KI.out
        clear hbe
        go_upto_region 17 with (at_builtin; refine wpList_app_nums rfl _ _ rfl NI.out rfl [0, 0, 0, 0, 0, 0, 0] _ rfl 7 rfl (by decide) rfl hwI (by rw [hln]; omega) ?_; intro g2 cap2 w2 hn2 hg2; rw [hln] at hn2 ⊢; rw [HBE.out] at hn2; have N2 := Lib.hid hn2; have K2 := Lib.hid (show Kept w w2 from Below.grown (KI.out.allocO _) hg2 (by simp; omega) (fun x hx => (World.ownsRow.lt NI.out x hx).1)); clear hn2 hg2)
        have hs2 := Below.size K2.out
        have hg2l := ((World.ownsRow.lt N2.out) g2 rfl).2
        obtain ⟨T, hT⟩ : ∃ T, T = 3 + 8 * s.size + 7 := ⟨_, rfl⟩
        rw [← hT] at N2 ⊢
        have hlT : ((List.range (10 + 8 * s.size)).map (bitF S)).length = T := by simp; omega
        have HTT := Lib.hid hT
        have hT2 : T ≤ 2410 := by omega
        have hTp : 10 ≤ T := by omega
        clear hT
        have NC := Lib.hid (fun i (hi : i < T) => (show w2.cell? ⟨g2, i, none⟩ = some (.int .i64 (bitF S i : Nat)) by
          have z := N2.out.cell hlT.symm i (by rw [hlT]; exact hi)
          simpa using z))
        go_wp2_with fail
        go_loopg [4, 5, 9] (T + 1) (fun m bv nv iv wr => ∃ (i : Nat) (vb : Value), m = T + 1 - i ∧ i ≤ T ∧ bv = vb ∧ nv = .int .i64 i ∧ iv = .int .i64 i ∧ Out wr w2.heap.size vb (pk (bitF S) i) ∧ Kept w2 wr)
        case atStart => exact ⟨0, _, rfl, Nat.zero_le _, rfl, rfl, rfl, World.ownsRow_nil _ _ _ _, Kept.refl _⟩
        case round =>
          obtain ⟨i, vb, hm3, hi3, rfl, rfl, rfl, hob, hkb⟩ := hrel
          have OB := Lib.hid hob
          have KB := Lib.hid hkb
          clear hob hkb
          by_cases hlt : i < T
          · have hbc := (KB.out.cells.1 g2 i hg2l).trans (NC.out i hlt)
            have hbl := bitF_lt S i
            obtain ⟨u, huu⟩ : ∃ u, u = bitF S i := ⟨_, rfl⟩
            rw [← huu] at hbc hbl
            have hkl := Below.size KB.out
            have ilt : (i : Int) < (T : Int) := by omega
            by_cases h8 : i % 8 = 0
            · have e8 : ((i : Int) % 8 == 0) = true := by rw [beq_iff_eq]; omega
              have hA : pk (bitF S) i ++ [0] = pkA (bitF S) i := by unfold pkA; rw [if_pos h8]
              go_upto_region 22 with (at_builtin; refine wpList_app_out rfl _ _ rfl OB.out 0 rfl rfl (by omega) (by rw [pk_len]; omega) ?_; intro g3 cap3 w3 ho3 hg3 hat3; rw [hA] at ho3; have O3 := Lib.hid ho3; have K3 := Lib.hid (show Kept w2 w3 from Below.grown (KB.out.allocO _) hg3 (by simp; omega) (fun x hx => (OB.out.lt x hx).1)); clear ho3 hg3 hat3)
              have hdl : (pk (bitF S) i).length + 1 = i / 8 + 1 := by rw [pk_len]; omega
              rw [hdl] at O3 ⊢
              clear hA hdl
              have hpl2 := pkA_len (bitF S) i
              obtain ⟨d, hd⟩ : ∃ d, d = i / 8 := ⟨_, rfl⟩
              obtain ⟨r, hr⟩ : ∃ r, r = i % 8 := ⟨_, rfl⟩
              have hxa := pkA_at (bitF S) (bitF_lt S) i
              have hps := pk_step (bitF S) (bitF_lt S) i
              have hxl := numB_lt (bitF S) (bitF_lt S) (8 * (i / 8)) (i % 8)
              rw [← hd, ← hr] at hxa hps hxl
              rw [← hd] at hpl2
              rw [← huu] at hps
              obtain ⟨x, hx⟩ : ∃ x, x = numB (bitF S) r (8 * d) := ⟨_, rfl⟩
              rw [← hx] at hxa hps hxl
              have hr8 : r < 8 := by omega
              have hir : (i : Int) % 8 = (r : Int) := by omega
              obtain ⟨hsh, hsb⟩ := shl_put hr8 hbl
              have hor := or_put hr8 hbl hxl
              have hxy : x + u * 2 ^ r < 256 := by
                have h7 : 2 ^ r ≤ 2 ^ 7 := Nat.pow_le_pow_right (by decide) (by omega)
                have h8 : u * 2 ^ r ≤ 1 * 2 ^ r := Nat.mul_le_mul_right _ (by omega)
                omega
              obtain ⟨y, hy⟩ : ∃ y, y = u * 2 ^ r := ⟨_, rfl⟩
              rw [← hy] at hsh hsb hor hps hxy
              obtain ⟨v, hv⟩ : ∃ v, v = x + y := ⟨_, rfl⟩
              rw [← hv] at hor hps hxy
              simp only [← hd] at O3 ⊢
              have hcv : IntKind.u8.wrap (y : Int) = (y : Int) := by show (y : Int) % 256 = _; omega
              have hcd : w3.cell? ⟨g3, d, none⟩ = some (.int .u8 (x : Int)) := by
                rcases O3.out.parts with ⟨h1, -⟩ | ⟨g4, cap4, h1, -, hc⟩
                · cases h1
                · injection h1 with e1 e2 e3
                  injection e1 with e1
                  injection e1 with e1
                  subst e1
                  rw [hc d (by omega)]
                  have : (pkA (bitF S) i).getD d 0 = (pkA (bitF S) i)[d]'(by omega) := by simp [List.getD, show d < (pkA (bitF S) i).length by omega]
                  rw [← this, hxa]
              have hO3 : Out w3 w2.heap.size (.slice (some ⟨g3, 0, none⟩) (pkA (bitF S) i).length cap3) (pkA (bitF S) i) := by rw [hpl2]; exact O3.out
              have hfz := World.ownsRow.frozenAt hO3 d
              clear hO3
              have hbc3 := (K3.out.cells.1 g2 i hg2l).trans (NC.out i hlt)
              rw [← huu] at hbc3
              have HSO := Lib.hid (show Out ((w3.setCell ⟨g3, d, none⟩ (.int .u8 (v : Int))).drew) w2.heap.size (.slice (some ⟨g3, 0, none⟩) (d + 1) cap3) (pk (bitF S) (i + 1)) by
                have z := (O3.out.setO d (UInt8.ofNat v)).kept ((Kept.refl _).drew)
                rw [hps, show (UInt8.ofNat v).toNat = v by rw [UInt8.toNat_ofNat']; exact Nat.mod_eq_of_lt (by omega)] at z
                exact z)
              have KSO := Lib.hid (show Kept w2 ((w3.setCell ⟨g3, d, none⟩ (.int .u8 (v : Int))).drew) from (K3.out.set ((O3.out.lt g3 rfl).1) _).drew)
              have hi1 : (i : Int) < (T : Int) := by omega
              have hd0 : (d : Int) < (d : Int) + 1 := by omega
              have hd1 : d ≤ 400 := by omega
              have hd2 : IntKind.i64.wrap (d : Int) = (d : Int) := IntWalk.i64_in _ (by omega)
              have hd3 : (0 : Int) ≤ (d : Int) := by omega
              have hi2 : (0 : Int) ≤ (i : Int) := by omega
              have HV0 := Lib.hid (show v = x + u * 2 ^ r by rw [hv, hy])
              have HR := Lib.hid hr
              clear hr hv hx hy hd hxa hps hpl2 huu hbc
              have hfd : ∀ o, (w3.drew).frozen? ⟨g3, o, none⟩ = w3.frozen? ⟨g3, o, none⟩ := fun o => rfl
              go_still_tail 20, (by kernel_rfl)
              change wpList _ _ _ _ _ w3.drew
              go_wp2_with fail
              go_roundg (T + 1 - (i + 1))
              case measure => omega
              case rel =>
                have hval : bits BinOp.or IntKind.u8 (x : Int) (wrap64 (u : Int) % 256) = (v : Int) := by
                  obtain rfl : r = 0 := by have := HR.out; omega
                  obtain rfl : x = 0 := by omega
                  rw [HV0.out]
                  rcases (show u = 0 ∨ u = 1 by omega) with rfl | rfl <;> kernel_rfl
                rw [hval]
                exact ⟨i + 1, _, rfl, by omega, rfl, by go_num, by go_num, HSO.out, KSO.out⟩
            · have e8 : ((i : Int) % 8 == 0) = false := by rw [beq_eq_false_iff_ne]; omega
              obtain ⟨g3, cap3, hvb, -⟩ := OB.out.shape (by rw [pk_len]; omega)
              subst hvb
              have hA : pk (bitF S) i = pkA (bitF S) i := by unfold pkA; rw [if_neg h8]
              have hdl : (pk (bitF S) i).length = i / 8 + 1 := by rw [pk_len]; omega
              obtain ⟨w3, hw3⟩ : ∃ w3, w3 = wr := ⟨_, rfl⟩
              subst hw3
              have O3 := Lib.hid OB.out
              have K3 := Lib.hid KB.out
              rw [hdl, hA] at O3
              simp only [hdl]
              clear hA hdl OB
              go_upto_region 22 with fail
              have hpl2 := pkA_len (bitF S) i
              obtain ⟨d, hd⟩ : ∃ d, d = i / 8 := ⟨_, rfl⟩
              obtain ⟨r, hr⟩ : ∃ r, r = i % 8 := ⟨_, rfl⟩
              have hxa := pkA_at (bitF S) (bitF_lt S) i
              have hps := pk_step (bitF S) (bitF_lt S) i
              have hxl := numB_lt (bitF S) (bitF_lt S) (8 * (i / 8)) (i % 8)
              rw [← hd, ← hr] at hxa hps hxl
              rw [← hd] at hpl2
              rw [← huu] at hps
              obtain ⟨x, hx⟩ : ∃ x, x = numB (bitF S) r (8 * d) := ⟨_, rfl⟩
              rw [← hx] at hxa hps hxl
              have hr8 : r < 8 := by omega
              have hir : (i : Int) % 8 = (r : Int) := by omega
              obtain ⟨hsh, hsb⟩ := shl_put hr8 hbl
              have hor := or_put hr8 hbl hxl
              have hxy : x + u * 2 ^ r < 256 := by
                have h7 : 2 ^ r ≤ 2 ^ 7 := Nat.pow_le_pow_right (by decide) (by omega)
                have h8 : u * 2 ^ r ≤ 1 * 2 ^ r := Nat.mul_le_mul_right _ (by omega)
                omega
              obtain ⟨y, hy⟩ : ∃ y, y = u * 2 ^ r := ⟨_, rfl⟩
              rw [← hy] at hsh hsb hor hps hxy
              obtain ⟨v, hv⟩ : ∃ v, v = x + y := ⟨_, rfl⟩
              rw [← hv] at hor hps hxy
              simp only [← hd] at O3 ⊢
              have hcv : IntKind.u8.wrap (y : Int) = (y : Int) := by show (y : Int) % 256 = _; omega
              have hcd : w3.cell? ⟨g3, d, none⟩ = some (.int .u8 (x : Int)) := by
                rcases O3.out.parts with ⟨h1, -⟩ | ⟨g4, cap4, h1, -, hc⟩
                · cases h1
                · injection h1 with e1 e2 e3
                  injection e1 with e1
                  injection e1 with e1
                  subst e1
                  rw [hc d (by omega)]
                  have : (pkA (bitF S) i).getD d 0 = (pkA (bitF S) i)[d]'(by omega) := by simp [List.getD, show d < (pkA (bitF S) i).length by omega]
                  rw [← this, hxa]
              have hO3 : Out w3 w2.heap.size (.slice (some ⟨g3, 0, none⟩) (pkA (bitF S) i).length cap3) (pkA (bitF S) i) := by rw [hpl2]; exact O3.out
              have hfz := World.ownsRow.frozenAt hO3 d
              clear hO3
              have hbc3 := (K3.out.cells.1 g2 i hg2l).trans (NC.out i hlt)
              rw [← huu] at hbc3
              have HSO := Lib.hid (show Out ((w3.setCell ⟨g3, d, none⟩ (.int .u8 (v : Int))).drew) w2.heap.size (.slice (some ⟨g3, 0, none⟩) (d + 1) cap3) (pk (bitF S) (i + 1)) by
                have z := (O3.out.setO d (UInt8.ofNat v)).kept ((Kept.refl _).drew)
                rw [hps, show (UInt8.ofNat v).toNat = v by rw [UInt8.toNat_ofNat']; exact Nat.mod_eq_of_lt (by omega)] at z
                exact z)
              have KSO := Lib.hid (show Kept w2 ((w3.setCell ⟨g3, d, none⟩ (.int .u8 (v : Int))).drew) from (K3.out.set ((O3.out.lt g3 rfl).1) _).drew)
              have hi1 : (i : Int) < (T : Int) := by omega
              have hd0 : (d : Int) < (d : Int) + 1 := by omega
              have hd1 : d ≤ 400 := by omega
              have hd2 : IntKind.i64.wrap (d : Int) = (d : Int) := IntWalk.i64_in _ (by omega)
              have hd3 : (0 : Int) ≤ (d : Int) := by omega
              have hi2 : (0 : Int) ≤ (i : Int) := by omega
              have HV0 := Lib.hid (show v = x + u * 2 ^ r by rw [hv, hy])
              have HR := Lib.hid hr
              clear hr hv hx hy hd hxa hps hpl2 huu hbc
              have hfd : ∀ o, (w3.drew).frozen? ⟨g3, o, none⟩ = w3.frozen? ⟨g3, o, none⟩ := fun o => rfl
              go_still_tail 20, (by kernel_rfl)
              change wpList _ _ _ _ _ w3.drew
              go_wp2_with fail
              go_roundg (T + 1 - (i + 1))
              case measure => omega
              case rel =>
                have hval := put_val hr8 hbl hxl
                rw [← HV0.out, HR.out] at hval
                rw [hval]
                exact ⟨i + 1, _, rfl, by omega, rfl, by go_num, by go_num, HSO.out, KSO.out⟩
          · obtain rfl : i = T := by omega
            have hBl : (pk (bitF S) i).length = s.size + 2 := by
              have := HTT.out
              rw [pk_len]; omega
            have hraw : rawV (pk (bitF S) i) = .ok (S, S.length + 2) := by
              have e : i = 10 + 8 * S.length := by
                have := HTT.out
                omega
              rw [e]
              refine raw_packed S (fun x hx => ?_) (by omega)
              obtain ⟨j, hj, rfl⟩ := List.getElem_of_mem hx
              have := HALL.out j (by omega)
              simpa [List.getD, hj] using this
            obtain ⟨P, hP⟩ : ∃ P, P = pk (bitF S) i := ⟨_, rfl⟩
            rw [← hP] at hBl hraw OB
            clear hP
            obtain ⟨g3, cap3, hvb, -⟩ := OB.out.shape (by omega)
            subst hvb
            have RW := Lib.hid (show Calls Tryd.prog 21 #[.slice (some ⟨g3, 0, none⟩) (s.size + 2) cap3] wr (RawA wr (.ok (S, s.size + 2))) from (by
              obtain ⟨p', c', hv', hb'⟩ := OB.out.byR
              injection hv' with e1 e2 e3
              subst e1 e3
              have zz := Raw_any P (some ⟨g3, 0, none⟩) cap3 wr hb' (by omega) (by rw [hraw]; intro e; cases e)
              rw [hraw, hBl, hSl] at zz
              exact zz))
            simp only [hBl]
            have KR := Lib.hid (K2.out.trans KB.out)
            have HSS := Lib.hid (show (⟨S.toArray⟩ : ByteArray) = s by rw [HS.out])
            clear hBl hraw OB
            go_wp2_with fail
            (with_reducible refine RW.out.mono ?_)
            rintro e w7 ⟨hk7, v7, rfl, ho7, -⟩
            have s1 := ho7.string
            rw [HSS.out] at s1
            have K7 := Lib.hid (KR.out.trans hk7)
            clear hk7 ho7
            go_wp2_with fail
            go_ret
            exact ⟨rfl, K7.out⟩

end Go.Proofs.YtkobcgemllcfoaaDoor
