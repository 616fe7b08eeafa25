/-
  Bytes as blocks of either kind.
-/
import Derived.Test.YtpplboihlndfpaaDefStored
import Derived.Test.YtpplboihlndfpaaDefPress
import Derived.Test.YtpplboihlndfpaaDefTokens
namespace Go.Proofs.Ytpplboihlndfpaa
open Go.RowKit Ix Dx
set_option linter.unusedSimpArgs false
set_option linter.unusedVariables false

theorem Out.base {w : World} {B B' : Nat} {v : Value} {l : List UInt8} (h : Out w B v l) (hB : B' ≤ B) : Out w B' v l :=
  ⟨h.1, by
    rcases h.2 with h1 | ⟨g, cap, cur, h1, h2, h3⟩
    · exact .inl h1
    · exact .inr ⟨g, cap, cur, h1, by omega, h3⟩⟩
theorem ByR.dropD {w : World} {B kb o n : Nat} {l : List UInt8} (h : ByR w B (some ⟨kb, o, none⟩) l) : ByR w B (some ⟨kb, o + n, none⟩) (l.drop n) := by
  intro i hi
  have hi2 : n + i < l.length := by rw [List.length_drop] at hi; omega
  obtain ⟨k', o', hp, hk, hc⟩ := h (n + i) hi2
  have e := Option.some.inj hp
  obtain ⟨rfl, rfl⟩ : kb = k' ∧ o = o' := ⟨congrArg Addr.block e, congrArg Addr.off e⟩
  refine ⟨kb, o + n, rfl, hk, ?_⟩
  rw [Nat.add_assoc, hc]; simp
theorem ByR.takeN {w : World} {B0 : Nat} {p : Option Addr} {l : List UInt8} (h : ByR w B0 p l) (k : Nat) : ByR w B0 p (l.take k) := by
  intro i hi
  have hi2 : i < l.length := by rw [List.length_take] at hi; omega
  obtain ⟨k', o', hp, hk, hc⟩ := h i hi2
  exact ⟨k', o', hp, hk, by rw [hc]; simp⟩

set_option maxRecDepth 100000 in
set_option maxHeartbeats 1000000 in
theorem stoRow_any (b : List UInt8) (p : Option Addr) (c : Nat) (w : World) (h : ByR w w.heap.size p b) (hc : b.length ≤ c) (hp : p = none → c = 0) (hB : b.length ≤ 1048576) :
    Calls Try.prog 19 #[.slice p b.length c] w fun e w' => ∃ v, e = .returned v ∧ Out w' w.heap.size v (stoV b) ∧ Kept w w' := by
  have HB := Lib.hid h
  have HP := Lib.hid hp
  clear h hp
  go_enter Try.func19, Try.ntmps19
  go_wp2_with fail
  go_loopg [0, 3] b.length (fun m x y wr => ∃ (r o : List UInt8) (q : Option Addr) (c' f : Nat) (vv : Value), vv = y ∧ m = r.length ∧ x = .slice q r.length c' ∧ r.length ≤ c' ∧ (q = none → c' = 0) ∧ r.length + o.length ≤ 2 * b.length + 5 ∧ o.length + 2 * r.length ≤ 2 * b.length ∧ ByR w w.heap.size q r ∧ Out wr w.heap.size vv o ∧ Kept w wr ∧ Hid (o ++ stoGo f r = stoV b ∧ r.length ≤ f))
  case atStart => exact ⟨b, [], p, c, b.length, _, rfl, rfl, rfl, hc, HP.out, by simp; omega, by simp, HB.out, World.ownsRow_nil _ _ _ _, Kept.refl _, Lib.hid ⟨rfl, Nat.le_refl _⟩⟩
  case round =>
    obtain ⟨r, o, q, c', f, y, rfl, rfl, rfl, hcr, hq, hl1, hl2, hby, ho, hk, HE⟩ := hrel
    have HBY := Lib.hid hby
    have HO := Lib.hid ho
    have HK := Lib.hid hk
    have HQ := Lib.hid hq
    have hsz := Below.size hk
    clear hby ho hk hq
    by_cases hbig : 65535 < r.length
    · obtain ⟨g, hg, hst⟩ := stoGo_more hbig HE.out.2
      have i1 : (65535 : Int) < (r.length : Int) := by omega
      obtain ⟨kb, ofs, hqq, -, -⟩ := HBY.out 0 (by omega)
      subst hqq
      have hlt : (r.take 65535).length = 65535 := by rw [List.length_take]; omega
      have AS := Lib.hid (show Calls Try.prog 31 #[y, .slice (some ⟨kb, ofs, none⟩) 65535 c', .int .u8 0] wr _ from appendStored_any o (r.take 65535) 0 (by decide) 65535 hlt.symm (by decide) (by omega) HO.out ((HBY.out.keep (Nat.le_refl _) HK.out).takeN _) (fun e => by cases e) hsz)
      have HE2 := Lib.hid (show (o ++ blkV 0 (r.take 65535)) ++ stoGo g (r.drop 65535) = stoV b by rw [List.append_assoc, ← hst]; exact HE.out.1)
      have HGG := Lib.hid hg
      have hbl : (blkV 0 (r.take 65535)).length = 65540 := by unfold blkV; rw [List.length_append, hlt]; rfl
      have hdl : (r.drop 65535).length = r.length - 65535 := List.length_drop
      have i2 : (65535 : Int) ≤ (c' : Int) := by omega
      have i3 : (65535 : Int) ≤ (r.length : Int) := by omega
      have i4 : (r.length : Int) ≤ (c' : Int) := by omega
      clear hst hg
      go_wp2_with fail
      (with_reducible refine AS.out.mono ?_)
      rintro e w2 ⟨v2, rfl, ho2, hg2⟩
      have HO2 := Lib.hid ho2
      have HK2 := Lib.hid (show Kept w w2 from Below.grown HK.out hg2 hsz (fun k hk => (HO.out.lt k hk).1))
      clear ho2 hg2
      go_wp2_with fail
      go_roundg (r.length - 65535)
      case measure => omega
      case rel =>
        refine ⟨r.drop 65535, o ++ blkV 0 (r.take 65535), some ⟨kb, ofs + 65535, none⟩, c' - 65535, g, _, rfl, by rw [hdl], ?_, by omega, (fun e => (by cases e)), by rw [List.length_append, hbl, hdl]; omega, by rw [List.length_append, hbl, hdl]; omega, HBY.out.dropD, HO2.out, HK2.out, Lib.hid ⟨HE2.out, by rw [hdl]; exact HGG.out⟩⟩
        rw [hdl]
    · have i1 : ¬ (65535 : Int) < (r.length : Int) := by omega
      have HE2 := Lib.hid (show o ++ blkV 1 r = stoV b by rw [← HE.out.1, stoGo_last f (by omega)])
      have AS := Lib.hid (show Calls Try.prog 31 #[y, .slice q r.length c', .int .u8 1] wr _ from appendStored_any o r 1 (by decide) r.length rfl (by omega) (by omega) HO.out (HBY.out.keep (Nat.le_refl _) HK.out) (fun e => ⟨by have := HQ.out e; omega, HQ.out e⟩) hsz)
      go_wp2_with fail
      (with_reducible refine AS.out.mono ?_)
      rintro e w2 ⟨v2, rfl, ho2, hg2⟩
      have HO2 := Lib.hid ho2
      have HK2 := Lib.hid (show Kept w w2 from Below.grown HK.out hg2 hsz (fun k hk => (HO.out.lt k hk).1))
      clear ho2 hg2
      rw [HE2.out] at HO2
      go_wp2_with fail
      go_ret
      exact ⟨_, rfl, HO2.out, HK2.out⟩

set_option maxRecDepth 100000 in
set_option maxHeartbeats 4000000 in
theorem pressRow_any (l : List Tok) (p : Option Addr) (c : Nat) (w : World) (h : TokR w w.heap.size p l) (hok : ∀ t ∈ l, TokOK t) (hB : l.length ≤ 1048576) :
    Calls Try.prog 20 #[.slice p l.length c] w fun e w' => ∃ v, e = .returned v ∧ Out w' w.heap.size v (pressV l) ∧ Kept w w' := by
  have HT := Lib.hid h
  have HOK := Lib.hid hok
  clear h hok
  go_enter Try.func20, Try.ntmps20
  go_wp2_with fail
  (with_reducible refine (Repeat_lit 8 144 144 rfl w _ rfl (by decide) (by decide)).mono ?_)
  rintro e w1 ⟨g1, rfl, hg1, ha1, hk1⟩
  have A1 := Lib.hid ha1
  have K1 := Lib.hid hk1
  clear ha1 hk1
  go_wp2_with fail
  (with_reducible refine (Repeat_lit 9 112 112 rfl w1 _ rfl (by decide) (by decide)).mono ?_)
  rintro e w2 ⟨g2, rfl, hg2, ha2, hk2⟩
  have A2 := Lib.hid ha2
  have K2 := Lib.hid hk2
  clear ha2 hk2
  go_wp2_with fail
  (with_reducible refine (Repeat_lit 7 24 24 rfl w2 _ rfl (by decide) (by decide)).mono ?_)
  rintro e w3 ⟨g3, rfl, hg3, ha3, hk3⟩
  have A3 := Lib.hid ha3
  have K3 := Lib.hid hk3
  clear ha3 hk3
  go_wp2_with fail
  (with_reducible refine (Repeat_lit 8 8 8 rfl w3 _ rfl (by decide) (by decide)).mono ?_)
  rintro e w4 ⟨g4, rfl, hg4, ha4, hk4⟩
  have A4 := Lib.hid ha4
  have K4 := Lib.hid hk4
  clear ha4 hk4
  go_wp2_with fail
  (with_reducible refine (Concat4 g1 g2 g3 g4 w4 _ rfl (A1.out.kept (K2.out.trans (K3.out.trans K4.out))) (A2.out.kept (K3.out.trans K4.out)) (A3.out.kept K4.out) A4.out).mono ?_)
  rintro e w5 ⟨g5, cap5, rfl, hi5, hk5⟩
  have I5 := Lib.hid hi5
  have K5 := Lib.hid (show Kept w w5 from K1.out.trans (K2.out.trans (K3.out.trans (K4.out.trans hk5))))
  clear hi5 hk5 A1 A2 A3 A4 K1 K2 K3 K4 hg1 hg2 hg3 hg4
  have CO := Lib.hid (show Calls Try.prog 34 #[.slice (some ⟨g5, 0, none⟩) 288 cap5] w5 fun e w' => ∃ g, e = .returned (.tuple #[.slice (some ⟨g, 0, none⟩) 288 288, .int .i64 0]) ∧ Arr w' g 288 (fun i => (((List.range 288).map symC).getD i 0 : Nat)) 3 ∧ Kept w5 w' from by
    have hl : (intsOf fixS).length = 288 := by kernel_rfl
    have z := Codes_any (intsOf fixS) (some ⟨g5, 0, none⟩) cap5 w5 I5.out (by omega)
    rw [hl] at z
    refine z.mono fun e w' hh => ?_
    unfold CodesA at hh
    rw [fix_codes, hl] at hh
    obtain ⟨hk, g, he, -, ha, -⟩ := hh
    exact ⟨g, he, ha, hk⟩)
  go_wp2_with fail
  (with_reducible refine CO.out.mono ?_)
  rintro e w6 ⟨g6, rfl, ha6, hk6⟩
  have A6 := Lib.hid ha6
  have I6 := Lib.hid (I5.out.kept hk6)
  have K6 := Lib.hid (K5.out.trans hk6)
  clear ha6 hk6 CO I5 K5
  go_upto_region 4 with fail
  have hs6 := Below.size K6.out
  have S0 := Lib.hid (show Sy (w6.alloc (.cells #[.slice none 0 0, .int .i64 0, .slice (some ⟨g5, 0, none⟩) 288 cap5, .slice (some ⟨g6, 0, none⟩) 288 288] 72)) w6.heap.size (.slice none 0 0) [] (.slice (some ⟨g5, 0, none⟩) 288 cap5) (.slice (some ⟨g6, 0, none⟩) 288 288) from
    ⟨Blk.fresh w6 _ _, World.ownsRow_nil _ _ _ _, fun x hx => by cases hx⟩)
  have T0 := Lib.hid (show Tb (w6.alloc (.cells #[.slice none 0 0, .int .i64 0, .slice (some ⟨g5, 0, none⟩) 288 cap5, .slice (some ⟨g6, 0, none⟩) 288 288] 72)) w6.heap.size (.slice (some ⟨g5, 0, none⟩) 288 cap5) (.slice (some ⟨g6, 0, none⟩) 288 288) from by
    refine Tb.below ?_ ((Kept.refl w6).allocO _)
    have hl : (intsOf fixS).length = 288 := by kernel_rfl
    obtain ⟨k0, o0, hp0, hk0, -⟩ := I6.out 0 (by omega)
    have e0 := Option.some.inj hp0
    obtain ⟨rfl, rfl⟩ : g5 = k0 ∧ 0 = o0 := ⟨congrArg Addr.block e0, congrArg Addr.off e0⟩
    refine ⟨g5, 0, cap5, g6, 0, 288, rfl, rfl, hk0, A6.out.lt, fun s hs => ⟨?_, ?_⟩⟩
    · obtain ⟨k1, o1, hp1, hk1, hc1⟩ := I6.out s (by omega)
      have e1 := Option.some.inj hp1
      obtain ⟨rfl, rfl⟩ : g5 = k1 ∧ 0 = o1 := ⟨congrArg Addr.block e1, congrArg Addr.off e1⟩
      rw [hc1]
      have : (intsOf fixS)[s]'(by omega) = ((symN s : Nat) : Int) := by
        simp only [intsOf, fix_syms, List.getElem_map, List.getElem_range]
        rfl
      rw [this]
    · rw [Nat.zero_add, A6.out.cell s hs]
      simp [hs])
  have K0 := Lib.hid (K6.out.allocO (.cells #[.slice none 0 0, .int .i64 0, .slice (some ⟨g5, 0, none⟩) 288 cap5, .slice (some ⟨g6, 0, none⟩) 288 288] 72))
  have hW : (w6.alloc (.cells #[.slice none 0 0, .int .i64 0, .slice (some ⟨g5, 0, none⟩) 288 cap5, .slice (some ⟨g6, 0, none⟩) 288 288] 72)).heap.size = w6.heap.size + 1 := by simp
  obtain ⟨W0, hW0⟩ : ∃ W0, W0 = w6.alloc (.cells #[.slice none 0 0, .int .i64 0, .slice (some ⟨g5, 0, none⟩) 288 cap5, .slice (some ⟨g6, 0, none⟩) 288 288] 72) := ⟨_, rfl⟩
  rw [← hW0] at S0 T0 K0 hW ⊢
  obtain ⟨sb, hsb⟩ : ∃ sb, sb = w6.heap.size := ⟨_, rfl⟩
  rw [← hsb] at S0 T0 hW hs6 ⊢
  obtain ⟨lv, hlv⟩ : ∃ lv, lv = Value.slice (some ⟨g5, 0, none⟩) 288 cap5 := ⟨_, rfl⟩
  obtain ⟨cv, hcv⟩ : ∃ cv, cv = Value.slice (some ⟨g6, 0, none⟩) 288 288 := ⟨_, rfl⟩
  rw [← hlv, ← hcv] at S0 T0
  clear hW0 hsb hlv hcv A6 I6 K6
  have N1 := Lib.hid (show Calls Try.prog 35 #[.pointer (some ⟨sb, 0, none⟩), .int .i64 1, .int .i64 1] W0 fun e w' => e = .returned (.tuple #[]) ∧ SyR W0 sb (.slice none 0 0) [1] lv cv w' from number_put 1 1 (by decide) (by decide) S0.out (by decide))
  go_wp2_with fail
  (with_reducible refine N1.out.mono ?_)
  rintro e w7 ⟨rfl, sv7, hs7, hg7⟩
  have S7 := Lib.hid hs7
  have L7 := Lib.hid (S0.out.gr hg7)
  have N2 := Lib.hid (show Calls Try.prog 35 #[.pointer (some ⟨sb, 0, none⟩), .int .i64 1, .int .i64 2] w7 fun e w' => e = .returned (.tuple #[]) ∧ SyR w7 sb sv7 [1, 1, 0] lv cv w' from number_put 1 2 (by decide) (by decide) hs7 (by decide))
  clear hs7 hg7
  go_wp2_with fail
  (with_reducible refine N2.out.mono ?_)
  rintro e w8 ⟨rfl, sv8, hs8, hg8⟩
  have S8 := Lib.hid hs8
  have L8 := Lib.hid (Below.trans L7.out (S7.out.gr hg8))
  clear hs8 hg8
  go_wp2_with fail
  go_loopg [33] l.length (fun m y wr => ∃ (j : Nat) (sv : Value), m = l.length - j ∧ j ≤ l.length ∧ y = .int .i64 j ∧ Sy wr sb sv ([1, 1, 0] ++ toksBits (l.take j)) lv cv ∧ Below sb W0 wr)
  case atStart => exact ⟨0, sv8, rfl, Nat.zero_le _, rfl, S8.out, L8.out⟩
  case round =>
    obtain ⟨j, sv, hm, hj, rfl, hs, hb⟩ := hrel
    have HS := Lib.hid hs
    have HL := Lib.hid hb
    have hsbl := hs.blk.lt
    have htb := toksBits_le (l.take j) (fun t ht => HOK.out t (List.mem_of_mem_take ht))
    have hlen : ([1, 1, 0] ++ toksBits (l.take j)).length + 400 ≤ 1099511627776 := by
      rw [List.length_append]; simp at htb ⊢; omega
    have KW := Lib.hid (show Kept w wr from Below.trans K0.out (Below.mono hb hs6))
    clear hs hb htb
    by_cases hlt : j < l.length
    · have j1 : (j : Int) < (l.length : Int) := by omega
      obtain ⟨kb, ofs, hp, hkb, c0, c1, c2⟩ := (HT.out.keep (Nat.le_refl _) KW.out) j hlt
      subst hp
      have HOKJ := Lib.hid (HOK.out l[j] (List.getElem_mem hlt))
      have HTK := Lib.hid (show ([1, 1, 0] ++ toksBits (l.take j)) ++ tokBits l[j] = [1, 1, 0] ++ toksBits (l.take (j + 1)) by
        rw [List.take_succ_eq_append_getElem hlt, toksBits_app, toksBits, toksBits, List.append_nil, List.append_assoc])
      have KA := Lib.hid (show Kept wr (wr.alloc (.cells #[.int .u8 (l[j].lit.toNat : Int), .int .i64 l[j].len, .int .i64 l[j].dist] 38)) from (Kept.refl wr).allocO _)
      have LA := Lib.hid (Below.trans HL.out (Below.mono KA.out (Nat.le_of_lt hsbl)))
      have TP := Lib.hid (token_put l[j] HOKJ.out (HS.out.kept KA.out) (T0.out.below LA.out) (by omega))
      have SA := Lib.hid (HS.out.kept KA.out)
      rw [HTK.out] at TP
      obtain ⟨t, ht⟩ : ∃ t, t = l[j] := ⟨_, rfl⟩
      rw [← ht] at c0 c1 c2 KA LA TP SA
      clear ht
      go_wp2_with fail
      (with_reducible refine TP.out.mono ?_)
      rintro e w9 ⟨rfl, sv9, hs9, hg9⟩
      have S9 := Lib.hid hs9
      have L9 := Lib.hid (Below.trans LA.out (SA.out.gr hg9))
      clear hs9 hg9
      go_wp2_with fail
      go_roundg (l.length - (j + 1))
      case measure => omega
      case rel => exact ⟨j + 1, sv9, rfl, by omega, by go_num, S9.out, L9.out⟩
    · obtain rfl : j = l.length := by omega
      have HE := Lib.hid (show ([1, 1, 0] ++ toksBits (l.take l.length)) ++ symBits 256 = pressBits l by rw [List.take_length]; rfl)
      have SP := Lib.hid (show Calls Try.prog 37 #[.pointer (some ⟨sb, 0, none⟩), .int .i64 256] wr _ from symbol_put 256 (by decide) HS.out (T0.out.below HL.out) (by omega))
      rw [HE.out] at SP
      go_wp2_with fail
      (with_reducible refine SP.out.mono ?_)
      rintro e w9 ⟨rfl, sv9, hs9, hg9⟩
      have S9 := Lib.hid hs9
      have L9 := Lib.hid (Below.trans HL.out (HS.out.gr hg9))
      obtain ⟨d0, d1, d2, d3⟩ := hs9.blk.cells4
      clear hs9 hg9
      go_wp2_with fail
      go_ret
      exact ⟨_, rfl, S9.out.own.base (by omega), Below.trans K0.out (Below.mono L9.out hs6)⟩

/-- What Raw leaves. -/
def DRawA (w : World) (r : Except Int (List UInt8)) (e : Ending) (w' : World) : Prop := Kept w w' ∧ match r with
  | .error k => e = .returned (.tuple #[.slice none 0 0, .int .i64 k])
  | .ok o => ∃ v, e = .returned (.tuple #[v, .int .i64 0]) ∧ Out w' w.heap.size v o

set_option maxRecDepth 100000 in
set_option maxHeartbeats 1000000 in
theorem defRaw_any (b : List UInt8) (kind : Int) (p : Option Addr) (c : Nat) (w : World) (h : ByR w w.heap.size p b) (hc : b.length ≤ c) (hp : p = none → c = 0) (hB : b.length ≤ 1099511627776) (hk : -9223372036854775808 ≤ kind ∧ kind ≤ 9223372036854775807) :
    Calls Try.prog 9 #[.slice p b.length c, .int .i64 kind] w (DRawA w (rawZ b kind)) := by
  have HB := Lib.hid h
  have HP := Lib.hid hp
  clear h hp
  by_cases c1 : kind ≠ 0 ∧ kind ≠ 1
  · have HV := Lib.hid (show rawZ b kind = .error 1 from if_pos c1)
    have e0 : (kind != 0) = true := by rw [bne_iff_ne]; exact c1.1
    have e1 : (kind != 1) = true := by rw [bne_iff_ne]; exact c1.2
    clear c1
    go_enter Try.func9, Try.ntmps9
    go_wp2_with fail
    go_ret2
    unfold DRawA
    rw [HV.out]
    exact ⟨Kept.refl w, rfl⟩
  · by_cases c2 : 1048576 < b.length
    · have HV := Lib.hid (show rawZ b kind = .error 6 by unfold rawZ; rw [if_neg c1, if_pos c2])
      have i1 : (1048576 : Int) < (b.length : Int) := by omega
      rcases (show kind = 0 ∨ kind = 1 by omega) with rfl | rfl
      · go_enter Try.func9, Try.ntmps9
        go_wp2_with fail
        go_ret2
        unfold DRawA
        rw [HV.out]
        exact ⟨Kept.refl w, rfl⟩
      · go_enter Try.func9, Try.ntmps9
        go_wp2_with fail
        go_ret2
        unfold DRawA
        rw [HV.out]
        exact ⟨Kept.refl w, rfl⟩
    · have i1 : ¬ (1048576 : Int) < (b.length : Int) := by omega
      rcases (show kind = 0 ∨ kind = 1 by omega) with rfl | rfl
      · have HV := Lib.hid (show rawZ b 0 = .ok (stoV b) by unfold rawZ; rw [if_neg c1, if_neg c2, if_pos rfl])
        have ST := Lib.hid (stoRow_any b p c w HB.out hc HP.out (by omega))
        clear c1 c2
        go_enter Try.func9, Try.ntmps9
        go_wp2_with fail
        (with_reducible refine ST.out.mono ?_)
        rintro e w2 ⟨v2, rfl, ho2, hk2⟩
        have HO2 := Lib.hid ho2
        have HK2 := Lib.hid hk2
        clear ho2 hk2
        go_wp2_with fail
        go_ret2
        unfold DRawA
        rw [HV.out]
        exact ⟨HK2.out, _, rfl, HO2.out⟩
      · have HV := Lib.hid (show rawZ b 1 = .ok (pressV (tokens b)) by unfold rawZ; rw [if_neg c1, if_neg c2, if_neg (by decide)])
        have TK := Lib.hid (Tokens_any b p c w HB.out hc hB)
        have hbl : b.length ≤ 1048576 := by omega
        clear c1 c2
        go_enter Try.func9, Try.ntmps9
        go_wp2_with fail
        (with_reducible refine TK.out.mono ?_)
        rintro e w2 ⟨v2, rfl, ho2, hk2⟩
        obtain ⟨q, cc, rfl, -, -⟩ := ho2.shape
        have PR := Lib.hid (pressRow_any (tokens b) q cc w2 ho2.tokR (fun t ht => toks_ok b _ _ t ht) (Nat.le_trans (tokens_len b) hbl))
        have HK2 := Lib.hid hk2
        have hs2 := Below.size hk2
        clear ho2 hk2
        go_wp2_with fail
        (with_reducible refine PR.out.mono ?_)
        rintro e w3 ⟨v3, rfl, ho3, hk3⟩
        have HO3 := Lib.hid ho3
        have HK3 := Lib.hid (HK2.out.trans hk3)
        clear ho3 hk3
        go_wp2_with fail
        go_ret2
        unfold DRawA
        rw [HV.out]
        exact ⟨HK3.out, _, rfl, HO3.out.base hs2⟩

end Go.Proofs.Ytpplboihlndfpaa
