/-
  The reference's Raw, as the bytes stand; its Zlib.
-/
import Derived.Test.YtpplboihlndfpaaDefRefRaw
import Derived.Test.YtpplboihlndfpaaDefZlib
import Derived.Deep.RegionLaw
namespace Go.Proofs.Ytpplboihlndfpaa
open Go.RowKit Ix Dx
set_option linter.unusedSimpArgs false
set_option linter.unusedVariables false
attribute [local go_sem ↓] run_least'

theorem shapeL {w : World} {B : Nat} {v : Value} {l : List UInt8} (h : Out w B v l) (h0 : 0 < l.length) : ∃ g n cap, v = .slice (some ⟨g, 0, none⟩) n cap := by
  obtain ⟨g, cap, e, -⟩ := h.shapeO h0
  exact ⟨g, _, cap, e⟩

theorem step_app_out {ops : Array Oper} {o : Oper} {a : Act} {K : Act → World → Prop} {Q : Exit → Act → World → Prop} {E : Prop} (hgd : o.guard = none) (s x : Operand)
    (ho : o.op = .call { callee := .builtin .append, args := #[s, x], argTypes := #[22, 22] })
    {W : World} {B0 : Nat} {v : Value} {l : List UInt8} (hown : Out W B0 v l) (hs : a.eval s = v) (p : Option Addr) (n c : Nat) (news : List UInt8) (hn : n = news.length) (hx : a.eval x = .slice p n c) (hb : ByR W W.heap.size p news) (hp : p = none → n = 0 ∧ c = 0) (hB : B0 ≤ W.heap.size) (hlen : l.length + n ≤ 1099511627776) (hl0 : 0 < l.length)
    (h : ∀ g n' cap w', Out w' B0 (.slice (some ⟨g, 0, none⟩) n' cap) (l ++ news) → W.grownBy w' v.ownBlock → K (a.put o.dst (.slice (some ⟨g, 0, none⟩) n' cap)) w') :
    if Region.wanted o (yielded ops a.tmps) = true then Oper.wp Try.prog o a W K Q else E := by
  obtain ⟨i0, hi, hz0, hz1, hz2⟩ := info_parts info_byte
  have hw : Region.wanted o (yielded ops a.tmps) = true := by simp [Region.wanted, hgd]
  rw [if_pos hw]
  subst hn
  cases p with
  | none =>
    obtain ⟨h1, rfl⟩ := hp rfl
    obtain rfl : news = [] := List.length_eq_zero_iff.1 h1
    have hrun := run_append_owned_none (P := Try.prog) (w := W) B0 22 o.type 5 i0 1 Try.underlying22 hi v l.length (bytsV l) hown
    obtain ⟨g, n', cap, rfl⟩ := shapeL hown hl0
    unfold Oper.wp
    simp [execOp, ho, resolve, invoke, builtin, hs, hx, hrun, Result.andThen]
    exact h g n' cap W (by rw [List.append_nil]; exact hown) ⟨rfl, rfl, rfl, Nat.le_refl _, fun _ _ _ => rfl⟩
  | some ad =>
    obtain ⟨v', w', hrun, h1, h2, -⟩ := run_append_own (P := Try.prog) (w := W) B0 22 o.type 5 i0 (.int .u8 0) 1 1 Try.underlying22 hi hz0 hz1 hz2 rfl (by decide) v l.length (bytsV l) hown ad news.length c (bytsV news) (by simp [bytsV])
      (fun j u hj => by
        have hjl : j < news.length := by have := (List.getElem?_eq_some_iff.1 hj).1; simpa [bytsV] using this
        obtain ⟨k', o', hp', -, hc⟩ := hb j hjl
        have e := Option.some.inj hp'
        subst e
        rw [Addr.add_lit, hc, ← hj]
        simp [bytsV, hjl])
      (fun u hu => by
        simp only [bytsV, List.mem_map] at hu
        obtain ⟨c, -, rfl⟩ := hu
        rfl) (by unfold maxLen; omega) (by omega) hB
    have hO : Out w' B0 v' (l ++ news) := by
      unfold Out
      rw [List.length_append, show bytsV (l ++ news) = bytsV l ++ bytsV news by simp [bytsV]]
      exact h1
    obtain ⟨g, n', cap, rfl⟩ := shapeL hO (by rw [List.length_append]; omega)
    unfold Oper.wp
    simp [execOp, ho, resolve, invoke, builtin, hs, hx, hrun, Result.andThen]
    exact h g n' cap w' hO h2

set_option maxRecDepth 100000 in
set_option maxHeartbeats 4000000 in
theorem refRaw0_any (b : List UInt8) (p : Option Addr) (c : Nat) (w : World) (h : ByR w w.heap.size p b) (hc : b.length ≤ c) (hp : p = none → c = 0) (hB : b.length ≤ 500) :
    Calls Try.prog 10 #[.slice p b.length c, .int .i64 0] w (DRawA w (.ok (stoV b))) := by
  have HB := Lib.hid h
  have HP := Lib.hid hp
  clear h hp
  obtain ⟨n, hn⟩ : ∃ n, n = b.length := ⟨_, rfl⟩
  obtain ⟨m1, h1⟩ : ∃ m1, m1 = n % 256 := ⟨_, rfl⟩
  obtain ⟨m2, h2⟩ : ∃ m2, m2 = n / 256 := ⟨_, rfl⟩
  obtain ⟨m3, h3⟩ : ∃ m3, m3 = 255 - m1 := ⟨_, rfl⟩
  obtain ⟨m4, h4⟩ : ∃ m4, m4 = 255 - m2 := ⟨_, rfl⟩
  have i0 : ¬ (1048576 : Int) < (n : Int) := by omega
  have s0 : min (n : Int) 65535 = (n : Int) := by omega
  have s1 : (n : Int) % 256 = (m1 : Int) := by omega
  have s1' : (n : Int).tmod 256 = (m1 : Int) := by rw [Int.tmod_eq_emod_of_nonneg (by omega)]; exact s1
  have s2 : (n : Int) / 256 = (m2 : Int) := by omega
  have s2' : (n : Int).tdiv 256 = (m2 : Int) := by rw [Int.tdiv_eq_ediv_of_nonneg (by omega)]; exact s2
  have s3 : (255 : Int) - (m1 : Int) = (m3 : Int) := by omega
  have s4 : (255 : Int) - (m2 : Int) = (m4 : Int) := by omega
  obtain ⟨-, -, -, t1⟩ := small_wrap (y := m1) (by omega)
  obtain ⟨-, -, -, t2⟩ := small_wrap (y := m2) (by omega)
  obtain ⟨-, -, -, t3⟩ := small_wrap (y := m3) (by omega)
  obtain ⟨-, -, -, t4⟩ := small_wrap (y := m4) (by omega)
  have HE := Lib.hid (show stoV b = [UInt8.ofNat 1, UInt8.ofNat m1, UInt8.ofNat m2, UInt8.ofNat m3, UInt8.ofNat m4] ++ b by
    rw [show stoV b = blkV 1 b from stoGo_last _ (by omega)]
    unfold blkV; rw [← hn, h3, h4, h1, h2])
  have HC := Lib.hid (show (bytsV [UInt8.ofNat 1, UInt8.ofNat m1, UInt8.ofNat m2, UInt8.ofNat m3, UInt8.ofNat m4]).toArray = #[.int .u8 1, .int .u8 (m1 : Int), .int .u8 (m2 : Int), .int .u8 (m3 : Int), .int .u8 (m4 : Int)] by
    unfold bytsV
    simp only [List.map_cons, List.map_nil]
    rw [u8_of (x := 1) (by omega), u8_of (x := m1) (by omega), u8_of (x := m2) (by omega), u8_of (x := m3) (by omega), u8_of (x := m4) (by omega)]; rfl)
  have HN := Lib.hid hn
  have hn500 : n ≤ 500 := by omega
  have hnc : n ≤ c := by omega
  rw [← hn]
  clear hn h1 h2 h3 h4 hB hc
  go_enter Try.func10, Try.ntmps10
  go_upto_region 6 with fail
  have B0 := Lib.hid (Blk.fresh w #[.slice none 0 0, .int .i64 0] 46)
  have K0 := Lib.hid ((Kept.refl w).allocO (.cells #[.slice none 0 0, .int .i64 0] 46))
  obtain ⟨W0, hW0⟩ : ∃ W0, W0 = w.alloc (.cells #[.slice none 0 0, .int .i64 0] 46) := ⟨_, rfl⟩
  rw [← hW0] at B0 K0 ⊢
  obtain ⟨sb, hsb⟩ : ∃ sb, sb = w.heap.size := ⟨_, rfl⟩
  rw [← hsb] at B0 ⊢
  have hs6 : w.heap.size ≤ sb := by omega
  clear hW0 hsb
  have O0 := Lib.hid (show Out W0 (sb + 1) (.slice none 0 0) [] from World.ownsRow_nil _ _ _ _)
  have hsl := B0.out.lt
  obtain ⟨e0, e1⟩ := B0.out.cells2
  have hf := B0.out.free
  have KA := Lib.hid (show Kept W0 (W0.alloc (.cells #[.int .u8 1, .int .u8 (m1 : Int), .int .u8 (m2 : Int), .int .u8 (m3 : Int), .int .u8 (m4 : Int)] 5)) from (Kept.refl W0).allocO _)
  have BY := Lib.hid (lit_byR' W0 [UInt8.ofNat 1, UInt8.ofNat m1, UInt8.ofNat m2, UInt8.ofNat m3, UInt8.ofNat m4])
  rw [HC.out] at BY
  have O1 := Lib.hid (O0.out.kept KA.out)
  go_wp2_with fail
  go_loopg [0] 0 (fun m x wr => m = 0 ∧ x = .slice p n c ∧ W0 = wr)
  case atStart => exact ⟨rfl, rfl, rfl⟩
  case round =>
    obtain ⟨-, rfl, rfl⟩ := hrel
    go_upto_region 31 with (at_builtin; go_loud (refine wpList_app_in rfl _ _ rfl O1.out rfl (some ⟨W0.heap.size, 0, none⟩) 5 5 [UInt8.ofNat 1, UInt8.ofNat m1, UInt8.ofNat m2, UInt8.ofNat m3, UInt8.ofNat m4] rfl rfl BY.out (by decide) (Nat.le_trans hsl (Below.size KA.out)) (by decide) ?_); intro g5 cap5 w5 ho5 hg5 hat5 hl5; have O5 := Lib.hid ho5; have G5 := Lib.hid hg5; go_loud (have B5 := Lib.hid (show Blk w5 sb #[.slice none 0 0, .int .i64 0] 46 from (hg5.block sb (by simp; omega) (by simp [Value.ownBlock])).trans (B0.out.alloc _))); have f5 := B5.out.free; obtain ⟨d0, d1⟩ := B5.out.cells2; clear ho5 hg5 hat5)
    have hg5b := (O5.out.lt g5 rfl).1
    have hs5 := G5.out.size
    have K5 := Lib.hid (show Kept w w5 from Below.grown (K0.out.trans KA.out) G5.out (by simp; omega) (fun k hk => by cases hk))
    have B6 := Lib.hid (show Blk (w5.setCell ⟨sb, 0, none⟩ (.slice (some ⟨g5, 0, none⟩) 5 cap5)) sb #[.slice (some ⟨g5, 0, none⟩) 5 cap5, .int .i64 0] 46 by
      have z := B5.out.set 0 (.slice (some ⟨g5, 0, none⟩) 5 cap5); simpa using z)
    have O6 := Lib.hid (show Out (w5.setCell ⟨sb, 0, none⟩ (.slice (some ⟨g5, 0, none⟩) 5 cap5)) (sb + 1) (.slice (some ⟨g5, 0, none⟩) 5 cap5) [UInt8.ofNat 1, UInt8.ofNat m1, UInt8.ofNat m2, UInt8.ofNat m3, UInt8.ofNat m4] from
      (show Out w5 (sb + 1) (.slice (some ⟨g5, 0, none⟩) 5 cap5) [UInt8.ofNat 1, UInt8.ofNat m1, UInt8.ofNat m2, UInt8.ofNat m3, UInt8.ofNat m4] from O5.out).gb (gbS w5 sb 0 _) (.inr (by simp [Value.ownBlock]; omega)))
    have K6 := Lib.hid (show Kept w (w5.setCell ⟨sb, 0, none⟩ (.slice (some ⟨g5, 0, none⟩) 5 cap5)) from K5.out.set hs6 _)
    have hsl5 : sb < w5.heap.size := B5.out.lt
    obtain ⟨W6, hW6⟩ : ∃ W6, W6 = w5.setCell ⟨sb, 0, none⟩ (.slice (some ⟨g5, 0, none⟩) 5 cap5) := ⟨_, rfl⟩
    rw [← hW6] at B6 O6 K6 ⊢
    obtain ⟨d0, d1⟩ := B6.out.cells2
    have f6 := B6.out.free
    have hs66 := Below.size K6.out
    have hsb6 := B6.out.lt
    have BB := Lib.hid (show ByR W6.drew W6.drew.heap.size p b from fun i hi => by
      obtain ⟨kb, o, h1, h2, h3⟩ := (HB.out.keep (Nat.le_refl _) K6.out) i hi
      exact ⟨kb, o, h1, by show kb < W6.heap.size; omega, h3⟩)
    have HP2 := Lib.hid (show p = none → n = 0 ∧ c = 0 from fun e => by have := HP.out e; omega)
    have inc : (n : Int) ≤ (c : Int) := by omega
    have inc2 : (0 : Int) ≤ (n : Int) := by omega
    have O6d := Lib.hid (show Out W6.drew (sb + 1) (.slice (some ⟨g5, 0, none⟩) 5 cap5) [UInt8.ofNat 1, UInt8.ofNat m1, UInt8.ofNat m2, UInt8.ofNat m3, UInt8.ofNat m4] from O6.out.kept (Kept.refl W6).drew)
    clear hW6 O5 G5 B5 K5 f5 e0 e1 hf hl5
    have hBW : sb + 1 ≤ W6.drew.heap.size := by show sb + 1 ≤ W6.heap.size; omega
    have hLW : [UInt8.ofNat 1, UInt8.ofNat m1, UInt8.ofNat m2, UInt8.ofNat m3, UInt8.ofNat m4].length + n ≤ 1099511627776 := by simp; omega
    have hL0 : 0 < [UInt8.ofNat 1, UInt8.ofNat m1, UInt8.ofNat m2, UInt8.ofNat m3, UInt8.ofNat m4].length := by simp
    have HBL := Lib.hid (fun w6 (g : W6.drew.grownBy w6 (Value.slice (some ⟨g5, 0, none⟩) 5 cap5).ownBlock) => (show Blk w6 sb #[.slice (some ⟨g5, 0, none⟩) 5 cap5, .int .i64 0] 46 from (g.block sb (by show sb < W6.heap.size; omega) (by simp [Value.ownBlock]; omega)).trans B6.out))
    go_region_law ((refine step_app_out (by rfl) _ _ (by rfl) O6d.out (by rfl) p n c b HN.out (by rfl) BB.out HP2.out hBW hLW hL0 ?_; intro g6 n6 cap6 w6 ho6 hg6; have O7 := Lib.hid ho6; have G7 := Lib.hid hg6; have B7 := Lib.hid (HBL.out w6 hg6); have f7 := B7.out.free; obtain ⟨e0, e1⟩ := B7.out.cells2; clear ho6 hg6))
    have K7 := Lib.hid (show Kept w w6 from Below.grown K6.out.drew G7.out (by show w.heap.size ≤ W6.heap.size; omega) (fun k hk => by have hgk : g5 = k := Option.some.inj hk; omega))
    have K8 := Lib.hid (show Kept w (w6.setCell ⟨sb, 0, none⟩ (.slice (some ⟨g6, 0, none⟩) n6 cap6)) from K7.out.set hs6 _)
    have B8 := Lib.hid (show Blk (w6.setCell ⟨sb, 0, none⟩ (.slice (some ⟨g6, 0, none⟩) n6 cap6)) sb #[(.slice (some ⟨g6, 0, none⟩) n6 cap6), .int .i64 0] 46 by
      have z := B7.out.set 0 (.slice (some ⟨g6, 0, none⟩) n6 cap6); simpa using z)
    have O8 := Lib.hid (show Out (w6.setCell ⟨sb, 0, none⟩ (.slice (some ⟨g6, 0, none⟩) n6 cap6)) (sb + 1) (.slice (some ⟨g6, 0, none⟩) n6 cap6) _ from O7.out.gb (gbS w6 sb 0 _) (.inr (fun e => by have := (O7.out.lt sb e).1; omega)))
    obtain ⟨W8, hW8⟩ : ∃ W8, W8 = w6.setCell ⟨sb, 0, none⟩ (.slice (some ⟨g6, 0, none⟩) n6 cap6) := ⟨_, rfl⟩
    rw [← hW8] at K8 B8 O8 ⊢
    obtain ⟨d0, d1⟩ := B8.out.cells2
    clear hW8 f7 f6
    have HE8 := Lib.hid (show Out W8 w.heap.size (.slice (some ⟨g6, 0, none⟩) n6 cap6) (stoV b) by rw [HE.out]; exact O8.out.base (by omega))
    rcases (show (p = none ∧ n = 0 ∧ c = 0) ∨ (∃ a, p = some a ∧ n = c) ∨ (∃ a, p = some a ∧ n < c) by
      cases hpp : p with
      | none => exact .inl ⟨rfl, HP2.out hpp⟩
      | some a =>
        by_cases e : n = c
        · exact .inr (.inl ⟨a, rfl, e⟩)
        · exact .inr (.inr ⟨a, rfl, by omega⟩)) with ⟨rfl, rfl, rfl⟩ | ⟨a, rfl, rfl⟩ | ⟨a, rfl, hlt⟩
    · go_wp2_with fail
      go_ret2
      exact ⟨K8.out, _, rfl, HE8.out⟩
    · go_wp2_with fail
      go_ret2
      exact ⟨K8.out, _, rfl, HE8.out⟩
    · have hne : ¬ (n : Int) = (c : Int) := by omega
      have hlti : (n : Int) < (c : Int) := by omega
      go_wp2_with fail
      go_ret2
      exact ⟨K8.out, _, rfl, HE8.out⟩

set_option maxRecDepth 100000 in
set_option maxHeartbeats 1000000 in
theorem refRaw_any (b : List UInt8) (kind : Int) (p : Option Addr) (c : Nat) (w : World) (h : ByR w w.heap.size p b) (hc : b.length ≤ c) (hp : p = none → c = 0) (hB : b.length ≤ 500) (hk : -9223372036854775808 ≤ kind ∧ kind ≤ 9223372036854775807) :
    Calls Try.prog 10 #[.slice p b.length c, .int .i64 kind] w (DRawA w (rawZ b kind)) := by
  by_cases c0 : kind = 0
  · subst c0
    rw [show rawZ b 0 = .ok (stoV b) by unfold rawZ; rw [if_neg (by omega), if_neg (by omega), if_pos rfl]]
    exact refRaw0_any b p c w h hc hp hB
  · by_cases c1 : kind = 1
    · subst c1
      rw [show rawZ b 1 = .ok (pressV (tokens b)) by unfold rawZ; rw [if_neg (by omega), if_neg (by omega), if_neg (by decide)]]
      exact refRaw1_any b p c w h hB
    · rw [show rawZ b kind = .error 1 from if_pos ⟨c0, c1⟩]
      have e0 : (kind != 0) = true := by rw [bne_iff_ne]; exact c0
      have e1 : (kind != 1) = true := by rw [bne_iff_ne]; exact c1
      clear c0 c1 h hp
      go_enter Try.func10, Try.ntmps10
      go_wp2_with fail
      go_ret2
      exact ⟨Kept.refl w, rfl⟩

set_option maxRecDepth 100000 in
theorem refAdlerD_any (B : List UInt8) (p : Option Addr) (c : Nat) (w : World) (h : ByR w w.heap.size p B) (hB : B.length ≤ 1099511627776) :
    Calls Try.prog 26 #[.slice p B.length c] w fun e w' => e = .returned (.int .u32 (adler B)) ∧ Kept w w' := by
  have HB := Lib.hid h
  clear h
  go_enter Try.func26, Try.ntmps26
  go_wp2_with fail
  go_loopg [3, 4, 5] (B.length + 1) (fun m x y i wr => ∃ (j a s : Nat), m = B.length + 1 - j ∧ j ≤ B.length ∧ x = .int .i64 a ∧ y = .int .i64 s ∧ i = .int .i64 j ∧ a < 65521 ∧ s < 65521 ∧ Hid (adlerGo (B.drop j) a s = adlerGo B 1 0) ∧ w = wr)
  case atStart => exact ⟨0, 1, 0, rfl, Nat.zero_le _, rfl, rfl, rfl, by decide, by decide, Lib.hid rfl, rfl⟩
  case round =>
    obtain ⟨j, a, s, hm, hj, rfl, rfl, rfl, ha, hs, HE, rfl⟩ := hrel
    by_cases hlt : j < B.length
    · obtain ⟨kb, o, hp, hkb, hc⟩ := HB.out j hlt
      subst hp
      have HS := Lib.hid (adlerGo_step B j hlt a s)
      obtain ⟨v, hv⟩ : ∃ v, v = B[j].toNat := ⟨_, rfl⟩
      have hv2 : v < 256 := by rw [hv]; exact B[j].toNat_lt
      rw [← hv] at hc HS
      clear hv
      go_wp2_with fail
      go_roundg (B.length + 1 - (j + 1))
      case measure => omega
      case rel =>
        refine ⟨j + 1, (a + v) % 65521, (s + (a + v) % 65521) % 65521, rfl, by omega, ?_, ?_, by go_num, Nat.mod_lt _ (by decide), Nat.mod_lt _ (by decide), Lib.hid (by rw [← HS.out]; exact HE.out), rfl⟩
        · go_num
        · go_num
    · obtain rfl : j = B.length := by omega
      have HR := Lib.hid (show adler B = s * 65536 + a by
        have := HE.out
        rw [List.drop_eq_nil_of_le (Nat.le_refl _)] at this
        unfold adler; rw [← this]; rfl)
      go_wp2_with fail
      go_ret
      exact ⟨by rw [HR.out]; go_num, Kept.refl _⟩

end Go.Proofs.Ytpplboihlndfpaa
