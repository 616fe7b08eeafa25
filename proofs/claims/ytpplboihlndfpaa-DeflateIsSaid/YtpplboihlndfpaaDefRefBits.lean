/-
  The reference's writer of bits: put, code, symbol.
-/
import Derived.Test.YtpplboihlndfpaaDefSyms
namespace Go.Proofs.Ytpplboihlndfpaa
open Go.RowKit Ix Dx
set_option linter.unusedSimpArgs false
set_option linter.unusedVariables false

/-- Block b holds bits that were put. -/
structure RSy (w : World) (b : Nat) (sv : Value) (bs : List Nat) : Prop where
  blk : Blk w b #[sv, .int .i64 bs.length] 46
  own : Out w (b + 1) sv (pkL bs)
  bin : Bin bs
theorem RSy.low {w : World} {b : Nat} {sv : Value} {bs : List Nat} (h : RSy w b sv bs) : ∀ k, sv.ownBlock = some k → b < k := fun k e => (h.own.lt k e).1
theorem RSy.kept {w w' : World} {b : Nat} {sv : Value} {bs : List Nat} (h : RSy w b sv bs) (k : Kept w w') : RSy w' b sv bs := ⟨h.blk.kept k, h.own.kept k, h.bin⟩
/-- What a call that puts bits leaves. -/
def RSyR (w : World) (b : Nat) (sv : Value) (bs : List Nat) (w' : World) : Prop := ∃ sv', RSy w' b sv' bs ∧ Gr w b sv w' sv'
theorem RSyR.then {w w1 w2 : World} {b : Nat} {sv sv1 : Value} {bs2 : List Nat} (g : Gr w b sv w1 sv1) (h : RSyR w1 b sv1 bs2 w2) : RSyR w b sv bs2 w2 := by
  obtain ⟨sv', h1, h2⟩ := h
  exact ⟨sv', h1, g.trans h2⟩

/-- Behind an append, and a store. -/
theorem rsy_app {w w5 : World} {b : Nat} {sv : Value} {bs : List Nat} (h : RSy w b sv bs) {x : UInt8} {o : Obj} {g5 cap5 n : Nat}
    (ho : Out w5 (b + 1) (.slice (some ⟨g5, 0, none⟩) n cap5) (pkL bs ++ [x])) (hg : (w.alloc o).grownBy w5 sv.ownBlock) (hat : sv.ownBlock = some g5 ∨ g5 = w.heap.size + 1) :
    Blk w5 b #[sv, .int .i64 bs.length] 46 ∧ Blk (w5.setCell ⟨b, 0, none⟩ (.slice (some ⟨g5, 0, none⟩) n cap5)) b #[.slice (some ⟨g5, 0, none⟩) n cap5, .int .i64 bs.length] 46 ∧
    Out (w5.setCell ⟨b, 0, none⟩ (.slice (some ⟨g5, 0, none⟩) n cap5)) (b + 1) (.slice (some ⟨g5, 0, none⟩) n cap5) (pkL bs ++ [x]) ∧ Gr w b sv (w5.setCell ⟨b, 0, none⟩ (.slice (some ⟨g5, 0, none⟩) n cap5)) (.slice (some ⟨g5, 0, none⟩) n cap5) := by
  have hb := h.blk.lt
  have hlow := h.own.lt
  have key : ∀ j, j < w.heap.size → sv.ownBlock ≠ some j → w5.heap[j]? = w.heap[j]? := fun j hj hv => (hg.block j (by simp; omega) (fun e => hv e.symm)).trans (Below.heap_alloc w o j hj)
  have hne : ∀ j, j ≤ b → sv.ownBlock ≠ some j := fun j hj e => by have := (hlow j e).1; omega
  have hs : w.heap.size ≤ w5.heap.size := by have := hg.size; simp at this; omega
  have hbk : Blk w5 b #[sv, .int .i64 bs.length] 46 := (key b hb (hne b (Nat.le_refl _))).trans h.blk
  have hg5 : g5 ≠ b := by
    rcases hat with e | e
    · have := (hlow g5 e).1; omega
    · omega
  refine ⟨hbk, by simpa using hbk.set 0 (.slice (some ⟨g5, 0, none⟩) n cap5), ho.gb (gbS _ _ _ _) (.inr (by simp [Value.ownBlock]; exact hg5)), ?_⟩
  refine ⟨by rw [show (w5.setCell ⟨b, 0, none⟩ _).os = w5.os from rfl, hg.os]; rfl, by rw [show (w5.setCell ⟨b, 0, none⟩ _).tape = w5.tape from rfl, hg.tape]; rfl, by rw [show (w5.setCell ⟨b, 0, none⟩ _).output = w5.output from rfl, hg.output]; rfl, by simpa using hs, fun j hj hjb hv => ?_, ?_⟩
  · exact (Below.heap_setCell w5 ⟨b, 0, none⟩ _ j (by show j ≠ b; omega)).trans (key j hj hv)
  · rcases hat with e | e
    · exact .inl e.symm
    · exact .inr ⟨g5, rfl, by omega⟩
/-- Behind both stores. -/
theorem rsy_end {w w3 : World} {b : Nat} {sv : Value} {bs : List Nat} {g n cap d v u : Nat} (hb : Blk w3 b #[.slice (some ⟨g, 0, none⟩) n cap, .int .i64 bs.length] 46)
    (ho : Out w3 (b + 1) (.slice (some ⟨g, 0, none⟩) n cap) (pkO bs)) (hn : n = (pkO bs).length) (hg : Gr w b sv w3 (.slice (some ⟨g, 0, none⟩) n cap)) (hbin : Bin bs) (hu : u < 2) (hv : v < 256) (hset : (pkO bs).set d (UInt8.ofNat v) = pkL (bs ++ [u])) (y z : Int) (hy : y = (v : Int)) (hz : z = ((bs.length + 1 : Nat) : Int)) :
    ∃ sv', RSy ((w3.setCell ⟨g, d, none⟩ (.int .u8 y)).setCell ⟨b, 1, none⟩ (.int .i64 z)).drew b sv' (bs ++ [u]) ∧ Gr w b sv ((w3.setCell ⟨g, d, none⟩ (.int .u8 y)).setCell ⟨b, 1, none⟩ (.int .i64 z)).drew sv' := by
  subst hz hy
  have hgb := (ho.lt g rfl)
  have hne : b ≠ g := by omega
  have ho2 := ho.setO' d (UInt8.ofNat v)
  rw [hset, show (UInt8.ofNat v).toNat = v by rw [UInt8.toNat_ofNat']; exact Nat.mod_eq_of_lt (by omega)] at ho2
  have hb2 := (hb.other (k := g) (o := d) hne (.int .u8 (v : Int))).set 1 (.int .i64 ((bs.length + 1 : Nat) : Int))
  have e : (#[Value.slice (some ⟨g, 0, none⟩) n cap, .int .i64 bs.length] : Array Value).setIfInBounds 1 (.int .i64 ((bs.length + 1 : Nat) : Int)) = #[Value.slice (some ⟨g, 0, none⟩) n cap, .int .i64 ((bs.length + 1 : Nat) : Int)] := rfl
  rw [e] at hb2
  have hS : RSy ((w3.setCell ⟨g, d, none⟩ (.int .u8 (v : Int))).setCell ⟨b, 1, none⟩ (.int .i64 ((bs.length + 1 : Nat) : Int))) b (.slice (some ⟨g, 0, none⟩) n cap) (bs ++ [u]) := by
    refine ⟨?_, ho2.gb (gbS _ b 1 (.int .i64 ((bs.length + 1 : Nat) : Int))) (.inr (by simp [Value.ownBlock]; omega)), hbin.app (fun y hy => by rw [List.mem_singleton.1 hy]; exact hu)⟩
    rw [List.length_append, List.length_singleton]
    exact hb2
  refine ⟨_, hS.kept ((Kept.refl _).drew), (hg.trans ?_).trans (Gr.ofKept ((Kept.refl _).drew))⟩
  refine ⟨rfl, rfl, rfl, by simp, fun j hj h1 h2 => ?_, .inl rfl⟩
  refine (Below.heap_setCell _ ⟨b, 1, none⟩ _ j h1).trans ?_
  exact (Below.heap_setCell _ ⟨g, d, none⟩ _ j (fun e => h2 (by rw [e]; rfl)))

theorem small_wrap {y : Nat} (h : y < 256) : IntKind.i64.wrap (y : Int) = (y : Int) ∧ IntKind.u8.wrap (y : Int) = (y : Int) ∧ wrap64 (y : Int) = (y : Int) ∧ (y : Int) % 256 = (y : Int) :=
  ⟨IntWalk.i64_in _ (by omega), by show (y : Int) % 256 = _; omega, IntWalk.wrap64_in _ (by omega), by omega⟩
/-- So many bits put behind those that lie. -/
def nb (v : Nat) (bs : List Nat) (j : Nat) : List Nat := bs ++ numBits v j

set_option maxRecDepth 100000 in
set_option maxHeartbeats 4000000 in
theorem refPut_any (v n : Nat) (hv : v < 4294967296) (hn32 : n ≤ 32) {w : World} {b : Nat} {sv : Value} {bs0 : List Nat} (h : RSy w b sv bs0) (hB : bs0.length + 100 ≤ 1099511627776) :
    Calls Try.prog 21 #[.pointer (some ⟨b, 0, none⟩), .int .i64 v, .int .i64 n] w fun e w' => e = .returned (.tuple #[]) ∧ RSyR w b sv (nb v bs0 n) w' := by
  have HS0 := Lib.hid h
  clear h
  go_enter Try.func21, Try.ntmps21
  go_wp2_with fail
  go_loopg [6] n (fun m y wr => ∃ (j : Nat) (sv' : Value), m = n - j ∧ j ≤ n ∧ y = .int .i64 j ∧ RSy wr b sv' (nb v bs0 j) ∧ Gr w b sv wr sv')
  case atStart => exact ⟨0, sv, rfl, Nat.zero_le _, rfl, by unfold nb; rw [numBits, List.append_nil]; exact HS0.out, Gr.refl _ _ _⟩
  case round =>
    obtain ⟨j, sv1, hm, hj, rfl, hs, hg⟩ := hrel
    have HG1 := Lib.hid hg
    clear hg
    by_cases hlt : j < n
    · have hj1 : (j : Int) < (n : Int) := by omega
      have hj0 : ¬ (j : Int) < 0 := by omega
      obtain ⟨xx, hxx⟩ : ∃ xx, xx = v / 2 ^ j := ⟨_, rfl⟩
      have hxv : xx ≤ v := by rw [hxx]; exact Nat.div_le_self _ _
      have s1 : (v : Int) / 2 ^ j = (xx : Int) := by rw [hxx]; simp
      have hjm : min j 64 = j := by omega
      have HNX := Lib.hid (show nb v bs0 j ++ [xx % 2] = nb v bs0 (j + 1) by unfold nb; rw [numBits, List.append_assoc, hxx])
      have hbl0 : (nb v bs0 j).length = bs0.length + j := by unfold nb; rw [List.length_append, numBits_len]
      obtain ⟨bs, hbs⟩ : ∃ bs, bs = nb v bs0 j := ⟨_, rfl⟩
      rw [← hbs] at hs HNX hbl0
      have hB1 : bs.length + 50 ≤ 1099511627776 := by omega
      have HS := Lib.hid hs
      obtain ⟨c0, c1⟩ := hs.blk.cells2
      have hbl := hs.blk.lt
      have hf := hs.blk.free
      obtain ⟨u, hu⟩ : ∃ u, u = xx % 2 := ⟨_, rfl⟩
      have hu2 : u < 2 := by omega
      obtain ⟨hx1, hx2⟩ := pkL_put hs.bin u hu2
      have hol := pkO_len bs
      have hand := and_one' (x := xx) (by omega)
      rw [← hu] at hand HNX
      obtain ⟨nn, hnn⟩ : ∃ nn, nn = bs.length := ⟨_, rfl⟩
      obtain ⟨d, hd⟩ : ∃ d, d = bs.length / 8 := ⟨_, rfl⟩
      obtain ⟨r, hr⟩ : ∃ r, r = bs.length % 8 := ⟨_, rfl⟩
      obtain ⟨x, hx⟩ : ∃ x, x = ((pkO bs).getD d 0).toNat := ⟨_, rfl⟩
      rw [← hd, ← hr, ← hx] at hx1 hx2
      rw [← hd] at hol
      have hr8 : r < 8 := by omega
      have hor := or_put' hr8 hu2 hx1
      have hy : u * 2 ^ r < 256 ∧ x + u * 2 ^ r < 256 := by
        have h7 : 2 ^ r ≤ 2 ^ 7 := Nat.pow_le_pow_right (by decide) (by omega)
        have h8 : u * 2 ^ r ≤ 1 * 2 ^ r := Nat.mul_le_mul_right _ (by omega)
        omega
      have q2 : (nn : Int) % 8 = (r : Int) := by omega
      have q3 : (nn : Int).tmod 8 = (r : Int) := by rw [Int.tmod_eq_emod_of_nonneg (by omega)]; exact q2
      have q5 : ¬ (r : Int) < 0 := by omega
      obtain ⟨z1, z2, z3⟩ := shl_put' hr8 hu2
      obtain ⟨y, hyy⟩ : ∃ y, y = u * 2 ^ r := ⟨_, rfl⟩
      rw [← hyy] at z1 z2 z3 hor hy hx2
      have z4 : (u : Int) * 2 ^ r = (y : Int) := by rw [hyy]; simp
      obtain ⟨z5, z6, z7, z8⟩ := small_wrap hy.1
      have hrm : min r 64 = r := by omega
      clear hyy hxx hbs
      obtain ⟨t, htt⟩ : ∃ t, t = x + y := ⟨_, rfl⟩
      rw [← htt] at hor hy hx2
      clear htt
      have HN := Lib.hid hnn
      have HX := Lib.hid hx
      have HX2 := Lib.hid hx2
      rw [← hnn] at c1
      have hd1 : d ≤ 1099511627776 := by omega
      have hn1 : nn ≤ 1099511627776 := by omega
      have hd2 : IntKind.i64.wrap (d : Int) = (d : Int) := IntWalk.i64_in _ (by omega)
      have hd3 : (0 : Int) ≤ (d : Int) := by omega
      have hd0 : (d : Int) < (d : Int) + 1 := by omega
      have hd4 : (d : Int) + 1 - 1 = (d : Int) := by omega
      by_cases h8 : r = 0
      · have e8 : ((nn : Int) % 8 == 0) = true := by rw [beq_iff_eq]; omega
        have hA : pkL bs ++ [0] = pkO bs := by unfold pkO; rw [if_pos (by omega)]
        have hLL : (pkL bs).length + 1 = d + 1 := by rw [pkL_len]; omega
        have hLB : (pkL bs).length + 1 ≤ 1099511627776 := by rw [hLL]; omega
        clear hs hu hnn hd hr hx h8
        go_upto_region 5 with (at_builtin; refine wpList_app_out rfl _ _ rfl HS.out.own 0 rfl rfl (by omega) (by omega) ?_; intro g5 cap5 w5 ho5 hg5 hat5; obtain ⟨b5, b6, o6, r6⟩ := rsy_app HS.out ho5 hg5 hat5; have B5 := Lib.hid b5; have B6 := Lib.hid b6; have O6 := Lib.hid o6; have R6 := Lib.hid r6; obtain ⟨d0, d1⟩ := b5.cells2; have d4 := b5.free; clear ho5 hg5 hat5 b6 o6 r6 b5)
        rw [hA] at O6
        try rw [hLL] at O6
        try rw [hLL] at B6
        try simp only [hLL]
        obtain ⟨W3, hW3⟩ : ∃ W3, W3 = w5.setCell ⟨b, 0, none⟩ (.slice (some ⟨g5, 0, none⟩) (d + 1) cap5) := ⟨_, rfl⟩
        try rw [hLL] at R6
        rw [← hW3] at B6 O6 R6 ⊢
        rw [← HN.out] at B6
        obtain ⟨e0, e1⟩ := B6.out.cells2
        have e4 := B6.out.free
        have k0 := O6.out.cellO d (by omega)
        rw [← HX.out] at k0
        have k1 : ∀ o, W3.frozen? ⟨g5, o, none⟩ = false := O6.out.frozenO
        have hgne : g5 ≠ b := by have := (O6.out.lt g5 rfl).1; omega
        clear hW3 d0 d1 d4 c0 c1 hf B5 hLL hLB hA e8
        go_still_tail 37, (by kernel_rfl)
        change wpList _ _ _ _ _ W3.drew
        go_wp2_with fail
        obtain ⟨sv2, hs2, hg2⟩ := rsy_end (by rw [← HN.out]; exact B6.out) O6.out (by omega) R6.out HS.out.bin hu2 hy.2 HX2.out (t : Int) ((nn : Int) + 1) rfl (by rw [← HN.out]; rfl)
        rw [HNX.out] at hs2
        have HS2 := Lib.hid hs2
        have HG2 := Lib.hid (HG1.out.trans hg2)
        clear hs2 hg2
        go_roundg (n - (j + 1))
        case measure => omega
        case rel => exact ⟨j + 1, sv2, rfl, by omega, by go_num, HS2.out, HG2.out⟩
      · have e8 : ((nn : Int) % 8 == 0) = false := by rw [beq_eq_false_iff_ne]; omega
        have hA : pkL bs = pkO bs := by unfold pkO; rw [if_neg (by omega)]
        obtain ⟨g5, cap5, hsv, hg5⟩ := hs.own.shapeO (by rw [hA, hol]; omega)
        rw [hA, hol] at hsv
        have O6 := Lib.hid (show Out wr (b + 1) (.slice (some ⟨g5, 0, none⟩) (d + 1) cap5) (pkO bs) by rw [← hsv, ← hA]; exact hs.own)
        have B6 := Lib.hid (show Blk wr b #[.slice (some ⟨g5, 0, none⟩) (d + 1) cap5, .int .i64 nn] 46 by rw [← hsv, hnn]; exact hs.blk)
        have R6 := Lib.hid (show Gr wr b sv1 wr (.slice (some ⟨g5, 0, none⟩) (d + 1) cap5) by rw [← hsv]; exact Gr.refl _ _ _)
        have k0 := O6.out.cellO d (by omega)
        rw [← HX.out] at k0
        have k1 : ∀ o, wr.frozen? ⟨g5, o, none⟩ = false := O6.out.frozenO
        have hgne : g5 ≠ b := by omega
        rw [hsv] at c0
        clear hs hu hnn hd hr hx h8 hA hsv hg5
        go_upto_region 5 with fail
        go_still_tail 37, (by kernel_rfl)
        change wpList _ _ _ _ _ wr.drew
        go_wp2_with fail
        obtain ⟨sv2, hs2, hg2⟩ := rsy_end (by rw [← HN.out]; exact B6.out) O6.out (by omega) R6.out HS.out.bin hu2 hy.2 HX2.out (t : Int) ((nn : Int) + 1) rfl (by rw [← HN.out]; rfl)
        rw [HNX.out] at hs2
        have HS2 := Lib.hid hs2
        have HG2 := Lib.hid (HG1.out.trans hg2)
        clear hs2 hg2
        go_roundg (n - (j + 1))
        case measure => omega
        case rel => exact ⟨j + 1, sv2, rfl, by omega, by go_num, HS2.out, HG2.out⟩
    · obtain rfl : j = n := by omega
      have HS1 := Lib.hid hs
      clear hs
      go_wp2_with fail
      refine bodyPost_end (results_none rfl _ _ _) rfl ?_
      exact ⟨rfl, sv1, HS1.out, HG1.out⟩

end Go.Proofs.Ytpplboihlndfpaa
