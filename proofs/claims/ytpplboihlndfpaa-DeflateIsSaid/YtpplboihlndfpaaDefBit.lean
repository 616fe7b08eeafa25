/-
  Bits put into bytes: bit, number, code.
-/
import Derived.Test.YtpplboihlndfpaaInfPut
import Derived.Test.YtpplboihlndfpaaDefBitsMath
import Derived.StillTailTactics
import Derived.Deep.DeepCutAuto
import Derived.Deep.LoopGhost
import Derived.BigQuiet
namespace Go.Proofs.Ytpplboihlndfpaa
open Go.RowKit Ix Dx
set_option linter.unusedSimpArgs false
set_option linter.unusedVariables false

theorem and_one' {x : Nat} (h : x < 4294967296) : bits BinOp.and IntKind.i64 (x : Int) 1 = ((x % 2 : Nat) : Int) := by
  show IntKind.i64.wrap ((BitVec.ofInt 64 (x : Int) &&& BitVec.ofInt 64 ((1 : Nat) : Int)).toNat : Int) = _
  rw [BitVec.ofInt_natCast, BitVec.ofInt_natCast, BitVec.toNat_and, BitVec.toNat_ofNat, BitVec.toNat_ofNat, Nat.mod_eq_of_lt (by omega), Nat.mod_eq_of_lt (by omega), Nat.and_one_is_mod]
  exact IntWalk.i64_in _ (by omega)
theorem or_put' {x u r : Nat} (hr : r < 8) (hu : u < 2) (hx : x < 2 ^ r) : bits BinOp.or IntKind.u8 (x : Int) ((u * 2 ^ r : Nat) : Int) = ((x + u * 2 ^ r : Nat) : Int) := by
  have key : (List.range 8).all (fun r => (List.range 2).all fun u => (List.range 128).all fun x => decide (2 ^ r ≤ x) || bits BinOp.or IntKind.u8 (x : Int) ((u * 2 ^ r : Nat) : Int) == ((x + u * 2 ^ r : Nat) : Int)) = true := by kernel_rfl
  have h7 : 2 ^ r ≤ 2 ^ 7 := Nat.pow_le_pow_right (by decide) (by omega)
  have h1 := List.all_eq_true.1 (List.all_eq_true.1 (List.all_eq_true.1 key r (List.mem_range.2 hr)) u (List.mem_range.2 hu)) x (List.mem_range.2 (by omega))
  rw [decide_eq_false (by omega), Bool.false_or] at h1
  exact beq_iff_eq.1 h1
theorem shl_put' {u r : Nat} (hr : r < 8) (hu : u < 2) : IntKind.u8.wrap ((u : Int) * 2 ^ min (IntKind.u64.wrap (r : Int)).toNat 64) = ((u * 2 ^ r : Nat) : Int) ∧ IntKind.u8.wrap ((u : Int) * 2 ^ r) = ((u * 2 ^ r : Nat) : Int) ∧ (u : Int) * 2 ^ r % 256 = ((u * 2 ^ r : Nat) : Int) := by
  have key : (List.range 8).all (fun r => (List.range 2).all fun u => IntKind.u8.wrap ((u : Int) * 2 ^ min (IntKind.u64.wrap (r : Int)).toNat 64) == ((u * 2 ^ r : Nat) : Int) && (IntKind.u8.wrap ((u : Int) * 2 ^ r) == ((u * 2 ^ r : Nat) : Int) && (u : Int) * 2 ^ r % 256 == ((u * 2 ^ r : Nat) : Int))) = true := by kernel_rfl
  have h1 := List.all_eq_true.1 (List.all_eq_true.1 key r (List.mem_range.2 hr)) u (List.mem_range.2 hu)
  simp only [Bool.and_eq_true, beq_iff_eq] at h1
  exact ⟨h1.1, h1.2.1, h1.2.2⟩
/-- A byte of one's own is set. -/
theorem Out.setO' {w : World} {B g cap n : Nat} {l : List UInt8} (h : Out w B (.slice (some ⟨g, 0, none⟩) n cap) l) (j : Nat) (x : UInt8) : Out (w.setCell ⟨g, j, none⟩ (.int .u8 (x.toNat : Int))) B (.slice (some ⟨g, 0, none⟩) n cap) (l.set j x) := by
  obtain ⟨h0, h1 | ⟨g', cap', cur, h1, hb, hh, hle, hm, hs, ht⟩⟩ := h
  · cases h1.1
  · injection h1 with e1 e2 e3
    injection e1 with e1
    injection e1 with e1
    subst e1 e3
    have hbk : Blk w g cur 5 := hh
    unfold Out World.ownsRow
    rw [List.length_set]
    refine ⟨by simp [bytsV], .inr ⟨g, cap, cur.setIfInBounds j (.int .u8 (x.toNat : Int)), by rw [e2], hb, hbk.set j _, hle, hm, by rw [Array.size_setIfInBounds]; exact hs, ?_⟩⟩
    rw [Array.toList_setIfInBounds, List.take_set, ht]
    unfold bytsV
    rw [List.map_set]
theorem Out.cellO {w : World} {B g cap n : Nat} {l : List UInt8} (h : Out w B (.slice (some ⟨g, 0, none⟩) n cap) l) (j : Nat) (hj : j < l.length) : w.cell? ⟨g, j, none⟩ = some (.int .u8 ((l.getD j 0).toNat : Int)) := by
  rcases h.parts with ⟨h1, -⟩ | ⟨g4, cap4, h1, -, hc⟩
  · cases h1
  · injection h1 with e1 e2 e3
    injection e1 with e1
    injection e1 with e1
    subst e1
    rw [hc j hj]
    simp [List.getD, hj]
theorem Out.frozenO {w : World} {B g cap n : Nat} {l : List UInt8} (h : Out w B (.slice (some ⟨g, 0, none⟩) n cap) l) : ∀ o, w.frozen? ⟨g, o, none⟩ = false := by
  obtain ⟨h0, h1 | ⟨g', cap', cur, h1, hb, hh, hle, hm, hs, ht⟩⟩ := h
  · cases h1.1
  · injection h1 with e1 e2 e3
    injection e1 with e1
    injection e1 with e1
    subst e1
    have hbk : Blk w g cur 5 := hh
    exact hbk.free
theorem Out.shapeO {w : World} {B : Nat} {v : Value} {l : List UInt8} (h : Out w B v l) (h0 : 0 < l.length) : ∃ g cap, v = .slice (some ⟨g, 0, none⟩) l.length cap ∧ B ≤ g := by
  rcases h.2 with ⟨-, h1⟩ | ⟨g, cap, cur, rfl, hb, -, hle, -⟩
  · omega
  · exact ⟨g, cap, rfl, hb⟩

/-- Block b holds bits that were put, and two values more. -/
structure Sy (w : World) (b : Nat) (sv : Value) (bs : List Nat) (lv cv : Value) : Prop where
  blk : Blk w b #[sv, .int .i64 bs.length, lv, cv] 72
  own : Out w (b + 1) sv (pkL bs)
  bin : Bin bs
theorem Sy.low {w : World} {b : Nat} {sv lv cv : Value} {bs : List Nat} (h : Sy w b sv bs lv cv) : ∀ k, sv.ownBlock = some k → b < k := fun k e => (h.own.lt k e).1
theorem Sy.kept {w w' : World} {b : Nat} {sv lv cv : Value} {bs : List Nat} (h : Sy w b sv bs lv cv) (k : Kept w w') : Sy w' b sv bs lv cv := ⟨h.blk.kept k, h.own.kept k, h.bin⟩
/-- What a call that puts bits leaves. -/
def SyR (w : World) (b : Nat) (sv : Value) (bs : List Nat) (lv cv : Value) (w' : World) : Prop := ∃ sv', Sy w' b sv' bs lv cv ∧ Gr w b sv w' sv'

/-- Behind an append, and a store. -/
theorem sy_app {w w5 : World} {b : Nat} {sv lv cv : Value} {bs : List Nat} (h : Sy w b sv bs lv cv) {x : UInt8} {o : Obj} {g5 cap5 n : Nat}
    (ho : Out w5 (b + 1) (.slice (some ⟨g5, 0, none⟩) n cap5) (pkL bs ++ [x])) (hg : (w.alloc o).grownBy w5 sv.ownBlock) (hat : sv.ownBlock = some g5 ∨ g5 = w.heap.size + 1) :
    Blk w5 b #[sv, .int .i64 bs.length, lv, cv] 72 ∧ Blk (w5.setCell ⟨b, 0, none⟩ (.slice (some ⟨g5, 0, none⟩) n cap5)) b #[.slice (some ⟨g5, 0, none⟩) n cap5, .int .i64 bs.length, lv, cv] 72 ∧
    Out (w5.setCell ⟨b, 0, none⟩ (.slice (some ⟨g5, 0, none⟩) n cap5)) (b + 1) (.slice (some ⟨g5, 0, none⟩) n cap5) (pkL bs ++ [x]) ∧ Gr w b sv (w5.setCell ⟨b, 0, none⟩ (.slice (some ⟨g5, 0, none⟩) n cap5)) (.slice (some ⟨g5, 0, none⟩) n cap5) := by
  have hb := h.blk.lt
  have hlow := h.own.lt
  have key : ∀ j, j < w.heap.size → sv.ownBlock ≠ some j → w5.heap[j]? = w.heap[j]? := fun j hj hv => (hg.block j (by simp; omega) (fun e => hv e.symm)).trans (Below.heap_alloc w o j hj)
  have hne : ∀ j, j ≤ b → sv.ownBlock ≠ some j := fun j hj e => by have := (hlow j e).1; omega
  have hs : w.heap.size ≤ w5.heap.size := by have := hg.size; simp at this; omega
  have hbk : Blk w5 b #[sv, .int .i64 bs.length, lv, cv] 72 := (key b hb (hne b (Nat.le_refl _))).trans h.blk
  have hg5 : g5 ≠ b := by
    rcases hat with e | e
    · have := (hlow g5 e).1; omega
    · omega
  refine ⟨hbk, by simpa using hbk.set 0 (.slice (some ⟨g5, 0, none⟩) n cap5), ho.gb (gbS _ _ _ _) (.inr (by simp [Value.ownBlock]; exact hg5)), ?_⟩
  refine ⟨by rw [show (w5.setCell ⟨b, 0, none⟩ _).os = w5.os from rfl, hg.os]; rfl, by rw [show (w5.setCell ⟨b, 0, none⟩ _).tape = w5.tape from rfl, hg.tape]; rfl, by rw [show (w5.setCell ⟨b, 0, none⟩ _).output = w5.output from rfl, hg.output]; rfl, by simpa using hs, fun j hj hjb hv => ?_, ?_⟩
  · exact (Below.heap_setCell w5 ⟨b, 0, none⟩ _ j (by show j ≠ b; omega)).trans (key j hj hv)
  · rcases hat with e | e
    · exact .inl e.symm
    · exact .inr ⟨g5, rfl, by omega⟩
/-- Behind both stores. -/
theorem sy_end {w w3 : World} {b : Nat} {sv lv cv : Value} {bs : List Nat} {g n cap d v u : Nat} (hb : Blk w3 b #[.slice (some ⟨g, 0, none⟩) n cap, .int .i64 bs.length, lv, cv] 72)
    (ho : Out w3 (b + 1) (.slice (some ⟨g, 0, none⟩) n cap) (pkO bs)) (hn : n = (pkO bs).length) (hg : Gr w b sv w3 (.slice (some ⟨g, 0, none⟩) n cap)) (hbin : Bin bs) (hu : u < 2) (hv : v < 256) (hset : (pkO bs).set d (UInt8.ofNat v) = pkL (bs ++ [u])) (y z : Int) (hy : y = (v : Int)) (hz : z = ((bs.length + 1 : Nat) : Int)) :
    SyR w b sv (bs ++ [u]) lv cv ((w3.setCell ⟨g, d, none⟩ (.int .u8 y)).setCell ⟨b, 1, none⟩ (.int .i64 z)).drew := by
  subst hz hy
  have hgb := (ho.lt g rfl)
  have hne : b ≠ g := by omega
  have ho2 := ho.setO' d (UInt8.ofNat v)
  rw [hset, show (UInt8.ofNat v).toNat = v by rw [UInt8.toNat_ofNat']; exact Nat.mod_eq_of_lt (by omega)] at ho2
  have hb2 := (hb.other (k := g) (o := d) hne (.int .u8 (v : Int))).set 1 (.int .i64 ((bs.length + 1 : Nat) : Int))
  have e : (#[Value.slice (some ⟨g, 0, none⟩) n cap, .int .i64 bs.length, lv, cv] : Array Value).setIfInBounds 1 (.int .i64 ((bs.length + 1 : Nat) : Int)) = #[Value.slice (some ⟨g, 0, none⟩) n cap, .int .i64 ((bs.length + 1 : Nat) : Int), lv, cv] := rfl
  rw [e] at hb2
  have hS : Sy ((w3.setCell ⟨g, d, none⟩ (.int .u8 (v : Int))).setCell ⟨b, 1, none⟩ (.int .i64 ((bs.length + 1 : Nat) : Int))) b (.slice (some ⟨g, 0, none⟩) n cap) (bs ++ [u]) lv cv := by
    refine ⟨?_, ho2.gb (gbS _ b 1 (.int .i64 ((bs.length + 1 : Nat) : Int))) (.inr (by simp [Value.ownBlock]; omega)), hbin.app (fun y hy => by rw [List.mem_singleton.1 hy]; exact hu)⟩
    rw [List.length_append, List.length_singleton]
    exact hb2
  refine ⟨_, hS.kept ((Kept.refl _).drew), (hg.trans ?_).trans (Gr.ofKept ((Kept.refl _).drew))⟩
  refine ⟨rfl, rfl, rfl, by simp, fun j hj h1 h2 => ?_, .inl rfl⟩
  refine (Below.heap_setCell _ ⟨b, 1, none⟩ _ j h1).trans ?_
  exact (Below.heap_setCell _ ⟨g, d, none⟩ _ j (fun e => h2 (by rw [e]; rfl)))

set_option maxRecDepth 100000 in
set_option maxHeartbeats 4000000 in
theorem bit_put (v : Nat) (hv : v < 4294967296) {w : World} {b : Nat} {sv lv cv : Value} {bs : List Nat} (h : Sy w b sv bs lv cv) (hB : bs.length ≤ 1099511627776) :
    Calls Try.prog 43 #[.pointer (some ⟨b, 0, none⟩), .int .i64 v] w fun e w' => e = .returned (.tuple #[]) ∧ SyR w b sv (bs ++ [v % 2]) lv cv w' := by
  have HS := Lib.hid h
  obtain ⟨c0, c1, c2, c3⟩ := h.blk.cells4
  have hbl := h.blk.lt
  have hf := h.blk.free
  obtain ⟨u, hu⟩ : ∃ u, u = v % 2 := ⟨_, rfl⟩
  have hu2 : u < 2 := by omega
  obtain ⟨hx1, hx2⟩ := pkL_put h.bin u hu2
  have hol := pkO_len bs
  have hand := and_one' hv
  rw [← hu] at hand ⊢
  obtain ⟨n, hn⟩ : ∃ n, n = bs.length := ⟨_, rfl⟩
  obtain ⟨d, hd⟩ : ∃ d, d = bs.length / 8 := ⟨_, rfl⟩
  obtain ⟨r, hr⟩ : ∃ r, r = bs.length % 8 := ⟨_, rfl⟩
  obtain ⟨x, hx⟩ : ∃ x, x = ((pkO bs).getD d 0).toNat := ⟨_, rfl⟩
  rw [← hd, ← hr, ← hx] at hx1 hx2
  rw [← hd] at hol
  have hr8 : r < 8 := by omega
  have hor := or_put' hr8 hu2 hx1
  have hy : u * 2 ^ r < 256 ∧ x + u * 2 ^ r < 256 := by
    have h7 : 2 ^ r ≤ 2 ^ 7 := Nat.pow_le_pow_right (by decide) (by omega)
    have h8 : u * 2 ^ r ≤ 1 * 2 ^ r := Nat.mul_le_mul_right _ (by omega)
    omega
  have q1 : (n : Int) / 8 = (d : Int) := by omega
  have q2 : (n : Int) % 8 = (r : Int) := by omega
  have q3 : (n : Int).tmod 8 = (r : Int) := by rw [Int.tmod_eq_emod_of_nonneg (by omega)]; exact q2
  have q4 : IntKind.u8.wrap (u : Int) = (u : Int) := by show (u : Int) % 256 = _; omega
  have q5 : ¬ (r : Int) < 0 := by omega
  obtain ⟨z1, z2, z3⟩ := shl_put' hr8 hu2
  obtain ⟨y, hyy⟩ : ∃ y, y = u * 2 ^ r := ⟨_, rfl⟩
  rw [← hyy] at z1 z2 z3 hor hy hx2
  have z4 : (u : Int) * 2 ^ r = (y : Int) := by rw [hyy]; simp
  clear hyy
  obtain ⟨t, htt⟩ : ∃ t, t = x + y := ⟨_, rfl⟩
  rw [← htt] at hor hy hx2
  have HN := Lib.hid hn
  have HX := Lib.hid hx
  have HX2 := Lib.hid hx2
  rw [← hn] at c1
  have hd1 : d ≤ 1099511627776 := by omega
  have hn1 : n ≤ 1099511627776 := by omega
  have hd2 : IntKind.i64.wrap (d : Int) = (d : Int) := IntWalk.i64_in _ (by omega)
  have hd3 : (0 : Int) ≤ (d : Int) := by omega
  have hd0 : (d : Int) < (d : Int) + 1 := by omega
  by_cases h8 : r = 0
  · have e8 : ((n : Int) % 8 == 0) = true := by rw [beq_iff_eq]; omega
    have hA : pkL bs ++ [0] = pkO bs := by unfold pkO; rw [if_pos (by omega)]
    have hLL : (pkL bs).length + 1 = d + 1 := by rw [pkL_len]; omega
    have hLB : (pkL bs).length + 1 ≤ 1099511627776 := by rw [hLL]; omega
    clear h hu hn hd hr hx h8
    go_enter Try.func43, Try.ntmps43
    go_upto_region 2 with (at_builtin; refine wpList_app_out rfl _ _ rfl HS.out.own 0 rfl rfl (by omega) (by omega) ?_; intro g5 cap5 w5 ho5 hg5 hat5; obtain ⟨b5, b6, o6, r6⟩ := sy_app HS.out ho5 hg5 hat5; have B5 := Lib.hid b5; have B6 := Lib.hid b6; have O6 := Lib.hid o6; have R6 := Lib.hid r6; obtain ⟨d0, d1, d2, d3⟩ := b5.cells4; have d4 := b5.free; clear ho5 hg5 hat5 b6 o6 r6 b5)
    rw [hA] at O6
    try rw [hLL] at O6
    try rw [hLL] at B6
    try simp only [hLL]
    obtain ⟨W3, hW3⟩ : ∃ W3, W3 = w5.setCell ⟨b, 0, none⟩ (.slice (some ⟨g5, 0, none⟩) (d + 1) cap5) := ⟨_, rfl⟩
    try rw [hLL] at R6
    rw [← hW3] at B6 O6 R6 ⊢
    rw [← HN.out] at B6
    obtain ⟨e0, e1, e2, e3⟩ := B6.out.cells4
    have e4 := B6.out.free
    have k0 := O6.out.cellO d (by omega)
    rw [← HX.out] at k0
    have k1 : ∀ o, W3.frozen? ⟨g5, o, none⟩ = false := O6.out.frozenO
    have hgne : g5 ≠ b := by have := (O6.out.lt g5 rfl).1; omega
    clear hW3 d0 d1 d2 d3 d4 c0 c1 c2 c3 hf B5 hLL hLB hA e8
    go_still_tail 22, (by kernel_rfl)
    change wpList _ _ _ _ _ W3.drew
    go_wp2_with fail
    refine bodyPost_end (results_none rfl _ _ _) rfl ?_
    exact ⟨rfl, sy_end (by rw [← HN.out]; exact B6.out) O6.out (by omega) R6.out HS.out.bin hu2 hy.2 HX2.out _ _ (by omega) (by rw [← HN.out]; rfl)⟩
  · have e8 : ((n : Int) % 8 == 0) = false := by rw [beq_eq_false_iff_ne]; omega
    have hA : pkL bs = pkO bs := by unfold pkO; rw [if_neg (by omega)]
    obtain ⟨g5, cap5, hsv, hg5⟩ := h.own.shapeO (by rw [hA, hol]; omega)
    rw [hA, hol] at hsv
    have O6 := Lib.hid (show Out w (b + 1) (.slice (some ⟨g5, 0, none⟩) (d + 1) cap5) (pkO bs) by rw [← hsv, ← hA]; exact h.own)
    have B6 := Lib.hid (show Blk w b #[.slice (some ⟨g5, 0, none⟩) (d + 1) cap5, .int .i64 n, lv, cv] 72 by rw [← hsv, hn]; exact h.blk)
    have R6 := Lib.hid (show Gr w b sv w (.slice (some ⟨g5, 0, none⟩) (d + 1) cap5) by rw [← hsv]; exact Gr.refl _ _ _)
    have k0 := O6.out.cellO d (by omega)
    rw [← HX.out] at k0
    have k1 : ∀ o, w.frozen? ⟨g5, o, none⟩ = false := O6.out.frozenO
    have hgne : g5 ≠ b := by omega
    rw [hsv] at c0
    clear h hu hn hd hr hx h8 hA hsv hg5
    go_enter Try.func43, Try.ntmps43
    go_upto_region 2 with fail
    go_still_tail 22, (by kernel_rfl)
    change wpList _ _ _ _ _ w.drew
    go_wp2_with fail
    refine bodyPost_end (results_none rfl _ _ _) rfl ?_
    exact ⟨rfl, sy_end (by rw [← HN.out]; exact B6.out) O6.out (by omega) R6.out HS.out.bin hu2 hy.2 HX2.out _ _ (by omega) (by rw [← HN.out]; rfl)⟩

end Go.Proofs.Ytpplboihlndfpaa
