/-
  What the rest's numberOf answers: a Num, or the Ref that it begins.
-/
import Derived.Test.YtnmehngedljgoaaGreatDoorCosRef
namespace Go.Proofs.YtnmehngedljgoaaGreatDoor
open Go.RowKit Cx

theorem numberV_eq (l : List UInt8) (t : Lx.Tok) : numberV l t = if wholeT t && refB l t.to then (refO t l t.to, (Lx.nextV l (Lx.nextV l t.to).2.to).2.to) else (numV t, t.to) := by
  unfold numberV refO refB
  rw [Lx.tokOf_next, Lx.tokOf_next]
  cases h1 : wholeT t <;> cases h2 : wholeT (Lx.nextV l (t.to : Int)).2 <;> cases h3 : isW (Lx.nextV l ((Lx.nextV l (t.to : Int)).2.to : Int)).2 [82] <;> simp

theorem Rst.cells {s : ByteArray} {a dep : Int} {rb : Nat} {w : World} (h : Rst s a dep rb w) : w.cell? ⟨rb, 0, none⟩ = some (.string s) ∧ w.cell? ⟨rb, 1, none⟩ = some (.int .i64 a) ∧ w.cell? ⟨rb, 2, none⟩ = some (.int .i64 dep) := ⟨Blk.cell h 0, Blk.cell h 1, Blk.cell h 2⟩
theorem Rst.all {s : ByteArray} {a dep : Int} {rb : Nat} {w : World} (h : Rst s a dep rb w) (s' : ByteArray) (a' dep' : Int) : Rst s' a' dep' rb (((w.setCell ⟨rb, 0, none⟩ (.string s')).setCell ⟨rb, 1, none⟩ (.int .i64 a')).setCell ⟨rb, 2, none⟩ (.int .i64 dep')) := by
  have := Blk.set (Blk.set (Blk.set h 0 (.string s')) 1 (.int .i64 a')) 2 (.int .i64 dep')
  simpa [Rst] using this

theorem gb_new {w w' : World} {o : Obj} (h : (w.alloc o).grownBy w' (some w.heap.size)) : Kept w w' :=
  ⟨h.os, h.tape, h.output, by have := h.size; simp at this; omega, fun j hj => by
    rw [h.block j (by simp; omega) (by simp; omega)]; exact Below.heap_alloc w o j hj⟩

set_option maxRecDepth 100000 in
set_option maxHeartbeats 4000000 in
theorem numberOf_any (n : Lx.Tok) (s : ByteArray) (dep : Int) (rb : Nat) (w : World) (hs : s.size ≤ 4294967295) (hm : HasMax w) (hr : Rst s (n.to : Int) dep rb w) (h0 : -9223372036854775808 ≤ n.f) (h1 : n.f ≤ 9223372036854775807) :
    Calls Tryz.prog 97 #[.pointer (some ⟨rb, 0, none⟩), tkV n] w fun e w' =>
      e = .returned (objV (numberV s.data.toList n).1 Hd.none) ∧ Rst s ((numberV s.data.toList n).2 : Nat) dep rb w' ∧ w.grownBy w' (some rb) := by
  have HM := Lib.hid hm
  have HR := Lib.hid hr
  have HV := Lib.hid (numberV_eq s.data.toList n)
  have H0 := Lib.hid (InR.start w hr.lt)
  have CR := Lib.hid (fun (rb : Nat) (w : World) (hm : HasMax w) (hr : Rst s (n.to : Int) dep rb w) => refOf_any n s (n.to : Int) dep rb w hs hm hr h0 h1)
  have CC := Lib.hid (isCount_any n)
  have CN := Lib.hid (numOf_any n)
  obtain ⟨b, hb⟩ : ∃ b, b = wholeT n := ⟨_, rfl⟩
  obtain ⟨rf, hrf⟩ : ∃ rf, rf = refB s.data.toList (n.to : Int) := ⟨_, rfl⟩
  have HB := Lib.hid hb
  have HRF := Lib.hid hrf
  rw [← HB.out, ← HRF.out] at HV
  rw [← HB.out] at CC
  rw [← HRF.out] at CR
  clear hm hr h0 h1 hb hrf
  obtain ⟨nk, nf, ns, nw, nr, nt⟩ := n
  obtain ⟨m, hm2⟩ : ∃ m, numV ⟨nk, nf, ns, nw, nr, nt⟩ = .mk 2 m nf ⟨#[]⟩ [] [] := ⟨_, rfl⟩
  have HM2 := Lib.hid hm2
  rw [HM2.out] at CN
  clear hm2
  unfold tkV
  unfold tkV at CC CN CR
  unfold objV Hd.none at CN
  simp only [Ob.k, Ob.n, Ob.f, Ob.s, Ob.l, Ob.d, List.length_nil] at CN
  simp only [] at CC CR HR ⊢
  have H1 := Lib.hid (InR.fresh' (k := w.heap.size + 1) (InR.fresh H0.out #[.int .i64 nk, .int .i64 nf, .string ⟨ns.toArray⟩, .bool nw, .int .i64 nr, .int .i64 nt] 108) nul6 26 (by simp))
  have R1 := Lib.hid ((HR.out.alloc (.cells #[.int .i64 nk, .int .i64 nf, .string ⟨ns.toArray⟩, .bool nw, .int .i64 nr, .int .i64 nt] 108)).alloc (.cells nul6 26))
  clear H0
  go_enter Tryz.func97, Tryz.ntmps97
  go_wp2_with fail
  (with_reducible refine (CC.out _).mono ?_)
  rintro e w2 ⟨rfl, hk2⟩
  have H2 := Lib.hid (H1.out.kept hk2)
  have R2 := Lib.hid (R1.out.kept hk2)
  obtain ⟨u0, u1, u2, u3, u4, u5⟩ := (H2.out.mem (List.mem_cons_self)).cells6
  have uf := (H2.out.mem (List.mem_cons_self)).free
  have uz := (H2.out.mem (List.mem_cons_self)).lt
  obtain ⟨n0, n1, n2, n3, n4, n5⟩ := (H2.out.mem (List.mem_cons_of_mem _ (List.mem_cons_self))).cells6
  have nz := (H2.out.mem (List.mem_cons_of_mem _ (List.mem_cons_self))).lt
  obtain ⟨c0, c1, c2⟩ := R2.out.cells
  have rz := R2.out.lt
  clear hk2 H1 R1
  cases b
  · have HV1 := Lib.hid (show numberV s.data.toList ⟨nk, nf, ns, nw, nr, nt⟩ = (numV ⟨nk, nf, ns, nw, nr, nt⟩, nt) by rw [HV.out]; rfl)
    go_wp2_with fail
    (with_reducible refine (CN.out _).mono ?_)
    rintro e w5 ⟨rfl, hk5⟩
    have H5 := Lib.hid (H2.out.kept hk5)
    have R5 := Lib.hid (R2.out.kept hk5)
    clear hk5 u0 u1 u2 u3 u4 u5 uf uz n0 n1 n2 n3 n4 n5 nz c0 c1 c2 rz
    obtain ⟨u0, u1, u2, u3, u4, u5⟩ := (H5.out.mem (List.mem_cons_self)).cells6
    have uf := (H5.out.mem (List.mem_cons_self)).free
    have uz := (H5.out.mem (List.mem_cons_self)).lt
    have rne : w.heap.size + 1 ≠ rb := ((H5.out.2.1 _ (List.mem_cons_self)).2)
    go_wp2_with fail
    refine bodyPost_ret (v := .agg #[.int .i64 2, .int .i64 m, .int .i64 nf, .string ⟨#[]⟩, .slice none 0 0, .slice none 0 0]) ?_ rfl ⟨by rw [HV1.out, HM2.out]; rfl, ?_, ?_⟩
    · simp [results, Tryz.results97, go_sem, u0, u1, u2, u3, u4, u5]
    · rw [HV1.out]
      repeat (with_reducible first | exact R5.out | refine Rst.drew ?_ | refine Rst.alloc ?_ _ | refine Rst.other ?_ (Ne.symm rne) _)
    · repeat (with_reducible first | exact H5.out.g | refine gb_drew ?_ | refine gb_alloc ?_ _ | refine gb_fresh ?_ (by first | exact Nat.le_refl _ | exact Nat.le_succ _) _)
  · go_wp2_with fail
    have A0 := Lib.hid (show Rst s (nt : Int) dep w2.heap.size (w2.alloc (.cells #[.string s, .int .i64 nt, .int .i64 dep] 66)) from Blk.fresh w2 _ _)
    (with_reducible refine (CR.out w2.heap.size _ (((HR.out.max HM.out H2.out.g)).kept ((Kept.refl w2).alloc _ _)) A0.out).mono ?_)
    rintro e w3 ⟨rfl, ha3, hg3⟩
    have HA3 := Lib.hid ha3
    have K3 := Lib.hid (gb_new hg3)
    have H3 := Lib.hid (InR.fresh' (k := w3.heap.size) (H2.out.kept K3.out) nul6 26 rfl)
    clear ha3 hg3 A0
    cases rf
    · have HV1 := Lib.hid (show numberV s.data.toList ⟨nk, nf, ns, nw, nr, nt⟩ = (numV ⟨nk, nf, ns, nw, nr, nt⟩, nt) by rw [HV.out]; rfl)
      have R3 := Lib.hid ((R2.out.kept K3.out).alloc (.cells nul6 26))
      have HO := Lib.hid (show refO ⟨nk, nf, ns, nw, nr, nt⟩ s.data.toList (nt : Int) = nul by unfold refO; rw [← HRF.out]; rfl)
      rw [HO.out]
      unfold objV nul Hd.none
      simp only [Ob.k, Ob.n, Ob.f, Ob.s, Ob.l, Ob.d, List.length_nil]
      clear u0 u1 u2 u3 u4 u5 uf uz n0 n1 n2 n3 n4 n5 nz c0 c1 c2 rz
      obtain ⟨u0, u1, u2, u3, u4, u5⟩ := (H3.out.mem (List.mem_cons_of_mem _ List.mem_cons_self)).cells6
      have uf := (H3.out.mem (List.mem_cons_of_mem _ List.mem_cons_self)).free
      have uz := (H3.out.mem (List.mem_cons_of_mem _ List.mem_cons_self)).lt
      obtain ⟨n0, n1, n2, n3, n4, n5⟩ := ((H2.out.kept K3.out).mem (List.mem_cons_of_mem _ (List.mem_cons_self))).cells6
      have nz := ((H2.out.kept K3.out).mem (List.mem_cons_of_mem _ (List.mem_cons_self))).lt
      obtain ⟨c0, c1, c2⟩ := R3.out.cells
      have rz := R3.out.lt
      go_wp2_with fail
      (with_reducible refine (CN.out _).mono ?_)
      rintro e w5 ⟨rfl, hk5⟩
      have H5 := Lib.hid (H3.out.kept hk5)
      have R5 := Lib.hid (R3.out.kept hk5)
      clear hk5 u0 u1 u2 u3 u4 u5 uf uz n0 n1 n2 n3 n4 n5 nz c0 c1 c2 rz
      obtain ⟨u0, u1, u2, u3, u4, u5⟩ := (H5.out.mem (List.mem_cons_of_mem _ List.mem_cons_self)).cells6
      have uf := (H5.out.mem (List.mem_cons_of_mem _ List.mem_cons_self)).free
      have uz := (H5.out.mem (List.mem_cons_of_mem _ List.mem_cons_self)).lt
      have rne : w.heap.size + 1 ≠ rb := ((H5.out.2.1 _ (List.mem_cons_of_mem _ List.mem_cons_self)).2)
      go_wp2_with fail
      refine bodyPost_ret (v := .agg #[.int .i64 2, .int .i64 m, .int .i64 nf, .string ⟨#[]⟩, .slice none 0 0, .slice none 0 0]) ?_ rfl ⟨by rw [HV1.out, HM2.out]; rfl, ?_, ?_⟩
      · simp [results, Tryz.results97, go_sem, u0, u1, u2, u3, u4, u5]
      · rw [HV1.out]
        repeat (with_reducible first | exact R5.out | refine Rst.drew ?_ | refine Rst.alloc ?_ _ | refine Rst.other ?_ (Ne.symm rne) _)
      · repeat (with_reducible first | exact H5.out.g | refine gb_drew ?_ | refine gb_alloc ?_ _ | refine gb_fresh ?_ (by first | exact Nat.le_refl _ | exact Nat.le_succ _) _)
    · obtain ⟨X, hX⟩ : ∃ X : Nat, X = (Lx.nextV s.data.toList (Lx.nextV s.data.toList (nt : Int)).2.to).2.to := ⟨_, rfl⟩
      obtain ⟨gf, hgf⟩ : ∃ gf, gf = (Lx.nextV s.data.toList (nt : Int)).2.f := ⟨_, rfl⟩
      have HO := Lib.hid (show refO ⟨nk, nf, ns, nw, nr, nt⟩ s.data.toList (nt : Int) = .mk 7 (nf.tdiv 1000) gf ⟨#[]⟩ [] [] by unfold refO; rw [← HRF.out, hgf]; rfl)
      have HV1 := Lib.hid (show numberV s.data.toList ⟨nk, nf, ns, nw, nr, nt⟩ = (.mk 7 (nf.tdiv 1000) gf ⟨#[]⟩ [] [], X) by rw [HV.out, HO.out, hX]; rfl)
      have RA := Lib.hid (show Rst s (X : Int) dep w2.heap.size w3 by rw [hX]; exact HA3.out rfl)
      have R3 := Lib.hid (R2.out.kept K3.out)
      rw [HO.out]
      unfold objV Hd.none
      simp only [Ob.k, Ob.n, Ob.f, Ob.s, Ob.l, Ob.d, List.length_nil]
      clear u0 u1 u2 u3 u4 u5 uf uz n0 n1 n2 n3 n4 n5 nz c0 c1 c2 rz hX hgf HA3
      obtain ⟨v0, v1, v2, v3, v4, v5⟩ := ((H2.out.kept K3.out).mem List.mem_cons_self).cells6
      have uf := ((H2.out.kept K3.out).mem (List.mem_cons_self)).free
      have uz := ((H2.out.kept K3.out).mem (List.mem_cons_self)).lt
      obtain ⟨c0, c1, c2⟩ := R3.out.cells
      obtain ⟨a0, a1, a2⟩ := RA.out.cells
      have rz := R3.out.lt
      have az := RA.out.lt
      have rfz := Blk.free R3.out
      have rne : w.heap.size + 1 ≠ rb := ((H3.out.2.1 _ (List.mem_cons_of_mem _ List.mem_cons_self)).2)
      go_wp2_with fail
      refine bodyPost_ret (v := .agg #[.int .i64 7, .int .i64 (nf.tdiv 1000), .int .i64 gf, .string ⟨#[]⟩, .slice none 0 0, .slice none 0 0]) ?_ rfl ⟨by rw [HV1.out]; rfl, ?_, ?_⟩
      · simp [results, Tryz.results97, go_sem, v0, v1, v2, v3, v4, v5, uz]
      · rw [HV1.out]
        repeat (with_reducible first | exact R3.out | refine Rst.all (a := (nt : Int)) (dep := dep) (s := s) ?_ _ _ _ | refine Rst.drew ?_ | refine Rst.alloc ?_ _ | refine Rst.other ?_ (Ne.symm rne) _)
      · repeat (with_reducible first | exact (H2.out.kept K3.out).g | refine gb_own ?_ _ _ | refine gb_drew ?_ | refine gb_alloc ?_ _ | refine gb_fresh ?_ (by first | exact Nat.le_refl _ | exact Nat.le_succ _) _)

end Go.Proofs.YtnmehngedljgoaaGreatDoor
