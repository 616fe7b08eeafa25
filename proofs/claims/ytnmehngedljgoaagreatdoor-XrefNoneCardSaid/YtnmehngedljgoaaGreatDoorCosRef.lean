/-
  'InR w rb l wx': behind w lies wx: nothing but block rb has turned, and the blocks of the list l are known whole. What the rest's refOf and numberOf answer.
-/
import Derived.Test.YtnmehngedljgoaaGreatDoorCosToken
namespace Go.Proofs.YtnmehngedljgoaaGreatDoor
open Go.RowKit Cx

def InR (w : World) (rb : Nat) (l : BlkList) (wx : World) : Prop := w.grownBy wx (some rb) ∧ (∀ x ∈ l, Blk wx x.1 x.2.1 x.2.2 ∧ x.1 ≠ rb) ∧ rb < w.heap.size

section
variable {w wx w' : World} {rb k : Nat} {l : BlkList} {cs : Array Value} {t : TypeId}
theorem InR.start (w : World) {rb : Nat} (h : rb < w.heap.size) : InR w rb [] w := ⟨gb_refl _ _, fun _ h => absurd h List.not_mem_nil, h⟩
theorem InR.gb (h : InR w rb l wx) (g : wx.grownBy w' (some rb)) : InR w rb l w' := ⟨gb_trans h.1 g, fun x m => ⟨(h.2.1 x m).1.gb g (by simpa using (h.2.1 x m).2), (h.2.1 x m).2⟩, h.2.2⟩
theorem InR.kept (h : InR w rb l wx) (q : Kept wx w') : InR w rb l w' := h.gb (gb_kept q _)
theorem InR.drew (h : InR w rb l wx) : InR w rb l wx.drew := ⟨gb_drew h.1, h.2.1, h.2.2⟩
theorem InR.drewN (h : InR w rb l wx) (n : Nat) : InR w rb l (wx.drewN n) := ⟨gb_drewN h.1 n, h.2.1, h.2.2⟩
theorem InR.alloc (h : InR w rb l wx) (o : Obj) : InR w rb l (wx.alloc o) := h.gb (World.grownBy_alloc _ _ _)
theorem InR.mem (h : InR w rb l wx) (m : (k, cs, t) ∈ l) : Blk wx k cs t := (h.2.1 _ m).1
theorem InR.lt (h : InR w rb l wx) : rb < wx.heap.size := Nat.lt_of_lt_of_le h.2.2 h.1.size
theorem InR.fresh' (h : InR w rb l wx) (cs : Array Value) (t : TypeId) (e : k = wx.heap.size) : InR w rb ((k, cs, t) :: l) (wx.alloc (.cells cs t (0, 0))) :=
  ⟨(h.alloc _).1, fun x m => by
    rcases List.mem_cons.1 m with rfl | m
    · exact ⟨Blk.fresh' cs t e, by have := h.lt; simp only []; omega⟩
    · exact (h.alloc _).2.1 x m, h.2.2⟩
theorem InR.fresh (h : InR w rb l wx) (cs : Array Value) (t : TypeId) : InR w rb ((wx.heap.size, cs, t) :: l) (wx.alloc (.cells cs t (0, 0))) := h.fresh' cs t rfl
theorem InR.own (h : InR w rb l wx) (o : Nat) (v : Value) : InR w rb l (wx.setCell ⟨rb, o, none⟩ v) := h.gb (gb_setAt _ _ _ _)
theorem InR.g (h : InR w rb l wx) : w.grownBy wx (some rb) := h.1
end

/-- The Ref that begins with a number, if the rest of one is next: is it one? -/
def refB (l : List UInt8) (a : Int) : Bool := wholeT (Lx.nextV l a).2 && isW (Lx.nextV l (Lx.nextV l a).2.to).2 [82]
def refO (n : Lx.Tok) (l : List UInt8) (a : Int) : Ob := if refB l a then .mk 7 (n.f.tdiv 1000) (Lx.nextV l a).2.f ⟨#[]⟩ [] [] else nul
theorem whole_ok {l : List UInt8} {a : Int} (h : wholeT (Lx.nextV l a).2 = true) : (Lx.nextV l a).1 = 0 := by
  by_cases e : (Lx.nextV l a).1 = 0
  · exact e
  · rw [Lx.next_zero_of l a e] at h; exact absurd h (by decide)
theorem isW_ok {l : List UInt8} {a : Int} {s : List UInt8} (h : isW (Lx.nextV l a).2 s = true) : (Lx.nextV l a).1 = 0 := by
  by_cases e : (Lx.nextV l a).1 = 0
  · exact e
  · rw [Lx.next_zero_of l a e] at h; exact absurd h (by simp [isW, Lx.zero])

set_option maxRecDepth 100000 in
set_option maxHeartbeats 4000000 in
theorem refOf_any (n : Lx.Tok) (s : ByteArray) (a dep : Int) (rb : Nat) (w : World) (hs : s.size ≤ 4294967295) (hm : HasMax w) (hr : Rst s a dep rb w) (h0 : -9223372036854775808 ≤ n.f) (h1 : n.f ≤ 9223372036854775807) :
    Calls Tryz.prog 121 #[.pointer (some ⟨rb, 0, none⟩), tkV n] w fun e w' =>
      e = .returned (.tuple #[objV (refO n s.data.toList a) Hd.none, .bool (refB s.data.toList a)]) ∧ (refB s.data.toList a = true → Rst s (Lx.nextV s.data.toList (Lx.nextV s.data.toList a).2.to).2.to dep rb w') ∧ w.grownBy w' (some rb) := by
  have HM := Lib.hid hm
  have HR := Lib.hid hr
  have CP := Lib.hid (fun g w => pair_any n g w h0 h1)
  have H0 := Lib.hid (InR.start w hr.lt)
  obtain ⟨G, hG⟩ : ∃ G, G = Lx.nextV s.data.toList a := ⟨_, rfl⟩
  have HG := Lib.hid hG
  have HB := Lib.hid (show refB s.data.toList a = (wholeT G.2 && isW (Lx.nextV s.data.toList G.2.to).2 [82]) by rw [hG]; rfl)
  have HO := Lib.hid (show refO n s.data.toList a = if refB s.data.toList a then .mk 7 (n.f.tdiv 1000) G.2.f ⟨#[]⟩ [] [] else nul by rw [hG]; rfl)
  have HOK := Lib.hid (fun h : wholeT G.2 = true => show G.1 = 0 by rw [hG] at h ⊢; exact whole_ok h)
  rw [← HG.out]
  clear hm hr hG h0 h1
  obtain ⟨nk, nf, ns, nw, nr, nt⟩ := n
  unfold tkV
  unfold tkV at CP
  simp only [] at CP HO ⊢
  have H1 := Lib.hid (InR.fresh' (k := w.heap.size + 1) (InR.fresh H0.out #[.int .i64 nk, .int .i64 nf, .string ⟨ns.toArray⟩, .bool nw, .int .i64 nr, .int .i64 nt] 108) nul6 26 (by simp))
  have R1 := Lib.hid ((HR.out.alloc (.cells #[.int .i64 nk, .int .i64 nf, .string ⟨ns.toArray⟩, .bool nw, .int .i64 nr, .int .i64 nt] 108)).alloc (.cells nul6 26))
  clear H0
  go_enter Tryz.func121, Tryz.ntmps121
  go_wp2_with fail
  (with_reducible refine (token_any s a dep rb _ hs (HR.out.max HM.out H1.out.g) R1.out G HG.out).mono ?_)
  rintro e w2 ⟨rfl, hr2, hg2⟩
  have H2 := Lib.hid (InR.fresh (H1.out.gb hg2) #[.int .i64 G.2.kind, .int .i64 G.2.f, .string ⟨G.2.s.toArray⟩, .bool G.2.whole, .int .i64 G.2.frm, .int .i64 G.2.to] 108)
  have R2 := Lib.hid (hr2.alloc (.cells #[.int .i64 G.2.kind, .int .i64 G.2.f, .string ⟨G.2.s.toArray⟩, .bool G.2.whole, .int .i64 G.2.frm, .int .i64 G.2.to] 108))
  clear hr2 hg2 H1 R1
  unfold tkV
  go_wp2_with fail
  have CC := isCount_any G.2
  unfold tkV at CC
  (with_reducible refine (CC _).mono ?_)
  rintro e w3 ⟨rfl, hk3⟩
  have H3 := Lib.hid (H2.out.kept hk3)
  have R3 := Lib.hid (R2.out.kept hk3)
  obtain ⟨u0, u1, u2, u3, u4, u5⟩ := (H3.out.mem (List.mem_cons_of_mem _ (List.mem_cons_self))).cells6
  have uf := (H3.out.mem (List.mem_cons_of_mem _ (List.mem_cons_self))).free
  have uz := (H3.out.mem (List.mem_cons_of_mem _ (List.mem_cons_self))).lt
  clear hk3 H2 R2 CC
  cases hW : wholeT G.2
  · have HB1 := Lib.hid (show refB s.data.toList a = false by rw [HB.out, hW]; rfl)
    have HO1 := Lib.hid (show refO ⟨nk, nf, ns, nw, nr, nt⟩ s.data.toList a = nul by rw [HO.out, HB1.out]; rfl)
    go_wp2_with fail
    refine bodyPost_ret (v := .tuple #[.agg nul6, .bool false]) ?_ rfl ⟨by rw [HB1.out, HO1.out]; rfl, fun h => (by rw [HB1.out] at h; cases h), ?_⟩
    · simp [results, Tryz.results121, go_sem, u0, u1, u2, u3, u4, u5]
    · repeat (with_reducible first | exact H3.out.g | refine gb_drew ?_ | refine gb_alloc ?_ _ | refine gb_fresh ?_ (by first | exact Nat.le_refl _ | exact Nat.le_succ _) _)
  · have R4 := Lib.hid (show Rst s (G.2.to : Int) dep rb w3 by
      have := R3.out
      rwa [if_pos (HOK.out hW)] at this)
    obtain ⟨U, hU⟩ : ∃ U, U = Lx.nextV s.data.toList (G.2.to : Int) := ⟨_, rfl⟩
    have HU := Lib.hid hU
    have HBB := Lib.hid (show refB s.data.toList a = isW U.2 [82] by rw [HB.out, hW, hU]; rfl)
    have HUK := Lib.hid (fun h : isW U.2 [82] = true => show U.1 = 0 by rw [hU] at h ⊢; exact isW_ok h)
    clear hU
    go_wp2_with fail
    (with_reducible refine (token_any s (G.2.to : Int) dep rb _ hs (HR.out.max HM.out H3.out.g) R4.out U HU.out).mono ?_)
    rintro e w4 ⟨rfl, hr4, hg4⟩
    have H4 := Lib.hid (InR.fresh (H3.out.gb hg4) #[.int .i64 U.2.kind, .int .i64 U.2.f, .string ⟨U.2.s.toArray⟩, .bool U.2.whole, .int .i64 U.2.frm, .int .i64 U.2.to] 108)
    have R5 := Lib.hid (hr4.alloc (.cells #[.int .i64 U.2.kind, .int .i64 U.2.f, .string ⟨U.2.s.toArray⟩, .bool U.2.whole, .int .i64 U.2.frm, .int .i64 U.2.to] 108))
    clear hr4 hg4 H3 R3 R4 u0 u1 u2 u3 u4 u5 uf uz
    unfold tkV
    go_wp2_with fail
    have CW := isWord_any U.2 [82]
    unfold tkV at CW
    (with_reducible refine (CW _).mono ?_)
    rintro e w5 ⟨rfl, hk5⟩
    have H5 := Lib.hid (H4.out.kept hk5)
    have R6 := Lib.hid (R5.out.kept hk5)
    obtain ⟨u0, u1, u2, u3, u4, u5⟩ := (H5.out.mem (List.mem_cons_of_mem _ (List.mem_cons_of_mem _ (List.mem_cons_self)))).cells6
    have uf := (H5.out.mem (List.mem_cons_of_mem _ (List.mem_cons_of_mem _ (List.mem_cons_self)))).free
    have uz := (H5.out.mem (List.mem_cons_of_mem _ (List.mem_cons_of_mem _ (List.mem_cons_self)))).lt
    clear hk5 H4 R5 CW
    cases hX : isW U.2 [82]
    · have HB1 := Lib.hid (show refB s.data.toList a = false by rw [HBB.out, hX])
      have HO1 := Lib.hid (show refO ⟨nk, nf, ns, nw, nr, nt⟩ s.data.toList a = nul by rw [HO.out, HB1.out]; rfl)
      go_wp2_with fail
      refine bodyPost_ret (v := .tuple #[.agg nul6, .bool false]) ?_ rfl ⟨by rw [HB1.out, HO1.out]; rfl, fun h => (by rw [HB1.out] at h; cases h), ?_⟩
      · simp [results, Tryz.results121, go_sem, u0, u1, u2, u3, u4, u5]
      · repeat (with_reducible first | exact H5.out.g | refine gb_drew ?_ | refine gb_alloc ?_ _ | refine gb_fresh ?_ (by first | exact Nat.le_refl _ | exact Nat.le_succ _) _)
    · have HB1 := Lib.hid (show refB s.data.toList a = true by rw [HBB.out, hX])
      have HO1 := Lib.hid (show refO ⟨nk, nf, ns, nw, nr, nt⟩ s.data.toList a = .mk 7 (nf.tdiv 1000) G.2.f ⟨#[]⟩ [] [] by rw [HO.out, HB1.out]; rfl)
      have R7 := Lib.hid (show Rst s (U.2.to : Int) dep rb w5 by
        have := R6.out
        rwa [if_pos (HUK.out hX)] at this)
      obtain ⟨g0, g1, g2, g3, g4, g5⟩ := (H5.out.mem (List.mem_cons_of_mem _ (List.mem_cons_self))).cells6
      have gz := (H5.out.mem (List.mem_cons_of_mem _ (List.mem_cons_self))).lt
      obtain ⟨n0, n1, n2, n3, n4, n5⟩ := (H5.out.mem (List.mem_cons_of_mem _ (List.mem_cons_of_mem _ (List.mem_cons_of_mem _ (List.mem_cons_self))))).cells6
      have nz := (H5.out.mem (List.mem_cons_of_mem _ (List.mem_cons_of_mem _ (List.mem_cons_of_mem _ (List.mem_cons_self))))).lt
      have CPG := CP.out G.2
      unfold objV Hd.none at CPG
      simp only [Ob.k, Ob.n, Ob.f, Ob.s, Ob.l, Ob.d, List.length_nil] at CPG
      have CG := Lib.hid CPG
      clear CPG R6
      go_wp2_with fail
      (with_reducible refine (CG.out _).mono ?_)
      rintro e w6 ⟨rfl, hk6⟩
      have H6 := Lib.hid (H5.out.kept hk6)
      have R8 := Lib.hid (R7.out.kept hk6)
      clear hk6 u0 u1 u2 u3 u4 u5 uf uz n0 n1 n2 n3 n4 n5 g0 g1 g2 g3 g4 g5 nz gz
      obtain ⟨u0, u1, u2, u3, u4, u5⟩ := (H6.out.mem (List.mem_cons_of_mem _ (List.mem_cons_of_mem _ (List.mem_cons_self)))).cells6
      have uf := (H6.out.mem (List.mem_cons_of_mem _ (List.mem_cons_of_mem _ (List.mem_cons_self)))).free
      have uz := (H6.out.mem (List.mem_cons_of_mem _ (List.mem_cons_of_mem _ (List.mem_cons_self)))).lt
      have rne : w.heap.size + 1 ≠ rb := ((H6.out.2.1 _ (List.mem_cons_of_mem _ (List.mem_cons_of_mem _ (List.mem_cons_self)))).2)
      go_wp2_with fail
      refine bodyPost_ret (v := .tuple #[.agg #[.int .i64 7, .int .i64 (nf.tdiv 1000), .int .i64 G.2.f, .string ⟨#[]⟩, .slice none 0 0, .slice none 0 0], .bool true]) ?_ rfl ⟨by rw [HB1.out, HO1.out]; rfl, fun _ => ?_, ?_⟩
      · simp [results, Tryz.results121, go_sem, u0, u1, u2, u3, u4, u5]
      · rw [← HU.out]
        repeat (with_reducible first | exact R8.out | refine Rst.drew ?_ | refine Rst.alloc ?_ _ | refine Rst.other ?_ (Ne.symm rne) _)
      · repeat (with_reducible first | exact H6.out.g | refine gb_drew ?_ | refine gb_alloc ?_ _ | refine gb_fresh ?_ (by first | exact Nat.le_refl _ | exact Nat.le_succ _) _)

end Go.Proofs.YtnmehngedljgoaaGreatDoor
