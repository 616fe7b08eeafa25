/-
  Whether two lists of items draw the same: package display's Same.
-/
import Derived.Test.YtbgdeaeikijdgaaGreatDoorDisE
import Derived.Test.YtbgdeaeikijdgaaGreatDoorDisM
import Derived.Deep.LoopGhost
import Derived.BigQuiet
import Derived.Deep.QuietTactic
namespace Go.Proofs.YtbgdeaeikijdgaaGreatDoor
open Go.RowKit Cx Px
set_option linter.unusedSimpArgs false
set_option linter.unusedVariables false

set_option maxRecDepth 100000 in
set_option maxHeartbeats 16000000 in
theorem EqualFuncIt_any (P Q : Nat → Prop) (l1 l2 : List (It × Pd)) (p1 p2 : Option Addr) (c1 c2 : Nat) (w : World) (h1 : ItR P w p1 l1) (h2 : ItR Q w p2 l2) (b1 : l1.length ≤ 4398046511104 ∧ ∀ r ∈ l1, r.1.path.length ≤ 4398046511104) (b2 : l2.length ≤ 4398046511104 ∧ ∀ r ∈ l2, r.1.path.length ≤ 4398046511104) :
    Calls Tryz.prog 16 #[.slice p1 l1.length c1, .slice p2 l2.length c2, .func (.func 17) #[] #[]] w fun e w' => e = .returned (.bool (sameIts (l1.map (·.1)) (l2.map (·.1)))) ∧ Kept w w' := by
  have H1 := Lib.hid h1
  have H2 := Lib.hid h2
  have HB1 := Lib.hid b1.2
  have HB2 := Lib.hid b2.2
  have b1 := b1.1
  have b2 := b2.1
  obtain ⟨X, hX⟩ : ∃ X, X = sameIts (l1.map (·.1)) (l2.map (·.1)) := ⟨_, rfl⟩
  have HXX := Lib.hid hX
  rw [← hX]
  obtain ⟨L, hL⟩ : ∃ L, L = l1.length := ⟨_, rfl⟩
  obtain ⟨M, hM⟩ : ∃ M, M = l2.length := ⟨_, rfl⟩
  have HL := Lib.hid hL
  have HM := Lib.hid hM
  rw [← hL] at b1 ⊢
  rw [← hM] at b2 ⊢
  clear h1 h2 hX hL hM
  by_cases hlen : L = M
  · subst hlen
    have hq : ((L : Int) != (L : Int)) = false := bne_self_eq_false _
    go_enter Tryz.func16, Tryz.ntmps16
    go_wp2_with fail
    go_loopg [17] L (fun m i wr => ∃ (j : Nat), m = L - j ∧ j ≤ L ∧ i = .int .i64 j ∧ Kept w wr ∧ Hid (X = sameIts ((l1.map (·.1)).drop j) ((l2.map (·.1)).drop j)))
    case atStart => exact ⟨0, by omega, Nat.zero_le _, rfl, Kept.refl w, Lib.hid (by rw [List.drop_zero, List.drop_zero]; exact HXX.out)⟩
    case round =>
      obtain ⟨j, hm, hj, rfl, hk, HS⟩ := hrel
      have HK := Lib.hid hk
      clear hk
      by_cases hlt : j < L
      · have hlt1 : j < l1.length := by have := HL.out; omega
        have hlt2 : j < l2.length := by have := HM.out; omega
        have j1 : (j : Int) < (L : Int) := by omega
        obtain ⟨k1, o1, hp, -, hbl, ra⟩ := (H1.out.kept HK.out).at' j hlt1
        obtain ⟨k2, o2, hp2, -, hbl2, rb⟩ := (H2.out.kept HK.out).at' j hlt2
        subst hp
        subst hp2
        have HST := Lib.hid (sameIts_step (l1.map (·.1)) (l2.map (·.1)) j (by simpa using hlt1) (by simpa using hlt2))
        rw [List.getElem_map, List.getElem_map] at HST
        have PA := Lib.hid ((H1.out.kept HK.out).paths _ (List.getElem_mem hlt1))
        have PB := Lib.hid ((H2.out.kept HK.out).paths _ (List.getElem_mem hlt2))
        have LA := Lib.hid (HB1.out _ (List.getElem_mem hlt1))
        have LB := Lib.hid (HB2.out _ (List.getElem_mem hlt2))
        obtain ⟨⟨A, da⟩, hA⟩ : ∃ A, A = l1[j] := ⟨_, rfl⟩
        obtain ⟨⟨B, db⟩, hB⟩ : ∃ B, B = l2[j] := ⟨_, rfl⟩
        rw [← hA] at ra HST PA LA
        rw [← hB] at rb HST PB LB
        simp only [] at HST PA LA PB LB
        have RA := Lib.hid (show wr.rangeAt k1 (o1 + j * 18) [.int .i64 A.kind, .int .i64 A.m.a, .int .i64 A.m.b, .int .i64 A.m.c, .int .i64 A.m.d, .int .i64 A.m.e, .int .i64 A.m.f, .slice da.p A.path.length da.c, .int .i64 A.c.r, .int .i64 A.c.g, .int .i64 A.c.b, .int .i64 A.d.r, .int .i64 A.d.g, .int .i64 A.d.b, .int .i64 A.w, .string A.font, .int .i64 A.size, .string A.s] from ra)
        have RB := Lib.hid (show (wr.alloc (.cells [.int .i64 A.kind, .int .i64 A.m.a, .int .i64 A.m.b, .int .i64 A.m.c, .int .i64 A.m.d, .int .i64 A.m.e, .int .i64 A.m.f, .slice da.p A.path.length da.c, .int .i64 A.c.r, .int .i64 A.c.g, .int .i64 A.c.b, .int .i64 A.d.r, .int .i64 A.d.g, .int .i64 A.d.b, .int .i64 A.w, .string A.font, .int .i64 A.size, .string A.s].toArray 32 (0, 0))).rangeAt k2 (o2 + j * 18) [.int .i64 B.kind, .int .i64 B.m.a, .int .i64 B.m.b, .int .i64 B.m.c, .int .i64 B.m.d, .int .i64 B.m.e, .int .i64 B.m.f, .slice db.p B.path.length db.c, .int .i64 B.c.r, .int .i64 B.c.g, .int .i64 B.c.b, .int .i64 B.d.r, .int .i64 B.d.g, .int .i64 B.d.b, .int .i64 B.w, .string B.font, .int .i64 B.size, .string B.s] from fun q u hq => by rw [((Kept.refl wr).alloc _ _).cells.1 _ _ hbl2]; exact rb q u hq)
        have RC := Lib.hid (show ((wr.alloc (.cells [.int .i64 A.kind, .int .i64 A.m.a, .int .i64 A.m.b, .int .i64 A.m.c, .int .i64 A.m.d, .int .i64 A.m.e, .int .i64 A.m.f, .slice da.p A.path.length da.c, .int .i64 A.c.r, .int .i64 A.c.g, .int .i64 A.c.b, .int .i64 A.d.r, .int .i64 A.d.g, .int .i64 A.d.b, .int .i64 A.w, .string A.font, .int .i64 A.size, .string A.s].toArray 32 (0, 0))).alloc (.cells [.int .i64 B.kind, .int .i64 B.m.a, .int .i64 B.m.b, .int .i64 B.m.c, .int .i64 B.m.d, .int .i64 B.m.e, .int .i64 B.m.f, .slice db.p B.path.length db.c, .int .i64 B.c.r, .int .i64 B.c.g, .int .i64 B.c.b, .int .i64 B.d.r, .int .i64 B.d.g, .int .i64 B.d.b, .int .i64 B.w, .string B.font, .int .i64 B.size, .string B.s].toArray 32 (0, 0))).rangeAt wr.heap.size 0 [.int .i64 A.kind, .int .i64 A.m.a, .int .i64 A.m.b, .int .i64 A.m.c, .int .i64 A.m.d, .int .i64 A.m.e, .int .i64 A.m.f, .slice da.p A.path.length da.c, .int .i64 A.c.r, .int .i64 A.c.g, .int .i64 A.c.b, .int .i64 A.d.r, .int .i64 A.d.g, .int .i64 A.d.b, .int .i64 A.w, .string A.font, .int .i64 A.size, .string A.s] from fun q u hq => by rw [Nat.zero_add, ((Blk.fresh wr _ _).alloc _).cell q]; simpa using hq)
        have RD := Lib.hid (show ((wr.alloc (.cells [.int .i64 A.kind, .int .i64 A.m.a, .int .i64 A.m.b, .int .i64 A.m.c, .int .i64 A.m.d, .int .i64 A.m.e, .int .i64 A.m.f, .slice da.p A.path.length da.c, .int .i64 A.c.r, .int .i64 A.c.g, .int .i64 A.c.b, .int .i64 A.d.r, .int .i64 A.d.g, .int .i64 A.d.b, .int .i64 A.w, .string A.font, .int .i64 A.size, .string A.s].toArray 32 (0, 0))).alloc (.cells [.int .i64 B.kind, .int .i64 B.m.a, .int .i64 B.m.b, .int .i64 B.m.c, .int .i64 B.m.d, .int .i64 B.m.e, .int .i64 B.m.f, .slice db.p B.path.length db.c, .int .i64 B.c.r, .int .i64 B.c.g, .int .i64 B.c.b, .int .i64 B.d.r, .int .i64 B.d.g, .int .i64 B.d.b, .int .i64 B.w, .string B.font, .int .i64 B.size, .string B.s].toArray 32 (0, 0))).rangeAt (wr.heap.size + 1) 0 [.int .i64 B.kind, .int .i64 B.m.a, .int .i64 B.m.b, .int .i64 B.m.c, .int .i64 B.m.d, .int .i64 B.m.e, .int .i64 B.m.f, .slice db.p B.path.length db.c, .int .i64 B.c.r, .int .i64 B.c.g, .int .i64 B.c.b, .int .i64 B.d.r, .int .i64 B.d.g, .int .i64 B.d.b, .int .i64 B.w, .string B.font, .int .i64 B.size, .string B.s] from fun q u hq => by rw [Nat.zero_add, (Blk.fresh' (b := wr.heap.size + 1) _ _ (by simp)).cell q]; simpa using hq)
        clear ra rb
        have SI := Lib.hid (fun wx (k : Kept wr wx) => sameItem_any P Q A B da db wx (PA.out.kept k) (PB.out.kept k) LA.out LB.out)
        clear hA hB
        cases hb : sameIt A B
        · have HA := Lib.hid (show X = false by rw [HS.out, HST.out, hb, Bool.false_and])
          rw [hb] at SI
          go_wp2_with (first | (refine wpList_load_mid (by rfl) 32 _ (by rfl) k1 (o1 + j * 18) (by rfl) _ _ RA.out Tryz.underlying32 (by rfl) it_size ?_) | (refine wpList_store_new wr (by rfl) 32 _ _ (by rfl) wr.heap.size [.int .i64 A.kind, .int .i64 A.m.a, .int .i64 A.m.b, .int .i64 A.m.c, .int .i64 A.m.d, .int .i64 A.m.e, .int .i64 A.m.f, .slice da.p A.path.length da.c, .int .i64 A.c.r, .int .i64 A.c.g, .int .i64 A.c.b, .int .i64 A.d.r, .int .i64 A.d.g, .int .i64 A.d.b, .int .i64 A.w, .string A.font, .int .i64 A.size, .string A.s] _ _ (by rfl) (by rfl) rfl it_size (by rfl) (one18 (A, da)) ?_) | (refine wpList_load_mid (by rfl) 32 _ (by rfl) k2 (o2 + j * 18) (by rfl) _ _ RB.out Tryz.underlying32 (by rfl) it_size ?_) | (refine wpList_store_new (wr.alloc (.cells [.int .i64 A.kind, .int .i64 A.m.a, .int .i64 A.m.b, .int .i64 A.m.c, .int .i64 A.m.d, .int .i64 A.m.e, .int .i64 A.m.f, .slice da.p A.path.length da.c, .int .i64 A.c.r, .int .i64 A.c.g, .int .i64 A.c.b, .int .i64 A.d.r, .int .i64 A.d.g, .int .i64 A.d.b, .int .i64 A.w, .string A.font, .int .i64 A.size, .string A.s].toArray 32 (0, 0))) (by rfl) 32 _ _ (by rfl) (wr.heap.size + 1) [.int .i64 B.kind, .int .i64 B.m.a, .int .i64 B.m.b, .int .i64 B.m.c, .int .i64 B.m.d, .int .i64 B.m.e, .int .i64 B.m.f, .slice db.p B.path.length db.c, .int .i64 B.c.r, .int .i64 B.c.g, .int .i64 B.c.b, .int .i64 B.d.r, .int .i64 B.d.g, .int .i64 B.d.b, .int .i64 B.w, .string B.font, .int .i64 B.size, .string B.s] _ _ (by rfl) (by rfl) (by simp) it_size (by rfl) (one18 (B, db)) ?_) | (refine wpList_load_mid (by rfl) 32 _ (by rfl) wr.heap.size 0 (by rfl) _ _ RC.out Tryz.underlying32 (by rfl) it_size ?_) | (refine wpList_load_mid (by rfl) 32 _ (by rfl) (wr.heap.size + 1) 0 (by rfl) _ _ RD.out Tryz.underlying32 (by rfl) it_size ?_))
          (with_reducible refine (SI.out _ (((Kept.refl _).alloc _ _).alloc _ _)).mono ?_)
          rintro e w4 ⟨rfl, hk4⟩
          have HK4 := Lib.hid (((HK.out.alloc _ _).alloc _ _).trans hk4)
          clear hk4
          go_wp2_with fail
          go_ret
          exact ⟨ret_bool HA.out.symm, HK4.out⟩
        · have HS1 := Lib.hid (show X = sameIts ((l1.map (·.1)).drop (j + 1)) ((l2.map (·.1)).drop (j + 1)) by rw [HS.out, HST.out, hb, Bool.true_and])
          rw [hb] at SI
          go_wp2_with (first | (refine wpList_load_mid (by rfl) 32 _ (by rfl) k1 (o1 + j * 18) (by rfl) _ _ RA.out Tryz.underlying32 (by rfl) it_size ?_) | (refine wpList_store_new wr (by rfl) 32 _ _ (by rfl) wr.heap.size [.int .i64 A.kind, .int .i64 A.m.a, .int .i64 A.m.b, .int .i64 A.m.c, .int .i64 A.m.d, .int .i64 A.m.e, .int .i64 A.m.f, .slice da.p A.path.length da.c, .int .i64 A.c.r, .int .i64 A.c.g, .int .i64 A.c.b, .int .i64 A.d.r, .int .i64 A.d.g, .int .i64 A.d.b, .int .i64 A.w, .string A.font, .int .i64 A.size, .string A.s] _ _ (by rfl) (by rfl) rfl it_size (by rfl) (one18 (A, da)) ?_) | (refine wpList_load_mid (by rfl) 32 _ (by rfl) k2 (o2 + j * 18) (by rfl) _ _ RB.out Tryz.underlying32 (by rfl) it_size ?_) | (refine wpList_store_new (wr.alloc (.cells [.int .i64 A.kind, .int .i64 A.m.a, .int .i64 A.m.b, .int .i64 A.m.c, .int .i64 A.m.d, .int .i64 A.m.e, .int .i64 A.m.f, .slice da.p A.path.length da.c, .int .i64 A.c.r, .int .i64 A.c.g, .int .i64 A.c.b, .int .i64 A.d.r, .int .i64 A.d.g, .int .i64 A.d.b, .int .i64 A.w, .string A.font, .int .i64 A.size, .string A.s].toArray 32 (0, 0))) (by rfl) 32 _ _ (by rfl) (wr.heap.size + 1) [.int .i64 B.kind, .int .i64 B.m.a, .int .i64 B.m.b, .int .i64 B.m.c, .int .i64 B.m.d, .int .i64 B.m.e, .int .i64 B.m.f, .slice db.p B.path.length db.c, .int .i64 B.c.r, .int .i64 B.c.g, .int .i64 B.c.b, .int .i64 B.d.r, .int .i64 B.d.g, .int .i64 B.d.b, .int .i64 B.w, .string B.font, .int .i64 B.size, .string B.s] _ _ (by rfl) (by rfl) (by simp) it_size (by rfl) (one18 (B, db)) ?_) | (refine wpList_load_mid (by rfl) 32 _ (by rfl) wr.heap.size 0 (by rfl) _ _ RC.out Tryz.underlying32 (by rfl) it_size ?_) | (refine wpList_load_mid (by rfl) 32 _ (by rfl) (wr.heap.size + 1) 0 (by rfl) _ _ RD.out Tryz.underlying32 (by rfl) it_size ?_))
          (with_reducible refine (SI.out _ (((Kept.refl _).alloc _ _).alloc _ _)).mono ?_)
          rintro e w4 ⟨rfl, hk4⟩
          have HK4 := Lib.hid (((HK.out.alloc _ _).alloc _ _).trans hk4)
          clear hk4
          go_wp2_with fail
          go_roundg (L - (j + 1))
          case measure => omega
          case rel => exact ⟨j + 1, rfl, by omega, by go_num, HK4.out, HS1⟩
      · obtain rfl : j = L := by omega
        have HA := Lib.hid (show X = true by rw [HS.out, List.drop_eq_nil_of_le (by rw [List.length_map, ← HL.out]; exact Nat.le_refl _), List.drop_eq_nil_of_le (by rw [List.length_map, ← HM.out]; exact Nat.le_refl _), sameIts])
        go_wp2_with fail
        go_ret
        exact ⟨ret_bool HA.out.symm, HK.out⟩
  · have hq : ((L : Int) != (M : Int)) = true := by
      rw [bne_iff_ne]; omega
    have HA := Lib.hid (show X = false by rw [HXX.out]; exact sameIts_len _ _ (by rw [List.length_map, List.length_map, ← HL.out, ← HM.out]; exact hlen))
    clear hlen
    go_enter Tryz.func16, Tryz.ntmps16
    go_wp2_with fail
    go_ret
    exact ⟨ret_bool HA.out.symm, Kept.refl w⟩

theorem SameD_any (P Q : Nat → Prop) (l1 l2 : List (It × Pd)) (p1 p2 : Option Addr) (c1 c2 : Nat) (w : World) (h1 : ItR P w p1 l1) (h2 : ItR Q w p2 l2) (b1 : l1.length ≤ 4398046511104 ∧ ∀ r ∈ l1, r.1.path.length ≤ 4398046511104) (b2 : l2.length ≤ 4398046511104 ∧ ∀ r ∈ l2, r.1.path.length ≤ 4398046511104) :
    Calls Tryz.prog 9 #[.slice p1 l1.length c1, .slice p2 l2.length c2] w fun e w' => e = .returned (.bool (sameIts (l1.map (·.1)) (l2.map (·.1)))) ∧ Kept w w' := by
  have EF := Lib.hid (EqualFuncIt_any P Q l1 l2 p1 p2 c1 c2 w h1 h2 b1 b2)
  clear h1 h2 b1 b2
  go_enter Tryz.func9, Tryz.ntmps9
  go_wp2_with fail
  (with_reducible refine EF.out.mono ?_)
  rintro e w2 ⟨rfl, hk⟩
  have HK := Lib.hid hk
  clear hk
  go_wp2_with fail
  go_ret
  exact ⟨rfl, HK.out⟩

end Go.Proofs.YtbgdeaeikijdgaaGreatDoor
