/-
  What the rest's arrOf and dictOf answer, if objects and entries within are answered as they should, and settled answers as it should.
-/
import Derived.Test.YtnmehngedljgoaaGreatDoorCosEntry
namespace Go.Proofs.YtnmehngedljgoaaGreatDoor
open Go.RowKit Cx

/-- What arrOf answers, behind the bracket. -/
def arrV (F : Nat) (l : List UInt8) (dep k : Nat) : Int × Ob × Nat :=
  if dep = 64 then (5, nul, 0) else if (upO F l (dep + 1) [] k).1 = 0 then (0, .mk 5 0 0 ⟨#[]⟩ (upO F l (dep + 1) [] k).2.1 [], (upO F l (dep + 1) [] k).2.2) else ((upO F l (dep + 1) [] k).1, nul, 0)
def dictV (F : Nat) (l : List UInt8) (dep k : Nat) : Int × Ob × Nat :=
  if dep = 64 then (5, nul, 0) else if (upE F l (dep + 1) [] k).1 = 0 then (0, .mk 6 0 0 ⟨#[]⟩ [] (Cx.settle (upE F l (dep + 1) [] k).2.1), (upE F l (dep + 1) [] k).2.2) else ((upE F l (dep + 1) [] k).1, nul, 0)

set_option maxRecDepth 100000 in
set_option maxHeartbeats 4000000 in
theorem arrOf_any (F : Nat) (IH : ∀ F', F' < F → ObjC F') (s : ByteArray) (k dep rb : Nat) (w : World) (hs : s.size ≤ 4294967295) (hm : HasMax w) (hr : Rst s (k : Int) (dep : Int) rb w) (hF : 3 * (s.size - k) + 1 ≤ F) (hk : k ≤ s.size) (hdep : dep ≤ 64)
    (X : Int × Ob × Nat) (hX : X = arrV F s.data.toList dep k) :
    Calls Tryz.prog 100 #[.pointer (some ⟨rb, 0, none⟩)] w (ObjPost s dep rb w X) := by
  have hmf : ∀ (fn : Fn) (first cap : Array Value) (w : World), (Instr.makeFunc fn first cap).run Tryz.prog w = .ok (.func fn first cap) w := fun _ _ _ _ => rfl
  have HIH := Lib.hid IH
  have HM := Lib.hid hm
  have HX := Lib.hid hX
  have H0 := Lib.hid (InR.start w hr.lt)
  have H1 := Lib.hid (InR.fresh H0.out nul6 26)
  have R1 := Lib.hid (hr.alloc (.cells nul6 26))
  have HR := Lib.hid hr
  have HMF := Lib.hid hmf
  clear IH hm hX H0 hr
  by_cases h64 : dep = 64
  · subst h64
    have HX1 := Lib.hid (show X = (5, nul, 0) by rw [HX.out, arrV, if_pos rfl])
    have RM := Lib.hid (H1.out.mem List.mem_cons_self)
    obtain ⟨u0, u1, u2, u3, u4, u5⟩ := RM.out.cells6
    have uf := RM.out.free
    go_enter Tryz.func100, Tryz.ntmps100
    go_wp2_with fail
    (with_reducible refine (upO_deep s (k : Int) rb _ _ R1.out).mono ?_)
    rintro e w2 ⟨rfl, rfl⟩
    go_wp2_with fail
    refine bodyPost_ret (v := .tuple #[.agg nul6, .int .i64 5]) ?_ rfl (objPost_bad HX1.out (by decide) ?_)
    · simp [results, Tryz.results100, go_sem]
    · repeat (with_reducible first | exact gb_refl _ _ | refine gb_drew ?_ | refine gb_alloc ?_ _ | refine gb_fresh ?_ (Nat.le_refl _) _)
  · obtain ⟨Y, hY⟩ : ∃ Y, Y = upO F s.data.toList (dep + 1) [] k := ⟨_, rfl⟩
    have HY := Lib.hid hY
    have HX1 := Lib.hid (show X = if Y.1 = 0 then (0, .mk 5 0 0 ⟨#[]⟩ Y.2.1 [], Y.2.2) else (Y.1, nul, 0) by rw [HX.out, arrV, if_neg h64, hY])
    have CU := Lib.hid (upO_any F HIH.out s k dep rb _ hs (HR.out.max HM.out H1.out.g) R1.out hF hk (by omega) Y hY)
    have hlt1 := (H1.out.mem List.mem_cons_self).lt
    clear hY h64
    obtain ⟨ye, yl, yk⟩ := Y
    simp only [] at HX1
    go_enter Tryz.func100, Tryz.ntmps100
    go_wp2_with fail
    (with_reducible refine CU.out.mono ?_)
    rintro e w2 ⟨hg2, hor⟩
    obtain ⟨SZ, hSZ⟩ : ∃ SZ, SZ = (w.alloc (.cells nul6 26)).heap.size := ⟨_, rfl⟩
    have H2 := Lib.hid (H1.out.gb hg2)
    rw [← hSZ] at hor hlt1
    have NK := Lib.hid (show ∀ b, SZ ≤ b → b ≠ w.heap.size from fun b hb => by omega)
    have NW := Lib.hid (show ∀ b, SZ ≤ b → w.heap.size ≤ b from fun b hb => by omega)
    have RM := Lib.hid (H2.out.mem List.mem_cons_self)
    obtain ⟨u0, u1, u2, u3, u4, u5⟩ := RM.out.cells6
    have uf := RM.out.free
    have uz := RM.out.lt
    have rne : w.heap.size ≠ rb := ((H2.out.2.1 _ List.mem_cons_self).2)
    clear hSZ hlt1 hg2
    rcases hor with ⟨hy0, acc, p, cap, rfl, hmap, hacc, hown, hr2⟩ | ⟨hy0, rfl⟩
    · simp only [] at hy0 hmap hr2
      subst hy0
      have HX2 := Lib.hid (show X = (0, .mk 5 0 0 ⟨#[]⟩ (acc.map (·.1)) [], yk) by rw [HX1.out, if_pos rfl, hmap])
      have L2 := Lib.hid (hown.arr (by unfold maxLen; omega) 5 0 0)
      have R2 := Lib.hid hr2
      clear hmap hown hr2
      go_wp2_with fail
      refine bodyPost_ret (v := .tuple #[.agg #[.int .i64 5, .int .i64 0, .int .i64 0, .string ⟨#[]⟩, .slice p acc.length cap, .slice none 0 0], .int .i64 0]) ?_ rfl ⟨⟨p, cap, none, 0⟩, by rw [HX2.out]; unfold objV; simp only [Ob.k, Ob.n, Ob.f, Ob.s, Ob.l, Ob.d, List.length_map, List.length_nil], fun _ => ?_, ?_, ?_⟩
      · simp [results, Tryz.results100, go_sem, u0, u1, u2, u3, u4, u5]
      · rw [HX2.out]
        repeat (with_reducible first | exact R2.out | refine Rst.drew ?_ | refine Rst.alloc ?_ _ | refine Rst.other ?_ (Ne.symm rne) _)
      · repeat (with_reducible first | exact H2.out.g | refine gb_drew ?_ | refine gb_alloc ?_ _ | refine gb_fresh ?_ (Nat.le_refl _) _)
      · rw [HX2.out]
        refine Lies.weak (P := fun b => SZ ≤ b) ?_ NW.out
        repeat (with_reducible first | exact L2.out | refine Lies.set ?_ NK.out _ | refine Lies.alloc ?_ _)
    · simp only [] at hy0
      have HX2 := Lib.hid (show X = (ye, nul, 0) by rw [HX1.out, if_neg hy0])
      have hne : (ye != 0) = true := by simpa using hy0
      have he' := Lib.hid hy0
      clear hy0
      go_wp2_with fail
      refine bodyPost_ret (v := .tuple #[.agg nul6, .int .i64 ye]) ?_ rfl (objPost_bad HX2.out he'.out ?_)
      · simp [results, Tryz.results100, go_sem, u0, u1, u2, u3, u4, u5]
      · repeat (with_reducible first | exact H2.out.g | refine gb_drew ?_ | refine gb_alloc ?_ _ | refine gb_fresh ?_ (Nat.le_refl _) _)

/-- What settled answers. -/
def SetC : Prop := ∀ (acc : List (Entr × Hd)) (p : Option Addr) (cap N : Nat) (w : World), OwnK KE N w (.slice p acc.length cap) acc → acc.length ≤ 1024 → (∀ r ∈ acc, r.1.1.size ≤ maxLen) →
  Calls Tryz.prog 125 #[.slice p acc.length cap] w fun e w' => ∃ (out : List (Entr × Hd)) (q : Option Addr) (c : Nat), e = .returned (.slice q out.length c) ∧ Kept w w' ∧ out.map (·.1) = Cx.settle (acc.map (·.1)) ∧ out.length ≤ 1024 ∧ (∀ r ∈ out, r.1.1.size ≤ maxLen) ∧ OwnK KE N w' (.slice q out.length c) out

theorem entOf_key (l : List UInt8) (F dep : Nat) (t : Lx.Tok) (ht : t.s.length ≤ l.length) : (entOf F l dep t).2.1.1.size ≤ l.length := by
  cases F with
  | zero => rw [entOf]; exact Nat.zero_le _
  | succ F =>
    rw [entOf]
    split
    · exact Nat.zero_le _
    · split
      · exact Nat.zero_le _
      · split
        · exact ht
        · exact Nat.zero_le _
theorem upE_keys (l : List UInt8) : ∀ (F dep : Nat) (acc : List Entr) (k : Nat), (∀ e ∈ acc, e.1.size ≤ l.length) → ∀ e ∈ (upE F l dep acc k).2.1, e.1.size ≤ l.length
  | 0, _, _, _, _ => by rw [upE]; intro e he; simp at he
  | F + 1, dep, acc, k, h => by
    rw [upE]
    split
    · intro e he; simp at he
    · split
      · exact h
      · split
        · intro e he; simp at he
        · split
          · intro e he; simp at he
          · split
            · refine upE_keys l F dep _ _ fun e he => ?_
              rcases List.mem_append.1 he with he | he
              · exact h e he
              · rw [List.mem_singleton.1 he]; exact entOf_key l F dep _ (Lx.next_len l k).2.2
            · intro e he; simp at he

set_option maxRecDepth 100000 in
set_option maxHeartbeats 4000000 in
theorem dictOf_any (HSET : SetC) (F : Nat) (IH : ∀ F', F' < F → EntC F') (s : ByteArray) (k dep rb : Nat) (w : World) (hs : s.size ≤ 4294967295) (hm : HasMax w) (hr : Rst s (k : Int) (dep : Int) rb w) (hF : 3 * (s.size - k) + 1 ≤ F) (hk : k ≤ s.size) (hdep : dep ≤ 64)
    (X : Int × Ob × Nat) (hX : X = dictV F s.data.toList dep k) :
    Calls Tryz.prog 101 #[.pointer (some ⟨rb, 0, none⟩)] w (ObjPost s dep rb w X) := by
  have hmf : ∀ (fn : Fn) (first cap : Array Value) (w : World), (Instr.makeFunc fn first cap).run Tryz.prog w = .ok (.func fn first cap) w := fun _ _ _ _ => rfl
  have HIH := Lib.hid IH
  have HM := Lib.hid hm
  have HX := Lib.hid hX
  have H0 := Lib.hid (InR.start w hr.lt)
  have H1 := Lib.hid (InR.fresh H0.out nul6 26)
  have R1 := Lib.hid (hr.alloc (.cells nul6 26))
  have HR := Lib.hid hr
  have HMF := Lib.hid hmf
  clear IH hm hX H0 hr
  by_cases h64 : dep = 64
  · subst h64
    have HX1 := Lib.hid (show X = (5, nul, 0) by rw [HX.out, dictV, if_pos rfl])
    have RM := Lib.hid (H1.out.mem List.mem_cons_self)
    obtain ⟨u0, u1, u2, u3, u4, u5⟩ := RM.out.cells6
    have uf := RM.out.free
    go_enter Tryz.func101, Tryz.ntmps101
    go_wp2_with fail
    (with_reducible refine (upE_deep s (k : Int) rb _ _ R1.out).mono ?_)
    rintro e w2 ⟨rfl, rfl⟩
    go_wp2_with fail
    refine bodyPost_ret (v := .tuple #[.agg nul6, .int .i64 5]) ?_ rfl (objPost_bad HX1.out (by decide) ?_)
    · simp [results, Tryz.results101, go_sem]
    · repeat (with_reducible first | exact gb_refl _ _ | refine gb_drew ?_ | refine gb_alloc ?_ _ | refine gb_fresh ?_ (Nat.le_refl _) _)
  · obtain ⟨Y, hY⟩ : ∃ Y, Y = upE F s.data.toList (dep + 1) [] k := ⟨_, rfl⟩
    have HY := Lib.hid hY
    have HX1 := Lib.hid (show X = if Y.1 = 0 then (0, .mk 6 0 0 ⟨#[]⟩ [] (Cx.settle Y.2.1), Y.2.2) else (Y.1, nul, 0) by rw [HX.out, dictV, if_neg h64, hY])
    have CU := Lib.hid (upE_any F HIH.out s k dep rb _ hs (HR.out.max HM.out H1.out.g) R1.out hF hk (by omega) Y hY)
    have hlt1 := (H1.out.mem List.mem_cons_self).lt
    clear hY h64
    obtain ⟨ye, yl, yk⟩ := Y
    simp only [] at HX1
    go_enter Tryz.func101, Tryz.ntmps101
    go_wp2_with fail
    (with_reducible refine CU.out.mono ?_)
    rintro e w2 ⟨hg2, hor⟩
    obtain ⟨SZ, hSZ⟩ : ∃ SZ, SZ = (w.alloc (.cells nul6 26)).heap.size := ⟨_, rfl⟩
    have H2 := Lib.hid (H1.out.gb hg2)
    rw [← hSZ] at hor hlt1
    have NK := Lib.hid (show ∀ b, SZ ≤ b → b ≠ w.heap.size from fun b hb => by omega)
    have NW := Lib.hid (show ∀ b, SZ ≤ b → w.heap.size ≤ b from fun b hb => by omega)
    have RM := Lib.hid (H2.out.mem List.mem_cons_self)
    obtain ⟨u0, u1, u2, u3, u4, u5⟩ := RM.out.cells6
    have uf := RM.out.free
    have uz := RM.out.lt
    have rne : w.heap.size ≠ rb := ((H2.out.2.1 _ List.mem_cons_self).2)
    clear hSZ hlt1 hg2
    rcases hor with ⟨hy0, acc, p, cap, rfl, hmap, hacc, hown, hr2⟩ | ⟨hy0, rfl⟩
    · simp only [] at hy0 hmap hr2
      subst hy0
      have R2 := Lib.hid hr2
      have hk0 : ∀ r ∈ acc, r.1.1.size ≤ maxLen := fun r hr => by
        have h1 := upE_keys s.data.toList F (dep + 1) [] k (fun _ h => absurd h List.not_mem_nil) r.1 (by rw [← HY.out, ← hmap]; exact List.mem_map_of_mem hr)
        have h2 : s.data.toList.length = s.size := by simp
        unfold maxLen; omega
      have HXa := Lib.hid (show X = (0, .mk 6 0 0 ⟨#[]⟩ [] (Cx.settle yl), yk) by rw [HX1.out, if_pos rfl])
      have CS := Lib.hid (HSET acc p cap SZ w2 hown hacc hk0)
      rw [hmap] at CS
      clear hmap hown hr2 hk0
      go_wp2_with fail
      (with_reducible refine CS.out.mono ?_)
      rintro e w3 ⟨out, q, c, rfl, hk3, hmap3, hlen3, hks, hown3⟩
      have HX2 := Lib.hid (show X = (0, .mk 6 0 0 ⟨#[]⟩ [] (out.map (·.1)), yk) by rw [HXa.out, hmap3])
      have L2 := Lib.hid (hown3.dict (by unfold maxLen; omega) hks 6 0 0)
      have H3 := Lib.hid (H2.out.kept hk3)
      have R3 := Lib.hid (R2.out.kept hk3)
      have RM3 := Lib.hid (H3.out.mem List.mem_cons_self)
      clear hmap3 hown3 hk3 hks u0 u1 u2 u3 u4 u5 uf uz
      obtain ⟨u0, u1, u2, u3, u4, u5⟩ := RM3.out.cells6
      have uf := RM3.out.free
      have uz := RM3.out.lt
      go_wp2_with fail
      refine bodyPost_ret (v := .tuple #[.agg #[.int .i64 6, .int .i64 0, .int .i64 0, .string ⟨#[]⟩, .slice none 0 0, .slice q out.length c], .int .i64 0]) ?_ rfl ⟨⟨none, 0, q, c⟩, by rw [HX2.out]; unfold objV; simp only [Ob.k, Ob.n, Ob.f, Ob.s, Ob.l, Ob.d, List.length_map, List.length_nil], fun _ => ?_, ?_, ?_⟩
      · simp [results, Tryz.results101, go_sem, u0, u1, u2, u3, u4, u5]
      · rw [HX2.out]
        repeat (with_reducible first | exact R3.out | refine Rst.drew ?_ | refine Rst.alloc ?_ _ | refine Rst.other ?_ (Ne.symm rne) _)
      · repeat (with_reducible first | exact H3.out.g | refine gb_drew ?_ | refine gb_alloc ?_ _ | refine gb_fresh ?_ (Nat.le_refl _) _)
      · rw [HX2.out]
        refine Lies.weak (P := fun b => SZ ≤ b) ?_ NW.out
        repeat (with_reducible first | exact L2.out | refine Lies.set ?_ NK.out _ | refine Lies.alloc ?_ _)
    · simp only [] at hy0
      have HX2 := Lib.hid (show X = (ye, nul, 0) by rw [HX1.out, if_neg hy0])
      have hne : (ye != 0) = true := by simpa using hy0
      have he' := Lib.hid hy0
      clear hy0
      go_wp2_with fail
      refine bodyPost_ret (v := .tuple #[.agg nul6, .int .i64 ye]) ?_ rfl (objPost_bad HX2.out he'.out ?_)
      · simp [results, Tryz.results101, go_sem, u0, u1, u2, u3, u4, u5]
      · repeat (with_reducible first | exact H2.out.g | refine gb_drew ?_ | refine gb_alloc ?_ _ | refine gb_fresh ?_ (Nat.le_refl _) _)

end Go.Proofs.YtnmehngedljgoaaGreatDoor
