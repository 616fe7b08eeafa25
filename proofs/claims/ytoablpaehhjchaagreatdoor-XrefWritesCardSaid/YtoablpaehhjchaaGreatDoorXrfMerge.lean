/-
  What package xref's Merge answers.
-/
import Derived.Test.YtoablpaehhjchaaGreatDoorXrfConcat
import Derived.Test.YtoablpaehhjchaaGreatDoorXrfSort
namespace Go.Proofs.YtoablpaehhjchaaGreatDoor
open Go.RowKit Go.Maps Go.Shelf Rx
set_option linter.unusedSimpArgs false
set_option linter.unusedVariables false

theorem isM_of {all xs ss : List Xent} (h : AllOf (first all) xs) (hp : ss.Perm xs) (hs : ss.Pairwise (fun a b => a.n ≤ b.n)) : IsM all ss := by
  obtain ⟨ks, hnd, hk, hm⟩ := h
  have hnum : ∀ (xs : List Xent) (ks : List Int), xs.map some = ks.map (first all) → xs.map (·.n) = ks := by
    intro xs
    induction xs with
    | nil => intro ks h; cases ks with
      | nil => rfl
      | cons k ks => simp at h
    | cons x xs ih => intro ks h; cases ks with
      | nil => simp at h
      | cons k ks =>
        simp only [List.map_cons, List.cons.injEq] at h
        rw [List.map_cons, ih ks h.2, first_n h.1.symm]
  have hn := hnum xs ks hm
  have hmem : ∀ e, e ∈ xs ↔ first all e.n = some e := fun e => by
    constructor
    · intro he
      have h1 : some e ∈ xs.map some := List.mem_map.2 ⟨e, he, rfl⟩
      rw [hm] at h1
      obtain ⟨k, -, h2⟩ := List.mem_map.1 h1
      rw [first_n h2]; exact h2
    · intro he
      have h1 : e.n ∈ ks := (hk e.n).2 (by rw [he]; rfl)
      have h2 : first all e.n ∈ ks.map (first all) := List.mem_map.2 ⟨e.n, h1, rfl⟩
      rw [← hm, he] at h2
      obtain ⟨x, hx, h3⟩ := List.mem_map.1 h2
      rw [← Option.some.inj h3]; exact hx
  refine ⟨?_, fun e => hp.mem_iff.trans (hmem e)⟩
  have hnd2 : (ss.map (·.n)).Nodup := ((hp.map (·.n)).nodup_iff).2 (by rw [hn]; exact hnd)
  have h3 : ss.Pairwise (fun a b => a.n ≠ b.n) := List.pairwise_map.1 hnd2
  exact (hs.and h3).imp (fun ⟨h1, h2⟩ => by omega)
theorem allOf_len {all xs : List Xent} (h : AllOf (first all) xs) : xs.length ≤ all.length := by
  have hi := isM_of h (List.mergeSort_perm xs (fun a b => decide (a.n ≤ b.n))) (by
    have := List.pairwise_mergeSort (le := fun a b : Xent => decide (a.n ≤ b.n)) (fun a b c h1 h2 => by simp at *; omega) (fun a b => by simp; omega) xs
    exact this.imp (fun h => by simpa using h))
  have := isM_len hi
  rw [(List.mergeSort_perm xs _).length_eq] at this
  exact this

/-- A number that a machine's int holds. -/
def Wf (e : Xent) : Prop := -9223372036854775808 ≤ e.n ∧ e.n ≤ 9223372036854775807

set_option maxRecDepth 100000 in
set_option maxHeartbeats 4000000 in
theorem Merge_any (a b : List Xent) (pa pb : Option Addr) (ca cb : Nat) (w : World) (ha : Sl w pa ca a) (hb : Sl w pb cb b) (hs : a.length + b.length ≤ 1099511627776) (hwf : ∀ e ∈ a ++ b, Wf e) :
    Calls Tryz.prog 11 #[.slice pa a.length ca, .slice pb b.length cb] w fun e w' => ∃ v m, e = .returned v ∧ IsM (a ++ b) m ∧ Ents 65 w' w.heap.size v m ∧ Kept w w' := by
  have HWF := Lib.hid hwf
  have k1 : Kept w (w.alloc (.map #[] 0)) := (Kept.refl w).allocO _
  have k2 : Kept w ((w.alloc (.map #[] 0)).alloc (.cells #[.slice pa a.length ca, .slice pb b.length cb] 22)) := k1.allocO _
  have M2 := Lib.hid (show MIdx ((w.alloc (.map #[] 0)).alloc (.cells #[.slice pa a.length ca, .slice pb b.length cb] 22)) w.heap.size 0 (fun _ => none) from (MIdx.made w).kept (World.grownBy_alloc _ _ none) (by simp))
  have CC := Lib.hid (ConcatE_any a b pa pb ca cb (w.heap.size + 1) _ (Blk.fresh' (w := w.alloc (.map #[] 0)) #[.slice pa a.length ca, .slice pb b.length cb] 22 (by simp)) (ha.see k2) (hb.see k2) hs)
  have K2 := Lib.hid k2
  have hl : (a ++ b).length ≤ 1099511627776 := by rw [List.length_append]; exact hs
  obtain ⟨all, hall⟩ : ∃ all, all = a ++ b := ⟨_, rfl⟩
  rw [← hall] at CC HWF hl ⊢
  clear hall hwf ha hb k1 k2 hs
  have hmm : ∀ (t : TypeId) (w : World), (Instr.makeMap t none).run Tryz.prog w = .ok (.map (some w.heap.size)) (w.alloc (.map #[] 0)) := fun _ _ => rfl
  go_enter Tryz.func11, Tryz.ntmps11
  go_wp2_with (go_at_call 31; refine CC.out.mono ?_; rintro e w1 ⟨v, rfl, ho1, hk1⟩; obtain ⟨p, c, rfl, hsl⟩ := ho1.sl)
  have O1 := Lib.hid ho1
  have KW := Lib.hid (K2.out.trans hk1)
  have MW := Lib.hid (M2.out.keptK hk1)
  obtain ⟨B1, hB1⟩ : ∃ B1, B1 = ((w.alloc (.map #[] 0)).alloc (.cells #[.slice pa a.length ca, .slice pb b.length cb] 22)).heap.size := ⟨_, rfl⟩
  rw [← hB1] at O1
  have hbB : w.heap.size < B1 := by rw [hB1]; simp; omega
  clear ho1 hk1 hsl CC M2 K2 hB1
  go_loopg [16] (all.length + 1) (fun x i wr => ∃ j : Nat, x = all.length + 1 - j ∧ j ≤ all.length ∧ i = .int .i64 j ∧ MIdx wr w.heap.size j (first (all.take j)) ∧ Ents 65 wr B1 (.slice p all.length c) all ∧ Kept w wr)
  case atStart => exact ⟨0, rfl, by omega, rfl, MW.out, O1.out, KW.out⟩
  case round =>
    obtain ⟨j, hx, hj, rfl, hm, ho, hk⟩ := hrel
    have HM := Lib.hid hm
    have HO := Lib.hid ho
    have HK := Lib.hid hk
    have hwl := Below.size hk
    have hne : (Value.slice p all.length c).ownBlock = none ∨ (Value.slice p all.length c).ownBlock ≠ some w.heap.size := by
      cases hv : (Value.slice p all.length c).ownBlock with
      | none => exact .inl rfl
      | some g => exact .inr (fun e => by have := (ho.lt g hv).1; injection e with e; omega)
    have HN := Lib.hid hne
    clear hm ho hk hne
    by_cases hlt : j < all.length
    · have j1 : (j : Int) < (all.length : Int) := by omega
      obtain ⟨kb, o, hp, hkb, c0, c1, c2, c3⟩ := HO.out.entR j hlt
      have htk : all.take (j + 1) = all.take j ++ [all[j]] := List.take_succ_eq_append_getElem hlt
      have hwe := HWF.out all[j] (List.getElem_mem hlt)
      obtain ⟨t, ht⟩ : ∃ t, t = all[j] := ⟨_, rfl⟩
      rw [← ht] at c0 c1 c2 c3 htk hwe
      have HTK := Lib.hid htk
      have HWE := Lib.hid hwe
      clear ht htk hwe
      have HP := Lib.hid hp
      have HO2 := Lib.hid HO.out
      have HM1 := Lib.hid (HM.out.kept (World.grownBy_alloc wr (.cells #[.int .i64 t.n, .int .i64 t.off, .int .i64 t.gen, .bool t.used] 65) none) (by simp))
      subst hp
      obtain ⟨J, hJ⟩ : ∃ J, J = first (all.take j) t.n := ⟨_, rfl⟩
      cases J with
      | some f =>
        have hJ2 : (first (all.take j) t.n).isSome = true := by rw [← hJ]; rfl
        go_wp2_with (at_lookup; refine wpList_mx_ok (by rfl) _ _ (by rfl) HM1.out (by rfl) t.n (by rfl) HWE.out ?_; rw [hJ2]; intro e0; unfold xentV)
        go_roundg (all.length + 1 - (j + 1))
        case measure => omega
        case rel =>
          refine ⟨j + 1, rfl, by omega, by go_num, ?_, ?_, ?_⟩
          · have h1 : first (all.take (j + 1)) = first (all.take j) := by
              funext n
              rw [HTK.out, first_snoc]
              cases h2 : first (all.take j) n with
              | some g => rfl
              | none =>
                by_cases h3 : t.n = n
                · rw [h3, h2] at hJ; cases hJ
                · rw [if_neg h3]; rfl
            rw [h1]
            exact (HM1.out.kept (World.grownBy_alloc _ _ none) (by simp)).mono (by omega)
          · exact (HO.out.kept (((Kept.refl wr).allocO _).allocO _))
          · exact (HK.out.allocO _).allocO _
      | none =>
        have hJ2 : (first (all.take j) t.n).isSome = false := by rw [← hJ]; rfl
        go_wp2_with (first | (at_lookup; refine wpList_mx_ok (by rfl) _ _ (by rfl) HM1.out (by rfl) t.n (by rfl) HWE.out ?_; rw [hJ2]; intro e0; unfold xentV) | (at_mapUpdate; refine wpList_mx_put (by rfl) _ _ _ (by rfl) (HM1.out.kept (World.grownBy_alloc _ _ none) (by simp)) (by unfold maxLen; omega) (by rfl) t.n (by rfl) HWE.out t (by rfl) ?_; intro w6 hm6 hg6))
        have K6 := Lib.hid (show Kept w w6 from Below.grown ((HK.out.allocO _).allocO _) hg6 (by simp; omega) (fun k e => by cases e; exact Nat.le_refl _))
        have O6 := Lib.hid ((HO.out.kept (((Kept.refl wr).allocO _).allocO _)).gb hg6 HN.out)
        have M6 := Lib.hid hm6
        clear hm6 hg6
        go_wp2_with fail
        go_roundg (all.length + 1 - (j + 1))
        case measure => omega
        case rel =>
          refine ⟨j + 1, rfl, by omega, by go_num, ?_, O6.out, K6.out⟩
          have h1 : first (all.take (j + 1)) = fun k => if k = t.n then some t else first (all.take j) k := by
            funext n
            rw [HTK.out, first_snoc]
            by_cases h3 : n = t.n
            · rw [if_pos h3, h3, ← hJ, if_pos rfl]; rfl
            · rw [if_neg h3, if_neg (fun e => h3 e.symm)]
              cases first (all.take j) n <;> rfl
          rw [h1]
          exact M6.out
    · obtain rfl : j = all.length := by omega
      have M0 := HM.out
      rw [List.take_length] at M0
      have MA := Lib.hid (M0.kept (World.grownBy_alloc wr (.cells #[.map (some w.heap.size)] 75) none) (by simp))
      have BM := Lib.hid (Boxed.new wr 75 (.map (some w.heap.size)))
      have KA := Lib.hid (HK.out.allocO (.cells #[.map (some w.heap.size)] 75 (0, 0)))
      have VI := Lib.hid (callsIn_wide.1 (Values_in Fence.wide 1 trivial rfl (some w.heap.size) wr))
      have SF := Lib.hid (SortedFunc_any (gf := 52) (enters_of Tryz.func52 (by kernel_rfl) rfl) hl _ _ (Below.refl _ _) (values_stops Fence.wide 4 trivial rfl (by decide) wr.heap.size w.heap.size all.length (first all) _ (by simp) BM.out.cell MA.out) (fun xs hx => Nat.le_trans (allOf_len hx) hl))
      clear M0
      go_wp2_with (first | (go_at_call 33; refine VI.out.mono ?_; rintro e w5 ⟨rfl, rfl⟩) | (go_at_call 32; refine SF.out.mono ?_; rintro e w6 ⟨v6, xs, ss, rfl, hx6, hp6, hs6, ho6, hk6⟩))
      go_ret
      exact ⟨v6, ss, rfl, isM_of hx6 hp6 hs6, ho6.base (Below.size KA.out), KA.out.trans hk6⟩

end Go.Proofs.YtoablpaehhjchaaGreatDoor
