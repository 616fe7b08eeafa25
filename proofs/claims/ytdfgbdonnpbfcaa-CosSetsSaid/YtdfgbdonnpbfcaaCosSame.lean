/-
  When package cos's Same says yes, part one: the places of each key's first entry; slices.EqualFunc over objects with a question that is known of all that stand in the first list.
-/
import Derived.Test.YtdfgbdonnpbfcaaCosIdxS
import Derived.Test.YtdfgbdonnpbfcaaCosGet
import Derived.Test.YtdfgbdonnpbfcaaCosDel
namespace Go.Proofs.Ytdfgbdonnpbfcaa
open Go.RowKit Cx

def arrO (l : List Ob) : Ob := .mk 5 0 0 ⟨#[]⟩ l []
theorem Lies.listOnly {R : Cells} {o : Ob} {h : Hd} (hl : Lies R o h) : Lies R (arrO o.l) ⟨h.p, h.c, none, 0⟩ := by
  cases hl with
  | mk k n f s l d h H E hk hl hlc hd hds hdc =>
    exact .mk 5 0 0 ⟨#[]⟩ l [] ⟨h.p, h.c, none, 0⟩ H E ⟨hk.1, Nat.zero_le _, Nat.zero_le _⟩ hl hlc (fun _ hi => absurd hi (Nat.not_lt_zero _)) (fun _ hi => absurd hi (Nat.not_lt_zero _)) (fun _ hi => absurd hi (Nat.not_lt_zero _))

set_option maxRecDepth 100000 in
set_option maxHeartbeats 4000000 in
theorem firsts_any (P : Nat → Prop) (d : List Entr) (q : Option Addr) (c : Nat) (w : World) (hl : Lies (Cel P w) (dictO d) ⟨none, 0, q, c⟩) (hd : d.length ≤ 4294967296) :
    Calls Try.prog 25 #[.slice q d.length c] w fun e w' => e = .returned (.map (some w.heap.size)) ∧ IdxS w' w.heap.size d.length (nkGo [] d) (fstJ d) ∧ Kept w w' := by
  have LD := Lib.hid hl
  have IM := Lib.hid (IdxS.made w)
  have KM := Lib.hid ((Kept.refl w).allocO (.map #[] 0))
  have HD := Lib.hid hd
  clear hl
  have hmm : ∀ (t : TypeId) (w : World), (Instr.makeMap t none).run Try.prog w = .ok (.map (some w.heap.size)) (w.alloc (.map #[] 0)) := fun _ _ => rfl
  go_enter Try.func25, Try.ntmps25
  go_wp2_with fail
  go_loopg [11] (d.length) (fun m i wr => ∃ (j : Nat), m = d.length - j ∧ j ≤ d.length ∧ i = .int .i64 j ∧ Kept w wr ∧ w.heap.size < wr.heap.size ∧ IdxS wr w.heap.size j (nkGo [] (d.take j)) (fstJ (d.take j)))
  case atStart => exact ⟨0, by omega, Nat.zero_le _, rfl, KM.out, by simp, by rw [List.take_zero, fstJ_nil, nkGo]; exact IM.out⟩
  case round =>
    obtain ⟨j, hm, hj, rfl, hk, hsz, hI⟩ := hrel
    have HK := Lib.hid hk
    have HI := Lib.hid hI
    clear hk hI IM KM
    by_cases hlt : j < d.length
    · obtain ⟨ek, x, bb, off, ⟨p', c', q', e'⟩, hxe, hqq, hPb, hbl, hx, hks, z0, y0, y1, y2, y3, y4, y5⟩ := (LD.out.kept HK.out).entry j hlt
      simp only [dictO, Ob.d] at hxe
      simp only [] at hqq y4 y5
      subst hqq
      have HEK := Lib.hid hks
      have HTS := Lib.hid (show d.take (j + 1) = d.take j ++ [(ek, x)] by rw [List.take_succ_eq_append_getElem hlt, hxe])
      have HLT := Lib.hid (show (d.take j).length = j by rw [List.length_take]; omega)
      have HB1 := Lib.hid (Blk.fresh wr #[.string ek, .int .i64 x.k, .int .i64 x.n, .int .i64 x.f, .string x.s, .slice p' x.l.length c', .slice q' x.d.length e'] 34)
      have I1 := Lib.hid (HI.out.keptK ((Kept.refl wr).alloc #[.string ek, .int .i64 x.k, .int .i64 x.n, .int .i64 x.f, .string x.s, .slice p' x.l.length c', .slice q' x.d.length e'] 34))
      have K1 := Lib.hid (HK.out.alloc #[.string ek, .int .i64 x.k, .int .i64 x.n, .int .i64 x.f, .string x.s, .slice p' x.l.length c', .slice q' x.d.length e'] 34)
      clear hxe hPb hx hks
      cases hJ : fstJ (d.take j) ek with
      | none =>
        have HN := Lib.hid (fstJ_none hJ)
        go_wp2_with (first | (at_lookup; refine wpList_idx_ok rfl _ _ rfl I1.out.idx rfl ek rfl HEK.out ?_; rw [hJ]; simp only [Option.getD_none, Option.isSome_none]) | (at_mapUpdate; refine wpList_idxs_put rfl _ _ _ rfl I1.out (by unfold maxLen; have := HD.out; omega) rfl ek rfl HEK.out hJ j rfl (by have := HD.out; omega) ?_; intro w5 hI5 hg5))
        have K5 := Lib.hid (K1.out.gbOwn hg5 (fun k hk => by injection hk with hk; omega))
        have S5 : wr.heap.size < w5.heap.size := by have := hg5.size; rw [show (wr.alloc (.cells #[.string ek, .int .i64 x.k, .int .i64 x.n, .int .i64 x.f, .string x.s, .slice p' x.l.length c', .slice q' x.d.length e'] 34)).heap.size = wr.heap.size + 1 by simp] at this; omega
        have I5 := Lib.hid hI5
        clear hI5 hg5
        go_wp2_with fail
        go_roundg (d.length - (j + 1))
        case measure => omega
        case rel =>
          refine ⟨j + 1, rfl, by omega, by go_num, K5.out, by omega, ?_⟩
          rw [HTS.out, nkGo_snoc, List.nil_append, HN.out, fstJ_new HN.out, HLT.out]
          exact I5.out
      | some i =>
        have HN := Lib.hid (fstJ_some hJ).1
        go_wp2_with (at_lookup; refine wpList_idx_ok rfl _ _ rfl I1.out.idx rfl ek rfl HEK.out ?_; rw [hJ]; simp only [Option.getD_some, Option.isSome_some])
        go_roundg (d.length - (j + 1))
        case measure => omega
        case rel =>
          refine ⟨j + 1, rfl, by omega, by go_num, K1.out, Nat.lt_of_lt_of_le hsz (by simp), ?_⟩
          rw [HTS.out, nkGo_snoc, List.nil_append, HN.out, fstJ_old HN.out]
          exact I1.out.mono (Nat.le_succ _)
    · obtain rfl : j = d.length := by omega
      have HA := Lib.hid (show IdxS wr w.heap.size d.length (nkGo [] d) (fstJ d) by have := HI.out; rwa [List.take_of_length_le (Nat.le_refl _)] at this)
      go_wp2_with fail
      go_ret
      exact ⟨rfl, HA.out, HK.out⟩

end Go.Proofs.Ytdfgbdonnpbfcaa
