/-
  Bytes that are as those so far back.
-/
import Derived.Test.YtpplboihlndfpaaDoorInfPut
import Derived.Deep.RegionLaw
namespace Go.Proofs.YtpplboihlndfpaaDoor
open Go.RowKit Ix
set_option linter.unusedSimpArgs false
set_option linter.unusedVariables false

set_option maxRecDepth 100000 in
set_option maxHeartbeats 4000000 in
theorem again_any (n back : Nat) {w : World} {B0 b : Nat} {p : Option Addr} {c : Nat} {B : List UInt8} {t : Nat} {v gv : Value} {out : List UInt8} (h : Ou w B0 b p c B t v out gv) (hn : n ≤ 8589934592) (h1 : 1 ≤ back) (hb : back ≤ 8589934592) :
    Calls Tryd.prog 111 #[.pointer (some ⟨b, 0, none⟩), .int .i64 n, .int .i64 back] w (PutA w B0 b p c B t v gv (againV n back out)) := by
  have hp := run_thrown
  have HO := Lib.hid h
  have HLOW := Lib.hid h.low
  have HBL := Lib.hid h.bi.blk.lt
  obtain ⟨c0, c1, c2, c3⟩ := h.bi.cells
  have hlen0 := h.len
  obtain ⟨q, cap, hv⟩ : ∃ q cap, v = .slice q out.length cap := by
    rcases h.own.parts with ⟨rfl, rfl⟩ | ⟨g, cap, rfl, _, _⟩
    · exact ⟨none, 0, rfl⟩
    · exact ⟨_, cap, rfl⟩
  rw [hv] at c2
  clear h hv
  by_cases hbig : out.length < back
  · have HV := Lib.hid (show againV n back out = .error 3 from if_pos hbig)
    have i1 : (out.length : Int) < (back : Int) := by omega
    go_enter Tryd.func111, Tryd.ntmps111
    go_wp2_with fail
    refine ⟨rfl, ?_⟩
    unfold PutA
    rw [HV.out]
    exact ⟨rfl, Below.refl _ _⟩
  · have HV := Lib.hid (show againV n back out = againGo back n out from if_neg hbig)
    have i1 : ¬ (out.length : Int) < (back : Int) := by omega
    go_enter Tryd.func111, Tryd.ntmps111
    go_wp2_with fail
    clear c0 c1 c2 c3
    go_loopg [15] n (fun m x wr => ∃ (i : Nat) (o : List UInt8) (v1 : Value), m = n - i ∧ i ≤ n ∧ x = .int .i64 i ∧ back ≤ o.length ∧ Ou wr B0 b p c B t v1 o gv ∧ Gr w b v wr v1 ∧ Hid (againGo back (n - i) o = againGo back n out))
    case atStart => exact ⟨0, out, v, rfl, Nat.zero_le _, rfl, by omega, HO.out, Gr.refl _ _ _, Lib.hid rfl⟩
    case round =>
      obtain ⟨i, o, v1, hm, hi, rfl, hbo, ho1, hg1, HS⟩ := hrel
      have HO1 := Lib.hid ho1
      have HG1 := Lib.hid hg1
      obtain ⟨c0, c1, c2, c3⟩ := ho1.bi.cells
      have hlen1 := ho1.len
      obtain ⟨g, cap1, hv1, -, hcell⟩ : ∃ g cap, v1 = .slice (some ⟨g, 0, none⟩) o.length cap ∧ b + 1 ≤ g ∧ ∀ (m : Nat) (hm : m < o.length), wr.cell? ⟨g, m, none⟩ = some (.int .u8 (o[m].toNat : Int)) := by
        rcases ho1.own.parts with ⟨rfl, rfl⟩ | hh
        · simp at hbo; omega
        · exact hh
      rw [hv1] at c2
      clear ho1 hg1
      by_cases hlt : i < n
      · obtain ⟨kk, hk⟩ : ∃ kk, n - i = kk + 1 := ⟨n - i - 1, by omega⟩
        obtain ⟨d, hd⟩ : ∃ d, o.length = d + back := ⟨o.length - back, by omega⟩
        have hdo : d < o.length := by omega
        have hcd := hcell d hdo
        have HX0 := Lib.hid (show o.getD (o.length - back) 0 = o[d] by rw [show o.length - back = d by omega]; simp [List.getD, hdo])
        obtain ⟨x, hx⟩ : ∃ x, x = o.getD (o.length - back) 0 := ⟨_, rfl⟩
        have HX := Lib.hid hx
        rw [show o[d] = x from by rw [hx, HX0.out]] at hcd
        have PU := Lib.hid (fun w' (k : Kept wr w') => put_any (HO1.out.kept k) x)
        have s1 : (o.length : Int) - (back : Int) = (d : Int) := by omega
        have s2 : (d : Int) < (o.length : Int) := by omega
        have s3 : IntKind.i64.wrap (d : Int) = (d : Int) := IntWalk.i64_in _ (by omega)
        have hlo := Lib.hid hd
        clear hx hcell hv1 hd
        go_wp2_with fail
        refine wp_region_any (by kernel_rfl) ?_
        change wpAny _ _ _ _ _ _ _ (World.drew _)
        refine wpAny_take (i := 0) (v := ?_) rfl (by kernel_rfl) (by kernel_rfl) (by kernel_rfl) (fun _ _ _ h => h) (Or.inl ⟨by rfl, (by intro w; go_simp; try with_reducible rfl)⟩) ?_
        refine wpAny_take (i := 1) (v := ?_) rfl (by kernel_rfl) (by kernel_rfl) (by kernel_rfl) (fun _ _ _ h => h) (Or.inl ⟨by rfl, (by intro w; go_simp; try with_reducible rfl)⟩) ?_
        refine wpAny_take (i := 2) (v := ?_) rfl (by kernel_rfl) (by kernel_rfl) (by kernel_rfl) (fun _ _ _ h => h) (Or.inl ⟨by rfl, (by intro w; go_simp; try with_reducible rfl)⟩) ?_
        refine wpAny_take (i := 3) (v := ?_) rfl (by kernel_rfl) (by kernel_rfl) (by kernel_rfl) (fun _ _ _ h => h) (Or.inl ⟨by rfl, (by intro w; go_simp; try with_reducible rfl)⟩) ?_
        refine wpAny_take (i := 5) (v := ?_) rfl (by kernel_rfl) (by kernel_rfl) (by kernel_rfl) (fun _ _ _ h => h) (Or.inl ⟨by rfl, (by intro w; go_simp; try with_reducible rfl)⟩) ?_
        refine wpAny_take (i := 6) (v := ?_) rfl (by kernel_rfl) (by kernel_rfl) (by kernel_rfl) (fun _ _ _ h => h) (Or.inl ⟨by rfl, (by intro w; go_simp; try with_reducible rfl)⟩) ?_
        refine wpAny_take (i := 7) (v := ?_) rfl (by kernel_rfl) (by kernel_rfl) (by kernel_rfl) (fun _ _ _ h => h) (Or.inl ⟨by rfl, (by intro w; go_simp; try with_reducible rfl)⟩) ?_
        refine wpAny_take (i := 10) (v := ?_) rfl (by kernel_rfl) (by kernel_rfl) (by kernel_rfl) (fun _ _ _ h => h) (Or.inl ⟨by rfl, (by intro w; go_simp; try with_reducible rfl)⟩) ?_
        refine wpAny_ready (rs := [4, 8]) (by kernel_rfl) (by simp) ?_
        refine AllReady.cons rfl (fun K hK => ?_) (AllReady.cons rfl (fun K hK => ?_) AllReady.nil)
        · go_simp
          refine hK _ _ ?_
          clear hK K
          refine wpAny_ready (rs := [8]) (by kernel_rfl) (by simp) ?_
          refine AllReady.cons rfl (fun K hK => ?_) AllReady.nil
          go_simp
          refine hK _ _ ?_
          clear hK K
          refine wpAny_take (i := 9) (v := ?_) rfl (by kernel_rfl) (by kernel_rfl) (by kernel_rfl) (fun _ _ _ h => h) (Or.inl ⟨by rfl, (by intro w; go_simp; try with_reducible rfl)⟩) ?_
          refine wpAny_take (i := 11) (v := ?_) rfl (by kernel_rfl) (by kernel_rfl) (by kernel_rfl) (fun _ _ _ h => h) (Or.inl ⟨by rfl, (by intro w; go_simp; try with_reducible rfl)⟩) ?_
          refine wpAny_take (i := 12) (v := ?_) rfl (by kernel_rfl) (by kernel_rfl) (by kernel_rfl) (fun _ _ _ h => h) (Or.inl ⟨by rfl, (by intro w; go_simp; try with_reducible rfl)⟩) ?_
          refine wpAny_ready (rs := [13]) (by kernel_rfl) (by simp) ?_
          refine AllReady.cons rfl (fun K hK => ?_) AllReady.nil
          go_simp
          refine hK _ _ ?_
          clear hK K
          refine wpAny_ready (rs := [14]) (by kernel_rfl) (by simp) ?_
          refine AllReady.cons rfl (fun K hK => ?_) AllReady.nil
          go_simp
          go_wp2_with fail
          (with_reducible refine (PU.out _ (Kept.refl wr).drew).mono ?_)
          intro e w2 hput
          rcases hput.cases with ⟨k', hr, rfl, hg⟩ | ⟨o', v', hr, rfl, ho, hg⟩
          · have HR := Lib.hid (show againGo back n out = .error k' by rw [← HS.out, hk, againGo, ← HX.out, hr])
            clear hput hr
            go_wp2_with fail
            refine ⟨rfl, ?_⟩
            unfold PutA
            rw [HV.out, HR.out]
            exact ⟨rfl, (HG1.out.below HLOW.out (Nat.le_of_lt HBL.out)).trans (Below.trans (Below.drew (Below.refl _ _)) hg)⟩
          · have HR := Lib.hid (show againGo back kk o' = againGo back n out by rw [← HS.out, hk, againGo, ← HX.out, hr])
            have HO2 := Lib.hid ho
            have HG2 := Lib.hid (HG1.out.trans ((Gr.ofKept (Kept.refl wr).drew).trans hg))
            have hlen2 : o'.length = o.length + 1 := by
              unfold putV' at hr
              split at hr
              · cases hr
              · injection hr with hr; rw [← hr]; simp
            clear hput hr ho hg
            go_wp2_with fail
            refine wpAny_done (by kernel_rfl) ?_ _
            go_wp2_with fail
            go_roundg (n - (i + 1))
            case measure => omega
            case rel => exact ⟨i + 1, o', v', rfl, by omega, by go_num, by omega, HO2.out, HG2.out, Lib.hid (by rw [show n - (i + 1) = kk by omega]; exact HR.out)⟩
        · go_simp
          refine hK _ _ ?_
          clear hK K
          refine wpAny_take (i := 9) (v := ?_) rfl (by kernel_rfl) (by kernel_rfl) (by kernel_rfl) (fun _ _ _ h => h) (Or.inl ⟨by rfl, (by intro w; go_simp; try with_reducible rfl)⟩) ?_
          refine wpAny_take (i := 11) (v := ?_) rfl (by kernel_rfl) (by kernel_rfl) (by kernel_rfl) (fun _ _ _ h => h) (Or.inl ⟨by rfl, (by intro w; go_simp; try with_reducible rfl)⟩) ?_
          refine wpAny_ready (rs := [4]) (by kernel_rfl) (by simp) ?_
          refine AllReady.cons rfl (fun K hK => ?_) AllReady.nil
          go_simp
          refine hK _ _ ?_
          clear hK K
          refine wpAny_take (i := 12) (v := ?_) rfl (by kernel_rfl) (by kernel_rfl) (by kernel_rfl) (fun _ _ _ h => h) (Or.inl ⟨by rfl, (by intro w; go_simp; try with_reducible rfl)⟩) ?_
          refine wpAny_ready (rs := [13]) (by kernel_rfl) (by simp) ?_
          refine AllReady.cons rfl (fun K hK => ?_) AllReady.nil
          go_simp
          refine hK _ _ ?_
          clear hK K
          refine wpAny_ready (rs := [14]) (by kernel_rfl) (by simp) ?_
          refine AllReady.cons rfl (fun K hK => ?_) AllReady.nil
          go_simp
          go_wp2_with fail
          (with_reducible refine (PU.out _ (Kept.refl wr).drew).mono ?_)
          intro e w2 hput
          rcases hput.cases with ⟨k', hr, rfl, hg⟩ | ⟨o', v', hr, rfl, ho, hg⟩
          · have HR := Lib.hid (show againGo back n out = .error k' by rw [← HS.out, hk, againGo, ← HX.out, hr])
            clear hput hr
            go_wp2_with fail
            refine ⟨rfl, ?_⟩
            unfold PutA
            rw [HV.out, HR.out]
            exact ⟨rfl, (HG1.out.below HLOW.out (Nat.le_of_lt HBL.out)).trans (Below.trans (Below.drew (Below.refl _ _)) hg)⟩
          · have HR := Lib.hid (show againGo back kk o' = againGo back n out by rw [← HS.out, hk, againGo, ← HX.out, hr])
            have HO2 := Lib.hid ho
            have HG2 := Lib.hid (HG1.out.trans ((Gr.ofKept (Kept.refl wr).drew).trans hg))
            have hlen2 : o'.length = o.length + 1 := by
              unfold putV' at hr
              split at hr
              · cases hr
              · injection hr with hr; rw [← hr]; simp
            clear hput hr ho hg
            go_wp2_with fail
            refine wpAny_done (by kernel_rfl) ?_ _
            go_wp2_with fail
            go_roundg (n - (i + 1))
            case measure => omega
            case rel => exact ⟨i + 1, o', v', rfl, by omega, by go_num, by omega, HO2.out, HG2.out, Lib.hid (by rw [show n - (i + 1) = kk by omega]; exact HR.out)⟩
      · obtain rfl : i = n := by omega
        have HR := Lib.hid (show againGo back i out = .ok o by rw [← HS.out, Nat.sub_self]; rfl)
        go_wp2_with fail
        refine bodyPost_end (results_none rfl _ _ _) rfl ?_
        unfold PutA
        rw [HV.out, HR.out]
        exact ⟨rfl, v1, HO1.out, HG1.out⟩

end Go.Proofs.YtpplboihlndfpaaDoor
