/-
  slices.DeleteFunc over entries in an array of the call's own, whatever is asked of each.
-/
import Derived.Test.YtdfgbdonnpbfcaaCosDel
namespace Go.Proofs.Ytdfgbdonnpbfcaa
open Go.RowKit Cx

theorem OwnP.cells7 {P : Nat → Prop} {N : Nat} {w : World} {g cap n : Nat} {acc : List (Entr × Hd)} (h : OwnP KE P N w (.slice (some ⟨g, 0, none⟩) n cap) acc) (hn : n = acc.length) (i : Nat) (hi : i < acc.length) :
    w.cell? ⟨g, i * 7, none⟩ = some (.string acc[i].1.1) ∧ w.cell? ⟨g, i * 7 + 1, none⟩ = some (.int .i64 acc[i].1.2.k) ∧ w.cell? ⟨g, i * 7 + 2, none⟩ = some (.int .i64 acc[i].1.2.n) ∧ w.cell? ⟨g, i * 7 + 3, none⟩ = some (.int .i64 acc[i].1.2.f) ∧
      w.cell? ⟨g, i * 7 + 4, none⟩ = some (.string acc[i].1.2.s) ∧ w.cell? ⟨g, i * 7 + 5, none⟩ = some (.slice acc[i].2.p acc[i].1.2.l.length acc[i].2.c) ∧ w.cell? ⟨g, i * 7 + 6, none⟩ = some (.slice acc[i].2.q acc[i].1.2.d.length acc[i].2.e) := by
  subst hn
  have key : ∀ q, q < 7 → w.cell? ⟨g, i * 7 + q, none⟩ = (KE.cells acc[i])[q]? := fun q hq => by
    rw [h.own.cellAt (i * 7 + q) (show i * 7 + q < acc.length * 7 by omega)]
    exact flat_get KE.cells 7 KE.len acc i q hi hq
  exact ⟨key 0 (by decide), key 1 (by decide), key 2 (by decide), key 3 (by decide), key 4 (by decide), key 5 (by decide), key 6 (by decide)⟩
theorem OwnP.free {P : Nat → Prop} {N : Nat} {w : World} {g cap n : Nat} {acc : List (Entr × Hd)} (h : OwnP KE P N w (.slice (some ⟨g, 0, none⟩) n cap) acc) (hn : n = acc.length) : ∀ k, w.frozen? ⟨g, k, none⟩ = false := by
  subst hn
  exact fun k => h.own.frozenAt k
theorem OwnP.blk {P : Nat → Prop} {N : Nat} {w : World} {g cap n : Nat} {acc : List (Entr × Hd)} (h : OwnP KE P N w (.slice (some ⟨g, 0, none⟩) n cap) acc) : N ≤ g ∧ g < w.heap.size := h.lt g rfl

/-- What is left of a row. -/
def leftR (p : Entr → Bool) (rs : List (Entr × Hd)) : List (Entr × Hd) := rs.filter fun r => !p r.1
theorem leftR_map (p : Entr → Bool) (rs : List (Entr × Hd)) : (leftR p rs).map (·.1) = (rs.map (·.1)).filter fun e => !p e := by
  unfold leftR
  rw [List.filter_map]; rfl
theorem leftR_snoc (p : Entr → Bool) (rs : List (Entr × Hd)) (j : Nat) (hj : j < rs.length) : leftR p (rs.take (j + 1)) = leftR p (rs.take j) ++ (if p rs[j].1 then [] else [rs[j]]) := by
  unfold leftR
  rw [List.take_succ_eq_append_getElem hj, List.filter_append]
  congr 1
  cases h : p rs[j].1 <;> simp [h]
theorem leftR_none (p : Entr → Bool) (rs : List (Entr × Hd)) (h : ∀ i (hi : i < rs.length), p rs[i].1 = false) : leftR p rs = rs := by
  unfold leftR
  rw [List.filter_eq_self]
  intro a ha
  obtain ⟨i, hi, rfl⟩ := List.getElem_of_mem ha
  rw [h i hi]; rfl
theorem leftR_first (p : Entr → Bool) (rs : List (Entr × Hd)) (i : Nat) (h : ∀ k (_ : k < i) (hr : k < rs.length), p rs[k].1 = false) : leftR p (rs.take i) = rs.take i :=
  leftR_none p _ fun k hk => by
    rw [List.length_take] at hk
    rw [List.getElem_take]
    exact h k (by omega) (by omega)
theorem idxE_none {p : Entr → Bool} {d : List Entr} (h : idxE p d < 0) : ∀ i (hi : i < d.length), p d[i] = false := by
  unfold idxE at h
  split at h
  · omega
  · next hn =>
    intro i hi
    cases hp : p d[i]
    · rfl
    · have := findIdx_at hi hp
      omega
theorem idxE_some {p : Entr → Bool} {d : List Entr} {i : Nat} (h : idxE p d = (i : Int)) : ∃ hi : i < d.length, p d[i] = true ∧ ∀ k (_ : k < i) (hd : k < d.length), p d[k] = false := by
  unfold idxE at h
  split at h
  · next hl =>
    obtain rfl : d.findIdx p = i := by omega
    exact ⟨hl, find_hit hl, fun k hk hd => by
      cases hp : p d[k]
      · rfl
      · have := findIdx_at hd hp
        omega⟩
  · omega

set_option maxRecDepth 100000 in
set_option maxHeartbeats 4000000 in
theorem DeleteFunc_any (P : Nat → Prop) (N g : Nat) (lb : Array Value) (p : Entr → Bool) (eg : Ent g) (rows : List (Entr × Hd)) (q : Option Addr) (c : Nat) (w : World) (hO : OwnP KE P N w (.slice q rows.length c) rows) (hks : ∀ r ∈ rows, r.1.1.size ≤ maxLen) (hlen : rows.length ≤ maxLen) (hp : ∀ w, AsksE g lb p w) :
    Calls Try.prog 54 #[.slice q rows.length c, .func (.func g) #[] lb] w fun e w' => e = .returned (.slice q (leftR p rows).length c) ∧ OwnP KE P N w' (.slice q (leftR p rows).length c) (leftR p rows) ∧ w.grownBy w' (Value.slice q rows.length c).ownBlock := by
  have HP := Lib.hid hp
  have HO := Lib.hid hO
  have HK := Lib.hid hks
  have hb := hlen
  unfold maxLen at hb
  have HL := Lib.hid (show Lies (Cel (fun b => P b ∨ N ≤ b) w) (dictO (rows.map (·.1))) ⟨none, 0, q, c⟩ from hO.dict hlen hks)
  obtain ⟨X, hX⟩ : ∃ X, X = idxE p (rows.map (·.1)) := ⟨_, rfl⟩
  have HX := Lib.hid hX
  have hbd := idxE_bd p (rows.map (·.1))
  rw [← hX] at hbd
  have HBD := Lib.hid hbd
  have HML := Lib.hid (show (rows.map (·.1)).length = rows.length from List.length_map _)
  have CI := Lib.hid (fun w0 hl => IndexFunc_any (fun b => P b ∨ N ≤ b) g lb p eg (rows.map (·.1)) q c w0 hl (hp w0) X hX)
  rw [HML.out] at CI
  unfold Ent at eg
  clear hX hbd hp hO hks
  rcases HBD.out with hneg | ⟨i0, hi0, rfl⟩
  · have HV := Lib.hid (show leftR p rows = rows from leftR_none p rows fun i hi => by
      have := idxE_none (by rw [← HX.out]; exact hneg) i (by rw [HML.out]; exact hi)
      simpa using this)
    obtain rfl : X = -1 := by
      have := HX.out
      unfold idxE at this
      split at this <;> omega
    clear hneg
    go_enter Try.func54, Try.ntmps54
    go_wp2_with fail
    (with_reducible refine (CI.out _ HL.out).mono ?_)
    rintro e w2 ⟨rfl, hk2⟩
    have HK2 := Lib.hid hk2
    clear hk2
    go_wp2_with fail
    go_ret
    exact ⟨by rw [HV.out]; rfl, by rw [HV.out]; exact HO.out.kept HK2.out, gb_kept HK2.out _⟩
  · obtain ⟨hi1, hi2, hi3⟩ := idxE_some HX.out.symm
    rw [HML.out] at hi1
    rw [List.getElem_map] at hi2
    have hi4 : ∀ k (hk : k < i0) (hd : k < rows.length), p rows[k].1 = false := fun k hk hd => by
      have := hi3 k hk (by rw [HML.out]; exact hd)
      rwa [List.getElem_map] at this
    obtain ⟨gb, hq, -⟩ := HO.out.row i0 hi1
    subst hq
    have H0 := Lib.hid (show rows.take i0 = leftR p (rows.take (i0 + 1)) by
      rw [leftR_snoc p rows i0 hi1, hi2, if_pos rfl, List.append_nil, leftR_first p rows i0 hi4])
    clear hi2 hi3 hi4
    go_enter Try.func54, Try.ntmps54
    go_wp2_with fail
    (with_reducible refine (CI.out _ HL.out).mono ?_)
    rintro e w2 ⟨rfl, hk2⟩
    have HK2 := Lib.hid hk2
    have hne : ((i0 : Int) == -1) = false := by
      rw [beq_eq_false_iff_ne]; omega
    clear hk2
    go_wp2_with fail
    go_loopg [5, 6] (rows.length - (i0 + 1)) (fun m a b wr => ∃ (j i : Nat) (R : List (Entr × Hd)), m = rows.length - j ∧ j ≤ rows.length ∧ i < j ∧ a = .int .i64 i ∧ b = .int .i64 j ∧ R.length = rows.length ∧ OwnP KE P N wr (.slice (some ⟨gb, 0, none⟩) rows.length c) R ∧ w.grownBy wr (some gb) ∧ Hid (R.take i = leftR p (rows.take j)) ∧ Hid (R.drop j = rows.drop j))
    case atStart => exact ⟨i0 + 1, i0, rows, rfl, hi1, Nat.lt_succ_self _, rfl, by go_num, rfl, HO.out.kept HK2.out, gb_kept HK2.out _, H0, Lib.hid rfl⟩
    case round =>
      obtain ⟨j, i, R, hm, hj, hij, rfl, rfl, hRl, hOR, hgr, HT, HD⟩ := hrel
      have HOR := Lib.hid hOR
      have HGR := Lib.hid hgr
      have HRL := Lib.hid hRl
      clear hOR hgr hRl
      by_cases hlt : j < rows.length
      · have hjR : j < R.length := by rw [HRL.out]; exact hlt
        have HRJ := Lib.hid (show R[j] = rows[j] by
          have h1 := List.drop_eq_getElem_cons hjR
          have h2 := List.drop_eq_getElem_cons hlt
          rw [HD.out, h2] at h1
          injection h1 with h1 _
          exact h1.symm)
        have HDN := Lib.hid (show R.drop (j + 1) = rows.drop (j + 1) by
          have h1 := List.drop_eq_getElem_cons hjR
          have h2 := List.drop_eq_getElem_cons hlt
          rw [HD.out, h2] at h1
          injection h1 with _ h1
          exact h1.symm)
        have HSN := Lib.hid (leftR_snoc p rows j hlt)
        have HXL := Lib.hid (HOR.out.lies _ (List.getElem_mem hjR))
        obtain ⟨z0, z1, z2, z3, z4, z5, z6⟩ := HOR.out.cells7 HRL.out.symm j hjR
        obtain ⟨hgN, hgl⟩ := HOR.out.blk
        obtain ⟨r, hr⟩ : ∃ r, r = R[j] := ⟨_, rfl⟩
        rw [← hr] at z0 z1 z2 z3 z4 z5 z6 HRJ HXL
        rw [← HRJ.out] at HSN
        obtain ⟨⟨ek, x⟩, ⟨p', c', q', e'⟩⟩ := r
        have HR := Lib.hid hr
        clear hr
        have CG := fun W => HP.out W (ek, x) ⟨p', c', q', e'⟩ W (Kept.refl W)
        unfold entV at CG
        simp only [] at CG z0 z1 z2 z3 z4 z5 z6 HSN
        cases hpx : p (ek, x)
        · have HSN1 := Lib.hid (show leftR p (rows.take (j + 1)) = leftR p (rows.take j) ++ [((ek, x), (⟨p', c', q', e'⟩ : Hd))] by rw [HSN.out, hpx]; rfl)
          rw [hpx] at CG
          have CG1 := Lib.hid CG
          clear CG hpx
          go_wp2_with fail
          (with_reducible refine (CG1.out _).mono ?_)
          rintro en w4 ⟨rfl, hk4⟩
          have HB4 := Lib.hid ((Blk.fresh wr #[.string ek, .int .i64 x.k, .int .i64 x.n, .int .i64 x.f, .string x.s, .slice p' x.l.length c', .slice q' x.d.length e'] 34).kept hk4)
          obtain ⟨t0, t1, t2, t3, t4, t5, t6⟩ := HB4.out.cells7
          have O4 := Lib.hid ((HOR.out.kept ((Kept.refl wr).alloc #[.string ek, .int .i64 x.k, .int .i64 x.n, .int .i64 x.f, .string x.s, .slice p' x.l.length c', .slice q' x.d.length e'] 34)).kept hk4)
          obtain ⟨s0, s1, s2, s3, s4, s5, s6⟩ := O4.out.cells7 HRL.out.symm i (by omega)
          have sf := O4.out.free HRL.out.symm
          have sz := O4.out.blk.2
          have HG4 := Lib.hid (gb_thenK HGR.out (((Kept.refl wr).alloc #[.string ek, .int .i64 x.k, .int .i64 x.n, .int .i64 x.f, .string x.s, .slice p' x.l.length c', .slice q' x.d.length e'] 34).trans hk4))
          have XL4 := Lib.hid ((HXL.out.kept ((Kept.refl wr).alloc #[.string ek, .int .i64 x.k, .int .i64 x.n, .int .i64 x.f, .string x.s, .slice p' x.l.length c', .slice q' x.d.length e'] 34)).kept hk4)
          clear hk4 z0 z1 z2 z3 z4 z5 z6
          go_wp2_with fail
          have OP := OwnP.putW (P := P) (N := N) (w := w4) (g := gb) (cap := c) (acc := R) (by rw [HRL.out]; exact O4.out) i (ek, x) ⟨p', c', q', e'⟩ XL4.out
          have HOP := Lib.hid OP.1
          have HGP := Lib.hid (gb_trans HG4.out OP.2)
          have HLS := Lib.hid (show (R.set i ((ek, x), (⟨p', c', q', e'⟩ : Hd))).length = rows.length by rw [List.length_set, HRL.out])
          clear OP s0 s1 s2 s3 s4 s5 s6 sf t0 t1 t2 t3 t4 t5 t6
          go_roundg (rows.length - (j + 1))
          case measure => omega
          case rel =>
            refine ⟨j + 1, i + 1, R.set i ((ek, x), ⟨p', c', q', e'⟩), rfl, by omega, by omega, by go_num, by go_num, HLS.out, by have := HOP.out; rwa [HRL.out] at this, HGP.out, Lib.hid ?_, Lib.hid ?_⟩
            · rw [HSN1.out, List.take_succ_eq_append_getElem (by rw [HLS.out]; omega), List.getElem_set_self, List.take_set_of_le (Nat.le_refl _), HT.out]
            · rw [List.drop_set_of_lt (by omega)]; exact HDN.out
        · rw [hpx] at CG
          have CG1 := Lib.hid CG
          have HSN1 := Lib.hid (show leftR p (rows.take (j + 1)) = leftR p (rows.take j) by rw [HSN.out, hpx, if_pos rfl, List.append_nil])
          clear CG hpx
          go_wp2_with fail
          (with_reducible refine (CG1.out _).mono ?_)
          rintro en w4 ⟨rfl, hk4⟩
          have O4 := Lib.hid ((HOR.out.kept ((Kept.refl wr).alloc #[.string ek, .int .i64 x.k, .int .i64 x.n, .int .i64 x.f, .string x.s, .slice p' x.l.length c', .slice q' x.d.length e'] 34)).kept hk4)
          have HG4 := Lib.hid (gb_thenK HGR.out (((Kept.refl wr).alloc #[.string ek, .int .i64 x.k, .int .i64 x.n, .int .i64 x.f, .string x.s, .slice p' x.l.length c', .slice q' x.d.length e'] 34).trans hk4))
          go_wp2_with fail
          go_roundg (rows.length - (j + 1))
          case measure => omega
          case rel => exact ⟨j + 1, i, R, rfl, by omega, by omega, rfl, by go_num, HRL.out, O4.out, HG4.out, Lib.hid (by rw [HSN1.out]; exact HT.out), HDN⟩
      · obtain rfl : j = rows.length := by omega
        obtain ⟨Z, hcl⟩ := run_clear_entP HOR.out HRL.out.symm i (rows.length - i) (c - i) (by rw [HRL.out]; omega) rfl
        have HF := Lib.hid (show R.take i = leftR p rows by rw [HT.out, List.take_of_length_le (Nat.le_refl _)])
        have hic : i < c := by
          rcases HOR.out.own.2 with ⟨h', _⟩ | ⟨g', cap', cur, h', _, _, hnc, _⟩
          · cases h'
          · injection h' with _ _ e3
            omega
        have HLF := Lib.hid (show (leftR p rows).length = i by rw [← HF.out, List.length_take, HRL.out]; omega)
        have HOC := Lib.hid (OwnP.clear (P := P) (N := N) (w := wr) (g := gb) (cap := c) (acc := R) (by rw [HRL.out]; exact HOR.out) i (by rw [HRL.out]; omega) Z)
        have HGC := Lib.hid (gb_trans HGR.out (setCells_gb gb Z (i * 7) wr))
        go_wp2_with fail
        go_ret
        exact ⟨by rw [HLF.out]; rfl, by rw [HLF.out, ← HF.out]; exact HOC.out, HGC.out⟩

end Go.Proofs.Ytdfgbdonnpbfcaa
