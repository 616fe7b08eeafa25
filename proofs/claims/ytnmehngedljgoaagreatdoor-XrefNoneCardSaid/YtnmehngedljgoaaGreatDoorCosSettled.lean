/-
  What package cos's settled answers.
-/
import Derived.Test.YtnmehngedljgoaaGreatDoorCosD
import Derived.Test.YtnmehngedljgoaaGreatDoorLexM
import Derived.Test.YtnmehngedljgoaaGreatDoorCosIdx
import Derived.Test.YtnmehngedljgoaaGreatDoorCosArr
namespace Go.Proofs.YtnmehngedljgoaaGreatDoor
open Go.RowKit Cx

theorem OwnP.gb' {α : Type} {K : Kind α} {P : Nat → Prop} {N : Nat} {w w' : World} {v : Value} {acc : List α} {r : Option Nat} (h : OwnP K P N w v acc) (g : w.grownBy w' r) (hr : ∀ k, r = some k → ¬ (P k ∧ k < N)) (hne : v.ownBlock = none ∨ v.ownBlock ≠ r) : OwnP K P N w' v acc :=
  ⟨h.own.kept g hne, fun x hx => (h.lies x hx).keep fun b hb hlt => ⟨hb, g.block b hlt (fun e => hr b e.symm hb)⟩, Nat.le_trans h.base g.size⟩
theorem OwnP.off {α : Type} {K : Kind α} {P : Nat → Prop} {N : Nat} {w : World} {v : Value} {acc : List α} (h : OwnP K P N w v acc) {b : Nat} (hb : b < N) : v.ownBlock = none ∨ v.ownBlock ≠ some b := by
  cases hv : v.ownBlock with
  | none => exact .inl rfl
  | some k => exact .inr (fun e => by injection e with e; have := (h.lt k hv).1; omega)
theorem OwnP.nil {α : Type} (K : Kind α) (P : Nat → Prop) (N : Nat) (w : World) (hN : N ≤ w.heap.size) : OwnP K P N w (.slice none 0 0) [] := ⟨World.ownsRow_nil _ _ _ _, fun _ h => absurd h List.not_mem_nil, hN⟩
theorem OwnP.toK {M N N' : Nat} {w : World} {v : Value} {acc : List (Entr × Hd)} (h : OwnP KE (fun b => N ≤ b ∧ b < M) N' w v acc) (hN : N ≤ N') : OwnK KE N w v acc := by
  refine ⟨⟨h.own.1, ?_⟩, fun r hr => (h.lies r hr).weak fun b hb => ⟨hb.1.1, fun e => by have := (h.lt b e.symm).1; omega⟩⟩
  rcases h.own.2 with h0 | ⟨g, cap, cur, hv, hb, rest⟩
  · exact .inl h0
  · exact .inr ⟨g, cap, cur, hv, Nat.le_trans hN hb, rest⟩

set_option maxRecDepth 100000 in
set_option maxHeartbeats 4000000 in
theorem settled_any : SetC := by
  intro acc p cap N w hO hlen hks
  have HKS := Lib.hid hks
  have HN := Lib.hid (fun o h w b hb => isNull_any o h w b hb)
  unfold objV at HN
  have LD := Lib.hid (show Lies (Cel (fun b => N ≤ b ∧ b < w.heap.size) w) (dictO (acc.map (·.1))) ⟨none, 0, p, cap⟩ from
    (hO.dict (by unfold maxLen; omega) hks 6 0 0).keep fun b hb hlt => ⟨⟨hb, hlt⟩, rfl⟩)
  have HML := Lib.hid (show (acc.map (·.1)).length = acc.length from List.length_map _)
  have HKN := Lib.hid (show acc.length = 0 ∨ N ≤ w.heap.size + 1 by
    rcases hO.own.2 with ⟨_, h0⟩ | ⟨g, cap', cur, hv, hb, hg, _⟩
    · exact .inl h0
    · have := (Array.getElem?_eq_some_iff.1 hg).1
      exact .inr (by omega))
  have IM := Lib.hid (Idx.made w)
  have KM := Lib.hid ((Kept.refl w).allocO (.map #[] 0))
  have OM := Lib.hid (OwnP.nil KE (fun b => N ≤ b ∧ b < w.heap.size) (w.heap.size + 1) (w.alloc (.map #[] 0)) (by simp))
  clear hO hks
  have hmm : ∀ (t : TypeId) (w : World), (Instr.makeMap t none).run Tryz.prog w = .ok (.map (some w.heap.size)) (w.alloc (.map #[] 0)) := fun _ _ => rfl
  go_enter Tryz.func125, Tryz.ntmps125
  go_wp2_with fail
  go_loopg [4, 12] (acc.length) (fun m a i wr => ∃ (j : Nat) (rows : List (Entr × Hd)) (q : Option Addr) (c : Nat) (J : ByteArray → Option Nat), m = acc.length - j ∧ j ≤ acc.length ∧ i = .int .i64 j ∧ a = .slice q rows.length c ∧ rows.length ≤ j ∧ Kept w wr ∧ w.heap.size < wr.heap.size ∧ Idx wr w.heap.size j J ∧ OwnP KE (fun b => N ≤ b ∧ b < w.heap.size) (w.heap.size + 1) wr (.slice q rows.length c) rows ∧ Hid (Cx.Inv (rows.map (·.1)) J (Cx.settle ((acc.map (·.1)).take j))) ∧ Hid (∀ r ∈ rows, r.1.1.size ≤ maxLen) ∧ Hid (rows.length = 0 → q = none ∧ c = 0))
  case atStart => exact ⟨0, [], none, 0, _, by omega, Nat.zero_le _, rfl, rfl, Nat.le_refl _, KM.out, by simp, IM.out, OM.out, Lib.hid Cx.Inv.nil, Lib.hid (fun _ h => absurd h List.not_mem_nil), Lib.hid (fun _ => ⟨rfl, rfl⟩)⟩
  case round =>
    obtain ⟨j, rows, q, c, J, hm, hj, rfl, rfl, hrl, hk, hsz, hI, hOR, HV, HKR, HQ0⟩ := hrel
    have HK := Lib.hid hk
    have HI := Lib.hid hI
    have HO := Lib.hid hOR
    clear hk hI hOR IM KM OM
    by_cases hlt : j < acc.length
    · obtain ⟨ek, x, bb, off, ⟨p', c', q', e'⟩, hxe, hqq, hPb, hbl, hx, hks, z0, y0, y1, y2, y3, y4, y5⟩ := (LD.out.kept HK.out).entry j (by rw [dictO, Ob.d, HML.out]; exact hlt)
      simp only [dictO, Ob.d] at hxe
      simp only [] at hqq y4 y5
      subst hqq
      have XL := Lib.hid hx
      have HEK := Lib.hid hks
      have HSN := Lib.hid (show Cx.settle ((acc.map (·.1)).take (j + 1)) = setD (Cx.settle ((acc.map (·.1)).take j)) ek x by
        rw [settle_snoc _ j (by rw [HML.out]; exact hlt), hxe])
      have HB1 := Lib.hid (Blk.fresh wr #[.string ek, .int .i64 x.k, .int .i64 x.n, .int .i64 x.f, .string x.s, .slice p' x.l.length c', .slice q' x.d.length e'] 57)
      have I1 := Lib.hid (HI.out.keptK ((Kept.refl wr).alloc #[.string ek, .int .i64 x.k, .int .i64 x.n, .int .i64 x.f, .string x.s, .slice p' x.l.length c', .slice q' x.d.length e'] 57))
      have O1 := Lib.hid (HO.out.kept ((Kept.refl wr).alloc #[.string ek, .int .i64 x.k, .int .i64 x.n, .int .i64 x.f, .string x.s, .slice p' x.l.length c', .slice q' x.d.length e'] 57))
      have K1 := Lib.hid (HK.out.alloc #[.string ek, .int .i64 x.k, .int .i64 x.n, .int .i64 x.f, .string x.s, .slice p' x.l.length c', .slice q' x.d.length e'] 57)
      clear hxe hPb hx hks
      cases hJ : J ek with
      | none =>
        cases hx0 : (x.k == 0)
        · have HV1 := Lib.hid (HV.out.push hJ (v := x) (by simpa using hx0))
          go_wp2_with (at_lookup; refine wpList_idx_ok rfl _ _ rfl I1.out rfl ek rfl HEK.out ?_; rw [hJ]; simp only [Option.getD_none, Option.isSome_none])
          (with_reducible refine (HN.out x ⟨p', c', q', e'⟩ _ false hx0.symm).mono ?_)
          rintro en w4 ⟨rfl, hk4⟩
          have HB4 := Lib.hid (HB1.out.kept hk4)
          obtain ⟨t0, t1, t2, t3, t4, t5, t6⟩ := HB4.out.cells7
          have tz := HB4.out.lt
          have I4 := Lib.hid (I1.out.keptK hk4)
          have O4 := Lib.hid (O1.out.kept hk4)
          have K4 := Lib.hid (K1.out.trans hk4)
          have XL4 := Lib.hid ((XL.out.kept ((Kept.refl wr).alloc #[.string ek, .int .i64 x.k, .int .i64 x.n, .int .i64 x.f, .string x.s, .slice p' x.l.length c', .slice q' x.d.length e'] 57)).kept hk4)
          have S4 : w.heap.size < w4.heap.size := by omega
          clear hk4 z0 y0 y1 y2 y3 y4 y5
          go_wp2_with (first
            | (at_mapUpdate; refine wpList_idx_put rfl _ _ _ rfl I4.out (by unfold maxLen; omega) rfl ek rfl HEK.out rows.length rfl (by omega) ?_; intro w5 hI5 hg5; have HB5 := Lib.hid (HB4.out.gb hg5 (by intro e; injection e with e; omega)); have O5 := Lib.hid (O4.out.gb' hg5 (fun k hk hp => by injection hk with hk; omega) (O4.out.off (Nat.lt_succ_self _))); obtain ⟨t0, t1, t2, t3, t4, t5, t6⟩ := HB5.out.cells7)
            | (at_builtin; go_loud (refine wpList_app_entP rfl _ _ rfl _ _ rows O5.out rfl ((ek, x), (⟨p', c', q', e'⟩ : Hd)) _ rfl w5.heap.size rfl rfl (by omega) ?_)))
          intro g cap2 w6 own6 hg6
          have K5 := Lib.hid (K4.out.gbOwn hg5 (fun k hk => by injection hk with hk; omega))
          have XL5 := Lib.hid (show Lies (Cel (fun b => (N ≤ b ∧ b < w.heap.size) ∧ b < w.heap.size + 1) w5) x ⟨p', c', q', e'⟩ from XL4.out.keep fun b hb hlt => ⟨⟨hb, by omega⟩, hg5.block b hlt (fun e => by injection e with e; omega)⟩)
          have I5 := Lib.hid hI5
          have O6 := Lib.hid (OwnP.app (x := (((ek, x), (⟨p', c', q', e'⟩ : Hd)) : Entr × Hd)) O5.out XL5.out own6 hg6)
          have K6 := Lib.hid ((K5.out.allocO _).gbOwn hg6 (fun k hk => by have := (O5.out.lt k hk).1; omega))
          have I6 := Lib.hid ((I5.out.keptK ((Kept.refl w5).allocO (.cells (cells7 (ek, x) ⟨p', c', q', e'⟩).toArray 57))).kept hg6 (by
            rcases O5.out.off (Nat.lt_succ_self _) with h0 | h0
            · rw [h0]; simp
            · exact fun e => h0 e.symm))
          have S6 : w.heap.size < w6.heap.size := by have h1 := hg5.size; have h2 := hg6.size; simp at h2; omega
          have HLen := Lib.hid (show (rows ++ [((ek, x), (⟨p', c', q', e'⟩ : Hd))]).length = rows.length + 1 by simp)
          have HML2 := Lib.hid (show (rows.map (·.1)).length = rows.length from List.length_map _)
          clear own6 hg6 hI5 hg5
          go_wp2_with fail
          go_roundg (acc.length - (j + 1))
          case measure => omega
          case rel =>
            refine ⟨j + 1, rows ++ [((ek, x), ⟨p', c', q', e'⟩)], some ⟨g, 0, none⟩, cap2, _, rfl, by omega, by go_num, by rw [HLen.out], by rw [HLen.out]; omega, K6.out, S6, I6.out, by rw [HLen.out]; exact O6.out, Lib.hid ?_, Lib.hid fun r hr => ?_, Lib.hid fun h0 => by rw [HLen.out] at h0; omega⟩
            · rw [HSN.out, List.map_append]
              have := HV1.out
              rw [HML2.out] at this
              exact this
            · rcases List.mem_append.1 hr with hr | hr
              · exact HKR.out r hr
              · rw [List.mem_singleton.1 hr]; exact HEK.out
        · have HV1 := Lib.hid (HV.out.skip hJ (v := x) (by simpa using hx0))
          go_wp2_with (at_lookup; refine wpList_idx_ok rfl _ _ rfl I1.out rfl ek rfl HEK.out ?_; rw [hJ]; simp only [Option.getD_none, Option.isSome_none])
          (with_reducible refine (HN.out x ⟨p', c', q', e'⟩ _ true hx0.symm).mono ?_)
          rintro en w4 ⟨rfl, hk4⟩
          have HB4 := Lib.hid (HB1.out.kept hk4)
          obtain ⟨t0, t1, t2, t3, t4, t5, t6⟩ := HB4.out.cells7
          have tz := HB4.out.lt
          have I4 := Lib.hid (I1.out.keptK hk4)
          have O4 := Lib.hid (O1.out.kept hk4)
          have K4 := Lib.hid (K1.out.trans hk4)
          have XL4 := Lib.hid ((XL.out.kept ((Kept.refl wr).alloc #[.string ek, .int .i64 x.k, .int .i64 x.n, .int .i64 x.f, .string x.s, .slice p' x.l.length c', .slice q' x.d.length e'] 57)).kept hk4)
          have S4 : w.heap.size < w4.heap.size := by omega
          clear hk4 z0 y0 y1 y2 y3 y4 y5
          go_wp2_with fail
          go_roundg (acc.length - (j + 1))
          case measure => omega
          case rel => exact ⟨j + 1, rows, q, c, J, rfl, by omega, by go_num, rfl, by omega, K4.out, S4, I4.out.mono (Nat.le_succ _), O4.out, Lib.hid (by rw [HSN.out]; exact HV1.out), HKR, HQ0⟩
      | some i =>
        obtain ⟨hiM, hik, hil⟩ := HV.out.there ek i hJ
        have hi : i < rows.length := by rwa [List.length_map] at hiM
        rw [List.getElem_map] at hik
        have hik' : (rows[i]'hi).1.1 = ek := hik
        obtain ⟨g, hq, -⟩ := O1.out.row i hi
        subst hq
        have hgne : wr.heap.size ≠ g := by have := (HO.out.blk).2; omega
        have hgne' : g ≠ wr.heap.size := Ne.symm hgne
        have hgm : some w.heap.size ≠ some g := by have := (HO.out.blk).1; intro e; injection e with e; omega
        have HKI := Lib.hid hik'
        clear hik hik' hil hiM
        cases hx0 : (x.k == 0)
        · have HV1 := Lib.hid (HV.out.replace hJ (v := x) (by simpa using hx0))
          go_wp2_with (at_lookup; refine wpList_idx_ok rfl _ _ rfl I1.out rfl ek rfl HEK.out ?_; rw [hJ]; simp only [Option.getD_some, Option.isSome_some])
          (with_reducible refine (HN.out x ⟨p', c', q', e'⟩ _ false hx0.symm).mono ?_)
          rintro en w4 ⟨rfl, hk4⟩
          have HB4 := Lib.hid (HB1.out.kept hk4)
          obtain ⟨t0, t1, t2, t3, t4, t5, t6⟩ := HB4.out.cells7
          have tz := HB4.out.lt
          have I4 := Lib.hid (I1.out.keptK hk4)
          have O4 := Lib.hid (O1.out.kept hk4)
          have K4 := Lib.hid (K1.out.trans hk4)
          have XL4 := Lib.hid ((XL.out.kept ((Kept.refl wr).alloc #[.string ek, .int .i64 x.k, .int .i64 x.n, .int .i64 x.f, .string x.s, .slice p' x.l.length c', .slice q' x.d.length e'] 57)).kept hk4)
          have S4 : w.heap.size < w4.heap.size := by omega
          clear hk4 z0 y0 y1 y2 y3 y4 y5
          obtain ⟨s0, s1, s2, s3, s4, s5, s6⟩ := O4.out.cells7 rfl i hi
          have sf := O4.out.free rfl
          have sz := O4.out.blk.2
          have OP := Lib.hid (O4.out.put i hi x ⟨p', c', q', e'⟩ (XL4.out.weak fun b hb => ⟨hb, by omega⟩))
          have GP := Lib.hid (O4.out.put_gb i x ⟨p', c', q', e'⟩)
          have HLS := Lib.hid (show (rows.set i ((rows[i].1.1, x), (⟨p', c', q', e'⟩ : Hd))).length = rows.length from List.length_set ..)
          have K5 := Lib.hid (K4.out.gbOwn GP.out (fun k hk => by injection hk with hk; have := (HO.out.blk).1; omega))
          have I5 := Lib.hid (I4.out.kept GP.out hgm)
          have S5 := Nat.lt_of_lt_of_le S4 GP.out.size
          clear s0 s1 s2 s3 s4 s5 s6 sf sz
          obtain ⟨s0, s1, s2, s3, s4, s5, s6⟩ := O4.out.cells7 rfl i hi
          have sf := O4.out.free rfl
          have sz := O4.out.blk.2
          go_wp2_with fail
          go_roundg (acc.length - (j + 1))
          case measure => omega
          case rel =>
            refine ⟨j + 1, rows.set i ((rows[i].1.1, x), (⟨p', c', q', e'⟩ : Hd)), some ⟨g, 0, none⟩, c, J, rfl, by omega, by go_num, by rw [HLS.out], by rw [HLS.out]; omega, K5.out, S5, I5.out.mono (Nat.le_succ _), by rw [HLS.out]; exact OP.out, Lib.hid ?_, Lib.hid fun r hr => ?_, Lib.hid fun h0 => by rw [HLS.out] at h0; omega⟩
            · rw [HSN.out, List.map_set, HKI.out]; exact HV1.out
            · rcases List.mem_or_eq_of_mem_set hr with hr | rfl
              · exact HKR.out r hr
              · simp only []; rw [HKI.out]; exact HEK.out
        · have HV1 := Lib.hid (HV.out.strike hJ (v := x) (by simpa using hx0))
          go_wp2_with (at_lookup; refine wpList_idx_ok rfl _ _ rfl I1.out rfl ek rfl HEK.out ?_; rw [hJ]; simp only [Option.getD_some, Option.isSome_some])
          (with_reducible refine (HN.out x ⟨p', c', q', e'⟩ _ true hx0.symm).mono ?_)
          rintro en w4 ⟨rfl, hk4⟩
          have HB4 := Lib.hid (HB1.out.kept hk4)
          obtain ⟨t0, t1, t2, t3, t4, t5, t6⟩ := HB4.out.cells7
          have tz := HB4.out.lt
          have I4 := Lib.hid (I1.out.keptK hk4)
          have O4 := Lib.hid (O1.out.kept hk4)
          have K4 := Lib.hid (K1.out.trans hk4)
          have XL4 := Lib.hid ((XL.out.kept ((Kept.refl wr).alloc #[.string ek, .int .i64 x.k, .int .i64 x.n, .int .i64 x.f, .string x.s, .slice p' x.l.length c', .slice q' x.d.length e'] 57)).kept hk4)
          have S4 : w.heap.size < w4.heap.size := by omega
          clear hk4 z0 y0 y1 y2 y3 y4 y5
          obtain ⟨s0, s1, s2, s3, s4, s5, s6⟩ := O4.out.cells7 rfl i hi
          have sf := O4.out.free rfl
          have sz := O4.out.blk.2
          have OP := Lib.hid (O4.out.put i hi nul Hd.none (Lies.flat _ 0 0 0 ⟨#[]⟩ _ (Nat.zero_le _)))
          have GP := Lib.hid (O4.out.put_gb i nul Hd.none)
          have HLS := Lib.hid (show (rows.set i ((rows[i].1.1, nul), Hd.none)).length = rows.length from List.length_set ..)
          have I5 := Lib.hid (I4.out.kept GP.out hgm)
          go_wp2_with (at_delete; refine wpList_idx_del rfl _ _ rfl I5.out rfl ek rfl HEK.out ?_; intro w6 hI6 hg6)
          have K6 := Lib.hid ((K4.out.gbOwn GP.out (fun k hk => by injection hk with hk; have := (HO.out.blk).1; omega)).gbOwn hg6 (fun k hk => by injection hk with hk; omega))
          have O6 := Lib.hid (OP.out.gb' hg6 (fun k hk hp => by injection hk with hk; omega) (OP.out.off (Nat.lt_succ_self _)))
          have I6 := Lib.hid hI6
          have S6 : w.heap.size < w6.heap.size := Nat.lt_of_lt_of_le S4 (Nat.le_trans GP.out.size hg6.size)
          clear hI6 hg6 s0 s1 s2 s3 s4 s5 s6 sf sz t0 t1 t2 t3 t4 t5 t6
          go_roundg (acc.length - (j + 1))
          case measure => omega
          case rel =>
            refine ⟨j + 1, rows.set i ((rows[i].1.1, nul), Hd.none), some ⟨g, 0, none⟩, c, _, rfl, by omega, by go_num, by rw [HLS.out], by rw [HLS.out]; omega, K6.out, S6, I6.out.mono (Nat.le_succ _), by rw [HLS.out]; exact O6.out, Lib.hid ?_, Lib.hid fun r hr => ?_, Lib.hid fun h0 => by rw [HLS.out] at h0; omega⟩
            · rw [HSN.out, List.map_set, HKI.out]; exact HV1.out
            · rcases List.mem_or_eq_of_mem_set hr with hr | rfl
              · exact HKR.out r hr
              · simp only []; rw [HKI.out]; exact HEK.out
    · obtain rfl : j = acc.length := by omega
      have HVE := Lib.hid (show Cx.live (rows.map (·.1)) = Cx.settle (acc.map (·.1)) by
        have := HV.out.live
        rwa [List.take_of_length_le (by rw [HML.out]; exact Nat.le_refl _)] at this)
      go_wp2_with fail
      (with_reducible refine (DeleteFunc_any (fun b => N ≤ b ∧ b < w.heap.size) (w.heap.size + 1) _ #[] (fun e => e.2.k == 0) ent_settled1 rows q c wr HO.out HKR.out (by unfold maxLen; omega) settled1_asks).mono ?_)
      rintro e w7 ⟨rfl, hO7, hg7⟩
      have O7 := Lib.hid hO7
      have K7 := Lib.hid (HK.out.gbOwn hg7 (fun k hk => by have := (HO.out.lt k hk).1; omega))
      have HLL := Lib.hid (show (leftR (fun e => e.2.k == 0) rows).length ≤ rows.length from List.length_filter_le _ _)
      clear hO7 hg7
      go_wp2_with fail
      go_ret
      refine ⟨leftR (fun e => e.2.k == 0) rows, q, c, rfl, K7.out, by rw [leftR_map, ← HVE.out]; rfl, Nat.le_trans HLL.out (by omega), fun r hr => HKR.out r ((List.mem_filter.1 hr).1), ?_⟩
      rcases HKN.out with h0 | hN
      · obtain ⟨rfl, rfl⟩ := HQ0.out (by omega)
        have hr0 : rows = [] := List.eq_nil_of_length_eq_zero (by omega)
        subst hr0
        exact OwnK.nil _ _ _
      · exact O7.out.toK hN

end Go.Proofs.YtnmehngedljgoaaGreatDoor
