import Derived.Test.YtoablpaehhjchaaGreatDoorXrfB
namespace Go.Proofs.YtoablpaehhjchaaGreatDoor
open Go.RowKit Rx
set_option linter.unusedSimpArgs false
set_option linter.unusedVariables false

set_option maxRecDepth 100000 in
set_option maxHeartbeats 8000000 in
theorem xParseL_any (s : ByteArray) (a : Int) (w : World) (hs : s.size ≤ 65536) (hm : HasMax w) (X : Int × List Xent × Cx.Ob) (hX : X = parseX s.data.toList a) :
    Calls Tryz.prog 123 #[.string s, .int .i64 a] w fun e w' => ∃ v h, e = .returned (.tuple #[v, objV X.2.2 h, .int .i64 X.1]) ∧ Ents 65 w' w.heap.size v X.2.1 ∧ Kept w w' ∧ Lies (Cel (fun b => w.heap.size ≤ b) w') X.2.2 h := by
  have K1 := Lib.hid ((Kept.refl w).alloc nul6 39)
  have K2 := Lib.hid (K1.out.alloc #[.string s, .int .i64 a] 93)
  have R2 := Lib.hid (show Rdr s a (w.heap.size + 1) ((w.alloc (.cells nul6 39)).alloc (.cells #[.string s, .int .i64 a] 93)) from Blk.fresh' _ _ (by simp))
  have B2 := Lib.hid ((Blk.fresh w nul6 39).alloc (.cells #[.string s, .int .i64 a] 93))
  obtain ⟨E, hE⟩ : ∃ E, E = entsX s.data.toList a := ⟨_, rfl⟩
  have CE := Lib.hid (entries_any s a (w.heap.size + 1) _ hs (hm.kept K2.out) R2.out E hE)
  obtain ⟨O, hO⟩ : ∃ O, O = Cx.parse s.data.toList E.2.2 := ⟨_, rfl⟩
  have CO := Lib.hid (fun W (hm : HasMax W) => cosParse_any settled_any s E.2.2 W (by omega) hm O hO)
  have HX := Lib.hid (show X = if E.1 = 0 then (if O.1 = 0 then (if O.2.1.k = 6 then (0, E.2.1, O.2.1) else (3, [], Cx.nul)) else (O.1, [], Cx.nul)) else (E.1, [], Cx.nul) by rw [hX, parseX, ← hE, ← hO])
  have HM := Lib.hid hm
  have HSL := Lib.hid (show w.heap.size < ((w.alloc (.cells nul6 39)).alloc (.cells #[.string s, .int .i64 a] 93)).heap.size by simp; omega)
  have HSZ := Lib.hid (show w.heap.size ≤ ((w.alloc (.cells nul6 39)).alloc (.cells #[.string s, .int .i64 a] 93)).heap.size by simp; omega)
  clear hX hE hO hm
  obtain ⟨ee, es, ep⟩ := E
  obtain ⟨oe, ob, op⟩ := O
  unfold objV at CO
  unfold objV
  simp only [] at CE CO HX
  by_cases he : ee = 0
  · subst he
    have TAILK : True := trivial
    by_cases ho : oe = 0
    · subst ho
      by_cases hk : ob.k = 6
      · have HV := Lib.hid (show X = (0, es, ob) by rw [HX.out, if_pos rfl, if_pos rfl, if_pos hk])
        have hk6 : (ob.k != 6) = false := by rw [hk]; rfl
        clear HX hk
        go_enter Tryz.func123, Tryz.ntmps123
        go_wp2_with (first
          | (go_at_call 154; refine CE.out.mono ?_; rintro e w3 ⟨v, rfl, hen, ⟨a3, ha3, hr3⟩, hg3⟩; obtain rfl := ha3 (by trivial); have E3 := Lib.hid hen; have R3 := Lib.hid hr3; have K3 := Lib.hid (show Kept w w3 from Below.grown K2.out hg3 HSZ.out (fun k e => by cases e; omega)); have B3 := Lib.hid (gbOther B2.out hg3 (by simp)); obtain ⟨r0, r1⟩ := hr3.cells2; have M3 := Lib.hid (HM.out.kept K3.out); clear hen hr3 hg3 ha3)
          | (go_at_call 155; refine (CO.out _ M3.out).mono ?_; rintro e w4 ⟨h4, rfl, hk4, hx4⟩; have K4 := Lib.hid (K3.out.trans hk4); have E4 := Lib.hid (E3.out.kept hk4); have L4 := Lib.hid hx4; have S4 := Lib.hid (show w.heap.size < w3.heap.size from B3.out.lt); have B4 := Lib.hid (B3.out.kept hk4); obtain ⟨b0, b1, b2, b3, b4, b5⟩ := B4.out.cells6; have bf := B4.out.free; have bl := B4.out.lt; clear hk4 hx4))
        obtain ⟨p0, q0, rfl, hpc⟩ : ∃ p0 q0, v = .slice p0 es.length q0 ∧ True := by obtain ⟨p, c, hv, _⟩ := E4.out.sl; exact ⟨p, c, hv, trivial⟩
        go_region_with (fail)
        all_goals
          go_wp2_with fail
          refine bodyPost_ret (v := .tuple #[.slice p0 es.length q0, .agg #[.int .i64 ob.k, .int .i64 ob.n, .int .i64 ob.f, .string ob.s, .slice h4.p ob.l.length h4.c, .slice h4.q ob.d.length h4.e], .int .i64 0]) ?_ rfl ⟨.slice p0 es.length q0, h4, by rw [HV.out], ?_, ?_, ?_⟩
          · simp [results, Tryz.results123, go_sem, b0, b1, b2, b3, b4, b5, bl]
          · rw [HV.out]
            refine Ents.base ?_ HSZ.out
            repeat (with_reducible first | exact E4.out | refine Ents.drew ?_ | refine Ents.alloc ?_ _ | refine Ents.setOther ?_ HSL.out _ _)
          · repeat (with_reducible first | exact K4.out | refine Kept.drew ?_ | refine Kept.drewN ?_ _ | refine Kept.alloc ?_ _ _ | refine Kept.set ?_ (Nat.le_refl _) _)
          · rw [HV.out]
            refine Lies.weak (P := fun b => w3.heap.size ≤ b) ?_ (fun b hb => by have := S4.out; omega)
            have NK := Lib.hid (show ∀ b, w3.heap.size ≤ b → b ≠ w.heap.size from fun b hb => by have := S4.out; omega)
            repeat (with_reducible first | exact L4.out | refine Lies.drew ?_ | refine Lies.set ?_ NK.out _ | refine Lies.alloc ?_ _)
      · have HV := Lib.hid (show X = (3, [], Cx.nul) by rw [HX.out, if_pos rfl, if_pos rfl, if_neg hk])
        have hk6 : (ob.k != 6) = true := by simpa using hk
        clear HX hk
        go_enter Tryz.func123, Tryz.ntmps123
        go_wp2_with (first | (go_at_call 154; refine CE.out.mono ?_; rintro e w3 ⟨v, rfl, hen, ⟨a3, ha3, hr3⟩, hg3⟩; obtain rfl := ha3 (by trivial); have E3 := Lib.hid hen; have R3 := Lib.hid hr3; have K3 := Lib.hid (show Kept w w3 from Below.grown K2.out hg3 HSZ.out (fun k e => by cases e; omega)); have B3 := Lib.hid (gbOther B2.out hg3 (by simp)); obtain ⟨r0, r1⟩ := hr3.cells2; have M3 := Lib.hid (HM.out.kept K3.out); clear hen hr3 hg3 ha3) | (go_at_call 155; refine (CO.out _ M3.out).mono ?_; rintro e w4 ⟨h4, rfl, hk4, hx4⟩; have K4 := Lib.hid (K3.out.trans hk4); have E4 := Lib.hid (E3.out.kept hk4); have L4 := Lib.hid hx4; have S4 := Lib.hid (show w.heap.size < w3.heap.size from B3.out.lt); have B4 := Lib.hid (B3.out.kept hk4); obtain ⟨b0, b1, b2, b3, b4, b5⟩ := B4.out.cells6; have bf := B4.out.free; have bl := B4.out.lt; clear hk4 hx4))
        refine bodyPost_ret (v := .tuple #[.slice none 0 0, .agg #[.int .i64 0, .int .i64 0, .int .i64 0, .string ⟨#[]⟩, .slice none 0 0, .slice none 0 0], .int .i64 3]) ?_ rfl ⟨.slice none 0 0, Hd.none, by rw [HV.out]; first | done | rfl, ?_, ?_, by rw [HV.out]; exact Lies.flat _ _ _ _ _ _ (Nat.zero_le _)⟩
        · simp [results, Tryz.results123, go_sem, b0, b1, b2, b3, b4, b5, bl]
        · rw [HV.out]; exact World.ownsRow_nil _ _ _ _
        · repeat (with_reducible first | exact K4.out | refine Kept.drew ?_ | refine Kept.drewN ?_ _ | refine Kept.alloc ?_ _ _ | refine Kept.set ?_ (Nat.le_refl _) _)
    · have HV := Lib.hid (show X = (oe, [], Cx.nul) by rw [HX.out, if_pos rfl, if_neg ho])
      have hne : (oe != 0) = true := by simpa using ho
      clear HX ho
      go_enter Tryz.func123, Tryz.ntmps123
      go_wp2_with (first | (go_at_call 154; refine CE.out.mono ?_; rintro e w3 ⟨v, rfl, hen, ⟨a3, ha3, hr3⟩, hg3⟩; obtain rfl := ha3 (by trivial); have E3 := Lib.hid hen; have R3 := Lib.hid hr3; have K3 := Lib.hid (show Kept w w3 from Below.grown K2.out hg3 HSZ.out (fun k e => by cases e; omega)); have B3 := Lib.hid (gbOther B2.out hg3 (by simp)); obtain ⟨r0, r1⟩ := hr3.cells2; have M3 := Lib.hid (HM.out.kept K3.out); clear hen hr3 hg3 ha3) | (go_at_call 155; refine (CO.out _ M3.out).mono ?_; rintro e w4 ⟨h4, rfl, hk4, hx4⟩; have K4 := Lib.hid (K3.out.trans hk4); have E4 := Lib.hid (E3.out.kept hk4); have L4 := Lib.hid hx4; have S4 := Lib.hid (show w.heap.size < w3.heap.size from B3.out.lt); have B4 := Lib.hid (B3.out.kept hk4); obtain ⟨b0, b1, b2, b3, b4, b5⟩ := B4.out.cells6; have bf := B4.out.free; have bl := B4.out.lt; clear hk4 hx4))
      refine bodyPost_ret (v := .tuple #[.slice none 0 0, .agg #[.int .i64 0, .int .i64 0, .int .i64 0, .string ⟨#[]⟩, .slice none 0 0, .slice none 0 0], .int .i64 oe]) ?_ rfl ⟨.slice none 0 0, Hd.none, by rw [HV.out]; first | done | rfl, ?_, ?_, by rw [HV.out]; exact Lies.flat _ _ _ _ _ _ (Nat.zero_le _)⟩
      · simp [results, Tryz.results123, go_sem, b0, b1, b2, b3, b4, b5, bl]
      · rw [HV.out]; exact World.ownsRow_nil _ _ _ _
      · repeat (with_reducible first | exact K4.out | refine Kept.drew ?_ | refine Kept.drewN ?_ _ | refine Kept.alloc ?_ _ _ | refine Kept.set ?_ (Nat.le_refl _) _)
  · have HV := Lib.hid (show X = (ee, [], Cx.nul) by rw [HX.out, if_neg he])
    have hne : (ee != 0) = true := by simpa using he
    clear HX he
    go_enter Tryz.func123, Tryz.ntmps123
    go_wp2_with (go_at_call 154; refine CE.out.mono ?_; rintro e w3 ⟨v, rfl, hen, ⟨a3, ha3, hr3⟩, hg3⟩; obtain ⟨p9, c9, rfl, hsl9⟩ := hen.sl; have K3 := Lib.hid (show Kept w w3 from Below.grown K2.out hg3 HSZ.out (fun k e => by cases e; omega)); have B3 := Lib.hid (gbOther B2.out hg3 (by simp)); obtain ⟨b0, b1, b2, b3, b4, b5⟩ := B3.out.cells6; have bf := B3.out.free; have bl := B3.out.lt; clear hen hr3 hg3 ha3 hsl9)
    refine bodyPost_ret (v := .tuple #[.slice none 0 0, .agg #[.int .i64 0, .int .i64 0, .int .i64 0, .string ⟨#[]⟩, .slice none 0 0, .slice none 0 0], .int .i64 ee]) ?_ rfl ⟨.slice none 0 0, Hd.none, by rw [HV.out]; first | done | rfl, ?_, ?_, by rw [HV.out]; exact Lies.flat _ _ _ _ _ _ (Nat.zero_le _)⟩
    · simp [results, Tryz.results123, go_sem, b0, b1, b2, b3, b4, b5, bl]
    · rw [HV.out]; exact World.ownsRow_nil _ _ _ _
    · repeat (with_reducible first | exact K3.out | refine Kept.drew ?_ | refine Kept.drewN ?_ _ | refine Kept.alloc ?_ _ _ | refine Kept.set ?_ (Nat.le_refl _) _)

end Go.Proofs.YtoablpaehhjchaaGreatDoor
