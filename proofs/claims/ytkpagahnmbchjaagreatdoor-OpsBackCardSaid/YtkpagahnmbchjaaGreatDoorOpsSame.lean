/-
  Operators that are the same: what the document's Same answers of them.
-/
import Derived.Test.YtkpagahnmbchjaaGreatDoorOpsP
import Derived.Test.YtkpagahnmbchjaaGreatDoorCosExact
import Derived.BigQuiet
namespace Go.Proofs.YtkpagahnmbchjaaGreatDoor
open Go.RowKit Cx
set_option linter.unusedSimpArgs false
set_option linter.unusedVariables false

set_option maxRecDepth 100000 in
set_option maxHeartbeats 60000000 in
theorem SameP_any (r1 r2 : ORow) (p1 p2 : Option Addr) (c1 c2 : Nat) (w : World) (h1 : OpR (fun _ => True) w p1 r1) (h2 : OpR (fun _ => True) w p2 r2) (he : r1.map (·.1) = r2.map (·.1)) (hb : r1.length ≤ 1099511627776) :
    Calls Tryz.prog 13 #[.slice p1 r1.length c1, .slice p2 r2.length c2] w fun e w' => e = .returned (.bool true) ∧ Kept w w' := by
  have H1 := Lib.hid h1
  have H2 := Lib.hid h2
  have hlen : r1.length = r2.length := by have := congrArg List.length he; simpa using this
  have HE := Lib.hid (show ∀ i (a : i < r1.length) (b : i < r2.length), r1[i].1 = r2[i].1 from fun i a b => by
    have := congrArg (fun m : List Ob => m[i]?) he
    simpa [List.getElem?_eq_getElem a, List.getElem?_eq_getElem b] using this)
  rw [← hlen]
  obtain ⟨L, hL⟩ : ∃ L, L = r1.length := ⟨_, rfl⟩
  rw [← hL] at hb ⊢
  have HL := Lib.hid hL
  have HL2 := Lib.hid (hL.trans hlen)
  clear hL hlen h1 h2 he
  go_enter Tryz.func13, Tryz.ntmps13
  (try simp only [List.append_eq, List.cons_append, List.nil_append])
  go_wp2_with fail
  go_loopg [5] L (fun m i wr => ∃ j : Nat, m = L - j ∧ j ≤ L ∧ i = .int .i64 j ∧ Hid (Kept w wr))
  case atStart => exact ⟨0, by omega, Nat.zero_le _, rfl, Lib.hid (Kept.refl w)⟩
  case round =>
    obtain ⟨j, hm, hj, rfl, KJ⟩ := hrel
    by_cases hlt : j < L
    · have j1 : (j : Int) < (L : Int) := by omega
      have hjr : j < r1.length := by have := HL.out; omega
      have hjr2 : j < r2.length := by have := HL2.out; omega
      obtain ⟨b1, o1, hp1, -, hbl1, k0, k1⟩ := H1.out.at' j hjr
      obtain ⟨b2, o2, hp2, -, hbl2, k2, k3⟩ := H2.out.at' j hjr2
      have LX1 := H1.out.lies _ (List.getElem_mem hjr)
      have LX2 := H2.out.lies _ (List.getElem_mem hjr2)
      rw [← HE.out j hjr hjr2] at k2 k3 LX2
      subst hp1
      subst hp2
      generalize r1[j] = R1 at k0 k1 k2 k3 LX1 LX2
      generalize r2[j] = R2 at k3 LX2
      obtain ⟨⟨xk, xn, xf, nm, xl, xd⟩, ⟨hp, hc, hq, he⟩⟩ := R1
      obtain ⟨z, ⟨hp', hc', hq', he'⟩⟩ := R2
      simp only [Ob.l, Ob.s] at k0 k1 k2 k3 LX1 LX2
      obtain ⟨N, hN⟩ : ∃ N, N = xl.length := ⟨_, rfl⟩
      have hbx := LX1.bounds.1
      unfold maxLen at hbx
      simp only [Ob.l] at hbx
      rw [← hN] at k1 k3 hbx
      have HN := Lib.hid hN
      have HX1 := Lib.hid LX1
      have HX2 := Lib.hid LX2
      have SO := Lib.hid (show ∀ w', Kept w w' → (w'.cell? ⟨b1, o1 + j * 2, none⟩ = some (.string nm) ∧ w'.cell? ⟨b1, o1 + j * 2 + 1, none⟩ = some (.slice hp N hc)) ∧ (w'.cell? ⟨b2, o2 + j * 2, none⟩ = some (.string nm) ∧ w'.cell? ⟨b2, o2 + j * 2 + 1, none⟩ = some (.slice hp' N hc')) from fun w' k => by
        have K := (Kept.cells k).1
        exact ⟨⟨(K _ _ hbl1).trans k0, (K _ _ hbl1).trans k1⟩, (K _ _ hbl2).trans k2, (K _ _ hbl2).trans k3⟩)
      clear k0 k1 k2 k3 LX1 LX2 hN hbl1 hbl2
      have hs : (nm.toList == nm.toList) = true := beq_self_eq_true _
      obtain ⟨⟨d0, d1⟩, d2, d3⟩ := SO.out _ KJ.out
      go_wp2_with fail
      go_quiet (fail)
      go_wp2_with fail
      clear d0 d1 d2 d3
      go_loopg [6] N (fun m i wr => ∃ k : Nat, m = N - k ∧ k ≤ N ∧ i = .int .i64 k ∧ Hid (Kept w wr))
      case atStart => exact ⟨0, by omega, Nat.zero_le _, rfl, Lib.hid (by
        have K0 := KJ.out
        repeat (with_reducible first | exact K0 | refine Kept.drewN ?_ _ | refine Kept.drew ?_))⟩
      case round =>
        obtain ⟨k, hmk, hk, rfl, KK⟩ := hrel
        obtain ⟨⟨d0, d1⟩, d2, d3⟩ := SO.out _ KK.out
        by_cases hkt : k < N
        · have k1' : (k : Int) < (N : Int) := by omega
          obtain ⟨x, b, off, ⟨p', c', q', e'⟩, hxe, hpe, -, hbl, hx, y0, y1, y2, y3, y4, y5⟩ := (HX1.out.kept KK.out).elem k (by have := HN.out; exact this ▸ hkt)
          obtain ⟨y, bb, off2, ⟨p2', c2', q2', e2'⟩, hye, hpe2, -, hbl2, hy, z0, z1, z2, z3, z4, z5⟩ := (HX2.out.kept KK.out).elem k (by have := HN.out; exact this ▸ hkt)
          simp only [Ob.l] at hxe hye
          obtain rfl : x = y := hxe.symm.trans hye
          simp only [] at hpe hpe2 y4 y5 z4 z5
          subst hpe
          subst hpe2
          have IX0 := fun w' (a : Lies (Cel (fun _ => True) w') x ⟨p', c', q', e'⟩) (b : Lies (Cel (fun _ => True) w') x ⟨p2', c2', q2', e2'⟩) => Exact_any (fun _ => True) x x ⟨p', c', q', e'⟩ ⟨p2', c2', q2', e2'⟩ w' a b
          unfold objV at IX0
          rw [ex_yes rfl] at IX0
          simp only [] at IX0
          have IX := Lib.hid IX0
          have HXL := Lib.hid hx
          have HYL := Lib.hid hy
          have KX := Lib.hid (Kept.refl wr)
          have SK := Lib.hid (show ∀ w', Kept wr w' → (w'.cell? ⟨b1, o1 + j * 2 + 1, none⟩ = some (.slice (some ⟨b, off, none⟩) N hc) ∧ w'.cell? ⟨b2, o2 + j * 2 + 1, none⟩ = some (.slice (some ⟨bb, off2, none⟩) N hc')) ∧ (w'.cell? ⟨b, off + k * 6, none⟩ = some (.int .i64 x.k) ∧ w'.cell? ⟨b, off + k * 6 + 1, none⟩ = some (.int .i64 x.n) ∧ w'.cell? ⟨b, off + k * 6 + 2, none⟩ = some (.int .i64 x.f) ∧ w'.cell? ⟨b, off + k * 6 + 3, none⟩ = some (.string x.s) ∧ w'.cell? ⟨b, off + k * 6 + 4, none⟩ = some (.slice p' x.l.length c') ∧ w'.cell? ⟨b, off + k * 6 + 5, none⟩ = some (.slice q' x.d.length e')) ∧ (w'.cell? ⟨bb, off2 + k * 6, none⟩ = some (.int .i64 x.k) ∧ w'.cell? ⟨bb, off2 + k * 6 + 1, none⟩ = some (.int .i64 x.n) ∧ w'.cell? ⟨bb, off2 + k * 6 + 2, none⟩ = some (.int .i64 x.f) ∧ w'.cell? ⟨bb, off2 + k * 6 + 3, none⟩ = some (.string x.s) ∧ w'.cell? ⟨bb, off2 + k * 6 + 4, none⟩ = some (.slice p2' x.l.length c2') ∧ w'.cell? ⟨bb, off2 + k * 6 + 5, none⟩ = some (.slice q2' x.d.length e2')) from fun w' q => by
            obtain ⟨⟨-, a1⟩, -, a3⟩ := SO.out w' (KK.out.trans q)
            have K := (Kept.cells q).1
            exact ⟨⟨a1, a3⟩, ⟨(K _ _ hbl).trans y0, (K _ _ hbl).trans y1, (K _ _ hbl).trans y2, (K _ _ hbl).trans y3, (K _ _ hbl).trans y4, (K _ _ hbl).trans y5⟩, (K _ _ hbl2).trans z0, (K _ _ hbl2).trans z1, (K _ _ hbl2).trans z2, (K _ _ hbl2).trans z3, (K _ _ hbl2).trans z4, (K _ _ hbl2).trans z5⟩)
          clear IX0 hx hy hxe hye
          go_wp2_with fail
          go_region_held3 (fun w' => (w'.cell? ⟨b1, o1 + j * 2 + 1, none⟩ = some (.slice (some ⟨b, off, none⟩) N hc) ∧ w'.cell? ⟨b2, o2 + j * 2 + 1, none⟩ = some (.slice (some ⟨bb, off2, none⟩) N hc')) ∧ (w'.cell? ⟨b, off + k * 6, none⟩ = some (.int .i64 x.k) ∧ w'.cell? ⟨b, off + k * 6 + 1, none⟩ = some (.int .i64 x.n) ∧ w'.cell? ⟨b, off + k * 6 + 2, none⟩ = some (.int .i64 x.f) ∧ w'.cell? ⟨b, off + k * 6 + 3, none⟩ = some (.string x.s) ∧ w'.cell? ⟨b, off + k * 6 + 4, none⟩ = some (.slice p' x.l.length c') ∧ w'.cell? ⟨b, off + k * 6 + 5, none⟩ = some (.slice q' x.d.length e')) ∧ (w'.cell? ⟨bb, off2 + k * 6, none⟩ = some (.int .i64 x.k) ∧ w'.cell? ⟨bb, off2 + k * 6 + 1, none⟩ = some (.int .i64 x.n) ∧ w'.cell? ⟨bb, off2 + k * 6 + 2, none⟩ = some (.int .i64 x.f) ∧ w'.cell? ⟨bb, off2 + k * 6 + 3, none⟩ = some (.string x.s) ∧ w'.cell? ⟨bb, off2 + k * 6 + 4, none⟩ = some (.slice p2' x.l.length c2') ∧ w'.cell? ⟨bb, off2 + k * 6 + 5, none⟩ = some (.slice q2' x.d.length e2'))) (go_keep)
            (first | (go_at_call 22; (first | (with_reducible refine (IX.out _ (HXL.out.kept KX.out) (HYL.out.kept KX.out)).mono ?_) | (with_reducible refine (IX.out _ (HXL.out.kept KX.out.drew) (HYL.out.kept KX.out.drew)).mono ?_)); rintro e wn ⟨rfl, kn⟩; (first | (with_reducible have KX := Lib.hid (KX.out.trans kn)) | (with_reducible have KX := Lib.hid (KX.out.drew.trans kn))); obtain ⟨⟨d1, d3⟩, ⟨y0, y1, y2, y3, y4, y5⟩, z0, z1, z2, z3, z4, z5⟩ := SK.out _ KX.out))
          all_goals
            go_wp2_with fail
            go_roundg (N - (k + 1))
            case measure => omega
            case rel => exact ⟨k + 1, rfl, by omega, by go_num, Lib.hid (KK.out.trans KX.out)⟩
        · obtain rfl : k = N := by omega
          go_wp2_with fail
          go_roundg (L - (j + 1))
          case measure => omega
          case rel => exact ⟨j + 1, rfl, by omega, by go_num, KK⟩
    · obtain rfl : j = L := by omega
      go_wp2_with fail
      go_ret
      exact ⟨rfl, KJ.out⟩

end Go.Proofs.YtkpagahnmbchjaaGreatDoor
