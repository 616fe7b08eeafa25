/-
  A table's entries, up to its trailer.
-/
import Derived.Test.YtnmehngedljgoaaGreatDoorXrfSect
namespace Go.Proofs.YtnmehngedljgoaaGreatDoor
open Go.RowKit Rx
set_option linter.unusedSimpArgs false
set_option linter.unusedVariables false

theorem gb_ownX {a b c : World} {rb : Nat} {v : Value} (h : a.grownBy b (some rb)) (k : b.grownBy c v.ownBlock) (hv : ∀ g, v.ownBlock = some g → a.heap.size ≤ g) : a.grownBy c (some rb) :=
  ⟨k.os.trans h.os, k.tape.trans h.tape, k.output.trans h.output, Nat.le_trans h.size k.size, fun j hj hn => (k.block j (Nat.lt_of_lt_of_le hj h.size) (fun e => by have := hv j e.symm; omega)).trans (h.block j hj hn)⟩
theorem ret2_bad {v : Value} {x y : Int} (h : x = y) : Ending.returned (.tuple #[v, .int .i64 x]) = .returned (.tuple #[v, .int .i64 y]) := by rw [h]

set_option maxRecDepth 100000 in
set_option maxHeartbeats 8000000 in
theorem entries_any (s : ByteArray) (a : Int) (rb : Nat) (w : World) (hs : s.size ≤ 65536) (hm : HasMax w) (hr : Rdr s a rb w) (X : Int × List Xent × Nat) (hX : X = entsX s.data.toList a) :
    Calls Tryz.prog 40 #[.pointer (some ⟨rb, 0, none⟩)] w fun e w' =>
      ∃ v, e = .returned (.tuple #[v, .int .i64 X.1]) ∧ Ents 47 w' w.heap.size v X.2.1 ∧ (∃ a' : Int, (X.1 = 0 → a' = X.2.2) ∧ Rdr s a' rb w') ∧ w.grownBy w' (some rb) := by
  have hs4 : s.size ≤ 4294967295 := by omega
  have hrb := hr.lt
  have hlen : s.data.toList.length = s.size := by simp
  obtain ⟨U, hU⟩ : ∃ U, U = tokX s.data.toList a := ⟨_, rfl⟩
  have CT := Lib.hid (rtoken_any s a rb w hs4 hm hr U hU)
  have CI := Lib.hid (fun W => xisWord_any U.2 [120, 114, 101, 102] W)
  have HX := Lib.hid (show X = if U.1 = 0 then (if isWd U.2 [120, 114, 101, 102] then entsG s.data.toList (s.data.toList.length + 2) U.2.to [] else (3, [], 0)) else (U.1, [], 0) by rw [hX, entsX, ← hU])
  have HUB := Lib.hid (fun h : U.1 = 0 => show U.2.to ≤ s.size from by rw [hU] at h ⊢; have := (tokX_ok h).2.2.2.2.2; rw [hlen] at this; exact this)
  have HM := Lib.hid hm
  have HR := Lib.hid hr
  clear hX hU hm hr
  obtain ⟨ue, kd, f, st, wh, fr, tq⟩ := U
  unfold tkV at CT CI
  simp only [] at CT CI HX HUB
  by_cases he : ue = 0
  · subst he
    have hto := HUB.out rfl
    cases hx : isWd ⟨kd, f, st, wh, fr, tq⟩ [120, 114, 101, 102] with
    | false =>
      have HV := Lib.hid (show X = (3, [], 0) by rw [HX.out, if_pos rfl, hx]; rfl)
      rw [hx] at CI
      clear HX HUB hx
      go_enter Tryz.func40, Tryz.ntmps40
      go_wp2_with (first | (go_at_call 73; refine CT.out.mono ?_; rintro e w1 ⟨rfl, hr1, hg1⟩; have R1 := Lib.hid hr1; have G1 := Lib.hid hg1; clear hr1 hg1) | (go_at_call 74; refine (CI.out _).mono ?_; rintro e w2 ⟨rfl, hk2⟩))
      go_ret2
      exact ⟨_, by rw [HV.out]; first | done | rfl, by rw [HV.out]; exact World.ownsRow_nil _ _ _ _, ⟨_, fun h => by rw [HV.out] at h; exact absurd h (by decide), R1.out.kept (((Kept.refl w1).allocO _).trans hk2)⟩, gb_thenK G1.out (((Kept.refl w1).allocO _).trans hk2)⟩
    | true =>
      have HV := Lib.hid (show X = entsG s.data.toList (s.data.toList.length + 2) tq [] by rw [HX.out, if_pos rfl, hx]; rfl)
      rw [hx] at CI
      clear HX HUB hx
      go_enter Tryz.func40, Tryz.ntmps40
      go_wp2_with (first | (go_at_call 73; refine CT.out.mono ?_; rintro e w1 ⟨rfl, hr1, hg1⟩; have R1 := Lib.hid hr1; have G1 := Lib.hid hg1; clear hr1 hg1) | (go_at_call 74; refine (CI.out _).mono ?_; rintro e w2 ⟨rfl, hk2⟩))
      have R2 := Lib.hid (show Rdr s tq rb w2 from by have h := R1.out; rw [if_pos (by trivial)] at h; exact h.kept (((Kept.refl w1).allocO _).trans hk2))
      have G2 := Lib.hid (gb_thenK G1.out (((Kept.refl w1).allocO _).trans hk2))
      clear hk2 R1 G1 CT CI
      go_loopg [6] (s.size + 1 - tq) (fun x lv wr => ∃ (ap F : Nat) (acc : List Xent) (v : Value), v = lv ∧ x = s.size + 1 - ap ∧ ap ≤ s.size ∧ s.size < F + ap ∧ acc.length ≤ 4096 * ap ∧ Hid (entsG s.data.toList F ap acc = X) ∧ Rdr s ap rb wr ∧ Ents 47 wr w.heap.size v acc ∧ w.grownBy wr (some rb))
      case atStart => exact ⟨tq, s.data.toList.length + 2, [], _, rfl, rfl, hto, by rw [hlen]; omega, Nat.zero_le _, Lib.hid HV.out.symm, R2.out, World.ownsRow_nil _ _ _ _, G2.out⟩
      case round =>
        obtain ⟨ap, F, acc, v, rfl, hxm, hap, hF, hacc, HS, hr, ho, hg⟩ := hrel
        have RR := Lib.hid hr
        have OO := Lib.hid ho
        have GR := Lib.hid hg
        have MM := Lib.hid (HR.out.max HM.out hg)
        have hwz := hg.size
        clear hr ho hg R2 G2 HV
        obtain ⟨F, rfl⟩ : ∃ F', F = F' + 1 := ⟨F - 1, by omega⟩
        obtain ⟨U, hU⟩ : ∃ U, U = tokX s.data.toList ap := ⟨_, rfl⟩
        have CT := Lib.hid (rtoken_any s ap rb wr hs4 MM.out RR.out U hU)
        have CI := Lib.hid (fun W => xisWord_any U.2 [116, 114, 97, 105, 108, 101, 114] W)
        have CW := Lib.hid (fun W => isWhole_any U.2 W)
        have CV := Lib.hid (fun W => wholeOf_any U.2 W (by rw [hU]; exact (tokX_f s.data.toList ap).1) (by rw [hU]; exact (tokX_f s.data.toList ap).2))
        have HX2 := Lib.hid (show X = if U.1 = 0 then (if isWd U.2 trailT then (0, acc, U.2.to) else if isWh U.2 then (if (secX s.data.toList (U.2.f.tdiv 1000) U.2.to).1 = 0 then entsG s.data.toList F (secX s.data.toList (U.2.f.tdiv 1000) U.2.to).2.2 (acc ++ (secX s.data.toList (U.2.f.tdiv 1000) U.2.to).2.1) else ((secX s.data.toList (U.2.f.tdiv 1000) U.2.to).1, [], 0)) else (3, [], 0)) else (U.1, [], 0) by rw [← HS.out, entsG, ← hU])
        have HUB2 := Lib.hid (fun h : U.1 = 0 => show ap < U.2.to ∧ U.2.to ≤ s.size from by rw [hU] at h ⊢; have h2 := tokX_ok h; rw [hlen] at h2; omega)
        have HWF := Lib.hid (fun h : U.1 = 0 => fun h2 : isWh U.2 = true => show 0 ≤ U.2.f.tdiv 1000 ∧ U.2.f.tdiv 1000 ≤ 2147483 from by
          have h3 : (wholeX s.data.toList ap).1 = 0 := by unfold wholeX; rw [← hU, if_pos h, if_pos h2]
          have h4 := (wholeX_ok h3).2.2.2
          have h5 : (wholeX s.data.toList ap).2.1 = U.2.f.tdiv 1000 := by unfold wholeX; rw [← hU, if_pos h, if_pos h2]
          rw [h5] at h4; exact h4)
        clear hU
        obtain ⟨ve, kd2, f2, st2, wh2, fr2, tq2⟩ := U
        unfold tkV at CT CI CW CV
        simp only [] at CT CI CW CV HX2 HUB2 HWF
        by_cases hve : ve = 0
        · subst hve
          obtain ⟨u1, u2⟩ := HUB2.out rfl
          cases ht : isWd ⟨kd2, f2, st2, wh2, fr2, tq2⟩ trailT with
          | true =>
            have HV := Lib.hid (show X = (0, acc, tq2) by rw [HX2.out, if_pos rfl, ht]; rfl)
            have CI2 := Lib.hid (fun W => show Calls Tryz.prog 74 #[.agg #[.int .i64 kd2, .int .i64 f2, .string ⟨st2.toArray⟩, .bool wh2, .int .i64 fr2, .int .i64 tq2], .string ⟨([116, 114, 97, 105, 108, 101, 114] : List UInt8).toArray⟩] W fun e w' => e = .returned (.bool true) ∧ Kept W w' from by rw [← ht]; exact CI.out W)
            clear HX2 HUB2 HWF ht CI CW CV HS
            go_wp2_with (first | (go_at_call 73; refine CT.out.mono ?_; rintro e w1 ⟨rfl, hr1, hg1⟩; have R1 := Lib.hid hr1; have G1 := Lib.hid hg1; clear hr1 hg1) | (go_at_call 74; refine (CI2.out _).mono ?_; rintro e w2 ⟨rfl, hk2⟩))
            go_ret2
            have hgb : wr.grownBy w2 (some rb) := gb_thenK G1.out (((Kept.refl w1).allocO _).trans hk2)
            exact ⟨v, by rw [HV.out]; first | done | rfl, by rw [HV.out]; exact OO.out.gb hgb (by cases hv : v.ownBlock with
              | none => exact .inl rfl
              | some g => exact .inr (fun e => by have := (OO.out.lt g hv).1; injection e with e; omega)), ⟨(tq2 : Int), fun _ => by rw [HV.out], by have h := R1.out; rw [if_pos (by trivial)] at h; exact h.kept (((Kept.refl w1).allocO _).trans hk2)⟩, gb_trans GR.out hgb⟩
          | false =>
            have CI2 := Lib.hid (fun W => show Calls Tryz.prog 74 #[.agg #[.int .i64 kd2, .int .i64 f2, .string ⟨st2.toArray⟩, .bool wh2, .int .i64 fr2, .int .i64 tq2], .string ⟨([116, 114, 97, 105, 108, 101, 114] : List UInt8).toArray⟩] W fun e w' => e = .returned (.bool false) ∧ Kept W w' from by rw [← ht]; exact CI.out W)
            cases hw : isWh ⟨kd2, f2, st2, wh2, fr2, tq2⟩ with
            | false =>
              have HV := Lib.hid (show X = (3, [], 0) by rw [HX2.out, if_pos rfl, ht, hw]; rfl)
              rw [hw] at CW
              clear HX2 HUB2 HWF ht hw CI CV HS
              go_wp2_with (first | (go_at_call 73; refine CT.out.mono ?_; rintro e w1 ⟨rfl, hr1, hg1⟩; have R1 := Lib.hid hr1; have G1 := Lib.hid hg1; have B1 := Lib.hid (Blk.fresh w1 #[.int .i64 kd2, .int .i64 f2, .string ⟨st2.toArray⟩, .bool wh2, .int .i64 fr2, .int .i64 tq2] 108); clear hr1 hg1) | (go_at_call 74; refine (CI2.out _).mono ?_; rintro e w2 ⟨rfl, hk2⟩; obtain ⟨b0, b1, b2, b3, b4, b5⟩ := (B1.out.kept hk2).cells6; have K2 := Lib.hid (((Kept.refl w1).allocO (.cells #[.int .i64 kd2, .int .i64 f2, .string ⟨st2.toArray⟩, .bool wh2, .int .i64 fr2, .int .i64 tq2] 108 (0, 0))).trans hk2); clear hk2) | (go_at_call 75; refine (CW.out _).mono ?_; rintro e w3 ⟨rfl, hk3⟩))
              go_ret2
              exact ⟨_, by rw [HV.out]; first | done | rfl, by rw [HV.out]; exact World.ownsRow_nil _ _ _ _, ⟨_, fun h => by rw [HV.out] at h; exact absurd h (by decide), R1.out.kept (K2.out.trans hk3)⟩, gb_trans GR.out (gb_thenK G1.out (K2.out.trans hk3))⟩
            | true =>
              obtain ⟨n0, n1⟩ := HWF.out rfl hw
              obtain ⟨fst, hfst⟩ : ∃ fst, fst = f2.tdiv 1000 := ⟨_, rfl⟩
              rw [← hfst] at n0 n1 CV
              obtain ⟨S, hS⟩ : ∃ S, S = secX s.data.toList fst tq2 := ⟨_, rfl⟩
              have HX3 := Lib.hid (show X = if S.1 = 0 then entsG s.data.toList F S.2.2 (acc ++ S.2.1) else (S.1, [], 0) by rw [HX2.out, if_pos rfl, ht, hw, ← hfst, ← hS]; rfl)
              have CS := Lib.hid (fun W hm hr => section_any s fst tq2 rb W hs4 n0 n1 hm hr S hS)
              have HSB := Lib.hid (fun h : S.1 = 0 => show tq2 < S.2.2 ∧ S.2.2 ≤ s.size ∧ S.2.1.length ≤ 4096 from by rw [hS] at h ⊢; have h2 := secX_ok h; rw [hlen] at h2; exact ⟨h2.1, h2.2.1, h2.2.2 n0⟩)
              rw [hw] at CW
              clear HX2 HUB2 HWF ht hw CI HS hfst hS
              obtain ⟨se, es, sp⟩ := S
              simp only [] at HX3 CS HSB
              by_cases hse : se = 0
              · subst hse
                obtain ⟨q1, q2, q3⟩ := HSB.out rfl
                have HV := Lib.hid (show entsG s.data.toList F sp (acc ++ es) = X by rw [HX3.out, if_pos rfl])
                clear HX3 HSB
                go_wp2_with (first
                  | (go_at_call 73; refine CT.out.mono ?_; rintro e w1 ⟨rfl, hr1, hg1⟩; have R1 := Lib.hid (show Rdr s tq2 rb w1 from by rw [if_pos (by trivial)] at hr1; exact hr1); have G1 := Lib.hid hg1; have B1 := Lib.hid (Blk.fresh w1 #[.int .i64 kd2, .int .i64 f2, .string ⟨st2.toArray⟩, .bool wh2, .int .i64 fr2, .int .i64 tq2] 108); clear hr1 hg1)
                  | (go_at_call 74; refine (CI2.out _).mono ?_; rintro e w2 ⟨rfl, hk2⟩; have B2 := Lib.hid (B1.out.kept hk2); obtain ⟨b0, b1, b2, b3, b4, b5⟩ := B2.out.cells6; have K2 := Lib.hid (((Kept.refl w1).allocO (.cells #[.int .i64 kd2, .int .i64 f2, .string ⟨st2.toArray⟩, .bool wh2, .int .i64 fr2, .int .i64 tq2] 108 (0, 0))).trans hk2); clear hk2)
                  | (go_at_call 75; refine (CW.out _).mono ?_; rintro e w3 ⟨rfl, hk3⟩; have B3 := Lib.hid (B2.out.kept hk3); obtain ⟨d0, d1, d2, d3, d4, d5⟩ := B3.out.cells6; have K3 := Lib.hid (K2.out.trans hk3); clear hk3)
                  | (go_at_call 77; refine (CV.out _).mono ?_; rintro e w4 ⟨rfl, hk4⟩; have K4 := Lib.hid (K3.out.trans hk4); have R4 := Lib.hid (R1.out.kept K4.out); have G4 := Lib.hid (gb_thenK G1.out K4.out); have M4 := Lib.hid (RR.out.max MM.out G4.out); clear hk4)
                  | (go_at_call 76; refine (CS.out _ M4.out R4.out).mono ?_; rintro e w5 ⟨v5, rfl, ho5, ⟨a5, ha5, hr5⟩, hg5⟩; obtain rfl := ha5 (by trivial); obtain ⟨p5, c5, rfl, hsl5⟩ := ho5.sl; have S5 := Lib.hid hsl5; have R5 := Lib.hid hr5; have GW := Lib.hid (gb_trans G4.out hg5); have G5 := Lib.hid (gb_trans GR.out GW.out); have O5 := Lib.hid (OO.out.gb GW.out (by cases hv : v.ownBlock with
                    | none => exact .inl rfl
                    | some g => exact .inr (fun e => by have := (OO.out.lt g hv).1; injection e with e; omega))); have hz5 := G5.out.size; clear hr5 hg5 ho5 ha5 hsl5)
                  | (at_builtin; refine wpList_app_slice (by rfl) _ _ (by rfl) O5.out (by rfl) p5 es c5 S5.out.1 S5.out.2.1 (by rfl) hz5 (by omega) ?_; intro v6 w6 ho6 hg6))
                have O6 := Lib.hid ho6
                have G6 := Lib.hid (gb_ownX G5.out hg6 (fun g hg => (O5.out.lt g hg).1))
                have R6 := Lib.hid (R5.out.gb hg6 (fun e => by have := (O5.out.lt rb e.symm).1; omega))
                clear ho6 hg6
                go_wp2_with fail
                go_roundg (s.size + 1 - sp)
                case measure => omega
                case rel => exact ⟨sp, F, acc ++ es, v6, rfl, rfl, by omega, by omega, by rw [List.length_append]; omega, Lib.hid HV.out, R6.out, O6.out, G6.out⟩
              · have HV := Lib.hid (show X = (se, [], 0) by rw [HX3.out, if_neg hse])
                have hne : (se != 0) = true := by simpa using hse
                have HE := Lib.hid hse
                clear HX3 HSB hse
                go_wp2_with (first
                  | (go_at_call 73; refine CT.out.mono ?_; rintro e w1 ⟨rfl, hr1, hg1⟩; have R1 := Lib.hid (show Rdr s tq2 rb w1 from by rw [if_pos (by trivial)] at hr1; exact hr1); have G1 := Lib.hid hg1; have B1 := Lib.hid (Blk.fresh w1 #[.int .i64 kd2, .int .i64 f2, .string ⟨st2.toArray⟩, .bool wh2, .int .i64 fr2, .int .i64 tq2] 108); clear hr1 hg1)
                  | (go_at_call 74; refine (CI2.out _).mono ?_; rintro e w2 ⟨rfl, hk2⟩; have B2 := Lib.hid (B1.out.kept hk2); obtain ⟨b0, b1, b2, b3, b4, b5⟩ := B2.out.cells6; have K2 := Lib.hid (((Kept.refl w1).allocO (.cells #[.int .i64 kd2, .int .i64 f2, .string ⟨st2.toArray⟩, .bool wh2, .int .i64 fr2, .int .i64 tq2] 108 (0, 0))).trans hk2); clear hk2)
                  | (go_at_call 75; refine (CW.out _).mono ?_; rintro e w3 ⟨rfl, hk3⟩; have B3 := Lib.hid (B2.out.kept hk3); obtain ⟨d0, d1, d2, d3, d4, d5⟩ := B3.out.cells6; have K3 := Lib.hid (K2.out.trans hk3); clear hk3)
                  | (go_at_call 77; refine (CV.out _).mono ?_; rintro e w4 ⟨rfl, hk4⟩; have K4 := Lib.hid (K3.out.trans hk4); have R4 := Lib.hid (R1.out.kept K4.out); have G4 := Lib.hid (gb_thenK G1.out K4.out); have M4 := Lib.hid (RR.out.max MM.out G4.out); clear hk4)
                  | (go_at_call 76; refine (CS.out _ M4.out R4.out).mono ?_; rintro e w5 ⟨v5, rfl, ho5, ⟨a5, ha5, hr5⟩, hg5⟩; obtain ⟨p5, c5, rfl, hsl5⟩ := ho5.sl; have R5 := Lib.hid hr5; have G5 := Lib.hid (gb_trans GR.out (gb_trans G4.out hg5)); clear hr5 hg5 ho5 ha5 hsl5))
                go_ret2
                exact ⟨_, by rw [HV.out]; first | done | rfl, by rw [HV.out]; exact World.ownsRow_nil _ _ _ _, ⟨a5, fun h => by rw [HV.out] at h; exact absurd h HE.out, R5.out⟩, G5.out⟩
        · have HV := Lib.hid (show X = (ve, [], 0) by rw [HX2.out, if_neg hve])
          have hne : (ve != 0) = true := by simpa using hve
          have HE := Lib.hid hve
          clear HX2 HUB2 HWF hve CI CW CV HS
          go_wp2_with (go_at_call 73; refine CT.out.mono ?_; rintro e w1 ⟨rfl, hr1, hg1⟩; have R1 := Lib.hid hr1; have G1 := Lib.hid hg1; clear hr1 hg1)
          go_ret2
          exact ⟨_, by rw [HV.out]; first | done | rfl, by rw [HV.out]; exact World.ownsRow_nil _ _ _ _, ⟨_, fun h => by rw [HV.out] at h; exact absurd h HE.out, R1.out.kept ((Kept.refl w1).allocO _)⟩, gb_trans GR.out (gb_thenK G1.out ((Kept.refl w1).allocO _))⟩
  · have HV := Lib.hid (show X = (ue, [], 0) by rw [HX.out, if_neg he])
    have hne : (ue != 0) = true := by simpa using he
    have HE := Lib.hid he
    clear HX HUB he
    go_enter Tryz.func40, Tryz.ntmps40
    go_wp2_with (go_at_call 73; refine CT.out.mono ?_; rintro e w1 ⟨rfl, hr1, hg1⟩; have R1 := Lib.hid hr1; have G1 := Lib.hid hg1; clear hr1 hg1)
    go_ret2
    exact ⟨_, by rw [HV.out]; first | done | rfl, by rw [HV.out]; exact World.ownsRow_nil _ _ _ _, ⟨_, fun h => by rw [HV.out] at h; exact absurd h HE.out, R1.out.kept ((Kept.refl w1).allocO _)⟩, gb_thenK G1.out ((Kept.refl w1).allocO _)⟩

end Go.Proofs.YtnmehngedljgoaaGreatDoor
