/-
  The reference's symbol.
-/
import Derived.Test.YtkobcgemllcfoaaDoorInfRefState
import Derived.Test.YtkobcgemllcfoaaDoorInfSym
namespace Go.Proofs.YtkobcgemllcfoaaDoor
open Go.RowKit Ix
set_option linter.unusedSimpArgs false
set_option linter.unusedVariables false

/-- Numbers that can be read whatever the state does. -/
def Ro (w : World) (b : Nat) (v pv : Value) (X : List Nat) : Prop := ∃ p cap, pv = .slice p X.length cap ∧ ∀ i (h : i < X.length), ∃ k o, p = some ⟨k, o, none⟩ ∧ k < w.heap.size ∧ k ≠ b ∧ v.ownBlock ≠ some k ∧ w.cell? ⟨k, o + i, none⟩ = some (.int .i64 (X[i] : Nat))
theorem Ro.gr {w w' : World} {b : Nat} {v v' pv : Value} {X : List Nat} (h : Ro w b v pv X) (g : Gr w b v w' v') : Ro w' b v' pv X := by
  obtain ⟨p, cap, h1, h2⟩ := h
  refine ⟨p, cap, h1, fun i hi => ?_⟩
  obtain ⟨k, o, hp, hk, hb, hv, hc⟩ := h2 i hi
  refine ⟨k, o, hp, Nat.lt_of_lt_of_le hk g.size, hb, ?_, by rw [← hc]; exact World.cell?_of_block (g.block k hk hb hv)⟩
  rcases g.at' with e | ⟨x, e, hx⟩
  · rw [e]; exact hv
  · rw [e]; intro e2; injection e2 with e2; omega
theorem numAt_1 (B : List UInt8) (t : Nat) : numAt B 1 t = bitAt B t := by simp [numAt]
theorem sym_here (L : List Nat) (n i d : Nat) (h : i < L.length) (hn : L[i] = n) (h1 : 1 ≤ n) (hc : code L i = d) : fst L n ≤ d ∧ d < beh L n ∧ (pos L n).getD (d - fst L n) 0 = i := by
  have a := code_lt L i h (by omega)
  rw [hn, hc] at a
  refine ⟨a.1, a.2, ?_⟩
  have z := pos_at L i h
  rw [hn] at z
  unfold code at hc
  rw [getD_at L i h, hn, if_neg (by omega)] at hc
  rw [show d - fst L n = cnt (L.take i) n by omega]
  exact z
theorem sym_nowhere (L : List Nat) (n d : Nat) (h1 : 1 ≤ n) (h : ∀ i (hi : i < L.length), L[i] = n → code L i ≠ d) : ¬ (fst L n ≤ d ∧ d < beh L n) := by
  intro hh
  obtain ⟨i, hi, -, hn, hc, -⟩ := look_hit L n d h1 hh
  exact h i hi hn hc

theorem bits_lit (n : Nat) (z : Int) (hz : z = (n : Int)) {w : World} {B0 b : Nat} {p : Option Addr} {c : Nat} {B : List UInt8} {t : Nat} {v : Value} {out : List UInt8} {e : Int} (h : Sw w B0 b p c B t v out e) (hn : n ≤ 16) (hB : B.length ≤ 1099511627776) :
    Calls Tryd.prog 46 #[.pointer (some ⟨b, 0, none⟩), .int .i64 z] w (BitsA w B0 b p c B t v out e n) := by
  subst hz
  exact bits_any n h hn hB

set_option maxRecDepth 100000 in
set_option maxHeartbeats 2000000 in
theorem refSymbol_any (L : List Nat) (lv cv : Value) {w : World} {B0 b : Nat} {p : Option Addr} {c : Nat} {B : List UInt8} {t : Nat} {v : Value} {out : List UInt8} (h : Sw w B0 b p c B t v out 0) (hB : B.length ≤ 1099511627776)
    (hl : Ro w b v lv L) (hc : Ro w b v cv (codes L)) (hL : L.length ≤ 1000) :
    Calls Tryd.prog 88 #[.pointer (some ⟨b, 0, none⟩), lv, cv] w fun en w' => (∃ s t', sym L B t = .ok (s, t') ∧ en = .returned (.int .i64 (s : Nat)) ∧ SwR w B0 b p c B v w' t' v out 0) ∨ (∃ k t', sym L B t = .error k ∧ k ≠ 0 ∧ en = .returned (.int .i64 (-1)) ∧ SwR w B0 b p c B v w' t' v out k) := by
  have HS := Lib.hid h
  have HL := Lib.hid hl
  have HC := Lib.hid hc
  obtain ⟨pl, cl, hlv, -⟩ := hl
  obtain ⟨pc, cc, hcv, -⟩ := hc
  have hcl : (codes L).length = L.length := by unfold codes; simp
  rw [hcl] at hcv
  subst hlv hcv
  clear h
  go_enter Tryd.func88, Tryd.ntmps88
  go_wp2_with fail
  go_loopg [7, 8] 15 (fun m dv nv wr => ∃ j d : Nat, m = 16 - j ∧ 1 ≤ j ∧ j ≤ 16 ∧ dv = .int .i64 d ∧ nv = .int .i64 j ∧ d < 2 ^ (j - 1) ∧ Hid (symGo L B (16 - j) j d (t + (j - 1)) = sym L B t) ∧ SwR w B0 b p c B v wr (t + (j - 1)) v out 0)
  case atStart => exact ⟨1, 0, rfl, Nat.le_refl _, by decide, rfl, rfl, by decide, Lib.hid rfl, SwR.refl HS.out⟩
  case round =>
    obtain ⟨j, d, hm, h1, hj, rfl, rfl, hd, HG, hs⟩ := hrel
    have HR := Lib.hid hs
    clear hs
    by_cases hlt : j ≤ 15
    · have hpow : 2 ^ (j - 1) ≤ 2 ^ 15 := Nat.pow_le_pow_right (by decide) (by omega)
      have hd15 : d < 32768 := Nat.lt_of_lt_of_le hd hpow
      have HD := Lib.hid hd
      have hjI : (j : Int) ≤ 15 := by omega
      have BA := Lib.hid (bits_lit 1 1 rfl HR.out.st (by decide) hB)
      clear hpow hd
      go_wp2_with fail
      (with_reducible refine BA.out.mono ?_)
      intro en w2 hb
      rcases hb with ⟨hle, rfl, hs2⟩ | ⟨hle, rfl, hs2⟩
      · have HR2 := Lib.hid (HR.out.then hs2)
        have hu := bitAt_lt B (t + (j - 1))
        rw [numAt_1]
        have HST := Lib.hid (symGo_step L B (15 - j) j d (t + (j - 1)))
        obtain ⟨u, hue⟩ : ∃ u, u = bitAt B (t + (j - 1)) := ⟨_, rfl⟩
        rw [← hue] at hu HST ⊢
        have HGO := Lib.hid (show sym L B t = if fst L j ≤ 2 * d + u ∧ 2 * d + u < beh L j then .ok ((pos L j).getD (2 * d + u - fst L j) 0, t + (j - 1) + 1) else symGo L B (15 - j) (j + 1) (2 * d + u) (t + (j - 1) + 1) by
          rw [← HG.out, show 16 - j = 15 - j + 1 by omega, HST.out, if_pos (by omega)])
        obtain ⟨c0, c1, c2, c3⟩ := HR2.out.st.cells
        have HL2 := Lib.hid (HL.out.gr HR2.out.gr)
        have HC2 := Lib.hid (HC.out.gr HR2.out.gr)
        obtain ⟨x, hx⟩ : ∃ x, x = 2 * d + u := ⟨_, rfl⟩
        have HX := Lib.hid hx
        rw [← hx] at HGO
        have hxI : 2 * (d : Int) + (u : Int) = (x : Int) := by omega
        have hx16 : x < 65536 := by omega
        clear hs2 hue hx
        go_wp2_with fail
        go_loopg [9] (L.length + 1) (fun m iv wr => ∃ i : Nat, m = L.length + 1 - i ∧ i ≤ L.length ∧ iv = .int .i64 i ∧ Hid (∀ q (hq : q < L.length), q < i → L[q] = j → code L q ≠ x) ∧ wr = w2)
        case atStart => exact ⟨0, rfl, Nat.zero_le _, rfl, Lib.hid (fun q _ h => by omega), rfl⟩
        case round =>
          obtain ⟨i, hm2, hi, rfl, HN, rfl⟩ := hrel
          by_cases hil : i < L.length
          · obtain ⟨pl', cl', e1, hlc⟩ := HL2.out
            injection e1 with e1 e2 e3
            subst e1
            clear e2 e3
            obtain ⟨pc', cc', e1, hcc⟩ := HC2.out
            injection e1 with e1 e2 e3
            subst e1
            clear e2 e3
            obtain ⟨k1, o1, hp1, -, -, -, d1⟩ := hlc i hil
            obtain ⟨k2, o2, hp2, -, -, -, d2⟩ := hcc i (by rw [hcl]; exact hil)
            subst hp1 hp2
            have hcg : (codes L)[i]'(by rw [hcl]; exact hil) = code L i := by unfold codes; simp
            rw [hcg] at d2
            obtain ⟨n, hn⟩ : ∃ n, n = L[i] := ⟨_, rfl⟩
            obtain ⟨y, hy⟩ : ∃ y, y = code L i := ⟨_, rfl⟩
            rw [← hn] at d1
            rw [← hy] at d2
            have HNN := Lib.hid hn
            have HYY := Lib.hid hy
            have i1 : (i : Int) < (L.length : Int) := by omega
            clear hlc hcc hn hy hcg
            by_cases hnj : n = j
            · have f1 : ((n : Int) == (j : Int)) = true := by rw [beq_iff_eq]; omega
              have HNJ := Lib.hid hnj
              clear hnj
              by_cases hyx : y = x
              · have f2 : ((y : Int) == (x : Int)) = true := by rw [beq_iff_eq]; omega
                have HV := Lib.hid (show sym L B t = .ok (i, t + (j - 1) + 1) by
                  obtain ⟨z1, z2, z3⟩ := sym_here L j i x hil (by rw [← HNN.out]; exact HNJ.out) h1 (by rw [← HYY.out]; exact hyx)
                  rw [HGO.out, if_pos ⟨z1, z2⟩, z3])
                clear hyx
                go_wp2_with fail
                go_ret
                exact .inl ⟨i, _, HV.out, rfl, HR2.out⟩
              · have f2 : ((y : Int) == (x : Int)) = false := by rw [beq_eq_false_iff_ne]; omega
                have HYX := Lib.hid hyx
                clear hyx
                go_wp2_with fail
                go_roundg (L.length + 1 - (i + 1))
                case measure => omega
                case rel =>
                  refine ⟨i + 1, rfl, by omega, by go_num, Lib.hid (fun q hq hqi hLq => ?_), rfl⟩
                  by_cases e : q = i
                  · subst e; rw [← HYY.out]; exact HYX.out
                  · exact HN.out q hq (by omega) hLq
            · have f1 : ((n : Int) == (j : Int)) = false := by rw [beq_eq_false_iff_ne]; omega
              have HNJ := Lib.hid hnj
              clear hnj
              go_wp2_with fail
              go_roundg (L.length + 1 - (i + 1))
              case measure => omega
              case rel =>
                refine ⟨i + 1, rfl, by omega, by go_num, Lib.hid (fun q hq hqi hLq => ?_), rfl⟩
                by_cases e : q = i
                · subst e; exact absurd (HNN.out.trans hLq) HNJ.out
                · exact HN.out q hq (by omega) hLq
          · obtain rfl : i = L.length := by omega
            have HNO := Lib.hid (sym_nowhere L j x h1 (fun q hq hLq => HN.out q hq hq hLq))
            go_wp2_with fail
            go_roundg (16 - (j + 1))
            case measure => omega
            case rel =>
              refine ⟨j + 1, x, by omega, by omega, by omega, rfl, by go_num, ?_, Lib.hid ?_, by rw [show t + (j + 1 - 1) = t + (j - 1) + 1 by omega]; exact HR2.out⟩
              · have a := HD.out
                have b := HX.out
                rw [show j + 1 - 1 = (j - 1) + 1 by omega, Nat.pow_succ]
                omega
              · rw [show 16 - (j + 1) = 15 - j by omega, show t + (j + 1 - 1) = t + (j - 1) + 1 by omega]
                rw [HGO.out, if_neg HNO.out]
      · have HR2 := Lib.hid (HR.out.then hs2)
        have HV := Lib.hid (show sym L B t = .error 4 by
          rw [← HG.out, show 16 - j = 15 - j + 1 by omega, symGo_step, if_neg (by omega)])
        obtain ⟨c0, c1, c2, c3⟩ := HR2.out.st.cells
        have hef : ef 0 4 = 4 := rfl
        rw [hef] at c3 HR2
        clear hs2 hef
        go_wp2_with fail
        go_ret
        exact .inr ⟨4, _, HV.out, by decide, rfl, HR2.out⟩
    · obtain rfl : j = 16 := by omega
      have HV := Lib.hid (show sym L B t = .error 3 by rw [← HG.out]; rfl)
      have FA := Lib.hid (fail_any HR.out.st 3)
      go_wp2_with fail
      (with_reducible refine FA.out.mono ?_)
      rintro en w2 ⟨rfl, hs2⟩
      have HR2 := Lib.hid (HR.out.then hs2)
      clear hs2
      go_wp2_with fail
      go_ret
      exact .inr ⟨3, _, HV.out, by decide, rfl, HR2.out⟩

set_option maxRecDepth 100000 in
theorem refSymbol_err (pl pc : Option Addr) (n cl m cc : Nat) {w : World} {B0 b : Nat} {p : Option Addr} {c : Nat} {B : List UInt8} {t : Nat} {v : Value} {out : List UInt8} {e : Int} (h : Sw w B0 b p c B t v out e) (hB : B.length ≤ 1099511627776) (he : e ≠ 0) :
    Calls Tryd.prog 88 #[.pointer (some ⟨b, 0, none⟩), .slice pl n cl, .slice pc m cc] w fun en w' => en = .returned (.int .i64 (-1)) ∧ ∃ t', SwR w B0 b p c B v w' t' v out e := by
  have HS := Lib.hid h
  have BA := Lib.hid (bits_lit 1 1 rfl h (by decide) hB)
  have f0 : (e != 0) = true := by rw [bne_iff_ne]; exact he
  have HE := Lib.hid (show ef e 4 = e from if_neg he)
  clear h he
  go_enter Tryd.func88, Tryd.ntmps88
  go_wp2_with fail
  go_loopg [7, 8] 1 (fun m dv nv wr => m = 1 ∧ dv = .int .i64 0 ∧ nv = .int .i64 1 ∧ wr = w)
  case atStart => exact ⟨rfl, rfl, rfl, rfl⟩
  case round =>
    obtain ⟨hm, rfl, rfl, rfl⟩ := hrel
    go_wp2_with fail
    (with_reducible refine BA.out.mono ?_)
    intro en w2 hb
    rcases hb with ⟨hle, rfl, hs2⟩ | ⟨hle, rfl, hs2⟩
    · have HR2 := Lib.hid hs2
      obtain ⟨c0, c1, c2, c3⟩ := HR2.out.st.cells
      have hu := numAt_16 B t 1 (by decide)
      obtain ⟨x, hx⟩ : ∃ x, x = numAt B 1 t := ⟨_, rfl⟩
      rw [← hx] at hu ⊢
      clear hs2 hx
      go_wp2_with fail
      go_ret
      exact ⟨rfl, _, HR2.out⟩
    · have HR2 := Lib.hid hs2
      rw [HE.out] at HR2
      obtain ⟨c0, c1, c2, c3⟩ := HR2.out.st.cells
      clear hs2
      go_wp2_with fail
      go_ret
      exact ⟨rfl, _, HR2.out⟩

end Go.Proofs.YtkobcgemllcfoaaDoor
