/-
  The tree of lengths: treeOf.
-/
import Derived.Test.YtpplboihlndfpaaDoorInfCodes
import Derived.Test.YtpplboihlndfpaaDoorInfTreeMem
import Derived.Test.YtpplboihlndfpaaDoorInfBits
import Derived.Deep.RegionLaw
namespace Go.Proofs.YtpplboihlndfpaaDoor
open Go.RowKit Ix
set_option linter.unusedSimpArgs false
set_option linter.unusedVariables false

theorem codesV_err {X : List Int} {k : Int} (h : codesV X = .error k) : k = 1 ∨ k = 3 := by
  unfold codesV at h
  split at h
  · injection h with h; omega
  · split at h
    · split at h
      · cases h
      · injection h with h; omega
    · injection h with h; omega
theorem codesV_ok {X : List Int} {l : List Nat} (h : codesV X = .ok l) : l = codes (X.map Int.toNat) ∧ X.length ≤ 320 ∧ X.all inR = true ∧ isTree (X.map Int.toNat) = true := by
  unfold codesV at h
  split at h
  · cases h
  · rename_i h1
    split at h
    · rename_i h2
      split at h
      · rename_i h3
        injection h with h
        exact ⟨h.symm, by omega, h2, h3⟩
      · cases h
    · cases h

/-- A symbol is appended, in a region that draws its order. -/
theorem step_app_sym {ops : Array Oper} {o : Oper} {a : Act} {K : Act → World → Prop} {Q : Exit → Act → World → Prop} {E : Prop} (hgd : o.guard = none) (s x : Operand)
    (ho : o.op = .call { callee := .builtin .append, args := #[s, x], argTypes := #[74, 74] })
    {W : World} {B tb : Nat} {L : List Nat} {j : Nat} {S : Nat → Value} (V : Value) (m g0 : Nat) (ht : TB W B tb L j S) (hj : j < L.length) (hm : L[j] = m) (h0 : m ≠ 0) (h16 : m < 16) (hV : S m = V) (hb : Blk W g0 #[.int .i64 (j : Int)] 3)
    (hs : a.eval s = V) (hx : a.eval x = .slice (some ⟨g0, 0, none⟩) 1 1) (hB : B ≤ W.heap.size) (htb : tb < W.heap.size) (hlen : L.length ≤ 65536)
    (h : ∀ (g' cap : Nat) w', TB w' B tb L (j + 1) (fun n => if n = m then .slice (some ⟨g', 0, none⟩) ((sy L j m).length + 1) cap else S n) → W.grownBy w' V.ownBlock → K (a.put o.dst (.slice (some ⟨g', 0, none⟩) ((sy L j m).length + 1) cap)) w') :
    if Region.wanted o (yielded ops a.tmps) = true then Oper.wp Tryd.prog o a W K Q else E := by
  obtain ⟨i0, hi, hz0, hz1, hz2⟩ := info_parts info_int
  subst hm hV
  have hle : (sy L j L[j]).length ≤ L.length := by
    rw [sy_len L j _ (by omega) h0]
    exact Nat.le_trans (cnt_take_le L j _) (cnt_le L _)
  refine step_append_lies _ hgd s x 74 ho B 3 i0 (.int .i64 0) 1 8 Tryd.underlying74 hi hz0 hz1 hz2 rfl (by decide) (S L[j]) (sy L j L[j]).length (natsV (sy L j L[j])) hs (ht.row _ h16) ⟨g0, 0, none⟩ 1 1 (natsV [j]) hx (by rfl)
    ?_ ?_ (by decide) (by unfold maxLen; omega) (by omega) hB _ rfl ?_
  · intro i u hi
    rw [Addr.add_lit, Nat.zero_add, hb.cell i]
    simpa [natsV] using hi
  · intro u hu
    simp only [natsV, List.map_cons, List.map_nil, List.mem_singleton] at hu
    subst hu; rfl
  · intro g' cap w' h1 h2 h3 _
    exact h g' cap w' (ht.app hj h0 h16 h1 h2 (h3.imp_right fun e => by omega) htb) h2

/-- What the call of treeOf leaves. -/
def TreeA (X : List Int) (w : World) (e : Ending) (w' : World) : Prop := Kept w w' ∧ match codesV X with
  | .error k => e = .panicked (thrown k)
  | .ok _ => ∃ tb, e = .returned (.pointer (some ⟨tb, 0, none⟩)) ∧ Tree w' (fun b => w.heap.size ≤ b ∧ b < w'.heap.size) tb (X.map Int.toNat)
theorem treeA_no {X : List Int} {w w' : World} {k : Int} (hV : codesV X = .error k) (hk : Kept w w') : TreeA X w (.panicked (thrown k)) w' := by
  unfold TreeA; rw [hV]; exact ⟨hk, rfl⟩

set_option maxRecDepth 100000 in
set_option maxHeartbeats 4000000 in
theorem treeOf_any (X : List Int) (p : Option Addr) (c : Nat) (w : World) (h : IntsR w p X) (hl : X.length ≤ 9223372036854775807) :
    Calls Tryd.prog 113 #[.slice p X.length c] w (TreeA X w) := by
  have HX := Lib.hid h
  have CA := Lib.hid (Codes_any X p c w h hl)
  clear h
  have hp := run_thrown
  cases hV : codesV X with
  | error k =>
    have HV := Lib.hid hV
    have hk : (k != 0) = true := by rcases codesV_err hV with rfl | rfl <;> rfl
    have CE := Lib.hid (fun e w' (h : CodesA X w e w') => (show Kept w w' ∧ e = .returned (.tuple #[.slice none 0 0, .int .i64 k]) by
      unfold CodesA at h; rw [HV.out] at h; exact h))
    clear hV
    go_enter Tryd.func113, Tryd.ntmps113
    go_wp2_with fail
    (with_reducible refine CA.out.mono ?_)
    intro e w1 hca
    obtain ⟨hk1, rfl⟩ := CE.out _ _ hca
    have HK1 := Lib.hid hk1
    clear hca hk1
    go_wp2_with fail
    exact ⟨rfl, treeA_no HV.out HK1.out⟩
  | ok l =>
    have HV := Lib.hid hV
    obtain ⟨hl0, hl1, hl2, hl3⟩ := codesV_ok hV
    have CE := Lib.hid (fun e w' (h : CodesA X w e w') => (show Kept w w' ∧ ∃ g, e = .returned (.tuple #[.slice (some ⟨g, 0, none⟩) X.length X.length, .int .i64 0]) ∧ w.heap.size ≤ g ∧ Arr w' g X.length (fun i => ((l.getD i 0 : Nat) : Int)) 3 ∧ l.length = X.length by
      unfold CodesA at h; rw [HV.out] at h; exact h))
    have hN : (X.map Int.toNat).length = X.length := by simp
    obtain ⟨L, hL⟩ : ∃ L, L = X.map Int.toNat := ⟨_, rfl⟩
    rw [← hL] at hN hl0
    have HLX := Lib.hid hL
    have HIN := Lib.hid hl2
    have HCO := Lib.hid hl0
    clear hL hV hl2 hl3 hl0
    go_enter Tryd.func113, Tryd.ntmps113
    go_wp2_with fail
    (with_reducible refine CA.out.mono ?_)
    intro e w1 hca
    obtain ⟨hk1, g, rfl, hg, harr, -⟩ := CE.out _ _ hca
    have HK1 := Lib.hid hk1
    have HAR := Lib.hid harr
    have HX1 := Lib.hid (HX.out.kept hk1)
    have hgl := harr.lt
    clear hca hk1 harr
    go_wp2_with fail
    go_loopg [21] (X.length + 1) (fun m v wr => ∃ (j : Nat) (S : Nat → Value), m = X.length + 1 - j ∧ j ≤ X.length ∧ v = .int .i64 j ∧ Blk wr w1.heap.size (treeCells (fi L j) S) 168 ∧ TB wr w1.heap.size w1.heap.size L j S ∧ Kept w1 wr)
    case atStart =>
      have hnil : ∀ n, sy L 0 n = [] := fun n => by unfold sy; simp [pos_nil]
      refine ⟨0, fun _ => .slice none 0 0, rfl, Nat.zero_le _, rfl, ?_, ⟨fun n hn => by rw [hnil]; exact World.ownsRow_nil _ _ _ _, fun n hn _ => rfl, fun n hn => by simp [Value.ownBlock], fun n m _ _ _ g e => by simp [Value.ownBlock] at e⟩, (Kept.refl _).allocO _⟩
      have : treeCells (fi L 0) (fun _ => .slice none 0 0) = treeCells (fun _ => 0) (fun _ => .slice none 0 0) := by
        congr 1; funext n; unfold fi; rw [hnil]; rfl
      rw [this]
      exact Blk.fresh w1 _ _
    case round =>
      obtain ⟨j, S, hm, hj, rfl, hb, ht, hk⟩ := hrel
      have HBK := Lib.hid hb
      have HTB := Lib.hid ht
      have HK := Lib.hid hk
      clear hb ht hk
      by_cases hlt : j < X.length
      · obtain ⟨kb, o, hp, hkb, hc⟩ := (HX1.out.kept HK.out) j hlt
        subst hp
        have d1 := (HAR.out.kept HK.out).cell j hlt
        rw [HCO.out, codes_get L j (by omega)] at d1
        have hin : inR X[j] = true := List.all_eq_true.1 HIN.out _ (List.getElem_mem hlt)
        have HM := Lib.hid (show ∀ h : j < L.length, L[j] = X[j].toNat by rw [HLX.out]; intro h; simp)
        obtain ⟨x, hx⟩ : ∃ x, x = X[j] := ⟨_, rfl⟩
        rw [← hx] at hc HM hin
        clear hx
        unfold inR at hin
        rw [Bool.and_eq_true, decide_eq_true_eq, decide_eq_true_eq] at hin
        obtain ⟨m, rfl⟩ : ∃ m : Nat, x = (m : Int) := ⟨x.toNat, by omega⟩
        have h15 : m ≤ 15 := by omega
        have HM' := Lib.hid (show L[j] = m from HM.out (by omega))
        clear HM hin
        by_cases hm0 : m = 0
        · subst hm0
          go_wp2_with fail
          go_roundg (X.length + 1 - (j + 1))
          case measure => omega
          case rel =>
            have e1 := fi_skip L j (by omega) HM'.out
            have e2 := sy_skip L j (by omega) HM'.out
            refine ⟨j + 1, S, rfl, by omega, by go_num, by rw [e1]; exact HBK.out, ⟨fun n hn => by rw [e2]; exact HTB.out.row n hn, fun n hn => by rw [e2]; exact HTB.out.nil n hn, HTB.out.far, HTB.out.apart⟩, HK.out⟩
        · have t0 : ((m : Int) == 0) = false := by rw [beq_eq_false_iff_ne]; omega
          have c3 := HBK.out.cell m
          rw [treeCells_first _ _ _ (by omega)] at c3
          have c4 := HBK.out.free
          have hL0 : L[j] ≠ 0 := by rw [HM'.out]; exact hm0
          have HL0 := Lib.hid hm0
          have HL0' := hm0
          clear hL0 hm0
          by_cases he : sy L j m = []
          · have HSV := Lib.hid (HTB.out.nil m (by omega) he)
            have HE := Lib.hid he
            clear he
            have c5 := HBK.out.cell (16 + m)
            rw [treeCells_slice _ _ _ (by omega), HSV.out] at c5
            obtain ⟨y, hy⟩ : ∃ y, y = code L j := ⟨_, rfl⟩
            rw [← hy] at d1
            have HY := Lib.hid hy
            clear hy
            go_wp2_with fail
            go_region_with fail
            all_goals go_wp2_with fail
            have HBK2 := Lib.hid (show Blk (wr.setCell ⟨w1.heap.size, m, none⟩ (.int .i64 (y : Int))).drew w1.heap.size (treeCells (fi L (j + 1)) S) 168 by
              have z := (HBK.out.set m (.int .i64 (y : Int))).drew
              rw [treeCells_setF _ _ _ (by omega)] at z
              rw [← fi_new L j (by omega) (by rw [HM'.out]; exact HL0') (by rw [HM'.out]; exact HE.out), HM'.out, ← HY.out]
              exact z)
            have HTB2 := Lib.hid (show TB (wr.setCell ⟨w1.heap.size, m, none⟩ (.int .i64 (y : Int))).drew w1.heap.size w1.heap.size L j S from (HTB.out.other m _).kept (Kept.refl _).drew)
            have HK2 := Lib.hid (show Kept w1 (wr.setCell ⟨w1.heap.size, m, none⟩ (.int .i64 (y : Int))).drew from (HK.out.set (Nat.le_refl _) _).drew)
            clear c3 c4 c5 HBK HTB HK
            generalize (wr.setCell ⟨w1.heap.size, m, none⟩ (.int .i64 (y : Int))).drew = W2 at HBK2 HTB2 HK2 ⊢
            have FAR := Lib.hid (show some w1.heap.size ≠ (Value.slice none 0 0).ownBlock by simp [Value.ownBlock])
            have HOWN := Lib.hid (fun k (h : (.slice none 0 0 : Value).ownBlock = some k) => (World.ownsRow.lt (HTB2.out.row m (by omega)) k (by rw [HSV.out]; exact h)).1)
            have c5 := HBK2.out.cell (16 + m)
            rw [treeCells_slice _ _ _ (by omega), HSV.out] at c5
            have c6 := HBK2.out.free
            have c7 := HBK2.out.lt
            have i16 : (m : Int) < 16 := by omega
            go_region_law ((refine step_app_sym (by rfl) _ _ (by rfl) (.slice none 0 0) m W2.heap.size (HTB2.out.kept ((Kept.refl _).allocO _).drew) (by omega) HM'.out HL0.out (by omega) HSV.out ((Blk.fresh W2 #[.int .i64 (j : Int)] 3).drew) (by rfl) (by rfl) (by simp; omega) (by simp; omega) (by omega) ?_; intro g5 cap5 w5 ht5 hg5; have HB5 := Lib.hid (show Blk w5 w1.heap.size (treeCells (fi L (j + 1)) S) 168 from (hg5.block _ (by simp; omega) FAR.out).trans ((HBK2.out.alloc _).drew)); have d5 := HB5.out.cell (16 + m); rw [treeCells_slice _ _ _ (by omega), HSV.out] at d5; have d6 := HB5.out.free))
            all_goals
              have HK5 := Lib.hid (show Kept w1 w5 from (Below.drew (HK2.out.alloc _ _)).grown hg5 (by simp; omega) HOWN.out)
              have HT5 := Lib.hid ht5
              clear ht5 hg5
              go_wp2_with fail
              go_roundg (X.length + 1 - (j + 1))
              case measure => omega
              case rel =>
                refine ⟨j + 1, _, rfl, by omega, by go_num, ?_, HT5.out.other (16 + m) _, HK5.out.set (Nat.le_refl _) _⟩
                have z := HB5.out.set (16 + m) (.slice (some ⟨g5, 0, none⟩) ((sy L j m).length + 1) cap5)
                rw [treeCells_setS _ _ _ (by omega)] at z
                exact z
          · have HE := Lib.hid he
            obtain ⟨g3, cap3, hv3⟩ : ∃ g3 cap3, S m = .slice (some ⟨g3, 0, none⟩) (sy L j m).length cap3 := by
              rcases (HTB.out.row m (by omega)).2 with ⟨_, h0⟩ | ⟨g3, cap3, cur, hv, _⟩
              · exact absurd (List.eq_nil_of_length_eq_zero h0) he
              · exact ⟨g3, cap3, hv⟩
            have HSV := Lib.hid hv3
            obtain ⟨n3, hn3⟩ : ∃ n3, n3 = (sy L j m).length := ⟨_, rfl⟩
            have hnp : ((n3 : Int) == 0) = false := by
              rw [beq_eq_false_iff_ne, hn3]
              intro e
              exact he (List.eq_nil_of_length_eq_zero (by omega))
            have HN3 := Lib.hid hn3
            rw [← hn3] at HSV
            clear hv3 he hn3
            have c5 := HBK.out.cell (16 + m)
            rw [treeCells_slice _ _ _ (by omega), HSV.out] at c5
            go_wp2_with fail
            have HBK2 := Lib.hid (show Blk wr w1.heap.size (treeCells (fi L (j + 1)) S) 168 by
              rw [← fi_old L j (by omega) (by rw [HM'.out]; exact HL0') (by rw [HM'.out]; exact HE.out)]
              exact HBK.out)
            have HTB2 := HTB
            have HK2 := HK
            clear c3 c4 c5 HBK HTB HK
            obtain ⟨W2, hW2⟩ : ∃ W2, W2 = wr := ⟨_, rfl⟩
            rw [← hW2] at HBK2 HTB2 HK2 ⊢
            clear hW2
            have FAR := Lib.hid (show some w1.heap.size ≠ (Value.slice (some ⟨g3, 0, none⟩) n3 cap3).ownBlock by
              have := HTB2.out.far m (by omega)
              rw [HSV.out] at this
              exact fun e => this e.symm)
            have HOWN := Lib.hid (fun k (h : (.slice (some ⟨g3, 0, none⟩) n3 cap3 : Value).ownBlock = some k) => (World.ownsRow.lt (HTB2.out.row m (by omega)) k (by rw [HSV.out]; exact h)).1)
            have c5 := HBK2.out.cell (16 + m)
            rw [treeCells_slice _ _ _ (by omega), HSV.out] at c5
            have c6 := HBK2.out.free
            have c7 := HBK2.out.lt
            have i16 : (m : Int) < 16 := by omega
            go_region_law ((refine step_app_sym (by rfl) _ _ (by rfl) (.slice (some ⟨g3, 0, none⟩) n3 cap3) m W2.heap.size (HTB2.out.kept ((Kept.refl _).allocO _).drew) (by omega) HM'.out HL0.out (by omega) HSV.out ((Blk.fresh W2 #[.int .i64 (j : Int)] 3).drew) (by rfl) (by rfl) (by simp; omega) (by simp; omega) (by omega) ?_; intro g5 cap5 w5 ht5 hg5; have HB5 := Lib.hid (show Blk w5 w1.heap.size (treeCells (fi L (j + 1)) S) 168 from (hg5.block _ (by simp; omega) FAR.out).trans ((HBK2.out.alloc _).drew)); have d5 := HB5.out.cell (16 + m); rw [treeCells_slice _ _ _ (by omega), HSV.out] at d5; have d6 := HB5.out.free))
            all_goals
              have HK5 := Lib.hid (show Kept w1 w5 from (Below.drew (HK2.out.alloc _ _)).grown hg5 (by simp; omega) HOWN.out)
              have HT5 := Lib.hid ht5
              clear ht5 hg5
              go_wp2_with fail
              go_roundg (X.length + 1 - (j + 1))
              case measure => omega
              case rel =>
                refine ⟨j + 1, _, rfl, by omega, by go_num, ?_, HT5.out.other (16 + m) _, HK5.out.set (Nat.le_refl _) _⟩
                have z := HB5.out.set (16 + m) (.slice (some ⟨g5, 0, none⟩) ((sy L j m).length + 1) cap5)
                rw [treeCells_setS _ _ _ (by omega)] at z
                exact z
      · obtain rfl : j = X.length := by omega
        go_wp2_with fail
        go_ret
        unfold TreeA
        rw [HV.out]
        have hT : Tree wr (fun b => w1.heap.size ≤ b ∧ b < wr.heap.size) w1.heap.size L := by
          have e : X.length = L.length := hN.symm
          have t1 := HTB.out
          have t2 := HBK.out
          rw [e] at t1 t2
          exact t1.tree t2 (Nat.le_refl _)
        refine ⟨HK1.out.trans HK.out, w1.heap.size, rfl, ?_⟩
        rw [← HLX.out]
        exact hT.wide fun b hb => ⟨Nat.le_trans (Below.size HK1.out) hb.1, hb.2⟩

end Go.Proofs.YtpplboihlndfpaaDoor
