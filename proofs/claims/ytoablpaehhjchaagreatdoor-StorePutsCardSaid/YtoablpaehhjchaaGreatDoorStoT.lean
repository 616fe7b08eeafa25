import Derived.Test.YtoablpaehhjchaaGreatDoorXrfA
import Derived.Test.YtoablpaehhjchaaGreatDoorStoM
import Derived.Test.YtoablpaehhjchaaGreatDoorCosLies
import Derived.Test.YtoablpaehhjchaaGreatDoorCosFB
import Derived.Test.YtoablpaehhjchaaGreatDoorXrfParseL
import Derived.Test.YtoablpaehhjchaaGreatDoorCosGet
import Derived.Maps.AppendAt
import Derived.Test.YtoablpaehhjchaaGreatDoorStoEnts
import Derived.Test.YtoablpaehhjchaaGreatDoorXrfStart
namespace Go.Proofs.YtoablpaehhjchaaGreatDoor
open Go.RowKit Go.Maps Cx Sx
set_option linter.unusedSimpArgs false
set_option linter.unusedVariables false

theorem zero_unitN (w : World) : (zeroValue 187).run Tryz.prog w = .ok (.agg #[]) w := by kernel_rfl

def MetI (w : World) (b n : Nat) (m : List Int) : Prop :=
  ∃ D : DataW Unit, w.ownsMap Tryz.prog 3 unitElem b n D ∧ ∀ key : Int, Maps.has D (.int .i64 key) = m.contains key

theorem MetI.made (w : World) : MetI (w.alloc (.map #[] 0)) w.heap.size 0 [] :=
  ⟨_, World.ownsMap_made w Tryz.prog 3 _, fun _ => rfl⟩
theorem MetI.gb {w w' : World} {b n : Nat} {m : List Int} (h : MetI w b n m) {r : Option Nat} (g : w.grownBy w' r) (hne : some b ≠ r) : MetI w' b n m := by
  obtain ⟨D, ho, hJ⟩ := h
  exact ⟨D, ho.kept g hne, hJ⟩
theorem MetI.kept {w w' : World} {b n : Nat} {m : List Int} (h : MetI w b n m) (k : Kept w w') : MetI w' b n m := h.gb (gbX k none) (by simp)
theorem MetI.lt {w : World} {b n : Nat} {m : List Int} (h : MetI w b n m) : b < w.heap.size := by
  obtain ⟨D, ho, _⟩ := h; exact ho.lt

section
variable {ops : Array Oper} {rest : List Oper} {o : Oper} {a : Act} {Q : Exit → Act → World → Prop} {w : World} {b n : Nat} {m : List Int}

set_option maxRecDepth 100000 in
theorem wpList_meti_ok (hg : o.guard = none) (mm x : Operand) (hop : o.op = Op.lookup 144 mm x true) (hI : MetI w b n m) (hm : a.eval mm = .map (some b)) (key : Int) (hx : a.eval x = .int .i64 key) (hk : -9223372036854775808 ≤ key ∧ key ≤ 9223372036854775807)
    (hK : wpList Tryz.prog ops Q rest (a.put o.dst (.tuple #[.agg #[], .bool (m.contains key)])) w) :
    wpList Tryz.prog ops Q (o :: rest) a w := by
  obtain ⟨D, ho, hJ⟩ := hI
  refine wpList_lookup_own_unit w hg mm x 144 hop 3 187 kint Tryz.underlying144 (zero_unitN w) b n D hm ho (.int .i64 key) (.int .i64 key) hx (keyOf_int_mk Tryz.underlying3 (wf_of hk)) ?_
  rw [hJ key]; exact hK

set_option maxRecDepth 100000 in
theorem wpList_meti_put (hg : o.guard = none) (mm x v : Operand) (hop : o.op = Op.mapUpdate 144 mm x v) (hI : MetI w b n m) (hn : n < maxLen) (hm : a.eval mm = .map (some b)) (key : Int) (hx : a.eval x = .int .i64 key) (hk : -9223372036854775808 ≤ key ∧ key ≤ 9223372036854775807) (hv : a.eval v = .agg #[])
    (hK : ∀ w', MetI w' b (n + 1) (key :: m) → w.grownBy w' (some b) → wpList Tryz.prog ops Q rest (a.put o.dst undef) w') :
    wpList Tryz.prog ops Q (o :: rest) a w := by
  obtain ⟨D, ho, hJ⟩ := hI
  refine wpList_mapUpdate_own w hg mm x v 144 hop 3 187 kint Tryz.underlying144 _ b n D hm ho hn (.int .i64 key) (.agg #[]) (.int .i64 key) hx hv (keyOf_int_mk Tryz.underlying3 (wf_of hk)) _ [] unitElem_mk ?_
  intro w' ho' hg'
  refine hK w' ⟨_, ho', fun k' => ?_⟩ hg'
  by_cases ek : k' = key
  · subst ek
    rw [has_put_same (ho.tidy kint).isMap (by trivial)]
    simp
  · rw [has_put_other (liti_ne ek), hJ k']
    simp [ek]
end

theorem sisWhole_any (o : Ob) (h : Hd) (w : World) :
    Calls Tryz.prog 90 #[objV o h] w fun e w' => e = .returned (.bool (wholeO o)) ∧ Kept w w' := by
  have HV := Lib.hid (show wholeO o = (o.k == 2 && o.n == 1 && decide (0 ≤ o.f)) from rfl)
  have K1 := Lib.hid ((Kept.refl w).alloc #[.int .i64 o.k, .int .i64 o.n, .int .i64 o.f, .string o.s, .slice h.p o.l.length h.c, .slice h.q o.d.length h.e] 39)
  unfold objV
  obtain ⟨k, hk⟩ : ∃ k, k = o.k := ⟨_, rfl⟩
  obtain ⟨n, hn⟩ : ∃ n, n = o.n := ⟨_, rfl⟩
  rw [← hk, ← hn] at HV K1 ⊢
  clear hk hn
  cases h1 : (k == 2) <;> cases h2 : (n == 1)
  all_goals
    go_enter Tryz.func90, Tryz.ntmps90
    go_wp2_with fail
    go_ret
    exact ⟨ret_bool (by rw [HV.out, h1, h2]; first | done | rfl | simp), K1.out⟩

theorem swholeOf_any (o : Ob) (h : Hd) (w : World) (h0 : -9223372036854775808 ≤ o.f) (h1 : o.f ≤ 9223372036854775807) :
    Calls Tryz.prog 91 #[objV o h] w fun e w' => e = .returned (.int .i64 (o.f.tdiv 1000)) ∧ Kept w w' := by
  have K1 := Lib.hid ((Kept.refl w).alloc #[.int .i64 o.k, .int .i64 o.n, .int .i64 o.f, .string o.s, .slice h.p o.l.length h.c, .slice h.q o.d.length h.e] 39)
  unfold objV
  obtain ⟨f, hf⟩ : ∃ f, f = o.f := ⟨_, rfl⟩
  rw [← hf] at K1 h0 h1 ⊢
  clear hf
  go_enter Tryz.func91, Tryz.ntmps91
  go_wp2_with fail
  go_ret
  exact ⟨rfl, K1.out⟩

end Go.Proofs.YtoablpaehhjchaaGreatDoor

namespace Go.Proofs.YtoablpaehhjchaaGreatDoor
open Go.RowKit Cx Sx Rx
set_option linter.unusedSimpArgs false
set_option linter.unusedVariables false

set_option maxRecDepth 100000 in

theorem wpList_app_slice_at {ops : Array Oper} {rest : List Oper} {o : Oper} {a : Act} {Q : Exit → Act → World → Prop} (hgd : o.guard = none) (s x : Operand)
    (ho : o.op = .call { callee := .builtin .append, args := #[s, x], argTypes := #[22, 22] })
    {W : World} {B : Nat} {v : Value} {l : List Xent} (hown : Ents 65 W B v l) (hs : a.eval s = v) (p : Option Addr) (es : List Xent) (c : Nat) (hes : EntR W W.heap.size p es) (hnil : p = none → c = 0)
    (hx : a.eval x = .slice p es.length c) (hB : B ≤ W.heap.size) (hlen : l.length + es.length ≤ 1099511627776)
    (h : ∀ v' w', Ents 65 w' B v' (l ++ es) → W.grownBy w' v.ownBlock → (∀ g, v'.ownBlock = some g → v.ownBlock = some g ∨ W.heap.size ≤ g) → wpList Tryz.prog ops Q rest (a.put o.dst v') w') :
    wpList Tryz.prog ops Q (o :: rest) a W := by
  obtain ⟨i0, hi, hz0, hz1, hz2⟩ := info_parts info_xent
  cases p with
  | none =>
    have he : es = [] := by
      cases es with
      | nil => rfl
      | cons e r =>
        obtain ⟨k, o, hp, _⟩ := hes 0 (by simp)
        cases hp
    subst he
    have hc := hnil rfl
    subst hc
    refine wpList_append_own_none hgd s x 22 ho B 65 i0 4 Tryz.underlying22 hi v l.length (entC l) hs hown hx ?_
    exact h v W (by rw [List.append_nil]; exact hown) ⟨rfl, rfl, rfl, Nat.le_refl _, fun _ _ _ => rfl⟩ (fun g hg => .inl hg)
  | some ad =>
    have hcs : ∀ j u, (entC es)[j]? = some u → W.cell? (ad.add j) = some u := by
      cases es with
      | nil => intro j u hj; simp [entC] at hj
      | cons e r =>
        obtain ⟨k, of, hp, -⟩ := hes 0 (by simp)
        injection hp with hp
        subst hp
        exact entR_cells hes
    refine wpList_append_own_at _ hgd s x 22 ho B 65 i0 _ 4 32 Tryz.underlying22 hi hz0 hz1 hz2 rfl (by decide) v l.length (entC l) hs hown ad es.length c (entC es) hx (by rw [entC_len]; omega)
      hcs entC_one_cell (by unfold maxLen; omega) (by omega) hB ?_
    intro v' w' h1 h2 h3 h4
    refine h v' w' ?_ h2 (fun g hg => ?_)
    · unfold Ents
      rw [List.length_append, entC_app]
      exact h1
    · rcases h4 with h4 | h4
      · exact .inl (by rw [← h4, hg])
      · exact .inr (by rw [h4] at hg; injection hg with hg; omega)

structure TabS (s : ByteArray) (met : List Int) (acc : List Xent) (N rb mb : Nat) (lv : Value) (w : World) : Prop where
  rd : Blk w rb #[.string s, .map (some mb), lv] 146
  mt : MetI w mb met.length met
  row : Ents 65 w N lv acc
  rN : rb < N
  mN : mb < N
  ne : rb ≠ mb
  sz : N ≤ w.heap.size

def TabP (N : Nat) (lv : Value) (b : Nat) : Prop := N ≤ b ∧ some b ≠ lv.ownBlock

def TabPost (s : ByteArray) (met : List Int) (acc : List Xent) (N rb mb : Nat) (lv : Value) (a : Int) (w0 w : World) (X : Int × List Xent × Ob) (e : Ending) (w' : World) : Prop :=
  ∃ h lv', e = .returned (.tuple #[objV X.2.2 h, .int .i64 X.1]) ∧ Kept w0 w' ∧ (X.1 = 0 → TabS s (a :: met) (acc ++ X.2.1) N rb mb lv' w') ∧ Lies (Cel (fun b => w.heap.size ≤ b ∧ TabP N lv' b) w') X.2.2 h ∧ (X.1 = 0 → ∀ b, TabP N lv b → b < w.heap.size → TabP N lv' b ∧ w'.heap[b]? = w.heap[b]?) ∧ (X.1 ≠ 0 → Kept w w')
theorem tab_bad {s : ByteArray} {met : List Int} {acc : List Xent} {N rb mb : Nat} {lv : Value} {a : Int} {w0 w : World} {X : Int × List Xent × Ob} {e : Int} {w' : World} (hX : X = (e, [], nul)) (he : e ≠ 0) (k : Kept w0 w') (k' : Kept w w') :
    TabPost s met acc N rb mb lv a w0 w X (.returned (.tuple #[.agg nul6, .int .i64 e])) w' :=
  ⟨Hd.none, lv, by rw [hX]; rfl, k, fun h => absurd h (by rw [hX]; exact he), by rw [hX]; exact Lies.flat _ _ _ _ _ _ (Nat.zero_le _), fun h => absurd h (by rw [hX]; exact he), fun _ => k'⟩
theorem tab_good {s : ByteArray} {met : List Int} {acc : List Xent} {N rb mb : Nat} {lv : Value} {a : Int} {w0 w : World} {es : List Xent} {o : Ob} {w' : World} (h : Hd) (lv' : Value) (k : Kept w0 w') (hT : TabS s (a :: met) (acc ++ es) N rb mb lv' w') (hl : Lies (Cel (fun b => w.heap.size ≤ b ∧ TabP N lv' b) w') o h) (hb : ∀ b, TabP N lv b → b < w.heap.size → TabP N lv' b ∧ w'.heap[b]? = w.heap[b]?) :
    TabPost s met acc N rb mb lv a w0 w (0, es, o) (.returned (.tuple #[objV o h, .int .i64 0])) w' :=
  ⟨h, lv', rfl, k, fun _ => hT, hl, fun _ => hb, fun h => absurd rfl h⟩

set_option maxRecDepth 100000 in
set_option maxHeartbeats 8000000 in
theorem table_any (s : ByteArray) (met : List Int) (acc : List Xent) (N rb mb : Nat) (lv : Value) (a : Int) (w0 w : World) (hs : s.size ≤ 65536) (hm0 : HasMax w0) (hk0 : Kept w0 w) (h0r : w0.heap.size ≤ rb) (h0m : w0.heap.size ≤ mb) (hT : TabS s met acc N rb mb lv w) (ha : -9223372036854775808 ≤ a ∧ a ≤ 9223372036854775807) (hml : met.length ≤ 1048576) (hal : acc.length ≤ 68719476736)
    (X : Int × List Xent × Ob) (hX : X = tableV s.data.toList met a) :
    Calls Tryz.prog 89 #[.pointer (some ⟨rb, 0, none⟩), .int .i64 a] w (TabPost s met acc N rb mb lv a w0 w X) := by
  have HT := Lib.hid hT
  have hlen : s.data.toList.length = s.size := by simp
  obtain ⟨c0, c1, c2⟩ : w.cell? ⟨rb, 0, none⟩ = some (.string s) ∧ w.cell? ⟨rb, 1, none⟩ = some (.map (some mb)) ∧ w.cell? ⟨rb, 2, none⟩ = some lv := ⟨hT.rd.cell 0, hT.rd.cell 1, hT.rd.cell 2⟩
  have cz := hT.rd.lt
  have hsz := hT.sz
  have HX := Lib.hid hX
  have HK0 := Lib.hid hk0
  have HM := Lib.hid (hm0.kept hk0)
  clear hX hk0 hm0 hT
  have B1 := Lib.hid (Blk.fresh w nul6 39)
  have K1 := Lib.hid (HK0.out.alloc nul6 39)
  have HW0 := Lib.hid (show w0.heap.size ≤ w.heap.size from Below.size HK0.out)
  have M1 := Lib.hid (HT.out.mt.kept ((Kept.refl w).alloc nul6 39))
  have R1 := Lib.hid (HT.out.rd.alloc (.cells nul6 39))
  have E1 := Lib.hid (HT.out.row.kept ((Kept.refl w).alloc nul6 39))
  have rmN := HT.out.rN
  have mmN := HT.out.mN
  obtain ⟨r0, r1, r2, r3, r4, r5⟩ := B1.out.cells6
  have rf := B1.out.free
  have rz := B1.out.lt
  cases hc : met.contains a with
  | true =>
    have HV := Lib.hid (show X = (7, [], nul) by rw [HX.out, tableV, if_pos hc])
    have HE := Lib.hid (show (7 : Int) ≠ 0 by decide)
    clear HX
    go_enter Tryz.func89, Tryz.ntmps89
    go_wp2_with (at_lookup; refine wpList_meti_ok (by rfl) _ _ (by rfl) M1.out (by rfl) a (by rfl) ha ?_; rw [hc])
    refine bodyPost_ret (v := .tuple #[.agg nul6, .int .i64 7]) ?_ rfl (tab_bad HV.out HE.out ?_ ?_)
    · simp [results, Tryz.results89, go_sem, r0, r1, r2, r3, r4, r5]
    · repeat (with_reducible first | exact K1.out | refine Kept.drew ?_ | refine Kept.drewN ?_ _ | refine Kept.alloc ?_ _ _ | refine Kept.set ?_ HW0.out _)
    · repeat (with_reducible first | exact Kept.refl _ | refine Kept.drew ?_ | refine Kept.drewN ?_ _ | refine Kept.alloc ?_ _ _ | refine Kept.set ?_ (Nat.le_refl _) _)

  | false =>
    have HX2 := Lib.hid (show X = if (s.size : Int) < a then (2, [], nul) else parseX s.data.toList a by rw [HX.out, tableV, hc, hlen]; rfl)
    clear HX hlen
    by_cases hbig : (s.size : Int) < a
    · have HV := Lib.hid (show X = (2, [], nul) by rw [HX2.out, if_pos hbig])
      have HE := Lib.hid (show (2 : Int) ≠ 0 by decide)
      clear HX2
      go_enter Tryz.func89, Tryz.ntmps89
      go_wp2_with (at_lookup; refine wpList_meti_ok (by rfl) _ _ (by rfl) M1.out (by rfl) a (by rfl) ha ?_; rw [hc])
      refine bodyPost_ret (v := .tuple #[.agg nul6, .int .i64 2]) ?_ rfl (tab_bad HV.out HE.out ?_ ?_)
      · simp [results, Tryz.results89, go_sem, r0, r1, r2, r3, r4, r5]
      · repeat (with_reducible first | exact K1.out | refine Kept.drew ?_ | refine Kept.drewN ?_ _ | refine Kept.alloc ?_ _ _ | refine Kept.set ?_ HW0.out _)
      · repeat (with_reducible first | exact Kept.refl _ | refine Kept.drew ?_ | refine Kept.drewN ?_ _ | refine Kept.alloc ?_ _ _ | refine Kept.set ?_ (Nat.le_refl _) _)

    · have HX3 := Lib.hid (show X = parseX s.data.toList a by rw [HX2.out, if_neg hbig])
      have K2 := Lib.hid (((Kept.refl w).alloc nul6 39).alloc #[] 187)
      have CP := Lib.hid (xParseL_any s a _ hs (HM.out.kept K2.out) X HX3.out)
      have HPL := Lib.hid (show X.2.1.length ≤ 65536 by rw [HX3.out]; exact Nat.le_trans (parse_len _ _) (by simp; omega))
      have HPB := Lib.hid (show X.1 ≠ 0 → X.2 = ([], nul) by rw [HX3.out]; exact parse_bad)
      clear HX2 HX3
      obtain ⟨xe, es, xo⟩ := X
      unfold objV at CP
      simp only [] at CP HPL HPB
      go_enter Tryz.func89, Tryz.ntmps89
      go_wp2_with (at_lookup; refine wpList_meti_ok (by rfl) _ _ (by rfl) M1.out (by rfl) a (by rfl) ha ?_; rw [hc])
      (with_reducible refine CP.out.mono ?_)
      rintro e w2 ⟨v, ⟨hp, hc', hq, he⟩, rfl, hen, hk2, hl2⟩
      obtain ⟨p5, c5, rfl, hsl5⟩ := hen.sl
      have K3 := Lib.hid (K2.out.trans hk2)
      have hz2 : w.heap.size + 1 < w2.heap.size := by have := hk2.size; simp at this; omega
      have BT := Lib.hid (Blk.fresh w2 #[.int .i64 xo.k, .int .i64 xo.n, .int .i64 xo.f, .string xo.s, .slice hp xo.l.length hc', .slice hq xo.d.length he] 39)
      have KT := Lib.hid ((Kept.refl w2).alloc #[.int .i64 xo.k, .int .i64 xo.n, .int .i64 xo.f, .string xo.s, .slice hp xo.l.length hc', .slice hq xo.d.length he] 39)
      have B4 := Lib.hid (((B1.out.alloc (.cells #[] 187)).kept hk2).kept KT.out)
      have L4 := Lib.hid (show Lies (Cel (fun b => w.heap.size + 1 < b ∧ b < w2.heap.size) _) xo ⟨hp, hc', hq, he⟩ from (hl2.keep (P' := fun b => w.heap.size + 1 < b ∧ b < w2.heap.size) (fun b hb hlt => ⟨⟨by simp at hb; omega, hlt⟩, rfl⟩)).kept KT.out)
      have N5 := Lib.hid hsl5.2.1
      have ES := Lib.hid (hen.kept KT.out)
      have K4 := Lib.hid (show Kept w _ from K3.out.trans KT.out)
      have K04 := Lib.hid (show Kept w0 _ from HK0.out.trans K4.out)
      have M4 := Lib.hid (HT.out.mt.kept K4.out)
      have R4 := Lib.hid (HT.out.rd.kept K4.out)
      have E4 := Lib.hid (HT.out.row.kept K4.out)
      clear r0 r1 r2 r3 r4 r5 rf rz c0 c1 c2 cz hen hk2 hl2 hsl5 M1 R1 E1
      obtain ⟨r0, r1, r2, r3, r4, r5⟩ := B4.out.cells6
      have rf := B4.out.free
      have rz := B4.out.lt
      by_cases hx : xe = 0
      · subst hx
        obtain ⟨c0, c1, c2⟩ : _ ∧ _ ∧ _ := ⟨R4.out.cell 0, R4.out.cell 1, R4.out.cell 2⟩
        simp at c0 c1 c2
        have cz := R4.out.lt
        have cf := R4.out.free
        have HG := Lib.hid (show ∀ g, lv.ownBlock = some g → N ≤ g ∧ g < w.heap.size from HT.out.row.lt)
        have HGM := Lib.hid (show lv.ownBlock = none ∨ lv.ownBlock ≠ some mb from by
          cases hv : lv.ownBlock with
          | none => exact .inl rfl
          | some g => exact .inr (fun e => by have := (HG.out g hv).1; injection e with e; omega))
        have HEM := Lib.hid (show (Value.slice p5 es.length c5).ownBlock = none ∨ (Value.slice p5 es.length c5).ownBlock ≠ some mb from by
          cases hv : (Value.slice p5 es.length c5).ownBlock with
          | none => exact .inl rfl
          | some g => exact .inr (fun e => by have := (ES.out.lt g hv).1; simp at this; injection e with e; omega))
        have S4 := Lib.hid (show w.heap.size ≤ (w2.alloc (.cells #[.int .i64 xo.k, .int .i64 xo.n, .int .i64 xo.f, .string xo.s, .slice hp xo.l.length hc', .slice hq xo.d.length he] 39)).heap.size from Below.size K4.out)
        have S42 := Lib.hid (show w2.heap.size ≤ (w2.alloc (.cells #[.int .i64 xo.k, .int .i64 xo.n, .int .i64 xo.f, .string xo.s, .slice hp xo.l.length hc', .slice hq xo.d.length he] 39)).heap.size from by simp)
        clear c0 c1 c2 cz cf r0 r1 r2 r3 r4 r5 rf rz
        obtain ⟨c0, c1, c2⟩ : _ ∧ _ ∧ _ := ⟨R4.out.cell 0, R4.out.cell 1, R4.out.cell 2⟩
        simp at c0 c1 c2
        have cz := R4.out.lt
        have cf := R4.out.free
        have nrm : rb ≠ mb := HT.out.ne
        obtain ⟨A, hA⟩ : ∃ A, A = acc ++ es := ⟨_, rfl⟩
        have HA := Lib.hid hA
        clear hA
        go_wp2_with (first
          | (at_mapUpdate; refine wpList_meti_put (by rfl) _ _ _ (by rfl) M4.out (by unfold maxLen; omega) (by rfl) a (by rfl) ha (by rfl) ?_; intro w5 hm5 hg5; have M5 := Lib.hid hm5; have G5 := Lib.hid hg5; have R5 := Lib.hid (Blk.gb R4.out hg5 (by simpa using nrm)); have E5 := Lib.hid (E4.out.gb hg5 HGM.out); have ES5 := Lib.hid (ES.out.gb hg5 HEM.out); have S5 := Lib.hid hg5.size; clear c0 c1 c2 cz cf hm5 hg5; obtain ⟨c0, c1, c2⟩ : _ ∧ _ ∧ _ := ⟨R5.out.cell 0, R5.out.cell 1, R5.out.cell 2⟩; simp at c0 c1 c2; have cz := R5.out.lt; have cf := R5.out.free)
          | (at_builtin; refine wpList_app_slice_at (by rfl) _ _ (by rfl) E5.out (by rfl) p5 es c5 ES5.out.entR N5.out (by rfl) (by have := S5.out; have := S4.out; omega) (by have := HPL.out; omega) ?_; intro v6 w6 ho6 hg6 hv6; rw [← HA.out] at ho6; obtain ⟨p6, c6, rfl, -⟩ := ho6.shape; have R6 := Lib.hid (Blk.gb R5.out hg6 (fun e => by have := (HG.out rb e.symm).1; omega)); have cz6 := R6.out.lt; have cf6 := R6.out.free; have G6 := Lib.hid hg6; have E6 := Lib.hid ho6; have V6 := Lib.hid hv6; have B6 := Lib.hid (Blk.gb (Blk.gb B4.out G5.out (by simp; omega)) hg6 (fun e => by have := (HG.out _ e.symm).2; omega)); have BT6 := Lib.hid (Blk.gb (Blk.gb BT.out G5.out (by simp; omega)) hg6 (fun e => by have := (HG.out _ e.symm).2; omega)); clear hg6 ho6 hv6; obtain ⟨r0, r1, r2, r3, r4, r5⟩ := B6.out.cells6; have rf := B6.out.free; have rz := B6.out.lt; obtain ⟨t0, t1, t2, t3, t4, t5⟩ := BT6.out.cells6; have tz := BT6.out.lt; obtain ⟨d0, d1, d2⟩ : _ ∧ _ ∧ _ := ⟨R6.out.cell 0, R6.out.cell 1, R6.out.cell 2⟩; simp at d0 d1 d2))
        have KF5 := Lib.hid (show Kept w0 w5 from Below.grown K04.out G5.out (Below.size K04.out) (fun k e => by injection e with e; omega))
        have KF6 := Lib.hid (show Kept w0 w6 from Below.grown KF5.out G6.out (Below.size KF5.out) (fun k e => by have := (HG.out k e).1; omega))
        have L6 := Lib.hid ((L4.out.gb G5.out (fun b hb e => by injection e with e; omega)).gb G6.out (fun b hb e => by have := (HG.out b e.symm).2; omega))
        have M6 := Lib.hid (M5.out.gb G6.out (fun e => by have := (HG.out mb e.symm).1; omega))
        have S6 := Lib.hid (show w2.heap.size ≤ w5.heap.size from by have := S5.out; have := S42.out; omega)
        have nwr : w.heap.size ≠ rb := by omega
        have nwm : w.heap.size ≠ mb := by omega
        have HV6 := Lib.hid (show ∀ b, w.heap.size + 1 < b ∧ b < w2.heap.size → w.heap.size ≤ b ∧ TabP N (.slice p6 A.length c6) b from fun b hb => ⟨by omega, by omega, fun e => by
          rcases V6.out b e.symm with h | h
          · have := (HG.out b h).2; omega
          · have := S6.out; omega⟩)
        have HB6 := Lib.hid (show ∀ b, TabP N lv b → b < w.heap.size → TabP N (.slice p6 A.length c6) b ∧ w6.heap[b]? = w.heap[b]? from fun b hb hlt => ⟨⟨hb.1, fun e => by
          rcases V6.out b e.symm with h | h
          · exact hb.2 h.symm
          · have := S6.out; omega⟩, by
          have e1 := K4.out.below.block b hlt
          have e2 := G5.out.block b (by have := S4.out; omega) (fun e => by injection e with e; have := hb.1; omega)
          have e3 := G6.out.block b (by have := S6.out; omega) hb.2
          rw [e3, e2, e1]⟩)
        have RF := Lib.hid (show ∀ (W : World), Blk W rb #[.string s, .map (some mb), .slice p6 A.length c6] 146 → MetI W mb (met.length + 1) (a :: met) → Ents 65 W N (.slice p6 A.length c6) A → N ≤ W.heap.size → TabS s (a :: met) A N rb mb (.slice p6 A.length c6) W from fun W h1 h2 h3 h4 => ⟨h1, h2, h3, rmN, mmN, nrm, h4⟩)
        have hown6 : ∀ g, (Value.slice p6 A.length c6).ownBlock = some g → g ≠ rb ∧ g ≠ w.heap.size := fun g hg => by
          have := (E6.out.lt g hg).1
          rcases V6.out g hg with h | h
          · have := (HG.out g h).2; omega
          · have := S6.out; omega
        have SN6 := Lib.hid (show N ≤ w6.heap.size from by have := KF6.out; have := G6.out.size; have := S6.out; omega)
        have R7 := Lib.hid (show Blk (w6.setCell ⟨rb, 2, none⟩ (.slice p6 A.length c6)) rb #[.string s, .map (some mb), .slice p6 A.length c6] 146 from by have := Blk.set R6.out 2 (.slice p6 A.length c6); simpa using this)
        have G7 := Lib.hid (gb_setAt w6 rb 2 (.slice p6 A.length c6))
        refine bodyPost_ret (v := .tuple #[.agg #[.int .i64 xo.k, .int .i64 xo.n, .int .i64 xo.f, .string xo.s, .slice hp xo.l.length hc', .slice hq xo.d.length he], .int .i64 0]) ?_ rfl (tab_good ⟨hp, hc', hq, he⟩ (.slice p6 A.length c6) ?_ ?_ ?_ (fun b hb hlt => ?_))
        · simp [results, Tryz.results89, go_sem, r0, r1, r2, r3, r4, r5, rz, cz6]
        · repeat (with_reducible first | exact KF6.out | refine Kept.drew ?_ | refine Kept.set ?_ h0r _ | refine Kept.set ?_ HW0.out _)
        · rw [← HA.out]
          refine RF.out _ ?_ ?_ ?_ ?_
          · repeat (with_reducible first | exact R7.out | refine Blk.drew ?_ | refine Blk.other ?_ (Ne.symm nwr) _)
          · refine MetI.gb (MetI.gb M6.out G7.out (by simpa using Ne.symm nrm)) (r := some w.heap.size) ?_ (by simpa using Ne.symm nwm)
            repeat (with_reducible first | exact gb_refl _ _ | refine gb_own ?_ _ _)
          · refine Ents.gb (Ents.gb E6.out G7.out ?_) (r := some w.heap.size) ?_ ?_
            · cases hv : (Value.slice p6 A.length c6).ownBlock with
              | none => exact .inl rfl
              | some g => exact .inr (fun e => by injection e with e; exact (hown6 g hv).1 e)
            · repeat (with_reducible first | exact gb_refl _ _ | refine gb_own ?_ _ _)
            · cases hv : (Value.slice p6 A.length c6).ownBlock with
              | none => exact .inl rfl
              | some g => exact .inr (fun e => by injection e with e; exact (hown6 g hv).2 e)
          · simp; exact SN6.out
        · refine Lies.weak (P := fun b => w.heap.size + 1 < b ∧ b < w2.heap.size) ?_ HV6.out
          refine Lies.gb (Lies.gb L6.out G7.out (fun b hb e => by injection e with e; omega)) (r := some w.heap.size) ?_ (fun b hb e => by injection e with e; omega)
          repeat (with_reducible first | exact gb_refl _ _ | refine gb_own ?_ _ _)
        · have h6 := HB6.out b hb hlt
          refine ⟨h6.1, ?_⟩
          rw [← h6.2]
          have e7 := G7.out.block b (by have := SN6.out; have := S6.out; have := G6.out.size; omega) (fun e => by injection e with e; have := hb.1; omega)
          rw [← e7]
          refine World.grownBy.block (row := some w.heap.size) ?_ b ?_ (fun e => by injection e with e; omega)
          · repeat (with_reducible first | exact gb_refl _ _ | refine gb_own ?_ _ _)
          · simp; have := S6.out; have := G6.out.size; omega
      · have HV := Lib.hid (HPB.out hx)
        have hne : (xe != 0) = true := by simpa using hx
        have HE := Lib.hid hx
        have e1 : es = [] := congrArg Prod.fst HV.out
        have e2 : xo = nul := congrArg Prod.snd HV.out
        subst e1 e2
        clear HPB hx
        go_wp2_with fail
        refine bodyPost_ret (v := .tuple #[.agg nul6, .int .i64 xe]) ?_ rfl (tab_bad rfl HE.out ?_ ?_)
        · simp [results, Tryz.results89, go_sem, r0, r1, r2, r3, r4, r5]
        · repeat (with_reducible first | exact K04.out | refine Kept.drew ?_ | refine Kept.drewN ?_ _ | refine Kept.alloc ?_ _ _ | refine Kept.set ?_ HW0.out _)
        · repeat (with_reducible first | exact K4.out | refine Kept.drew ?_ | refine Kept.drewN ?_ _ | refine Kept.alloc ?_ _ _ | refine Kept.set ?_ (Nat.le_refl _) _)

end Go.Proofs.YtoablpaehhjchaaGreatDoor

namespace Go.Proofs.YtoablpaehhjchaaGreatDoor
open Go.RowKit Cx Sx Rx
set_option linter.unusedSimpArgs false
set_option linter.unusedVariables false

def TabsPost (w : World) (Y : Int × List Xent × Ob) (e : Ending) (w' : World) : Prop :=
  (Y.1 ≠ 0 ∧ e = .returned (.tuple #[.slice none 0 0, .agg nul6, .int .i64 Y.1]) ∧ Kept w w') ∨
  (Y.1 = 0 ∧ ∃ v m h, e = .returned (.tuple #[v, objV Y.2.2 h, .int .i64 0]) ∧ IsM Y.2.1 m ∧ Ents 65 w' w.heap.size v m ∧ Kept w w' ∧ Lies (Cel (fun b => w.heap.size ≤ b) w') Y.2.2 h)
theorem tabs_bad {w w' : World} {Y : Int × List Xent × Ob} {e : Int} (hY : Y.1 = e) (he : e ≠ 0) (k : Kept w w') : TabsPost w Y (.returned (.tuple #[.slice none 0 0, .agg nul6, .int .i64 e])) w' := .inl ⟨by rw [hY]; exact he, by rw [hY], k⟩
theorem tabs_good {w w' : World} {Y : Int × List Xent × Ob} {all : List Xent} {o : Ob} (hY : Y = (0, all, o)) (v : Value) (m : List Xent) (h : Hd) (hm : IsM all m) (hE : Ents 65 w' w.heap.size v m) (k : Kept w w') (hl : Lies (Cel (fun b => w.heap.size ≤ b) w') o h) :
    TabsPost w Y (.returned (.tuple #[v, objV o h, .int .i64 0])) w' := .inr (by subst hY; exact ⟨rfl, v, m, h, rfl, hm, hE, k, hl⟩)

theorem TabS.kept {s : ByteArray} {met : List Int} {acc : List Xent} {N rb mb : Nat} {lv : Value} {w w' : World} (h : TabS s met acc N rb mb lv w) (k : Kept w w') : TabS s met acc N rb mb lv w' :=
  ⟨h.rd.kept k, h.mt.kept k, h.row.kept k, h.rN, h.mN, h.ne, Nat.le_trans h.sz (Below.size k)⟩
theorem TabS.alloc {s : ByteArray} {met : List Int} {acc : List Xent} {N rb mb : Nat} {lv : Value} {w : World} (h : TabS s met acc N rb mb lv w) (o : Obj) : TabS s met acc N rb mb lv (w.alloc o) := h.kept ((Kept.refl w).allocO o)
theorem TabS.drew {s : ByteArray} {met : List Int} {acc : List Xent} {N rb mb : Nat} {lv : Value} {w : World} (h : TabS s met acc N rb mb lv w) : TabS s met acc N rb mb lv w.drew := h.kept (Kept.refl w).drew
theorem TabS.set {s : ByteArray} {met : List Int} {acc : List Xent} {N rb mb : Nat} {lv : Value} {w : World} (h : TabS s met acc N rb mb lv w) {b o : Nat} (hb : TabP N lv b) (v : Value) : TabS s met acc N rb mb lv (w.setCell ⟨b, o, none⟩ v) :=
  have g := gb_setAt w b o v
  have h1 := h.rN
  have h2 := h.mN
  ⟨h.rd.gb g (fun e => by injection e with e; have := hb.1; omega), h.mt.gb g (fun e => by injection e with e; have := hb.1; omega), h.row.gb g (.inr (fun e => hb.2 e.symm)), h.rN, h.mN, h.ne, Nat.le_trans h.sz g.size⟩
def oC (o : Ob) (h : Hd) : Array Value := #[.int .i64 o.k, .int .i64 o.n, .int .i64 o.f, .string o.s, .slice h.p o.l.length h.c, .slice h.q o.d.length h.e]

structure TGood (s : ByteArray) (Y : Int × List Xent × Ob) (to_ : Ob) (th : Hd) (w2 wr : World) (N rb mb tb lb F : Nat) (met : List Int) (acc : List Xent) (x : Ob) (xh : Hd) (lv : Value) : Prop where
  y : Y = if (tabsG s.data.toList F met acc x).1 = 0 then (0, (tabsG s.data.toList F met acc x).2, to_) else ((tabsG s.data.toList F met acc x).1, [], nul)
  nd : met.Nodup
  bd : ∀ a ∈ met, 0 ≤ a ∧ a ≤ s.size
  fl : F + met.length = s.size + 3
  al : acc.length ≤ met.length * s.size
  eb : ∀ e ∈ acc, Eb e
  fb : ∀ key, FB (Cx.get x key)
  ts : TabS s met acc N rb mb lv wr
  k : Kept w2 wr
  tbk : Blk wr tb (oC to_ th) 39
  tbp : TabP N lv tb
  lbk : Blk wr lb (oC x xh) 39
  lbp : TabP N lv lb
  tl : tb < lb
  xl : Lies (Cel (TabP N lv) wr) x xh
  tol : Lies (Cel (fun b => TabP N lv b ∧ b < tb) wr) to_ th
def TLoop (s : ByteArray) (Y : Int × List Xent × Ob) (to_ : Ob) (th : Hd) (w2 wr : World) (N rb mb tb lb m : Nat) (e : Int) : Prop :=
  (e ≠ 0 ∧ Y.1 = e ∧ Kept w2 wr) ∨ (e = 0 ∧ ∃ F met acc x xh lv, m = F + 1 ∧ TGood s Y to_ th w2 wr N rb mb tb lb F met acc x xh lv)

set_option maxRecDepth 100000 in
set_option maxHeartbeats 8000000 in
theorem tables_any (s : ByteArray) (w : World) (hs : s.size ≤ 65536) (hm : HasMax w) (Y : Int × List Xent × Ob) (hY : Y = tablesV s.data.toList) :
    Calls Tryz.prog 59 #[.string s] w (TabsPost w Y) := by
  have hmm : ∀ (t : TypeId) (w : World), (Instr.makeMap t none).run Tryz.prog w = .ok (.map (some w.heap.size)) (w.alloc (.map #[] 0)) := fun _ _ => rfl
  have hlen : s.data.toList.length = s.size := by simp
  have HM := Lib.hid hm
  obtain ⟨U, hU⟩ : ∃ U, U = startX s.data.toList := ⟨_, rfl⟩
  have CS := Lib.hid (fun W (k : Kept w W) => Start_any s W (by omega) (hm.kept k) U hU)
  obtain ⟨T, hT⟩ : ∃ T, T = tableV s.data.toList [] U.2 := ⟨_, rfl⟩
  obtain ⟨R, hR⟩ : ∃ R, R = tabsG s.data.toList (s.data.toList.length + 2) [U.2] T.2.1 T.2.2 := ⟨_, rfl⟩
  have HY := Lib.hid (show Y = if U.1 = 0 then (if T.1 = 0 then (if R.1 = 0 then (0, R.2, T.2.2) else (R.1, [], nul)) else (T.1, [], nul)) else (U.1, [], nul) by rw [hY, tablesV, ← hU, ← hT, ← hR])
  have HU := Lib.hid (show U.1 = 0 → 0 ≤ U.2 ∧ U.2 ≤ s.size from fun h => by rw [hU] at h ⊢; have := start_ok h; rwa [hlen] at this)
  have HT := Lib.hid hT
  have HR := Lib.hid hR
  have B1 := Lib.hid (Blk.fresh w nul6 39)
  have K1 := Lib.hid ((Kept.refl w).alloc nul6 39)
  clear hm hY hU hT hR
  obtain ⟨ue, ua⟩ := U
  simp only [] at CS HY HU HT HR
  go_enter Tryz.func59, Tryz.ntmps59
  go_wp2_with fail
  (with_reducible refine (CS.out _ K1.out).mono ?_)
  rintro e w2 ⟨rfl, hk2⟩
  have K2 := Lib.hid (K1.out.trans hk2)
  have B2 := Lib.hid (B1.out.kept hk2)
  clear hk2 CS B1 K1
  obtain ⟨r0, r1, r2, r3, r4, r5⟩ := B2.out.cells6
  have rf := B2.out.free
  have rz := B2.out.lt
  by_cases hu : ue = 0
  · subst hu
    have HY2 := Lib.hid (show Y = if T.1 = 0 then (if R.1 = 0 then (0, R.2, T.2.2) else (R.1, [], nul)) else (T.1, [], nul) by first | rw [HY.out, if_pos rfl] | rw [HY.out, if_pos trivial])
    obtain ⟨ha0, ha1⟩ := HU.out (by trivial)
    have HM2 := Lib.hid (HM.out.kept K2.out)
    have K4 := Lib.hid (((Kept.refl w2).allocO (.map #[] 0)).alloc #[.string s, .map (some w2.heap.size), .slice none 0 0] 146)
    have B4 := Lib.hid ((B2.out.alloc (.map #[] 0)).alloc (.cells #[.string s, .map (some w2.heap.size), .slice none 0 0] 146))
    have S2 := Lib.hid (show w.heap.size ≤ w2.heap.size from Below.size K2.out)
    have TS := Lib.hid (show TabS s [] [] (w2.heap.size + 2) (w2.heap.size + 1) w2.heap.size (.slice none 0 0) ((w2.alloc (.map #[] 0)).alloc (.cells #[.string s, .map (some w2.heap.size), .slice none 0 0] 146)) from
      ⟨Blk.fresh' _ _ (by simp), (MetI.made w2).kept ((Kept.refl _).alloc _ _), World.ownsRow_nil _ _ _ _, by omega, by omega, by omega, by simp⟩)
    have CT := Lib.hid (table_any s [] [] (w2.heap.size + 2) (w2.heap.size + 1) w2.heap.size (.slice none 0 0) ua w2 _ hs HM2.out K4.out (by omega) (Nat.le_refl _) TS.out ⟨by omega, by omega⟩ (by simp) (by simp) T HT.out)
    have HTF := Lib.hid (fun key => show FB (Cx.get T.2.2 key) by rw [HT.out]; exact table_fb _ _ _ _)
    have HTE := Lib.hid (show ∀ e ∈ T.2.1, Eb e by rw [HT.out]; exact table_eb _ _ _)
    have HTL := Lib.hid (show T.2.1.length ≤ s.size by rw [HT.out]; have := table_len s.data.toList [] ua; rwa [hlen] at this)
    clear HY HU
    obtain ⟨te, ts, to_⟩ := T
    simp only [] at HY2 HTF HTE HTL HR
    clear r0 r1 r2 r3 r4 r5 rf rz
    go_wp2_with fail
    (with_reducible refine CT.out.mono ?_)
    rintro e w5 ⟨⟨tp, tc, tq, th⟩, lv, rfl, hk5, htab, hl5, -, hbad5⟩
    have K5 := Lib.hid hk5
    have L5 := Lib.hid hl5
    have T5 := Lib.hid htab
    have S5 := Lib.hid (show w2.heap.size + 2 ≤ w5.heap.size from by
      by_cases h : te = 0
      · exact (htab h).sz
      · have := (hbad5 h).size; simp at this; omega)
    have OW5 := Lib.hid (show te = 0 → ∀ b, w5.heap.size ≤ b → TabP (w2.heap.size + 2) lv b from fun h b hb => ⟨by have := S5.out; omega, fun e => by have := ((T5.out h).row.lt b e.symm).2; omega⟩)
    unfold objV
    simp only []
    clear hk5 htab hl5 hbad5
    go_wp2_with fail
    go_loopg [6, 9] (s.size + 3) (fun m i6 i9 wr => ∃ (e : Int) (lb : Nat), i6 = .int .i64 e ∧ i9 = .pointer (some ⟨lb, 0, none⟩) ∧ Hid (TLoop s Y to_ ⟨tp, tc, tq, th⟩ w2 wr (w2.heap.size + 2) (w2.heap.size + 1) w2.heap.size w5.heap.size lb m e))
    case atStart =>
      by_cases h0 : te = 0
      · subst h0
        have OW := OW5.out rfl
        refine ⟨0, _, rfl, rfl, Lib.hid (.inr ⟨rfl, s.size + 2, [ua], ts, to_, ⟨tp, tc, tq, th⟩, lv, rfl, ?_⟩)⟩
        refine ⟨?_, by simp, ?_, by simp, ?_, HTE.out, HTF.out, ?_, ?_, (Blk.fresh _ _ _).alloc _, OW _ (Nat.le_refl _), Blk.fresh' _ _ (by simp), OW _ (by omega), by omega, ?_, ?_⟩
        · have h := HY2.out
          rw [if_pos rfl, HR.out, hlen] at h
          exact h
        · intro a ha
          rw [List.mem_singleton.1 ha]
          exact ⟨ha0, ha1⟩
        · have := HTL.out; simpa using this
        · have := T5.out rfl
          rw [List.nil_append] at this
          exact (this.alloc _).alloc _
        · exact (K5.out.allocO _).allocO _
        · exact ((L5.out.weak (fun b hb => hb.2)).alloc _).alloc _
        · refine (Lies.alloc ?_ _).alloc _
          exact L5.out.keep (fun b hb hlt => ⟨⟨hb.2, hlt⟩, rfl⟩)
      · have h := HY2.out
        rw [if_neg h0] at h
        exact ⟨te, _, rfl, rfl, Lib.hid (.inl ⟨h0, by rw [h], (K5.out.allocO _).allocO _⟩)⟩
    case round =>
      obtain ⟨e, lb, rfl, rfl, HL⟩ := hrel
      rcases HL.out with ⟨he, hy, hk⟩ | ⟨rfl, F, met, acc, x, ⟨xp, xc, xq, xe⟩, lv', hm1, G⟩
      · have hne : (e == 0) = false := by simpa using he
        have hne2 : (e != 0) = true := by simpa using he
        have HE := Lib.hid he
        have HV := Lib.hid hy
        have KR := Lib.hid (K2.out.trans hk)
        have B3 := Lib.hid (B2.out.kept hk)
        clear hy hk HL
        obtain ⟨r0, r1, r2, r3, r4, r5⟩ := B3.out.cells6
        have rf := B3.out.free
        have rz := B3.out.lt
        go_wp2_with fail
        refine bodyPost_ret (v := .tuple #[.slice none 0 0, .agg nul6, .int .i64 e]) ?_ rfl (tabs_bad HV.out HE.out ?_)
        · simp [results, Tryz.results59, go_sem, r0, r1, r2, r3, r4, r5]
        · repeat (with_reducible first | exact KR.out | refine Kept.drew ?_ | refine Kept.drewN ?_ _ | refine Kept.alloc ?_ _ _ | refine Kept.set ?_ (Nat.le_refl _) _)
      · have GG := Lib.hid G
        have CG := Lib.hid (cosGet_any _ x ⟨xp, xc, xq, xe⟩ prevK wr G.xl)
        obtain ⟨y, hy⟩ : ∃ y, y = Cx.get x prevK := ⟨_, rfl⟩
        have HYF := Lib.hid (show FB y by rw [hy]; exact G.fb _)
        have LB := Lib.hid G.lbk
        have TB := Lib.hid G.tbk
        have hy1 := G.y
        have hfl := G.fl
        have hml := nodup_bd s.size met G.nd G.bd
        have hal := G.al
        have HAL := Lib.hid (show acc.length ≤ 4295032832 from Nat.le_trans hal (Nat.le_trans (Nat.mul_le_mul (show met.length ≤ 65537 by omega) hs) (by decide)))
        clear G HL
        obtain ⟨F, rfl⟩ : ∃ F', F = F' + 1 := ⟨F - 1, by omega⟩
        rw [tabsG, ← hy] at hy1
        have HG1 := Lib.hid hy1
        rw [← hy] at CG
        have CW := Lib.hid (fun W h => sisWhole_any y h W)
        have CV := Lib.hid (fun W h => swholeOf_any y h W (by have := HYF.out.1; omega) (by have := HYF.out.2; omega))
        obtain ⟨o0, o1, o2, o3, o4, o5⟩ := LB.out.cells6
        have of_ := LB.out.free
        have oz := LB.out.lt
        unfold objV prevK at CG
        unfold objV at CW CV
        simp only [] at o4 o5 CG
        clear hy hy1
        go_wp2_with fail
        (with_reducible refine CG.out.mono ?_)
        rintro e w3 ⟨⟨yp, yc, yq, ye⟩, rfl, hk3, hl3⟩
        have K3 := Lib.hid hk3
        have B10 := Lib.hid (Blk.fresh w3 (oC y ⟨yp, yc, yq, ye⟩) 39)
        have K10 := Lib.hid ((Kept.refl w3).alloc (oC y ⟨yp, yc, yq, ye⟩) 39)
        have CW1 := Lib.hid (CW.out (w3.alloc (.cells (oC y ⟨yp, yc, yq, ye⟩) 39)) ⟨yp, yc, yq, ye⟩)
        unfold oC at CW1
        simp only [] at CW1
        clear hk3 hl3 CG CW
        go_wp2_with fail
        (with_reducible refine CW1.out.mono ?_)
        rintro e w4 ⟨rfl, hk4⟩
        have K4 := Lib.hid (K3.out.trans (K10.out.trans hk4))
        have B4 := Lib.hid (B10.out.kept hk4)
        unfold oC at B4
        simp only [] at B4
        clear hk4 CW1 o0 o1 o2 o3 o4 o5 of_ oz
        obtain ⟨o0, o1, o2, o3, o4, o5⟩ := B4.out.cells6
        have of_ := B4.out.free
        have oz := B4.out.lt
        cases hwy : wholeO y with
        | false =>
          have HYV := Lib.hid (show Y = (0, acc, to_) by rw [HG1.out, hwy]; rfl)
          have TS4 := Lib.hid (GG.out.ts.kept K4.out)
          have RD4 := Lib.hid TS4.out.rd
          obtain ⟨p4, c4, rfl, hsl4⟩ := TS4.out.row.sl
          have CM := Lib.hid (fun W (k : Kept w4 W) => show Calls Tryz.prog 11 #[.slice p4 acc.length c4, .slice none 0 0] W _ from Merge_any acc [] p4 none c4 0 W (hsl4.see k) ⟨EntR.none _ _ _, fun _ => rfl, Nat.le_refl _⟩ (by have := HAL.out; simp; omega) (fun e he => by rw [List.append_nil] at he; have := GG.out.eb e he; exact ⟨by have := this.1; omega, by have := this.2.1; omega⟩))
          have TB4 := Lib.hid (TB.out.kept K4.out)
          have B24 := Lib.hid (B2.out.kept (GG.out.k.trans K4.out))
          have KW4 := Lib.hid (K2.out.trans (GG.out.k.trans K4.out))
          have LT4 := Lib.hid (GG.out.tol.kept K4.out)
          unfold oC at TB4
          simp only [] at TB4
          obtain ⟨d0, d1, d2⟩ : _ ∧ _ ∧ _ := ⟨RD4.out.cell 0, RD4.out.cell 1, RD4.out.cell 2⟩
          simp at d0 d1 d2
          have dz := RD4.out.lt
          obtain ⟨t0, t1, t2, t3, t4, t5⟩ := TB4.out.cells6
          have tz := TB4.out.lt
          obtain ⟨r0, r1, r2, r3, r4, r5⟩ := B24.out.cells6
          have rf := B24.out.free
          have rz := B24.out.lt
          have nr1 : w.heap.size ≠ w2.heap.size + 1 := by have := S2.out; have := B2.out.lt; omega
          have nr2 : w.heap.size ≠ w5.heap.size := by have := S5.out; have := B2.out.lt; omega
          clear hsl4 o0 o1 o2 o3 o4 o5 of_ oz
          go_wp2_with fail
          go_region_held3 (fun w' => w'.cell? ⟨w2.heap.size + 1, 2, none⟩ = some (.slice p4 acc.length c4) ∧ w'.cell? ⟨w5.heap.size, 0, none⟩ = some (.int .i64 to_.k) ∧ w'.cell? ⟨w5.heap.size, 1, none⟩ = some (.int .i64 to_.n) ∧ w'.cell? ⟨w5.heap.size, 2, none⟩ = some (.int .i64 to_.f) ∧ w'.cell? ⟨w5.heap.size, 3, none⟩ = some (.string to_.s) ∧ w'.cell? ⟨w5.heap.size, 4, none⟩ = some (.slice tp to_.l.length tc) ∧ w'.cell? ⟨w5.heap.size, 5, none⟩ = some (.slice tq to_.d.length th)) (go_keep)
            ((go_at_call 11; (first | (with_reducible refine (CM.out _ (Kept.refl _)).mono ?_) | (with_reducible refine (CM.out _ (Kept.refl _).drew).mono ?_)); rintro e w6 ⟨v6, m6, rfl, him6, hen6, hk6⟩; (have IM6 := Lib.hid him6); (have EN6 := Lib.hid (show Ents 65 w6 w4.heap.size v6 m6 from hen6)); (have KM := Lib.hid (show Kept w4 w6 from by first | exact hk6 | exact ((Kept.refl _).drew).trans hk6)); clear him6 hen6 hk6; (have RD6 := Lib.hid (RD4.out.kept KM.out)); (have TB6 := Lib.hid (TB4.out.kept KM.out)); (have B26 := Lib.hid (B24.out.kept KM.out)); (clear d0 d1 d2 dz t0 t1 t2 t3 t4 t5 tz r0 r1 r2 r3 r4 r5 rf rz); (have d2 := RD6.out.cell 2); (simp at d2); (have dz := RD6.out.lt); obtain ⟨t0, t1, t2, t3, t4, t5⟩ := TB6.out.cells6; (have tz := TB6.out.lt); obtain ⟨r0, r1, r2, r3, r4, r5⟩ := B26.out.cells6; have rf := B26.out.free; have rz := B26.out.lt))
          all_goals
            have KW6 := Lib.hid (KW4.out.trans KM.out)
            have LT6 := Lib.hid ((LT4.out.kept KM.out).weak (P' := fun b => w.heap.size < b) (fun b hb => by have := hb.1.1; have := B2.out.lt; omega))
            have EF6 := Lib.hid (EN6.out.base (Below.size KW4.out))
            go_wp2_with fail
            refine bodyPost_ret (v := .tuple #[v6, .agg #[.int .i64 to_.k, .int .i64 to_.n, .int .i64 to_.f, .string to_.s, .slice tp to_.l.length tc, .slice tq to_.d.length th], .int .i64 0]) ?_ rfl (tabs_good HYV.out v6 m6 ⟨tp, tc, tq, th⟩ (by have := IM6.out; rwa [List.append_nil] at this) ?_ ?_ ?_)
            · simp [results, Tryz.results59, go_sem, r0, r1, r2, r3, r4, r5]
            · refine EF6.out.gb (r := some w.heap.size) ?_ (by
                cases hv : v6.ownBlock with
                | none => exact .inl rfl
                | some g => exact .inr (fun e => by have := (EN6.out.lt g hv).1; injection e with e; have := B24.out.lt; omega))
              repeat (with_reducible first | exact gb_refl _ _ | refine gb_drew ?_ | refine gb_own ?_ _ _)
            · repeat (with_reducible first | exact KW6.out | refine Kept.drew ?_ | refine Kept.drewN ?_ _ | refine Kept.alloc ?_ _ _ | refine Kept.set ?_ (Nat.le_refl _) _)
            · refine Lies.weak (P := fun b => w.heap.size < b) ?_ (fun b hb => Nat.le_of_lt hb)
              repeat (with_reducible first | exact LT6.out | refine Lies.drew ?_ | refine Lies.set ?_ (fun b hb => Nat.ne_of_gt hb) _ | refine Lies.alloc ?_ _)
        | true =>
          have CV1 := Lib.hid (CV.out w4 ⟨yp, yc, yq, ye⟩)
          simp only [] at CV1
          obtain ⟨a, ha⟩ : ∃ a, a = y.f.tdiv 1000 := ⟨_, rfl⟩
          have HA := Lib.hid (show 0 ≤ a ∧ a ≤ 2147484 by
            have h1 := HYF.out.2
            have h2 : 0 ≤ y.f := by
              unfold wholeO at hwy
              simp only [Bool.and_eq_true, decide_eq_true_eq] at hwy
              exact hwy.2
            rw [ha, Int.tdiv_eq_ediv_of_nonneg h2]; omega)
          obtain ⟨X, hX⟩ : ∃ X, X = tableV s.data.toList met a := ⟨_, rfl⟩
          have HG2 := Lib.hid (show Y = if (if X.1 = 0 then tabsG s.data.toList F (a :: met) (acc ++ X.2.1) X.2.2 else (X.1, [])).1 = 0 then (0, (if X.1 = 0 then tabsG s.data.toList F (a :: met) (acc ++ X.2.1) X.2.2 else (X.1, [])).2, to_) else ((if X.1 = 0 then tabsG s.data.toList F (a :: met) (acc ++ X.2.1) X.2.2 else (X.1, [])).1, [], nul) by
            have h := HG1.out
            rw [if_pos hwy, ← ha, ← hX] at h
            exact h)
          have HGood := Lib.hid (show X.1 = 0 → Y = if (tabsG s.data.toList F (a :: met) (acc ++ X.2.1) X.2.2).1 = 0 then (0, (tabsG s.data.toList F (a :: met) (acc ++ X.2.1) X.2.2).2, to_) else ((tabsG s.data.toList F (a :: met) (acc ++ X.2.1) X.2.2).1, [], nul) from fun h => by
            have g := HG2.out
            rw [if_pos h] at g
            exact g)
          have HBad := Lib.hid (show X.1 ≠ 0 → Y.1 = X.1 from fun h => by
            have g := HG2.out
            rw [if_neg h] at g
            rw [g, if_neg h])
          have HMet := Lib.hid (show X.1 = 0 → a ∉ met ∧ a ≤ s.size from fun h => by
            rw [hX] at h
            have := table_met h
            rw [hlen] at this
            exact ⟨this.1, this.2.1⟩)
          have HFB := Lib.hid (show ∀ key, FB (Cx.get X.2.2 key) from fun key => by rw [hX]; exact table_fb _ _ _ _)
          have HEB := Lib.hid (show ∀ e ∈ X.2.1, Eb e by rw [hX]; exact table_eb _ _ _)
          have HLN := Lib.hid (show X.2.1.length ≤ s.size by rw [hX]; have := table_len s.data.toList met a; rwa [hlen] at this)
          rw [← ha] at CV1
          have CT := Lib.hid (fun W (k : Kept wr W) => table_any s met acc (w2.heap.size + 2) (w2.heap.size + 1) w2.heap.size lv' a w2 W hs HM2.out (GG.out.k.trans k) (by omega) (Nat.le_refl _) (GG.out.ts.kept k) ⟨by have := HA.out; omega, by have := HA.out; omega⟩ (by omega) (by have := HAL.out; omega) X hX)
          clear ha hX HG1 HG2 CV
          go_wp2_with fail
          (with_reducible refine CV1.out.mono ?_)
          rintro e w7 ⟨rfl, hk7⟩
          have K7 := Lib.hid (K4.out.trans hk7)
          have CT7 := Lib.hid (CT.out w7 K7.out)
          have LB7 := Lib.hid (LB.out.kept K7.out)
          have TB7 := Lib.hid (TB.out.kept K7.out)
          obtain ⟨xe', es, xo⟩ := X
          simp only [] at HGood HBad HMet HFB HEB HLN
          clear hk7 CT o0 o1 o2 o3 o4 o5 of_ oz
          go_wp2_with fail
          (with_reducible refine CT7.out.mono ?_)
          rintro e w8 ⟨⟨zp, zc, zq, ze⟩, lv8, rfl, hk8, htab8, hl8, hb8, hbad8⟩
          have K8 := Lib.hid hk8
          have LB8 := Lib.hid (show Blk w8 lb (oC x ⟨xp, xc, xq, xe⟩) 39 from by
            by_cases h : xe' = 0
            · exact ((hb8 h lb GG.out.lbp LB7.out.lt).2).trans LB7.out
            · exact LB7.out.kept (hbad8 h))
          have NLB := Lib.hid (show w2.heap.size ≤ lb from by have := GG.out.lbp.1; omega)
          unfold oC at LB8
          simp only [] at LB8
          obtain ⟨o0, o1, o2, o3, o4, o5⟩ := LB8.out.cells6
          have of_ := LB8.out.free
          have oz := LB8.out.lt
          unfold objV
          simp only []
          by_cases hx : xe' = 0
          · subst hx
            have T8 := Lib.hid (htab8 rfl)
            have PB8 := Lib.hid (hb8 rfl)
            have L8 := Lib.hid hl8
            have HY8 := Lib.hid (HGood.out rfl)
            have HM8 := Lib.hid (HMet.out rfl)
            have PL8 := Lib.hid (PB8.out lb GG.out.lbp LB7.out.lt).1
            have PT8 := Lib.hid (PB8.out w5.heap.size GG.out.tbp TB7.out.lt)
            have TB8 := Lib.hid (show Blk w8 w5.heap.size (oC to_ ⟨tp, tc, tq, th⟩) 39 from PT8.out.2.trans TB7.out)
            have TL := Lib.hid GG.out.tl
            have LT8 := Lib.hid (show Lies (Cel (fun b => TabP (w2.heap.size + 2) lv8 b ∧ b < w5.heap.size) w8) to_ ⟨tp, tc, tq, th⟩ from (GG.out.tol.kept K7.out).keep (fun b hb hlt => ⟨⟨(PB8.out b hb.1 hlt).1, hb.2⟩, (PB8.out b hb.1 hlt).2⟩))
            have ZL7 := Lib.hid LB7.out.lt
            clear htab8 hb8 hbad8 hl8 hk8
            go_wp2_with fail
            go_roundg (F + 1)
            case measure => omega
            case rel =>
              refine ⟨0, _, rfl, rfl, Lib.hid (.inr ⟨rfl, F, a :: met, acc ++ es, xo, ⟨zp, zc, zq, ze⟩, lv8, rfl, ?_⟩)⟩
              refine ⟨HY8.out, List.nodup_cons.2 ⟨HM8.out.1, GG.out.nd⟩, ?_, by simp only [List.length_cons]; omega, ?_, ?_, HFB.out, ?_, ?_, ?_, PT8.out.1, Blk.fresh' _ _ (by simp), ?_, ?_, ?_, ?_⟩
              · intro b hb
                rcases List.mem_cons.1 hb with rfl | hb
                · exact ⟨HA.out.1, HM8.out.2⟩
                · exact GG.out.bd b hb
              · have := HLN.out
                rw [List.length_append, List.length_cons, Nat.succ_mul]
                omega
              · intro e he
                rcases List.mem_append.1 he with h | h
                · exact GG.out.eb e h
                · exact HEB.out e h
              · repeat (with_reducible first | exact T8.out | refine TabS.alloc ?_ _ | refine TabS.set ?_ PL8.out _)
              · repeat (with_reducible first | exact K8.out | refine Kept.alloc ?_ _ _ | refine Kept.set ?_ NLB.out _)
              · repeat (with_reducible first | exact TB8.out | refine Blk.alloc ?_ _ | refine Blk.other ?_ (Nat.ne_of_lt TL.out) _)
              · exact ⟨by have := T8.out.sz; simpa using this, fun e => by have := (T8.out.row.lt _ e.symm).2; simp at this⟩
              · have := TL.out; simp; omega
              · refine Lies.weak (P := fun b => w7.heap.size ≤ b ∧ TabP (w2.heap.size + 2) lv8 b) ?_ (fun b hb => hb.2)
                repeat (with_reducible first | exact L8.out | refine Lies.alloc ?_ _ | refine Lies.set ?_ (fun b hb => by have := hb.1; have := ZL7.out; omega) _)
              · repeat (with_reducible first | exact LT8.out | refine Lies.alloc ?_ _ | refine Lies.set ?_ (fun b hb => by have := hb.2; have := TL.out; omega) _)
          · have HB8 := Lib.hid (HBad.out hx)
            have HX8 := Lib.hid hx
            clear htab8 hb8 hbad8 hl8 hk8 hx
            go_wp2_with fail
            go_roundg 0
            case measure => omega
            case rel =>
              refine ⟨xe', _, rfl, rfl, Lib.hid (.inl ⟨HX8.out, HB8.out, ?_⟩)⟩
              repeat (with_reducible first | exact K8.out | refine Kept.alloc ?_ _ _ | refine Kept.set ?_ NLB.out _)
  · have HV := Lib.hid (show Y.1 = ue by rw [HY.out, if_neg hu])
    have hne : (ue != 0) = true := by simpa using hu
    have HE := Lib.hid hu
    clear HY hu
    go_wp2_with fail
    refine bodyPost_ret (v := .tuple #[.slice none 0 0, .agg nul6, .int .i64 ue]) ?_ rfl (tabs_bad HV.out HE.out ?_)
    · simp [results, Tryz.results59, go_sem, r0, r1, r2, r3, r4, r5]
    · repeat (with_reducible first | exact K2.out | refine Kept.drew ?_ | refine Kept.drewN ?_ _ | refine Kept.alloc ?_ _ _ | refine Kept.set ?_ (Nat.le_refl _) _)

end Go.Proofs.YtoablpaehhjchaaGreatDoor
