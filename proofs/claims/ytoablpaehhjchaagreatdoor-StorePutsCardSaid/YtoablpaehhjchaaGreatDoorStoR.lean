import Derived.Test.YtoablpaehhjchaaGreatDoorCosRows
import Derived.Test.YtoablpaehhjchaaGreatDoorCosP
import Derived.Test.YtoablpaehhjchaaGreatDoorStoM
import Derived.Test.YtoablpaehhjchaaGreatDoorCosGet
namespace Go.Proofs.YtoablpaehhjchaaGreatDoor
open Go.RowKit Cx Sx
set_option linter.unusedSimpArgs false
set_option linter.unusedVariables false

def cells8 (x : Nm) (h : Hd) : List Value := .int .i64 x.n :: .int .i64 x.g :: cells6 x.o h
def nmV (x : Nm) (h : Hd) : Value := .agg #[.int .i64 x.n, .int .i64 x.g, .int .i64 x.o.k, .int .i64 x.o.n, .int .i64 x.o.f, .string x.o.s, .slice h.p x.o.l.length h.c, .slice h.q x.o.d.length h.e]
theorem oneCell8 (x : Nm) (h : Hd) : ∀ u ∈ cells8 x h, u.oneCell' = true := by
  intro u hu
  rcases List.mem_cons.1 hu with rfl | hu
  · rfl
  · rcases List.mem_cons.1 hu with rfl | hu
    · rfl
    · exact oneCell6 _ _ u hu
def KN : Kind (Nm × Hd) := ⟨8, by decide, fun r => cells8 r.1 r.2, fun _ => rfl, fun r => oneCell8 r.1 r.2, fun r => r.1.o, fun r => r.2, 53, 44⟩
def KR : Kind (Nm × Hd) := ⟨8, by decide, fun r => cells8 r.1 r.2, fun _ => rfl, fun r => oneCell8 r.1 r.2, fun r => r.1.o, fun r => r.2, 57, 34⟩
abbrev nul8 : Array Value := #[.int .i64 0, .int .i64 0, .int .i64 0, .int .i64 0, .int .i64 0, .string ⟨#[]⟩, .slice none 0 0, .slice none 0 0]
theorem info_nm : (Tryz.prog.info? 53).map (fun i => (i.zero, i.size, i.bytes)) = some (some (.agg #[.int .i64 0, .int .i64 0, .int .i64 0, .int .i64 0, .int .i64 0, .string ⟨#[]⟩, .slice none 0 0, .slice none 0 0]), 8, 104) := by kernel_rfl
theorem Blk.cells8 {w : World} {b : Nat} {v0 v1 v2 v3 v4 v5 v6 v7 : Value} {t : TypeId} (h : Blk w b #[v0, v1, v2, v3, v4, v5, v6, v7] t) : w.cell? ⟨b, 0, none⟩ = some v0 ∧ w.cell? ⟨b, 1, none⟩ = some v1 ∧ w.cell? ⟨b, 2, none⟩ = some v2 ∧ w.cell? ⟨b, 3, none⟩ = some v3 ∧ w.cell? ⟨b, 4, none⟩ = some v4 ∧ w.cell? ⟨b, 5, none⟩ = some v5 ∧ w.cell? ⟨b, 6, none⟩ = some v6 ∧ w.cell? ⟨b, 7, none⟩ = some v7 :=
  ⟨h.cell 0, h.cell 1, h.cell 2, h.cell 3, h.cell 4, h.cell 5, h.cell 6, h.cell 7⟩

structure NmR (P : Nat → Prop) (w : World) (p : Option Addr) (l : List Nm) : Prop where
  len : l.length ≤ maxLen
  at' : ∀ i (hi : i < l.length), ∃ b off h, p = some ⟨b, off, none⟩ ∧ P b ∧ b < w.heap.size ∧ Lies (Cel P w) l[i].o h ∧
    w.cell? ⟨b, off + i * 8, none⟩ = some (.int .i64 l[i].n) ∧ w.cell? ⟨b, off + i * 8 + 1, none⟩ = some (.int .i64 l[i].g) ∧
    w.cell? ⟨b, off + i * 8 + 2, none⟩ = some (.int .i64 l[i].o.k) ∧ w.cell? ⟨b, off + i * 8 + 3, none⟩ = some (.int .i64 l[i].o.n) ∧ w.cell? ⟨b, off + i * 8 + 4, none⟩ = some (.int .i64 l[i].o.f) ∧
    w.cell? ⟨b, off + i * 8 + 5, none⟩ = some (.string l[i].o.s) ∧ w.cell? ⟨b, off + i * 8 + 6, none⟩ = some (.slice h.p l[i].o.l.length h.c) ∧ w.cell? ⟨b, off + i * 8 + 7, none⟩ = some (.slice h.q l[i].o.d.length h.e)

theorem NmR.keep {P P' : Nat → Prop} {w w' : World} {p : Option Addr} {l : List Nm} (h : NmR P w p l) (hs : w.heap.size ≤ w'.heap.size) (hP : ∀ b, P b → b < w.heap.size → P' b ∧ w'.heap[b]? = w.heap[b]?) : NmR P' w' p l := by
  refine ⟨h.len, fun i hi => ?_⟩
  obtain ⟨b, off, hd, hp, hb, hlt, hl, c0, c1, c2, c3, c4, c5, c6, c7⟩ := h.at' i hi
  have key : ∀ o v, w.cell? ⟨b, o, none⟩ = some v → w'.cell? ⟨b, o, none⟩ = some v := fun o v hv => by
    rw [World.cell?_of_block (w := w) (a := ⟨b, o, none⟩) (hP b hb hlt).2]; exact hv
  exact ⟨b, off, hd, hp, (hP b hb hlt).1, by omega, hl.keep hP, key _ _ c0, key _ _ c1, key _ _ c2, key _ _ c3, key _ _ c4, key _ _ c5, key _ _ c6, key _ _ c7⟩
theorem NmR.kept {P : Nat → Prop} {w w' : World} {p : Option Addr} {l : List Nm} (h : NmR P w p l) (k : Kept w w') : NmR P w' p l := h.keep (Below.size k) fun b hb hlt => ⟨hb, k.below.block b hlt⟩
theorem NmR.gb {P : Nat → Prop} {w w' : World} {p : Option Addr} {l : List Nm} {r : Option Nat} (h : NmR P w p l) (k : w.grownBy w' r) (hr : ∀ b, P b → some b ≠ r) : NmR P w' p l := h.keep k.size fun b hb hlt => ⟨hb, k.block b hlt (hr b hb)⟩
theorem NmR.weak {P P' : Nat → Prop} {w : World} {p : Option Addr} {l : List Nm} (h : NmR P w p l) (hP : ∀ b, P b → P' b) : NmR P' w p l := h.keep (Nat.le_refl _) fun b hb _ => ⟨hP b hb, rfl⟩
theorem NmR.nil (P : Nat → Prop) (w : World) (p : Option Addr) : NmR P w p [] := ⟨Nat.zero_le _, fun i hi => absurd hi (Nat.not_lt_zero _)⟩

theorem NmR.low {P : Nat → Prop} {w : World} {p : Option Addr} {l : List Nm} (h : NmR P w p l) : NmR (fun b => P b ∧ b < w.heap.size) w p l := h.keep (Nat.le_refl _) fun b hb hlt => ⟨⟨hb, hlt⟩, rfl⟩

theorem OwnK.nmR {K : Kind (Nm × Hd)} {N : Nat} {w : World} {p : Option Addr} {cap : Nat} {acc : List (Nm × Hd)} (hs : K.size = 8) (hc : ∀ r, K.cells r = cells8 r.1 r.2) (ho : ∀ r, K.ob r = r.1.o) (hh : ∀ r, K.hd r = r.2) (h : OwnK K N w (.slice p acc.length cap) acc) (hlen : acc.length ≤ maxLen) :
    NmR (fun b => N ≤ b) w p (acc.map (·.1)) := by
  refine ⟨by simpa using hlen, fun i hi => ?_⟩
  have hi' : i < acc.length := by simpa using hi
  obtain ⟨b, hp, hr⟩ := h.row i hi'
  rw [hs, hc] at hr
  have hl : Lies (Cel (fun b => N ≤ b) w) acc[i].1.o acc[i].2 := by
    have := (h.lies _ (List.getElem_mem hi')).weak (P' := fun b => N ≤ b) fun _ hb => hb.1
    rw [ho, hh] at this; exact this
  have e : (acc.map (·.1))[i] = acc[i].1 := List.getElem_map _
  rw [e]
  have hb0 := hr 0 _ rfl
  exact ⟨b, 0, acc[i].2, hp, hb0.1, World.block_lt_of_cell? w _ hb0.2, hl, (hr 0 _ rfl).2, (hr 1 _ rfl).2, (hr 2 _ rfl).2, (hr 3 _ rfl).2, (hr 4 _ rfl).2, (hr 5 _ rfl).2, (hr 6 _ rfl).2, (hr 7 _ rfl).2⟩
theorem OwnK.nm {N : Nat} {w : World} {p : Option Addr} {cap : Nat} {acc : List (Nm × Hd)} (h : OwnK KN N w (.slice p acc.length cap) acc) (hlen : acc.length ≤ maxLen) : NmR (fun b => N ≤ b) w p (acc.map (·.1)) :=
  h.nmR rfl (fun _ => rfl) (fun _ => rfl) (fun _ => rfl) hlen
set_option maxRecDepth 100000 in

theorem wpList_app_nm {ops : Array Oper} {rest : List Oper} {o : Oper} {a : Act} {Q : Exit → Act → World → Prop} (hgd : o.guard = none) (s x : Operand)
    (ho : o.op = .call { callee := .builtin .append, args := #[s, x], argTypes := #[44, 44] })
    {W : World} (N : Nat) {v : Value} (acc : List (Nm × Hd)) (hown : OwnK KN N W v acc) (hs : a.eval s = v) (r : Nm × Hd) (cells : Array Value) (hc : cells = (cells8 r.1 r.2).toArray)
    (H : Nat) (hH : W.heap.size = H) (hx : a.eval x = .slice (some ⟨H, 0, none⟩) 1 1) (hB : N ≤ W.heap.size) (hlen : acc.length ≤ 4294967296)
    (h : ∀ g cap w', w'.ownsRow N 53 8 (.slice (some ⟨g, 0, none⟩) (acc.length + 1) cap) (acc.length + 1) (KN.flat acc ++ KN.cells r) → (W.alloc (.cells cells 53)).grownBy w' v.ownBlock → (v.ownBlock = some g ∨ g = W.heap.size + 1) → g < w'.heap.size →
      wpList Tryz.prog ops Q rest (a.put o.dst (.slice (some ⟨g, 0, none⟩) (acc.length + 1) cap)) w') :
    wpList Tryz.prog ops Q (o :: rest) a (W.alloc (.cells cells 53)) := by
  obtain ⟨i0, hi, hz0, hz1, hz2⟩ := info_parts info_nm
  subst hc
  subst hH
  refine wpList_append_lies _ hgd s x 44 ho N 53 i0 _ 8 104 Tryz.underlying44 hi hz0 hz1 hz2 rfl (by decide) v acc.length (KN.flat acc) hs (hown.own.alloc _) ⟨W.heap.size, 0, none⟩ 1 1 (cells8 r.1 r.2) hx rfl
    ?_ (oneCell8 _ _) (by decide) (by unfold maxLen; omega) (by omega) (by simp; omega) (W.heap.size + 1) (by simp) h
  intro j u hj
  rw [Addr.add_lit, Nat.zero_add]
  have := (Blk.fresh W (cells8 r.1 r.2).toArray 53).cell j
  rw [this]
  simpa using hj
end Go.Proofs.YtoablpaehhjchaaGreatDoor

namespace Go.Proofs.YtoablpaehhjchaaGreatDoor
open Go.RowKit Cx Sx
set_option linter.unusedSimpArgs false
set_option linter.unusedVariables false

def AsksN (g : Nat) (lb : Array Value) (p : Nm → Bool) (w : World) : Prop :=
  ∀ (x : Nm) (h : Hd) (wx : World), Kept w wx → Calls Tryz.prog g (#[nmV x h] ++ lb) wx fun en w' => en = .returned (.bool (p x)) ∧ Kept wx w'
theorem findIdxN_le {p : Nm → Bool} {d : List Nm} {j : Nat} (hj : j < d.length) (h : ∀ i (hi : i < j), p (d[i]'(by omega)) = false) : j ≤ d.findIdx p := by
  rcases Nat.lt_or_ge (d.findIdx p) j with hlt | hge
  · have h1 := h _ hlt
    have h2 := idx_hit (p := p) (l := d) (by omega)
    rw [h2] at h1
    cases h1
  · exact hge
theorem findIdxN_at {p : Nm → Bool} {d : List Nm} {j : Nat} (hj : j < d.length) (hp : p d[j] = true) : d.findIdx p ≤ j := by
  rcases Nat.lt_or_ge j (d.findIdx p) with hlt | hge
  · have h1 := List.not_of_lt_findIdx hlt
    simp only [hp] at h1
    exact absurd h1 (by simp)
  · exact hge

set_option maxRecDepth 100000 in
set_option maxHeartbeats 4000000 in
theorem IndexFuncN_any (P : Nat → Prop) (g : Nat) (lb : Array Value) (p : Nm → Bool) (eg : Ent g) (d : List Nm) (q : Option Addr) (c : Nat) (w : World) (hl : NmR P w q d) (hp : AsksN g lb p w) (X : Int) (hX : X = idxN p d) :
    Calls Tryz.prog 61 #[.slice q d.length c, .func (.func g) #[] lb] w fun e w' => e = .returned (.int .i64 X) ∧ Kept w w' := by
  have HL := Lib.hid hl
  have HP := Lib.hid hp
  have HX := Lib.hid hX
  have hb := hl.len
  unfold maxLen at hb
  have EG := Lib.hid eg
  unfold Ent at eg
  clear hl hp hX
  go_enter Tryz.func61, Tryz.ntmps61
  go_wp2_with fail
  go_loopg [8] (d.length) (fun m a wr => ∃ j : Nat, m = d.length - j ∧ j ≤ d.length ∧ a = .int .i64 j ∧ Kept w wr ∧ Hid (∀ i (hi : i < j) (hd : i < d.length), p d[i] = false))
  case atStart => exact ⟨0, by omega, Nat.zero_le _, rfl, Kept.refl w, Lib.hid (fun i hi => absurd hi (Nat.not_lt_zero _))⟩
  case round =>
    obtain ⟨j, hm, hj, rfl, hk, HN⟩ := hrel
    have HK := Lib.hid hk
    clear hk
    by_cases hlt : j < d.length
    · obtain ⟨b, off, ⟨p', c', q', e'⟩, hq, hPb, hbl, hx, z0, z1, y0, y1, y2, y3, y4, y5⟩ := (HL.out.kept HK.out).at' j hlt
      subst hq
      obtain ⟨x, hxe⟩ : ∃ x, d[j] = x := ⟨_, rfl⟩
      rw [hxe] at z0 z1 y0 y1 y2 y3 y4 y5
      have CG := HP.out x ⟨p', c', q', e'⟩ wr HK.out
      unfold nmV at CG
      simp only [] at CG y4 y5
      have CG1 := Lib.hid CG
      have HXE := Lib.hid hxe
      clear CG hxe hx hPb
      cases hpx : p x
      · rw [hpx] at CG1
        go_wp2_with (go_at_fn g; refine CG1.out.mono ?_; rintro en w4 ⟨rfl, hk4⟩)
        have HK4 := Lib.hid (HK.out.trans (by assumption))
        go_roundg (d.length - (j + 1))
        case measure => omega
        case rel =>
          refine ⟨j + 1, rfl, by omega, by go_num, HK4.out, Lib.hid fun i hi hd => ?_⟩
          by_cases e : i < j
          · exact HN.out i e hd
          · obtain rfl : i = j := by omega
            rw [HXE.out]; exact hpx
      · rw [hpx] at CG1
        have hfi : d.findIdx p = j := by
          have h1 := findIdxN_le hlt (fun i hi => HN.out i hi (by omega))
          have h2 : d.findIdx p ≤ j := findIdxN_at hlt (by rw [HXE.out]; exact hpx)
          omega
        have HV := Lib.hid (show ((j : Nat) : Int) = X by rw [HX.out, idxN, hfi, if_pos hlt])
        clear hfi
        go_wp2_with (go_at_fn g; refine CG1.out.mono ?_; rintro en w4 ⟨rfl, hk4⟩)
        go_ret
        exact ⟨ret_int HV.out, HK.out.trans (by assumption)⟩
    · obtain rfl : j = d.length := by omega
      have HV := Lib.hid (show (-1 : Int) = X by
        rw [HX.out, idxN, if_neg]
        intro h
        have := HN.out _ h h
        rw [idx_hit h] at this
        cases this)
      go_wp2_with fail
      go_ret
      exact ⟨ret_int HV.out, HK.out⟩

theorem ent_place1 : Ent 62 := Go.Proofs.enters_of Tryz.func62 (by kernel_rfl) rfl

theorem ent_ahead1 : Ent 65 := Go.Proofs.enters_of Tryz.func65 (by kernel_rfl) rfl

theorem place1_asks (n : Int) (kb : Nat) (w : World) (hk : Blk w kb #[.int .i64 n] 3) : AsksN 62 #[.pointer (some ⟨kb, 0, none⟩)] (eqN n) w := by
  intro x h wx hkx
  have hc := (hk.kept hkx).cell 0
  have hz := (hk.kept hkx).lt
  simp at hc
  clear hk hkx
  obtain ⟨xn, xg, xo⟩ := x
  unfold nmV eqN
  simp only []
  show Calls Tryz.prog 62 #[.agg #[.int .i64 xn, .int .i64 xg, .int .i64 xo.k, .int .i64 xo.n, .int .i64 xo.f, .string xo.s, .slice h.p xo.l.length h.c, .slice h.q xo.d.length h.e], .pointer (some ⟨kb, 0, none⟩)] wx _
  go_enter Tryz.func62, Tryz.ntmps62
  go_wp2_with fail
  go_ret
  exact ⟨rfl, (Kept.refl wx).alloc _ _⟩

theorem ahead1_asks (n : Int) (kb : Nat) (w : World) (hk : Blk w kb #[.int .i64 n] 3) : AsksN 65 #[.pointer (some ⟨kb, 0, none⟩)] (gtN n) w := by
  intro x h wx hkx
  have hc := (hk.kept hkx).cell 0
  have hz := (hk.kept hkx).lt
  simp at hc
  clear hk hkx
  obtain ⟨xn, xg, xo⟩ := x
  unfold nmV gtN
  simp only []
  show Calls Tryz.prog 65 #[.agg #[.int .i64 xn, .int .i64 xg, .int .i64 xo.k, .int .i64 xo.n, .int .i64 xo.f, .string xo.s, .slice h.p xo.l.length h.c, .slice h.q xo.d.length h.e], .pointer (some ⟨kb, 0, none⟩)] wx _
  go_enter Tryz.func65, Tryz.ntmps65
  go_wp2_with fail
  go_ret
  exact ⟨rfl, (Kept.refl wx).alloc _ _⟩

theorem splace_any (P : Nat → Prop) (l : List Nm) (p : Option Addr) (c : Nat) (n : Int) (w : World) (h : NmR P w p l) (X : Int) (hX : X = idxN (eqN n) l) :
    Calls Tryz.prog 38 #[.slice p l.length c, .int .i64 n] w fun e w' => e = .returned (.int .i64 X) ∧ Kept w w' := by
  have hmf : ∀ (fn : Fn) (first cap : Array Value) (w : World), (Instr.makeFunc fn first cap).run Tryz.prog w = .ok (.func fn first cap) w := fun _ _ _ _ => rfl
  have k1 := (Kept.refl w).alloc #[.int .i64 n] 3
  have CI := Lib.hid (IndexFuncN_any P _ _ _ ent_place1 l p c _ (h.kept k1) (place1_asks n _ _ (Blk.fresh w _ _)) X hX)
  have K1 := Lib.hid k1
  clear h k1 hX
  go_enter Tryz.func38, Tryz.ntmps38
  go_wp2_with fail
  (with_reducible refine CI.out.mono ?_)
  rintro e w2 ⟨rfl, hk2⟩
  go_wp2_with fail
  go_ret
  exact ⟨rfl, K1.out.trans hk2⟩

theorem idxN_bd (p : Nm → Bool) (d : List Nm) : idxN p d < 0 ∨ ∃ i, i < d.length ∧ idxN p d = (i : Int) := by
  unfold idxN
  split
  · next h => exact .inr ⟨_, h, rfl⟩
  · exact .inl (by omega)
theorem find_no {l : List Nm} {n : Int} (h : idxN (eqN n) l < 0) : findV l n = nul := by
  rw [find_idx]
  unfold idxN at h
  split at h
  · omega
  · next hn => rw [dif_neg hn]
theorem find_yes {l : List Nm} {n : Int} {i : Nat} (hi : i < l.length) (h : idxN (eqN n) l = (i : Int)) : findV l n = l[i].o := by
  rw [find_idx]
  unfold idxN at h
  split at h
  · next hn =>
    rw [dif_pos hn]
    have e : l.findIdx (eqN n) = i := by omega
    simp only [e]
  · omega

def fileV (l : List Nm) (p : Option Addr) (c : Nat) (t : Ob) (h : Hd) : Value := .agg #[.slice p l.length c, .int .i64 t.k, .int .i64 t.n, .int .i64 t.f, .string t.s, .slice h.p t.l.length h.c, .slice h.q t.d.length h.e]

set_option maxRecDepth 100000 in
set_option maxHeartbeats 4000000 in
theorem Find_any (P : Nat → Prop) (l : List Nm) (p : Option Addr) (c : Nat) (t : Ob) (ht : Hd) (n : Int) (w : World) (h : NmR P w p l) :
    Calls Tryz.prog 19 #[fileV l p c t ht, .int .i64 n] w fun e w' => ∃ h', e = .returned (objV (findV l n) h') ∧ Kept w w' ∧ Lies (Cel P w') (findV l n) h' := by
  have HL := Lib.hid h.low
  have HB := Lib.hid (show l.length ≤ maxLen from h.len)
  obtain ⟨X, hX⟩ : ∃ X, X = idxN (eqN n) l := ⟨_, rfl⟩
  have HXX := Lib.hid hX
  have hbd := idxN_bd (eqN n) l
  rw [← hX] at hbd
  have HBD := Lib.hid hbd
  have H1 := Lib.hid (In.fresh' (k := w.heap.size + 1) (In.fresh (In.start w) #[.slice p l.length c, .int .i64 t.k, .int .i64 t.n, .int .i64 t.f, .string t.s, .slice ht.p t.l.length ht.c, .slice ht.q t.d.length ht.e] 46) nul6 39 (by simp))
  have CP := Lib.hid (fun W (k : Kept w W) => splace_any _ l p c n W (HL.out.kept k) X hX)
  clear h hX hbd
  unfold fileV
  go_enter Tryz.func19, Tryz.ntmps19
  go_wp2_with fail
  (with_reducible refine (CP.out _ (In.k H1.out)).mono ?_)
  rintro e w2 ⟨rfl, hk2⟩
  have H2 := Lib.hid (H1.out.kept hk2)
  have K2 := Lib.hid (In.k H2.out)
  have RM := Lib.hid (H2.out.mem List.mem_cons_self)
  obtain ⟨u0, u1, u2, u3, u4, u5⟩ := RM.out.cells6
  have uf := RM.out.free
  have uz := RM.out.lt
  have FM := Lib.hid (H2.out.mem (List.mem_cons_of_mem _ List.mem_cons_self))
  obtain ⟨f0, f1, f2, f3, f4, f5, f6⟩ := FM.out.cells7
  have fz := FM.out.lt
  clear hk2 H1
  rcases HBD.out with hneg | ⟨i, hi, rfl⟩
  · have HG := Lib.hid (show findV l n = nul from find_no (by rw [← HXX.out]; exact hneg))
    go_wp2_with fail
    refine bodyPost_ret (v := .agg nul6) ?_ rfl ⟨Hd.none, by rw [HG.out]; rfl, ?_, by rw [HG.out]; exact Lies.flat _ _ _ _ _ _ (Nat.zero_le _)⟩
    · simp [results, Tryz.results19, go_sem, u0, u1, u2, u3, u4, u5]
    · repeat (with_reducible first | exact K2.out | refine Kept.drew ?_ | refine Kept.alloc ?_ _ _ | refine Kept.set ?_ (by omega) _)
  · obtain ⟨b, off, ⟨p', c', q', e'⟩, hpp, hPb, hbl, hx, z0, z1, y0, y1, y2, y3, y4, y5⟩ := (HL.out.kept K2.out).at' i hi
    subst hpp
    have HG := Lib.hid (show findV l n = l[i].o from find_yes hi HXX.out.symm)
    obtain ⟨x, hxe⟩ : ∃ x, l[i].o = x := ⟨_, rfl⟩
    rw [hxe] at y0 y1 y2 y3 y4 y5 hx HG
    have XL := Lib.hid hx
    have NB := Lib.hid hPb
    have NK := Lib.hid (show ∀ b, (P b ∧ b < w.heap.size) → b ≠ w.heap.size + 1 from fun b hb => by omega)
    have hlb := HB.out
    unfold maxLen at hlb
    have i1 : (i : Int) < (l.length : Int) := by omega
    simp only [] at y4 y5
    clear hxe hx hPb z0 z1
    go_wp2_with fail
    refine bodyPost_ret (v := .agg #[.int .i64 x.k, .int .i64 x.n, .int .i64 x.f, .string x.s, .slice p' x.l.length c', .slice q' x.d.length e']) ?_ rfl ⟨⟨p', c', q', e'⟩, by rw [HG.out]; rfl, ?_, ?_⟩
    · simp [results, Tryz.results19, go_sem, u0, u1, u2, u3, u4, u5]
    · repeat (with_reducible first | exact K2.out | refine Kept.drew ?_ | refine Kept.alloc ?_ _ _ | refine Kept.set ?_ (by omega) _)
    · rw [HG.out]
      refine Lies.weak (P := fun b => P b ∧ b < w.heap.size) ?_ (fun b hb => hb.1)
      repeat (with_reducible first | exact XL.out | refine Lies.set ?_ NK.out _ | refine Lies.alloc ?_ _)

end Go.Proofs.YtoablpaehhjchaaGreatDoor
