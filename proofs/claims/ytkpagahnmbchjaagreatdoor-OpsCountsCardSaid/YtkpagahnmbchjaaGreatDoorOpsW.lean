/-
  Whether a Ref stands in an object: what ops.inside and ops.refs answer.
  How the library's Join of texts stands in this program, by hand.
  One operator as a line: ops.lineOf.
  Operators as a text: ops.Write.
-/
import Derived.Test.YtkpagahnmbchjaaGreatDoorOpsP
import Derived.Test.YtkpagahnmbchjaaGreatDoorCosWt
import Derived.Deep.LoopGhost
import Derived.OwnWalk
import Derived.Test.YtkpagahnmbchjaaGreatDoorWrA
import Derived.Shelf.Strings.OnBuilder
import Derived.Test.YtkpagahnmbchjaaGreatDoorWrC
import Derived.Test.YtkpagahnmbchjaaGreatDoorMaxOf
namespace Go.Proofs.YtkpagahnmbchjaaGreatDoor
open Go.RowKit Cx
set_option linter.unusedSimpArgs false
set_option linter.unusedVariables false

/-- Objects that a call copies into an array of its own: what lay elsewhere stays there. -/
def OwnB (w : World) (N : Nat) (v : Value) (rs : ORow) : Prop := w.ownsRow N 32 6 v rs.length (flatO rs)
section
variable {w w' : World} {N : Nat} {v : Value} {rs : ORow}
theorem OwnB.nil (N : Nat) (w : World) : OwnB w N (.slice none 0 0) [] := World.ownsRow_nil _ _ _ _
theorem OwnB.lt (h : OwnB w N v rs) : ∀ k, v.ownBlock = some k → N ≤ k ∧ k < w.heap.size := World.ownsRow.lt h
theorem OwnB.gb (h : OwnB w N v rs) {r : Option Nat} (g : w.grownBy w' r) (hne : v.ownBlock = none ∨ v.ownBlock ≠ r) : OwnB w' N v rs := World.ownsRow.kept h g hne
theorem OwnB.kept (h : OwnB w N v rs) (k : Kept w w') : OwnB w' N v rs :=
  h.gb (gb_kept k none) (by cases hv : v.ownBlock with
    | none => exact .inl rfl
    | some g => exact .inr (by simp))
theorem OwnB.row {p : Option Addr} {cap : Nat} (h : OwnB w N (.slice p rs.length cap) rs) (i : Nat) (hi : i < rs.length) : ∃ b o, p = some ⟨b, o, none⟩ ∧ RowAt (Cel (fun _ => True) w) b (o + i * 6) (cells6 rs[i].1 rs[i].2) := by
  obtain ⟨g, cap', hv, hb⟩ : ∃ g cap', (Value.slice p rs.length cap) = .slice (some ⟨g, 0, none⟩) rs.length cap' ∧ N ≤ g := by
    rcases h.2 with ⟨_, h0⟩ | ⟨g, cap', cur, hv, hb, _⟩
    · omega
    · exact ⟨g, cap', hv, hb⟩
  obtain ⟨rfl, rfl⟩ : p = some ⟨g, 0, none⟩ ∧ cap = cap' := by injection hv with e1 _ e3; exact ⟨e1, e3⟩
  refine ⟨g, 0, rfl, fun q u hq => ⟨trivial, ?_⟩⟩
  have hjl : q < 6 := by
    rcases Nat.lt_or_ge q 6 with h | h
    · exact h
    · rw [List.getElem?_eq_none (show (cells6 rs[i].1 rs[i].2).length ≤ q from h)] at hq; cases hq
  have := World.ownsRow.cells h (g := g) rfl (i * 6 + q) u (by unfold flatO; rw [flat_get (fun r : Ob × Hd => cells6 r.1 r.2) 6 (fun _ => rfl) rs i q hi hjl]; exact hq)
  rw [Addr.add_lit] at this
  rw [show 0 + i * 6 + q = 0 + (i * 6 + q) by omega]; exact this
theorem OwnB.arr {p : Option Addr} {cap : Nat} (h : OwnB w N (.slice p rs.length cap) rs) (hlen : rs.length ≤ maxLen) (hl : ∀ r ∈ rs, Lies (Cel (fun _ => True) w) r.1 r.2) :
    Lies (Cel (fun _ => True) w) (.mk 5 0 0 ⟨#[]⟩ (rs.map (·.1)) []) ⟨p, cap, none, 0⟩ := by
  refine .mk 5 0 0 ⟨#[]⟩ _ [] _ (fun i => if hi : i < rs.length then rs[i].2 else Hd.none) (fun _ => Hd.none) ⟨by simpa using hlen, Nat.zero_le _, Nat.zero_le _⟩ ?_ ?_ (fun _ hi => absurd hi (Nat.not_lt_zero _)) (fun _ hi => absurd hi (Nat.not_lt_zero _)) (fun _ hi => absurd hi (Nat.not_lt_zero _))
  · intro i hi
    have hi' : i < rs.length := by simpa using hi
    rw [List.getElem_map, dif_pos hi']
    exact hl _ (List.getElem_mem hi')
  · intro i hi
    have hi' : i < rs.length := by simpa using hi
    obtain ⟨b, o, hp, hr⟩ := h.row i hi'
    refine ⟨b, o, hp, ?_⟩
    rw [List.getElem_map, dif_pos hi']
    exact hr
end
set_option maxRecDepth 100000 in
/-- 'append(l, x)' to such a row. -/
theorem wpList_app_objB {ops : Array Oper} {rest : List Oper} {o : Oper} {a : Act} {Q : Exit → Act → World → Prop} (hgd : o.guard = none) (s x : Operand)
    (ho : o.op = .call { callee := .builtin .append, args := #[s, x], argTypes := #[25, 25] })
    {W : World} (N : Nat) {v : Value} (acc : ORow) (hown : OwnB W N v acc) (hs : a.eval s = v) (r : Ob × Hd) (cells : Array Value) (hc : cells = (cells6 r.1 r.2).toArray)
    (H : Nat) (hH : W.heap.size = H) (hx : a.eval x = .slice (some ⟨H, 0, none⟩) 1 1) (hB : N ≤ W.heap.size) (hlen : acc.length ≤ 4294967296)
    (h : ∀ g cap w', OwnB w' N (.slice (some ⟨g, 0, none⟩) (acc.length + 1) cap) (acc ++ [r]) → (W.alloc (.cells cells 32)).grownBy w' v.ownBlock → wpList Tryz.prog ops Q rest (a.put o.dst (.slice (some ⟨g, 0, none⟩) (acc.length + 1) cap)) w') :
    wpList Tryz.prog ops Q (o :: rest) a (W.alloc (.cells cells 32)) := by
  obtain ⟨i0, hi, hz0, hz1, hz2⟩ := info_parts info_obj
  subst hc
  subst hH
  refine wpList_append_lies _ hgd s x 25 ho N 32 i0 _ 6 88 Tryz.underlying25 hi hz0 hz1 hz2 rfl (by decide) v acc.length (flatO acc) hs (World.ownsRow.alloc hown _) ⟨W.heap.size, 0, none⟩ 1 1 (cells6 r.1 r.2) hx rfl
    ?_ (oneCell6 _ _) (by decide) (by unfold maxLen; omega) (by omega) (by simp; omega) (W.heap.size + 1) (by simp) ?_
  · intro j u hj
    rw [Addr.add_lit, Nat.zero_add]
    have := (Blk.fresh W (cells6 r.1 r.2).toArray 32).cell j
    rw [this]
    simpa using hj
  · intro g cap w' h1 h2 _ _
    refine h g cap w' ?_ h2
    unfold OwnB
    rw [List.length_append, show flatO (acc ++ [r]) = flatO acc ++ cells6 r.1 r.2 from flatO_snoc acc r.1 r.2]
    exact h1

/-- What inside leaves. -/
def InsPost (o : Ob) (w : World) (e : Ending) (w' : World) : Prop :=
  ∃ p c, e = .returned (.slice p o.inside.length c) ∧ Kept w w' ∧ Lies (Cel (fun _ => True) w') (.mk 5 0 0 ⟨#[]⟩ o.inside []) ⟨p, c, none, 0⟩

theorem Blk.cells7r {w : World} {b : Nat} {v0 v1 v2 v3 v4 v5 v6 : Value} {t : TypeId} (h : Blk w b #[v0, v1, v2, v3, v4, v5, v6] t) : w.cell? ⟨b, 0, none⟩ = some v0 ∧ w.cell? ⟨b, 1, none⟩ = some v1 ∧ w.cell? ⟨b, 2, none⟩ = some v2 ∧ w.cell? ⟨b, 3, none⟩ = some v3 ∧ w.cell? ⟨b, 4, none⟩ = some v4 ∧ w.cell? ⟨b, 5, none⟩ = some v5 ∧ w.cell? ⟨b, 6, none⟩ = some v6 :=
  ⟨h.cell 0, h.cell 1, h.cell 2, h.cell 3, h.cell 4, h.cell 5, h.cell 6⟩

set_option maxRecDepth 100000 in
set_option maxHeartbeats 4000000 in
theorem inside_any (P : Nat → Prop) (o : Ob) (h : Hd) (w : World) (hl0 : Lies (Cel P w) o h) (hb : o.d.length ≤ 4294967296) : Calls Tryz.prog 37 #[objV o h] w (InsPost o w) := by
  have hl := hl0.weak (P' := fun _ => True) (fun _ _ => trivial)
  have HL := Lib.hid hl
  obtain ⟨bl, bd, bs⟩ := hl.bounds
  obtain ⟨hp, hc, hq, he⟩ := h
  obtain ⟨k, n, f, s, l, d⟩ := o
  obtain ⟨I, hI⟩ : ∃ I, I = (Ob.mk k n f s l d).inside := ⟨_, rfl⟩
  have HI := Lib.hid (show I = if k = 5 then l else if k = 6 ∨ k = 8 then d.map (·.2) else [] from hI)
  have fin : ∀ w' e, (∃ p c, e = .returned (.slice p I.length c) ∧ Kept w w' ∧ Lies (Cel (fun _ => True) w') (.mk 5 0 0 ⟨#[]⟩ I []) ⟨p, c, none, 0⟩) → InsPost (.mk k n f s l d) w e w' := fun w' e h => by unfold InsPost; rw [← hI]; exact h
  have FIN := Lib.hid fin
  have LA := Lib.hid (show Lies (Cel (fun _ => True) w) (.mk 5 0 0 ⟨#[]⟩ l []) ⟨hp, hc, none, 0⟩ by
    cases hl with
    | mk k n f s l d h H E hk hl hlc hd hds hdc => exact .mk 5 0 0 ⟨#[]⟩ l [] _ H E ⟨hk.1, Nat.zero_le _, Nat.zero_le _⟩ hl hlc (fun _ hi => absurd hi (Nat.not_lt_zero _)) (fun _ hi => absurd hi (Nat.not_lt_zero _)) (fun _ hi => absurd hi (Nat.not_lt_zero _)))
  obtain ⟨D, hD⟩ : ∃ D, D = d.length := ⟨_, rfl⟩
  have HD := Lib.hid hD
  have ME := Lib.hid (show ∀ i, i < D → ∃ key x b off h', d[i]? = some (key, x) ∧ hq = some ⟨b, off, none⟩ ∧ Lies (Cel (fun _ => True) w) x h' ∧ ∀ w', Kept w w' → b < w'.heap.size ∧
      w'.cell? ⟨b, off + i * 7, none⟩ = some (.string key) ∧
      w'.cell? ⟨b, off + i * 7 + 1, none⟩ = some (.int .i64 x.k) ∧ w'.cell? ⟨b, off + i * 7 + 2, none⟩ = some (.int .i64 x.n) ∧ w'.cell? ⟨b, off + i * 7 + 3, none⟩ = some (.int .i64 x.f) ∧
      w'.cell? ⟨b, off + i * 7 + 4, none⟩ = some (.string x.s) ∧ w'.cell? ⟨b, off + i * 7 + 5, none⟩ = some (.slice h'.p x.l.length h'.c) ∧ w'.cell? ⟨b, off + i * 7 + 6, none⟩ = some (.slice h'.q x.d.length h'.e) from fun i hi => by
    obtain ⟨key, x, b, off, h', hde, hqe, -, hbl, hxl, -, c0, c1, c2, c3, c4, c5, c6⟩ := HL.out.entry i (show i < d.length by omega)
    refine ⟨key, x, b, off, h', (List.getElem?_eq_getElem (show i < d.length by omega)).trans (congrArg some hde), hqe, hxl, fun w' kk => ?_⟩
    have t : ∀ o v, w.cell? ⟨b, o, none⟩ = some v → w'.cell? ⟨b, o, none⟩ = some v := fun o v hv => (kk.cells.1 b o hbl).trans hv
    exact ⟨Nat.lt_of_lt_of_le hbl kk.size, t _ _ c0, t _ _ c1, t _ _ c2, t _ _ c3, t _ _ c4, t _ _ c5, t _ _ c6⟩)
  have bd2 : D ≤ 4294967296 := by rw [hD]; exact hb
  unfold objV
  simp only [Ob.k, Ob.n, Ob.f, Ob.s, Ob.l, Ob.d]
  rw [← hD]
  have K1 := Lib.hid ((Kept.refl w).alloc #[.int .i64 k, .int .i64 n, .int .i64 f, .string s, .slice hp l.length hc, .slice hq D he] 32)
  have BD := Lib.hid bd2
  clear fin hI hl0 hl bl bd bs hD HL bd2 hb
  by_cases h5 : k = 5
  · subst h5
    obtain rfl : I = l := by rw [HI.out, if_pos rfl]
    go_enter Tryz.func37, Tryz.ntmps37
    go_wp2_with fail
    go_ret
    exact FIN.out _ _ ⟨hp, hc, rfl, K1.out, LA.out.kept K1.out⟩
  have e5 : (k == 5) = false := by simpa using h5
  by_cases h68 : k = 6 ∨ k = 8
  · have HIV := Lib.hid (show I = d.map (·.2) by rw [HI.out, if_neg h5, if_pos h68])
    have hcase : (k == 6) = true ∨ ((k == 6) = false ∧ (k == 8) = true) := by
      rcases h68 with rfl | rfl
      · exact .inl rfl
      · exact .inr ⟨rfl, rfl⟩
    clear h5 h68 HI
    rcases hcase with h6 | ⟨h6, h8⟩
    all_goals
      go_enter Tryz.func37, Tryz.ntmps37
      go_wp2_with fail
      go_loopg [3, 18] D (fun m x i wr => ∃ (j : Nat) (rs : ORow) (p : Option Addr) (c : Nat), m = D - j ∧ j ≤ D ∧ i = .int .i64 j ∧ x = .slice p j c ∧ Hid (rs.length = j) ∧ Hid (rs.map (·.1) = (d.take j).map (·.2)) ∧ Kept w wr ∧ Hid (OwnB wr w.heap.size (.slice p j c) rs) ∧ Hid (∀ r ∈ rs, Lies (Cel (fun _ => True) w) r.1 r.2))
      case atStart => exact ⟨0, [], none, 0, by omega, Nat.zero_le _, rfl, rfl, Lib.hid rfl, Lib.hid rfl, K1.out, Lib.hid (OwnB.nil _ _), Lib.hid (fun r hr => by cases hr)⟩
      case round =>
        obtain ⟨j, rs, p, c, hm, hj, rfl, rfl, HRL, HRM, hkk, HO, HRS⟩ := hrel
        have KR := Lib.hid hkk
        by_cases hlt : j < D
        · have j1 : (j : Int) < (D : Int) := by omega
          obtain ⟨key, x, b, off, h', hde, hqe, hxl, hcs⟩ := ME.out j hlt
          obtain ⟨hbl, c0, c1, c2, c3, c4, c5, c6⟩ := hcs wr hkk
          subst hqe
          obtain ⟨xp, xc, xq, xe⟩ := h'
          simp only [] at c5 c6
          have HDE := Lib.hid hde
          have XL := Lib.hid (show Lies (Cel (fun _ => True) w) x ⟨xp, xc, xq, xe⟩ from hxl)
          have O7 := Lib.hid (HO.out.kept ((Kept.refl wr).alloc #[.string key, .int .i64 x.k, .int .i64 x.n, .int .i64 x.f, .string x.s, .slice xp x.l.length xc, .slice xq x.d.length xe] 50))
          have K7 := Lib.hid ((hkk.alloc #[.string key, .int .i64 x.k, .int .i64 x.n, .int .i64 x.f, .string x.s, .slice xp x.l.length xc, .slice xq x.d.length xe] 50).alloc #[.int .i64 x.k, .int .i64 x.n, .int .i64 x.f, .string x.s, .slice xp x.l.length xc, .slice xq x.d.length xe] 32)
          have hB : w.heap.size ≤ (wr.alloc (.cells #[.string key, .int .i64 x.k, .int .i64 x.n, .int .i64 x.f, .string x.s, .slice xp x.l.length xc, .slice xq x.d.length xe] 50)).heap.size := by have := hkk.size; simp; omega
          have OL := Lib.hid (fun k hk => (O7.out.lt k hk).1)
          have S7 := Lib.hid K7.out.size
          have BR := Lib.hid (show Kept wr ((wr.alloc (.cells #[.string key, .int .i64 x.k, .int .i64 x.n, .int .i64 x.f, .string x.s, .slice xp x.l.length xc, .slice xq x.d.length xe] 50)).alloc (.cells #[.int .i64 x.k, .int .i64 x.n, .int .i64 x.f, .string x.s, .slice xp x.l.length xc, .slice xq x.d.length xe] 32)) from ((Kept.refl wr).alloc _ _).alloc _ _)
          have RSB := Lib.hid (HO.out.lt)
          clear hde hxl hkk hcs
          rw [← HRL.out] at O7 OL RSB
          go_wp2_with (at_builtin; refine wpList_app_objB rfl _ _ rfl w.heap.size rs O7.out (by rw [HRL.out]; rfl) (x, ⟨xp, xc, xq, xe⟩) _ rfl (wr.heap.size + 1) (by simp) rfl hB (by rw [HRL.out]; have := BD.out; omega) ?_)
          intro g cap' w5 own5 hg5
          have K8 := Lib.hid (show Kept w w5 from Below.grown K7.out hg5 S7.out (fun kk hkk => OL.out kk hkk))
          have RS8 := Lib.hid (show ∀ r ∈ rs ++ [((x, ⟨xp, xc, xq, xe⟩) : Ob × Hd)], Lies (Cel (fun _ => True) w) r.1 r.2 from fun r hr => by
            rcases List.mem_append.1 hr with hr | hr
            · exact HRS.out r hr
            · obtain rfl := List.mem_singleton.1 hr
              exact XL.out)
          have HRL2 := Lib.hid (show (rs ++ [((x, ⟨xp, xc, xq, xe⟩) : Ob × Hd)]).length = j + 1 by rw [List.length_append, HRL.out]; rfl)
          have HRM2 := Lib.hid (show (rs ++ [((x, ⟨xp, xc, xq, xe⟩) : Ob × Hd)]).map (·.1) = (d.take (j + 1)).map (·.2) by
            have e : d.take (j + 1) = d.take j ++ [(key, x)] := by rw [List.take_add_one, HDE.out]; rfl
            rw [e, List.map_append, List.map_append, HRM.out]; rfl)
          rw [HRL.out] at own5
          rw [HRL.out]
          have O8 := Lib.hid own5
          clear own5 hg5
          go_wp2_with fail
          go_roundg (D - (j + 1))
          case measure => omega
          case rel => exact ⟨j + 1, _, some ⟨g, 0, none⟩, cap', rfl, hlt, by (rw [show wrap64 ((j : Int) + 1) = ((j + 1 : Nat) : Int) by (have := BD.out; unfold wrap64; omega)]), rfl, HRL2, HRM2, K8.out, O8, RS8⟩
        · obtain rfl : j = D := by omega
          have hIL : I.length = j := by rw [HIV.out, List.length_map]; exact HD.out.symm
          have hIR : rs.map (·.1) = I := by rw [HRM.out, HIV.out, HD.out, List.take_length]
          have LF := Lib.hid (show Lies (Cel (fun _ => True) wr) (.mk 5 0 0 ⟨#[]⟩ I []) ⟨p, c, none, 0⟩ by
            have := HO.out
            rw [← HRL.out] at this
            rw [← hIR]
            exact this.arr (by rw [HRL.out]; have := BD.out; unfold maxLen; omega) (fun r hr => (HRS.out r hr).kept KR.out))
          have HIL := Lib.hid hIL
          clear hIL hIR
          go_wp2_with fail
          go_ret
          exact FIN.out _ _ ⟨p, c, (show _ = Ending.returned (.slice p j c) from rfl).trans (by rw [HIL.out]), KR.out, LF.out⟩
  · obtain rfl : I = [] := by rw [HI.out, if_neg h5, if_neg h68]
    have h6 : (k == 6) = false := by simp; omega
    have h8 : (k == 8) = false := by simp; omega
    clear h5 h68
    go_enter Tryz.func37, Tryz.ntmps37
    go_wp2_with fail
    go_ret
    exact FIN.out _ _ ⟨none, 0, rfl, K1.out, .mk 5 0 0 ⟨#[]⟩ [] [] _ (fun _ => Hd.none) (fun _ => Hd.none) ⟨Nat.zero_le _, Nat.zero_le _, Nat.zero_le _⟩ (fun _ hi => absurd hi (Nat.not_lt_zero _)) (fun _ hi => absurd hi (Nat.not_lt_zero _)) (fun _ hi => absurd hi (Nat.not_lt_zero _)) (fun _ hi => absurd hi (Nat.not_lt_zero _)) (fun _ hi => absurd hi (Nat.not_lt_zero _))⟩

theorem refsL_dropEnd (l : List Ob) (lev : Nat) (j : Nat) (h : l.length ≤ j) : refsL (l.drop j) lev = 0 := by rw [List.drop_of_length_le h, refsL_nil]
theorem inside_size {o x : Ob} (h : x ∈ o.inside) : SizeOf.sizeOf x < SizeOf.sizeOf o := by
  unfold Ob.inside at h
  split at h
  · exact sizeOf_l h
  · split at h
    · obtain ⟨e, he, rfl⟩ := List.mem_map.1 h
      exact sizeOf_d he
    · cases h
theorem inside_fits {M : Nat} {o x : Ob} (hf : Ob.Fits M o) (h : x ∈ o.inside) : Ob.Fits M x := by
  unfold Ob.inside at h
  split at h
  · exact hf.l h
  · split at h
    · obtain ⟨e, he, rfl⟩ := List.mem_map.1 h
      exact (hf.d he).2
    · cases h
def RefC (x : Ob) : Prop := ∀ (h : Hd) (lev : Nat) (w : World), Lies (Cel (fun _ => True) w) x h → Ob.Fits 4294967296 x → lev ≤ 65537 →
  Calls Tryz.prog 28 #[objV x h, .int .i64 lev] w fun e w' => e = .returned (.int .i64 (x.refs lev)) ∧ Kept w w'

set_option maxRecDepth 100000 in
set_option maxHeartbeats 4000000 in
theorem refs_step (x : Ob) (IH : ∀ z ∈ x.inside, RefC z) : RefC x := by
  intro h lev w hl hfit hlev
  have IN := Lib.hid (fun w' (kk : Kept w w') => inside_any _ x h w' (hl.kept kk) (by have := hfit.s; omega))
  obtain ⟨R, hR⟩ : ∃ R, R = x.refs lev := ⟨_, rfl⟩
  have HR0 := hR.trans (refs_inside x lev)
  have HIH := Lib.hid (fun z hz w' h' (hl' : Lies (Cel (fun _ => True) w') z h') (hv : lev ≤ 65536) => IH z hz h' (lev + 1) w' hl' (inside_fits hfit hz) (by omega))
  rw [← hR]
  unfold InsPost at IN
  obtain ⟨I, hI⟩ : ∃ I, I = x.inside := ⟨_, rfl⟩
  rw [← hI] at IN HIH HR0
  obtain ⟨L, hL⟩ : ∃ L, L = I.length := ⟨_, rfl⟩
  rw [← hL] at IN
  have HL := Lib.hid hL
  have hLb : L ≤ 4294967296 := by
    rw [hL, hI]
    have := hfit.s
    unfold Ob.inside
    split
    · exact this.2.1
    · split
      · rw [List.length_map]; exact this.2.2
      · exact Nat.zero_le _
  clear hR hl hfit IH hI hL
  obtain ⟨hp, hc, hq, he⟩ := h
  obtain ⟨k, n, f, s, l, d⟩ := x
  have HR := Lib.hid (show R = if k = 7 then 1 else if 65536 < lev then 5 else refsL I (lev + 1) from HR0)
  unfold objV at IN ⊢
  simp only [Ob.k, Ob.n, Ob.f, Ob.s, Ob.l, Ob.d] at IN ⊢
  have K1 := Lib.hid ((Kept.refl w).alloc #[.int .i64 k, .int .i64 n, .int .i64 f, .string s, .slice hp l.length hc, .slice hq d.length he] 32)
  clear HR0
  by_cases h7 : k = 7
  · subst h7
    obtain rfl : R = 1 := by rw [HR.out, if_pos rfl]
    go_enter Tryz.func28, Tryz.ntmps28
    go_wp2_with fail
    go_ret
    exact ⟨rfl, K1.out⟩
  have e7 : (k == 7) = false := by simpa using h7
  by_cases hlv : 65536 < lev
  · obtain rfl : R = 5 := by rw [HR.out, if_neg h7, if_pos hlv]
    have i1 : (65536 : Int) < (lev : Int) := by omega
    clear h7 hlv
    go_enter Tryz.func28, Tryz.ntmps28
    go_wp2_with fail
    go_ret
    exact ⟨rfl, K1.out⟩
  have HRV := Lib.hid (show R = refsL I (lev + 1) by rw [HR.out, if_neg h7, if_neg hlv])
  have i1 : ¬ (65536 : Int) < (lev : Int) := by omega
  have i2 : wrap64 ((lev : Int) + 1) = (lev : Int) + 1 := by unfold wrap64; omega
  have HLV := Lib.hid (show lev ≤ 65536 by omega)
  clear h7 hlv HR hlev
  go_enter Tryz.func28, Tryz.ntmps28
  go_wp2_with fail
  (with_reducible refine (IN.out _ K1.out).mono ?_)
  rintro e w2 ⟨p, c, rfl, hk2, hl2⟩
  have K2 := Lib.hid (K1.out.trans hk2)
  have L2 := Lib.hid hl2
  clear hk2 hl2 K1 IN
  go_wp2_with fail
  go_loopg [18] L (fun m i wr => ∃ j : Nat, m = L - j ∧ j ≤ L ∧ i = .int .i64 j ∧ Hid (refsL (I.drop j) (lev + 1) = R) ∧ Kept w wr ∧ Kept w2 wr)
  case atStart => exact ⟨0, by omega, Nat.zero_le _, rfl, Lib.hid (by rw [List.drop_zero]; exact HRV.out.symm), K2.out, Kept.refl _⟩
  case round =>
    obtain ⟨j, hm, hj, rfl, HJ, hkk, hk2⟩ := hrel
    have KR := Lib.hid hkk
    have KR2 := Lib.hid hk2
    by_cases hlt : j < L
    · have j1 : (j : Int) < (L : Int) := by omega
      have hjI : j < I.length := by have := HL.out; omega
      obtain ⟨z, b, off, h', hz, hpe, -, hbl, hzl, c0, c1, c2, c3, c4, c5⟩ := (L2.out.kept hk2).elem j hjI
      have hzI : I[j] = z := hz
      have HST := Lib.hid (show R = if z.refs (lev + 1) ≠ 0 then z.refs (lev + 1) else refsL (I.drop (j + 1)) (lev + 1) by rw [← HJ.out, refsL_step I j hjI, hzI])
      have ZI := Lib.hid (show z ∈ I by rw [← hzI]; exact List.getElem_mem hjI)
      obtain ⟨zp, zc, zq, ze⟩ := h'
      simp only [] at c4 c5 hpe
      subst hpe
      have KZ := Lib.hid ((Kept.refl wr).alloc #[.int .i64 z.k, .int .i64 z.n, .int .i64 z.f, .string z.s, .slice zp z.l.length zc, .slice zq z.d.length ze] 32)
      have CZ := Lib.hid (HIH.out z ZI.out _ ⟨zp, zc, zq, ze⟩ (hzl.kept KZ.out) HLV.out)
      obtain ⟨V, hV⟩ : ∃ V, V = z.refs (lev + 1) := ⟨_, rfl⟩
      rw [← hV, show (((lev + 1 : Nat)) : Int) = (lev : Int) + 1 by omega] at CZ
      rw [← hV] at HST
      unfold objV at CZ
      simp only [] at CZ
      clear hz hzI hzl hV hkk hk2
      by_cases hV0 : V = 0
      · subst hV0
        have HJ2 := Lib.hid (show refsL (I.drop (j + 1)) (lev + 1) = R by rw [HST.out, if_neg (by simp)])
        go_wp2_with fail
        (with_reducible refine CZ.out.mono ?_)
        rintro e w3 ⟨rfl, hk3⟩
        have K3 := Lib.hid (KR.out.trans (KZ.out.trans hk3))
        have K32 := Lib.hid (KR2.out.trans (KZ.out.trans hk3))
        clear hk3
        go_wp2_with fail
        go_roundg (L - (j + 1))
        case measure => omega
        case rel => exact ⟨j + 1, rfl, hlt, by go_num, HJ2, K3.out, K32.out⟩
      · obtain rfl : R = V := by rw [HST.out, if_pos hV0]
        have hne : (R != 0) = true := by simpa using hV0
        clear hV0
        go_wp2_with fail
        (with_reducible refine CZ.out.mono ?_)
        rintro e w3 ⟨rfl, hk3⟩
        have K3 := Lib.hid (KR.out.trans (KZ.out.trans hk3))
        clear hk3
        go_wp2_with fail
        go_ret
        exact ⟨rfl, K3.out⟩
    · obtain rfl : j = L := by omega
      obtain rfl : R = 0 := by rw [← HJ.out, HL.out]; exact refsL_end I _
      go_wp2_with fail
      go_ret
      exact ⟨rfl, KR.out⟩

theorem refs_all (N : Nat) : ∀ x : Ob, SizeOf.sizeOf x ≤ N → RefC x := by
  induction N with
  | zero => intro x hx; exfalso; cases x; simp only [Ob.mk.sizeOf_spec] at hx; omega
  | succ N ih => intro x hx; exact refs_step x fun z hz => ih z (by have := inside_size hz; omega)
theorem refs_any (P : Nat → Prop) (x : Ob) (h : Hd) (lev : Nat) (w : World) (hl : Lies (Cel P w) x h) (hf : Ob.Fits 4294967296 x) (hlev : lev ≤ 65537) :
    Calls Tryz.prog 28 #[objV x h, .int .i64 lev] w fun e w' => e = .returned (.int .i64 (x.refs lev)) ∧ Kept w w' :=
  refs_all _ x (Nat.le_refl _) h lev w (hl.weak fun _ _ => trivial) hf hlev

end Go.Proofs.YtkpagahnmbchjaaGreatDoor

namespace Go.Proofs.YtkpagahnmbchjaaGreatDoor
open Go.RowKit Cx
set_option linter.unusedSimpArgs false
set_option linter.unusedVariables false

def layJ : Go.Shelf.Ren := ⟨fun | 166 => 19 | 240 => 31 | 276 => 42 | 156 => 30 | 165 => 41 | 169 => 20 | 241 => 57 | 277 => 84 | n => n, fun | 31 => 69 | 76 => 58 | 127 => 73 | 70 => 51 | 9 => 9 | 0 => 0 | 72 => 54 | 37 => 52 | 164 => 91 | 75 => 57 | 80 => 60 | 20 => 20 | 3 => 3 | 4 => 4 | 5 => 5 | n => n, fun | n => n⟩

theorem lays156 : Go.Proofs.Lays.n156 Tryz.prog layJ := {
  mixed := by kernel_rfl
  f156 := Tryz.func30.trans (congrArg some (by kernel_rfl))
  f165 := Tryz.func41.trans (congrArg some (by kernel_rfl))
  f166 := Tryz.func19.trans (congrArg some (by kernel_rfl))
  f169 := Tryz.func20.trans (congrArg some (by kernel_rfl))
  f240 := Tryz.func31.trans (congrArg some (by kernel_rfl))
  f241 := Tryz.func57.trans (congrArg some (by kernel_rfl))
  f276 := Tryz.func42.trans (congrArg some (by kernel_rfl))
  f277 := Tryz.func84.trans (congrArg some (by kernel_rfl))
  t0 := Tryz.underlying0
  a0 := Tryz.isAgg0
  z0 := Tryz.sizeOf0
  v0 := Tryz.zeroValue0
  t3 := Tryz.underlying3
  a3 := Tryz.isAgg3
  z3 := Tryz.sizeOf3
  v3 := Tryz.zeroValue3
  t4 := Tryz.underlying4
  a4 := Tryz.isAgg4
  z4 := Tryz.sizeOf4
  v4 := Tryz.zeroValue4
  t9 := Tryz.underlying9
  a9 := Tryz.isAgg9
  z9 := Tryz.sizeOf9
  v9 := Tryz.zeroValue9
  t20 := Tryz.underlying20
  a20 := Tryz.isAgg20
  z20 := Tryz.sizeOf20
  v20 := Tryz.zeroValue20
  t31 := Tryz.underlying69
  a31 := Tryz.isAgg69
  z31 := Tryz.sizeOf69
  v31 := Tryz.zeroValue69
  t37 := Tryz.underlying52
  a37 := Tryz.isAgg52
  z37 := Tryz.sizeOf52
  v37 := Tryz.zeroValue52
  t70 := Tryz.underlying51
  a70 := Tryz.isAgg51
  z70 := Tryz.sizeOf51
  v70 := Tryz.zeroValue51
  t72 := Tryz.underlying54
  a72 := Tryz.isAgg54
  z72 := Tryz.sizeOf54
  v72 := Tryz.zeroValue54
  t75 := Tryz.underlying57
  a75 := Tryz.isAgg57
  z75 := Tryz.sizeOf57
  v75 := Tryz.zeroValue57
  t76 := Tryz.underlying58
  a76 := Tryz.isAgg58
  z76 := Tryz.sizeOf58
  v76 := Tryz.zeroValue58
  t127 := Tryz.underlying73
  a127 := Tryz.isAgg73
  z127 := Tryz.sizeOf73
  v127 := Tryz.zeroValue73
  t164 := Tryz.underlying91
  a164 := Tryz.isAgg91
  z164 := Tryz.sizeOf91
  v164 := Tryz.zeroValue91 }

theorem extra156 : Go.Proofs.Builder.Extra Tryz.prog layJ := {
  sizeBuilder := by kernel_rfl
  liesBuilder := by kernel_rfl
  t5 := Tryz.underlying5
  a5 := Tryz.isAgg5
  z5 := Tryz.sizeOf5
  v5 := Tryz.zeroValue5
  infoByte := by kernel_rfl
  cellsByte := by kernel_rfl
  sizeByte := by kernel_rfl
  neB5 := by decide }

theorem Join_any (bk o c : Nat) (xs : List ByteArray) (sep : ByteArray) (w : World) (hcells : ∀ (j : Nat) x, xs[j]? = some x → w.cell? ⟨bk, o + j, none⟩ = some (.string x)) (hbk : bk < w.heap.size) (hN : xs.length ≤ 140737488355328) (hcap : xs.length ≤ c) (hlen : (Lib.join (xs.map (·.data.toList)) sep.data.toList).length ≤ 140737488355328) :
    Calls Tryz.prog 30 #[.slice (some ⟨bk, o, none⟩) xs.length c, .string sep] w fun e w' => e = .returned (.string ⟨(Lib.join (xs.map (·.data.toList)) sep.data.toList).toArray⟩) ∧ Kept w w' :=
  Go.Proofs.Any.strings_Join lays156 extra156 bk o c xs sep w hcells hbk hN hcap hlen

end Go.Proofs.YtkpagahnmbchjaaGreatDoor

namespace Go.Proofs.YtkpagahnmbchjaaGreatDoor
open Go.RowKit Cx
set_option linter.unusedSimpArgs false
set_option linter.unusedVariables false

theorem info_str : (Tryz.prog.info? 9).map (fun i => (i.zero, i.size, i.bytes)) = some (some (.string ⟨#[]⟩), 1, 16) := by kernel_rfl
/-- Texts of the call's own. -/
def OwnS (w : World) (N : Nat) (v : Value) (ss : List ByteArray) : Prop := w.ownsRow N 9 1 v ss.length (ss.map Value.string)
section
variable {w w' : World} {N : Nat} {v : Value} {ss : List ByteArray}
theorem OwnS.nil (N : Nat) (w : World) : OwnS w N (.slice none 0 0) [] := World.ownsRow_nil _ _ _ _
theorem OwnS.lt (h : OwnS w N v ss) : ∀ k, v.ownBlock = some k → N ≤ k ∧ k < w.heap.size := World.ownsRow.lt h
theorem OwnS.gb (h : OwnS w N v ss) {r : Option Nat} (g : w.grownBy w' r) (hne : v.ownBlock = none ∨ v.ownBlock ≠ r) : OwnS w' N v ss := World.ownsRow.kept h g hne
theorem OwnS.kept (h : OwnS w N v ss) (k : Kept w w') : OwnS w' N v ss :=
  h.gb (gb_kept k none) (by cases hv : v.ownBlock with
    | none => exact .inl rfl
    | some g => exact .inr (by simp))
theorem OwnS.cell {g cap : Nat} (h : OwnS w N (.slice (some ⟨g, 0, none⟩) ss.length cap) ss) (j : Nat) (x : ByteArray) (hj : ss[j]? = some x) : w.cell? ⟨g, 0 + j, none⟩ = some (.string x) := by
  have := World.ownsRow.cells h (g := g) rfl j (.string x) (by rw [List.getElem?_map, hj]; rfl)
  rwa [Addr.add_lit] at this
theorem OwnS.cap {g cap n : Nat} (h : OwnS w N (.slice (some ⟨g, 0, none⟩) n cap) ss) : ss.length ≤ cap := by
  rcases h.2 with ⟨h, -⟩ | ⟨g', cap', cur, hv, -, -, hn, -⟩
  · cases h
  · injection hv with e1 e2 e3; omega
end
set_option maxRecDepth 100000 in
theorem wpList_app_str {ops : Array Oper} {rest : List Oper} {o : Oper} {a : Act} {Q : Exit → Act → World → Prop} (hgd : o.guard = none) (s x : Operand)
    (ho : o.op = .call { callee := .builtin .append, args := #[s, x], argTypes := #[69, 69] })
    {W : World} (N : Nat) {v : Value} (acc : List ByteArray) (hown : OwnS W N v acc) (hs : a.eval s = v) (r : ByteArray)
    (H : Nat) (hH : W.heap.size = H) (hx : a.eval x = .slice (some ⟨H, 0, none⟩) 1 1) (hB : N ≤ W.heap.size) (hlen : acc.length ≤ 4294967296)
    (h : ∀ g cap w', OwnS w' N (.slice (some ⟨g, 0, none⟩) (acc.length + 1) cap) (acc ++ [r]) → (W.alloc (.cells #[.string r] 9)).grownBy w' v.ownBlock → g < w'.heap.size → wpList Tryz.prog ops Q rest (a.put o.dst (.slice (some ⟨g, 0, none⟩) (acc.length + 1) cap)) w') :
    wpList Tryz.prog ops Q (o :: rest) a (W.alloc (.cells #[.string r] 9)) := by
  obtain ⟨i0, hi, hz0, hz1, hz2⟩ := info_parts info_str
  subst hH
  refine wpList_append_lies _ hgd s x 69 ho N 9 i0 _ 1 16 Tryz.underlying69 hi hz0 hz1 hz2 rfl (by decide) v acc.length (acc.map Value.string) hs (World.ownsRow.alloc hown _) ⟨W.heap.size, 0, none⟩ 1 1 [.string r] hx rfl
    ?_ (fun u hu => by rw [List.mem_singleton.1 hu]; rfl) (by decide) (by unfold maxLen; omega) (by omega) (by simp; omega) (W.heap.size + 1) (by simp) ?_
  · intro j u hj
    rw [Addr.add_lit, Nat.zero_add]
    have := (Blk.fresh W #[.string r] 9).cell j
    rw [this]
    simpa using hj
  · intro g cap w' h1 h2 _ h4
    refine h g cap w' ?_ h2 h4
    unfold OwnS
    rw [List.length_append, List.map_append]
    exact h1

theorem objTE_eq (x : Ob) : objTE x = (objE x, objT x) := by
  unfold objTE objE objT
  split
  · rfl
  · split <;> rfl
/-- May an object be told of? -/
def OkW (x : Ob) : Prop := Ob.Fits 4294967296 x ∧ (x.sane 0 = 0 → Ob.Ok x ∧ x.text.length ≤ 4294967296)
theorem objT_len {x : Ob} (h : OkW x) : (objT x).length ≤ 4294967296 := by
  unfold objT
  split
  · exact Nat.zero_le _
  · split
    · exact Nat.zero_le _
    · next h0 _ => exact (h.2 (by simpa using h0)).2

def argB (x : Ob) : ByteArray := ⟨(objT x).toArray⟩
theorem join_len (sep : List UInt8) (hs : sep.length ≤ 1) (M : Nat) : ∀ (xs : List (List UInt8)), (∀ x ∈ xs, x.length ≤ M) → (Lib.join xs sep).length ≤ xs.length * (M + 1)
  | [], _ => by simp [Lib.join_nil]
  | x :: r, h => by
    rw [Lib.join_cons]
    have : ∀ r : List (List UInt8), (∀ x ∈ r, x.length ≤ M) → (Lib.joinTail sep r).length ≤ r.length * (M + 1) := fun r => by
      induction r with
      | nil => intro _; simp [Lib.joinTail]
      | cons y r ih =>
        intro h
        have h1 := ih fun z hz => h z (List.mem_cons_of_mem _ hz)
        have h2 := h y List.mem_cons_self
        unfold Lib.joinTail at h1 ⊢
        rw [List.map_cons, List.flatten_cons, List.length_append, List.length_append, List.length_cons, Nat.succ_mul]
        omega
    have h1 := this r fun z hz => h z (List.mem_cons_of_mem _ hz)
    have h2 := h x List.mem_cons_self
    rw [List.length_append, List.length_cons, Nat.succ_mul]; omega

/-- What lineOf answers. -/
def lineV (o : Ob) : List UInt8 := if lineE o = 0 then lineT o else []
theorem lineV_len {o : Ob} (hk : ∀ x ∈ o.l, OkW x) (hn : o.s.size ≤ 4294967295) : (lineV o).length ≤ 300000000000 := by
  unfold lineV
  split
  · next h =>
    unfold lineE at h
    split at h
    · split at h
      · exact absurd h (by decide)
      · next hl =>
        unfold lineT
        have := join_len [32] (by decide) 4294967296 (o.l.map (fun x => (objTE x).2) ++ [o.s.data.toList]) (fun x hx => by
          rcases List.mem_append.1 hx with hx | hx
          · obtain ⟨y, hy, rfl⟩ := List.mem_map.1 hx
            rw [objTE_eq]; exact objT_len (hk y hy)
          · rw [List.mem_singleton.1 hx]
            have : o.s.data.toList.length = o.s.size := by simp
            omega)
        rw [List.length_append] at this ⊢
        simp only [List.length_map, List.length_cons, List.length_nil] at this ⊢
        have h3 : (o.l.length + 1) * (4294967296 + 1) ≤ 65 * (4294967296 + 1) := Nat.mul_le_mul_right _ (by omega)
        omega
    · exact absurd h (by decide)
  · exact Nat.zero_le _

set_option maxRecDepth 100000 in
set_option maxHeartbeats 8000000 in
theorem lineOf_any (P : Nat → Prop) (o : Ob) (h : Hd) (w : World) (hl : Lies (Cel P w) o h) (hf : Fine w) (hm : HasMax w) (hn : o.s.size ≤ 4294967295) (hk : ∀ x ∈ o.l, OkW x) (E : Int) (hE : E = lineE o) (V : ByteArray) (hV : V = ⟨(lineV o).toArray⟩) :
    Calls Tryz.prog 18 #[.agg #[.string o.s, .slice h.p o.l.length h.c]] w fun e w' => e = .returned (.tuple #[.string V, .int .i64 E]) ∧ Kept w w' := by
  have HL := Lib.hid hl
  have HF := Lib.hid hf
  have HOK := Lib.hid hk
  have K1 := Lib.hid ((Kept.refl w).alloc #[.string o.s, .slice h.p o.l.length h.c] 45)
  have B1 := Lib.hid (Blk.fresh w #[.string o.s, .slice h.p o.l.length h.c] 45)
  have NM := Lib.hid (isName_any o.s _ hn (hm.kept K1.out) _ rfl)
  obtain ⟨A, hA⟩ : ∃ A, A = o.l := ⟨_, rfl⟩
  obtain ⟨nm, hnm⟩ : ∃ nm, nm = o.s := ⟨_, rfl⟩
  have HA := Lib.hid hA
  have HNM := Lib.hid hnm
  have HE := Lib.hid (show E = if named nm.data.toList then (if 64 < A.length then 6 else argE A) else 1 by rw [hE, hA, hnm]; rfl)
  have HV := Lib.hid (show V = ⟨(if E = 0 then Lib.join (A.map (fun x => (objTE x).2) ++ [nm.data.toList]) [32] ++ [10] else []).toArray⟩ by rw [hV, hA, hnm, hE]; rfl)
  obtain ⟨b, hb⟩ : ∃ b, b = named nm.data.toList := ⟨_, rfl⟩
  rw [← hnm] at NM B1 K1 hn ⊢
  rw [← hb] at HE NM
  rw [← hA] at HOK K1 B1 NM ⊢
  obtain ⟨N, hN⟩ : ∃ N, N = A.length := ⟨_, rfl⟩
  have HN := Lib.hid hN
  rw [← hN] at K1 B1 NM HE ⊢
  obtain ⟨hp, hc, hq, he⟩ := h
  simp only [] at K1 B1 NM ⊢
  obtain ⟨q0, q1⟩ := B1.out.cells2
  have HNS := Lib.hid hn
  clear hl hf hk hm hA hnm hb hN hE hV hn
  cases b
  · obtain rfl : E = 1 := by rw [HE.out]; rfl
    obtain rfl : V = ⟨#[]⟩ := by rw [HV.out]; rfl
    go_enter Tryz.func18, Tryz.ntmps18
    go_wp2_with fail
    (with_reducible refine NM.out.mono ?_)
    rintro e w2 ⟨rfl, hk2⟩
    have K2 := Lib.hid (K1.out.trans hk2)
    clear hk2
    go_wp2_with fail
    go_ret2
    exact ⟨rfl, K2.out⟩
  have HE1 := Lib.hid (show E = if 64 < N then 6 else argE A by rw [HE.out]; rfl)
  clear HE
  by_cases h64 : 64 < N
  · obtain rfl : E = 6 := by rw [HE1.out, if_pos h64]
    obtain rfl : V = ⟨#[]⟩ := by rw [HV.out]; rfl
    have i1 : (64 : Int) < (N : Int) := by omega
    clear h64
    go_enter Tryz.func18, Tryz.ntmps18
    go_wp2_with fail
    (with_reducible refine NM.out.mono ?_)
    rintro e w2 ⟨rfl, hk2⟩
    have K2 := Lib.hid (K1.out.trans hk2)
    have B2 := Lib.hid (B1.out.kept hk2)
    clear q0 q1 hk2
    obtain ⟨q0, q1⟩ := B2.out.cells2
    go_wp2_with fail
    go_ret2
    exact ⟨rfl, K2.out⟩
  have HE2 := Lib.hid (show E = argE A by rw [HE1.out, if_neg h64])
  have i1 : ¬ (64 : Int) < (N : Int) := by omega
  have HN64 := Lib.hid (show N ≤ 64 by omega)
  clear h64 HE1
  go_enter Tryz.func18, Tryz.ntmps18
  go_wp2_with fail
  (with_reducible refine NM.out.mono ?_)
  rintro e w2 ⟨rfl, hk2⟩
  have K2 := Lib.hid (K1.out.trans hk2)
  have B2 := Lib.hid (B1.out.kept hk2)
  clear q0 q1 hk2
  obtain ⟨q0, q1⟩ := B2.out.cells2
  go_wp2_with fail
  go_loopg [4, 22] N (fun m x i wr => ∃ (j : Nat) (p : Option Addr) (c : Nat), m = N - j ∧ j ≤ N ∧ i = .int .i64 j ∧ x = .slice p j c ∧ Hid (argE (A.drop j) = E) ∧ Kept w wr ∧ Hid (Kept w2 wr) ∧ Hid (OwnS wr w2.heap.size (.slice p j c) ((A.take j).map argB)))
  case atStart => exact ⟨0, none, 0, by omega, Nat.zero_le _, rfl, rfl, Lib.hid (by rw [List.drop_zero]; exact HE2.out.symm), K2.out, Lib.hid (Kept.refl _), Lib.hid (OwnS.nil _ _)⟩
  case round =>
    obtain ⟨j, p, c, hm, hj, rfl, rfl, HJ, hkk, HK2, HO⟩ := hrel
    have KR := Lib.hid hkk
    have hll : ((A.take j).map argB).length = j := by rw [List.length_map, List.length_take]; have := HN.out; omega
    obtain ⟨TK, hTKd⟩ : ∃ TK, TK = (A.take j).map argB := ⟨_, rfl⟩
    rw [← hTKd] at hll HO
    have HLL := Lib.hid hll
    have HTKD := Lib.hid hTKd
    clear hTKd
    have hN64 := HN64.out
    clear q0 q1 hll
    obtain ⟨q0, q1⟩ := (B2.out.kept HK2.out).cells2
    by_cases hlt : j < N
    · have j1 : (j : Int) < (N : Int) := by omega
      have hjA : j < A.length := by have := HN.out; omega
      have hjo : j < o.l.length := by rw [← HA.out]; exact hjA
      obtain ⟨z, kb, off, h', hz, hpe, -, hbl, hzl, c0, c1, c2, c3, c4, c5⟩ := (HL.out.kept hkk).elem j hjo
      have hzA : A[j] = z := by
        have e1 : A[j]? = o.l[j]? := by rw [HA.out]
        rw [List.getElem?_eq_getElem hjA, List.getElem?_eq_getElem hjo, hz] at e1
        exact Option.some.inj e1
      have ZO := HOK.out z (by rw [← hzA]; exact List.getElem_mem hjA)
      have HST := Lib.hid (show E = if z.refs 0 = 1 then 1 else if objE z ≠ 0 then objE z else argE (A.drop (j + 1)) by rw [← HJ.out, argE_step A j hjA, hzA, objTE_eq])
      have hts : (A.take (j + 1)).map argB = TK ++ [argB z] := by rw [List.take_succ_eq_append_getElem hjA, List.map_append, hzA, HTKD.out]; rfl
      have HTS := Lib.hid hts
      obtain ⟨zp, zc, zq, ze⟩ := h'
      simp only [] at c4 c5 hpe
      subst hpe
      have KZ := Lib.hid ((Kept.refl wr).alloc #[.int .i64 z.k, .int .i64 z.n, .int .i64 z.f, .string z.s, .slice zp z.l.length zc, .slice zq z.d.length ze] 32)
      have BZ := Lib.hid (Blk.fresh wr #[.int .i64 z.k, .int .i64 z.n, .int .i64 z.f, .string z.s, .slice zp z.l.length zc, .slice zq z.d.length ze] 32)
      have CR0 := refs_any _ z ⟨zp, zc, zq, ze⟩ 0 _ (hzl.kept KZ.out) ZO.1 (by decide)
      rw [show (((0 : Nat)) : Int) = 0 from rfl] at CR0
      have CR := Lib.hid CR0
      clear CR0
      have CW := Lib.hid (fun w' (kk : Kept wr w') => ObjectW_any _ z ⟨zp, zc, zq, ze⟩ w' (hzl.kept kk) (HF.out.kept (hkk.trans kk)) (fun h0 => (ZO.2 h0).1) (fun h0 => by have := (ZO.2 h0).2; omega))
      obtain ⟨R, hR⟩ : ∃ R, R = z.refs 0 := ⟨_, rfl⟩
      obtain ⟨F, hF⟩ : ∃ F, F = objE z := ⟨_, rfl⟩
      obtain ⟨TB, hTB⟩ : ∃ TB, TB = argB z := ⟨_, rfl⟩
      rw [← hR] at HST CR
      rw [← hF] at HST CW
      rw [← hTB] at HTS
      rw [show (⟨(objT z).toArray⟩ : ByteArray) = TB from hTB.symm] at CW
      unfold objV at CR CW
      simp only [] at CR CW
      clear hz hzA hzl hR hF hTB hkk hts ZO
      by_cases hR1 : R = 1
      · subst hR1
        obtain rfl : E = 1 := by rw [HST.out, if_pos rfl]
        obtain rfl : V = ⟨#[]⟩ := by rw [HV.out]; rfl
        go_wp2_with fail
        (with_reducible refine CR.out.mono ?_)
        rintro e w3 ⟨rfl, hk3⟩
        have K3 := Lib.hid (KR.out.trans (KZ.out.trans hk3))
        clear hk3
        go_wp2_with fail
        go_ret2
        exact ⟨rfl, K3.out⟩
      have eR : (R == 1) = false := by simpa using hR1
      have HST2 := Lib.hid (show E = if F ≠ 0 then F else argE (A.drop (j + 1)) by rw [HST.out, if_neg hR1])
      clear hR1 HST
      by_cases hF0 : F = 0
      · subst hF0
        have HJ2 := Lib.hid (show argE (A.drop (j + 1)) = E by rw [HST2.out, if_neg (by simp)])
        go_wp2_with fail
        (with_reducible refine CR.out.mono ?_)
        rintro e w3 ⟨rfl, hk3⟩
        have K3 := Lib.hid (KZ.out.trans hk3)
        have BZ3 := Lib.hid (BZ.out.kept hk3)
        clear hk3 c0 c1 c2 c3 c4 c5 q0 q1
        obtain ⟨z0, z1, z2, z3, z4, z5⟩ := BZ3.out.cells6
        go_wp2_with fail
        (with_reducible refine (CW.out _ K3.out).mono ?_)
        rintro e w4 ⟨rfl, hk4⟩
        have K4 := Lib.hid (KR.out.trans (K3.out.trans hk4))
        have K42 := Lib.hid (HK2.out.trans (K3.out.trans hk4))
        have O4 := Lib.hid (HO.out.kept (K3.out.trans hk4))
        have K5 := Lib.hid (K4.out.alloc #[.string TB] 9)
        have K52 := Lib.hid (K42.out.alloc #[.string TB] 9)
        have OL := Lib.hid (fun k hk => (O4.out.lt k hk).1)
        have SB := Lib.hid K42.out.size
        have SW := Lib.hid (show w2.heap.size ≤ w4.heap.size from K42.out.size)
        have hB := SW.out
        have O4' := Lib.hid (show OwnS w4 w2.heap.size (.slice p TK.length c) TK by rw [HLL.out]; exact O4.out)
        clear hk4
        go_wp2_with (at_builtin; refine wpList_app_str rfl _ _ rfl w2.heap.size TK O4'.out (by rw [HLL.out]; rfl) TB w4.heap.size rfl rfl hB (by rw [HLL.out]; omega) ?_)
        intro g cap' w5 own5 hg5 hlt5
        have K62 := Lib.hid (show Kept w2 w5 from Below.grown K52.out hg5 K52.out.size (fun kk hkk => OL.out kk (by rw [HLL.out] at hkk; exact hkk)))
        have K6 := Lib.hid (K2.out.trans K62.out)
        have O6 := Lib.hid (show OwnS w5 w2.heap.size (.slice (some ⟨g, 0, none⟩) (j + 1) cap') ((A.take (j + 1)).map argB) by rw [HTS.out]; rw [HLL.out] at own5; exact own5)
        rw [HLL.out]
        clear own5 hg5 hlt5
        go_wp2_with fail
        go_roundg (N - (j + 1))
        case measure => omega
        case rel => exact ⟨j + 1, some ⟨g, 0, none⟩, cap', rfl, hlt, by go_num, rfl, HJ2, K6.out, K62, O6⟩
      · obtain rfl : E = F := by rw [HST2.out, if_pos hF0]
        obtain rfl : V = ⟨#[]⟩ := by rw [HV.out, if_neg hF0]
        have hne : (E != 0) = true := by simpa using hF0
        clear hF0
        go_wp2_with fail
        (with_reducible refine CR.out.mono ?_)
        rintro e w3 ⟨rfl, hk3⟩
        have K3 := Lib.hid (KZ.out.trans hk3)
        have BZ3 := Lib.hid (BZ.out.kept hk3)
        clear hk3 c0 c1 c2 c3 c4 c5 q0 q1
        obtain ⟨z0, z1, z2, z3, z4, z5⟩ := BZ3.out.cells6
        go_wp2_with fail
        (with_reducible refine (CW.out _ K3.out).mono ?_)
        rintro e w4 ⟨rfl, hk4⟩
        have K4 := Lib.hid (KR.out.trans (K3.out.trans hk4))
        clear hk4
        go_wp2_with fail
        go_ret2
        exact ⟨rfl, K4.out⟩
    · obtain rfl : j = N := by omega
      have hE0 : E = 0 := by
        rw [← HJ.out, List.drop_of_length_le (by rw [HN.out]; exact Nat.le_refl _)]; rfl
      have hTK : A.take j = A := List.take_of_length_le (by rw [HN.out]; exact Nat.le_refl _)
      have O4' := Lib.hid (show OwnS wr w2.heap.size (.slice p TK.length c) TK by rw [HLL.out]; exact HO.out)
      have K5 := Lib.hid (KR.out.alloc #[.string nm] 9)
      have K52 := Lib.hid (HK2.out.alloc #[.string nm] 9)
      have OL := Lib.hid (fun k hk => (HO.out.lt k hk).1)
      have hB := HK2.out.size
      have HXS := Lib.hid (show V = ⟨(Lib.join ((TK ++ [nm]).map (·.data.toList)) [32]).toArray⟩ ++ ⟨#[10]⟩ by
        rw [HV.out, if_pos hE0, HTKD.out, hTK]
        have e1 : A.map (fun x => (objTE x).2) ++ [nm.data.toList] = (A.map argB ++ [nm]).map (·.data.toList) := by
          rw [List.map_append, List.map_map]
          congr 1
          exact List.map_congr_left fun x _ => by rw [objTE_eq]; rfl
        rw [e1]
        apply ByteArray.ext
        simp)
      have hXL : ∀ x ∈ (TK ++ [nm]).map (·.data.toList), x.length ≤ 4294967296 := fun x hx => by
        obtain ⟨y, hy, rfl⟩ := List.mem_map.1 hx
        rcases List.mem_append.1 hy with hy | hy
        · rw [HTKD.out] at hy
          obtain ⟨z, hz, rfl⟩ := List.mem_map.1 hy
          exact objT_len (HOK.out z (List.mem_of_mem_take hz))
        · rw [List.mem_singleton.1 hy]
          have : nm.data.toList.length = nm.size := by simp
          have := HNS.out
          omega
      have HJL := Lib.hid (show (Lib.join ((TK ++ [nm]).map (·.data.toList)) (⟨#[32]⟩ : ByteArray).data.toList).length ≤ 140737488355328 by
        have := join_len [32] (by decide) 4294967296 _ hXL
        have h2 : ((TK ++ [nm]).map (·.data.toList)).length = j + 1 := by rw [List.length_map, List.length_append, HLL.out]; rfl
        rw [h2] at this
        have h3 : (j + 1) * (4294967296 + 1) ≤ 65 * (4294967296 + 1) := Nat.mul_le_mul_right _ (by omega)
        show (Lib.join _ [32]).length ≤ _
        omega)
      clear hTK hXL hkk
      subst hE0
      go_wp2_with (at_builtin; refine wpList_app_str rfl _ _ rfl w2.heap.size TK O4'.out (by rw [HLL.out]; rfl) nm wr.heap.size rfl rfl hB (by rw [HLL.out]; omega) ?_)
      intro g cap' w5 own5 hg5 hlt5
      have K62 := Lib.hid (show Kept w2 w5 from Below.grown K52.out hg5 K52.out.size (fun kk hkk => OL.out kk (by rw [HLL.out] at hkk; exact hkk)))
      have K6 := Lib.hid (K2.out.trans K62.out)
      have hXN : (TK ++ [nm]).length = j + 1 := by rw [List.length_append, HLL.out]; rfl
      have O6 := Lib.hid (show OwnS w5 w2.heap.size (.slice (some ⟨g, 0, none⟩) (TK ++ [nm]).length cap') (TK ++ [nm]) by rw [hXN]; rw [HLL.out] at own5; exact own5)
      have JA := Lib.hid (Join_any g 0 cap' (TK ++ [nm]) ⟨#[32]⟩ w5 O6.out.cell hlt5 (by rw [hXN]; omega) O6.out.cap HJL.out)
      rw [hXN] at JA
      obtain ⟨JT, hJT⟩ : ∃ JT, JT = Lib.join ((TK ++ [nm]).map (·.data.toList)) (⟨#[32]⟩ : ByteArray).data.toList := ⟨_, rfl⟩
      rw [← hJT] at JA
      have HXV := Lib.hid (show V = ⟨JT.toArray⟩ ++ ⟨#[10]⟩ by rw [hJT]; exact HXS.out)
      rw [HLL.out]
      have hjl : JT.length ≤ 140737488355328 := by rw [hJT]; exact HJL.out
      clear own5 hg5 hlt5 hXN hJT
      go_wp2_with fail
      (with_reducible refine JA.out.mono ?_)
      rintro e w6 ⟨rfl, hk6⟩
      have K7 := Lib.hid (K6.out.trans hk6)
      clear hk6
      go_wp2_with fail
      go_ret2
      exact ⟨(show _ = Ending.returned (.tuple #[.string (⟨JT.toArray⟩ ++ ⟨#[10]⟩), .int .i64 0]) from rfl).trans (by rw [HXV.out]), K7.out⟩

end Go.Proofs.YtkpagahnmbchjaaGreatDoor

namespace Go.Proofs.YtkpagahnmbchjaaGreatDoor
open Go.RowKit Cx
set_option linter.unusedSimpArgs false
set_option linter.unusedVariables false

def WritesOk (l : List Ob) : Prop := ∀ o ∈ l, o.s.size ≤ 4294967295 ∧ ∀ x ∈ o.l, OkW x
theorem linesV_step (l : List Ob) (j : Nat) (h : j < l.length) : (l.take (j + 1)).flatMap lineV = (l.take j).flatMap lineV ++ lineV l[j] := by
  rw [List.take_succ_eq_append_getElem h, List.flatMap_append]; simp
theorem linesV_eq : ∀ l : List Ob, linesE l = 0 → l.flatMap lineV = linesT l
  | [], _ => rfl
  | x :: r, h => by
    rw [linesE] at h
    have h0 : lineE x = 0 := by
      by_cases e : lineE x = 0
      · exact e
      · rw [if_pos e] at h; exact h
    rw [if_neg (by rw [h0]; simp)] at h
    unfold linesT
    rw [List.flatMap_cons, List.flatMap_cons, linesV_eq r h]
    unfold lineV linesT
    rw [if_pos h0]

set_option maxRecDepth 100000 in
set_option maxHeartbeats 8000000 in
theorem OpsWrite_any (rs : ORow) (p : Option Addr) (c : Nat) (w : World) (h : OpR (fun _ => True) w p rs) (hf : Fine w) (hm : HasMax w) (hk : WritesOk (rs.map (·.1))) (hb : rs.length ≤ 1099511627776) (M : Nat) (hM : ∀ o ∈ rs.map (·.1), (lineV o).length ≤ M) (hM2 : M * 65537 ≤ 100000000000000)
    (E : Int) (hE : E = opsE (rs.map (·.1))) (V : ByteArray) (hV : V = ⟨(opsT (rs.map (·.1))).toArray⟩) :
    Calls Tryz.prog 10 #[.slice p rs.length c] w fun e w' => e = .returned (.tuple #[.string V, .int .i64 E]) ∧ Kept w w' := by
  have HR := Lib.hid h
  have HF := Lib.hid hf
  have HM := Lib.hid hm
  obtain ⟨l, hl⟩ : ∃ l, l = rs.map (·.1) := ⟨_, rfl⟩
  rw [← hl] at hk hE hV hM
  have HK := Lib.hid hk
  have HMB := Lib.hid hM
  have HLL := Lib.hid hl
  obtain ⟨L, hL⟩ : ∃ L, L = rs.length := ⟨_, rfl⟩
  have HL := Lib.hid hL
  have hlL : l.length = L := by rw [hl, List.length_map, hL]
  have HlL := Lib.hid hlL
  have HE := Lib.hid (show E = if 65536 < L then 6 else linesE l by rw [hE, ← hlL]; rfl)
  have HV := Lib.hid (show V = ⟨(if E ≠ 0 then [] else linesT l).toArray⟩ by rw [hV, hE]; rfl)
  rw [← hL] at hb ⊢
  clear h hf hm hk hl hL hlL hE hV hM
  by_cases h6 : 65536 < L
  · obtain rfl : E = 6 := by rw [HE.out, if_pos h6]
    obtain rfl : V = ⟨#[]⟩ := by rw [HV.out]; rfl
    have i1 : (65536 : Int) < (L : Int) := by omega
    clear h6
    go_enter Tryz.func10, Tryz.ntmps10
    go_wp2_with fail
    go_ret2
    exact ⟨rfl, Kept.refl _⟩
  have HE2 := Lib.hid (show E = linesE l by rw [HE.out, if_neg h6])
  have i1 : ¬ (65536 : Int) < (L : Int) := by omega
  have HL6 := Lib.hid (show L ≤ 65536 by omega)
  have B1 := Lib.hid (Bld.fresh w)
  have K1 := Lib.hid ((Kept.refl w).alloc #[.pointer none, .slice none 0 0] 54)
  clear h6 HE
  go_enter Tryz.func10, Tryz.ntmps10
  go_wp2_with fail
  go_loopg [14] L (fun m i wr => ∃ j : Nat, m = L - j ∧ j ≤ L ∧ i = .int .i64 j ∧ Hid (linesE (l.drop j) = E) ∧ Kept w wr ∧ Hid (Bld w.heap.size w.heap.size ((l.take j).flatMap lineV) wr) ∧ Hid (linesE (l.take j) = 0) ∧ Hid (((l.take j).flatMap lineV).length ≤ M * j))
  case atStart => exact ⟨0, by omega, Nat.zero_le _, rfl, Lib.hid (by rw [List.drop_zero]; exact HE2.out.symm), K1.out, B1, Lib.hid rfl, Lib.hid (Nat.zero_le _)⟩
  case round =>
    obtain ⟨j, hm, hj, rfl, HJ, hkk, HB, HT0, HTL⟩ := hrel
    have KR := Lib.hid hkk
    have hl6 := HL6.out
    by_cases hlt : j < L
    · have j1 : (j : Int) < (L : Int) := by omega
      have hjr : j < rs.length := by have := HL.out; omega
      have hjl : j < l.length := by have := HlL.out; omega
      obtain ⟨kb, off, hpe, -, hbl, c0, c1⟩ := (HR.out.kept hkk).at' j hjr
      subst hpe
      obtain ⟨r, hr⟩ : ∃ r, rs[j] = r := ⟨_, rfl⟩
      rw [hr] at c0 c1
      have hlj : l[j] = r.1 := by
        have : l[j]? = some r.1 := by rw [HLL.out, List.getElem?_map, List.getElem?_eq_getElem hjr, hr]; rfl
        exact Option.some.inj ((List.getElem?_eq_getElem hjl).symm.trans this)
      have hmem : r.1 ∈ l := by rw [← hlj]; exact List.getElem_mem hjl
      have hmr : r ∈ rs := by rw [← hr]; exact List.getElem_mem hjr
      have HST := Lib.hid (show E = if lineE r.1 ≠ 0 then lineE r.1 else linesE (l.drop (j + 1)) by rw [← HJ.out, linesE_step l j hjl, hlj])
      have hts := linesV_step l j hjl
      rw [hlj] at hts
      have KA := Lib.hid ((Kept.refl wr).alloc #[.string r.1.s, .slice r.2.p r.1.l.length r.2.c] 45)
      obtain ⟨EL, hEL⟩ : ∃ EL, EL = lineE r.1 := ⟨_, rfl⟩
      obtain ⟨VL, hVL⟩ : ∃ VL, VL = lineV r.1 := ⟨_, rfl⟩
      have LC := Lib.hid (lineOf_any _ r.1 r.2 _ ((HR.out.lies r hmr).kept (hkk.trans KA.out)) (HF.out.kept (hkk.trans KA.out)) (HM.out.kept (hkk.trans KA.out)) (HK.out _ hmem).1 (HK.out _ hmem).2 EL hEL ⟨VL.toArray⟩ (by rw [hVL]))
      have HVM := Lib.hid (show VL.length ≤ M by rw [hVL]; exact HMB.out _ hmem)
      have HLE := Lib.hid (show linesE (l.take j) = 0 → EL = 0 → linesE (l.take (j + 1)) = 0 by
        intro h1 h2
        rw [List.take_succ_eq_append_getElem hjl, hlj]
        have key : ∀ (a : List Ob) (x : Ob), linesE a = 0 → lineE x = 0 → linesE (a ++ [x]) = 0 := fun a x => by
          induction a with
          | nil => intro _ hx; rw [List.nil_append, linesE, if_neg (by rw [hx]; simp)]; rfl
          | cons y a ih =>
            intro ha hx
            rw [linesE] at ha
            by_cases e : lineE y ≠ 0
            · rw [if_pos e] at ha; exact absurd ha e
            · rw [if_neg e] at ha
              rw [List.cons_append, linesE, if_neg e]; exact ih ha hx
        exact key _ _ h1 (by rw [← hEL]; exact h2))
      rw [← hEL] at HST
      rw [← hVL] at hts
      have HTS := Lib.hid hts
      obtain ⟨⟨xk, xn, xf, nm, xl, xd⟩, ⟨hp, hc, hq, he⟩⟩ := r
      simp only [Ob.s, Ob.l] at c0 c1 KA LC
      obtain ⟨N, hN⟩ : ∃ N, N = xl.length := ⟨_, rfl⟩
      rw [← hN] at c1 KA LC
      clear hr hlj hmem hmr hts hN hkk hEL hVL
      by_cases he0 : EL = 0
      · subst he0
        have HJ2 := Lib.hid (show linesE (l.drop (j + 1)) = E by rw [HST.out, if_neg (by simp)])
        have HT2 := Lib.hid (HLE.out HT0.out rfl)
        have HTL2 := Lib.hid (show ((l.take (j + 1)).flatMap lineV).length ≤ M * (j + 1) by
          rw [HTS.out, List.length_append, Nat.mul_succ]
          have := HTL.out
          have := HVM.out
          omega)
        go_wp2_with fail
        (with_reducible refine LC.out.mono ?_)
        rintro e w3 ⟨rfl, hk3⟩
        have K3 := Lib.hid (KA.out.trans hk3)
        have B3 := Lib.hid (Bld.kept HB.out K3.out)
        have WS := Lib.hid (writeString_k w.heap.size w.heap.size _ ⟨VL.toArray⟩ w3 B3.out.1 (by
          have h1 := HTL.out
          have h2 := HVM.out
          have h3 : M * j ≤ M * 65536 := Nat.mul_le_mul_left _ (by omega)
          unfold Lib.byteCells
          rw [List.length_map]
          show _ + VL.toArray.size ≤ _
          rw [List.size_toArray]
          omega) B3.out.2)
        clear hk3
        go_wp2_with fail
        (with_reducible refine WS.out.mono ?_)
        rintro e w4 ⟨rfl, hb4, hk4, ho4⟩
        have K4 := Lib.hid (show Kept w w4 from Below.trans (KR.out.trans K3.out) hk4)
        have B4 := Lib.hid (show Bld w.heap.size w.heap.size ((l.take (j + 1)).flatMap lineV) w4 by
          rw [HTS.out]
          rw [cat_cells] at hb4
          exact ⟨.inr hb4, K4.out.size⟩)
        clear hb4 hk4 ho4
        go_wp2_with fail
        go_roundg (L - (j + 1))
        case measure => omega
        case rel => exact ⟨j + 1, rfl, hlt, by go_num, HJ2, K4.out, B4, HT2, HTL2⟩
      · obtain rfl : E = EL := by rw [HST.out, if_pos he0]
        obtain rfl : V = ⟨#[]⟩ := by rw [HV.out, if_pos he0]
        have hne : (E != 0) = true := by simpa using he0
        clear he0
        go_wp2_with fail
        (with_reducible refine LC.out.mono ?_)
        rintro e w3 ⟨rfl, hk3⟩
        have K3 := Lib.hid (KR.out.trans (KA.out.trans hk3))
        clear hk3
        go_wp2_with fail
        go_ret2
        exact ⟨rfl, K3.out⟩
    · obtain rfl : j = L := by omega
      have hTK : l.take j = l := List.take_of_length_le (by rw [HlL.out]; exact Nat.le_refl _)
      obtain rfl : E = 0 := by rw [← HJ.out, List.drop_of_length_le (by rw [HlL.out]; exact Nat.le_refl _)]; rfl
      have HXV := Lib.hid (show V = ⟨((l.take j).flatMap lineV).toArray⟩ by
        rw [HV.out, if_neg (by simp), hTK, linesV_eq l (by rw [← hTK]; exact HT0.out)])
      have SB := Lib.hid (Tryz.Builder_String_any_k _ _ _ wr HB.out.1 HB.out.2)
      rw [← HXV.out] at SB
      clear hTK
      go_wp2_with fail
      (with_reducible refine SB.out.mono ?_)
      rintro e w4 ⟨rfl, -, hk4, -⟩
      have K4 := Lib.hid (show Kept w w4 from Below.trans KR.out hk4)
      clear hk4
      go_wp2_with fail
      go_ret2
      exact ⟨rfl, K4.out⟩

end Go.Proofs.YtkpagahnmbchjaaGreatDoor
