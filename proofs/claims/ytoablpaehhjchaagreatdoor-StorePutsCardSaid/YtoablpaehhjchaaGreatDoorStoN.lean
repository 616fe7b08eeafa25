import Derived.Test.YtoablpaehhjchaaGreatDoorStoR
import Derived.Test.YtoablpaehhjchaaGreatDoorUntil
import Derived.Deep.Slices
import Derived.Deep.LoopGhost
import Derived.Deep.QuietTactic
import Derived.Deep.RegionLaw
import Derived.Deep.RegionHeld3
namespace Go.Proofs.YtoablpaehhjchaaGreatDoor
open Go.RowKit Cx Sx
set_option linter.unusedSimpArgs false
set_option linter.unusedVariables false

abbrev NRow := List (Nm × Hd)

def flatN (rs : NRow) : List Value := rs.flatMap fun r => cells8 r.1 r.2
theorem flatN_len (rs : NRow) : (flatN rs).length = rs.length * 8 := flat_len _ 8 (fun _ => rfl) rs
theorem flatN_snoc (rs : NRow) (r : Nm × Hd) : flatN (rs ++ [r]) = flatN rs ++ cells8 r.1 r.2 := by
  unfold flatN; rw [List.flatMap_append]; simp
theorem flatN_get (rs : NRow) (i q : Nat) (hi : i < rs.length) (hq : q < 8) : (flatN rs)[i * 8 + q]? = (cells8 rs[i].1 rs[i].2)[q]? :=
  flat_get (fun r : Nm × Hd => cells8 r.1 r.2) 8 (fun _ => rfl) rs i q hi hq

def NmK (w : World) (p : Option Addr) (rs : NRow) : Prop :=
  ∀ i (hi : i < rs.length), ∃ b off, p = some ⟨b, off, none⟩ ∧ b < w.heap.size ∧ ∀ q v, (cells8 rs[i].1 rs[i].2)[q]? = some v → w.cell? ⟨b, off + i * 8 + q, none⟩ = some v
theorem NmR.rows {P : Nat → Prop} {w : World} {p : Option Addr} {l : List Nm} (h : NmR P w p l) :
    ∃ rs : NRow, rs.map (·.1) = l ∧ NmK w p rs ∧ ∀ r ∈ rs, Lies (Cel P w) r.1.o r.2 := by
  have one : ∀ i, i < l.length → ∃ hd : Hd, ∃ hi : i < l.length, ∃ b off, p = some ⟨b, off, none⟩ ∧ b < w.heap.size ∧ Lies (Cel P w) l[i].o hd ∧ ∀ q v, (cells8 l[i] hd)[q]? = some v → w.cell? ⟨b, off + i * 8 + q, none⟩ = some v := fun i hi => by
    obtain ⟨b, off, hd, hp, -, hlt, hl, c0, c1, c2, c3, c4, c5, c6, c7⟩ := h.at' i hi
    refine ⟨hd, hi, b, off, hp, hlt, hl, fun q v hv => ?_⟩
    have hq : q < 8 := by
      rcases Nat.lt_or_ge q 8 with h | h
      · exact h
      · rw [List.getElem?_eq_none (show (cells8 l[i] hd).length ≤ q from h)] at hv; cases hv
    rcases (show q = 0 ∨ q = 1 ∨ q = 2 ∨ q = 3 ∨ q = 4 ∨ q = 5 ∨ q = 6 ∨ q = 7 by omega) with rfl | rfl | rfl | rfl | rfl | rfl | rfl | rfl
    all_goals (obtain rfl := Option.some.inj hv; assumption)
  haveI : Inhabited Hd := ⟨Hd.none⟩
  obtain ⟨F, hF⟩ := Go.Deep.choose_lt (α := Hd) one
  have hlen : (l.zip ((List.range l.length).map F)).length = l.length := by simp
  have hget : ∀ i (hi : i < (l.zip ((List.range l.length).map F)).length), (l.zip ((List.range l.length).map F))[i] = (l[i]'(by omega), F i) := fun i hi => by simp
  refine ⟨l.zip ((List.range l.length).map F), List.map_fst_zip (by simp), fun i hi => ?_, fun r hr => ?_⟩
  · obtain ⟨_, b, off, hp, hlt, _, hc⟩ := hF i (by omega)
    rw [hget i hi]
    exact ⟨b, off, hp, hlt, hc⟩
  · obtain ⟨i, hi, rfl⟩ := List.mem_iff_getElem.1 hr
    obtain ⟨_, b, off, hp, hlt, hl, _⟩ := hF i (by omega)
    rw [hget i hi]
    exact hl
theorem NmK.kept {w w' : World} {p : Option Addr} {rs : NRow} (h : NmK w p rs) (k : Kept w w') : NmK w' p rs := fun i hi => by
  obtain ⟨b, off, hp, hlt, hc⟩ := h i hi
  exact ⟨b, off, hp, by have := Below.size k; omega, fun q v hv => by rw [(k.cells).1 b _ hlt]; exact hc q v hv⟩
theorem NmK.cells {w : World} {p : Option Addr} {rs : NRow} (h : NmK w p rs) (i : Nat) (hi : i < rs.length) : ∃ b off, p = some ⟨b, off, none⟩ ∧ b < w.heap.size ∧
    w.cell? ⟨b, off + i * 8, none⟩ = some (.int .i64 rs[i].1.n) ∧ w.cell? ⟨b, off + i * 8 + 1, none⟩ = some (.int .i64 rs[i].1.g) ∧
    w.cell? ⟨b, off + i * 8 + 2, none⟩ = some (.int .i64 rs[i].1.o.k) ∧ w.cell? ⟨b, off + i * 8 + 3, none⟩ = some (.int .i64 rs[i].1.o.n) ∧ w.cell? ⟨b, off + i * 8 + 4, none⟩ = some (.int .i64 rs[i].1.o.f) ∧
    w.cell? ⟨b, off + i * 8 + 5, none⟩ = some (.string rs[i].1.o.s) ∧ w.cell? ⟨b, off + i * 8 + 6, none⟩ = some (.slice rs[i].2.p rs[i].1.o.l.length rs[i].2.c) ∧ w.cell? ⟨b, off + i * 8 + 7, none⟩ = some (.slice rs[i].2.q rs[i].1.o.d.length rs[i].2.e) := by
  obtain ⟨b, off, hp, hlt, hc⟩ := h i hi
  exact ⟨b, off, hp, hlt, hc 0 _ rfl, hc 1 _ rfl, hc 2 _ rfl, hc 3 _ rfl, hc 4 _ rfl, hc 5 _ rfl, hc 6 _ rfl, hc 7 _ rfl⟩

def OwnN (T : TypeId) (w : World) (N : Nat) (v : Value) (rs : NRow) : Prop := w.ownsRow N T 8 v rs.length (flatN rs)
section
variable {T : TypeId} {w w' : World} {N : Nat} {v : Value} {rs : NRow}
theorem OwnN.nil (T : TypeId) (N : Nat) (w : World) : OwnN T w N (.slice none 0 0) [] := World.ownsRow_nil _ _ _ _
theorem OwnN.lt (h : OwnN T w N v rs) : ∀ k, v.ownBlock = some k → N ≤ k ∧ k < w.heap.size := World.ownsRow.lt h
theorem OwnN.gb (h : OwnN T w N v rs) {r : Option Nat} (g : w.grownBy w' r) (hne : v.ownBlock = none ∨ v.ownBlock ≠ r) : OwnN T w' N v rs := World.ownsRow.kept h g hne
theorem OwnN.kept (h : OwnN T w N v rs) (k : Kept w w') : OwnN T w' N v rs :=
  h.gb (gb_kept k none) (by cases hv : v.ownBlock with
    | none => exact .inl rfl
    | some g => exact .inr (by simp))
theorem OwnN.shape (h : OwnN T w N v rs) : ∃ p cap, v = .slice p rs.length cap ∧ (p = none → cap = 0) ∧ rs.length ≤ cap := by
  rcases h.2 with ⟨rfl, h0⟩ | ⟨g, cap, cur, rfl, _, _, hc, _⟩
  · exact ⟨none, 0, by rw [h0], fun _ => rfl, by omega⟩
  · exact ⟨_, _, rfl, (fun e => by cases e), hc⟩
theorem OwnN.row {p : Option Addr} {cap : Nat} (h : OwnN T w N (.slice p rs.length cap) rs) : NmK w p rs := fun i hi => by
  obtain ⟨g, cap', hv, hb⟩ : ∃ g cap', (Value.slice p rs.length cap) = .slice (some ⟨g, 0, none⟩) rs.length cap' ∧ N ≤ g := by
    rcases h.2 with ⟨_, h0⟩ | ⟨g, cap', cur, hv, hb, _⟩
    · omega
    · exact ⟨g, cap', hv, hb⟩
  obtain ⟨rfl, rfl⟩ : p = some ⟨g, 0, none⟩ ∧ cap = cap' := by injection hv with e1 _ e3; exact ⟨e1, e3⟩
  refine ⟨g, 0, rfl, (h.lt g rfl).2, fun q u hq => ?_⟩
  have hjl : q < 8 := by
    rcases Nat.lt_or_ge q 8 with h | h
    · exact h
    · rw [List.getElem?_eq_none (show (cells8 rs[i].1 rs[i].2).length ≤ q from h)] at hq; cases hq
  have := World.ownsRow.cells h (g := g) rfl (i * 8 + q) u (by rw [flatN_get rs i q hi hjl]; exact hq)
  rw [Addr.add_lit] at this
  rw [show 0 + i * 8 + q = 0 + (i * 8 + q) by omega]; exact this
end
theorem NmK.nmR {P : Nat → Prop} {w : World} {p : Option Addr} {rs : NRow} (h : NmK w p rs) (hP : ∀ b off, p = some ⟨b, off, none⟩ → P b) (hl : ∀ r ∈ rs, Lies (Cel P w) r.1.o r.2) (hlen : rs.length ≤ maxLen) : NmR P w p (rs.map (·.1)) := by
  refine ⟨by simpa using hlen, fun i hi => ?_⟩
  have hi' : i < rs.length := by simpa using hi
  obtain ⟨b, off, hp, hlt, c0, c1, c2, c3, c4, c5, c6, c7⟩ := h.cells i hi'
  have e : (rs.map (·.1))[i] = rs[i].1 := List.getElem_map _
  rw [e]
  exact ⟨b, off, rs[i].2, hp, hP b off hp, hlt, hl _ (List.getElem_mem hi'), c0, c1, c2, c3, c4, c5, c6, c7⟩

theorem step_app_new (T TS : TypeId) (hu : Tryz.prog.underlying TS = some (.slice T)) (hinfo : (Tryz.prog.info? T).map (fun i => (i.zero, i.size, i.bytes)) = some (some (.agg #[.int .i64 0, .int .i64 0, .int .i64 0, .int .i64 0, .int .i64 0, .string ⟨#[]⟩, .slice none 0 0, .slice none 0 0]), 8, 104))
    {ops : Array Oper} {o : Oper} {a : Act} {K : Act → World → Prop} {Q : Exit → Act → World → Prop} {E : Prop} (hgd : o.guard = none) (s x : Operand)
    (ho : o.op = .call { callee := .builtin .append, args := #[s, x], argTypes := #[TS, TS] })
    {W : World} (N : Nat) (v : Value) (rs : NRow) (hs : a.eval s = v) (hown : OwnN T W N v rs) (r : Nm × Hd) (g : Nat) (hb : Blk W g (cells8 r.1 r.2).toArray T)
    (hx : a.eval x = .slice (some ⟨g, 0, none⟩) 1 1) (hB : N ≤ W.heap.size) (hlen : rs.length ≤ 1099511627776)
    (h : ∀ g' cap w', OwnN T w' N (.slice (some ⟨g', 0, none⟩) (rs.length + 1) cap) (rs ++ [r]) → W.grownBy w' v.ownBlock → g' < w'.heap.size → K (a.put o.dst (.slice (some ⟨g', 0, none⟩) (rs.length + 1) cap)) w') :
    if Region.wanted o (yielded ops a.tmps) = true then Oper.wp Tryz.prog o a W K Q else E := by
  obtain ⟨i0, hi, hz0, hz1, hz2⟩ := info_parts hinfo
  refine step_append_lies _ hgd s x TS ho N T i0 _ 8 104 hu hi hz0 hz1 hz2 rfl (by decide) v rs.length (flatN rs) hs hown ⟨g, 0, none⟩ 1 1 (cells8 r.1 r.2) hx rfl
    ?_ (oneCell8 _ _) (by decide) (by unfold maxLen; omega) (by omega) hB _ rfl ?_
  · intro j u hj
    rw [Addr.add_lit, Nat.zero_add, hb.cell j]
    simpa using hj
  · intro g' cap w' h1 h2 _ h4
    refine h g' cap w' ?_ h2 h4
    unfold OwnN
    rw [List.length_append, flatN_snoc]
    exact h1

theorem wpList_app_rows (T TS : TypeId) (hu : Tryz.prog.underlying TS = some (.slice T)) (hinfo : (Tryz.prog.info? T).map (fun i => (i.zero, i.size, i.bytes)) = some (some (.agg #[.int .i64 0, .int .i64 0, .int .i64 0, .int .i64 0, .int .i64 0, .string ⟨#[]⟩, .slice none 0 0, .slice none 0 0]), 8, 104))
    {ops : Array Oper} {rest : List Oper} {o : Oper} {a : Act} {Q : Exit → Act → World → Prop} (hgd : o.guard = none) (s x : Operand)
    (ho : o.op = .call { callee := .builtin .append, args := #[s, x], argTypes := #[TS, TS] })
    {W : World} (N : Nat) (v : Value) (rs news : NRow) (hs : a.eval s = v) (hown : OwnN T W N v rs) (g : Nat) (cs : Array Value) (hcs : cs.toList = flatN news) (hb : Blk W g cs T)
    (m : Nat) (hm : m = news.length) (hm0 : 0 < m) (hx : a.eval x = .slice (some ⟨g, 0, none⟩) m m) (hB : N ≤ W.heap.size) (hlen : rs.length + m ≤ 1099511627776)
    (h : ∀ g' cap w', OwnN T w' N (.slice (some ⟨g', 0, none⟩) (rs.length + m) cap) (rs ++ news) → W.grownBy w' v.ownBlock → g' < w'.heap.size → wpList Tryz.prog ops Q rest (a.put o.dst (.slice (some ⟨g', 0, none⟩) (rs.length + m) cap)) w') :
    wpList Tryz.prog ops Q (o :: rest) a W := by
  obtain ⟨i0, hi, hz0, hz1, hz2⟩ := info_parts hinfo
  subst hm
  refine wpList_append_lies _ hgd s x TS ho N T i0 _ 8 104 hu hi hz0 hz1 hz2 rfl (by decide) v rs.length (flatN rs) hs hown ⟨g, 0, none⟩ news.length news.length (flatN news) hx (flatN_len news)
    ?_ (fun u hu => ?_) hm0 (by unfold maxLen; omega) (by omega) hB _ rfl ?_
  · intro j u hj
    rw [Addr.add_lit, Nat.zero_add, hb.cell j, ← Array.getElem?_toList, hcs]
    exact hj
  · unfold flatN at hu
    obtain ⟨r, _, hr⟩ := List.mem_flatMap.1 hu
    exact oneCell8 _ _ u hr
  · intro g' cap w' h1 h2 _ h4
    refine h g' cap w' ?_ h2 h4
    unfold OwnN
    rw [List.length_append, show flatN (rs ++ news) = flatN rs ++ flatN news by unfold flatN; rw [List.flatMap_append]]
    exact h1

end Go.Proofs.YtoablpaehhjchaaGreatDoor

namespace Go.Proofs.YtoablpaehhjchaaGreatDoor
open Go.RowKit Cx Sx
set_option linter.unusedSimpArgs false
set_option linter.unusedVariables false

set_option maxRecDepth 100000 in
set_option maxHeartbeats 16000000 in
theorem ours_any (l : List Nm) (p : Option Addr) (c : Nat) (t : Ob) (ht : Hd) (w : World) (h : NmR (fun _ => True) w p l) (hb : l.length ≤ 1048576) :
    Calls Tryz.prog 16 #[fileV l p c t ht] w fun e w' => ∃ p' c', e = .returned (fileV l p' c' t ht) ∧ Kept w w' ∧ NmR (fun _ => True) w' p' l ∧ (p' = none → c' = 0) := by
  obtain ⟨rs, hrs, hnk, hli⟩ := h.rows
  have HRS := Lib.hid hrs
  have HNK := Lib.hid hnk
  have HLI := Lib.hid hli
  have hLen : rs.length = l.length := by rw [← hrs, List.length_map]
  have H1 := Lib.hid (In.fresh' (k := w.heap.size + 1) (In.fresh (In.start w) #[.slice p l.length c, .int .i64 t.k, .int .i64 t.n, .int .i64 t.f, .string t.s, .slice ht.p t.l.length ht.c, .slice ht.q t.d.length ht.e] 41) #[.slice none 0 0, .int .i64 0, .int .i64 0, .int .i64 0, .string ⟨#[]⟩, .slice none 0 0, .slice none 0 0] 46 (by simp))
  have H2 := Lib.hid (In.fresh' (k := w.heap.size + 1 + 1) H1.out #[.slice none 0 0, .int .i64 t.k, .int .i64 t.n, .int .i64 t.f, .string t.s, .slice ht.p t.l.length ht.c, .slice ht.q t.d.length ht.e] 46 (by simp))
  clear h hrs hnk hli
  unfold fileV
  obtain ⟨f0, f1, f2, f3, f4, f5, f6⟩ := (H1.out.mem (List.mem_cons_of_mem _ List.mem_cons_self)).cells7
  go_enter Tryz.func16, Tryz.ntmps16
  go_wp2_with fail
  go_loopg [4] (l.length) (fun m i wr => ∃ (j : Nat) (q : Option Addr) (cq : Nat), m = l.length - j ∧ j ≤ l.length ∧ i = .int .i64 j ∧ In w [(w.heap.size + 1 + 1, #[.slice q j cq, .int .i64 t.k, .int .i64 t.n, .int .i64 t.f, .string t.s, .slice ht.p t.l.length ht.c, .slice ht.q t.d.length ht.e], 46), (w.heap.size + 1, #[.slice none 0 0, .int .i64 0, .int .i64 0, .int .i64 0, .string ⟨#[]⟩, .slice none 0 0, .slice none 0 0], 46), (w.heap.size, #[.slice p l.length c, .int .i64 t.k, .int .i64 t.n, .int .i64 t.f, .string t.s, .slice ht.p t.l.length ht.c, .slice ht.q t.d.length ht.e], 41)] wr ∧ Hid (OwnN 53 wr (w.heap.size + 1 + 1 + 1) (.slice q j cq) (rs.take j)))
  case atStart => exact ⟨0, none, 0, by omega, Nat.zero_le _, rfl, H2.out, Lib.hid (OwnN.nil _ _ _)⟩
  case round =>
    obtain ⟨j, q, cq, hm, hj, rfl, hin, HO⟩ := hrel
    have HI := Lib.hid hin
    have KI := Lib.hid (In.k hin)
    have OM := Lib.hid (hin.mem List.mem_cons_self)
    have RM := Lib.hid (hin.mem (List.mem_cons_of_mem _ List.mem_cons_self))
    have FM := Lib.hid (hin.mem (List.mem_cons_of_mem _ (List.mem_cons_of_mem _ List.mem_cons_self)))
    clear hin f0 f1 f2 f3 f4 f5 f6 H1 H2
    obtain ⟨o0, o1, o2, o3, o4, o5, o6⟩ := OM.out.cells7
    have of_ := OM.out.free
    have oz := OM.out.lt
    obtain ⟨f0, f1, f2, f3, f4, f5, f6⟩ := FM.out.cells7
    have fz := FM.out.lt
    by_cases hlt : j < l.length
    · have j1 : (j : Int) < (l.length : Int) := by omega
      have j0 : (0 : Int) ≤ (j : Int) := by omega
      obtain ⟨kb, off, hpp, hkb, c0, c1, c2, c3, c4, c5, c6, c7⟩ := (HNK.out.kept KI.out).cells j (by omega)
      have hkw : kb < w.heap.size := by obtain ⟨kb', off', hp', hlt', -⟩ := HNK.out j (by omega); rw [hpp] at hp'; injection hp' with hp'; injection hp' with e1 e2; omega
      subst hpp
      have htk : rs.take (j + 1) = rs.take j ++ [rs[j]'(by omega)] := List.take_succ_eq_append_getElem (by omega)
      have hll : (rs.take j).length = j := by rw [List.length_take]; omega
      obtain ⟨r, hr⟩ : ∃ r, rs[j]'(by omega) = r := ⟨_, rfl⟩
      rw [hr] at c0 c1 c2 c3 c4 c5 c6 c7 htk
      obtain ⟨⟨xn, xg, xo⟩, ⟨hp, hc, hq, he⟩⟩ := r
      simp only [] at c0 c1 c2 c3 c4 c5 c6 c7
      have HTK := Lib.hid htk
      have HLL := Lib.hid hll
      clear hr htk hll
      have SK := Lib.hid (show ∀ W, Kept wr W → (fun w' => w'.cell? ⟨w.heap.size + 1 + 1, 0, none⟩ = some (.slice q j cq) ∧ w'.cell? ⟨w.heap.size, 0, none⟩ = some (.slice (some ⟨kb, off, none⟩) l.length c) ∧ w'.cell? ⟨kb, off + j * 8, none⟩ = some (.int .i64 xn) ∧ w'.cell? ⟨kb, off + j * 8 + 1, none⟩ = some (.int .i64 xg) ∧ w'.cell? ⟨kb, off + j * 8 + 2, none⟩ = some (.int .i64 xo.k) ∧ w'.cell? ⟨kb, off + j * 8 + 3, none⟩ = some (.int .i64 xo.n) ∧ w'.cell? ⟨kb, off + j * 8 + 4, none⟩ = some (.int .i64 xo.f) ∧ w'.cell? ⟨kb, off + j * 8 + 5, none⟩ = some (.string xo.s) ∧ w'.cell? ⟨kb, off + j * 8 + 6, none⟩ = some (.slice hp xo.l.length hc) ∧ w'.cell? ⟨kb, off + j * 8 + 7, none⟩ = some (.slice hq xo.d.length he)) W from fun W k => ⟨(k.cells.1 _ _ oz).trans o0, (k.cells.1 _ _ fz).trans f0, (k.cells.1 _ _ hkb).trans c0, (k.cells.1 _ _ hkb).trans c1, (k.cells.1 _ _ hkb).trans c2, (k.cells.1 _ _ hkb).trans c3, (k.cells.1 _ _ hkb).trans c4, (k.cells.1 _ _ hkb).trans c5, (k.cells.1 _ _ hkb).trans c6, (k.cells.1 _ _ hkb).trans c7⟩)
      have KA := Lib.hid (show Kept wr ((wr.drew).alloc (.cells #[.int .i64 xn, .int .i64 xg, .int .i64 xo.k, .int .i64 xo.n, .int .i64 xo.f, .string xo.s, .slice hp xo.l.length hc, .slice hq xo.d.length he] 53)) from ((Kept.refl wr).drew).allocO _)
      have OA := Lib.hid (show OwnN 53 ((wr.drew).alloc (.cells #[.int .i64 xn, .int .i64 xg, .int .i64 xo.k, .int .i64 xo.n, .int .i64 xo.f, .string xo.s, .slice hp xo.l.length hc, .slice hq xo.d.length he] 53)) (w.heap.size + 1 + 1 + 1) (.slice q j cq) (rs.take j) from HO.out.kept KA.out)
      have BA := Lib.hid (show Blk ((wr.drew).alloc (.cells #[.int .i64 xn, .int .i64 xg, .int .i64 xo.k, .int .i64 xo.n, .int .i64 xo.f, .string xo.s, .slice hp xo.l.length hc, .slice hq xo.d.length he] 53)) wr.heap.size (cells8 ⟨xn, xg, xo⟩ ⟨hp, hc, hq, he⟩).toArray 53 from Blk.fresh wr.drew _ _)
      have hsA : w.heap.size + 1 + 1 + 1 ≤ ((wr.drew).alloc (.cells #[.int .i64 xn, .int .i64 xg, .int .i64 xo.k, .int .i64 xo.n, .int .i64 xo.f, .string xo.s, .slice hp xo.l.length hc, .slice hq xo.d.length he] 53)).heap.size := by have := KA.out.size; omega
      have hlb : (rs.take j).length ≤ 1099511627776 := by rw [HLL.out]; omega
      have OL := Lib.hid (HO.out.lt)
      have GS := Lib.hid (show ∀ w5, ((wr.drew).alloc (.cells #[.int .i64 xn, .int .i64 xg, .int .i64 xo.k, .int .i64 xo.n, .int .i64 xo.f, .string xo.s, .slice hp xo.l.length hc, .slice hq xo.d.length he] 53)).grownBy w5 (Value.ownBlock (.slice q j cq)) → ∀ b, b < w.heap.size + 1 + 1 + 1 → w5.heap[b]? = wr.heap[b]? from fun w5 g b hb =>
        (g.block b (by omega) (fun e => by have := (OL.out b e.symm).1; omega)).trans (KA.out.block b (by omega)))
      clear o1 o2 o3 o4 o5 o6 f1 f2 f3 f4 f5 f6 c0 c1 c2 c3 c4 c5 c6 c7
      go_upto_region 5 with fail
      refine wp_region_until (S := (fun w' => w'.cell? ⟨w.heap.size + 1 + 1, 0, none⟩ = some (.slice q j cq) ∧ w'.cell? ⟨w.heap.size, 0, none⟩ = some (.slice (some ⟨kb, off, none⟩) l.length c) ∧ w'.cell? ⟨kb, off + j * 8, none⟩ = some (.int .i64 xn) ∧ w'.cell? ⟨kb, off + j * 8 + 1, none⟩ = some (.int .i64 xg) ∧ w'.cell? ⟨kb, off + j * 8 + 2, none⟩ = some (.int .i64 xo.k) ∧ w'.cell? ⟨kb, off + j * 8 + 3, none⟩ = some (.int .i64 xo.n) ∧ w'.cell? ⟨kb, off + j * 8 + 4, none⟩ = some (.int .i64 xo.f) ∧ w'.cell? ⟨kb, off + j * 8 + 5, none⟩ = some (.string xo.s) ∧ w'.cell? ⟨kb, off + j * 8 + 6, none⟩ = some (.slice hp xo.l.length hc) ∧ w'.cell? ⟨kb, off + j * 8 + 7, none⟩ = some (.slice hq xo.d.length he))) 24 (by kernel_rfl) ?_ (fun hHeld => ?_)
      · exact SK.out _ (Kept.refl wr).drew
      refine wpAnyU_take (i := 0) (oi := ⟨some 15, _, _, _, _, _⟩) (v := ?_) [1, 22, 24] rfl (by kernel_rfl) (by kernel_rfl) (by kernel_rfl) (by kernel_rfl) (fun _ _ _ h => h) (Or.inl ⟨by rfl, ?_⟩) (by assumption) ?_
      rotate_left 1
      · (intro w hSw; (try dsimp only at hSw); go_simp <;> with_reducible rfl)
      try simp only [Act.put, List.setIfInBounds_toArray, List.set_cons_zero, List.set_cons_succ]
      refine wpAnyU_take (i := 1) (oi := ⟨some 16, _, _, _, _, _⟩) (v := ?_) [22, 24] rfl (by kernel_rfl) (by kernel_rfl) (by kernel_rfl) (by kernel_rfl) (fun _ _ _ h => h) (Or.inl ⟨by rfl, ?_⟩) (by assumption) ?_
      rotate_left 1
      · (intro w hSw; (try dsimp only at hSw); go_simp <;> with_reducible rfl)
      try simp only [Act.put, List.setIfInBounds_toArray, List.set_cons_zero, List.set_cons_succ]
      refine wpAnyU_take (i := 2) (oi := ⟨some 17, _, _, _, _, _⟩) (v := ?_) [3, 5, 6, 7, 20, 21, 22, 24] rfl (by kernel_rfl) (by kernel_rfl) (by kernel_rfl) (by kernel_rfl) (fun _ _ _ h => h) (Or.inl ⟨by rfl, ?_⟩) (by assumption) ?_
      rotate_left 1
      · (intro w hSw; (try dsimp only at hSw); go_simp <;> with_reducible rfl)
      try simp only [Act.put, List.setIfInBounds_toArray, List.set_cons_zero, List.set_cons_succ]
      refine wpAnyU_take (i := 3) (oi := ⟨some 18, _, _, _, _, _⟩) (v := ?_) [5, 6, 7, 20, 21, 22, 24] rfl (by kernel_rfl) (by kernel_rfl) (by kernel_rfl) (by kernel_rfl) (fun _ _ _ h => h) (Or.inl ⟨by rfl, ?_⟩) (by assumption) ?_
      rotate_left 1
      · (intro w hSw; (try dsimp only at hSw); go_simp <;> with_reducible rfl)
      try simp only [Act.put, List.setIfInBounds_toArray, List.set_cons_zero, List.set_cons_succ]
      refine wpAnyU_take (i := 4) (oi := ⟨some 19, _, _, _, _, _⟩) (v := ?_) [5, 6, 7, 20, 21, 22, 24] rfl (by kernel_rfl) (by kernel_rfl) (by kernel_rfl) (by kernel_rfl) (fun _ _ _ h => h) (Or.inl ⟨by rfl, ?_⟩) (by assumption) ?_
      rotate_left 1
      · (intro w hSw; (try dsimp only at hSw); go_simp <;> with_reducible rfl)
      try simp only [Act.put, List.setIfInBounds_toArray, List.set_cons_zero, List.set_cons_succ]
      refine wpAnyU_take (i := 5) (oi := ⟨some 20, _, _, _, _, _⟩) (v := ?_) [6, 7, 20, 21, 22, 24] rfl (by kernel_rfl) (by kernel_rfl) (by kernel_rfl) (by kernel_rfl) (fun _ _ _ h => h) (Or.inl ⟨by rfl, ?_⟩) (by assumption) ?_
      rotate_left 1
      · (intro w hSw; (try dsimp only at hSw); go_simp <;> with_reducible rfl)
      try simp only [Act.put, List.setIfInBounds_toArray, List.set_cons_zero, List.set_cons_succ]
      refine wpAnyU_take (i := 6) (oi := ⟨some 21, _, _, _, _, _⟩) (v := ?_) [7, 20, 21, 22, 24] rfl (by kernel_rfl) (by kernel_rfl) (by kernel_rfl) (by kernel_rfl) (fun _ _ _ h => h) (Or.inl ⟨by rfl, ?_⟩) (by assumption) ?_
      rotate_left 1
      · (intro w hSw; (try dsimp only at hSw); go_simp <;> with_reducible rfl)
      try simp only [Act.put, List.setIfInBounds_toArray, List.set_cons_zero, List.set_cons_succ]
      refine wpAnyU_take (i := 7) (oi := ⟨some 22, _, _, _, _, _⟩) (v := ?_) [20, 21, 22, 24] rfl (by kernel_rfl) (by kernel_rfl) (by kernel_rfl) (by kernel_rfl) (fun _ _ _ h => h) (Or.inl ⟨by rfl, ?_⟩) (by assumption) ?_
      rotate_left 1
      · (intro w hSw; (try dsimp only at hSw); go_simp <;> with_reducible rfl)
      try simp only [Act.put, List.setIfInBounds_toArray, List.set_cons_zero, List.set_cons_succ]
      refine wpAnyU_take (i := 8) (oi := ⟨some 23, _, _, _, _, _⟩) (v := ?_) [9, 11, 12, 13, 20, 21, 22, 24] rfl (by kernel_rfl) (by kernel_rfl) (by kernel_rfl) (by kernel_rfl) (fun _ _ _ h => h) (Or.inl ⟨by rfl, ?_⟩) (by assumption) ?_
      rotate_left 1
      · (intro w hSw; (try dsimp only at hSw); go_simp <;> with_reducible rfl)
      try simp only [Act.put, List.setIfInBounds_toArray, List.set_cons_zero, List.set_cons_succ]
      refine wpAnyU_take (i := 9) (oi := ⟨some 24, _, _, _, _, _⟩) (v := ?_) [11, 12, 13, 20, 21, 22, 24] rfl (by kernel_rfl) (by kernel_rfl) (by kernel_rfl) (by kernel_rfl) (fun _ _ _ h => h) (Or.inl ⟨by rfl, ?_⟩) (by assumption) ?_
      rotate_left 1
      · (intro w hSw; (try dsimp only at hSw); go_simp <;> with_reducible rfl)
      try simp only [Act.put, List.setIfInBounds_toArray, List.set_cons_zero, List.set_cons_succ]
      refine wpAnyU_take (i := 10) (oi := ⟨some 25, _, _, _, _, _⟩) (v := ?_) [11, 12, 13, 20, 21, 22, 24] rfl (by kernel_rfl) (by kernel_rfl) (by kernel_rfl) (by kernel_rfl) (fun _ _ _ h => h) (Or.inl ⟨by rfl, ?_⟩) (by assumption) ?_
      rotate_left 1
      · (intro w hSw; (try dsimp only at hSw); go_simp <;> with_reducible rfl)
      try simp only [Act.put, List.setIfInBounds_toArray, List.set_cons_zero, List.set_cons_succ]
      refine wpAnyU_take (i := 11) (oi := ⟨some 26, _, _, _, _, _⟩) (v := ?_) [12, 13, 20, 21, 22, 24] rfl (by kernel_rfl) (by kernel_rfl) (by kernel_rfl) (by kernel_rfl) (fun _ _ _ h => h) (Or.inl ⟨by rfl, ?_⟩) (by assumption) ?_
      rotate_left 1
      · (intro w hSw; (try dsimp only at hSw); go_simp <;> with_reducible rfl)
      try simp only [Act.put, List.setIfInBounds_toArray, List.set_cons_zero, List.set_cons_succ]
      refine wpAnyU_take (i := 12) (oi := ⟨some 27, _, _, _, _, _⟩) (v := ?_) [13, 20, 21, 22, 24] rfl (by kernel_rfl) (by kernel_rfl) (by kernel_rfl) (by kernel_rfl) (fun _ _ _ h => h) (Or.inl ⟨by rfl, ?_⟩) (by assumption) ?_
      rotate_left 1
      · (intro w hSw; (try dsimp only at hSw); go_simp <;> with_reducible rfl)
      try simp only [Act.put, List.setIfInBounds_toArray, List.set_cons_zero, List.set_cons_succ]
      refine wpAnyU_take (i := 13) (oi := ⟨some 28, _, _, _, _, _⟩) (v := ?_) [20, 21, 22, 24] rfl (by kernel_rfl) (by kernel_rfl) (by kernel_rfl) (by kernel_rfl) (fun _ _ _ h => h) (Or.inl ⟨by rfl, ?_⟩) (by assumption) ?_
      rotate_left 1
      · (intro w hSw; (try dsimp only at hSw); go_simp <;> with_reducible rfl)
      try simp only [Act.put, List.setIfInBounds_toArray, List.set_cons_zero, List.set_cons_succ]
      refine wpAnyU_take (i := 14) (oi := ⟨some 29, _, _, _, _, _⟩) (v := ?_) [15, 17, 18, 19, 20, 21, 22, 24] rfl (by kernel_rfl) (by kernel_rfl) (by kernel_rfl) (by kernel_rfl) (fun _ _ _ h => h) (Or.inl ⟨by rfl, ?_⟩) (by assumption) ?_
      rotate_left 1
      · (intro w hSw; (try dsimp only at hSw); go_simp <;> with_reducible rfl)
      try simp only [Act.put, List.setIfInBounds_toArray, List.set_cons_zero, List.set_cons_succ]
      refine wpAnyU_take (i := 15) (oi := ⟨some 30, _, _, _, _, _⟩) (v := ?_) [17, 18, 19, 20, 21, 22, 24] rfl (by kernel_rfl) (by kernel_rfl) (by kernel_rfl) (by kernel_rfl) (fun _ _ _ h => h) (Or.inl ⟨by rfl, ?_⟩) (by assumption) ?_
      rotate_left 1
      · (intro w hSw; (try dsimp only at hSw); go_simp <;> with_reducible rfl)
      try simp only [Act.put, List.setIfInBounds_toArray, List.set_cons_zero, List.set_cons_succ]
      refine wpAnyU_take (i := 16) (oi := ⟨some 31, _, _, _, _, _⟩) (v := ?_) [17, 18, 19, 20, 21, 22, 24] rfl (by kernel_rfl) (by kernel_rfl) (by kernel_rfl) (by kernel_rfl) (fun _ _ _ h => h) (Or.inl ⟨by rfl, ?_⟩) (by assumption) ?_
      rotate_left 1
      · (intro w hSw; (try dsimp only at hSw); go_simp <;> with_reducible rfl)
      try simp only [Act.put, List.setIfInBounds_toArray, List.set_cons_zero, List.set_cons_succ]
      refine wpAnyU_take (i := 17) (oi := ⟨some 32, _, _, _, _, _⟩) (v := ?_) [18, 19, 20, 21, 22, 24] rfl (by kernel_rfl) (by kernel_rfl) (by kernel_rfl) (by kernel_rfl) (fun _ _ _ h => h) (Or.inl ⟨by rfl, ?_⟩) (by assumption) ?_
      rotate_left 1
      · (intro w hSw; (try dsimp only at hSw); go_simp <;> with_reducible rfl)
      try simp only [Act.put, List.setIfInBounds_toArray, List.set_cons_zero, List.set_cons_succ]
      refine wpAnyU_take (i := 18) (oi := ⟨some 33, _, _, _, _, _⟩) (v := ?_) [19, 20, 21, 22, 24] rfl (by kernel_rfl) (by kernel_rfl) (by kernel_rfl) (by kernel_rfl) (fun _ _ _ h => h) (Or.inl ⟨by rfl, ?_⟩) (by assumption) ?_
      rotate_left 1
      · (intro w hSw; (try dsimp only at hSw); go_simp <;> with_reducible rfl)
      try simp only [Act.put, List.setIfInBounds_toArray, List.set_cons_zero, List.set_cons_succ]
      refine wpAnyU_take (i := 19) (oi := ⟨some 34, _, _, _, _, _⟩) (v := ?_) [20, 21, 22, 24] rfl (by kernel_rfl) (by kernel_rfl) (by kernel_rfl) (by kernel_rfl) (fun _ _ _ h => h) (Or.inl ⟨by rfl, ?_⟩) (by assumption) ?_
      rotate_left 1
      · (intro w hSw; (try dsimp only at hSw); go_simp <;> with_reducible rfl)
      try simp only [Act.put, List.setIfInBounds_toArray, List.set_cons_zero, List.set_cons_succ]
      refine wpAnyU_take (i := 20) (oi := ⟨some 35, _, _, _, _, _⟩) (v := ?_) [21, 22, 24] rfl (by kernel_rfl) (by kernel_rfl) (by kernel_rfl) (by kernel_rfl) (fun _ _ _ h => h) (Or.inl ⟨by rfl, ?_⟩) (by assumption) ?_
      rotate_left 1
      · (intro w hSw; (try dsimp only at hSw); go_simp <;> with_reducible rfl)
      try simp only [Act.put, List.setIfInBounds_toArray, List.set_cons_zero, List.set_cons_succ]
      refine wpAnyU_ready (rs := [21]) (by kernel_rfl) (by simp) ?_
      refine AllReadyU.cons (o := ⟨some 36, _, _, _, _, _⟩) rfl (fun K hK => ?_) AllReadyU.nil
      go_simp
      refine hK.out _ _ ?_ (fun hHeld => ?_)
      · exact SK.out _ KA.out
      clear hK K
      try simp only [Act.put, List.setIfInBounds_toArray, List.set_cons_zero, List.set_cons_succ]
      refine wpAnyU_ready (rs := [22]) (by kernel_rfl) (by simp) ?_
      refine AllReadyU.cons (o := ⟨some 37, _, _, _, _, _⟩) rfl (fun K hK => ?_) AllReadyU.nil
      refine step_app_new 53 44 Tryz.underlying44 (by kernel_rfl) (by rfl) _ _ (by rfl) (w.heap.size + 1 + 1 + 1) (.slice q j cq) (rs.take j) (by rfl) OA.out (⟨xn, xg, xo⟩, ⟨hp, hc, hq, he⟩) wr.heap.size BA.out (by rfl) hsA hlb ?_
      intro g5 cap5 w5 hown5 hg5 hlt5
      have GG := Lib.hid (GS.out w5 hg5)
      have O5 := Lib.hid hown5
      have K5 := Lib.hid (show Kept w w5 from Below.grown (KI.out.trans KA.out) hg5 (by omega) (fun y hy => by have := (OL.out y hy).1; omega))
      have B5 := Lib.hid (show In w [(w.heap.size + 1 + 1, #[.slice q j cq, .int .i64 t.k, .int .i64 t.n, .int .i64 t.f, .string t.s, .slice ht.p t.l.length ht.c, .slice ht.q t.d.length ht.e], 46), (w.heap.size + 1, #[.slice none 0 0, .int .i64 0, .int .i64 0, .int .i64 0, .string ⟨#[]⟩, .slice none 0 0, .slice none 0 0], 46), (w.heap.size, #[.slice (some ⟨kb, off, none⟩) l.length c, .int .i64 t.k, .int .i64 t.n, .int .i64 t.f, .string t.s, .slice ht.p t.l.length ht.c, .slice ht.q t.d.length ht.e], 41)] w5 from ⟨K5.out, fun x hx => by
        have hB := HI.out.2 x hx
        have hxl : x.1 < w.heap.size + 1 + 1 + 1 := by
          simp only [List.mem_cons, List.not_mem_nil, or_false] at hx
          rcases hx with rfl | rfl | rfl <;> simp only [] <;> omega
        exact (GG.out x.1 hxl).trans hB⟩)
      obtain ⟨p0, p1, p2, p3, p4, p5, p6⟩ := (B5.out.mem List.mem_cons_self).cells7
      have pf := (B5.out.mem List.mem_cons_self).free
      have pz := (B5.out.mem List.mem_cons_self).lt
      refine hK.out _ _ ?_ (fun hHeld => ?_)
      · have hgc : ∀ b o', b < w.heap.size + 1 + 1 + 1 → w5.cell? ⟨b, o', none⟩ = wr.cell? ⟨b, o', none⟩ := fun b o' hb => World.cell?_of_block (GG.out b hb)
        have S0 := SK.out wr (Kept.refl wr)
        simp only [] at S0
        obtain ⟨s0, s1, s2, s3, s4, s5, s6, s7, s8, s9⟩ := S0
        exact ⟨(hgc _ _ (by omega)).trans s0, (hgc _ _ (by omega)).trans s1, (hgc _ _ (by omega)).trans s2, (hgc _ _ (by omega)).trans s3, (hgc _ _ (by omega)).trans s4, (hgc _ _ (by omega)).trans s5, (hgc _ _ (by omega)).trans s6, (hgc _ _ (by omega)).trans s7, (hgc _ _ (by omega)).trans s8, (hgc _ _ (by omega)).trans s9⟩
      clear hK K hown5 hg5
      try simp only [Act.put, List.setIfInBounds_toArray, List.set_cons_zero, List.set_cons_succ]
      refine wpAnyU_take (i := 23) (oi := ⟨some 38, _, _, _, _, _⟩) (v := ?_) [24] rfl (by kernel_rfl) (by kernel_rfl) (by kernel_rfl) (by kernel_rfl) (fun _ _ _ h => h) (Or.inl ⟨by rfl, ?_⟩) (by assumption) ?_
      rotate_left 1
      · (intro w hSw; (try dsimp only at hSw); go_simp <;> with_reducible rfl)
      try simp only [Act.put, List.setIfInBounds_toArray, List.set_cons_zero, List.set_cons_succ]
      refine wpAnyU_ready (rs := [24]) (by kernel_rfl) (by simp) ?_
      refine AllReadyU.last (o := ⟨none, _, _, _, _, _⟩) rfl (fun K hK => ?_) AllReadyU.nil
      go_simp
      refine hK.out _ _ ?_
      clear hK K hHeld
      try simp only [Act.put, List.setIfInBounds_toArray, List.set_cons_zero, List.set_cons_succ]
      refine wpAnyU_done (by kernel_rfl) ?_ _
      rw [HLL.out] at O5
      rw [← HTK.out] at O5
      try simp only [HLL.out]
      go_wp2_with fail
      go_roundg (l.length - (j + 1))
      case measure => omega
      case rel =>
        refine ⟨j + 1, some ⟨g5, 0, none⟩, cap5, rfl, by omega, by go_num, ?_, Lib.hid ?_⟩
        · have hn : ∀ x ∈ [(w.heap.size + 1, (#[.slice none 0 0, .int .i64 0, .int .i64 0, .int .i64 0, .string ⟨#[]⟩, .slice none 0 0, .slice none 0 0] : Array Value), 46), (w.heap.size, #[.slice (some ⟨kb, off, none⟩) l.length c, .int .i64 t.k, .int .i64 t.n, .int .i64 t.f, .string t.s, .slice ht.p t.l.length ht.c, .slice ht.q t.d.length ht.e], 41)], x.1 ≠ w.heap.size + 1 + 1 := fun x hx => by
            simp only [List.mem_cons, List.not_mem_nil, or_false] at hx
            rcases hx with rfl | rfl <;> simp only [] <;> omega
          have hb5 := (B5.out.mem List.mem_cons_self).set 0 (.slice (some ⟨g5, 0, none⟩) (j + 1) cap5)
          exact In.cons (In.other (In.tail B5.out) (by omega) hn _) (by simpa using hb5)
        · exact OwnN.gb O5.out (r := some (w.heap.size + 1 + 1)) (gb_own (gb_refl _ _) _ _) (.inr (fun e => by have := (O5.out.lt _ e).1; omega))
    · obtain rfl : j = l.length := by omega
      have HNM := Lib.hid (show NmR (fun b => b ≠ w.heap.size + 1) wr q l from by
        have o2 := HO.out
        rw [List.take_of_length_le (by omega)] at o2
        have o3 : OwnN 53 wr (w.heap.size + 1 + 1 + 1) (.slice q rs.length cq) rs := by rw [hLen]; exact o2
        have := o3.row.nmR (P := fun b => b ≠ w.heap.size + 1) (fun b off e => by subst e; have := (o3.lt b rfl).1; omega) (fun r hr => (HLI.out r hr).keep fun b _ hlt => ⟨by omega, KI.out.below.block b hlt⟩) (by unfold maxLen; omega)
        rwa [HRS.out] at this)
      have HQN := Lib.hid (show q = none → cq = 0 from by
        obtain ⟨p9, c9, e9, h9, -⟩ := HO.out.shape
        injection e9 with e1 _ e3
        subst e1 e3
        exact h9)
      obtain ⟨u0, u1, u2, u3, u4, u5, u6⟩ := RM.out.cells7
      have uf := RM.out.free
      have uz := RM.out.lt
      go_wp2_with fail
      refine bodyPost_ret (v := .agg #[.slice q l.length cq, .int .i64 t.k, .int .i64 t.n, .int .i64 t.f, .string t.s, .slice ht.p t.l.length ht.c, .slice ht.q t.d.length ht.e]) ?_ rfl ⟨q, cq, rfl, ?_, ?_, HQN.out⟩
      · simp [results, Tryz.results16, go_sem, u0, u1, u2, u3, u4, u5, u6]
      · repeat (with_reducible first | exact KI.out | refine Kept.drew ?_ | refine Kept.set ?_ (by omega) _)
      · refine NmR.weak (P := fun b => b ≠ w.heap.size + 1) ?_ (fun _ _ => trivial)
        refine HNM.out.gb (r := some (w.heap.size + 1)) ?_ (fun b hb e => hb (Option.some.inj e))
        repeat (with_reducible first | exact gb_refl _ _ | refine gb_drew ?_ | refine gb_own ?_ _ _)

end Go.Proofs.YtoablpaehhjchaaGreatDoor

namespace Go.Proofs.YtoablpaehhjchaaGreatDoor
open Go.RowKit Cx Sx
set_option linter.unusedSimpArgs false
set_option linter.unusedVariables false

set_option maxRecDepth 100000 in
set_option maxHeartbeats 16000000 in
theorem theirs9_any (l : List Nm) (p : Option Addr) (c : Nat) (t : Ob) (ht : Hd) (w : World) (h : NmR (fun _ => True) w p l) (hb : l.length ≤ 1048576) :
    Calls Tryz.prog 21 #[fileV l p c t ht] w fun e w' => ∃ p' c', e = .returned (fileV l p' c' t ht) ∧ Kept w w' ∧ NmR (fun _ => True) w' p' l ∧ (p' = none → c' = 0) := by
  obtain ⟨rs, hrs, hnk, hli⟩ := h.rows
  have HRS := Lib.hid hrs
  have HNK := Lib.hid hnk
  have HLI := Lib.hid hli
  have hLen : rs.length = l.length := by rw [← hrs, List.length_map]
  have H1 := Lib.hid (In.fresh' (k := w.heap.size + 1) (In.fresh (In.start w) #[.slice p l.length c, .int .i64 t.k, .int .i64 t.n, .int .i64 t.f, .string t.s, .slice ht.p t.l.length ht.c, .slice ht.q t.d.length ht.e] 46) #[.slice none 0 0, .int .i64 0, .int .i64 0, .int .i64 0, .string ⟨#[]⟩, .slice none 0 0, .slice none 0 0] 41 (by simp))
  have H2 := Lib.hid (In.fresh' (k := w.heap.size + 1 + 1) H1.out #[.slice none 0 0, .int .i64 t.k, .int .i64 t.n, .int .i64 t.f, .string t.s, .slice ht.p t.l.length ht.c, .slice ht.q t.d.length ht.e] 41 (by simp))
  clear h hrs hnk hli
  unfold fileV
  obtain ⟨f0, f1, f2, f3, f4, f5, f6⟩ := (H1.out.mem (List.mem_cons_of_mem _ List.mem_cons_self)).cells7
  go_enter Tryz.func21, Tryz.ntmps21
  go_wp2_with fail
  go_loopg [4] (l.length) (fun m i wr => ∃ (j : Nat) (q : Option Addr) (cq : Nat), m = l.length - j ∧ j ≤ l.length ∧ i = .int .i64 j ∧ In w [(w.heap.size + 1 + 1, #[.slice q j cq, .int .i64 t.k, .int .i64 t.n, .int .i64 t.f, .string t.s, .slice ht.p t.l.length ht.c, .slice ht.q t.d.length ht.e], 41), (w.heap.size + 1, #[.slice none 0 0, .int .i64 0, .int .i64 0, .int .i64 0, .string ⟨#[]⟩, .slice none 0 0, .slice none 0 0], 41), (w.heap.size, #[.slice p l.length c, .int .i64 t.k, .int .i64 t.n, .int .i64 t.f, .string t.s, .slice ht.p t.l.length ht.c, .slice ht.q t.d.length ht.e], 46)] wr ∧ Hid (OwnN 57 wr (w.heap.size + 1 + 1 + 1) (.slice q j cq) (rs.take j)))
  case atStart => exact ⟨0, none, 0, by omega, Nat.zero_le _, rfl, H2.out, Lib.hid (OwnN.nil _ _ _)⟩
  case round =>
    obtain ⟨j, q, cq, hm, hj, rfl, hin, HO⟩ := hrel
    have HI := Lib.hid hin
    have KI := Lib.hid (In.k hin)
    have OM := Lib.hid (hin.mem List.mem_cons_self)
    have RM := Lib.hid (hin.mem (List.mem_cons_of_mem _ List.mem_cons_self))
    have FM := Lib.hid (hin.mem (List.mem_cons_of_mem _ (List.mem_cons_of_mem _ List.mem_cons_self)))
    clear hin f0 f1 f2 f3 f4 f5 f6 H1 H2
    obtain ⟨o0, o1, o2, o3, o4, o5, o6⟩ := OM.out.cells7
    have of_ := OM.out.free
    have oz := OM.out.lt
    obtain ⟨f0, f1, f2, f3, f4, f5, f6⟩ := FM.out.cells7
    have fz := FM.out.lt
    by_cases hlt : j < l.length
    · have j1 : (j : Int) < (l.length : Int) := by omega
      have j0 : (0 : Int) ≤ (j : Int) := by omega
      obtain ⟨kb, off, hpp, hkb, c0, c1, c2, c3, c4, c5, c6, c7⟩ := (HNK.out.kept KI.out).cells j (by omega)
      have hkw : kb < w.heap.size := by obtain ⟨kb', off', hp', hlt', -⟩ := HNK.out j (by omega); rw [hpp] at hp'; injection hp' with hp'; injection hp' with e1 e2; omega
      subst hpp
      have htk : rs.take (j + 1) = rs.take j ++ [rs[j]'(by omega)] := List.take_succ_eq_append_getElem (by omega)
      have hll : (rs.take j).length = j := by rw [List.length_take]; omega
      obtain ⟨r, hr⟩ : ∃ r, rs[j]'(by omega) = r := ⟨_, rfl⟩
      rw [hr] at c0 c1 c2 c3 c4 c5 c6 c7 htk
      obtain ⟨⟨xn, xg, xo⟩, ⟨hp, hc, hq, he⟩⟩ := r
      simp only [] at c0 c1 c2 c3 c4 c5 c6 c7
      have HTK := Lib.hid htk
      have HLL := Lib.hid hll
      clear hr htk hll
      have SK := Lib.hid (show ∀ W, Kept wr W → (fun w' => w'.cell? ⟨w.heap.size + 1 + 1, 0, none⟩ = some (.slice q j cq) ∧ w'.cell? ⟨w.heap.size, 0, none⟩ = some (.slice (some ⟨kb, off, none⟩) l.length c) ∧ w'.cell? ⟨kb, off + j * 8, none⟩ = some (.int .i64 xn) ∧ w'.cell? ⟨kb, off + j * 8 + 1, none⟩ = some (.int .i64 xg) ∧ w'.cell? ⟨kb, off + j * 8 + 2, none⟩ = some (.int .i64 xo.k) ∧ w'.cell? ⟨kb, off + j * 8 + 3, none⟩ = some (.int .i64 xo.n) ∧ w'.cell? ⟨kb, off + j * 8 + 4, none⟩ = some (.int .i64 xo.f) ∧ w'.cell? ⟨kb, off + j * 8 + 5, none⟩ = some (.string xo.s) ∧ w'.cell? ⟨kb, off + j * 8 + 6, none⟩ = some (.slice hp xo.l.length hc) ∧ w'.cell? ⟨kb, off + j * 8 + 7, none⟩ = some (.slice hq xo.d.length he)) W from fun W k => ⟨(k.cells.1 _ _ oz).trans o0, (k.cells.1 _ _ fz).trans f0, (k.cells.1 _ _ hkb).trans c0, (k.cells.1 _ _ hkb).trans c1, (k.cells.1 _ _ hkb).trans c2, (k.cells.1 _ _ hkb).trans c3, (k.cells.1 _ _ hkb).trans c4, (k.cells.1 _ _ hkb).trans c5, (k.cells.1 _ _ hkb).trans c6, (k.cells.1 _ _ hkb).trans c7⟩)
      have KA := Lib.hid (show Kept wr ((wr.drew).alloc (.cells #[.int .i64 xn, .int .i64 xg, .int .i64 xo.k, .int .i64 xo.n, .int .i64 xo.f, .string xo.s, .slice hp xo.l.length hc, .slice hq xo.d.length he] 57)) from ((Kept.refl wr).drew).allocO _)
      have OA := Lib.hid (show OwnN 57 ((wr.drew).alloc (.cells #[.int .i64 xn, .int .i64 xg, .int .i64 xo.k, .int .i64 xo.n, .int .i64 xo.f, .string xo.s, .slice hp xo.l.length hc, .slice hq xo.d.length he] 57)) (w.heap.size + 1 + 1 + 1) (.slice q j cq) (rs.take j) from HO.out.kept KA.out)
      have BA := Lib.hid (show Blk ((wr.drew).alloc (.cells #[.int .i64 xn, .int .i64 xg, .int .i64 xo.k, .int .i64 xo.n, .int .i64 xo.f, .string xo.s, .slice hp xo.l.length hc, .slice hq xo.d.length he] 57)) wr.heap.size (cells8 ⟨xn, xg, xo⟩ ⟨hp, hc, hq, he⟩).toArray 57 from Blk.fresh wr.drew _ _)
      have hsA : w.heap.size + 1 + 1 + 1 ≤ ((wr.drew).alloc (.cells #[.int .i64 xn, .int .i64 xg, .int .i64 xo.k, .int .i64 xo.n, .int .i64 xo.f, .string xo.s, .slice hp xo.l.length hc, .slice hq xo.d.length he] 57)).heap.size := by have := KA.out.size; omega
      have hlb : (rs.take j).length ≤ 1099511627776 := by rw [HLL.out]; omega
      have OL := Lib.hid (HO.out.lt)
      have GS := Lib.hid (show ∀ w5, ((wr.drew).alloc (.cells #[.int .i64 xn, .int .i64 xg, .int .i64 xo.k, .int .i64 xo.n, .int .i64 xo.f, .string xo.s, .slice hp xo.l.length hc, .slice hq xo.d.length he] 57)).grownBy w5 (Value.ownBlock (.slice q j cq)) → ∀ b, b < w.heap.size + 1 + 1 + 1 → w5.heap[b]? = wr.heap[b]? from fun w5 g b hb =>
        (g.block b (by omega) (fun e => by have := (OL.out b e.symm).1; omega)).trans (KA.out.block b (by omega)))
      clear o1 o2 o3 o4 o5 o6 f1 f2 f3 f4 f5 f6 c0 c1 c2 c3 c4 c5 c6 c7
      go_upto_region 5 with fail
      refine wp_region_until (S := (fun w' => w'.cell? ⟨w.heap.size + 1 + 1, 0, none⟩ = some (.slice q j cq) ∧ w'.cell? ⟨w.heap.size, 0, none⟩ = some (.slice (some ⟨kb, off, none⟩) l.length c) ∧ w'.cell? ⟨kb, off + j * 8, none⟩ = some (.int .i64 xn) ∧ w'.cell? ⟨kb, off + j * 8 + 1, none⟩ = some (.int .i64 xg) ∧ w'.cell? ⟨kb, off + j * 8 + 2, none⟩ = some (.int .i64 xo.k) ∧ w'.cell? ⟨kb, off + j * 8 + 3, none⟩ = some (.int .i64 xo.n) ∧ w'.cell? ⟨kb, off + j * 8 + 4, none⟩ = some (.int .i64 xo.f) ∧ w'.cell? ⟨kb, off + j * 8 + 5, none⟩ = some (.string xo.s) ∧ w'.cell? ⟨kb, off + j * 8 + 6, none⟩ = some (.slice hp xo.l.length hc) ∧ w'.cell? ⟨kb, off + j * 8 + 7, none⟩ = some (.slice hq xo.d.length he))) 24 (by kernel_rfl) ?_ (fun hHeld => ?_)
      · exact SK.out _ (Kept.refl wr).drew
      refine wpAnyU_take (i := 0) (oi := ⟨some 15, _, _, _, _, _⟩) (v := ?_) [1, 22, 24] rfl (by kernel_rfl) (by kernel_rfl) (by kernel_rfl) (by kernel_rfl) (fun _ _ _ h => h) (Or.inl ⟨by rfl, ?_⟩) (by assumption) ?_
      rotate_left 1
      · (intro w hSw; (try dsimp only at hSw); go_simp <;> with_reducible rfl)
      try simp only [Act.put, List.setIfInBounds_toArray, List.set_cons_zero, List.set_cons_succ]
      refine wpAnyU_take (i := 1) (oi := ⟨some 16, _, _, _, _, _⟩) (v := ?_) [22, 24] rfl (by kernel_rfl) (by kernel_rfl) (by kernel_rfl) (by kernel_rfl) (fun _ _ _ h => h) (Or.inl ⟨by rfl, ?_⟩) (by assumption) ?_
      rotate_left 1
      · (intro w hSw; (try dsimp only at hSw); go_simp <;> with_reducible rfl)
      try simp only [Act.put, List.setIfInBounds_toArray, List.set_cons_zero, List.set_cons_succ]
      refine wpAnyU_take (i := 2) (oi := ⟨some 17, _, _, _, _, _⟩) (v := ?_) [3, 5, 6, 7, 20, 21, 22, 24] rfl (by kernel_rfl) (by kernel_rfl) (by kernel_rfl) (by kernel_rfl) (fun _ _ _ h => h) (Or.inl ⟨by rfl, ?_⟩) (by assumption) ?_
      rotate_left 1
      · (intro w hSw; (try dsimp only at hSw); go_simp <;> with_reducible rfl)
      try simp only [Act.put, List.setIfInBounds_toArray, List.set_cons_zero, List.set_cons_succ]
      refine wpAnyU_take (i := 3) (oi := ⟨some 18, _, _, _, _, _⟩) (v := ?_) [5, 6, 7, 20, 21, 22, 24] rfl (by kernel_rfl) (by kernel_rfl) (by kernel_rfl) (by kernel_rfl) (fun _ _ _ h => h) (Or.inl ⟨by rfl, ?_⟩) (by assumption) ?_
      rotate_left 1
      · (intro w hSw; (try dsimp only at hSw); go_simp <;> with_reducible rfl)
      try simp only [Act.put, List.setIfInBounds_toArray, List.set_cons_zero, List.set_cons_succ]
      refine wpAnyU_take (i := 4) (oi := ⟨some 19, _, _, _, _, _⟩) (v := ?_) [5, 6, 7, 20, 21, 22, 24] rfl (by kernel_rfl) (by kernel_rfl) (by kernel_rfl) (by kernel_rfl) (fun _ _ _ h => h) (Or.inl ⟨by rfl, ?_⟩) (by assumption) ?_
      rotate_left 1
      · (intro w hSw; (try dsimp only at hSw); go_simp <;> with_reducible rfl)
      try simp only [Act.put, List.setIfInBounds_toArray, List.set_cons_zero, List.set_cons_succ]
      refine wpAnyU_take (i := 5) (oi := ⟨some 20, _, _, _, _, _⟩) (v := ?_) [6, 7, 20, 21, 22, 24] rfl (by kernel_rfl) (by kernel_rfl) (by kernel_rfl) (by kernel_rfl) (fun _ _ _ h => h) (Or.inl ⟨by rfl, ?_⟩) (by assumption) ?_
      rotate_left 1
      · (intro w hSw; (try dsimp only at hSw); go_simp <;> with_reducible rfl)
      try simp only [Act.put, List.setIfInBounds_toArray, List.set_cons_zero, List.set_cons_succ]
      refine wpAnyU_take (i := 6) (oi := ⟨some 21, _, _, _, _, _⟩) (v := ?_) [7, 20, 21, 22, 24] rfl (by kernel_rfl) (by kernel_rfl) (by kernel_rfl) (by kernel_rfl) (fun _ _ _ h => h) (Or.inl ⟨by rfl, ?_⟩) (by assumption) ?_
      rotate_left 1
      · (intro w hSw; (try dsimp only at hSw); go_simp <;> with_reducible rfl)
      try simp only [Act.put, List.setIfInBounds_toArray, List.set_cons_zero, List.set_cons_succ]
      refine wpAnyU_take (i := 7) (oi := ⟨some 22, _, _, _, _, _⟩) (v := ?_) [20, 21, 22, 24] rfl (by kernel_rfl) (by kernel_rfl) (by kernel_rfl) (by kernel_rfl) (fun _ _ _ h => h) (Or.inl ⟨by rfl, ?_⟩) (by assumption) ?_
      rotate_left 1
      · (intro w hSw; (try dsimp only at hSw); go_simp <;> with_reducible rfl)
      try simp only [Act.put, List.setIfInBounds_toArray, List.set_cons_zero, List.set_cons_succ]
      refine wpAnyU_take (i := 8) (oi := ⟨some 23, _, _, _, _, _⟩) (v := ?_) [9, 11, 12, 13, 20, 21, 22, 24] rfl (by kernel_rfl) (by kernel_rfl) (by kernel_rfl) (by kernel_rfl) (fun _ _ _ h => h) (Or.inl ⟨by rfl, ?_⟩) (by assumption) ?_
      rotate_left 1
      · (intro w hSw; (try dsimp only at hSw); go_simp <;> with_reducible rfl)
      try simp only [Act.put, List.setIfInBounds_toArray, List.set_cons_zero, List.set_cons_succ]
      refine wpAnyU_take (i := 9) (oi := ⟨some 24, _, _, _, _, _⟩) (v := ?_) [11, 12, 13, 20, 21, 22, 24] rfl (by kernel_rfl) (by kernel_rfl) (by kernel_rfl) (by kernel_rfl) (fun _ _ _ h => h) (Or.inl ⟨by rfl, ?_⟩) (by assumption) ?_
      rotate_left 1
      · (intro w hSw; (try dsimp only at hSw); go_simp <;> with_reducible rfl)
      try simp only [Act.put, List.setIfInBounds_toArray, List.set_cons_zero, List.set_cons_succ]
      refine wpAnyU_take (i := 10) (oi := ⟨some 25, _, _, _, _, _⟩) (v := ?_) [11, 12, 13, 20, 21, 22, 24] rfl (by kernel_rfl) (by kernel_rfl) (by kernel_rfl) (by kernel_rfl) (fun _ _ _ h => h) (Or.inl ⟨by rfl, ?_⟩) (by assumption) ?_
      rotate_left 1
      · (intro w hSw; (try dsimp only at hSw); go_simp <;> with_reducible rfl)
      try simp only [Act.put, List.setIfInBounds_toArray, List.set_cons_zero, List.set_cons_succ]
      refine wpAnyU_take (i := 11) (oi := ⟨some 26, _, _, _, _, _⟩) (v := ?_) [12, 13, 20, 21, 22, 24] rfl (by kernel_rfl) (by kernel_rfl) (by kernel_rfl) (by kernel_rfl) (fun _ _ _ h => h) (Or.inl ⟨by rfl, ?_⟩) (by assumption) ?_
      rotate_left 1
      · (intro w hSw; (try dsimp only at hSw); go_simp <;> with_reducible rfl)
      try simp only [Act.put, List.setIfInBounds_toArray, List.set_cons_zero, List.set_cons_succ]
      refine wpAnyU_take (i := 12) (oi := ⟨some 27, _, _, _, _, _⟩) (v := ?_) [13, 20, 21, 22, 24] rfl (by kernel_rfl) (by kernel_rfl) (by kernel_rfl) (by kernel_rfl) (fun _ _ _ h => h) (Or.inl ⟨by rfl, ?_⟩) (by assumption) ?_
      rotate_left 1
      · (intro w hSw; (try dsimp only at hSw); go_simp <;> with_reducible rfl)
      try simp only [Act.put, List.setIfInBounds_toArray, List.set_cons_zero, List.set_cons_succ]
      refine wpAnyU_take (i := 13) (oi := ⟨some 28, _, _, _, _, _⟩) (v := ?_) [20, 21, 22, 24] rfl (by kernel_rfl) (by kernel_rfl) (by kernel_rfl) (by kernel_rfl) (fun _ _ _ h => h) (Or.inl ⟨by rfl, ?_⟩) (by assumption) ?_
      rotate_left 1
      · (intro w hSw; (try dsimp only at hSw); go_simp <;> with_reducible rfl)
      try simp only [Act.put, List.setIfInBounds_toArray, List.set_cons_zero, List.set_cons_succ]
      refine wpAnyU_take (i := 14) (oi := ⟨some 29, _, _, _, _, _⟩) (v := ?_) [15, 17, 18, 19, 20, 21, 22, 24] rfl (by kernel_rfl) (by kernel_rfl) (by kernel_rfl) (by kernel_rfl) (fun _ _ _ h => h) (Or.inl ⟨by rfl, ?_⟩) (by assumption) ?_
      rotate_left 1
      · (intro w hSw; (try dsimp only at hSw); go_simp <;> with_reducible rfl)
      try simp only [Act.put, List.setIfInBounds_toArray, List.set_cons_zero, List.set_cons_succ]
      refine wpAnyU_take (i := 15) (oi := ⟨some 30, _, _, _, _, _⟩) (v := ?_) [17, 18, 19, 20, 21, 22, 24] rfl (by kernel_rfl) (by kernel_rfl) (by kernel_rfl) (by kernel_rfl) (fun _ _ _ h => h) (Or.inl ⟨by rfl, ?_⟩) (by assumption) ?_
      rotate_left 1
      · (intro w hSw; (try dsimp only at hSw); go_simp <;> with_reducible rfl)
      try simp only [Act.put, List.setIfInBounds_toArray, List.set_cons_zero, List.set_cons_succ]
      refine wpAnyU_take (i := 16) (oi := ⟨some 31, _, _, _, _, _⟩) (v := ?_) [17, 18, 19, 20, 21, 22, 24] rfl (by kernel_rfl) (by kernel_rfl) (by kernel_rfl) (by kernel_rfl) (fun _ _ _ h => h) (Or.inl ⟨by rfl, ?_⟩) (by assumption) ?_
      rotate_left 1
      · (intro w hSw; (try dsimp only at hSw); go_simp <;> with_reducible rfl)
      try simp only [Act.put, List.setIfInBounds_toArray, List.set_cons_zero, List.set_cons_succ]
      refine wpAnyU_take (i := 17) (oi := ⟨some 32, _, _, _, _, _⟩) (v := ?_) [18, 19, 20, 21, 22, 24] rfl (by kernel_rfl) (by kernel_rfl) (by kernel_rfl) (by kernel_rfl) (fun _ _ _ h => h) (Or.inl ⟨by rfl, ?_⟩) (by assumption) ?_
      rotate_left 1
      · (intro w hSw; (try dsimp only at hSw); go_simp <;> with_reducible rfl)
      try simp only [Act.put, List.setIfInBounds_toArray, List.set_cons_zero, List.set_cons_succ]
      refine wpAnyU_take (i := 18) (oi := ⟨some 33, _, _, _, _, _⟩) (v := ?_) [19, 20, 21, 22, 24] rfl (by kernel_rfl) (by kernel_rfl) (by kernel_rfl) (by kernel_rfl) (fun _ _ _ h => h) (Or.inl ⟨by rfl, ?_⟩) (by assumption) ?_
      rotate_left 1
      · (intro w hSw; (try dsimp only at hSw); go_simp <;> with_reducible rfl)
      try simp only [Act.put, List.setIfInBounds_toArray, List.set_cons_zero, List.set_cons_succ]
      refine wpAnyU_take (i := 19) (oi := ⟨some 34, _, _, _, _, _⟩) (v := ?_) [20, 21, 22, 24] rfl (by kernel_rfl) (by kernel_rfl) (by kernel_rfl) (by kernel_rfl) (fun _ _ _ h => h) (Or.inl ⟨by rfl, ?_⟩) (by assumption) ?_
      rotate_left 1
      · (intro w hSw; (try dsimp only at hSw); go_simp <;> with_reducible rfl)
      try simp only [Act.put, List.setIfInBounds_toArray, List.set_cons_zero, List.set_cons_succ]
      refine wpAnyU_take (i := 20) (oi := ⟨some 35, _, _, _, _, _⟩) (v := ?_) [21, 22, 24] rfl (by kernel_rfl) (by kernel_rfl) (by kernel_rfl) (by kernel_rfl) (fun _ _ _ h => h) (Or.inl ⟨by rfl, ?_⟩) (by assumption) ?_
      rotate_left 1
      · (intro w hSw; (try dsimp only at hSw); go_simp <;> with_reducible rfl)
      try simp only [Act.put, List.setIfInBounds_toArray, List.set_cons_zero, List.set_cons_succ]
      refine wpAnyU_ready (rs := [21]) (by kernel_rfl) (by simp) ?_
      refine AllReadyU.cons (o := ⟨some 36, _, _, _, _, _⟩) rfl (fun K hK => ?_) AllReadyU.nil
      go_simp
      refine hK.out _ _ ?_ (fun hHeld => ?_)
      · exact SK.out _ KA.out
      clear hK K
      try simp only [Act.put, List.setIfInBounds_toArray, List.set_cons_zero, List.set_cons_succ]
      refine wpAnyU_ready (rs := [22]) (by kernel_rfl) (by simp) ?_
      refine AllReadyU.cons (o := ⟨some 37, _, _, _, _, _⟩) rfl (fun K hK => ?_) AllReadyU.nil
      refine step_app_new 57 34 Tryz.underlying34 (by kernel_rfl) (by rfl) _ _ (by rfl) (w.heap.size + 1 + 1 + 1) (.slice q j cq) (rs.take j) (by rfl) OA.out (⟨xn, xg, xo⟩, ⟨hp, hc, hq, he⟩) wr.heap.size BA.out (by rfl) hsA hlb ?_
      intro g5 cap5 w5 hown5 hg5 hlt5
      have GG := Lib.hid (GS.out w5 hg5)
      have O5 := Lib.hid hown5
      have K5 := Lib.hid (show Kept w w5 from Below.grown (KI.out.trans KA.out) hg5 (by omega) (fun y hy => by have := (OL.out y hy).1; omega))
      have B5 := Lib.hid (show In w [(w.heap.size + 1 + 1, #[.slice q j cq, .int .i64 t.k, .int .i64 t.n, .int .i64 t.f, .string t.s, .slice ht.p t.l.length ht.c, .slice ht.q t.d.length ht.e], 41), (w.heap.size + 1, #[.slice none 0 0, .int .i64 0, .int .i64 0, .int .i64 0, .string ⟨#[]⟩, .slice none 0 0, .slice none 0 0], 41), (w.heap.size, #[.slice (some ⟨kb, off, none⟩) l.length c, .int .i64 t.k, .int .i64 t.n, .int .i64 t.f, .string t.s, .slice ht.p t.l.length ht.c, .slice ht.q t.d.length ht.e], 46)] w5 from ⟨K5.out, fun x hx => by
        have hB := HI.out.2 x hx
        have hxl : x.1 < w.heap.size + 1 + 1 + 1 := by
          simp only [List.mem_cons, List.not_mem_nil, or_false] at hx
          rcases hx with rfl | rfl | rfl <;> simp only [] <;> omega
        exact (GG.out x.1 hxl).trans hB⟩)
      obtain ⟨p0, p1, p2, p3, p4, p5, p6⟩ := (B5.out.mem List.mem_cons_self).cells7
      have pf := (B5.out.mem List.mem_cons_self).free
      have pz := (B5.out.mem List.mem_cons_self).lt
      refine hK.out _ _ ?_ (fun hHeld => ?_)
      · have hgc : ∀ b o', b < w.heap.size + 1 + 1 + 1 → w5.cell? ⟨b, o', none⟩ = wr.cell? ⟨b, o', none⟩ := fun b o' hb => World.cell?_of_block (GG.out b hb)
        have S0 := SK.out wr (Kept.refl wr)
        simp only [] at S0
        obtain ⟨s0, s1, s2, s3, s4, s5, s6, s7, s8, s9⟩ := S0
        exact ⟨(hgc _ _ (by omega)).trans s0, (hgc _ _ (by omega)).trans s1, (hgc _ _ (by omega)).trans s2, (hgc _ _ (by omega)).trans s3, (hgc _ _ (by omega)).trans s4, (hgc _ _ (by omega)).trans s5, (hgc _ _ (by omega)).trans s6, (hgc _ _ (by omega)).trans s7, (hgc _ _ (by omega)).trans s8, (hgc _ _ (by omega)).trans s9⟩
      clear hK K hown5 hg5
      try simp only [Act.put, List.setIfInBounds_toArray, List.set_cons_zero, List.set_cons_succ]
      refine wpAnyU_take (i := 23) (oi := ⟨some 38, _, _, _, _, _⟩) (v := ?_) [24] rfl (by kernel_rfl) (by kernel_rfl) (by kernel_rfl) (by kernel_rfl) (fun _ _ _ h => h) (Or.inl ⟨by rfl, ?_⟩) (by assumption) ?_
      rotate_left 1
      · (intro w hSw; (try dsimp only at hSw); go_simp <;> with_reducible rfl)
      try simp only [Act.put, List.setIfInBounds_toArray, List.set_cons_zero, List.set_cons_succ]
      refine wpAnyU_ready (rs := [24]) (by kernel_rfl) (by simp) ?_
      refine AllReadyU.last (o := ⟨none, _, _, _, _, _⟩) rfl (fun K hK => ?_) AllReadyU.nil
      go_simp
      refine hK.out _ _ ?_
      clear hK K hHeld
      try simp only [Act.put, List.setIfInBounds_toArray, List.set_cons_zero, List.set_cons_succ]
      refine wpAnyU_done (by kernel_rfl) ?_ _
      rw [HLL.out] at O5
      rw [← HTK.out] at O5
      try simp only [HLL.out]
      go_wp2_with fail
      go_roundg (l.length - (j + 1))
      case measure => omega
      case rel =>
        refine ⟨j + 1, some ⟨g5, 0, none⟩, cap5, rfl, by omega, by go_num, ?_, Lib.hid ?_⟩
        · have hn : ∀ x ∈ [(w.heap.size + 1, (#[.slice none 0 0, .int .i64 0, .int .i64 0, .int .i64 0, .string ⟨#[]⟩, .slice none 0 0, .slice none 0 0] : Array Value), 41), (w.heap.size, #[.slice (some ⟨kb, off, none⟩) l.length c, .int .i64 t.k, .int .i64 t.n, .int .i64 t.f, .string t.s, .slice ht.p t.l.length ht.c, .slice ht.q t.d.length ht.e], 46)], x.1 ≠ w.heap.size + 1 + 1 := fun x hx => by
            simp only [List.mem_cons, List.not_mem_nil, or_false] at hx
            rcases hx with rfl | rfl <;> simp only [] <;> omega
          have hb5 := (B5.out.mem List.mem_cons_self).set 0 (.slice (some ⟨g5, 0, none⟩) (j + 1) cap5)
          exact In.cons (In.other (In.tail B5.out) (by omega) hn _) (by simpa using hb5)
        · exact OwnN.gb O5.out (r := some (w.heap.size + 1 + 1)) (gb_own (gb_refl _ _) _ _) (.inr (fun e => by have := (O5.out.lt _ e).1; omega))
    · obtain rfl : j = l.length := by omega
      have HNM := Lib.hid (show NmR (fun b => b ≠ w.heap.size + 1) wr q l from by
        have o2 := HO.out
        rw [List.take_of_length_le (by omega)] at o2
        have o3 : OwnN 57 wr (w.heap.size + 1 + 1 + 1) (.slice q rs.length cq) rs := by rw [hLen]; exact o2
        have := o3.row.nmR (P := fun b => b ≠ w.heap.size + 1) (fun b off e => by subst e; have := (o3.lt b rfl).1; omega) (fun r hr => (HLI.out r hr).keep fun b _ hlt => ⟨by omega, KI.out.below.block b hlt⟩) (by unfold maxLen; omega)
        rwa [HRS.out] at this)
      have HQN := Lib.hid (show q = none → cq = 0 from by
        obtain ⟨p9, c9, e9, h9, -⟩ := HO.out.shape
        injection e9 with e1 _ e3
        subst e1 e3
        exact h9)
      obtain ⟨u0, u1, u2, u3, u4, u5, u6⟩ := RM.out.cells7
      have uf := RM.out.free
      have uz := RM.out.lt
      go_wp2_with fail
      refine bodyPost_ret (v := .agg #[.slice q l.length cq, .int .i64 t.k, .int .i64 t.n, .int .i64 t.f, .string t.s, .slice ht.p t.l.length ht.c, .slice ht.q t.d.length ht.e]) ?_ rfl ⟨q, cq, rfl, ?_, ?_, HQN.out⟩
      · simp [results, Tryz.results21, go_sem, u0, u1, u2, u3, u4, u5, u6]
      · repeat (with_reducible first | exact KI.out | refine Kept.drew ?_ | refine Kept.set ?_ (by omega) _)
      · refine NmR.weak (P := fun b => b ≠ w.heap.size + 1) ?_ (fun _ _ => trivial)
        refine HNM.out.gb (r := some (w.heap.size + 1)) ?_ (fun b hb e => hb (Option.some.inj e))
        repeat (with_reducible first | exact gb_refl _ _ | refine gb_drew ?_ | refine gb_own ?_ _ _)

end Go.Proofs.YtoablpaehhjchaaGreatDoor
