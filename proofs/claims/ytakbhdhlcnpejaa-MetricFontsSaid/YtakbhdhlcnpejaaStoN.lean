/-
  A region that draws its order, and whose last operation writes a cell that the region reads: a condition that holds until then. Nothing of the program is named here.
  Numbered objects that a call copies into an array of its own: what lay elsewhere stays there.
-/
import Derived.Deep.RegionHeld
import Derived.StillTail
import Derived.Test.YtakbhdhlcnpejaaStoRow
import Derived.Deep.Slices
import Derived.Deep.LoopGhost
import Derived.Deep.QuietTactic
import Derived.Deep.RegionLaw
import Derived.Deep.RegionHeld3
namespace Go.Proofs.Ytakbhdhlcnpejaa
open Go
set_option linter.unusedSimpArgs false
set_option linter.unusedVariables false

section
variable {P : Program} {ops : Array Oper} {Q : Exit → Act → World → Prop} {md : Region.Mode} {S : World → Prop} {k : Nat}

/-- Each of a path waits for the one before it. -/
def pathB (md : Region.Mode) (ops : Array Oper) : Nat → List Nat → Bool
  | _, [] => true
  | i, j :: r => Region.waitsFor md ops j i && pathB md ops j r
theorem not_on_path {listed : Array Bool} {j : Nat} (hj : j ∈ Region.ready md ops listed) : ∀ (path : List Nat) (i : Nat), pathB md ops i path = true → listed.getD i true = false → (∀ x ∈ path, listed.getD x true = false) → j ∉ path
  | [], _, _, _, _ => List.not_mem_nil
  | p :: r, i, hp, hi, hx => by
    rw [pathB, Bool.and_eq_true] at hp
    intro hm
    rcases List.mem_cons.1 hm with rfl | hm
    · obtain ⟨oj, hoj, e, he, hb, hon⟩ := Region.waitsFor_spec hp.1
      obtain ⟨-, o2, ho2, hall⟩ := mem_ready.1 hj
      obtain rfl : oj = o2 := Option.some.inj (hoj.symm.trans ho2)
      have h1 := hall e he hb
      rw [hon, getD_both hi] at h1
      cases h1
    · exact not_on_path hj r p hp.2 (hx p List.mem_cons_self) (fun x h => hx x (List.mem_cons_of_mem _ h)) hm

/-- Whatever order is picked from here on, and S holds behind every operation but the k-th. -/
def wpAnyU (P : Program) (md : Region.Mode) (ops : Array Oper) (Q : Exit → Act → World → Prop) (S : World → Prop) (k : Nat) : Nat → Array Bool → Act → World → Prop
  | 0, listed, a, w => Region.ready md ops listed = [] ∧ Q .normal a w
  | fuel + 1, listed, a, w =>
    (Region.ready md ops listed = [] → Q .normal a w) ∧
    ∀ i ∈ Region.ready md ops listed, wpOp P ops Q i (fun a' w' => (i ≠ k → S w') ∧ wpAnyU P md ops Q S k fuel (listed.setIfInBounds i true) a' w') a w
theorem wpAny_of_until : ∀ (fuel : Nat) (listed : Array Bool) (a : Act) (w : World), wpAnyU P md ops Q S k fuel listed a w → wpAny P md ops Q fuel listed a w
  | 0, _, _, _, h => h
  | fuel + 1, _, _, _, h => ⟨h.1, fun i hi => wpOp_mono (fun a' w' h' => wpAny_of_until fuel _ a' w' h'.2) (h.2 i hi)⟩

theorem wpAnyU_first {i : Nat} {oi : Oper} {v : Value} {path : List Nat} (hi : ops[i]? = some oi) (hsel : ∀ (j : Nat) (o : Oper) cs b, ops[j]? = some o → o.op ≠ .select cs b)
    (hQ : ∀ c a w, Q (.panic c) (a.put oi.dst v) w → Q (.panic c) a w) (hp : pathB md ops i path = true) (hk : k ∈ path) :
    ∀ (fuel : Nat) (listed : Array Bool) (a : Act) (w : World),
      (∀ j oj, ops[j]? = some oj → j ≠ i → listed.getD j true = false → (∀ e ∈ oj.after, Region.binds md e = true → e.on ≠ i) → oi.apart ops oj = true) →
      i ∈ Region.ready md ops listed → (∀ x ∈ path, listed.getD x true = false) → YieldsIf P ops S oi v a → S w →
      wpAnyU P md ops Q S k fuel (listed.setIfInBounds i true) (a.put oi.dst v) w → wpAnyU P md ops Q S k (fuel + 1) listed a w := by
  intro fuel
  induction fuel with
  | zero =>
    intro listed a w _ hr _ hy hS H
    refine ⟨fun h => (by rw [h] at hr; cases hr), fun j hj => ?_⟩
    by_cases hji : j = i
    · subst hji; exact hy.wpOp hi hS ⟨fun _ => hS, H⟩
    · have := ready_mono hj hji
      rw [H.1] at this
      cases this
  | succ fuel ih =>
    intro listed a w hfree hr hx hy hS H
    refine ⟨fun h => (by rw [h] at hr; cases hr), fun j hj => ?_⟩
    by_cases hji : j = i
    · subst hji; exact hy.wpOp hi hS ⟨fun _ => hS, H⟩
    · have h1 := H.2 j (ready_mono hj hji)
      have hnp := not_on_path hj path i hp (mem_ready.1 hr).1 hx
      have hjk : j ≠ k := fun e => hnp (e ▸ hk)
      obtain ⟨hjun, oj, hoj, hall⟩ := mem_ready.1 hj
      have hnot : ∀ e ∈ oj.after, Region.binds md e = true → e.on ≠ i := fun e he hb heq => by
        have h1 := hall e he hb
        have h0 := (mem_ready.1 hr).1
        rw [heq] at h1
        rw [getD_both h0] at h1
        cases h1
      have h2 := wpOp_putIf hoj (hfree j oj hoj hji hjun hnot) (fun cs b => hsel i oi cs b hi) (fun cs b => hsel j oj cs b hoj) hQ hy h1
      have hfree' : ∀ k ok, ops[k]? = some ok → k ≠ i → (listed.setIfInBounds j true).getD k true = false →
          (∀ e ∈ ok.after, Region.binds md e = true → e.on ≠ i) → oi.apart ops ok = true := fun k ok hk hki hun hno => by
        refine hfree k ok hk hki ?_ hno
        by_cases hjk : j = k
        · subst hjk; exact hjun
        · rw [getD_set_ne true hjk] at hun; exact hun
      refine wpOp_mono (fun a' w' h3 => ⟨h3.2.1, ih (listed.setIfInBounds j true) a' w' hfree' (ready_mono hr (Ne.symm hji)) (fun x hxp => ?_) h3.1 (h3.2.1 hjk) ?_⟩) h2
      · rw [getD_set_ne true (fun e => hnp (by rw [e]; exact hxp))]; exact hx x hxp
      · rw [Array.setIfInBounds_comm _ _ hji]
        exact h3.2.2

/-- Take number i first. -/
theorem wpAnyU_take {i : Nat} {oi : Oper} {v : Value} (path : List Nat) {fuel : Nat} {listed : Array Bool} {a : Act} {w : World} (hi : ops[i]? = some oi)
    (hs : Region.noSelect ops = true) (hf : Region.free md ops listed i = true) (hr : (Region.ready md ops listed).contains i = true) (hp : (pathB md ops i path && path.contains k && path.all fun x => !listed.getD x true) = true)
    (hQ : ∀ c a w, Q (.panic c) (a.put oi.dst v) w → Q (.panic c) a w) (hy : YieldsIf P ops S oi v a) (hS : S w)
    (h : wpAnyU P md ops Q S k fuel (listed.setIfInBounds i true) (a.put oi.dst v) w) : wpAnyU P md ops Q S k (fuel + 1) listed a w := by
  simp only [Bool.and_eq_true, List.all_eq_true, Bool.not_eq_true'] at hp
  exact wpAnyU_first hi (Region.noSelect_spec hs) hQ hp.1.1 (by simpa using hp.1.2) fuel listed a w (Region.free_spec hi hf) (by simpa using hr) hp.2 hy hS h

def AllReadyU (P : Program) (md : Region.Mode) (ops : Array Oper) (Q : Exit → Act → World → Prop) (S : World → Prop) (k fuel : Nat) (listed : Array Bool) (a : Act) (w : World) (rs : List Nat) : Prop :=
  ∀ i ∈ rs, wpOp P ops Q i (fun a' w' => (i ≠ k → S w') ∧ wpAnyU P md ops Q S k fuel (listed.setIfInBounds i true) a' w') a w
theorem AllReadyU.nil {fuel : Nat} {listed : Array Bool} {a : Act} {w : World} : AllReadyU P md ops Q S k fuel listed a w [] := fun _ h => by cases h
/-- An operation that is carried out, behind which S is shown. -/
theorem AllReadyU.cons {fuel : Nat} {listed : Array Bool} {a : Act} {w : World} {i : Nat} {o : Oper} {rs : List Nat} (ho : ops[i]? = some o)
    (h : ∀ K' : Act → World → Prop, Shut (∀ a w, S w → (S w → wpAnyU P md ops Q S k fuel (listed.setIfInBounds i true) a w) → K' a w) → if Region.wanted o (yielded ops a.tmps) = true then Oper.wp P o a w K' Q else K' (a.put o.dst undef) w)
    (hs : AllReadyU P md ops Q S k fuel listed a w rs) : AllReadyU P md ops Q S k fuel listed a w (i :: rs) := fun j hj => by
  rcases List.mem_cons.1 hj with rfl | hj
  · exact wpOp_step ho (fun K' hK => h K' (fun a w hS hW => hK a w ⟨fun _ => hS, hW hS⟩))
  · exact hs j hj
/-- The k-th. -/
theorem AllReadyU.last {fuel : Nat} {listed : Array Bool} {a : Act} {w : World} {o : Oper} {rs : List Nat} (ho : ops[k]? = some o)
    (h : ∀ K' : Act → World → Prop, Shut (∀ a w, wpAnyU P md ops Q S k fuel (listed.setIfInBounds k true) a w → K' a w) → if Region.wanted o (yielded ops a.tmps) = true then Oper.wp P o a w K' Q else K' (a.put o.dst undef) w)
    (hs : AllReadyU P md ops Q S k fuel listed a w rs) : AllReadyU P md ops Q S k fuel listed a w (k :: rs) := fun j hj => by
  rcases List.mem_cons.1 hj with rfl | hj
  · exact wpOp_step ho (fun K' hK => h K' (fun a w hW => hK a w ⟨fun e => absurd rfl e, hW⟩))
  · exact hs j hj
theorem wpAnyU_ready {rs : List Nat} {fuel : Nat} {listed : Array Bool} {a : Act} {w : World} (hr : Region.ready md ops listed = rs) (hne : rs ≠ [])
    (h : AllReadyU P md ops Q S k fuel listed a w rs) : wpAnyU P md ops Q S k (fuel + 1) listed a w := ⟨fun h0 => absurd (hr ▸ h0) hne, hr ▸ h⟩
theorem wpAnyU_done {listed : Array Bool} {a : Act} {w : World} (hr : Region.ready md ops listed = []) (h : Q .normal a w) :
    ∀ fuel, wpAnyU P md ops Q S k fuel listed a w
  | 0 => ⟨hr, h⟩
  | _ + 1 => ⟨fun _ => h, by rw [hr]; simp⟩
theorem wp_region_until (k : Nat) {id : Nat} {a : Act} {w : World} (hm : P.follows .mixedOrders = true) (hS : S w.drew)
    (h : S w.drew → wpAnyU P .any ops Q S k ops.size (Array.replicate ops.size false) a w.drew) : (Code.region id ops true).wp P Q a w :=
  wp_region_any hm (wpAny_of_until _ _ _ _ (h hS))
end

end Go.Proofs.Ytakbhdhlcnpejaa

namespace Go.Proofs.Ytakbhdhlcnpejaa
open Go.RowKit Cx Sx
set_option linter.unusedSimpArgs false
set_option linter.unusedVariables false

abbrev NRow := List (Nm × Hd)
/-- Such rows, flat. -/
def flatN (rs : NRow) : List Value := rs.flatMap fun r => cells8 r.1 r.2
theorem flatN_len (rs : NRow) : (flatN rs).length = rs.length * 8 := flat_len _ 8 (fun _ => rfl) rs
theorem flatN_snoc (rs : NRow) (r : Nm × Hd) : flatN (rs ++ [r]) = flatN rs ++ cells8 r.1 r.2 := by
  unfold flatN; rw [List.flatMap_append]; simp
theorem flatN_get (rs : NRow) (i q : Nat) (hi : i < rs.length) (hq : q < 8) : (flatN rs)[i * 8 + q]? = (cells8 rs[i].1 rs[i].2)[q]? :=
  flat_get (fun r : Nm × Hd => cells8 r.1 r.2) 8 (fun _ => rfl) rs i q hi hq
/-- Where such rows' cells lie. -/
def NmK (w : World) (p : Option Addr) (rs : NRow) : Prop :=
  ∀ i (hi : i < rs.length), ∃ b off, p = some ⟨b, off, none⟩ ∧ b < w.heap.size ∧ ∀ q v, (cells8 rs[i].1 rs[i].2)[q]? = some v → w.cell? ⟨b, off + i * 8 + q, none⟩ = some v
theorem NmR.rows {P : Nat → Prop} {w : World} {p : Option Addr} {l : List Nm} (h : NmR P w p l) :
    ∃ rs : NRow, rs.map (·.1) = l ∧ NmK w p rs ∧ ∀ r ∈ rs, Lies (Cel P w) r.1.o r.2 := by
  have one : ∀ i, i < l.length → ∃ hd : Hd, ∃ hi : i < l.length, ∃ b off, p = some ⟨b, off, none⟩ ∧ b < w.heap.size ∧ Lies (Cel P w) l[i].o hd ∧ ∀ q v, (cells8 l[i] hd)[q]? = some v → w.cell? ⟨b, off + i * 8 + q, none⟩ = some v := fun i hi => by
    obtain ⟨b, off, hd, hp, -, hlt, hl, c0, c1, c2, c3, c4, c5, c6, c7⟩ := h.at' i hi
    refine ⟨hd, hi, b, off, hp, hlt, hl, fun q v hv => ?_⟩
    have hq : q < 8 := by
      rcases Nat.lt_or_ge q 8 with h | h
      · exact h
      · rw [List.getElem?_eq_none (show (cells8 l[i] hd).length ≤ q from h)] at hv; cases hv
    rcases (show q = 0 ∨ q = 1 ∨ q = 2 ∨ q = 3 ∨ q = 4 ∨ q = 5 ∨ q = 6 ∨ q = 7 by omega) with rfl | rfl | rfl | rfl | rfl | rfl | rfl | rfl
    all_goals (obtain rfl := Option.some.inj hv; assumption)
  haveI : Inhabited Hd := ⟨Hd.none⟩
  obtain ⟨F, hF⟩ := Go.Deep.choose_lt (α := Hd) one
  have hlen : (l.zip ((List.range l.length).map F)).length = l.length := by simp
  have hget : ∀ i (hi : i < (l.zip ((List.range l.length).map F)).length), (l.zip ((List.range l.length).map F))[i] = (l[i]'(by omega), F i) := fun i hi => by simp
  refine ⟨l.zip ((List.range l.length).map F), List.map_fst_zip (by simp), fun i hi => ?_, fun r hr => ?_⟩
  · obtain ⟨_, b, off, hp, hlt, _, hc⟩ := hF i (by omega)
    rw [hget i hi]
    exact ⟨b, off, hp, hlt, hc⟩
  · obtain ⟨i, hi, rfl⟩ := List.mem_iff_getElem.1 hr
    obtain ⟨_, b, off, hp, hlt, hl, _⟩ := hF i (by omega)
    rw [hget i hi]
    exact hl
theorem NmK.kept {w w' : World} {p : Option Addr} {rs : NRow} (h : NmK w p rs) (k : Kept w w') : NmK w' p rs := fun i hi => by
  obtain ⟨b, off, hp, hlt, hc⟩ := h i hi
  exact ⟨b, off, hp, by have := Below.size k; omega, fun q v hv => by rw [(k.cells).1 b _ hlt]; exact hc q v hv⟩
theorem NmK.cells {w : World} {p : Option Addr} {rs : NRow} (h : NmK w p rs) (i : Nat) (hi : i < rs.length) : ∃ b off, p = some ⟨b, off, none⟩ ∧ b < w.heap.size ∧
    w.cell? ⟨b, off + i * 8, none⟩ = some (.int .i64 rs[i].1.n) ∧ w.cell? ⟨b, off + i * 8 + 1, none⟩ = some (.int .i64 rs[i].1.g) ∧
    w.cell? ⟨b, off + i * 8 + 2, none⟩ = some (.int .i64 rs[i].1.o.k) ∧ w.cell? ⟨b, off + i * 8 + 3, none⟩ = some (.int .i64 rs[i].1.o.n) ∧ w.cell? ⟨b, off + i * 8 + 4, none⟩ = some (.int .i64 rs[i].1.o.f) ∧
    w.cell? ⟨b, off + i * 8 + 5, none⟩ = some (.string rs[i].1.o.s) ∧ w.cell? ⟨b, off + i * 8 + 6, none⟩ = some (.slice rs[i].2.p rs[i].1.o.l.length rs[i].2.c) ∧ w.cell? ⟨b, off + i * 8 + 7, none⟩ = some (.slice rs[i].2.q rs[i].1.o.d.length rs[i].2.e) := by
  obtain ⟨b, off, hp, hlt, hc⟩ := h i hi
  exact ⟨b, off, hp, hlt, hc 0 _ rfl, hc 1 _ rfl, hc 2 _ rfl, hc 3 _ rfl, hc 4 _ rfl, hc 5 _ rfl, hc 6 _ rfl, hc 7 _ rfl⟩

/-- An own row of a type T. -/
def OwnN (T : TypeId) (w : World) (N : Nat) (v : Value) (rs : NRow) : Prop := w.ownsRow N T 8 v rs.length (flatN rs)
section
variable {T : TypeId} {w w' : World} {N : Nat} {v : Value} {rs : NRow}
theorem OwnN.nil (T : TypeId) (N : Nat) (w : World) : OwnN T w N (.slice none 0 0) [] := World.ownsRow_nil _ _ _ _
theorem OwnN.lt (h : OwnN T w N v rs) : ∀ k, v.ownBlock = some k → N ≤ k ∧ k < w.heap.size := World.ownsRow.lt h
theorem OwnN.gb (h : OwnN T w N v rs) {r : Option Nat} (g : w.grownBy w' r) (hne : v.ownBlock = none ∨ v.ownBlock ≠ r) : OwnN T w' N v rs := World.ownsRow.kept h g hne
theorem OwnN.kept (h : OwnN T w N v rs) (k : Kept w w') : OwnN T w' N v rs :=
  h.gb (gb_kept k none) (by cases hv : v.ownBlock with
    | none => exact .inl rfl
    | some g => exact .inr (by simp))
theorem OwnN.shape (h : OwnN T w N v rs) : ∃ p cap, v = .slice p rs.length cap ∧ (p = none → cap = 0) ∧ rs.length ≤ cap := by
  rcases h.2 with ⟨rfl, h0⟩ | ⟨g, cap, cur, rfl, _, _, hc, _⟩
  · exact ⟨none, 0, by rw [h0], fun _ => rfl, by omega⟩
  · exact ⟨_, _, rfl, (fun e => by cases e), hc⟩
theorem OwnN.row {p : Option Addr} {cap : Nat} (h : OwnN T w N (.slice p rs.length cap) rs) : NmK w p rs := fun i hi => by
  obtain ⟨g, cap', hv, hb⟩ : ∃ g cap', (Value.slice p rs.length cap) = .slice (some ⟨g, 0, none⟩) rs.length cap' ∧ N ≤ g := by
    rcases h.2 with ⟨_, h0⟩ | ⟨g, cap', cur, hv, hb, _⟩
    · omega
    · exact ⟨g, cap', hv, hb⟩
  obtain ⟨rfl, rfl⟩ : p = some ⟨g, 0, none⟩ ∧ cap = cap' := by injection hv with e1 _ e3; exact ⟨e1, e3⟩
  refine ⟨g, 0, rfl, (h.lt g rfl).2, fun q u hq => ?_⟩
  have hjl : q < 8 := by
    rcases Nat.lt_or_ge q 8 with h | h
    · exact h
    · rw [List.getElem?_eq_none (show (cells8 rs[i].1 rs[i].2).length ≤ q from h)] at hq; cases hq
  have := World.ownsRow.cells h (g := g) rfl (i * 8 + q) u (by rw [flatN_get rs i q hi hjl]; exact hq)
  rw [Addr.add_lit] at this
  rw [show 0 + i * 8 + q = 0 + (i * 8 + q) by omega]; exact this
end
theorem NmK.nmR {P : Nat → Prop} {w : World} {p : Option Addr} {rs : NRow} (h : NmK w p rs) (hP : ∀ b off, p = some ⟨b, off, none⟩ → P b) (hl : ∀ r ∈ rs, Lies (Cel P w) r.1.o r.2) (hlen : rs.length ≤ maxLen) : NmR P w p (rs.map (·.1)) := by
  refine ⟨by simpa using hlen, fun i hi => ?_⟩
  have hi' : i < rs.length := by simpa using hi
  obtain ⟨b, off, hp, hlt, c0, c1, c2, c3, c4, c5, c6, c7⟩ := h.cells i hi'
  have e : (rs.map (·.1))[i] = rs[i].1 := List.getElem_map _
  rw [e]
  exact ⟨b, off, rs[i].2, hp, hP b off hp, hlt, hl _ (List.getElem_mem hi'), c0, c1, c2, c3, c4, c5, c6, c7⟩

/-- 'append(l, x)' to such a row, at a step of a region that draws its order. -/
theorem step_app_new (T TS : TypeId) (hu : Try.prog.underlying TS = some (.slice T)) (hinfo : (Try.prog.info? T).map (fun i => (i.zero, i.size, i.bytes)) = some (some (.agg #[.int .i64 0, .int .i64 0, .int .i64 0, .int .i64 0, .int .i64 0, .string ⟨#[]⟩, .slice none 0 0, .slice none 0 0]), 8, 104))
    {ops : Array Oper} {o : Oper} {a : Act} {K : Act → World → Prop} {Q : Exit → Act → World → Prop} {E : Prop} (hgd : o.guard = none) (s x : Operand)
    (ho : o.op = .call { callee := .builtin .append, args := #[s, x], argTypes := #[TS, TS] })
    {W : World} (N : Nat) (v : Value) (rs : NRow) (hs : a.eval s = v) (hown : OwnN T W N v rs) (r : Nm × Hd) (g : Nat) (hb : Blk W g (cells8 r.1 r.2).toArray T)
    (hx : a.eval x = .slice (some ⟨g, 0, none⟩) 1 1) (hB : N ≤ W.heap.size) (hlen : rs.length ≤ 1099511627776)
    (h : ∀ g' cap w', OwnN T w' N (.slice (some ⟨g', 0, none⟩) (rs.length + 1) cap) (rs ++ [r]) → W.grownBy w' v.ownBlock → g' < w'.heap.size → K (a.put o.dst (.slice (some ⟨g', 0, none⟩) (rs.length + 1) cap)) w') :
    if Region.wanted o (yielded ops a.tmps) = true then Oper.wp Try.prog o a W K Q else E := by
  obtain ⟨i0, hi, hz0, hz1, hz2⟩ := info_parts hinfo
  refine step_append_lies _ hgd s x TS ho N T i0 _ 8 104 hu hi hz0 hz1 hz2 rfl (by decide) v rs.length (flatN rs) hs hown ⟨g, 0, none⟩ 1 1 (cells8 r.1 r.2) hx rfl
    ?_ (oneCell8 _ _) (by decide) (by unfold maxLen; omega) (by omega) hB _ rfl ?_
  · intro j u hj
    rw [Addr.add_lit, Nat.zero_add, hb.cell j]
    simpa using hj
  · intro g' cap w' h1 h2 _ h4
    refine h g' cap w' ?_ h2 h4
    unfold OwnN
    rw [List.length_append, flatN_snoc]
    exact h1

/-- Some such objects, that lie in a block of their own, are appended to an own row. -/
theorem wpList_app_rows (T TS : TypeId) (hu : Try.prog.underlying TS = some (.slice T)) (hinfo : (Try.prog.info? T).map (fun i => (i.zero, i.size, i.bytes)) = some (some (.agg #[.int .i64 0, .int .i64 0, .int .i64 0, .int .i64 0, .int .i64 0, .string ⟨#[]⟩, .slice none 0 0, .slice none 0 0]), 8, 104))
    {ops : Array Oper} {rest : List Oper} {o : Oper} {a : Act} {Q : Exit → Act → World → Prop} (hgd : o.guard = none) (s x : Operand)
    (ho : o.op = .call { callee := .builtin .append, args := #[s, x], argTypes := #[TS, TS] })
    {W : World} (N : Nat) (v : Value) (rs news : NRow) (hs : a.eval s = v) (hown : OwnN T W N v rs) (g : Nat) (cs : Array Value) (hcs : cs.toList = flatN news) (hb : Blk W g cs T)
    (m : Nat) (hm : m = news.length) (hm0 : 0 < m) (hx : a.eval x = .slice (some ⟨g, 0, none⟩) m m) (hB : N ≤ W.heap.size) (hlen : rs.length + m ≤ 1099511627776)
    (h : ∀ g' cap w', OwnN T w' N (.slice (some ⟨g', 0, none⟩) (rs.length + m) cap) (rs ++ news) → W.grownBy w' v.ownBlock → g' < w'.heap.size → wpList Try.prog ops Q rest (a.put o.dst (.slice (some ⟨g', 0, none⟩) (rs.length + m) cap)) w') :
    wpList Try.prog ops Q (o :: rest) a W := by
  obtain ⟨i0, hi, hz0, hz1, hz2⟩ := info_parts hinfo
  subst hm
  refine wpList_append_lies _ hgd s x TS ho N T i0 _ 8 104 hu hi hz0 hz1 hz2 rfl (by decide) v rs.length (flatN rs) hs hown ⟨g, 0, none⟩ news.length news.length (flatN news) hx (flatN_len news)
    ?_ (fun u hu => ?_) hm0 (by unfold maxLen; omega) (by omega) hB _ rfl ?_
  · intro j u hj
    rw [Addr.add_lit, Nat.zero_add, hb.cell j, ← Array.getElem?_toList, hcs]
    exact hj
  · unfold flatN at hu
    obtain ⟨r, _, hr⟩ := List.mem_flatMap.1 hu
    exact oneCell8 _ _ u hr
  · intro g' cap w' h1 h2 _ h4
    refine h g' cap w' ?_ h2 h4
    unfold OwnN
    rw [List.length_append, show flatN (rs ++ news) = flatN rs ++ flatN news by unfold flatN; rw [List.flatMap_append]]
    exact h1

end Go.Proofs.Ytakbhdhlcnpejaa
