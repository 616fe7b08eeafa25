/-
  A sheet takes one more item; what was drawn is told.
  A path of its own: slices.Clone of points.
  A pen lays an item of its path down.
  What the operators f, S, B, s and n do.
-/
import Derived.Test.YtbgdeaeikijdgaaGreatDoorDisM
import Derived.Deep.LoopGhost
import Derived.Deep.RegionLaw
import Derived.Deep.RegionHeld3
import Derived.BigRegion
import Derived.Laws.AppendOwn
import Derived.Laws.Cover3
import Derived.Test.YtbgdeaeikijdgaaGreatDoorDisP
namespace Go.Proofs.YtbgdeaeikijdgaaGreatDoor
open Go.RowKit Cx Px
set_option linter.unusedSimpArgs false
set_option linter.unusedVariables false

set_option maxRecDepth 100000 in
set_option maxHeartbeats 8000000 in
theorem add_any (wB : World) (pb sb : Nat) (P : Pen) (i : It) (p : Option Addr) (c : Nat) (w : World) (kv pv iv : Value) (I : List (It × Pd)) (hI : I.map (·.1) = P.out) (hM : PenM wB pb sb w (penC P kv pv sb) (sheetC iv) P.kept kv P.path pv I iv)
    (hp : PtR (fun b => wB.heap.size ≤ b ∧ kv.ownBlock ≠ some b ∧ pv.ownBlock ≠ some b ∧ iv.ownBlock ≠ some b) w p i.path) (hb : P.out.length < 65536) :
    Calls Tryz.prog 90 #[.pointer (some ⟨sb, 0, none⟩), .agg (cells18 (i, ⟨p, c⟩)).toArray] w fun e w' => e = .returned (.int .i64 0) ∧ ∃ iv', PenM wB pb sb w' (penC P kv pv sb) (sheetC iv') P.kept kv P.path pv (I ++ [(i, ⟨p, c⟩)]) iv' := by
  have hIl : I.length = P.out.length := by rw [← hI, List.length_map]
  rw [← hIl] at hb
  obtain ⟨q, ic, rfl, -, -⟩ := own_shape hM.hi
  obtain ⟨n, hn⟩ : ∃ n, n = I.length := ⟨_, rfl⟩
  have HN := Lib.hid hn
  have e7 : w.cell? ⟨sb, 7, none⟩ = some (.slice q I.length ic) := hM.hs.cell 7
  rw [← hn] at e7 hb
  have rf := hM.hs.free
  have rz := hM.hs.lt
  have n0 : ((n : Int) == 65536) = false := by rw [beq_eq_false_iff_ne]; omega
  have HP := Lib.hid hp
  have hA0 := hM.alloc (.cells (cells18 (i, ⟨p, c⟩)).toArray 32 (0, 0))
  have hA1 := (hA0.alloc (.cells (cells18 (i, ⟨p, c⟩)).toArray 32 (0, 0))).drew
  have HB := Lib.hid ((Blk.fresh' (w := w.alloc (.cells (cells18 (i, ⟨p, c⟩)).toArray 32 (0, 0))) (b := w.heap.size + 1) (cells18 (i, ⟨p, c⟩)).toArray 32 (by simp)).drew)
  have HP1 := Lib.hid (((hp.kept ((Kept.refl w).allocO (.cells (cells18 (i, ⟨p, c⟩)).toArray 32 (0, 0)))).kept ((Kept.refl _).allocO (.cells (cells18 (i, ⟨p, c⟩)).toArray 32 (0, 0)))).kept (Kept.refl _).drew)
  have HA := Lib.hid hA1
  rw [← hn] at HA HP1
  clear hM hI hp hA0 hA1 hn hIl
  unfold cells18 at *
  go_enter Tryz.func90, Tryz.ntmps90
  go_wp2_with fail
  go_region_law ((refine step_app_it (by rfl) _ _ (by rfl) HA.out (by rfl) (i, ⟨p, c⟩) (w.heap.size + 1) HB.out (by rfl) (by rw [← HN.out]; omega) HP1.out ?_; intro g' cap w' hM hz; have HM2 := Lib.hid hM; have e7' := hM.hs.cell 7; simp only [sheetC] at e7'; have rf' := hM.hs.free; have rz' := hM.hs.lt; clear hM))
  all_goals
    go_wp2_with fail
    go_ret
    exact ⟨rfl, _, by repeat (with_reducible first | exact (HM2.out.setS 7 _).cast rfl rfl | refine PenM.drew ?_)⟩

set_option maxRecDepth 100000 in
theorem told_any (wB : World) (pb sb : Nat) (P : Pen) (w : World) (h : PenR wB pb sb w P) :
    Calls Tryz.prog 21 #[.pointer (some ⟨sb, 0, none⟩), .int .i64 0] w fun e w' => ∃ I p c, e = .returned (.tuple #[.slice p I.length c, .int .i64 0]) ∧ Kept w w' ∧ I.map (·.1) = P.out ∧ ItR (fun b => wB.heap.size ≤ b) w' p I := by
  obtain ⟨kv, pv, iv, I, hI, hM⟩ := h
  obtain ⟨q, ic, rfl, -, hq⟩ := own_shape hM.hi
  have e7 : w.cell? ⟨sb, 7, none⟩ = some (.slice q I.length ic) := hM.hs.cell 7
  have rf := hM.hs.free
  have rz := hM.hs.lt
  have HI := Lib.hid hI
  have HR := Lib.hid (show ItR (fun b => wB.heap.size ≤ b) w q I from by
    refine ⟨fun i hi => ?_, fun r hr => (hM.it r hr).keep (Nat.le_refl _) fun b hb _ => ⟨hb.1, rfl⟩⟩
    rcases hM.hi.2 with ⟨-, e⟩ | ⟨g, cap, cur, e, -⟩
    · omega
    · injection e with e1 e2 e3
      subst e1
      have hl := hM.hi.lt g rfl
      refine ⟨g, 0, rfl, hl.1, hl.2, fun k u hk => ?_⟩
      have h18 : k < 18 := (List.getElem?_eq_some_iff.1 hk).1
      have := hM.hi.cells (g := g) rfl (i * 18 + k) u (by rw [flat18_get I i k hi h18]; exact hk)
      rw [Addr.add_lit, Nat.zero_add] at this
      rw [Nat.zero_add]; exact this)
  clear hM hI
  go_enter Tryz.func21, Tryz.ntmps21
  go_wp2_with fail
  go_ret2
  exact ⟨I, q, ic, rfl, by repeat (with_reducible first | exact Kept.refl _ | refine Kept.drew ?_), HI.out, by with_reducible exact HR.out⟩

end Go.Proofs.YtbgdeaeikijdgaaGreatDoor

namespace Go.Proofs.YtbgdeaeikijdgaaGreatDoor
open Go.RowKit Cx Px
set_option linter.unusedSimpArgs false
set_option linter.unusedVariables false

theorem pt_cells {P : Nat → Prop} {w : World} {k o : Nat} {L : List Pt} (h : PtR P w (some ⟨k, o, none⟩) L) (j : Nat) (u : Value) (hj : (flat3 L)[j]? = some u) : w.cell? ((⟨k, o, none⟩ : Addr).add j) = some u := by
  have hj2 := (List.getElem?_eq_some_iff.1 hj).1
  rw [flat3_len] at hj2
  rw [Addr.add_lit]
  obtain ⟨i, q, hq, rfl⟩ : ∃ i q, q < 3 ∧ j = i * 3 + q := ⟨j / 3, j % 3, Nat.mod_lt _ (by decide), by omega⟩
  have hi : i < L.length := by omega
  rw [flat3_get L i q hi hq] at hj
  obtain ⟨b, off, hp, -, -, c0, c1, c2⟩ := h i hi
  injection hp with hp
  injection hp with e1 e2 e3
  subst e1 e2
  match q, hq with
  | 0, _ => rw [show o + (i * 3 + 0) = o + i * 3 by omega, c0]; exact hj
  | 1, _ => rw [show o + (i * 3 + 1) = o + i * 3 + 1 by omega, c1]; exact hj
  | 2, _ => rw [show o + (i * 3 + 2) = o + i * 3 + 2 by omega, c2]; exact hj
theorem own_ptR {w : World} {B : Nat} {p : Option Addr} {c : Nat} {L : List Pt} (h : w.ownsRow B 48 3 (.slice p L.length c) L.length (flat3 L)) : PtR (fun b => B ≤ b ∧ (Value.slice p L.length c).ownBlock = some b) w p L := by
  intro i hi
  rcases h.2 with ⟨-, e⟩ | ⟨g, cap, cur, e, -⟩
  · omega
  · injection e with e1 e2 e3
    subst e1
    have hl := h.lt g rfl
    have k : ∀ q u, q < 3 → (cells3 L[i])[q]? = some u → w.cell? ⟨g, i * 3 + q, none⟩ = some u := fun q u hq hu => by
      have := h.cells (g := g) rfl (i * 3 + q) u (by rw [flat3_get L i q hi hq]; exact hu)
      rwa [Addr.add_lit, Nat.zero_add] at this
    refine ⟨g, 0, rfl, ⟨hl.1, rfl⟩, hl.2, ?_, ?_, ?_⟩
    · have := k 0 _ (by decide) rfl
      rwa [show i * 3 + 0 = 0 + i * 3 by omega] at this
    · have := k 1 _ (by decide) rfl
      rwa [show i * 3 + 1 = 0 + i * 3 + 1 by omega] at this
    · have := k 2 _ (by decide) rfl
      rwa [show i * 3 + 2 = 0 + i * 3 + 2 by omega] at this

theorem eql_nilP (w : World) (a : Option Addr) (l c : Nat) : (binOp .eql 29 (.slice a l c) (.slice none 0 0)).run Tryz.prog w = .ok (.bool a.isNone) w := by
  simp only [binOp]
  simp [run_equal_slice_nil w 29 48 a l c Tryz.underlying29]

attribute [local go_sem] eql_nilP in
set_option maxRecDepth 100000 in
set_option maxHeartbeats 4000000 in
theorem Clone_any (L : List Pt) (b off c : Nat) (w : World) (h : PtR (fun _ => True) w (some ⟨b, off, none⟩) L) (hB : L.length ≤ 1099511627776) :
    Calls Tryz.prog 91 #[.slice (some ⟨b, off, none⟩) L.length c] w fun e w' => ∃ p' c', e = .returned (.slice p' L.length c') ∧ Kept w w' ∧ PtR (fun k => w.heap.size ≤ k) w' p' L := by
  have HR := Lib.hid (pt_cells (h.kept ((Kept.refl w).alloc #[] 48)))
  have OW := Lib.hid (show (w.alloc (.cells #[] 48 (0, 0))).ownsRow w.heap.size 48 3 (.slice (some ⟨w.heap.size, 0, none⟩) 0 0) 0 [] from
    ⟨rfl, .inr ⟨w.heap.size, 0, #[], rfl, Nat.le_refl _, Blk.fresh w #[] _, Nat.le_refl _, Nat.zero_le _, rfl, rfl⟩⟩)
  have KA := Lib.hid ((Kept.refl w).alloc #[] 48)
  obtain ⟨n, hn⟩ : ∃ n, n = L.length := ⟨_, rfl⟩
  have HN := Lib.hid hn
  rw [← hn]
  obtain ⟨i0, hi, hz0, hz1, hz2⟩ := info_parts info_pt
  clear h hn
  go_enter Tryz.func91, Tryz.ntmps91
  go_wp2_with (at_builtin; refine wpList_append_own _ (by rfl) _ _ 29 (by rfl) w.heap.size 48 i0 _ 3 32 Tryz.underlying29 hi hz0 hz1 hz2 rfl (by decide) (.slice (some ⟨w.heap.size, 0, none⟩) 0 0) 0 [] (by rfl) OW.out ⟨b, off, none⟩ n c (flat3 L) (by rfl) (by rw [flat3_len, ← HN.out]) HR.out one3L (by have := HN.out; unfold maxLen; omega) (by have := HN.out; omega) (by simp) ?_)
  intro v' w' h1 h2 _
  have H1 := Lib.hid h1
  have K2 := Lib.hid (Below.grown KA.out h2 (by simp) (fun y hy => by cases hy; exact Nat.le_refl _))
  (try rw [Nat.zero_add, List.nil_append] at H1)
  obtain ⟨p', c', rfl, -, -⟩ := own_shape H1.out
  clear h1 h2
  go_wp2_with fail
  go_ret
  exact ⟨p', c', rfl, K2.out, by have h3 := H1.out; rw [HN.out] at h3; exact (own_ptR h3).keep (Nat.le_refl _) fun b hb _ => ⟨hb.1, rfl⟩⟩

end Go.Proofs.YtbgdeaeikijdgaaGreatDoor

namespace Go.Proofs.YtbgdeaeikijdgaaGreatDoor
open Go.RowKit Cx Px
set_option linter.unusedSimpArgs false
set_option linter.unusedVariables false

set_option maxRecDepth 100000 in
set_option maxHeartbeats 16000000 in
theorem lay_any (wB : World) (pb sb : Nat) (P : Pen) (k : Int) (w : World) (h : PenR wB pb sb w P) (hk : k ≠ 0) (hb : P.out.length < 65536) (hl : P.path.length ≤ 1099511627776) :
    Calls Tryz.prog 60 #[.pointer (some ⟨pb, 0, none⟩), .int .i64 k] w fun e w' => e = .returned (.int .i64 0) ∧ PenR wB pb sb w' (P.lay k) := by
  have hk' : (k == 0) = false := by simpa using hk
  have HR := Lib.hid h
  obtain ⟨kv, pv, iv, I, hI, hM⟩ := h
  obtain ⟨p, c, rfl, -, -⟩ := own_shape hM.hl
  have d17 := hM.rest.2.1
  have rf := hM.hp.free
  have rz := hM.hp.lt
  by_cases hp0 : P.path = []
  · have e : P.lay k = P := by unfold Pen.lay; rw [if_pos hp0]
    rw [e]
    have n0 : P.path.length = 0 := by rw [hp0]; rfl
    rw [n0] at d17
    clear hI hM hk hl e n0 hp0
    go_enter Tryz.func60, Tryz.ntmps60
    go_wp2_with fail
    go_ret
    exact ⟨rfl, HR.out⟩
  · have HL := Lib.hid (show P.lay k = { P with out := P.out ++ [P.item k] } by unfold Pen.lay; rw [if_neg hp0])
    obtain ⟨n, hn⟩ : ∃ n, n = P.path.length := ⟨_, rfl⟩
    have hpos : 0 < n := by rw [hn]; exact List.length_pos_iff.2 hp0
    obtain ⟨g, rfl⟩ : ∃ g, p = some ⟨g, 0, none⟩ := by
      rcases hM.hl.2 with ⟨-, e⟩ | ⟨g, cap, cur, e, -⟩
      · omega
      · injection e with e1 _ _; exact ⟨g, e1⟩
    have HI := Lib.hid hI
    have HM := Lib.hid hM
    have HMd := Lib.hid hM.drew
    obtain ⟨d0, d1, d2, d3, d4, d5, d6, d7, d8, d9, d10, d11, d12, -⟩ := hM.st
    have d24 := hM.rest.2.2.2.2.2.2.2.2
    have HN := Lib.hid hn
    have CL := Lib.hid (fun wx (k : Kept w wx) => show Calls Tryz.prog 91 #[.slice (some ⟨g, 0, none⟩) n c] wx (fun e w' => ∃ p' c', e = .returned (.slice p' n c') ∧ Kept wx w' ∧ PtR (fun k => wx.heap.size ≤ k) w' p' P.path) by
      rw [hn]; exact Clone_any P.path g 0 c wx ((own_ptR hM.hl).any.kept k) hl)
    have AD := Lib.hid (fun (wx : World) (hMx : PenM wB pb sb wx (penC P kv (.slice (some ⟨g, 0, none⟩) n c) sb) (sheetC iv) P.kept kv P.path (.slice (some ⟨g, 0, none⟩) n c) I iv) (p' : Option Addr) (c' : Nat)
        (hp : PtR (fun b => wB.heap.size ≤ b ∧ kv.ownBlock ≠ some b ∧ (Value.slice (some ⟨g, 0, none⟩) n c).ownBlock ≠ some b ∧ iv.ownBlock ≠ some b) wx p' P.path) =>
      show Calls Tryz.prog 90 #[.pointer (some ⟨sb, 0, none⟩), .agg #[.int .i64 k, .int .i64 P.st.m.a, .int .i64 P.st.m.b, .int .i64 P.st.m.c, .int .i64 P.st.m.d, .int .i64 P.st.m.e, .int .i64 P.st.m.f, .slice p' n c', .int .i64 P.st.c.r, .int .i64 P.st.c.g, .int .i64 P.st.c.b, .int .i64 P.st.d.r, .int .i64 P.st.d.g, .int .i64 P.st.d.b, .int .i64 P.st.w, .string ⟨#[]⟩, .int .i64 0, .string ⟨#[]⟩]] wx _ by
      have := add_any wB pb sb P (P.item k) p' c' wx kv _ iv I hI hMx hp hb
      unfold cells18 Pen.item at this
      rw [hn]; exact this)
    rw [← hn] at d17 HM HMd
    have FR := Lib.hid (show ∀ (wx : World) (p' : Option Addr), PenM wB pb sb wx (penC P kv (.slice (some ⟨g, 0, none⟩) n c) sb) (sheetC iv) P.kept kv P.path (.slice (some ⟨g, 0, none⟩) n c) I iv → PtR (fun k => w.heap.size ≤ k) wx p' P.path → PtR (fun b => wB.heap.size ≤ b ∧ kv.ownBlock ≠ some b ∧ (Value.slice (some ⟨g, 0, none⟩) n c).ownBlock ≠ some b ∧ iv.ownBlock ≠ some b) wx p' P.path from
      fun wx p' _ hp => hp.keep (Nat.le_refl _) fun b hb _ => ⟨⟨Nat.le_trans HM.out.fr.size hb, fun e => by have := (HM.out.hk.lt b e).2; omega, fun e => by have := (HM.out.hl.lt b e).2; omega, fun e => by have := (HM.out.hi.lt b e).2; omega⟩, rfl⟩)
    have n0 : ((n : Int) == 0) = false := by rw [beq_eq_false_iff_ne]; omega
    clear hI hM hk hl hn hp0
    go_enter Tryz.func60, Tryz.ntmps60
    go_wp2_with fail
    go_region_held3 (fun w' => w'.cell? ⟨pb, 0, none⟩ = some (.int .i64 P.st.m.a) ∧ w'.cell? ⟨pb, 1, none⟩ = some (.int .i64 P.st.m.b) ∧ w'.cell? ⟨pb, 2, none⟩ = some (.int .i64 P.st.m.c) ∧ w'.cell? ⟨pb, 3, none⟩ = some (.int .i64 P.st.m.d) ∧ w'.cell? ⟨pb, 4, none⟩ = some (.int .i64 P.st.m.e) ∧ w'.cell? ⟨pb, 5, none⟩ = some (.int .i64 P.st.m.f) ∧ w'.cell? ⟨pb, 6, none⟩ = some (.int .i64 P.st.c.r) ∧ w'.cell? ⟨pb, 7, none⟩ = some (.int .i64 P.st.c.g) ∧ w'.cell? ⟨pb, 8, none⟩ = some (.int .i64 P.st.c.b) ∧ w'.cell? ⟨pb, 9, none⟩ = some (.int .i64 P.st.d.r) ∧ w'.cell? ⟨pb, 10, none⟩ = some (.int .i64 P.st.d.g) ∧ w'.cell? ⟨pb, 11, none⟩ = some (.int .i64 P.st.d.b) ∧
      w'.cell? ⟨pb, 12, none⟩ = some (.int .i64 P.st.w) ∧ w'.cell? ⟨pb, 17, none⟩ = some (.slice (some ⟨g, 0, none⟩) n c) ∧ w'.cell? ⟨pb, 24, none⟩ = some (.pointer (some ⟨sb, 0, none⟩))) (first | go_keep | exact ⟨d0, d1, d2, d3, d4, d5, d6, d7, d8, d9, d10, d11, d12, d17, d24⟩)
      (first
        | (go_at_call 91; (first | (with_reducible refine (CL.out _ (Kept.refl w)).mono ?_) | (with_reducible refine (CL.out _ (Kept.refl w).drew).mono ?_)); rintro e w1 ⟨p', c', rfl, k1, hp1⟩; (first | (with_reducible have HM1 := Lib.hid (HM.out.kept k1)) | (with_reducible have HM1 := Lib.hid (HMd.out.kept k1))); have HP1 := Lib.hid (FR.out w1 p' HM1.out hp1); obtain ⟨d0, d1, d2, d3, d4, d5, d6, d7, d8, d9, d10, d11, d12, -⟩ := HM1.out.st; obtain ⟨-, d17, -, -, -, -, -, -, d24⟩ := HM1.out.rest; clear hp1)
        | (go_at_call 90; (first | (with_reducible refine (AD.out _ HM1.out _ _ HP1.out).mono ?_) | (with_reducible refine (AD.out _ HM1.out.drew _ _ (HP1.out.kept (Kept.refl _).drew)).mono ?_)); rintro e w2 ⟨rfl, iv2, hM2⟩; obtain ⟨d0, d1, d2, d3, d4, d5, d6, d7, d8, d9, d10, d11, d12, -⟩ := hM2.st; obtain ⟨-, d17, -, -, -, -, -, -, d24⟩ := hM2.rest; have HM2 := Lib.hid hM2; clear hM2))
    all_goals
      go_wp2_with fail
      go_ret
      exact ⟨rfl, by rw [HL.out]; exact ⟨kv, .slice (some ⟨g, 0, none⟩) n c, iv2, I ++ [(P.item k, ⟨p', c'⟩)], by rw [List.map_append, HI.out]; rfl, by first | exact HM2.out.cast rfl rfl | exact HM2.out.drew.cast rfl rfl⟩⟩

end Go.Proofs.YtbgdeaeikijdgaaGreatDoor

namespace Go.Proofs.YtbgdeaeikijdgaaGreatDoor
open Go.RowKit Cx Px
set_option linter.unusedSimpArgs false
set_option linter.unusedVariables false

theorem lay_len (P : Pen) (k : Int) : (P.lay k).path = P.path := by unfold Pen.lay; split <;> rfl

set_option maxRecDepth 100000 in
theorem lay_zero (wB : World) (pb sb : Nat) (P : Pen) (w : World) (h : PenR wB pb sb w P) :
    Calls Tryz.prog 60 #[.pointer (some ⟨pb, 0, none⟩), .int .i64 0] w fun e w' => e = .returned (.int .i64 0) ∧ PenR wB pb sb w' P := by
  have HR := Lib.hid h
  clear h
  go_enter Tryz.func60, Tryz.ntmps60
  go_wp2_with fail
  go_ret
  exact ⟨rfl, HR.out⟩

set_option maxRecDepth 100000 in
theorem paintOf_f (w : World) : Calls Tryz.prog 61 #[.string ⟨#[102]⟩] w fun e w' => e = .returned (.int .i64 1) ∧ w = w' := by
  obtain ⟨nm, hn⟩ : ∃ nm : ByteArray, nm = ⟨#[102]⟩ := ⟨_, rfl⟩
  rw [← hn]
  have g0 : (nm.toList == [102]) = true := by rw [hn]; kernel_rfl
  clear hn
  go_enter Tryz.func61, Tryz.ntmps61
  go_wp2_with fail
  go_ret
  exact ⟨rfl, rfl⟩

set_option maxRecDepth 100000 in
set_option maxHeartbeats 8000000 in
theorem paint_f (wB : World) (pb sb : Nat) (P : Pen) (w : World) (h : PenR wB pb sb w P) (hb : P.out.length < 65536) (hl : P.path.length ≤ 549755813888) :
    Calls Tryz.prog 39 #[.pointer (some ⟨pb, 0, none⟩), .string ⟨#[102]⟩] w fun e w' => e = .returned (.int .i64 0) ∧ PenR wB pb sb w' (P.paint 1) := by
  have LY := Lib.hid (fun w' (k : PenR wB pb sb w' (P)) => lay_any wB pb sb (P) 1 w' k (by decide) hb (by omega))
  obtain ⟨nm, hn⟩ : ∃ nm : ByteArray, nm = ⟨#[102]⟩ := ⟨_, rfl⟩
  have PO := Lib.hid (fun w => paintOf_f w)
  rw [← hn] at PO ⊢
  have z0 : (nm.toList == [87]) = false := by rw [hn]; kernel_rfl
  have z1 : (nm.toList == [87, 42]) = false := by rw [hn]; kernel_rfl
  have z2 : (nm.toList == [115]) = false := by rw [hn]; kernel_rfl
  have z3 : (nm.toList == [98]) = false := by rw [hn]; kernel_rfl
  have z4 : (nm.toList == [98, 42]) = false := by rw [hn]; kernel_rfl
  have HR := Lib.hid h
  clear hn h
  go_enter Tryz.func39, Tryz.ntmps39
  go_wp2_with fail
  (with_reducible refine (PO.out _).mono ?_)
  rintro e w1 ⟨rfl, rfl⟩
  go_wp2_with fail
  (with_reducible refine (LY.out _ HR.out).mono ?_)
  rintro e w2 ⟨rfl, h2⟩
  obtain ⟨kv, pv, iv, I, hI, hM⟩ := h2
  have HI := Lib.hid hI
  obtain ⟨p, c, rfl, -, -⟩ := own_shape hM.hl
  have HM := Lib.hid hM
  have d17 := hM.rest.2.1
  have rf := hM.hp.free
  have rz := hM.hp.lt
  obtain ⟨n, hn⟩ : ∃ n, n = (P.lay 1).path.length := ⟨_, rfl⟩
  rw [← hn] at d17
  clear hM hI hn
  go_wp2_with fail
  go_ret
  exact ⟨rfl, kv, _, iv, I, HI.out, ((HM.out.setP 17 _).cutL).cast rfl rfl⟩

set_option maxRecDepth 100000 in
theorem paintOf_bigS (w : World) : Calls Tryz.prog 61 #[.string ⟨#[83]⟩] w fun e w' => e = .returned (.int .i64 2) ∧ w = w' := by
  obtain ⟨nm, hn⟩ : ∃ nm : ByteArray, nm = ⟨#[83]⟩ := ⟨_, rfl⟩
  rw [← hn]
  have g0 : (nm.toList == [102]) = false := by rw [hn]; kernel_rfl
  have g1 : (nm.toList == [70]) = false := by rw [hn]; kernel_rfl
  have g2 : (nm.toList == [102, 42]) = false := by rw [hn]; kernel_rfl
  have g3 : (nm.toList == [83]) = true := by rw [hn]; kernel_rfl
  clear hn
  go_enter Tryz.func61, Tryz.ntmps61
  go_wp2_with fail
  go_ret
  exact ⟨rfl, rfl⟩

set_option maxRecDepth 100000 in
set_option maxHeartbeats 8000000 in
theorem paint_bigS (wB : World) (pb sb : Nat) (P : Pen) (w : World) (h : PenR wB pb sb w P) (hb : P.out.length < 65536) (hl : P.path.length ≤ 549755813888) :
    Calls Tryz.prog 39 #[.pointer (some ⟨pb, 0, none⟩), .string ⟨#[83]⟩] w fun e w' => e = .returned (.int .i64 0) ∧ PenR wB pb sb w' (P.paint 2) := by
  have LY := Lib.hid (fun w' (k : PenR wB pb sb w' (P)) => lay_any wB pb sb (P) 2 w' k (by decide) hb (by omega))
  obtain ⟨nm, hn⟩ : ∃ nm : ByteArray, nm = ⟨#[83]⟩ := ⟨_, rfl⟩
  have PO := Lib.hid (fun w => paintOf_bigS w)
  rw [← hn] at PO ⊢
  have z0 : (nm.toList == [87]) = false := by rw [hn]; kernel_rfl
  have z1 : (nm.toList == [87, 42]) = false := by rw [hn]; kernel_rfl
  have z2 : (nm.toList == [115]) = false := by rw [hn]; kernel_rfl
  have z3 : (nm.toList == [98]) = false := by rw [hn]; kernel_rfl
  have z4 : (nm.toList == [98, 42]) = false := by rw [hn]; kernel_rfl
  have HR := Lib.hid h
  clear hn h
  go_enter Tryz.func39, Tryz.ntmps39
  go_wp2_with fail
  (with_reducible refine (PO.out _).mono ?_)
  rintro e w1 ⟨rfl, rfl⟩
  go_wp2_with fail
  (with_reducible refine (LY.out _ HR.out).mono ?_)
  rintro e w2 ⟨rfl, h2⟩
  obtain ⟨kv, pv, iv, I, hI, hM⟩ := h2
  have HI := Lib.hid hI
  obtain ⟨p, c, rfl, -, -⟩ := own_shape hM.hl
  have HM := Lib.hid hM
  have d17 := hM.rest.2.1
  have rf := hM.hp.free
  have rz := hM.hp.lt
  obtain ⟨n, hn⟩ : ∃ n, n = (P.lay 2).path.length := ⟨_, rfl⟩
  rw [← hn] at d17
  clear hM hI hn
  go_wp2_with fail
  go_ret
  exact ⟨rfl, kv, _, iv, I, HI.out, ((HM.out.setP 17 _).cutL).cast rfl rfl⟩

set_option maxRecDepth 100000 in
theorem paintOf_bigB (w : World) : Calls Tryz.prog 61 #[.string ⟨#[66]⟩] w fun e w' => e = .returned (.int .i64 3) ∧ w = w' := by
  obtain ⟨nm, hn⟩ : ∃ nm : ByteArray, nm = ⟨#[66]⟩ := ⟨_, rfl⟩
  rw [← hn]
  have g0 : (nm.toList == [102]) = false := by rw [hn]; kernel_rfl
  have g1 : (nm.toList == [70]) = false := by rw [hn]; kernel_rfl
  have g2 : (nm.toList == [102, 42]) = false := by rw [hn]; kernel_rfl
  have g3 : (nm.toList == [83]) = false := by rw [hn]; kernel_rfl
  have g4 : (nm.toList == [115]) = false := by rw [hn]; kernel_rfl
  have g5 : (nm.toList == [66]) = true := by rw [hn]; kernel_rfl
  clear hn
  go_enter Tryz.func61, Tryz.ntmps61
  go_wp2_with fail
  go_ret
  exact ⟨rfl, rfl⟩

set_option maxRecDepth 100000 in
set_option maxHeartbeats 8000000 in
theorem paint_bigB (wB : World) (pb sb : Nat) (P : Pen) (w : World) (h : PenR wB pb sb w P) (hb : P.out.length < 65536) (hl : P.path.length ≤ 549755813888) :
    Calls Tryz.prog 39 #[.pointer (some ⟨pb, 0, none⟩), .string ⟨#[66]⟩] w fun e w' => e = .returned (.int .i64 0) ∧ PenR wB pb sb w' (P.paint 3) := by
  have LY := Lib.hid (fun w' (k : PenR wB pb sb w' (P)) => lay_any wB pb sb (P) 3 w' k (by decide) hb (by omega))
  obtain ⟨nm, hn⟩ : ∃ nm : ByteArray, nm = ⟨#[66]⟩ := ⟨_, rfl⟩
  have PO := Lib.hid (fun w => paintOf_bigB w)
  rw [← hn] at PO ⊢
  have z0 : (nm.toList == [87]) = false := by rw [hn]; kernel_rfl
  have z1 : (nm.toList == [87, 42]) = false := by rw [hn]; kernel_rfl
  have z2 : (nm.toList == [115]) = false := by rw [hn]; kernel_rfl
  have z3 : (nm.toList == [98]) = false := by rw [hn]; kernel_rfl
  have z4 : (nm.toList == [98, 42]) = false := by rw [hn]; kernel_rfl
  have HR := Lib.hid h
  clear hn h
  go_enter Tryz.func39, Tryz.ntmps39
  go_wp2_with fail
  (with_reducible refine (PO.out _).mono ?_)
  rintro e w1 ⟨rfl, rfl⟩
  go_wp2_with fail
  (with_reducible refine (LY.out _ HR.out).mono ?_)
  rintro e w2 ⟨rfl, h2⟩
  obtain ⟨kv, pv, iv, I, hI, hM⟩ := h2
  have HI := Lib.hid hI
  obtain ⟨p, c, rfl, -, -⟩ := own_shape hM.hl
  have HM := Lib.hid hM
  have d17 := hM.rest.2.1
  have rf := hM.hp.free
  have rz := hM.hp.lt
  obtain ⟨n, hn⟩ : ∃ n, n = (P.lay 3).path.length := ⟨_, rfl⟩
  rw [← hn] at d17
  clear hM hI hn
  go_wp2_with fail
  go_ret
  exact ⟨rfl, kv, _, iv, I, HI.out, ((HM.out.setP 17 _).cutL).cast rfl rfl⟩

set_option maxRecDepth 100000 in
theorem paintOf_s (w : World) : Calls Tryz.prog 61 #[.string ⟨#[115]⟩] w fun e w' => e = .returned (.int .i64 2) ∧ w = w' := by
  obtain ⟨nm, hn⟩ : ∃ nm : ByteArray, nm = ⟨#[115]⟩ := ⟨_, rfl⟩
  rw [← hn]
  have g0 : (nm.toList == [102]) = false := by rw [hn]; kernel_rfl
  have g1 : (nm.toList == [70]) = false := by rw [hn]; kernel_rfl
  have g2 : (nm.toList == [102, 42]) = false := by rw [hn]; kernel_rfl
  have g3 : (nm.toList == [83]) = false := by rw [hn]; kernel_rfl
  have g4 : (nm.toList == [115]) = true := by rw [hn]; kernel_rfl
  clear hn
  go_enter Tryz.func61, Tryz.ntmps61
  go_wp2_with fail
  go_ret
  exact ⟨rfl, rfl⟩

set_option maxRecDepth 100000 in
set_option maxHeartbeats 8000000 in
theorem paint_s (wB : World) (pb sb : Nat) (P : Pen) (w : World) (h : PenR wB pb sb w P) (hb : P.out.length < 65536) (hl : P.path.length ≤ 549755813888) :
    Calls Tryz.prog 39 #[.pointer (some ⟨pb, 0, none⟩), .string ⟨#[115]⟩] w fun e w' => e = .returned (.int .i64 0) ∧ PenR wB pb sb w' (P.shut.paint 2) := by
  have LY := Lib.hid (fun w' (k : PenR wB pb sb w' (P.shut)) => lay_any wB pb sb (P.shut) 2 w' k (by decide) hb (by unfold Pen.shut; simp; omega))
  obtain ⟨nm, hn⟩ : ∃ nm : ByteArray, nm = ⟨#[115]⟩ := ⟨_, rfl⟩
  have PO := Lib.hid (fun w => paintOf_s w)
  rw [← hn] at PO ⊢
  have z0 : (nm.toList == [87]) = false := by rw [hn]; kernel_rfl
  have z1 : (nm.toList == [87, 42]) = false := by rw [hn]; kernel_rfl
  have z2 : (nm.toList == [115]) = true := by rw [hn]; kernel_rfl
  have HR := Lib.hid h
  have SH := Lib.hid (fun w' (k : PenR wB pb sb w' P) => shut_any wB pb sb P w' k (by omega))
  clear hn h
  go_enter Tryz.func39, Tryz.ntmps39
  go_wp2_with fail
  (with_reducible refine (SH.out _ HR.out).mono ?_)
  rintro e w0 ⟨rfl, h0⟩
  have R0 := Lib.hid h0
  clear h0
  go_wp2_with fail
  (with_reducible refine (PO.out _).mono ?_)
  rintro e w1 ⟨rfl, rfl⟩
  go_wp2_with fail
  (with_reducible refine (LY.out _ R0.out).mono ?_)
  rintro e w2 ⟨rfl, h2⟩
  obtain ⟨kv, pv, iv, I, hI, hM⟩ := h2
  have HI := Lib.hid hI
  obtain ⟨p, c, rfl, -, -⟩ := own_shape hM.hl
  have HM := Lib.hid hM
  have d17 := hM.rest.2.1
  have rf := hM.hp.free
  have rz := hM.hp.lt
  obtain ⟨n, hn⟩ : ∃ n, n = (P.shut.lay 2).path.length := ⟨_, rfl⟩
  rw [← hn] at d17
  clear hM hI hn
  go_wp2_with fail
  go_ret
  exact ⟨rfl, kv, _, iv, I, HI.out, ((HM.out.setP 17 _).cutL).cast rfl rfl⟩

set_option maxRecDepth 100000 in
theorem paintOf_n (w : World) : Calls Tryz.prog 61 #[.string ⟨#[110]⟩] w fun e w' => e = .returned (.int .i64 0) ∧ w = w' := by
  obtain ⟨nm, hn⟩ : ∃ nm : ByteArray, nm = ⟨#[110]⟩ := ⟨_, rfl⟩
  rw [← hn]
  have g0 : (nm.toList == [102]) = false := by rw [hn]; kernel_rfl
  have g1 : (nm.toList == [70]) = false := by rw [hn]; kernel_rfl
  have g2 : (nm.toList == [102, 42]) = false := by rw [hn]; kernel_rfl
  have g3 : (nm.toList == [83]) = false := by rw [hn]; kernel_rfl
  have g4 : (nm.toList == [115]) = false := by rw [hn]; kernel_rfl
  have g5 : (nm.toList == [66]) = false := by rw [hn]; kernel_rfl
  have g6 : (nm.toList == [66, 42]) = false := by rw [hn]; kernel_rfl
  have g7 : (nm.toList == [98]) = false := by rw [hn]; kernel_rfl
  have g8 : (nm.toList == [98, 42]) = false := by rw [hn]; kernel_rfl
  clear hn
  go_enter Tryz.func61, Tryz.ntmps61
  go_wp2_with fail
  go_ret
  exact ⟨rfl, rfl⟩

set_option maxRecDepth 100000 in
set_option maxHeartbeats 8000000 in
theorem paint_n (wB : World) (pb sb : Nat) (P : Pen) (w : World) (h : PenR wB pb sb w P) (hl : P.path.length ≤ 549755813888) :
    Calls Tryz.prog 39 #[.pointer (some ⟨pb, 0, none⟩), .string ⟨#[110]⟩] w fun e w' => e = .returned (.int .i64 0) ∧ PenR wB pb sb w' { P with path := [] } := by
  have LY := Lib.hid (fun w' (k : PenR wB pb sb w' P) => lay_zero wB pb sb P w' k)
  obtain ⟨nm, hn⟩ : ∃ nm : ByteArray, nm = ⟨#[110]⟩ := ⟨_, rfl⟩
  have PO := Lib.hid (fun w => paintOf_n w)
  rw [← hn] at PO ⊢
  have z0 : (nm.toList == [87]) = false := by rw [hn]; kernel_rfl
  have z1 : (nm.toList == [87, 42]) = false := by rw [hn]; kernel_rfl
  have z2 : (nm.toList == [115]) = false := by rw [hn]; kernel_rfl
  have z3 : (nm.toList == [98]) = false := by rw [hn]; kernel_rfl
  have z4 : (nm.toList == [98, 42]) = false := by rw [hn]; kernel_rfl
  have HR := Lib.hid h
  clear hn h
  go_enter Tryz.func39, Tryz.ntmps39
  go_wp2_with fail
  (with_reducible refine (PO.out _).mono ?_)
  rintro e w1 ⟨rfl, rfl⟩
  go_wp2_with fail
  (with_reducible refine (LY.out _ HR.out).mono ?_)
  rintro e w2 ⟨rfl, h2⟩
  obtain ⟨kv, pv, iv, I, hI, hM⟩ := h2
  have HI := Lib.hid hI
  obtain ⟨p, c, rfl, -, -⟩ := own_shape hM.hl
  have HM := Lib.hid hM
  have d17 := hM.rest.2.1
  have rf := hM.hp.free
  have rz := hM.hp.lt
  obtain ⟨n, hn⟩ : ∃ n, n = P.path.length := ⟨_, rfl⟩
  rw [← hn] at d17
  clear hM hI hn
  go_wp2_with fail
  go_ret
  exact ⟨rfl, kv, _, iv, I, HI.out, ((HM.out.setP 17 _).cutL).cast rfl rfl⟩

end Go.Proofs.YtbgdeaeikijdgaaGreatDoor
