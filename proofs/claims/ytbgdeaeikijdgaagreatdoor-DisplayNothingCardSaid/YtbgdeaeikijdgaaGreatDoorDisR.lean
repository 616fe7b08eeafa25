/-
  What the operators of a text do to a pen, one behind the other: draw.
  What a text draws: Run, of no file and no resources.
-/
import Derived.Test.YtbgdeaeikijdgaaGreatDoorDisS
import Derived.Test.YtbgdeaeikijdgaaGreatDoorOpsP
import Derived.Test.YtbgdeaeikijdgaaGreatDoorDisL
import Derived.Test.YtbgdeaeikijdgaaGreatDoorGeoM
import Derived.Deep.RegionHeld3
namespace Go.Proofs.YtbgdeaeikijdgaaGreatDoor
open Go.RowKit Cx Px
set_option linter.unusedSimpArgs false
set_option linter.unusedVariables false

/-- What is done so far; the other operators of Drw are not among it. -/
def Basic (o : Ob) : Prop := o.s ≠ ⟨#[81]⟩ ∧ o.s ≠ ⟨#[99, 109]⟩ ∧ o.s ≠ ⟨#[66, 84]⟩ ∧ o.s ≠ ⟨#[84, 100]⟩ ∧ o.s ≠ ⟨#[84, 102]⟩ ∧ o.s ≠ ⟨#[84, 106]⟩

/-- The objects of an operator that lies somewhere. -/
theorem lies_opL {P : Nat → Prop} {w : World} {o : Ob} {h : Hd} (hl : Lies (Cel P w) o h) : OpL w o.l h.p := fun i hi => by
  obtain ⟨x, b, off, ⟨p', c', q', e'⟩, hxe, hpe, -, hbl, hx, y0, y1, y2, y3, y4, y5⟩ := hl.elem i hi
  rw [hxe]
  exact ⟨b, off, hpe, hbl, y0, y2⟩

theorem step_any (wB : World) (pb sb : Nat) (P Q : Pen) (o : Ob) (p : Option Addr) (cp : Nat) (w : World) (hR : PenR wB pb sb w P) (ho : OpL w o.l p) (hD : Drw P o Q) (hB : Basic o) (hl : P.path.length ≤ 274877906944) :
    Calls Tryz.prog 28 #[.pointer (some ⟨pb, 0, none⟩), .agg #[.string o.s, .slice p o.l.length cp]] w fun e w' => e = .returned (.int .i64 0) ∧ PenR wB pb sb w' Q := by
  have hl2 : P.path.length ≤ 549755813888 := by omega
  obtain ⟨b1, b2, b3, b4, b5, b6⟩ := hB
  cases hD with
  | q l h => exact step_q wB pb sb P l p cp w hR ho (fun i hi => absurd hi (Nat.not_lt_zero _)) h
  | bigQ l ks s h h2 => exact absurd rfl b1
  | cm l n h he => exact absurd rfl b2
  | w l x h => exact step_w wB pb sb P l p cp x w hR ho h
  | g l x h => exact step_g wB pb sb P l p cp x w hR ho h
  | bigG l x h => exact step_bigG wB pb sb P l p cp x w hR ho h
  | rg l x y z h => exact step_rg wB pb sb P l p cp x y z w hR ho h
  | m l x y h he => exact step_m wB pb sb P l p cp x y w hR ho h he hl2
  | l l x y h he => exact step_l wB pb sb P l p cp x y w hR ho h he hl2
  | re l x y u v h e1 e2 a1 a2 a3 a4 => exact step_re wB pb sb P l p cp x y u v w hR ho h e1 e2 a1 a2 a3 a4 hl
  | f l h => exact step_f wB pb sb P l p cp w hR ho (fun i hi => absurd hi (Nat.not_lt_zero _)) h hl2
  | bigS l h => exact step_bigS wB pb sb P l p cp w hR ho (fun i hi => absurd hi (Nat.not_lt_zero _)) h hl2
  | bigB l h => exact step_bigB wB pb sb P l p cp w hR ho (fun i hi => absurd hi (Nat.not_lt_zero _)) h hl2
  | s l h => exact step_s wB pb sb P l p cp w hR ho (fun i hi => absurd hi (Nat.not_lt_zero _)) h hl2
  | n l => exact step_n wB pb sb P l p cp w hR ho (fun i hi => absurd hi (Nat.not_lt_zero _)) hl2
  | bt l => exact absurd rfl b3
  | td l x y h he => exact absurd rfl b4
  | tf o l x hk h => exact absurd rfl b5
  | tj o l hk he h => exact absurd rfl b6
  | none s l h => exact step_none wB pb sb P l p cp s w hR ho (fun t ht e => h (by rw [e]; exact ht))

/-- The path grows by five points at most. -/
theorem Px.Drw.len {P Q : Pen} {o : Ob} (h : Drw P o Q) : Q.path.length ≤ P.path.length + 5 := by
  cases h <;> simp [Pen.setSt, Pen.point, Pen.shut, Pen.paint] <;> omega

/-- A pen that begins. -/
theorem pen_new {w : World} {pb sb : Nat} (hlt : sb < pb) (hpen : Blk w pb (penC newPen (.slice none 0 0) (.slice none 0 0) sb) 89) (hsh : Blk w sb (sheetC (.slice none 0 0)) 67) : PenR w pb sb w newPen :=
  ⟨.slice none 0 0, .slice none 0 0, .slice none 0 0, [], rfl, hpen, hsh, ⟨hlt, hpen.lt⟩, World.ownsRow_nil _ _ _ _, World.ownsRow_nil _ _ _ _, World.ownsRow_nil _ _ _ _, fun b h => (by cases h), fun b h => (by cases h), fun b h => (by cases h), fun r hr => (by cases hr), F2.refl _ _ _⟩
theorem PenR.fr {wB w : World} {pb sb : Nat} {P : Pen} (h : PenR wB pb sb w P) : F2 pb sb wB w := by
  obtain ⟨kv, pv, iv, I, -, h⟩ := h
  exact PenM.fr h

set_option maxRecDepth 100000 in
set_option maxHeartbeats 8000000 in
theorem draw_any (pb sb : Nat) (v : Value) (s : ByteArray) (w : World) (hs : s.size ≤ 4294967295) (hm : HasMax w) (hlt : sb < pb)
    (hpen : Blk w pb (penC newPen (.slice none 0 0) (.slice none 0 0) sb) 89) (hsh : Blk w sb (sheetC (.slice none 0 0)) 67)
    (hcv : (convert 46 9 v).run Tryz.prog w = .ok (.string s) w)
    (os : List Ob) (hX : opsV s.data.toList = (0, os)) (hos : ∀ o ∈ os, Basic o) (hnum : os.length ≤ 65536) (Q : Pen) (hD : Drws newPen os Q) :
    Calls Tryz.prog 22 #[.pointer (some ⟨pb, 0, none⟩), v] w fun e w' => e = .returned (.int .i64 0) ∧ ∃ wB, Kept w wB ∧ PenR wB pb sb w' Q := by
  have PA := Lib.hid (OpsParse_any s w hs hm _ hX.symm)
  unfold OpsPost at PA
  simp only [] at PA
  have HP := Lib.hid hpen
  have HS := Lib.hid hsh
  have HD := Lib.hid hD
  have HO := Lib.hid hos
  have hpz := hpen.lt
  clear hm hpen hsh hX hD hos
  go_enter Tryz.func22, Tryz.ntmps22
  go_wp2_with fail
  (with_reducible refine PA.out.mono ?_)
  rintro e w1 ⟨p, c, rs, rfl, hk1, hm1, hr1⟩
  have K1 := Lib.hid hk1
  have HR := Lib.hid hr1
  have N0 := Lib.hid (pen_new hlt (HP.out.kept hk1) (HS.out.kept hk1))
  obtain ⟨n, hn⟩ : ∃ n, n = os.length := ⟨_, rfl⟩
  have HN := Lib.hid hn
  have hln : rs.length = os.length := by have := congrArg List.length hm1; rwa [List.length_map] at this
  have HLN := Lib.hid hln
  have HM := Lib.hid hm1
  rw [← hn] at hnum ⊢
  clear hk1 hm1 hr1 hn hln PA hcv
  go_wp2_with fail
  go_loopg [21] n (fun m i wr => ∃ (j : Nat) (P : Pen), m = n - j ∧ j ≤ n ∧ i = .int .i64 j ∧ P.path.length ≤ 5 * j ∧ Hid (Drws P (os.drop j) Q) ∧ Hid (PenR w1 pb sb wr P))
  case atStart => exact ⟨0, newPen, by omega, Nat.zero_le _, rfl, by simp [newPen], Lib.hid (by rw [List.drop_zero]; exact HD.out), N0⟩
  case round =>
    obtain ⟨j, P, hm, hj, rfl, hpl, HDJ, HPJ⟩ := hrel
    by_cases hlt2 : j < n
    · have j1 : (j : Int) < (n : Int) := by omega
      have hjr : j < rs.length := by have := HN.out; have := HLN.out; omega
      have hF := HPJ.out.fr
      have HRJ := Lib.hid (HR.out.keep (P' := fun _ => True) hF.size fun b hb hbl => ⟨trivial, hF.block b hbl (by omega) (by omega)⟩)
      obtain ⟨kb, off, hp, -, hbl, k0, k1⟩ := HRJ.out.at' j hjr
      have HLI := Lib.hid (HRJ.out.lies _ (List.getElem_mem hjr))
      subst hp
      obtain ⟨r, hr⟩ : ∃ r, rs[j] = r := ⟨_, rfl⟩
      rw [hr] at k0 k1 HLI
      have ho : os.drop j = r.1 :: os.drop (j + 1) := by
        have e : (rs.map (·.1)).drop j = r.1 :: (rs.map (·.1)).drop (j + 1) := by
          rw [List.drop_eq_getElem_cons (by rw [List.length_map]; exact hjr), List.getElem_map, hr]
        rwa [HM.out] at e
      have hmem : r.1 ∈ os := List.mem_of_mem_drop (i := j) (by rw [ho]; exact List.mem_cons_self)
      have hDD := HDJ.out
      rw [ho] at hDD
      obtain ⟨R, hD1, hD2⟩ : ∃ R, Drw P r.1 R ∧ Drws R (os.drop (j + 1)) Q := by
        cases hDD with
        | cons h t => exact ⟨_, h, t⟩
      have hRl := hD1.len
      have HD2 := Lib.hid hD2
      obtain ⟨⟨xk, xn, xf, nm, xl, xd⟩, ⟨hp, hc, hq, he⟩⟩ := r
      have ST := Lib.hid (fun wx (k : Kept wr wx) => step_any w1 pb sb P R _ hp hc wx (HPJ.out.kept k) (lies_opL (HLI.out.kept k)) hD1 (HO.out _ hmem) (by omega))
      simp only [Ob.s, Ob.l] at k0 k1 ST
      obtain ⟨L, hL⟩ : ∃ L, L = xl.length := ⟨_, rfl⟩
      rw [← hL] at k1 ST
      clear ho hmem hDD hD1 hD2 hr hL hF
      go_wp2_with fail
      (with_reducible refine (ST.out _ ((Kept.refl _).alloc _ _)).mono ?_)
      rintro e w3 ⟨rfl, h3⟩
      have H3 := Lib.hid h3
      clear h3 k0 k1
      go_wp2_with fail
      go_roundg (n - (j + 1))
      case measure => omega
      case rel => exact ⟨j + 1, R, rfl, by omega, by go_num, by omega, HD2, H3⟩
    · obtain rfl : j = n := by omega
      have hq : Q = P := by
        have h := HDJ.out
        rw [List.drop_eq_nil_of_le (by rw [← HN.out]; exact Nat.le_refl _)] at h
        cases h; rfl
      subst hq
      go_wp2_with fail
      go_ret
      exact ⟨rfl, w1, K1.out, HPJ.out⟩

end Go.Proofs.YtbgdeaeikijdgaaGreatDoor

namespace Go.Proofs.YtbgdeaeikijdgaaGreatDoor
open Go.RowKit Cx Px
set_option linter.unusedSimpArgs false
set_option linter.unusedVariables false

abbrev nulO : Value := .agg #[.int .i64 0, .int .i64 0, .int .i64 0, .string ⟨#[]⟩, .slice none 0 0, .slice none 0 0]
abbrev nulF : Value := .agg #[.slice none 0 0, .int .i64 0, .int .i64 0, .int .i64 0, .string ⟨#[]⟩, .slice none 0 0, .slice none 0 0]
abbrev stV (s : St) : Value := .agg #[.int .i64 s.m.a, .int .i64 s.m.b, .int .i64 s.m.c, .int .i64 s.m.d, .int .i64 s.m.e, .int .i64 s.m.f, .int .i64 s.c.r, .int .i64 s.c.g, .int .i64 s.c.b, .int .i64 s.d.r, .int .i64 s.d.g, .int .i64 s.d.b, .int .i64 s.w, .string s.font, .int .i64 s.size, .int .i64 s.lead]

set_option maxRecDepth 100000 in
set_option maxHeartbeats 8000000 in
theorem start_any (w : World) :
    Calls Tryz.prog 20 #[.agg #[.int .i64 1000, .int .i64 0, .int .i64 0, .int .i64 1000, .int .i64 0, .int .i64 0]] w fun e w' => e = .returned (stV (Px.start Px.unit)) ∧ Kept w w' := by
  go_enter Tryz.func20, Tryz.ntmps20
  go_wp2_with fail
  refine bodyPost_ret (v := .agg #[.int .i64 1000, .int .i64 0, .int .i64 0, .int .i64 1000, .int .i64 0, .int .i64 0, .int .i64 0, .int .i64 0, .int .i64 0, .int .i64 0, .int .i64 0, .int .i64 0, .int .i64 1000, .string ⟨#[]⟩, .int .i64 0, .int .i64 0]) ?_ rfl ⟨rfl, ?_⟩
  · simp [results, Tryz.results20, go_sem]
  · repeat (with_reducible first | exact Kept.refl _ | refine Kept.set ?_ (Nat.le_refl _) _ | refine Kept.alloc ?_ _ _ | refine Kept.drew ?_)

set_option maxRecDepth 100000 in
set_option maxHeartbeats 16000000 in
theorem newPen_any (sb : Nat) (w : World) (hsb : sb < w.heap.size) :
    Calls Tryz.prog 19 #[.pointer (some ⟨sb, 0, none⟩), .agg #[.int .i64 1000, .int .i64 0, .int .i64 0, .int .i64 1000, .int .i64 0, .int .i64 0, .int .i64 0, .int .i64 0, .int .i64 0, .int .i64 0, .int .i64 0, .int .i64 0, .int .i64 1000, .string ⟨#[]⟩, .int .i64 0, .int .i64 0], nulO] w fun e w' => ∃ pb, e = .returned (.pointer (some ⟨pb, 0, none⟩)) ∧ Kept w w' ∧ sb < pb ∧ Blk w' pb (penC newPen (.slice none 0 0) (.slice none 0 0) sb) 89 := by
  have UN := Lib.hid (fun w => Unit_any w)
  have K2 := Lib.hid (((Kept.refl w).alloc #[.int .i64 1000, .int .i64 0, .int .i64 0, .int .i64 1000, .int .i64 0, .int .i64 0, .int .i64 0, .int .i64 0, .int .i64 0, .int .i64 0, .int .i64 0, .int .i64 0, .int .i64 1000, .string ⟨#[]⟩, .int .i64 0, .int .i64 0] 72).alloc #[.int .i64 0, .int .i64 0, .int .i64 0, .string ⟨#[]⟩, .slice none 0 0, .slice none 0 0] 43)
  have BA := Lib.hid ((Blk.fresh w #[.int .i64 1000, .int .i64 0, .int .i64 0, .int .i64 1000, .int .i64 0, .int .i64 0, .int .i64 0, .int .i64 0, .int .i64 0, .int .i64 0, .int .i64 0, .int .i64 0, .int .i64 1000, .string ⟨#[]⟩, .int .i64 0, .int .i64 0] 72).alloc (.cells #[.int .i64 0, .int .i64 0, .int .i64 0, .string ⟨#[]⟩, .slice none 0 0, .slice none 0 0] 43 (0, 0)))
  have BB := Lib.hid (Blk.fresh' (w := w.alloc (.cells #[.int .i64 1000, .int .i64 0, .int .i64 0, .int .i64 1000, .int .i64 0, .int .i64 0, .int .i64 0, .int .i64 0, .int .i64 0, .int .i64 0, .int .i64 0, .int .i64 0, .int .i64 1000, .string ⟨#[]⟩, .int .i64 0, .int .i64 0] 72 (0, 0))) (b := w.heap.size + 1) #[.int .i64 0, .int .i64 0, .int .i64 0, .string ⟨#[]⟩, .slice none 0 0, .slice none 0 0] 43 (by simp))
  go_enter Tryz.func19, Tryz.ntmps19
  go_wp2_with fail
  go_region_held3 (fun w' => w'.cell? ⟨w.heap.size, 0, none⟩ = some (.int .i64 1000) ∧ w'.cell? ⟨w.heap.size, 1, none⟩ = some (.int .i64 0) ∧ w'.cell? ⟨w.heap.size, 2, none⟩ = some (.int .i64 0) ∧ w'.cell? ⟨w.heap.size, 3, none⟩ = some (.int .i64 1000) ∧ w'.cell? ⟨w.heap.size, 4, none⟩ = some (.int .i64 0) ∧ w'.cell? ⟨w.heap.size, 5, none⟩ = some (.int .i64 0) ∧ w'.cell? ⟨w.heap.size, 6, none⟩ = some (.int .i64 0) ∧ w'.cell? ⟨w.heap.size, 7, none⟩ = some (.int .i64 0) ∧ w'.cell? ⟨w.heap.size, 8, none⟩ = some (.int .i64 0) ∧ w'.cell? ⟨w.heap.size, 9, none⟩ = some (.int .i64 0) ∧ w'.cell? ⟨w.heap.size, 10, none⟩ = some (.int .i64 0) ∧ w'.cell? ⟨w.heap.size, 11, none⟩ = some (.int .i64 0) ∧ w'.cell? ⟨w.heap.size, 12, none⟩ = some (.int .i64 1000) ∧ w'.cell? ⟨w.heap.size, 13, none⟩ = some (.string ⟨#[]⟩) ∧ w'.cell? ⟨w.heap.size, 14, none⟩ = some (.int .i64 0) ∧ w'.cell? ⟨w.heap.size, 15, none⟩ = some (.int .i64 0) ∧ w'.cell? ⟨w.heap.size + 1, 0, none⟩ = some (.int .i64 0) ∧ w'.cell? ⟨w.heap.size + 1, 1, none⟩ = some (.int .i64 0) ∧ w'.cell? ⟨w.heap.size + 1, 2, none⟩ = some (.int .i64 0) ∧ w'.cell? ⟨w.heap.size + 1, 3, none⟩ = some (.string ⟨#[]⟩) ∧ w'.cell? ⟨w.heap.size + 1, 4, none⟩ = some (.slice none 0 0) ∧ w'.cell? ⟨w.heap.size + 1, 5, none⟩ = some (.slice none 0 0)) (first | go_keep | exact ⟨a0, a1, a2, a3, a4, a5, a6, a7, a8, a9, a10, a11, a12, a13, a14, a15, b0, b1, b2, b3, b4, b5⟩)
    ((go_at_call 13; (with_reducible refine (UN.out _).mono ?_); rintro e wn ⟨rfl, kn⟩; (first | (with_reducible have KN := Lib.hid (K2.out.trans kn); have a0 := (BA.out.kept kn).cell 0; have a1 := (BA.out.kept kn).cell 1; have a2 := (BA.out.kept kn).cell 2; have a3 := (BA.out.kept kn).cell 3; have a4 := (BA.out.kept kn).cell 4; have a5 := (BA.out.kept kn).cell 5; have a6 := (BA.out.kept kn).cell 6; have a7 := (BA.out.kept kn).cell 7; have a8 := (BA.out.kept kn).cell 8; have a9 := (BA.out.kept kn).cell 9; have a10 := (BA.out.kept kn).cell 10; have a11 := (BA.out.kept kn).cell 11; have a12 := (BA.out.kept kn).cell 12; have a13 := (BA.out.kept kn).cell 13; have a14 := (BA.out.kept kn).cell 14; have a15 := (BA.out.kept kn).cell 15; have b0 := (BB.out.kept kn).cell 0; have b1 := (BB.out.kept kn).cell 1; have b2 := (BB.out.kept kn).cell 2; have b3 := (BB.out.kept kn).cell 3; have b4 := (BB.out.kept kn).cell 4; have b5 := (BB.out.kept kn).cell 5) | (with_reducible have KN := Lib.hid (K2.out.drew.trans kn); have a0 := (BA.out.drew.kept kn).cell 0; have a1 := (BA.out.drew.kept kn).cell 1; have a2 := (BA.out.drew.kept kn).cell 2; have a3 := (BA.out.drew.kept kn).cell 3; have a4 := (BA.out.drew.kept kn).cell 4; have a5 := (BA.out.drew.kept kn).cell 5; have a6 := (BA.out.drew.kept kn).cell 6; have a7 := (BA.out.drew.kept kn).cell 7; have a8 := (BA.out.drew.kept kn).cell 8; have a9 := (BA.out.drew.kept kn).cell 9; have a10 := (BA.out.drew.kept kn).cell 10; have a11 := (BA.out.drew.kept kn).cell 11; have a12 := (BA.out.drew.kept kn).cell 12; have a13 := (BA.out.drew.kept kn).cell 13; have a14 := (BA.out.drew.kept kn).cell 14; have a15 := (BA.out.drew.kept kn).cell 15; have b0 := (BB.out.drew.kept kn).cell 0; have b1 := (BB.out.drew.kept kn).cell 1; have b2 := (BB.out.drew.kept kn).cell 2; have b3 := (BB.out.drew.kept kn).cell 3; have b4 := (BB.out.drew.kept kn).cell 4; have b5 := (BB.out.drew.kept kn).cell 5))))
  all_goals
    go_wp2_with fail
    go_ret
    exact ⟨_, rfl, by repeat (with_reducible first | exact KN.out | refine Kept.drew ?_ | refine Kept.alloc ?_ _ _), by have := Below.size KN.out; omega, by first | exact Blk.fresh _ _ _ | exact (Blk.fresh _ _ _).drew⟩

theorem F2.toKept {pb sb : Nat} {w wB w' : World} (h : F2 pb sb wB w') (k : Kept w wB) (hs : w.heap.size ≤ sb) (hp : w.heap.size ≤ pb) : Kept w w' :=
  ⟨h.os.trans k.os, h.tape.trans k.tape, h.output.trans k.output, Nat.le_trans (Below.size k) h.size, fun b hb => (h.block b (Nat.lt_of_lt_of_le hb (Below.size k)) (by omega) (by omega)).trans (k.block b hb)⟩

set_option maxRecDepth 100000 in
set_option maxHeartbeats 16000000 in
theorem Run_any (v : Value) (s : ByteArray) (w : World) (hs : s.size ≤ 4294967295) (hm : HasMax w)
    (hcv : ∀ W, Kept w W → (convert 46 9 v).run Tryz.prog W = .ok (.string s) W)
    (os : List Ob) (hX : opsV s.data.toList = (0, os)) (hos : ∀ o ∈ os, Basic o) (hnum : os.length ≤ 65536) (Q : Pen) (hD : Drws newPen os Q) :
    Calls Tryz.prog 12 #[nulF, nulO, v] w fun e w' => ∃ I p c, e = .returned (.tuple #[.slice p I.length c, .int .i64 0]) ∧ Kept w w' ∧ I.map (·.1) = Q.out ∧ ItR (fun _ => True) w' p I := by
  have UN := Lib.hid (fun w => Unit_any w)
  have SA := Lib.hid (fun w => show Calls Tryz.prog 20 #[.agg #[.int .i64 1000, .int .i64 0, .int .i64 0, .int .i64 1000, .int .i64 0, .int .i64 0]] w (fun e w' => e = .returned (.agg #[.int .i64 1000, .int .i64 0, .int .i64 0, .int .i64 1000, .int .i64 0, .int .i64 0, .int .i64 0, .int .i64 0, .int .i64 0, .int .i64 0, .int .i64 0, .int .i64 0, .int .i64 1000, .string ⟨#[]⟩, .int .i64 0, .int .i64 0]) ∧ Kept w w') from start_any w)
  have K3 := Lib.hid ((((Kept.refl w).alloc #[.slice none 0 0, .int .i64 0, .int .i64 0, .int .i64 0, .string ⟨#[]⟩, .slice none 0 0, .slice none 0 0] 45).alloc #[.int .i64 0, .int .i64 0, .int .i64 0, .string ⟨#[]⟩, .slice none 0 0, .slice none 0 0] 43).alloc #[.slice none 0 0, .int .i64 0, .int .i64 0, .int .i64 0, .string ⟨#[]⟩, .slice none 0 0, .slice none 0 0, .slice none 0 0] 67)
  have BO := Lib.hid (fun W (k : Kept (((w.alloc (.cells #[.slice none 0 0, .int .i64 0, .int .i64 0, .int .i64 0, .string ⟨#[]⟩, .slice none 0 0, .slice none 0 0] 45 (0, 0))).alloc (.cells #[.int .i64 0, .int .i64 0, .int .i64 0, .string ⟨#[]⟩, .slice none 0 0, .slice none 0 0] 43 (0, 0))).alloc (.cells #[.slice none 0 0, .int .i64 0, .int .i64 0, .int .i64 0, .string ⟨#[]⟩, .slice none 0 0, .slice none 0 0, .slice none 0 0] 67 (0, 0))) W) => ((Blk.fresh' (w := w.alloc (.cells #[.slice none 0 0, .int .i64 0, .int .i64 0, .int .i64 0, .string ⟨#[]⟩, .slice none 0 0, .slice none 0 0] 45 (0, 0))) (b := w.heap.size + 1) #[.int .i64 0, .int .i64 0, .int .i64 0, .string ⟨#[]⟩, .slice none 0 0, .slice none 0 0] 43 (by simp)).alloc (.cells #[.slice none 0 0, .int .i64 0, .int .i64 0, .int .i64 0, .string ⟨#[]⟩, .slice none 0 0, .slice none 0 0, .slice none 0 0] 67 (0, 0))).kept k)
  have BS := Lib.hid (fun W (k : Kept (((w.alloc (.cells #[.slice none 0 0, .int .i64 0, .int .i64 0, .int .i64 0, .string ⟨#[]⟩, .slice none 0 0, .slice none 0 0] 45 (0, 0))).alloc (.cells #[.int .i64 0, .int .i64 0, .int .i64 0, .string ⟨#[]⟩, .slice none 0 0, .slice none 0 0] 43 (0, 0))).alloc (.cells #[.slice none 0 0, .int .i64 0, .int .i64 0, .int .i64 0, .string ⟨#[]⟩, .slice none 0 0, .slice none 0 0, .slice none 0 0] 67 (0, 0))) W) => show Blk W (w.heap.size + 1 + 1) (sheetC (.slice none 0 0)) 67 from (Blk.fresh' (w := (w.alloc (.cells #[.slice none 0 0, .int .i64 0, .int .i64 0, .int .i64 0, .string ⟨#[]⟩, .slice none 0 0, .slice none 0 0] 45 (0, 0))).alloc (.cells #[.int .i64 0, .int .i64 0, .int .i64 0, .string ⟨#[]⟩, .slice none 0 0, .slice none 0 0] 43 (0, 0))) (b := w.heap.size + 1 + 1) #[.slice none 0 0, .int .i64 0, .int .i64 0, .int .i64 0, .string ⟨#[]⟩, .slice none 0 0, .slice none 0 0, .slice none 0 0] 67 (by simp)).kept k)
  have NP := Lib.hid (fun W (h : w.heap.size + 1 + 1 < W.heap.size) => show Calls Tryz.prog 19 #[.pointer (some ⟨w.heap.size + 1 + 1, 0, none⟩), .agg #[.int .i64 1000, .int .i64 0, .int .i64 0, .int .i64 1000, .int .i64 0, .int .i64 0, .int .i64 0, .int .i64 0, .int .i64 0, .int .i64 0, .int .i64 0, .int .i64 0, .int .i64 1000, .string ⟨#[]⟩, .int .i64 0, .int .i64 0], .agg #[.int .i64 0, .int .i64 0, .int .i64 0, .string ⟨#[]⟩, .slice none 0 0, .slice none 0 0]] W _ from newPen_any (w.heap.size + 1 + 1) W h)
  obtain ⟨W3, hW3⟩ : ∃ W3, W3 = (((w.alloc (.cells #[.slice none 0 0, .int .i64 0, .int .i64 0, .int .i64 0, .string ⟨#[]⟩, .slice none 0 0, .slice none 0 0] 45 (0, 0))).alloc (.cells #[.int .i64 0, .int .i64 0, .int .i64 0, .string ⟨#[]⟩, .slice none 0 0, .slice none 0 0] 43 (0, 0))).alloc (.cells #[.slice none 0 0, .int .i64 0, .int .i64 0, .int .i64 0, .string ⟨#[]⟩, .slice none 0 0, .slice none 0 0, .slice none 0 0] 67 (0, 0))) := ⟨_, rfl⟩
  have HW3 := Lib.hid hW3
  have KR := Lib.hid (Kept.refl W3)
  rw [← hW3] at K3 BO BS
  have DR := Lib.hid (fun pb w' (k : Kept w w') (hlt : w.heap.size + 1 + 1 < pb) (hpen : Blk w' pb (penC newPen (.slice none 0 0) (.slice none 0 0) (w.heap.size + 1 + 1)) 89) (hsh : Blk w' (w.heap.size + 1 + 1) (sheetC (.slice none 0 0)) 67) =>
    draw_any pb (w.heap.size + 1 + 1) v s w' hs (hm.kept k) hlt hpen hsh (hcv w' k) os hX hos hnum Q hD)
  clear hs hm hcv hX hos hD hnum
  go_enter Tryz.func12, Tryz.ntmps12
  go_wp2_with fail
  rw [← hW3]
  obtain ⟨o0, o1, o2, o3, o4, o5⟩ := (BO.out _ KR.out).cells6
  clear hW3
  go_region_held3 (fun w' => w'.cell? ⟨w.heap.size + 1, 0, none⟩ = some (.int .i64 0) ∧ w'.cell? ⟨w.heap.size + 1, 1, none⟩ = some (.int .i64 0) ∧ w'.cell? ⟨w.heap.size + 1, 2, none⟩ = some (.int .i64 0) ∧ w'.cell? ⟨w.heap.size + 1, 3, none⟩ = some (.string ⟨#[]⟩) ∧ w'.cell? ⟨w.heap.size + 1, 4, none⟩ = some (.slice none 0 0) ∧ w'.cell? ⟨w.heap.size + 1, 5, none⟩ = some (.slice none 0 0)) (first | go_keep | exact ⟨o0, o1, o2, o3, o4, o5⟩)
    (first
      | (go_at_call 13; (with_reducible refine (UN.out _).mono ?_); rintro e w1 ⟨rfl, k1⟩; (first | (with_reducible have K1 := Lib.hid (KR.out.trans k1)) | (with_reducible have K1 := Lib.hid (KR.out.drew.trans k1))); obtain ⟨o0, o1, o2, o3, o4, o5⟩ := (BO.out _ K1.out).cells6)
      | (go_at_call 20; (with_reducible refine (SA.out _).mono ?_); rintro e w2 ⟨rfl, k2⟩; (first | (with_reducible have K2 := Lib.hid (K1.out.trans k2)) | (with_reducible have K2 := Lib.hid (K1.out.drew.trans k2))); obtain ⟨o0, o1, o2, o3, o4, o5⟩ := (BO.out _ K2.out).cells6)
      | (go_at_call 19; (with_reducible refine (NP.out _ (by have := (BS.out _ K2.out).lt; first | exact this | simpa using this)).mono ?_); rintro e w4 ⟨pb, rfl, k4, hlt, hpen⟩; (first | (with_reducible have K4 := Lib.hid (K2.out.trans k4)) | (with_reducible have K4 := Lib.hid (K2.out.drew.trans k4))); have HPEN := Lib.hid hpen; obtain ⟨o0, o1, o2, o3, o4, o5⟩ := (BO.out _ K4.out).cells6))
  all_goals
    go_wp2_with fail
    (with_reducible refine (DR.out pb _ (by repeat (with_reducible first | exact K3.out.trans K4.out | refine Kept.drew ?_)) hlt (by first | exact HPEN.out | exact HPEN.out.drew) (by first | exact BS.out _ K4.out | exact (BS.out _ K4.out).drew)).mono ?_)
    rintro e w5 ⟨rfl, wB, hkB, hP⟩
    have TO := Lib.hid (told_any wB pb (w.heap.size + 1 + 1) Q w5 hP)
    have KF := Lib.hid (hP.fr.toKept (w := w) ((by repeat (with_reducible first | exact K3.out.trans K4.out | refine Kept.drew ?_) : Kept w _).trans hkB) (by omega) (by omega))
    clear hP hkB
    go_wp2_with fail
    (with_reducible refine TO.out.mono ?_)
    rintro e w6 ⟨I, p, c, rfl, hk6, hI, hR⟩
    have K6 := Lib.hid (KF.out.trans hk6)
    have HII := Lib.hid hI
    have HRR := Lib.hid hR.any
    clear hk6 hI hR
    go_wp2_with fail
    go_ret2
    exact ⟨I, p, c, rfl, K6.out, HII.out, HRR.out⟩

end Go.Proofs.YtbgdeaeikijdgaaGreatDoor
