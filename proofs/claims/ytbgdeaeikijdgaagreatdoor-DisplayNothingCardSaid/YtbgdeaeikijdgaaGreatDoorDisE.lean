/-
  == between matrices, and between rectangles: number by number.
  == between points, matrices and colours; and between items: what package display's Same answers of two.
  Whether two paths are the same; what it is that two items draw the same.
  Whether two items draw the same.
-/
import Derived.Test.YtbgdeaeikijdgaaGreatDoorXBase
import Derived.ChangeKeysEq
import Derived.Laws.StructEq
import Derived.Test.YtbgdeaeikijdgaaGreatDoorDisM
import Derived.Deep.LoopGhost
import Derived.BigQuiet
import Derived.Deep.QuietTactic
namespace Go.Proofs.YtbgdeaeikijdgaaGreatDoor
open Go.RowKit

theorem fix_part {xs : Array Value} {o : Nat} {v : Value} (w : World) (h : xs[o]? = some v) : (part 26 xs o).run Tryz.prog w = .ok v w :=
  run_part_plain w (show Tryz.prog.plainKey 26 = true by kernel_rfl) h
theorem fix_info : ∃ i, Tryz.prog.info? 26 = some i := by
  cases h : Tryz.prog.info? 26 with
  | some i => exact ⟨i, rfl⟩
  | none => exact absurd h (by
      have : (Tryz.prog.info? 26).isSome = true := by kernel_rfl
      intro k; rw [k] at this; cases this)
theorem fix_cells : Tryz.prog.cellsOf 26 = 1 := by kernel_rfl

theorem eqItems_nil (xs ys : Array Value) (w : World) : (Op.eqItems 9999 26 1 xs ys []).run Tryz.prog w = .ok true w := by simp [Op.eqItems]
theorem eqItems_step {xs ys : Array Value} {i : Nat} {is : List Nat} {a b : Int} {r : Bool} (w : World) (hx : xs[i]? = some (.int .i64 a)) (hy : ys[i]? = some (.int .i64 b)) (h : (Op.eqItems 9999 26 1 xs ys is).run Tryz.prog w = .ok r w) :
    (Op.eqItems 9999 26 1 xs ys (i :: is)).run Tryz.prog w = .ok (a == b && r) w := by
  have E : (Op.equalIn 9999 26 (.int .i64 a) (.int .i64 b)).run Tryz.prog w = .ok (a == b) w := run_equalIn_int w 9998 _ .i64 .i64 a b Tryz.underlying26
  simp only [Op.eqItems, Sem.run_bind, Nat.mul_one, fix_part w hx, fix_part w hy, Result.andThen_ok, E]
  cases h' : (a == b)
  · simp
  · simpa using h

theorem eqIn_mat (a0 a1 a2 a3 a4 a5 b0 b1 b2 b3 b4 b5 : Int) (w : World) :
    (Op.equalIn 10000 28 (.agg #[.int .i64 a0, .int .i64 a1, .int .i64 a2, .int .i64 a3, .int .i64 a4, .int .i64 a5]) (.agg #[.int .i64 b0, .int .i64 b1, .int .i64 b2, .int .i64 b3, .int .i64 b4, .int .i64 b5])).run Tryz.prog w = .ok (a0 == b0 && (a1 == b1 && (a2 == b2 && (a3 == b3 && (a4 == b4 && (a5 == b5 && true)))))) w := by
  obtain ⟨i, hi⟩ := fix_info
  rw [run_equalIn_array w 9999 _ _ Tryz.underlying28 hi, fix_cells, show List.range 6 = [0, 1, 2, 3, 4, 5] from rfl]
  exact eqItems_step (i := 0) (a := a0) (b := b0) w rfl rfl (eqItems_step (i := 1) (a := a1) (b := b1) w rfl rfl (eqItems_step (i := 2) (a := a2) (b := b2) w rfl rfl (eqItems_step (i := 3) (a := a3) (b := b3) w rfl rfl (eqItems_step (i := 4) (a := a4) (b := b4) w rfl rfl (eqItems_step (i := 5) (a := a5) (b := b5) w rfl rfl (eqItems_nil _ _ _))))))
theorem eql_mat (a0 a1 a2 a3 a4 a5 b0 b1 b2 b3 b4 b5 : Int) (w : World) :
    (binOp .eql 28 (.agg #[.int .i64 a0, .int .i64 a1, .int .i64 a2, .int .i64 a3, .int .i64 a4, .int .i64 a5]) (.agg #[.int .i64 b0, .int .i64 b1, .int .i64 b2, .int .i64 b3, .int .i64 b4, .int .i64 b5])).run Tryz.prog w = .ok (.bool (a0 == b0 && (a1 == b1 && (a2 == b2 && (a3 == b3 && (a4 == b4 && (a5 == b5 && true))))))) w := by
  rw [run_eql_struct, eqIn_mat]; rfl
theorem eql_mat_same (a0 a1 a2 a3 a4 a5 : Int) (w : World) :
    (binOp .eql 28 (.agg #[.int .i64 a0, .int .i64 a1, .int .i64 a2, .int .i64 a3, .int .i64 a4, .int .i64 a5]) (.agg #[.int .i64 a0, .int .i64 a1, .int .i64 a2, .int .i64 a3, .int .i64 a4, .int .i64 a5])).run Tryz.prog w = .ok (.bool true) w := by
  rw [eql_mat]; simp

end Go.Proofs.YtbgdeaeikijdgaaGreatDoor

namespace Go.Proofs.YtbgdeaeikijdgaaGreatDoor
open Go.RowKit Cx Px
set_option linter.unusedSimpArgs false
set_option linter.unusedVariables false

theorem pt_fields : ∃ f g h : Field, (Tryz.prog.fieldsOf 48).toList = [f, g, h] ∧ f.name ≠ "_" ∧ g.name ≠ "_" ∧ h.name ≠ "_" ∧ (f.offset, f.type) = (0, 9) ∧ (g.offset, g.type) = (1, 26) ∧ (h.offset, h.type) = (2, 26) := by
  have key : ((Tryz.prog.fieldsOf 48).toList.map (fun f => (f.name, f.offset, f.type))) = [("Op", 0, 9), ("X", 1, 26), ("Y", 2, 26)] := by kernel_rfl
  match h : (Tryz.prog.fieldsOf 48).toList with
  | [f, g, k] =>
    rw [h] at key
    simp only [List.map_cons, List.map_nil, List.cons.injEq, Prod.mk.injEq, and_true] at key
    obtain ⟨⟨a1, a2, a3⟩, ⟨b1, b2, b3⟩, c1, c2, c3⟩ := key
    exact ⟨f, g, k, rfl, by rw [a1]; decide, by rw [b1]; decide, by rw [c1]; decide, by rw [a2, a3], by rw [b2, b3], by rw [c2, c3]⟩
  | [] => rw [h] at key; have := congrArg List.length key; simp at this
  | [_] => rw [h] at key; have := congrArg List.length key; simp at this
  | [_, _] => rw [h] at key; have := congrArg List.length key; simp at this
  | _ :: _ :: _ :: _ :: _ => rw [h] at key; have := congrArg List.length key; simp at this
theorem str_part {xs : Array Value} {o : Nat} {v : Value} (w : World) (h : xs[o]? = some v) : (part 9 xs o).run Tryz.prog w = .ok v w :=
  run_part_plain w (show Tryz.prog.plainKey 9 = true by kernel_rfl) h
theorem eqIn_pt (a b : ByteArray) (x y u v : Int) (w : World) :
    (Op.equalIn 10000 48 (.agg #[.string a, .int .i64 x, .int .i64 y]) (.agg #[.string b, .int .i64 u, .int .i64 v])).run Tryz.prog w = .ok (a.toList == b.toList && (x == u && y == v)) w := by
  rw [run_equalIn_struct w 9999 _ _ _ (show _ by kernel_rfl) (show _ by kernel_rfl)]
  obtain ⟨f, g, h, e, n1, n2, n3, e1, e2, e3⟩ := pt_fields
  obtain ⟨e1, t1⟩ := Prod.mk.inj e1
  obtain ⟨e2, t2⟩ := Prod.mk.inj e2
  obtain ⟨e3, t3⟩ := Prod.mk.inj e3
  have E1 : (Op.equalIn 9999 9 (.string a) (.string b)).run Tryz.prog w = .ok (a.toList == b.toList) w := run_equalIn_string w 9998 _ a b Tryz.underlying9
  have E2 : (Op.equalIn 9999 26 (.int .i64 x) (.int .i64 u)).run Tryz.prog w = .ok (x == u) w := run_equalIn_int w 9998 _ .i64 .i64 x u Tryz.underlying26
  have E3 : (Op.equalIn 9999 26 (.int .i64 y) (.int .i64 v)).run Tryz.prog w = .ok (y == v) w := run_equalIn_int w 9998 _ .i64 .i64 y v Tryz.underlying26
  have p1 := str_part (xs := #[.string a, .int .i64 x, .int .i64 y]) (o := 0) w rfl
  have p2 := str_part (xs := #[.string b, .int .i64 u, .int .i64 v]) (o := 0) w rfl
  have q1 := fix_part (xs := #[.string a, .int .i64 x, .int .i64 y]) (o := 1) w rfl
  have q2 := fix_part (xs := #[.string b, .int .i64 u, .int .i64 v]) (o := 1) w rfl
  have r1 := fix_part (xs := #[.string a, .int .i64 x, .int .i64 y]) (o := 2) w rfl
  have r2 := fix_part (xs := #[.string b, .int .i64 u, .int .i64 v]) (o := 2) w rfl
  rw [e]
  simp only [Op.eqFields, n1, n2, n3, e1, e2, e3, t1, t2, t3, ne_eq, not_false_eq_true, if_true, Sem.run_bind, p1, p2, q1, q2, r1, r2, E1, E2, E3, Result.andThen_ok]
  cases h1 : (a.toList == b.toList) <;> cases h2 : (x == u) <;> cases h3 : (y == v) <;> simp [Sem.run_pure, Sem.run_ite, Op.eqFields, p1, p2, q1, q2, r1, r2, E1, E2, E3, h1, h2, h3]
theorem neq_pt (a b : ByteArray) (x y u v : Int) (w : World) :
    (binOp .neq 48 (.agg #[.string a, .int .i64 x, .int .i64 y]) (.agg #[.string b, .int .i64 u, .int .i64 v])).run Tryz.prog w = .ok (.bool (!(a.toList == b.toList && (x == u && y == v)))) w := by
  rw [run_neq_struct, eqIn_pt]; rfl
theorem eqIn_col (a0 a1 a2 b0 b1 b2 : Int) (w : World) :
    (Op.equalIn 10000 30 (.agg #[.int .i64 a0, .int .i64 a1, .int .i64 a2]) (.agg #[.int .i64 b0, .int .i64 b1, .int .i64 b2])).run Tryz.prog w = .ok (a0 == b0 && (a1 == b1 && (a2 == b2 && true))) w := by
  obtain ⟨i, hi⟩ := fix_info
  rw [run_equalIn_array w 9999 _ _ Tryz.underlying30 hi, fix_cells, show List.range 3 = [0, 1, 2] from rfl]
  exact eqItems_step (i := 0) (a := a0) (b := b0) w rfl rfl (eqItems_step (i := 1) (a := a1) (b := b1) w rfl rfl (eqItems_step (i := 2) (a := a2) (b := b2) w rfl rfl (eqItems_nil _ _ _)))
theorem eql_col (a0 a1 a2 b0 b1 b2 : Int) (w : World) :
    (binOp .eql 30 (.agg #[.int .i64 a0, .int .i64 a1, .int .i64 a2]) (.agg #[.int .i64 b0, .int .i64 b1, .int .i64 b2])).run Tryz.prog w = .ok (.bool (a0 == b0 && (a1 == b1 && (a2 == b2 && true)))) w := by
  rw [run_eql_struct, eqIn_col]; rfl
theorem neq_col (a0 a1 a2 b0 b1 b2 : Int) (w : World) :
    (binOp .neq 30 (.agg #[.int .i64 a0, .int .i64 a1, .int .i64 a2]) (.agg #[.int .i64 b0, .int .i64 b1, .int .i64 b2])).run Tryz.prog w = .ok (.bool (!(a0 == b0 && (a1 == b1 && (a2 == b2 && true))))) w := by
  rw [run_neq_struct, eqIn_col]; rfl
theorem neq_mat (a0 a1 a2 a3 a4 a5 b0 b1 b2 b3 b4 b5 : Int) (w : World) :
    (binOp .neq 28 (.agg #[.int .i64 a0, .int .i64 a1, .int .i64 a2, .int .i64 a3, .int .i64 a4, .int .i64 a5]) (.agg #[.int .i64 b0, .int .i64 b1, .int .i64 b2, .int .i64 b3, .int .i64 b4, .int .i64 b5])).run Tryz.prog w = .ok (.bool (!(a0 == b0 && (a1 == b1 && (a2 == b2 && (a3 == b3 && (a4 == b4 && (a5 == b5 && true)))))))) w := by
  rw [run_neq_struct, eqIn_mat]; rfl

end Go.Proofs.YtbgdeaeikijdgaaGreatDoor

namespace Go.Proofs.YtbgdeaeikijdgaaGreatDoor
open Go.RowKit Cx Px
set_option linter.unusedSimpArgs false
set_option linter.unusedVariables false

def samePt (a b : Pt) : Bool := a.op.toList == b.op.toList && (a.x == b.x && a.y == b.y)
def samePts : List Pt → List Pt → Bool
  | [], [] => true
  | a :: r, b :: s => samePt a b && samePts r s
  | _, _ => false
theorem samePts_len : ∀ (l m : List Pt), l.length ≠ m.length → samePts l m = false
  | [], [], h => absurd rfl h
  | [], _ :: _, _ => rfl
  | _ :: _, [], _ => rfl
  | a :: r, b :: s, h => by rw [samePts, samePts_len r s (by simpa using h), Bool.and_false]
theorem samePts_step (l m : List Pt) (i : Nat) (h1 : i < l.length) (h2 : i < m.length) : samePts (l.drop i) (m.drop i) = (samePt l[i] m[i] && samePts (l.drop (i + 1)) (m.drop (i + 1))) := by
  rw [List.drop_eq_getElem_cons h1, List.drop_eq_getElem_cons h2, samePts]
theorem samePts_self : ∀ l : List Pt, samePts l l = true
  | [] => rfl
  | a :: r => by rw [samePts, samePts_self r]; simp [samePt]
def sameM (m n : Mx) : Bool := m.a == n.a && (m.b == n.b && (m.c == n.c && (m.d == n.d && (m.e == n.e && (m.f == n.f && true)))))
def sameC (m n : Cl) : Bool := m.r == n.r && (m.g == n.g && (m.b == n.b && true))
def sameIt (a b : It) : Bool := a.kind == b.kind && (sameM a.m b.m && (samePts a.path b.path && (sameC a.c b.c && (sameC a.d b.d && (a.w == b.w && (a.size == b.size && a.s.toList == b.s.toList))))))
theorem sameIt_self (a : It) : sameIt a a = true := by unfold sameIt sameM sameC; simp [samePts_self]
def sameIts : List It → List It → Bool
  | [], [] => true
  | a :: r, b :: s => sameIt a b && sameIts r s
  | _, _ => false
theorem sameIts_len : ∀ (l m : List It), l.length ≠ m.length → sameIts l m = false
  | [], [], h => absurd rfl h
  | [], _ :: _, _ => rfl
  | _ :: _, [], _ => rfl
  | a :: r, b :: s, h => by rw [sameIts, sameIts_len r s (by simpa using h), Bool.and_false]
theorem sameIts_step (l m : List It) (i : Nat) (h1 : i < l.length) (h2 : i < m.length) : sameIts (l.drop i) (m.drop i) = (sameIt l[i] m[i] && sameIts (l.drop (i + 1)) (m.drop (i + 1))) := by
  rw [List.drop_eq_getElem_cons h1, List.drop_eq_getElem_cons h2, sameIts]
theorem sameIts_self : ∀ l : List It, sameIts l l = true
  | [] => rfl
  | a :: r => by rw [sameIts, sameIts_self r, sameIt_self]; rfl

attribute [local go_sem] neq_pt eqIn_pt in
set_option maxRecDepth 100000 in
set_option maxHeartbeats 4000000 in
theorem EqualPt_any (P Q : Nat → Prop) (l1 l2 : List Pt) (p1 p2 : Option Addr) (c1 c2 : Nat) (w : World) (h1 : PtR P w p1 l1) (h2 : PtR Q w p2 l2) (b1 : l1.length ≤ 4398046511104) (b2 : l2.length ≤ 4398046511104) :
    Calls Tryz.prog 26 #[.slice p1 l1.length c1, .slice p2 l2.length c2] w fun e w' => e = .returned (.bool (samePts l1 l2)) ∧ Kept w w' := by
  have H1 := Lib.hid h1
  have H2 := Lib.hid h2
  clear h1 h2
  by_cases hlen : l1.length = l2.length
  · have hq : ((l1.length : Int) != (l2.length : Int)) = false := by rw [hlen]; exact bne_self_eq_false _
    have HLN := Lib.hid hlen
    clear hlen
    go_enter Tryz.func26, Tryz.ntmps26
    go_wp2_with fail
    go_loopg [13] (l1.length) (fun m i wr => ∃ (j : Nat), m = l1.length - j ∧ j ≤ l1.length ∧ i = .int .i64 j ∧ Kept w wr ∧ Hid (samePts l1 l2 = samePts (l1.drop j) (l2.drop j)))
    case atStart => exact ⟨0, by omega, Nat.zero_le _, rfl, Kept.refl w, Lib.hid (by rw [List.drop_zero, List.drop_zero])⟩
    case round =>
      obtain ⟨j, hm, hj, rfl, hk, HS⟩ := hrel
      have HK := Lib.hid hk
      clear hk
      by_cases hlt : j < l1.length
      · have hlt2 : j < l2.length := by have := HLN.out; omega
        have j1 : (j : Int) < (l1.length : Int) := by omega
        have j2 : (j : Int) < (l2.length : Int) := by omega
        obtain ⟨b, off, hp, -, hbl, y0, y1, y2⟩ := (H1.out.kept HK.out) j hlt
        obtain ⟨bb, off2, hp2, -, hbl2, z0, z1, z2⟩ := (H2.out.kept HK.out) j hlt2
        subst hp
        subst hp2
        have HST := Lib.hid (samePts_step l1 l2 j hlt hlt2)
        obtain ⟨⟨o1, x1, v1⟩, hA⟩ : ∃ A, A = l1[j] := ⟨_, rfl⟩
        obtain ⟨⟨o2, x2, v2⟩, hB⟩ : ∃ B, B = l2[j] := ⟨_, rfl⟩
        rw [← hA] at y0 y1 y2 HST
        rw [← hB] at z0 z1 z2 HST
        simp only [samePt] at y0 y1 y2 z0 z1 z2 HST
        clear hA hB
        cases g0 : (o1.toList == o2.toList)
        · have HA := Lib.hid (show samePts l1 l2 = false by rw [HS.out, HST.out, g0]; rfl)
          go_wp2_with fail
          go_quiet (fail)
          go_wp2_with fail
          go_ret
          exact ⟨ret_bool HA.out.symm, by repeat (with_reducible first | exact HK.out | refine Kept.drew ?_ | refine Kept.drewN ?_ _)⟩
        cases g1 : (x1 == x2)
        · have HA := Lib.hid (show samePts l1 l2 = false by rw [HS.out, HST.out, g0, g1]; rfl)
          go_wp2_with fail
          go_quiet (fail)
          go_wp2_with fail
          go_ret
          exact ⟨ret_bool HA.out.symm, by repeat (with_reducible first | exact HK.out | refine Kept.drew ?_ | refine Kept.drewN ?_ _)⟩
        cases g2 : (v1 == v2)
        · have HA := Lib.hid (show samePts l1 l2 = false by rw [HS.out, HST.out, g0, g1, g2]; rfl)
          go_wp2_with fail
          go_quiet (fail)
          go_wp2_with fail
          go_ret
          exact ⟨ret_bool HA.out.symm, by repeat (with_reducible first | exact HK.out | refine Kept.drew ?_ | refine Kept.drewN ?_ _)⟩
        have HS1 := Lib.hid (show samePts l1 l2 = samePts (l1.drop (j + 1)) (l2.drop (j + 1)) by rw [HS.out, HST.out, g0, g1, g2]; rfl)
        go_wp2_with fail
        go_quiet (fail)
        go_wp2_with fail
        go_roundg (l1.length - (j + 1))
        case measure => omega
        case rel => exact ⟨j + 1, rfl, by omega, by go_num, by repeat (with_reducible first | exact HK.out | refine Kept.drew ?_ | refine Kept.drewN ?_ _), HS1⟩
      · obtain rfl : j = l1.length := by omega
        have HA := Lib.hid (show samePts l1 l2 = true by rw [HS.out, List.drop_eq_nil_of_le (Nat.le_refl _), List.drop_eq_nil_of_le (by rw [HLN.out]; exact Nat.le_refl _), samePts])
        go_wp2_with fail
        go_ret
        exact ⟨ret_bool HA.out.symm, HK.out⟩
  · have hq : ((l1.length : Int) != (l2.length : Int)) = true := by
      rw [bne_iff_ne]; omega
    have HA := Lib.hid (samePts_len l1 l2 hlen)
    clear hlen
    go_enter Tryz.func26, Tryz.ntmps26
    go_wp2_with fail
    go_ret
    exact ⟨ret_bool HA.out.symm, Kept.refl w⟩

end Go.Proofs.YtbgdeaeikijdgaaGreatDoor

namespace Go.Proofs.YtbgdeaeikijdgaaGreatDoor
open Go.RowKit Cx Px
set_option linter.unusedSimpArgs false
set_option linter.unusedVariables false

/-- An item as a value. -/
abbrev itV (i : It) (d : Pd) : Value := .agg #[.int .i64 i.kind, .int .i64 i.m.a, .int .i64 i.m.b, .int .i64 i.m.c, .int .i64 i.m.d, .int .i64 i.m.e, .int .i64 i.m.f, .slice d.p i.path.length d.c, .int .i64 i.c.r, .int .i64 i.c.g, .int .i64 i.c.b, .int .i64 i.d.r, .int .i64 i.d.g, .int .i64 i.d.b, .int .i64 i.w, .string i.font, .int .i64 i.size, .string i.s]

theorem Blk.cells18 {W : World} {k : Nat} {a : It} {da : Pd} {T : TypeId} (h : Blk W k (cells18 (a, da)).toArray T) :
    W.cell? ⟨k, 0, none⟩ = some (.int .i64 a.kind) ∧ W.cell? ⟨k, 1, none⟩ = some (.int .i64 a.m.a) ∧ W.cell? ⟨k, 2, none⟩ = some (.int .i64 a.m.b) ∧ W.cell? ⟨k, 3, none⟩ = some (.int .i64 a.m.c) ∧ W.cell? ⟨k, 4, none⟩ = some (.int .i64 a.m.d) ∧ W.cell? ⟨k, 5, none⟩ = some (.int .i64 a.m.e) ∧ W.cell? ⟨k, 6, none⟩ = some (.int .i64 a.m.f) ∧ W.cell? ⟨k, 7, none⟩ = some (.slice da.p a.path.length da.c) ∧ W.cell? ⟨k, 8, none⟩ = some (.int .i64 a.c.r) ∧ W.cell? ⟨k, 9, none⟩ = some (.int .i64 a.c.g) ∧ W.cell? ⟨k, 10, none⟩ = some (.int .i64 a.c.b) ∧ W.cell? ⟨k, 11, none⟩ = some (.int .i64 a.d.r) ∧ W.cell? ⟨k, 12, none⟩ = some (.int .i64 a.d.g) ∧ W.cell? ⟨k, 13, none⟩ = some (.int .i64 a.d.b) ∧ W.cell? ⟨k, 14, none⟩ = some (.int .i64 a.w) ∧ W.cell? ⟨k, 15, none⟩ = some (.string a.font) ∧ W.cell? ⟨k, 16, none⟩ = some (.int .i64 a.size) ∧ W.cell? ⟨k, 17, none⟩ = some (.string a.s) :=
  ⟨h.cell 0, h.cell 1, h.cell 2, h.cell 3, h.cell 4, h.cell 5, h.cell 6, h.cell 7, h.cell 8, h.cell 9, h.cell 10, h.cell 11, h.cell 12, h.cell 13, h.cell 14, h.cell 15, h.cell 16, h.cell 17⟩

set_option maxRecDepth 100000 in
set_option maxHeartbeats 16000000 in
theorem sameItem_any (P Q : Nat → Prop) (a b : It) (da db : Pd) (w : World) (h1 : PtR P w da.p a.path) (h2 : PtR Q w db.p b.path) (b1 : a.path.length ≤ 4398046511104) (b2 : b.path.length ≤ 4398046511104) :
    Calls Tryz.prog 17 #[itV a da, itV b db] w fun e w' => e = .returned (.bool (sameIt a b)) ∧ Kept w w' := by
  have KW := Lib.hid (((Kept.refl w).alloc (cells18 (a, da)).toArray 32).alloc (cells18 (b, db)).toArray 32)
  have EQ := Lib.hid (fun wx (k : Kept w wx) => EqualPt_any P Q a.path b.path da.p db.p da.c db.c wx (h1.kept k) (h2.kept k) b1 b2)
  have BA := Lib.hid ((Blk.fresh w (cells18 (a, da)).toArray 32).alloc (.cells (cells18 (b, db)).toArray 32 (0, 0)))
  have BB := Lib.hid (Blk.fresh' (w := w.alloc (.cells (cells18 (a, da)).toArray 32 (0, 0))) (b := w.heap.size + 1) (cells18 (b, db)).toArray 32 (by simp))
  unfold cells18 at KW
  simp only [] at KW
  obtain ⟨m1, hm1⟩ : ∃ m, m = sameM a.m b.m := ⟨_, rfl⟩
  obtain ⟨m2, hm2⟩ : ∃ m, m = samePts a.path b.path := ⟨_, rfl⟩
  obtain ⟨m3, hm3⟩ : ∃ m, m = sameC a.c b.c := ⟨_, rfl⟩
  obtain ⟨m4, hm4⟩ : ∃ m, m = sameC a.d b.d := ⟨_, rfl⟩
  have EM : ∀ W, (binOp .eql 28 (.agg #[.int .i64 a.m.a, .int .i64 a.m.b, .int .i64 a.m.c, .int .i64 a.m.d, .int .i64 a.m.e, .int .i64 a.m.f]) (.agg #[.int .i64 b.m.a, .int .i64 b.m.b, .int .i64 b.m.c, .int .i64 b.m.d, .int .i64 b.m.e, .int .i64 b.m.f])).run Tryz.prog W = .ok (.bool m1) W := fun W => by rw [hm1]; exact eql_mat _ _ _ _ _ _ _ _ _ _ _ _ W
  have EC : ∀ W, (binOp .eql 30 (.agg #[.int .i64 a.c.r, .int .i64 a.c.g, .int .i64 a.c.b]) (.agg #[.int .i64 b.c.r, .int .i64 b.c.g, .int .i64 b.c.b])).run Tryz.prog W = .ok (.bool m3) W := fun W => by rw [hm3]; exact eql_col _ _ _ _ _ _ W
  have ED : ∀ W, (binOp .eql 30 (.agg #[.int .i64 a.d.r, .int .i64 a.d.g, .int .i64 a.d.b]) (.agg #[.int .i64 b.d.r, .int .i64 b.d.g, .int .i64 b.d.b])).run Tryz.prog W = .ok (.bool m4) W := fun W => by rw [hm4]; exact eql_col _ _ _ _ _ _ W
  have EM2 : ∀ W, (Op.equalIn 10000 28 (.agg #[.int .i64 a.m.a, .int .i64 a.m.b, .int .i64 a.m.c, .int .i64 a.m.d, .int .i64 a.m.e, .int .i64 a.m.f]) (.agg #[.int .i64 b.m.a, .int .i64 b.m.b, .int .i64 b.m.c, .int .i64 b.m.d, .int .i64 b.m.e, .int .i64 b.m.f])).run Tryz.prog W = .ok m1 W := fun W => by rw [hm1]; exact eqIn_mat _ _ _ _ _ _ _ _ _ _ _ _ W
  have EC2 : ∀ W, (Op.equalIn 10000 30 (.agg #[.int .i64 a.c.r, .int .i64 a.c.g, .int .i64 a.c.b]) (.agg #[.int .i64 b.c.r, .int .i64 b.c.g, .int .i64 b.c.b])).run Tryz.prog W = .ok m3 W := fun W => by rw [hm3]; exact eqIn_col _ _ _ _ _ _ W
  have ED2 : ∀ W, (Op.equalIn 10000 30 (.agg #[.int .i64 a.d.r, .int .i64 a.d.g, .int .i64 a.d.b]) (.agg #[.int .i64 b.d.r, .int .i64 b.d.g, .int .i64 b.d.b])).run Tryz.prog W = .ok m4 W := fun W => by rw [hm4]; exact eqIn_col _ _ _ _ _ _ W
  rw [← hm2] at EQ
  have HM1 := Lib.hid hm1.symm
  have HM2 := Lib.hid hm2.symm
  have HM3 := Lib.hid hm3.symm
  have HM4 := Lib.hid hm4.symm
  clear hm1 hm2 hm3 hm4
  clear h1 h2
  cases q0 : (a.kind == b.kind)
  · have HX := Lib.hid (show sameIt a b = false by unfold sameIt; rw [q0]; rfl)
    go_enter Tryz.func17, Tryz.ntmps17
    go_wp2_with fail
    go_ret
    exact ⟨ret_bool HX.out.symm, KW.out⟩
  · skip
    cases m1
    · have HX := Lib.hid (show sameIt a b = false by unfold sameIt; rw [q0, HM1.out]; rfl)
      go_enter Tryz.func17, Tryz.ntmps17
      go_wp2_with fail
      go_ret
      exact ⟨ret_bool HX.out.symm, KW.out⟩
    · skip
      cases m2
      · have HX := Lib.hid (show sameIt a b = false by unfold sameIt; rw [q0, HM1.out, HM2.out]; rfl)
        go_enter Tryz.func17, Tryz.ntmps17
        go_wp2_with fail
        (with_reducible refine (EQ.out _ KW.out).mono ?_)
        rintro e w2 ⟨rfl, k2⟩
        have K2 := Lib.hid (KW.out.trans k2)
        obtain ⟨A0, A1, A2, A3, A4, A5, A6, A7, A8, A9, A10, A11, A12, A13, A14, A15, A16, A17⟩ := (BA.out.kept k2).cells18
        obtain ⟨B0, B1, B2, B3, B4, B5, B6, B7, B8, B9, B10, B11, B12, B13, B14, B15, B16, B17⟩ := (BB.out.kept k2).cells18
        clear k2
        go_wp2_with fail
        go_ret
        exact ⟨ret_bool HX.out.symm, K2.out⟩
      · skip
        cases m3
        · have HX := Lib.hid (show sameIt a b = false by unfold sameIt; rw [q0, HM1.out, HM2.out, HM3.out]; rfl)
          go_enter Tryz.func17, Tryz.ntmps17
          go_wp2_with fail
          (with_reducible refine (EQ.out _ KW.out).mono ?_)
          rintro e w2 ⟨rfl, k2⟩
          have K2 := Lib.hid (KW.out.trans k2)
          obtain ⟨A0, A1, A2, A3, A4, A5, A6, A7, A8, A9, A10, A11, A12, A13, A14, A15, A16, A17⟩ := (BA.out.kept k2).cells18
          obtain ⟨B0, B1, B2, B3, B4, B5, B6, B7, B8, B9, B10, B11, B12, B13, B14, B15, B16, B17⟩ := (BB.out.kept k2).cells18
          clear k2
          go_wp2_with fail
          go_ret
          exact ⟨ret_bool HX.out.symm, K2.out⟩
        · skip
          cases m4
          · have HX := Lib.hid (show sameIt a b = false by unfold sameIt; rw [q0, HM1.out, HM2.out, HM3.out, HM4.out]; rfl)
            go_enter Tryz.func17, Tryz.ntmps17
            go_wp2_with fail
            (with_reducible refine (EQ.out _ KW.out).mono ?_)
            rintro e w2 ⟨rfl, k2⟩
            have K2 := Lib.hid (KW.out.trans k2)
            obtain ⟨A0, A1, A2, A3, A4, A5, A6, A7, A8, A9, A10, A11, A12, A13, A14, A15, A16, A17⟩ := (BA.out.kept k2).cells18
            obtain ⟨B0, B1, B2, B3, B4, B5, B6, B7, B8, B9, B10, B11, B12, B13, B14, B15, B16, B17⟩ := (BB.out.kept k2).cells18
            clear k2
            go_wp2_with fail
            go_ret
            exact ⟨ret_bool HX.out.symm, K2.out⟩
          · skip
            cases q5 : (a.w == b.w)
            · have HX := Lib.hid (show sameIt a b = false by unfold sameIt; rw [q0, HM1.out, HM2.out, HM3.out, HM4.out, q5]; rfl)
              go_enter Tryz.func17, Tryz.ntmps17
              go_wp2_with fail
              (with_reducible refine (EQ.out _ KW.out).mono ?_)
              rintro e w2 ⟨rfl, k2⟩
              have K2 := Lib.hid (KW.out.trans k2)
              obtain ⟨A0, A1, A2, A3, A4, A5, A6, A7, A8, A9, A10, A11, A12, A13, A14, A15, A16, A17⟩ := (BA.out.kept k2).cells18
              obtain ⟨B0, B1, B2, B3, B4, B5, B6, B7, B8, B9, B10, B11, B12, B13, B14, B15, B16, B17⟩ := (BB.out.kept k2).cells18
              clear k2
              go_wp2_with fail
              go_ret
              exact ⟨ret_bool HX.out.symm, K2.out⟩
            · skip
              cases q6 : (a.size == b.size)
              · have HX := Lib.hid (show sameIt a b = false by unfold sameIt; rw [q0, HM1.out, HM2.out, HM3.out, HM4.out, q5, q6]; rfl)
                go_enter Tryz.func17, Tryz.ntmps17
                go_wp2_with fail
                (with_reducible refine (EQ.out _ KW.out).mono ?_)
                rintro e w2 ⟨rfl, k2⟩
                have K2 := Lib.hid (KW.out.trans k2)
                obtain ⟨A0, A1, A2, A3, A4, A5, A6, A7, A8, A9, A10, A11, A12, A13, A14, A15, A16, A17⟩ := (BA.out.kept k2).cells18
                obtain ⟨B0, B1, B2, B3, B4, B5, B6, B7, B8, B9, B10, B11, B12, B13, B14, B15, B16, B17⟩ := (BB.out.kept k2).cells18
                clear k2
                go_wp2_with fail
                go_ret
                exact ⟨ret_bool HX.out.symm, K2.out⟩
              · skip
                cases q7 : (a.s.toList == b.s.toList)
                · have HX := Lib.hid (show sameIt a b = false by unfold sameIt; rw [q0, HM1.out, HM2.out, HM3.out, HM4.out, q5, q6, q7]; rfl)
                  go_enter Tryz.func17, Tryz.ntmps17
                  go_wp2_with fail
                  (with_reducible refine (EQ.out _ KW.out).mono ?_)
                  rintro e w2 ⟨rfl, k2⟩
                  have K2 := Lib.hid (KW.out.trans k2)
                  obtain ⟨A0, A1, A2, A3, A4, A5, A6, A7, A8, A9, A10, A11, A12, A13, A14, A15, A16, A17⟩ := (BA.out.kept k2).cells18
                  obtain ⟨B0, B1, B2, B3, B4, B5, B6, B7, B8, B9, B10, B11, B12, B13, B14, B15, B16, B17⟩ := (BB.out.kept k2).cells18
                  clear k2
                  go_wp2_with fail
                  go_ret
                  exact ⟨ret_bool HX.out.symm, K2.out⟩
                · skip
                  have HX := Lib.hid (show sameIt a b = true by unfold sameIt; rw [q0, HM1.out, HM2.out, HM3.out, HM4.out, q5, q6, q7]; rfl)
                  go_enter Tryz.func17, Tryz.ntmps17
                  go_wp2_with fail
                  (with_reducible refine (EQ.out _ KW.out).mono ?_)
                  rintro e w2 ⟨rfl, k2⟩
                  have K2 := Lib.hid (KW.out.trans k2)
                  obtain ⟨A0, A1, A2, A3, A4, A5, A6, A7, A8, A9, A10, A11, A12, A13, A14, A15, A16, A17⟩ := (BA.out.kept k2).cells18
                  obtain ⟨B0, B1, B2, B3, B4, B5, B6, B7, B8, B9, B10, B11, B12, B13, B14, B15, B16, B17⟩ := (BB.out.kept k2).cells18
                  clear k2
                  go_wp2_with fail
                  go_ret
                  exact ⟨ret_bool HX.out.symm, K2.out⟩

/-- One item's cells of a row, in the walk's spelling. -/
theorem ItR.cells {P : Nat → Prop} {W : World} {p : Option Addr} {rs : List (It × Pd)} (h : ItR P W p rs) (i : Nat) (hi : i < rs.length) : ∃ k off, p = some ⟨k, off, none⟩ ∧ P k ∧ k < W.heap.size ∧
    (W.cell? ⟨k, off + i * 18, none⟩ = some (.int .i64 rs[i].1.kind) ∧ W.cell? ⟨k, off + i * 18 + 1, none⟩ = some (.int .i64 rs[i].1.m.a) ∧ W.cell? ⟨k, off + i * 18 + 2, none⟩ = some (.int .i64 rs[i].1.m.b) ∧ W.cell? ⟨k, off + i * 18 + 3, none⟩ = some (.int .i64 rs[i].1.m.c) ∧ W.cell? ⟨k, off + i * 18 + 4, none⟩ = some (.int .i64 rs[i].1.m.d) ∧ W.cell? ⟨k, off + i * 18 + 5, none⟩ = some (.int .i64 rs[i].1.m.e) ∧ W.cell? ⟨k, off + i * 18 + 6, none⟩ = some (.int .i64 rs[i].1.m.f) ∧ W.cell? ⟨k, off + i * 18 + 7, none⟩ = some (.slice rs[i].2.p rs[i].1.path.length rs[i].2.c) ∧ W.cell? ⟨k, off + i * 18 + 8, none⟩ = some (.int .i64 rs[i].1.c.r) ∧ W.cell? ⟨k, off + i * 18 + 9, none⟩ = some (.int .i64 rs[i].1.c.g) ∧ W.cell? ⟨k, off + i * 18 + 10, none⟩ = some (.int .i64 rs[i].1.c.b) ∧ W.cell? ⟨k, off + i * 18 + 11, none⟩ = some (.int .i64 rs[i].1.d.r) ∧ W.cell? ⟨k, off + i * 18 + 12, none⟩ = some (.int .i64 rs[i].1.d.g) ∧ W.cell? ⟨k, off + i * 18 + 13, none⟩ = some (.int .i64 rs[i].1.d.b) ∧ W.cell? ⟨k, off + i * 18 + 14, none⟩ = some (.int .i64 rs[i].1.w) ∧ W.cell? ⟨k, off + i * 18 + 15, none⟩ = some (.string rs[i].1.font) ∧ W.cell? ⟨k, off + i * 18 + 16, none⟩ = some (.int .i64 rs[i].1.size) ∧ W.cell? ⟨k, off + i * 18 + 17, none⟩ = some (.string rs[i].1.s)) := by
  obtain ⟨k, off, hp, hP, hk, c⟩ := h.at' i hi
  exact ⟨k, off, hp, hP, hk, c 0 _ rfl, c 1 _ rfl, c 2 _ rfl, c 3 _ rfl, c 4 _ rfl, c 5 _ rfl, c 6 _ rfl, c 7 _ rfl, c 8 _ rfl, c 9 _ rfl, c 10 _ rfl, c 11 _ rfl, c 12 _ rfl, c 13 _ rfl, c 14 _ rfl, c 15 _ rfl, c 16 _ rfl, c 17 _ rfl⟩

end Go.Proofs.YtbgdeaeikijdgaaGreatDoor
