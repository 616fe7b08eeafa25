import Derived.Test.YtoablpaehhjchaaGreatDoorStoP
import Derived.Test.YtoablpaehhjchaaGreatDoorStoA
import Derived.Test.YtoablpaehhjchaaGreatDoorStoN
import Derived.Test.YtoablpaehhjchaaGreatDoorStoSame
import Derived.Test.YtoablpaehhjchaaGreatDoorStoF
namespace Go.Proofs.YtoablpaehhjchaaGreatDoor
open Go.RowKit Cx Sx
set_option linter.unusedSimpArgs false
set_option linter.unusedVariables false

theorem FileArg.kept {W W' : World} {v : Value} {rs : NRow} {p : Option Addr} {c : Nat} {t : Ob} {ht : Hd} (h : FileArg W v rs p c t ht) (k : Kept W W') : FileArg W' v rs p c t ht :=
  ⟨h.1, h.2.1, h.2.2.1.kept k, fun r hr => ⟨(h.2.2.2.1 r hr).1.kept k, (h.2.2.2.1 r hr).2⟩, h.2.2.2.2.1.kept k, h.2.2.2.2.2⟩

set_option maxRecDepth 100000 in
set_option maxHeartbeats 4000000 in
theorem Put_bad (l : List Nm) (p : Option Addr) (c : Nat) (t : Ob) (ht : Hd) (n : Int) (o : Ob) (ho : Hd) (w : World) (hn : n < 1 ∨ 4096 ≤ n) :
    Calls Tryz.prog 17 #[fileV l p c t ht, .int .i64 n, objV o ho] w fun e w' => e = .returned (.tuple #[.agg #[.slice none 0 0, .int .i64 0, .int .i64 0, .int .i64 0, .string ⟨#[]⟩, .slice none 0 0, .slice none 0 0], .int .i64 1]) ∧ Kept w w' := by
  have H1 := Lib.hid (In.fresh' (k := w.heap.size + 1 + 1) (In.fresh' (k := w.heap.size + 1) (In.fresh (In.start w) #[.slice p l.length c, .int .i64 t.k, .int .i64 t.n, .int .i64 t.f, .string t.s, .slice ht.p t.l.length ht.c, .slice ht.q t.d.length ht.e] 46) #[.int .i64 o.k, .int .i64 o.n, .int .i64 o.f, .string o.s, .slice ho.p o.l.length ho.c, .slice ho.q o.d.length ho.e] 39 (by simp)) #[.slice none 0 0, .int .i64 0, .int .i64 0, .int .i64 0, .string ⟨#[]⟩, .slice none 0 0, .slice none 0 0] 46 (by simp))
  unfold fileV objV
  have RM := Lib.hid (H1.out.mem List.mem_cons_self)
  obtain ⟨u0, u1, u2, u3, u4, u5, u6⟩ := RM.out.cells7
  have uf := RM.out.free
  have uz := RM.out.lt
  have KZ := Lib.hid (In.k H1.out)
  go_enter Tryz.func17, Tryz.ntmps17
  by_cases h1 : n < 1
  · go_wp2_with fail
    refine bodyPost_ret (v := .tuple #[.agg #[.slice none 0 0, .int .i64 0, .int .i64 0, .int .i64 0, .string ⟨#[]⟩, .slice none 0 0, .slice none 0 0], .int .i64 1]) ?_ rfl ⟨rfl, ?_⟩
    · simp [results, Tryz.results17, go_sem, u0, u1, u2, u3, u4, u5, u6]
    · repeat (with_reducible first | exact KZ.out | refine Kept.drew ?_ | refine Kept.set ?_ (by omega) _)
  · have h2 : 4096 ≤ n := by omega
    go_wp2_with fail
    refine bodyPost_ret (v := .tuple #[.agg #[.slice none 0 0, .int .i64 0, .int .i64 0, .int .i64 0, .string ⟨#[]⟩, .slice none 0 0, .slice none 0 0], .int .i64 1]) ?_ rfl ⟨rfl, ?_⟩
    · simp [results, Tryz.results17, go_sem, u0, u1, u2, u3, u4, u5, u6]
    · repeat (with_reducible first | exact KZ.out | refine Kept.drew ?_ | refine Kept.set ?_ (by omega) _)

set_option maxRecDepth 100000 in
set_option maxHeartbeats 64000000 in
theorem StorePuts_walk (v : Value) (rs : NRow) (p : Option Addr) (c : Nat) (t : Ob) (ht : Hd) (n : Int) (o : Ob) (ho : Hd) (other : Int) (w : World) (hf : Fine w) (ha : FileArg w v rs p c t ht) (hff : FileFits 140737488355328 rs t)
    (lo : Lies (Cel (fun _ => True) w) o ho) (fo : Ob.Fits 140737488355328 o) :
    Calls Tryz.prog 4 #[v, .int .i64 n, objV o ho, .int .i64 other] w fun e w' => e = .returned (.bool true) ∧ Kept w w' := by
  have NM0' := ha.nmR
  have LT := Lib.hid ha.2.2.2.2.1
  have LO := Lib.hid lo
  have FF0 := fun w' (k : Kept w w') => FewF_any rs p c t ht v 2000 w' (ha.kept k) hff (by omega) (by omega)
  have FO0 := fun w' (k : Kept w w') => Few_any _ o ho 500 w' (lo.kept k) fo (by omega) (by omega)
  obtain ⟨rfl, -⟩ := ha
  have hLen : (rs.map (·.1)).length = rs.length := List.length_map _
  obtain ⟨l, hl⟩ : ∃ l, l = rs.map (·.1) := ⟨_, rfl⟩
  rw [← hl] at NM0' FF0 hLen ⊢
  have NM0 := Lib.hid NM0'
  unfold fileV at FF0
  unfold objV at FO0
  have FF := Lib.hid FF0
  obtain ⟨y, hy⟩ : ∃ y, y = decide (0 ≤ few o 500 0) := ⟨_, rfl⟩
  rw [← hy] at FO0
  have FO := Lib.hid FO0
  have H1 := Lib.hid (In.fresh' (k := w.heap.size + 1) (In.fresh (In.start w) #[.slice p l.length c, .int .i64 t.k, .int .i64 t.n, .int .i64 t.f, .string t.s, .slice ht.p t.l.length ht.c, .slice ht.q t.d.length ht.e] 41) #[.int .i64 o.k, .int .i64 o.n, .int .i64 o.f, .string o.s, .slice ho.p o.l.length ho.c, .slice ho.q o.d.length ho.e] 39 (by simp))
  have AW := Lib.hid (awake9_any _ (hf.kept (In.k H1.out)))
  have HLN := Lib.hid hLen
  clear hy FO0 FF0 NM0' lo fo hff hl hf hLen
  unfold fileV objV
  go_enter Tryz.func4, Tryz.ntmps4
  go_wp2_with fail
  (with_reducible refine AW.out.mono ?_)
  rintro e w1 ⟨rfl, hk1⟩
  have I1 := Lib.hid (H1.out.kept hk1)
  clear hk1 AW H1
  obtain ⟨x0, x1, x2, x3, x4, x5⟩ := (I1.out.mem List.mem_cons_self).cells6
  obtain ⟨f0, f1, f2, f3, f4, f5, f6⟩ := (I1.out.mem (List.mem_cons_of_mem _ List.mem_cons_self)).cells7
  go_wp2_with fail
  (with_reducible refine (FF.out _ (In.k I1.out)).mono ?_)
  rintro e w2 ⟨b, rfl, hk2, hb2⟩
  have I2 := Lib.hid (I1.out.kept hk2)
  clear hk2 FF I1 x0 x1 x2 x3 x4 x5 f0 f1 f2 f3 f4 f5 f6
  obtain ⟨x0, x1, x2, x3, x4, x5⟩ := (I2.out.mem List.mem_cons_self).cells6
  cases b with
  | false =>
    go_wp2_with fail
    go_ret
    exact ⟨rfl, In.k I2.out⟩
  | true =>
    have h200 : l.length ≤ 200 := by have := hb2 rfl; have := HLN.out; omega
    clear hb2
    go_wp2_with fail
    (with_reducible refine (FO.out _ (In.k I2.out)).mono ?_)
    rintro e w3 ⟨rfl, hk3⟩
    have I3 := Lib.hid (I2.out.kept hk3)
    clear hk3 FO I2 x0 x1 x2 x3 x4 x5
    obtain ⟨f0, f1, f2, f3, f4, f5, f6⟩ := (I3.out.mem (List.mem_cons_of_mem _ List.mem_cons_self)).cells7
    cases y with
    | false =>
      go_wp2_with fail
      go_ret
      exact ⟨rfl, In.k I3.out⟩
    | true =>
      have CO := Lib.hid (show Calls Tryz.prog 16 #[.agg #[.slice p l.length c, .int .i64 t.k, .int .i64 t.n, .int .i64 t.f, .string t.s, .slice ht.p t.l.length ht.c, .slice ht.q t.d.length ht.e]] w3 fun e w' => ∃ p' c', e = .returned (.agg #[.slice p' l.length c', .int .i64 t.k, .int .i64 t.n, .int .i64 t.f, .string t.s, .slice ht.p t.l.length ht.c, .slice ht.q t.d.length ht.e]) ∧ Kept w3 w' ∧ NmR (fun _ => True) w' p' l ∧ (p' = none → c' = 0) from ours_any l p c t ht w3 (NM0.out.kept (In.k I3.out)) (by omega))
      go_wp2_with fail
      (with_reducible refine CO.out.mono ?_)
      rintro e w4 ⟨p4, c4, rfl, hk4, nm4, hn4⟩
      have I4 := Lib.hid (In.fresh' (k := w4.heap.size) (I3.out.kept hk4) #[.slice p4 l.length c4, .int .i64 t.k, .int .i64 t.n, .int .i64 t.f, .string t.s, .slice ht.p t.l.length ht.c, .slice ht.q t.d.length ht.e] 46 rfl)
      have NM4 := Lib.hid (nm4.kept ((Kept.refl w4).alloc #[.slice p4 l.length c4, .int .i64 t.k, .int .i64 t.n, .int .i64 t.f, .string t.s, .slice ht.p t.l.length ht.c, .slice ht.q t.d.length ht.e] 46))
      have HN4 := Lib.hid hn4
      clear hk4 CO I3 f0 f1 f2 f3 f4 f5 f6 nm4 hn4
      obtain ⟨g0, g1, g2, g3, g4, g5, g6⟩ := (I4.out.mem List.mem_cons_self).cells7
      obtain ⟨x0, x1, x2, x3, x4, x5⟩ := (I4.out.mem (List.mem_cons_of_mem _ List.mem_cons_self)).cells6
      by_cases hbad : n < 1 ∨ 4096 ≤ n
      · have CB := Lib.hid (show ∀ W, Calls Tryz.prog 17 #[.agg #[.slice p4 l.length c4, .int .i64 t.k, .int .i64 t.n, .int .i64 t.f, .string t.s, .slice ht.p t.l.length ht.c, .slice ht.q t.d.length ht.e], .int .i64 n, .agg #[.int .i64 o.k, .int .i64 o.n, .int .i64 o.f, .string o.s, .slice ho.p o.l.length ho.c, .slice ho.q o.d.length ho.e]] W fun e w' => e = .returned (.tuple #[.agg #[.slice none 0 0, .int .i64 0, .int .i64 0, .int .i64 0, .string ⟨#[]⟩, .slice none 0 0, .slice none 0 0], .int .i64 1]) ∧ Kept W w' from fun W => Put_bad l p4 c4 t ht n o ho W hbad)
        go_wp2_with fail
        (with_reducible refine (CB.out _).mono ?_)
        rintro e w5 ⟨rfl, hk5⟩
        have I5 := Lib.hid (In.fresh' (k := w5.heap.size) (I4.out.kept hk5) #[.slice none 0 0, .int .i64 0, .int .i64 0, .int .i64 0, .string ⟨#[]⟩, .slice none 0 0, .slice none 0 0] 46 rfl)
        clear hk5 g0 g1 g2 g3 g4 g5 g6 x0 x1 x2 x3 x4 x5
        obtain ⟨u0, u1, u2, u3, u4, u5, u6⟩ := (I5.out.mem List.mem_cons_self).cells7
        by_cases hlow : n < 1
        · go_wp2_with fail
          go_ret
          exact ⟨rfl, In.k I5.out⟩
        · have hhi : 4096 ≤ n := by omega
          have hhi2 : 4095 < n := by omega
          go_wp2_with fail
          go_ret
          exact ⟨rfl, In.k I5.out⟩
      · obtain ⟨pl, hpl⟩ : ∃ pl, pl = putL l n o := ⟨_, rfl⟩
        have CB := Lib.hid (show Calls Tryz.prog 17 #[.agg #[.slice p4 l.length c4, .int .i64 t.k, .int .i64 t.n, .int .i64 t.f, .string t.s, .slice ht.p t.l.length ht.c, .slice ht.q t.d.length ht.e], .int .i64 n, .agg #[.int .i64 o.k, .int .i64 o.n, .int .i64 o.f, .string o.s, .slice ho.p o.l.length ho.c, .slice ho.q o.d.length ho.e]] (w4.alloc (.cells #[.slice p4 l.length c4, .int .i64 t.k, .int .i64 t.n, .int .i64 t.f, .string t.s, .slice ht.p t.l.length ht.c, .slice ht.q t.d.length ht.e] 46)) fun e w' => ∃ p' c', e = .returned (.tuple #[.agg #[.slice p' pl.length c', .int .i64 t.k, .int .i64 t.n, .int .i64 t.f, .string t.s, .slice ht.p t.l.length ht.c, .slice ht.q t.d.length ht.e], .int .i64 0]) ∧ Kept (w4.alloc (.cells #[.slice p4 l.length c4, .int .i64 t.k, .int .i64 t.n, .int .i64 t.f, .string t.s, .slice ht.p t.l.length ht.c, .slice ht.q t.d.length ht.e] 46)) w' ∧ NmR (fun _ => True) w' p' pl from by
          rw [hpl]
          exact Put_any l p4 c4 t ht n o ho _ NM4.out HN4.out (by omega) (LO.out.kept (In.k I4.out)) (by omega) (by omega))
        have FN1 := Lib.hid (show findV pl n = o from by rw [hpl]; exact put_same l n o)
        have FN2 := Lib.hid (show ∀ m, m ≠ n → findV pl m = findV l m from fun m hm => by rw [hpl]; exact put_other l n m o hm)
        have HRISE := Lib.hid (show RiseN l → RiseN pl from fun h => by rw [hpl]; exact put_rise n o h)
        have hpl1 : pl.length ≤ l.length + 1 := by rw [hpl]; exact (put_len l n o).1
        clear hpl
        go_wp2_with fail
        (with_reducible refine CB.out.mono ?_)
        rintro e w6 ⟨p6, c6, rfl, hk6, nm6⟩
        have I7 := Lib.hid (In.fresh' (k := w6.heap.size) (I4.out.kept hk6) #[.slice p6 pl.length c6, .int .i64 t.k, .int .i64 t.n, .int .i64 t.f, .string t.s, .slice ht.p t.l.length ht.c, .slice ht.q t.d.length ht.e] 46 rfl)
        have NM7 := Lib.hid (nm6.kept ((Kept.refl w6).alloc #[.slice p6 pl.length c6, .int .i64 t.k, .int .i64 t.n, .int .i64 t.f, .string t.s, .slice ht.p t.l.length ht.c, .slice ht.q t.d.length ht.e] 46))
        have NG7 := Lib.hid ((NM4.out.kept hk6).kept ((Kept.refl w6).alloc #[.slice p6 pl.length c6, .int .i64 t.k, .int .i64 t.n, .int .i64 t.f, .string t.s, .slice ht.p t.l.length ht.c, .slice ht.q t.d.length ht.e] 46))
        clear hk6 nm6 CB I4 NM4 g0 g1 g2 g3 g4 g5 g6 x0 x1 x2 x3 x4 x5
        have PM := Lib.hid (I7.out.mem List.mem_cons_self)
        have GM := Lib.hid (I7.out.mem (List.mem_cons_of_mem _ List.mem_cons_self))
        have MX := Lib.hid (I7.out.mem (List.mem_cons_of_mem _ (List.mem_cons_of_mem _ List.mem_cons_self)))
        obtain ⟨W7, hW7⟩ : ∃ W7, W7 = w6.alloc (.cells #[.slice p6 pl.length c6, .int .i64 t.k, .int .i64 t.n, .int .i64 t.f, .string t.s, .slice ht.p t.l.length ht.c, .slice ht.q t.d.length ht.e] 46) := ⟨_, rfl⟩
        rw [← hW7] at I7 NM7 NG7 PM GM MX
        have SX := Lib.hid (show ∀ W, Kept W7 W → (fun w' => w'.cell? ⟨w6.heap.size, 0, none⟩ = some (.slice p6 pl.length c6) ∧ w'.cell? ⟨w6.heap.size, 1, none⟩ = some (.int .i64 t.k) ∧ w'.cell? ⟨w6.heap.size, 2, none⟩ = some (.int .i64 t.n) ∧ w'.cell? ⟨w6.heap.size, 3, none⟩ = some (.int .i64 t.f) ∧ w'.cell? ⟨w6.heap.size, 4, none⟩ = some (.string t.s) ∧ w'.cell? ⟨w6.heap.size, 5, none⟩ = some (.slice ht.p t.l.length ht.c) ∧ w'.cell? ⟨w6.heap.size, 6, none⟩ = some (.slice ht.q t.d.length ht.e) ∧ w'.cell? ⟨w4.heap.size, 0, none⟩ = some (.slice p4 l.length c4) ∧ w'.cell? ⟨w4.heap.size, 1, none⟩ = some (.int .i64 t.k) ∧ w'.cell? ⟨w4.heap.size, 2, none⟩ = some (.int .i64 t.n) ∧ w'.cell? ⟨w4.heap.size, 3, none⟩ = some (.int .i64 t.f) ∧ w'.cell? ⟨w4.heap.size, 4, none⟩ = some (.string t.s) ∧ w'.cell? ⟨w4.heap.size, 5, none⟩ = some (.slice ht.p t.l.length ht.c) ∧ w'.cell? ⟨w4.heap.size, 6, none⟩ = some (.slice ht.q t.d.length ht.e) ∧ w'.cell? ⟨w.heap.size + 1, 0, none⟩ = some (.int .i64 o.k) ∧ w'.cell? ⟨w.heap.size + 1, 1, none⟩ = some (.int .i64 o.n) ∧ w'.cell? ⟨w.heap.size + 1, 2, none⟩ = some (.int .i64 o.f) ∧ w'.cell? ⟨w.heap.size + 1, 3, none⟩ = some (.string o.s) ∧ w'.cell? ⟨w.heap.size + 1, 4, none⟩ = some (.slice ho.p o.l.length ho.c) ∧ w'.cell? ⟨w.heap.size + 1, 5, none⟩ = some (.slice ho.q o.d.length ho.e)) W from fun W k => by
          obtain ⟨a0, a1, a2, a3, a4, a5, a6⟩ := (PM.out.kept k).cells7
          obtain ⟨g0, g1, g2, g3, g4, g5, g6⟩ := (GM.out.kept k).cells7
          obtain ⟨x0, x1, x2, x3, x4, x5⟩ := (MX.out.kept k).cells6
          exact ⟨a0, a1, a2, a3, a4, a5, a6, g0, g1, g2, g3, g4, g5, g6, x0, x1, x2, x3, x4, x5⟩)
        clear PM GM
        obtain ⟨x, hx⟩ : ∃ x, x = findV l other := ⟨_, rfl⟩
        have CF1 := Lib.hid (show ∀ W, Kept W7 W → Calls Tryz.prog 19 #[.agg #[.slice p6 pl.length c6, .int .i64 t.k, .int .i64 t.n, .int .i64 t.f, .string t.s, .slice ht.p t.l.length ht.c, .slice ht.q t.d.length ht.e], .int .i64 n] W fun e W' => ∃ h' : Hd, e = .returned (.agg #[.int .i64 o.k, .int .i64 o.n, .int .i64 o.f, .string o.s, .slice h'.p o.l.length h'.c, .slice h'.q o.d.length h'.e]) ∧ Kept W W' ∧ Lies (Cel (fun _ => True) W') o h' from fun W k => by
          have z := Find_any _ pl p6 c6 t ht n W (NM7.out.kept k)
          rwa [FN1.out] at z)
        have CX := Lib.hid (show ∀ W, Kept W7 W → ∀ h' : Hd, Lies (Cel (fun _ => True) W) o h' → Calls Tryz.prog 18 #[.agg #[.int .i64 o.k, .int .i64 o.n, .int .i64 o.f, .string o.s, .slice h'.p o.l.length h'.c, .slice h'.q o.d.length h'.e], .agg #[.int .i64 o.k, .int .i64 o.n, .int .i64 o.f, .string o.s, .slice ho.p o.l.length ho.c, .slice ho.q o.d.length ho.e]] W fun e W' => e = .returned (.bool true) ∧ Kept W W' from fun W k h' hl => by
          have z := Exact_any _ o o h' ho W hl ((LO.out.kept (In.k I7.out)).kept k)
          rwa [ex_yes rfl] at z)
        have hM : (pl.length : Int) ≤ (l.length : Int) + 1 := by omega
        have hM2 : ¬ (l.length : Int) + 1 < (pl.length : Int) := by omega
        have hw1 : IntKind.i64.wrap ((l.length : Int) + 1) = (l.length : Int) + 1 := IntWalk.i64_in _ (by omega)
        by_cases hne : other = n
        · subst hne
          clear hx FN2
          subst hW7
          go_upto_region 8 with fail
          refine wp_region_held_drew (S := (fun w' => w'.cell? ⟨w6.heap.size, 0, none⟩ = some (.slice p6 pl.length c6) ∧ w'.cell? ⟨w6.heap.size, 1, none⟩ = some (.int .i64 t.k) ∧ w'.cell? ⟨w6.heap.size, 2, none⟩ = some (.int .i64 t.n) ∧ w'.cell? ⟨w6.heap.size, 3, none⟩ = some (.int .i64 t.f) ∧ w'.cell? ⟨w6.heap.size, 4, none⟩ = some (.string t.s) ∧ w'.cell? ⟨w6.heap.size, 5, none⟩ = some (.slice ht.p t.l.length ht.c) ∧ w'.cell? ⟨w6.heap.size, 6, none⟩ = some (.slice ht.q t.d.length ht.e) ∧ w'.cell? ⟨w4.heap.size, 0, none⟩ = some (.slice p4 l.length c4) ∧ w'.cell? ⟨w4.heap.size, 1, none⟩ = some (.int .i64 t.k) ∧ w'.cell? ⟨w4.heap.size, 2, none⟩ = some (.int .i64 t.n) ∧ w'.cell? ⟨w4.heap.size, 3, none⟩ = some (.int .i64 t.f) ∧ w'.cell? ⟨w4.heap.size, 4, none⟩ = some (.string t.s) ∧ w'.cell? ⟨w4.heap.size, 5, none⟩ = some (.slice ht.p t.l.length ht.c) ∧ w'.cell? ⟨w4.heap.size, 6, none⟩ = some (.slice ht.q t.d.length ht.e) ∧ w'.cell? ⟨w.heap.size + 1, 0, none⟩ = some (.int .i64 o.k) ∧ w'.cell? ⟨w.heap.size + 1, 1, none⟩ = some (.int .i64 o.n) ∧ w'.cell? ⟨w.heap.size + 1, 2, none⟩ = some (.int .i64 o.f) ∧ w'.cell? ⟨w.heap.size + 1, 3, none⟩ = some (.string o.s) ∧ w'.cell? ⟨w.heap.size + 1, 4, none⟩ = some (.slice ho.p o.l.length ho.c) ∧ w'.cell? ⟨w.heap.size + 1, 5, none⟩ = some (.slice ho.q o.d.length ho.e))) (by kernel_rfl) ?_ (fun hHeld => ?_)
          · exact SX.out _ (Kept.refl _).drew
          refine wpAnyH_take (i := 0) (oi := ⟨some 55, _, _, _, _, _⟩) (v := ?_) rfl (by kernel_rfl) (by kernel_rfl) (by kernel_rfl) (fun _ _ _ h => h) (Or.inl ⟨by rfl, ?_⟩) (by assumption) ?_
          rotate_left 1
          · (intro w hSw; (try dsimp only at hSw); go_simp <;> with_reducible rfl)
          try simp only [Act.put, List.setIfInBounds_toArray, List.set_cons_zero, List.set_cons_succ]
          refine wpAnyH_take (i := 1) (oi := ⟨some 56, _, _, _, _, _⟩) (v := ?_) rfl (by kernel_rfl) (by kernel_rfl) (by kernel_rfl) (fun _ _ _ h => h) (Or.inl ⟨by rfl, ?_⟩) (by assumption) ?_
          rotate_left 1
          · (intro w hSw; (try dsimp only at hSw); go_simp <;> with_reducible rfl)
          try simp only [Act.put, List.setIfInBounds_toArray, List.set_cons_zero, List.set_cons_succ]
          refine wpAnyH_take (i := 3) (oi := ⟨some 58, _, _, _, _, _⟩) (v := ?_) rfl (by kernel_rfl) (by kernel_rfl) (by kernel_rfl) (fun _ _ _ h => h) (Or.inl ⟨by rfl, ?_⟩) (by assumption) ?_
          rotate_left 1
          · (intro w hSw; (try dsimp only at hSw); go_simp <;> with_reducible rfl)
          try simp only [Act.put, List.setIfInBounds_toArray, List.set_cons_zero, List.set_cons_succ]
          refine wpAnyH_ready (rs := [2]) (by kernel_rfl) (by simp) ?_
          refine AllReadyH.cons (o := ⟨some 57, _, _, _, _, _⟩) rfl (fun K hK => ?_) AllReadyH.nil
          go_simp
          (with_reducible refine (CF1.out _ (Kept.refl _).drew).mono ?_)
          rintro e w8 ⟨h8, rfl, hk8, hl8⟩
          have K8 := Lib.hid (show Kept _ w8 from ((Kept.refl _).drew).trans hk8)
          have L8 := Lib.hid hl8
          clear hk8 hl8
          refine hK.out _ _ ?_ (fun hHeld => ?_)
          · exact SX.out _ K8.out
          clear hK K
          try simp only [Act.put, List.setIfInBounds_toArray, List.set_cons_zero, List.set_cons_succ]
          refine wpAnyH_ready (rs := [4]) (by kernel_rfl) (by simp) ?_
          refine AllReadyH.cons (o := ⟨some 59, _, _, _, _, _⟩) rfl (fun K hK => ?_) AllReadyH.nil
          go_simp
          (with_reducible refine (CX.out _ K8.out h8 L8.out).mono ?_)
          rintro e w9 ⟨rfl, hk9⟩
          have K9 := Lib.hid (K8.out.trans hk9)
          clear hk9
          refine hK.out _ _ ?_ (fun hHeld => ?_)
          · exact SX.out _ K9.out
          clear hK K
          try simp only [Act.put, List.setIfInBounds_toArray, List.set_cons_zero, List.set_cons_succ]
          refine wpAnyH_take (i := 5) (oi := ⟨some 60, _, _, _, _, _⟩) (v := ?_) rfl (by kernel_rfl) (by kernel_rfl) (by kernel_rfl) (fun _ _ _ h => h) (Or.inl ⟨by rfl, ?_⟩) (by assumption) ?_
          rotate_left 1
          · (intro w hSw; (try dsimp only at hSw); go_simp <;> with_reducible rfl)
          try simp only [Act.put, List.setIfInBounds_toArray, List.set_cons_zero, List.set_cons_succ]
          refine wpAnyH_take (i := 6) (oi := ⟨some 61, _, _, _, _, _⟩) (v := ?_) rfl (by kernel_rfl) (by kernel_rfl) (by kernel_rfl) (fun _ _ _ h => h) (Or.inl ⟨by rfl, ?_⟩) (by assumption) ?_
          rotate_left 1
          · (intro w hSw; (try dsimp only at hSw); go_simp <;> with_reducible rfl)
          try simp only [Act.put, List.setIfInBounds_toArray, List.set_cons_zero, List.set_cons_succ]
          refine wpAnyH_take (i := 7) (oi := ⟨some 62, _, _, _, _, _⟩) (v := ?_) rfl (by kernel_rfl) (by kernel_rfl) (by kernel_rfl) (fun _ _ _ h => h) (Or.inl ⟨by rfl, ?_⟩) (by assumption) ?_
          rotate_left 1
          · (intro w hSw; (try dsimp only at hSw); go_simp <;> with_reducible rfl)
          try simp only [Act.put, List.setIfInBounds_toArray, List.set_cons_zero, List.set_cons_succ]
          refine wpAnyH_take (i := 8) (oi := ⟨some 63, _, _, _, _, _⟩) (v := ?_) rfl (by kernel_rfl) (by kernel_rfl) (by kernel_rfl) (fun _ _ _ h => h) (Or.inl ⟨by rfl, ?_⟩) (by assumption) ?_
          rotate_left 1
          · (intro w hSw; (try dsimp only at hSw); go_simp <;> with_reducible rfl)
          try simp only [Act.put, List.setIfInBounds_toArray, List.set_cons_zero, List.set_cons_succ]
          refine wpAnyH_take (i := 9) (oi := ⟨some 64, _, _, _, _, _⟩) (v := ?_) rfl (by kernel_rfl) (by kernel_rfl) (by kernel_rfl) (fun _ _ _ h => h) (Or.inl ⟨by rfl, ?_⟩) (by assumption) ?_
          rotate_left 1
          · (intro w hSw; (try dsimp only at hSw); go_simp <;> with_reducible rfl)
          try simp only [Act.put, List.setIfInBounds_toArray, List.set_cons_zero, List.set_cons_succ]
          refine wpAnyH_take (i := 10) (oi := ⟨some 65, _, _, _, _, _⟩) (v := ?_) rfl (by kernel_rfl) (by kernel_rfl) (by kernel_rfl) (fun _ _ _ h => h) (Or.inl ⟨by rfl, ?_⟩) (by assumption) ?_
          rotate_left 1
          · (intro w hSw; (try dsimp only at hSw); go_simp <;> with_reducible rfl)
          try simp only [Act.put, List.setIfInBounds_toArray, List.set_cons_zero, List.set_cons_succ]
          refine wpAnyH_take (i := 11) (oi := ⟨some 66, _, _, _, _, _⟩) (v := undef) rfl (by kernel_rfl) (by kernel_rfl) (by kernel_rfl) (fun _ _ _ h => h) (Or.inr ⟨by rfl, rfl⟩) (by assumption) ?_
          try simp only [Act.put, List.setIfInBounds_toArray, List.set_cons_zero, List.set_cons_succ]
          refine wpAnyH_take (i := 12) (oi := ⟨some 67, _, _, _, _, _⟩) (v := undef) rfl (by kernel_rfl) (by kernel_rfl) (by kernel_rfl) (fun _ _ _ h => h) (Or.inr ⟨by rfl, rfl⟩) (by assumption) ?_
          try simp only [Act.put, List.setIfInBounds_toArray, List.set_cons_zero, List.set_cons_succ]
          refine wpAnyH_take (i := 13) (oi := ⟨some 68, _, _, _, _, _⟩) (v := undef) rfl (by kernel_rfl) (by kernel_rfl) (by kernel_rfl) (fun _ _ _ h => h) (Or.inr ⟨by rfl, rfl⟩) (by assumption) ?_
          try simp only [Act.put, List.setIfInBounds_toArray, List.set_cons_zero, List.set_cons_succ]
          refine wpAnyH_take (i := 14) (oi := ⟨some 69, _, _, _, _, _⟩) (v := undef) rfl (by kernel_rfl) (by kernel_rfl) (by kernel_rfl) (fun _ _ _ h => h) (Or.inr ⟨by rfl, rfl⟩) (by assumption) ?_
          try simp only [Act.put, List.setIfInBounds_toArray, List.set_cons_zero, List.set_cons_succ]
          refine wpAnyH_take (i := 15) (oi := ⟨some 70, _, _, _, _, _⟩) (v := undef) rfl (by kernel_rfl) (by kernel_rfl) (by kernel_rfl) (fun _ _ _ h => h) (Or.inr ⟨by rfl, rfl⟩) (by assumption) ?_
          try simp only [Act.put, List.setIfInBounds_toArray, List.set_cons_zero, List.set_cons_succ]
          refine wpAnyH_take (i := 16) (oi := ⟨some 71, _, _, _, _, _⟩) (v := undef) rfl (by kernel_rfl) (by kernel_rfl) (by kernel_rfl) (fun _ _ _ h => h) (Or.inr ⟨by rfl, rfl⟩) (by assumption) ?_
          try simp only [Act.put, List.setIfInBounds_toArray, List.set_cons_zero, List.set_cons_succ]
          refine wpAnyH_take (i := 17) (oi := ⟨some 72, _, _, _, _, _⟩) (v := undef) rfl (by kernel_rfl) (by kernel_rfl) (by kernel_rfl) (fun _ _ _ h => h) (Or.inr ⟨by rfl, rfl⟩) (by assumption) ?_
          try simp only [Act.put, List.setIfInBounds_toArray, List.set_cons_zero, List.set_cons_succ]
          refine wpAnyH_take (i := 18) (oi := ⟨some 73, _, _, _, _, _⟩) (v := undef) rfl (by kernel_rfl) (by kernel_rfl) (by kernel_rfl) (fun _ _ _ h => h) (Or.inr ⟨by rfl, rfl⟩) (by assumption) ?_
          try simp only [Act.put, List.setIfInBounds_toArray, List.set_cons_zero, List.set_cons_succ]
          refine wpAnyH_take (i := 19) (oi := ⟨some 74, _, _, _, _, _⟩) (v := ?_) rfl (by kernel_rfl) (by kernel_rfl) (by kernel_rfl) (fun _ _ _ h => h) (Or.inl ⟨by rfl, ?_⟩) (by assumption) ?_
          rotate_left 1
          · (intro w hSw; (try dsimp only at hSw); go_simp <;> with_reducible rfl)
          try simp only [Act.put, List.setIfInBounds_toArray, List.set_cons_zero, List.set_cons_succ]
          refine wpAnyH_take (i := 20) (oi := ⟨some 75, _, _, _, _, _⟩) (v := ?_) rfl (by kernel_rfl) (by kernel_rfl) (by kernel_rfl) (fun _ _ _ h => h) (Or.inl ⟨by rfl, ?_⟩) (by assumption) ?_
          rotate_left 1
          · (intro w hSw; (try dsimp only at hSw); go_simp <;> with_reducible rfl)
          try simp only [Act.put, List.setIfInBounds_toArray, List.set_cons_zero, List.set_cons_succ]
          refine wpAnyH_take (i := 21) (oi := ⟨some 76, _, _, _, _, _⟩) (v := ?_) rfl (by kernel_rfl) (by kernel_rfl) (by kernel_rfl) (fun _ _ _ h => h) (Or.inl ⟨by rfl, ?_⟩) (by assumption) ?_
          rotate_left 1
          · (intro w hSw; (try dsimp only at hSw); go_simp <;> with_reducible rfl)
          try simp only [Act.put, List.setIfInBounds_toArray, List.set_cons_zero, List.set_cons_succ]
          refine wpAnyH_take (i := 22) (oi := ⟨some 77, _, _, _, _, _⟩) (v := ?_) rfl (by kernel_rfl) (by kernel_rfl) (by kernel_rfl) (fun _ _ _ h => h) (Or.inl ⟨by rfl, ?_⟩) (by assumption) ?_
          rotate_left 1
          · (intro w hSw; (try dsimp only at hSw); go_simp <;> with_reducible rfl)
          try simp only [Act.put, List.setIfInBounds_toArray, List.set_cons_zero, List.set_cons_succ]
          refine wpAnyH_take (i := 23) (oi := ⟨some 78, _, _, _, _, _⟩) (v := ?_) rfl (by kernel_rfl) (by kernel_rfl) (by kernel_rfl) (fun _ _ _ h => h) (Or.inl ⟨by rfl, ?_⟩) (by assumption) ?_
          rotate_left 1
          · (intro w hSw; (try dsimp only at hSw); go_simp <;> with_reducible rfl)
          try simp only [Act.put, List.setIfInBounds_toArray, List.set_cons_zero, List.set_cons_succ]
          refine wpAnyH_take (i := 24) (oi := ⟨some 79, _, _, _, _, _⟩) (v := ?_) rfl (by kernel_rfl) (by kernel_rfl) (by kernel_rfl) (fun _ _ _ h => h) (Or.inl ⟨by rfl, ?_⟩) (by assumption) ?_
          rotate_left 1
          · (intro w hSw; (try dsimp only at hSw); go_simp <;> with_reducible rfl)
          try simp only [Act.put, List.setIfInBounds_toArray, List.set_cons_zero, List.set_cons_succ]
          refine wpAnyH_take (i := 25) (oi := ⟨some 80, _, _, _, _, _⟩) (v := ?_) rfl (by kernel_rfl) (by kernel_rfl) (by kernel_rfl) (fun _ _ _ h => h) (Or.inl ⟨by rfl, ?_⟩) (by assumption) ?_
          rotate_left 1
          · (intro w hSw; (try dsimp only at hSw); go_simp <;> with_reducible rfl)
          try simp only [Act.put, List.setIfInBounds_toArray, List.set_cons_zero, List.set_cons_succ]
          refine wpAnyH_take (i := 26) (oi := ⟨some 81, _, _, _, _, _⟩) (v := ?_) rfl (by kernel_rfl) (by kernel_rfl) (by kernel_rfl) (fun _ _ _ h => h) (Or.inl ⟨by rfl, ?_⟩) (by assumption) ?_
          rotate_left 1
          · (intro w hSw; (try dsimp only at hSw); go_simp <;> with_reducible rfl)
          try simp only [Act.put, List.setIfInBounds_toArray, List.set_cons_zero, List.set_cons_succ]
          refine wpAnyH_take (i := 27) (oi := ⟨some 82, _, _, _, _, _⟩) (v := ?_) rfl (by kernel_rfl) (by kernel_rfl) (by kernel_rfl) (fun _ _ _ h => h) (Or.inl ⟨by rfl, ?_⟩) (by assumption) ?_
          rotate_left 1
          · (intro w hSw; (try dsimp only at hSw); go_simp <;> with_reducible rfl)
          try simp only [Act.put, List.setIfInBounds_toArray, List.set_cons_zero, List.set_cons_succ]
          refine wpAnyH_take (i := 28) (oi := ⟨some 83, _, _, _, _, _⟩) (v := ?_) rfl (by kernel_rfl) (by kernel_rfl) (by kernel_rfl) (fun _ _ _ h => h) (Or.inl ⟨by rfl, ?_⟩) (by assumption) ?_
          rotate_left 1
          · (intro w hSw; (try dsimp only at hSw); go_simp <;> with_reducible rfl)
          try simp only [Act.put, List.setIfInBounds_toArray, List.set_cons_zero, List.set_cons_succ]
          refine wpAnyH_take (i := 29) (oi := ⟨some 84, _, _, _, _, _⟩) (v := ?_) rfl (by kernel_rfl) (by kernel_rfl) (by kernel_rfl) (fun _ _ _ h => h) (Or.inl ⟨by rfl, ?_⟩) (by assumption) ?_
          rotate_left 1
          · (intro w hSw; (try dsimp only at hSw); go_simp <;> with_reducible rfl)
          try simp only [Act.put, List.setIfInBounds_toArray, List.set_cons_zero, List.set_cons_succ]
          refine wpAnyH_take (i := 30) (oi := ⟨some 85, _, _, _, _, _⟩) (v := ?_) rfl (by kernel_rfl) (by kernel_rfl) (by kernel_rfl) (fun _ _ _ h => h) (Or.inl ⟨by rfl, ?_⟩) (by assumption) ?_
          rotate_left 1
          · (intro w hSw; (try dsimp only at hSw); go_simp <;> with_reducible rfl)
          try simp only [Act.put, List.setIfInBounds_toArray, List.set_cons_zero, List.set_cons_succ]
          refine wpAnyH_done (by kernel_rfl) ?_ _
          clear hHeld
          have IL := Lib.hid (I7.out.kept K9.out)
          have J7 := Lib.hid IL.out
          clear IL SX CF1 CX MX
          go_wp2_with fail
          go_loopg [13] (pl.length) (fun m iv wr => ∃ (I J : Nat), m = pl.length + 1 - I ∧ Hid (I = J + 1) ∧ I ≤ pl.length + 1 ∧ iv = .int .i64 I ∧ In w [(w6.heap.size, #[.slice p6 pl.length c6, .int .i64 t.k, .int .i64 t.n, .int .i64 t.f, .string t.s, .slice ht.p t.l.length ht.c, .slice ht.q t.d.length ht.e], 46), (w4.heap.size, #[.slice p4 l.length c4, .int .i64 t.k, .int .i64 t.n, .int .i64 t.f, .string t.s, .slice ht.p t.l.length ht.c, .slice ht.q t.d.length ht.e], 46), (w.heap.size + 1, #[.int .i64 o.k, .int .i64 o.n, .int .i64 o.f, .string o.s, .slice ho.p o.l.length ho.c, .slice ho.q o.d.length ho.e], 39), (w.heap.size, #[.slice p l.length c, .int .i64 t.k, .int .i64 t.n, .int .i64 t.f, .string t.s, .slice ht.p t.l.length ht.c, .slice ht.q t.d.length ht.e], 41)] wr ∧ Hid (Kept (w6.alloc (.cells #[.slice p6 pl.length c6, .int .i64 t.k, .int .i64 t.n, .int .i64 t.f, .string t.s, .slice ht.p t.l.length ht.c, .slice ht.q t.d.length ht.e] 46)) wr))
          case atStart => exact ⟨1, 0, by omega, Lib.hid rfl, by omega, by go_num, J7.out, Lib.hid K9.out⟩
          case round =>
            obtain ⟨I, J, hm, HIJ, hI1, rfl, hin, HK7⟩ := hrel
            have HI := Lib.hid hin
            have KI := Lib.hid (In.k hin)
            clear hin J7
            have PM := Lib.hid (HI.out.mem List.mem_cons_self)
            obtain ⟨a0, a1, a2, a3, a4, a5, a6⟩ := PM.out.cells7
            by_cases hlt : I < pl.length
            · have j1 : (I : Int) < (pl.length : Int) := by omega
              have j0 : (0 : Int) ≤ (I : Int) := by omega
              have ji : IntKind.i64.wrap ((I : Int) - 1) = (J : Int) := by have := HIJ.out; rw [IntWalk.i64_in _ (by omega)]; omega
              have jj : (0 : Int) ≤ (J : Int) := by omega
              have jl : (J : Int) < (pl.length : Int) := by have := HIJ.out; omega
              have hJl : J < pl.length := by have := HIJ.out; omega
              obtain ⟨kb, off, hdj, hp, -, kz, -, cj, -⟩ := (NM7.out.kept HK7.out).at' J hJl
              obtain ⟨kb', off', hdi, hp', -, -, -, ci, -⟩ := (NM7.out.kept HK7.out).at' I hlt
              rw [hp] at hp'
              obtain ⟨rfl, rfl⟩ : kb = kb' ∧ off = off' := by have e := Option.some.inj hp'; injection e with e1 e2; exact ⟨e1, e2⟩
              rw [hp] at a0
              clear hp'
              obtain ⟨nj, hnj⟩ : ∃ v, v = (pl[J]'hJl).n := ⟨_, rfl⟩
              obtain ⟨ni, hni⟩ : ∃ v, v = (pl[I]'hlt).n := ⟨_, rfl⟩
              rw [← hnj] at cj
              rw [← hni] at ci
              have SR := Lib.hid (show ∀ W, Kept wr W → (fun w' => w'.cell? ⟨w6.heap.size, 0, none⟩ = some (.slice (some ⟨kb, off, none⟩) pl.length c6) ∧ w'.cell? ⟨kb, off + J * 8, none⟩ = some (.int .i64 nj) ∧ w'.cell? ⟨kb, off + I * 8, none⟩ = some (.int .i64 ni)) W from fun W k => ⟨(k.cells.1 _ _ PM.out.lt).trans a0, (k.cells.1 _ _ kz).trans cj, (k.cells.1 _ _ kz).trans ci⟩)
              have HP := Lib.hid hp
              clear a1 a2 a3 a4 a5 a6 cj ci kz hp
              by_cases hge : ni ≤ nj
              · have HNR := Lib.hid (show ¬ RiseN l from fun hr => by
                  have z := rise_at (HRISE.out hr) I (by have := HIJ.out; omega) hlt
                  have e : ∀ k (hk : k < pl.length), k = J → (pl[k]'hk).n = nj := fun k hk e => by subst e; exact hnj.symm
                  rw [e (I - 1) (by omega) (by have := HIJ.out; omega), ← hni] at z
                  omega)
                clear hnj hni
                go_upto_region 13 with fail
                refine wp_region_held_drew (S := (fun w' => w'.cell? ⟨w6.heap.size, 0, none⟩ = some (.slice (some ⟨kb, off, none⟩) pl.length c6) ∧ w'.cell? ⟨kb, off + J * 8, none⟩ = some (.int .i64 nj) ∧ w'.cell? ⟨kb, off + I * 8, none⟩ = some (.int .i64 ni))) (by kernel_rfl) ?_ (fun hHeld => ?_)
                · exact SR.out _ (Kept.refl wr).drew
                refine wpAnyH_take (i := 0) (oi := ⟨some 93, _, _, _, _, _⟩) (v := ?_) rfl (by kernel_rfl) (by kernel_rfl) (by kernel_rfl) (fun _ _ _ h => h) (Or.inl ⟨by rfl, ?_⟩) (by assumption) ?_
                rotate_left 1
                · (intro w hSw; (try dsimp only at hSw); go_simp <;> with_reducible rfl)
                try simp only [Act.put, List.setIfInBounds_toArray, List.set_cons_zero, List.set_cons_succ]
                refine wpAnyH_take (i := 1) (oi := ⟨some 94, _, _, _, _, _⟩) (v := ?_) rfl (by kernel_rfl) (by kernel_rfl) (by kernel_rfl) (fun _ _ _ h => h) (Or.inl ⟨by rfl, ?_⟩) (by assumption) ?_
                rotate_left 1
                · (intro w hSw; (try dsimp only at hSw); go_simp <;> with_reducible rfl)
                try simp only [Act.put, List.setIfInBounds_toArray, List.set_cons_zero, List.set_cons_succ]
                refine wpAnyH_take (i := 2) (oi := ⟨some 95, _, _, _, _, _⟩) (v := ?_) rfl (by kernel_rfl) (by kernel_rfl) (by kernel_rfl) (fun _ _ _ h => h) (Or.inl ⟨by rfl, ?_⟩) (by assumption) ?_
                rotate_left 1
                · (intro w hSw; (try dsimp only at hSw); go_simp <;> with_reducible rfl)
                try simp only [Act.put, List.setIfInBounds_toArray, List.set_cons_zero, List.set_cons_succ]
                refine wpAnyH_take (i := 3) (oi := ⟨some 96, _, _, _, _, _⟩) (v := ?_) rfl (by kernel_rfl) (by kernel_rfl) (by kernel_rfl) (fun _ _ _ h => h) (Or.inl ⟨by rfl, ?_⟩) (by assumption) ?_
                rotate_left 1
                · (intro w hSw; (try dsimp only at hSw); go_simp <;> with_reducible rfl)
                try simp only [Act.put, List.setIfInBounds_toArray, List.set_cons_zero, List.set_cons_succ]
                refine wpAnyH_take (i := 4) (oi := ⟨some 97, _, _, _, _, _⟩) (v := ?_) rfl (by kernel_rfl) (by kernel_rfl) (by kernel_rfl) (fun _ _ _ h => h) (Or.inl ⟨by rfl, ?_⟩) (by assumption) ?_
                rotate_left 1
                · (intro w hSw; (try dsimp only at hSw); go_simp <;> with_reducible rfl)
                try simp only [Act.put, List.setIfInBounds_toArray, List.set_cons_zero, List.set_cons_succ]
                refine wpAnyH_take (i := 5) (oi := ⟨some 98, _, _, _, _, _⟩) (v := ?_) rfl (by kernel_rfl) (by kernel_rfl) (by kernel_rfl) (fun _ _ _ h => h) (Or.inl ⟨by rfl, ?_⟩) (by assumption) ?_
                rotate_left 1
                · (intro w hSw; (try dsimp only at hSw); go_simp <;> with_reducible rfl)
                try simp only [Act.put, List.setIfInBounds_toArray, List.set_cons_zero, List.set_cons_succ]
                refine wpAnyH_take (i := 6) (oi := ⟨some 99, _, _, _, _, _⟩) (v := ?_) rfl (by kernel_rfl) (by kernel_rfl) (by kernel_rfl) (fun _ _ _ h => h) (Or.inl ⟨by rfl, ?_⟩) (by assumption) ?_
                rotate_left 1
                · (intro w hSw; (try dsimp only at hSw); go_simp <;> with_reducible rfl)
                try simp only [Act.put, List.setIfInBounds_toArray, List.set_cons_zero, List.set_cons_succ]
                refine wpAnyH_take (i := 7) (oi := ⟨some 100, _, _, _, _, _⟩) (v := ?_) rfl (by kernel_rfl) (by kernel_rfl) (by kernel_rfl) (fun _ _ _ h => h) (Or.inl ⟨by rfl, ?_⟩) (by assumption) ?_
                rotate_left 1
                · (intro w hSw; (try dsimp only at hSw); go_simp <;> with_reducible rfl)
                try simp only [Act.put, List.setIfInBounds_toArray, List.set_cons_zero, List.set_cons_succ]
                refine wpAnyH_take (i := 8) (oi := ⟨some 101, _, _, _, _, _⟩) (v := ?_) rfl (by kernel_rfl) (by kernel_rfl) (by kernel_rfl) (fun _ _ _ h => h) (Or.inl ⟨by rfl, ?_⟩) (by assumption) ?_
                rotate_left 1
                · (intro w hSw; (try dsimp only at hSw); go_simp <;> with_reducible rfl)
                try simp only [Act.put, List.setIfInBounds_toArray, List.set_cons_zero, List.set_cons_succ]
                refine wpAnyH_take (i := 9) (oi := ⟨some 102, _, _, _, _, _⟩) (v := ?_) rfl (by kernel_rfl) (by kernel_rfl) (by kernel_rfl) (fun _ _ _ h => h) (Or.inl ⟨by rfl, ?_⟩) (by assumption) ?_
                rotate_left 1
                · (intro w hSw; (try dsimp only at hSw); go_simp <;> with_reducible rfl)
                try simp only [Act.put, List.setIfInBounds_toArray, List.set_cons_zero, List.set_cons_succ]
                refine wpAnyH_take (i := 10) (oi := ⟨some 103, _, _, _, _, _⟩) (v := ?_) rfl (by kernel_rfl) (by kernel_rfl) (by kernel_rfl) (fun _ _ _ h => h) (Or.inl ⟨by rfl, ?_⟩) (by assumption) ?_
                rotate_left 1
                · (intro w hSw; (try dsimp only at hSw); go_simp <;> with_reducible rfl)
                try simp only [Act.put, List.setIfInBounds_toArray, List.set_cons_zero, List.set_cons_succ]
                refine wpAnyH_take (i := 11) (oi := ⟨some 104, _, _, _, _, _⟩) (v := ?_) rfl (by kernel_rfl) (by kernel_rfl) (by kernel_rfl) (fun _ _ _ h => h) (Or.inl ⟨by rfl, ?_⟩) (by assumption) ?_
                rotate_left 1
                · (intro w hSw; (try dsimp only at hSw); go_simp <;> with_reducible rfl)
                try simp only [Act.put, List.setIfInBounds_toArray, List.set_cons_zero, List.set_cons_succ]
                refine wpAnyH_take (i := 12) (oi := ⟨some 105, _, _, _, _, _⟩) (v := ?_) rfl (by kernel_rfl) (by kernel_rfl) (by kernel_rfl) (fun _ _ _ h => h) (Or.inl ⟨by rfl, ?_⟩) (by assumption) ?_
                rotate_left 1
                · (intro w hSw; (try dsimp only at hSw); go_simp <;> with_reducible rfl)
                try simp only [Act.put, List.setIfInBounds_toArray, List.set_cons_zero, List.set_cons_succ]
                refine wpAnyH_take (i := 13) (oi := ⟨some 106, _, _, _, _, _⟩) (v := ?_) rfl (by kernel_rfl) (by kernel_rfl) (by kernel_rfl) (fun _ _ _ h => h) (Or.inl ⟨by rfl, ?_⟩) (by assumption) ?_
                rotate_left 1
                · (intro w hSw; (try dsimp only at hSw); go_simp <;> with_reducible rfl)
                try simp only [Act.put, List.setIfInBounds_toArray, List.set_cons_zero, List.set_cons_succ]
                refine wpAnyH_done (by kernel_rfl) ?_ _
                clear hHeld a0
                have HD := Lib.hid (HI.out.drew)
                have KD := Lib.hid (show Kept (w6.alloc (.cells #[.slice p6 pl.length c6, .int .i64 t.k, .int .i64 t.n, .int .i64 t.f, .string t.s, .slice ht.p t.l.length ht.c, .slice ht.q t.d.length ht.e] 46)) wr.drew from HK7.out.drew)
                go_wp2_with fail
                go_loopg [14] (l.length) (fun m kv ws => ∃ (X Y : Nat), m = l.length + 1 - X ∧ Hid (X = Y + 1) ∧ X ≤ l.length + 1 ∧ kv = .int .i64 X ∧ In w [(w6.heap.size, #[.slice p6 pl.length c6, .int .i64 t.k, .int .i64 t.n, .int .i64 t.f, .string t.s, .slice ht.p t.l.length ht.c, .slice ht.q t.d.length ht.e], 46), (w4.heap.size, #[.slice p4 l.length c4, .int .i64 t.k, .int .i64 t.n, .int .i64 t.f, .string t.s, .slice ht.p t.l.length ht.c, .slice ht.q t.d.length ht.e], 46), (w.heap.size + 1, #[.int .i64 o.k, .int .i64 o.n, .int .i64 o.f, .string o.s, .slice ho.p o.l.length ho.c, .slice ho.q o.d.length ho.e], 39), (w.heap.size, #[.slice p l.length c, .int .i64 t.k, .int .i64 t.n, .int .i64 t.f, .string t.s, .slice ht.p t.l.length ht.c, .slice ht.q t.d.length ht.e], 41)] ws ∧ Hid (Kept (w6.alloc (.cells #[.slice p6 pl.length c6, .int .i64 t.k, .int .i64 t.n, .int .i64 t.f, .string t.s, .slice ht.p t.l.length ht.c, .slice ht.q t.d.length ht.e] 46)) ws) ∧ Hid (∀ k (h0 : 0 < k) (hk : k < X) (hl : k < l.length), (l[k - 1]'(by omega)).n < (l[k]'hl).n))
                case atStart => exact ⟨1, 0, by omega, Lib.hid rfl, by omega, by go_num, HD.out, Lib.hid KD.out, Lib.hid (fun k h0 hk => by omega)⟩
                case round =>
                  obtain ⟨X, Y, hmX, HXY, hX1, rfl, hinX, HK8, HA⟩ := hrel
                  have HX := Lib.hid hinX
                  have KX := Lib.hid (In.k hinX)
                  clear hinX HD KD
                  have GM := Lib.hid (HX.out.mem (List.mem_cons_of_mem _ List.mem_cons_self))
                  obtain ⟨a0, a1, a2, a3, a4, a5, a6⟩ := GM.out.cells7
                  by_cases hltX : X < l.length
                  · have x1 : (X : Int) < (l.length : Int) := by omega
                    have x0 : (0 : Int) ≤ (X : Int) := by omega
                    have xi : IntKind.i64.wrap ((X : Int) - 1) = (Y : Int) := by have := HXY.out; rw [IntWalk.i64_in _ (by omega)]; omega
                    have xx : (0 : Int) ≤ (Y : Int) := by omega
                    have xl : (Y : Int) < (l.length : Int) := by have := HXY.out; omega
                    have hYl : Y < l.length := by have := HXY.out; omega
                    obtain ⟨qb, qof, hdj, hp, -, kz, -, cj, -⟩ := (NG7.out.kept HK8.out).at' Y hYl
                    obtain ⟨qb', qof', hdi, hp', -, -, -, ci, -⟩ := (NG7.out.kept HK8.out).at' X hltX
                    rw [hp] at hp'
                    obtain ⟨rfl, rfl⟩ : qb = qb' ∧ qof = qof' := by have e := Option.some.inj hp'; injection e with e1 e2; exact ⟨e1, e2⟩
                    rw [hp] at a0
                    clear hp'
                    obtain ⟨mj, hmj⟩ : ∃ v, v = (l[Y]'hYl).n := ⟨_, rfl⟩
                    obtain ⟨mi, hmi⟩ : ∃ v, v = (l[X]'hltX).n := ⟨_, rfl⟩
                    rw [← hmj] at cj
                    rw [← hmi] at ci
                    have SR2 := Lib.hid (show ∀ W, Kept wr W → (fun w' => w'.cell? ⟨w4.heap.size, 0, none⟩ = some (.slice (some ⟨qb, qof, none⟩) l.length c4) ∧ w'.cell? ⟨qb, qof + Y * 8, none⟩ = some (.int .i64 mj) ∧ w'.cell? ⟨qb, qof + X * 8, none⟩ = some (.int .i64 mi)) W from fun W k => ⟨(k.cells.1 _ _ GM.out.lt).trans a0, (k.cells.1 _ _ kz).trans cj, (k.cells.1 _ _ kz).trans ci⟩)
                    have HP2 := Lib.hid hp
                    have HD2 := Lib.hid (HX.out.drew)
                    have KD2 := Lib.hid (show Kept (w6.alloc (.cells #[.slice p6 pl.length c6, .int .i64 t.k, .int .i64 t.n, .int .i64 t.f, .string t.s, .slice ht.p t.l.length ht.c, .slice ht.q t.d.length ht.e] 46)) wr.drew from HK8.out.drew)
                    clear a1 a2 a3 a4 a5 a6 cj ci kz hp
                    by_cases hge2 : mi ≤ mj
                    · clear hmj hmi
                      go_upto_region 17 with fail
                      refine wp_region_held_drew (S := (fun w' => w'.cell? ⟨w4.heap.size, 0, none⟩ = some (.slice (some ⟨qb, qof, none⟩) l.length c4) ∧ w'.cell? ⟨qb, qof + Y * 8, none⟩ = some (.int .i64 mj) ∧ w'.cell? ⟨qb, qof + X * 8, none⟩ = some (.int .i64 mi))) (by kernel_rfl) ?_ (fun hHeld => ?_)
                      · exact SR2.out _ (Kept.refl wr).drew
                      refine wpAnyH_take (i := 0) (oi := ⟨some 114, _, _, _, _, _⟩) (v := ?_) rfl (by kernel_rfl) (by kernel_rfl) (by kernel_rfl) (fun _ _ _ h => h) (Or.inl ⟨by rfl, ?_⟩) (by assumption) ?_
                      rotate_left 1
                      · (intro w hSw; (try dsimp only at hSw); go_simp <;> with_reducible rfl)
                      try simp only [Act.put, List.setIfInBounds_toArray, List.set_cons_zero, List.set_cons_succ]
                      refine wpAnyH_take (i := 1) (oi := ⟨some 115, _, _, _, _, _⟩) (v := ?_) rfl (by kernel_rfl) (by kernel_rfl) (by kernel_rfl) (fun _ _ _ h => h) (Or.inl ⟨by rfl, ?_⟩) (by assumption) ?_
                      rotate_left 1
                      · (intro w hSw; (try dsimp only at hSw); go_simp <;> with_reducible rfl)
                      try simp only [Act.put, List.setIfInBounds_toArray, List.set_cons_zero, List.set_cons_succ]
                      refine wpAnyH_take (i := 2) (oi := ⟨some 116, _, _, _, _, _⟩) (v := ?_) rfl (by kernel_rfl) (by kernel_rfl) (by kernel_rfl) (fun _ _ _ h => h) (Or.inl ⟨by rfl, ?_⟩) (by assumption) ?_
                      rotate_left 1
                      · (intro w hSw; (try dsimp only at hSw); go_simp <;> with_reducible rfl)
                      try simp only [Act.put, List.setIfInBounds_toArray, List.set_cons_zero, List.set_cons_succ]
                      refine wpAnyH_take (i := 3) (oi := ⟨some 117, _, _, _, _, _⟩) (v := ?_) rfl (by kernel_rfl) (by kernel_rfl) (by kernel_rfl) (fun _ _ _ h => h) (Or.inl ⟨by rfl, ?_⟩) (by assumption) ?_
                      rotate_left 1
                      · (intro w hSw; (try dsimp only at hSw); go_simp <;> with_reducible rfl)
                      try simp only [Act.put, List.setIfInBounds_toArray, List.set_cons_zero, List.set_cons_succ]
                      refine wpAnyH_take (i := 4) (oi := ⟨some 118, _, _, _, _, _⟩) (v := ?_) rfl (by kernel_rfl) (by kernel_rfl) (by kernel_rfl) (fun _ _ _ h => h) (Or.inl ⟨by rfl, ?_⟩) (by assumption) ?_
                      rotate_left 1
                      · (intro w hSw; (try dsimp only at hSw); go_simp <;> with_reducible rfl)
                      try simp only [Act.put, List.setIfInBounds_toArray, List.set_cons_zero, List.set_cons_succ]
                      refine wpAnyH_take (i := 5) (oi := ⟨some 119, _, _, _, _, _⟩) (v := ?_) rfl (by kernel_rfl) (by kernel_rfl) (by kernel_rfl) (fun _ _ _ h => h) (Or.inl ⟨by rfl, ?_⟩) (by assumption) ?_
                      rotate_left 1
                      · (intro w hSw; (try dsimp only at hSw); go_simp <;> with_reducible rfl)
                      try simp only [Act.put, List.setIfInBounds_toArray, List.set_cons_zero, List.set_cons_succ]
                      refine wpAnyH_take (i := 6) (oi := ⟨some 120, _, _, _, _, _⟩) (v := ?_) rfl (by kernel_rfl) (by kernel_rfl) (by kernel_rfl) (fun _ _ _ h => h) (Or.inl ⟨by rfl, ?_⟩) (by assumption) ?_
                      rotate_left 1
                      · (intro w hSw; (try dsimp only at hSw); go_simp <;> with_reducible rfl)
                      try simp only [Act.put, List.setIfInBounds_toArray, List.set_cons_zero, List.set_cons_succ]
                      refine wpAnyH_take (i := 7) (oi := ⟨some 121, _, _, _, _, _⟩) (v := ?_) rfl (by kernel_rfl) (by kernel_rfl) (by kernel_rfl) (fun _ _ _ h => h) (Or.inl ⟨by rfl, ?_⟩) (by assumption) ?_
                      rotate_left 1
                      · (intro w hSw; (try dsimp only at hSw); go_simp <;> with_reducible rfl)
                      try simp only [Act.put, List.setIfInBounds_toArray, List.set_cons_zero, List.set_cons_succ]
                      refine wpAnyH_take (i := 8) (oi := ⟨some 122, _, _, _, _, _⟩) (v := ?_) rfl (by kernel_rfl) (by kernel_rfl) (by kernel_rfl) (fun _ _ _ h => h) (Or.inl ⟨by rfl, ?_⟩) (by assumption) ?_
                      rotate_left 1
                      · (intro w hSw; (try dsimp only at hSw); go_simp <;> with_reducible rfl)
                      try simp only [Act.put, List.setIfInBounds_toArray, List.set_cons_zero, List.set_cons_succ]
                      refine wpAnyH_take (i := 9) (oi := ⟨some 123, _, _, _, _, _⟩) (v := ?_) rfl (by kernel_rfl) (by kernel_rfl) (by kernel_rfl) (fun _ _ _ h => h) (Or.inl ⟨by rfl, ?_⟩) (by assumption) ?_
                      rotate_left 1
                      · (intro w hSw; (try dsimp only at hSw); go_simp <;> with_reducible rfl)
                      try simp only [Act.put, List.setIfInBounds_toArray, List.set_cons_zero, List.set_cons_succ]
                      refine wpAnyH_take (i := 10) (oi := ⟨some 124, _, _, _, _, _⟩) (v := ?_) rfl (by kernel_rfl) (by kernel_rfl) (by kernel_rfl) (fun _ _ _ h => h) (Or.inl ⟨by rfl, ?_⟩) (by assumption) ?_
                      rotate_left 1
                      · (intro w hSw; (try dsimp only at hSw); go_simp <;> with_reducible rfl)
                      try simp only [Act.put, List.setIfInBounds_toArray, List.set_cons_zero, List.set_cons_succ]
                      refine wpAnyH_take (i := 11) (oi := ⟨some 125, _, _, _, _, _⟩) (v := ?_) rfl (by kernel_rfl) (by kernel_rfl) (by kernel_rfl) (fun _ _ _ h => h) (Or.inl ⟨by rfl, ?_⟩) (by assumption) ?_
                      rotate_left 1
                      · (intro w hSw; (try dsimp only at hSw); go_simp <;> with_reducible rfl)
                      try simp only [Act.put, List.setIfInBounds_toArray, List.set_cons_zero, List.set_cons_succ]
                      refine wpAnyH_take (i := 12) (oi := ⟨some 126, _, _, _, _, _⟩) (v := ?_) rfl (by kernel_rfl) (by kernel_rfl) (by kernel_rfl) (fun _ _ _ h => h) (Or.inl ⟨by rfl, ?_⟩) (by assumption) ?_
                      rotate_left 1
                      · (intro w hSw; (try dsimp only at hSw); go_simp <;> with_reducible rfl)
                      try simp only [Act.put, List.setIfInBounds_toArray, List.set_cons_zero, List.set_cons_succ]
                      refine wpAnyH_take (i := 13) (oi := ⟨some 127, _, _, _, _, _⟩) (v := ?_) rfl (by kernel_rfl) (by kernel_rfl) (by kernel_rfl) (fun _ _ _ h => h) (Or.inl ⟨by rfl, ?_⟩) (by assumption) ?_
                      rotate_left 1
                      · (intro w hSw; (try dsimp only at hSw); go_simp <;> with_reducible rfl)
                      try simp only [Act.put, List.setIfInBounds_toArray, List.set_cons_zero, List.set_cons_succ]
                      refine wpAnyH_done (by kernel_rfl) ?_ _
                      clear hHeld a0
                      go_wp2_with fail
                      go_ret
                      exact ⟨rfl, In.k HD2.out⟩
                    · have HA2 := Lib.hid (show ∀ k (h0 : 0 < k) (hk : k < X + 1) (hl : k < l.length), (l[k - 1]'(by omega)).n < (l[k]'hl).n from fun k h0 hk hl => by
                        rcases Nat.lt_or_ge k X with h | h
                        · exact HA.out k h0 h hl
                        · obtain rfl : k = X := by omega
                          have e : ∀ k (hk : k < l.length), k = Y → (l[k]'hk).n = mj := fun k hk e => by subst e; exact hmj.symm
                          rw [e (k - 1) (by omega) (by have := HXY.out; omega), ← hmi]
                          omega)
                      clear hmj hmi
                      go_upto_region 17 with fail
                      refine wp_region_held_drew (S := (fun w' => w'.cell? ⟨w4.heap.size, 0, none⟩ = some (.slice (some ⟨qb, qof, none⟩) l.length c4) ∧ w'.cell? ⟨qb, qof + Y * 8, none⟩ = some (.int .i64 mj) ∧ w'.cell? ⟨qb, qof + X * 8, none⟩ = some (.int .i64 mi))) (by kernel_rfl) ?_ (fun hHeld => ?_)
                      · exact SR2.out _ (Kept.refl wr).drew
                      refine wpAnyH_take (i := 0) (oi := ⟨some 114, _, _, _, _, _⟩) (v := ?_) rfl (by kernel_rfl) (by kernel_rfl) (by kernel_rfl) (fun _ _ _ h => h) (Or.inl ⟨by rfl, ?_⟩) (by assumption) ?_
                      rotate_left 1
                      · (intro w hSw; (try dsimp only at hSw); go_simp <;> with_reducible rfl)
                      try simp only [Act.put, List.setIfInBounds_toArray, List.set_cons_zero, List.set_cons_succ]
                      refine wpAnyH_take (i := 1) (oi := ⟨some 115, _, _, _, _, _⟩) (v := ?_) rfl (by kernel_rfl) (by kernel_rfl) (by kernel_rfl) (fun _ _ _ h => h) (Or.inl ⟨by rfl, ?_⟩) (by assumption) ?_
                      rotate_left 1
                      · (intro w hSw; (try dsimp only at hSw); go_simp <;> with_reducible rfl)
                      try simp only [Act.put, List.setIfInBounds_toArray, List.set_cons_zero, List.set_cons_succ]
                      refine wpAnyH_take (i := 2) (oi := ⟨some 116, _, _, _, _, _⟩) (v := ?_) rfl (by kernel_rfl) (by kernel_rfl) (by kernel_rfl) (fun _ _ _ h => h) (Or.inl ⟨by rfl, ?_⟩) (by assumption) ?_
                      rotate_left 1
                      · (intro w hSw; (try dsimp only at hSw); go_simp <;> with_reducible rfl)
                      try simp only [Act.put, List.setIfInBounds_toArray, List.set_cons_zero, List.set_cons_succ]
                      refine wpAnyH_take (i := 3) (oi := ⟨some 117, _, _, _, _, _⟩) (v := ?_) rfl (by kernel_rfl) (by kernel_rfl) (by kernel_rfl) (fun _ _ _ h => h) (Or.inl ⟨by rfl, ?_⟩) (by assumption) ?_
                      rotate_left 1
                      · (intro w hSw; (try dsimp only at hSw); go_simp <;> with_reducible rfl)
                      try simp only [Act.put, List.setIfInBounds_toArray, List.set_cons_zero, List.set_cons_succ]
                      refine wpAnyH_take (i := 4) (oi := ⟨some 118, _, _, _, _, _⟩) (v := ?_) rfl (by kernel_rfl) (by kernel_rfl) (by kernel_rfl) (fun _ _ _ h => h) (Or.inl ⟨by rfl, ?_⟩) (by assumption) ?_
                      rotate_left 1
                      · (intro w hSw; (try dsimp only at hSw); go_simp <;> with_reducible rfl)
                      try simp only [Act.put, List.setIfInBounds_toArray, List.set_cons_zero, List.set_cons_succ]
                      refine wpAnyH_take (i := 5) (oi := ⟨some 119, _, _, _, _, _⟩) (v := ?_) rfl (by kernel_rfl) (by kernel_rfl) (by kernel_rfl) (fun _ _ _ h => h) (Or.inl ⟨by rfl, ?_⟩) (by assumption) ?_
                      rotate_left 1
                      · (intro w hSw; (try dsimp only at hSw); go_simp <;> with_reducible rfl)
                      try simp only [Act.put, List.setIfInBounds_toArray, List.set_cons_zero, List.set_cons_succ]
                      refine wpAnyH_take (i := 6) (oi := ⟨some 120, _, _, _, _, _⟩) (v := ?_) rfl (by kernel_rfl) (by kernel_rfl) (by kernel_rfl) (fun _ _ _ h => h) (Or.inl ⟨by rfl, ?_⟩) (by assumption) ?_
                      rotate_left 1
                      · (intro w hSw; (try dsimp only at hSw); go_simp <;> with_reducible rfl)
                      try simp only [Act.put, List.setIfInBounds_toArray, List.set_cons_zero, List.set_cons_succ]
                      refine wpAnyH_take (i := 7) (oi := ⟨some 121, _, _, _, _, _⟩) (v := ?_) rfl (by kernel_rfl) (by kernel_rfl) (by kernel_rfl) (fun _ _ _ h => h) (Or.inl ⟨by rfl, ?_⟩) (by assumption) ?_
                      rotate_left 1
                      · (intro w hSw; (try dsimp only at hSw); go_simp <;> with_reducible rfl)
                      try simp only [Act.put, List.setIfInBounds_toArray, List.set_cons_zero, List.set_cons_succ]
                      refine wpAnyH_take (i := 8) (oi := ⟨some 122, _, _, _, _, _⟩) (v := ?_) rfl (by kernel_rfl) (by kernel_rfl) (by kernel_rfl) (fun _ _ _ h => h) (Or.inl ⟨by rfl, ?_⟩) (by assumption) ?_
                      rotate_left 1
                      · (intro w hSw; (try dsimp only at hSw); go_simp <;> with_reducible rfl)
                      try simp only [Act.put, List.setIfInBounds_toArray, List.set_cons_zero, List.set_cons_succ]
                      refine wpAnyH_take (i := 9) (oi := ⟨some 123, _, _, _, _, _⟩) (v := ?_) rfl (by kernel_rfl) (by kernel_rfl) (by kernel_rfl) (fun _ _ _ h => h) (Or.inl ⟨by rfl, ?_⟩) (by assumption) ?_
                      rotate_left 1
                      · (intro w hSw; (try dsimp only at hSw); go_simp <;> with_reducible rfl)
                      try simp only [Act.put, List.setIfInBounds_toArray, List.set_cons_zero, List.set_cons_succ]
                      refine wpAnyH_take (i := 10) (oi := ⟨some 124, _, _, _, _, _⟩) (v := ?_) rfl (by kernel_rfl) (by kernel_rfl) (by kernel_rfl) (fun _ _ _ h => h) (Or.inl ⟨by rfl, ?_⟩) (by assumption) ?_
                      rotate_left 1
                      · (intro w hSw; (try dsimp only at hSw); go_simp <;> with_reducible rfl)
                      try simp only [Act.put, List.setIfInBounds_toArray, List.set_cons_zero, List.set_cons_succ]
                      refine wpAnyH_take (i := 11) (oi := ⟨some 125, _, _, _, _, _⟩) (v := ?_) rfl (by kernel_rfl) (by kernel_rfl) (by kernel_rfl) (fun _ _ _ h => h) (Or.inl ⟨by rfl, ?_⟩) (by assumption) ?_
                      rotate_left 1
                      · (intro w hSw; (try dsimp only at hSw); go_simp <;> with_reducible rfl)
                      try simp only [Act.put, List.setIfInBounds_toArray, List.set_cons_zero, List.set_cons_succ]
                      refine wpAnyH_take (i := 12) (oi := ⟨some 126, _, _, _, _, _⟩) (v := ?_) rfl (by kernel_rfl) (by kernel_rfl) (by kernel_rfl) (fun _ _ _ h => h) (Or.inl ⟨by rfl, ?_⟩) (by assumption) ?_
                      rotate_left 1
                      · (intro w hSw; (try dsimp only at hSw); go_simp <;> with_reducible rfl)
                      try simp only [Act.put, List.setIfInBounds_toArray, List.set_cons_zero, List.set_cons_succ]
                      refine wpAnyH_take (i := 13) (oi := ⟨some 127, _, _, _, _, _⟩) (v := ?_) rfl (by kernel_rfl) (by kernel_rfl) (by kernel_rfl) (fun _ _ _ h => h) (Or.inl ⟨by rfl, ?_⟩) (by assumption) ?_
                      rotate_left 1
                      · (intro w hSw; (try dsimp only at hSw); go_simp <;> with_reducible rfl)
                      try simp only [Act.put, List.setIfInBounds_toArray, List.set_cons_zero, List.set_cons_succ]
                      refine wpAnyH_done (by kernel_rfl) ?_ _
                      clear hHeld a0
                      go_wp2_with fail
                      go_roundg (l.length + 1 - (X + 1))
                      case measure => omega
                      case rel => exact ⟨X + 1, X, rfl, Lib.hid rfl, by omega, by go_num, HD2.out, Lib.hid KD2.out, Lib.hid HA2.out⟩
                  · exact absurd (rise_adj fun k h0 hk => HA.out k h0 (by omega) hk) HNR.out
              · clear hnj hni
                go_upto_region 13 with fail
                refine wp_region_held_drew (S := (fun w' => w'.cell? ⟨w6.heap.size, 0, none⟩ = some (.slice (some ⟨kb, off, none⟩) pl.length c6) ∧ w'.cell? ⟨kb, off + J * 8, none⟩ = some (.int .i64 nj) ∧ w'.cell? ⟨kb, off + I * 8, none⟩ = some (.int .i64 ni))) (by kernel_rfl) ?_ (fun hHeld => ?_)
                · exact SR.out _ (Kept.refl wr).drew
                refine wpAnyH_take (i := 0) (oi := ⟨some 93, _, _, _, _, _⟩) (v := ?_) rfl (by kernel_rfl) (by kernel_rfl) (by kernel_rfl) (fun _ _ _ h => h) (Or.inl ⟨by rfl, ?_⟩) (by assumption) ?_
                rotate_left 1
                · (intro w hSw; (try dsimp only at hSw); go_simp <;> with_reducible rfl)
                try simp only [Act.put, List.setIfInBounds_toArray, List.set_cons_zero, List.set_cons_succ]
                refine wpAnyH_take (i := 1) (oi := ⟨some 94, _, _, _, _, _⟩) (v := ?_) rfl (by kernel_rfl) (by kernel_rfl) (by kernel_rfl) (fun _ _ _ h => h) (Or.inl ⟨by rfl, ?_⟩) (by assumption) ?_
                rotate_left 1
                · (intro w hSw; (try dsimp only at hSw); go_simp <;> with_reducible rfl)
                try simp only [Act.put, List.setIfInBounds_toArray, List.set_cons_zero, List.set_cons_succ]
                refine wpAnyH_take (i := 2) (oi := ⟨some 95, _, _, _, _, _⟩) (v := ?_) rfl (by kernel_rfl) (by kernel_rfl) (by kernel_rfl) (fun _ _ _ h => h) (Or.inl ⟨by rfl, ?_⟩) (by assumption) ?_
                rotate_left 1
                · (intro w hSw; (try dsimp only at hSw); go_simp <;> with_reducible rfl)
                try simp only [Act.put, List.setIfInBounds_toArray, List.set_cons_zero, List.set_cons_succ]
                refine wpAnyH_take (i := 3) (oi := ⟨some 96, _, _, _, _, _⟩) (v := ?_) rfl (by kernel_rfl) (by kernel_rfl) (by kernel_rfl) (fun _ _ _ h => h) (Or.inl ⟨by rfl, ?_⟩) (by assumption) ?_
                rotate_left 1
                · (intro w hSw; (try dsimp only at hSw); go_simp <;> with_reducible rfl)
                try simp only [Act.put, List.setIfInBounds_toArray, List.set_cons_zero, List.set_cons_succ]
                refine wpAnyH_take (i := 4) (oi := ⟨some 97, _, _, _, _, _⟩) (v := ?_) rfl (by kernel_rfl) (by kernel_rfl) (by kernel_rfl) (fun _ _ _ h => h) (Or.inl ⟨by rfl, ?_⟩) (by assumption) ?_
                rotate_left 1
                · (intro w hSw; (try dsimp only at hSw); go_simp <;> with_reducible rfl)
                try simp only [Act.put, List.setIfInBounds_toArray, List.set_cons_zero, List.set_cons_succ]
                refine wpAnyH_take (i := 5) (oi := ⟨some 98, _, _, _, _, _⟩) (v := ?_) rfl (by kernel_rfl) (by kernel_rfl) (by kernel_rfl) (fun _ _ _ h => h) (Or.inl ⟨by rfl, ?_⟩) (by assumption) ?_
                rotate_left 1
                · (intro w hSw; (try dsimp only at hSw); go_simp <;> with_reducible rfl)
                try simp only [Act.put, List.setIfInBounds_toArray, List.set_cons_zero, List.set_cons_succ]
                refine wpAnyH_take (i := 6) (oi := ⟨some 99, _, _, _, _, _⟩) (v := ?_) rfl (by kernel_rfl) (by kernel_rfl) (by kernel_rfl) (fun _ _ _ h => h) (Or.inl ⟨by rfl, ?_⟩) (by assumption) ?_
                rotate_left 1
                · (intro w hSw; (try dsimp only at hSw); go_simp <;> with_reducible rfl)
                try simp only [Act.put, List.setIfInBounds_toArray, List.set_cons_zero, List.set_cons_succ]
                refine wpAnyH_take (i := 7) (oi := ⟨some 100, _, _, _, _, _⟩) (v := ?_) rfl (by kernel_rfl) (by kernel_rfl) (by kernel_rfl) (fun _ _ _ h => h) (Or.inl ⟨by rfl, ?_⟩) (by assumption) ?_
                rotate_left 1
                · (intro w hSw; (try dsimp only at hSw); go_simp <;> with_reducible rfl)
                try simp only [Act.put, List.setIfInBounds_toArray, List.set_cons_zero, List.set_cons_succ]
                refine wpAnyH_take (i := 8) (oi := ⟨some 101, _, _, _, _, _⟩) (v := ?_) rfl (by kernel_rfl) (by kernel_rfl) (by kernel_rfl) (fun _ _ _ h => h) (Or.inl ⟨by rfl, ?_⟩) (by assumption) ?_
                rotate_left 1
                · (intro w hSw; (try dsimp only at hSw); go_simp <;> with_reducible rfl)
                try simp only [Act.put, List.setIfInBounds_toArray, List.set_cons_zero, List.set_cons_succ]
                refine wpAnyH_take (i := 9) (oi := ⟨some 102, _, _, _, _, _⟩) (v := ?_) rfl (by kernel_rfl) (by kernel_rfl) (by kernel_rfl) (fun _ _ _ h => h) (Or.inl ⟨by rfl, ?_⟩) (by assumption) ?_
                rotate_left 1
                · (intro w hSw; (try dsimp only at hSw); go_simp <;> with_reducible rfl)
                try simp only [Act.put, List.setIfInBounds_toArray, List.set_cons_zero, List.set_cons_succ]
                refine wpAnyH_take (i := 10) (oi := ⟨some 103, _, _, _, _, _⟩) (v := ?_) rfl (by kernel_rfl) (by kernel_rfl) (by kernel_rfl) (fun _ _ _ h => h) (Or.inl ⟨by rfl, ?_⟩) (by assumption) ?_
                rotate_left 1
                · (intro w hSw; (try dsimp only at hSw); go_simp <;> with_reducible rfl)
                try simp only [Act.put, List.setIfInBounds_toArray, List.set_cons_zero, List.set_cons_succ]
                refine wpAnyH_take (i := 11) (oi := ⟨some 104, _, _, _, _, _⟩) (v := ?_) rfl (by kernel_rfl) (by kernel_rfl) (by kernel_rfl) (fun _ _ _ h => h) (Or.inl ⟨by rfl, ?_⟩) (by assumption) ?_
                rotate_left 1
                · (intro w hSw; (try dsimp only at hSw); go_simp <;> with_reducible rfl)
                try simp only [Act.put, List.setIfInBounds_toArray, List.set_cons_zero, List.set_cons_succ]
                refine wpAnyH_take (i := 12) (oi := ⟨some 105, _, _, _, _, _⟩) (v := ?_) rfl (by kernel_rfl) (by kernel_rfl) (by kernel_rfl) (fun _ _ _ h => h) (Or.inl ⟨by rfl, ?_⟩) (by assumption) ?_
                rotate_left 1
                · (intro w hSw; (try dsimp only at hSw); go_simp <;> with_reducible rfl)
                try simp only [Act.put, List.setIfInBounds_toArray, List.set_cons_zero, List.set_cons_succ]
                refine wpAnyH_take (i := 13) (oi := ⟨some 106, _, _, _, _, _⟩) (v := ?_) rfl (by kernel_rfl) (by kernel_rfl) (by kernel_rfl) (fun _ _ _ h => h) (Or.inl ⟨by rfl, ?_⟩) (by assumption) ?_
                rotate_left 1
                · (intro w hSw; (try dsimp only at hSw); go_simp <;> with_reducible rfl)
                try simp only [Act.put, List.setIfInBounds_toArray, List.set_cons_zero, List.set_cons_succ]
                refine wpAnyH_done (by kernel_rfl) ?_ _
                clear hHeld a0
                have HD := Lib.hid (HI.out.drew)
                have KD := Lib.hid (show Kept (w6.alloc (.cells #[.slice p6 pl.length c6, .int .i64 t.k, .int .i64 t.n, .int .i64 t.f, .string t.s, .slice ht.p t.l.length ht.c, .slice ht.q t.d.length ht.e] 46)) wr.drew from HK7.out.drew)
                go_wp2_with fail
                go_roundg (pl.length + 1 - (I + 1))
                case measure => omega
                case rel => exact ⟨I + 1, I, rfl, Lib.hid rfl, by omega, by go_num, HD.out, Lib.hid KD.out⟩
            · have j1 : ¬ (I : Int) < (pl.length : Int) := by omega
              have GM := Lib.hid (HI.out.mem (List.mem_cons_of_mem _ List.mem_cons_self))
              have FM := Lib.hid (HI.out.mem (List.mem_cons_of_mem _ (List.mem_cons_of_mem _ (List.mem_cons_of_mem _ List.mem_cons_self))))
              have SF := Lib.hid (show ∀ W, Kept wr W → (fun w' => w'.cell? ⟨w4.heap.size, 0, none⟩ = some (.slice p4 l.length c4) ∧ w'.cell? ⟨w4.heap.size, 1, none⟩ = some (.int .i64 t.k) ∧ w'.cell? ⟨w4.heap.size, 2, none⟩ = some (.int .i64 t.n) ∧ w'.cell? ⟨w4.heap.size, 3, none⟩ = some (.int .i64 t.f) ∧ w'.cell? ⟨w4.heap.size, 4, none⟩ = some (.string t.s) ∧ w'.cell? ⟨w4.heap.size, 5, none⟩ = some (.slice ht.p t.l.length ht.c) ∧ w'.cell? ⟨w4.heap.size, 6, none⟩ = some (.slice ht.q t.d.length ht.e) ∧ w'.cell? ⟨w.heap.size, 0, none⟩ = some (.slice p l.length c) ∧ w'.cell? ⟨w.heap.size, 1, none⟩ = some (.int .i64 t.k) ∧ w'.cell? ⟨w.heap.size, 2, none⟩ = some (.int .i64 t.n) ∧ w'.cell? ⟨w.heap.size, 3, none⟩ = some (.int .i64 t.f) ∧ w'.cell? ⟨w.heap.size, 4, none⟩ = some (.string t.s) ∧ w'.cell? ⟨w.heap.size, 5, none⟩ = some (.slice ht.p t.l.length ht.c) ∧ w'.cell? ⟨w.heap.size, 6, none⟩ = some (.slice ht.q t.d.length ht.e)) W from fun W k => by
                obtain ⟨g0, g1, g2, g3, g4, g5, g6⟩ := (GM.out.kept k).cells7
                obtain ⟨f0, f1, f2, f3, f4, f5, f6⟩ := (FM.out.kept k).cells7
                exact ⟨g0, g1, g2, g3, g4, g5, g6, f0, f1, f2, f3, f4, f5, f6⟩)
              have CT := Lib.hid (show ∀ W, Kept wr W → Calls Tryz.prog 21 #[.agg #[.slice p4 l.length c4, .int .i64 t.k, .int .i64 t.n, .int .i64 t.f, .string t.s, .slice ht.p t.l.length ht.c, .slice ht.q t.d.length ht.e]] W fun e W' => ∃ p' c', e = .returned (.agg #[.slice p' l.length c', .int .i64 t.k, .int .i64 t.n, .int .i64 t.f, .string t.s, .slice ht.p t.l.length ht.c, .slice ht.q t.d.length ht.e]) ∧ Kept W W' ∧ Hid (NmR (fun _ => True) W' p' l) from fun W k => by
                refine (theirs9_any l p4 c4 t ht W (NG7.out.kept (HK7.out.trans k)) (by omega)).mono ?_
                rintro e W' ⟨p', c', rfl, hk', hn', -⟩
                exact ⟨p', c', rfl, hk', Lib.hid hn'⟩)
              have CS := Lib.hid (show ∀ W p' c', Kept wr W → NmR (fun _ => True) W p' l → Calls Tryz.prog 20 #[.agg #[.slice p' l.length c', .int .i64 t.k, .int .i64 t.n, .int .i64 t.f, .string t.s, .slice ht.p t.l.length ht.c, .slice ht.q t.d.length ht.e], .agg #[.slice p l.length c, .int .i64 t.k, .int .i64 t.n, .int .i64 t.f, .string t.s, .slice ht.p t.l.length ht.c, .slice ht.q t.d.length ht.e]] W fun e W' => e = .returned (.bool true) ∧ Kept W W' from fun W p' c' k hn => by
                have kk := KI.out.trans k
                exact same9_any l p' p c' c t ht ht W hn (NM0.out.kept kk) (by omega) (LT.out.kept kk) (LT.out.kept kk))
              clear a1 a2 a3 a4 a5 a6
              go_upto_region 20 with fail
              refine wp_region_held_drew (S := (fun w' => w'.cell? ⟨w4.heap.size, 0, none⟩ = some (.slice p4 l.length c4) ∧ w'.cell? ⟨w4.heap.size, 1, none⟩ = some (.int .i64 t.k) ∧ w'.cell? ⟨w4.heap.size, 2, none⟩ = some (.int .i64 t.n) ∧ w'.cell? ⟨w4.heap.size, 3, none⟩ = some (.int .i64 t.f) ∧ w'.cell? ⟨w4.heap.size, 4, none⟩ = some (.string t.s) ∧ w'.cell? ⟨w4.heap.size, 5, none⟩ = some (.slice ht.p t.l.length ht.c) ∧ w'.cell? ⟨w4.heap.size, 6, none⟩ = some (.slice ht.q t.d.length ht.e) ∧ w'.cell? ⟨w.heap.size, 0, none⟩ = some (.slice p l.length c) ∧ w'.cell? ⟨w.heap.size, 1, none⟩ = some (.int .i64 t.k) ∧ w'.cell? ⟨w.heap.size, 2, none⟩ = some (.int .i64 t.n) ∧ w'.cell? ⟨w.heap.size, 3, none⟩ = some (.int .i64 t.f) ∧ w'.cell? ⟨w.heap.size, 4, none⟩ = some (.string t.s) ∧ w'.cell? ⟨w.heap.size, 5, none⟩ = some (.slice ht.p t.l.length ht.c) ∧ w'.cell? ⟨w.heap.size, 6, none⟩ = some (.slice ht.q t.d.length ht.e))) (by kernel_rfl) ?_ (fun hHeld => ?_)
              · exact SF.out _ (Kept.refl wr).drew
              refine wpAnyH_take (i := 0) (oi := ⟨some 129, _, _, _, _, _⟩) (v := ?_) rfl (by kernel_rfl) (by kernel_rfl) (by kernel_rfl) (fun _ _ _ h => h) (Or.inl ⟨by rfl, ?_⟩) (by assumption) ?_
              rotate_left 1
              · (intro w hSw; (try dsimp only at hSw); go_simp <;> with_reducible rfl)
              try simp only [Act.put, List.setIfInBounds_toArray, List.set_cons_zero, List.set_cons_succ]
              refine wpAnyH_take (i := 1) (oi := ⟨some 130, _, _, _, _, _⟩) (v := ?_) rfl (by kernel_rfl) (by kernel_rfl) (by kernel_rfl) (fun _ _ _ h => h) (Or.inl ⟨by rfl, ?_⟩) (by assumption) ?_
              rotate_left 1
              · (intro w hSw; (try dsimp only at hSw); go_simp <;> with_reducible rfl)
              try simp only [Act.put, List.setIfInBounds_toArray, List.set_cons_zero, List.set_cons_succ]
              refine wpAnyH_take (i := 2) (oi := ⟨some 131, _, _, _, _, _⟩) (v := ?_) rfl (by kernel_rfl) (by kernel_rfl) (by kernel_rfl) (fun _ _ _ h => h) (Or.inl ⟨by rfl, ?_⟩) (by assumption) ?_
              rotate_left 1
              · (intro w hSw; (try dsimp only at hSw); go_simp <;> with_reducible rfl)
              try simp only [Act.put, List.setIfInBounds_toArray, List.set_cons_zero, List.set_cons_succ]
              refine wpAnyH_take (i := 4) (oi := ⟨some 133, _, _, _, _, _⟩) (v := ?_) rfl (by kernel_rfl) (by kernel_rfl) (by kernel_rfl) (fun _ _ _ h => h) (Or.inl ⟨by rfl, ?_⟩) (by assumption) ?_
              rotate_left 1
              · (intro w hSw; (try dsimp only at hSw); go_simp <;> with_reducible rfl)
              try simp only [Act.put, List.setIfInBounds_toArray, List.set_cons_zero, List.set_cons_succ]
              refine wpAnyH_ready (rs := [3]) (by kernel_rfl) (by simp) ?_
              refine AllReadyH.cons (o := ⟨some 132, _, _, _, _, _⟩) rfl (fun K hK => ?_) AllReadyH.nil
              rw [if_pos (by rfl)]
              go_simp
              (with_reducible refine (CT.out _ (Kept.refl wr).drew).mono ?_)
              rintro e w30 ⟨p30, c30, rfl, hk30, HN30⟩
              have K30 := Lib.hid (show Kept wr w30 from ((Kept.refl wr).drew).trans hk30)
              clear hk30
              refine hK.out _ _ ?_ (fun hHeld => ?_)
              · exact SF.out _ K30.out
              clear hK K
              try simp only [Act.put, List.setIfInBounds_toArray, List.set_cons_zero, List.set_cons_succ]
              refine wpAnyH_ready (rs := [5]) (by kernel_rfl) (by simp) ?_
              refine AllReadyH.cons (o := ⟨some 134, _, _, _, _, _⟩) rfl (fun K hK => ?_) AllReadyH.nil
              rw [if_pos (by rfl)]
              go_simp
              (with_reducible refine (CS.out _ _ _ K30.out HN30.out).mono ?_)
              rintro e w31 ⟨rfl, hk31⟩
              have K31 := Lib.hid (K30.out.trans hk31)
              clear hk31
              refine hK.out _ _ ?_ (fun hHeld => ?_)
              · exact SF.out _ K31.out
              clear hK K
              try simp only [Act.put, List.setIfInBounds_toArray, List.set_cons_zero, List.set_cons_succ]
              refine wpAnyH_take (i := 6) (oi := ⟨some 135, _, _, _, _, _⟩) (v := ?_) rfl (by kernel_rfl) (by kernel_rfl) (by kernel_rfl) (fun _ _ _ h => h) (Or.inl ⟨by rfl, ?_⟩) (by assumption) ?_
              rotate_left 1
              · (intro w hSw; (try dsimp only at hSw); go_simp <;> with_reducible rfl)
              try simp only [Act.put, List.setIfInBounds_toArray, List.set_cons_zero, List.set_cons_succ]
              refine wpAnyH_take (i := 7) (oi := ⟨some 8, _, _, _, _, _⟩) (v := ?_) rfl (by kernel_rfl) (by kernel_rfl) (by kernel_rfl) (fun _ _ _ h => h) (Or.inl ⟨by rfl, ?_⟩) (by assumption) ?_
              rotate_left 1
              · (intro w hSw; (try dsimp only at hSw); go_simp <;> with_reducible rfl)
              try simp only [Act.put, List.setIfInBounds_toArray, List.set_cons_zero, List.set_cons_succ]
              refine wpAnyH_done (by kernel_rfl) ?_ _
              clear hHeld
              go_wp2_with fail
              go_ret
              exact ⟨rfl, KI.out.trans K31.out⟩
        · have CF2 := Lib.hid (show ∀ W, Kept W7 W → Calls Tryz.prog 19 #[.agg #[.slice p6 pl.length c6, .int .i64 t.k, .int .i64 t.n, .int .i64 t.f, .string t.s, .slice ht.p t.l.length ht.c, .slice ht.q t.d.length ht.e], .int .i64 other] W fun e W' => ∃ h' : Hd, e = .returned (.agg #[.int .i64 x.k, .int .i64 x.n, .int .i64 x.f, .string x.s, .slice h'.p x.l.length h'.c, .slice h'.q x.d.length h'.e]) ∧ Kept W W' ∧ Lies (Cel (fun _ => True) W') x h' from fun W k => by
            have z := Find_any _ pl p6 c6 t ht other W (NM7.out.kept k)
            rwa [FN2.out other hne, ← hx] at z)
          have CF3 := Lib.hid (show ∀ W, Kept W7 W → Calls Tryz.prog 19 #[.agg #[.slice p4 l.length c4, .int .i64 t.k, .int .i64 t.n, .int .i64 t.f, .string t.s, .slice ht.p t.l.length ht.c, .slice ht.q t.d.length ht.e], .int .i64 other] W fun e W' => ∃ h' : Hd, e = .returned (.agg #[.int .i64 x.k, .int .i64 x.n, .int .i64 x.f, .string x.s, .slice h'.p x.l.length h'.c, .slice h'.q x.d.length h'.e]) ∧ Kept W W' ∧ Lies (Cel (fun _ => True) W') x h' from fun W k => by
            have z := Find_any _ l p4 c4 t ht other W (NG7.out.kept k)
            rwa [← hx] at z)
          have CY := Lib.hid (show ∀ W (h' h'' : Hd), Lies (Cel (fun _ => True) W) x h' → Lies (Cel (fun _ => True) W) x h'' → Calls Tryz.prog 18 #[.agg #[.int .i64 x.k, .int .i64 x.n, .int .i64 x.f, .string x.s, .slice h'.p x.l.length h'.c, .slice h'.q x.d.length h'.e], .agg #[.int .i64 x.k, .int .i64 x.n, .int .i64 x.f, .string x.s, .slice h''.p x.l.length h''.c, .slice h''.q x.d.length h''.e]] W fun e W' => e = .returned (.bool true) ∧ Kept W W' from fun W h' h'' hl hl' => by
            have z := Exact_any _ x x h' h'' W hl hl'
            rwa [ex_yes rfl] at z)
          clear hx FN2
          subst hW7
          go_upto_region 8 with fail
          refine wp_region_held_drew (S := (fun w' => w'.cell? ⟨w6.heap.size, 0, none⟩ = some (.slice p6 pl.length c6) ∧ w'.cell? ⟨w6.heap.size, 1, none⟩ = some (.int .i64 t.k) ∧ w'.cell? ⟨w6.heap.size, 2, none⟩ = some (.int .i64 t.n) ∧ w'.cell? ⟨w6.heap.size, 3, none⟩ = some (.int .i64 t.f) ∧ w'.cell? ⟨w6.heap.size, 4, none⟩ = some (.string t.s) ∧ w'.cell? ⟨w6.heap.size, 5, none⟩ = some (.slice ht.p t.l.length ht.c) ∧ w'.cell? ⟨w6.heap.size, 6, none⟩ = some (.slice ht.q t.d.length ht.e) ∧ w'.cell? ⟨w4.heap.size, 0, none⟩ = some (.slice p4 l.length c4) ∧ w'.cell? ⟨w4.heap.size, 1, none⟩ = some (.int .i64 t.k) ∧ w'.cell? ⟨w4.heap.size, 2, none⟩ = some (.int .i64 t.n) ∧ w'.cell? ⟨w4.heap.size, 3, none⟩ = some (.int .i64 t.f) ∧ w'.cell? ⟨w4.heap.size, 4, none⟩ = some (.string t.s) ∧ w'.cell? ⟨w4.heap.size, 5, none⟩ = some (.slice ht.p t.l.length ht.c) ∧ w'.cell? ⟨w4.heap.size, 6, none⟩ = some (.slice ht.q t.d.length ht.e) ∧ w'.cell? ⟨w.heap.size + 1, 0, none⟩ = some (.int .i64 o.k) ∧ w'.cell? ⟨w.heap.size + 1, 1, none⟩ = some (.int .i64 o.n) ∧ w'.cell? ⟨w.heap.size + 1, 2, none⟩ = some (.int .i64 o.f) ∧ w'.cell? ⟨w.heap.size + 1, 3, none⟩ = some (.string o.s) ∧ w'.cell? ⟨w.heap.size + 1, 4, none⟩ = some (.slice ho.p o.l.length ho.c) ∧ w'.cell? ⟨w.heap.size + 1, 5, none⟩ = some (.slice ho.q o.d.length ho.e))) (by kernel_rfl) ?_ (fun hHeld => ?_)
          · exact SX.out _ (Kept.refl _).drew
          refine wpAnyH_take (i := 0) (oi := ⟨some 55, _, _, _, _, _⟩) (v := ?_) rfl (by kernel_rfl) (by kernel_rfl) (by kernel_rfl) (fun _ _ _ h => h) (Or.inl ⟨by rfl, ?_⟩) (by assumption) ?_
          rotate_left 1
          · (intro w hSw; (try dsimp only at hSw); go_simp <;> with_reducible rfl)
          try simp only [Act.put, List.setIfInBounds_toArray, List.set_cons_zero, List.set_cons_succ]
          refine wpAnyH_take (i := 1) (oi := ⟨some 56, _, _, _, _, _⟩) (v := ?_) rfl (by kernel_rfl) (by kernel_rfl) (by kernel_rfl) (fun _ _ _ h => h) (Or.inl ⟨by rfl, ?_⟩) (by assumption) ?_
          rotate_left 1
          · (intro w hSw; (try dsimp only at hSw); go_simp <;> with_reducible rfl)
          try simp only [Act.put, List.setIfInBounds_toArray, List.set_cons_zero, List.set_cons_succ]
          refine wpAnyH_take (i := 3) (oi := ⟨some 58, _, _, _, _, _⟩) (v := ?_) rfl (by kernel_rfl) (by kernel_rfl) (by kernel_rfl) (fun _ _ _ h => h) (Or.inl ⟨by rfl, ?_⟩) (by assumption) ?_
          rotate_left 1
          · (intro w hSw; (try dsimp only at hSw); go_simp <;> with_reducible rfl)
          try simp only [Act.put, List.setIfInBounds_toArray, List.set_cons_zero, List.set_cons_succ]
          refine wpAnyH_ready (rs := [2]) (by kernel_rfl) (by simp) ?_
          refine AllReadyH.cons (o := ⟨some 57, _, _, _, _, _⟩) rfl (fun K hK => ?_) AllReadyH.nil
          go_simp
          (with_reducible refine (CF1.out _ (Kept.refl _).drew).mono ?_)
          rintro e w8 ⟨h8, rfl, hk8, hl8⟩
          have K8 := Lib.hid (show Kept _ w8 from ((Kept.refl _).drew).trans hk8)
          have L8 := Lib.hid hl8
          clear hk8 hl8
          refine hK.out _ _ ?_ (fun hHeld => ?_)
          · exact SX.out _ K8.out
          clear hK K
          try simp only [Act.put, List.setIfInBounds_toArray, List.set_cons_zero, List.set_cons_succ]
          refine wpAnyH_ready (rs := [4]) (by kernel_rfl) (by simp) ?_
          refine AllReadyH.cons (o := ⟨some 59, _, _, _, _, _⟩) rfl (fun K hK => ?_) AllReadyH.nil
          go_simp
          (with_reducible refine (CX.out _ K8.out h8 L8.out).mono ?_)
          rintro e w9 ⟨rfl, hk9⟩
          have K9 := Lib.hid (K8.out.trans hk9)
          clear hk9
          refine hK.out _ _ ?_ (fun hHeld => ?_)
          · exact SX.out _ K9.out
          clear hK K
          try simp only [Act.put, List.setIfInBounds_toArray, List.set_cons_zero, List.set_cons_succ]
          refine wpAnyH_take (i := 5) (oi := ⟨some 60, _, _, _, _, _⟩) (v := ?_) rfl (by kernel_rfl) (by kernel_rfl) (by kernel_rfl) (fun _ _ _ h => h) (Or.inl ⟨by rfl, ?_⟩) (by assumption) ?_
          rotate_left 1
          · (intro w hSw; (try dsimp only at hSw); go_simp <;> with_reducible rfl)
          try simp only [Act.put, List.setIfInBounds_toArray, List.set_cons_zero, List.set_cons_succ]
          refine wpAnyH_take (i := 6) (oi := ⟨some 61, _, _, _, _, _⟩) (v := ?_) rfl (by kernel_rfl) (by kernel_rfl) (by kernel_rfl) (fun _ _ _ h => h) (Or.inl ⟨by rfl, ?_⟩) (by assumption) ?_
          rotate_left 1
          · (intro w hSw; (try dsimp only at hSw); go_simp <;> with_reducible rfl)
          try simp only [Act.put, List.setIfInBounds_toArray, List.set_cons_zero, List.set_cons_succ]
          refine wpAnyH_take (i := 7) (oi := ⟨some 62, _, _, _, _, _⟩) (v := ?_) rfl (by kernel_rfl) (by kernel_rfl) (by kernel_rfl) (fun _ _ _ h => h) (Or.inl ⟨by rfl, ?_⟩) (by assumption) ?_
          rotate_left 1
          · (intro w hSw; (try dsimp only at hSw); go_simp <;> with_reducible rfl)
          try simp only [Act.put, List.setIfInBounds_toArray, List.set_cons_zero, List.set_cons_succ]
          refine wpAnyH_take (i := 8) (oi := ⟨some 63, _, _, _, _, _⟩) (v := ?_) rfl (by kernel_rfl) (by kernel_rfl) (by kernel_rfl) (fun _ _ _ h => h) (Or.inl ⟨by rfl, ?_⟩) (by assumption) ?_
          rotate_left 1
          · (intro w hSw; (try dsimp only at hSw); go_simp <;> with_reducible rfl)
          try simp only [Act.put, List.setIfInBounds_toArray, List.set_cons_zero, List.set_cons_succ]
          refine wpAnyH_take (i := 9) (oi := ⟨some 64, _, _, _, _, _⟩) (v := .bool true) rfl (by kernel_rfl) (by kernel_rfl) (by kernel_rfl) (fun _ _ _ h => h) (Or.inl ⟨by rfl, ?_⟩) (by assumption) ?_
          · (intro w hSw; (try dsimp only at hSw); go_simp; first | done | simp [hne])
          try simp only [Act.put, List.setIfInBounds_toArray, List.set_cons_zero, List.set_cons_succ]
          refine wpAnyH_take (i := 10) (oi := ⟨some 65, _, _, _, _, _⟩) (v := ?_) rfl (by kernel_rfl) (by kernel_rfl) (by kernel_rfl) (fun _ _ _ h => h) (Or.inl ⟨by rfl, ?_⟩) (by assumption) ?_
          rotate_left 1
          · (intro w hSw; (try dsimp only at hSw); go_simp <;> with_reducible rfl)
          try simp only [Act.put, List.setIfInBounds_toArray, List.set_cons_zero, List.set_cons_succ]
          refine wpAnyH_take (i := 11) (oi := ⟨some 66, _, _, _, _, _⟩) (v := ?_) rfl (by kernel_rfl) (by kernel_rfl) (by kernel_rfl) (fun _ _ _ h => h) (Or.inl ⟨by rfl, ?_⟩) (by assumption) ?_
          rotate_left 1
          · (intro w hSw; (try dsimp only at hSw); go_simp <;> with_reducible rfl)
          try simp only [Act.put, List.setIfInBounds_toArray, List.set_cons_zero, List.set_cons_succ]
          refine wpAnyH_take (i := 12) (oi := ⟨some 67, _, _, _, _, _⟩) (v := ?_) rfl (by kernel_rfl) (by kernel_rfl) (by kernel_rfl) (fun _ _ _ h => h) (Or.inl ⟨by rfl, ?_⟩) (by assumption) ?_
          rotate_left 1
          · (intro w hSw; (try dsimp only at hSw); go_simp <;> with_reducible rfl)
          try simp only [Act.put, List.setIfInBounds_toArray, List.set_cons_zero, List.set_cons_succ]
          refine wpAnyH_take (i := 14) (oi := ⟨some 69, _, _, _, _, _⟩) (v := ?_) rfl (by kernel_rfl) (by kernel_rfl) (by kernel_rfl) (fun _ _ _ h => h) (Or.inl ⟨by rfl, ?_⟩) (by assumption) ?_
          rotate_left 1
          · (intro w hSw; (try dsimp only at hSw); go_simp <;> with_reducible rfl)
          try simp only [Act.put, List.setIfInBounds_toArray, List.set_cons_zero, List.set_cons_succ]
          refine wpAnyH_take (i := 15) (oi := ⟨some 70, _, _, _, _, _⟩) (v := ?_) rfl (by kernel_rfl) (by kernel_rfl) (by kernel_rfl) (fun _ _ _ h => h) (Or.inl ⟨by rfl, ?_⟩) (by assumption) ?_
          rotate_left 1
          · (intro w hSw; (try dsimp only at hSw); go_simp <;> with_reducible rfl)
          try simp only [Act.put, List.setIfInBounds_toArray, List.set_cons_zero, List.set_cons_succ]
          refine wpAnyH_ready (rs := [13]) (by kernel_rfl) (by simp) ?_
          refine AllReadyH.cons (o := ⟨some 68, _, _, _, _, _⟩) rfl (fun K hK => ?_) AllReadyH.nil
          rw [if_pos (by rfl)]
          go_simp
          (with_reducible refine (CF2.out _ K9.out).mono ?_)
          rintro e w10 ⟨h10, rfl, hk10, hl10⟩
          have K10 := Lib.hid (K9.out.trans hk10)
          have L10 := Lib.hid hl10
          clear hk10 hl10
          refine hK.out _ _ ?_ (fun hHeld => ?_)
          · exact SX.out _ K10.out
          clear hK K
          try simp only [Act.put, List.setIfInBounds_toArray, List.set_cons_zero, List.set_cons_succ]
          refine wpAnyH_ready (rs := [16]) (by kernel_rfl) (by simp) ?_
          refine AllReadyH.cons (o := ⟨some 71, _, _, _, _, _⟩) rfl (fun K hK => ?_) AllReadyH.nil
          rw [if_pos (by rfl)]
          go_simp
          (with_reducible refine (CF3.out _ K10.out).mono ?_)
          rintro e w11 ⟨h11, rfl, hk11, hl11⟩
          have K11 := Lib.hid (K10.out.trans hk11)
          have L11 := Lib.hid hl11
          have M10 := Lib.hid (L10.out.kept hk11)
          clear hk11 hl11
          refine hK.out _ _ ?_ (fun hHeld => ?_)
          · exact SX.out _ K11.out
          clear hK K
          try simp only [Act.put, List.setIfInBounds_toArray, List.set_cons_zero, List.set_cons_succ]
          refine wpAnyH_ready (rs := [17]) (by kernel_rfl) (by simp) ?_
          refine AllReadyH.cons (o := ⟨some 72, _, _, _, _, _⟩) rfl (fun K hK => ?_) AllReadyH.nil
          rw [if_pos (by rfl)]
          go_simp
          (with_reducible refine (CY.out _ h10 h11 M10.out L11.out).mono ?_)
          rintro e w12 ⟨rfl, hk12⟩
          have K12 := Lib.hid (K11.out.trans hk12)
          clear hk12
          refine hK.out _ _ ?_ (fun hHeld => ?_)
          · exact SX.out _ K12.out
          clear hK K
          try simp only [Act.put, List.setIfInBounds_toArray, List.set_cons_zero, List.set_cons_succ]
          refine wpAnyH_take (i := 18) (oi := ⟨some 73, _, _, _, _, _⟩) (v := ?_) rfl (by kernel_rfl) (by kernel_rfl) (by kernel_rfl) (fun _ _ _ h => h) (Or.inl ⟨by rfl, ?_⟩) (by assumption) ?_
          rotate_left 1
          · (intro w hSw; (try dsimp only at hSw); go_simp <;> with_reducible rfl)
          try simp only [Act.put, List.setIfInBounds_toArray, List.set_cons_zero, List.set_cons_succ]
          refine wpAnyH_take (i := 19) (oi := ⟨some 74, _, _, _, _, _⟩) (v := ?_) rfl (by kernel_rfl) (by kernel_rfl) (by kernel_rfl) (fun _ _ _ h => h) (Or.inl ⟨by rfl, ?_⟩) (by assumption) ?_
          rotate_left 1
          · (intro w hSw; (try dsimp only at hSw); go_simp <;> with_reducible rfl)
          try simp only [Act.put, List.setIfInBounds_toArray, List.set_cons_zero, List.set_cons_succ]
          refine wpAnyH_take (i := 20) (oi := ⟨some 75, _, _, _, _, _⟩) (v := ?_) rfl (by kernel_rfl) (by kernel_rfl) (by kernel_rfl) (fun _ _ _ h => h) (Or.inl ⟨by rfl, ?_⟩) (by assumption) ?_
          rotate_left 1
          · (intro w hSw; (try dsimp only at hSw); go_simp <;> with_reducible rfl)
          try simp only [Act.put, List.setIfInBounds_toArray, List.set_cons_zero, List.set_cons_succ]
          refine wpAnyH_take (i := 21) (oi := ⟨some 76, _, _, _, _, _⟩) (v := ?_) rfl (by kernel_rfl) (by kernel_rfl) (by kernel_rfl) (fun _ _ _ h => h) (Or.inl ⟨by rfl, ?_⟩) (by assumption) ?_
          rotate_left 1
          · (intro w hSw; (try dsimp only at hSw); go_simp <;> with_reducible rfl)
          try simp only [Act.put, List.setIfInBounds_toArray, List.set_cons_zero, List.set_cons_succ]
          refine wpAnyH_take (i := 22) (oi := ⟨some 77, _, _, _, _, _⟩) (v := ?_) rfl (by kernel_rfl) (by kernel_rfl) (by kernel_rfl) (fun _ _ _ h => h) (Or.inl ⟨by rfl, ?_⟩) (by assumption) ?_
          rotate_left 1
          · (intro w hSw; (try dsimp only at hSw); go_simp <;> with_reducible rfl)
          try simp only [Act.put, List.setIfInBounds_toArray, List.set_cons_zero, List.set_cons_succ]
          refine wpAnyH_take (i := 23) (oi := ⟨some 78, _, _, _, _, _⟩) (v := ?_) rfl (by kernel_rfl) (by kernel_rfl) (by kernel_rfl) (fun _ _ _ h => h) (Or.inl ⟨by rfl, ?_⟩) (by assumption) ?_
          rotate_left 1
          · (intro w hSw; (try dsimp only at hSw); go_simp <;> with_reducible rfl)
          try simp only [Act.put, List.setIfInBounds_toArray, List.set_cons_zero, List.set_cons_succ]
          refine wpAnyH_take (i := 24) (oi := ⟨some 79, _, _, _, _, _⟩) (v := ?_) rfl (by kernel_rfl) (by kernel_rfl) (by kernel_rfl) (fun _ _ _ h => h) (Or.inl ⟨by rfl, ?_⟩) (by assumption) ?_
          rotate_left 1
          · (intro w hSw; (try dsimp only at hSw); go_simp <;> with_reducible rfl)
          try simp only [Act.put, List.setIfInBounds_toArray, List.set_cons_zero, List.set_cons_succ]
          refine wpAnyH_take (i := 25) (oi := ⟨some 80, _, _, _, _, _⟩) (v := ?_) rfl (by kernel_rfl) (by kernel_rfl) (by kernel_rfl) (fun _ _ _ h => h) (Or.inl ⟨by rfl, ?_⟩) (by assumption) ?_
          rotate_left 1
          · (intro w hSw; (try dsimp only at hSw); go_simp <;> with_reducible rfl)
          try simp only [Act.put, List.setIfInBounds_toArray, List.set_cons_zero, List.set_cons_succ]
          refine wpAnyH_take (i := 26) (oi := ⟨some 81, _, _, _, _, _⟩) (v := ?_) rfl (by kernel_rfl) (by kernel_rfl) (by kernel_rfl) (fun _ _ _ h => h) (Or.inl ⟨by rfl, ?_⟩) (by assumption) ?_
          rotate_left 1
          · (intro w hSw; (try dsimp only at hSw); go_simp <;> with_reducible rfl)
          try simp only [Act.put, List.setIfInBounds_toArray, List.set_cons_zero, List.set_cons_succ]
          refine wpAnyH_take (i := 27) (oi := ⟨some 82, _, _, _, _, _⟩) (v := ?_) rfl (by kernel_rfl) (by kernel_rfl) (by kernel_rfl) (fun _ _ _ h => h) (Or.inl ⟨by rfl, ?_⟩) (by assumption) ?_
          rotate_left 1
          · (intro w hSw; (try dsimp only at hSw); go_simp <;> with_reducible rfl)
          try simp only [Act.put, List.setIfInBounds_toArray, List.set_cons_zero, List.set_cons_succ]
          refine wpAnyH_take (i := 28) (oi := ⟨some 83, _, _, _, _, _⟩) (v := ?_) rfl (by kernel_rfl) (by kernel_rfl) (by kernel_rfl) (fun _ _ _ h => h) (Or.inl ⟨by rfl, ?_⟩) (by assumption) ?_
          rotate_left 1
          · (intro w hSw; (try dsimp only at hSw); go_simp <;> with_reducible rfl)
          try simp only [Act.put, List.setIfInBounds_toArray, List.set_cons_zero, List.set_cons_succ]
          refine wpAnyH_take (i := 29) (oi := ⟨some 84, _, _, _, _, _⟩) (v := ?_) rfl (by kernel_rfl) (by kernel_rfl) (by kernel_rfl) (fun _ _ _ h => h) (Or.inl ⟨by rfl, ?_⟩) (by assumption) ?_
          rotate_left 1
          · (intro w hSw; (try dsimp only at hSw); go_simp <;> with_reducible rfl)
          try simp only [Act.put, List.setIfInBounds_toArray, List.set_cons_zero, List.set_cons_succ]
          refine wpAnyH_take (i := 30) (oi := ⟨some 85, _, _, _, _, _⟩) (v := ?_) rfl (by kernel_rfl) (by kernel_rfl) (by kernel_rfl) (fun _ _ _ h => h) (Or.inl ⟨by rfl, ?_⟩) (by assumption) ?_
          rotate_left 1
          · (intro w hSw; (try dsimp only at hSw); go_simp <;> with_reducible rfl)
          try simp only [Act.put, List.setIfInBounds_toArray, List.set_cons_zero, List.set_cons_succ]
          refine wpAnyH_done (by kernel_rfl) ?_ _
          clear hHeld
          have IL := Lib.hid (I7.out.kept K12.out)
          have J7 := Lib.hid IL.out
          clear IL SX CF1 CX MX CF2 CF3 CY
          go_wp2_with fail
          go_loopg [13] (pl.length) (fun m iv wr => ∃ (I J : Nat), m = pl.length + 1 - I ∧ Hid (I = J + 1) ∧ I ≤ pl.length + 1 ∧ iv = .int .i64 I ∧ In w [(w6.heap.size, #[.slice p6 pl.length c6, .int .i64 t.k, .int .i64 t.n, .int .i64 t.f, .string t.s, .slice ht.p t.l.length ht.c, .slice ht.q t.d.length ht.e], 46), (w4.heap.size, #[.slice p4 l.length c4, .int .i64 t.k, .int .i64 t.n, .int .i64 t.f, .string t.s, .slice ht.p t.l.length ht.c, .slice ht.q t.d.length ht.e], 46), (w.heap.size + 1, #[.int .i64 o.k, .int .i64 o.n, .int .i64 o.f, .string o.s, .slice ho.p o.l.length ho.c, .slice ho.q o.d.length ho.e], 39), (w.heap.size, #[.slice p l.length c, .int .i64 t.k, .int .i64 t.n, .int .i64 t.f, .string t.s, .slice ht.p t.l.length ht.c, .slice ht.q t.d.length ht.e], 41)] wr ∧ Hid (Kept (w6.alloc (.cells #[.slice p6 pl.length c6, .int .i64 t.k, .int .i64 t.n, .int .i64 t.f, .string t.s, .slice ht.p t.l.length ht.c, .slice ht.q t.d.length ht.e] 46)) wr))
          case atStart => exact ⟨1, 0, by omega, Lib.hid rfl, by omega, by go_num, J7.out, Lib.hid K12.out⟩
          case round =>
            obtain ⟨I, J, hm, HIJ, hI1, rfl, hin, HK7⟩ := hrel
            have HI := Lib.hid hin
            have KI := Lib.hid (In.k hin)
            clear hin J7
            have PM := Lib.hid (HI.out.mem List.mem_cons_self)
            obtain ⟨a0, a1, a2, a3, a4, a5, a6⟩ := PM.out.cells7
            by_cases hlt : I < pl.length
            · have j1 : (I : Int) < (pl.length : Int) := by omega
              have j0 : (0 : Int) ≤ (I : Int) := by omega
              have ji : IntKind.i64.wrap ((I : Int) - 1) = (J : Int) := by have := HIJ.out; rw [IntWalk.i64_in _ (by omega)]; omega
              have jj : (0 : Int) ≤ (J : Int) := by omega
              have jl : (J : Int) < (pl.length : Int) := by have := HIJ.out; omega
              have hJl : J < pl.length := by have := HIJ.out; omega
              obtain ⟨kb, off, hdj, hp, -, kz, -, cj, -⟩ := (NM7.out.kept HK7.out).at' J hJl
              obtain ⟨kb', off', hdi, hp', -, -, -, ci, -⟩ := (NM7.out.kept HK7.out).at' I hlt
              rw [hp] at hp'
              obtain ⟨rfl, rfl⟩ : kb = kb' ∧ off = off' := by have e := Option.some.inj hp'; injection e with e1 e2; exact ⟨e1, e2⟩
              rw [hp] at a0
              clear hp'
              obtain ⟨nj, hnj⟩ : ∃ v, v = (pl[J]'hJl).n := ⟨_, rfl⟩
              obtain ⟨ni, hni⟩ : ∃ v, v = (pl[I]'hlt).n := ⟨_, rfl⟩
              rw [← hnj] at cj
              rw [← hni] at ci
              have SR := Lib.hid (show ∀ W, Kept wr W → (fun w' => w'.cell? ⟨w6.heap.size, 0, none⟩ = some (.slice (some ⟨kb, off, none⟩) pl.length c6) ∧ w'.cell? ⟨kb, off + J * 8, none⟩ = some (.int .i64 nj) ∧ w'.cell? ⟨kb, off + I * 8, none⟩ = some (.int .i64 ni)) W from fun W k => ⟨(k.cells.1 _ _ PM.out.lt).trans a0, (k.cells.1 _ _ kz).trans cj, (k.cells.1 _ _ kz).trans ci⟩)
              have HP := Lib.hid hp
              clear a1 a2 a3 a4 a5 a6 cj ci kz hp
              by_cases hge : ni ≤ nj
              · have HNR := Lib.hid (show ¬ RiseN l from fun hr => by
                  have z := rise_at (HRISE.out hr) I (by have := HIJ.out; omega) hlt
                  have e : ∀ k (hk : k < pl.length), k = J → (pl[k]'hk).n = nj := fun k hk e => by subst e; exact hnj.symm
                  rw [e (I - 1) (by omega) (by have := HIJ.out; omega), ← hni] at z
                  omega)
                clear hnj hni
                go_upto_region 13 with fail
                refine wp_region_held_drew (S := (fun w' => w'.cell? ⟨w6.heap.size, 0, none⟩ = some (.slice (some ⟨kb, off, none⟩) pl.length c6) ∧ w'.cell? ⟨kb, off + J * 8, none⟩ = some (.int .i64 nj) ∧ w'.cell? ⟨kb, off + I * 8, none⟩ = some (.int .i64 ni))) (by kernel_rfl) ?_ (fun hHeld => ?_)
                · exact SR.out _ (Kept.refl wr).drew
                refine wpAnyH_take (i := 0) (oi := ⟨some 93, _, _, _, _, _⟩) (v := ?_) rfl (by kernel_rfl) (by kernel_rfl) (by kernel_rfl) (fun _ _ _ h => h) (Or.inl ⟨by rfl, ?_⟩) (by assumption) ?_
                rotate_left 1
                · (intro w hSw; (try dsimp only at hSw); go_simp <;> with_reducible rfl)
                try simp only [Act.put, List.setIfInBounds_toArray, List.set_cons_zero, List.set_cons_succ]
                refine wpAnyH_take (i := 1) (oi := ⟨some 94, _, _, _, _, _⟩) (v := ?_) rfl (by kernel_rfl) (by kernel_rfl) (by kernel_rfl) (fun _ _ _ h => h) (Or.inl ⟨by rfl, ?_⟩) (by assumption) ?_
                rotate_left 1
                · (intro w hSw; (try dsimp only at hSw); go_simp <;> with_reducible rfl)
                try simp only [Act.put, List.setIfInBounds_toArray, List.set_cons_zero, List.set_cons_succ]
                refine wpAnyH_take (i := 2) (oi := ⟨some 95, _, _, _, _, _⟩) (v := ?_) rfl (by kernel_rfl) (by kernel_rfl) (by kernel_rfl) (fun _ _ _ h => h) (Or.inl ⟨by rfl, ?_⟩) (by assumption) ?_
                rotate_left 1
                · (intro w hSw; (try dsimp only at hSw); go_simp <;> with_reducible rfl)
                try simp only [Act.put, List.setIfInBounds_toArray, List.set_cons_zero, List.set_cons_succ]
                refine wpAnyH_take (i := 3) (oi := ⟨some 96, _, _, _, _, _⟩) (v := ?_) rfl (by kernel_rfl) (by kernel_rfl) (by kernel_rfl) (fun _ _ _ h => h) (Or.inl ⟨by rfl, ?_⟩) (by assumption) ?_
                rotate_left 1
                · (intro w hSw; (try dsimp only at hSw); go_simp <;> with_reducible rfl)
                try simp only [Act.put, List.setIfInBounds_toArray, List.set_cons_zero, List.set_cons_succ]
                refine wpAnyH_take (i := 4) (oi := ⟨some 97, _, _, _, _, _⟩) (v := ?_) rfl (by kernel_rfl) (by kernel_rfl) (by kernel_rfl) (fun _ _ _ h => h) (Or.inl ⟨by rfl, ?_⟩) (by assumption) ?_
                rotate_left 1
                · (intro w hSw; (try dsimp only at hSw); go_simp <;> with_reducible rfl)
                try simp only [Act.put, List.setIfInBounds_toArray, List.set_cons_zero, List.set_cons_succ]
                refine wpAnyH_take (i := 5) (oi := ⟨some 98, _, _, _, _, _⟩) (v := ?_) rfl (by kernel_rfl) (by kernel_rfl) (by kernel_rfl) (fun _ _ _ h => h) (Or.inl ⟨by rfl, ?_⟩) (by assumption) ?_
                rotate_left 1
                · (intro w hSw; (try dsimp only at hSw); go_simp <;> with_reducible rfl)
                try simp only [Act.put, List.setIfInBounds_toArray, List.set_cons_zero, List.set_cons_succ]
                refine wpAnyH_take (i := 6) (oi := ⟨some 99, _, _, _, _, _⟩) (v := ?_) rfl (by kernel_rfl) (by kernel_rfl) (by kernel_rfl) (fun _ _ _ h => h) (Or.inl ⟨by rfl, ?_⟩) (by assumption) ?_
                rotate_left 1
                · (intro w hSw; (try dsimp only at hSw); go_simp <;> with_reducible rfl)
                try simp only [Act.put, List.setIfInBounds_toArray, List.set_cons_zero, List.set_cons_succ]
                refine wpAnyH_take (i := 7) (oi := ⟨some 100, _, _, _, _, _⟩) (v := ?_) rfl (by kernel_rfl) (by kernel_rfl) (by kernel_rfl) (fun _ _ _ h => h) (Or.inl ⟨by rfl, ?_⟩) (by assumption) ?_
                rotate_left 1
                · (intro w hSw; (try dsimp only at hSw); go_simp <;> with_reducible rfl)
                try simp only [Act.put, List.setIfInBounds_toArray, List.set_cons_zero, List.set_cons_succ]
                refine wpAnyH_take (i := 8) (oi := ⟨some 101, _, _, _, _, _⟩) (v := ?_) rfl (by kernel_rfl) (by kernel_rfl) (by kernel_rfl) (fun _ _ _ h => h) (Or.inl ⟨by rfl, ?_⟩) (by assumption) ?_
                rotate_left 1
                · (intro w hSw; (try dsimp only at hSw); go_simp <;> with_reducible rfl)
                try simp only [Act.put, List.setIfInBounds_toArray, List.set_cons_zero, List.set_cons_succ]
                refine wpAnyH_take (i := 9) (oi := ⟨some 102, _, _, _, _, _⟩) (v := ?_) rfl (by kernel_rfl) (by kernel_rfl) (by kernel_rfl) (fun _ _ _ h => h) (Or.inl ⟨by rfl, ?_⟩) (by assumption) ?_
                rotate_left 1
                · (intro w hSw; (try dsimp only at hSw); go_simp <;> with_reducible rfl)
                try simp only [Act.put, List.setIfInBounds_toArray, List.set_cons_zero, List.set_cons_succ]
                refine wpAnyH_take (i := 10) (oi := ⟨some 103, _, _, _, _, _⟩) (v := ?_) rfl (by kernel_rfl) (by kernel_rfl) (by kernel_rfl) (fun _ _ _ h => h) (Or.inl ⟨by rfl, ?_⟩) (by assumption) ?_
                rotate_left 1
                · (intro w hSw; (try dsimp only at hSw); go_simp <;> with_reducible rfl)
                try simp only [Act.put, List.setIfInBounds_toArray, List.set_cons_zero, List.set_cons_succ]
                refine wpAnyH_take (i := 11) (oi := ⟨some 104, _, _, _, _, _⟩) (v := ?_) rfl (by kernel_rfl) (by kernel_rfl) (by kernel_rfl) (fun _ _ _ h => h) (Or.inl ⟨by rfl, ?_⟩) (by assumption) ?_
                rotate_left 1
                · (intro w hSw; (try dsimp only at hSw); go_simp <;> with_reducible rfl)
                try simp only [Act.put, List.setIfInBounds_toArray, List.set_cons_zero, List.set_cons_succ]
                refine wpAnyH_take (i := 12) (oi := ⟨some 105, _, _, _, _, _⟩) (v := ?_) rfl (by kernel_rfl) (by kernel_rfl) (by kernel_rfl) (fun _ _ _ h => h) (Or.inl ⟨by rfl, ?_⟩) (by assumption) ?_
                rotate_left 1
                · (intro w hSw; (try dsimp only at hSw); go_simp <;> with_reducible rfl)
                try simp only [Act.put, List.setIfInBounds_toArray, List.set_cons_zero, List.set_cons_succ]
                refine wpAnyH_take (i := 13) (oi := ⟨some 106, _, _, _, _, _⟩) (v := ?_) rfl (by kernel_rfl) (by kernel_rfl) (by kernel_rfl) (fun _ _ _ h => h) (Or.inl ⟨by rfl, ?_⟩) (by assumption) ?_
                rotate_left 1
                · (intro w hSw; (try dsimp only at hSw); go_simp <;> with_reducible rfl)
                try simp only [Act.put, List.setIfInBounds_toArray, List.set_cons_zero, List.set_cons_succ]
                refine wpAnyH_done (by kernel_rfl) ?_ _
                clear hHeld a0
                have HD := Lib.hid (HI.out.drew)
                have KD := Lib.hid (show Kept (w6.alloc (.cells #[.slice p6 pl.length c6, .int .i64 t.k, .int .i64 t.n, .int .i64 t.f, .string t.s, .slice ht.p t.l.length ht.c, .slice ht.q t.d.length ht.e] 46)) wr.drew from HK7.out.drew)
                go_wp2_with fail
                go_loopg [14] (l.length) (fun m kv ws => ∃ (X Y : Nat), m = l.length + 1 - X ∧ Hid (X = Y + 1) ∧ X ≤ l.length + 1 ∧ kv = .int .i64 X ∧ In w [(w6.heap.size, #[.slice p6 pl.length c6, .int .i64 t.k, .int .i64 t.n, .int .i64 t.f, .string t.s, .slice ht.p t.l.length ht.c, .slice ht.q t.d.length ht.e], 46), (w4.heap.size, #[.slice p4 l.length c4, .int .i64 t.k, .int .i64 t.n, .int .i64 t.f, .string t.s, .slice ht.p t.l.length ht.c, .slice ht.q t.d.length ht.e], 46), (w.heap.size + 1, #[.int .i64 o.k, .int .i64 o.n, .int .i64 o.f, .string o.s, .slice ho.p o.l.length ho.c, .slice ho.q o.d.length ho.e], 39), (w.heap.size, #[.slice p l.length c, .int .i64 t.k, .int .i64 t.n, .int .i64 t.f, .string t.s, .slice ht.p t.l.length ht.c, .slice ht.q t.d.length ht.e], 41)] ws ∧ Hid (Kept (w6.alloc (.cells #[.slice p6 pl.length c6, .int .i64 t.k, .int .i64 t.n, .int .i64 t.f, .string t.s, .slice ht.p t.l.length ht.c, .slice ht.q t.d.length ht.e] 46)) ws) ∧ Hid (∀ k (h0 : 0 < k) (hk : k < X) (hl : k < l.length), (l[k - 1]'(by omega)).n < (l[k]'hl).n))
                case atStart => exact ⟨1, 0, by omega, Lib.hid rfl, by omega, by go_num, HD.out, Lib.hid KD.out, Lib.hid (fun k h0 hk => by omega)⟩
                case round =>
                  obtain ⟨X, Y, hmX, HXY, hX1, rfl, hinX, HK8, HA⟩ := hrel
                  have HX := Lib.hid hinX
                  have KX := Lib.hid (In.k hinX)
                  clear hinX HD KD
                  have GM := Lib.hid (HX.out.mem (List.mem_cons_of_mem _ List.mem_cons_self))
                  obtain ⟨a0, a1, a2, a3, a4, a5, a6⟩ := GM.out.cells7
                  by_cases hltX : X < l.length
                  · have x1 : (X : Int) < (l.length : Int) := by omega
                    have x0 : (0 : Int) ≤ (X : Int) := by omega
                    have xi : IntKind.i64.wrap ((X : Int) - 1) = (Y : Int) := by have := HXY.out; rw [IntWalk.i64_in _ (by omega)]; omega
                    have xx : (0 : Int) ≤ (Y : Int) := by omega
                    have xl : (Y : Int) < (l.length : Int) := by have := HXY.out; omega
                    have hYl : Y < l.length := by have := HXY.out; omega
                    obtain ⟨qb, qof, hdj, hp, -, kz, -, cj, -⟩ := (NG7.out.kept HK8.out).at' Y hYl
                    obtain ⟨qb', qof', hdi, hp', -, -, -, ci, -⟩ := (NG7.out.kept HK8.out).at' X hltX
                    rw [hp] at hp'
                    obtain ⟨rfl, rfl⟩ : qb = qb' ∧ qof = qof' := by have e := Option.some.inj hp'; injection e with e1 e2; exact ⟨e1, e2⟩
                    rw [hp] at a0
                    clear hp'
                    obtain ⟨mj, hmj⟩ : ∃ v, v = (l[Y]'hYl).n := ⟨_, rfl⟩
                    obtain ⟨mi, hmi⟩ : ∃ v, v = (l[X]'hltX).n := ⟨_, rfl⟩
                    rw [← hmj] at cj
                    rw [← hmi] at ci
                    have SR2 := Lib.hid (show ∀ W, Kept wr W → (fun w' => w'.cell? ⟨w4.heap.size, 0, none⟩ = some (.slice (some ⟨qb, qof, none⟩) l.length c4) ∧ w'.cell? ⟨qb, qof + Y * 8, none⟩ = some (.int .i64 mj) ∧ w'.cell? ⟨qb, qof + X * 8, none⟩ = some (.int .i64 mi)) W from fun W k => ⟨(k.cells.1 _ _ GM.out.lt).trans a0, (k.cells.1 _ _ kz).trans cj, (k.cells.1 _ _ kz).trans ci⟩)
                    have HP2 := Lib.hid hp
                    have HD2 := Lib.hid (HX.out.drew)
                    have KD2 := Lib.hid (show Kept (w6.alloc (.cells #[.slice p6 pl.length c6, .int .i64 t.k, .int .i64 t.n, .int .i64 t.f, .string t.s, .slice ht.p t.l.length ht.c, .slice ht.q t.d.length ht.e] 46)) wr.drew from HK8.out.drew)
                    clear a1 a2 a3 a4 a5 a6 cj ci kz hp
                    by_cases hge2 : mi ≤ mj
                    · clear hmj hmi
                      go_upto_region 17 with fail
                      refine wp_region_held_drew (S := (fun w' => w'.cell? ⟨w4.heap.size, 0, none⟩ = some (.slice (some ⟨qb, qof, none⟩) l.length c4) ∧ w'.cell? ⟨qb, qof + Y * 8, none⟩ = some (.int .i64 mj) ∧ w'.cell? ⟨qb, qof + X * 8, none⟩ = some (.int .i64 mi))) (by kernel_rfl) ?_ (fun hHeld => ?_)
                      · exact SR2.out _ (Kept.refl wr).drew
                      refine wpAnyH_take (i := 0) (oi := ⟨some 114, _, _, _, _, _⟩) (v := ?_) rfl (by kernel_rfl) (by kernel_rfl) (by kernel_rfl) (fun _ _ _ h => h) (Or.inl ⟨by rfl, ?_⟩) (by assumption) ?_
                      rotate_left 1
                      · (intro w hSw; (try dsimp only at hSw); go_simp <;> with_reducible rfl)
                      try simp only [Act.put, List.setIfInBounds_toArray, List.set_cons_zero, List.set_cons_succ]
                      refine wpAnyH_take (i := 1) (oi := ⟨some 115, _, _, _, _, _⟩) (v := ?_) rfl (by kernel_rfl) (by kernel_rfl) (by kernel_rfl) (fun _ _ _ h => h) (Or.inl ⟨by rfl, ?_⟩) (by assumption) ?_
                      rotate_left 1
                      · (intro w hSw; (try dsimp only at hSw); go_simp <;> with_reducible rfl)
                      try simp only [Act.put, List.setIfInBounds_toArray, List.set_cons_zero, List.set_cons_succ]
                      refine wpAnyH_take (i := 2) (oi := ⟨some 116, _, _, _, _, _⟩) (v := ?_) rfl (by kernel_rfl) (by kernel_rfl) (by kernel_rfl) (fun _ _ _ h => h) (Or.inl ⟨by rfl, ?_⟩) (by assumption) ?_
                      rotate_left 1
                      · (intro w hSw; (try dsimp only at hSw); go_simp <;> with_reducible rfl)
                      try simp only [Act.put, List.setIfInBounds_toArray, List.set_cons_zero, List.set_cons_succ]
                      refine wpAnyH_take (i := 3) (oi := ⟨some 117, _, _, _, _, _⟩) (v := ?_) rfl (by kernel_rfl) (by kernel_rfl) (by kernel_rfl) (fun _ _ _ h => h) (Or.inl ⟨by rfl, ?_⟩) (by assumption) ?_
                      rotate_left 1
                      · (intro w hSw; (try dsimp only at hSw); go_simp <;> with_reducible rfl)
                      try simp only [Act.put, List.setIfInBounds_toArray, List.set_cons_zero, List.set_cons_succ]
                      refine wpAnyH_take (i := 4) (oi := ⟨some 118, _, _, _, _, _⟩) (v := ?_) rfl (by kernel_rfl) (by kernel_rfl) (by kernel_rfl) (fun _ _ _ h => h) (Or.inl ⟨by rfl, ?_⟩) (by assumption) ?_
                      rotate_left 1
                      · (intro w hSw; (try dsimp only at hSw); go_simp <;> with_reducible rfl)
                      try simp only [Act.put, List.setIfInBounds_toArray, List.set_cons_zero, List.set_cons_succ]
                      refine wpAnyH_take (i := 5) (oi := ⟨some 119, _, _, _, _, _⟩) (v := ?_) rfl (by kernel_rfl) (by kernel_rfl) (by kernel_rfl) (fun _ _ _ h => h) (Or.inl ⟨by rfl, ?_⟩) (by assumption) ?_
                      rotate_left 1
                      · (intro w hSw; (try dsimp only at hSw); go_simp <;> with_reducible rfl)
                      try simp only [Act.put, List.setIfInBounds_toArray, List.set_cons_zero, List.set_cons_succ]
                      refine wpAnyH_take (i := 6) (oi := ⟨some 120, _, _, _, _, _⟩) (v := ?_) rfl (by kernel_rfl) (by kernel_rfl) (by kernel_rfl) (fun _ _ _ h => h) (Or.inl ⟨by rfl, ?_⟩) (by assumption) ?_
                      rotate_left 1
                      · (intro w hSw; (try dsimp only at hSw); go_simp <;> with_reducible rfl)
                      try simp only [Act.put, List.setIfInBounds_toArray, List.set_cons_zero, List.set_cons_succ]
                      refine wpAnyH_take (i := 7) (oi := ⟨some 121, _, _, _, _, _⟩) (v := ?_) rfl (by kernel_rfl) (by kernel_rfl) (by kernel_rfl) (fun _ _ _ h => h) (Or.inl ⟨by rfl, ?_⟩) (by assumption) ?_
                      rotate_left 1
                      · (intro w hSw; (try dsimp only at hSw); go_simp <;> with_reducible rfl)
                      try simp only [Act.put, List.setIfInBounds_toArray, List.set_cons_zero, List.set_cons_succ]
                      refine wpAnyH_take (i := 8) (oi := ⟨some 122, _, _, _, _, _⟩) (v := ?_) rfl (by kernel_rfl) (by kernel_rfl) (by kernel_rfl) (fun _ _ _ h => h) (Or.inl ⟨by rfl, ?_⟩) (by assumption) ?_
                      rotate_left 1
                      · (intro w hSw; (try dsimp only at hSw); go_simp <;> with_reducible rfl)
                      try simp only [Act.put, List.setIfInBounds_toArray, List.set_cons_zero, List.set_cons_succ]
                      refine wpAnyH_take (i := 9) (oi := ⟨some 123, _, _, _, _, _⟩) (v := ?_) rfl (by kernel_rfl) (by kernel_rfl) (by kernel_rfl) (fun _ _ _ h => h) (Or.inl ⟨by rfl, ?_⟩) (by assumption) ?_
                      rotate_left 1
                      · (intro w hSw; (try dsimp only at hSw); go_simp <;> with_reducible rfl)
                      try simp only [Act.put, List.setIfInBounds_toArray, List.set_cons_zero, List.set_cons_succ]
                      refine wpAnyH_take (i := 10) (oi := ⟨some 124, _, _, _, _, _⟩) (v := ?_) rfl (by kernel_rfl) (by kernel_rfl) (by kernel_rfl) (fun _ _ _ h => h) (Or.inl ⟨by rfl, ?_⟩) (by assumption) ?_
                      rotate_left 1
                      · (intro w hSw; (try dsimp only at hSw); go_simp <;> with_reducible rfl)
                      try simp only [Act.put, List.setIfInBounds_toArray, List.set_cons_zero, List.set_cons_succ]
                      refine wpAnyH_take (i := 11) (oi := ⟨some 125, _, _, _, _, _⟩) (v := ?_) rfl (by kernel_rfl) (by kernel_rfl) (by kernel_rfl) (fun _ _ _ h => h) (Or.inl ⟨by rfl, ?_⟩) (by assumption) ?_
                      rotate_left 1
                      · (intro w hSw; (try dsimp only at hSw); go_simp <;> with_reducible rfl)
                      try simp only [Act.put, List.setIfInBounds_toArray, List.set_cons_zero, List.set_cons_succ]
                      refine wpAnyH_take (i := 12) (oi := ⟨some 126, _, _, _, _, _⟩) (v := ?_) rfl (by kernel_rfl) (by kernel_rfl) (by kernel_rfl) (fun _ _ _ h => h) (Or.inl ⟨by rfl, ?_⟩) (by assumption) ?_
                      rotate_left 1
                      · (intro w hSw; (try dsimp only at hSw); go_simp <;> with_reducible rfl)
                      try simp only [Act.put, List.setIfInBounds_toArray, List.set_cons_zero, List.set_cons_succ]
                      refine wpAnyH_take (i := 13) (oi := ⟨some 127, _, _, _, _, _⟩) (v := ?_) rfl (by kernel_rfl) (by kernel_rfl) (by kernel_rfl) (fun _ _ _ h => h) (Or.inl ⟨by rfl, ?_⟩) (by assumption) ?_
                      rotate_left 1
                      · (intro w hSw; (try dsimp only at hSw); go_simp <;> with_reducible rfl)
                      try simp only [Act.put, List.setIfInBounds_toArray, List.set_cons_zero, List.set_cons_succ]
                      refine wpAnyH_done (by kernel_rfl) ?_ _
                      clear hHeld a0
                      go_wp2_with fail
                      go_ret
                      exact ⟨rfl, In.k HD2.out⟩
                    · have HA2 := Lib.hid (show ∀ k (h0 : 0 < k) (hk : k < X + 1) (hl : k < l.length), (l[k - 1]'(by omega)).n < (l[k]'hl).n from fun k h0 hk hl => by
                        rcases Nat.lt_or_ge k X with h | h
                        · exact HA.out k h0 h hl
                        · obtain rfl : k = X := by omega
                          have e : ∀ k (hk : k < l.length), k = Y → (l[k]'hk).n = mj := fun k hk e => by subst e; exact hmj.symm
                          rw [e (k - 1) (by omega) (by have := HXY.out; omega), ← hmi]
                          omega)
                      clear hmj hmi
                      go_upto_region 17 with fail
                      refine wp_region_held_drew (S := (fun w' => w'.cell? ⟨w4.heap.size, 0, none⟩ = some (.slice (some ⟨qb, qof, none⟩) l.length c4) ∧ w'.cell? ⟨qb, qof + Y * 8, none⟩ = some (.int .i64 mj) ∧ w'.cell? ⟨qb, qof + X * 8, none⟩ = some (.int .i64 mi))) (by kernel_rfl) ?_ (fun hHeld => ?_)
                      · exact SR2.out _ (Kept.refl wr).drew
                      refine wpAnyH_take (i := 0) (oi := ⟨some 114, _, _, _, _, _⟩) (v := ?_) rfl (by kernel_rfl) (by kernel_rfl) (by kernel_rfl) (fun _ _ _ h => h) (Or.inl ⟨by rfl, ?_⟩) (by assumption) ?_
                      rotate_left 1
                      · (intro w hSw; (try dsimp only at hSw); go_simp <;> with_reducible rfl)
                      try simp only [Act.put, List.setIfInBounds_toArray, List.set_cons_zero, List.set_cons_succ]
                      refine wpAnyH_take (i := 1) (oi := ⟨some 115, _, _, _, _, _⟩) (v := ?_) rfl (by kernel_rfl) (by kernel_rfl) (by kernel_rfl) (fun _ _ _ h => h) (Or.inl ⟨by rfl, ?_⟩) (by assumption) ?_
                      rotate_left 1
                      · (intro w hSw; (try dsimp only at hSw); go_simp <;> with_reducible rfl)
                      try simp only [Act.put, List.setIfInBounds_toArray, List.set_cons_zero, List.set_cons_succ]
                      refine wpAnyH_take (i := 2) (oi := ⟨some 116, _, _, _, _, _⟩) (v := ?_) rfl (by kernel_rfl) (by kernel_rfl) (by kernel_rfl) (fun _ _ _ h => h) (Or.inl ⟨by rfl, ?_⟩) (by assumption) ?_
                      rotate_left 1
                      · (intro w hSw; (try dsimp only at hSw); go_simp <;> with_reducible rfl)
                      try simp only [Act.put, List.setIfInBounds_toArray, List.set_cons_zero, List.set_cons_succ]
                      refine wpAnyH_take (i := 3) (oi := ⟨some 117, _, _, _, _, _⟩) (v := ?_) rfl (by kernel_rfl) (by kernel_rfl) (by kernel_rfl) (fun _ _ _ h => h) (Or.inl ⟨by rfl, ?_⟩) (by assumption) ?_
                      rotate_left 1
                      · (intro w hSw; (try dsimp only at hSw); go_simp <;> with_reducible rfl)
                      try simp only [Act.put, List.setIfInBounds_toArray, List.set_cons_zero, List.set_cons_succ]
                      refine wpAnyH_take (i := 4) (oi := ⟨some 118, _, _, _, _, _⟩) (v := ?_) rfl (by kernel_rfl) (by kernel_rfl) (by kernel_rfl) (fun _ _ _ h => h) (Or.inl ⟨by rfl, ?_⟩) (by assumption) ?_
                      rotate_left 1
                      · (intro w hSw; (try dsimp only at hSw); go_simp <;> with_reducible rfl)
                      try simp only [Act.put, List.setIfInBounds_toArray, List.set_cons_zero, List.set_cons_succ]
                      refine wpAnyH_take (i := 5) (oi := ⟨some 119, _, _, _, _, _⟩) (v := ?_) rfl (by kernel_rfl) (by kernel_rfl) (by kernel_rfl) (fun _ _ _ h => h) (Or.inl ⟨by rfl, ?_⟩) (by assumption) ?_
                      rotate_left 1
                      · (intro w hSw; (try dsimp only at hSw); go_simp <;> with_reducible rfl)
                      try simp only [Act.put, List.setIfInBounds_toArray, List.set_cons_zero, List.set_cons_succ]
                      refine wpAnyH_take (i := 6) (oi := ⟨some 120, _, _, _, _, _⟩) (v := ?_) rfl (by kernel_rfl) (by kernel_rfl) (by kernel_rfl) (fun _ _ _ h => h) (Or.inl ⟨by rfl, ?_⟩) (by assumption) ?_
                      rotate_left 1
                      · (intro w hSw; (try dsimp only at hSw); go_simp <;> with_reducible rfl)
                      try simp only [Act.put, List.setIfInBounds_toArray, List.set_cons_zero, List.set_cons_succ]
                      refine wpAnyH_take (i := 7) (oi := ⟨some 121, _, _, _, _, _⟩) (v := ?_) rfl (by kernel_rfl) (by kernel_rfl) (by kernel_rfl) (fun _ _ _ h => h) (Or.inl ⟨by rfl, ?_⟩) (by assumption) ?_
                      rotate_left 1
                      · (intro w hSw; (try dsimp only at hSw); go_simp <;> with_reducible rfl)
                      try simp only [Act.put, List.setIfInBounds_toArray, List.set_cons_zero, List.set_cons_succ]
                      refine wpAnyH_take (i := 8) (oi := ⟨some 122, _, _, _, _, _⟩) (v := ?_) rfl (by kernel_rfl) (by kernel_rfl) (by kernel_rfl) (fun _ _ _ h => h) (Or.inl ⟨by rfl, ?_⟩) (by assumption) ?_
                      rotate_left 1
                      · (intro w hSw; (try dsimp only at hSw); go_simp <;> with_reducible rfl)
                      try simp only [Act.put, List.setIfInBounds_toArray, List.set_cons_zero, List.set_cons_succ]
                      refine wpAnyH_take (i := 9) (oi := ⟨some 123, _, _, _, _, _⟩) (v := ?_) rfl (by kernel_rfl) (by kernel_rfl) (by kernel_rfl) (fun _ _ _ h => h) (Or.inl ⟨by rfl, ?_⟩) (by assumption) ?_
                      rotate_left 1
                      · (intro w hSw; (try dsimp only at hSw); go_simp <;> with_reducible rfl)
                      try simp only [Act.put, List.setIfInBounds_toArray, List.set_cons_zero, List.set_cons_succ]
                      refine wpAnyH_take (i := 10) (oi := ⟨some 124, _, _, _, _, _⟩) (v := ?_) rfl (by kernel_rfl) (by kernel_rfl) (by kernel_rfl) (fun _ _ _ h => h) (Or.inl ⟨by rfl, ?_⟩) (by assumption) ?_
                      rotate_left 1
                      · (intro w hSw; (try dsimp only at hSw); go_simp <;> with_reducible rfl)
                      try simp only [Act.put, List.setIfInBounds_toArray, List.set_cons_zero, List.set_cons_succ]
                      refine wpAnyH_take (i := 11) (oi := ⟨some 125, _, _, _, _, _⟩) (v := ?_) rfl (by kernel_rfl) (by kernel_rfl) (by kernel_rfl) (fun _ _ _ h => h) (Or.inl ⟨by rfl, ?_⟩) (by assumption) ?_
                      rotate_left 1
                      · (intro w hSw; (try dsimp only at hSw); go_simp <;> with_reducible rfl)
                      try simp only [Act.put, List.setIfInBounds_toArray, List.set_cons_zero, List.set_cons_succ]
                      refine wpAnyH_take (i := 12) (oi := ⟨some 126, _, _, _, _, _⟩) (v := ?_) rfl (by kernel_rfl) (by kernel_rfl) (by kernel_rfl) (fun _ _ _ h => h) (Or.inl ⟨by rfl, ?_⟩) (by assumption) ?_
                      rotate_left 1
                      · (intro w hSw; (try dsimp only at hSw); go_simp <;> with_reducible rfl)
                      try simp only [Act.put, List.setIfInBounds_toArray, List.set_cons_zero, List.set_cons_succ]
                      refine wpAnyH_take (i := 13) (oi := ⟨some 127, _, _, _, _, _⟩) (v := ?_) rfl (by kernel_rfl) (by kernel_rfl) (by kernel_rfl) (fun _ _ _ h => h) (Or.inl ⟨by rfl, ?_⟩) (by assumption) ?_
                      rotate_left 1
                      · (intro w hSw; (try dsimp only at hSw); go_simp <;> with_reducible rfl)
                      try simp only [Act.put, List.setIfInBounds_toArray, List.set_cons_zero, List.set_cons_succ]
                      refine wpAnyH_done (by kernel_rfl) ?_ _
                      clear hHeld a0
                      go_wp2_with fail
                      go_roundg (l.length + 1 - (X + 1))
                      case measure => omega
                      case rel => exact ⟨X + 1, X, rfl, Lib.hid rfl, by omega, by go_num, HD2.out, Lib.hid KD2.out, Lib.hid HA2.out⟩
                  · exact absurd (rise_adj fun k h0 hk => HA.out k h0 (by omega) hk) HNR.out
              · clear hnj hni
                go_upto_region 13 with fail
                refine wp_region_held_drew (S := (fun w' => w'.cell? ⟨w6.heap.size, 0, none⟩ = some (.slice (some ⟨kb, off, none⟩) pl.length c6) ∧ w'.cell? ⟨kb, off + J * 8, none⟩ = some (.int .i64 nj) ∧ w'.cell? ⟨kb, off + I * 8, none⟩ = some (.int .i64 ni))) (by kernel_rfl) ?_ (fun hHeld => ?_)
                · exact SR.out _ (Kept.refl wr).drew
                refine wpAnyH_take (i := 0) (oi := ⟨some 93, _, _, _, _, _⟩) (v := ?_) rfl (by kernel_rfl) (by kernel_rfl) (by kernel_rfl) (fun _ _ _ h => h) (Or.inl ⟨by rfl, ?_⟩) (by assumption) ?_
                rotate_left 1
                · (intro w hSw; (try dsimp only at hSw); go_simp <;> with_reducible rfl)
                try simp only [Act.put, List.setIfInBounds_toArray, List.set_cons_zero, List.set_cons_succ]
                refine wpAnyH_take (i := 1) (oi := ⟨some 94, _, _, _, _, _⟩) (v := ?_) rfl (by kernel_rfl) (by kernel_rfl) (by kernel_rfl) (fun _ _ _ h => h) (Or.inl ⟨by rfl, ?_⟩) (by assumption) ?_
                rotate_left 1
                · (intro w hSw; (try dsimp only at hSw); go_simp <;> with_reducible rfl)
                try simp only [Act.put, List.setIfInBounds_toArray, List.set_cons_zero, List.set_cons_succ]
                refine wpAnyH_take (i := 2) (oi := ⟨some 95, _, _, _, _, _⟩) (v := ?_) rfl (by kernel_rfl) (by kernel_rfl) (by kernel_rfl) (fun _ _ _ h => h) (Or.inl ⟨by rfl, ?_⟩) (by assumption) ?_
                rotate_left 1
                · (intro w hSw; (try dsimp only at hSw); go_simp <;> with_reducible rfl)
                try simp only [Act.put, List.setIfInBounds_toArray, List.set_cons_zero, List.set_cons_succ]
                refine wpAnyH_take (i := 3) (oi := ⟨some 96, _, _, _, _, _⟩) (v := ?_) rfl (by kernel_rfl) (by kernel_rfl) (by kernel_rfl) (fun _ _ _ h => h) (Or.inl ⟨by rfl, ?_⟩) (by assumption) ?_
                rotate_left 1
                · (intro w hSw; (try dsimp only at hSw); go_simp <;> with_reducible rfl)
                try simp only [Act.put, List.setIfInBounds_toArray, List.set_cons_zero, List.set_cons_succ]
                refine wpAnyH_take (i := 4) (oi := ⟨some 97, _, _, _, _, _⟩) (v := ?_) rfl (by kernel_rfl) (by kernel_rfl) (by kernel_rfl) (fun _ _ _ h => h) (Or.inl ⟨by rfl, ?_⟩) (by assumption) ?_
                rotate_left 1
                · (intro w hSw; (try dsimp only at hSw); go_simp <;> with_reducible rfl)
                try simp only [Act.put, List.setIfInBounds_toArray, List.set_cons_zero, List.set_cons_succ]
                refine wpAnyH_take (i := 5) (oi := ⟨some 98, _, _, _, _, _⟩) (v := ?_) rfl (by kernel_rfl) (by kernel_rfl) (by kernel_rfl) (fun _ _ _ h => h) (Or.inl ⟨by rfl, ?_⟩) (by assumption) ?_
                rotate_left 1
                · (intro w hSw; (try dsimp only at hSw); go_simp <;> with_reducible rfl)
                try simp only [Act.put, List.setIfInBounds_toArray, List.set_cons_zero, List.set_cons_succ]
                refine wpAnyH_take (i := 6) (oi := ⟨some 99, _, _, _, _, _⟩) (v := ?_) rfl (by kernel_rfl) (by kernel_rfl) (by kernel_rfl) (fun _ _ _ h => h) (Or.inl ⟨by rfl, ?_⟩) (by assumption) ?_
                rotate_left 1
                · (intro w hSw; (try dsimp only at hSw); go_simp <;> with_reducible rfl)
                try simp only [Act.put, List.setIfInBounds_toArray, List.set_cons_zero, List.set_cons_succ]
                refine wpAnyH_take (i := 7) (oi := ⟨some 100, _, _, _, _, _⟩) (v := ?_) rfl (by kernel_rfl) (by kernel_rfl) (by kernel_rfl) (fun _ _ _ h => h) (Or.inl ⟨by rfl, ?_⟩) (by assumption) ?_
                rotate_left 1
                · (intro w hSw; (try dsimp only at hSw); go_simp <;> with_reducible rfl)
                try simp only [Act.put, List.setIfInBounds_toArray, List.set_cons_zero, List.set_cons_succ]
                refine wpAnyH_take (i := 8) (oi := ⟨some 101, _, _, _, _, _⟩) (v := ?_) rfl (by kernel_rfl) (by kernel_rfl) (by kernel_rfl) (fun _ _ _ h => h) (Or.inl ⟨by rfl, ?_⟩) (by assumption) ?_
                rotate_left 1
                · (intro w hSw; (try dsimp only at hSw); go_simp <;> with_reducible rfl)
                try simp only [Act.put, List.setIfInBounds_toArray, List.set_cons_zero, List.set_cons_succ]
                refine wpAnyH_take (i := 9) (oi := ⟨some 102, _, _, _, _, _⟩) (v := ?_) rfl (by kernel_rfl) (by kernel_rfl) (by kernel_rfl) (fun _ _ _ h => h) (Or.inl ⟨by rfl, ?_⟩) (by assumption) ?_
                rotate_left 1
                · (intro w hSw; (try dsimp only at hSw); go_simp <;> with_reducible rfl)
                try simp only [Act.put, List.setIfInBounds_toArray, List.set_cons_zero, List.set_cons_succ]
                refine wpAnyH_take (i := 10) (oi := ⟨some 103, _, _, _, _, _⟩) (v := ?_) rfl (by kernel_rfl) (by kernel_rfl) (by kernel_rfl) (fun _ _ _ h => h) (Or.inl ⟨by rfl, ?_⟩) (by assumption) ?_
                rotate_left 1
                · (intro w hSw; (try dsimp only at hSw); go_simp <;> with_reducible rfl)
                try simp only [Act.put, List.setIfInBounds_toArray, List.set_cons_zero, List.set_cons_succ]
                refine wpAnyH_take (i := 11) (oi := ⟨some 104, _, _, _, _, _⟩) (v := ?_) rfl (by kernel_rfl) (by kernel_rfl) (by kernel_rfl) (fun _ _ _ h => h) (Or.inl ⟨by rfl, ?_⟩) (by assumption) ?_
                rotate_left 1
                · (intro w hSw; (try dsimp only at hSw); go_simp <;> with_reducible rfl)
                try simp only [Act.put, List.setIfInBounds_toArray, List.set_cons_zero, List.set_cons_succ]
                refine wpAnyH_take (i := 12) (oi := ⟨some 105, _, _, _, _, _⟩) (v := ?_) rfl (by kernel_rfl) (by kernel_rfl) (by kernel_rfl) (fun _ _ _ h => h) (Or.inl ⟨by rfl, ?_⟩) (by assumption) ?_
                rotate_left 1
                · (intro w hSw; (try dsimp only at hSw); go_simp <;> with_reducible rfl)
                try simp only [Act.put, List.setIfInBounds_toArray, List.set_cons_zero, List.set_cons_succ]
                refine wpAnyH_take (i := 13) (oi := ⟨some 106, _, _, _, _, _⟩) (v := ?_) rfl (by kernel_rfl) (by kernel_rfl) (by kernel_rfl) (fun _ _ _ h => h) (Or.inl ⟨by rfl, ?_⟩) (by assumption) ?_
                rotate_left 1
                · (intro w hSw; (try dsimp only at hSw); go_simp <;> with_reducible rfl)
                try simp only [Act.put, List.setIfInBounds_toArray, List.set_cons_zero, List.set_cons_succ]
                refine wpAnyH_done (by kernel_rfl) ?_ _
                clear hHeld a0
                have HD := Lib.hid (HI.out.drew)
                have KD := Lib.hid (show Kept (w6.alloc (.cells #[.slice p6 pl.length c6, .int .i64 t.k, .int .i64 t.n, .int .i64 t.f, .string t.s, .slice ht.p t.l.length ht.c, .slice ht.q t.d.length ht.e] 46)) wr.drew from HK7.out.drew)
                go_wp2_with fail
                go_roundg (pl.length + 1 - (I + 1))
                case measure => omega
                case rel => exact ⟨I + 1, I, rfl, Lib.hid rfl, by omega, by go_num, HD.out, Lib.hid KD.out⟩
            · have j1 : ¬ (I : Int) < (pl.length : Int) := by omega
              have GM := Lib.hid (HI.out.mem (List.mem_cons_of_mem _ List.mem_cons_self))
              have FM := Lib.hid (HI.out.mem (List.mem_cons_of_mem _ (List.mem_cons_of_mem _ (List.mem_cons_of_mem _ List.mem_cons_self))))
              have SF := Lib.hid (show ∀ W, Kept wr W → (fun w' => w'.cell? ⟨w4.heap.size, 0, none⟩ = some (.slice p4 l.length c4) ∧ w'.cell? ⟨w4.heap.size, 1, none⟩ = some (.int .i64 t.k) ∧ w'.cell? ⟨w4.heap.size, 2, none⟩ = some (.int .i64 t.n) ∧ w'.cell? ⟨w4.heap.size, 3, none⟩ = some (.int .i64 t.f) ∧ w'.cell? ⟨w4.heap.size, 4, none⟩ = some (.string t.s) ∧ w'.cell? ⟨w4.heap.size, 5, none⟩ = some (.slice ht.p t.l.length ht.c) ∧ w'.cell? ⟨w4.heap.size, 6, none⟩ = some (.slice ht.q t.d.length ht.e) ∧ w'.cell? ⟨w.heap.size, 0, none⟩ = some (.slice p l.length c) ∧ w'.cell? ⟨w.heap.size, 1, none⟩ = some (.int .i64 t.k) ∧ w'.cell? ⟨w.heap.size, 2, none⟩ = some (.int .i64 t.n) ∧ w'.cell? ⟨w.heap.size, 3, none⟩ = some (.int .i64 t.f) ∧ w'.cell? ⟨w.heap.size, 4, none⟩ = some (.string t.s) ∧ w'.cell? ⟨w.heap.size, 5, none⟩ = some (.slice ht.p t.l.length ht.c) ∧ w'.cell? ⟨w.heap.size, 6, none⟩ = some (.slice ht.q t.d.length ht.e)) W from fun W k => by
                obtain ⟨g0, g1, g2, g3, g4, g5, g6⟩ := (GM.out.kept k).cells7
                obtain ⟨f0, f1, f2, f3, f4, f5, f6⟩ := (FM.out.kept k).cells7
                exact ⟨g0, g1, g2, g3, g4, g5, g6, f0, f1, f2, f3, f4, f5, f6⟩)
              have CT := Lib.hid (show ∀ W, Kept wr W → Calls Tryz.prog 21 #[.agg #[.slice p4 l.length c4, .int .i64 t.k, .int .i64 t.n, .int .i64 t.f, .string t.s, .slice ht.p t.l.length ht.c, .slice ht.q t.d.length ht.e]] W fun e W' => ∃ p' c', e = .returned (.agg #[.slice p' l.length c', .int .i64 t.k, .int .i64 t.n, .int .i64 t.f, .string t.s, .slice ht.p t.l.length ht.c, .slice ht.q t.d.length ht.e]) ∧ Kept W W' ∧ Hid (NmR (fun _ => True) W' p' l) from fun W k => by
                refine (theirs9_any l p4 c4 t ht W (NG7.out.kept (HK7.out.trans k)) (by omega)).mono ?_
                rintro e W' ⟨p', c', rfl, hk', hn', -⟩
                exact ⟨p', c', rfl, hk', Lib.hid hn'⟩)
              have CS := Lib.hid (show ∀ W p' c', Kept wr W → NmR (fun _ => True) W p' l → Calls Tryz.prog 20 #[.agg #[.slice p' l.length c', .int .i64 t.k, .int .i64 t.n, .int .i64 t.f, .string t.s, .slice ht.p t.l.length ht.c, .slice ht.q t.d.length ht.e], .agg #[.slice p l.length c, .int .i64 t.k, .int .i64 t.n, .int .i64 t.f, .string t.s, .slice ht.p t.l.length ht.c, .slice ht.q t.d.length ht.e]] W fun e W' => e = .returned (.bool true) ∧ Kept W W' from fun W p' c' k hn => by
                have kk := KI.out.trans k
                exact same9_any l p' p c' c t ht ht W hn (NM0.out.kept kk) (by omega) (LT.out.kept kk) (LT.out.kept kk))
              clear a1 a2 a3 a4 a5 a6
              go_upto_region 20 with fail
              refine wp_region_held_drew (S := (fun w' => w'.cell? ⟨w4.heap.size, 0, none⟩ = some (.slice p4 l.length c4) ∧ w'.cell? ⟨w4.heap.size, 1, none⟩ = some (.int .i64 t.k) ∧ w'.cell? ⟨w4.heap.size, 2, none⟩ = some (.int .i64 t.n) ∧ w'.cell? ⟨w4.heap.size, 3, none⟩ = some (.int .i64 t.f) ∧ w'.cell? ⟨w4.heap.size, 4, none⟩ = some (.string t.s) ∧ w'.cell? ⟨w4.heap.size, 5, none⟩ = some (.slice ht.p t.l.length ht.c) ∧ w'.cell? ⟨w4.heap.size, 6, none⟩ = some (.slice ht.q t.d.length ht.e) ∧ w'.cell? ⟨w.heap.size, 0, none⟩ = some (.slice p l.length c) ∧ w'.cell? ⟨w.heap.size, 1, none⟩ = some (.int .i64 t.k) ∧ w'.cell? ⟨w.heap.size, 2, none⟩ = some (.int .i64 t.n) ∧ w'.cell? ⟨w.heap.size, 3, none⟩ = some (.int .i64 t.f) ∧ w'.cell? ⟨w.heap.size, 4, none⟩ = some (.string t.s) ∧ w'.cell? ⟨w.heap.size, 5, none⟩ = some (.slice ht.p t.l.length ht.c) ∧ w'.cell? ⟨w.heap.size, 6, none⟩ = some (.slice ht.q t.d.length ht.e))) (by kernel_rfl) ?_ (fun hHeld => ?_)
              · exact SF.out _ (Kept.refl wr).drew
              refine wpAnyH_take (i := 0) (oi := ⟨some 129, _, _, _, _, _⟩) (v := ?_) rfl (by kernel_rfl) (by kernel_rfl) (by kernel_rfl) (fun _ _ _ h => h) (Or.inl ⟨by rfl, ?_⟩) (by assumption) ?_
              rotate_left 1
              · (intro w hSw; (try dsimp only at hSw); go_simp <;> with_reducible rfl)
              try simp only [Act.put, List.setIfInBounds_toArray, List.set_cons_zero, List.set_cons_succ]
              refine wpAnyH_take (i := 1) (oi := ⟨some 130, _, _, _, _, _⟩) (v := ?_) rfl (by kernel_rfl) (by kernel_rfl) (by kernel_rfl) (fun _ _ _ h => h) (Or.inl ⟨by rfl, ?_⟩) (by assumption) ?_
              rotate_left 1
              · (intro w hSw; (try dsimp only at hSw); go_simp <;> with_reducible rfl)
              try simp only [Act.put, List.setIfInBounds_toArray, List.set_cons_zero, List.set_cons_succ]
              refine wpAnyH_take (i := 2) (oi := ⟨some 131, _, _, _, _, _⟩) (v := ?_) rfl (by kernel_rfl) (by kernel_rfl) (by kernel_rfl) (fun _ _ _ h => h) (Or.inl ⟨by rfl, ?_⟩) (by assumption) ?_
              rotate_left 1
              · (intro w hSw; (try dsimp only at hSw); go_simp <;> with_reducible rfl)
              try simp only [Act.put, List.setIfInBounds_toArray, List.set_cons_zero, List.set_cons_succ]
              refine wpAnyH_take (i := 4) (oi := ⟨some 133, _, _, _, _, _⟩) (v := ?_) rfl (by kernel_rfl) (by kernel_rfl) (by kernel_rfl) (fun _ _ _ h => h) (Or.inl ⟨by rfl, ?_⟩) (by assumption) ?_
              rotate_left 1
              · (intro w hSw; (try dsimp only at hSw); go_simp <;> with_reducible rfl)
              try simp only [Act.put, List.setIfInBounds_toArray, List.set_cons_zero, List.set_cons_succ]
              refine wpAnyH_ready (rs := [3]) (by kernel_rfl) (by simp) ?_
              refine AllReadyH.cons (o := ⟨some 132, _, _, _, _, _⟩) rfl (fun K hK => ?_) AllReadyH.nil
              rw [if_pos (by rfl)]
              go_simp
              (with_reducible refine (CT.out _ (Kept.refl wr).drew).mono ?_)
              rintro e w30 ⟨p30, c30, rfl, hk30, HN30⟩
              have K30 := Lib.hid (show Kept wr w30 from ((Kept.refl wr).drew).trans hk30)
              clear hk30
              refine hK.out _ _ ?_ (fun hHeld => ?_)
              · exact SF.out _ K30.out
              clear hK K
              try simp only [Act.put, List.setIfInBounds_toArray, List.set_cons_zero, List.set_cons_succ]
              refine wpAnyH_ready (rs := [5]) (by kernel_rfl) (by simp) ?_
              refine AllReadyH.cons (o := ⟨some 134, _, _, _, _, _⟩) rfl (fun K hK => ?_) AllReadyH.nil
              rw [if_pos (by rfl)]
              go_simp
              (with_reducible refine (CS.out _ _ _ K30.out HN30.out).mono ?_)
              rintro e w31 ⟨rfl, hk31⟩
              have K31 := Lib.hid (K30.out.trans hk31)
              clear hk31
              refine hK.out _ _ ?_ (fun hHeld => ?_)
              · exact SF.out _ K31.out
              clear hK K
              try simp only [Act.put, List.setIfInBounds_toArray, List.set_cons_zero, List.set_cons_succ]
              refine wpAnyH_take (i := 6) (oi := ⟨some 135, _, _, _, _, _⟩) (v := ?_) rfl (by kernel_rfl) (by kernel_rfl) (by kernel_rfl) (fun _ _ _ h => h) (Or.inl ⟨by rfl, ?_⟩) (by assumption) ?_
              rotate_left 1
              · (intro w hSw; (try dsimp only at hSw); go_simp <;> with_reducible rfl)
              try simp only [Act.put, List.setIfInBounds_toArray, List.set_cons_zero, List.set_cons_succ]
              refine wpAnyH_take (i := 7) (oi := ⟨some 8, _, _, _, _, _⟩) (v := ?_) rfl (by kernel_rfl) (by kernel_rfl) (by kernel_rfl) (fun _ _ _ h => h) (Or.inl ⟨by rfl, ?_⟩) (by assumption) ?_
              rotate_left 1
              · (intro w hSw; (try dsimp only at hSw); go_simp <;> with_reducible rfl)
              try simp only [Act.put, List.setIfInBounds_toArray, List.set_cons_zero, List.set_cons_succ]
              refine wpAnyH_done (by kernel_rfl) ?_ _
              clear hHeld
              go_wp2_with fail
              go_ret
              exact ⟨rfl, KI.out.trans K31.out⟩

end Go.Proofs.YtoablpaehhjchaaGreatDoor
