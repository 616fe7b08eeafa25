/-
  Which font any name, and any object of any file, is.
-/
import Derived.Test.YtakbhdhlcnpejaaMetRefOf
import Derived.Test.YtakbhdhlcnpejaaMetS
import Derived.Test.YtakbhdhlcnpejaaMetOurs
import Derived.Test.YtakbhdhlcnpejaaMetE
import Derived.Test.YtakbhdhlcnpejaaFileFew
import Derived.Test.YtakbhdhlcnpejaaCosFew
namespace Go.Proofs.Ytakbhdhlcnpejaa
open Go.RowKit Cx Sx
set_option linter.unusedSimpArgs false
set_option linter.unusedVariables false

theorem FileArg.kept13 {W W' : World} {v : Value} {rs : NRow} {p : Option Addr} {c : Nat} {t : Ob} {ht : Hd} (h : FileArg W v rs p c t ht) (k : Kept W W') : FileArg W' v rs p c t ht :=
  ⟨h.1, h.2.1, h.2.2.1.kept k, fun r hr => ⟨(h.2.2.2.1 r hr).1.kept k, (h.2.2.2.1 r hr).2⟩, h.2.2.2.2.1.kept k, h.2.2.2.2.2⟩

theorem Mt.nameV_len (b : Int × Ob) : (Mt.nameV b).2.ws.length ≤ 256 := by
  unfold Mt.nameV
  split
  · split
    · split
      · exact (Mt.stdT_sane _).2.2.1
      · exact Nat.zero_le _
    · exact Nat.zero_le _
  · exact Nat.zero_le _
theorem Mt.widthsV_len (l : List Nm) (a : Ob) : (Mt.widthsV l a).2.length ≤ 256 := by
  unfold Mt.widthsV
  split
  · split
    · next h => exact Nat.le_trans (Mt.wsV_len _) h
    · exact Nat.zero_le _
  · exact Nat.zero_le _
theorem Mt.listV_len (w : Int × List Nat) (c : Int × Ob) (h : w.2.length ≤ 256) : (Mt.listV w c).2.ws.length ≤ 256 := by
  unfold Mt.listV
  split
  · split
    · split
      · exact h
      · exact Nat.zero_le _
    · exact Nat.zero_le _
  · exact Nat.zero_le _
theorem Mt.ofV_len (l : List Nm) (o : Ob) : (Mt.ofV l o).2.ws.length ≤ 4294967296 := by
  refine Nat.le_trans (m := 256) ?_ (by decide)
  unfold Mt.ofV
  split
  · split
    · split
      · split
        · exact Mt.nameV_len _
        · exact Mt.listV_len _ _ (Mt.widthsV_len _ _)
      · exact Nat.zero_le _
    · exact Nat.zero_le _
  · exact Nat.zero_le _

set_option maxRecDepth 100000 in
set_option maxHeartbeats 64000000 in
theorem MetricFonts_walk (v : Value) (rs : NRow) (p : Option Addr) (c : Nat) (t : Ob) (ht : Hd) (o : Ob) (ho : Hd) (s : ByteArray) (w : World) (ha : FileArg w v rs p c t ht) (hff : FileFits 140737488355328 rs t)
    (lo : Lies (Cel (fun _ => True) w) o ho) (fo : Ob.Fits 140737488355328 o) (ss : s.size ≤ 140737488355328) :
    Calls Try.prog 3 #[v, objV o ho, .string s] w fun e w' => e = .returned (.bool true) ∧ Kept w w' := by
  have NM0' := ha.nmR
  have LO := Lib.hid lo
  have FF0 := fun w' (k : Kept w w') => FewF_any rs p c t ht v 2000 w' (ha.kept13 k) hff (by omega) (by omega)
  have FO0 := fun w' (k : Kept w w') => Few_any _ o ho 1500 w' (lo.kept k) fo (by omega) (by omega)
  obtain ⟨rfl, -⟩ := ha
  have hLen : (rs.map (·.1)).length = rs.length := List.length_map _
  obtain ⟨l, hl⟩ : ∃ l, l = rs.map (·.1) := ⟨_, rfl⟩
  rw [← hl] at NM0' FF0 hLen ⊢
  have NM0 := Lib.hid NM0'
  unfold fileV at FF0
  unfold objV at FO0
  have FF := Lib.hid FF0
  obtain ⟨y, hy⟩ : ∃ y, y = decide (0 ≤ few o 1500 0) := ⟨_, rfl⟩
  rw [← hy] at FO0
  have FO := Lib.hid FO0
  obtain ⟨ok, hok⟩ : ∃ ok, ok = Mt.stdB s.data.toList := ⟨_, rfl⟩
  obtain ⟨D, hD⟩ : ∃ T, T = Mt.stdT s.data.toList := ⟨_, rfl⟩
  have CS := Lib.hid (fun W => (show Calls Try.prog 7 #[.string s] W (StdPostF W D ok) by
    rw [hok, hD]
    have := StandardF_any s.data.toList W
    rw [← Mt.str_arr] at this; exact this))
  have CT := Lib.hid (fun W => (show Calls Try.prog 8 #[.string s] W (StdPostF W D ok) by
    rw [hok, hD]
    have := RStandard_any s.data.toList W
    rw [← Mt.str_arr] at this; exact this))
  have DS := Lib.hid (show D.ws.length ≤ 4294967296 by rw [hD]; have := (Mt.stdT_sane s.data.toList).2.2.1; omega)
  obtain ⟨X, hX⟩ : ∃ X, X = Mt.ofV l o := ⟨_, rfl⟩
  have XS := Lib.hid (show X.2.ws.length ≤ 4294967296 by rw [hX]; exact Mt.ofV_len l o)
  have CF := Lib.hid (fun W (p4 : Option Addr) (c4 : Nat) (nm : NmR (fun _ => True) W p4 l) (k : Kept w W) => Of_any _ l p4 c4 t ht o ho W nm (LO.out.kept k) X hX)
  have CG := Lib.hid (fun W (k : Kept w W) => ROf_any _ l p c t ht o ho W (NM0.out.kept k) (LO.out.kept k) X hX)
  have H1 := Lib.hid (In.fresh' (k := w.heap.size + 1) (In.fresh (In.start w) #[.slice p l.length c, .int .i64 t.k, .int .i64 t.n, .int .i64 t.f, .string t.s, .slice ht.p t.l.length ht.c, .slice ht.q t.d.length ht.e] 29) #[.int .i64 o.k, .int .i64 o.n, .int .i64 o.f, .string o.s, .slice ho.p o.l.length ho.c, .slice ho.q o.d.length ho.e] 27 (by simp))
  have AW := Lib.hid (fun wx => awake13_any wx)
  have HLN := Lib.hid hLen
  clear hy FO0 FF0 NM0' lo fo hff hl hLen hok hD hX ss
  obtain ⟨er, F⟩ := X
  unfold fileV objV at CF CG
  unfold fileV objV
  simp only [] at XS
  have i1 : (ok == ok) = true := by simp
  have i2 : (er == er) = true := by simp
  go_enter Try.func3, Try.ntmps3
  go_wp2_with fail
  (with_reducible refine (AW.out _).mono ?_)
  rintro e w1 ⟨rfl, hk1⟩
  have I1 := Lib.hid (H1.out.kept hk1)
  clear hk1 AW H1
  obtain ⟨x0, x1, x2, x3, x4, x5⟩ := (I1.out.mem List.mem_cons_self).cells6
  obtain ⟨f0, f1, f2, f3, f4, f5, f6⟩ := (I1.out.mem (List.mem_cons_of_mem _ List.mem_cons_self)).cells7
  go_wp2_with fail
  (with_reducible refine (FF.out _ (In.k I1.out)).mono ?_)
  rintro e w2 ⟨b, rfl, hk2, hb2⟩
  have I2 := Lib.hid (I1.out.kept hk2)
  clear hk2 FF I1 x0 x1 x2 x3 x4 x5 f0 f1 f2 f3 f4 f5 f6
  obtain ⟨x0, x1, x2, x3, x4, x5⟩ := (I2.out.mem List.mem_cons_self).cells6
  cases b with
  | false =>
    go_wp2_with fail
    go_ret
    exact ⟨rfl, In.k I2.out⟩
  | true =>
    have h200 : l.length ≤ 200 := by have := hb2 rfl; have := HLN.out; omega
    clear hb2
    go_wp2_with fail
    (with_reducible refine (FO.out _ (In.k I2.out)).mono ?_)
    rintro e w3 ⟨rfl, hk3⟩
    have I3 := Lib.hid (I2.out.kept hk3)
    clear hk3 FO I2 x0 x1 x2 x3 x4 x5
    cases y with
    | false =>
      go_wp2_with fail
      go_ret
      exact ⟨rfl, In.k I3.out⟩
    | true =>
      by_cases hbig : (200 : Int) < (s.size : Int)
      · go_wp2_with fail
        go_ret
        exact ⟨rfl, In.k I3.out⟩
      go_wp2_with fail
      (with_reducible refine (CS.out _).mono ?_)
      rintro e w4 ⟨qa, ca, rfl, hn4, hk4⟩
      unfold Mt.fontV
      have I4 := Lib.hid (In.fresh' (k := w4.heap.size) (I3.out.kept hk4) #[.int .i64 D.first, .slice qa D.ws.length ca, .int .i64 D.other] 35 rfl)
      have k4 : Kept w4 (w4.alloc (.cells #[.int .i64 D.first, .slice qa D.ws.length ca, .int .i64 D.other] 35)) := (Kept.refl w4).alloc _ _
      have N4 := Lib.hid ((hn4.nuR.keep (Nat.le_refl _) k4).up (B' := (w4.alloc (.cells #[.int .i64 D.first, .slice qa D.ws.length ca, .int .i64 D.other] 35)).heap.size) k4.size)
      clear hn4 hk4 k4 CS I3
      simp only []
      go_wp2_with fail
      (with_reducible refine (CT.out _).mono ?_)
      rintro e w5 ⟨qb, cb, rfl, hn5, hk5⟩
      unfold Mt.fontV
      have I5 := Lib.hid (In.fresh' (k := w5.heap.size) (I4.out.kept hk5) #[.int .i64 D.first, .slice qb D.ws.length cb, .int .i64 D.other] 38 rfl)
      have k5 : Kept w5 (w5.alloc (.cells #[.int .i64 D.first, .slice qb D.ws.length cb, .int .i64 D.other] 38)) := (Kept.refl w5).alloc _ _
      have k45 : Kept (w4.alloc (.cells #[.int .i64 D.first, .slice qa D.ws.length ca, .int .i64 D.other] 35)) (w5.alloc (.cells #[.int .i64 D.first, .slice qb D.ws.length cb, .int .i64 D.other] 38)) := hk5.trans k5
      have N5 := Lib.hid ((hn5.nuR.keep (Nat.le_refl _) k5).up (B' := (w5.alloc (.cells #[.int .i64 D.first, .slice qb D.ws.length cb, .int .i64 D.other] 38)).heap.size) k5.size)
      have N45 := Lib.hid ((N4.out.keep (Nat.le_refl _) k45).up (B' := (w5.alloc (.cells #[.int .i64 D.first, .slice qb D.ws.length cb, .int .i64 D.other] 38)).heap.size) k45.size)
      clear hn5 hk5 k5 k45 CT I4 N4
      simp only []
      go_upto_region 6 with fail
      obtain ⟨W5, hW5⟩ : ∃ W, W = w5.alloc (.cells #[.int .i64 D.first, .slice qb D.ws.length cb, .int .i64 D.other] 38) := ⟨_, rfl⟩
      obtain ⟨BB, hBB⟩ : ∃ B, B = w5.heap.size := ⟨_, rfl⟩
      obtain ⟨AB, hAB⟩ : ∃ A, A = w4.heap.size := ⟨_, rfl⟩
      rw [← hW5] at I5 N5 N45
      rw [← hBB, ← hAB] at I5
      rw [← hW5, ← hBB, ← hAB]
      clear hW5 hBB hAB
      obtain ⟨x0, x1, x2, x3, x4, x5⟩ := (I5.out.mem (List.mem_cons_of_mem _ (List.mem_cons_of_mem _ List.mem_cons_self))).cells6
      obtain ⟨f0, f1, f2, f3, f4, f5, f6⟩ := (I5.out.mem (List.mem_cons_of_mem _ (List.mem_cons_of_mem _ (List.mem_cons_of_mem _ List.mem_cons_self)))).cells7
      have xz := (I5.out.mem (List.mem_cons_of_mem _ (List.mem_cons_of_mem _ List.mem_cons_self))).lt
      have fz := (I5.out.mem (List.mem_cons_of_mem _ (List.mem_cons_of_mem _ (List.mem_cons_of_mem _ List.mem_cons_self)))).lt
      have CO := Lib.hid (fun W (k : Kept W5 W) => (show Calls Try.prog 10 #[.agg #[.slice p l.length c, .int .i64 t.k, .int .i64 t.n, .int .i64 t.f, .string t.s, .slice ht.p t.l.length ht.c, .slice ht.q t.d.length ht.e]] W fun e w' => ∃ p' c', e = .returned (.agg #[.slice p' l.length c', .int .i64 t.k, .int .i64 t.n, .int .i64 t.f, .string t.s, .slice ht.p t.l.length ht.c, .slice ht.q t.d.length ht.e]) ∧ Kept W w' ∧ NmR (fun _ => True) w' p' l ∧ (p' = none → c' = 0) from ours13_any l p c t ht W (NM0.out.kept ((In.k I5.out).trans k)) (by omega)))
      have SK := Lib.hid (show ∀ w', Kept W5 w' → w'.cell? ⟨w.heap.size, 0, none⟩ = some (.slice p l.length c) ∧ w'.cell? ⟨w.heap.size, 1, none⟩ = some (.int .i64 t.k) ∧ w'.cell? ⟨w.heap.size, 2, none⟩ = some (.int .i64 t.n) ∧ w'.cell? ⟨w.heap.size, 3, none⟩ = some (.int .i64 t.f) ∧ w'.cell? ⟨w.heap.size, 4, none⟩ = some (.string t.s) ∧ w'.cell? ⟨w.heap.size, 5, none⟩ = some (.slice ht.p t.l.length ht.c) ∧ w'.cell? ⟨w.heap.size, 6, none⟩ = some (.slice ht.q t.d.length ht.e) ∧ w'.cell? ⟨w.heap.size + 1, 0, none⟩ = some (.int .i64 o.k) ∧ w'.cell? ⟨w.heap.size + 1, 1, none⟩ = some (.int .i64 o.n) ∧ w'.cell? ⟨w.heap.size + 1, 2, none⟩ = some (.int .i64 o.f) ∧ w'.cell? ⟨w.heap.size + 1, 3, none⟩ = some (.string o.s) ∧ w'.cell? ⟨w.heap.size + 1, 4, none⟩ = some (.slice ho.p o.l.length ho.c) ∧ w'.cell? ⟨w.heap.size + 1, 5, none⟩ = some (.slice ho.q o.d.length ho.e) from fun w' k => ⟨(k.cells.1 _ _ fz).trans f0, (k.cells.1 _ _ fz).trans f1, (k.cells.1 _ _ fz).trans f2, (k.cells.1 _ _ fz).trans f3, (k.cells.1 _ _ fz).trans f4, (k.cells.1 _ _ fz).trans f5, (k.cells.1 _ _ fz).trans f6, (k.cells.1 _ _ xz).trans x0, (k.cells.1 _ _ xz).trans x1, (k.cells.1 _ _ xz).trans x2, (k.cells.1 _ _ xz).trans x3, (k.cells.1 _ _ xz).trans x4, (k.cells.1 _ _ xz).trans x5⟩)
      refine wp_region_held_drew (S := fun w' => w'.cell? ⟨w.heap.size, 0, none⟩ = some (.slice p l.length c) ∧ w'.cell? ⟨w.heap.size, 1, none⟩ = some (.int .i64 t.k) ∧ w'.cell? ⟨w.heap.size, 2, none⟩ = some (.int .i64 t.n) ∧ w'.cell? ⟨w.heap.size, 3, none⟩ = some (.int .i64 t.f) ∧ w'.cell? ⟨w.heap.size, 4, none⟩ = some (.string t.s) ∧ w'.cell? ⟨w.heap.size, 5, none⟩ = some (.slice ht.p t.l.length ht.c) ∧ w'.cell? ⟨w.heap.size, 6, none⟩ = some (.slice ht.q t.d.length ht.e) ∧ w'.cell? ⟨w.heap.size + 1, 0, none⟩ = some (.int .i64 o.k) ∧ w'.cell? ⟨w.heap.size + 1, 1, none⟩ = some (.int .i64 o.n) ∧ w'.cell? ⟨w.heap.size + 1, 2, none⟩ = some (.int .i64 o.f) ∧ w'.cell? ⟨w.heap.size + 1, 3, none⟩ = some (.string o.s) ∧ w'.cell? ⟨w.heap.size + 1, 4, none⟩ = some (.slice ho.p o.l.length ho.c) ∧ w'.cell? ⟨w.heap.size + 1, 5, none⟩ = some (.slice ho.q o.d.length ho.e)) (by kernel_rfl) ?_ (fun hHeld => ?_)
      · first | exact SK.out _ (Kept.refl W5) | exact SK.out _ (Kept.refl W5).drew
      refine wpAnyH_take (i := 0) (oi := ⟨some 42, _, _, _, _, _⟩) (v := ?_) rfl (by kernel_rfl) (by kernel_rfl) (by kernel_rfl) (fun _ _ _ h => h) (Or.inl ⟨by rfl, ?_⟩) (by assumption) ?_
      rotate_left 1
      · (intro w hSw; (try dsimp only at hSw); go_simp <;> with_reducible rfl)
      try simp only [Act.put, List.setIfInBounds_toArray, List.set_cons_zero, List.set_cons_succ]
      refine wpAnyH_take (i := 2) (oi := ⟨some 44, _, _, _, _, _⟩) (v := ?_) rfl (by kernel_rfl) (by kernel_rfl) (by kernel_rfl) (fun _ _ _ h => h) (Or.inl ⟨by rfl, ?_⟩) (by assumption) ?_
      rotate_left 1
      · (intro w hSw; (try dsimp only at hSw); go_simp <;> with_reducible rfl)
      try simp only [Act.put, List.setIfInBounds_toArray, List.set_cons_zero, List.set_cons_succ]
      refine wpAnyH_ready (rs := [1, 7]) (by kernel_rfl) (by simp) ?_
      refine AllReadyH.cons (o := ⟨some 43, _, _, _, _, _⟩) rfl (fun K hK => ?_) (AllReadyH.cons (o := ⟨some 12, _, _, _, _, _⟩) rfl (fun K hK => ?_) AllReadyH.nil)
      · go_simp
        (first | (with_reducible refine (CO.out _ (Kept.refl W5)).mono ?_) | (with_reducible refine (CO.out _ ((Kept.refl W5).drew)).mono ?_))
        rintro e wa ⟨p4, c4, rfl, hka, nma, -⟩
        have KA := Lib.hid (show Kept W5 wa from by (first | exact (Kept.refl W5).trans hka | exact ((Kept.refl W5).drew).trans hka))
        have NA := Lib.hid nma
        go_simp
        refine hK.out _ _ ?_ (fun hHeld => ?_)
        · exact SK.out _ KA.out
        clear hK K
        try simp only [Act.put, List.setIfInBounds_toArray, List.set_cons_zero, List.set_cons_succ]
        refine wpAnyH_ready (rs := [3, 7]) (by kernel_rfl) (by simp) ?_
        refine AllReadyH.cons (o := ⟨some 45, _, _, _, _, _⟩) rfl (fun K hK => ?_) (AllReadyH.cons (o := ⟨some 12, _, _, _, _, _⟩) rfl (fun K hK => ?_) AllReadyH.nil)
        · go_simp
          (first | (with_reducible refine (CF.out _ p4 c4 (NA.out) ((In.k I5.out).trans (KA.out))).mono ?_) | (with_reducible refine (CF.out _ p4 c4 (NA.out.kept (Kept.refl wa).drew) ((In.k I5.out).trans (KA.out.drew))).mono ?_))
          rintro e wb ⟨q, cq, rfl, hnb, hkb⟩
          unfold Mt.fontV
          have KB := Lib.hid (show Kept W5 wb from by (first | exact (KA.out).trans hkb | exact (KA.out.drew).trans hkb))
          go_simp
          refine hK.out _ _ ?_ (fun hHeld => ?_)
          · exact SK.out _ KB.out
          clear hK K
          try simp only [Act.put, List.setIfInBounds_toArray, List.set_cons_zero, List.set_cons_succ]
          refine wpAnyH_take (i := 4) (oi := ⟨some 41, _, _, _, _, _⟩) (v := ?_) rfl (by kernel_rfl) (by kernel_rfl) (by kernel_rfl) (fun _ _ _ h => h) (Or.inl ⟨by rfl, ?_⟩) (by assumption) ?_
          rotate_left 1
          · (intro w hSw; (try dsimp only at hSw); go_simp <;> with_reducible rfl)
          try simp only [Act.put, List.setIfInBounds_toArray, List.set_cons_zero, List.set_cons_succ]
          refine wpAnyH_take (i := 5) (oi := ⟨some 46, _, _, _, _, _⟩) (v := ?_) rfl (by kernel_rfl) (by kernel_rfl) (by kernel_rfl) (fun _ _ _ h => h) (Or.inl ⟨by rfl, ?_⟩) (by assumption) ?_
          rotate_left 1
          · (intro w hSw; (try dsimp only at hSw); go_simp <;> with_reducible rfl)
          try simp only [Act.put, List.setIfInBounds_toArray, List.set_cons_zero, List.set_cons_succ]
          refine wpAnyH_take (i := 6) (oi := ⟨some 47, _, _, _, _, _⟩) (v := ?_) rfl (by kernel_rfl) (by kernel_rfl) (by kernel_rfl) (fun _ _ _ h => h) (Or.inl ⟨by rfl, ?_⟩) (by assumption) ?_
          rotate_left 1
          · (intro w hSw; (try dsimp only at hSw); go_simp <;> with_reducible rfl)
          try simp only [Act.put, List.setIfInBounds_toArray, List.set_cons_zero, List.set_cons_succ]
          refine wpAnyH_ready (rs := [7]) (by kernel_rfl) (by simp) ?_
          refine AllReadyH.cons (o := ⟨some 12, _, _, _, _, _⟩) rfl (fun K hK => ?_) AllReadyH.nil
          go_simp
          refine hK.out _ _ ?_ (fun hHeld => ?_)
          · exact SK.out _ (KB.out.alloc _ _)
          clear hK K
          try simp only [Act.put, List.setIfInBounds_toArray, List.set_cons_zero, List.set_cons_succ]
          refine wpAnyH_ready (rs := [8]) (by kernel_rfl) (by simp) ?_
          refine AllReadyH.cons (o := ⟨none, _, _, _, _, _⟩) rfl (fun K hK => ?_) AllReadyH.nil
          go_simp
          refine hK.out _ _ ?_ (fun hHeld => ?_)
          · exact SK.out _ (KB.out.alloc _ _)
          clear hK K
          try simp only [Act.put, List.setIfInBounds_toArray, List.set_cons_zero, List.set_cons_succ]
          refine wpAnyH_take (i := 9) (oi := ⟨some 13, _, _, _, _, _⟩) (v := ?_) rfl (by kernel_rfl) (by kernel_rfl) (by kernel_rfl) (fun _ _ _ h => h) (Or.inl ⟨by rfl, ?_⟩) (by assumption) ?_
          rotate_left 1
          · (intro w hSw; (try dsimp only at hSw); go_simp <;> with_reducible rfl)
          try simp only [Act.put, List.setIfInBounds_toArray, List.set_cons_zero, List.set_cons_succ]
          refine wpAnyH_done (by kernel_rfl) ?_ _
          clear hHeld
          obtain ⟨w6, hw6⟩ : ∃ w6, w6 = wb.alloc (.cells #[.int .i64 F.first, .slice q F.ws.length cq, .int .i64 F.other] 35) := ⟨_, rfl⟩
          have K6 := Lib.hid (show Kept W5 w6 by rw [hw6]; exact KB.out.alloc _ _)
          have B6 := Lib.hid (show Blk w6 wb.heap.size #[.int .i64 F.first, .slice q F.ws.length cq, .int .i64 F.other] 35 by rw [hw6]; exact Blk.fresh wb _ _)
          have N6 := Lib.hid (show NuR w6 w6.heap.size q F.ws by rw [hw6]; exact (hnb.alloc _).nuR)
          obtain ⟨TB, hTB⟩ : ∃ B, B = wb.heap.size := ⟨_, rfl⟩
          rw [← hTB] at B6
          rw [← hw6, ← hTB]
          clear hTB hw6 hnb hkb KB NA hka nma KA SK x0 x1 x2 x3 x4 x5 xz f0 f1 f2 f3 f4 f5 f6 fz CO
          have I6 := Lib.hid (I5.out.kept K6.out)
          have NA6 := Lib.hid ((N45.out.keep (Nat.le_refl _) K6.out).up (B' := w6.heap.size) K6.out.size)
          have NB6 := Lib.hid ((N5.out.keep (Nat.le_refl _) K6.out).up (B' := w6.heap.size) K6.out.size)
          have KW6 := Lib.hid (In.k I6.out)
          clear I5 N45 N5
          obtain ⟨x0, x1, x2, x3, x4, x5⟩ := (I6.out.mem (List.mem_cons_of_mem _ (List.mem_cons_of_mem _ List.mem_cons_self))).cells6
          obtain ⟨f0, f1, f2, f3, f4, f5, f6⟩ := (I6.out.mem (List.mem_cons_of_mem _ (List.mem_cons_of_mem _ (List.mem_cons_of_mem _ List.mem_cons_self)))).cells7
          go_wp2_with fail
          (with_reducible refine (CG.out _ KW6.out).mono ?_)
          rintro e w7 ⟨q7, c7, rfl, hn7, hk7⟩
          unfold Mt.fontV
          simp only []
          have k8 : Kept w6 (w7.alloc (.cells #[.int .i64 F.first, .slice q7 F.ws.length c7, .int .i64 F.other] 38)) := hk7.alloc _ _
          have I8 := Lib.hid (I6.out.kept k8)
          have T8 := Lib.hid (B6.out.kept k8)
          have D8 := Lib.hid (Blk.fresh w7 #[.int .i64 F.first, .slice q7 F.ws.length c7, .int .i64 F.other] 38)
          have NA8 := Lib.hid ((NA6.out.keep (Nat.le_refl _) k8).up (B' := (w7.alloc (.cells #[.int .i64 F.first, .slice q7 F.ws.length c7, .int .i64 F.other] 38)).heap.size) k8.size)
          have NB8 := Lib.hid ((NB6.out.keep (Nat.le_refl _) k8).up (B' := (w7.alloc (.cells #[.int .i64 F.first, .slice q7 F.ws.length c7, .int .i64 F.other] 38)).heap.size) k8.size)
          have NT8 := Lib.hid ((N6.out.keep (Nat.le_refl _) k8).up (B' := (w7.alloc (.cells #[.int .i64 F.first, .slice q7 F.ws.length c7, .int .i64 F.other] 38)).heap.size) k8.size)
          have ND8 := Lib.hid (hn7.alloc (.cells #[.int .i64 F.first, .slice q7 F.ws.length c7, .int .i64 F.other] 38)).nuR
          clear hn7 hk7 k8 I6 NA6 NB6 N6 B6 K6 KW6 x0 x1 x2 x3 x4 x5 f0 f1 f2 f3 f4 f5 f6 CG CF
          go_upto_region 8 with fail
          obtain ⟨W8, hW8⟩ : ∃ W, W = w7.alloc (.cells #[.int .i64 F.first, .slice q7 F.ws.length c7, .int .i64 F.other] 38) := ⟨_, rfl⟩
          obtain ⟨DB, hDB⟩ : ∃ B, B = w7.heap.size := ⟨_, rfl⟩
          rw [← hW8] at I8 T8 D8 NA8 NB8 NT8 ND8
          rw [← hDB] at D8
          rw [← hW8, ← hDB]
          clear hW8 hDB
          have SK := Lib.hid (show ∀ w', Kept W8 w' → w'.cell? ⟨AB, 0, none⟩ = some (.int .i64 D.first) ∧ w'.cell? ⟨AB, 1, none⟩ = some (.slice qa D.ws.length ca) ∧ w'.cell? ⟨AB, 2, none⟩ = some (.int .i64 D.other) ∧ w'.cell? ⟨BB, 0, none⟩ = some (.int .i64 D.first) ∧ w'.cell? ⟨BB, 1, none⟩ = some (.slice qb D.ws.length cb) ∧ w'.cell? ⟨BB, 2, none⟩ = some (.int .i64 D.other) ∧ w'.cell? ⟨TB, 0, none⟩ = some (.int .i64 F.first) ∧ w'.cell? ⟨TB, 1, none⟩ = some (.slice q F.ws.length cq) ∧ w'.cell? ⟨TB, 2, none⟩ = some (.int .i64 F.other) ∧ w'.cell? ⟨DB, 0, none⟩ = some (.int .i64 F.first) ∧ w'.cell? ⟨DB, 1, none⟩ = some (.slice q7 F.ws.length c7) ∧ w'.cell? ⟨DB, 2, none⟩ = some (.int .i64 F.other) from fun w' k => by
            have aa := (I8.out.mem (List.mem_cons_of_mem _ List.mem_cons_self)).kept k
            have bb := (I8.out.mem List.mem_cons_self).kept k
            have tt := T8.out.kept k
            have dd := D8.out.kept k
            exact ⟨aa.cell 0, aa.cell 1, aa.cell 2, bb.cell 0, bb.cell 1, bb.cell 2, tt.cell 0, tt.cell 1, tt.cell 2, dd.cell 0, dd.cell 1, dd.cell 2⟩)
          have CA := Lib.hid (fun W => theirs13_any D.first qa D.ws.length ca D.other W)
          have CB := Lib.hid (fun W (k : Kept W8 W) => same13_any D qa ca qb cb W ((NA8.out.keep (Nat.le_refl _) k).up k.size) ((NB8.out.keep (Nat.le_refl _) k).up k.size) DS.out)
          have CC := Lib.hid (fun W => theirs13_any F.first q F.ws.length cq F.other W)
          have CD := Lib.hid (fun W (k : Kept W8 W) => same13_any F q cq q7 c7 W ((NT8.out.keep (Nat.le_refl _) k).up k.size) ((ND8.out.keep (Nat.le_refl _) k).up k.size) XS.out)
          unfold Mt.fontV at CB CD
          have KX := Lib.hid (Kept.refl W8)
          obtain ⟨s0, s1, s2, s3, s4, s5, s6, s7, s8, s9, s10, s11⟩ := SK.out _ KX.out
          refine wp_region_held_drew (S := fun w' => w'.cell? ⟨AB, 0, none⟩ = some (.int .i64 D.first) ∧ w'.cell? ⟨AB, 1, none⟩ = some (.slice qa D.ws.length ca) ∧ w'.cell? ⟨AB, 2, none⟩ = some (.int .i64 D.other) ∧ w'.cell? ⟨BB, 0, none⟩ = some (.int .i64 D.first) ∧ w'.cell? ⟨BB, 1, none⟩ = some (.slice qb D.ws.length cb) ∧ w'.cell? ⟨BB, 2, none⟩ = some (.int .i64 D.other) ∧ w'.cell? ⟨TB, 0, none⟩ = some (.int .i64 F.first) ∧ w'.cell? ⟨TB, 1, none⟩ = some (.slice q F.ws.length cq) ∧ w'.cell? ⟨TB, 2, none⟩ = some (.int .i64 F.other) ∧ w'.cell? ⟨DB, 0, none⟩ = some (.int .i64 F.first) ∧ w'.cell? ⟨DB, 1, none⟩ = some (.slice q7 F.ws.length c7) ∧ w'.cell? ⟨DB, 2, none⟩ = some (.int .i64 F.other)) (by kernel_rfl) ?_ (fun hHeld => ?_)
          · exact ⟨s0, s1, s2, s3, s4, s5, s6, s7, s8, s9, s10, s11⟩
          refine wpAnyH_take (i := 0) (oi := ⟨some 54, _, _, _, _, _⟩) (v := ?_) rfl (by kernel_rfl) (by kernel_rfl) (by kernel_rfl) (fun _ _ _ h => h) (Or.inl ⟨by rfl, ?_⟩) (by assumption) ?_
          rotate_left 1
          · (intro w hSw; (try dsimp only at hSw); go_simp <;> with_reducible rfl)
          try simp only [Act.put, List.setIfInBounds_toArray, List.set_cons_zero, List.set_cons_succ]
          refine wpAnyH_take (i := 1) (oi := ⟨some 55, _, _, _, _, _⟩) (v := ?_) rfl (by kernel_rfl) (by kernel_rfl) (by kernel_rfl) (fun _ _ _ h => h) (Or.inl ⟨by rfl, ?_⟩) (by assumption) ?_
          rotate_left 1
          · (intro w hSw; (try dsimp only at hSw); go_simp <;> with_reducible rfl)
          try simp only [Act.put, List.setIfInBounds_toArray, List.set_cons_zero, List.set_cons_succ]
          refine wpAnyH_take (i := 2) (oi := ⟨some 56, _, _, _, _, _⟩) (v := ?_) rfl (by kernel_rfl) (by kernel_rfl) (by kernel_rfl) (fun _ _ _ h => h) (Or.inl ⟨by rfl, ?_⟩) (by assumption) ?_
          rotate_left 1
          · (intro w hSw; (try dsimp only at hSw); go_simp <;> with_reducible rfl)
          try simp only [Act.put, List.setIfInBounds_toArray, List.set_cons_zero, List.set_cons_succ]
          refine wpAnyH_take (i := 4) (oi := ⟨some 58, _, _, _, _, _⟩) (v := ?_) rfl (by kernel_rfl) (by kernel_rfl) (by kernel_rfl) (fun _ _ _ h => h) (Or.inl ⟨by rfl, ?_⟩) (by assumption) ?_
          rotate_left 1
          · (intro w hSw; (try dsimp only at hSw); go_simp <;> with_reducible rfl)
          try simp only [Act.put, List.setIfInBounds_toArray, List.set_cons_zero, List.set_cons_succ]
          refine wpAnyH_ready (rs := [3]) (by kernel_rfl) (by simp) ?_
          refine AllReadyH.cons (o := ⟨some 57, _, _, _, _, _⟩) rfl (fun K hK => ?_) AllReadyH.nil
          rw [if_pos (by rfl)]
          go_simp
          (first | (with_reducible refine (CA.out _).mono ?_) | (with_reducible refine (CA.out _).mono ?_))
          rintro e wn ⟨rfl, kn⟩
          (first | (with_reducible have KX := Lib.hid (KX.out.trans kn)) | (with_reducible have KX := Lib.hid (KX.out.drew.trans kn)))
          obtain ⟨s0, s1, s2, s3, s4, s5, s6, s7, s8, s9, s10, s11⟩ := SK.out _ KX.out
          go_simp
          refine hK.out _ _ ?_ (fun hHeld => ?_)
          · exact ⟨s0, s1, s2, s3, s4, s5, s6, s7, s8, s9, s10, s11⟩
          clear hK K
          try simp only [Act.put, List.setIfInBounds_toArray, List.set_cons_zero, List.set_cons_succ]
          refine wpAnyH_ready (rs := [5]) (by kernel_rfl) (by simp) ?_
          refine AllReadyH.cons (o := ⟨some 59, _, _, _, _, _⟩) rfl (fun K hK => ?_) AllReadyH.nil
          rw [if_pos (by rfl)]
          go_simp
          (first | (with_reducible refine (CB.out _ KX.out).mono ?_) | (with_reducible refine (CB.out _ KX.out.drew).mono ?_))
          rintro e wn ⟨rfl, kn⟩
          (first | (with_reducible have KX := Lib.hid (KX.out.trans kn)) | (with_reducible have KX := Lib.hid (KX.out.drew.trans kn)))
          obtain ⟨s0, s1, s2, s3, s4, s5, s6, s7, s8, s9, s10, s11⟩ := SK.out _ KX.out
          go_simp
          refine hK.out _ _ ?_ (fun hHeld => ?_)
          · exact ⟨s0, s1, s2, s3, s4, s5, s6, s7, s8, s9, s10, s11⟩
          clear hK K
          try simp only [Act.put, List.setIfInBounds_toArray, List.set_cons_zero, List.set_cons_succ]
          refine wpAnyH_take (i := 6) (oi := ⟨some 60, _, _, _, _, _⟩) (v := ?_) rfl (by kernel_rfl) (by kernel_rfl) (by kernel_rfl) (fun _ _ _ h => h) (Or.inl ⟨by rfl, ?_⟩) (by assumption) ?_
          rotate_left 1
          · (intro w hSw; (try dsimp only at hSw); go_simp <;> with_reducible rfl)
          try simp only [Act.put, List.setIfInBounds_toArray, List.set_cons_zero, List.set_cons_succ]
          refine wpAnyH_take (i := 7) (oi := ⟨some 61, _, _, _, _, _⟩) (v := ?_) rfl (by kernel_rfl) (by kernel_rfl) (by kernel_rfl) (fun _ _ _ h => h) (Or.inl ⟨by rfl, ?_⟩) (by assumption) ?_
          rotate_left 1
          · (intro w hSw; (try dsimp only at hSw); go_simp <;> with_reducible rfl)
          try simp only [Act.put, List.setIfInBounds_toArray, List.set_cons_zero, List.set_cons_succ]
          refine wpAnyH_take (i := 8) (oi := ⟨some 62, _, _, _, _, _⟩) (v := ?_) rfl (by kernel_rfl) (by kernel_rfl) (by kernel_rfl) (fun _ _ _ h => h) (Or.inl ⟨by rfl, ?_⟩) (by assumption) ?_
          rotate_left 1
          · (intro w hSw; (try dsimp only at hSw); go_simp <;> with_reducible rfl)
          try simp only [Act.put, List.setIfInBounds_toArray, List.set_cons_zero, List.set_cons_succ]
          refine wpAnyH_take (i := 9) (oi := ⟨some 63, _, _, _, _, _⟩) (v := ?_) rfl (by kernel_rfl) (by kernel_rfl) (by kernel_rfl) (fun _ _ _ h => h) (Or.inl ⟨by rfl, ?_⟩) (by assumption) ?_
          rotate_left 1
          · (intro w hSw; (try dsimp only at hSw); go_simp <;> with_reducible rfl)
          try simp only [Act.put, List.setIfInBounds_toArray, List.set_cons_zero, List.set_cons_succ]
          refine wpAnyH_take (i := 10) (oi := ⟨some 64, _, _, _, _, _⟩) (v := ?_) rfl (by kernel_rfl) (by kernel_rfl) (by kernel_rfl) (fun _ _ _ h => h) (Or.inl ⟨by rfl, ?_⟩) (by assumption) ?_
          rotate_left 1
          · (intro w hSw; (try dsimp only at hSw); go_simp <;> with_reducible rfl)
          try simp only [Act.put, List.setIfInBounds_toArray, List.set_cons_zero, List.set_cons_succ]
          refine wpAnyH_take (i := 11) (oi := ⟨some 65, _, _, _, _, _⟩) (v := ?_) rfl (by kernel_rfl) (by kernel_rfl) (by kernel_rfl) (fun _ _ _ h => h) (Or.inl ⟨by rfl, ?_⟩) (by assumption) ?_
          rotate_left 1
          · (intro w hSw; (try dsimp only at hSw); go_simp <;> with_reducible rfl)
          try simp only [Act.put, List.setIfInBounds_toArray, List.set_cons_zero, List.set_cons_succ]
          refine wpAnyH_take (i := 12) (oi := ⟨some 66, _, _, _, _, _⟩) (v := ?_) rfl (by kernel_rfl) (by kernel_rfl) (by kernel_rfl) (fun _ _ _ h => h) (Or.inl ⟨by rfl, ?_⟩) (by assumption) ?_
          rotate_left 1
          · (intro w hSw; (try dsimp only at hSw); go_simp <;> with_reducible rfl)
          try simp only [Act.put, List.setIfInBounds_toArray, List.set_cons_zero, List.set_cons_succ]
          refine wpAnyH_take (i := 13) (oi := ⟨some 67, _, _, _, _, _⟩) (v := ?_) rfl (by kernel_rfl) (by kernel_rfl) (by kernel_rfl) (fun _ _ _ h => h) (Or.inl ⟨by rfl, ?_⟩) (by assumption) ?_
          rotate_left 1
          · (intro w hSw; (try dsimp only at hSw); go_simp <;> with_reducible rfl)
          try simp only [Act.put, List.setIfInBounds_toArray, List.set_cons_zero, List.set_cons_succ]
          refine wpAnyH_take (i := 15) (oi := ⟨some 69, _, _, _, _, _⟩) (v := ?_) rfl (by kernel_rfl) (by kernel_rfl) (by kernel_rfl) (fun _ _ _ h => h) (Or.inl ⟨by rfl, ?_⟩) (by assumption) ?_
          rotate_left 1
          · (intro w hSw; (try dsimp only at hSw); go_simp <;> with_reducible rfl)
          try simp only [Act.put, List.setIfInBounds_toArray, List.set_cons_zero, List.set_cons_succ]
          refine wpAnyH_ready (rs := [14]) (by kernel_rfl) (by simp) ?_
          refine AllReadyH.cons (o := ⟨some 68, _, _, _, _, _⟩) rfl (fun K hK => ?_) AllReadyH.nil
          rw [if_pos (by rfl)]
          go_simp
          (first | (with_reducible refine (CC.out _).mono ?_) | (with_reducible refine (CC.out _).mono ?_))
          rintro e wn ⟨rfl, kn⟩
          (first | (with_reducible have KX := Lib.hid (KX.out.trans kn)) | (with_reducible have KX := Lib.hid (KX.out.drew.trans kn)))
          obtain ⟨s0, s1, s2, s3, s4, s5, s6, s7, s8, s9, s10, s11⟩ := SK.out _ KX.out
          go_simp
          refine hK.out _ _ ?_ (fun hHeld => ?_)
          · exact ⟨s0, s1, s2, s3, s4, s5, s6, s7, s8, s9, s10, s11⟩
          clear hK K
          try simp only [Act.put, List.setIfInBounds_toArray, List.set_cons_zero, List.set_cons_succ]
          refine wpAnyH_ready (rs := [16]) (by kernel_rfl) (by simp) ?_
          refine AllReadyH.cons (o := ⟨some 70, _, _, _, _, _⟩) rfl (fun K hK => ?_) AllReadyH.nil
          rw [if_pos (by rfl)]
          go_simp
          (first | (with_reducible refine (CD.out _ KX.out).mono ?_) | (with_reducible refine (CD.out _ KX.out.drew).mono ?_))
          rintro e wn ⟨rfl, kn⟩
          (first | (with_reducible have KX := Lib.hid (KX.out.trans kn)) | (with_reducible have KX := Lib.hid (KX.out.drew.trans kn)))
          obtain ⟨s0, s1, s2, s3, s4, s5, s6, s7, s8, s9, s10, s11⟩ := SK.out _ KX.out
          go_simp
          refine hK.out _ _ ?_ (fun hHeld => ?_)
          · exact ⟨s0, s1, s2, s3, s4, s5, s6, s7, s8, s9, s10, s11⟩
          clear hK K
          try simp only [Act.put, List.setIfInBounds_toArray, List.set_cons_zero, List.set_cons_succ]
          refine wpAnyH_take (i := 17) (oi := ⟨some 71, _, _, _, _, _⟩) (v := ?_) rfl (by kernel_rfl) (by kernel_rfl) (by kernel_rfl) (fun _ _ _ h => h) (Or.inl ⟨by rfl, ?_⟩) (by assumption) ?_
          rotate_left 1
          · (intro w hSw; (try dsimp only at hSw); go_simp <;> with_reducible rfl)
          try simp only [Act.put, List.setIfInBounds_toArray, List.set_cons_zero, List.set_cons_succ]
          refine wpAnyH_take (i := 18) (oi := ⟨some 72, _, _, _, _, _⟩) (v := ?_) rfl (by kernel_rfl) (by kernel_rfl) (by kernel_rfl) (fun _ _ _ h => h) (Or.inl ⟨by rfl, ?_⟩) (by assumption) ?_
          rotate_left 1
          · (intro w hSw; (try dsimp only at hSw); go_simp <;> with_reducible rfl)
          try simp only [Act.put, List.setIfInBounds_toArray, List.set_cons_zero, List.set_cons_succ]
          refine wpAnyH_take (i := 19) (oi := ⟨some 73, _, _, _, _, _⟩) (v := ?_) rfl (by kernel_rfl) (by kernel_rfl) (by kernel_rfl) (fun _ _ _ h => h) (Or.inl ⟨by rfl, ?_⟩) (by assumption) ?_
          rotate_left 1
          · (intro w hSw; (try dsimp only at hSw); go_simp <;> with_reducible rfl)
          try simp only [Act.put, List.setIfInBounds_toArray, List.set_cons_zero, List.set_cons_succ]
          refine wpAnyH_take (i := 20) (oi := ⟨some 74, _, _, _, _, _⟩) (v := ?_) rfl (by kernel_rfl) (by kernel_rfl) (by kernel_rfl) (fun _ _ _ h => h) (Or.inl ⟨by rfl, ?_⟩) (by assumption) ?_
          rotate_left 1
          · (intro w hSw; (try dsimp only at hSw); go_simp <;> with_reducible rfl)
          try simp only [Act.put, List.setIfInBounds_toArray, List.set_cons_zero, List.set_cons_succ]
          refine wpAnyH_take (i := 21) (oi := ⟨some 75, _, _, _, _, _⟩) (v := ?_) rfl (by kernel_rfl) (by kernel_rfl) (by kernel_rfl) (fun _ _ _ h => h) (Or.inl ⟨by rfl, ?_⟩) (by assumption) ?_
          rotate_left 1
          · (intro w hSw; (try dsimp only at hSw); go_simp <;> with_reducible rfl)
          try simp only [Act.put, List.setIfInBounds_toArray, List.set_cons_zero, List.set_cons_succ]
          refine wpAnyH_take (i := 22) (oi := ⟨some 76, _, _, _, _, _⟩) (v := ?_) rfl (by kernel_rfl) (by kernel_rfl) (by kernel_rfl) (fun _ _ _ h => h) (Or.inl ⟨by rfl, ?_⟩) (by assumption) ?_
          rotate_left 1
          · (intro w hSw; (try dsimp only at hSw); go_simp <;> with_reducible rfl)
          try simp only [Act.put, List.setIfInBounds_toArray, List.set_cons_zero, List.set_cons_succ]
          refine wpAnyH_take (i := 23) (oi := ⟨some 6, _, _, _, _, _⟩) (v := ?_) rfl (by kernel_rfl) (by kernel_rfl) (by kernel_rfl) (fun _ _ _ h => h) (Or.inl ⟨by rfl, ?_⟩) (by assumption) ?_
          rotate_left 1
          · (intro w hSw; (try dsimp only at hSw); go_simp <;> with_reducible rfl)
          try simp only [Act.put, List.setIfInBounds_toArray, List.set_cons_zero, List.set_cons_succ]
          refine wpAnyH_done (by kernel_rfl) ?_ _
          clear hHeld
          go_wp2_with fail
          go_ret
          exact ⟨rfl, (In.k I8.out).trans KX.out⟩
        · go_simp
          refine hK.out _ _ ?_ (fun hHeld => ?_)
          · first | exact SK.out _ (KA.out.alloc _ _) | exact SK.out _ (KA.out.drew.alloc _ _)
          clear hK K
          try simp only [Act.put, List.setIfInBounds_toArray, List.set_cons_zero, List.set_cons_succ]
          refine wpAnyH_ready (rs := [3]) (by kernel_rfl) (by simp) ?_
          refine AllReadyH.cons (o := ⟨some 45, _, _, _, _, _⟩) rfl (fun K hK => ?_) AllReadyH.nil
          go_simp
          (first | (with_reducible refine (CF.out _ p4 c4 (NA.out.kept (((Kept.refl wa).alloc _ _).drew)) ((In.k I5.out).trans ((KA.out.alloc _ _).drew))).mono ?_) | (with_reducible refine (CF.out _ p4 c4 (NA.out.kept ((Kept.refl wa).alloc _ _)) ((In.k I5.out).trans (KA.out.alloc _ _))).mono ?_) | (with_reducible refine (CF.out _ p4 c4 (NA.out.kept ((Kept.refl wa).drew.alloc _ _)) ((In.k I5.out).trans (KA.out.drew.alloc _ _))).mono ?_))
          rintro e wb ⟨q, cq, rfl, hnb, hkb⟩
          unfold Mt.fontV
          have KB := Lib.hid (show Kept W5 wb from by (first | exact ((KA.out.alloc _ _).drew).trans hkb | exact (KA.out.alloc _ _).trans hkb | exact (KA.out.drew.alloc _ _).trans hkb))
          go_simp
          have hb4 : Blk wb wa.heap.size #[.int .i64 0, .slice none 0 0, .int .i64 0] 35 := by first | exact ((Blk.fresh wa #[.int .i64 0, .slice none 0 0, .int .i64 0] 35).drew).kept hkb | exact (Blk.fresh wa #[.int .i64 0, .slice none 0 0, .int .i64 0] 35).kept hkb
          have u0 := hb4.cell 0
          have u1 := hb4.cell 1
          have u2 := hb4.cell 2
          have uf := hb4.free
          have uz := hb4.lt
          refine hK.out _ _ ?_ (fun hHeld => ?_)
          · exact SK.out _ KB.out
          clear hK K
          try simp only [Act.put, List.setIfInBounds_toArray, List.set_cons_zero, List.set_cons_succ]
          refine wpAnyH_take (i := 4) (oi := ⟨some 41, _, _, _, _, _⟩) (v := ?_) rfl (by kernel_rfl) (by kernel_rfl) (by kernel_rfl) (fun _ _ _ h => h) (Or.inl ⟨by rfl, ?_⟩) (by assumption) ?_
          rotate_left 1
          · (intro w hSw; (try dsimp only at hSw); go_simp <;> with_reducible rfl)
          try simp only [Act.put, List.setIfInBounds_toArray, List.set_cons_zero, List.set_cons_succ]
          refine wpAnyH_take (i := 5) (oi := ⟨some 46, _, _, _, _, _⟩) (v := ?_) rfl (by kernel_rfl) (by kernel_rfl) (by kernel_rfl) (fun _ _ _ h => h) (Or.inl ⟨by rfl, ?_⟩) (by assumption) ?_
          rotate_left 1
          · (intro w hSw; (try dsimp only at hSw); go_simp <;> with_reducible rfl)
          try simp only [Act.put, List.setIfInBounds_toArray, List.set_cons_zero, List.set_cons_succ]
          refine wpAnyH_take (i := 6) (oi := ⟨some 47, _, _, _, _, _⟩) (v := ?_) rfl (by kernel_rfl) (by kernel_rfl) (by kernel_rfl) (fun _ _ _ h => h) (Or.inl ⟨by rfl, ?_⟩) (by assumption) ?_
          rotate_left 1
          · (intro w hSw; (try dsimp only at hSw); go_simp <;> with_reducible rfl)
          try simp only [Act.put, List.setIfInBounds_toArray, List.set_cons_zero, List.set_cons_succ]
          refine wpAnyH_ready (rs := [8]) (by kernel_rfl) (by simp) ?_
          refine AllReadyH.cons (o := ⟨none, _, _, _, _, _⟩) rfl (fun K hK => ?_) AllReadyH.nil
          go_simp
          refine hK.out _ _ ?_ (fun hHeld => ?_)
          · exact SK.out _ (((KB.out.set (KA.out.size) _).set (KA.out.size) _).set (KA.out.size) _)
          clear hK K
          try simp only [Act.put, List.setIfInBounds_toArray, List.set_cons_zero, List.set_cons_succ]
          refine wpAnyH_take (i := 9) (oi := ⟨some 13, _, _, _, _, _⟩) (v := ?_) rfl (by kernel_rfl) (by kernel_rfl) (by kernel_rfl) (fun _ _ _ h => h) (Or.inl ⟨by rfl, ?_⟩) (by assumption) ?_
          rotate_left 1
          · (intro w hSw; (try dsimp only at hSw); go_simp <;> with_reducible rfl)
          try simp only [Act.put, List.setIfInBounds_toArray, List.set_cons_zero, List.set_cons_succ]
          refine wpAnyH_done (by kernel_rfl) ?_ _
          clear hHeld
          obtain ⟨w6, hw6⟩ : ∃ w6, w6 = (((wb.setCell ⟨wa.heap.size, 0, none⟩ (.int .i64 F.first)).setCell ⟨wa.heap.size, 1, none⟩ (.slice q F.ws.length cq)).setCell ⟨wa.heap.size, 2, none⟩ (.int .i64 F.other)) := ⟨_, rfl⟩
          have K6 := Lib.hid (show Kept W5 w6 by rw [hw6]; exact ((KB.out.set (KA.out.size) _).set (KA.out.size) _).set (KA.out.size) _)
          have B6 := Lib.hid (show Blk w6 wa.heap.size #[.int .i64 F.first, .slice q F.ws.length cq, .int .i64 F.other] 35 by rw [hw6]; have := ((hb4.set 0 (.int .i64 F.first)).set 1 (.slice q F.ws.length cq)).set 2 (.int .i64 F.other); simpa using this)
          have N6 := Lib.hid (show NuR w6 w6.heap.size q F.ws by rw [hw6]; exact (((NuB.set (NuB.mono hnb (show wa.heap.size + 1 ≤ _ by simp)) (Nat.lt_succ_self _) _ _).set (Nat.lt_succ_self _) _ _).set (Nat.lt_succ_self _) _ _).nuR)
          obtain ⟨TB, hTB⟩ : ∃ B, B = wa.heap.size := ⟨_, rfl⟩
          rw [← hTB] at B6 hw6
          rw [← hTB, ← hw6]
          clear hTB hw6 hb4 u0 u1 u2 uf uz hnb hkb KB NA hka nma KA SK x0 x1 x2 x3 x4 x5 xz f0 f1 f2 f3 f4 f5 f6 fz CO
          have I6 := Lib.hid (I5.out.kept K6.out)
          have NA6 := Lib.hid ((N45.out.keep (Nat.le_refl _) K6.out).up (B' := w6.heap.size) K6.out.size)
          have NB6 := Lib.hid ((N5.out.keep (Nat.le_refl _) K6.out).up (B' := w6.heap.size) K6.out.size)
          have KW6 := Lib.hid (In.k I6.out)
          clear I5 N45 N5
          obtain ⟨x0, x1, x2, x3, x4, x5⟩ := (I6.out.mem (List.mem_cons_of_mem _ (List.mem_cons_of_mem _ List.mem_cons_self))).cells6
          obtain ⟨f0, f1, f2, f3, f4, f5, f6⟩ := (I6.out.mem (List.mem_cons_of_mem _ (List.mem_cons_of_mem _ (List.mem_cons_of_mem _ List.mem_cons_self)))).cells7
          go_wp2_with fail
          (with_reducible refine (CG.out _ KW6.out).mono ?_)
          rintro e w7 ⟨q7, c7, rfl, hn7, hk7⟩
          unfold Mt.fontV
          simp only []
          have k8 : Kept w6 (w7.alloc (.cells #[.int .i64 F.first, .slice q7 F.ws.length c7, .int .i64 F.other] 38)) := hk7.alloc _ _
          have I8 := Lib.hid (I6.out.kept k8)
          have T8 := Lib.hid (B6.out.kept k8)
          have D8 := Lib.hid (Blk.fresh w7 #[.int .i64 F.first, .slice q7 F.ws.length c7, .int .i64 F.other] 38)
          have NA8 := Lib.hid ((NA6.out.keep (Nat.le_refl _) k8).up (B' := (w7.alloc (.cells #[.int .i64 F.first, .slice q7 F.ws.length c7, .int .i64 F.other] 38)).heap.size) k8.size)
          have NB8 := Lib.hid ((NB6.out.keep (Nat.le_refl _) k8).up (B' := (w7.alloc (.cells #[.int .i64 F.first, .slice q7 F.ws.length c7, .int .i64 F.other] 38)).heap.size) k8.size)
          have NT8 := Lib.hid ((N6.out.keep (Nat.le_refl _) k8).up (B' := (w7.alloc (.cells #[.int .i64 F.first, .slice q7 F.ws.length c7, .int .i64 F.other] 38)).heap.size) k8.size)
          have ND8 := Lib.hid (hn7.alloc (.cells #[.int .i64 F.first, .slice q7 F.ws.length c7, .int .i64 F.other] 38)).nuR
          clear hn7 hk7 k8 I6 NA6 NB6 N6 B6 K6 KW6 x0 x1 x2 x3 x4 x5 f0 f1 f2 f3 f4 f5 f6 CG CF
          go_upto_region 8 with fail
          obtain ⟨W8, hW8⟩ : ∃ W, W = w7.alloc (.cells #[.int .i64 F.first, .slice q7 F.ws.length c7, .int .i64 F.other] 38) := ⟨_, rfl⟩
          obtain ⟨DB, hDB⟩ : ∃ B, B = w7.heap.size := ⟨_, rfl⟩
          rw [← hW8] at I8 T8 D8 NA8 NB8 NT8 ND8
          rw [← hDB] at D8
          rw [← hW8, ← hDB]
          clear hW8 hDB
          have SK := Lib.hid (show ∀ w', Kept W8 w' → w'.cell? ⟨AB, 0, none⟩ = some (.int .i64 D.first) ∧ w'.cell? ⟨AB, 1, none⟩ = some (.slice qa D.ws.length ca) ∧ w'.cell? ⟨AB, 2, none⟩ = some (.int .i64 D.other) ∧ w'.cell? ⟨BB, 0, none⟩ = some (.int .i64 D.first) ∧ w'.cell? ⟨BB, 1, none⟩ = some (.slice qb D.ws.length cb) ∧ w'.cell? ⟨BB, 2, none⟩ = some (.int .i64 D.other) ∧ w'.cell? ⟨TB, 0, none⟩ = some (.int .i64 F.first) ∧ w'.cell? ⟨TB, 1, none⟩ = some (.slice q F.ws.length cq) ∧ w'.cell? ⟨TB, 2, none⟩ = some (.int .i64 F.other) ∧ w'.cell? ⟨DB, 0, none⟩ = some (.int .i64 F.first) ∧ w'.cell? ⟨DB, 1, none⟩ = some (.slice q7 F.ws.length c7) ∧ w'.cell? ⟨DB, 2, none⟩ = some (.int .i64 F.other) from fun w' k => by
            have aa := (I8.out.mem (List.mem_cons_of_mem _ List.mem_cons_self)).kept k
            have bb := (I8.out.mem List.mem_cons_self).kept k
            have tt := T8.out.kept k
            have dd := D8.out.kept k
            exact ⟨aa.cell 0, aa.cell 1, aa.cell 2, bb.cell 0, bb.cell 1, bb.cell 2, tt.cell 0, tt.cell 1, tt.cell 2, dd.cell 0, dd.cell 1, dd.cell 2⟩)
          have CA := Lib.hid (fun W => theirs13_any D.first qa D.ws.length ca D.other W)
          have CB := Lib.hid (fun W (k : Kept W8 W) => same13_any D qa ca qb cb W ((NA8.out.keep (Nat.le_refl _) k).up k.size) ((NB8.out.keep (Nat.le_refl _) k).up k.size) DS.out)
          have CC := Lib.hid (fun W => theirs13_any F.first q F.ws.length cq F.other W)
          have CD := Lib.hid (fun W (k : Kept W8 W) => same13_any F q cq q7 c7 W ((NT8.out.keep (Nat.le_refl _) k).up k.size) ((ND8.out.keep (Nat.le_refl _) k).up k.size) XS.out)
          unfold Mt.fontV at CB CD
          have KX := Lib.hid (Kept.refl W8)
          obtain ⟨s0, s1, s2, s3, s4, s5, s6, s7, s8, s9, s10, s11⟩ := SK.out _ KX.out
          refine wp_region_held_drew (S := fun w' => w'.cell? ⟨AB, 0, none⟩ = some (.int .i64 D.first) ∧ w'.cell? ⟨AB, 1, none⟩ = some (.slice qa D.ws.length ca) ∧ w'.cell? ⟨AB, 2, none⟩ = some (.int .i64 D.other) ∧ w'.cell? ⟨BB, 0, none⟩ = some (.int .i64 D.first) ∧ w'.cell? ⟨BB, 1, none⟩ = some (.slice qb D.ws.length cb) ∧ w'.cell? ⟨BB, 2, none⟩ = some (.int .i64 D.other) ∧ w'.cell? ⟨TB, 0, none⟩ = some (.int .i64 F.first) ∧ w'.cell? ⟨TB, 1, none⟩ = some (.slice q F.ws.length cq) ∧ w'.cell? ⟨TB, 2, none⟩ = some (.int .i64 F.other) ∧ w'.cell? ⟨DB, 0, none⟩ = some (.int .i64 F.first) ∧ w'.cell? ⟨DB, 1, none⟩ = some (.slice q7 F.ws.length c7) ∧ w'.cell? ⟨DB, 2, none⟩ = some (.int .i64 F.other)) (by kernel_rfl) ?_ (fun hHeld => ?_)
          · exact ⟨s0, s1, s2, s3, s4, s5, s6, s7, s8, s9, s10, s11⟩
          refine wpAnyH_take (i := 0) (oi := ⟨some 54, _, _, _, _, _⟩) (v := ?_) rfl (by kernel_rfl) (by kernel_rfl) (by kernel_rfl) (fun _ _ _ h => h) (Or.inl ⟨by rfl, ?_⟩) (by assumption) ?_
          rotate_left 1
          · (intro w hSw; (try dsimp only at hSw); go_simp <;> with_reducible rfl)
          try simp only [Act.put, List.setIfInBounds_toArray, List.set_cons_zero, List.set_cons_succ]
          refine wpAnyH_take (i := 1) (oi := ⟨some 55, _, _, _, _, _⟩) (v := ?_) rfl (by kernel_rfl) (by kernel_rfl) (by kernel_rfl) (fun _ _ _ h => h) (Or.inl ⟨by rfl, ?_⟩) (by assumption) ?_
          rotate_left 1
          · (intro w hSw; (try dsimp only at hSw); go_simp <;> with_reducible rfl)
          try simp only [Act.put, List.setIfInBounds_toArray, List.set_cons_zero, List.set_cons_succ]
          refine wpAnyH_take (i := 2) (oi := ⟨some 56, _, _, _, _, _⟩) (v := ?_) rfl (by kernel_rfl) (by kernel_rfl) (by kernel_rfl) (fun _ _ _ h => h) (Or.inl ⟨by rfl, ?_⟩) (by assumption) ?_
          rotate_left 1
          · (intro w hSw; (try dsimp only at hSw); go_simp <;> with_reducible rfl)
          try simp only [Act.put, List.setIfInBounds_toArray, List.set_cons_zero, List.set_cons_succ]
          refine wpAnyH_take (i := 4) (oi := ⟨some 58, _, _, _, _, _⟩) (v := ?_) rfl (by kernel_rfl) (by kernel_rfl) (by kernel_rfl) (fun _ _ _ h => h) (Or.inl ⟨by rfl, ?_⟩) (by assumption) ?_
          rotate_left 1
          · (intro w hSw; (try dsimp only at hSw); go_simp <;> with_reducible rfl)
          try simp only [Act.put, List.setIfInBounds_toArray, List.set_cons_zero, List.set_cons_succ]
          refine wpAnyH_ready (rs := [3]) (by kernel_rfl) (by simp) ?_
          refine AllReadyH.cons (o := ⟨some 57, _, _, _, _, _⟩) rfl (fun K hK => ?_) AllReadyH.nil
          rw [if_pos (by rfl)]
          go_simp
          (first | (with_reducible refine (CA.out _).mono ?_) | (with_reducible refine (CA.out _).mono ?_))
          rintro e wn ⟨rfl, kn⟩
          (first | (with_reducible have KX := Lib.hid (KX.out.trans kn)) | (with_reducible have KX := Lib.hid (KX.out.drew.trans kn)))
          obtain ⟨s0, s1, s2, s3, s4, s5, s6, s7, s8, s9, s10, s11⟩ := SK.out _ KX.out
          go_simp
          refine hK.out _ _ ?_ (fun hHeld => ?_)
          · exact ⟨s0, s1, s2, s3, s4, s5, s6, s7, s8, s9, s10, s11⟩
          clear hK K
          try simp only [Act.put, List.setIfInBounds_toArray, List.set_cons_zero, List.set_cons_succ]
          refine wpAnyH_ready (rs := [5]) (by kernel_rfl) (by simp) ?_
          refine AllReadyH.cons (o := ⟨some 59, _, _, _, _, _⟩) rfl (fun K hK => ?_) AllReadyH.nil
          rw [if_pos (by rfl)]
          go_simp
          (first | (with_reducible refine (CB.out _ KX.out).mono ?_) | (with_reducible refine (CB.out _ KX.out.drew).mono ?_))
          rintro e wn ⟨rfl, kn⟩
          (first | (with_reducible have KX := Lib.hid (KX.out.trans kn)) | (with_reducible have KX := Lib.hid (KX.out.drew.trans kn)))
          obtain ⟨s0, s1, s2, s3, s4, s5, s6, s7, s8, s9, s10, s11⟩ := SK.out _ KX.out
          go_simp
          refine hK.out _ _ ?_ (fun hHeld => ?_)
          · exact ⟨s0, s1, s2, s3, s4, s5, s6, s7, s8, s9, s10, s11⟩
          clear hK K
          try simp only [Act.put, List.setIfInBounds_toArray, List.set_cons_zero, List.set_cons_succ]
          refine wpAnyH_take (i := 6) (oi := ⟨some 60, _, _, _, _, _⟩) (v := ?_) rfl (by kernel_rfl) (by kernel_rfl) (by kernel_rfl) (fun _ _ _ h => h) (Or.inl ⟨by rfl, ?_⟩) (by assumption) ?_
          rotate_left 1
          · (intro w hSw; (try dsimp only at hSw); go_simp <;> with_reducible rfl)
          try simp only [Act.put, List.setIfInBounds_toArray, List.set_cons_zero, List.set_cons_succ]
          refine wpAnyH_take (i := 7) (oi := ⟨some 61, _, _, _, _, _⟩) (v := ?_) rfl (by kernel_rfl) (by kernel_rfl) (by kernel_rfl) (fun _ _ _ h => h) (Or.inl ⟨by rfl, ?_⟩) (by assumption) ?_
          rotate_left 1
          · (intro w hSw; (try dsimp only at hSw); go_simp <;> with_reducible rfl)
          try simp only [Act.put, List.setIfInBounds_toArray, List.set_cons_zero, List.set_cons_succ]
          refine wpAnyH_take (i := 8) (oi := ⟨some 62, _, _, _, _, _⟩) (v := ?_) rfl (by kernel_rfl) (by kernel_rfl) (by kernel_rfl) (fun _ _ _ h => h) (Or.inl ⟨by rfl, ?_⟩) (by assumption) ?_
          rotate_left 1
          · (intro w hSw; (try dsimp only at hSw); go_simp <;> with_reducible rfl)
          try simp only [Act.put, List.setIfInBounds_toArray, List.set_cons_zero, List.set_cons_succ]
          refine wpAnyH_take (i := 9) (oi := ⟨some 63, _, _, _, _, _⟩) (v := ?_) rfl (by kernel_rfl) (by kernel_rfl) (by kernel_rfl) (fun _ _ _ h => h) (Or.inl ⟨by rfl, ?_⟩) (by assumption) ?_
          rotate_left 1
          · (intro w hSw; (try dsimp only at hSw); go_simp <;> with_reducible rfl)
          try simp only [Act.put, List.setIfInBounds_toArray, List.set_cons_zero, List.set_cons_succ]
          refine wpAnyH_take (i := 10) (oi := ⟨some 64, _, _, _, _, _⟩) (v := ?_) rfl (by kernel_rfl) (by kernel_rfl) (by kernel_rfl) (fun _ _ _ h => h) (Or.inl ⟨by rfl, ?_⟩) (by assumption) ?_
          rotate_left 1
          · (intro w hSw; (try dsimp only at hSw); go_simp <;> with_reducible rfl)
          try simp only [Act.put, List.setIfInBounds_toArray, List.set_cons_zero, List.set_cons_succ]
          refine wpAnyH_take (i := 11) (oi := ⟨some 65, _, _, _, _, _⟩) (v := ?_) rfl (by kernel_rfl) (by kernel_rfl) (by kernel_rfl) (fun _ _ _ h => h) (Or.inl ⟨by rfl, ?_⟩) (by assumption) ?_
          rotate_left 1
          · (intro w hSw; (try dsimp only at hSw); go_simp <;> with_reducible rfl)
          try simp only [Act.put, List.setIfInBounds_toArray, List.set_cons_zero, List.set_cons_succ]
          refine wpAnyH_take (i := 12) (oi := ⟨some 66, _, _, _, _, _⟩) (v := ?_) rfl (by kernel_rfl) (by kernel_rfl) (by kernel_rfl) (fun _ _ _ h => h) (Or.inl ⟨by rfl, ?_⟩) (by assumption) ?_
          rotate_left 1
          · (intro w hSw; (try dsimp only at hSw); go_simp <;> with_reducible rfl)
          try simp only [Act.put, List.setIfInBounds_toArray, List.set_cons_zero, List.set_cons_succ]
          refine wpAnyH_take (i := 13) (oi := ⟨some 67, _, _, _, _, _⟩) (v := ?_) rfl (by kernel_rfl) (by kernel_rfl) (by kernel_rfl) (fun _ _ _ h => h) (Or.inl ⟨by rfl, ?_⟩) (by assumption) ?_
          rotate_left 1
          · (intro w hSw; (try dsimp only at hSw); go_simp <;> with_reducible rfl)
          try simp only [Act.put, List.setIfInBounds_toArray, List.set_cons_zero, List.set_cons_succ]
          refine wpAnyH_take (i := 15) (oi := ⟨some 69, _, _, _, _, _⟩) (v := ?_) rfl (by kernel_rfl) (by kernel_rfl) (by kernel_rfl) (fun _ _ _ h => h) (Or.inl ⟨by rfl, ?_⟩) (by assumption) ?_
          rotate_left 1
          · (intro w hSw; (try dsimp only at hSw); go_simp <;> with_reducible rfl)
          try simp only [Act.put, List.setIfInBounds_toArray, List.set_cons_zero, List.set_cons_succ]
          refine wpAnyH_ready (rs := [14]) (by kernel_rfl) (by simp) ?_
          refine AllReadyH.cons (o := ⟨some 68, _, _, _, _, _⟩) rfl (fun K hK => ?_) AllReadyH.nil
          rw [if_pos (by rfl)]
          go_simp
          (first | (with_reducible refine (CC.out _).mono ?_) | (with_reducible refine (CC.out _).mono ?_))
          rintro e wn ⟨rfl, kn⟩
          (first | (with_reducible have KX := Lib.hid (KX.out.trans kn)) | (with_reducible have KX := Lib.hid (KX.out.drew.trans kn)))
          obtain ⟨s0, s1, s2, s3, s4, s5, s6, s7, s8, s9, s10, s11⟩ := SK.out _ KX.out
          go_simp
          refine hK.out _ _ ?_ (fun hHeld => ?_)
          · exact ⟨s0, s1, s2, s3, s4, s5, s6, s7, s8, s9, s10, s11⟩
          clear hK K
          try simp only [Act.put, List.setIfInBounds_toArray, List.set_cons_zero, List.set_cons_succ]
          refine wpAnyH_ready (rs := [16]) (by kernel_rfl) (by simp) ?_
          refine AllReadyH.cons (o := ⟨some 70, _, _, _, _, _⟩) rfl (fun K hK => ?_) AllReadyH.nil
          rw [if_pos (by rfl)]
          go_simp
          (first | (with_reducible refine (CD.out _ KX.out).mono ?_) | (with_reducible refine (CD.out _ KX.out.drew).mono ?_))
          rintro e wn ⟨rfl, kn⟩
          (first | (with_reducible have KX := Lib.hid (KX.out.trans kn)) | (with_reducible have KX := Lib.hid (KX.out.drew.trans kn)))
          obtain ⟨s0, s1, s2, s3, s4, s5, s6, s7, s8, s9, s10, s11⟩ := SK.out _ KX.out
          go_simp
          refine hK.out _ _ ?_ (fun hHeld => ?_)
          · exact ⟨s0, s1, s2, s3, s4, s5, s6, s7, s8, s9, s10, s11⟩
          clear hK K
          try simp only [Act.put, List.setIfInBounds_toArray, List.set_cons_zero, List.set_cons_succ]
          refine wpAnyH_take (i := 17) (oi := ⟨some 71, _, _, _, _, _⟩) (v := ?_) rfl (by kernel_rfl) (by kernel_rfl) (by kernel_rfl) (fun _ _ _ h => h) (Or.inl ⟨by rfl, ?_⟩) (by assumption) ?_
          rotate_left 1
          · (intro w hSw; (try dsimp only at hSw); go_simp <;> with_reducible rfl)
          try simp only [Act.put, List.setIfInBounds_toArray, List.set_cons_zero, List.set_cons_succ]
          refine wpAnyH_take (i := 18) (oi := ⟨some 72, _, _, _, _, _⟩) (v := ?_) rfl (by kernel_rfl) (by kernel_rfl) (by kernel_rfl) (fun _ _ _ h => h) (Or.inl ⟨by rfl, ?_⟩) (by assumption) ?_
          rotate_left 1
          · (intro w hSw; (try dsimp only at hSw); go_simp <;> with_reducible rfl)
          try simp only [Act.put, List.setIfInBounds_toArray, List.set_cons_zero, List.set_cons_succ]
          refine wpAnyH_take (i := 19) (oi := ⟨some 73, _, _, _, _, _⟩) (v := ?_) rfl (by kernel_rfl) (by kernel_rfl) (by kernel_rfl) (fun _ _ _ h => h) (Or.inl ⟨by rfl, ?_⟩) (by assumption) ?_
          rotate_left 1
          · (intro w hSw; (try dsimp only at hSw); go_simp <;> with_reducible rfl)
          try simp only [Act.put, List.setIfInBounds_toArray, List.set_cons_zero, List.set_cons_succ]
          refine wpAnyH_take (i := 20) (oi := ⟨some 74, _, _, _, _, _⟩) (v := ?_) rfl (by kernel_rfl) (by kernel_rfl) (by kernel_rfl) (fun _ _ _ h => h) (Or.inl ⟨by rfl, ?_⟩) (by assumption) ?_
          rotate_left 1
          · (intro w hSw; (try dsimp only at hSw); go_simp <;> with_reducible rfl)
          try simp only [Act.put, List.setIfInBounds_toArray, List.set_cons_zero, List.set_cons_succ]
          refine wpAnyH_take (i := 21) (oi := ⟨some 75, _, _, _, _, _⟩) (v := ?_) rfl (by kernel_rfl) (by kernel_rfl) (by kernel_rfl) (fun _ _ _ h => h) (Or.inl ⟨by rfl, ?_⟩) (by assumption) ?_
          rotate_left 1
          · (intro w hSw; (try dsimp only at hSw); go_simp <;> with_reducible rfl)
          try simp only [Act.put, List.setIfInBounds_toArray, List.set_cons_zero, List.set_cons_succ]
          refine wpAnyH_take (i := 22) (oi := ⟨some 76, _, _, _, _, _⟩) (v := ?_) rfl (by kernel_rfl) (by kernel_rfl) (by kernel_rfl) (fun _ _ _ h => h) (Or.inl ⟨by rfl, ?_⟩) (by assumption) ?_
          rotate_left 1
          · (intro w hSw; (try dsimp only at hSw); go_simp <;> with_reducible rfl)
          try simp only [Act.put, List.setIfInBounds_toArray, List.set_cons_zero, List.set_cons_succ]
          refine wpAnyH_take (i := 23) (oi := ⟨some 6, _, _, _, _, _⟩) (v := ?_) rfl (by kernel_rfl) (by kernel_rfl) (by kernel_rfl) (fun _ _ _ h => h) (Or.inl ⟨by rfl, ?_⟩) (by assumption) ?_
          rotate_left 1
          · (intro w hSw; (try dsimp only at hSw); go_simp <;> with_reducible rfl)
          try simp only [Act.put, List.setIfInBounds_toArray, List.set_cons_zero, List.set_cons_succ]
          refine wpAnyH_done (by kernel_rfl) ?_ _
          clear hHeld
          go_wp2_with fail
          go_ret
          exact ⟨rfl, (In.k I8.out).trans KX.out⟩
      · go_simp
        refine hK.out _ _ ?_ (fun hHeld => ?_)
        · first | exact SK.out _ ((Kept.refl W5).alloc _ _) | exact SK.out _ (((Kept.refl W5).drew).alloc _ _)
        clear hK K
        try simp only [Act.put, List.setIfInBounds_toArray, List.set_cons_zero, List.set_cons_succ]
        refine wpAnyH_ready (rs := [1]) (by kernel_rfl) (by simp) ?_
        refine AllReadyH.cons (o := ⟨some 43, _, _, _, _, _⟩) rfl (fun K hK => ?_) AllReadyH.nil
        go_simp
        (first | (with_reducible refine (CO.out _ (((Kept.refl W5).alloc _ _).drew)).mono ?_) | (with_reducible refine (CO.out _ ((Kept.refl W5).alloc _ _)).mono ?_) | (with_reducible refine (CO.out _ (((Kept.refl W5).drew).alloc _ _)).mono ?_))
        rintro e wa ⟨p4, c4, rfl, hka, nma, -⟩
        have KA := Lib.hid (show Kept W5 wa from by (first | exact (((Kept.refl W5).alloc _ _).drew).trans hka | exact ((Kept.refl W5).alloc _ _).trans hka | exact (((Kept.refl W5).drew).alloc _ _).trans hka))
        have NA := Lib.hid nma
        go_simp
        have ha4 : Blk wa W5.heap.size #[.int .i64 0, .slice none 0 0, .int .i64 0] 35 := by first | exact ((Blk.fresh W5 #[.int .i64 0, .slice none 0 0, .int .i64 0] 35).drew).kept hka | exact (Blk.fresh W5 #[.int .i64 0, .slice none 0 0, .int .i64 0] 35).kept hka
        refine hK.out _ _ ?_ (fun hHeld => ?_)
        · exact SK.out _ KA.out
        clear hK K
        try simp only [Act.put, List.setIfInBounds_toArray, List.set_cons_zero, List.set_cons_succ]
        refine wpAnyH_ready (rs := [3]) (by kernel_rfl) (by simp) ?_
        refine AllReadyH.cons (o := ⟨some 45, _, _, _, _, _⟩) rfl (fun K hK => ?_) AllReadyH.nil
        go_simp
        (first | (with_reducible refine (CF.out _ p4 c4 (NA.out) ((In.k I5.out).trans (KA.out))).mono ?_) | (with_reducible refine (CF.out _ p4 c4 (NA.out.kept (Kept.refl wa).drew) ((In.k I5.out).trans (KA.out.drew))).mono ?_))
        rintro e wb ⟨q, cq, rfl, hnb, hkb⟩
        unfold Mt.fontV
        have KB := Lib.hid (show Kept W5 wb from by (first | exact (KA.out).trans hkb | exact (KA.out.drew).trans hkb))
        go_simp
        have hb4 : Blk wb W5.heap.size #[.int .i64 0, .slice none 0 0, .int .i64 0] 35 := by exact ha4.kept hkb
        have u0 := hb4.cell 0
        have u1 := hb4.cell 1
        have u2 := hb4.cell 2
        have uf := hb4.free
        have uz := hb4.lt
        clear ha4
        refine hK.out _ _ ?_ (fun hHeld => ?_)
        · exact SK.out _ KB.out
        clear hK K
        try simp only [Act.put, List.setIfInBounds_toArray, List.set_cons_zero, List.set_cons_succ]
        refine wpAnyH_take (i := 4) (oi := ⟨some 41, _, _, _, _, _⟩) (v := ?_) rfl (by kernel_rfl) (by kernel_rfl) (by kernel_rfl) (fun _ _ _ h => h) (Or.inl ⟨by rfl, ?_⟩) (by assumption) ?_
        rotate_left 1
        · (intro w hSw; (try dsimp only at hSw); go_simp <;> with_reducible rfl)
        try simp only [Act.put, List.setIfInBounds_toArray, List.set_cons_zero, List.set_cons_succ]
        refine wpAnyH_take (i := 5) (oi := ⟨some 46, _, _, _, _, _⟩) (v := ?_) rfl (by kernel_rfl) (by kernel_rfl) (by kernel_rfl) (fun _ _ _ h => h) (Or.inl ⟨by rfl, ?_⟩) (by assumption) ?_
        rotate_left 1
        · (intro w hSw; (try dsimp only at hSw); go_simp <;> with_reducible rfl)
        try simp only [Act.put, List.setIfInBounds_toArray, List.set_cons_zero, List.set_cons_succ]
        refine wpAnyH_take (i := 6) (oi := ⟨some 47, _, _, _, _, _⟩) (v := ?_) rfl (by kernel_rfl) (by kernel_rfl) (by kernel_rfl) (fun _ _ _ h => h) (Or.inl ⟨by rfl, ?_⟩) (by assumption) ?_
        rotate_left 1
        · (intro w hSw; (try dsimp only at hSw); go_simp <;> with_reducible rfl)
        try simp only [Act.put, List.setIfInBounds_toArray, List.set_cons_zero, List.set_cons_succ]
        refine wpAnyH_ready (rs := [8]) (by kernel_rfl) (by simp) ?_
        refine AllReadyH.cons (o := ⟨none, _, _, _, _, _⟩) rfl (fun K hK => ?_) AllReadyH.nil
        go_simp
        refine hK.out _ _ ?_ (fun hHeld => ?_)
        · exact SK.out _ (((KB.out.set (Nat.le_refl _) _).set (Nat.le_refl _) _).set (Nat.le_refl _) _)
        clear hK K
        try simp only [Act.put, List.setIfInBounds_toArray, List.set_cons_zero, List.set_cons_succ]
        refine wpAnyH_take (i := 9) (oi := ⟨some 13, _, _, _, _, _⟩) (v := ?_) rfl (by kernel_rfl) (by kernel_rfl) (by kernel_rfl) (fun _ _ _ h => h) (Or.inl ⟨by rfl, ?_⟩) (by assumption) ?_
        rotate_left 1
        · (intro w hSw; (try dsimp only at hSw); go_simp <;> with_reducible rfl)
        try simp only [Act.put, List.setIfInBounds_toArray, List.set_cons_zero, List.set_cons_succ]
        refine wpAnyH_done (by kernel_rfl) ?_ _
        clear hHeld
        obtain ⟨w6, hw6⟩ : ∃ w6, w6 = (((wb.setCell ⟨W5.heap.size, 0, none⟩ (.int .i64 F.first)).setCell ⟨W5.heap.size, 1, none⟩ (.slice q F.ws.length cq)).setCell ⟨W5.heap.size, 2, none⟩ (.int .i64 F.other)) := ⟨_, rfl⟩
        have K6 := Lib.hid (show Kept W5 w6 by rw [hw6]; exact ((KB.out.set (Nat.le_refl _) _).set (Nat.le_refl _) _).set (Nat.le_refl _) _)
        have B6 := Lib.hid (show Blk w6 W5.heap.size #[.int .i64 F.first, .slice q F.ws.length cq, .int .i64 F.other] 35 by rw [hw6]; have := ((hb4.set 0 (.int .i64 F.first)).set 1 (.slice q F.ws.length cq)).set 2 (.int .i64 F.other); simpa using this)
        have N6 := Lib.hid (show NuR w6 w6.heap.size q F.ws by rw [hw6]; exact (((NuB.set (NuB.mono hnb (show W5.heap.size + 1 ≤ _ by have := hka.size; simp at this; omega)) (Nat.lt_succ_self _) _ _).set (Nat.lt_succ_self _) _ _).set (Nat.lt_succ_self _) _ _).nuR)
        obtain ⟨TB, hTB⟩ : ∃ B, B = W5.heap.size := ⟨_, rfl⟩
        rw [← hTB] at B6 hw6
        rw [← hTB, ← hw6]
        clear hTB hw6 hb4 u0 u1 u2 uf uz hnb hkb KB NA hka nma KA SK x0 x1 x2 x3 x4 x5 xz f0 f1 f2 f3 f4 f5 f6 fz CO
        have I6 := Lib.hid (I5.out.kept K6.out)
        have NA6 := Lib.hid ((N45.out.keep (Nat.le_refl _) K6.out).up (B' := w6.heap.size) K6.out.size)
        have NB6 := Lib.hid ((N5.out.keep (Nat.le_refl _) K6.out).up (B' := w6.heap.size) K6.out.size)
        have KW6 := Lib.hid (In.k I6.out)
        clear I5 N45 N5
        obtain ⟨x0, x1, x2, x3, x4, x5⟩ := (I6.out.mem (List.mem_cons_of_mem _ (List.mem_cons_of_mem _ List.mem_cons_self))).cells6
        obtain ⟨f0, f1, f2, f3, f4, f5, f6⟩ := (I6.out.mem (List.mem_cons_of_mem _ (List.mem_cons_of_mem _ (List.mem_cons_of_mem _ List.mem_cons_self)))).cells7
        go_wp2_with fail
        (with_reducible refine (CG.out _ KW6.out).mono ?_)
        rintro e w7 ⟨q7, c7, rfl, hn7, hk7⟩
        unfold Mt.fontV
        simp only []
        have k8 : Kept w6 (w7.alloc (.cells #[.int .i64 F.first, .slice q7 F.ws.length c7, .int .i64 F.other] 38)) := hk7.alloc _ _
        have I8 := Lib.hid (I6.out.kept k8)
        have T8 := Lib.hid (B6.out.kept k8)
        have D8 := Lib.hid (Blk.fresh w7 #[.int .i64 F.first, .slice q7 F.ws.length c7, .int .i64 F.other] 38)
        have NA8 := Lib.hid ((NA6.out.keep (Nat.le_refl _) k8).up (B' := (w7.alloc (.cells #[.int .i64 F.first, .slice q7 F.ws.length c7, .int .i64 F.other] 38)).heap.size) k8.size)
        have NB8 := Lib.hid ((NB6.out.keep (Nat.le_refl _) k8).up (B' := (w7.alloc (.cells #[.int .i64 F.first, .slice q7 F.ws.length c7, .int .i64 F.other] 38)).heap.size) k8.size)
        have NT8 := Lib.hid ((N6.out.keep (Nat.le_refl _) k8).up (B' := (w7.alloc (.cells #[.int .i64 F.first, .slice q7 F.ws.length c7, .int .i64 F.other] 38)).heap.size) k8.size)
        have ND8 := Lib.hid (hn7.alloc (.cells #[.int .i64 F.first, .slice q7 F.ws.length c7, .int .i64 F.other] 38)).nuR
        clear hn7 hk7 k8 I6 NA6 NB6 N6 B6 K6 KW6 x0 x1 x2 x3 x4 x5 f0 f1 f2 f3 f4 f5 f6 CG CF
        go_upto_region 8 with fail
        obtain ⟨W8, hW8⟩ : ∃ W, W = w7.alloc (.cells #[.int .i64 F.first, .slice q7 F.ws.length c7, .int .i64 F.other] 38) := ⟨_, rfl⟩
        obtain ⟨DB, hDB⟩ : ∃ B, B = w7.heap.size := ⟨_, rfl⟩
        rw [← hW8] at I8 T8 D8 NA8 NB8 NT8 ND8
        rw [← hDB] at D8
        rw [← hW8, ← hDB]
        clear hW8 hDB
        have SK := Lib.hid (show ∀ w', Kept W8 w' → w'.cell? ⟨AB, 0, none⟩ = some (.int .i64 D.first) ∧ w'.cell? ⟨AB, 1, none⟩ = some (.slice qa D.ws.length ca) ∧ w'.cell? ⟨AB, 2, none⟩ = some (.int .i64 D.other) ∧ w'.cell? ⟨BB, 0, none⟩ = some (.int .i64 D.first) ∧ w'.cell? ⟨BB, 1, none⟩ = some (.slice qb D.ws.length cb) ∧ w'.cell? ⟨BB, 2, none⟩ = some (.int .i64 D.other) ∧ w'.cell? ⟨TB, 0, none⟩ = some (.int .i64 F.first) ∧ w'.cell? ⟨TB, 1, none⟩ = some (.slice q F.ws.length cq) ∧ w'.cell? ⟨TB, 2, none⟩ = some (.int .i64 F.other) ∧ w'.cell? ⟨DB, 0, none⟩ = some (.int .i64 F.first) ∧ w'.cell? ⟨DB, 1, none⟩ = some (.slice q7 F.ws.length c7) ∧ w'.cell? ⟨DB, 2, none⟩ = some (.int .i64 F.other) from fun w' k => by
          have aa := (I8.out.mem (List.mem_cons_of_mem _ List.mem_cons_self)).kept k
          have bb := (I8.out.mem List.mem_cons_self).kept k
          have tt := T8.out.kept k
          have dd := D8.out.kept k
          exact ⟨aa.cell 0, aa.cell 1, aa.cell 2, bb.cell 0, bb.cell 1, bb.cell 2, tt.cell 0, tt.cell 1, tt.cell 2, dd.cell 0, dd.cell 1, dd.cell 2⟩)
        have CA := Lib.hid (fun W => theirs13_any D.first qa D.ws.length ca D.other W)
        have CB := Lib.hid (fun W (k : Kept W8 W) => same13_any D qa ca qb cb W ((NA8.out.keep (Nat.le_refl _) k).up k.size) ((NB8.out.keep (Nat.le_refl _) k).up k.size) DS.out)
        have CC := Lib.hid (fun W => theirs13_any F.first q F.ws.length cq F.other W)
        have CD := Lib.hid (fun W (k : Kept W8 W) => same13_any F q cq q7 c7 W ((NT8.out.keep (Nat.le_refl _) k).up k.size) ((ND8.out.keep (Nat.le_refl _) k).up k.size) XS.out)
        unfold Mt.fontV at CB CD
        have KX := Lib.hid (Kept.refl W8)
        obtain ⟨s0, s1, s2, s3, s4, s5, s6, s7, s8, s9, s10, s11⟩ := SK.out _ KX.out
        refine wp_region_held_drew (S := fun w' => w'.cell? ⟨AB, 0, none⟩ = some (.int .i64 D.first) ∧ w'.cell? ⟨AB, 1, none⟩ = some (.slice qa D.ws.length ca) ∧ w'.cell? ⟨AB, 2, none⟩ = some (.int .i64 D.other) ∧ w'.cell? ⟨BB, 0, none⟩ = some (.int .i64 D.first) ∧ w'.cell? ⟨BB, 1, none⟩ = some (.slice qb D.ws.length cb) ∧ w'.cell? ⟨BB, 2, none⟩ = some (.int .i64 D.other) ∧ w'.cell? ⟨TB, 0, none⟩ = some (.int .i64 F.first) ∧ w'.cell? ⟨TB, 1, none⟩ = some (.slice q F.ws.length cq) ∧ w'.cell? ⟨TB, 2, none⟩ = some (.int .i64 F.other) ∧ w'.cell? ⟨DB, 0, none⟩ = some (.int .i64 F.first) ∧ w'.cell? ⟨DB, 1, none⟩ = some (.slice q7 F.ws.length c7) ∧ w'.cell? ⟨DB, 2, none⟩ = some (.int .i64 F.other)) (by kernel_rfl) ?_ (fun hHeld => ?_)
        · exact ⟨s0, s1, s2, s3, s4, s5, s6, s7, s8, s9, s10, s11⟩
        refine wpAnyH_take (i := 0) (oi := ⟨some 54, _, _, _, _, _⟩) (v := ?_) rfl (by kernel_rfl) (by kernel_rfl) (by kernel_rfl) (fun _ _ _ h => h) (Or.inl ⟨by rfl, ?_⟩) (by assumption) ?_
        rotate_left 1
        · (intro w hSw; (try dsimp only at hSw); go_simp <;> with_reducible rfl)
        try simp only [Act.put, List.setIfInBounds_toArray, List.set_cons_zero, List.set_cons_succ]
        refine wpAnyH_take (i := 1) (oi := ⟨some 55, _, _, _, _, _⟩) (v := ?_) rfl (by kernel_rfl) (by kernel_rfl) (by kernel_rfl) (fun _ _ _ h => h) (Or.inl ⟨by rfl, ?_⟩) (by assumption) ?_
        rotate_left 1
        · (intro w hSw; (try dsimp only at hSw); go_simp <;> with_reducible rfl)
        try simp only [Act.put, List.setIfInBounds_toArray, List.set_cons_zero, List.set_cons_succ]
        refine wpAnyH_take (i := 2) (oi := ⟨some 56, _, _, _, _, _⟩) (v := ?_) rfl (by kernel_rfl) (by kernel_rfl) (by kernel_rfl) (fun _ _ _ h => h) (Or.inl ⟨by rfl, ?_⟩) (by assumption) ?_
        rotate_left 1
        · (intro w hSw; (try dsimp only at hSw); go_simp <;> with_reducible rfl)
        try simp only [Act.put, List.setIfInBounds_toArray, List.set_cons_zero, List.set_cons_succ]
        refine wpAnyH_take (i := 4) (oi := ⟨some 58, _, _, _, _, _⟩) (v := ?_) rfl (by kernel_rfl) (by kernel_rfl) (by kernel_rfl) (fun _ _ _ h => h) (Or.inl ⟨by rfl, ?_⟩) (by assumption) ?_
        rotate_left 1
        · (intro w hSw; (try dsimp only at hSw); go_simp <;> with_reducible rfl)
        try simp only [Act.put, List.setIfInBounds_toArray, List.set_cons_zero, List.set_cons_succ]
        refine wpAnyH_ready (rs := [3]) (by kernel_rfl) (by simp) ?_
        refine AllReadyH.cons (o := ⟨some 57, _, _, _, _, _⟩) rfl (fun K hK => ?_) AllReadyH.nil
        rw [if_pos (by rfl)]
        go_simp
        (first | (with_reducible refine (CA.out _).mono ?_) | (with_reducible refine (CA.out _).mono ?_))
        rintro e wn ⟨rfl, kn⟩
        (first | (with_reducible have KX := Lib.hid (KX.out.trans kn)) | (with_reducible have KX := Lib.hid (KX.out.drew.trans kn)))
        obtain ⟨s0, s1, s2, s3, s4, s5, s6, s7, s8, s9, s10, s11⟩ := SK.out _ KX.out
        go_simp
        refine hK.out _ _ ?_ (fun hHeld => ?_)
        · exact ⟨s0, s1, s2, s3, s4, s5, s6, s7, s8, s9, s10, s11⟩
        clear hK K
        try simp only [Act.put, List.setIfInBounds_toArray, List.set_cons_zero, List.set_cons_succ]
        refine wpAnyH_ready (rs := [5]) (by kernel_rfl) (by simp) ?_
        refine AllReadyH.cons (o := ⟨some 59, _, _, _, _, _⟩) rfl (fun K hK => ?_) AllReadyH.nil
        rw [if_pos (by rfl)]
        go_simp
        (first | (with_reducible refine (CB.out _ KX.out).mono ?_) | (with_reducible refine (CB.out _ KX.out.drew).mono ?_))
        rintro e wn ⟨rfl, kn⟩
        (first | (with_reducible have KX := Lib.hid (KX.out.trans kn)) | (with_reducible have KX := Lib.hid (KX.out.drew.trans kn)))
        obtain ⟨s0, s1, s2, s3, s4, s5, s6, s7, s8, s9, s10, s11⟩ := SK.out _ KX.out
        go_simp
        refine hK.out _ _ ?_ (fun hHeld => ?_)
        · exact ⟨s0, s1, s2, s3, s4, s5, s6, s7, s8, s9, s10, s11⟩
        clear hK K
        try simp only [Act.put, List.setIfInBounds_toArray, List.set_cons_zero, List.set_cons_succ]
        refine wpAnyH_take (i := 6) (oi := ⟨some 60, _, _, _, _, _⟩) (v := ?_) rfl (by kernel_rfl) (by kernel_rfl) (by kernel_rfl) (fun _ _ _ h => h) (Or.inl ⟨by rfl, ?_⟩) (by assumption) ?_
        rotate_left 1
        · (intro w hSw; (try dsimp only at hSw); go_simp <;> with_reducible rfl)
        try simp only [Act.put, List.setIfInBounds_toArray, List.set_cons_zero, List.set_cons_succ]
        refine wpAnyH_take (i := 7) (oi := ⟨some 61, _, _, _, _, _⟩) (v := ?_) rfl (by kernel_rfl) (by kernel_rfl) (by kernel_rfl) (fun _ _ _ h => h) (Or.inl ⟨by rfl, ?_⟩) (by assumption) ?_
        rotate_left 1
        · (intro w hSw; (try dsimp only at hSw); go_simp <;> with_reducible rfl)
        try simp only [Act.put, List.setIfInBounds_toArray, List.set_cons_zero, List.set_cons_succ]
        refine wpAnyH_take (i := 8) (oi := ⟨some 62, _, _, _, _, _⟩) (v := ?_) rfl (by kernel_rfl) (by kernel_rfl) (by kernel_rfl) (fun _ _ _ h => h) (Or.inl ⟨by rfl, ?_⟩) (by assumption) ?_
        rotate_left 1
        · (intro w hSw; (try dsimp only at hSw); go_simp <;> with_reducible rfl)
        try simp only [Act.put, List.setIfInBounds_toArray, List.set_cons_zero, List.set_cons_succ]
        refine wpAnyH_take (i := 9) (oi := ⟨some 63, _, _, _, _, _⟩) (v := ?_) rfl (by kernel_rfl) (by kernel_rfl) (by kernel_rfl) (fun _ _ _ h => h) (Or.inl ⟨by rfl, ?_⟩) (by assumption) ?_
        rotate_left 1
        · (intro w hSw; (try dsimp only at hSw); go_simp <;> with_reducible rfl)
        try simp only [Act.put, List.setIfInBounds_toArray, List.set_cons_zero, List.set_cons_succ]
        refine wpAnyH_take (i := 10) (oi := ⟨some 64, _, _, _, _, _⟩) (v := ?_) rfl (by kernel_rfl) (by kernel_rfl) (by kernel_rfl) (fun _ _ _ h => h) (Or.inl ⟨by rfl, ?_⟩) (by assumption) ?_
        rotate_left 1
        · (intro w hSw; (try dsimp only at hSw); go_simp <;> with_reducible rfl)
        try simp only [Act.put, List.setIfInBounds_toArray, List.set_cons_zero, List.set_cons_succ]
        refine wpAnyH_take (i := 11) (oi := ⟨some 65, _, _, _, _, _⟩) (v := ?_) rfl (by kernel_rfl) (by kernel_rfl) (by kernel_rfl) (fun _ _ _ h => h) (Or.inl ⟨by rfl, ?_⟩) (by assumption) ?_
        rotate_left 1
        · (intro w hSw; (try dsimp only at hSw); go_simp <;> with_reducible rfl)
        try simp only [Act.put, List.setIfInBounds_toArray, List.set_cons_zero, List.set_cons_succ]
        refine wpAnyH_take (i := 12) (oi := ⟨some 66, _, _, _, _, _⟩) (v := ?_) rfl (by kernel_rfl) (by kernel_rfl) (by kernel_rfl) (fun _ _ _ h => h) (Or.inl ⟨by rfl, ?_⟩) (by assumption) ?_
        rotate_left 1
        · (intro w hSw; (try dsimp only at hSw); go_simp <;> with_reducible rfl)
        try simp only [Act.put, List.setIfInBounds_toArray, List.set_cons_zero, List.set_cons_succ]
        refine wpAnyH_take (i := 13) (oi := ⟨some 67, _, _, _, _, _⟩) (v := ?_) rfl (by kernel_rfl) (by kernel_rfl) (by kernel_rfl) (fun _ _ _ h => h) (Or.inl ⟨by rfl, ?_⟩) (by assumption) ?_
        rotate_left 1
        · (intro w hSw; (try dsimp only at hSw); go_simp <;> with_reducible rfl)
        try simp only [Act.put, List.setIfInBounds_toArray, List.set_cons_zero, List.set_cons_succ]
        refine wpAnyH_take (i := 15) (oi := ⟨some 69, _, _, _, _, _⟩) (v := ?_) rfl (by kernel_rfl) (by kernel_rfl) (by kernel_rfl) (fun _ _ _ h => h) (Or.inl ⟨by rfl, ?_⟩) (by assumption) ?_
        rotate_left 1
        · (intro w hSw; (try dsimp only at hSw); go_simp <;> with_reducible rfl)
        try simp only [Act.put, List.setIfInBounds_toArray, List.set_cons_zero, List.set_cons_succ]
        refine wpAnyH_ready (rs := [14]) (by kernel_rfl) (by simp) ?_
        refine AllReadyH.cons (o := ⟨some 68, _, _, _, _, _⟩) rfl (fun K hK => ?_) AllReadyH.nil
        rw [if_pos (by rfl)]
        go_simp
        (first | (with_reducible refine (CC.out _).mono ?_) | (with_reducible refine (CC.out _).mono ?_))
        rintro e wn ⟨rfl, kn⟩
        (first | (with_reducible have KX := Lib.hid (KX.out.trans kn)) | (with_reducible have KX := Lib.hid (KX.out.drew.trans kn)))
        obtain ⟨s0, s1, s2, s3, s4, s5, s6, s7, s8, s9, s10, s11⟩ := SK.out _ KX.out
        go_simp
        refine hK.out _ _ ?_ (fun hHeld => ?_)
        · exact ⟨s0, s1, s2, s3, s4, s5, s6, s7, s8, s9, s10, s11⟩
        clear hK K
        try simp only [Act.put, List.setIfInBounds_toArray, List.set_cons_zero, List.set_cons_succ]
        refine wpAnyH_ready (rs := [16]) (by kernel_rfl) (by simp) ?_
        refine AllReadyH.cons (o := ⟨some 70, _, _, _, _, _⟩) rfl (fun K hK => ?_) AllReadyH.nil
        rw [if_pos (by rfl)]
        go_simp
        (first | (with_reducible refine (CD.out _ KX.out).mono ?_) | (with_reducible refine (CD.out _ KX.out.drew).mono ?_))
        rintro e wn ⟨rfl, kn⟩
        (first | (with_reducible have KX := Lib.hid (KX.out.trans kn)) | (with_reducible have KX := Lib.hid (KX.out.drew.trans kn)))
        obtain ⟨s0, s1, s2, s3, s4, s5, s6, s7, s8, s9, s10, s11⟩ := SK.out _ KX.out
        go_simp
        refine hK.out _ _ ?_ (fun hHeld => ?_)
        · exact ⟨s0, s1, s2, s3, s4, s5, s6, s7, s8, s9, s10, s11⟩
        clear hK K
        try simp only [Act.put, List.setIfInBounds_toArray, List.set_cons_zero, List.set_cons_succ]
        refine wpAnyH_take (i := 17) (oi := ⟨some 71, _, _, _, _, _⟩) (v := ?_) rfl (by kernel_rfl) (by kernel_rfl) (by kernel_rfl) (fun _ _ _ h => h) (Or.inl ⟨by rfl, ?_⟩) (by assumption) ?_
        rotate_left 1
        · (intro w hSw; (try dsimp only at hSw); go_simp <;> with_reducible rfl)
        try simp only [Act.put, List.setIfInBounds_toArray, List.set_cons_zero, List.set_cons_succ]
        refine wpAnyH_take (i := 18) (oi := ⟨some 72, _, _, _, _, _⟩) (v := ?_) rfl (by kernel_rfl) (by kernel_rfl) (by kernel_rfl) (fun _ _ _ h => h) (Or.inl ⟨by rfl, ?_⟩) (by assumption) ?_
        rotate_left 1
        · (intro w hSw; (try dsimp only at hSw); go_simp <;> with_reducible rfl)
        try simp only [Act.put, List.setIfInBounds_toArray, List.set_cons_zero, List.set_cons_succ]
        refine wpAnyH_take (i := 19) (oi := ⟨some 73, _, _, _, _, _⟩) (v := ?_) rfl (by kernel_rfl) (by kernel_rfl) (by kernel_rfl) (fun _ _ _ h => h) (Or.inl ⟨by rfl, ?_⟩) (by assumption) ?_
        rotate_left 1
        · (intro w hSw; (try dsimp only at hSw); go_simp <;> with_reducible rfl)
        try simp only [Act.put, List.setIfInBounds_toArray, List.set_cons_zero, List.set_cons_succ]
        refine wpAnyH_take (i := 20) (oi := ⟨some 74, _, _, _, _, _⟩) (v := ?_) rfl (by kernel_rfl) (by kernel_rfl) (by kernel_rfl) (fun _ _ _ h => h) (Or.inl ⟨by rfl, ?_⟩) (by assumption) ?_
        rotate_left 1
        · (intro w hSw; (try dsimp only at hSw); go_simp <;> with_reducible rfl)
        try simp only [Act.put, List.setIfInBounds_toArray, List.set_cons_zero, List.set_cons_succ]
        refine wpAnyH_take (i := 21) (oi := ⟨some 75, _, _, _, _, _⟩) (v := ?_) rfl (by kernel_rfl) (by kernel_rfl) (by kernel_rfl) (fun _ _ _ h => h) (Or.inl ⟨by rfl, ?_⟩) (by assumption) ?_
        rotate_left 1
        · (intro w hSw; (try dsimp only at hSw); go_simp <;> with_reducible rfl)
        try simp only [Act.put, List.setIfInBounds_toArray, List.set_cons_zero, List.set_cons_succ]
        refine wpAnyH_take (i := 22) (oi := ⟨some 76, _, _, _, _, _⟩) (v := ?_) rfl (by kernel_rfl) (by kernel_rfl) (by kernel_rfl) (fun _ _ _ h => h) (Or.inl ⟨by rfl, ?_⟩) (by assumption) ?_
        rotate_left 1
        · (intro w hSw; (try dsimp only at hSw); go_simp <;> with_reducible rfl)
        try simp only [Act.put, List.setIfInBounds_toArray, List.set_cons_zero, List.set_cons_succ]
        refine wpAnyH_take (i := 23) (oi := ⟨some 6, _, _, _, _, _⟩) (v := ?_) rfl (by kernel_rfl) (by kernel_rfl) (by kernel_rfl) (fun _ _ _ h => h) (Or.inl ⟨by rfl, ?_⟩) (by assumption) ?_
        rotate_left 1
        · (intro w hSw; (try dsimp only at hSw); go_simp <;> with_reducible rfl)
        try simp only [Act.put, List.setIfInBounds_toArray, List.set_cons_zero, List.set_cons_succ]
        refine wpAnyH_done (by kernel_rfl) ?_ _
        clear hHeld
        go_wp2_with fail
        go_ret
        exact ⟨rfl, (In.k I8.out).trans KX.out⟩
end Go.Proofs.Ytakbhdhlcnpejaa
