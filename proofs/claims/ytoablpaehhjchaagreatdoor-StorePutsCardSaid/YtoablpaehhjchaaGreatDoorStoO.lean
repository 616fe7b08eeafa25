import Derived.Test.YtoablpaehhjchaaGreatDoorStoT
import Derived.Test.YtoablpaehhjchaaGreatDoorStoR
import Derived.Test.YtoablpaehhjchaaGreatDoorCosJ
namespace Go.Proofs.YtoablpaehhjchaaGreatDoor
open Go.RowKit Cx Sx Rx
set_option linter.unusedSimpArgs false
set_option linter.unusedVariables false

abbrev nulN : Nm := ⟨0, 0, nul⟩

set_option maxRecDepth 100000 in
set_option maxHeartbeats 4000000 in
theorem objectOf_any (s : ByteArray) (t : Xent) (w : World) (hs : s.size ≤ 65536) (hm : HasMax w) (X : Int × Nm) (hX : X = objV1 s.data.toList t) :
    Calls Tryz.prog 92 #[.string s, .agg #[.int .i64 t.n, .int .i64 t.off, .int .i64 t.gen, .bool t.used]] w fun en w' => ∃ h', en = .returned (.tuple #[nmV X.2 h', .int .i64 X.1]) ∧ Kept w w' ∧ Lies (Cel (fun b => w.heap.size ≤ b) w') X.2.o h' := by
  have hlen : s.data.toList.length = s.size := by simp
  have HM := Lib.hid hm
  have hX1 := hX
  rw [objV1, hlen] at hX1
  obtain ⟨Y, hY⟩ : ∃ Y, Y = indV s.data.toList t.off := ⟨_, rfl⟩
  rw [← hY] at hX1
  have HX := Lib.hid hX1
  have CI := Lib.hid (fun W (k : Kept w W) => cosIndirect_any s t.off W (by omega) (hm.kept k) Y hY)
  have B1 := Lib.hid ((Blk.fresh w #[.int .i64 t.n, .int .i64 t.off, .int .i64 t.gen, .bool t.used] 65).alloc (.cells nul8 53))
  have R1 := Lib.hid (Blk.fresh' (b := w.heap.size + 1) (w := w.alloc (.cells #[.int .i64 t.n, .int .i64 t.off, .int .i64 t.gen, .bool t.used] 65)) nul8 53 (by simp))
  have K1 := Lib.hid (((Kept.refl w).alloc #[.int .i64 t.n, .int .i64 t.off, .int .i64 t.gen, .bool t.used] 65).alloc nul8 53)
  clear hX hX1 hY hlen hm
  obtain ⟨tn, to_, tg, tu⟩ := t
  obtain ⟨e0, e1, e2, e3⟩ := B1.out.cells4
  have ez := B1.out.lt
  obtain ⟨r0, r1, r2, r3, r4, r5, r6, r7⟩ := R1.out.cells8
  have rf := R1.out.free
  have rz := R1.out.lt
  simp only [] at HX e0 e1 e2 e3 CI B1 R1 K1 ez r0 r1 r2 r3 r4 r5 r6 r7 rf rz
  go_enter Tryz.func92, Tryz.ntmps92
  by_cases hlt : (s.size : Int) < to_
  · have HV := Lib.hid (show X = (2, nulN) by rw [HX.out, if_pos hlt])
    clear HX
    go_wp2_with fail
    refine bodyPost_ret (v := .tuple #[.agg nul8, .int .i64 2]) ?_ rfl ⟨Hd.none, by rw [HV.out]; rfl, ?_, by rw [HV.out]; exact Lies.flat _ _ _ _ _ _ (Nat.zero_le _)⟩
    · simp [results, Tryz.results92, go_sem, r0, r1, r2, r3, r4, r5, r6, r7, rz]
    · repeat (with_reducible first | exact K1.out | refine Kept.drew ?_ | refine Kept.alloc ?_ _ _ | refine Kept.set ?_ (by omega) _)
  · have HX2 := Lib.hid (show X = if Y.1 = 0 then (if Y.2.1 = tn ∧ Y.2.2.1 = tg then (0, ⟨Y.2.1, Y.2.2.1, Y.2.2.2.1⟩) else (3, nulN)) else (Y.1, nulN) by rw [HX.out, if_neg hlt])
    have CI1 := Lib.hid (CI.out _ K1.out)
    obtain ⟨ye, yn, yg, yo, yend⟩ := Y
    simp only [] at CI1 HX2
    clear HX CI
    go_wp2_with fail
    (with_reducible refine CI1.out.mono ?_)
    rintro e w2 ⟨⟨op, oc, oq, oe⟩, rfl, hk2, hl2⟩
    have K2 := Lib.hid (K1.out.trans hk2)
    have B2 := Lib.hid (B1.out.kept hk2)
    have R2 := Lib.hid (R1.out.kept hk2)
    have L2 := Lib.hid (show Lies (Cel (fun b => w.heap.size + 2 ≤ b) w2) yo ⟨op, oc, oq, oe⟩ from hl2.weak (fun b hb => by simpa using hb))
    have S2 := Lib.hid (show w.heap.size + 2 ≤ w2.heap.size from by have := hk2.size; simpa using this)
    clear hk2 hl2 e0 e1 e2 e3 ez r0 r1 r2 r3 r4 r5 r6 r7 rf rz CI1
    obtain ⟨e0, e1, e2, e3⟩ := B2.out.cells4
    have ez := B2.out.lt
    obtain ⟨r0, r1, r2, r3, r4, r5, r6, r7⟩ := R2.out.cells8
    have rf := R2.out.free
    have rz := R2.out.lt
    unfold objV
    simp only []
    by_cases hye : ye = 0
    · subst hye
      have HX3 := Lib.hid (show X = if yn = tn ∧ yg = tg then (0, ⟨yn, yg, yo⟩) else (3, nulN) by first | rw [HX2.out, if_pos rfl] | rw [HX2.out, if_pos trivial])
      clear HX2
      by_cases h1 : yn = tn
      · have h1b : (yn != tn) = false := by simp [h1]
        by_cases h2 : yg = tg
        · have h2b : (yg != tg) = false := by simp [h2]
          have HV := Lib.hid (show X = (0, ⟨yn, yg, yo⟩) by rw [HX3.out, if_pos ⟨h1, h2⟩])
          clear HX3 h1 h2
          go_wp2_with fail
          refine bodyPost_ret (v := .tuple #[.agg #[.int .i64 yn, .int .i64 yg, .int .i64 yo.k, .int .i64 yo.n, .int .i64 yo.f, .string yo.s, .slice op yo.l.length oc, .slice oq yo.d.length oe], .int .i64 0]) ?_ rfl ⟨⟨op, oc, oq, oe⟩, by rw [HV.out]; rfl, ?_, ?_⟩
          · simp [results, Tryz.results92, go_sem, r0, r1, r2, r3, r4, r5, r6, r7, rz]
          · repeat (with_reducible first | exact K2.out | refine Kept.drew ?_ | refine Kept.alloc ?_ _ _ | refine Kept.set ?_ (by omega) _)
          · rw [HV.out]
            refine Lies.weak (P := fun b => w.heap.size + 2 ≤ b) ?_ (fun b hb => by omega)
            repeat (with_reducible first | exact L2.out | refine Lies.drew ?_ | refine Lies.alloc ?_ _ | refine Lies.set ?_ (fun b hb => by omega) _)
        · have h2b : (yg != tg) = true := by simpa using h2
          have HV := Lib.hid (show X = (3, nulN) by rw [HX3.out, if_neg (fun h => h2 h.2)])
          clear HX3 h1 h2
          go_wp2_with fail
          refine bodyPost_ret (v := .tuple #[.agg nul8, .int .i64 3]) ?_ rfl ⟨Hd.none, by rw [HV.out]; rfl, ?_, by rw [HV.out]; exact Lies.flat _ _ _ _ _ _ (Nat.zero_le _)⟩
          · simp [results, Tryz.results92, go_sem, r0, r1, r2, r3, r4, r5, r6, r7, rz]
          · repeat (with_reducible first | exact K2.out | refine Kept.drew ?_ | refine Kept.alloc ?_ _ _ | refine Kept.set ?_ (by omega) _)
      · have h1b : (yn != tn) = true := by simpa using h1
        have HV := Lib.hid (show X = (3, nulN) by rw [HX3.out, if_neg (fun h => h1 h.1)])
        clear HX3 h1
        go_wp2_with fail
        refine bodyPost_ret (v := .tuple #[.agg nul8, .int .i64 3]) ?_ rfl ⟨Hd.none, by rw [HV.out]; rfl, ?_, by rw [HV.out]; exact Lies.flat _ _ _ _ _ _ (Nat.zero_le _)⟩
        · simp [results, Tryz.results92, go_sem, r0, r1, r2, r3, r4, r5, r6, r7, rz]
        · repeat (with_reducible first | exact K2.out | refine Kept.drew ?_ | refine Kept.alloc ?_ _ _ | refine Kept.set ?_ (by omega) _)
    · have hne : (ye != 0) = true := by simpa using hye
      have HV := Lib.hid (show X = (ye, nulN) by rw [HX2.out, if_neg hye])
      clear HX2 hye
      go_wp2_with fail
      refine bodyPost_ret (v := .tuple #[.agg nul8, .int .i64 ye]) ?_ rfl ⟨Hd.none, by rw [HV.out]; rfl, ?_, by rw [HV.out]; exact Lies.flat _ _ _ _ _ _ (Nat.zero_le _)⟩
      · simp [results, Tryz.results92, go_sem, r0, r1, r2, r3, r4, r5, r6, r7, rz]
      · repeat (with_reducible first | exact K2.out | refine Kept.drew ?_ | refine Kept.alloc ?_ _ _ | refine Kept.set ?_ (by omega) _)

end Go.Proofs.YtoablpaehhjchaaGreatDoor

namespace Go.Proofs.YtoablpaehhjchaaGreatDoor
open Go.RowKit Cx Sx Rx
set_option linter.unusedSimpArgs false
set_option linter.unusedVariables false

def ObjsPost (w : World) (X : Int × List Nm) (n : Nat) (e : Ending) (w' : World) : Prop :=
  Kept w w' ∧ ((X.1 ≠ 0 ∧ e = .returned (.tuple #[.slice none 0 0, .int .i64 X.1])) ∨
   (X.1 = 0 ∧ ∃ (acc : List (Nm × Hd)) (p : Option Addr) (cap : Nat), e = .returned (.tuple #[.slice p acc.length cap, .int .i64 0]) ∧ acc.map (·.1) = X.2 ∧ acc.length ≤ n ∧ OwnK KN w.heap.size w' (.slice p acc.length cap) acc))
theorem objs_bad {w w' : World} {X : Int × List Nm} {n : Nat} (k : Kept w w') (er : Int) (hX : X = (er, [])) (he : er ≠ 0) : ObjsPost w X n (.returned (.tuple #[.slice none 0 0, .int .i64 er])) w' := ⟨k, .inl (by subst hX; exact ⟨he, rfl⟩)⟩
theorem objs_good {w w' : World} {X : Int × List Nm} {n : Nat} (k : Kept w w') (acc : List (Nm × Hd)) (p : Option Addr) (cap : Nat) (hX : X = (0, acc.map (·.1))) (hn : acc.length ≤ n) (own : OwnK KN w.heap.size w' (.slice p acc.length cap) acc) : ObjsPost w X n (.returned (.tuple #[.slice p acc.length cap, .int .i64 0])) w' :=
  ⟨k, .inr (by subst hX; exact ⟨rfl, acc, p, cap, rfl, rfl, hn, own⟩)⟩

set_option maxRecDepth 100000 in
set_option maxHeartbeats 4000000 in
theorem objects_any (s : ByteArray) (l : List Xent) (p : Option Addr) (c : Nat) (w : World) (hs : s.size ≤ 65536) (hm : HasMax w) (hl : EntR w w.heap.size p l) (hll : l.length ≤ 1048576) (X : Int × List Nm) (hX : X = objsG s.data.toList l []) :
    Calls Tryz.prog 60 #[.string s, .slice p l.length c] w (ObjsPost w X l.length) := by
  have HM := Lib.hid hm
  have HT := Lib.hid hl
  have HX := Lib.hid hX
  clear hm hl hX
  go_enter Tryz.func60, Tryz.ntmps60
  go_wp2_with fail
  go_loopg [6, 13] (l.length) (fun m v i wr => ∃ (j : Nat) (acc : List (Nm × Hd)) (q : Option Addr) (cap : Nat), m = l.length - j ∧ j ≤ l.length ∧ v = .slice q acc.length cap ∧ i = .int .i64 j ∧ acc.length ≤ j ∧ Hid (objsG s.data.toList (l.drop j) (acc.map (·.1)) = X) ∧ Kept w wr ∧ OwnK KN w.heap.size wr (.slice q acc.length cap) acc)
  case atStart => exact ⟨0, [], none, 0, by omega, Nat.zero_le _, rfl, rfl, Nat.le_refl _, Lib.hid HX.out.symm, Kept.refl w, OwnK.nil _ _ _⟩
  case round =>
    obtain ⟨j, acc, q, cap, hm1, hj, rfl, rfl, hacc, HU, hk, hown⟩ := hrel
    have KR0 := Lib.hid hk
    have OK := Lib.hid hown
    clear hk hown
    by_cases hlt : j < l.length
    · obtain ⟨kb, o, hp, hkb, c0, c1, c2, c3⟩ := (HT.out.keep (Nat.le_refl _) KR0.out) j hlt
      subst hp
      have hdrop : l.drop j = l[j] :: l.drop (j + 1) := List.drop_eq_getElem_cons hlt
      obtain ⟨t, ht⟩ : ∃ t, l[j] = t := ⟨_, rfl⟩
      rw [ht] at c0 c1 c2 c3 hdrop
      have HU1 := Lib.hid (show X = if t.used then (if (objV1 s.data.toList t).1 = 0 then objsG s.data.toList (l.drop (j + 1)) (acc.map (·.1) ++ [(objV1 s.data.toList t).2]) else ((objV1 s.data.toList t).1, [])) else objsG s.data.toList (l.drop (j + 1)) (acc.map (·.1)) by
        rw [← HU.out, hdrop, objsG])
      clear ht hdrop HU
      obtain ⟨X1, hX1⟩ : ∃ X1, X1 = objV1 s.data.toList t := ⟨_, rfl⟩
      rw [← hX1] at HU1
      have CO := Lib.hid (fun W (k : Kept w W) => objectOf_any s t W hs (HM.out.kept k) X1 hX1)
      clear hX1
      obtain ⟨tn, to_, tg, tu⟩ := t
      simp only [] at c0 c1 c2 c3 CO HU1
      have K1 := Lib.hid (KR0.out.alloc #[.int .i64 tn, .int .i64 to_, .int .i64 tg, .bool tu] 65)
      have O1 := Lib.hid (OK.out.kept ((Kept.refl _).alloc #[.int .i64 tn, .int .i64 to_, .int .i64 tg, .bool tu] 65))
      have CO1 := Lib.hid (CO.out _ K1.out)
      cases tu with
      | false =>
        have HV := Lib.hid (show objsG s.data.toList (l.drop (j + 1)) (acc.map (·.1)) = X by rw [HU1.out]; rfl)
        clear HU1 CO CO1
        go_wp2_with fail
        go_roundg (l.length - (j + 1))
        case measure => omega
        case rel => exact ⟨j + 1, acc, q, cap, rfl, by omega, rfl, by go_num, by omega, HV, K1.out, O1.out⟩
      | true =>
        have HU2 := Lib.hid (show X = if X1.1 = 0 then objsG s.data.toList (l.drop (j + 1)) (acc.map (·.1) ++ [X1.2]) else (X1.1, []) by rw [HU1.out]; rfl)
        have S1 := Lib.hid (Below.size K1.out)
        have MB := Lib.hid (fun b (hb : Value.ownBlock (.slice q acc.length cap) = some b) => (O1.out.own.lt b hb).2)
        clear HU1 CO
        obtain ⟨xe, xn, xg, xo⟩ := X1
        unfold nmV at CO1
        simp only [] at CO1 HU2
        by_cases hxe : xe = 0
        · subst hxe
          have HV := Lib.hid (show objsG s.data.toList (l.drop (j + 1)) (acc.map (·.1) ++ [⟨xn, xg, xo⟩]) = X by first | rw [HU2.out, if_pos rfl] | rw [HU2.out, if_pos trivial])
          clear HU2
          go_wp2_with fail
          (with_reducible refine CO1.out.mono ?_)
          rintro e w4 ⟨h, rfl, hk4, hl4⟩
          have K4 := Lib.hid (K1.out.trans hk4)
          have O4 := Lib.hid (O1.out.kept hk4)
          have L4 := Lib.hid hl4
          clear hk4 hl4
          have O7 := Lib.hid (O4.out.kept ((Kept.refl w4).alloc #[.int .i64 xn, .int .i64 xg, .int .i64 xo.k, .int .i64 xo.n, .int .i64 xo.f, .string xo.s, .slice h.p xo.l.length h.c, .slice h.q xo.d.length h.e] 53))
          have L7 := Lib.hid (L4.out.kept ((Kept.refl w4).alloc #[.int .i64 xn, .int .i64 xg, .int .i64 xo.k, .int .i64 xo.n, .int .i64 xo.f, .string xo.s, .slice h.p xo.l.length h.c, .slice h.q xo.d.length h.e] 53))
          have K7 := Lib.hid ((K4.out.alloc #[.int .i64 xn, .int .i64 xg, .int .i64 xo.k, .int .i64 xo.n, .int .i64 xo.f, .string xo.s, .slice h.p xo.l.length h.c, .slice h.q xo.d.length h.e] 53).alloc #[.int .i64 xn, .int .i64 xg, .int .i64 xo.k, .int .i64 xo.n, .int .i64 xo.f, .string xo.s, .slice h.p xo.l.length h.c, .slice h.q xo.d.length h.e] 53)
          have hB : w.heap.size ≤ (w4.alloc (.cells #[.int .i64 xn, .int .i64 xg, .int .i64 xo.k, .int .i64 xo.n, .int .i64 xo.f, .string xo.s, .slice h.p xo.l.length h.c, .slice h.q xo.d.length h.e] 53)).heap.size := Below.size (K4.out.alloc _ _)
          have OL := Lib.hid (fun k hk => (O7.out.own.lt k hk).1)
          go_wp2_with (at_builtin; refine wpList_app_nm rfl _ _ rfl w.heap.size acc O7.out rfl (⟨xn, xg, xo⟩, h) _ rfl (w4.heap.size + 1) (by simp) rfl hB (by omega) ?_)
          intro g cap' w5 own5 hg5 hl5 hlt5
          have K8 := Lib.hid (K7.out.gbOwn hg5 OL.out)
          have O8 := Lib.hid (OwnK.app (x := ((⟨xn, xg, xo⟩ : Nm), h)) O7.out L7.out MB.out S1.out own5 hg5 (by simpa using hl5))
          have HLen := Lib.hid (show (acc ++ [((⟨xn, xg, xo⟩ : Nm), h)]).length = acc.length + 1 by simp)
          clear own5 hg5 hl5 hlt5
          go_wp2_with fail
          go_roundg (l.length - (j + 1))
          case measure => omega
          case rel =>
            refine ⟨j + 1, acc ++ [(⟨xn, xg, xo⟩, h)], some ⟨g, 0, none⟩, cap', rfl, by omega, by rw [HLen.out], by go_num, by rw [HLen.out]; omega, Lib.hid ?_, K8.out, by rw [HLen.out]; exact O8.out⟩
            rw [List.map_append]; exact HV.out
        · have hne : (xe != 0) = true := by simpa using hxe
          have HV := Lib.hid (show X = (xe, []) by rw [HU2.out, if_neg hxe])
          have HE := Lib.hid hxe
          clear HU2 hxe
          go_wp2_with fail
          (with_reducible refine CO1.out.mono ?_)
          rintro e w4 ⟨h, rfl, hk4, hl4⟩
          have K4 := Lib.hid ((K1.out.trans hk4).alloc #[.int .i64 xn, .int .i64 xg, .int .i64 xo.k, .int .i64 xo.n, .int .i64 xo.f, .string xo.s, .slice h.p xo.l.length h.c, .slice h.q xo.d.length h.e] 53)
          clear hk4 hl4
          go_wp2_with fail
          go_ret2
          exact objs_bad K4.out xe HV.out HE.out
    · have HV := Lib.hid (show X = (0, acc.map (·.1)) by rw [← HU.out, List.drop_eq_nil_of_le (by omega), objsG])
      obtain rfl : j = l.length := by omega
      go_wp2_with fail
      go_ret2
      exact objs_good KR0.out acc q cap HV.out hacc OK.out

end Go.Proofs.YtoablpaehhjchaaGreatDoor

namespace Go.Proofs.YtoablpaehhjchaaGreatDoor
open Go.RowKit Cx Sx Rx
set_option linter.unusedSimpArgs false
set_option linter.unusedVariables false

def OpenPost (w : World) (l : List UInt8) (e : Ending) (w' : World) : Prop :=
  ∃ (X : Int × List Nm × Ob) (p : Option Addr) (c : Nat) (h : Hd), OpenR l X ∧ e = .returned (.tuple #[fileV X.2.1 p c X.2.2 h, .int .i64 X.1]) ∧ Kept w w' ∧ NmR (fun b => w.heap.size ≤ b) w' p X.2.1 ∧ Lies (Cel (fun b => w.heap.size ≤ b) w') X.2.2 h ∧ (p = none → c = 0) ∧ X.2.1.length ≤ c ∧ X.2.1.length ≤ 4097
theorem open_bad {w w' : World} {l : List UInt8} {er : Int} (h : OpenR l (er, [], nul)) (k : Kept w w') : OpenPost w l (.returned (.tuple #[.agg #[.slice none 0 0, .int .i64 0, .int .i64 0, .int .i64 0, .string ⟨#[]⟩, .slice none 0 0, .slice none 0 0], .int .i64 er])) w' :=
  ⟨(er, [], nul), none, 0, Hd.none, h, rfl, k, NmR.nil _ _ _, Lies.flat _ _ _ _ _ _ (Nat.zero_le _), fun _ => rfl, Nat.zero_le _, Nat.zero_le _⟩
theorem isM_eb {l m : List Xent} (h : IsM l m) (hb : ∀ e ∈ l, Eb e) : m.length ≤ 4097 := by
  have h1 : (m.map (·.n)).Nodup := List.pairwise_map.2 (h.1.imp (fun hab => by omega))
  have h2 := nodup_bd 4096 (m.map (·.n)) h1 (fun a ha => by
    obtain ⟨e, he, rfl⟩ := List.mem_map.1 ha
    have := hb e (isM_mem h he)
    exact ⟨this.1, this.2.1⟩)
  simpa using h2

set_option maxRecDepth 100000 in
set_option maxHeartbeats 4000000 in
theorem Open_any (v : Value) (s : ByteArray) (w : World) (hs : s.size ≤ 65536) (hm : HasMax w) (hcv : ∀ W, Kept w W → (convert 69 9 v).run Tryz.prog W = .ok (.string s) W) :
    Calls Tryz.prog 36 #[v] w (OpenPost w s.data.toList) := by
  have K1 := Lib.hid ((Kept.refl w).alloc #[.slice none 0 0, .int .i64 0, .int .i64 0, .int .i64 0, .string ⟨#[]⟩, .slice none 0 0, .slice none 0 0] 46)
  have R1 := Lib.hid (Blk.fresh w #[.slice none 0 0, .int .i64 0, .int .i64 0, .int .i64 0, .string ⟨#[]⟩, .slice none 0 0, .slice none 0 0] 46)
  have hcv1 := hcv _ K1.out
  have HM := Lib.hid hm
  obtain ⟨P0, h0⟩ : ∃ P0, P0 = Lib.hasPrefix s.data.toList pdfT := ⟨_, rfl⟩
  have HP := Lib.hid (show pdfT.isPrefixOf s.data.toList = P0 from h0.symm)
  have C0 := Lib.hid (fun W => show Calls Tryz.prog 58 #[.string s, .string ⟨#[37, 80, 68, 70, 45]⟩] W fun e w' => e = .returned (.bool P0) ∧ w' = W from (Tryz.strings_HasPrefix _ _ W).mono fun e w' ⟨he, hw⟩ => ⟨by rw [he, h0]; rfl, hw⟩)
  obtain ⟨Y, hY⟩ : ∃ Y, Y = tablesV s.data.toList := ⟨_, rfl⟩
  have HO := Lib.hid (show ∀ X, (if P0 = true then (if Y.1 = 0 then ∃ m, IsM Y.2.1 m ∧ X = (if (objsG s.data.toList m []).1 = 0 then (0, (objsG s.data.toList m []).2, Y.2.2) else ((objsG s.data.toList m []).1, [], nul)) else X = (Y.1, [], nul)) else X = (3, [], nul)) → OpenR s.data.toList X from fun X h => by
    unfold OpenR
    rw [HP.out, ← hY]; exact h)
  have CT := Lib.hid (tables_any s _ hs (hm.kept K1.out) Y hY)
  have HYB := Lib.hid (show ∀ e ∈ Y.2.1, Eb e by rw [hY]; exact tablesV_eb _)
  clear hm hcv h0 hY
  obtain ⟨r0, r1, r2, r3, r4, r5, r6⟩ := R1.out.cells7
  have rf := R1.out.free
  have rz := R1.out.lt
  go_enter Tryz.func36, Tryz.ntmps36
  go_wp2_with fail
  (with_reducible refine (C0.out _).mono ?_)
  rintro e w1 ⟨rfl, rfl⟩
  cases P0 with
  | false =>
    have HV := Lib.hid (HO.out (3, [], nul) (by rw [if_neg (by decide)]))
    go_wp2_with fail
    refine bodyPost_ret (v := .tuple #[.agg #[.slice none 0 0, .int .i64 0, .int .i64 0, .int .i64 0, .string ⟨#[]⟩, .slice none 0 0, .slice none 0 0], .int .i64 3]) ?_ rfl (open_bad HV.out ?_)
    · simp [results, Tryz.results36, go_sem, r0, r1, r2, r3, r4, r5, r6, rz]
    · repeat (with_reducible first | exact K1.out | refine Kept.drew ?_ | refine Kept.drewN ?_ _ | refine Kept.alloc ?_ _ _ | refine Kept.set ?_ (Nat.le_refl _) _)
  | true =>
    have HO2 := Lib.hid (fun X h => HO.out X (by rw [if_pos rfl]; exact h))
    clear HO
    go_wp2_with fail
    (with_reducible refine CT.out.mono ?_)
    rintro e w2 hp
    rcases hp with ⟨hne, rfl, hk2⟩ | ⟨h0, v, m, ⟨tp, tc, tq, th⟩, rfl, him, hen, hk2, hl2⟩
    · obtain ⟨ye, ys, yo⟩ := Y
      simp only [] at hne HO2
      have HV := Lib.hid (HO2.out (ye, [], nul) (by rw [if_neg hne]))
      have hne1 : (ye != 0) = true := by simpa using hne
      have K2 := Lib.hid ((K1.out.trans hk2).alloc nul6 39)
      have R2 := Lib.hid ((R1.out.kept hk2).alloc (.cells nul6 39))
      clear hk2 r0 r1 r2 r3 r4 r5 r6 rf rz
      obtain ⟨r0, r1, r2, r3, r4, r5, r6⟩ := R2.out.cells7
      have rf := R2.out.free
      have rz := R2.out.lt
      go_wp2_with fail
      refine bodyPost_ret (v := .tuple #[.agg #[.slice none 0 0, .int .i64 0, .int .i64 0, .int .i64 0, .string ⟨#[]⟩, .slice none 0 0, .slice none 0 0], .int .i64 ye]) ?_ rfl (open_bad HV.out ?_)
      · simp [results, Tryz.results36, go_sem, r0, r1, r2, r3, r4, r5, r6, rz]
      · repeat (with_reducible first | exact K2.out | refine Kept.drew ?_ | refine Kept.drewN ?_ _ | refine Kept.alloc ?_ _ _ | refine Kept.set ?_ (Nat.le_refl _) _)
    · obtain ⟨ye, ys, to_⟩ := Y
      simp only [] at h0 HO2 HYB hl2 him
      subst h0
      obtain ⟨p5, c5, rfl, hsl5⟩ := hen.sl
      obtain ⟨X, hX⟩ : ∃ X, X = objsG s.data.toList m [] := ⟨_, rfl⟩
      have HLM := Lib.hid (isM_eb him HYB.out)
      have HO3 := Lib.hid (fun Z (h : Z = (if X.1 = 0 then (0, X.2, to_) else (X.1, [], nul))) => HO2.out Z (by rw [if_pos rfl]; exact ⟨m, him, by rw [← hX]; exact h⟩))
      have K2 := Lib.hid ((K1.out.trans hk2).alloc #[.int .i64 to_.k, .int .i64 to_.n, .int .i64 to_.f, .string to_.s, .slice tp to_.l.length tc, .slice tq to_.d.length th] 39)
      have R2 := Lib.hid ((R1.out.kept hk2).alloc (.cells #[.int .i64 to_.k, .int .i64 to_.n, .int .i64 to_.f, .string to_.s, .slice tp to_.l.length tc, .slice tq to_.d.length th] 39))
      have B2 := Lib.hid (Blk.fresh w2 #[.int .i64 to_.k, .int .i64 to_.n, .int .i64 to_.f, .string to_.s, .slice tp to_.l.length tc, .slice tq to_.d.length th] 39)
      have L2 := Lib.hid ((show Lies (Cel (fun b => w.heap.size < b) w2) to_ ⟨tp, tc, tq, th⟩ from hl2.weak (fun b hb => by simp at hb; omega)).alloc (.cells #[.int .i64 to_.k, .int .i64 to_.n, .int .i64 to_.f, .string to_.s, .slice tp to_.l.length tc, .slice tq to_.d.length th] 39))
      have CO := Lib.hid (objects_any s m p5 c5 _ hs (HM.out.kept K2.out) ((hsl5.see ((Kept.refl w2).alloc #[.int .i64 to_.k, .int .i64 to_.n, .int .i64 to_.f, .string to_.s, .slice tp to_.l.length tc, .slice tq to_.d.length th] 39)).1) (by have := HLM.out; omega) X hX)
      have S2 := Lib.hid (show w.heap.size < w2.heap.size from by have := hk2.size; simp at this; omega)
      clear hk2 him hen hsl5 hl2 hX HO2 r0 r1 r2 r3 r4 r5 r6 rf rz
      unfold objV
      simp only []
      obtain ⟨r0, r1, r2, r3, r4, r5, r6⟩ := R2.out.cells7
      have rf := R2.out.free
      have rz := R2.out.lt
      go_wp2_with fail
      (with_reducible refine CO.out.mono ?_)
      rintro e w4 ⟨hk4, hp⟩
      have K4 := Lib.hid (K2.out.trans hk4)
      have R4 := Lib.hid (R2.out.kept hk4)
      have B4 := Lib.hid (B2.out.kept hk4)
      have L4 := Lib.hid (L2.out.kept hk4)
      clear hk4 CO r0 r1 r2 r3 r4 r5 r6 rf rz
      obtain ⟨r0, r1, r2, r3, r4, r5, r6⟩ := R4.out.cells7
      have rf := R4.out.free
      have rz := R4.out.lt
      obtain ⟨xe, xs⟩ := X
      simp only [] at HO3 hp
      rcases hp with ⟨hne, rfl⟩ | ⟨h0, acc, q, cap, rfl, hacc, hal, hown⟩
      · have HV := Lib.hid (HO3.out (xe, [], nul) (by rw [if_neg hne]))
        have hne1 : (xe != 0) = true := by simpa using hne
        go_wp2_with fail
        refine bodyPost_ret (v := .tuple #[.agg #[.slice none 0 0, .int .i64 0, .int .i64 0, .int .i64 0, .string ⟨#[]⟩, .slice none 0 0, .slice none 0 0], .int .i64 xe]) ?_ rfl (open_bad HV.out ?_)
        · simp [results, Tryz.results36, go_sem, r0, r1, r2, r3, r4, r5, r6, rz]
        · repeat (with_reducible first | exact K4.out | refine Kept.drew ?_ | refine Kept.drewN ?_ _ | refine Kept.alloc ?_ _ _ | refine Kept.set ?_ (Nat.le_refl _) _)
      · subst h0 hacc
        have HV := Lib.hid (HO3.out (0, acc.map (·.1), to_) (by rw [if_pos rfl]))
        have HN := Lib.hid ((hown.nm (by have := HLM.out; unfold maxLen; omega)).weak (P' := fun b => w.heap.size < b) (fun b hb => by simp at hb; have := S2.out; omega))
        have HOW := Lib.hid hown.own
        have HAL := Lib.hid hal
        obtain ⟨b0, b1, b2, b3, b4, b5⟩ := B4.out.cells6
        have bz := B4.out.lt
        clear hown hal
        go_wp2_with fail
        refine bodyPost_ret (v := .tuple #[.agg #[.slice q acc.length cap, .int .i64 to_.k, .int .i64 to_.n, .int .i64 to_.f, .string to_.s, .slice tp to_.l.length tc, .slice tq to_.d.length th], .int .i64 0]) ?_ rfl ⟨(0, acc.map (·.1), to_), q, cap, ⟨tp, tc, tq, th⟩, HV.out, by simp only [fileV, List.length_map], ?_, ?_, ?_, ?_, ?_, ?_⟩
        · simp [results, Tryz.results36, go_sem, r0, r1, r2, r3, r4, r5, r6, rz]
        · repeat (with_reducible first | exact K4.out | refine Kept.drew ?_ | refine Kept.drewN ?_ _ | refine Kept.alloc ?_ _ _ | refine Kept.set ?_ (Nat.le_refl _) _)
        · refine NmR.weak (P := fun b => w.heap.size < b) ?_ (fun b hb => Nat.le_of_lt hb)
          refine HN.out.gb (r := some w.heap.size) ?_ (fun b hb e => by injection e with e; omega)
          repeat (with_reducible first | exact gb_refl _ _ | refine gb_drew ?_ | refine gb_own ?_ _ _)
        · refine Lies.weak (P := fun b => w.heap.size < b) ?_ (fun b hb => Nat.le_of_lt hb)
          repeat (with_reducible first | exact L4.out | refine Lies.drew ?_ | refine Lies.set ?_ (fun b hb => Nat.ne_of_gt hb) _ | refine Lies.alloc ?_ _)
        · rcases HOW.out.2 with ⟨e, h0⟩ | ⟨g, cap', cur, e, hb, -⟩
          · intro _; injection e
          · intro h; injection e with e1; rw [h] at e1; cases e1
        · show (acc.map (·.1)).length ≤ cap
          rw [List.length_map]
          rcases HOW.out.2 with ⟨e, h0⟩ | ⟨g, cap', cur, e, hb, -, hc, -⟩
          · omega
          · injection e with _ _ e3; rw [e3]; exact hc
        · have := HLM.out; have := HAL.out; simp; omega

end Go.Proofs.YtoablpaehhjchaaGreatDoor
