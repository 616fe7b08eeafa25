/-
  Is an object a number without thousandths?
  The widths to which the objects of an Arr lead.
  The font that a Dict without widths names.
  The font of a Dict, and of the object that its widths are to be.
  An object's font.
-/
import Derived.Test.YtakbhdhlcnpejaaMetS
import Derived.Test.YtakbhdhlcnpejaaCosEntry
import Derived.Test.YtakbhdhlcnpejaaStoW
import Derived.Deep.QuietTactic
namespace Go.Proofs.Ytakbhdhlcnpejaa
open Go.RowKit Cx Sx
set_option linter.unusedSimpArgs false
set_option linter.unusedVariables false

set_option maxRecDepth 100000 in
set_option maxHeartbeats 4000000 in
theorem isWholeTo_any (o : Ob) (h : Hd) (m : Int) (hm : m = 5000 ∨ m = 255) (w : World) (b : Bool) (hb : b = Mt.whole m o) :
    Calls Try.prog 40 #[objV o h, .int .i64 m] w fun e w' => e = .returned (.bool b) ∧ Kept w w' := by
  have ways := Mt.whole_ways m o
  rw [← hb] at ways
  clear hb
  have K1 := Lib.hid ((Kept.refl w).alloc #[.int .i64 o.k, .int .i64 o.n, .int .i64 o.f, .string o.s, .slice h.p o.l.length h.c, .slice h.q o.d.length h.e] 27)
  unfold objV
  obtain ⟨k, hk⟩ : ∃ k, k = o.k := ⟨_, rfl⟩
  obtain ⟨f, hf⟩ : ∃ f, f = o.f := ⟨_, rfl⟩
  rw [← hk, ← hf] at ways K1 ⊢
  clear hk hf
  rcases ways with ⟨h1, rfl⟩ | ⟨h1, h2, rfl⟩ | ⟨h1, h2, h3, rfl⟩ | ⟨h1, h2, h3, h4, rfl⟩ | ⟨h1, h2, h3, h4, rfl⟩
  all_goals
    try (have e2 : (f % 1000 == 0) = true := by (rw [← Int.tmod_eq_emod_of_nonneg h3]; exact h2))
    try (have d3 : decide (0 ≤ f) = true := decide_eq_true (by assumption))
    try (have d3' : decide (0 ≤ f) = false := decide_eq_false (by omega))
    rcases hm with rfl | rfl
    all_goals
      try (have d4 : decide (f ≤ 5000000) = true := decide_eq_true (by omega))
      try (have d4 : decide (f ≤ 5000000) = false := decide_eq_false (by omega))
      try (have d4 : decide (f ≤ 255000) = true := decide_eq_true (by omega))
      try (have d4 : decide (f ≤ 255000) = false := decide_eq_false (by omega))
      go_enter Try.func40, Try.ntmps40
      go_wp2_with fail
      go_ret
      exact ⟨rfl, K1.out⟩

end Go.Proofs.Ytakbhdhlcnpejaa

namespace Go.Proofs.Ytakbhdhlcnpejaa
open Go.RowKit Cx Sx
set_option linter.unusedSimpArgs false
set_option linter.unusedVariables false

/-- Numbers and an error. -/
def WsPost (w : World) (X : Int × List Nat) (e : Ending) (w' : World) : Prop := ∃ p c, e = .returned (.tuple #[.slice p X.2.length c, .int .i64 X.1]) ∧ NuB w' w.heap.size p X.2 ∧ Kept w w'

set_option maxRecDepth 100000 in
set_option maxHeartbeats 4000000 in
theorem widthsOf_any (P : Nat → Prop) (l : List Nm) (p : Option Addr) (c : Nat) (t : Ob) (ht : Hd) (a : Ob) (ha : Hd) (w : World) (h : NmR P w p l) (hl : Lies (Cel P w) a ha) (X : Int × List Nat) (hX : X = Mt.widthsV l a) :
    Calls Try.prog 39 #[fileV l p c t ht, objV a ha] w (WsPost w X) := by
  have HL := Lib.hid h.low
  have HA := Lib.hid (show Lies (Cel (fun b => P b ∧ b < w.heap.size) w) a ha from hl.keep fun b hb hlt => ⟨⟨hb, hlt⟩, rfl⟩)
  have hab := hl.bounds.1
  unfold maxLen at hab
  clear h hl
  obtain ⟨ap, ac, aq, ae⟩ := ha
  have H1 := Lib.hid (In.fresh' (k := w.heap.size + 1) (In.fresh (In.start w) #[.slice p l.length c, .int .i64 t.k, .int .i64 t.n, .int .i64 t.f, .string t.s, .slice ht.p t.l.length ht.c, .slice ht.q t.d.length ht.e] 46) #[.int .i64 a.k, .int .i64 a.n, .int .i64 a.f, .string a.s, .slice ap a.l.length ac, .slice aq a.d.length ae] 27 (by simp))
  have K1 := Lib.hid (In.k H1.out)
  obtain ⟨o0, o1, o2, o3, o4, o5⟩ := (H1.out.mem List.mem_cons_self).cells6
  unfold fileV objV
  simp only []
  by_cases hk : a.k = 5
  · have hkb : (a.k != 5) = false := by rw [hk]; rfl
    have HX1 := Lib.hid (show X = if a.l.length ≤ 256 then Mt.wsV l a.l else (6, []) by rw [hX, Mt.widthsV, if_pos hk])
    clear hX hk
    by_cases hn : a.l.length ≤ 256
    · have hnb : ¬ (256 : Int) < (a.l.length : Int) := by omega
      have HX := Lib.hid (show Mt.goV l [] (a.l.drop 0) = X by rw [HX1.out, if_pos hn, Mt.goV_start, List.drop_zero])
      clear HX1
      go_enter Try.func39, Try.ntmps39
      go_wp2_with fail
      go_loopg [6, 23] (a.l.length) (fun m v i wr => ∃ (j : Nat) (acc : List Nat) (vv : Value), m = a.l.length - j ∧ vv = v ∧ j ≤ a.l.length ∧ i = .int .i64 j ∧ acc.length = j ∧ Hid (Mt.goV l acc (a.l.drop j) = X) ∧ OwI wr (w.heap.size + 1 + 1) vv acc ∧ In w [(w.heap.size + 1, #[.int .i64 a.k, .int .i64 a.n, .int .i64 a.f, .string a.s, .slice ap a.l.length ac, .slice aq a.d.length ae], 27), (w.heap.size, #[.slice p l.length c, .int .i64 t.k, .int .i64 t.n, .int .i64 t.f, .string t.s, .slice ht.p t.l.length ht.c, .slice ht.q t.d.length ht.e], 46)] wr)
      case atStart => exact ⟨0, [], _, by omega, rfl, Nat.zero_le _, rfl, rfl, HX, OwI.nil _ _, H1.out⟩
      case round =>
        obtain ⟨j, acc, vv, hm, rfl, hj, rfl, hja, HG, ho, hin⟩ := hrel
        have HI := Lib.hid hin
        have KI := Lib.hid (In.k hin)
        have HO := Lib.hid ho
        have OM := Lib.hid (hin.mem List.mem_cons_self)
        have FM := Lib.hid (hin.mem (List.mem_cons_of_mem _ List.mem_cons_self))
        clear hin ho H1 K1 o0 o1 o2 o3 o4 o5
        obtain ⟨o0, o1, o2, o3, o4, o5⟩ := OM.out.cells6
        obtain ⟨f0, f1, f2, f3, f4, f5, f6⟩ := FM.out.cells7
        have oz := OM.out.lt
        have fz := FM.out.lt
        by_cases hlt : j < a.l.length
        · have j1 : (j : Int) < (a.l.length : Int) := by omega
          obtain ⟨x, b, off, ⟨xp, xc, xq, xe⟩, hxe, hpp, hPb, hbl, hx, y0, y1, y2, y3, y4, y5⟩ := (HA.out.kept KI.out).elem j hlt
          simp only [] at hpp y4 y5
          subst hpp
          obtain ⟨Y, hY⟩ : ∃ Y, Y = resV l x := ⟨_, rfl⟩
          have CR := Lib.hid (fun W (k : Kept wr W) => Resolve_any _ l p c t ht x ⟨xp, xc, xq, xe⟩ W ((HL.out.kept KI.out).kept k) (hx.kept k) Y hY)
          have HD := Lib.hid (show a.l.drop j = x :: a.l.drop (j + 1) by rw [List.drop_eq_getElem_cons hlt, hxe])
          rw [HD.out] at HG
          have GB := Lib.hid (show Y.1 ≠ 0 → X = (Y.1, []) from fun e => by rw [← HG.out, Mt.goV_bad (by rw [← hY]; exact e), hY])
          have GF := Lib.hid (show Y.1 = 0 → Mt.whole 5000 Y.2 = false → X = (3, []) from fun e k => by rw [← HG.out]; exact Mt.goV_form (by rw [← hY]; exact e) (by rw [← hY]; exact k))
          have GS := Lib.hid (show Y.1 = 0 → Mt.whole 5000 Y.2 = true → Mt.goV l (acc ++ [Mt.num Y.2]) (a.l.drop (j + 1)) = X from fun e k => by rw [← HG.out, Mt.goV_step (by rw [← hY]; exact e) (by rw [← hY]; exact k), hY])
          clear hY hxe hx hPb HD
          obtain ⟨er, y⟩ := Y
          unfold fileV objV at CR
          simp only [] at CR GB GF GS
          go_wp2_with fail
          (with_reducible refine (CR.out _ ((Kept.refl wr).alloc _ _)).mono ?_)
          rintro e w2 ⟨⟨yp, yc, yq, ye⟩, rfl, hk2, hl2⟩
          have k2 : Kept wr w2 := ((Kept.refl wr).alloc _ _).trans hk2
          have H3 := Lib.hid (In.fresh (HI.out.kept k2) #[.int .i64 y.k, .int .i64 y.n, .int .i64 y.f, .string y.s, .slice yp y.l.length yc, .slice yq y.d.length ye] 27)
          have O3 := Lib.hid (show OwI (w2.alloc (.cells #[.int .i64 y.k, .int .i64 y.n, .int .i64 y.f, .string y.s, .slice yp y.l.length yc, .slice yq y.d.length ye] 27)) (w.heap.size + 1 + 1) vv acc from (HO.out.kept k2).kept ((Kept.refl w2).alloc _ _))
          have S2 := Lib.hid (show w.heap.size + 1 < w2.heap.size from ((HI.out.kept k2).mem List.mem_cons_self).lt)
          clear hk2 hl2 k2 CR
          simp only []
          clear oz fz o0 o1 o2 o3 o4 o5 f0 f1 f2 f3 f4 f5 f6 y0 y1 y2 y3 y4 y5
          by_cases he : er = 0
          · subst he
            obtain ⟨wb, hwb⟩ : ∃ wb, wb = Mt.whole 5000 y := ⟨_, rfl⟩
            have CW := Lib.hid (fun W => isWholeTo_any y ⟨yp, yc, yq, ye⟩ 5000 (.inl rfl) W wb hwb)
            unfold objV at CW
            cases wb
            · have HV := Lib.hid (show X = (3, []) from GF.out rfl hwb.symm)
              clear hwb
              go_wp2_with fail
              (with_reducible refine (CW.out _).mono ?_)
              rintro e w4 ⟨rfl, hk4⟩
              have K4 := Lib.hid ((In.k H3.out).trans hk4)
              clear hk4
              go_wp2_with fail
              refine bodyPost_ret (v := .tuple #[.slice none 0 0, .int .i64 3]) ?_ rfl ⟨none, 0, by rw [HV.out]; rfl, by rw [HV.out]; exact NuB.nil _ _ _, K4.out⟩
              simp [results, Try.results39, go_sem]
            · have HV := Lib.hid (GS.out rfl hwb.symm)
              obtain ⟨-, -, n1, n2, n3⟩ := Mt.num_of hwb.symm
              obtain ⟨q, hq⟩ : ∃ q, q = Mt.num y := ⟨_, rfl⟩
              rw [← hq] at n3 HV
              have N1 := Lib.hid n1
              have N2 := Lib.hid n2
              have N3 := Lib.hid n3
              clear hq hwb n1 n2 n3
              go_wp2_with fail
              (with_reducible refine (CW.out _).mono ?_)
              rintro e w4 ⟨rfl, hk4⟩
              have H4 := Lib.hid (H3.out.kept hk4)
              have O4 := Lib.hid (O3.out.kept hk4)
              have S4 := Lib.hid (show w.heap.size + 1 + 1 ≤ w4.heap.size from Nat.le_trans S2.out (Nat.le_trans (by simp) hk4.size))
              clear hk4
              obtain ⟨z0, z1, z2, z3, z4, z5⟩ := (H4.out.mem List.mem_cons_self).cells6
              have n1 := N1.out
              have n2 := N2.out
              have n3 : y.f / 1000 = (q : Int) := by rw [← N3.out, Int.tdiv_eq_ediv_of_nonneg N1.out]
              go_wp2_with (at_builtin; refine wpList_app_int rfl _ _ rfl O4.out rfl q (by first | rfl | simp) S4.out (by omega) ?_; intro v' w5 hb5 hbl5)
              have B5 := Lib.hid hb5
              have L5 := Lib.hid hbl5
              clear hb5 hbl5
              go_roundg (a.l.length - (j + 1))
              case measure => omega
              case rel =>
                refine ⟨j + 1, acc ++ [q], _, rfl, rfl, by omega, by go_num, by simp [hja], HV, B5.out, ?_⟩
                exact In.below H4.out.tail L5.out (by omega) (fun x hx => by
                  simp only [List.mem_cons, List.not_mem_nil, or_false] at hx
                  rcases hx with rfl | rfl <;> (simp only []; omega))
          · have HV := Lib.hid (GB.out he)
            have hne : (er != 0) = true := by simpa using he
            have K3 := Lib.hid (In.k H3.out)
            clear GB GF GS he
            go_wp2_with fail
            refine bodyPost_ret (v := .tuple #[.slice none 0 0, .int .i64 er]) ?_ rfl ⟨none, 0, by rw [HV.out]; rfl, by rw [HV.out]; exact NuB.nil _ _ _, K3.out⟩
            simp [results, Try.results39, go_sem]
        · obtain rfl : j = a.l.length := by omega
          have HV := Lib.hid (show X = (0, acc) by rw [← HG.out, List.drop_eq_nil_of_le (Nat.le_refl _), Mt.goV_nil])
          obtain ⟨p', c', hv, hnu⟩ := HO.out.nuB
          subst hv
          go_wp2_with fail
          refine bodyPost_ret (v := .tuple #[.slice p' acc.length c', .int .i64 0]) ?_ rfl ⟨p', c', by rw [HV.out], by rw [HV.out]; exact hnu.mono (by omega), KI.out⟩
          simp [results, Try.results39, go_sem]
    · have hnb : (256 : Int) < (a.l.length : Int) := by omega
      have HV := Lib.hid (show X = (6, []) by rw [HX1.out, if_neg hn])
      clear HX1
      go_enter Try.func39, Try.ntmps39
      go_wp2_with fail
      refine bodyPost_ret (v := .tuple #[.slice none 0 0, .int .i64 6]) ?_ rfl ⟨none, 0, by rw [HV.out]; rfl, by rw [HV.out]; exact NuB.nil _ _ _, K1.out⟩
      simp [results, Try.results39, go_sem]
  · have hkb : (a.k != 5) = true := by simpa using hk
    have HV := Lib.hid (show X = (3, []) by rw [hX, Mt.widthsV, if_neg hk])
    clear hX hk
    go_enter Try.func39, Try.ntmps39
    go_wp2_with fail
    refine bodyPost_ret (v := .tuple #[.slice none 0 0, .int .i64 3]) ?_ rfl ⟨none, 0, by rw [HV.out]; rfl, by rw [HV.out]; exact NuB.nil _ _ _, K1.out⟩
    simp [results, Try.results39, go_sem]

end Go.Proofs.Ytakbhdhlcnpejaa

namespace Go.Proofs.Ytakbhdhlcnpejaa
open Go.RowKit Cx Sx
set_option linter.unusedSimpArgs false
set_option linter.unusedVariables false

/-- A font and an error. -/
def FoPost (w : World) (X : Int × Mt.Fo) (e : Ending) (w' : World) : Prop := ∃ p c, e = .returned (.tuple #[Mt.fontV X.2 p c, .int .i64 X.1]) ∧ NuB w' w.heap.size p X.2.ws ∧ Kept w w'

theorem Mt.str_arr (s : ByteArray) : s = ⟨s.data.toList.toArray⟩ := by
  obtain ⟨⟨l⟩⟩ := s
  rfl

set_option maxRecDepth 100000 in
set_option maxHeartbeats 4000000 in
theorem named_any (P : Nat → Prop) (l : List Nm) (p : Option Addr) (c : Nat) (t : Ob) (ht : Hd) (d : Ob) (hd : Hd) (w : World) (h : NmR P w p l) (hl : Lies (Cel P w) d hd) (X : Int × Mt.Fo) (hX : X = Mt.nameV (entryV l d Mt.keyB)) :
    Calls Try.prog 24 #[fileV l p c t ht, objV d hd] w (FoPost w X) := by
  obtain ⟨Y, hY⟩ : ∃ Y, Y = entryV l d Mt.keyB := ⟨_, rfl⟩
  have CE := Lib.hid (fun W (k : Kept w W) => (show Calls Try.prog 23 #[fileV l p c t ht, objV d hd, .string ⟨#[66, 97, 115, 101, 70, 111, 110, 116]⟩] W _ from Entry_any _ l p c t ht d hd Mt.keyB W (h.kept k) (hl.kept k) Y hY))
  rw [← hY] at hX
  have HX := Lib.hid hX
  clear h hl hY hX
  obtain ⟨dp, dc, dq, de⟩ := hd
  have H1 := Lib.hid (In.fresh' (k := w.heap.size + 1 + 1) (In.fresh' (k := w.heap.size + 1) (In.fresh (In.start w) #[.slice p l.length c, .int .i64 t.k, .int .i64 t.n, .int .i64 t.f, .string t.s, .slice ht.p t.l.length ht.c, .slice ht.q t.d.length ht.e] 46) #[.int .i64 d.k, .int .i64 d.n, .int .i64 d.f, .string d.s, .slice dp d.l.length dc, .slice dq d.d.length de] 27 (by simp)) #[.int .i64 0, .slice none 0 0, .int .i64 0] 35 (by simp))
  have K1 := Lib.hid (In.k H1.out)
  obtain ⟨er, y⟩ := Y
  unfold fileV objV at CE
  unfold fileV objV
  simp only [] at CE ⊢
  go_enter Try.func24, Try.ntmps24
  go_wp2_with fail
  (with_reducible refine (CE.out _ K1.out).mono ?_)
  rintro e w2 ⟨⟨yp, yc, yq, ye⟩, rfl, hk2, hl2⟩
  have H2 := Lib.hid (In.fresh (H1.out.kept hk2) #[.int .i64 y.k, .int .i64 y.n, .int .i64 y.f, .string y.s, .slice yp y.l.length yc, .slice yq y.d.length ye] 27)
  have S2 := Lib.hid (show w.heap.size + 1 + 1 < w2.heap.size from ((H1.out.kept hk2).mem List.mem_cons_self).lt)
  have K2 := Lib.hid (In.k H2.out)
  have RM := Lib.hid (H2.out.mem (List.mem_cons_of_mem _ List.mem_cons_self))
  have r0 := RM.out.cell 0
  have r1 := RM.out.cell 1
  have r2 := RM.out.cell 2
  have rf := RM.out.free
  have rz := RM.out.lt
  simp only [] at HX ⊢
  clear hk2 hl2 H1 K1 CE
  by_cases he : er = 0
  · subst he
    have HX1 := Lib.hid (show X = if y.k = 3 then (if Mt.stdB y.s.data.toList = true then (0, Mt.stdT y.s.data.toList) else (3, Mt.noF)) else (3, Mt.noF) by rw [HX.out, Mt.nameV, if_pos rfl])
    clear HX
    by_cases hk : y.k = 3
    · have hkb : (y.k != 3) = false := by rw [hk]; rfl
      have HX2 := Lib.hid (show X = if Mt.stdB y.s.data.toList = true then (0, Mt.stdT y.s.data.toList) else (3, Mt.noF) by rw [HX1.out, if_pos hk])
      obtain ⟨ok, hok⟩ : ∃ ok, ok = Mt.stdB y.s.data.toList := ⟨_, rfl⟩
      obtain ⟨T, hT⟩ : ∃ T, T = Mt.stdT y.s.data.toList := ⟨_, rfl⟩
      have CS := Lib.hid (fun W => (show Calls Try.prog 7 #[.string y.s] W (StdPostF W T ok) by
        rw [hok, hT]
        have := StandardF_any y.s.data.toList W
        rw [← Mt.str_arr] at this; exact this))
      rw [← hok, ← hT] at HX2
      clear hk hok hT HX1
      go_wp2_with fail
      (with_reducible refine (CS.out _).mono ?_)
      rintro e w3 ⟨q, cq, rfl, hn3, hk3⟩
      unfold Mt.fontV
      have H3 := Lib.hid (In.fresh (H2.out.kept hk3) #[.int .i64 T.first, .slice q T.ws.length cq, .int .i64 T.other] 35)
      have N3 := Lib.hid (NuB.alloc hn3 (.cells #[.int .i64 T.first, .slice q T.ws.length cq, .int .i64 T.other] 35))
      have K3 := Lib.hid (In.k H3.out)
      have RM3 := Lib.hid (H3.out.mem (List.mem_cons_of_mem _ (List.mem_cons_of_mem _ List.mem_cons_self)))
      have S3 := Lib.hid (show w.heap.size + 1 + 1 < (w2.alloc (.cells #[.int .i64 y.k, .int .i64 y.n, .int .i64 y.f, .string y.s, .slice yp y.l.length yc, .slice yq y.d.length ye] 27)).heap.size by simp; have := S2.out; omega)
      clear hk3 hn3 r0 r1 r2 rf rz
      have r0 := RM3.out.cell 0
      have r1 := RM3.out.cell 1
      have r2 := RM3.out.cell 2
      have rf := RM3.out.free
      have rz := RM3.out.lt
      simp only []
      cases ok
      · have HV := Lib.hid (show X = (3, Mt.noF) from HX2.out)
        go_wp2_with fail
        refine bodyPost_ret (v := .tuple #[.agg #[.int .i64 0, .slice none 0 0, .int .i64 0], .int .i64 3]) ?_ rfl ⟨none, 0, by rw [HV.out]; rfl, by rw [HV.out]; exact NuB.nil _ _ _, ?_⟩
        · simp [results, Try.results24, go_sem, r0, r1, r2, rz]
        · repeat (with_reducible first | exact K3.out | refine Kept.drew ?_ | refine Kept.alloc ?_ _ _ | refine Kept.set ?_ (by omega) _)
      · have HV := Lib.hid (show X = (0, T) from HX2.out)
        go_wp2_with fail
        refine bodyPost_ret (v := .tuple #[.agg #[.int .i64 T.first, .slice q T.ws.length cq, .int .i64 T.other], .int .i64 0]) ?_ rfl ⟨q, cq, by rw [HV.out]; rfl, ?_, ?_⟩
        · simp [results, Try.results24, go_sem, r0, r1, r2, rz]
        · rw [HV.out]
          refine NuB.mono (B := (w2.alloc (.cells #[.int .i64 y.k, .int .i64 y.n, .int .i64 y.f, .string y.s, .slice yp y.l.length yc, .slice yq y.d.length ye] 27)).heap.size) ?_ (by have := S3.out; omega)
          repeat (with_reducible first | exact N3.out | refine NuB.set ?_ S3.out _ _)
        · repeat (with_reducible first | exact K3.out | refine Kept.drew ?_ | refine Kept.alloc ?_ _ _ | refine Kept.set ?_ (by omega) _)
    · have hkb : (y.k != 3) = true := by simpa using hk
      have HV := Lib.hid (show X = (3, Mt.noF) by rw [HX1.out, if_neg hk])
      clear hk HX1
      go_wp2_with fail
      refine bodyPost_ret (v := .tuple #[.agg #[.int .i64 0, .slice none 0 0, .int .i64 0], .int .i64 3]) ?_ rfl ⟨none, 0, by rw [HV.out]; rfl, by rw [HV.out]; exact NuB.nil _ _ _, ?_⟩
      · simp [results, Try.results24, go_sem, r0, r1, r2, rz]
      · repeat (with_reducible first | exact K2.out | refine Kept.drew ?_ | refine Kept.alloc ?_ _ _ | refine Kept.set ?_ (by omega) _)
  · have hne : (er != 0) = true := by simpa using he
    have HV := Lib.hid (show X = (er, Mt.noF) by rw [HX.out, Mt.nameV, if_neg he])
    clear he HX
    go_wp2_with fail
    refine bodyPost_ret (v := .tuple #[.agg #[.int .i64 0, .slice none 0 0, .int .i64 0], .int .i64 er]) ?_ rfl ⟨none, 0, by rw [HV.out]; rfl, by rw [HV.out]; exact NuB.nil _ _ _, ?_⟩
    · simp [results, Try.results24, go_sem, r0, r1, r2, rz]
    · repeat (with_reducible first | exact K2.out | refine Kept.drew ?_ | refine Kept.alloc ?_ _ _ | refine Kept.set ?_ (by omega) _)

end Go.Proofs.Ytakbhdhlcnpejaa

namespace Go.Proofs.Ytakbhdhlcnpejaa
open Go.RowKit Cx Sx
set_option linter.unusedSimpArgs false
set_option linter.unusedVariables false

set_option maxRecDepth 100000 in
set_option maxHeartbeats 4000000 in
theorem listed_any (P : Nat → Prop) (l : List Nm) (p : Option Addr) (c : Nat) (t : Ob) (ht : Hd) (d : Ob) (hd : Hd) (a : Ob) (ha : Hd) (w : World) (h : NmR P w p l) (hl : Lies (Cel P w) d hd) (hla : Lies (Cel P w) a ha) (X : Int × Mt.Fo) (hX : X = Mt.listV (Mt.widthsV l a) (entryV l d Mt.keyF)) :
    Calls Try.prog 25 #[fileV l p c t ht, objV d hd, objV a ha] w (FoPost w X) := by
  obtain ⟨Z, hZ⟩ : ∃ Z, Z = Mt.widthsV l a := ⟨_, rfl⟩
  obtain ⟨Y, hY⟩ : ∃ Y, Y = entryV l d Mt.keyF := ⟨_, rfl⟩
  have CW := Lib.hid (fun W (k : Kept w W) => widthsOf_any _ l p c t ht a ha W (h.kept k) (hla.kept k) Z hZ)
  have CE := Lib.hid (fun W (k : Kept w W) => (show Calls Try.prog 23 #[fileV l p c t ht, objV d hd, .string ⟨#[70, 105, 114, 115, 116, 67, 104, 97, 114]⟩] W _ from Entry_any _ l p c t ht d hd Mt.keyF W (h.kept k) (hl.kept k) Y hY))
  rw [← hY, ← hZ] at hX
  have HX := Lib.hid hX
  clear h hl hla hY hZ hX
  obtain ⟨dp, dc, dq, de⟩ := hd
  obtain ⟨ap, ac, aq, ae⟩ := ha
  have H1 := Lib.hid (In.fresh' (k := w.heap.size + 1 + 1 + 1) (In.fresh' (k := w.heap.size + 1 + 1) (In.fresh' (k := w.heap.size + 1) (In.fresh (In.start w) #[.slice p l.length c, .int .i64 t.k, .int .i64 t.n, .int .i64 t.f, .string t.s, .slice ht.p t.l.length ht.c, .slice ht.q t.d.length ht.e] 46) #[.int .i64 d.k, .int .i64 d.n, .int .i64 d.f, .string d.s, .slice dp d.l.length dc, .slice dq d.d.length de] 27 (by simp)) #[.int .i64 a.k, .int .i64 a.n, .int .i64 a.f, .string a.s, .slice ap a.l.length ac, .slice aq a.d.length ae] 27 (by simp)) #[.int .i64 0, .slice none 0 0, .int .i64 0] 35 (by simp))
  have K1 := Lib.hid (In.k H1.out)
  obtain ⟨ez, Z⟩ := Z
  obtain ⟨er, y⟩ := Y
  unfold fileV objV at CE CW
  unfold fileV objV
  simp only [] at CE CW HX ⊢
  go_enter Try.func25, Try.ntmps25
  go_wp2_with fail
  (with_reducible refine (CW.out _ K1.out).mono ?_)
  rintro e w2 ⟨q, cq, rfl, hn2, hk2⟩
  have H2 := Lib.hid (H1.out.kept hk2)
  have K2 := Lib.hid (In.k H2.out)
  have N2 := Lib.hid (NuB.mono hn2 (show w.heap.size + 1 + 1 + 1 + 1 ≤ _ by simp))
  have RM := Lib.hid (H2.out.mem List.mem_cons_self)
  have r0 := RM.out.cell 0
  have r1 := RM.out.cell 1
  have r2 := RM.out.cell 2
  have rf := RM.out.free
  have rz := RM.out.lt
  obtain ⟨d0, d1, d2, d3, d4, d5⟩ := (H2.out.mem (List.mem_cons_of_mem _ (List.mem_cons_of_mem _ List.mem_cons_self))).cells6
  obtain ⟨f0, f1, f2, f3, f4, f5, f6⟩ := (H2.out.mem (List.mem_cons_of_mem _ (List.mem_cons_of_mem _ (List.mem_cons_of_mem _ List.mem_cons_self)))).cells7
  clear hk2 hn2 H1 K1 CW
  simp only []
  by_cases hz : ez = 0
  · subst hz
    have HX1 := Lib.hid (show X = if er = 0 then (if y.n = 1 ∧ Mt.whole 255 y = true then (0, ⟨Mt.num y, Z, 0⟩) else (3, Mt.noF)) else (er, Mt.noF) by rw [HX.out, Mt.listV, if_pos rfl])
    clear HX
    go_wp2_with fail
    (with_reducible refine (CE.out _ K2.out).mono ?_)
    rintro e w3 ⟨⟨yp, yc, yq, ye⟩, rfl, hk3, hl3⟩
    have H3 := Lib.hid (In.fresh (H2.out.kept hk3) #[.int .i64 y.k, .int .i64 y.n, .int .i64 y.f, .string y.s, .slice yp y.l.length yc, .slice yq y.d.length ye] 27)
    have S3 := Lib.hid (show w.heap.size + 1 + 1 + 1 < w3.heap.size from ((H2.out.kept hk3).mem List.mem_cons_self).lt)
    have N3 := Lib.hid (NuB.alloc (N2.out.kept hk3) (.cells #[.int .i64 y.k, .int .i64 y.n, .int .i64 y.f, .string y.s, .slice yp y.l.length yc, .slice yq y.d.length ye] 27))
    have K3 := Lib.hid (In.k H3.out)
    have RM3 := Lib.hid (H3.out.mem (List.mem_cons_of_mem _ List.mem_cons_self))
    clear hk3 hl3 CE r0 r1 r2 rf rz d0 d1 d2 d3 d4 d5 f0 f1 f2 f3 f4 f5 f6
    have r0 := RM3.out.cell 0
    have r1 := RM3.out.cell 1
    have r2 := RM3.out.cell 2
    have rf := RM3.out.free
    have rz := RM3.out.lt
    simp only []
    by_cases he : er = 0
    · subst he
      have HX2 := Lib.hid (show X = if y.n = 1 ∧ Mt.whole 255 y = true then (0, ⟨Mt.num y, Z, 0⟩) else (3, Mt.noF) by rw [HX1.out, if_pos rfl])
      clear HX1
      obtain ⟨wb, hwb⟩ : ∃ wb, wb = Mt.whole 255 y := ⟨_, rfl⟩
      have CC := Lib.hid (fun W => isWholeTo_any y ⟨yp, yc, yq, ye⟩ 255 (.inr rfl) W wb hwb)
      unfold objV at CC
      simp only [] at CC
      by_cases hk : y.n = 1
      · have hkb : (y.n != 1) = false := by rw [hk]; rfl
        cases wb
        · have HV := Lib.hid (show X = (3, Mt.noF) by rw [HX2.out, if_neg (by rw [← hwb]; exact fun h => by cases h.2)])
          clear hk hwb HX2
          go_wp2_with fail
          (with_reducible refine (CC.out _).mono ?_)
          rintro e w4 ⟨rfl, hk4⟩
          have H4 := Lib.hid (H3.out.kept hk4)
          have K4 := Lib.hid (In.k H4.out)
          have RM4 := Lib.hid (RM3.out.kept hk4)
          clear hk4 r0 r1 r2 rf rz
          have r0 := RM4.out.cell 0
          have r1 := RM4.out.cell 1
          have r2 := RM4.out.cell 2
          have rf := RM4.out.free
          have rz := RM4.out.lt
          go_wp2_with fail
          refine bodyPost_ret (v := .tuple #[.agg #[.int .i64 0, .slice none 0 0, .int .i64 0], .int .i64 3]) ?_ rfl ⟨none, 0, by rw [HV.out]; rfl, by rw [HV.out]; exact NuB.nil _ _ _, ?_⟩
          · simp [results, Try.results25, go_sem, r0, r1, r2, rz]
          · repeat (with_reducible first | exact K4.out | refine Kept.drew ?_ | refine Kept.alloc ?_ _ _ | refine Kept.set ?_ (by omega) _)
        · have HV := Lib.hid (show X = (0, ⟨Mt.num y, Z, 0⟩) by rw [HX2.out, if_pos ⟨hk, hwb.symm⟩])
          obtain ⟨-, -, n1, n2, n3⟩ := Mt.num_of hwb.symm
          obtain ⟨q', hq'⟩ : ∃ q', q' = Mt.num y := ⟨_, rfl⟩
          rw [← hq'] at n3 HV
          have N1 := Lib.hid n1
          have M2 := Lib.hid n2
          have M3 := Lib.hid n3
          clear hk hwb HX2 hq' n1 n2 n3
          go_wp2_with fail
          (with_reducible refine (CC.out _).mono ?_)
          rintro e w4 ⟨rfl, hk4⟩
          have H4 := Lib.hid (H3.out.kept hk4)
          have K4 := Lib.hid (In.k H4.out)
          have N4 := Lib.hid (N3.out.kept hk4)
          have RM4 := Lib.hid (RM3.out.kept hk4)
          clear hk4 r0 r1 r2 rf rz
          have r0 := RM4.out.cell 0
          have r1 := RM4.out.cell 1
          have r2 := RM4.out.cell 2
          have rf := RM4.out.free
          have rz := RM4.out.lt
          obtain ⟨y0, y1, y2, y3, y4, y5⟩ := (H4.out.mem List.mem_cons_self).cells6
          have n1 := N1.out
          have n2 := M2.out
          have n3 : y.f / 1000 = (q' : Int) := by rw [← M3.out, Int.tdiv_eq_ediv_of_nonneg N1.out]
          go_wp2_with fail
          refine bodyPost_ret (v := .tuple #[.agg #[.int .i64 q', .slice q Z.length cq, .int .i64 0], .int .i64 0]) ?_ rfl ⟨q, cq, by rw [HV.out]; rfl, ?_, ?_⟩
          · simp [results, Try.results25, go_sem, r0, r1, r2, rz]
          · rw [HV.out]
            refine NuB.mono (B := w.heap.size + 1 + 1 + 1 + 1) ?_ (by omega)
            repeat (with_reducible first | exact N4.out | refine NuB.set ?_ (Nat.lt_succ_self _) _ _)
          · repeat (with_reducible first | exact K4.out | refine Kept.drew ?_ | refine Kept.alloc ?_ _ _ | refine Kept.set ?_ (by omega) _)
      · have hkb : (y.n != 1) = true := by simpa using hk
        have HV := Lib.hid (show X = (3, Mt.noF) by rw [HX2.out, if_neg (fun h => hk h.1)])
        clear hk hwb HX2
        go_wp2_with fail
        refine bodyPost_ret (v := .tuple #[.agg #[.int .i64 0, .slice none 0 0, .int .i64 0], .int .i64 3]) ?_ rfl ⟨none, 0, by rw [HV.out]; rfl, by rw [HV.out]; exact NuB.nil _ _ _, ?_⟩
        · simp [results, Try.results25, go_sem, r0, r1, r2, rz]
        · repeat (with_reducible first | exact K3.out | refine Kept.drew ?_ | refine Kept.alloc ?_ _ _ | refine Kept.set ?_ (by omega) _)
    · have hne : (er != 0) = true := by simpa using he
      have HV := Lib.hid (show X = (er, Mt.noF) by rw [HX1.out, if_neg he])
      clear he HX1
      go_wp2_with fail
      refine bodyPost_ret (v := .tuple #[.agg #[.int .i64 0, .slice none 0 0, .int .i64 0], .int .i64 er]) ?_ rfl ⟨none, 0, by rw [HV.out]; rfl, by rw [HV.out]; exact NuB.nil _ _ _, ?_⟩
      · simp [results, Try.results25, go_sem, r0, r1, r2, rz]
      · repeat (with_reducible first | exact K3.out | refine Kept.drew ?_ | refine Kept.alloc ?_ _ _ | refine Kept.set ?_ (by omega) _)
  · have hne : (ez != 0) = true := by simpa using hz
    have HV := Lib.hid (show X = (ez, Mt.noF) by rw [HX.out, Mt.listV, if_neg hz])
    clear hz HX
    go_wp2_with fail
    refine bodyPost_ret (v := .tuple #[.agg #[.int .i64 0, .slice none 0 0, .int .i64 0], .int .i64 ez]) ?_ rfl ⟨none, 0, by rw [HV.out]; rfl, by rw [HV.out]; exact NuB.nil _ _ _, ?_⟩
    · simp [results, Try.results25, go_sem, r0, r1, r2, rz]
    · repeat (with_reducible first | exact K2.out | refine Kept.drew ?_ | refine Kept.alloc ?_ _ _ | refine Kept.set ?_ (by omega) _)

end Go.Proofs.Ytakbhdhlcnpejaa

namespace Go.Proofs.Ytakbhdhlcnpejaa
open Go.RowKit Cx Sx
set_option linter.unusedSimpArgs false
set_option linter.unusedVariables false

set_option maxRecDepth 100000 in
set_option maxHeartbeats 4000000 in
theorem Of_any (P : Nat → Prop) (l : List Nm) (p : Option Addr) (c : Nat) (t : Ob) (ht : Hd) (o : Ob) (ho : Hd) (w : World) (h : NmR P w p l) (hl : Lies (Cel P w) o ho) (X : Int × Mt.Fo) (hX : X = Mt.ofV l o) :
    Calls Try.prog 9 #[fileV l p c t ht, objV o ho] w (FoPost w X) := by
  obtain ⟨Y, hY⟩ : ∃ Y, Y = resV l o := ⟨_, rfl⟩
  rw [Mt.ofV, ← hY] at hX
  have CR := Lib.hid (fun W (k : Kept w W) => Resolve_any _ l p c t ht o ho W (h.kept k) (hl.kept k) Y hY)
  have HN := Lib.hid h
  have HX := Lib.hid hX
  clear h hl hY hX
  obtain ⟨op, oc, oq, oe⟩ := ho
  have H1 := Lib.hid (In.fresh' (k := w.heap.size + 1 + 1) (In.fresh' (k := w.heap.size + 1) (In.fresh (In.start w) #[.slice p l.length c, .int .i64 t.k, .int .i64 t.n, .int .i64 t.f, .string t.s, .slice ht.p t.l.length ht.c, .slice ht.q t.d.length ht.e] 46) #[.int .i64 o.k, .int .i64 o.n, .int .i64 o.f, .string o.s, .slice op o.l.length oc, .slice oq o.d.length oe] 27 (by simp)) #[.int .i64 0, .slice none 0 0, .int .i64 0] 35 (by simp))
  have K1 := Lib.hid (In.k H1.out)
  obtain ⟨er, y⟩ := Y
  unfold fileV objV at CR
  unfold fileV objV
  simp only [] at CR HX ⊢
  go_enter Try.func9, Try.ntmps9
  go_wp2_with fail
  (with_reducible refine (CR.out _ K1.out).mono ?_)
  rintro e w2 ⟨⟨yp, yc, yq, ye⟩, rfl, hk2, hl2⟩
  have H2 := Lib.hid (In.fresh (H1.out.kept hk2) #[.int .i64 y.k, .int .i64 y.n, .int .i64 y.f, .string y.s, .slice yp y.l.length yc, .slice yq y.d.length ye] 27)
  have S2 := Lib.hid (show w.heap.size + 1 + 1 < w2.heap.size from ((H1.out.kept hk2).mem List.mem_cons_self).lt)
  have K2 := Lib.hid (In.k H2.out)
  have L2 := Lib.hid (hl2.alloc (.cells #[.int .i64 y.k, .int .i64 y.n, .int .i64 y.f, .string y.s, .slice yp y.l.length yc, .slice yq y.d.length ye] 27))
  have RM := Lib.hid (H2.out.mem (List.mem_cons_of_mem _ List.mem_cons_self))
  have FM := Lib.hid (H2.out.mem (List.mem_cons_of_mem _ (List.mem_cons_of_mem _ (List.mem_cons_of_mem _ List.mem_cons_self))))
  have r0 := RM.out.cell 0
  have r1 := RM.out.cell 1
  have r2 := RM.out.cell 2
  have rf := RM.out.free
  have rz := RM.out.lt
  obtain ⟨f0, f1, f2, f3, f4, f5, f6⟩ := FM.out.cells7
  have fz := FM.out.lt
  clear hk2 hl2 H1 K1 CR
  simp only []
  by_cases he : er = 0
  · subst he
    by_cases hk : y.k = 6
    · have hkb : (y.k != 6) = false := by rw [hk]; rfl
      obtain ⟨Z, hZ⟩ : ∃ Z, Z = entryV l y Mt.keyW := ⟨_, rfl⟩
      have HX1 := Lib.hid (show X = if Z.1 = 0 then (if Z.2.k = 0 then Mt.nameV (entryV l y Mt.keyB) else Mt.listV (Mt.widthsV l Z.2) (entryV l y Mt.keyF)) else (Z.1, Mt.noF) by rw [HX.out, if_pos rfl, if_pos hk, ← hZ])
      have CE := Lib.hid (fun W (k : Kept _ W) => (show Calls Try.prog 23 #[fileV l p c t ht, objV y ⟨yp, yc, yq, ye⟩, .string ⟨#[87, 105, 100, 116, 104, 115]⟩] W _ from Entry_any _ l p c t ht y ⟨yp, yc, yq, ye⟩ Mt.keyW W ((HN.out.kept K2.out).kept k) (L2.out.kept k) Z hZ))
      clear hk hZ HX
      obtain ⟨ez, z⟩ := Z
      unfold fileV objV at CE
      simp only [] at CE HX1
      go_wp2_with fail
      (with_reducible refine (CE.out _ (Kept.refl _)).mono ?_)
      rintro e w3 ⟨⟨zp, zc, zq, ze⟩, rfl, hk3, hl3⟩
      have H3 := Lib.hid (In.fresh (H2.out.kept hk3) #[.int .i64 z.k, .int .i64 z.n, .int .i64 z.f, .string z.s, .slice zp z.l.length zc, .slice zq z.d.length ze] 27)
      have S3 := Lib.hid (show w2.heap.size < w3.heap.size from ((H2.out.kept hk3).mem List.mem_cons_self).lt)
      have K3 := Lib.hid (In.k H3.out)
      have L3 := Lib.hid (hl3.alloc (.cells #[.int .i64 z.k, .int .i64 z.n, .int .i64 z.f, .string z.s, .slice zp z.l.length zc, .slice zq z.d.length ze] 27))
      have LY := Lib.hid ((L2.out.kept hk3).alloc (.cells #[.int .i64 z.k, .int .i64 z.n, .int .i64 z.f, .string z.s, .slice zp z.l.length zc, .slice zq z.d.length ze] 27))
      have RM3 := Lib.hid (H3.out.mem (List.mem_cons_of_mem _ (List.mem_cons_of_mem _ List.mem_cons_self)))
      have FM3 := Lib.hid (H3.out.mem (List.mem_cons_of_mem _ (List.mem_cons_of_mem _ (List.mem_cons_of_mem _ (List.mem_cons_of_mem _ List.mem_cons_self)))))
      have YM3 := Lib.hid (H3.out.mem (List.mem_cons_of_mem _ List.mem_cons_self))
      clear hk3 hl3 CE r0 r1 r2 rf rz f0 f1 f2 f3 f4 f5 f6 fz
      have r0 := RM3.out.cell 0
      have r1 := RM3.out.cell 1
      have r2 := RM3.out.cell 2
      have rf := RM3.out.free
      have rz := RM3.out.lt
      obtain ⟨f0, f1, f2, f3, f4, f5, f6⟩ := FM3.out.cells7
      have fz := FM3.out.lt
      obtain ⟨y0, y1, y2, y3, y4, y5⟩ := YM3.out.cells6
      have yz := YM3.out.lt
      simp only []
      by_cases hz : ez = 0
      · subst hz
        by_cases hk0 : z.k = 0
        · have hkb0 : (z.k == 0) = true := by rw [hk0]; rfl
          have HV := Lib.hid (show X = Mt.nameV (entryV l y Mt.keyB) by rw [HX1.out, if_pos rfl, if_pos hk0])
          have CN := Lib.hid (fun W (k : Kept _ W) => named_any _ l p c t ht y ⟨yp, yc, yq, ye⟩ W ((HN.out.kept K3.out).kept k) (LY.out.kept k) X HV.out)
          unfold fileV objV at CN
          clear hk0 HX1
          go_wp2_with fail
          (with_reducible refine (CN.out _ (Kept.refl _)).mono ?_)
          rintro e w4 ⟨q, cq, rfl, hn4, hk4⟩
          unfold Mt.fontV
          have RM4 := Lib.hid (RM3.out.kept hk4)
          have K4 := Lib.hid (K3.out.trans hk4)
          have N4 := Lib.hid (NuB.mono hn4 (show w.heap.size + 1 + 1 + 1 ≤ _ by have := S2.out; have := S3.out; simp; omega))
          clear hn4 hk4 r0 r1 r2 rf rz f0 f1 f2 f3 f4 f5 f6 fz y0 y1 y2 y3 y4 y5 yz
          have r0 := RM4.out.cell 0
          have r1 := RM4.out.cell 1
          have r2 := RM4.out.cell 2
          have rf := RM4.out.free
          have rz := RM4.out.lt
          simp only []
          go_wp2_with fail
          refine bodyPost_ret (v := .tuple #[.agg #[.int .i64 X.2.first, .slice q X.2.ws.length cq, .int .i64 X.2.other], .int .i64 X.1]) ?_ rfl ⟨q, cq, rfl, ?_, ?_⟩
          · simp [results, Try.results9, go_sem, r0, r1, r2, rz]
          · refine NuB.mono (B := w.heap.size + 1 + 1 + 1) ?_ (by omega)
            repeat (with_reducible first | exact N4.out | refine NuB.set ?_ (Nat.lt_succ_self _) _ _)
          · repeat (with_reducible first | exact K4.out | refine Kept.drew ?_ | refine Kept.alloc ?_ _ _ | refine Kept.set ?_ (by omega) _)
        · have hkb0 : (z.k == 0) = false := by simpa using hk0
          have HV := Lib.hid (show X = Mt.listV (Mt.widthsV l z) (entryV l y Mt.keyF) by rw [HX1.out, if_pos rfl, if_neg hk0])
          have CN := Lib.hid (fun W (k : Kept _ W) => listed_any _ l p c t ht y ⟨yp, yc, yq, ye⟩ z ⟨zp, zc, zq, ze⟩ W ((HN.out.kept K3.out).kept k) (LY.out.kept k) (L3.out.kept k) X HV.out)
          unfold fileV objV at CN
          clear hk0 HX1
          go_wp2_with fail
          (with_reducible refine (CN.out _ (Kept.refl _)).mono ?_)
          rintro e w4 ⟨q, cq, rfl, hn4, hk4⟩
          unfold Mt.fontV
          have RM4 := Lib.hid (RM3.out.kept hk4)
          have K4 := Lib.hid (K3.out.trans hk4)
          have N4 := Lib.hid (NuB.mono hn4 (show w.heap.size + 1 + 1 + 1 ≤ _ by have := S2.out; have := S3.out; simp; omega))
          clear hn4 hk4 r0 r1 r2 rf rz f0 f1 f2 f3 f4 f5 f6 fz y0 y1 y2 y3 y4 y5 yz
          have r0 := RM4.out.cell 0
          have r1 := RM4.out.cell 1
          have r2 := RM4.out.cell 2
          have rf := RM4.out.free
          have rz := RM4.out.lt
          simp only []
          go_wp2_with fail
          refine bodyPost_ret (v := .tuple #[.agg #[.int .i64 X.2.first, .slice q X.2.ws.length cq, .int .i64 X.2.other], .int .i64 X.1]) ?_ rfl ⟨q, cq, rfl, ?_, ?_⟩
          · simp [results, Try.results9, go_sem, r0, r1, r2, rz]
          · refine NuB.mono (B := w.heap.size + 1 + 1 + 1) ?_ (by omega)
            repeat (with_reducible first | exact N4.out | refine NuB.set ?_ (Nat.lt_succ_self _) _ _)
          · repeat (with_reducible first | exact K4.out | refine Kept.drew ?_ | refine Kept.alloc ?_ _ _ | refine Kept.set ?_ (by omega) _)
      · have hne : (ez != 0) = true := by simpa using hz
        have HV := Lib.hid (show X = (ez, Mt.noF) by rw [HX1.out, if_neg hz])
        clear hz HX1
        go_wp2_with fail
        refine bodyPost_ret (v := .tuple #[.agg #[.int .i64 0, .slice none 0 0, .int .i64 0], .int .i64 ez]) ?_ rfl ⟨none, 0, by rw [HV.out]; rfl, by rw [HV.out]; exact NuB.nil _ _ _, ?_⟩
        · simp [results, Try.results9, go_sem, r0, r1, r2, rz]
        · repeat (with_reducible first | exact K3.out | refine Kept.drew ?_ | refine Kept.alloc ?_ _ _ | refine Kept.set ?_ (by omega) _)
    · have hkb : (y.k != 6) = true := by simpa using hk
      have HV := Lib.hid (show X = (9, Mt.noF) by rw [HX.out, if_pos rfl, if_neg hk])
      clear hk HX
      go_wp2_with fail
      refine bodyPost_ret (v := .tuple #[.agg #[.int .i64 0, .slice none 0 0, .int .i64 0], .int .i64 9]) ?_ rfl ⟨none, 0, by rw [HV.out]; rfl, by rw [HV.out]; exact NuB.nil _ _ _, ?_⟩
      · simp [results, Try.results9, go_sem, r0, r1, r2, rz]
      · repeat (with_reducible first | exact K2.out | refine Kept.drew ?_ | refine Kept.alloc ?_ _ _ | refine Kept.set ?_ (by omega) _)
  · have hne : (er != 0) = true := by simpa using he
    have HV := Lib.hid (show X = (er, Mt.noF) by rw [HX.out, if_neg he])
    clear he HX
    go_wp2_with fail
    refine bodyPost_ret (v := .tuple #[.agg #[.int .i64 0, .slice none 0 0, .int .i64 0], .int .i64 er]) ?_ rfl ⟨none, 0, by rw [HV.out]; rfl, by rw [HV.out]; exact NuB.nil _ _ _, ?_⟩
    · simp [results, Try.results9, go_sem, r0, r1, r2, rz]
    · repeat (with_reducible first | exact K2.out | refine Kept.drew ?_ | refine Kept.alloc ?_ _ _ | refine Kept.set ?_ (by omega) _)

end Go.Proofs.Ytakbhdhlcnpejaa
