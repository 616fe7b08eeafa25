/-
  The builder, and what Object answers of any object.
-/
import Derived.Test.YtkobcgemllcfoaaDoorWriteRef
namespace Go.Proofs.YtkobcgemllcfoaaDoor
open Go.RowKit Cx
set_option linter.unusedSimpArgs false
set_option linter.unusedVariables false

abbrev toldV (b : Nat) : Value := .func (.func 58) #[.pointer (some ⟨b, 0, none⟩)] #[]

theorem Bld.fresh (w : World) : Bld w.heap.size w.heap.size [] (w.alloc (.cells #[.pointer none, .slice none 0 0] 90 (0, 0))) := by
  refine ⟨.inl ⟨Nat.le_refl _, .slice none 0 0, Array.getElem?_push_size, ⟨rfl, .inl ⟨rfl, rfl⟩⟩, ?_⟩, ?_⟩
  · intro h; cases h
  · show _ ≤ (w.heap.push _).size
    rw [Array.size_push]; omega

theorem builder_any (w : World) :
    Calls Tryd.prog 31 #[] w fun e w' => e = .returned (.tuple #[putV w.heap.size, toldV w.heap.size]) ∧ Bld w.heap.size w.heap.size [] w' ∧ Kept w w' := by
  have B1 := Lib.hid (Bld.fresh w)
  have K1 := Lib.hid ((Kept.refl w).alloc #[.pointer none, .slice none 0 0] 90)
  unfold putV toldV
  go_enter Tryd.func31, Tryd.ntmps31
  go_wp2_with fail
  go_ret2
  exact ⟨rfl, B1.out, K1.out⟩

theorem FB.of {w : World} (h : Fine w) : FB w.heap.size w := by
  refine ⟨h, ?_, ?_⟩
  · obtain ⟨⟨m, hm⟩, -⟩ := h
    rcases Nat.lt_or_ge 2 w.heap.size with h | h
    · exact h
    · unfold World.cell? at hm
      rw [Array.getElem?_eq_none h] at hm
      cases hm
  · obtain ⟨-, ht⟩ := h
    unfold Lib.TabIs World.var? at ht
    rw [show Tryd.prog.globalNamed "internal/strconv.uint64pow10" = some 1 by kernel_rfl] at ht
    simp only [Option.bind_some] at ht
    rcases Nat.lt_or_ge 1 w.heap.size with h | h
    · exact h
    · rw [Array.getElem?_eq_none h] at ht
      cases ht

theorem Lies.low {P : Nat → Prop} {w w' : World} {o : Ob} {h : Hd} {B : Nat} (hl : Lies (Cel P w) o h) (k : Kept w w') (hB : w.heap.size ≤ B) : Lies (Cel (fun k => k < B) w') o h :=
  hl.keep fun b _ hlt => ⟨Nat.lt_of_lt_of_le hlt hB, k.block b hlt⟩

/-- What Object answers of an object, and why it may not be written. -/
def Cx.objT (x : Ob) : List UInt8 := if x.sane 0 ≠ 0 then [] else if x.k = 8 then [] else x.text
def Cx.objE (x : Ob) : Int := if x.sane 0 ≠ 0 then x.sane 0 else if x.k = 8 then 1 else 0

set_option maxRecDepth 100000 in
set_option maxHeartbeats 4000000 in
theorem ObjectW_any (P : Nat → Prop) (x : Ob) (h : Hd) (w : World) (hl : Lies (Cel P w) x h) (hf : Fine w) (hx : x.sane 0 = 0 → Ob.Ok x) (hlen : x.sane 0 = 0 → x.text.length ≤ 140737488355328) :
    Calls Tryd.prog 14 #[objV x h] w fun e w' => e = .returned (.tuple #[.string ⟨(objT x).toArray⟩, .int .i64 (objE x)]) ∧ Kept w w' := by
  have HS := Lib.hid (fun w' (k : Kept w w') => SaneW_any P x h w' (hl.kept k))
  have HL := Lib.hid hl
  have HF := Lib.hid hf
  have HP := Lib.hid (fun (h0 : x.sane 0 = 0) => putObject_any _ x (Nat.le_refl _) (hx h0) h)
  have HN := Lib.hid hlen
  obtain ⟨T, hT⟩ : ∃ T, T = x.text := ⟨_, rfl⟩
  obtain ⟨V, hV⟩ : ∃ V, V = x.sane 0 := ⟨_, rfl⟩
  obtain ⟨TT, hTT⟩ : ∃ TT, TT = objT x := ⟨_, rfl⟩
  obtain ⟨EE, hEE⟩ : ∃ EE, EE = objE x := ⟨_, rfl⟩
  have HT := Lib.hid (show TT = if V ≠ 0 then [] else if x.k = 8 then [] else T by rw [hTT, hV, hT]; rfl)
  have HE := Lib.hid (show EE = if V ≠ 0 then V else if x.k = 8 then 1 else 0 by rw [hEE, hV]; rfl)
  rw [← hTT, ← hEE]
  rw [← hV] at HS HP HN
  rw [← hT] at HN
  have HTX := Lib.hid hT
  clear hl hf hx hlen hT hV hTT hEE
  obtain ⟨p, c, q, ec⟩ := h
  obtain ⟨k, n, f, s, l, d⟩ := x
  have HT := Lib.hid (show TT = if V ≠ 0 then [] else if k = 8 then [] else T from HT.out)
  have HE := Lib.hid (show EE = if V ≠ 0 then V else if k = 8 then 1 else 0 from HE.out)
  unfold putV objV at HP
  unfold objV at HS ⊢
  simp only [Ob.k, Ob.n, Ob.f, Ob.s, Ob.l, Ob.d] at HS HP ⊢
  have K1 := Lib.hid ((Kept.refl w).alloc #[.int .i64 k, .int .i64 n, .int .i64 f, .string s, .slice p l.length c, .slice q d.length ec] 26)
  have BK := Lib.hid (Blk.fresh w #[.int .i64 k, .int .i64 n, .int .i64 f, .string s, .slice p l.length c, .slice q d.length ec] 26)
  by_cases hv : V = 0
  · subst hv
    by_cases h8 : k = 8
    · subst h8
      obtain rfl : TT = [] := by rw [HT.out, if_neg (fun h => h rfl), if_pos rfl]
      obtain rfl : EE = 1 := by rw [HE.out, if_neg (fun h => h rfl), if_pos rfl]
      clear HT HE
      go_enter Tryd.func14, Tryd.ntmps14
      go_wp2_with fail
      (with_reducible refine (HS.out _ K1.out).mono ?_)
      rintro e w1 ⟨rfl, hk1⟩
      have K2 := Lib.hid (K1.out.trans hk1)
      have BK2 := Lib.hid (BK.out.kept hk1)
      obtain ⟨u0, u1, u2, u3, u4, u5⟩ := BK2.out.cells6
      clear hk1
      go_wp2_with fail
      go_ret2
      exact ⟨rfl, K2.out⟩
    · have h8' : (k == 8) = false := by rw [beq_eq_false_iff_ne]; exact h8
      obtain rfl : TT = T := by rw [HT.out, if_neg (fun h => h rfl), if_neg h8]
      obtain rfl : EE = 0 := by rw [HE.out, if_neg (fun h => h rfl), if_neg h8]
      clear HT HE
      clear h8
      go_enter Tryd.func14, Tryd.ntmps14
      go_wp2_with fail
      (with_reducible refine (HS.out _ K1.out).mono ?_)
      rintro e w1 ⟨rfl, hk1⟩
      have K2 := Lib.hid (K1.out.trans hk1)
      have BK2 := Lib.hid (BK.out.kept hk1)
      obtain ⟨u0, u1, u2, u3, u4, u5⟩ := BK2.out.cells6
      clear hk1
      have BU := Lib.hid (builder_any w1)
      unfold putV toldV at BU
      go_wp2_with fail
      (with_reducible refine BU.out.mono ?_)
      rintro e w2 ⟨rfl, hb2, hk2⟩
      have B2 := Lib.hid hb2
      have K3 := Lib.hid (K2.out.trans hk2)
      have F2 := Lib.hid ((FB.of (HF.out.kept K2.out)).kept hk2)
      have L2 := Lib.hid (Lies.low HL.out K3.out K2.out.size)
      have PO := Lib.hid (HP.out (by simp) _ _ [] w2 L2.out B2.out F2.out (by rw [← HTX.out]; have := HN.out (by simp); simpa using this))
      rw [List.nil_append, ← HTX.out] at PO
      obtain ⟨u0, u1, u2, u3, u4, u5⟩ := (BK2.out.kept hk2).cells6
      have KB := Lib.hid (show Below w1.heap.size w1 w2 from hk2)
      clear hb2 hk2 h8'
      go_wp2_with fail
      (with_reducible refine PO.out.mono ?_)
      rintro e w3 ⟨rfl, hb3, hf3⟩
      have TD := Lib.hid (Tryd.Builder_String_any_k _ _ _ w3 hb3.1 hb3.2)
      have KC := Lib.hid (KB.out.trans hf3.1)
      clear hb3 hf3 u0 u1 u2 u3 u4 u5
      go_wp2_with fail
      (with_reducible refine TD.out.mono ?_)
      rintro e w4 ⟨rfl, -, hk4, -⟩
      have K4 := Lib.hid (show Kept w w4 from K2.out.trans (show Kept w1 w4 from KC.out.trans hk4))
      clear hk4
      go_wp2_with fail
      go_ret2
      exact ⟨rfl, K4.out⟩
  · have hv' : (V == 0) = false := by rw [beq_eq_false_iff_ne]; exact hv
    obtain rfl : TT = [] := by rw [HT.out, if_pos hv]
    obtain rfl : EE = V := by rw [HE.out, if_pos hv]
    clear HT HE
    go_enter Tryd.func14, Tryd.ntmps14
    go_wp2_with fail
    (with_reducible refine (HS.out _ K1.out).mono ?_)
    rintro e w1 ⟨rfl, hk1⟩
    have K2 := Lib.hid (K1.out.trans hk1)
    clear hk1
    go_wp2_with fail
    go_ret2
    exact ⟨rfl, K2.out⟩

end Go.Proofs.YtkobcgemllcfoaaDoor
