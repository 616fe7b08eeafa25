/-
  What putObject puts of a reference; and of any object.
  The builder, and what Object answers of any object.
-/
import Derived.Test.YtkpagahnmbchjaaGreatDoorWrB
namespace Go.Proofs.YtkpagahnmbchjaaGreatDoor
open Go.RowKit Cx
set_option linter.unusedSimpArgs false
set_option linter.unusedVariables false

set_option maxRecDepth 100000 in
set_option maxHeartbeats 4000000 in
theorem putK_7 (n f : Int) (s : ByteArray) (l : List Ob) (d : List Entr) (h0 : -9223372036854775808 ≤ n) (h1 : n ≤ 9223372036854775807) : PutC (.mk 7 n f s l d) := by
  rintro ⟨p, c, q, ec⟩ B b acc w hl hb hf hlen
  rw [show (Ob.mk 7 n f s l d).text = Lib.itoa n ++ [32] ++ Fx.printL f ++ [32, 82] by rw [text_mk]; simp] at hlen ⊢
  have B1 := Lib.hid (hb.alloc #[.int .i64 7, .int .i64 n, .int .i64 f, .string s, .slice p l.length c, .slice q d.length ec] 32)
  have F1 := Lib.hid ((Fr.refl B b w).alloc hb.2 #[.int .i64 7, .int .i64 n, .int .i64 f, .string s, .slice p l.length c, .slice q d.length ec] 32)
  have BK := Lib.hid (Blk.fresh w #[.int .i64 7, .int .i64 n, .int .i64 f, .string s, .slice p l.length c, .slice q d.length ec] 32)
  have HNE := Lib.hid (show w.heap.size ≠ b by have := hb.at; omega)
  have FW := Lib.hid (hf.below F1.out.1).1
  have HI := Lib.hid (fun w' (k : Fine w') => Itoa_any n w' h0 h1 k)
  have HP := Lib.hid (fun w' (k : Fine w') => Print_any f w' k)
  obtain ⟨T, hT⟩ : ∃ T, T = Lib.itoa n := ⟨_, rfl⟩
  obtain ⟨U, hU⟩ : ∃ U, U = Fx.printL f := ⟨_, rfl⟩
  rw [← hT, ← hU] at hlen ⊢
  rw [← hT] at HI
  rw [← hU] at HP
  have HN := Lib.hid hlen
  clear hl hb hf hlen hT hU h0 h1
  unfold putV objV
  simp only [Ob.k, Ob.n, Ob.f, Ob.s, Ob.l, Ob.d]
  go_enter Tryz.func40, Tryz.ntmps40
  go_wp2_with fail
  obtain ⟨W0, hW0⟩ : ∃ W0, W0 = w.alloc (.cells #[.int .i64 7, .int .i64 n, .int .i64 f, .string s, .slice p l.length c, .slice q d.length ec] 32) := ⟨_, rfl⟩
  rw [← hW0] at B1 F1 BK FW ⊢
  clear hW0
  have SK := Lib.hid (show ∀ w', Kept W0 w' → w'.cell? ⟨w.heap.size, 1, none⟩ = some (.int .i64 n) ∧ w'.cell? ⟨w.heap.size, 2, none⟩ = some (.int .i64 f) from fun w' k => by
    obtain ⟨-, a, b, -⟩ := (BK.out.kept k).cells6
    exact ⟨a, b⟩)
  have P4 := Lib.hid (show ∀ (N : Nat) w', Kept W0 w' → N = w'.heap.size → Calls Tryz.prog 48 #[.slice (some ⟨N, 0, none⟩) 4 4, .pointer (some ⟨b, 0, none⟩)] (w'.alloc (.cells #[.string ⟨T.toArray⟩, .string ⟨#[32]⟩, .string ⟨U.toArray⟩, .string ⟨#[32, 82]⟩] 9)) (fun e w'' => e = .returned (.tuple #[]) ∧ Hid (Bld B b (acc ++ (T ++ [32] ++ U ++ [32, 82])) w'') ∧ Hid (Fr B b w w'') ∧ w''.cell? ⟨w.heap.size, 1, none⟩ = some (.int .i64 n) ∧ w''.cell? ⟨w.heap.size, 2, none⟩ = some (.int .i64 f)) from fun N w' k hN => by
    subst hN
    refine (put4_any B b acc ⟨T.toArray⟩ ⟨#[32]⟩ ⟨U.toArray⟩ ⟨#[32, 82]⟩ w' (B1.out.kept k) ?_).mono ?_
    · have := HN.out
      simp only [List.length_append, List.length_cons, List.length_nil] at this
      show _ + (T.toArray.size + 1 + U.toArray.size + 2) ≤ _
      rw [List.size_toArray, List.size_toArray]; omega
    · rintro e w'' ⟨he, hb, hf⟩
      obtain ⟨-, u1, u2, -⟩ := (hf.blk (BK.out.kept k) HNE.out (by decide)).cells6
      exact ⟨he, Lib.hid hb, Lib.hid ((F1.out.kept k B1.out.2).trans hf), u1, u2⟩)
  have KX := Lib.hid (Kept.refl W0)
  obtain ⟨t1, t2⟩ := SK.out _ KX.out
  go_region_held3 (fun w' => w'.cell? ⟨w.heap.size, 1, none⟩ = some (.int .i64 n) ∧ w'.cell? ⟨w.heap.size, 2, none⟩ = some (.int .i64 f)) (go_keep)
    (first
    | (go_at_call 53; (first | (with_reducible refine (HI.out _ (FW.out.kept KX.out)).mono ?_) | (with_reducible refine (HI.out _ (FW.out.kept KX.out.drew)).mono ?_) | (with_reducible refine (HI.out _ (FW.out.kept KX.out.drew.drew)).mono ?_)); rintro e wn ⟨rfl, kn⟩; (first | (with_reducible have KX := Lib.hid (KX.out.trans kn)) | (with_reducible have KX := Lib.hid (KX.out.drew.trans kn)) | (with_reducible have KX := Lib.hid (KX.out.drew.drew.trans kn))); obtain ⟨t1, t2⟩ := SK.out _ KX.out)
    | (go_at_call 54; (first | (with_reducible refine (HP.out _ (FW.out.kept KX.out)).mono ?_) | (with_reducible refine (HP.out _ (FW.out.kept KX.out.drew)).mono ?_) | (with_reducible refine (HP.out _ (FW.out.kept KX.out.drew.drew)).mono ?_)); rintro e wn ⟨rfl, kn⟩; (first | (with_reducible have KX := Lib.hid (KX.out.trans kn)) | (with_reducible have KX := Lib.hid (KX.out.drew.trans kn)) | (with_reducible have KX := Lib.hid (KX.out.drew.drew.trans kn))); obtain ⟨t1, t2⟩ := SK.out _ KX.out)
    | (go_at_call 48; (first | (with_reducible refine (P4.out _ _ KX.out rfl).mono ?_) | (with_reducible refine (P4.out _ _ KX.out.drew rfl).mono ?_) | (with_reducible refine (P4.out _ _ KX.out.drew.drew rfl).mono ?_) | (with_reducible refine (P4.out _ _ KX.out.drew.drew.drew rfl).mono ?_)); rintro e wz ⟨rfl, BZ, FZ, t1, t2⟩))
  all_goals
    go_wp2_with fail
    refine bodyPost_end (results_none rfl _ _ _) rfl ?_
    exact ⟨rfl, BZ.out, FZ.out⟩

/-- No text of it is longer than 2^32, no row neither; its whole number is one of 64 bits. -/
inductive Ob.Ok : Ob → Prop
  | mk (k n f : Int) (s : ByteArray) (l : List Ob) (d : List (ByteArray × Ob)) (h0 : -9223372036854775808 ≤ n) (h1 : n ≤ 9223372036854775807) (hs : s.size ≤ 4294967296) (hl : l.length ≤ 4294967296) (hd : d.length ≤ 4294967296) (hL : ∀ x ∈ l, Ob.Ok x) (hK : ∀ e ∈ d, e.1.size ≤ 4294967296) (hD : ∀ e ∈ d, Ob.Ok e.2) : Ob.Ok (.mk k n f s l d)

theorem putObject_step (x : Ob) (hx : Ob.Ok x) (IHL : ∀ z ∈ x.l, PutC z) (IHD : ∀ z ∈ x.d, PutC z.2) : PutC x := by
  cases hx with
  | mk k n f s l d h0 h1 hs hl hd hL hK hD =>
    by_cases hk : k < 0 ∨ 8 < k
    · exact putK_no k n f s l d hk
    · have : k = 0 ∨ k = 1 ∨ k = 2 ∨ k = 3 ∨ k = 4 ∨ k = 5 ∨ k = 6 ∨ k = 7 ∨ k = 8 := by omega
      rcases this with rfl | rfl | rfl | rfl | rfl | rfl | rfl | rfl | rfl
      · exact putK_0 n f s l d
      · exact putK_1 n f s l d
      · exact putK_2 n f s l d
      · exact putK_3 n f s l d hs
      · exact putK_4 n f s l d hs
      · exact putK_5 n f s l d IHL hl
      · exact putK_6 n f s l d IHD hd hK
      · exact putK_7 n f s l d h0 h1
      · exact putK_8 n f s l d IHD hd hK

/-- putObject puts an object's text. -/
theorem putObject_any (N : Nat) : ∀ (x : Ob), SizeOf.sizeOf x ≤ N → Ob.Ok x → PutC x := by
  induction N with
  | zero => intro x hN; cases x; simp at hN
  | succ N ih =>
    intro x hN hx
    refine putObject_step x hx (fun z hz => ?_) (fun z hz => ?_)
    · exact ih z (by have := sizeOf_l hz; omega) (by cases hx with | mk _ _ _ _ _ _ _ _ _ _ _ hL _ _ => exact hL z hz)
    · exact ih z.2 (by have := sizeOf_d hz; omega) (by cases hx with | mk _ _ _ _ _ _ _ _ _ _ _ _ _ hD => exact hD z hz)

end Go.Proofs.YtkpagahnmbchjaaGreatDoor

namespace Go.Proofs.YtkpagahnmbchjaaGreatDoor
open Go.RowKit Cx
set_option linter.unusedSimpArgs false
set_option linter.unusedVariables false

abbrev toldV (b : Nat) : Value := .func (.func 20) #[.pointer (some ⟨b, 0, none⟩)] #[]

theorem Bld.fresh (w : World) : Bld w.heap.size w.heap.size [] (w.alloc (.cells #[.pointer none, .slice none 0 0] 54 (0, 0))) := by
  refine ⟨.inl ⟨Nat.le_refl _, .slice none 0 0, Array.getElem?_push_size, ⟨rfl, .inl ⟨rfl, rfl⟩⟩, ?_⟩, ?_⟩
  · intro h; cases h
  · show _ ≤ (w.heap.push _).size
    rw [Array.size_push]; omega

theorem builder_any (w : World) :
    Calls Tryz.prog 39 #[] w fun e w' => e = .returned (.tuple #[putV w.heap.size, toldV w.heap.size]) ∧ Bld w.heap.size w.heap.size [] w' ∧ Kept w w' := by
  have B1 := Lib.hid (Bld.fresh w)
  have K1 := Lib.hid ((Kept.refl w).alloc #[.pointer none, .slice none 0 0] 54)
  unfold putV toldV
  go_enter Tryz.func39, Tryz.ntmps39
  go_wp2_with fail
  go_ret2
  exact ⟨rfl, B1.out, K1.out⟩

theorem FB.of {w : World} (h : Fine w) : FB w.heap.size w := by
  refine ⟨h, ?_, ?_⟩
  · obtain ⟨⟨m, hm⟩, -⟩ := h
    rcases Nat.lt_or_ge 0 w.heap.size with h | h
    · exact h
    · unfold World.cell? at hm
      rw [Array.getElem?_eq_none h] at hm
      cases hm
  · obtain ⟨-, ht⟩ := h
    unfold Lib.TabIs World.var? at ht
    rw [show Tryz.prog.globalNamed "internal/strconv.uint64pow10" = some 1 by kernel_rfl] at ht
    simp only [Option.bind_some] at ht
    rcases Nat.lt_or_ge 1 w.heap.size with h | h
    · exact h
    · rw [Array.getElem?_eq_none h] at ht
      cases ht

theorem Lies.low {P : Nat → Prop} {w w' : World} {o : Ob} {h : Hd} {B : Nat} (hl : Lies (Cel P w) o h) (k : Kept w w') (hB : w.heap.size ≤ B) : Lies (Cel (fun k => k < B) w') o h :=
  hl.keep fun b _ hlt => ⟨Nat.lt_of_lt_of_le hlt hB, k.block b hlt⟩

/-- What Object answers of an object, and why it may not be written. -/
def Cx.objT (x : Ob) : List UInt8 := if x.sane 0 ≠ 0 then [] else if x.k = 8 then [] else x.text
def Cx.objE (x : Ob) : Int := if x.sane 0 ≠ 0 then x.sane 0 else if x.k = 8 then 1 else 0

set_option maxRecDepth 100000 in
set_option maxHeartbeats 4000000 in
theorem ObjectW_any (P : Nat → Prop) (x : Ob) (h : Hd) (w : World) (hl : Lies (Cel P w) x h) (hf : Fine w) (hx : x.sane 0 = 0 → Ob.Ok x) (hlen : x.sane 0 = 0 → x.text.length ≤ 140737488355328) :
    Calls Tryz.prog 29 #[objV x h] w fun e w' => e = .returned (.tuple #[.string ⟨(objT x).toArray⟩, .int .i64 (objE x)]) ∧ Kept w w' := by
  have HS := Lib.hid (fun w' (k : Kept w w') => SaneW_any P x h w' (hl.kept k))
  have HL := Lib.hid hl
  have HF := Lib.hid hf
  have HP := Lib.hid (fun (h0 : x.sane 0 = 0) => putObject_any _ x (Nat.le_refl _) (hx h0) h)
  have HN := Lib.hid hlen
  obtain ⟨T, hT⟩ : ∃ T, T = x.text := ⟨_, rfl⟩
  obtain ⟨V, hV⟩ : ∃ V, V = x.sane 0 := ⟨_, rfl⟩
  obtain ⟨TT, hTT⟩ : ∃ TT, TT = objT x := ⟨_, rfl⟩
  obtain ⟨EE, hEE⟩ : ∃ EE, EE = objE x := ⟨_, rfl⟩
  have HT := Lib.hid (show TT = if V ≠ 0 then [] else if x.k = 8 then [] else T by rw [hTT, hV, hT]; rfl)
  have HE := Lib.hid (show EE = if V ≠ 0 then V else if x.k = 8 then 1 else 0 by rw [hEE, hV]; rfl)
  rw [← hTT, ← hEE]
  rw [← hV] at HS HP HN
  rw [← hT] at HN
  have HTX := Lib.hid hT
  clear hl hf hx hlen hT hV hTT hEE
  obtain ⟨p, c, q, ec⟩ := h
  obtain ⟨k, n, f, s, l, d⟩ := x
  have HT := Lib.hid (show TT = if V ≠ 0 then [] else if k = 8 then [] else T from HT.out)
  have HE := Lib.hid (show EE = if V ≠ 0 then V else if k = 8 then 1 else 0 from HE.out)
  unfold putV objV at HP
  unfold objV at HS ⊢
  simp only [Ob.k, Ob.n, Ob.f, Ob.s, Ob.l, Ob.d] at HS HP ⊢
  have K1 := Lib.hid ((Kept.refl w).alloc #[.int .i64 k, .int .i64 n, .int .i64 f, .string s, .slice p l.length c, .slice q d.length ec] 32)
  have BK := Lib.hid (Blk.fresh w #[.int .i64 k, .int .i64 n, .int .i64 f, .string s, .slice p l.length c, .slice q d.length ec] 32)
  by_cases hv : V = 0
  · subst hv
    by_cases h8 : k = 8
    · subst h8
      obtain rfl : TT = [] := by rw [HT.out, if_neg (fun h => h rfl), if_pos rfl]
      obtain rfl : EE = 1 := by rw [HE.out, if_neg (fun h => h rfl), if_pos rfl]
      clear HT HE
      go_enter Tryz.func29, Tryz.ntmps29
      go_wp2_with fail
      (with_reducible refine (HS.out _ K1.out).mono ?_)
      rintro e w1 ⟨rfl, hk1⟩
      have K2 := Lib.hid (K1.out.trans hk1)
      have BK2 := Lib.hid (BK.out.kept hk1)
      obtain ⟨u0, u1, u2, u3, u4, u5⟩ := BK2.out.cells6
      clear hk1
      go_wp2_with fail
      go_ret2
      exact ⟨rfl, K2.out⟩
    · have h8' : (k == 8) = false := by rw [beq_eq_false_iff_ne]; exact h8
      obtain rfl : TT = T := by rw [HT.out, if_neg (fun h => h rfl), if_neg h8]
      obtain rfl : EE = 0 := by rw [HE.out, if_neg (fun h => h rfl), if_neg h8]
      clear HT HE
      clear h8
      go_enter Tryz.func29, Tryz.ntmps29
      go_wp2_with fail
      (with_reducible refine (HS.out _ K1.out).mono ?_)
      rintro e w1 ⟨rfl, hk1⟩
      have K2 := Lib.hid (K1.out.trans hk1)
      have BK2 := Lib.hid (BK.out.kept hk1)
      obtain ⟨u0, u1, u2, u3, u4, u5⟩ := BK2.out.cells6
      clear hk1
      have BU := Lib.hid (builder_any w1)
      unfold putV toldV at BU
      go_wp2_with fail
      (with_reducible refine BU.out.mono ?_)
      rintro e w2 ⟨rfl, hb2, hk2⟩
      have B2 := Lib.hid hb2
      have K3 := Lib.hid (K2.out.trans hk2)
      have F2 := Lib.hid ((FB.of (HF.out.kept K2.out)).kept hk2)
      have L2 := Lib.hid (Lies.low HL.out K3.out K2.out.size)
      have PO := Lib.hid (HP.out (by simp) _ _ [] w2 L2.out B2.out F2.out (by rw [← HTX.out]; have := HN.out (by simp); simpa using this))
      rw [List.nil_append, ← HTX.out] at PO
      obtain ⟨u0, u1, u2, u3, u4, u5⟩ := (BK2.out.kept hk2).cells6
      have KB := Lib.hid (show Below w1.heap.size w1 w2 from hk2)
      clear hb2 hk2 h8'
      go_wp2_with fail
      (with_reducible refine PO.out.mono ?_)
      rintro e w3 ⟨rfl, hb3, hf3⟩
      have TD := Lib.hid (Tryz.Builder_String_any_k _ _ _ w3 hb3.1 hb3.2)
      have KC := Lib.hid (KB.out.trans hf3.1)
      clear hb3 hf3 u0 u1 u2 u3 u4 u5
      go_wp2_with fail
      (with_reducible refine TD.out.mono ?_)
      rintro e w4 ⟨rfl, -, hk4, -⟩
      have K4 := Lib.hid (show Kept w w4 from K2.out.trans (show Kept w1 w4 from KC.out.trans hk4))
      clear hk4
      go_wp2_with fail
      go_ret2
      exact ⟨rfl, K4.out⟩
  · have hv' : (V == 0) = false := by rw [beq_eq_false_iff_ne]; exact hv
    obtain rfl : TT = [] := by rw [HT.out, if_pos hv]
    obtain rfl : EE = V := by rw [HE.out, if_pos hv]
    clear HT HE
    go_enter Tryz.func29, Tryz.ntmps29
    go_wp2_with fail
    (with_reducible refine (HS.out _ K1.out).mono ?_)
    rintro e w1 ⟨rfl, hk1⟩
    have K2 := Lib.hid (K1.out.trans hk1)
    clear hk1
    go_wp2_with fail
    go_ret2
    exact ⟨rfl, K2.out⟩

end Go.Proofs.YtkpagahnmbchjaaGreatDoor
