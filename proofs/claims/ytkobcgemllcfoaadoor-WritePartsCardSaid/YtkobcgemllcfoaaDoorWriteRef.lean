/-
  What putObject puts of a reference; and of any object.
-/
import Derived.Test.YtkobcgemllcfoaaDoorWriteObj
namespace Go.Proofs.YtkobcgemllcfoaaDoor
open Go.RowKit Cx
set_option linter.unusedSimpArgs false
set_option linter.unusedVariables false

set_option maxRecDepth 100000 in
set_option maxHeartbeats 4000000 in
theorem putK_7 (n f : Int) (s : ByteArray) (l : List Ob) (d : List Entr) (h0 : -9223372036854775808 ≤ n) (h1 : n ≤ 9223372036854775807) : PutC (.mk 7 n f s l d) := by
  rintro ⟨p, c, q, ec⟩ B b acc w hl hb hf hlen
  rw [show (Ob.mk 7 n f s l d).text = Lib.itoa n ++ [32] ++ Fx.printL f ++ [32, 82] by rw [text_mk]; simp] at hlen ⊢
  have B1 := Lib.hid (hb.alloc #[.int .i64 7, .int .i64 n, .int .i64 f, .string s, .slice p l.length c, .slice q d.length ec] 26)
  have F1 := Lib.hid ((Fr.refl B b w).alloc hb.2 #[.int .i64 7, .int .i64 n, .int .i64 f, .string s, .slice p l.length c, .slice q d.length ec] 26)
  have BK := Lib.hid (Blk.fresh w #[.int .i64 7, .int .i64 n, .int .i64 f, .string s, .slice p l.length c, .slice q d.length ec] 26)
  have HNE := Lib.hid (show w.heap.size ≠ b by have := hb.at; omega)
  have FW := Lib.hid (hf.below F1.out.1).1
  have HI := Lib.hid (fun w' (k : Fine w') => Itoa_any n w' h0 h1 k)
  have HP := Lib.hid (fun w' (k : Fine w') => Print_any f w' k)
  obtain ⟨T, hT⟩ : ∃ T, T = Lib.itoa n := ⟨_, rfl⟩
  obtain ⟨U, hU⟩ : ∃ U, U = Fx.printL f := ⟨_, rfl⟩
  rw [← hT, ← hU] at hlen ⊢
  rw [← hT] at HI
  rw [← hU] at HP
  have HN := Lib.hid hlen
  clear hl hb hf hlen hT hU h0 h1
  unfold putV objV
  simp only [Ob.k, Ob.n, Ob.f, Ob.s, Ob.l, Ob.d]
  go_enter Tryd.func32, Tryd.ntmps32
  go_wp2_with fail
  obtain ⟨W0, hW0⟩ : ∃ W0, W0 = w.alloc (.cells #[.int .i64 7, .int .i64 n, .int .i64 f, .string s, .slice p l.length c, .slice q d.length ec] 26) := ⟨_, rfl⟩
  rw [← hW0] at B1 F1 BK FW ⊢
  clear hW0
  have SK := Lib.hid (show ∀ w', Kept W0 w' → w'.cell? ⟨w.heap.size, 1, none⟩ = some (.int .i64 n) ∧ w'.cell? ⟨w.heap.size, 2, none⟩ = some (.int .i64 f) from fun w' k => by
    obtain ⟨-, a, b, -⟩ := (BK.out.kept k).cells6
    exact ⟨a, b⟩)
  have P4 := Lib.hid (show ∀ (N : Nat) w', Kept W0 w' → N = w'.heap.size → Calls Tryd.prog 56 #[.slice (some ⟨N, 0, none⟩) 4 4, .pointer (some ⟨b, 0, none⟩)] (w'.alloc (.cells #[.string ⟨T.toArray⟩, .string ⟨#[32]⟩, .string ⟨U.toArray⟩, .string ⟨#[32, 82]⟩] 9)) (fun e w'' => e = .returned (.tuple #[]) ∧ Hid (Bld B b (acc ++ (T ++ [32] ++ U ++ [32, 82])) w'') ∧ Hid (Fr B b w w'') ∧ w''.cell? ⟨w.heap.size, 1, none⟩ = some (.int .i64 n) ∧ w''.cell? ⟨w.heap.size, 2, none⟩ = some (.int .i64 f)) from fun N w' k hN => by
    subst hN
    refine (put4_any B b acc ⟨T.toArray⟩ ⟨#[32]⟩ ⟨U.toArray⟩ ⟨#[32, 82]⟩ w' (B1.out.kept k) ?_).mono ?_
    · have := HN.out
      simp only [List.length_append, List.length_cons, List.length_nil] at this
      show _ + (T.toArray.size + 1 + U.toArray.size + 2) ≤ _
      rw [List.size_toArray, List.size_toArray]; omega
    · rintro e w'' ⟨he, hb, hf⟩
      obtain ⟨-, u1, u2, -⟩ := (hf.blk (BK.out.kept k) HNE.out (by decide)).cells6
      exact ⟨he, Lib.hid hb, Lib.hid ((F1.out.kept k B1.out.2).trans hf), u1, u2⟩)
  have KX := Lib.hid (Kept.refl W0)
  obtain ⟨t1, t2⟩ := SK.out _ KX.out
  go_region_held3 (fun w' => w'.cell? ⟨w.heap.size, 1, none⟩ = some (.int .i64 n) ∧ w'.cell? ⟨w.heap.size, 2, none⟩ = some (.int .i64 f)) (go_keep)
    (first
    | (go_at_call 37; (first | (with_reducible refine (HI.out _ (FW.out.kept KX.out)).mono ?_) | (with_reducible refine (HI.out _ (FW.out.kept KX.out.drew)).mono ?_) | (with_reducible refine (HI.out _ (FW.out.kept KX.out.drew.drew)).mono ?_)); rintro e wn ⟨rfl, kn⟩; (first | (with_reducible have KX := Lib.hid (KX.out.trans kn)) | (with_reducible have KX := Lib.hid (KX.out.drew.trans kn)) | (with_reducible have KX := Lib.hid (KX.out.drew.drew.trans kn))); obtain ⟨t1, t2⟩ := SK.out _ KX.out)
    | (go_at_call 63; (first | (with_reducible refine (HP.out _ (FW.out.kept KX.out)).mono ?_) | (with_reducible refine (HP.out _ (FW.out.kept KX.out.drew)).mono ?_) | (with_reducible refine (HP.out _ (FW.out.kept KX.out.drew.drew)).mono ?_)); rintro e wn ⟨rfl, kn⟩; (first | (with_reducible have KX := Lib.hid (KX.out.trans kn)) | (with_reducible have KX := Lib.hid (KX.out.drew.trans kn)) | (with_reducible have KX := Lib.hid (KX.out.drew.drew.trans kn))); obtain ⟨t1, t2⟩ := SK.out _ KX.out)
    | (go_at_call 56; (first | (with_reducible refine (P4.out _ _ KX.out rfl).mono ?_) | (with_reducible refine (P4.out _ _ KX.out.drew rfl).mono ?_) | (with_reducible refine (P4.out _ _ KX.out.drew.drew rfl).mono ?_) | (with_reducible refine (P4.out _ _ KX.out.drew.drew.drew rfl).mono ?_)); rintro e wz ⟨rfl, BZ, FZ, t1, t2⟩))
  all_goals
    go_wp2_with fail
    refine bodyPost_end (results_none rfl _ _ _) rfl ?_
    exact ⟨rfl, BZ.out, FZ.out⟩

/-- No text of it is longer than 2^32, no row neither; its whole number is one of 64 bits. -/
inductive Ob.Ok : Ob → Prop
  | mk (k n f : Int) (s : ByteArray) (l : List Ob) (d : List (ByteArray × Ob)) (h0 : -9223372036854775808 ≤ n) (h1 : n ≤ 9223372036854775807) (hs : s.size ≤ 4294967296) (hl : l.length ≤ 4294967296) (hd : d.length ≤ 4294967296) (hL : ∀ x ∈ l, Ob.Ok x) (hK : ∀ e ∈ d, e.1.size ≤ 4294967296) (hD : ∀ e ∈ d, Ob.Ok e.2) : Ob.Ok (.mk k n f s l d)

theorem putObject_step (x : Ob) (hx : Ob.Ok x) (IHL : ∀ z ∈ x.l, PutC z) (IHD : ∀ z ∈ x.d, PutC z.2) : PutC x := by
  cases hx with
  | mk k n f s l d h0 h1 hs hl hd hL hK hD =>
    by_cases hk : k < 0 ∨ 8 < k
    · exact putK_no k n f s l d hk
    · have : k = 0 ∨ k = 1 ∨ k = 2 ∨ k = 3 ∨ k = 4 ∨ k = 5 ∨ k = 6 ∨ k = 7 ∨ k = 8 := by omega
      rcases this with rfl | rfl | rfl | rfl | rfl | rfl | rfl | rfl | rfl
      · exact putK_0 n f s l d
      · exact putK_1 n f s l d
      · exact putK_2 n f s l d
      · exact putK_3 n f s l d hs
      · exact putK_4 n f s l d hs
      · exact putK_5 n f s l d IHL hl
      · exact putK_6 n f s l d IHD hd hK
      · exact putK_7 n f s l d h0 h1
      · exact putK_8 n f s l d IHD hd hK

/-- putObject puts an object's text. -/
theorem putObject_any (N : Nat) : ∀ (x : Ob), SizeOf.sizeOf x ≤ N → Ob.Ok x → PutC x := by
  induction N with
  | zero => intro x hN; cases x; simp at hN
  | succ N ih =>
    intro x hN hx
    refine putObject_step x hx (fun z hz => ?_) (fun z hz => ?_)
    · exact ih z (by have := sizeOf_l hz; omega) (by cases hx with | mk _ _ _ _ _ _ _ _ _ _ _ hL _ _ => exact hL z hz)
    · exact ih z.2 (by have := sizeOf_d hz; omega) (by cases hx with | mk _ _ _ _ _ _ _ _ _ _ _ _ _ hD => exact hD z hz)

end Go.Proofs.YtkobcgemllcfoaaDoor
