/-
  What putObject puts of any object: its text.
-/
import Derived.Test.YtkobcgemllcfoaaDoorWriteArr
import Derived.Test.YtkobcgemllcfoaaDoorLexQuote
namespace Go.Proofs.YtkobcgemllcfoaaDoor
open Go.RowKit Cx
set_option linter.unusedSimpArgs false
set_option linter.unusedVariables false

theorem put1_at (B b N : Nat) (l : List UInt8) (s : ByteArray) (w : World) (hN : N = w.heap.size) (hb : Bld B b l w) (hlen : l.length + s.size ≤ 140737488355328) :
    Calls Tryd.prog 56 #[.slice (some ⟨N, 0, none⟩) 1 1, .pointer (some ⟨b, 0, none⟩)] (w.alloc (.cells #[.string s] 9)) fun e w' => e = .returned (.tuple #[]) ∧ Bld B b (l ++ s.data.toList) w' ∧ Fr B b w w' := by
  subst hN
  exact put1_any B b l s w hb hlen

theorem put3_any (B b : Nat) (l : List UInt8) (s1 s2 s3 : ByteArray) (w : World) (hb : Bld B b l w) (hlen : l.length + (s1.size + s2.size + s3.size) ≤ 140737488355328) :
    Calls Tryd.prog 56 #[.slice (some ⟨w.heap.size, 0, none⟩) 3 3, .pointer (some ⟨b, 0, none⟩)] (w.alloc (.cells #[.string s1, .string s2, .string s3] 9)) fun e w' => e = .returned (.tuple #[]) ∧ Bld B b (l ++ (s1.data.toList ++ s2.data.toList ++ s3.data.toList)) w' ∧ Fr B b w w' := by
  have hc : catT [s1, s2, s3] = s1.data.toList ++ s2.data.toList ++ s3.data.toList := by unfold catT; simp
  have h := putL_any B b l [s1, s2, s3] w hb (by rw [hc, List.length_append, List.length_append, Array.length_toList, Array.length_toList, Array.length_toList]; exact hlen) (by simp)
  rw [hc] at h
  exact h

theorem put4_any (B b : Nat) (l : List UInt8) (s1 s2 s3 s4 : ByteArray) (w : World) (hb : Bld B b l w) (hlen : l.length + (s1.size + s2.size + s3.size + s4.size) ≤ 140737488355328) :
    Calls Tryd.prog 56 #[.slice (some ⟨w.heap.size, 0, none⟩) 4 4, .pointer (some ⟨b, 0, none⟩)] (w.alloc (.cells #[.string s1, .string s2, .string s3, .string s4] 9)) fun e w' => e = .returned (.tuple #[]) ∧ Bld B b (l ++ (s1.data.toList ++ s2.data.toList ++ s3.data.toList ++ s4.data.toList)) w' ∧ Fr B b w w' := by
  have hc : catT [s1, s2, s3, s4] = s1.data.toList ++ s2.data.toList ++ s3.data.toList ++ s4.data.toList := by unfold catT; simp
  have h := putL_any B b l [s1, s2, s3, s4] w hb (by rw [hc, List.length_append, List.length_append, List.length_append, Array.length_toList, Array.length_toList, Array.length_toList, Array.length_toList]; exact hlen) (by simp)
  rw [hc] at h
  exact h

theorem formatBool_text (n : Int) : Lib.formatBool (n == 1) = if n = 1 then trueT else falseT := by
  by_cases h : n = 1
  · rw [if_pos h, h]; rfl
  · rw [if_neg h, show (n == 1) = false by rw [beq_eq_false_iff_ne]; exact h]; rfl

set_option maxRecDepth 100000 in
set_option maxHeartbeats 4000000 in
theorem putK_0 (n f : Int) (s : ByteArray) (l : List Ob) (d : List Entr) : PutC (.mk 0 n f s l d) := by
  rintro ⟨p, c, q, ec⟩ B b acc w hl hb hf hlen
  rw [show (Ob.mk 0 n f s l d).text = nullT by rw [text_mk]; simp] at hlen ⊢
  have B1 := Lib.hid (hb.alloc #[.int .i64 0, .int .i64 n, .int .i64 f, .string s, .slice p l.length c, .slice q d.length ec] 26)
  have F1 := Lib.hid ((Fr.refl B b w).alloc hb.2 #[.int .i64 0, .int .i64 n, .int .i64 f, .string s, .slice p l.length c, .slice q d.length ec] 26)
  have P1 := Lib.hid (put1_at B b (w.heap.size + 1) acc ⟨#[110, 117, 108, 108]⟩ _ (Array.size_push _).symm B1.out hlen)
  clear hl hb hf hlen
  unfold putV objV
  simp only [Ob.k, Ob.n, Ob.f, Ob.s, Ob.l, Ob.d]
  go_enter Tryd.func32, Tryd.ntmps32
  go_wp2_with fail
  (with_reducible refine P1.out.mono ?_)
  rintro e w2 ⟨rfl, hb2, hf2⟩
  have B2 := Lib.hid (hb2.cast (show _ = acc ++ nullT from rfl))
  have F2 := Lib.hid (F1.out.trans hf2)
  clear hb2 hf2
  go_wp2_with fail
  refine bodyPost_end (results_none rfl _ _ _) rfl ?_
  exact ⟨rfl, B2.out, F2.out⟩

set_option maxRecDepth 100000 in
set_option maxHeartbeats 4000000 in
theorem putK_1 (n f : Int) (s : ByteArray) (l : List Ob) (d : List Entr) : PutC (.mk 1 n f s l d) := by
  rintro ⟨p, c, q, ec⟩ B b acc w hl hb hf hlen
  rw [show (Ob.mk 1 n f s l d).text = (if n = 1 then trueT else falseT) by rw [text_mk]; simp] at hlen ⊢
  have B1 := Lib.hid (hb.alloc #[.int .i64 1, .int .i64 n, .int .i64 f, .string s, .slice p l.length c, .slice q d.length ec] 26)
  have F1 := Lib.hid ((Fr.refl B b w).alloc hb.2 #[.int .i64 1, .int .i64 n, .int .i64 f, .string s, .slice p l.length c, .slice q d.length ec] 26)
  obtain ⟨T, hT⟩ : ∃ T, T = Lib.formatBool (n == 1) := ⟨_, rfl⟩
  rw [← formatBool_text n, ← hT] at hlen ⊢
  have HFB := Lib.hid (fun w' => Tryd.strconv_FormatBool (n == 1) w')
  rw [← hT] at HFB
  have P1 := Lib.hid (put1_at B b (w.heap.size + 1) acc ⟨T.toArray⟩ _ (Array.size_push _).symm B1.out (by show acc.length + T.toArray.size ≤ _; rw [List.size_toArray]; exact hlen))
  clear hl hb hf hlen hT
  unfold putV objV
  simp only [Ob.k, Ob.n, Ob.f, Ob.s, Ob.l, Ob.d]
  go_enter Tryd.func32, Tryd.ntmps32
  go_wp2_with fail
  (with_reducible refine (HFB.out _).mono ?_)
  rintro e w2 ⟨rfl, rfl⟩
  go_wp2_with fail
  (with_reducible refine P1.out.mono ?_)
  rintro e w3 ⟨rfl, hb3, hf3⟩
  have B3 := Lib.hid (hb3.cast (show _ = acc ++ T from rfl))
  have F3 := Lib.hid (F1.out.trans hf3)
  clear hb3 hf3
  go_wp2_with fail
  refine bodyPost_end (results_none rfl _ _ _) rfl ?_
  exact ⟨rfl, B3.out, F3.out⟩

set_option maxRecDepth 100000 in
set_option maxHeartbeats 4000000 in
theorem putK_2 (n f : Int) (s : ByteArray) (l : List Ob) (d : List Entr) : PutC (.mk 2 n f s l d) := by
  rintro ⟨p, c, q, ec⟩ B b acc w hl hb hf hlen
  rw [show (Ob.mk 2 n f s l d).text = numT n f by rw [text_mk]; simp] at hlen ⊢
  have B1 := Lib.hid (hb.alloc #[.int .i64 2, .int .i64 n, .int .i64 f, .string s, .slice p l.length c, .slice q d.length ec] 26)
  have F1 := Lib.hid ((Fr.refl B b w).alloc hb.2 #[.int .i64 2, .int .i64 n, .int .i64 f, .string s, .slice p l.length c, .slice q d.length ec] 26)
  have HNT := Lib.hid (numText_any (.mk 2 n f s l d) ⟨p, c, q, ec⟩ _ (hf.below F1.out.1).1)
  obtain ⟨T, hT⟩ : ∃ T, T = numT n f := ⟨_, rfl⟩
  have HNT := Lib.hid (show Calls Tryd.prog 60 #[objV (.mk 2 n f s l d) ⟨p, c, q, ec⟩] _ (fun e w' => e = .returned (.string ⟨T.toArray⟩) ∧ Kept _ w') by rw [hT]; exact HNT.out)
  rw [← hT] at hlen ⊢
  have HN := Lib.hid hlen
  clear hl hb hf hlen hT
  unfold objV at HNT
  simp only [Ob.k, Ob.n, Ob.f, Ob.s, Ob.l, Ob.d] at HNT
  unfold putV objV
  simp only [Ob.k, Ob.n, Ob.f, Ob.s, Ob.l, Ob.d]
  go_enter Tryd.func32, Tryd.ntmps32
  go_wp2_with fail
  (with_reducible refine HNT.out.mono ?_)
  rintro e w2 ⟨rfl, hk⟩
  have B2 := Lib.hid (B1.out.kept hk)
  have F2 := Lib.hid (F1.out.kept hk B1.out.2)
  have P2 := Lib.hid (put1_any B b acc ⟨T.toArray⟩ w2 B2.out (by have := HN.out; show acc.length + T.toArray.size ≤ _; rw [List.size_toArray]; exact this))
  clear hk
  go_wp2_with fail
  (with_reducible refine P2.out.mono ?_)
  rintro e w3 ⟨rfl, hb3, hf3⟩
  have B3 := Lib.hid (hb3.cast (show _ = acc ++ T from rfl))
  have F3 := Lib.hid (F2.out.trans hf3)
  clear hb3 hf3
  go_wp2_with fail
  refine bodyPost_end (results_none rfl _ _ _) rfl ?_
  exact ⟨rfl, B3.out, F3.out⟩

set_option maxRecDepth 100000 in
set_option maxHeartbeats 4000000 in
theorem putK_3 (n f : Int) (s : ByteArray) (l : List Ob) (d : List Entr) (hs : s.size ≤ 4294967296) : PutC (.mk 3 n f s l d) := by
  rintro ⟨p, c, q, ec⟩ B b acc w hl hb hf hlen
  rw [show (Ob.mk 3 n f s l d).text = Lx.nameV s.data.toList by rw [text_mk]; simp] at hlen ⊢
  have B1 := Lib.hid (hb.alloc #[.int .i64 3, .int .i64 n, .int .i64 f, .string s, .slice p l.length c, .slice q d.length ec] 26)
  have F1 := Lib.hid ((Fr.refl B b w).alloc hb.2 #[.int .i64 3, .int .i64 n, .int .i64 f, .string s, .slice p l.length c, .slice q d.length ec] 26)
  have HNT := Lib.hid (fun w' => NameOf_any s w' hs)
  obtain ⟨T, hT⟩ : ∃ T, T = Lx.nameV s.data.toList := ⟨_, rfl⟩
  rw [← hT] at hlen HNT ⊢
  have HN := Lib.hid hlen
  clear hl hb hf hlen hT
  unfold putV objV
  simp only [Ob.k, Ob.n, Ob.f, Ob.s, Ob.l, Ob.d]
  go_enter Tryd.func32, Tryd.ntmps32
  go_wp2_with fail
  (with_reducible refine (HNT.out _).mono ?_)
  rintro e w2 ⟨rfl, hk⟩
  have B2 := Lib.hid (B1.out.kept hk)
  have F2 := Lib.hid (F1.out.kept hk B1.out.2)
  have P2 := Lib.hid (put1_any B b acc ⟨T.toArray⟩ w2 B2.out (by have := HN.out; show acc.length + T.toArray.size ≤ _; rw [List.size_toArray]; exact this))
  clear hk
  go_wp2_with fail
  (with_reducible refine P2.out.mono ?_)
  rintro e w3 ⟨rfl, hb3, hf3⟩
  have B3 := Lib.hid (hb3.cast (show _ = acc ++ T from rfl))
  have F3 := Lib.hid (F2.out.trans hf3)
  clear hb3 hf3
  go_wp2_with fail
  refine bodyPost_end (results_none rfl _ _ _) rfl ?_
  exact ⟨rfl, B3.out, F3.out⟩

set_option maxRecDepth 100000 in
set_option maxHeartbeats 4000000 in
theorem putK_4 (n f : Int) (s : ByteArray) (l : List Ob) (d : List Entr) (hs : s.size ≤ 4294967296) : PutC (.mk 4 n f s l d) := by
  rintro ⟨p, c, q, ec⟩ B b acc w hl hb hf hlen
  rw [show (Ob.mk 4 n f s l d).text = Lx.quoteV s.data.toList by rw [text_mk]; simp] at hlen ⊢
  have B1 := Lib.hid (hb.alloc #[.int .i64 4, .int .i64 n, .int .i64 f, .string s, .slice p l.length c, .slice q d.length ec] 26)
  have F1 := Lib.hid ((Fr.refl B b w).alloc hb.2 #[.int .i64 4, .int .i64 n, .int .i64 f, .string s, .slice p l.length c, .slice q d.length ec] 26)
  have HNT := Lib.hid (fun w' => Quote_any s w' hs)
  obtain ⟨T, hT⟩ : ∃ T, T = Lx.quoteV s.data.toList := ⟨_, rfl⟩
  rw [← hT] at hlen HNT ⊢
  have HN := Lib.hid hlen
  clear hl hb hf hlen hT
  unfold putV objV
  simp only [Ob.k, Ob.n, Ob.f, Ob.s, Ob.l, Ob.d]
  go_enter Tryd.func32, Tryd.ntmps32
  go_wp2_with fail
  (with_reducible refine (HNT.out _).mono ?_)
  rintro e w2 ⟨rfl, hk⟩
  have B2 := Lib.hid (B1.out.kept hk)
  have F2 := Lib.hid (F1.out.kept hk B1.out.2)
  have P2 := Lib.hid (put1_any B b acc ⟨T.toArray⟩ w2 B2.out (by have := HN.out; show acc.length + T.toArray.size ≤ _; rw [List.size_toArray]; exact this))
  clear hk
  go_wp2_with fail
  (with_reducible refine P2.out.mono ?_)
  rintro e w3 ⟨rfl, hb3, hf3⟩
  have B3 := Lib.hid (hb3.cast (show _ = acc ++ T from rfl))
  have F3 := Lib.hid (F2.out.trans hf3)
  clear hb3 hf3
  go_wp2_with fail
  refine bodyPost_end (results_none rfl _ _ _) rfl ?_
  exact ⟨rfl, B3.out, F3.out⟩

set_option maxRecDepth 100000 in
set_option maxHeartbeats 4000000 in
theorem putK_5 (n f : Int) (s : ByteArray) (l : List Ob) (d : List Entr) (IH : ∀ z ∈ l, PutC z) (hll : l.length ≤ 4294967296) : PutC (.mk 5 n f s l d) := by
  rintro ⟨p, c, q, ec⟩ B b acc w hl hb hf hlen
  rw [show (Ob.mk 5 n f s l d).text = 91 :: (textL false l ++ [93]) by rw [text_mk]; simp] at hlen ⊢
  have B1 := Lib.hid (hb.alloc #[.int .i64 5, .int .i64 n, .int .i64 f, .string s, .slice p l.length c, .slice q d.length ec] 26)
  have F1 := Lib.hid ((Fr.refl B b w).alloc hb.2 #[.int .i64 5, .int .i64 n, .int .i64 f, .string s, .slice p l.length c, .slice q d.length ec] 26)
  have PA := Lib.hid (putArr_any B b acc l p c _ (F1.out.lies hl).rowL IH B1.out (hf.below F1.out.1) hll hlen)
  obtain ⟨T, hT⟩ : ∃ T, T = 91 :: (textL false l ++ [93]) := ⟨_, rfl⟩
  rw [← hT] at PA ⊢
  clear hl hb hf hlen hT IH hll
  unfold putV at PA
  unfold putV objV
  simp only [Ob.k, Ob.n, Ob.f, Ob.s, Ob.l, Ob.d]
  go_enter Tryd.func32, Tryd.ntmps32
  go_wp2_with fail
  (with_reducible refine PA.out.mono ?_)
  rintro e w2 ⟨rfl, hb2, hf2⟩
  have B2 := Lib.hid (hb2)
  have F2 := Lib.hid (F1.out.trans hf2)
  clear hb2 hf2
  go_wp2_with fail
  refine bodyPost_end (results_none rfl _ _ _) rfl ?_
  exact ⟨rfl, B2.out, F2.out⟩

set_option maxRecDepth 100000 in
set_option maxHeartbeats 4000000 in
theorem putK_6 (n f : Int) (s : ByteArray) (l : List Ob) (d : List Entr) (IH : ∀ z ∈ d, PutC z.2) (hll : d.length ≤ 4294967296) (hkk : ∀ z ∈ d, z.1.size ≤ 4294967296) : PutC (.mk 6 n f s l d) := by
  rintro ⟨p, c, q, ec⟩ B b acc w hl hb hf hlen
  rw [show (Ob.mk 6 n f s l d).text = [60, 60] ++ textD false d ++ [62, 62] by rw [text_mk]; simp] at hlen ⊢
  have B1 := Lib.hid (hb.alloc #[.int .i64 6, .int .i64 n, .int .i64 f, .string s, .slice p l.length c, .slice q d.length ec] 26)
  have F1 := Lib.hid ((Fr.refl B b w).alloc hb.2 #[.int .i64 6, .int .i64 n, .int .i64 f, .string s, .slice p l.length c, .slice q d.length ec] 26)
  have PA := Lib.hid (putDict_any B b acc d q ec _ (F1.out.lies hl).rowD IH B1.out (hf.below F1.out.1) hll hkk hlen)
  obtain ⟨T, hT⟩ : ∃ T, T = [60, 60] ++ textD false d ++ [62, 62] := ⟨_, rfl⟩
  rw [← hT] at PA ⊢
  clear hl hb hf hlen hT IH hll hkk
  unfold putV at PA
  unfold putV objV
  simp only [Ob.k, Ob.n, Ob.f, Ob.s, Ob.l, Ob.d]
  go_enter Tryd.func32, Tryd.ntmps32
  go_wp2_with fail
  (with_reducible refine PA.out.mono ?_)
  rintro e w2 ⟨rfl, hb2, hf2⟩
  have B2 := Lib.hid (hb2)
  have F2 := Lib.hid (F1.out.trans hf2)
  clear hb2 hf2
  go_wp2_with fail
  refine bodyPost_end (results_none rfl _ _ _) rfl ?_
  exact ⟨rfl, B2.out, F2.out⟩

set_option maxRecDepth 100000 in
set_option maxHeartbeats 4000000 in
theorem putK_8 (n f : Int) (s : ByteArray) (l : List Ob) (d : List Entr) (IH : ∀ z ∈ d, PutC z.2) (hll : d.length ≤ 4294967296) (hkk : ∀ z ∈ d, z.1.size ≤ 4294967296) : PutC (.mk 8 n f s l d) := by
  rintro ⟨p, c, q, ec⟩ B b acc w hl hb hf hlen
  rw [show (Ob.mk 8 n f s l d).text = ([60, 60] ++ textD false d ++ [62, 62]) ++ ([10, 115, 116, 114, 101, 97, 109, 10] ++ s.data.toList ++ [10, 101, 110, 100, 115, 116, 114, 101, 97, 109]) by rw [text_mk]; simp] at hlen ⊢
  have B1 := Lib.hid (hb.alloc #[.int .i64 8, .int .i64 n, .int .i64 f, .string s, .slice p l.length c, .slice q d.length ec] 26)
  have F1 := Lib.hid ((Fr.refl B b w).alloc hb.2 #[.int .i64 8, .int .i64 n, .int .i64 f, .string s, .slice p l.length c, .slice q d.length ec] 26)
  have HN := Lib.hid (show acc.length + ([60, 60] ++ textD false d ++ [62, 62]).length + (s.size + 18) ≤ 140737488355328 by
    rw [List.length_append] at hlen
    have : ([10, 115, 116, 114, 101, 97, 109, 10] ++ s.data.toList ++ [10, 101, 110, 100, 115, 116, 114, 101, 97, 109] : List UInt8).length = s.size + 18 := by simp only [List.length_append, List.length_cons, List.length_nil, Array.length_toList]; show 8 + s.size + 10 = _; omega
    omega)
  have PA := Lib.hid (putDict_any B b acc d q ec _ (F1.out.lies hl).rowD IH B1.out (hf.below F1.out.1) hll hkk (by have := HN.out; omega))
  have BK := Lib.hid (Blk.fresh w #[.int .i64 8, .int .i64 n, .int .i64 f, .string s, .slice p l.length c, .slice q d.length ec] 26)
  have HNE := Lib.hid (show w.heap.size ≠ b by have := hb.at; omega)
  obtain ⟨T, hT⟩ : ∃ T, T = [60, 60] ++ textD false d ++ [62, 62] := ⟨_, rfl⟩
  rw [← hT] at PA HN ⊢
  clear hl hb hf hlen hT IH hll hkk
  unfold putV at PA
  unfold putV objV
  simp only [Ob.k, Ob.n, Ob.f, Ob.s, Ob.l, Ob.d]
  go_enter Tryd.func32, Tryd.ntmps32
  go_wp2_with fail
  (with_reducible refine PA.out.mono ?_)
  rintro e w2 ⟨rfl, hb2, hf2⟩
  have B2 := Lib.hid (hb2)
  have F2 := Lib.hid (F1.out.trans hf2)
  obtain ⟨u0, u1, u2, u3, u4, u5⟩ := (hf2.blk BK.out HNE.out (by decide)).cells6
  have P2 := Lib.hid (put3_any B b _ ⟨#[10, 115, 116, 114, 101, 97, 109, 10]⟩ s ⟨#[10, 101, 110, 100, 115, 116, 114, 101, 97, 109]⟩ w2 B2.out (by have := HN.out; rw [List.length_append]; show _ + (8 + s.size + 10) ≤ _; omega))
  clear hb2 hf2
  go_wp2_with fail
  (with_reducible refine P2.out.mono ?_)
  rintro e w3 ⟨rfl, hb3, hf3⟩
  have B3 := Lib.hid (hb3.cast (show _ = acc ++ (T ++ ([10, 115, 116, 114, 101, 97, 109, 10] ++ s.data.toList ++ [10, 101, 110, 100, 115, 116, 114, 101, 97, 109])) by simp only [List.append_assoc]))
  have F3 := Lib.hid (F2.out.trans hf3)
  clear u0 u1 u2 u3 u4 u5
  clear hb3 hf3
  go_wp2_with fail
  refine bodyPost_end (results_none rfl _ _ _) rfl ?_
  exact ⟨rfl, B3.out, F3.out⟩

set_option maxRecDepth 100000 in
set_option maxHeartbeats 4000000 in
theorem putK_no (k n f : Int) (s : ByteArray) (l : List Ob) (d : List Entr) (h : k < 0 ∨ 8 < k) : PutC (.mk k n f s l d) := by
  rintro ⟨p, c, q, ec⟩ B b acc w hl hb hf hlen
  rw [show (Ob.mk k n f s l d).text = [] by rw [text_mk]; repeat (rw [if_neg (by omega)])] at hlen ⊢
  have B1 := Lib.hid (hb.alloc #[.int .i64 k, .int .i64 n, .int .i64 f, .string s, .slice p l.length c, .slice q d.length ec] 26)
  have F1 := Lib.hid ((Fr.refl B b w).alloc hb.2 #[.int .i64 k, .int .i64 n, .int .i64 f, .string s, .slice p l.length c, .slice q d.length ec] 26)
  have n0 : (k == 0) = false := by rw [beq_eq_false_iff_ne]; omega
  have n1 : (k == 1) = false := by rw [beq_eq_false_iff_ne]; omega
  have n2 : (k == 2) = false := by rw [beq_eq_false_iff_ne]; omega
  have n3 : (k == 3) = false := by rw [beq_eq_false_iff_ne]; omega
  have n4 : (k == 4) = false := by rw [beq_eq_false_iff_ne]; omega
  have n5 : (k == 5) = false := by rw [beq_eq_false_iff_ne]; omega
  have n6 : (k == 6) = false := by rw [beq_eq_false_iff_ne]; omega
  have n7 : (k == 7) = false := by rw [beq_eq_false_iff_ne]; omega
  have n8 : (k == 8) = false := by rw [beq_eq_false_iff_ne]; omega
  clear hl hb hf hlen h
  unfold putV objV
  simp only [Ob.k, Ob.n, Ob.f, Ob.s, Ob.l, Ob.d]
  go_enter Tryd.func32, Tryd.ntmps32
  go_wp2_with fail
  refine bodyPost_end (results_none rfl _ _ _) rfl ?_
  exact ⟨rfl, B1.out.cast (List.append_nil acc).symm, F1.out⟩

end Go.Proofs.YtkobcgemllcfoaaDoor
