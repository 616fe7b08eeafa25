/-
  LexBack: a text, and a name, written as a token, is read as it was.
-/
import Derived.Test.YtgijgklojlfihaaLexAwake
import Derived.Test.YtgijgklojlfihaaLexBackMath
namespace Go.Proofs.Ytgijgklojlfihaa
open Go.RowKit

theorem of_list (s : ByteArray) : ∃ l : List UInt8, s = ⟨l.toArray⟩ := ⟨s.data.toList, by simp⟩
theorem Quote_list (l : List UInt8) (w : World) (h : l.length ≤ 4294967296) :
    Calls Try.prog 21 #[.string ⟨l.toArray⟩] w fun e w' => e = .returned (.string ⟨(Lx.quoteV l).toArray⟩) ∧ Kept w w' :=
  Quote_any ⟨l.toArray⟩ w (by show l.toArray.size ≤ _; simpa using h)
theorem NameOf_list (l : List UInt8) (w : World) (h : l.length ≤ 4294967296) :
    Calls Try.prog 23 #[.string ⟨l.toArray⟩] w fun e w' => e = .returned (.string ⟨(Lx.nameV l).toArray⟩) ∧ Kept w w' :=
  NameOf_any ⟨l.toArray⟩ w (by show l.toArray.size ≤ _; simpa using h)
theorem flat_len (f : UInt8 → List UInt8) (h : ∀ c, (f c).length ≤ 4) : ∀ l : List UInt8, (l.flatMap f).length ≤ 4 * l.length
  | [] => by simp
  | a :: l => by have := h a; have := flat_len f h l; simp only [List.flatMap_cons, List.length_append, List.length_cons]; omega
theorem quoteV_len (l : List UInt8) : (Lx.quoteV l).length ≤ 4 * l.length + 2 := by
  have := flat_len Lx.quoteB quoteB_len l
  simp only [Lx.quoteV, List.length_cons, List.length_append, List.length_nil]; omega
theorem nameV_len (l : List UInt8) : (Lx.nameV l).length ≤ 4 * l.length + 1 := by
  have := flat_len Lx.nameB nameB_len l
  simp only [Lx.nameV, List.length_cons]; omega

set_option maxRecDepth 100000 in
set_option maxHeartbeats 8000000 in
theorem lexBack_any (s more : ByteArray) (w : World) (hm : HasMax w) :
    Calls Try.prog 5 #[.string s, .string more] w fun e w' => e = .returned (.bool true) ∧ Kept w w' := by
  have HM := Lib.hid hm
  clear hm
  by_cases hs : 500 < s.size
  · go_enter Try.func5, Try.ntmps5
    go_wp2_with fail
    refine (awake_any _ HM.out).mono ?_
    rintro e w1 ⟨rfl, hk1⟩
    go_wp2_with fail
    go_ret
    exact ⟨rfl, hk1⟩
  have hs' : s.size ≤ 500 := by omega
  clear hs
  by_cases hc : 300 < more.size
  · go_enter Try.func5, Try.ntmps5
    go_wp2_with fail
    refine (awake_any _ HM.out).mono ?_
    rintro e w1 ⟨rfl, hk1⟩
    go_wp2_with fail
    go_ret
    exact ⟨rfl, hk1⟩
  have hc' : more.size ≤ 300 := by omega
  clear hc
  obtain ⟨l, rfl⟩ := of_list s
  obtain ⟨x, rfl⟩ := of_list more
  have hl : l.length ≤ 500 := by simpa [ByteArray.size] using hs'
  have hx : x.length ≤ 300 := by simpa [ByteArray.size] using hc'
  obtain ⟨q, hq⟩ : ∃ q, q = Lx.quoteV l := ⟨_, rfl⟩
  obtain ⟨n, hn⟩ : ∃ n, n = Lx.nameV l := ⟨_, rfl⟩
  have hql : q.length ≤ 2002 := by rw [hq]; have := quoteV_len l; omega
  have hnl : n.length ≤ 2001 := by rw [hn]; have := nameV_len l; omega
  have HN1 := Lib.hid (show ((0 : Int), (⟨3, 0, l, false, 0, q.length⟩ : Lx.Tok)) = Lx.nextV (⟨q.toArray⟩ ++ ⟨x.toArray⟩ : ByteArray).data.toList 0 by
    rw [show (⟨q.toArray⟩ ++ ⟨x.toArray⟩ : ByteArray).data.toList = q ++ x by simp, hq, Lx.next_quote])
  have HN2 := Lib.hid (show ((0 : Int), (⟨2, 0, l, false, 0, n.length⟩ : Lx.Tok)) = Lx.nextV (⟨n.toArray⟩ ++ ⟨#[32]⟩ ++ ⟨x.toArray⟩ : ByteArray).data.toList 0 by
    rw [show (⟨n.toArray⟩ ++ ⟨#[32]⟩ ++ ⟨x.toArray⟩ : ByteArray).data.toList = n ++ (32 :: x) by simp, hn, Lx.next_name _ _ (.inr ⟨32, x, rfl, rfl⟩)])
  have HN3 := Lib.hid (show ((0 : Int), (⟨2, 0, l, false, 0, n.length⟩ : Lx.Tok)) = Lx.nextV (⟨n.toArray⟩ : ByteArray).data.toList 0 by
    have := Lx.next_name l [] (.inl rfl)
    rw [List.append_nil] at this
    rw [show (⟨n.toArray⟩ : ByteArray).data.toList = n by simp, hn, this])
  have HQ := Lib.hid hq
  have HN := Lib.hid hn
  have zq : (⟨q.toArray⟩ ++ ⟨x.toArray⟩ : ByteArray).size ≤ 4294967295 := by simp [ByteArray.size]; omega
  have zn : (⟨n.toArray⟩ ++ ⟨#[32]⟩ ++ ⟨x.toArray⟩ : ByteArray).size ≤ 4294967295 := by simp [ByteArray.size]; omega
  have zm : (⟨n.toArray⟩ : ByteArray).size ≤ 4294967295 := by simp [ByteArray.size]; omega
  have ZQ := Lib.hid zq
  have ZN := Lib.hid zn
  have ZM := Lib.hid zm
  clear hq hn zq zn zm
  go_enter Try.func5, Try.ntmps5
  go_wp2_with fail
  refine (awake_any _ HM.out).mono ?_
  rintro e w1 ⟨rfl, hk1⟩
  have HK1 := Lib.hid hk1
  clear hk1
  go_wp2_with fail
  refine (Quote_list l _ (by omega)).mono ?_
  rintro e w2 ⟨rfl, hk2⟩
  rw [← HQ.out]
  have HK2 := Lib.hid (HK1.out.trans hk2)
  clear hk2
  go_wp2_with fail
  refine (NameOf_list l _ (by omega)).mono ?_
  rintro e w3 ⟨rfl, hk3⟩
  rw [← HN.out]
  have HK3 := Lib.hid (HK2.out.trans hk3)
  have HM3 := Lib.hid (HM.out.kept HK3.out)
  clear hk3
  go_wp2_with fail
  (with_reducible refine (Next_any (⟨q.toArray⟩ ++ ⟨x.toArray⟩) 0 _ ZQ.out HM3.out _ HN1.out).mono ?_)
  rintro e w4 ⟨rfl, hk4⟩
  have H4 := Lib.hid (show In w [] w4 from ⟨HK3.out.trans hk4, fun _ h => absurd h List.not_mem_nil⟩)
  clear hk4
  simp only []
  go_wp2_with fail
  have G4 := Lib.hid (In.fresh H4.out #[.int .i64 3, .int .i64 0, .string ⟨l.toArray⟩, .bool false, .int .i64 0, .int .i64 q.length] 25)
  have HM4 := Lib.hid (HM.out.kept G4.out.1)
  (with_reducible refine (Next_any (⟨n.toArray⟩ ++ ⟨#[32]⟩ ++ ⟨x.toArray⟩) 0 _ ZN.out HM4.out _ HN2.out).mono ?_)
  rintro e w5 ⟨rfl, hk5⟩
  have H5 := Lib.hid (G4.out.kept hk5)
  clear hk5
  simp only []
  go_wp2_with fail
  have G5 := Lib.hid (In.fresh H5.out #[.int .i64 2, .int .i64 0, .string ⟨l.toArray⟩, .bool false, .int .i64 0, .int .i64 n.length] 25)
  have HM5 := Lib.hid (HM.out.kept G5.out.1)
  (with_reducible refine (Next_any ⟨n.toArray⟩ 0 _ ZM.out HM5.out _ HN3.out).mono ?_)
  rintro e w6 ⟨rfl, hk6⟩
  have H6 := Lib.hid (G5.out.kept hk6)
  have B4 := Lib.hid (In.mem H6.out (List.mem_cons_of_mem _ List.mem_cons_self))
  have B5 := Lib.hid (In.mem H6.out List.mem_cons_self)
  obtain ⟨a0, a1, a2, a3, a4, a5⟩ := B4.out.cells6
  obtain ⟨b0, b1, b2, b3, b4, b5⟩ := B5.out.cells6
  have z4 : w4.heap.size < w6.heap.size := B4.out.lt
  have z5 : w5.heap.size < w6.heap.size := B5.out.lt
  clear hk6
  simp only []
  go_wp2_with fail
  go_ret
  exact ⟨rfl, H6.out.1.alloc _ _⟩

end Go.Proofs.Ytgijgklojlfihaa
