/-
  The document's escape of layer 3 where no octal digit stands ahead.
-/
import Derived.Test.YtoakbcjdkohoiaaLexRefEsc
namespace Go.Proofs.Ytoakbcjdkohoiaa
open Go.RowKit

set_option maxRecDepth 100000 in
set_option maxHeartbeats 4000000 in
theorem Rescape_cr (s : ByteArray) (w : World) (h0 : 0 < s.size) (hs : s.size ≤ 4294967296) (h13 : s[0] = 13) (n : Nat) (hn : n = 1 + Lx.crlf (s.data.toList.drop 1)) :
    Calls Try.prog 60 #[.string s] w fun e w' => e = .returned (.tuple #[.slice none 0 0, .int .i64 n]) ∧ w = w' := by
  have e13 := byte_is h13 13 rfl
  have e110 : ((s[0].toNat : Int) == 110) = false := by rw [h13]; rfl
  have e114 : ((s[0].toNat : Int) == 114) = false := by rw [h13]; rfl
  have e116 : ((s[0].toNat : Int) == 116) = false := by rw [h13]; rfl
  have e98 : ((s[0].toNat : Int) == 98) = false := by rw [h13]; rfl
  have e102 : ((s[0].toNat : Int) == 102) = false := by rw [h13]; rfl
  have e10 : ((s[0].toNat : Int) == 10) = false := by rw [h13]; rfl
  have hlow : s[0].toNat < 48 := by rw [h13]; decide
  have HN := Lib.hid hn
  clear h13 hn
  by_cases h1 : 1 < s.size
  · have HD := Lib.hid (rdrop_cons s 1 h1)
    by_cases h10 : s[1] = 10
    · have f10 := byte_is h10 10 rfl
      have HC := Lib.hid (show Lx.crlf (s.data.toList.drop 1) = 1 by rw [HD.out]; show (if s[1] == 10 then 1 else 0) = 1; rw [h10]; rfl)
      clear h10
      go_enter Try.func60, Try.ntmps60
      go_wp2_with fail
      refine wp_loop_rounds 1 ?_
      rw [rounds_succ]
      go_wp2_with fail
      go_ret2
      exact ⟨ret_pair' (by have := HN.out; have := HC.out; omega), rfl⟩
    · have f10 := byte_not h10 10 rfl
      have HC := Lib.hid (show Lx.crlf (s.data.toList.drop 1) = 0 by rw [HD.out]; show (if s[1] == 10 then 1 else 0) = 0; simp [h10])
      clear h10
      go_enter Try.func60, Try.ntmps60
      go_wp2_with fail
      refine wp_loop_rounds 1 ?_
      rw [rounds_succ]
      go_wp2_with fail
      go_ret2
      exact ⟨ret_pair' (by have := HN.out; have := HC.out; omega), rfl⟩
  · have HC := Lib.hid (show Lx.crlf (s.data.toList.drop 1) = 0 by rw [rdrop_end s 1 (by omega)]; rfl)
    go_enter Try.func60, Try.ntmps60
    go_wp2_with fail
    refine wp_loop_rounds 1 ?_
    rw [rounds_succ]
    go_wp2_with fail
    go_ret2
    exact ⟨ret_pair' (by have := HN.out; have := HC.out; omega), rfl⟩

set_option maxRecDepth 100000 in
set_option maxHeartbeats 4000000 in
theorem Rescape_lf (s : ByteArray) (w : World) (h0 : 0 < s.size) (h10 : s[0] = 10) :
    Calls Try.prog 60 #[.string s] w fun e w' => e = .returned (.tuple #[.slice none 0 0, .int .i64 1]) ∧ w = w' := by
  have e10 := byte_is h10 10 rfl
  have e110 : ((s[0].toNat : Int) == 110) = false := by rw [h10]; rfl
  have e114 : ((s[0].toNat : Int) == 114) = false := by rw [h10]; rfl
  have e116 : ((s[0].toNat : Int) == 116) = false := by rw [h10]; rfl
  have e98 : ((s[0].toNat : Int) == 98) = false := by rw [h10]; rfl
  have e102 : ((s[0].toNat : Int) == 102) = false := by rw [h10]; rfl
  have e13 : ((s[0].toNat : Int) == 13) = false := by rw [h10]; rfl
  have hlow : s[0].toNat < 48 := by rw [h10]; decide
  clear h10
  go_enter Try.func60, Try.ntmps60
  go_wp2_with fail
  refine wp_loop_rounds 1 ?_
  rw [rounds_succ]
  go_wp2_with fail
  go_ret2
  exact ⟨rfl, rfl⟩

set_option maxRecDepth 100000 in
set_option maxHeartbeats 8000000 in
theorem Rescape_one (s : ByteArray) (w : World) (h0 : 0 < s.size) (ho : Lx.isOct s[0] = false) (h13 : s[0] ≠ 13) (h10 : s[0] ≠ 10) (d : UInt8) (hd : d = Lx.escB s[0]) :
    Calls Try.prog 60 #[.string s] w fun e w' => ∃ g, e = .returned (.tuple #[.slice (some ⟨g, 0, none⟩) 1 1, .int .i64 1]) ∧ Blk w' g #[.int .u8 (d.toNat : Int)] 5 ∧ w.heap.size ≤ g ∧ Kept w w' := by
  have e13 := byte_not h13 13 rfl
  have e10 := byte_not h10 10 rfl
  have hoct : s[0].toNat < 48 ∨ (48 ≤ s[0].toNat ∧ 55 < s[0].toNat) := by
    simp [Lx.isOct] at ho
    by_cases h : s[0].toNat < 48
    · exact .inl h
    · exact .inr ⟨by omega, ho (by omega)⟩
  clear h13 h10 ho
  rcases escB_ways s[0] with ⟨h, hb⟩ | ⟨h, hb⟩ | ⟨h, hb⟩ | ⟨h, hb⟩ | ⟨h, hb⟩ | ⟨h, hb⟩
  case inr.inr.inr.inr.inr =>
    have e110 := byte_not h.1 110 rfl
    have e114 := byte_not h.2.1 114 rfl
    have e116 := byte_not h.2.2.1 116 rfl
    have e98 := byte_not h.2.2.2.1 98 rfl
    have e102 := byte_not h.2.2.2.2 102 rfl
    rw [hb] at hd
    have HD := Lib.hid hd
    clear h hb hd
    rcases hoct with hl | ⟨hl, hl'⟩
    all_goals
      go_enter Try.func60, Try.ntmps60
      go_wp2_with fail
      refine wp_loop_rounds 1 ?_
      rw [rounds_succ]
      go_wp2_with fail
      go_ret2
      exact ⟨w.heap.size, rfl, by rw [HD.out]; exact Blk.fresh w _ _, Nat.le_refl _, (Kept.refl w).alloc _ _⟩
  · rw [hb] at hd
    have HD := Lib.hid hd
    have e110 : ((s[0].toNat : Int) == 110) = true := by rw [h]; rfl
    have e114 : ((s[0].toNat : Int) == 114) = false := by rw [h]; rfl
    have e116 : ((s[0].toNat : Int) == 116) = false := by rw [h]; rfl
    have e98 : ((s[0].toNat : Int) == 98) = false := by rw [h]; rfl
    have e102 : ((s[0].toNat : Int) == 102) = false := by rw [h]; rfl
    have hl : 48 ≤ s[0].toNat := by rw [h]; decide
    have hl' : 55 < s[0].toNat := by rw [h]; decide
    clear h hb hd hoct
    go_enter Try.func60, Try.ntmps60
    go_wp2_with fail
    refine wp_loop_rounds 1 ?_
    rw [rounds_succ]
    go_wp2_with fail
    go_ret2
    exact ⟨w.heap.size, rfl, by rw [HD.out]; exact Blk.fresh w _ _, Nat.le_refl _, (Kept.refl w).alloc _ _⟩
  · rw [hb] at hd
    have HD := Lib.hid hd
    have e110 : ((s[0].toNat : Int) == 110) = false := by rw [h]; rfl
    have e114 : ((s[0].toNat : Int) == 114) = true := by rw [h]; rfl
    have e116 : ((s[0].toNat : Int) == 116) = false := by rw [h]; rfl
    have e98 : ((s[0].toNat : Int) == 98) = false := by rw [h]; rfl
    have e102 : ((s[0].toNat : Int) == 102) = false := by rw [h]; rfl
    have hl : 48 ≤ s[0].toNat := by rw [h]; decide
    have hl' : 55 < s[0].toNat := by rw [h]; decide
    clear h hb hd hoct
    go_enter Try.func60, Try.ntmps60
    go_wp2_with fail
    refine wp_loop_rounds 1 ?_
    rw [rounds_succ]
    go_wp2_with fail
    go_ret2
    exact ⟨w.heap.size, rfl, by rw [HD.out]; exact Blk.fresh w _ _, Nat.le_refl _, (Kept.refl w).alloc _ _⟩
  · rw [hb] at hd
    have HD := Lib.hid hd
    have e110 : ((s[0].toNat : Int) == 110) = false := by rw [h]; rfl
    have e114 : ((s[0].toNat : Int) == 114) = false := by rw [h]; rfl
    have e116 : ((s[0].toNat : Int) == 116) = true := by rw [h]; rfl
    have e98 : ((s[0].toNat : Int) == 98) = false := by rw [h]; rfl
    have e102 : ((s[0].toNat : Int) == 102) = false := by rw [h]; rfl
    have hl : 48 ≤ s[0].toNat := by rw [h]; decide
    have hl' : 55 < s[0].toNat := by rw [h]; decide
    clear h hb hd hoct
    go_enter Try.func60, Try.ntmps60
    go_wp2_with fail
    refine wp_loop_rounds 1 ?_
    rw [rounds_succ]
    go_wp2_with fail
    go_ret2
    exact ⟨w.heap.size, rfl, by rw [HD.out]; exact Blk.fresh w _ _, Nat.le_refl _, (Kept.refl w).alloc _ _⟩
  · rw [hb] at hd
    have HD := Lib.hid hd
    have e110 : ((s[0].toNat : Int) == 110) = false := by rw [h]; rfl
    have e114 : ((s[0].toNat : Int) == 114) = false := by rw [h]; rfl
    have e116 : ((s[0].toNat : Int) == 116) = false := by rw [h]; rfl
    have e98 : ((s[0].toNat : Int) == 98) = true := by rw [h]; rfl
    have e102 : ((s[0].toNat : Int) == 102) = false := by rw [h]; rfl
    have hl : 48 ≤ s[0].toNat := by rw [h]; decide
    have hl' : 55 < s[0].toNat := by rw [h]; decide
    clear h hb hd hoct
    go_enter Try.func60, Try.ntmps60
    go_wp2_with fail
    refine wp_loop_rounds 1 ?_
    rw [rounds_succ]
    go_wp2_with fail
    go_ret2
    exact ⟨w.heap.size, rfl, by rw [HD.out]; exact Blk.fresh w _ _, Nat.le_refl _, (Kept.refl w).alloc _ _⟩
  · rw [hb] at hd
    have HD := Lib.hid hd
    have e110 : ((s[0].toNat : Int) == 110) = false := by rw [h]; rfl
    have e114 : ((s[0].toNat : Int) == 114) = false := by rw [h]; rfl
    have e116 : ((s[0].toNat : Int) == 116) = false := by rw [h]; rfl
    have e98 : ((s[0].toNat : Int) == 98) = false := by rw [h]; rfl
    have e102 : ((s[0].toNat : Int) == 102) = true := by rw [h]; rfl
    have hl : 48 ≤ s[0].toNat := by rw [h]; decide
    have hl' : 55 < s[0].toNat := by rw [h]; decide
    clear h hb hd hoct
    go_enter Try.func60, Try.ntmps60
    go_wp2_with fail
    refine wp_loop_rounds 1 ?_
    rw [rounds_succ]
    go_wp2_with fail
    go_ret2
    exact ⟨w.heap.size, rfl, by rw [HD.out]; exact Blk.fresh w _ _, Nat.le_refl _, (Kept.refl w).alloc _ _⟩

/-- What the document's escape answers. -/
theorem Rescape_any (s : ByteArray) (w : World) (h0 : 0 < s.size) (hs : s.size ≤ 4294967296) (x : List UInt8) (n : Nat) (hx : (x, n) = Lx.esc s.data.toList) :
    Calls Try.prog 60 #[.string s] w fun e w' => ∃ v, e = .returned (.tuple #[v, .int .i64 n]) ∧ Few w.heap.size w' v x ∧ Kept w w' := by
  cases ho : Lx.isOct s[0]
  · have hd : s.data.toList = s[0] :: s.data.toList.drop 1 := by
      have := rdrop_cons s 0 h0
      rwa [List.drop_zero] at this
    by_cases h13 : s[0] = 13
    · rw [hd, Lx.esc_cr h13] at hx
      obtain ⟨rfl, hn⟩ := Prod.mk.inj hx
      refine (Rescape_cr s w h0 hs h13 n hn).mono ?_
      rintro e w' ⟨rfl, rfl⟩
      exact ⟨_, rfl, .inl ⟨rfl, rfl⟩, Kept.refl w⟩
    by_cases h10 : s[0] = 10
    · rw [hd, Lx.esc_lf h10] at hx
      obtain ⟨rfl, rfl⟩ := Prod.mk.inj hx
      refine (Rescape_lf s w h0 h10).mono ?_
      rintro e w' ⟨rfl, rfl⟩
      exact ⟨_, rfl, .inl ⟨rfl, rfl⟩, Kept.refl w⟩
    · rw [hd, Lx.esc_other ho h13 h10] at hx
      obtain ⟨rfl, rfl⟩ := Prod.mk.inj hx
      refine (Rescape_one s w h0 ho h13 h10 _ rfl).mono ?_
      rintro e w' ⟨g, rfl, hb, hg, hk⟩
      exact ⟨_, rfl, .inr ⟨g, _, rfl, rfl, hb, hg⟩, hk⟩
  · exact Rescape_oct s w h0 hs ho x n hx

end Go.Proofs.Ytoakbcjdkohoiaa
