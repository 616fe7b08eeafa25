/-
  What package lex's questions on one byte answer; none of them turns anything.
  The closure that goes over the bytes of a text, the one that tells where it stands, and takeAll: over whatever question on a byte that turns nothing.
  What package lex's Space answers, at every place.
  What lies in memory while a reader of package lex goes: its answer's block, the closures' variables, the bytes so far.
-/
import Derived.Test.YtbgdeaeikijdgaaGreatDoorXBase
import Derived.Test.YtbgdeaeikijdgaaGreatDoorFixW
import Derived.Test.YtbgdeaeikijdgaaGreatDoorLexM
import Derived.Test.YtbgdeaeikijdgaaGreatDoorShelf
import Derived.Deep.LoopGhost
import Derived.Shelf.Abstract
import Derived.Laws.AppendOwn
import Derived.Laws.OwnMore
import Derived.Laws.BytesArg
import Derived.Laws.IdiomStrings
import Derived.OwnWalk
namespace Go.Proofs.YtbgdeaeikijdgaaGreatDoor
open Go.RowKit

theorem IndexByte_at (l : List UInt8) (c : UInt8) (w : World) :
    Calls Tryz.prog 151 #[.string ⟨l.toArray⟩, .int .u8 (c.toNat : Int)] w fun e w' => e = .returned (.int .i64 (Lib.indexByte l c)) ∧ w = w' :=
  (Tryz.strings_IndexByte ⟨l.toArray⟩ (c.toNat : Int) w).mono fun e w' ⟨he, hw⟩ => ⟨by rw [he]; simp, hw.symm⟩

theorem white_index (c : UInt8) : decide (0 ≤ Lib.indexByte [0, 9, 10, 12, 13, 32] c) = Lx.white c := by
  have := Lx.byte_all (fun c => decide (0 ≤ Lib.indexByte [0, 9, 10, 12, 13, 32] c) == Lx.white c) (by kernel_rfl) c
  simpa using this
theorem delim_index (c : UInt8) : decide (0 ≤ Lib.indexByte [40, 41, 60, 62, 91, 93, 123, 125, 47, 37] c) = Lx.delim c := by
  have := Lx.byte_all (fun c => decide (0 ≤ Lib.indexByte [40, 41, 60, 62, 91, 93, 123, 125, 47, 37] c) == Lx.delim c) (by kernel_rfl) c
  simpa using this

theorem White_any (c : UInt8) (w : World) :
    Calls Tryz.prog 137 #[.int .u8 (c.toNat : Int)] w fun e w' => e = .returned (.bool (Lx.white c)) ∧ w = w' := by
  have H := Lib.hid (white_index c)
  go_enter Tryz.func137, Tryz.ntmps137
  go_wp2_with (go_at_call 151; refine (IndexByte_at [0, 9, 10, 12, 13, 32] c _).mono ?_; rintro e w' ⟨rfl, rfl⟩)
  go_ret
  exact ⟨ret_bool H.out, rfl⟩
theorem Delim_any (c : UInt8) (w : World) :
    Calls Tryz.prog 150 #[.int .u8 (c.toNat : Int)] w fun e w' => e = .returned (.bool (Lx.delim c)) ∧ w = w' := by
  have H := Lib.hid (delim_index c)
  go_enter Tryz.func150, Tryz.ntmps150
  go_wp2_with (go_at_call 151; refine (IndexByte_at [40, 41, 60, 62, 91, 93, 123, 125, 47, 37] c _).mono ?_; rintro e w' ⟨rfl, rfl⟩)
  go_ret
  exact ⟨ret_bool H.out, rfl⟩

theorem regular_any (c : UInt8) (w : World) :
    Calls Tryz.prog 116 #[.int .u8 (c.toNat : Int)] w fun e w' => e = .returned (.bool (Lx.reg c)) ∧ w = w' := by
  have H := Lib.hid (show Lx.reg c = (!Lx.white c && !Lx.delim c) from rfl)
  cases h : Lx.white c
  · have H1 := Lib.hid (show Lx.reg c = !Lx.delim c by rw [H.out, h]; rfl)
    clear H
    go_enter Tryz.func116, Tryz.ntmps116
    go_wp2_with (first | (go_at_call 137; refine (White_any c _).mono ?_; rintro e w' ⟨rfl, rfl⟩) | (go_at_call 150; refine (Delim_any c _).mono ?_; rintro e w' ⟨rfl, rfl⟩))
    go_ret
    exact ⟨ret_bool H1.out.symm, rfl⟩
  · have H1 := Lib.hid (show Lx.reg c = false by rw [H.out, h]; rfl)
    clear H
    go_enter Tryz.func116, Tryz.ntmps116
    go_wp2_with (first | (go_at_call 137; refine (White_any c _).mono ?_; rintro e w' ⟨rfl, rfl⟩) | (go_at_call 150; refine (Delim_any c _).mono ?_; rintro e w' ⟨rfl, rfl⟩))
    go_ret
    exact ⟨ret_bool H1.out.symm, rfl⟩

theorem blank_any (c : UInt8) (w : World) :
    Calls Tryz.prog 101 #[.int .u8 (c.toNat : Int)] w fun e w' => e = .returned (.bool (Lx.blank c)) ∧ w = w' := by
  have H := Lib.hid (show Lx.blank c = (Lx.white c || c == 37) from rfl)
  cases h : Lx.white c
  · have HC : (((c.toNat : Int)) == 37) = (c == 37) := by
      have := Lx.byte_all (fun c => (((c.toNat : Int)) == 37) == (c == 37)) (by kernel_rfl) c
      simpa using this
    have H1 := Lib.hid (show Lx.blank c = (((c.toNat : Int)) == 37) by rw [H.out, h, HC]; rfl)
    clear H HC
    go_enter Tryz.func101, Tryz.ntmps101
    go_wp2_with (go_at_call 137; refine (White_any c _).mono ?_; rintro e w' ⟨rfl, rfl⟩)
    go_ret
    exact ⟨ret_bool H1.out.symm, rfl⟩
  · have H1 := Lib.hid (show Lx.blank c = true by rw [H.out, h]; rfl)
    clear H
    go_enter Tryz.func101, Tryz.ntmps101
    go_wp2_with (go_at_call 137; refine (White_any c _).mono ?_; rintro e w' ⟨rfl, rfl⟩)
    go_ret
    exact ⟨ret_bool H1.out.symm, rfl⟩

/-- Two tests on a byte, in the walk's spelling. -/
theorem inLine_any (c : UInt8) (w : World) :
    Calls Tryz.prog 103 #[.int .u8 (c.toNat : Int)] w fun e w' => e = .returned (.bool (Lx.inLine c)) ∧ w = w' := by
  have H := Lib.hid (show Lx.inLine c = (((c.toNat : Int) != 10) && ((c.toNat : Int) != 13)) by
    have := Lx.byte_all (fun c => Lx.inLine c == (((c.toNat : Int) != 10) && ((c.toNat : Int) != 13))) (by kernel_rfl) c
    simpa using this)
  cases h : ((c.toNat : Int) != 10)
  · have H1 := Lib.hid (show Lx.inLine c = false by rw [H.out, h]; rfl)
    clear H
    go_enter Tryz.func103, Tryz.ntmps103
    go_wp2
    go_ret
    exact ⟨ret_bool H1.out.symm, rfl⟩
  · have H1 := Lib.hid (show Lx.inLine c = ((c.toNat : Int) != 13) by rw [H.out, h]; rfl)
    clear H
    go_enter Tryz.func103, Tryz.ntmps103
    go_wp2
    go_ret
    exact ⟨ret_bool H1.out.symm, rfl⟩

theorem printed_any (c : UInt8) (w : World) :
    Calls Tryz.prog 117 #[.int .u8 (c.toNat : Int)] w fun e w' => e = .returned (.bool (Lx.printed c)) ∧ w = w' := by
  by_cases h : 32 ≤ c.toNat
  · by_cases h2 : c.toNat ≤ 126
    · have H1 := Lib.hid (show Lx.printed c = true by simp [Lx.printed, h, h2])
      go_enter Tryz.func117, Tryz.ntmps117
      go_wp2
      go_ret
      exact ⟨ret_bool (by rw [H1.out] <;> first | rfl | (simp; done) | (simp; omega)), rfl⟩
    · have H1 := Lib.hid (show Lx.printed c = false by simp [Lx.printed, h2])
      have h3 : 126 < c.toNat := by omega
      clear h2
      go_enter Tryz.func117, Tryz.ntmps117
      go_wp2
      go_ret
      exact ⟨ret_bool (by rw [H1.out] <;> first | rfl | (simp; done) | (simp; omega)), rfl⟩
  · have H1 := Lib.hid (show Lx.printed c = false by simp [Lx.printed, h])
    have h3 : c.toNat < 32 := by omega
    clear h
    go_enter Tryz.func117, Tryz.ntmps117
    go_wp2
    go_ret
    exact ⟨ret_bool (by rw [H1.out] <;> first | rfl | (simp; done) | (simp; omega)), rfl⟩

theorem isDigit8_any (c : UInt8) (w : World) :
    Calls Tryz.prog 165 #[.int .u8 (c.toNat : Int)] w fun e w' => e = .returned (.bool (Lx.isOct c)) ∧ w = w' := by
  by_cases h : 48 ≤ c.toNat
  · by_cases h2 : c.toNat ≤ 55
    · have H1 := Lib.hid (show Lx.isOct c = true by simp [Lx.isOct, h, h2])
      go_enter Tryz.func165, Tryz.ntmps165
      go_wp2
      go_ret
      exact ⟨ret_bool (by rw [H1.out] <;> first | rfl | (simp; done) | (simp; omega)), rfl⟩
    · have H1 := Lib.hid (show Lx.isOct c = false by simp [Lx.isOct, h2])
      have h3 : 55 < c.toNat := by omega
      clear h2
      go_enter Tryz.func165, Tryz.ntmps165
      go_wp2
      go_ret
      exact ⟨ret_bool (by rw [H1.out] <;> first | rfl | (simp; done) | (simp; omega)), rfl⟩
  · have H1 := Lib.hid (show Lx.isOct c = false by simp [Lx.isOct, h])
    have h3 : c.toNat < 48 := by omega
    clear h
    go_enter Tryz.func165, Tryz.ntmps165
    go_wp2
    go_ret
    exact ⟨ret_bool (by rw [H1.out] <;> first | rfl | (simp; done) | (simp; omega)), rfl⟩

theorem anyByte_any (c : UInt8) (w : World) :
    Calls Tryz.prog 139 #[.int .u8 (c.toNat : Int)] w fun e w' => e = .returned (.bool true) ∧ w = w' := by
  go_enter Tryz.func139, Tryz.ntmps139
  go_wp2
  go_ret
  exact ⟨rfl, rfl⟩

/-- The ways of isDigit16 and digit16, by where a byte lies. -/
theorem isDigit16_any (c : UInt8) (w : World) :
    Calls Tryz.prog 140 #[.int .u8 (c.toNat : Int)] w fun e w' => e = .returned (.bool (Lx.isHex c)) ∧ w = w' := by
  rcases (show c.toNat < 48 ∨ (48 ≤ c.toNat ∧ c.toNat ≤ 57) ∨ (57 < c.toNat ∧ c.toNat < 65) ∨ (65 ≤ c.toNat ∧ c.toNat ≤ 70) ∨ (70 < c.toNat ∧ c.toNat < 97) ∨ (97 ≤ c.toNat ∧ c.toNat ≤ 102) ∨ 102 < c.toNat by omega) with h | ⟨h, h2⟩ | ⟨h, h2⟩ | ⟨h, h2⟩ | ⟨h, h2⟩ | ⟨h, h2⟩ | h
  all_goals
    first
      | have H1 := Lib.hid (show Lx.isHex c = true by simp [Lx.isHex]; omega)
      | have H1 := Lib.hid (show Lx.isHex c = false by simp [Lx.isHex]; omega)
    go_enter Tryz.func140, Tryz.ntmps140
    go_wp2
    go_ret
    exact ⟨ret_bool (by rw [H1.out] <;> first | rfl | (simp; done) | (simp; omega)), rfl⟩

theorem digit16_any (c : UInt8) (w : World) (hc : Lx.isHex c = true) :
    Calls Tryz.prog 141 #[.int .u8 (c.toNat : Int)] w fun e w' => e = .returned (.int .u8 ((Lx.hexV c).toNat : Int)) ∧ w = w' := by
  have hh : (48 ≤ c.toNat ∧ c.toNat ≤ 57) ∨ (65 ≤ c.toNat ∧ c.toNat ≤ 70) ∨ (97 ≤ c.toNat ∧ c.toNat ≤ 102) := by
    simp [Lx.isHex] at hc; omega
  clear hc
  rcases hh with ⟨h, h2⟩ | ⟨h, h2⟩ | ⟨h, h2⟩
  · have H1 := Lib.hid (show ((Lx.hexV c).toNat : Int) = (c.toNat : Int) - 48 by
      rw [Lx.hexV, if_neg (by omega), if_neg (by omega), UInt8.toNat_sub_of_le _ _ (by rw [UInt8.le_iff_toNat_le]; exact h)]
      show ((c.toNat - 48 : Nat) : Int) = _; omega)
    go_enter Tryz.func141, Tryz.ntmps141
    go_wp2
    go_ret
    exact ⟨ret_int H1.out.symm, rfl⟩
  · have H1 := Lib.hid (show ((Lx.hexV c).toNat : Int) = (c.toNat : Int) - 65 + 10 by
      rw [Lx.hexV, if_neg (by omega), if_pos (by omega), UInt8.toNat_sub_of_le _ _ (by rw [UInt8.le_iff_toNat_le]; show 55 ≤ _; omega)]
      show ((c.toNat - 55 : Nat) : Int) = _; omega)
    go_enter Tryz.func141, Tryz.ntmps141
    go_wp2
    go_ret
    exact ⟨ret_int H1.out.symm, rfl⟩
  · have H1 := Lib.hid (show ((Lx.hexV c).toNat : Int) = (c.toNat : Int) - 97 + 10 by
      rw [Lx.hexV, if_pos (by omega), UInt8.toNat_sub_of_le _ _ (by rw [UInt8.le_iff_toNat_le]; show 87 ≤ _; omega)]
      show ((c.toNat - 87 : Nat) : Int) = _; omega)
    go_enter Tryz.func141, Tryz.ntmps141
    go_wp2
    go_ret
    exact ⟨ret_int H1.out.symm, rfl⟩

theorem beginsNumber_any (c : UInt8) (w : World) :
    Calls Tryz.prog 144 #[.int .u8 (c.toNat : Int)] w fun e w' => e = .returned (.bool (Lx.numB c)) ∧ w = w' := by
  have H := Lib.hid (show Lx.numB c = ((decide (48 ≤ (c.toNat : Int)) && decide ((c.toNat : Int) ≤ 57)) || ((c.toNat : Int) == 43) || ((c.toNat : Int) == 45) || ((c.toNat : Int) == 46)) by
    have := Lx.byte_all (fun c => Lx.numB c == ((decide (48 ≤ (c.toNat : Int)) && decide ((c.toNat : Int) ≤ 57)) || ((c.toNat : Int) == 43) || ((c.toNat : Int) == 45) || ((c.toNat : Int) == 46))) (by kernel_rfl) c
    simpa using this)
  by_cases h : 48 ≤ c.toNat
  · by_cases h2 : c.toNat ≤ 57
    · have H1 := Lib.hid (show Lx.numB c = true by rw [H.out]; simp; omega)
      clear H
      go_enter Tryz.func144, Tryz.ntmps144
      go_wp2
      go_ret
      exact ⟨ret_bool (by rw [H1.out] <;> first | rfl | (simp; done) | (simp; omega)), rfl⟩
    · have H1 := Lib.hid (show Lx.numB c = false by rw [H.out]; simp; omega)
      have h3 : 57 < c.toNat := by omega
      clear H h2
      go_enter Tryz.func144, Tryz.ntmps144
      go_wp2
      go_ret
      exact ⟨ret_bool (by rw [H1.out] <;> first | rfl | (simp; done) | (simp; omega)), rfl⟩
  · have h3 : c.toNat < 48 := by omega
    clear h
    go_enter Tryz.func144, Tryz.ntmps144
    go_wp2
    all_goals
      go_ret
      refine ⟨ret_bool ?_, rfl⟩
      rw [H.out, show decide (48 ≤ (c.toNat : Int)) = false by simp; omega]
      simp [*]

end Go.Proofs.YtbgdeaeikijdgaaGreatDoor

namespace Go.Proofs.YtbgdeaeikijdgaaGreatDoor
open Go.RowKit

/-- The closures' variables: the text, and the place. -/
def At (s : ByteArray) (b k : Nat) (w : World) : Prop := Blk w b #[.string s] 9 ∧ Blk w (b + 1) #[.int .i64 k] 3
/-- A question on a byte that turns nothing. -/
def Fits (g : Nat) (lb : Array Value) (p : UInt8 → Bool) (w : World) : Prop :=
  ∀ c : UInt8, Calls Tryz.prog g (#[.int .u8 (c.toNat : Int)] ++ lb) w fun e w' => e = .returned (.bool (p c)) ∧ w = w'
def Ent (g : Nat) : Prop := ∀ args w, (callFunc g args).run Tryz.prog w = .ok (.enter g args) w

theorem gb_refl (w : World) (r : Option Nat) : w.grownBy w r := ⟨rfl, rfl, rfl, Nat.le_refl _, fun _ _ _ => rfl⟩
theorem gb_trans {a b c : World} {r : Option Nat} (h : a.grownBy b r) (k : b.grownBy c r) : a.grownBy c r :=
  ⟨k.os.trans h.os, k.tape.trans h.tape, k.output.trans h.output, Nat.le_trans h.size k.size, fun j hj hn => (k.block j (Nat.lt_of_lt_of_le hj h.size) hn).trans (h.block j hj hn)⟩
theorem gb_set (w : World) (k : Nat) (v : Value) : w.grownBy (w.setCell ⟨k, 0, none⟩ v) (some k) := by
  refine ⟨rfl, rfl, rfl, by simp, fun j _ hn => Below.heap_setCell w ⟨k, 0, none⟩ v j ?_⟩
  intro h; exact hn (by rw [h])
theorem At.set {s : ByteArray} {b k : Nat} {w : World} (h : At s b k w) (v : Int) (j : Nat) (hv : v = (j : Int)) : At s b j (w.setCell ⟨b + 1, 0, none⟩ (.int .i64 v)) := by
  subst hv
  exact ⟨h.1.other (by omega) _, by simpa using h.2.set 0 (.int .i64 (j : Int))⟩
theorem At.cells {s : ByteArray} {b k : Nat} {w : World} (h : At s b k w) : w.cell? ⟨b, 0, none⟩ = some (.string s) ∧ w.cell? ⟨b + 1, 0, none⟩ = some (.int .i64 k) ∧ w.frozen? ⟨b + 1, 0, none⟩ = false :=
  ⟨h.1.cell 0, h.2.cell 0, h.2.frozen 0⟩
theorem At.gb {s : ByteArray} {b k : Nat} {w w' : World} {r : Option Nat} (h : At s b k w) (g : w.grownBy w' r) (h1 : some b ≠ r) (h2 : some (b + 1) ≠ r) : At s b k w' :=
  ⟨(g.block b h.1.lt h1).trans h.1, (g.block (b + 1) h.2.lt h2).trans h.2⟩
theorem At.kept {s : ByteArray} {b k : Nat} {w w' : World} (h : At s b k w) (g : Kept w w') : At s b k w' := ⟨h.1.kept g, h.2.kept g⟩

theorem over_any (s : ByteArray) (k : Nat) (w : World) :
    Calls Tryz.prog 100 #[.string s, .int .i64 k] w fun e w' =>
      e = .returned (.tuple #[.func (.func 135) #[] #[.pointer (some ⟨w.heap.size + 1, 0, none⟩), .pointer (some ⟨w.heap.size, 0, none⟩)], .func (.func 136) #[] #[.pointer (some ⟨w.heap.size + 1, 0, none⟩)]])
      ∧ w' = (w.alloc (.cells #[.string s] 9)).alloc (.cells #[.int .i64 k] 3) := by
  have hmf : ∀ (fn : Fn) (first cap : Array Value) (w : World), (Instr.makeFunc fn first cap).run Tryz.prog w = .ok (.func fn first cap) w := fun _ _ _ _ => rfl
  go_enter Tryz.func100, Tryz.ntmps100
  go_wp2
  go_ret2
  exact ⟨rfl, rfl⟩
theorem at_over (s : ByteArray) (k : Nat) (w : World) : At s w.heap.size k ((w.alloc (.cells #[.string s] 9)).alloc (.cells #[.int .i64 k] 3)) :=
  ⟨(Blk.fresh w _ _).alloc _, Blk.fresh' _ _ (by simp)⟩

theorem place_any (s : ByteArray) (b k : Nat) (w : World) (hat : At s b k w) :
    Calls Tryz.prog 136 #[.pointer (some ⟨b + 1, 0, none⟩)] w fun e w' => e = .returned (.int .i64 k) ∧ w = w' := by
  have hc := hat.cells.2.1
  go_enter Tryz.func136, Tryz.ntmps136
  go_wp2
  go_ret
  exact ⟨rfl, rfl⟩

theorem take_yes (g : Nat) (lb : Array Value) (p : UInt8 → Bool) (eg : Ent g) (s : ByteArray) (b k : Nat) (w : World) (hat : At s b k w) (hk : k < s.size) (hs : s.size ≤ 9223372036854775807)
    (hf : Fits g lb p w) (hp : p s[k] = true) :
    Calls Tryz.prog 135 #[.func (.func g) #[] lb, .pointer (some ⟨b + 1, 0, none⟩), .pointer (some ⟨b, 0, none⟩)] w fun e w' =>
      e = .returned (.tuple #[.int .u8 (s[k].toNat : Int), .bool true]) ∧ At s b (k + 1) w' ∧ w.grownBy w' (some (b + 1)) := by
  obtain ⟨h0, h1, h2⟩ := hat.cells
  have cS := hf s[k]
  rw [hp] at cS
  have HA := Lib.hid hat
  have HS := Lib.hid (hat.set ((k : Int) + 1) (k + 1) (by omega))
  have h3 : (w.setCell ⟨b + 1, 0, none⟩ (.int .i64 ((k : Int) + 1))).cell? ⟨b, 0, none⟩ = some (.string s) := HS.out.cells.1
  have h4 : (w.setCell ⟨b + 1, 0, none⟩ (.int .i64 ((k : Int) + 1))).cell? ⟨b + 1, 0, none⟩ = some (.int .i64 ((k : Int) + 1)) := by
    have := HS.out.cells.2.1; rw [this]; simp
  have hne : ((k : Int) == (s.size : Int)) = false := by rw [beq_eq_false_iff_ne]; omega
  have EG := Lib.hid eg
  unfold Ent at eg
  clear hat hf
  go_enter Tryz.func135, Tryz.ntmps135
  go_wp2_with (go_at_fn g; refine cS.mono ?_; rintro e w' ⟨rfl, rfl⟩)
  go_ret2
  exact ⟨rfl, HS.out, gb_set _ _ _⟩

theorem take_end (g : Nat) (lb : Array Value) (s : ByteArray) (b : Nat) (w : World) (hat : At s b s.size w) :
    Calls Tryz.prog 135 #[.func (.func g) #[] lb, .pointer (some ⟨b + 1, 0, none⟩), .pointer (some ⟨b, 0, none⟩)] w fun e w' =>
      e = .returned (.tuple #[.int .u8 0, .bool false]) ∧ w = w' := by
  obtain ⟨h0, h1, h2⟩ := hat.cells
  clear hat
  go_enter Tryz.func135, Tryz.ntmps135
  go_wp2
  go_ret2
  exact ⟨rfl, rfl⟩

theorem take_no (g : Nat) (lb : Array Value) (p : UInt8 → Bool) (eg : Ent g) (s : ByteArray) (b k : Nat) (w : World) (hat : At s b k w) (hk : k < s.size)
    (hf : Fits g lb p w) (hp : p s[k] = false) :
    Calls Tryz.prog 135 #[.func (.func g) #[] lb, .pointer (some ⟨b + 1, 0, none⟩), .pointer (some ⟨b, 0, none⟩)] w fun e w' =>
      e = .returned (.tuple #[.int .u8 0, .bool false]) ∧ w = w' := by
  obtain ⟨h0, h1, h2⟩ := hat.cells
  have cS := hf s[k]
  rw [hp] at cS
  have hne : ((k : Int) == (s.size : Int)) = false := by rw [beq_eq_false_iff_ne]; omega
  unfold Ent at eg
  clear hat hf
  go_enter Tryz.func135, Tryz.ntmps135
  go_wp2_with (go_at_fn g; refine cS.mono ?_; rintro e w' ⟨rfl, rfl⟩)
  go_ret2
  exact ⟨rfl, rfl⟩

theorem take_not (g : Nat) (lb : Array Value) (p : UInt8 → Bool) (eg : Ent g) (s : ByteArray) (b k : Nat) (w : World) (hat : At s b k w) (hk : k ≤ s.size)
    (hf : Fits g lb p w) (hp : ∀ h : k < s.size, p s[k] = false) :
    Calls Tryz.prog 135 #[.func (.func g) #[] lb, .pointer (some ⟨b + 1, 0, none⟩), .pointer (some ⟨b, 0, none⟩)] w fun e w' =>
      e = .returned (.tuple #[.int .u8 0, .bool false]) ∧ w = w' := by
  by_cases h : k < s.size
  · exact take_no g lb p eg s b k w hat h hf (hp h)
  · obtain rfl : k = s.size := by omega
    exact take_end g lb s b w hat

theorem drop_cons (s : ByteArray) (k : Nat) (h : k < s.size) : s.data.toList.drop k = s[k] :: s.data.toList.drop (k + 1) := by
  rw [List.drop_eq_getElem_cons (by simpa using h)]; rfl
theorem drop_end (s : ByteArray) (k : Nat) (h : s.size ≤ k) : s.data.toList.drop k = [] := List.drop_eq_nil_of_le (by simpa using h)

/-- takeAll: to the place behind all that fit. -/
theorem takeAll_any (g : Nat) (lb : Array Value) (p : UInt8 → Bool) (eg : Ent g) (s : ByteArray) (b k : Nat) (w : World) (hat : At s b k w) (hk : k ≤ s.size) (hs : s.size ≤ 9223372036854775807)
    (hf : ∀ w', Fits g lb p w') :
    Calls Tryz.prog 102 #[.func (.func 135) #[] #[.pointer (some ⟨b + 1, 0, none⟩), .pointer (some ⟨b, 0, none⟩)], .func (.func g) #[] lb] w fun e w' =>
      e = .returned (.tuple #[]) ∧ At s b (k + Lx.tw p (s.data.toList.drop k)) w' ∧ w.grownBy w' (some (b + 1)) := by
  have HF := Lib.hid hf
  have EG := Lib.hid eg
  clear hf eg
  go_enter Tryz.func102, Tryz.ntmps102
  go_wp2
  go_loopg [5] (s.size - k) (fun n _ wr => ∃ j : Nat, n = s.size - j ∧ j ≤ s.size ∧ At s b j wr ∧ w.grownBy wr (some (b + 1)) ∧ Hid (j + Lx.tw p (s.data.toList.drop j) = k + Lx.tw p (s.data.toList.drop k)))
  case atStart => exact ⟨k, rfl, hk, hat, gb_refl _ _, Lib.hid rfl⟩
  case round =>
    obtain ⟨j, hn, hj, ha, hgb, HE⟩ := hrel
    by_cases hlt : j < s.size
    · have HD := Lib.hid (drop_cons s j hlt)
      cases hp : p s[j]
      · have HT := Lib.hid (show k + Lx.tw p (s.data.toList.drop k) = j by
          rw [← HE.out, HD.out, Lx.tw, hp]; simp)
        go_wp2_with (go_at_call 135; refine (take_no g lb p EG.out s b j _ ha hlt (HF.out _) hp).mono ?_; rintro e w' ⟨rfl, rfl⟩)
        refine bodyPost_ret (results_none rfl _ _ _) rfl ?_
        exact ⟨rfl, by rw [HT.out]; exact ha, hgb⟩
      · have HT := Lib.hid (show j + 1 + Lx.tw p (s.data.toList.drop (j + 1)) = k + Lx.tw p (s.data.toList.drop k) by
          rw [← HE.out, HD.out, Lx.tw, hp]; simp; omega)
        go_wp2_with (go_at_call 135; refine (take_yes g lb p EG.out s b j _ ha hlt hs (HF.out _) hp).mono ?_; rintro e w' ⟨rfl, ha', hg'⟩)
        go_roundg (s.size - (j + 1))
        case measure => omega
        case rel => exact ⟨j + 1, rfl, by omega, by assumption, gb_trans hgb (by assumption), HT⟩
    · obtain rfl : j = s.size := by omega
      have HT := Lib.hid (show k + Lx.tw p (s.data.toList.drop k) = s.size by
        rw [← HE.out, drop_end s s.size (Nat.le_refl _), Lx.tw]; rfl)
      go_wp2_with (go_at_call 135; refine (take_end g lb s b _ ha).mono ?_; rintro e w' ⟨rfl, rfl⟩)
      refine bodyPost_ret (results_none rfl _ _ _) rfl ?_
      exact ⟨rfl, by rw [HT.out]; exact ha, hgb⟩

theorem ent_regular : Ent 116 := Go.Proofs.enters_of Tryz.func116 (by kernel_rfl) rfl
theorem ent_blank : Ent 101 := Go.Proofs.enters_of Tryz.func101 (by kernel_rfl) rfl
theorem ent_inLine : Ent 103 := Go.Proofs.enters_of Tryz.func103 (by kernel_rfl) rfl
theorem ent_isDigit16 : Ent 140 := Go.Proofs.enters_of Tryz.func140 (by kernel_rfl) rfl
theorem ent_isDigit8 : Ent 165 := Go.Proofs.enters_of Tryz.func165 (by kernel_rfl) rfl
theorem ent_anyByte : Ent 139 := Go.Proofs.enters_of Tryz.func139 (by kernel_rfl) rfl
theorem ent_is : Ent 164 := Go.Proofs.enters_of Tryz.func164 (by kernel_rfl) rfl
theorem fits_regular (w : World) : Fits 116 #[] Lx.reg w := fun c => regular_any c w
theorem fits_blank (w : World) : Fits 101 #[] Lx.blank w := fun c => blank_any c w
theorem fits_inLine (w : World) : Fits 103 #[] Lx.inLine w := fun c => inLine_any c w
theorem fits_isDigit16 (w : World) : Fits 140 #[] Lx.isHex w := fun c => isDigit16_any c w
theorem fits_isDigit8 (w : World) : Fits 165 #[] Lx.isOct w := fun c => isDigit8_any c w
theorem fits_anyByte (w : World) : Fits 139 #[] (fun _ => true) w := fun c => anyByte_any c w

/-- is: a closure over one byte. -/
theorem is_any (c : UInt8) (w : World) :
    Calls Tryz.prog 142 #[.int .u8 (c.toNat : Int)] w fun e w' =>
      e = .returned (.func (.func 164) #[] #[.pointer (some ⟨w.heap.size, 0, none⟩)]) ∧ w' = w.alloc (.cells #[.int .u8 (c.toNat : Int)] 5) := by
  have hmf : ∀ (fn : Fn) (first cap : Array Value) (w : World), (Instr.makeFunc fn first cap).run Tryz.prog w = .ok (.func fn first cap) w := fun _ _ _ _ => rfl
  go_enter Tryz.func142, Tryz.ntmps142
  go_wp2
  go_ret
  exact ⟨rfl, rfl⟩
theorem fits_is (c : UInt8) (b : Nat) (w : World) (h : Blk w b #[.int .u8 (c.toNat : Int)] 5) : Fits 164 #[.pointer (some ⟨b, 0, none⟩)] (fun x => x == c) w := by
  intro x
  have hc : w.cell? ⟨b, 0, none⟩ = some (.int .u8 (c.toNat : Int)) := h.cell 0
  have HX := Lib.hid (show ((x.toNat : Int) == (c.toNat : Int)) = (x == c) by
    rw [Bool.eq_iff_iff]; simp; exact ⟨fun h => UInt8.toNat_inj.1 (by omega), fun h => by rw [h]⟩)
  clear h
  show Calls Tryz.prog 164 #[.int .u8 (x.toNat : Int), .pointer (some ⟨b, 0, none⟩)] w _
  go_enter Tryz.func164, Tryz.ntmps164
  go_wp2
  go_ret
  exact ⟨ret_bool HX.out, rfl⟩

end Go.Proofs.YtbgdeaeikijdgaaGreatDoor

namespace Go.Proofs.YtbgdeaeikijdgaaGreatDoor
open Go.RowKit
theorem run_lower {P : Program} {w : World} (ts : Array TypeId) (t : TypeId) (k k' : IntKind) (x y : Int) : (Builtin.min_ ts t #[.int k x, .int k' y]).run P w = .ok (.int k (min x y)) w := by
  rw [run_min_int2]; congr 2; split <;> omega
theorem run_higher {P : Program} {w : World} (ts : Array TypeId) (t : TypeId) (k k' : IntKind) (x y : Int) : (Builtin.max_ ts t #[.int k x, .int k' y]).run P w = .ok (.int k (max x y)) w := by
  rw [run_max_int2]; congr 2; split <;> omega
attribute [local go_sem ↓] run_lower run_higher

theorem kept_over {w wr : World} {c0 c1 : Array Value} {t0 t1 : TypeId} {r : Option Nat} (h : ((w.alloc (.cells c0 t0)).alloc (.cells c1 t1)).grownBy wr r) (hr : ∀ j, r = some j → w.heap.size ≤ j) : Kept w wr :=
  (((Kept.refl w).alloc c0 t0).alloc c1 t1).grown h (by simp; omega) hr
theorem space_start (l : List UInt8) (a : Int) : ∃ k : Nat, min (max a 0) (l.length : Int) = (k : Int) ∧ k ≤ l.length ∧ Lx.spaceV l a = k + Lx.spc false (l.drop k) := by
  refine ⟨(min (max a 0) (l.length : Int)).toNat, ?_, ?_, rfl⟩ <;> omega

set_option maxHeartbeats 1000000 in
theorem Space_any (s : ByteArray) (a : Int) (w : World) (hs : s.size ≤ 9223372036854775807) :
    Calls Tryz.prog 72 #[.string s, .int .i64 a] w fun e w' => e = .returned (.int .i64 (Lx.spaceV s.data.toList a : Nat)) ∧ Kept w w' := by
  obtain ⟨k, hk, hkl, HV0⟩ := space_start s.data.toList a
  have HV := Lib.hid HV0
  clear HV0
  rw [show s.data.toList.length = s.size from by simp] at hk hkl
  go_enter Tryz.func72, Tryz.ntmps72
  go_wp2_with (go_at_call 100; refine (over_any s k _).mono ?_; rintro e w' ⟨rfl, rfl⟩)
  obtain ⟨b, hb⟩ : ∃ b, b = w.heap.size := ⟨_, rfl⟩
  have HB := Lib.hid hb
  have hat := at_over s k w
  rw [← hb] at hat
  rw [← hb]
  clear hb hk
  obtain ⟨w0, HW⟩ : ∃ w0, Hid (w0 = (w.alloc (.cells #[.string s] 9)).alloc (.cells #[.int .i64 k] 3)) := ⟨_, Lib.hid rfl⟩
  rw [← HW.out] at hat ⊢
  go_loopg [7] (s.size - k) (fun n _ wr => ∃ j : Nat, n = s.size - j ∧ j ≤ s.size ∧ At s b j wr ∧ w0.grownBy wr (some (b + 1)) ∧ Hid (Lx.spaceV s.data.toList a = j + Lx.spc false (s.data.toList.drop j)))
  case atStart => exact ⟨k, rfl, hkl, hat, gb_refl _ _, HV⟩
  case round =>
    obtain ⟨j, hn, hj, ha, hgb, HE⟩ := hrel
    have HG := Lib.hid hgb
    by_cases hlt : j < s.size
    · have HD := Lib.hid (drop_cons s j hlt)
      cases hp : Lx.white s[j]
      · by_cases h37 : s[j] = 37
        · have e37 : ((s[j].toNat : Int) == 37) = true := by rw [h37]; rfl
          have hbl : Lx.blank s[j] = true := by rw [h37]; rfl
          have HT := Lib.hid (show Lx.spaceV s.data.toList a = (j + 1 + Lx.tw Lx.inLine (s.data.toList.drop (j + 1))) + Lx.spc false (s.data.toList.drop (j + 1 + Lx.tw Lx.inLine (s.data.toList.drop (j + 1)))) by
            rw [HE.out, HD.out, Lx.spc, hp, h37, Lx.spc_line, List.drop_drop]; simp; omega)
          have HL := Lib.hid (Lx.tw_le Lx.inLine (s.data.toList.drop (j + 1)))
          clear h37 hgb
          go_wp2_with (first | (go_at_call 135; refine (take_yes _ #[] Lx.blank ent_blank s b j _ ha hlt hs (fits_blank _) hbl).mono ?_; rintro e w' ⟨rfl, ha', hg'⟩) | (go_at_call 102; refine (takeAll_any _ #[] Lx.inLine ent_inLine s b (j + 1) _ (by assumption) (by omega) hs (fun w => fits_inLine w)).mono ?_; rintro e w2 ⟨rfl, ha2, hg2⟩))
          go_roundg (s.size - (j + 1 + Lx.tw Lx.inLine (s.data.toList.drop (j + 1))))
          case measure => omega
          case rel => exact ⟨_, rfl, by have := HL.out; simp at this; omega, by assumption, gb_trans (gb_trans HG.out (by assumption)) (by assumption), HT⟩
        · have e37 : ((s[j].toNat : Int) == 37) = false := by rw [beq_eq_false_iff_ne]; intro h; exact h37 (UInt8.toNat_inj.1 (by have : (37 : UInt8).toNat = 37 := rfl; omega))
          have hbl : Lx.blank s[j] = false := by rw [Lx.blank, hp]; simpa using h37
          have HT := Lib.hid (show Lx.spaceV s.data.toList a = j by
            rw [HE.out, HD.out, Lx.spc, hp]; simp [h37])
          clear h37
          go_wp2_with (first | (go_at_call 135; refine (take_no _ #[] Lx.blank ent_blank s b j _ ha hlt (fits_blank _) hbl).mono ?_; rintro e w' ⟨rfl, rfl⟩) | (go_at_call 136; refine (place_any s b j _ ha).mono ?_; rintro e w2 ⟨rfl, rfl⟩))
          go_ret
          exact ⟨ret_int (by rw [HT.out]), kept_over (by rw [← HW.out]; exact HG.out) (fun i hi => by cases hi; have := HB.out; omega)⟩
      · have e37 : ((s[j].toNat : Int) == 37) = false := by
          have := Lx.byte_all (fun c => !Lx.white c || !((c.toNat : Int) == 37)) (by kernel_rfl) s[j]
          rw [hp] at this; simpa using this
        have hbl : Lx.blank s[j] = true := by rw [Lx.blank, hp]; rfl
        have HT := Lib.hid (show Lx.spaceV s.data.toList a = (j + 1) + Lx.spc false (s.data.toList.drop (j + 1)) by
          rw [HE.out, HD.out, Lx.spc, hp]; simp; omega)
        clear hgb
        go_wp2_with (go_at_call 135; refine (take_yes _ #[] Lx.blank ent_blank s b j _ ha hlt hs (fits_blank _) hbl).mono ?_; rintro e w' ⟨rfl, ha', hg'⟩)
        go_roundg (s.size - (j + 1))
        case measure => omega
        case rel => exact ⟨_, rfl, by omega, by assumption, gb_trans HG.out (by assumption), HT⟩
    · obtain rfl : j = s.size := by omega
      have HT := Lib.hid (show Lx.spaceV s.data.toList a = s.size by
        rw [HE.out, drop_end s s.size (Nat.le_refl _), Lx.spc]; rfl)
      go_wp2_with (first | (go_at_call 135; refine (take_end _ #[] s b _ ha).mono ?_; rintro e w' ⟨rfl, rfl⟩) | (go_at_call 136; refine (place_any s b _ _ ha).mono ?_; rintro e w2 ⟨rfl, rfl⟩))
      go_ret
      exact ⟨ret_int (by rw [HT.out]), kept_over (by rw [← HW.out]; exact HG.out) (fun i hi => by cases hi; have := HB.out; omega)⟩

end Go.Proofs.YtbgdeaeikijdgaaGreatDoor

namespace Go.Proofs.YtbgdeaeikijdgaaGreatDoor
open Go.RowKit

theorem byte_is {c d : UInt8} (h : c = d) (n : Int) (hn : (d.toNat : Int) = n) : ((c.toNat : Int) == n) = true := by
  subst h; subst hn; simp
theorem byte_not {c d : UInt8} (h : c ≠ d) (n : Int) (hn : (d.toNat : Int) = n) : ((c.toNat : Int) == n) = false := by
  subst hn
  rw [beq_eq_false_iff_ne]
  intro e
  exact h (UInt8.toNat_inj.1 (by omega))

def bytesV (l : List UInt8) : List Value := l.map fun c => .int .u8 (c.toNat : Int)
theorem bytesV_len (l : List UInt8) : (bytesV l).length = l.length := by simp [bytesV]
theorem bytesV_app (l m : List UInt8) : bytesV (l ++ m) = bytesV l ++ bytesV m := by simp [bytesV]

theorem info_u8 : (Tryz.prog.info? 5).map (fun i => (i.zero, i.size, i.bytes)) = some (some (.int .u8 0), 1, 1) := by kernel_rfl

/-- The zero token's cells. -/
def tok0 : Array Value := #[.int .i64 0, .int .i64 0, .string ⟨#[]⟩, .bool false, .int .i64 0, .int .i64 0]

/-- Bytes that the call itself has made. -/
def Owns (w : World) (B : Nat) (v : Value) (acc : List UInt8) : Prop := w.ownsRow B 5 1 v acc.length (bytesV acc)

theorem Owns.nil (w : World) (B : Nat) : Owns w B (.slice none 0 0) [] := World.ownsRow_nil _ _ _ _
theorem Owns.ne {w : World} {B : Nat} {v : Value} {acc : List UInt8} (h : Owns w B v acc) {b : Nat} {cs : Array Value} {t : TypeId} (hb : Blk w b cs t) (ht : t ≠ 5) : some b ≠ v.ownBlock := by
  intro e
  rcases h.2 with ⟨rfl, _⟩ | ⟨g, cap, cur, rfl, _, hh, _⟩
  · simp [Value.ownBlock] at e
  · simp only [Value.ownBlock, Option.some.injEq] at e
    subst e
    unfold Blk at hb
    rw [hh] at hb
    simp only [Option.some.injEq, Obj.cells.injEq] at hb
    exact ht hb.2.1.symm
theorem Owns.lt {w : World} {B : Nat} {v : Value} {acc : List UInt8} (h : Owns w B v acc) : ∀ k, v.ownBlock = some k → B ≤ k ∧ k < w.heap.size := World.ownsRow.lt h
theorem Owns.gb {w w' : World} {B : Nat} {v : Value} {acc : List UInt8} (h : Owns w B v acc) {r : Option Nat} (g : w.grownBy w' r) (hne : v.ownBlock = none ∨ v.ownBlock ≠ r) : Owns w' B v acc := World.ownsRow.kept h g hne
theorem Owns.alloc {w : World} {B : Nat} {v : Value} {acc : List UInt8} (h : Owns w B v acc) (o : Obj) : Owns (w.alloc o) B v acc := World.ownsRow.alloc h o
theorem Blk.gb {w w' : World} {b : Nat} {cs : Array Value} {t : TypeId} (h : Blk w b cs t) {r : Option Nat} (g : w.grownBy w' r) (hne : some b ≠ r) : Blk w' b cs t := (g.block b h.lt hne).trans h

/-- A reader on its way: begun in w, over s, at k, with the bytes acc in the slice v. -/
structure Run (w : World) (s : ByteArray) (k : Nat) (acc : List UInt8) (v : Value) (wr : World) : Prop where
  kept : Kept w wr
  res : Blk wr w.heap.size tok0 108
  here : At s (w.heap.size + 1) k wr
  own : Owns wr w.heap.size v acc

section
variable {w wr w' : World} {s : ByteArray} {k k' : Nat} {acc : List UInt8} {v v' : Value}
theorem Run.ne1 (h : Run w s k acc v wr) : some (w.heap.size + 1 + 1) ≠ v.ownBlock := h.own.ne h.here.2 (by decide)
theorem Run.ne0 (h : Run w s k acc v wr) : some (w.heap.size + 1) ≠ v.ownBlock := h.own.ne h.here.1 (by decide)
theorem Run.neR (h : Run w s k acc v wr) : some w.heap.size ≠ v.ownBlock := h.own.ne h.res (by decide)
/-- A byte is taken. -/
theorem Run.take (h : Run w s k acc v wr) (ha : At s (w.heap.size + 1) k' w') (hg : wr.grownBy w' (some (w.heap.size + 1 + 1))) : Run w s k' acc v w' :=
  ⟨Below.grown h.kept hg (Below.size h.kept) (fun j hj => by cases hj; omega), h.res.gb hg (by simp; omega), ha, h.own.gb hg (.inr (Ne.symm h.ne1))⟩
/-- A block is made. -/
theorem Run.alloc (h : Run w s k acc v wr) (o : Obj) : Run w s k acc v (wr.alloc o) :=
  ⟨h.kept.allocO o, h.res.alloc o, ⟨h.here.1.alloc o, h.here.2.alloc o⟩, h.own.alloc o⟩
theorem Run.drew (h : Run w s k acc v wr) : Run w s k acc v wr.drew := ⟨h.kept.drew, h.res, h.here, h.own⟩
/-- Bytes are appended. -/
theorem Run.app (h : Run w s k acc v wr) {news : List UInt8} {n : Nat} {xs : List Value} (hn : n = (acc ++ news).length) (hx : xs = bytesV (acc ++ news)) (ho : w'.ownsRow w.heap.size 5 1 v' n xs) (hg : wr.grownBy w' v.ownBlock) : Run w s k (acc ++ news) v' w' := by
  subst hn; subst hx
  exact ⟨Below.grown h.kept hg (Below.size h.kept) (fun j hj => (h.own.lt j hj).1), h.res.gb hg h.neR, h.here.gb hg h.ne0 h.ne1, ho⟩
end

/-- Bytes as a string. -/
theorem Owns.string {w : World} {B : Nat} {v : Value} {acc : List UInt8} (h : Owns w B v acc) : (convert 46 9 v).run Tryz.prog w = .ok (.string ⟨acc.toArray⟩) w := by
  unfold Owns at h
  rcases h.2 with ⟨rfl, h0⟩ | ⟨g, cap, cur, rfl, hb, hh, hn, hc, hs, ht⟩
  · obtain rfl : acc = [] := List.length_eq_zero_iff.1 h0
    exact run_convert_bytes_nil (P := Tryz.prog) w 46 5 Tryz.underlying46 Tryz.underlying5 0 0 _ Tryz.underlying9
  · refine run_convert_bytes_back (P := Tryz.prog) w 46 9 5 ⟨g, 0, none⟩ cap acc Tryz.underlying46 Tryz.underlying5 Tryz.underlying9 fun j hj => ?_
    rw [Addr.add_lit, Nat.zero_add, World.ownsRow.cellAt h j (by omega)]
    simp [bytesV, hj]

/-- Bytes are appended to bytes of the call's own. -/
theorem wpList_app_bytes {ops : Array Oper} {rest : List Oper} {o : Oper} {a : Act} {Q : Exit → Act → World → Prop} (hgd : o.guard = none) (s x : Operand)
    (ho : o.op = .call { callee := .builtin .append, args := #[s, x], argTypes := #[46, 46] })
    {W : World} (B : Nat) (v : Value) (acc : List UInt8) (hs : a.eval s = v) (hown : Owns W B v acc) (news : List UInt8) (cells : Array Value) (hc : cells = (bytesV news).toArray) (m c : Nat) (hm : m = news.length)
    (hx : a.eval x = .slice (some ⟨W.heap.size, 0, none⟩) m c) (hB : B ≤ W.heap.size) (hlen : acc.length + news.length ≤ 140737488355328)
    (h : ∀ v' w', Owns w' B v' (acc ++ news) → (W.alloc (.cells cells 5)).grownBy w' v.ownBlock → wpList Tryz.prog ops Q rest (a.put o.dst v') w') :
    wpList Tryz.prog ops Q (o :: rest) a (W.alloc (.cells cells 5)) := by
  obtain ⟨i0, hi, hz0, hz1, hz2⟩ := info_parts info_u8
  subst hc
  subst hm
  refine wpList_append_own _ hgd s x 46 ho B 5 i0 (.int .u8 0) 1 1 Tryz.underlying46 hi hz0 hz1 hz2 rfl (by decide) v acc.length (bytesV acc) hs (hown.alloc _) ⟨W.heap.size, 0, none⟩ news.length c (bytesV news) hx (by simp [bytesV])
    ?_ ?_ (by unfold maxLen; omega) (by omega) (by simp; omega) ?_
  · intro j u hj
    rw [Addr.add_lit, Nat.zero_add]
    have := (Blk.fresh W (bytesV news).toArray 5).cell j
    rw [this]
    simpa using hj
  · intro u hu
    simp only [bytesV, List.mem_map] at hu
    obtain ⟨b, _, rfl⟩ := hu
    rfl
  · intro v' w' h1 h2 _
    refine h v' w' ?_ h2
    unfold Owns
    rw [bytesV_app, List.length_append]
    exact h1

theorem open_run (s : ByteArray) (k : Nat) (w : World) :
    Run w s k [] (.slice none 0 0) (((w.alloc (.cells tok0 108)).alloc (.cells #[.string s] 9)).alloc (.cells #[.int .i64 k] 3)) :=
  ⟨((((Kept.refl w).alloc _ _).alloc _ _).alloc _ _), ((Blk.fresh w _ _).alloc _).alloc _, ⟨(Blk.fresh' _ _ (by simp)).alloc _, Blk.fresh' _ _ (by simp)⟩, Owns.nil _ _⟩

theorem ret_tok {a b c d : Int} {x y : ByteArray} {p q : Bool} {e f g h i j : Int} (h1 : a = b) (h2 : c = d) (h3 : x = y) (h4 : p = q) (h5 : e = f) (h6 : g = h) (h7 : i = j) :
    Ending.returned (.tuple #[.agg #[.int .i64 a, .int .i64 c, .string x, .bool p, .int .i64 e, .int .i64 g], .int .i64 i]) = .returned (.tuple #[.agg #[.int .i64 b, .int .i64 d, .string y, .bool q, .int .i64 f, .int .i64 h], .int .i64 j]) := by
  rw [h1, h2, h3, h4, h5, h6, h7]

end Go.Proofs.YtbgdeaeikijdgaaGreatDoor
