/-
  The closure that goes over the bytes of a text, the one that tells where it stands, and takeAll: over whatever question on a byte that turns nothing.
-/
import Derived.Test.YtdfgbdonnpbfcaaLexBytes
import Derived.Test.YtdfgbdonnpbfcaaBase
import Derived.Deep.LoopGhost
import Derived.Shelf.Abstract
namespace Go.Proofs.Ytdfgbdonnpbfcaa
open Go.RowKit

/-- The closures' variables: the text, and the place. -/
def At (s : ByteArray) (b k : Nat) (w : World) : Prop := Blk w b #[.string s] 9 ∧ Blk w (b + 1) #[.int .i64 k] 3
/-- A question on a byte that turns nothing. -/
def Fits (g : Nat) (lb : Array Value) (p : UInt8 → Bool) (w : World) : Prop :=
  ∀ c : UInt8, Calls Try.prog g (#[.int .u8 (c.toNat : Int)] ++ lb) w fun e w' => e = .returned (.bool (p c)) ∧ w = w'
def Ent (g : Nat) : Prop := ∀ args w, (callFunc g args).run Try.prog w = .ok (.enter g args) w

theorem gb_refl (w : World) (r : Option Nat) : w.grownBy w r := ⟨rfl, rfl, rfl, Nat.le_refl _, fun _ _ _ => rfl⟩
theorem gb_trans {a b c : World} {r : Option Nat} (h : a.grownBy b r) (k : b.grownBy c r) : a.grownBy c r :=
  ⟨k.os.trans h.os, k.tape.trans h.tape, k.output.trans h.output, Nat.le_trans h.size k.size, fun j hj hn => (k.block j (Nat.lt_of_lt_of_le hj h.size) hn).trans (h.block j hj hn)⟩
theorem gb_set (w : World) (k : Nat) (v : Value) : w.grownBy (w.setCell ⟨k, 0, none⟩ v) (some k) := by
  refine ⟨rfl, rfl, rfl, by simp, fun j _ hn => Below.heap_setCell w ⟨k, 0, none⟩ v j ?_⟩
  intro h; exact hn (by rw [h])
theorem At.set {s : ByteArray} {b k : Nat} {w : World} (h : At s b k w) (v : Int) (j : Nat) (hv : v = (j : Int)) : At s b j (w.setCell ⟨b + 1, 0, none⟩ (.int .i64 v)) := by
  subst hv
  exact ⟨h.1.other (by omega) _, by simpa using h.2.set 0 (.int .i64 (j : Int))⟩
theorem At.cells {s : ByteArray} {b k : Nat} {w : World} (h : At s b k w) : w.cell? ⟨b, 0, none⟩ = some (.string s) ∧ w.cell? ⟨b + 1, 0, none⟩ = some (.int .i64 k) ∧ w.frozen? ⟨b + 1, 0, none⟩ = false :=
  ⟨h.1.cell 0, h.2.cell 0, h.2.frozen 0⟩
theorem At.gb {s : ByteArray} {b k : Nat} {w w' : World} {r : Option Nat} (h : At s b k w) (g : w.grownBy w' r) (h1 : some b ≠ r) (h2 : some (b + 1) ≠ r) : At s b k w' :=
  ⟨(g.block b h.1.lt h1).trans h.1, (g.block (b + 1) h.2.lt h2).trans h.2⟩
theorem At.kept {s : ByteArray} {b k : Nat} {w w' : World} (h : At s b k w) (g : Kept w w') : At s b k w' := ⟨h.1.kept g, h.2.kept g⟩

theorem over_any (s : ByteArray) (k : Nat) (w : World) :
    Calls Try.prog 43 #[.string s, .int .i64 k] w fun e w' =>
      e = .returned (.tuple #[.func (.func 56) #[] #[.pointer (some ⟨w.heap.size + 1, 0, none⟩), .pointer (some ⟨w.heap.size, 0, none⟩)], .func (.func 57) #[] #[.pointer (some ⟨w.heap.size + 1, 0, none⟩)]])
      ∧ w' = (w.alloc (.cells #[.string s] 9)).alloc (.cells #[.int .i64 k] 3) := by
  have hmf : ∀ (fn : Fn) (first cap : Array Value) (w : World), (Instr.makeFunc fn first cap).run Try.prog w = .ok (.func fn first cap) w := fun _ _ _ _ => rfl
  go_enter Try.func43, Try.ntmps43
  go_wp2
  go_ret2
  exact ⟨rfl, rfl⟩
theorem at_over (s : ByteArray) (k : Nat) (w : World) : At s w.heap.size k ((w.alloc (.cells #[.string s] 9)).alloc (.cells #[.int .i64 k] 3)) :=
  ⟨(Blk.fresh w _ _).alloc _, Blk.fresh' _ _ (by simp)⟩

theorem place_any (s : ByteArray) (b k : Nat) (w : World) (hat : At s b k w) :
    Calls Try.prog 57 #[.pointer (some ⟨b + 1, 0, none⟩)] w fun e w' => e = .returned (.int .i64 k) ∧ w = w' := by
  have hc := hat.cells.2.1
  go_enter Try.func57, Try.ntmps57
  go_wp2
  go_ret
  exact ⟨rfl, rfl⟩

theorem take_yes (g : Nat) (lb : Array Value) (p : UInt8 → Bool) (eg : Ent g) (s : ByteArray) (b k : Nat) (w : World) (hat : At s b k w) (hk : k < s.size) (hs : s.size ≤ 9223372036854775807)
    (hf : Fits g lb p w) (hp : p s[k] = true) :
    Calls Try.prog 56 #[.func (.func g) #[] lb, .pointer (some ⟨b + 1, 0, none⟩), .pointer (some ⟨b, 0, none⟩)] w fun e w' =>
      e = .returned (.tuple #[.int .u8 (s[k].toNat : Int), .bool true]) ∧ At s b (k + 1) w' ∧ w.grownBy w' (some (b + 1)) := by
  obtain ⟨h0, h1, h2⟩ := hat.cells
  have cS := hf s[k]
  rw [hp] at cS
  have HA := Lib.hid hat
  have HS := Lib.hid (hat.set ((k : Int) + 1) (k + 1) (by omega))
  have h3 : (w.setCell ⟨b + 1, 0, none⟩ (.int .i64 ((k : Int) + 1))).cell? ⟨b, 0, none⟩ = some (.string s) := HS.out.cells.1
  have h4 : (w.setCell ⟨b + 1, 0, none⟩ (.int .i64 ((k : Int) + 1))).cell? ⟨b + 1, 0, none⟩ = some (.int .i64 ((k : Int) + 1)) := by
    have := HS.out.cells.2.1; rw [this]; simp
  have hne : ((k : Int) == (s.size : Int)) = false := by rw [beq_eq_false_iff_ne]; omega
  have EG := Lib.hid eg
  unfold Ent at eg
  clear hat hf
  go_enter Try.func56, Try.ntmps56
  go_wp2_with (go_at_fn g; refine cS.mono ?_; rintro e w' ⟨rfl, rfl⟩)
  go_ret2
  exact ⟨rfl, HS.out, gb_set _ _ _⟩

theorem take_end (g : Nat) (lb : Array Value) (s : ByteArray) (b : Nat) (w : World) (hat : At s b s.size w) :
    Calls Try.prog 56 #[.func (.func g) #[] lb, .pointer (some ⟨b + 1, 0, none⟩), .pointer (some ⟨b, 0, none⟩)] w fun e w' =>
      e = .returned (.tuple #[.int .u8 0, .bool false]) ∧ w = w' := by
  obtain ⟨h0, h1, h2⟩ := hat.cells
  clear hat
  go_enter Try.func56, Try.ntmps56
  go_wp2
  go_ret2
  exact ⟨rfl, rfl⟩

theorem take_no (g : Nat) (lb : Array Value) (p : UInt8 → Bool) (eg : Ent g) (s : ByteArray) (b k : Nat) (w : World) (hat : At s b k w) (hk : k < s.size)
    (hf : Fits g lb p w) (hp : p s[k] = false) :
    Calls Try.prog 56 #[.func (.func g) #[] lb, .pointer (some ⟨b + 1, 0, none⟩), .pointer (some ⟨b, 0, none⟩)] w fun e w' =>
      e = .returned (.tuple #[.int .u8 0, .bool false]) ∧ w = w' := by
  obtain ⟨h0, h1, h2⟩ := hat.cells
  have cS := hf s[k]
  rw [hp] at cS
  have hne : ((k : Int) == (s.size : Int)) = false := by rw [beq_eq_false_iff_ne]; omega
  unfold Ent at eg
  clear hat hf
  go_enter Try.func56, Try.ntmps56
  go_wp2_with (go_at_fn g; refine cS.mono ?_; rintro e w' ⟨rfl, rfl⟩)
  go_ret2
  exact ⟨rfl, rfl⟩

theorem take_not (g : Nat) (lb : Array Value) (p : UInt8 → Bool) (eg : Ent g) (s : ByteArray) (b k : Nat) (w : World) (hat : At s b k w) (hk : k ≤ s.size)
    (hf : Fits g lb p w) (hp : ∀ h : k < s.size, p s[k] = false) :
    Calls Try.prog 56 #[.func (.func g) #[] lb, .pointer (some ⟨b + 1, 0, none⟩), .pointer (some ⟨b, 0, none⟩)] w fun e w' =>
      e = .returned (.tuple #[.int .u8 0, .bool false]) ∧ w = w' := by
  by_cases h : k < s.size
  · exact take_no g lb p eg s b k w hat h hf (hp h)
  · obtain rfl : k = s.size := by omega
    exact take_end g lb s b w hat

theorem drop_cons (s : ByteArray) (k : Nat) (h : k < s.size) : s.data.toList.drop k = s[k] :: s.data.toList.drop (k + 1) := by
  rw [List.drop_eq_getElem_cons (by simpa using h)]; rfl
theorem drop_end (s : ByteArray) (k : Nat) (h : s.size ≤ k) : s.data.toList.drop k = [] := List.drop_eq_nil_of_le (by simpa using h)

/-- takeAll: to the place behind all that fit. -/
theorem takeAll_any (g : Nat) (lb : Array Value) (p : UInt8 → Bool) (eg : Ent g) (s : ByteArray) (b k : Nat) (w : World) (hat : At s b k w) (hk : k ≤ s.size) (hs : s.size ≤ 9223372036854775807)
    (hf : ∀ w', Fits g lb p w') :
    Calls Try.prog 45 #[.func (.func 56) #[] #[.pointer (some ⟨b + 1, 0, none⟩), .pointer (some ⟨b, 0, none⟩)], .func (.func g) #[] lb] w fun e w' =>
      e = .returned (.tuple #[]) ∧ At s b (k + Lx.tw p (s.data.toList.drop k)) w' ∧ w.grownBy w' (some (b + 1)) := by
  have HF := Lib.hid hf
  have EG := Lib.hid eg
  clear hf eg
  go_enter Try.func45, Try.ntmps45
  go_wp2
  go_loopg [5] (s.size - k) (fun n _ wr => ∃ j : Nat, n = s.size - j ∧ j ≤ s.size ∧ At s b j wr ∧ w.grownBy wr (some (b + 1)) ∧ Hid (j + Lx.tw p (s.data.toList.drop j) = k + Lx.tw p (s.data.toList.drop k)))
  case atStart => exact ⟨k, rfl, hk, hat, gb_refl _ _, Lib.hid rfl⟩
  case round =>
    obtain ⟨j, hn, hj, ha, hgb, HE⟩ := hrel
    by_cases hlt : j < s.size
    · have HD := Lib.hid (drop_cons s j hlt)
      cases hp : p s[j]
      · have HT := Lib.hid (show k + Lx.tw p (s.data.toList.drop k) = j by
          rw [← HE.out, HD.out, Lx.tw, hp]; simp)
        go_wp2_with (go_at_call 56; refine (take_no g lb p EG.out s b j _ ha hlt (HF.out _) hp).mono ?_; rintro e w' ⟨rfl, rfl⟩)
        refine bodyPost_ret (results_none rfl _ _ _) rfl ?_
        exact ⟨rfl, by rw [HT.out]; exact ha, hgb⟩
      · have HT := Lib.hid (show j + 1 + Lx.tw p (s.data.toList.drop (j + 1)) = k + Lx.tw p (s.data.toList.drop k) by
          rw [← HE.out, HD.out, Lx.tw, hp]; simp; omega)
        go_wp2_with (go_at_call 56; refine (take_yes g lb p EG.out s b j _ ha hlt hs (HF.out _) hp).mono ?_; rintro e w' ⟨rfl, ha', hg'⟩)
        go_roundg (s.size - (j + 1))
        case measure => omega
        case rel => exact ⟨j + 1, rfl, by omega, by assumption, gb_trans hgb (by assumption), HT⟩
    · obtain rfl : j = s.size := by omega
      have HT := Lib.hid (show k + Lx.tw p (s.data.toList.drop k) = s.size by
        rw [← HE.out, drop_end s s.size (Nat.le_refl _), Lx.tw]; rfl)
      go_wp2_with (go_at_call 56; refine (take_end g lb s b _ ha).mono ?_; rintro e w' ⟨rfl, rfl⟩)
      refine bodyPost_ret (results_none rfl _ _ _) rfl ?_
      exact ⟨rfl, by rw [HT.out]; exact ha, hgb⟩

theorem ent_regular : Ent 63 := Go.Proofs.enters_of Try.func63 (by kernel_rfl) rfl
theorem ent_blank : Ent 44 := Go.Proofs.enters_of Try.func44 (by kernel_rfl) rfl
theorem ent_inLine : Ent 46 := Go.Proofs.enters_of Try.func46 (by kernel_rfl) rfl
theorem ent_isDigit16 : Ent 61 := Go.Proofs.enters_of Try.func61 (by kernel_rfl) rfl
theorem ent_isDigit8 : Ent 73 := Go.Proofs.enters_of Try.func73 (by kernel_rfl) rfl
theorem ent_anyByte : Ent 60 := Go.Proofs.enters_of Try.func60 (by kernel_rfl) rfl
theorem ent_is : Ent 72 := Go.Proofs.enters_of Try.func72 (by kernel_rfl) rfl
theorem fits_regular (w : World) : Fits 63 #[] Lx.reg w := fun c => regular_any c w
theorem fits_blank (w : World) : Fits 44 #[] Lx.blank w := fun c => blank_any c w
theorem fits_inLine (w : World) : Fits 46 #[] Lx.inLine w := fun c => inLine_any c w
theorem fits_isDigit16 (w : World) : Fits 61 #[] Lx.isHex w := fun c => isDigit16_any c w
theorem fits_isDigit8 (w : World) : Fits 73 #[] Lx.isOct w := fun c => isDigit8_any c w
theorem fits_anyByte (w : World) : Fits 60 #[] (fun _ => true) w := fun c => anyByte_any c w

/-- is: a closure over one byte. -/
theorem is_any (c : UInt8) (w : World) :
    Calls Try.prog 64 #[.int .u8 (c.toNat : Int)] w fun e w' =>
      e = .returned (.func (.func 72) #[] #[.pointer (some ⟨w.heap.size, 0, none⟩)]) ∧ w' = w.alloc (.cells #[.int .u8 (c.toNat : Int)] 5) := by
  have hmf : ∀ (fn : Fn) (first cap : Array Value) (w : World), (Instr.makeFunc fn first cap).run Try.prog w = .ok (.func fn first cap) w := fun _ _ _ _ => rfl
  go_enter Try.func64, Try.ntmps64
  go_wp2
  go_ret
  exact ⟨rfl, rfl⟩
theorem fits_is (c : UInt8) (b : Nat) (w : World) (h : Blk w b #[.int .u8 (c.toNat : Int)] 5) : Fits 72 #[.pointer (some ⟨b, 0, none⟩)] (fun x => x == c) w := by
  intro x
  have hc : w.cell? ⟨b, 0, none⟩ = some (.int .u8 (c.toNat : Int)) := h.cell 0
  have HX := Lib.hid (show ((x.toNat : Int) == (c.toNat : Int)) = (x == c) by
    rw [Bool.eq_iff_iff]; simp; exact ⟨fun h => UInt8.toNat_inj.1 (by omega), fun h => by rw [h]⟩)
  clear h
  show Calls Try.prog 72 #[.int .u8 (x.toNat : Int), .pointer (some ⟨b, 0, none⟩)] w _
  go_enter Try.func72, Try.ntmps72
  go_wp2
  go_ret
  exact ⟨ret_bool HX.out, rfl⟩

end Go.Proofs.Ytdfgbdonnpbfcaa
