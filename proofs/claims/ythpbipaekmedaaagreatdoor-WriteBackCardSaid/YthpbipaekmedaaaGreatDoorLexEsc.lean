/-
  What package lex's number8 and appendEscaped answer: what a backslash stands for.
-/
import Derived.Test.YthpbipaekmedaaaGreatDoorLexW1
namespace Go.Proofs.YthpbipaekmedaaaGreatDoor
open Go.RowKit

theorem oct_step {u : Nat} {c : UInt8} (hu : u < 64) (hc : Lx.isOct c = true) :
    bits BinOp.or IntKind.u8 ((u : Int) * 8 % 256) ((c.toNat : Int) - 48) = (((8 * u + (c.toNat - 48)) % 256 : Nat) : Int) := by
  have key : (List.range 64).all (fun a => (List.range 8).all fun b => bits BinOp.or IntKind.u8 ((a : Int) * 8 % 256) (b : Int) == (((8 * a + b) % 256 : Nat) : Int)) = true := by kernel_rfl
  have h48 : 48 ≤ c.toNat ∧ c.toNat ≤ 55 := by simpa [Lx.isOct] using hc
  have h1 := List.all_eq_true.1 (List.all_eq_true.1 key u (List.mem_range.2 hu)) (c.toNat - 48) (List.mem_range.2 (by omega))
  have h2 : ((c.toNat - 48 : Nat) : Int) = (c.toNat : Int) - 48 := by omega
  rw [h2] at h1
  simpa using h1

set_option maxHeartbeats 1000000 in
theorem number8_any (c : UInt8) (hc : Lx.isOct c = true) (s : ByteArray) (b k : Nat) (w : World) (hat : At s b k w) (hk : k ≤ s.size) (hs : s.size ≤ 4294967296) :
    Calls Tryz.prog 125 #[.int .u8 (c.toNat : Int), .func (.func 105) #[] #[.pointer (some ⟨b + 1, 0, none⟩), .pointer (some ⟨b, 0, none⟩)]] w fun e w' =>
      e = .returned (.int .u8 (((Lx.oct (c.toNat - 48) 2 (s.data.toList.drop k)).1 % 256 : Nat) : Int)) ∧ At s b (k + (Lx.oct (c.toNat - 48) 2 (s.data.toList.drop k)).2) w' ∧ w.grownBy w' (some (b + 1)) := by
  have h48 : 48 ≤ c.toNat ∧ c.toNat ≤ 55 := by simpa [Lx.isOct] using hc
  obtain ⟨h0, h1⟩ := h48
  obtain ⟨R, hR⟩ : ∃ R, R = Lx.oct (c.toNat - 48) 2 (s.data.toList.drop k) := ⟨_, rfl⟩
  rw [← hR]
  have HR := Lib.hid hR
  clear hR hc
  go_enter Tryz.func125, Tryz.ntmps125
  go_wp2_with fail
  go_loopg [5, 10] 2 (fun n x i wr => ∃ (q v j : Nat), n = 2 - q ∧ q ≤ 2 ∧ i = .int .i64 q ∧ x = .int .u8 ((v % 256 : Nat) : Int) ∧ (q = 2 ∨ v < 64) ∧ (q ≠ 0 ∨ v < 8) ∧ j ≤ s.size ∧ At s b j wr ∧ w.grownBy wr (some (b + 1)) ∧ Hid ((Lx.oct v (2 - q) (s.data.toList.drop j)).1 = R.1 ∧ j + (Lx.oct v (2 - q) (s.data.toList.drop j)).2 = k + R.2))
  case atStart =>
    refine ⟨0, c.toNat - 48, k, rfl, by omega, rfl, ?_, .inr (by omega), .inr (by omega), hk, hat, gb_refl _ _, Lib.hid (by rw [HR.out]; exact ⟨rfl, rfl⟩)⟩
    have : (c.toNat - 48) % 256 = c.toNat - 48 := Nat.mod_eq_of_lt (by omega)
    rw [this]
    first | rfl | (congr 1; omega)
  case round =>
    obtain ⟨q, v, j, hn, hq, rfl, rfl, hv, hv0, hj, ha, hgb, HE⟩ := hrel
    have HG := Lib.hid hgb
    have HA := Lib.hid ha
    by_cases hlt : q < 2
    · by_cases hyes : ∃ h : j < s.size, Lx.isOct s[j] = true
      · obtain ⟨hjs, hp⟩ := hyes
        have hv' : v < 64 := by omega
        have HD := Lib.hid (drop_cons s j hjs)
        have hm : v % 256 = v := Nat.mod_eq_of_lt (by omega)
        have HT := Lib.hid (show (Lx.oct (8 * v + (s[j].toNat - 48)) (2 - (q + 1)) (s.data.toList.drop (j + 1))).1 = R.1 ∧ j + 1 + (Lx.oct (8 * v + (s[j].toNat - 48)) (2 - (q + 1)) (s.data.toList.drop (j + 1))).2 = k + R.2 by
          have := HE.out
          rw [HD.out, show 2 - q = (2 - (q + 1)) + 1 by omega, Lx.oct, if_pos hp] at this
          refine ⟨this.1, ?_⟩
          have h2 := this.2
          simp only at h2
          omega)
        have hs2 : 48 ≤ s[j].toNat ∧ s[j].toNat ≤ 55 := by simpa [Lx.isOct] using hp
        obtain ⟨g0, g1⟩ := hs2
        have HX := Lib.hid (oct_step (u := v) hv' hp)
        have HV := Lib.hid hv'
        have HV0 := Lib.hid hv0
        rw [hm]
        clear hgb ha hm hv hv0 hv'
        go_wp2_with fail
        refine (take_yes _ #[] Lx.isOct ent_isDigit8 s _ j _ HA.out hjs (by omega) (fits_isDigit8 _) hp).mono ?_
        rintro e w2 ⟨rfl, ha2, hg2⟩
        have HA2 := Lib.hid ha2
        have HG2 := Lib.hid (gb_trans HG.out hg2)
        clear ha2 hg2
        go_wp2_with fail
        go_roundg (2 - (q + 1))
        case measure => omega
        case rel =>
          refine ⟨q + 1, 8 * v + (s[j].toNat - 48), j + 1, rfl, by omega, by go_num, ?_, ?_, .inl (by omega), by omega, HA2.out, HG2.out, HT⟩
          · rw [HX.out]
          · have := HV.out; have := HV0.out; omega
      · have hn0 : ∀ h : j < s.size, Lx.isOct s[j] = false := fun h => Bool.eq_false_iff.2 fun e => hyes ⟨h, e⟩
        have HT := Lib.hid (show v = R.1 ∧ j = k + R.2 by
          have := HE.out
          rw [show 2 - q = (2 - (q + 1)) + 1 by omega] at this
          by_cases h2 : j < s.size
          · rw [drop_cons s j h2, Lx.oct, if_neg (by rw [hn0 h2]; simp)] at this
            exact this
          · rw [drop_end s j (by omega), Lx.oct] at this
            exact this)
        have HN := Lib.hid hn0
        clear hgb ha hyes hn0 hv hv0
        go_wp2_with fail
        refine (take_not _ #[] Lx.isOct ent_isDigit8 s _ j _ HA.out hj (fits_isDigit8 _) HN.out).mono ?_
        rintro e w2 ⟨rfl, rfl⟩
        go_wp2_with fail
        go_ret
        exact ⟨ret_int (by have := HT.out.1; omega), by rw [← HT.out.2]; exact HA.out, HG.out⟩
    · obtain rfl : q = 2 := by omega
      have HT := Lib.hid (show v = R.1 ∧ j = k + R.2 from by
        have := HE.out
        rw [Nat.sub_self, Lx.oct] at this
        exact this)
      clear hgb ha hv hv0
      go_wp2_with fail
      go_ret
      exact ⟨ret_int (by have := HT.out.1; omega), by rw [← HT.out.2]; exact HA.out, HG.out⟩

theorem letters_no {c : UInt8} (h : Lib.indexByte [110, 114, 116, 98, 102] c = -1) : Lx.escB c = c := by
  have := Lx.byte_all (fun c => !(Lib.indexByte [110, 114, 116, 98, 102] c == -1) || (Lx.escB c == c)) (by kernel_rfl) c
  rw [h] at this; simpa using this
theorem letters_ways (c : UInt8) : (Lib.indexByte [110, 114, 116, 98, 102] c = 0 ∧ Lx.escB c = 10) ∨ (Lib.indexByte [110, 114, 116, 98, 102] c = 1 ∧ Lx.escB c = 13) ∨ (Lib.indexByte [110, 114, 116, 98, 102] c = 2 ∧ Lx.escB c = 9) ∨
    (Lib.indexByte [110, 114, 116, 98, 102] c = 3 ∧ Lx.escB c = 8) ∨ (Lib.indexByte [110, 114, 116, 98, 102] c = 4 ∧ Lx.escB c = 12) ∨ (Lib.indexByte [110, 114, 116, 98, 102] c = -1 ∧ Lx.escB c = c) := by
  have := Lx.byte_all (fun c => decide ((Lib.indexByte [110, 114, 116, 98, 102] c = 0 ∧ Lx.escB c = 10) ∨ (Lib.indexByte [110, 114, 116, 98, 102] c = 1 ∧ Lx.escB c = 13) ∨ (Lib.indexByte [110, 114, 116, 98, 102] c = 2 ∧ Lx.escB c = 9) ∨
    (Lib.indexByte [110, 114, 116, 98, 102] c = 3 ∧ Lx.escB c = 8) ∨ (Lib.indexByte [110, 114, 116, 98, 102] c = 4 ∧ Lx.escB c = 12) ∨ (Lib.indexByte [110, 114, 116, 98, 102] c = -1 ∧ Lx.escB c = c))) (by kernel_rfl) c
  simpa using this
theorem IndexByte_is (l : List UInt8) (c : UInt8) (n : Int) (h : Lib.indexByte l c = n) (w : World) :
    Calls Tryz.prog 63 #[.string ⟨l.toArray⟩, .int .u8 (c.toNat : Int)] w fun e w' => e = .returned (.int .i64 n) ∧ w = w' := by
  subst h; exact IndexByte_at l c w

theorem ret_pair {v : Value} {a b : Value} (h : a = b) : Ending.returned (.tuple #[v, a]) = .returned (.tuple #[v, b]) := by rw [h]

/-- With nothing behind the backslash. -/
theorem appendEscaped_end (s : ByteArray) (b : Nat) (v : Value) (w : World) (hat : At s b s.size w) :
    Calls Tryz.prog 112 #[v, .func (.func 105) #[] #[.pointer (some ⟨b + 1, 0, none⟩), .pointer (some ⟨b, 0, none⟩)]] w fun e w' =>
      e = .returned (.tuple #[.slice none 0 0, .bool false]) ∧ w = w' := by
  go_enter Tryz.func112, Tryz.ntmps112
  go_wp2_with fail
  refine (take_end _ #[] s b _ hat).mono ?_
  rintro e w2 ⟨rfl, rfl⟩
  go_wp2_with fail
  refine (take_end _ #[] s b _ hat).mono ?_
  rintro e w2 ⟨rfl, rfl⟩
  go_wp2_with fail
  go_ret2
  exact ⟨rfl, rfl⟩

set_option maxHeartbeats 2000000 in
theorem appendEscaped_any (s : ByteArray) (k : Nat) (acc : List UInt8) (v : Value) (w wr : World) (hr : Run w s k acc v wr) (hk : k < s.size) (hs : s.size ≤ 4294967296) (hl : acc.length ≤ k) :
    Calls Tryz.prog 112 #[v, .func (.func 105) #[] #[.pointer (some ⟨w.heap.size + 1 + 1, 0, none⟩), .pointer (some ⟨w.heap.size + 1, 0, none⟩)]] wr fun e w' =>
      ∃ v', e = .returned (.tuple #[v', .bool true]) ∧ Run w s (k + (Lx.esc (s.data.toList.drop k)).2) (acc ++ (Lx.esc (s.data.toList.drop k)).1) v' w' := by
  have HR := Lib.hid hr
  have HD := Lib.hid (drop_cons s k hk)
  clear hr
  cases hp : Lx.isOct s[k]
  · have HT : ∀ w, At s (w.heap.size + 1) k w → True := fun _ _ => trivial
    clear HT
    by_cases h13 : s[k] = 13
    · have e13 := byte_is h13 13 rfl
      have e10 : ((s[k].toNat : Int) == 10) = false := by rw [h13]; rfl
      have HE := Lib.hid (show Lx.esc (s.data.toList.drop k) = ([], 1 + Lx.crlf (s.data.toList.drop (k + 1))) by rw [HD.out, Lx.esc_cr h13])
      clear h13
      go_enter Tryz.func112, Tryz.ntmps112
      go_wp2_with fail
      refine (take_no _ #[] Lx.isOct ent_isDigit8 s _ k _ HR.out.here hk (fits_isDigit8 _) hp).mono ?_
      rintro e w2 ⟨rfl, rfl⟩
      go_wp2_with fail
      refine (take_yes _ #[] (fun _ => true) ent_anyByte s _ k _ HR.out.here hk (by omega) (fits_anyByte _) rfl).mono ?_
      rintro e w2 ⟨rfl, ha, hg⟩
      have HR2 := Lib.hid (HR.out.take ha hg)
      clear ha hg
      go_wp2_with fail
      refine (is_any 10 _).mono ?_
      rintro e w3 ⟨rfl, rfl⟩
      have HR3 := Lib.hid (HR2.out.alloc (.cells #[.int .u8 ((10 : UInt8).toNat : Int)] 5))
      have HB := Lib.hid (Blk.fresh w2 #[.int .u8 ((10 : UInt8).toNat : Int)] 5)
      go_wp2_with fail
      by_cases hyes : ∃ h : k + 1 < s.size, (s[k + 1] == (10 : UInt8)) = true
      · obtain ⟨hk1, hp1⟩ := hyes
        have HC := Lib.hid (show Lx.crlf (s.data.toList.drop (k + 1)) = 1 by
          rw [drop_cons s _ hk1]; show (if s[k + 1] == 10 then 1 else 0) = 1; rw [if_pos hp1])
        refine (take_yes _ #[.pointer (some ⟨w2.heap.size, 0, none⟩)] (fun x => x == 10) ent_is s _ (k + 1) _ HR3.out.here hk1 (by omega) (fits_is 10 _ _ HB.out) hp1).mono ?_
        rintro e w4 ⟨rfl, ha, hg⟩
        have HR4 := Lib.hid (HR3.out.take ha hg)
        clear ha hg
        go_wp2_with fail
        go_ret2
        exact ⟨v, rfl, by rw [HE.out, HC.out, List.append_nil]; exact HR4.out⟩
      · have hn0 : ∀ h : k + 1 < s.size, (s[k + 1] == (10 : UInt8)) = false := fun h => Bool.eq_false_iff.2 fun e => hyes ⟨h, e⟩
        have HC := Lib.hid (show Lx.crlf (s.data.toList.drop (k + 1)) = 0 by
          by_cases h1 : k + 1 < s.size
          · rw [drop_cons s _ h1]; show (if s[k + 1] == 10 then 1 else 0) = 0; rw [if_neg (by rw [hn0 h1]; simp)]
          · rw [drop_end s _ (by omega)]; rfl)
        clear hyes
        have HN := Lib.hid hn0
        clear hn0
        refine (take_not _ #[.pointer (some ⟨w2.heap.size, 0, none⟩)] (fun x => x == 10) ent_is s _ (k + 1) _ HR3.out.here (by omega) (fits_is 10 _ _ HB.out) HN.out).mono ?_
        rintro e w4 ⟨rfl, rfl⟩
        go_wp2_with fail
        go_ret2
        exact ⟨v, rfl, by rw [HE.out, HC.out, List.append_nil]; exact HR3.out⟩
    by_cases h10 : s[k] = 10
    · have e13 := byte_not h13 13 rfl
      have e10 := byte_is h10 10 rfl
      have HE := Lib.hid (show Lx.esc (s.data.toList.drop k) = ([], 1) by rw [HD.out, Lx.esc_lf h10])
      clear h13 h10
      go_enter Tryz.func112, Tryz.ntmps112
      go_wp2_with fail
      refine (take_no _ #[] Lx.isOct ent_isDigit8 s _ k _ HR.out.here hk (fits_isDigit8 _) hp).mono ?_
      rintro e w2 ⟨rfl, rfl⟩
      go_wp2_with fail
      refine (take_yes _ #[] (fun _ => true) ent_anyByte s _ k _ HR.out.here hk (by omega) (fits_anyByte _) rfl).mono ?_
      rintro e w2 ⟨rfl, ha, hg⟩
      have HR2 := Lib.hid (HR.out.take ha hg)
      clear ha hg
      go_wp2_with fail
      go_ret2
      exact ⟨v, rfl, by rw [HE.out, List.append_nil]; exact HR2.out⟩
    · have e13 := byte_not h13 13 rfl
      have e10 := byte_not h10 10 rfl
      have HE := Lib.hid (show Lx.esc (s.data.toList.drop k) = ([Lx.escB s[k]], 1) by rw [HD.out, Lx.esc_other hp h13 h10])
      clear h13 h10
      rcases letters_ways s[k] with ⟨hi, hb⟩ | ⟨hi, hb⟩ | ⟨hi, hb⟩ | ⟨hi, hb⟩ | ⟨hi, hb⟩ | ⟨hi, hb⟩
      all_goals
        rw [hb] at HE
        have HI := Lib.hid hi
        clear hi hb
        go_enter Tryz.func112, Tryz.ntmps112
        go_wp2_with fail
        refine (take_no _ #[] Lx.isOct ent_isDigit8 s _ k _ HR.out.here hk (fits_isDigit8 _) hp).mono ?_
        rintro e w2 ⟨rfl, rfl⟩
        go_wp2_with fail
        refine (take_yes _ #[] (fun _ => true) ent_anyByte s _ k _ HR.out.here hk (by omega) (fits_anyByte _) rfl).mono ?_
        rintro e w2 ⟨rfl, ha, hg⟩
        have HR2 := Lib.hid (HR.out.take ha hg)
        have hB : w.heap.size ≤ w2.heap.size := Below.size HR2.out.kept
        clear ha hg
        go_wp2_with fail
        refine (IndexByte_is [110, 114, 116, 98, 102] s[k] _ HI.out _).mono ?_
        rintro e w3 ⟨rfl, rfl⟩
        go_wp2_with (at_builtin; refine wpList_app_bytes rfl _ _ rfl w.heap.size _ acc rfl HR2.out.own [_] _ rfl 1 _ rfl rfl hB (by simp; omega) ?_)
        intro v' w3 hown3 hgrow
        have HR3 := Lib.hid ((HR2.out.alloc _).app rfl rfl hown3 hgrow)
        clear hown3 hgrow
        go_wp2_with fail
        go_ret2
        exact ⟨v', rfl, by rw [HE.out]; exact HR3.out⟩
  · have HE := Lib.hid (show Lx.esc (s.data.toList.drop k) = ([UInt8.ofNat (Lx.oct (s[k].toNat - 48) 2 (s.data.toList.drop (k + 1))).1], (Lx.oct (s[k].toNat - 48) 2 (s.data.toList.drop (k + 1))).2 + 1) by rw [HD.out, Lx.esc_oct hp])
    obtain ⟨R, hR⟩ : ∃ R, R = Lx.oct (s[k].toNat - 48) 2 (s.data.toList.drop (k + 1)) := ⟨_, rfl⟩
    have HRR := Lib.hid hR
    clear hR
    go_enter Tryz.func112, Tryz.ntmps112
    go_wp2_with fail
    refine (take_yes _ #[] Lx.isOct ent_isDigit8 s _ k _ HR.out.here hk (by omega) (fits_isDigit8 _) hp).mono ?_
    rintro e w2 ⟨rfl, ha, hg⟩
    have HR2 := Lib.hid (HR.out.take ha hg)
    clear ha hg
    go_wp2_with fail
    refine (number8_any s[k] hp s _ (k + 1) _ HR2.out.here (by omega) (by omega)).mono ?_
    rintro e w3 ⟨rfl, ha, hg⟩
    rw [← HRR.out] at ha ⊢
    have HR3 := Lib.hid (HR2.out.take ha hg)
    have hB : w.heap.size ≤ w3.heap.size := Below.size HR3.out.kept
    clear ha hg
    go_wp2_with (at_builtin; refine wpList_app_bytes rfl _ _ rfl w.heap.size _ acc rfl HR3.out.own [UInt8.ofNat R.1] _ (by simp [bytesV]) 1 _ rfl rfl hB (by simp; omega) ?_)
    intro v' w4 hown4 hgrow
    have HR4 := Lib.hid ((HR3.out.alloc _).app rfl rfl hown4 hgrow)
    clear hown4 hgrow
    go_wp2_with fail
    go_ret2
    refine ⟨v', rfl, ?_⟩
    rw [HE.out, ← HRR.out]
    have := HR4.out
    rw [show k + 1 + R.2 = k + (R.2 + 1) by omega] at this
    exact this

end Go.Proofs.YthpbipaekmedaaaGreatDoor
