/-
  A text string as UTF-8: Decode.
-/
import Derived.Test.YtkgaddlclfjkmaaMetChar
import Derived.Test.YtkgaddlclfjkmaaMetLay
import Derived.Test.YtkgaddlclfjkmaaMetEncode
import Derived.Test.YtkgaddlclfjkmaaBlk
import Derived.Deep.LoopGhost
namespace Go.Proofs.Ytkgaddlclfjkmaa
open Go.RowKit
set_option linter.unusedSimpArgs false
set_option linter.unusedVariables false

theorem CutPrefix_at (l : List UInt8) (w : World) :
    Calls Try.prog 28 #[.string ⟨l.toArray⟩, .string ⟨#[254, 255]⟩] w fun e w' => e = .returned (.tuple #[.string ⟨(Lib.trimPrefix l [254, 255]).toArray⟩, .bool (Mt.marked l)]) ∧ w = w' :=
  (Try.strings_CutPrefix ⟨l.toArray⟩ ⟨#[254, 255]⟩ w).mono fun e w' ⟨he, hw⟩ => ⟨by rw [he, ← Mt.marked_pre], hw.symm⟩

/-- A builder that holds bytes, made in w. -/
def Bu (w : World) (b : Nat) (l : List UInt8) (wr : World) : Prop := Lib.IsBuilderF 56 5 w.heap.size b (Lib.byteCells l) wr

theorem buF_kept {T e : TypeId} {B b : Nat} {p : Value} {bs : List Value} {w w' : World} (h : Lib.BuilderAtF T e B b p bs w) (k : Kept w w') : Lib.BuilderAtF T e B b p bs w' := by
  have hlt := h.lt
  obtain ⟨hB, v, hb, hown, hne⟩ := h
  refine ⟨hB, v, by rw [k.block b hlt]; exact hb, ⟨hown.1, ?_⟩, hne⟩
  rcases hown.2 with h | ⟨g, cap, cur, fz, hv, hbg, hg, r⟩
  · exact .inl h
  · refine .inr ⟨g, cap, cur, fz, hv, hbg, ?_, r⟩
    have hlt : g < w.heap.size := by
      rcases Nat.lt_or_ge g w.heap.size with h | h
      · exact h
      · rw [Array.getElem?_eq_none h] at hg; cases hg
    rw [k.block g hlt]; exact hg
theorem Bu.kept {w : World} {b : Nat} {l : List UInt8} {w1 w2 : World} (h : Bu w b l w1) (k : Kept w1 w2) : Bu w b l w2 :=
  h.elim (fun x => .inl (buF_kept x k)) (fun x => .inr (buF_kept x k))
theorem Bu.app {w : World} {b : Nat} {acc : List Nat} {r : Nat} {w1 : World} (h : Lib.BuilderAtF 56 5 w.heap.size b (.pointer (some ⟨b, 0, none⟩)) (Lib.byteCells (Mt.enc acc) ++ Lib.runeCells (r : Int)) w1) : Bu w b (Mt.enc (acc ++ [r])) w1 := by
  refine Or.inr ?_
  rw [Mt.enc_append, Lib.byteCells_append, show Mt.enc [r] = Lib.encodeRune (r : Int) from List.append_nil _, Lib.byteCells_encodeRune]
  exact h
theorem Mt.slice_text (t : List UInt8) (d : Nat) (h : d ≤ t.length) (W : World) : (Instr.slice 9 (.string ⟨t.toArray⟩) (some (.int .i64 (d : Int))) none none).run Try.prog W = .ok (.string ⟨(t.drop d).toArray⟩) W := by
  have z := Mt.text_drop t d t.length rfl
  have z1 : (⟨t.toArray⟩ : ByteArray).size = t.length := Mt.text_size t
  have z2 : (d : Int) ≤ (t.length : Int) := by omega
  have z3 : (0 : Int) ≤ (d : Int) := by omega
  go_simp

set_option maxRecDepth 100000 in
theorem decodePairs_any (l : List UInt8) (w : World) (hl : l.length ≤ 268435000) :
    Calls Try.prog 29 #[.string ⟨l.toArray⟩] w fun e w' => e = .returned (.string ⟨(Mt.enc (Mt.unpair l)).toArray⟩) ∧ Kept w w' := by
  have HL := Lib.hid hl
  go_enter Try.func29, Try.ntmps29
  go_wp2_with fail
  go_loopg [0] (l.length + 1) (fun m x wr => ∃ (t : List UInt8) (acc : List Nat), m = t.length + 1 ∧ .string ⟨t.toArray⟩ = x ∧ Bu w w.heap.size (Mt.enc acc) wr ∧ Hid (Mt.unpair l = acc ++ Mt.unpair t) ∧ acc.length + t.length ≤ l.length ∧ Kept w wr)
  case atStart => exact ⟨l, [], rfl, rfl, Lib.IsBuilderF.of (Lib.fresh_isBuilder 56 5 w), Lib.hid rfl, by simp, (Kept.refl w).allocO _⟩
  case round =>
    obtain ⟨t, acc, hm, rfl, hb, HR, hlen, hk⟩ := hrel
    have hsz := Below.size hk
    have hen := (Mt.enc_len acc).2
    by_cases hne : t = []
    · subst hne
      have HT := Lib.hid (show Mt.unpair l = acc by rw [HR.out, Mt.unpair_nil, List.append_nil])
      have HK := Lib.hid hk
      have C := Lib.hid (Try.Builder_String_any_k w.heap.size w.heap.size (Mt.enc acc) wr hb hsz)
      clear hb hk HR
      go_wp2_with fail
      (with_reducible refine C.out.mono ?_)
      rintro e w1 ⟨rfl, -, h1, -⟩
      have K1 := Lib.hid (show Kept w w1 from Below.trans HK.out h1)
      clear h1
      go_wp2_with fail
      go_ret
      exact ⟨by rw [HT.out]; rfl, K1.out⟩
    · have HC := Lib.hid (Mt.unpair_cons t hne)
      have f1 := Mt.fstC_pos t hne
      have f2 := Mt.fstC_le t
      have f3 := Mt.fstC_ok t
      have F := Lib.hid (firstChar_any t wr (by omega))
      obtain ⟨r, hr⟩ : ∃ r, r = (Mt.fstC t).1 := ⟨_, rfl⟩
      obtain ⟨d, hd⟩ : ∃ d, d = (Mt.fstC t).2 := ⟨_, rfl⟩
      rw [← hr, ← hd] at F HC
      rw [← hr] at f3
      rw [← hd] at f1 f2
      have hr1 : r ≤ 1114111 := by unfold Mt.okR at f3; omega
      have he : t.isEmpty = false := by simpa using hne
      have HB := Lib.hid hb
      have HK := Lib.hid hk
      have hsl := Mt.slice_text t d f2
      clear hr hd hb hk hne
      go_wp2_with fail
      (with_reducible refine F.out.mono ?_)
      rintro e w1 ⟨rfl, hk1⟩
      have B1 := Lib.hid (show Bu w w.heap.size (Mt.enc acc) w1 from Bu.kept HB.out hk1)
      have K1 := Lib.hid (HK.out.trans hk1)
      clear hk1
      have C := Lib.hid (writeRune_k w.heap.size w.heap.size (Lib.byteCells (Mt.enc acc)) r (by omega) (by omega) w1 B1.out (by rw [Lib.byteCells_length]; omega) (Below.size K1.out))
      go_wp2_with fail
      (with_reducible refine C.out.mono ?_)
      rintro e w2 ⟨rfl, b2, h2, -⟩
      have B2 := Lib.hid b2
      have K2 := Lib.hid (show Kept w w2 from Below.trans K1.out h2)
      clear b2 h2
      go_wp2_with fail
      go_roundg ((t.drop d).length + 1)
      case measure => rw [List.length_drop]; omega
      case rel =>
        refine ⟨t.drop d, acc ++ [r], rfl, rfl, ?_, Lib.hid ?_, ?_, K2.out⟩
        · exact Bu.app B2.out
        · rw [List.append_assoc]; exact HR.out.trans (by rw [HC.out]; rfl)
        · rw [List.length_append, List.length_drop, List.length_singleton]; omega

theorem Mt.marked_drop {l : List UInt8} (h : Mt.marked l = true) : Lib.trimPrefix l [254, 255] = l.drop 2 := by
  have hp : Lib.hasPrefix l [254, 255] = true := by rw [Mt.marked_pre]; exact h
  unfold Lib.trimPrefix
  rw [hp]; rfl

set_option maxRecDepth 100000 in
theorem Decode_any (l : List UInt8) (w : World) (hl : l.length ≤ 268435000) :
    Calls Try.prog 17 #[.string ⟨l.toArray⟩] w fun e w' => e = .returned (.string ⟨(Mt.decodeV l).toArray⟩) ∧ Kept w w' := by
  have HC := Lib.hid (CutPrefix_at l w)
  cases hm : Mt.marked l
  · rw [hm] at HC
    have HV0 := (show Mt.decodeV l = Mt.enc (l.map Mt.char1) by unfold Mt.decodeV Mt.chars; rw [hm]; rfl)
    obtain ⟨M, hM⟩ : ∃ M, M = l.map Mt.char1 := ⟨_, rfl⟩
    have HML := Lib.hid (show M.length = l.length by rw [hM, List.length_map])
    have HMT := Lib.hid (show ∀ (j : Nat) (h : j < l.length), M.take (j + 1) = M.take j ++ [Mt.char1 l[j]] by
      intro j h
      rw [List.take_succ_eq_append_getElem (by rw [HML.out]; exact h)]
      simp [hM])
    rw [← hM] at HV0
    have HV := Lib.hid HV0
    clear HV0 hM
    obtain ⟨cut, hcut⟩ : ∃ cut : ByteArray, cut = ⟨(Lib.trimPrefix l [254, 255]).toArray⟩ := ⟨_, rfl⟩
    rw [← hcut] at HC
    have hsz : (⟨l.toArray⟩ : ByteArray).size = l.length := Mt.text_size l
    have HL := Lib.hid hl
    obtain ⟨S, hS⟩ : ∃ S : ByteArray, S = ⟨l.toArray⟩ := ⟨_, rfl⟩
    have HG := Lib.hid (show ∀ (j : Nat) (h : j < S.size) (h2 : j < l.length), S[j] = l[j] by subst hS; intro j h h2; rfl)
    rw [← hS] at HC hsz ⊢
    obtain ⟨n, hn⟩ : ∃ n, n = l.length := ⟨_, rfl⟩
    rw [← hn] at hsz hl
    have HN := Lib.hid hn
    clear hcut hm hS hn
    go_enter Try.func17, Try.ntmps17
    go_wp2_with fail
    (with_reducible refine HC.out.mono ?_)
    rintro e w1 ⟨rfl, rfl⟩
    go_wp2_with fail
    go_loopg [7, 18] (n + 1) (fun m _ y wr => ∃ (j : Nat), m = n - j + 1 ∧ j ≤ n ∧ y = .int .i64 j ∧ Bu w w.heap.size (Mt.enc (M.take j)) wr ∧ Kept w wr)
    case atStart => exact ⟨0, rfl, Nat.zero_le _, rfl, Lib.IsBuilderF.of (Lib.fresh_isBuilder 56 5 w), (Kept.refl w).allocO _⟩
    case round =>
      obtain ⟨j, hm, hj, rfl, hb, hk⟩ := hrel
      have hsz2 := Below.size hk
      have HB := Lib.hid hb
      have HK := Lib.hid hk
      by_cases hlt : j < n
      · have hlt2 : j < l.length := by rw [← HN.out]; exact hlt
        have HG1 := Lib.hid (show S[j]'(by rw [hsz]; exact hlt) = l[j] from HG.out j (by rw [hsz]; exact hlt) hlt2)
        obtain ⟨b, hbb⟩ : ∃ b, b = l[j] := ⟨_, rfl⟩
        rw [← hbb] at HG1
        have HT := Lib.hid (show M.take (j + 1) = M.take j ++ [Mt.char1 b] by rw [hbb]; exact HMT.out j hlt2)
        have hen := (Mt.enc_len (M.take j)).2
        rw [List.length_take, HML.out] at hen
        obtain ⟨x, hx⟩ : ∃ x, x = b.toNat := ⟨_, rfl⟩
        have hx1 : x < 256 := by rw [hx]; exact b.toNat_lt
        have hi : ((S[j]'(by rw [hsz]; exact hlt)).toNat : Int) = (x : Int) := by rw [HG1.out, hx]
        have AL := Lib.hid (fun wx => isAlone_any x wx (by omega))
        have HX1 := Lib.hid (show Mt.char1 b = if Mt.alone x then x else 65533 by rw [hx]; rfl)
        clear hx hbb hb hk
        have hj0 : (0 : Int) ≤ (j : Int) := by omega
        have CW := Lib.hid (fun (r : Int) (hr0 : 0 ≤ r) (hr : r ≤ 1114111) => writeRune_k w.heap.size w.heap.size (Lib.byteCells (Mt.enc (M.take j))) r (by omega) (by omega) wr HB.out (by rw [Lib.byteCells_length]; have := Nat.min_le_left j l.length; omega) hsz2)
        cases ha : Mt.alone x
        · rw [ha] at AL HX1
          have HX := Lib.hid (show Mt.char1 b = 65533 from HX1.out)
          have C := Lib.hid (CW.out 65533 (by decide) (by decide))
          clear ha HX1 CW
          go_wp2_with fail
          (with_reducible refine (AL.out _).mono ?_)
          rintro e w2 ⟨rfl, rfl⟩
          go_wp2_with fail
          (with_reducible refine C.out.mono ?_)
          rintro e w2 ⟨rfl, b2, h2, -⟩
          have B2 := Lib.hid b2
          have K2 := Lib.hid (show Kept w w2 from Below.trans HK.out h2)
          clear b2 h2
          go_wp2_with fail
          go_roundg (n - (j + 1) + 1)
          case measure => omega
          case rel => exact ⟨j + 1, rfl, by omega, by go_num, by rw [HT.out, HX.out]; exact Bu.app (r := 65533) B2.out, K2.out⟩
        · rw [ha] at AL HX1
          have HX := Lib.hid (show Mt.char1 b = x from HX1.out)
          have C := Lib.hid (CW.out x (by omega) (by omega))
          clear ha HX1 CW
          go_wp2_with fail
          (with_reducible refine (AL.out _).mono ?_)
          rintro e w2 ⟨rfl, rfl⟩
          go_wp2_with fail
          (with_reducible refine C.out.mono ?_)
          rintro e w2 ⟨rfl, b2, h2, -⟩
          have B2 := Lib.hid b2
          have K2 := Lib.hid (show Kept w w2 from Below.trans HK.out h2)
          clear b2 h2
          go_wp2_with fail
          go_roundg (n - (j + 1) + 1)
          case measure => omega
          case rel => exact ⟨j + 1, rfl, by omega, by go_num, by rw [HT.out, HX.out]; exact Bu.app B2.out, K2.out⟩
      · obtain rfl : j = n := by omega
        have C := Lib.hid (Try.Builder_String_any_k w.heap.size w.heap.size (Mt.enc (M.take j)) wr hb hsz2)
        have HT := Lib.hid (show M.take j = M by rw [HN.out, ← HML.out, List.take_length])
        rw [HT.out] at C
        clear hb hk
        go_wp2_with fail
        (with_reducible refine C.out.mono ?_)
        rintro e w2 ⟨rfl, -, h1, -⟩
        have K1 := Lib.hid (show Kept w w2 from Below.trans HK.out h1)
        clear h1
        go_wp2_with fail
        go_ret
        exact ⟨by rw [HV.out]; rfl, K1.out⟩
  · rw [hm, Mt.marked_drop hm] at HC
    have HV := Lib.hid (show Mt.decodeV l = Mt.enc (Mt.unpair (l.drop 2)) by unfold Mt.decodeV Mt.chars; rw [hm]; rfl)
    have C := Lib.hid (decodePairs_any (l.drop 2) w (by rw [List.length_drop]; omega))
    clear hm
    go_enter Try.func17, Try.ntmps17
    go_wp2_with fail
    (with_reducible refine HC.out.mono ?_)
    rintro e w1 ⟨rfl, rfl⟩
    go_wp2_with fail
    (with_reducible refine C.out.mono ?_)
    rintro e w2 ⟨rfl, hk2⟩
    have K2 := Lib.hid hk2
    clear hk2
    go_wp2_with fail
    go_ret
    exact ⟨by rw [HV.out]; rfl, K2.out⟩

end Go.Proofs.Ytkgaddlclfjkmaa
