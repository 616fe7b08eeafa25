import Derived.Test.YtoablpaehhjchaaGreatDoorCosP
import Derived.Test.YtoablpaehhjchaaGreatDoorCosD
import Derived.Test.YtoablpaehhjchaaGreatDoorCosGet
import Derived.Test.YtoablpaehhjchaaGreatDoorStoM
import Derived.Test.YtoablpaehhjchaaGreatDoorCosFB
namespace Go.Proofs.YtoablpaehhjchaaGreatDoor
open Go.RowKit Cx
set_option linter.unusedSimpArgs false
set_option linter.unusedVariables false

def AsksT (rb : Nat) (g : Nat) (lb : Array Value) (p : Lx.Tok → Bool) (w : World) : Prop :=
  ∀ (t : Lx.Tok) (wx : World), w.grownBy wx (some rb) → Calls Tryz.prog g (#[tkV t] ++ lb) wx fun en w' => en = .returned (.bool (p t)) ∧ Kept wx w'

def WantPost (s : ByteArray) (dep : Int) (rb : Nat) (w : World) (X : Int × Lx.Tok) (e : Ending) (w' : World) : Prop :=
  e = .returned (.tuple #[tkV X.2, .int .i64 X.1]) ∧ (X.1 = 0 → Rst s (X.2.to : Int) dep rb w') ∧ w.grownBy w' (some rb)

set_option maxRecDepth 100000 in
set_option maxHeartbeats 4000000 in
theorem wanted_any (p : Lx.Tok → Bool) (g : Nat) (lb : Array Value) (eg : Ent g) (s : ByteArray) (a dep : Int) (rb : Nat) (w : World) (hs : s.size ≤ 4294967295) (hm : HasMax w) (hr : Rst s a dep rb w) (hp : AsksT rb g lb p w) (X : Int × Lx.Tok) (hX : X = wantV p s.data.toList a) :
    Calls Tryz.prog 183 #[.pointer (some ⟨rb, 0, none⟩), .func (.func g) #[] lb] w (WantPost s dep rb w X) := by
  obtain ⟨T, hT⟩ : ∃ T, T = Lx.nextV s.data.toList a := ⟨_, rfl⟩
  have H1 := Lib.hid (InR.fresh (InR.start w hr.lt) #[.int .i64 0, .int .i64 0, .string ⟨#[]⟩, .bool false, .int .i64 0, .int .i64 0] 123)
  have R1 := Lib.hid (hr.alloc (.cells #[.int .i64 0, .int .i64 0, .string ⟨#[]⟩, .bool false, .int .i64 0, .int .i64 0] 123))
  have CT := Lib.hid (token_any s a dep rb _ hs (hr.max hm H1.out.g) R1.out T hT)
  have HP := Lib.hid hp
  have HX := Lib.hid (show X = if T.1 = 0 then (if T.2.kind = 0 then (4, Lx.zero) else if p T.2 then (0, T.2) else (3, Lx.zero)) else (T.1, Lx.zero) by rw [hX, wantV, ← hT])
  unfold Ent at eg
  clear hm hr hp hX hT
  obtain ⟨er, kd, fv, st, wh, fr, tq⟩ := T
  unfold tkV at CT
  simp only [] at CT HX
  unfold WantPost
  go_enter Tryz.func183, Tryz.ntmps183
  go_wp2_with fail
  (with_reducible refine CT.out.mono ?_)
  rintro e w2 ⟨rfl, hr2, hg2⟩
  have H2 := Lib.hid (InR.fresh (H1.out.gb hg2) #[.int .i64 kd, .int .i64 fv, .string ⟨st.toArray⟩, .bool wh, .int .i64 fr, .int .i64 tq] 123)
  have R2 := Lib.hid (hr2.alloc (.cells #[.int .i64 kd, .int .i64 fv, .string ⟨st.toArray⟩, .bool wh, .int .i64 fr, .int .i64 tq] 123))
  clear hr2 hg2 CT H1 R1
  obtain ⟨u0, u1, u2, u3, u4, u5⟩ := (H2.out.mem (List.mem_cons_of_mem _ List.mem_cons_self)).cells6
  have uf := (H2.out.mem (List.mem_cons_of_mem _ List.mem_cons_self)).free
  have uz := (H2.out.mem (List.mem_cons_of_mem _ List.mem_cons_self)).lt
  have rne : w.heap.size ≠ rb := ((H2.out.2.1 _ (List.mem_cons_of_mem _ List.mem_cons_self)).2)
  by_cases he : er = 0
  · subst he
    have R3 := Lib.hid (show Rst s (tq : Int) dep rb (w2.alloc (.cells #[.int .i64 kd, .int .i64 fv, .string ⟨st.toArray⟩, .bool wh, .int .i64 fr, .int .i64 tq] 123)) from by
      have h := R2.out
      rwa [if_pos (by trivial)] at h)
    clear R2
    by_cases hk : kd = 0
    · have HV := Lib.hid (show X = (4, Lx.zero) by rw [HX.out, if_pos rfl, if_pos hk])
      subst hk
      clear HX
      go_wp2_with fail
      refine bodyPost_ret (v := .tuple #[.agg #[.int .i64 0, .int .i64 0, .string ⟨#[]⟩, .bool false, .int .i64 0, .int .i64 0], .int .i64 4]) ?_ rfl ⟨by rw [HV.out]; rfl, fun h => absurd h (by rw [HV.out]; decide), ?_⟩
      · simp [results, Tryz.results183, go_sem, u0, u1, u2, u3, u4, u5]
      · repeat (with_reducible first | exact H2.out.g | refine gb_drew ?_ | refine gb_alloc ?_ _ | refine gb_fresh ?_ (Nat.le_refl _) _)
    · have hkb : (kd == 0) = false := by simpa using hk
      cases hpt : p ⟨kd, fv, st, wh, fr, tq⟩ with
      | false =>
        have HV := Lib.hid (show X = (3, Lx.zero) by rw [HX.out, if_pos rfl, if_neg hk, hpt]; rfl)
        have CF := Lib.hid (fun wx h => show Calls Tryz.prog g (#[.agg #[.int .i64 kd, .int .i64 fv, .string ⟨st.toArray⟩, .bool wh, .int .i64 fr, .int .i64 tq]] ++ lb) wx fun en w' => en = .returned (.bool false) ∧ Kept wx w' from by rw [← hpt]; exact HP.out ⟨kd, fv, st, wh, fr, tq⟩ wx h)
        clear HX hk
        go_wp2_with (go_at_fn g; (with_reducible refine (CF.out _ H2.out.g).mono ?_); rintro e w3 ⟨rfl, hk3⟩; have H3 := Lib.hid (H2.out.kept hk3); clear u0 u1 u2 u3 u4 u5 uf uz hk3; obtain ⟨u0, u1, u2, u3, u4, u5⟩ := (H3.out.mem (List.mem_cons_of_mem _ List.mem_cons_self)).cells6; have uf := (H3.out.mem (List.mem_cons_of_mem _ List.mem_cons_self)).free; have uz := (H3.out.mem (List.mem_cons_of_mem _ List.mem_cons_self)).lt)
        refine bodyPost_ret (v := .tuple #[.agg #[.int .i64 0, .int .i64 0, .string ⟨#[]⟩, .bool false, .int .i64 0, .int .i64 0], .int .i64 3]) ?_ rfl ⟨by rw [HV.out]; rfl, fun h => absurd h (by rw [HV.out]; decide), ?_⟩
        · simp [results, Tryz.results183, go_sem, u0, u1, u2, u3, u4, u5]
        · repeat (with_reducible first | exact H3.out.g | refine gb_drew ?_ | refine gb_alloc ?_ _ | refine gb_fresh ?_ (Nat.le_refl _) _)
      | true =>
        have HV := Lib.hid (show X = (0, ⟨kd, fv, st, wh, fr, tq⟩) by rw [HX.out, if_pos rfl, if_neg hk, hpt]; rfl)
        have CF := Lib.hid (fun wx h => show Calls Tryz.prog g (#[.agg #[.int .i64 kd, .int .i64 fv, .string ⟨st.toArray⟩, .bool wh, .int .i64 fr, .int .i64 tq]] ++ lb) wx fun en w' => en = .returned (.bool true) ∧ Kept wx w' from by rw [← hpt]; exact HP.out ⟨kd, fv, st, wh, fr, tq⟩ wx h)
        clear HX hk
        go_wp2_with (go_at_fn g; (with_reducible refine (CF.out _ H2.out.g).mono ?_); rintro e w3 ⟨rfl, hk3⟩; have H3 := Lib.hid (H2.out.kept hk3); have R4 := Lib.hid (R3.out.kept hk3); clear u0 u1 u2 u3 u4 u5 uf uz hk3; obtain ⟨u0, u1, u2, u3, u4, u5⟩ := (H3.out.mem (List.mem_cons_of_mem _ List.mem_cons_self)).cells6; have uf := (H3.out.mem (List.mem_cons_of_mem _ List.mem_cons_self)).free; have uz := (H3.out.mem (List.mem_cons_of_mem _ List.mem_cons_self)).lt; obtain ⟨t0, t1, t2, t3, t4, t5⟩ := (H3.out.mem List.mem_cons_self).cells6; have tz := (H3.out.mem List.mem_cons_self).lt)
        refine bodyPost_ret (v := .tuple #[.agg #[.int .i64 kd, .int .i64 fv, .string ⟨st.toArray⟩, .bool wh, .int .i64 fr, .int .i64 tq], .int .i64 0]) ?_ rfl ⟨by rw [HV.out]; rfl, fun _ => ?_, ?_⟩
        · simp [results, Tryz.results183, go_sem, u0, u1, u2, u3, u4, u5]
        · rw [HV.out]
          repeat (with_reducible first | exact R4.out | refine Rst.drew ?_ | refine Rst.alloc ?_ _ | refine Rst.other ?_ (Ne.symm rne) _)
        · repeat (with_reducible first | exact H3.out.g | refine gb_drew ?_ | refine gb_alloc ?_ _ | refine gb_fresh ?_ (Nat.le_refl _) _)
  · have HV := Lib.hid (show X = (er, Lx.zero) by rw [HX.out, if_neg he])
    have hne : (er != 0) = true := by simpa using he
    have HE := Lib.hid he
    clear HX he
    go_wp2_with fail
    refine bodyPost_ret (v := .tuple #[.agg #[.int .i64 0, .int .i64 0, .string ⟨#[]⟩, .bool false, .int .i64 0, .int .i64 0], .int .i64 er]) ?_ rfl ⟨by rw [HV.out]; rfl, fun h => absurd h (by rw [HV.out]; exact HE.out), ?_⟩
    · simp [results, Tryz.results183, go_sem, u0, u1, u2, u3, u4, u5]
    · repeat (with_reducible first | exact H2.out.g | refine gb_drew ?_ | refine gb_alloc ?_ _ | refine gb_fresh ?_ (Nat.le_refl _) _)

end Go.Proofs.YtoablpaehhjchaaGreatDoor

namespace Go.Proofs.YtoablpaehhjchaaGreatDoor
open Go.RowKit Cx
set_option linter.unusedSimpArgs false
set_option linter.unusedVariables false

def StrR (w : World) (p : Option Addr) (ss : List (List UInt8)) : Prop := ∀ i (h : i < ss.length), ∃ k o, p = some ⟨k, o, none⟩ ∧ k < w.heap.size ∧ w.cell? ⟨k, o + i, none⟩ = some (.string ⟨ss[i].toArray⟩)
theorem StrR.gb {w w' : World} {p : Option Addr} {ss : List (List UInt8)} {r : Option Nat} (h : StrR w p ss) (g : w.grownBy w' r) (hn : ∀ k o, p = some ⟨k, o, none⟩ → some k ≠ r) : StrR w' p ss := fun i hi => by
  obtain ⟨k, o, hp, hk, hc⟩ := h i hi
  exact ⟨k, o, hp, Nat.lt_of_lt_of_le hk g.size, by rw [World.cell?_of_block (w := w) (a := ⟨k, o + i, none⟩) (g.block k hk (hn k o hp))]; exact hc⟩
theorem ent_words1 : Ent 210 := Go.Proofs.enters_of Tryz.func210 (by kernel_rfl) rfl

theorem words1_asks (rb sb : Nat) (l : List UInt8) (w : World) (hb : Blk w sb #[.string ⟨l.toArray⟩] 9) (hne : sb ≠ rb) : AsksT rb 210 #[.pointer (some ⟨sb, 0, none⟩)] (fun t => isW t l) w := by
  intro t wx hg
  have hb2 := hb.gb hg (by simpa using hne)
  have hc := hb2.cell 0
  have hz := hb2.lt
  simp at hc
  have CW := Lib.hid (fun W => isWord_any t l W)
  clear hb hb2 hg
  obtain ⟨k, f, s, wh, fr, tq⟩ := t
  unfold tkV at CW ⊢
  simp only [] at CW ⊢
  show Calls Tryz.prog 210 #[.agg #[.int .i64 k, .int .i64 f, .string ⟨s.toArray⟩, .bool wh, .int .i64 fr, .int .i64 tq], .pointer (some ⟨sb, 0, none⟩)] wx _
  go_enter Tryz.func210, Tryz.ntmps210
  go_wp2_with fail
  (with_reducible refine (CW.out _).mono ?_)
  rintro en w2 ⟨rfl, hk2⟩
  go_wp2_with fail
  go_ret
  exact ⟨rfl, ((Kept.refl wx).alloc _ _).trans hk2⟩

set_option maxRecDepth 100000 in
set_option maxHeartbeats 4000000 in
theorem words_any (ss : List (List UInt8)) (p : Option Addr) (c : Nat) (s : ByteArray) (a dep : Int) (rb : Nat) (w : World) (hs : s.size ≤ 4294967295) (hm : HasMax w) (hr : Rst s a dep rb w) (hss : StrR w p ss) (hne : ∀ k o, p = some ⟨k, o, none⟩ → some k ≠ some rb) (hl : ss.length ≤ 100) (X : Int × Int) (hX : X = wordsV s.data.toList ss a) :
    Calls Tryz.prog 185 #[.pointer (some ⟨rb, 0, none⟩), .slice p ss.length c] w fun e w' => e = .returned (.int .i64 X.1) ∧ (X.1 = 0 → Rst s X.2 dep rb w') ∧ w.grownBy w' (some rb) := by
  have hmf : ∀ (fn : Fn) (first cap : Array Value) (w : World), (Instr.makeFunc fn first cap).run Tryz.prog w = .ok (.func fn first cap) w := fun _ _ _ _ => rfl
  have HM := Lib.hid hm
  have HR := Lib.hid hr
  have HS := Lib.hid hss
  have HN := Lib.hid hne
  have HX := Lib.hid hX
  have hrb := hr.lt
  clear hm hr hss hne hX
  go_enter Tryz.func185, Tryz.ntmps185
  go_wp2_with fail
  go_loopg [11] (ss.length + 1) (fun m i wr => ∃ (j : Nat) (aj : Int), m = ss.length + 1 - j ∧ j ≤ ss.length ∧ i = .int .i64 j ∧ Hid (wordsV s.data.toList (ss.drop j) aj = X) ∧ Rst s aj dep rb wr ∧ w.grownBy wr (some rb))
  case atStart => exact ⟨0, a, by omega, Nat.zero_le _, rfl, Lib.hid HX.out.symm, HR.out, gb_refl _ _⟩
  case round =>
    obtain ⟨j, aj, hm1, hj, rfl, HU, hrj, hgj⟩ := hrel
    have RJ := Lib.hid hrj
    have GJ := Lib.hid hgj
    have MJ := Lib.hid (HR.out.max HM.out hgj)
    have SJ := Lib.hid (HS.out.gb hgj HN.out)
    have hwz := hgj.size
    clear hrj hgj
    by_cases hlt : j < ss.length
    · have j1 : (j : Int) < (ss.length : Int) := by omega
      obtain ⟨k, o, hp, hk, hc⟩ := SJ.out j hlt
      obtain ⟨t, ht⟩ : ∃ t, t = ss[j] := ⟨_, rfl⟩
      rw [← ht] at hc
      obtain ⟨W, hW⟩ : ∃ W, W = wantV (fun t' => isW t' t) s.data.toList aj := ⟨_, rfl⟩
      have HX2 := Lib.hid (show X = if W.1 = 0 then wordsV s.data.toList (ss.drop (j + 1)) W.2.to else (W.1, 0) by
        rw [← HU.out, List.drop_eq_getElem_cons hlt, wordsV, ← ht, ← hW])
      have SB := Lib.hid (Blk.fresh wr #[.string ⟨t.toArray⟩] 9)
      have hne : wr.heap.size ≠ rb := by omega
      have g1 := (World.grownBy_alloc wr (.cells #[.string ⟨t.toArray⟩] 9) (some rb))
      have CW := Lib.hid (wanted_any (fun t' => isW t' t) _ _ ent_words1 s aj dep rb _ hs (RJ.out.max MJ.out g1) (RJ.out.alloc _) (words1_asks rb wr.heap.size t _ SB.out hne) W hW)
      have G1 := Lib.hid (gb_trans GJ.out g1)
      clear g1 hne ht HU hW
      subst hp
      obtain ⟨we, kd, fv, st, wh, fr, tq⟩ := W
      unfold WantPost tkV at CW
      simp only [] at HX2 CW
      by_cases he : we = 0
      · subst he
        have HV := Lib.hid (show wordsV s.data.toList (ss.drop (j + 1)) tq = X by rw [HX2.out, if_pos rfl])
        clear HX2
        go_wp2_with fail
        (with_reducible refine CW.out.mono ?_)
        rintro e w3 ⟨rfl, hr3, hg3⟩
        have R3 := Lib.hid (hr3 (by trivial))
        have G3 := Lib.hid (gb_trans G1.out hg3)
        have S3 := Lib.hid (show w.heap.size ≤ w3.heap.size from G3.out.size)
        have N3 := Lib.hid (show rb ≠ w3.heap.size from Nat.ne_of_lt R3.out.lt)
        clear hr3 hg3
        go_wp2_with fail
        go_roundg (ss.length + 1 - (j + 1))
        case measure => omega
        case rel =>
          refine ⟨j + 1, tq, rfl, by omega, by go_num, HV, ?_, ?_⟩
          · repeat (with_reducible first | exact R3.out | refine Rst.drew ?_ | refine Rst.alloc ?_ _ | refine Rst.other ?_ N3.out _)
          · repeat (with_reducible first | exact G3.out | refine gb_drew ?_ | refine gb_alloc ?_ _ | refine gb_fresh ?_ S3.out _)
      · have HV := Lib.hid (show X = (we, 0) by rw [HX2.out, if_neg he])
        have hne : (we != 0) = true := by simpa using he
        have HE := Lib.hid he
        clear HX2 he
        go_wp2_with fail
        (with_reducible refine CW.out.mono ?_)
        rintro e w3 ⟨rfl, hr3, hg3⟩
        have G3 := Lib.hid (gb_trans G1.out hg3)
        have S3 := Lib.hid (show w.heap.size ≤ w3.heap.size from G3.out.size)
        clear hr3 hg3
        go_wp2_with fail
        go_ret
        refine ⟨ret_int (by rw [HV.out]), fun h => absurd h (by rw [HV.out]; exact HE.out), ?_⟩
        repeat (with_reducible first | exact G3.out | refine gb_drew ?_ | refine gb_alloc ?_ _ | refine gb_fresh ?_ S3.out _)
    · obtain rfl : j = ss.length := by omega
      have HV := Lib.hid (show X = (0, aj) by rw [← HU.out, List.drop_length, wordsV])
      go_wp2_with fail
      go_ret
      exact ⟨ret_int (by rw [HV.out]), fun _ => by rw [HV.out]; exact RJ.out, GJ.out⟩

end Go.Proofs.YtoablpaehhjchaaGreatDoor

namespace Go.Proofs.YtoablpaehhjchaaGreatDoor
open Go.RowKit Cx
set_option linter.unusedSimpArgs false
set_option linter.unusedVariables false

theorem pre1 (b : UInt8) : ∀ r : List UInt8, Lib.hasPrefix r [b] = (r.head? == some b)
  | [] => rfl
  | c :: r => by
    rw [Lib.hasPrefix, List.isPrefixOf, List.isPrefixOf, Bool.and_true, List.head?_cons, Bool.eq_iff_iff]
    rw [beq_iff_eq, beq_iff_eq, Option.some.injEq]; exact eq_comm
theorem lineN_eq (r : List UInt8) : Cx.lineN r = if Lib.hasPrefix r [13, 10] then 2 else if Lib.hasPrefix r [10] then 1 else if Lib.hasPrefix r [13] then 1 else 0 := by
  rw [pre1, pre1]
  unfold lineN Lib.hasPrefix
  split
  · simp
  · simp
  · rename_i r h
    cases r with
    | nil => simp
    | cons c r =>
      have hc : ¬ (10 : UInt8) = c := fun e => by subst e; exact h _ rfl
      simp [hc]
  · rename_i h1 h2 h3
    cases r with
    | nil => simp
    | cons c r =>
      have hc : c ≠ 10 := fun e => by subst e; exact h2 _ rfl
      have hd : c ≠ 13 := fun e => by subst e; exact h3 _ rfl
      simp [hc, hd, Ne.symm hd]
theorem str_drop (s : ByteArray) (k : Nat) : (s.extract k s.size).data.toList = s.data.toList.drop k := by
  rw [ByteArray.data_extract]
  simp [List.take_of_length_le]

set_option maxRecDepth 100000 in
set_option maxHeartbeats 4000000 in
theorem lineEnd_any (s : ByteArray) (k : Nat) (dep : Int) (rb : Nat) (w : World) (hs : s.size ≤ 4294967295) (hk : k ≤ s.size) (hr : Rst s (k : Int) dep rb w) (n : Nat) (hn : n = lineN (s.data.toList.drop k)) :
    Calls Tryz.prog 211 #[.pointer (some ⟨rb, 0, none⟩)] w fun e w' => e = .returned (.bool (decide (0 < n))) ∧ Rst s ((k + n : Nat) : Int) dep rb w' ∧ w.grownBy w' (some rb) := by
  obtain ⟨P0, h0⟩ : ∃ P0, P0 = Lib.hasPrefix (s.data.toList.drop k) [13, 10] := ⟨_, rfl⟩
  obtain ⟨P1, h1⟩ : ∃ P1, P1 = Lib.hasPrefix (s.data.toList.drop k) [10] := ⟨_, rfl⟩
  obtain ⟨P2, h2⟩ : ∃ P2, P2 = Lib.hasPrefix (s.data.toList.drop k) [13] := ⟨_, rfl⟩
  have HN := Lib.hid (show n = if P0 then 2 else if P1 then 1 else if P2 then 1 else 0 by rw [hn, lineN_eq, ← h0, ← h1, ← h2])
  have C0 := Lib.hid (fun W => show Calls Tryz.prog 58 #[.string (s.extract k s.size), .string ⟨#[13, 10]⟩] W fun e w' => e = .returned (.bool P0) ∧ w' = W from (Tryz.strings_HasPrefix _ _ W).mono fun e w' ⟨he, hw⟩ => ⟨by rw [he, h0, str_drop], hw⟩)
  have C1 := Lib.hid (fun W => show Calls Tryz.prog 58 #[.string (s.extract k s.size), .string ⟨#[10]⟩] W fun e w' => e = .returned (.bool P1) ∧ w' = W from (Tryz.strings_HasPrefix _ _ W).mono fun e w' ⟨he, hw⟩ => ⟨by rw [he, h1, str_drop], hw⟩)
  have C2 := Lib.hid (fun W => show Calls Tryz.prog 58 #[.string (s.extract k s.size), .string ⟨#[13]⟩] W fun e w' => e = .returned (.bool P2) ∧ w' = W from (Tryz.strings_HasPrefix _ _ W).mono fun e w' ⟨he, hw⟩ => ⟨by rw [he, h2, str_drop], hw⟩)
  have HR := Lib.hid hr
  have k0 : (0 : Int) ≤ (k : Int) := by omega
  have k1 : (k : Int) ≤ (s.size : Int) := by omega
  have i1 : IntKind.i64.wrap ((k : Int) + 1) = (k : Int) + 1 := IntWalk.i64_in _ (by omega)
  have i2 : IntKind.i64.wrap ((k : Int) + 2) = (k : Int) + 2 := IntWalk.i64_in _ (by omega)
  have x0 : ∀ w, (Instr.index 279 (.agg #[.string ⟨#[13, 10]⟩, .string ⟨#[10]⟩, .string ⟨#[13]⟩]) (.int .i64 0)).run Tryz.prog w = .ok (.string ⟨#[13, 10]⟩) w := fun _ => by kernel_rfl
  have x1 : ∀ w, (Instr.index 279 (.agg #[.string ⟨#[13, 10]⟩, .string ⟨#[10]⟩, .string ⟨#[13]⟩]) (.int .i64 1)).run Tryz.prog w = .ok (.string ⟨#[10]⟩) w := fun _ => by kernel_rfl
  have x2 : ∀ w, (Instr.index 279 (.agg #[.string ⟨#[13, 10]⟩, .string ⟨#[10]⟩, .string ⟨#[13]⟩]) (.int .i64 2)).run Tryz.prog w = .ok (.string ⟨#[13]⟩) w := fun _ => by kernel_rfl
  clear hr hn h0 h1 h2
  go_enter Tryz.func211, Tryz.ntmps211
  go_wp2_with fail
  go_loopg [6] 4 (fun m i wr => ∃ j : Nat, m = 4 - j ∧ j ≤ 3 ∧ i = .int .i64 j ∧ Hid (0 < j → P0 = false) ∧ Hid (1 < j → P1 = false) ∧ Hid (2 < j → P2 = false) ∧ Rst s (k : Int) dep rb wr ∧ w.grownBy wr (some rb))
  case atStart => exact ⟨0, rfl, by omega, rfl, Lib.hid (fun h => absurd h (by decide)), Lib.hid (fun h => absurd h (by decide)), Lib.hid (fun h => absurd h (by decide)), HR.out, gb_refl _ _⟩
  case round =>
    obtain ⟨j, hm, hj, rfl, N0, N1, N2, hrj, hgj⟩ := hrel
    have RJ := Lib.hid hrj
    have GJ := Lib.hid hgj
    obtain ⟨c0, c1, c2⟩ := hrj.cells
    have rf := Blk.free hrj
    have rz := hrj.lt
    clear hrj hgj
    have hcases : j = 0 ∨ j = 1 ∨ j = 2 ∨ j = 3 := by omega
    rcases hcases with rfl | rfl | rfl | rfl
    · skip
      cases P0 with
      | true =>
        have HV := Lib.hid (show n = 2 by rw [HN.out]; rfl)
        clear HN N0 N1 N2
        go_wp2_with fail
        go_region_held3 (fun w' => w'.cell? ⟨rb, 0, none⟩ = some (.string s) ∧ w'.cell? ⟨rb, 1, none⟩ = some (.int .i64 k)) (go_keep)
          (first | (go_at_call 58; refine (C0.out _).mono ?_; rintro e w1 ⟨rfl, rfl⟩))
        all_goals
          go_wp2_with fail
          go_ret
          refine ⟨ret_bool (by rw [HV.out]; rfl), ?_, ?_⟩
          · rw [HV.out]
            show Rst s ((k : Int) + 2) dep rb _
            repeat (with_reducible first | exact RJ.out | refine Rst.move (a := (k : Int)) ?_ _ | refine Rst.drew ?_ | refine Rst.drewN ?_ _)
          · repeat (with_reducible first | exact GJ.out | refine gb_own ?_ _ _ | refine gb_drew ?_ | refine gb_drewN ?_ _)
      | false =>
        clear HN
        go_wp2_with fail
        go_region_held3 (fun w' => w'.cell? ⟨rb, 0, none⟩ = some (.string s) ∧ w'.cell? ⟨rb, 1, none⟩ = some (.int .i64 k)) (go_keep)
          (first | (go_at_call 58; refine (C0.out _).mono ?_; rintro e w1 ⟨rfl, rfl⟩))
        all_goals
          go_wp2_with fail
          go_roundg (4 - 1)
          case measure => omega
          case rel =>
            refine ⟨1, rfl, by omega, by go_num, Lib.hid (by intro _; first | trivial | rfl | exact N0.out (by decide)), Lib.hid (fun h => absurd h (by decide)), Lib.hid (fun h => absurd h (by decide)), ?_, ?_⟩
            · repeat (with_reducible first | exact RJ.out | refine Rst.drew ?_ | refine Rst.drewN ?_ _)
            · repeat (with_reducible first | exact GJ.out | refine gb_drew ?_ | refine gb_drewN ?_ _)
    · have e0 := N0.out (by decide)
      cases P1 with
      | true =>
        have HV := Lib.hid (show n = 1 by rw [HN.out, e0]; rfl)
        clear HN N0 N1 N2 e0
        go_wp2_with fail
        go_region_held3 (fun w' => w'.cell? ⟨rb, 0, none⟩ = some (.string s) ∧ w'.cell? ⟨rb, 1, none⟩ = some (.int .i64 k)) (go_keep)
          (first | (go_at_call 58; refine (C1.out _).mono ?_; rintro e w1 ⟨rfl, rfl⟩))
        all_goals
          go_wp2_with fail
          go_ret
          refine ⟨ret_bool (by rw [HV.out]; rfl), ?_, ?_⟩
          · rw [HV.out]
            show Rst s ((k : Int) + 1) dep rb _
            repeat (with_reducible first | exact RJ.out | refine Rst.move (a := (k : Int)) ?_ _ | refine Rst.drew ?_ | refine Rst.drewN ?_ _)
          · repeat (with_reducible first | exact GJ.out | refine gb_own ?_ _ _ | refine gb_drew ?_ | refine gb_drewN ?_ _)
      | false =>
        clear HN e0
        go_wp2_with fail
        go_region_held3 (fun w' => w'.cell? ⟨rb, 0, none⟩ = some (.string s) ∧ w'.cell? ⟨rb, 1, none⟩ = some (.int .i64 k)) (go_keep)
          (first | (go_at_call 58; refine (C1.out _).mono ?_; rintro e w1 ⟨rfl, rfl⟩))
        all_goals
          go_wp2_with fail
          go_roundg (4 - 2)
          case measure => omega
          case rel =>
            refine ⟨2, rfl, by omega, by go_num, Lib.hid (by intro _; first | trivial | rfl | exact N0.out (by decide)), Lib.hid (by intro _; first | trivial | rfl | exact N1.out (by decide)), Lib.hid (fun h => absurd h (by decide)), ?_, ?_⟩
            · repeat (with_reducible first | exact RJ.out | refine Rst.drew ?_ | refine Rst.drewN ?_ _)
            · repeat (with_reducible first | exact GJ.out | refine gb_drew ?_ | refine gb_drewN ?_ _)
    · have e0 := N0.out (by decide)
      have e1 := N1.out (by decide)
      cases P2 with
      | true =>
        have HV := Lib.hid (show n = 1 by rw [HN.out, e0, e1]; rfl)
        clear HN N0 N1 N2 e0 e1
        go_wp2_with fail
        go_region_held3 (fun w' => w'.cell? ⟨rb, 0, none⟩ = some (.string s) ∧ w'.cell? ⟨rb, 1, none⟩ = some (.int .i64 k)) (go_keep)
          (first | (go_at_call 58; refine (C2.out _).mono ?_; rintro e w1 ⟨rfl, rfl⟩))
        all_goals
          go_wp2_with fail
          go_ret
          refine ⟨ret_bool (by rw [HV.out]; rfl), ?_, ?_⟩
          · rw [HV.out]
            show Rst s ((k : Int) + 1) dep rb _
            repeat (with_reducible first | exact RJ.out | refine Rst.move (a := (k : Int)) ?_ _ | refine Rst.drew ?_ | refine Rst.drewN ?_ _)
          · repeat (with_reducible first | exact GJ.out | refine gb_own ?_ _ _ | refine gb_drew ?_ | refine gb_drewN ?_ _)
      | false =>
        clear HN e0 e1
        go_wp2_with fail
        go_region_held3 (fun w' => w'.cell? ⟨rb, 0, none⟩ = some (.string s) ∧ w'.cell? ⟨rb, 1, none⟩ = some (.int .i64 k)) (go_keep)
          (first | (go_at_call 58; refine (C2.out _).mono ?_; rintro e w1 ⟨rfl, rfl⟩))
        all_goals
          go_wp2_with fail
          go_roundg (4 - 3)
          case measure => omega
          case rel =>
            refine ⟨3, rfl, by omega, by go_num, Lib.hid (by intro _; first | trivial | rfl | exact N0.out (by decide)), Lib.hid (by intro _; first | trivial | rfl | exact N1.out (by decide)), Lib.hid (by intro _; first | trivial | rfl | exact N2.out (by decide)), ?_, ?_⟩
            · repeat (with_reducible first | exact RJ.out | refine Rst.drew ?_ | refine Rst.drewN ?_ _)
            · repeat (with_reducible first | exact GJ.out | refine gb_drew ?_ | refine gb_drewN ?_ _)
    · have e0 := N0.out (by decide)
      have e1 := N1.out (by decide)
      have e2 := N2.out (by decide)
      have HV := Lib.hid (show n = 0 by rw [HN.out, e0, e1, e2]; rfl)
      clear HN N0 N1 N2 e0 e1 e2
      go_wp2_with fail
      go_ret
      exact ⟨ret_bool (by rw [HV.out]; rfl), by rw [HV.out]; exact RJ.out, GJ.out⟩

end Go.Proofs.YtoablpaehhjchaaGreatDoor

namespace Go.Proofs.YtoablpaehhjchaaGreatDoor
open Go.RowKit Cx
set_option linter.unusedSimpArgs false
set_option linter.unusedVariables false

theorem str_one (w : World) (a : List UInt8) (t : TypeId) : StrR (w.alloc (.cells #[.string ⟨a.toArray⟩] t)) (some ⟨w.heap.size, 0, none⟩) [a] := fun i hi => by
  have hi : i < 1 := hi
  obtain rfl : i = 0 := by omega
  exact ⟨w.heap.size, 0, rfl, by simp, (Blk.fresh w #[.string ⟨a.toArray⟩] t).cell 0⟩
theorem str_two (w : World) (a b : List UInt8) (t : TypeId) : StrR (w.alloc (.cells #[.string ⟨a.toArray⟩, .string ⟨b.toArray⟩] t)) (some ⟨w.heap.size, 0, none⟩) [a, b] := fun i hi => by
  have hi : i < 2 := hi
  have B := Blk.fresh w #[.string ⟨a.toArray⟩, .string ⟨b.toArray⟩] t
  have : i = 0 ∨ i = 1 := by omega
  rcases this with rfl | rfl
  · exact ⟨w.heap.size, 0, rfl, by simp, B.cell 0⟩
  · exact ⟨w.heap.size, 0, rfl, by simp, B.cell 1⟩
theorem str_one' {w : World} {k : Nat} (a : List UInt8) (t : TypeId) (e : k = w.heap.size) : StrR (w.alloc (.cells #[.string ⟨a.toArray⟩] t)) (some ⟨k, 0, none⟩) [a] := by subst e; exact str_one w a t
theorem str_two' {w : World} {k : Nat} (a b : List UInt8) (t : TypeId) (e : k = w.heap.size) : StrR (w.alloc (.cells #[.string ⟨a.toArray⟩, .string ⟨b.toArray⟩] t)) (some ⟨k, 0, none⟩) [a, b] := by subst e; exact str_two w a b t
theorem ent_isCount : Ent 184 := Go.Proofs.enters_of Tryz.func184 (by kernel_rfl) rfl

theorem count_asks (rb : Nat) (w : World) : AsksT rb 184 #[] wholeT w := fun t wx _ => isCount_any t wx
theorem want_f (p : Lx.Tok → Bool) (l : List UInt8) (a : Int) : -2147483648 ≤ (wantV p l a).2.f ∧ (wantV p l a).2.f ≤ 2147483648 := by
  by_cases h : (wantV p l a).1 = 0
  · rw [(want_ok h).2.1]; exact ⟨(Lx.next_len l a).1, (Lx.next_len l a).2.1⟩
  · rw [want_bad h]; exact ⟨by decide, by decide⟩

set_option maxRecDepth 100000 in
set_option maxHeartbeats 8000000 in
theorem head_any (s : ByteArray) (a dep : Int) (rb : Nat) (w : World) (hs : s.size ≤ 4294967295) (hm : HasMax w) (hr : Rst s a dep rb w) (X : Int × Ob × Int) (hX : X = headV s.data.toList a) :
    Calls Tryz.prog 156 #[.pointer (some ⟨rb, 0, none⟩)] w fun e w' => e = .returned (.tuple #[objV X.2.1 Hd.none, .int .i64 X.1]) ∧ (X.1 = 0 → Rst s X.2.2 dep rb w') ∧ w.grownBy w' (some rb) := by
  have HM := Lib.hid hm
  have HR := Lib.hid hr
  have H1 := Lib.hid (InR.fresh (InR.start w hr.lt) nul6 39)
  have R1 := Lib.hid (hr.alloc (.cells nul6 39))
  obtain ⟨U, hU⟩ : ∃ U, U = wantV wholeT s.data.toList a := ⟨_, rfl⟩
  have CU := Lib.hid (wanted_any wholeT _ _ ent_isCount s a dep rb _ hs (hr.max hm H1.out.g) R1.out (count_asks rb _) U hU)
  obtain ⟨V, hV⟩ : ∃ V, V = wantV wholeT s.data.toList U.2.to := ⟨_, rfl⟩
  obtain ⟨Z, hZ⟩ : ∃ Z, Z = wordsV s.data.toList [objWd] V.2.to := ⟨_, rfl⟩
  have HX := Lib.hid (show X = if U.1 = 0 then (if V.1 = 0 then (if Z.1 = 0 then (0, pairO U.2 V.2, Z.2) else (Z.1, nul, 0)) else (V.1, nul, 0)) else (U.1, nul, 0) by rw [hX, headV, ← hU, ← hV, ← hZ])
  have HUF := Lib.hid (show -9223372036854775808 ≤ U.2.f ∧ U.2.f ≤ 9223372036854775807 by have := want_f wholeT s.data.toList a; rw [← hU] at this; omega)
  have HV := Lib.hid hV
  have HZ := Lib.hid hZ
  have CP := Lib.hid (fun W => pair_any U.2 V.2 W HUF.out.1 HUF.out.2)
  clear hm hr hX hU hV hZ
  obtain ⟨ue, uk, uf_, us, uw, ufr, ut⟩ := U
  unfold WantPost tkV at CU
  unfold tkV at CP
  simp only [] at CU CP HX HUF HV
  go_enter Tryz.func156, Tryz.ntmps156
  go_wp2_with fail
  (with_reducible refine CU.out.mono ?_)
  rintro e w2 ⟨rfl, hr2, hg2⟩
  have H2 := Lib.hid (InR.fresh (H1.out.gb hg2) #[.int .i64 uk, .int .i64 uf_, .string ⟨us.toArray⟩, .bool uw, .int .i64 ufr, .int .i64 ut] 123)
  have R2 := Lib.hid hr2
  obtain ⟨r0, r1, r2, r3, r4, r5⟩ := (H2.out.mem (List.mem_cons_of_mem _ List.mem_cons_self)).cells6
  have rf := (H2.out.mem (List.mem_cons_of_mem _ List.mem_cons_self)).free
  have rz := (H2.out.mem (List.mem_cons_of_mem _ List.mem_cons_self)).lt
  have rne : w.heap.size ≠ rb := ((H2.out.2.1 _ (List.mem_cons_of_mem _ List.mem_cons_self)).2)
  clear hr2 hg2 CU H1 R1
  by_cases hu : ue = 0
  · subst hu
    have HX2 := Lib.hid (show X = if V.1 = 0 then (if Z.1 = 0 then (0, pairO ⟨uk, uf_, us, uw, ufr, ut⟩ V.2, Z.2) else (Z.1, nul, 0)) else (V.1, nul, 0) by rw [HX.out, if_pos rfl])
    clear HX
    have R3 := Lib.hid ((R2.out (by trivial)).alloc (.cells #[.int .i64 uk, .int .i64 uf_, .string ⟨us.toArray⟩, .bool uw, .int .i64 ufr, .int .i64 ut] 123))
    have CV := Lib.hid (wanted_any wholeT _ _ ent_isCount s ut dep rb _ hs (HR.out.max HM.out H2.out.g) R3.out (count_asks rb _) V HV.out)
    obtain ⟨ve, vk, vf, vs, vw, vfr, vt⟩ := V
    unfold WantPost tkV at CV
    simp only [] at CV CP HX2 HZ
    go_wp2_with fail
    (with_reducible refine CV.out.mono ?_)
    rintro e w4 ⟨rfl, hr4, hg4⟩
    have H4 := Lib.hid (InR.fresh (H2.out.gb hg4) #[.int .i64 vk, .int .i64 vf, .string ⟨vs.toArray⟩, .bool vw, .int .i64 vfr, .int .i64 vt] 123)
    have R4 := Lib.hid hr4
    clear r0 r1 r2 r3 r4 r5 rf rz hr4 hg4 CV R3 R2
    obtain ⟨r0, r1, r2, r3, r4, r5⟩ := (H4.out.mem (List.mem_cons_of_mem _ (List.mem_cons_of_mem _ List.mem_cons_self))).cells6
    have rf := (H4.out.mem (List.mem_cons_of_mem _ (List.mem_cons_of_mem _ List.mem_cons_self))).free
    have rz := (H4.out.mem (List.mem_cons_of_mem _ (List.mem_cons_of_mem _ List.mem_cons_self))).lt
    by_cases hv : ve = 0
    · subst hv
      have R5 := Lib.hid ((R4.out (by trivial)).alloc (.cells #[.int .i64 vk, .int .i64 vf, .string ⟨vs.toArray⟩, .bool vw, .int .i64 vfr, .int .i64 vt] 123))
      have HX3 := Lib.hid (show X = if Z.1 = 0 then (0, pairO ⟨uk, uf_, us, uw, ufr, ut⟩ ⟨vk, vf, vs, vw, vfr, vt⟩, Z.2) else (Z.1, nul, 0) by rw [HX2.out, if_pos rfl])
      clear HX2
      have H6 := Lib.hid (InR.fresh' (k := w4.heap.size + 1) H4.out #[.string ⟨#[111, 98, 106]⟩] 9 (by simp))
      have R6 := Lib.hid (R5.out.alloc (.cells #[.string ⟨#[111, 98, 106]⟩] 9))
      have CW := Lib.hid (words_any [objWd] (some ⟨w4.heap.size + 1, 0, none⟩) 1 s vt dep rb _ hs (HR.out.max HM.out H6.out.g) R6.out (str_one' objWd _ (by simp)) (fun k o e => by cases e; simpa using (H6.out.2.1 _ List.mem_cons_self).2) (by decide) Z HZ.out)
      obtain ⟨ze, zt⟩ := Z
      simp only [List.length_cons, List.length_nil, Nat.zero_add] at CW
      simp only [] at CW CP HX3
      go_wp2_with fail
      (with_reducible refine CW.out.mono ?_)
      rintro e w7 ⟨rfl, hr7, hg7⟩
      have H7 := Lib.hid (H6.out.gb hg7)
      have R7 := Lib.hid hr7
      clear r0 r1 r2 r3 r4 r5 rf rz hr7 hg7 CW
      obtain ⟨r0, r1, r2, r3, r4, r5⟩ := (H7.out.mem (List.mem_cons_of_mem _ (List.mem_cons_of_mem _ (List.mem_cons_of_mem _ List.mem_cons_self)))).cells6
      have rf := (H7.out.mem (List.mem_cons_of_mem _ (List.mem_cons_of_mem _ (List.mem_cons_of_mem _ List.mem_cons_self)))).free
      have rz := (H7.out.mem (List.mem_cons_of_mem _ (List.mem_cons_of_mem _ (List.mem_cons_of_mem _ List.mem_cons_self)))).lt
      by_cases hz : ze = 0
      · subst hz
        have HV1 := Lib.hid (show X = (0, pairO ⟨uk, uf_, us, uw, ufr, ut⟩ ⟨vk, vf, vs, vw, vfr, vt⟩, zt) by rw [HX3.out, if_pos rfl])
        have R8 := Lib.hid (R7.out (by trivial))
        obtain ⟨a0, a1, a2, a3, a4, a5⟩ := (H7.out.mem (List.mem_cons_of_mem _ (List.mem_cons_of_mem _ List.mem_cons_self))).cells6
        have az := (H7.out.mem (List.mem_cons_of_mem _ (List.mem_cons_of_mem _ List.mem_cons_self))).lt
        obtain ⟨b0, b1, b2, b3, b4, b5⟩ := (H7.out.mem (List.mem_cons_of_mem _ List.mem_cons_self)).cells6
        have bz := (H7.out.mem (List.mem_cons_of_mem _ List.mem_cons_self)).lt
        unfold objV Hd.none at CP
        simp only [Ob.k, Ob.n, Ob.f, Ob.s, Ob.l, Ob.d, List.length_nil] at CP
        clear HX3
        go_wp2_with fail
        (with_reducible refine (CP.out _).mono ?_)
        rintro e w8 ⟨rfl, hk8⟩
        have H8 := Lib.hid (H7.out.kept hk8)
        have R9 := Lib.hid (R8.out.kept hk8)
        clear r0 r1 r2 r3 r4 r5 rf rz hk8 a0 a1 a2 a3 a4 a5 az b0 b1 b2 b3 b4 b5 bz
        obtain ⟨r0, r1, r2, r3, r4, r5⟩ := (H8.out.mem (List.mem_cons_of_mem _ (List.mem_cons_of_mem _ (List.mem_cons_of_mem _ List.mem_cons_self)))).cells6
        have rf := (H8.out.mem (List.mem_cons_of_mem _ (List.mem_cons_of_mem _ (List.mem_cons_of_mem _ List.mem_cons_self)))).free
        have rz := (H8.out.mem (List.mem_cons_of_mem _ (List.mem_cons_of_mem _ (List.mem_cons_of_mem _ List.mem_cons_self)))).lt
        go_wp2_with fail
        refine bodyPost_ret (v := .tuple #[.agg #[.int .i64 7, .int .i64 (uf_.tdiv 1000), .int .i64 vf, .string ⟨#[]⟩, .slice none 0 0, .slice none 0 0], .int .i64 0]) ?_ rfl ⟨by rw [HV1.out]; first | done | rfl, fun _ => ?_, ?_⟩
        · simp [results, Tryz.results156, go_sem, r0, r1, r2, r3, r4, r5]
        · rw [HV1.out]
          repeat (with_reducible first | exact R9.out | refine Rst.drew ?_ | refine Rst.alloc ?_ _ | refine Rst.other ?_ (Ne.symm rne) _)
        · repeat (with_reducible first | exact H8.out.g | refine gb_drew ?_ | refine gb_alloc ?_ _ | refine gb_fresh ?_ (Nat.le_refl _) _)
      · have HV1 := Lib.hid (show X = (ze, nul, 0) by rw [HX3.out, if_neg hz])
        have hne : (ze != 0) = true := by simpa using hz
        have HE := Lib.hid hz
        clear HX3 hz
        go_wp2_with fail
        refine bodyPost_ret (v := .tuple #[.agg nul6, .int .i64 ze]) ?_ rfl ⟨by rw [HV1.out]; first | done | rfl, fun h => absurd h (by rw [HV1.out]; exact HE.out), ?_⟩
        · simp [results, Tryz.results156, go_sem, r0, r1, r2, r3, r4, r5]
        · repeat (with_reducible first | exact H7.out.g | refine gb_drew ?_ | refine gb_alloc ?_ _ | refine gb_fresh ?_ (Nat.le_refl _) _)
    · have HV1 := Lib.hid (show X = (ve, nul, 0) by rw [HX2.out, if_neg hv])
      have hne : (ve != 0) = true := by simpa using hv
      have HE := Lib.hid hv
      clear HX2 hv
      go_wp2_with fail
      refine bodyPost_ret (v := .tuple #[.agg nul6, .int .i64 ve]) ?_ rfl ⟨by rw [HV1.out]; first | done | rfl, fun h => absurd h (by rw [HV1.out]; exact HE.out), ?_⟩
      · simp [results, Tryz.results156, go_sem, r0, r1, r2, r3, r4, r5]
      · repeat (with_reducible first | exact H4.out.g | refine gb_drew ?_ | refine gb_alloc ?_ _ | refine gb_fresh ?_ (Nat.le_refl _) _)
  · have HV1 := Lib.hid (show X = (ue, nul, 0) by rw [HX.out, if_neg hu])
    have hne : (ue != 0) = true := by simpa using hu
    have HE := Lib.hid hu
    clear HX hu
    go_wp2_with fail
    refine bodyPost_ret (v := .tuple #[.agg nul6, .int .i64 ue]) ?_ rfl ⟨by rw [HV1.out]; first | done | rfl, fun h => absurd h (by rw [HV1.out]; exact HE.out), ?_⟩
    · simp [results, Tryz.results156, go_sem, r0, r1, r2, r3, r4, r5]
    · repeat (with_reducible first | exact H2.out.g | refine gb_drew ?_ | refine gb_alloc ?_ _ | refine gb_fresh ?_ (Nat.le_refl _) _)

end Go.Proofs.YtoablpaehhjchaaGreatDoor

namespace Go.Proofs.YtoablpaehhjchaaGreatDoor
open Go.RowKit Cx
set_option linter.unusedSimpArgs false
set_option linter.unusedVariables false

theorem isLength_any (o : Ob) (h : Hd) (w : World) :
    Calls Tryz.prog 212 #[objV o h] w fun e w' => e = .returned (.bool (isLen o)) ∧ Kept w w' := by
  have HV := Lib.hid (show isLen o = (o.k == 2 && decide (0 ≤ o.f) && decide (o.f.tmod 1000 = 0)) from rfl)
  have K1 := Lib.hid ((Kept.refl w).alloc #[.int .i64 o.k, .int .i64 o.n, .int .i64 o.f, .string o.s, .slice h.p o.l.length h.c, .slice h.q o.d.length h.e] 39)
  unfold objV
  obtain ⟨k, hk⟩ : ∃ k, k = o.k := ⟨_, rfl⟩
  obtain ⟨f, hf⟩ : ∃ f, f = o.f := ⟨_, rfl⟩
  rw [← hk, ← hf] at HV K1 ⊢
  clear hk hf
  cases h1 : (k == 2)
  · go_enter Tryz.func212, Tryz.ntmps212
    go_wp2_with fail
    go_ret
    exact ⟨ret_bool (by rw [HV.out, h1]; rfl), K1.out⟩
  · by_cases h2 : 0 ≤ f
    · have h3 : decide (0 ≤ f) = true := decide_eq_true h2
      go_enter Tryz.func212, Tryz.ntmps212
      go_wp2_with fail
      go_ret
      exact ⟨ret_bool (by rw [HV.out, h1, h3, Int.tmod_eq_emod_of_nonneg h2, Bool.eq_iff_iff]; simp), K1.out⟩
    · have h3 : decide (0 ≤ f) = false := decide_eq_false h2
      go_enter Tryz.func212, Tryz.ntmps212
      go_wp2_with fail
      go_ret
      exact ⟨ret_bool (by rw [HV.out, h1, h3]; simp), K1.out⟩

theorem Lies.strm {R : Cells} {o : Ob} {h : Hd} {S : ByteArray} (hl : Lies R o h) (hS : S.size ≤ maxLen) : Lies R (.mk 8 0 0 S [] o.d) ⟨none, 0, h.q, h.e⟩ := by
  cases hl with
  | mk k n f s l d h H E hk hl hlc hd hds hdc =>
    exact .mk 8 0 0 S [] d ⟨none, 0, h.q, h.e⟩ H E ⟨Nat.zero_le _, hk.2.1, hS⟩ (fun _ hi => absurd hi (Nat.not_lt_zero _)) (fun _ hi => absurd hi (Nat.not_lt_zero _)) hd hds hdc

set_option maxRecDepth 100000 in
set_option maxHeartbeats 8000000 in
theorem streamOf_any (P : Nat → Prop) (o : Ob) (h : Hd) (s : ByteArray) (k : Nat) (dep : Int) (rb : Nat) (w : World) (hl : Lies (Cel P w) o h) (hP : ∀ b, P b → b ≠ rb) (hF : -9223372036854775808 ≤ (Cx.get o lengthK).f ∧ (Cx.get o lengthK).f ≤ 9223372036854775807) (hm : HasMax w) (hr : Rst s k dep rb w) (hs : s.size ≤ 4294967295) (hk : k ≤ s.size)
    (X : Int × Ob × Int) (hX : X = streamV s.data.toList o k) :
    Calls Tryz.prog 189 #[.pointer (some ⟨rb, 0, none⟩), objV o h] w fun e w' => ∃ h', e = .returned (.tuple #[objV X.2.1 h', .int .i64 X.1]) ∧ (X.1 = 0 → Rst s X.2.2 dep rb w') ∧ w.grownBy w' (some rb) ∧ Lies (Cel P w') X.2.1 h' := by
  have HM := Lib.hid hm
  have HR := Lib.hid hr
  have LO := Lib.hid (show Lies (Cel (fun b => (P b ∧ b ≠ rb) ∧ b < w.heap.size) w) o h from hl.keep fun b hb hlt => ⟨⟨⟨hb, hP b hb⟩, hlt⟩, rfl⟩)
  obtain ⟨hp, hc, hq, he⟩ := h
  have H1 := Lib.hid (InR.fresh' (k := w.heap.size + 1) (InR.fresh (InR.start w hr.lt) #[.int .i64 o.k, .int .i64 o.n, .int .i64 o.f, .string o.s, .slice hp o.l.length hc, .slice hq o.d.length he] 39) nul6 39 (by simp))
  have R1 := Lib.hid ((hr.alloc (.cells #[.int .i64 o.k, .int .i64 o.n, .int .i64 o.f, .string o.s, .slice hp o.l.length hc, .slice hq o.d.length he] 39)).alloc (.cells nul6 39))
  obtain ⟨z, hz⟩ : ∃ z, z = Cx.get o lengthK := ⟨_, rfl⟩
  have CG := Lib.hid (fun W (k : Kept w W) => cosGet_any _ o ⟨hp, hc, hq, he⟩ lengthK W (LO.out.kept k))
  rw [← hz] at CG hF
  have HF := Lib.hid hF
  obtain ⟨n, hn⟩ : ∃ n, n = lineN (s.data.toList.drop k) := ⟨_, rfl⟩
  have hlen : s.data.toList.length = s.size := by simp
  have HNB := Lib.hid (show k + n ≤ s.size by have := (lineN_le (s.data.toList.drop k)).1; rw [List.length_drop, hlen] at this; omega)
  have HX := Lib.hid (show X = if n = 0 ∨ isLen z = false then (3, nul, 0) else if (s.size : Int) - ((k + n : Nat) : Int) < z.f.tdiv 1000 then (4, nul, 0)
    else if (wordsV s.data.toList [endstreamWd, endobjWd] (((k + n : Nat) : Int) + z.f.tdiv 1000)).1 = 0 then
      (0, .mk 8 0 0 (str ((s.data.toList.drop (k + n)).take (z.f.tdiv 1000).toNat)) [] o.d, (wordsV s.data.toList [endstreamWd, endobjWd] (((k + n : Nat) : Int) + z.f.tdiv 1000)).2)
    else ((wordsV s.data.toList [endstreamWd, endobjWd] (((k + n : Nat) : Int) + z.f.tdiv 1000)).1, nul, 0) by rw [hX, streamV, hlen, ← hz, ← hn])
  have HN := Lib.hid hn
  have KA := Lib.hid (show Kept w ((w.alloc (.cells #[.int .i64 o.k, .int .i64 o.n, .int .i64 o.f, .string o.s, .slice hp o.l.length hc, .slice hq o.d.length he] 39)).alloc (.cells nul6 39)) from ((Kept.refl w).alloc _ _).alloc _ _)
  unfold objV lengthK at CG
  unfold objV
  simp only [] at CG ⊢
  clear hl hP hm hr hX hz hn hF hlen
  go_enter Tryz.func189, Tryz.ntmps189
  go_wp2_with fail
  (with_reducible refine (CG.out _ KA.out).mono ?_)
  rintro e w2 ⟨⟨zp, zc, zq, ze⟩, rfl, hk2, hl2⟩
  simp only []
  have H3 := Lib.hid (InR.fresh (H1.out.kept hk2) #[.int .i64 z.k, .int .i64 z.n, .int .i64 z.f, .string z.s, .slice zp z.l.length zc, .slice zq z.d.length ze] 39)
  have R3 := Lib.hid ((R1.out.kept hk2).alloc (.cells #[.int .i64 z.k, .int .i64 z.n, .int .i64 z.f, .string z.s, .slice zp z.l.length zc, .slice zq z.d.length ze] 39))
  have L3 := Lib.hid ((LO.out.kept (KA.out.trans hk2)).alloc (.cells #[.int .i64 z.k, .int .i64 z.n, .int .i64 z.f, .string z.s, .slice zp z.l.length zc, .slice zq z.d.length ze] 39))
  clear hk2 hl2 H1 R1 CG KA
  have CL := Lib.hid (lineEnd_any s k dep rb _ hs hk R3.out n HN.out)
  go_wp2_with fail
  (with_reducible refine CL.out.mono ?_)
  rintro e w4 ⟨rfl, hr4, hg4⟩
  have H4 := Lib.hid (H3.out.gb hg4)
  have R4 := Lib.hid hr4
  have L4 := Lib.hid (L3.out.gb hg4 (fun b hb e => hb.1.2 (by injection e)))
  clear hr4 hg4 CL H3 R3 L3
  obtain ⟨r0, r1, r2, r3, r4, r5⟩ := (H4.out.mem (List.mem_cons_of_mem _ List.mem_cons_self)).cells6
  have rf := (H4.out.mem (List.mem_cons_of_mem _ List.mem_cons_self)).free
  have rz := (H4.out.mem (List.mem_cons_of_mem _ List.mem_cons_self)).lt
  have zm := (H4.out.mem List.mem_cons_self).cells6
  obtain ⟨z0, z1, z2, z3, z4, z5⟩ := zm
  have zz := (H4.out.mem List.mem_cons_self).lt
  by_cases hn0 : n = 0
  · have HV1 := Lib.hid (show X = (3, nul, 0) by rw [HX.out, if_pos (.inl hn0)])
    have hd : decide (0 < n) = false := by rw [hn0]; rfl
    rw [hd]
    clear HX hn0 hd
    go_wp2_with fail
    refine bodyPost_ret (v := .tuple #[.agg nul6, .int .i64 3]) ?_ rfl ⟨Hd.none, by rw [HV1.out]; first | done | rfl, fun h => absurd h (by rw [HV1.out]; decide), ?_, by rw [HV1.out]; exact Lies.flat _ _ _ _ _ _ (Nat.zero_le _)⟩
    · simp [results, Tryz.results189, go_sem, r0, r1, r2, r3, r4, r5]
    · repeat (with_reducible first | exact H4.out.g | refine gb_drew ?_ | refine gb_drewN ?_ _ | refine gb_alloc ?_ _ | refine gb_own ?_ _ _ | refine gb_fresh ?_ (Nat.le_succ _) _)

  have hd : decide (0 < n) = true := decide_eq_true (Nat.pos_of_ne_zero hn0)
  have CI := Lib.hid (fun W => isLength_any z ⟨zp, zc, zq, ze⟩ W)
  unfold objV at CI
  simp only [] at CI
  rw [hd]
  clear hd
  cases hil : isLen z with
  | false =>
    have HV1 := Lib.hid (show X = (3, nul, 0) by rw [HX.out, if_pos (.inr hil)])
    rw [hil] at CI
    clear HX hil hn0
    go_wp2_with fail
    (with_reducible refine (CI.out _).mono ?_)
    rintro e w5 ⟨rfl, hk5⟩
    have H5 := Lib.hid (H4.out.kept hk5)
    clear r0 r1 r2 r3 r4 r5 rf rz hk5
    obtain ⟨r0, r1, r2, r3, r4, r5⟩ := (H5.out.mem (List.mem_cons_of_mem _ List.mem_cons_self)).cells6
    have rf := (H5.out.mem (List.mem_cons_of_mem _ List.mem_cons_self)).free
    have rz := (H5.out.mem (List.mem_cons_of_mem _ List.mem_cons_self)).lt
    go_wp2_with fail
    refine bodyPost_ret (v := .tuple #[.agg nul6, .int .i64 3]) ?_ rfl ⟨Hd.none, by rw [HV1.out]; first | done | rfl, fun h => absurd h (by rw [HV1.out]; decide), ?_, by rw [HV1.out]; exact Lies.flat _ _ _ _ _ _ (Nat.zero_le _)⟩
    · simp [results, Tryz.results189, go_sem, r0, r1, r2, r3, r4, r5]
    · repeat (with_reducible first | exact H5.out.g | refine gb_drew ?_ | refine gb_drewN ?_ _ | refine gb_alloc ?_ _ | refine gb_own ?_ _ _ | refine gb_fresh ?_ (Nat.le_succ _) _)

  | true =>
    have HX2 := Lib.hid (show X = if (s.size : Int) - ((k + n : Nat) : Int) < z.f.tdiv 1000 then (4, nul, 0)
      else if (wordsV s.data.toList [endstreamWd, endobjWd] (((k + n : Nat) : Int) + z.f.tdiv 1000)).1 = 0 then
        (0, .mk 8 0 0 (str ((s.data.toList.drop (k + n)).take (z.f.tdiv 1000).toNat)) [] o.d, (wordsV s.data.toList [endstreamWd, endobjWd] (((k + n : Nat) : Int) + z.f.tdiv 1000)).2)
      else ((wordsV s.data.toList [endstreamWd, endobjWd] (((k + n : Nat) : Int) + z.f.tdiv 1000)).1, nul, 0) by rw [HX.out, if_neg (by rw [hil]; simp [hn0])])
    have hf0 : 0 ≤ z.f := by unfold isLen at hil; simp at hil; exact hil.1.2
    have CU := Lib.hid (fun W => units_any z.f W HF.out.1 HF.out.2)
    obtain ⟨M, hM⟩ : ∃ M : Nat, z.f.tdiv 1000 = (M : Int) := ⟨(z.f.tdiv 1000).toNat, by have : 0 ≤ z.f.tdiv 1000 := Int.tdiv_nonneg hf0 (by decide); omega⟩
    have hMb : (M : Int) ≤ 9223372036854775 := by have h9 := HF.out.2; rw [Int.tdiv_eq_ediv_of_nonneg hf0] at hM; omega
    rw [hM] at HX2 CU
    rw [hil] at CI
    have HNB2 := HNB.out
    obtain ⟨K, hK⟩ : ∃ K, K = k + n := ⟨_, rfl⟩
    rw [← hK] at HX2 HNB2 R4
    clear HX hil hn0 hM hf0 HF hK
    go_wp2_with fail
    (with_reducible refine (CI.out _).mono ?_)
    rintro e w5 ⟨rfl, hk5⟩
    have H5 := Lib.hid (H4.out.kept hk5)
    have R5 := Lib.hid (R4.out.kept hk5)
    have L5 := Lib.hid (L4.out.kept hk5)
    clear r0 r1 r2 r3 r4 r5 rf rz z0 z1 z2 z3 z4 z5 zz hk5 H4 R4 L4
    obtain ⟨r0, r1, r2, r3, r4, r5⟩ := (H5.out.mem (List.mem_cons_of_mem _ List.mem_cons_self)).cells6
    have rf := (H5.out.mem (List.mem_cons_of_mem _ List.mem_cons_self)).free
    have rz := (H5.out.mem (List.mem_cons_of_mem _ List.mem_cons_self)).lt
    obtain ⟨z0, z1, z2, z3, z4, z5⟩ := (H5.out.mem List.mem_cons_self).cells6
    have zz := (H5.out.mem List.mem_cons_self).lt
    go_wp2_with fail
    (with_reducible refine (CU.out _).mono ?_)
    rintro e w6 ⟨rfl, rfl⟩
    obtain ⟨c0, c1, c2⟩ := R5.out.cells
    have cf := Blk.free R5.out
    have cz := R5.out.lt
    have k0 : (0 : Int) ≤ (K : Int) := by omega
    have k1 : (K : Int) ≤ (s.size : Int) := by omega
    have i1 : IntKind.i64.wrap ((s.size : Int) - (K : Int)) = (s.size : Int) - (K : Int) := IntWalk.i64_in _ (by omega)
    by_cases hsh : (s.size : Int) - (K : Int) < (M : Int)
    · have HV1 := Lib.hid (show X = (4, nul, 0) by rw [HX2.out, if_pos hsh])
      clear HX2
      go_wp2_with fail
      go_region_held3 (fun w' => w'.cell? ⟨rb, 0, none⟩ = some (.string s) ∧ w'.cell? ⟨rb, 1, none⟩ = some (.int .i64 K)) (go_keep) (fail)
      all_goals
        go_wp2_with fail
        refine bodyPost_ret (v := .tuple #[.agg nul6, .int .i64 4]) ?_ rfl ⟨Hd.none, by rw [HV1.out]; first | done | rfl, fun h => absurd h (by rw [HV1.out]; decide), ?_, by rw [HV1.out]; exact Lies.flat _ _ _ _ _ _ (Nat.zero_le _)⟩
        · simp [results, Tryz.results189, go_sem, r0, r1, r2, r3, r4, r5]
        · repeat (with_reducible first | exact H5.out.g | refine gb_drew ?_ | refine gb_drewN ?_ _ | refine gb_alloc ?_ _ | refine gb_own ?_ _ _ | refine gb_fresh ?_ (Nat.le_succ _) _)

    · have hle : K + M ≤ s.size := by omega
      obtain ⟨Z, hZ⟩ : ∃ Z, Z = wordsV s.data.toList [endstreamWd, endobjWd] ((K : Int) + (M : Int)) := ⟨_, rfl⟩
      have HX3 := Lib.hid (show X = if Z.1 = 0 then (0, .mk 8 0 0 (str ((s.data.toList.drop K).take M)) [] o.d, Z.2) else (Z.1, nul, 0) by rw [HX2.out, if_neg hsh, ← hZ, Int.toNat_natCast])
      have HZ := Lib.hid hZ
      have i2 : IntKind.i64.wrap ((K : Int) + (M : Int)) = (K : Int) + (M : Int) := IntWalk.i64_in _ (by omega)
      have i3 : (K : Int) ≤ (K : Int) + (M : Int) := by omega
      have i4 : (K : Int) + (M : Int) ≤ (s.size : Int) := by omega
      clear HX2 hZ
      go_wp2_with fail
      go_region_held3 (fun w' => w'.cell? ⟨rb, 0, none⟩ = some (.string s) ∧ w'.cell? ⟨rb, 1, none⟩ = some (.int .i64 K)) (go_keep) (fail)
      all_goals
        go_wp2_with fail
        go_region_held3 (fun w' => w'.cell? ⟨rb, 0, none⟩ = some (.string s) ∧ w'.cell? ⟨rb, 1, none⟩ = some (.int .i64 K)) (go_keep) (fail)
        all_goals
          have HD := Lib.hid (show (⟨((s.data.toList.drop K).take M).toArray⟩ : ByteArray) = s.extract K (K + M) from (extract_run s K M).symm)
          have hds : (s.extract K (K + M)).size ≤ maxLen := by rw [← HD.out]; unfold maxLen; show (((s.data.toList.drop K).take M).toArray).size ≤ _; simp only [List.size_toArray, List.length_take]; omega
          have e5 : ((K : Int) + (M : Int)).toNat = K + M := by omega
          obtain ⟨D, hD⟩ : ∃ D, D = s.extract K (K + M) := ⟨_, rfl⟩
          rw [← hD] at HD hds
          have e6 : s.extract K (K + M) = D := hD.symm
          have HDS := Lib.hid hds
          have E5 := Lib.hid e5
          clear hD hds
          go_wp2_with fail
          have H6 := Lib.hid (((InR.fresh' (k := w5.heap.size) (H5.out.own 1 (.int .i64 ((K : Int) + (M : Int)))) #[.string ⟨#[101, 110, 100, 115, 116, 114, 101, 97, 109]⟩, .string ⟨#[101, 110, 100, 111, 98, 106]⟩] 9 (by simp)).drew).drew)
          have R6 := Lib.hid ((((R5.out.move ((K : Int) + (M : Int))).alloc (.cells #[.string ⟨#[101, 110, 100, 115, 116, 114, 101, 97, 109]⟩, .string ⟨#[101, 110, 100, 111, 98, 106]⟩] 9)).drew).drew)
          have L6 := Lib.hid ((((L5.out.set (k := rb) (of := 1) (fun b hb => hb.1.2) (.int .i64 ((K : Int) + (M : Int)))).alloc (.cells #[.string ⟨#[101, 110, 100, 115, 116, 114, 101, 97, 109]⟩, .string ⟨#[101, 110, 100, 111, 98, 106]⟩] 9)).drew).drew)
          have CW := Lib.hid (words_any [endstreamWd, endobjWd] (some ⟨w5.heap.size, 0, none⟩) 2 s ((K : Int) + (M : Int)) dep rb _ hs (HR.out.max HM.out H6.out.g) R6.out (str_two' endstreamWd endobjWd 9 (by simp)) (fun k o e => by cases e; simpa using (H6.out.2.1 _ List.mem_cons_self).2) (by decide) Z HZ.out)
          obtain ⟨ze', zt⟩ := Z
          simp only [List.length_cons, List.length_nil, Nat.zero_add, Nat.reduceAdd] at CW
          simp only [] at CW HX3
          (with_reducible refine CW.out.mono ?_)
          rintro e w7 ⟨rfl, hr7, hg7⟩
          have H7 := Lib.hid (H6.out.gb hg7)
          have R7 := Lib.hid hr7
          have L7 := Lib.hid (L6.out.gb hg7 (fun b hb e => hb.1.2 (by injection e)))
          clear r0 r1 r2 r3 r4 r5 rf rz z0 z1 z2 z3 z4 z5 zz hr7 hg7 CW c0 c1 c2 cf cz
          obtain ⟨r0, r1, r2, r3, r4, r5⟩ := (H7.out.mem (List.mem_cons_of_mem _ (List.mem_cons_of_mem _ List.mem_cons_self))).cells6
          have rf := (H7.out.mem (List.mem_cons_of_mem _ (List.mem_cons_of_mem _ List.mem_cons_self))).free
          have rz := (H7.out.mem (List.mem_cons_of_mem _ (List.mem_cons_of_mem _ List.mem_cons_self))).lt
          obtain ⟨o0, o1, o2, o3, o4, o5⟩ := (H7.out.mem (List.mem_cons_of_mem _ (List.mem_cons_of_mem _ (List.mem_cons_of_mem _ List.mem_cons_self)))).cells6
          have oz := (H7.out.mem (List.mem_cons_of_mem _ (List.mem_cons_of_mem _ (List.mem_cons_of_mem _ List.mem_cons_self)))).lt
          by_cases hz : ze' = 0
          · subst hz
            have HV1 := Lib.hid (show X = (0, .mk 8 0 0 D [] o.d, zt) by rw [HX3.out, if_pos rfl]; unfold str; rw [HD.out])
            have R8 := Lib.hid (R7.out (by trivial))
            have rne : w.heap.size + 1 ≠ rb := ((H7.out.2.1 _ (List.mem_cons_of_mem _ (List.mem_cons_of_mem _ List.mem_cons_self))).2)
            have NK := Lib.hid (show ∀ b, ((P b ∧ b ≠ rb) ∧ b < w.heap.size) → b ≠ w.heap.size + 1 from fun b hb => by omega)
            have LS := Lib.hid (L7.out.strm HDS.out)
            clear HX3
            go_wp2_with fail
            refine bodyPost_ret (v := .tuple #[.agg #[.int .i64 8, .int .i64 0, .int .i64 0, .string D, .slice none 0 0, .slice hq o.d.length he], .int .i64 0]) ?_ rfl ⟨⟨none, 0, hq, he⟩, by rw [HV1.out]; first | done | rfl, fun _ => ?_, ?_, ?_⟩
            · simp [results, Tryz.results189, go_sem, r0, r1, r2, r3, r4, r5]
            · rw [HV1.out]
              repeat (with_reducible first | exact R8.out | refine Rst.drew ?_ | refine Rst.alloc ?_ _ | refine Rst.other ?_ (Ne.symm rne) _)
            · repeat (with_reducible first | exact H7.out.g | refine gb_drew ?_ | refine gb_alloc ?_ _ | refine gb_fresh ?_ (Nat.le_succ _) _)
            · rw [HV1.out]
              refine Lies.weak (P := fun b => (P b ∧ b ≠ rb) ∧ b < w.heap.size) ?_ (fun b hb => hb.1.1)
              repeat (with_reducible first | exact LS.out | refine Lies.drew ?_ | refine Lies.set ?_ NK.out _ | refine Lies.alloc ?_ _)
          · have HV1 := Lib.hid (show X = (ze', nul, 0) by rw [HX3.out, if_neg hz])
            have hne : (ze' != 0) = true := by simpa using hz
            have HE := Lib.hid hz
            clear HX3 hz
            go_wp2_with fail
            refine bodyPost_ret (v := .tuple #[.agg nul6, .int .i64 ze']) ?_ rfl ⟨Hd.none, by rw [HV1.out]; first | done | rfl, fun h => absurd h (by rw [HV1.out]; exact HE.out), ?_, by rw [HV1.out]; exact Lies.flat _ _ _ _ _ _ (Nat.zero_le _)⟩
            · simp [results, Tryz.results189, go_sem, r0, r1, r2, r3, r4, r5]
            · repeat (with_reducible first | exact H7.out.g | refine gb_drew ?_ | refine gb_drewN ?_ _ | refine gb_alloc ?_ _ | refine gb_own ?_ _ _ | refine gb_fresh ?_ (Nat.le_succ _) _)

end Go.Proofs.YtoablpaehhjchaaGreatDoor

namespace Go.Proofs.YtoablpaehhjchaaGreatDoor
open Go.RowKit Cx
set_option linter.unusedSimpArgs false
set_option linter.unusedVariables false

theorem ent_body1 : Ent 187 := Go.Proofs.enters_of Tryz.func187 (by kernel_rfl) rfl

set_option maxRecDepth 100000 in
theorem body1_asks (rb ob : Nat) (o : Ob) (h : Hd) (w : World) (hb : Blk w ob #[.int .i64 o.k, .int .i64 o.n, .int .i64 o.f, .string o.s, .slice h.p o.l.length h.c, .slice h.q o.d.length h.e] 39) (hne : ob ≠ rb) : AsksT rb 187 #[.pointer (some ⟨ob, 0, none⟩)] (endsP o) w := by
  intro t wx hg
  have B1 := Lib.hid (hb.gb hg (by simpa using hne))
  have C1 := Lib.hid (fun W => isWord_any t endobjWd W)
  have C2 := Lib.hid (fun W => isWord_any t streamWd W)
  have HV := Lib.hid (show endsP o t = (isW t endobjWd || (isW t streamWd && o.k == 6)) from rfl)
  obtain ⟨v1, h1⟩ : ∃ v1, v1 = isW t endobjWd := ⟨_, rfl⟩
  obtain ⟨v2, h2⟩ : ∃ v2, v2 = isW t streamWd := ⟨_, rfl⟩
  rw [← h1] at C1 HV
  rw [← h2] at C2 HV
  clear hb hg h1 h2
  obtain ⟨k, f, s, wh, fr, tq⟩ := t
  unfold tkV endobjWd at C1
  unfold tkV streamWd at C2
  unfold tkV
  simp only [] at C1 C2 ⊢
  have K1 := Lib.hid ((Kept.refl wx).alloc #[.int .i64 k, .int .i64 f, .string ⟨s.toArray⟩, .bool wh, .int .i64 fr, .int .i64 tq] 123)
  have TB := Lib.hid (Blk.fresh wx #[.int .i64 k, .int .i64 f, .string ⟨s.toArray⟩, .bool wh, .int .i64 fr, .int .i64 tq] 123)
  show Calls Tryz.prog 187 #[.agg #[.int .i64 k, .int .i64 f, .string ⟨s.toArray⟩, .bool wh, .int .i64 fr, .int .i64 tq], .pointer (some ⟨ob, 0, none⟩)] wx _
  cases v1 with
  | true =>
    go_enter Tryz.func187, Tryz.ntmps187
    go_wp2_with fail
    (with_reducible refine (C1.out _).mono ?_)
    rintro e w2 ⟨rfl, hk2⟩
    go_wp2_with fail
    go_ret
    exact ⟨ret_bool (by rw [HV.out]; rfl), K1.out.trans hk2⟩
  | false =>
    cases v2 with
    | false =>
      go_enter Tryz.func187, Tryz.ntmps187
      go_wp2_with fail
      (with_reducible refine (C1.out _).mono ?_)
      rintro e w2 ⟨rfl, hk2⟩
      have KW := Lib.hid (K1.out.trans hk2)
      obtain ⟨t0, t1, t2, t3, t4, t5⟩ := (TB.out.kept hk2).cells6
      have tz := (TB.out.kept hk2).lt
      clear hk2
      go_wp2_with fail
      (with_reducible refine (C2.out _).mono ?_)
      rintro e w3 ⟨rfl, hk3⟩
      go_wp2_with fail
      go_ret
      exact ⟨ret_bool (by rw [HV.out]; rfl), KW.out.trans hk3⟩
    | true =>
      go_enter Tryz.func187, Tryz.ntmps187
      go_wp2_with fail
      (with_reducible refine (C1.out _).mono ?_)
      rintro e w2 ⟨rfl, hk2⟩
      have KW := Lib.hid (K1.out.trans hk2)
      obtain ⟨t0, t1, t2, t3, t4, t5⟩ := (TB.out.kept hk2).cells6
      have tz := (TB.out.kept hk2).lt
      clear hk2
      go_wp2_with fail
      (with_reducible refine (C2.out _).mono ?_)
      rintro e w3 ⟨rfl, hk3⟩
      have KX := Lib.hid (KW.out.trans hk3)
      have B3 := Lib.hid (B1.out.kept KX.out)
      obtain ⟨b0, b1, b2, b3, b4, b5⟩ := B3.out.cells6
      have bz := B3.out.lt
      clear hk3
      go_wp2_with fail
      go_ret
      exact ⟨ret_bool (by rw [HV.out]; rfl), KX.out⟩

set_option maxRecDepth 100000 in
set_option maxHeartbeats 8000000 in
theorem body_any (HSET : SetC) (s : ByteArray) (a : Int) (rb : Nat) (w : World) (hs : s.size ≤ 4294967295) (hm : HasMax w) (hr : Rst s a ((0 : Nat) : Int) rb w) (X : Int × Ob × Int) (hX : X = bodyV s.data.toList a) :
    Calls Tryz.prog 157 #[.pointer (some ⟨rb, 0, none⟩)] w fun e w' => ∃ h', e = .returned (.tuple #[objV X.2.1 h', .int .i64 X.1]) ∧ (X.1 = 0 → Rst s X.2.2 ((0 : Nat) : Int) rb w') ∧ w.grownBy w' (some rb) ∧ Lies (Cel (fun b => w.heap.size ≤ b) w') X.2.1 h' := by
  have HM := Lib.hid hm
  have HR := Lib.hid hr
  have hrb := hr.lt
  have hl : s.data.toList.length = s.size := by simp
  have H1 := Lib.hid (InR.fresh (InR.start w hr.lt) nul6 39)
  have R1 := Lib.hid (hr.alloc (.cells nul6 39))
  obtain ⟨Y, hY⟩ : ∃ Y, Y = parse s.data.toList a := ⟨_, rfl⟩
  have CO := Lib.hid (object_any (3 * s.data.toList.length + 2) (objC_any HSET _) s a 0 rb _ hs (hr.max hm H1.out.g) R1.out (fun _ => by rw [hl]; omega) (by omega) Y (by rw [hY, parse_eq]))
  have HF := Lib.hid (show -9223372036854775808 ≤ (Cx.get Y.2.1 lengthK).f ∧ (Cx.get Y.2.1 lengthK).f ≤ 9223372036854775807 by have := (fb_parse s.data.toList a).2 lengthK; rw [← hY] at this; unfold FB at this; omega)
  obtain ⟨Z, hZ⟩ : ∃ Z, Z = wantV (endsP Y.2.1) s.data.toList Y.2.2 := ⟨_, rfl⟩
  have HX := Lib.hid (show X = if Y.1 = 0 then (if Z.1 = 0 then (if isW Z.2 streamWd then streamV s.data.toList Y.2.1 Z.2.to else (0, Y.2.1, (Z.2.to : Int))) else (Z.1, nul, 0)) else (Y.1, nul, 0) by rw [hX, bodyV, ← hY, ← hZ])
  have HZ := Lib.hid hZ
  clear hm hr hX hY hZ HSET
  obtain ⟨ye, o, yk⟩ := Y
  simp only [] at HX HF HZ
  go_enter Tryz.func157, Tryz.ntmps157
  go_wp2_with fail
  (with_reducible refine CO.out.mono ?_)
  rintro e w2 ⟨⟨hp, hc, hq, he⟩, rfl, hr2, hg2, hl2⟩
  unfold objV
  simp only []
  have HSZ := Lib.hid (show w.heap.size ≤ (w.alloc (.cells nul6 39)).heap.size from by simp)
  have HSL := Lib.hid (show w.heap.size < (w.alloc (.cells nul6 39)).heap.size from by simp)
  have H2 := Lib.hid (InR.fresh (H1.out.gb hg2) #[.int .i64 o.k, .int .i64 o.n, .int .i64 o.f, .string o.s, .slice hp o.l.length hc, .slice hq o.d.length he] 39)
  have R2 := Lib.hid hr2
  have L2 := Lib.hid (hl2.alloc (.cells #[.int .i64 o.k, .int .i64 o.n, .int .i64 o.f, .string o.s, .slice hp o.l.length hc, .slice hq o.d.length he] 39))
  obtain ⟨r0, r1, r2, r3, r4, r5⟩ := (H2.out.mem (List.mem_cons_of_mem _ List.mem_cons_self)).cells6
  have rf := (H2.out.mem (List.mem_cons_of_mem _ List.mem_cons_self)).free
  have rz := (H2.out.mem (List.mem_cons_of_mem _ List.mem_cons_self)).lt
  have rne : w.heap.size ≠ rb := ((H2.out.2.1 _ (List.mem_cons_of_mem _ List.mem_cons_self)).2)
  have one : w2.heap.size ≠ rb := ((H2.out.2.1 _ List.mem_cons_self).2)
  clear hr2 hg2 hl2 CO H1 R1
  by_cases hy : ye = 0
  · subst hy
    have HX2 := Lib.hid (show X = if Z.1 = 0 then (if isW Z.2 streamWd then streamV s.data.toList o Z.2.to else (0, o, (Z.2.to : Int))) else (Z.1, nul, 0) by rw [HX.out, if_pos rfl])
    have R3 := Lib.hid ((R2.out (by trivial)).alloc (.cells #[.int .i64 o.k, .int .i64 o.n, .int .i64 o.f, .string o.s, .slice hp o.l.length hc, .slice hq o.d.length he] 39))
    have CW := Lib.hid (wanted_any (endsP o) _ _ ent_body1 s yk ((0 : Nat) : Int) rb _ hs (HR.out.max HM.out H2.out.g) R3.out (body1_asks rb w2.heap.size o ⟨hp, hc, hq, he⟩ _ (H2.out.mem List.mem_cons_self) one) Z HZ.out)
    clear HX R2
    have HZB := Lib.hid (show Z.1 = 0 → Z.2.to ≤ s.size from fun h => by rw [HZ.out] at h ⊢; have := (want_len h).2.2; rwa [hl] at this)
    obtain ⟨ze, zk, zf, zs, zw, zfr, zt⟩ := Z
    unfold WantPost tkV at CW
    simp only [] at CW HX2 HZB
    have hmf : ∀ (fn : Fn) (first cap : Array Value) (w : World), (Instr.makeFunc fn first cap).run Tryz.prog w = .ok (.func fn first cap) w := fun _ _ _ _ => rfl
    go_wp2_with fail
    (with_reducible refine CW.out.mono ?_)
    rintro e w4 ⟨rfl, hr4, hg4⟩
    have H4 := Lib.hid (InR.fresh (H2.out.gb hg4) #[.int .i64 zk, .int .i64 zf, .string ⟨zs.toArray⟩, .bool zw, .int .i64 zfr, .int .i64 zt] 123)
    have R4 := Lib.hid hr4
    have L4 := Lib.hid ((L2.out.gb hg4 (fun b hb e => by injection e; have := HSZ.out; omega)).alloc (.cells #[.int .i64 zk, .int .i64 zf, .string ⟨zs.toArray⟩, .bool zw, .int .i64 zfr, .int .i64 zt] 123))
    clear r0 r1 r2 r3 r4 r5 rf rz hr4 hg4 CW R3 L2
    obtain ⟨r0, r1, r2, r3, r4, r5⟩ := (H4.out.mem (List.mem_cons_of_mem _ (List.mem_cons_of_mem _ List.mem_cons_self))).cells6
    have rf := (H4.out.mem (List.mem_cons_of_mem _ (List.mem_cons_of_mem _ List.mem_cons_self))).free
    have rz := (H4.out.mem (List.mem_cons_of_mem _ (List.mem_cons_of_mem _ List.mem_cons_self))).lt
    obtain ⟨o0, o1, o2, o3, o4, o5⟩ := (H4.out.mem (List.mem_cons_of_mem _ List.mem_cons_self)).cells6
    have oz := (H4.out.mem (List.mem_cons_of_mem _ List.mem_cons_self)).lt
    by_cases hz : ze = 0
    · subst hz
      have R5 := Lib.hid ((R4.out (by trivial)).alloc (.cells #[.int .i64 zk, .int .i64 zf, .string ⟨zs.toArray⟩, .bool zw, .int .i64 zfr, .int .i64 zt] 123))
      have CI := Lib.hid (fun W => isWord_any ⟨zk, zf, zs, zw, zfr, zt⟩ streamWd W)
      unfold tkV streamWd at CI
      simp only [] at CI
      have hzb := HZB.out rfl
      go_wp2_with fail
      (with_reducible refine (CI.out _).mono ?_)
      rintro e w5 ⟨rfl, hk5⟩
      have H5 := Lib.hid (H4.out.kept hk5)
      have R6 := Lib.hid (R5.out.kept hk5)
      have L5 := Lib.hid (L4.out.kept hk5)
      clear r0 r1 r2 r3 r4 r5 rf rz o0 o1 o2 o3 o4 o5 oz hk5 H4 L4 R5 R4
      obtain ⟨r0, r1, r2, r3, r4, r5⟩ := (H5.out.mem (List.mem_cons_of_mem _ (List.mem_cons_of_mem _ List.mem_cons_self))).cells6
      have rf := (H5.out.mem (List.mem_cons_of_mem _ (List.mem_cons_of_mem _ List.mem_cons_self))).free
      have rz := (H5.out.mem (List.mem_cons_of_mem _ (List.mem_cons_of_mem _ List.mem_cons_self))).lt
      obtain ⟨o0, o1, o2, o3, o4, o5⟩ := (H5.out.mem (List.mem_cons_of_mem _ List.mem_cons_self)).cells6
      have oz := (H5.out.mem (List.mem_cons_of_mem _ List.mem_cons_self)).lt
      have NK := Lib.hid (show ∀ b, (w.alloc (.cells nul6 39)).heap.size ≤ b → b ≠ w.heap.size from fun b hb => by have := HSL.out; omega)
      have NW := Lib.hid (show ∀ b, (w.alloc (.cells nul6 39)).heap.size ≤ b → w.heap.size ≤ b from fun b hb => by have := HSZ.out; omega)
      have NR := Lib.hid (show ∀ b, (w.alloc (.cells nul6 39)).heap.size ≤ b → b ≠ rb from fun b hb => by have := HSZ.out; omega)
      have HX3 := Lib.hid (show X = if isW ⟨zk, zf, zs, zw, zfr, zt⟩ streamWd then streamV s.data.toList o zt else (0, o, (zt : Int)) by first | rw [HX2.out, if_pos rfl] | rw [HX2.out, if_pos trivial])
      obtain ⟨bw, hbw⟩ : ∃ bw, bw = isW ⟨zk, zf, zs, zw, zfr, zt⟩ streamWd := ⟨_, rfl⟩
      rw [← hbw] at HX3
      have e9 : isW ⟨zk, zf, zs, zw, zfr, zt⟩ [115, 116, 114, 101, 97, 109] = bw := hbw.symm
      rw [e9]
      clear HX2 hbw e9
      cases bw with
      | false =>
        have HV1 := Lib.hid (show X = (0, o, (zt : Int)) by rw [HX3.out]; rfl)
        clear HX3
        go_wp2_with fail
        refine bodyPost_ret (v := .tuple #[.agg #[.int .i64 o.k, .int .i64 o.n, .int .i64 o.f, .string o.s, .slice hp o.l.length hc, .slice hq o.d.length he], .int .i64 0]) ?_ rfl ⟨⟨hp, hc, hq, he⟩, by rw [HV1.out]; first | done | rfl, fun _ => ?_, ?_, ?_⟩
        · simp [results, Tryz.results157, go_sem, r0, r1, r2, r3, r4, r5]
        · rw [HV1.out]
          repeat (with_reducible first | exact R6.out | refine Rst.drew ?_ | refine Rst.alloc ?_ _ | refine Rst.other ?_ (Ne.symm rne) _)
        · repeat (with_reducible first | exact H5.out.g | refine gb_drew ?_ | refine gb_alloc ?_ _ | refine gb_fresh ?_ (Nat.le_refl _) _)
        · rw [HV1.out]
          refine Lies.weak (P := fun b => (w.alloc (.cells nul6 39)).heap.size ≤ b) ?_ NW.out
          repeat (with_reducible first | exact L5.out | refine Lies.drew ?_ | refine Lies.set ?_ NK.out _ | refine Lies.alloc ?_ _)
      | true =>
        have HV1 := Lib.hid (show X = streamV s.data.toList o zt by rw [HX3.out]; rfl)
        have CS := Lib.hid (streamOf_any _ o ⟨hp, hc, hq, he⟩ s zt ((0 : Nat) : Int) rb w5 L5.out NR.out HF.out (HR.out.max HM.out H5.out.g) R6.out hs hzb X HV1.out)
        unfold objV at CS
        simp only [] at CS
        obtain ⟨xe, xo, xk⟩ := X
        simp only [] at CS
        clear HX3 HV1
        go_wp2_with fail
        (with_reducible refine CS.out.mono ?_)
        rintro e w7 ⟨⟨xp, xc, xq, xh⟩, rfl, hr7, hg7, hl7⟩
        have H7 := Lib.hid (H5.out.gb hg7)
        have R7 := Lib.hid hr7
        have L7 := Lib.hid hl7
        clear r0 r1 r2 r3 r4 r5 rf rz o0 o1 o2 o3 o4 o5 oz hr7 hg7 hl7
        obtain ⟨r0, r1, r2, r3, r4, r5⟩ := (H7.out.mem (List.mem_cons_of_mem _ (List.mem_cons_of_mem _ List.mem_cons_self))).cells6
        have rf := (H7.out.mem (List.mem_cons_of_mem _ (List.mem_cons_of_mem _ List.mem_cons_self))).free
        have rz := (H7.out.mem (List.mem_cons_of_mem _ (List.mem_cons_of_mem _ List.mem_cons_self))).lt
        simp only []
        go_wp2_with fail
        refine bodyPost_ret (v := .tuple #[.agg #[.int .i64 xo.k, .int .i64 xo.n, .int .i64 xo.f, .string xo.s, .slice xp xo.l.length xc, .slice xq xo.d.length xh], .int .i64 xe]) ?_ rfl ⟨⟨xp, xc, xq, xh⟩, rfl, fun h => ?_, ?_, ?_⟩
        · simp [results, Tryz.results157, go_sem, r0, r1, r2, r3, r4, r5]
        · have R8 := Lib.hid (R7.out h)
          repeat (with_reducible first | refine Rst.drew ?_ | refine Rst.alloc ?_ _ | refine Rst.other ?_ (Ne.symm rne) _)
          exact R8.out
        · repeat (with_reducible first | exact H7.out.g | refine gb_drew ?_ | refine gb_alloc ?_ _ | refine gb_fresh ?_ (Nat.le_refl _) _)
        · refine Lies.weak (P := fun b => (w.alloc (.cells nul6 39)).heap.size ≤ b) ?_ NW.out
          repeat (with_reducible first | exact L7.out | refine Lies.drew ?_ | refine Lies.set ?_ NK.out _ | refine Lies.alloc ?_ _)
    · have HV1 := Lib.hid (show X = (ze, nul, 0) by rw [HX2.out, if_neg hz])
      have hne : (ze != 0) = true := by simpa using hz
      have HE := Lib.hid hz
      clear HX2 hz
      go_wp2_with fail
      refine bodyPost_ret (v := .tuple #[.agg nul6, .int .i64 ze]) ?_ rfl ⟨Hd.none, by rw [HV1.out]; first | done | rfl, fun h => absurd h (by rw [HV1.out]; exact HE.out), ?_, by rw [HV1.out]; exact Lies.flat _ _ _ _ _ _ (Nat.zero_le _)⟩
      · simp [results, Tryz.results157, go_sem, r0, r1, r2, r3, r4, r5]
      · repeat (with_reducible first | exact H4.out.g | refine gb_drew ?_ | refine gb_alloc ?_ _ | refine gb_fresh ?_ (Nat.le_refl _) _)

  · have HV1 := Lib.hid (show X = (ye, nul, 0) by rw [HX.out, if_neg hy])
    have hne : (ye != 0) = true := by simpa using hy
    have HE := Lib.hid hy
    clear HX hy
    go_wp2_with fail
    refine bodyPost_ret (v := .tuple #[.agg nul6, .int .i64 ye]) ?_ rfl ⟨Hd.none, by rw [HV1.out]; first | done | rfl, fun h => absurd h (by rw [HV1.out]; exact HE.out), ?_, by rw [HV1.out]; exact Lies.flat _ _ _ _ _ _ (Nat.zero_le _)⟩
    · simp [results, Tryz.results157, go_sem, r0, r1, r2, r3, r4, r5]
    · repeat (with_reducible first | exact H2.out.g | refine gb_drew ?_ | refine gb_alloc ?_ _ | refine gb_fresh ?_ (Nat.le_refl _) _)

end Go.Proofs.YtoablpaehhjchaaGreatDoor

namespace Go.Proofs.YtoablpaehhjchaaGreatDoor
open Go.RowKit Cx
set_option linter.unusedSimpArgs false
set_option linter.unusedVariables false

theorem head_f (l : List UInt8) (a : Int) : -2147483648 ≤ (headV l a).2.1.f ∧ (headV l a).2.1.f ≤ 2147483648 := by
  unfold headV pairO
  repeat' split
  all_goals first | exact want_f _ _ _ | exact fb_nul

set_option maxRecDepth 100000 in
set_option maxHeartbeats 8000000 in
theorem cosIndirect_any (s : ByteArray) (a : Int) (w : World) (hs : s.size ≤ 4294967295) (hm : HasMax w) (X : Int × Int × Int × Ob × Int) (hX : X = indV s.data.toList a) :
    Calls Tryz.prog 124 #[.string s, .int .i64 a] w fun e w' => ∃ h', e = .returned (.tuple #[.int .i64 X.2.1, .int .i64 X.2.2.1, objV X.2.2.2.1 h', .int .i64 X.2.2.2.2, .int .i64 X.1]) ∧ Kept w w' ∧ Lies (Cel (fun b => w.heap.size ≤ b) w') X.2.2.2.1 h' := by
  have HM := Lib.hid hm
  have K2 := Lib.hid (((Kept.refl w).alloc nul6 39).alloc #[.string s, .int .i64 a, .int .i64 0] 219)
  have R2 := Lib.hid (show Rst s a ((0 : Nat) : Int) (w.heap.size + 1) ((w.alloc (.cells nul6 39)).alloc (.cells #[.string s, .int .i64 a, .int .i64 0] 219)) from Blk.fresh' _ _ (by simp))
  have B2 := Lib.hid ((Blk.fresh w nul6 39).alloc (.cells #[.string s, .int .i64 a, .int .i64 0] 219))
  obtain ⟨U, hU⟩ : ∃ U, U = headV s.data.toList a := ⟨_, rfl⟩
  have CH := Lib.hid (head_any s a ((0 : Nat) : Int) (w.heap.size + 1) _ hs (hm.kept K2.out) R2.out U hU)
  have HUF := Lib.hid (show -9223372036854775808 ≤ U.2.1.f ∧ U.2.1.f ≤ 9223372036854775807 by have := head_f s.data.toList a; rw [← hU] at this; omega)
  obtain ⟨V, hV⟩ : ∃ V, V = bodyV s.data.toList U.2.2 := ⟨_, rfl⟩
  have HX := Lib.hid (show X = if U.1 = 0 then (if V.1 = 0 then (0, U.2.1.n, U.2.1.f.tdiv 1000, V.2.1, V.2.2) else (V.1, 0, 0, nul, 0)) else (U.1, 0, 0, nul, 0) by rw [hX, indV, ← hU, ← hV])
  have HV := Lib.hid hV
  have HS1 := Lib.hid (show w.heap.size + 1 < ((w.alloc (.cells nul6 39)).alloc (.cells #[.string s, .int .i64 a, .int .i64 0] 219)).heap.size from by simp)
  clear hm hX hU hV
  obtain ⟨ue, u, up⟩ := U
  simp only [] at CH HUF HV HX
  have HSZ := Lib.hid (show w.heap.size ≤ ((w.alloc (.cells nul6 39)).alloc (.cells #[.string s, .int .i64 a, .int .i64 0] 219)).heap.size from by simp; omega)
  have H2 := Lib.hid (show InR ((w.alloc (.cells nul6 39)).alloc (.cells #[.string s, .int .i64 a, .int .i64 0] 219)) (w.heap.size + 1) [(w.heap.size, nul6, 39)] ((w.alloc (.cells nul6 39)).alloc (.cells #[.string s, .int .i64 a, .int .i64 0] 219)) from ⟨gb_refl _ _, fun x hx => by rw [List.mem_singleton.1 hx]; exact ⟨B2.out, by simp⟩, HS1.out⟩)
  have CU := Lib.hid (fun W => units_any u.f W HUF.out.1 HUF.out.2)
  unfold objV Hd.none at CH
  simp only [] at CH
  go_enter Tryz.func124, Tryz.ntmps124
  go_wp2_with fail
  (with_reducible refine CH.out.mono ?_)
  rintro e w3 ⟨rfl, hr3, hg3⟩
  have H3 := Lib.hid (InR.fresh (H2.out.gb hg3) #[.int .i64 u.k, .int .i64 u.n, .int .i64 u.f, .string u.s, .slice none u.l.length 0, .slice none u.d.length 0] 39)
  have R3 := Lib.hid hr3
  have hb3 : w.heap.size + 1 < w3.heap.size := (H2.out.gb hg3).lt
  obtain ⟨r0, r1, r2, r3, r4, r5⟩ := (H3.out.mem (List.mem_cons_of_mem _ List.mem_cons_self)).cells6
  have rf := (H3.out.mem (List.mem_cons_of_mem _ List.mem_cons_self)).free
  have rz := (H3.out.mem (List.mem_cons_of_mem _ List.mem_cons_self)).lt
  clear hr3 hg3 CH H2
  by_cases hu : ue = 0
  · subst hu
    have HX2 := Lib.hid (show X = if V.1 = 0 then (0, u.n, u.f.tdiv 1000, V.2.1, V.2.2) else (V.1, 0, 0, nul, 0) by first | rw [HX.out, if_pos rfl] | rw [HX.out, if_pos trivial])
    have R4 := Lib.hid ((R3.out (by trivial)).alloc (.cells #[.int .i64 u.k, .int .i64 u.n, .int .i64 u.f, .string u.s, .slice none u.l.length 0, .slice none u.d.length 0] 39))
    have CB := Lib.hid (body_any settled_any s up (w.heap.size + 1) _ hs (R2.out.max (HM.out.kept K2.out) H3.out.g) R4.out V HV.out)
    clear HX R3
    obtain ⟨ve, o, vp⟩ := V
    unfold objV at CB
    simp only [] at CB HX2
    go_wp2_with fail
    (with_reducible refine CB.out.mono ?_)
    rintro e w5 ⟨⟨op, oc, oq, oe⟩, rfl, hr5, hg5, hl5⟩
    simp only []
    have H5 := Lib.hid (InR.fresh (H3.out.gb hg5) #[.int .i64 o.k, .int .i64 o.n, .int .i64 o.f, .string o.s, .slice op o.l.length oc, .slice oq o.d.length oe] 39)
    have R5 := Lib.hid hr5
    have L5 := Lib.hid (hl5.alloc (.cells #[.int .i64 o.k, .int .i64 o.n, .int .i64 o.f, .string o.s, .slice op o.l.length oc, .slice oq o.d.length oe] 39))
    have S5 := Lib.hid (show w.heap.size + 1 < (w3.alloc (.cells #[.int .i64 u.k, .int .i64 u.n, .int .i64 u.f, .string u.s, .slice none u.l.length 0, .slice none u.d.length 0] 39)).heap.size from H3.out.lt)
    have hb5 : w.heap.size + 1 < w5.heap.size := (H3.out.gb hg5).lt
    clear r0 r1 r2 r3 r4 r5 rf rz hr5 hg5 hl5 CB R4
    obtain ⟨r0, r1, r2, r3, r4, r5⟩ := (H5.out.mem (List.mem_cons_of_mem _ (List.mem_cons_of_mem _ List.mem_cons_self))).cells6
    have rf := (H5.out.mem (List.mem_cons_of_mem _ (List.mem_cons_of_mem _ List.mem_cons_self))).free
    have rz := (H5.out.mem (List.mem_cons_of_mem _ (List.mem_cons_of_mem _ List.mem_cons_self))).lt
    by_cases hv : ve = 0
    · subst hv
      have HV1 := Lib.hid (show X = (0, u.n, u.f.tdiv 1000, o, vp) by first | rw [HX2.out, if_pos rfl] | rw [HX2.out, if_pos trivial])
      have R6 := Lib.hid ((R5.out (by trivial)).alloc (.cells #[.int .i64 o.k, .int .i64 o.n, .int .i64 o.f, .string o.s, .slice op o.l.length oc, .slice oq o.d.length oe] 39))
      obtain ⟨u0, u1, u2, u3, u4, u5⟩ := (H5.out.mem (List.mem_cons_of_mem _ List.mem_cons_self)).cells6
      have uz := (H5.out.mem (List.mem_cons_of_mem _ List.mem_cons_self)).lt
      obtain ⟨o0, o1, o2, o3, o4, o5⟩ := (H5.out.mem List.mem_cons_self).cells6
      have oz := (H5.out.mem List.mem_cons_self).lt
      obtain ⟨c0, c1, c2⟩ := R6.out.cells
      have cz := R6.out.lt
      clear HX2
      have n1 : w.heap.size ≠ w3.heap.size := by omega
      have n2 : w.heap.size ≠ w5.heap.size := by omega
      have n3 : w.heap.size ≠ w.heap.size + 1 := by omega
      have KF := Lib.hid (show Kept w _ from Below.grown K2.out H5.out.g HSZ.out (fun k e => by cases e; omega))
      have NK := Lib.hid (show ∀ b, (w3.alloc (.cells #[.int .i64 u.k, .int .i64 u.n, .int .i64 u.f, .string u.s, .slice none u.l.length 0, .slice none u.d.length 0] 39)).heap.size ≤ b → b ≠ w.heap.size from fun b hb => by have := S5.out; omega)
      have NW := Lib.hid (show ∀ b, (w3.alloc (.cells #[.int .i64 u.k, .int .i64 u.n, .int .i64 u.f, .string u.s, .slice none u.l.length 0, .slice none u.d.length 0] 39)).heap.size ≤ b → w.heap.size ≤ b from fun b hb => by have := S5.out; omega)
      go_wp2_with fail
      go_region_held3 (fun w' => w'.cell? ⟨w3.heap.size, 1, none⟩ = some (.int .i64 u.n) ∧ w'.cell? ⟨w3.heap.size, 2, none⟩ = some (.int .i64 u.f) ∧ w'.cell? ⟨w.heap.size + 1, 1, none⟩ = some (.int .i64 vp) ∧ w'.cell? ⟨w5.heap.size, 0, none⟩ = some (.int .i64 o.k) ∧ w'.cell? ⟨w5.heap.size, 1, none⟩ = some (.int .i64 o.n) ∧ w'.cell? ⟨w5.heap.size, 2, none⟩ = some (.int .i64 o.f) ∧ w'.cell? ⟨w5.heap.size, 3, none⟩ = some (.string o.s) ∧ w'.cell? ⟨w5.heap.size, 4, none⟩ = some (.slice op o.l.length oc) ∧ w'.cell? ⟨w5.heap.size, 5, none⟩ = some (.slice oq o.d.length oe)) (go_keep) (first | (go_at_call 158; refine (CU.out _).mono ?_; rintro e w6 ⟨rfl, rfl⟩))
      all_goals
        go_wp2_with fail
        refine bodyPost_ret (v := .tuple #[.int .i64 u.n, .int .i64 (u.f.tdiv 1000), .agg #[.int .i64 o.k, .int .i64 o.n, .int .i64 o.f, .string o.s, .slice op o.l.length oc, .slice oq o.d.length oe], .int .i64 vp, .int .i64 0]) ?_ rfl ⟨⟨op, oc, oq, oe⟩, by rw [HV1.out]; first | done | rfl, ?_, ?_⟩
        · simp [results, Tryz.results124, go_sem, r0, r1, r2, r3, r4, r5]
        · repeat (with_reducible first | exact KF.out | refine Kept.drew ?_ | refine Kept.drewN ?_ _ | refine Kept.alloc ?_ _ _ | refine Kept.set ?_ (Nat.le_refl _) _)
        · rw [HV1.out]
          refine Lies.weak (P := fun b => (w3.alloc (.cells #[.int .i64 u.k, .int .i64 u.n, .int .i64 u.f, .string u.s, .slice none u.l.length 0, .slice none u.d.length 0] 39)).heap.size ≤ b) ?_ NW.out
          repeat (with_reducible first | exact L5.out | refine Lies.drew ?_ | refine Lies.set ?_ NK.out _ | refine Lies.alloc ?_ _)
    · have HV1 := Lib.hid (show X = (ve, 0, 0, nul, 0) by rw [HX2.out, if_neg hv])
      have hne : (ve != 0) = true := by simpa using hv
      clear HX2 hv
      go_wp2_with fail
      have KF := Lib.hid (show Kept w _ from Below.grown K2.out H5.out.g HSZ.out (fun k e => by cases e; omega))
      refine bodyPost_ret (v := .tuple #[.int .i64 0, .int .i64 0, .agg nul6, .int .i64 0, .int .i64 ve]) ?_ rfl ⟨Hd.none, by rw [HV1.out]; first | done | rfl, ?_, by rw [HV1.out]; exact Lies.flat _ _ _ _ _ _ (Nat.zero_le _)⟩
      · simp [results, Tryz.results124, go_sem, r0, r1, r2, r3, r4, r5]
      · repeat (with_reducible first | exact KF.out | refine Kept.drew ?_ | refine Kept.drewN ?_ _ | refine Kept.alloc ?_ _ _ | refine Kept.set ?_ (by omega) _)

  · have HV1 := Lib.hid (show X = (ue, 0, 0, nul, 0) by rw [HX.out, if_neg hu])
    have hne : (ue != 0) = true := by simpa using hu
    clear HX hu
    go_wp2_with fail
    have KF := Lib.hid (show Kept w _ from Below.grown K2.out H3.out.g HSZ.out (fun k e => by cases e; omega))
    refine bodyPost_ret (v := .tuple #[.int .i64 0, .int .i64 0, .agg nul6, .int .i64 0, .int .i64 ue]) ?_ rfl ⟨Hd.none, by rw [HV1.out]; first | done | rfl, ?_, by rw [HV1.out]; exact Lies.flat _ _ _ _ _ _ (Nat.zero_le _)⟩
    · simp [results, Tryz.results124, go_sem, r0, r1, r2, r3, r4, r5]
    · repeat (with_reducible first | exact KF.out | refine Kept.drew ?_ | refine Kept.drewN ?_ _ | refine Kept.alloc ?_ _ _ | refine Kept.set ?_ (by omega) _)

end Go.Proofs.YtoablpaehhjchaaGreatDoor
