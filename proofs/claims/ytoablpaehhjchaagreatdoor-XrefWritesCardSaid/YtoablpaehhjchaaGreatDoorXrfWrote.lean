/-
  Entries as a table: Write.
-/
import Derived.Test.YtoablpaehhjchaaGreatDoorXrfMark
import Derived.Lib.SlBytesConst
namespace Go.Proofs.YtoablpaehhjchaaGreatDoor
open Go.RowKit Rx
set_option linter.unusedSimpArgs false
set_option linter.unusedVariables false

theorem appendSection_mk (e0 : Xent) (r0 l : List Xent) (k of c B : Nat) (v : Value) (acc : List UInt8) (w : World) (hl0 : l = e0 :: r0) (hE : EntR w B (some ⟨k, of, none⟩) l) (hv : MkV w v acc.length (Lib.byteCells acc)) (hB : B ≤ w.heap.size) (hT : TB B w)
    (hg : ∀ t ∈ l, 0 ≤ t.n ∧ t.n < 4096 ∧ 0 ≤ t.off ∧ t.off ≤ 9999999999 ∧ 0 ≤ t.gen ∧ t.gen ≤ 99999) (hl : l.length ≤ 1048576) (hacc : acc.length ≤ 1073741824) :
    Calls Tryz.prog 28 #[v, .slice (some ⟨k, of, none⟩) l.length c] w fun e w' => ∃ v', e = .returned v' ∧ OutB w' B v' (acc ++ headT e0.n l.length ++ l.flatMap lineT) ∧ Below B w w' := by
  have h00 := hg e0 (by rw [hl0]; exact List.mem_cons_self)
  exact appendSection_of e0 r0 l k of c B v acc w hl0 hE (AppM B e0.n v acc w hv hB hT h00.1 (by omega) (by omega)) hB hT hg hl hacc

/-- Bytes of the call's own, or the marked ones of a constant text. -/
def OutM (w : World) (B : Nat) (v : Value) (l : List UInt8) : Prop := OutB w B v l ∨ MkV w v l.length (Lib.byteCells l)
theorem OutM.string {w : World} {B : Nat} {v : Value} {l : List UInt8} (h : OutM w B v l) : (convert 69 9 v).run Tryz.prog w = .ok (.string ⟨l.toArray⟩) w := by
  have key : ∀ g cap, (∀ j u, (Lib.byteCells l)[j]? = some u → w.cell? ((⟨g, 0, none⟩ : Addr).add j) = some u) → (convert 69 9 (.slice (some ⟨g, 0, none⟩) l.length cap)).run Tryz.prog w = .ok (.string ⟨l.toArray⟩) w := fun g cap hc => by
    refine run_convert_bytes_back (P := Tryz.prog) w 69 9 5 ⟨g, 0, none⟩ cap l Tryz.underlying69 Tryz.underlying5 Tryz.underlying9 fun j hj => ?_
    exact hc j _ (by simp [Lib.byteCells, hj])
  rcases h with h | ⟨_, g, rfl, _, hc⟩
  · rcases h.2 with ⟨rfl, h0⟩ | ⟨g, cap, cur, hv, _⟩
    · obtain rfl := List.length_eq_zero_iff.1 h0
      exact run_convert_bytes_nil (P := Tryz.prog) w 69 5 Tryz.underlying69 Tryz.underlying5 0 0 _ Tryz.underlying9
    · have hc := World.ownsRow.cells (g := g) h (by rw [hv]; rfl)
      subst hv
      exact key g cap hc
  · exact key g _ hc
theorem appendSection_m (e0 : Xent) (r0 l : List Xent) (k of c B : Nat) (v : Value) (acc : List UInt8) (w : World) (hl0 : l = e0 :: r0) (hE : EntR w B (some ⟨k, of, none⟩) l) (hv : OutM w B v acc) (hB : B ≤ w.heap.size) (hT : TB B w)
    (hg : ∀ t ∈ l, 0 ≤ t.n ∧ t.n < 4096 ∧ 0 ≤ t.off ∧ t.off ≤ 9999999999 ∧ 0 ≤ t.gen ∧ t.gen ≤ 99999) (hl : l.length ≤ 1048576) (hacc : acc.length ≤ 1073741824) :
    Calls Tryz.prog 28 #[v, .slice (some ⟨k, of, none⟩) l.length c] w fun e w' => ∃ v', e = .returned v' ∧ OutB w' B v' (acc ++ headT e0.n l.length ++ l.flatMap lineT) ∧ Below B w w' := by
  rcases hv with hv | hv
  · exact appendSection_any e0 r0 l k of c B v acc w hl0 hE hv hB hT hg hl hacc
  · exact appendSection_mk e0 r0 l k of c B v acc w hl0 hE hv hB hT hg hl hacc
theorem OutM.kept {w w' : World} {B : Nat} {v : Value} {l : List UInt8} (h : OutM w B v l) (k : Kept w w') : OutM w' B v l := h.elim (fun h => .inl (h.kept k)) (fun h => .inr (h.below k))
theorem marked_mk (w : World) (l : List UInt8) (C : Array Value) (hC : C.toList = Lib.byteCells l) (fr : Nat × Nat) : MkV (w.alloc (.cells C 5 fr)) (.slice (some ⟨w.heap.size, 0, none⟩) l.length l.length) l.length (Lib.byteCells l) := by
  refine ⟨Lib.byteCells_length l, w.heap.size, rfl, by simp, fun j u hj => ?_⟩
  rw [Addr.add_lit, Nat.zero_add, World.cell?_alloc_mark, ← Array.getElem?_toList, hC]
  exact hj

/-- A part ahead; the rest. -/
theorem ents_ahead (k of len c n : Nat) (hn : n ≤ c) (hc : 1 ≤ c) (W : World) :
    (Instr.sliceAt 22 (.slice (some ⟨k, of, none⟩) len c) none (some (.int .i64 (n : Int))) none).run Tryz.prog W = .ok (.slice (some ⟨k, of, none⟩) n c) W := by
  have h1 : ¬ c = 0 := by omega
  have h2 : (n : Int) ≤ (c : Int) := by omega
  have h3 : (0 : Int) ≤ (n : Int) := by omega
  go_simp
theorem ents_behind (k of len c n : Nat) (hn : n ≤ len) : ∃ o', (o' = of + n * 4 ∨ n = c) ∧ ∀ W : World,
    (Instr.sliceAt 22 (.slice (some ⟨k, of, none⟩) len c) (some (.int .i64 (n : Int))) none none).run Tryz.prog W = .ok (.slice (some ⟨k, o', none⟩) (len - n) (c - n)) W := by
  have h2 : (n : Int) ≤ (len : Int) := by omega
  have h3 : (0 : Int) ≤ (n : Int) := by omega
  by_cases hc : c = n
  · refine ⟨of, .inr hc.symm, fun W => ?_⟩
    go_simp
  · refine ⟨of + n * 4, .inl rfl, fun W => ?_⟩
    go_simp

theorem line_len (e : Xent) : (lineT e).length = 20 := by
  unfold lineT
  cases e.used <;> simp [digs_len]
theorem body_len : ∀ (l : List Xent) (p : Option Int), (∀ e ∈ l, 0 ≤ e.n ∧ e.n < 4096) → l.length ≤ 4096 → (bodyT p l).length ≤ 33 * l.length
  | [], p, _, _ => by unfold bodyT; simp
  | e :: r, p, h, hl => by
    have ih := body_len r (some e.n) (fun x hx => h x (List.mem_cons_of_mem _ hx)) (by rw [List.length_cons] at hl; omega)
    have h0 := h e List.mem_cons_self
    have h1 : Lib.nDigits e.n.toNat ≤ 4 := (nDigits_le_iff (by decide)).2 (by omega)
    have hr := runL_le (e :: r)
    have h2 : Lib.nDigits (runL (e :: r)) ≤ 4 := (nDigits_le_iff (by decide)).2 (by omega)
    have hh : (headT e.n (runL (e :: r))).length ≤ 10 := by
      unfold headT
      simp only [List.length_append, Lib.decDigits_length, List.length_singleton]
      omega
    rw [bodyT]
    have h3 := line_len e
    split
    · simp only [List.length_append, List.length_nil, List.length_cons]; omega
    · simp only [List.length_append, List.length_cons]; omega
theorem ris_len : ∀ {l : List Xent} {n : Int}, risG n l = true → (∀ e ∈ l, e.n < 4096) → n < 4096 → (l.length : Int) + n < 4096
  | [], n, _, _, h => by simpa using h
  | e :: r, n, h, hm, _ => by
    obtain ⟨h1, _, _, h2⟩ := ris_cons.1 h
    have := ris_len h2 (fun x hx => hm x (List.mem_cons_of_mem _ hx)) (hm e List.mem_cons_self)
    rw [List.length_cons]; omega

set_option maxRecDepth 100000 in
set_option maxHeartbeats 8000000 in
theorem Write_bad (l : List Xent) (p : Option Addr) (c B : Nat) (w : World) (h : EntR w w.heap.size p l) (hf : TB B w) (hB : B ≤ w.heap.size) (hw : ∀ t ∈ l, t.off ≤ 9223372036854775807 ∧ t.gen ≤ 9223372036854775807) (hl : l.length ≤ 1099511627776) (hne : writeE l ≠ 0) :
    Calls Tryz.prog 7 #[.slice p l.length c] w fun e w' => e = .returned (.tuple #[.string ⟨(writeV l).toArray⟩, .int .i64 (writeE l)]) ∧ Kept w w' := by
  have C := Lib.hid (xsane_any l p c B w h hf hB hw hl)
  have HV : writeV l = [] := by unfold writeV; rw [if_neg hne]
  rw [HV]
  obtain ⟨E, hE⟩ : ∃ E, E = writeE l := ⟨_, rfl⟩
  rw [← hE] at C hne ⊢
  have hne2 : ¬ E = 0 := hne
  clear h hf hw hE HV
  go_enter Tryz.func7, Tryz.ntmps7
  go_wp2_with fail
  (with_reducible refine C.out.mono ?_)
  rintro e w1 ⟨rfl, hk1⟩
  go_wp2_with fail
  go_ret2
  exact ⟨rfl, hk1⟩

theorem TB.up {B B' : Nat} {w : World} (h : TB B w) (hB : B ≤ B') : TB B' w := fun W k => h W (k.mono hB)

set_option maxRecDepth 100000 in
set_option maxHeartbeats 16000000 in
theorem Write_good (l : List Xent) (p : Option Addr) (c B : Nat) (w : World) (h : EntR w w.heap.size p l) (hf : TB B w) (hB : B ≤ w.heap.size) (hw : ∀ t ∈ l, t.off ≤ 9223372036854775807 ∧ t.gen ≤ 9223372036854775807) (hc : l.length ≤ c) (hl : l.length ≤ 1099511627776) (hne : writeE l = 0) :
    Calls Tryz.prog 7 #[.slice p l.length c] w fun e w' => e = .returned (.tuple #[.string ⟨(writeV l).toArray⟩, .int .i64 (writeE l)]) ∧ Kept w w' := by
  have C := Lib.hid (xsane_any l p c B w h hf hB hw hl)
  obtain ⟨hris, hall⟩ := writeE_zero hne
  have hlen : l.length ≤ 4096 := by
    have := ris_len hris (fun e he => (hall e he).2.1) (by decide)
    omega
  have hlen2 : (writeT l).length ≤ 200000 := by
    unfold writeT
    rw [List.length_append]
    have := body_len l none (fun e he => ⟨(hall e he).1, (hall e he).2.1⟩) hlen
    have : xrefT.length = 5 := rfl
    omega
  have HV : writeV l = writeT l := by unfold writeV; rw [if_pos hne]
  rw [HV, hne]
  rw [hne] at C
  have HT := Lib.hid (hf.up hB)
  have HE := Lib.hid h
  have HA := Lib.hid hall
  have HL := Lib.hid hlen2
  clear h hf hw hl HV hris hall hne hlen2
  go_enter Tryz.func7, Tryz.ntmps7
  go_wp2_with fail
  (with_reducible refine C.out.mono ?_)
  rintro e w1 ⟨rfl, hk1⟩
  have kc := Lib.run_convert_bytes_const (P := Tryz.prog) w1 69 5 #[.int .u8 120, .int .u8 114, .int .u8 101, .int .u8 102, .int .u8 10] 5 5 Tryz.underlying69 Tryz.underlying5
  have K1 := Lib.hid hk1
  have K2 := Lib.hid (show Kept w (w1.alloc (.cells #[.int .u8 120, .int .u8 114, .int .u8 101, .int .u8 102, .int .u8 10] 5 (5, 6))) from hk1.allocO _)
  have O2 := Lib.hid (show OutM (w1.alloc (.cells #[.int .u8 120, .int .u8 114, .int .u8 101, .int .u8 102, .int .u8 10] 5 (5, 6))) w.heap.size (.slice (some ⟨w1.heap.size, 0, none⟩) 5 5) xrefT from .inr (marked_mk w1 xrefT _ rfl _))
  clear hk1 C
  go_wp2_with fail
  go_loopg [5, 6] (l.length) (fun x ov rv wr => ∃ (m c' : Nat) (q : Option Addr) (vv : Value) (acc : List UInt8), vv = ov ∧ x = l.length - m ∧ m ≤ l.length ∧ rv = .slice q (l.drop m).length c' ∧ (l.drop m).length ≤ c' ∧ EntR wr w.heap.size q (l.drop m) ∧ OutM wr w.heap.size vv acc ∧ Hid (writeT l = acc ++ bodyT none (l.drop m)) ∧ Kept w wr)
  case atStart => exact ⟨0, c, p, _, xrefT, rfl, rfl, Nat.zero_le _, rfl, hc, HE.out.keep (Nat.le_refl _) K2.out, O2.out, Lib.hid rfl, K2.out⟩
  case round =>
    obtain ⟨m, c', q, vv, acc, rfl, hx, hm, rfl, hc', he, ho, HR, hk⟩ := hrel
    have hlm : (l.drop m).length ≤ 4096 := by rw [List.length_drop]; omega
    have hdl : (l.drop m).length = l.length - m := List.length_drop
    have HD := Lib.hid (fun n => show l.drop (m + n) = (l.drop m).drop n by rw [List.drop_drop])
    have HG := Lib.hid (show ∀ t ∈ l.drop m, 0 ≤ t.n ∧ t.n < 4096 ∧ 0 ≤ t.off ∧ t.off ≤ 9999999999 ∧ 0 ≤ t.gen ∧ t.gen ≤ 99999 from fun t ht => HA.out t (List.mem_of_mem_drop ht))
    obtain ⟨M, hM⟩ : ∃ M, M = l.drop m := ⟨_, rfl⟩
    rw [← hM] at hc' he HR hlm HG HD hdl ⊢
    have HM := Lib.hid hM
    have EM := Lib.hid he
    have OM := Lib.hid ho
    have KM := Lib.hid hk
    clear hM he ho hk K1 K2 O2 kc
    by_cases hM0 : M = []
    · have hl0 : M.length = 0 := by rw [hM0]; rfl
      have HS := Lib.hid (show (convert 69 9 vv).run Tryz.prog wr = .ok (.string ⟨(writeT l).toArray⟩) wr by
        have := OM.out.string
        rw [HR.out, hM0, show bodyT none [] = [] by unfold bodyT; rfl, List.append_nil]
        exact this)
      have cv := HS.out
      clear hdl
      go_wp2_with fail
      go_ret2
      exact ⟨rfl, KM.out⟩
    · obtain ⟨e0, r0, hM1⟩ : ∃ e r, M = e :: r := by
        cases M with
        | nil => exact absurd rfl hM0
        | cons e r => exact ⟨e, r, rfl⟩
      have hpos : 0 < M.length := by rw [hM1]; simp
      obtain ⟨k, of, rfl, -⟩ := EM.out 0 hpos
      have CR := Lib.hid (run_any M k of c' wr hM0 (EM.out.mono (by have := Below.size KM.out; exact this)) (fun t ht => by have := HG.out t ht; omega) (by omega))
      have hn1 := runL_pos hM0
      have hn2 := runL_le M
      have HB := Lib.hid (body_run hM1)
      obtain ⟨n, hn⟩ : ∃ n, n = runL M := ⟨_, rfl⟩
      rw [← hn] at CR hn1 hn2 HB
      have htl : (M.take n).length = n := by rw [List.length_take]; omega
      have ht1 : M.take n = e0 :: (r0.take (n - 1)) := by
        rw [hM1]
        obtain ⟨j, rfl⟩ : ∃ j, n = j + 1 := ⟨n - 1, by omega⟩
        rfl
      have hacc : acc.length ≤ 200000 := by
        have := HL.out
        rw [HR.out, List.length_append] at this
        omega
      have CA := Lib.hid (fun W (hk : Kept wr W) => show Calls Tryz.prog 28 #[vv, .slice (some ⟨k, of, none⟩) n c'] W fun e w' => ∃ v', e = .returned v' ∧ OutB w' w.heap.size v' (acc ++ headT e0.n n ++ (M.take n).flatMap lineT) ∧ Below w.heap.size W w' from by
        have z := Below.size KM.out
        have := appendSection_m e0 (r0.take (n - 1)) (M.take n) k of c' w.heap.size vv acc W ht1 ((EM.out.below (below_of hk z)).take n) (OM.out.kept hk) (Nat.le_trans z (Below.size hk)) (HT.out.on (Below.trans (show Below w.heap.size w wr from KM.out) (below_of hk z))) (fun t ht => HG.out t (List.mem_of_mem_take ht)) (by rw [htl]; omega) (by omega)
        rwa [htl] at this)
      have s1 := ents_ahead k of M.length c' n (by omega) (by omega)
      obtain ⟨o', ho', s2⟩ := ents_behind k of M.length c' n hn2
      have EN := Lib.hid (show ∀ W, Below w.heap.size wr W → EntR W w.heap.size (some ⟨k, o', none⟩) (M.drop n) from fun W hb => by
        rcases ho' with rfl | h
        · exact (EM.out.below hb).drop n
        · rw [List.drop_of_length_le (by omega)]
          exact EntR.none _ _ _)
      have HDN := Lib.hid (show (M.drop n).length = M.length - n from List.length_drop)
      have i1 : (0 : Int) < (M.length : Int) := by omega
      have HDL := Lib.hid hdl
      clear hM1 hn htl ht1 hM0 ho' hdl
      go_wp2_with fail
      (with_reducible refine CR.out.mono ?_)
      rintro e w3 ⟨rfl, hk3⟩
      have K3 := Lib.hid hk3
      clear hk3
      go_wp2_with fail
      (with_reducible refine (CA.out w3 K3.out).mono ?_)
      rintro e w4 ⟨v4, rfl, ho4, hb4⟩
      have O4 := Lib.hid ho4
      have B4 := Lib.hid ((below_of K3.out (Below.size KM.out)).trans hb4)
      clear ho4 hb4
      go_wp2_with fail
      go_roundg (l.length - (m + n))
      case measure => have := HDL.out; omega
      case rel =>
        have hdl := HDL.out
        refine ⟨m + n, c' - n, some ⟨k, o', none⟩, v4, _, rfl, rfl, by omega, ?_, ?_, ?_, .inl O4.out, Lib.hid ?_, Below.trans (show Below w.heap.size w wr from KM.out) B4.out⟩
        · rw [HD.out n, HDN.out]
        · rw [HD.out n, HDN.out]; omega
        · rw [HD.out n]; exact EN.out _ B4.out
        · rw [HR.out, HB.out, HD.out n]
          simp only [List.append_assoc]

theorem Write_any (l : List Xent) (p : Option Addr) (c B : Nat) (w : World) (h : EntR w w.heap.size p l) (hf : TB B w) (hB : B ≤ w.heap.size) (hw : ∀ t ∈ l, t.off ≤ 9223372036854775807 ∧ t.gen ≤ 9223372036854775807) (hc : l.length ≤ c) (hl : l.length ≤ 1099511627776) :
    Calls Tryz.prog 7 #[.slice p l.length c] w fun e w' => e = .returned (.tuple #[.string ⟨(writeV l).toArray⟩, .int .i64 (writeE l)]) ∧ Kept w w' := by
  by_cases hne : writeE l = 0
  · exact Write_good l p c B w h hf hB hw hc hl hne
  · exact Write_bad l p c B w h hf hB hw hl hne

end Go.Proofs.YtoablpaehhjchaaGreatDoor
