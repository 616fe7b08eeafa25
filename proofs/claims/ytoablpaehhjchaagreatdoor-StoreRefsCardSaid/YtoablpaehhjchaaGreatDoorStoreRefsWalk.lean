/-
  The law StoreRefs answers true.
-/
import Derived.Test.YtoablpaehhjchaaGreatDoorStoA
import Derived.Test.YtoablpaehhjchaaGreatDoorStoN
import Derived.Test.YtoablpaehhjchaaGreatDoorStoR
import Derived.Test.YtoablpaehhjchaaGreatDoorCosW
import Derived.Test.YtoablpaehhjchaaGreatDoorCosE
import Derived.Test.YtoablpaehhjchaaGreatDoorObjArg
namespace Go.Proofs.YtoablpaehhjchaaGreatDoor
open Go.RowKit Cx Sx
set_option linter.unusedSimpArgs false
set_option linter.unusedVariables false

set_option maxRecDepth 100000 in
set_option maxHeartbeats 32000000 in
theorem StoreRefs_walk (o : Ob) (h : Hd) (n : Int) (w : World) (hf : Fine w) (hl : Lies (Cel (fun _ => True) w) o h) (hfit : Ob.Fits 140737488355328 o) (hwd : Ob.Words o) :
    Calls Tryz.prog 5 #[objV o h, .int .i64 n] w fun e w' => e = .returned (.bool true) ∧ Kept w w' := by
  obtain ⟨k0, hand, hk15⟩ := and15 n
  obtain ⟨K, hK⟩ : ∃ K, K = k0 + 1 := ⟨_, rfl⟩
  have hK1 : 1 ≤ K := by omega
  have hK16 : K ≤ 16 := by omega
  have hk1 : IntKind.i64.wrap (1 + (k0 : Int)) = (K : Int) := by rw [IntWalk.i64_in _ (by omega)]; omega
  have hk2 : IntKind.i64.wrap ((K : Int) + 1) = (K : Int) + 1 := IntWalk.i64_in _ (by omega)
  have hk3 : IntKind.i64.wrap ((K : Int) + 2) = (K : Int) + 2 := IntWalk.i64_in _ (by omega)
  clear hK hk15
  have LO := Lib.hid hl
  have FO := Lib.hid (fun w' (k : Kept w w') => Few_any _ o h 1000 w' (hl.kept k) hfit (by omega) (by omega))
  have B1 := Lib.hid (Blk.fresh w #[.int .i64 o.k, .int .i64 o.n, .int .i64 o.f, .string o.s, .slice h.p o.l.length h.c, .slice h.q o.d.length h.e] 39)
  have K1 := Lib.hid ((Kept.refl w).alloc #[.int .i64 o.k, .int .i64 o.n, .int .i64 o.f, .string o.s, .slice h.p o.l.length h.c, .slice h.q o.d.length h.e] 39)
  have AW := Lib.hid (awake9_any _ (hf.kept K1.out))
  clear hf hl hfit hwd
  obtain ⟨op, oc, oq, oe⟩ := h
  unfold objV at FO ⊢
  simp only [] at FO B1 K1 AW ⊢
  obtain ⟨y, hy⟩ : ∃ y, y = decide (0 ≤ few o 1000 0) := ⟨_, rfl⟩
  rw [← hy] at FO
  clear hy
  obtain ⟨ok, hok⟩ : ∃ ok, ok = o.k := ⟨_, rfl⟩
  rw [← hok] at FO B1 K1 AW ⊢
  have HOK := Lib.hid hok
  clear hok
  obtain ⟨b1, b2, b3, b4, b5, b6⟩ := B1.out.cells6
  go_enter Tryz.func5, Tryz.ntmps5
  go_wp2_with fail
  (with_reducible refine AW.out.mono ?_)
  rintro e w1 ⟨rfl, hk1'⟩
  have KA := Lib.hid (K1.out.trans hk1')
  have BA := Lib.hid (B1.out.kept hk1')
  clear hk1' AW b1 b2 b3 b4 b5 b6
  obtain ⟨r0, r1, r2, r3, r4, r5⟩ := BA.out.cells6
  by_cases h7 : ok = 7
  · subst h7
    cases y
    all_goals
      go_wp2_with fail
      (with_reducible refine (FO.out _ KA.out).mono ?_)
      rintro e w2 ⟨rfl, hk2'⟩
      have K2 := Lib.hid (KA.out.trans hk2')
      have B2 := Lib.hid (BA.out.kept hk2')
      clear hk2' r0 r1 r2 r3 r4 r5
      obtain ⟨r0, r1, r2, r3, r4, r5⟩ := B2.out.cells6
      go_wp2_with fail
      go_ret
      exact ⟨rfl, K2.out⟩
  · obtain rfl := HOK.out
    have h7' : (o.k == 7) = false := by simpa using h7
    cases y
    · go_wp2_with fail
      (with_reducible refine (FO.out _ KA.out).mono ?_)
      rintro e w2 ⟨rfl, hk2'⟩
      have K2 := Lib.hid (KA.out.trans hk2')
      clear hk2'
      go_wp2_with fail
      go_ret
      exact ⟨rfl, K2.out⟩
    · have HR := Lib.hid (chain_res o h7 hK1 hK16)
      have HE := Lib.hid (chain_entry o h7 hK1 hK16)
      clear h7
      go_wp2_with fail
      (with_reducible refine (FO.out _ KA.out).mono ?_)
      rintro e w2 ⟨rfl, hk2'⟩
      have K2 := Lib.hid (KA.out.trans hk2')
      have B2 := Lib.hid (BA.out.kept hk2')
      clear hk2' r0 r1 r2 r3 r4 r5 FO
      obtain ⟨r0, r1, r2, r3, r4, r5⟩ := B2.out.cells6
      obtain ⟨FB, hFB⟩ : ∃ FB, FB = w2.heap.size := ⟨_, rfl⟩
      have I0 := Lib.hid (show In w [(FB, #[.slice none 0 0, .int .i64 0, .int .i64 0, .int .i64 0, .string ⟨#[]⟩, .slice none 0 0, .slice none 0 0], 41), (w.heap.size, #[.int .i64 o.k, .int .i64 o.n, .int .i64 o.f, .string o.s, .slice op o.l.length oc, .slice oq o.d.length oe], 39)] (w2.alloc (.cells #[.slice none 0 0, .int .i64 0, .int .i64 0, .int .i64 0, .string ⟨#[]⟩, .slice none 0 0, .slice none 0 0] 41)) from
        (In.cons (In.alloc ⟨K2.out, fun x hx => by obtain rfl := List.mem_singleton.1 hx; exact B2.out⟩ _) (Blk.fresh' _ _ hFB)))
      have hFw : w.heap.size < FB := by rw [hFB]; have := B2.out.lt; omega
      go_wp2_with fail
      subst hFB
      go_loopg [8] K (fun m i wr => ∃ (I j : Nat) (q : Option Addr) (c : Nat), m = K + 1 - I ∧ I ≤ K ∧ Hid (I = j + 1) ∧ i = .int .i64 I ∧ In w [(w2.heap.size, #[.slice q j c, .int .i64 0, .int .i64 0, .int .i64 0, .string ⟨#[]⟩, .slice none 0 0, .slice none 0 0], 41), (w.heap.size, #[.int .i64 o.k, .int .i64 o.n, .int .i64 o.f, .string o.s, .slice op o.l.length oc, .slice oq o.d.length oe], 39)] wr ∧ Hid (OwnN 57 wr (w2.heap.size + 1) (.slice q j c) (chainR j)))
      case atStart => exact ⟨1, 0, none, 0, by omega, hK1, Lib.hid rfl, by go_num, I0.out, Lib.hid (OwnN.nil _ _ _)⟩
      case round =>
        obtain ⟨I, j, q, c, hm, hI, HIJ, rfl, hin, HO⟩ := hrel
        have HI := Lib.hid hin
        have KI := Lib.hid (In.k hin)
        clear hin r0 r1 r2 r3 r4 r5 I0
        obtain ⟨f0, f1, f2, f3, f4, f5, f6⟩ := (HI.out.mem List.mem_cons_self).cells7
        have ff := (HI.out.mem List.mem_cons_self).free
        have fz := (HI.out.mem List.mem_cons_self).lt
        obtain ⟨r0, r1, r2, r3, r4, r5⟩ := (HI.out.mem (List.mem_cons_of_mem _ List.mem_cons_self)).cells6
        have hsz : w2.heap.size + 1 ≤ wr.heap.size := fz
        have OL := Lib.hid HO.out.lt
        by_cases hlt : I < K
        · have j1 : (I : Int) < (K : Int) := by omega
          have ji : IntKind.i64.wrap ((I : Int) + 1) = (I : Int) + 1 := IntWalk.i64_in _ (by omega)
          have BE := Lib.hid (Blk.fresh wr #[.int .i64 I, .int .i64 0, .int .i64 7, .int .i64 ((I : Int) + 1), .int .i64 0, .string ⟨#[]⟩, .slice none 0 0, .slice none 0 0] 57)
          have KE := Lib.hid ((Kept.refl wr).allocO (.cells #[.int .i64 I, .int .i64 0, .int .i64 7, .int .i64 ((I : Int) + 1), .int .i64 0, .string ⟨#[]⟩, .slice none 0 0, .slice none 0 0] 57))
          have OE := Lib.hid (HO.out.kept KE.out)
          have hB5 : w2.heap.size + 1 ≤ (wr.alloc (.cells #[.int .i64 I, .int .i64 0, .int .i64 7, .int .i64 ((I : Int) + 1), .int .i64 0, .string ⟨#[]⟩, .slice none 0 0, .slice none 0 0] 57)).heap.size := by have := KE.out.size; omega
          have hcs : (#[.int .i64 I, .int .i64 0, .int .i64 7, .int .i64 ((I : Int) + 1), .int .i64 0, .string ⟨#[]⟩, .slice none 0 0, .slice none 0 0] : Array Value).toList = flatN [((⟨((j + 1 : Nat) : Int), 0, toRef ((j + 2 : Nat) : Int)⟩ : Nm), Hd.none)] := by
            rw [HIJ.out]; rfl
          have HCS := Lib.hid hcs
          have hll : (chainR j).length + 1 ≤ 1099511627776 := by rw [chainR_len]; have := HIJ.out; omega
          clear hcs
          go_wp2_with (at_builtin; refine wpList_app_rows 57 34 Tryz.underlying34 (by kernel_rfl) rfl _ _ rfl (w2.heap.size + 1) (.slice q j c) (chainR j) [((⟨((j + 1 : Nat) : Int), 0, toRef ((j + 2 : Nat) : Int)⟩ : Nm), Hd.none)] rfl OE.out wr.heap.size _ HCS.out BE.out 1 rfl (by decide) rfl hB5 hll ?_; intro g5 cap5 w5 ho5 hg5 hlt5; have O5 := Lib.hid ho5; have G5 := Lib.hid hg5; have I5 := Lib.hid (show In w [(w2.heap.size, #[.slice q j c, .int .i64 0, .int .i64 0, .int .i64 0, .string ⟨#[]⟩, .slice none 0 0, .slice none 0 0], 41), (w.heap.size, #[.int .i64 o.k, .int .i64 o.n, .int .i64 o.f, .string o.s, .slice op o.l.length oc, .slice oq o.d.length oe], 39)] w5 from ⟨Below.grown (KI.out.trans KE.out) hg5 (by omega) (fun y hy => by have := (OL.out y hy).1; omega), fun x hx => by
            have hB := HI.out.2 x hx
            have hxl : x.1 < w2.heap.size + 1 := by
              simp only [List.mem_cons, List.not_mem_nil, or_false] at hx
              rcases hx with rfl | rfl <;> simp only [] <;> omega
            exact (Blk.gb (hB.kept KE.out) hg5 (fun e => by have := (OL.out _ e.symm).1; omega))⟩); obtain ⟨p0, p1, p2, p3, p4, p5, p6⟩ := (I5.out.mem List.mem_cons_self).cells7; have pf := (I5.out.mem List.mem_cons_self).free; have pz := (I5.out.mem List.mem_cons_self).lt; clear ho5 hg5)
          try simp only [chainR_len]
          rw [← chainR_succ, chainR_len] at O5
          go_roundg (K + 1 - (I + 1))
          case measure => omega
          case rel =>
            refine ⟨I + 1, j + 1, some ⟨g5, 0, none⟩, cap5, rfl, by omega, Lib.hid (by rw [HIJ.out]), by go_num, ?_, Lib.hid ?_⟩
            · have hb5 := (I5.out.mem List.mem_cons_self).set 0 (.slice (some ⟨g5, 0, none⟩) (j + 1) cap5)
              exact In.cons (In.other (In.tail I5.out) (by omega) (fun x hx => by obtain rfl := List.mem_singleton.1 hx; simp only []; omega) _) (by simpa using hb5)
            · exact OwnN.gb O5.out (r := some w2.heap.size) (gb_own (gb_refl _ _) _ _) (.inr (fun e => by have := (O5.out.lt _ e).1; omega))
        · obtain rfl : I = K := by omega
          have hjK : j = I - 1 := by have := HIJ.out; omega
          subst hjK
          have BE := Lib.hid (Blk.fresh wr #[.int .i64 I, .int .i64 0, .int .i64 o.k, .int .i64 o.n, .int .i64 o.f, .string o.s, .slice op o.l.length oc, .slice oq o.d.length oe, .int .i64 ((I : Int) + 1), .int .i64 0, .int .i64 7, .int .i64 ((I : Int) + 1), .int .i64 0, .string ⟨#[]⟩, .slice none 0 0, .slice none 0 0] 57)
          have KE := Lib.hid ((Kept.refl wr).allocO (.cells #[.int .i64 I, .int .i64 0, .int .i64 o.k, .int .i64 o.n, .int .i64 o.f, .string o.s, .slice op o.l.length oc, .slice oq o.d.length oe, .int .i64 ((I : Int) + 1), .int .i64 0, .int .i64 7, .int .i64 ((I : Int) + 1), .int .i64 0, .string ⟨#[]⟩, .slice none 0 0, .slice none 0 0] 57))
          have OE := Lib.hid (HO.out.kept KE.out)
          have hB5 : w2.heap.size + 1 ≤ (wr.alloc (.cells #[.int .i64 I, .int .i64 0, .int .i64 o.k, .int .i64 o.n, .int .i64 o.f, .string o.s, .slice op o.l.length oc, .slice oq o.d.length oe, .int .i64 ((I : Int) + 1), .int .i64 0, .int .i64 7, .int .i64 ((I : Int) + 1), .int .i64 0, .string ⟨#[]⟩, .slice none 0 0, .slice none 0 0] 57)).heap.size := by have := KE.out.size; omega
          have HCS := Lib.hid (show (#[.int .i64 I, .int .i64 0, .int .i64 o.k, .int .i64 o.n, .int .i64 o.f, .string o.s, .slice op o.l.length oc, .slice oq o.d.length oe, .int .i64 ((I : Int) + 1), .int .i64 0, .int .i64 7, .int .i64 ((I : Int) + 1), .int .i64 0, .string ⟨#[]⟩, .slice none 0 0, .slice none 0 0] : Array Value).toList = flatN [((⟨(I : Int), 0, o⟩ : Nm), (⟨op, oc, oq, oe⟩ : Hd)), ((⟨((I + 1 : Nat) : Int), 0, toRef ((I + 1 : Nat) : Int)⟩ : Nm), Hd.none)] from rfl)
          have hll : (chainR (I - 1)).length + 2 ≤ 1099511627776 := by rw [chainR_len]; omega
          have hII : I - 1 + 2 = I + 1 := by omega
          have hnj : ¬ (I : Int) < (I : Int) := by omega
          go_wp2_with (at_builtin; refine wpList_app_rows 57 34 Tryz.underlying34 (by kernel_rfl) rfl _ _ rfl (w2.heap.size + 1) (.slice q (I - 1) c) (chainR (I - 1)) [((⟨(I : Int), 0, o⟩ : Nm), (⟨op, oc, oq, oe⟩ : Hd)), ((⟨((I + 1 : Nat) : Int), 0, toRef ((I + 1 : Nat) : Int)⟩ : Nm), Hd.none)] rfl OE.out wr.heap.size _ HCS.out BE.out 2 rfl (by decide) rfl hB5 hll ?_; intro g5 cap5 w5 ho5 hg5 hlt5; have O5 := Lib.hid ho5; have I5 := Lib.hid (show In w [(w2.heap.size, #[.slice q (I - 1) c, .int .i64 0, .int .i64 0, .int .i64 0, .string ⟨#[]⟩, .slice none 0 0, .slice none 0 0], 41), (w.heap.size, #[.int .i64 o.k, .int .i64 o.n, .int .i64 o.f, .string o.s, .slice op o.l.length oc, .slice oq o.d.length oe], 39)] w5 from ⟨Below.grown (KI.out.trans KE.out) hg5 (by omega) (fun y hy => by have := (OL.out y hy).1; omega), fun x hx => by
            have hB := HI.out.2 x hx
            have hxl : x.1 < w2.heap.size + 1 := by
              simp only [List.mem_cons, List.not_mem_nil, or_false] at hx
              rcases hx with rfl | rfl <;> simp only [] <;> omega
            exact (Blk.gb (hB.kept KE.out) hg5 (fun e => by have := (OL.out _ e.symm).1; omega))⟩); obtain ⟨p0, p1, p2, p3, p4, p5, p6⟩ := (I5.out.mem List.mem_cons_self).cells7; have pf := (I5.out.mem List.mem_cons_self).free; have pz := (I5.out.mem List.mem_cons_self).lt; clear ho5 hg5)
          have hLI : (chainR (I - 1)).length + 2 = I + 1 := by rw [chainR_len]; omega
          rw [hLI] at O5
          rw [hLI]
          obtain ⟨W6, hW6⟩ : ∃ W6, W6 = w5.setCell ⟨w2.heap.size, 0, none⟩ (.slice (some ⟨g5, 0, none⟩) (I + 1) cap5) := ⟨_, rfl⟩
          have I6 := Lib.hid (show In w [(w2.heap.size, #[.slice (some ⟨g5, 0, none⟩) (I + 1) cap5, .int .i64 0, .int .i64 0, .int .i64 0, .string ⟨#[]⟩, .slice none 0 0, .slice none 0 0], 41), (w.heap.size, #[.int .i64 o.k, .int .i64 o.n, .int .i64 o.f, .string o.s, .slice op o.l.length oc, .slice oq o.d.length oe], 39)] W6 from by
            have hb5 := (I5.out.mem List.mem_cons_self).set 0 (.slice (some ⟨g5, 0, none⟩) (I + 1) cap5)
            rw [hW6]
            exact In.cons (In.other (In.tail I5.out) (by omega) (fun x hx => by obtain rfl := List.mem_singleton.1 hx; simp only []; omega) _) (by simpa using hb5))
          have N6 := Lib.hid (show NmR (fun _ => True) W6 (some ⟨g5, 0, none⟩) (chainN I o) from by
            refine chain_nmR I hK1 hK16 o ⟨op, oc, oq, oe⟩ (T := 57) (N := w2.heap.size + 1) (c := cap5) ?_ (LO.out.kept (In.k I6.out))
            rw [hW6]
            exact OwnN.gb O5.out (r := some w2.heap.size) (gb_own (gb_refl _ _) _ _) (.inr (fun e => by have := (O5.out.lt _ e).1; omega)))
          rw [← hW6]
          have CO := Lib.hid (fun W (k : Kept W6 W) => show Calls Tryz.prog 16 #[.agg #[.slice (some ⟨g5, 0, none⟩) (I + 1) cap5, .int .i64 0, .int .i64 0, .int .i64 0, .string ⟨#[]⟩, .slice none 0 0, .slice none 0 0]] W fun e w' => ∃ p' c', e = .returned (.agg #[.slice p' (I + 1) c', .int .i64 0, .int .i64 0, .int .i64 0, .string ⟨#[]⟩, .slice none 0 0, .slice none 0 0]) ∧ Kept W w' ∧ NmR (fun _ => True) w' p' (chainN I o) from by
            have z := ours_any (chainN I o) (some ⟨g5, 0, none⟩) cap5 nul Hd.none W (N6.out.kept k) (by rw [chain_len hK1 o]; omega)
            unfold fileV at z
            rw [chain_len hK1 o] at z
            exact z)
          have CR := Lib.hid (fun W p' c' (hn : NmR (fun _ => True) W p' (chainN I o)) => show Calls Tryz.prog 22 #[.agg #[.slice p' (I + 1) c', .int .i64 0, .int .i64 0, .int .i64 0, .string ⟨#[]⟩, .slice none 0 0, .slice none 0 0], .agg #[.int .i64 7, .int .i64 1, .int .i64 0, .string ⟨#[]⟩, .slice none 0 0, .slice none 0 0]] W fun e w' => ∃ h', e = .returned (.tuple #[objV o h', .int .i64 0]) ∧ Kept W w' ∧ Lies (Cel (fun _ => True) w') o h' from by
            have z := Resolve_any (fun _ => True) (chainN I o) p' c' nul Hd.none (toRef 1) Hd.none W hn (refO_lies _ _ _) (0, o) HR.out.symm
            unfold fileV at z
            rw [chain_len hK1 o] at z
            exact z)
          have CC := Lib.hid (fun W p' c' (hn : NmR (fun _ => True) W p' (chainN I o)) => show Calls Tryz.prog 22 #[.agg #[.slice p' (I + 1) c', .int .i64 0, .int .i64 0, .int .i64 0, .string ⟨#[]⟩, .slice none 0 0, .slice none 0 0], .agg #[.int .i64 7, .int .i64 ((I : Int) + 1), .int .i64 0, .string ⟨#[]⟩, .slice none 0 0, .slice none 0 0]] W fun e w' => ∃ h' : Hd, e = .returned (.tuple #[.agg #[.int .i64 0, .int .i64 0, .int .i64 0, .string ⟨#[]⟩, .slice h'.p 0 h'.c, .slice h'.q 0 h'.e], .int .i64 7]) ∧ Kept W w' ∧ Lies (Cel (fun _ => True) w') nul h' from by
            have z := Resolve_any (fun _ => True) (chainN I o) p' c' nul Hd.none (toRef ((I + 1 : Nat) : Int)) Hd.none W hn (refO_lies _ _ _) (7, nul) (chain_cyc o).symm
            unfold fileV at z
            rw [chain_len hK1 o] at z
            exact z)
          have CE := Lib.hid (fun W p' c' d (hn : NmR (fun _ => True) W p' (chainN I o)) (hd : Blk W d #[.string ⟨#[65]⟩, .int .i64 7, .int .i64 1, .int .i64 0, .string ⟨#[]⟩, .slice none 0 0, .slice none 0 0] 62) => show Calls Tryz.prog 23 #[.agg #[.slice p' (I + 1) c', .int .i64 0, .int .i64 0, .int .i64 0, .string ⟨#[]⟩, .slice none 0 0, .slice none 0 0], .agg #[.int .i64 6, .int .i64 0, .int .i64 0, .string ⟨#[]⟩, .slice none 0 0, .slice (some ⟨d, 0, none⟩) 1 1], .string ⟨#[65]⟩] W fun e w' => ∃ h', e = .returned (.tuple #[objV o h', .int .i64 0]) ∧ Kept W w' ∧ Lies (Cel (fun _ => True) w') o h' from by
            have z := Entry_any (fun _ => True) (chainN I o) p' c' nul Hd.none dictA ⟨none, 0, some ⟨d, 0, none⟩, 1⟩ keyA W hn (dictA_lies hd) (0, o) HE.out.symm
            unfold fileV at z
            rw [chain_len hK1 o] at z
            exact z)
          have CX := Lib.hid (fun W (k : Kept w W) (pp : Option Addr) (pc : Nat) (pq : Option Addr) (pe : Nat) (hl' : Lies (Cel (fun _ => True) W) o ⟨pp, pc, pq, pe⟩) => show Calls Tryz.prog 18 #[.agg #[.int .i64 o.k, .int .i64 o.n, .int .i64 o.f, .string o.s, .slice pp o.l.length pc, .slice pq o.d.length pe], .agg #[.int .i64 o.k, .int .i64 o.n, .int .i64 o.f, .string o.s, .slice op o.l.length oc, .slice oq o.d.length oe]] W fun e w'' => e = .returned (.bool true) ∧ Kept W w'' from by
            have z := Exact_any _ o o ⟨pp, pc, pq, pe⟩ ⟨op, oc, oq, oe⟩ W hl' (LO.out.kept k)
            rwa [ex_yes rfl] at z)
          have CF := Lib.hid (fun W p' c' (hn : NmR (fun _ => True) W p' (chainN I o)) => show Calls Tryz.prog 24 #[.agg #[.slice p' (I + 1) c', .int .i64 0, .int .i64 0, .int .i64 0, .string ⟨#[]⟩, .slice none 0 0, .slice none 0 0]] W fun e w' => e = .returned (.int .i64 ((I : Int) + 2)) ∧ Kept W w' from by
            have z := Free_any (fun _ => True) (chainN I o) p' c' nul Hd.none W hn (by rw [chain_len hK1 o]; omega)
            unfold fileV at z
            rw [chain_len hK1 o] at z
            exact z.mono fun e w' ⟨n', hn', he', hk'⟩ => ⟨by rw [he', free_one hn' (chain_free o hK1)]; rfl, hk'⟩)
          clear hW6 p0 p1 p2 p3 p4 p5 p6 pf pz O5 I5 HO HI KI BE KE OE HCS OL f0 f1 f2 f3 f4 f5 f6 ff fz r0 r1 r2 r3 r4 r5 HR HE
          (with_reducible refine (CO.out W6 (Kept.refl W6)).mono ?_)
          rintro e w7 ⟨p7, c7, rfl, hk7, hn7⟩
          have K7 := Lib.hid hk7
          have N7 := Lib.hid hn7
          have I7 := Lib.hid (I6.out.kept hk7)
          clear hk7 hn7
          go_wp2_with fail
          (with_reducible refine (CR.out _ _ _ N7.out).mono ?_)
          rintro e w8 ⟨⟨ap, ac, aq, ae⟩, rfl, hk8, hl8⟩
          have K8 := Lib.hid ((K7.out.trans hk8).allocO (.cells #[.int .i64 o.k, .int .i64 o.n, .int .i64 o.f, .string o.s, .slice ap o.l.length ac, .slice aq o.d.length ae] 39))
          have I8 := Lib.hid (In.fresh (I7.out.kept hk8) #[.int .i64 o.k, .int .i64 o.n, .int .i64 o.f, .string o.s, .slice ap o.l.length ac, .slice aq o.d.length ae] 39)
          have L8 := Lib.hid (hl8.alloc (.cells #[.int .i64 o.k, .int .i64 o.n, .int .i64 o.f, .string o.s, .slice ap o.l.length ac, .slice aq o.d.length ae] 39))
          clear hk8 hl8
          unfold objV
          simp only []
          obtain ⟨f0, f1, f2, f3, f4, f5, f6⟩ := (I8.out.mem (List.mem_cons_of_mem _ List.mem_cons_self)).cells7
          go_wp2_with fail
          (with_reducible refine (CO.out _ K8.out).mono ?_)
          rintro e w9 ⟨p9, c9, rfl, hk9, hn9⟩
          have K9 := Lib.hid (K8.out.trans hk9)
          have N9 := Lib.hid hn9
          have I9 := Lib.hid (I8.out.kept hk9)
          have L9 := Lib.hid (L8.out.kept hk9)
          clear hk9 hn9 f0 f1 f2 f3 f4 f5 f6
          go_wp2_with fail
          (with_reducible refine (CC.out _ _ _ N9.out).mono ?_)
          rintro e w10 ⟨⟨zp, zc, zq, ze⟩, rfl, hk10, hl10⟩
          have K10 := Lib.hid ((K9.out.trans hk10).allocO (.cells #[.int .i64 0, .int .i64 0, .int .i64 0, .string ⟨#[]⟩, .slice zp 0 zc, .slice zq 0 ze] 39))
          have I10 := Lib.hid (In.alloc (I9.out.kept hk10) (.cells #[.int .i64 0, .int .i64 0, .int .i64 0, .string ⟨#[]⟩, .slice zp 0 zc, .slice zq 0 ze] 39))
          have L10 := Lib.hid ((L9.out.kept hk10).alloc (.cells #[.int .i64 0, .int .i64 0, .int .i64 0, .string ⟨#[]⟩, .slice zp 0 zc, .slice zq 0 ze] 39))
          clear hk10 hl10
          simp only []
          obtain ⟨f0, f1, f2, f3, f4, f5, f6⟩ := (I10.out.mem (List.mem_cons_of_mem _ List.mem_cons_self)).cells7
          go_wp2_with fail
          (with_reducible refine (CO.out _ K10.out).mono ?_)
          rintro e w11 ⟨p11, c11, rfl, hk11, hn11⟩
          have K11 := Lib.hid ((K10.out.trans hk11).allocO (.cells #[.string ⟨#[65]⟩, .int .i64 7, .int .i64 1, .int .i64 0, .string ⟨#[]⟩, .slice none 0 0, .slice none 0 0] 62))
          have N11 := Lib.hid (hn11.kept ((Kept.refl w11).allocO (.cells #[.string ⟨#[65]⟩, .int .i64 7, .int .i64 1, .int .i64 0, .string ⟨#[]⟩, .slice none 0 0, .slice none 0 0] 62)))
          have D11 := Lib.hid (Blk.fresh w11 #[.string ⟨#[65]⟩, .int .i64 7, .int .i64 1, .int .i64 0, .string ⟨#[]⟩, .slice none 0 0, .slice none 0 0] 62)
          have I11 := Lib.hid (In.alloc (I10.out.kept hk11) (.cells #[.string ⟨#[65]⟩, .int .i64 7, .int .i64 1, .int .i64 0, .string ⟨#[]⟩, .slice none 0 0, .slice none 0 0] 62))
          have L11 := Lib.hid ((L10.out.kept hk11).alloc (.cells #[.string ⟨#[65]⟩, .int .i64 7, .int .i64 1, .int .i64 0, .string ⟨#[]⟩, .slice none 0 0, .slice none 0 0] 62))
          clear hk11 hn11 f0 f1 f2 f3 f4 f5 f6
          go_wp2_with fail
          (with_reducible refine (CE.out _ _ _ _ N11.out D11.out).mono ?_)
          rintro e w12 ⟨⟨bp, bc, bq, be⟩, rfl, hk12, hl12⟩
          have K12 := Lib.hid ((K11.out.trans hk12).allocO (.cells #[.int .i64 o.k, .int .i64 o.n, .int .i64 o.f, .string o.s, .slice bp o.l.length bc, .slice bq o.d.length be] 39))
          have I12 := Lib.hid (In.fresh (I11.out.kept hk12) #[.int .i64 o.k, .int .i64 o.n, .int .i64 o.f, .string o.s, .slice bp o.l.length bc, .slice bq o.d.length be] 39)
          have L12 := Lib.hid ((L11.out.kept hk12).alloc (.cells #[.int .i64 o.k, .int .i64 o.n, .int .i64 o.f, .string o.s, .slice bp o.l.length bc, .slice bq o.d.length be] 39))
          have M12 := Lib.hid (hl12.alloc (.cells #[.int .i64 o.k, .int .i64 o.n, .int .i64 o.f, .string o.s, .slice bp o.l.length bc, .slice bq o.d.length be] 39))
          clear hk12 hl12
          unfold objV
          simp only []
          obtain ⟨b0, b1, b2, b3, b4, b5⟩ := (I12.out.mem List.mem_cons_self).cells6
          obtain ⟨a0, a1, a2, a3, a4, a5⟩ := (I12.out.mem (List.mem_cons_of_mem _ List.mem_cons_self)).cells6
          obtain ⟨f0, f1, f2, f3, f4, f5, f6⟩ := (I12.out.mem (List.mem_cons_of_mem _ (List.mem_cons_of_mem _ List.mem_cons_self))).cells7
          obtain ⟨r0, r1, r2, r3, r4, r5⟩ := (I12.out.mem (List.mem_cons_of_mem _ (List.mem_cons_of_mem _ (List.mem_cons_of_mem _ List.mem_cons_self)))).cells6
          go_wp2_with fail
          (with_reducible refine (CX.out _ (In.k I12.out) _ _ _ _ L12.out).mono ?_)
          rintro e w13 ⟨rfl, hk13⟩
          have K13 := Lib.hid (K12.out.trans hk13)
          have I13 := Lib.hid (I12.out.kept hk13)
          have M13 := Lib.hid (M12.out.kept hk13)
          clear hk13 f0 f1 f2 f3 f4 f5 f6 r0 r1 r2 r3 r4 r5 a0 a1 a2 a3 a4 a5 b0 b1 b2 b3 b4 b5
          obtain ⟨b0, b1, b2, b3, b4, b5⟩ := (I13.out.mem List.mem_cons_self).cells6
          obtain ⟨f0, f1, f2, f3, f4, f5, f6⟩ := (I13.out.mem (List.mem_cons_of_mem _ (List.mem_cons_of_mem _ List.mem_cons_self))).cells7
          obtain ⟨r0, r1, r2, r3, r4, r5⟩ := (I13.out.mem (List.mem_cons_of_mem _ (List.mem_cons_of_mem _ (List.mem_cons_of_mem _ List.mem_cons_self)))).cells6
          go_wp2_with fail
          (with_reducible refine (CX.out _ (In.k I13.out) _ _ _ _ M13.out).mono ?_)
          rintro e w14 ⟨rfl, hk14⟩
          have K14 := Lib.hid (K13.out.trans hk14)
          have I14 := Lib.hid (I13.out.kept hk14)
          clear hk14 f0 f1 f2 f3 f4 f5 f6 r0 r1 r2 r3 r4 r5 b0 b1 b2 b3 b4 b5
          obtain ⟨f0, f1, f2, f3, f4, f5, f6⟩ := (I14.out.mem (List.mem_cons_of_mem _ (List.mem_cons_of_mem _ List.mem_cons_self))).cells7
          go_wp2_with fail
          (with_reducible refine (CO.out _ K14.out).mono ?_)
          rintro e w15 ⟨p15, c15, rfl, hk15', hn15⟩
          have N15 := Lib.hid hn15
          have I15 := Lib.hid (I14.out.kept hk15')
          clear hk15' hn15 f0 f1 f2 f3 f4 f5 f6
          go_wp2_with fail
          (with_reducible refine (CF.out _ _ _ N15.out).mono ?_)
          rintro e w16 ⟨rfl, hk16⟩
          have K16 := Lib.hid ((In.k I15.out).trans hk16)
          clear hk16
          go_wp2_with fail
          go_ret
          exact ⟨rfl, K16.out⟩

end Go.Proofs.YtoablpaehhjchaaGreatDoor
