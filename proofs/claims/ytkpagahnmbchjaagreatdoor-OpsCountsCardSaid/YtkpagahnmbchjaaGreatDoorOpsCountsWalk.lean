/-
  The law OpsCounts answers true.
-/
import Derived.Test.YtkpagahnmbchjaaGreatDoorOpsAwake
import Derived.Test.YtkpagahnmbchjaaGreatDoorOpsBackMath
namespace Go.Proofs.YtkpagahnmbchjaaGreatDoor
open Go.RowKit Cx
set_option linter.unusedSimpArgs false
set_option linter.unusedVariables false

theorem andO127 (n : Int) : ∃ k : Nat, bits BinOp.and IntKind.i64 n 127 = (k : Int) ∧ k ≤ 127 := by
  have hle : (BitVec.ofInt 64 n &&& BitVec.ofInt 64 127).toNat ≤ 127 := by
    rw [BitVec.toNat_and]
    exact Nat.and_le_right (n := (BitVec.ofInt 64 n).toNat) (m := 127)
  refine ⟨(BitVec.ofInt 64 n &&& BitVec.ofInt 64 127).toNat, ?_, hle⟩
  show IntKind.i64.wrap ((BitVec.ofInt 64 n &&& BitVec.ofInt 64 127).toNat : Int) = _
  exact IntWalk.i64_in _ (by omega)

def oneO : Ob := .mk 2 1 1000 ⟨#[]⟩ [] []
theorem one_ok : OkA oneO := ⟨by kernel_rfl, by decide, by decide⟩
theorem one_text : oneO.text = [49] := by kernel_rfl
theorem one_norm : oneO.norm = oneO := by unfold oneO; rw [norm_mk]; rfl
theorem one_w : OkW oneO := ⟨.mk _ _ _ _ _ _ (by decide) (by decide) (by decide) (fun x h => by cases h) (fun x h => by cases h) (fun x h => by cases h), fun _ => ⟨.mk _ _ _ _ _ _ (by decide) (by decide) (by decide) (by decide) (by decide) (fun x h => by cases h) (fun x h => by cases h) (fun x h => by cases h), by rw [one_text]; decide⟩⟩
theorem x_named : named [120] = true := by kernel_rfl
def xO (k : Nat) : Ob := opO ⟨#[120]⟩ (List.replicate k oneO)
def cntS : Nat → List UInt8
  | 0 => []
  | k + 1 => cntS k ++ [49, 32]
theorem cnt_len : ∀ k, (cntS k).length = 2 * k
  | 0 => rfl
  | k + 1 => by rw [cntS, List.length_append, cnt_len k]; simp; omega
theorem cnt_front : ∀ k, cntS (k + 1) = 49 :: 32 :: cntS k
  | 0 => rfl
  | k + 1 => by
    have h := cnt_front k
    show cntS (k + 1) ++ [49, 32] = 49 :: 32 :: (cntS k ++ [49, 32])
    rw [h]; rfl
theorem cnt_words : ∀ k, wordsT (List.replicate k oneO) [120] = cntS k ++ [120]
  | 0 => by rw [List.replicate_zero, wordsT_nil]; rfl
  | k + 1 => by rw [List.replicate_succ, wordsT_cons, one_text, cnt_words k, cnt_front]; rfl
theorem cnt_parse (k : Nat) : opsV (cntS k ++ [120]) = if k ≤ 64 then (0, [xO k]) else (6, []) := by
  have e : cntS k ++ [120] = [] ++ ([] ++ (wordsT (List.replicate k oneO) [120] ++ [])) := by rw [cnt_words]; simp
  by_cases h : k ≤ 64
  · have h1 := ops_one (o := xO k) ⟨rfl, x_named, by show (List.replicate k oneO).length ≤ 64; simpa using h, fun x hx => by rw [List.eq_of_mem_replicate hx]; exact one_ok⟩ 65535 [] [] [] [] (.inl rfl) rfl
    have h2 := ops_end 65535 ([] ++ [normP (xO k)]) ([] ++ ([] ++ wordsT (xO k).l (xO k).s.data.toList)) [] (.inl rfl)
    have e1 : (xO k).l = List.replicate k oneO := rfl
    have e2 : (xO k).s.data.toList = [120] := rfl
    have en : normP (xO k) = xO k := by
      unfold normP xO opO
      simp only [Ob.s, Ob.l, List.map_replicate, one_norm]
    rw [en] at h1 h2
    rw [e1, e2] at h1 h2
    rw [if_pos h, e]
    unfold opsV
    refine (show opsGo _ 65536 [] 0 = opsGo _ (65535 + 1) [] (([] : List UInt8).length : Nat) from rfl).trans (h1.trans ?_)
    simp only [List.nil_append, List.append_nil] at h2 ⊢
    exact h2
  · rw [if_neg h, e]
    have hb := oper_back x_named (List.replicate k oneO) 64 [] [] [] [] (fun x hx => by rw [List.eq_of_mem_replicate hx]; exact one_ok) (.inl rfl) rfl
    rw [if_neg (by simpa using h)] at hb
    unfold opsV
    refine (show opsGo _ 65536 [] 0 = opsGo _ (65535 + 1) [] (([] : List UInt8).length : Nat) from rfl).trans ?_
    rw [opsGo]
    unfold opsStep
    rw [hb, if_pos (by simp)]
theorem cnt_args : ∀ k, argE (List.replicate k oneO) = 0
  | 0 => rfl
  | k + 1 => by
    rw [List.replicate_succ, argE, cnt_args k]
    have h1 : oneO.refs 0 = 0 := by kernel_rfl
    have h2 : (objTE oneO).1 = 0 := by kernel_rfl
    rw [h1, h2]; rfl
theorem cnt_lineE (k : Nat) : lineE (xO k) = if k ≤ 64 then 0 else 6 := by
  unfold lineE
  rw [show (xO k).s.data.toList = [120] from rfl, x_named, show (xO k).l = List.replicate k oneO from rfl, List.length_replicate, cnt_args]
  by_cases h : k ≤ 64
  · rw [if_pos rfl, if_neg (by omega), if_pos h]
  · rw [if_pos rfl, if_pos (by omega), if_neg h]
theorem cnt_lineT (k : Nat) : lineT (xO k) = cntS k ++ [120, 10] := by
  have h := cnt_words k
  unfold wordsT at h
  unfold lineT
  rw [show (xO k).l = List.replicate k oneO from rfl, show (xO k).s.data.toList = [120] from rfl]
  have h2 : (objTE oneO).2 = [49] := by kernel_rfl
  rw [List.map_replicate, one_text] at h
  rw [List.map_replicate, h2, h]; simp
theorem cnt_E (k : Nat) : opsE [xO k] = if k ≤ 64 then 0 else 6 := by
  unfold opsE
  rw [if_neg (by simp), linesE, cnt_lineE]
  by_cases h : k ≤ 64
  · rw [if_pos h]; rfl
  · rw [if_neg h]; rfl
theorem cnt_T (k : Nat) : opsT [xO k] = if k ≤ 64 then cntS k ++ [120, 10] else [] := by
  unfold opsT
  rw [cnt_E]
  by_cases h : k ≤ 64
  · rw [if_pos h, if_neg (by simp), if_pos h]
    unfold linesT
    rw [List.flatMap_cons, cnt_lineT]; simp
  · rw [if_neg h, if_pos (by simp), if_neg h]
theorem cnt_V (k : Nat) (h : k ≤ 127) : (lineV (xO k)).length ≤ 300 := by
  unfold lineV
  split
  · rw [cnt_lineT, List.length_append, cnt_len]; simp; omega
  · exact Nat.zero_le _

/-- One operator, in a block of its own. -/
theorem opR_single {w : World} {g : Nat} {o : Ob} {hd : Hd} (h : Blk w g #[.string o.s, .slice hd.p o.l.length hd.c] 45) (hl : Lies (Cel (fun _ => True) w) o hd) : OpR (fun _ => True) w (some ⟨g, 0, none⟩) [(o, hd)] := by
  refine ⟨fun i hi => ?_, fun r hr => ?_⟩
  · obtain rfl : i = 0 := by simpa using hi
    exact ⟨g, 0, rfl, trivial, h.lt, h.cell 0, h.cell 1⟩
  · rw [List.mem_singleton.1 hr]; exact hl

set_option maxRecDepth 100000 in
set_option maxHeartbeats 8000000 in
theorem OpsCounts_walk (n : Int) (w : World) (hf : Fine w) :
    Calls Tryz.prog 6 #[.int .i64 n] w fun e w' => e = .returned (.bool true) ∧ Kept w w' := by
  have HF := Lib.hid hf
  have AW := Lib.hid (awake11_any w hf)
  obtain ⟨K, hK, hK127⟩ := andO127 n
  clear hf
  go_enter Tryz.func6, Tryz.ntmps6
  go_wp2_with fail
  (with_reducible refine AW.out.mono ?_)
  rintro e w1 ⟨rfl, k1⟩
  obtain ⟨a, ha⟩ : ∃ a, a = w1.heap.size := ⟨_, rfl⟩
  have HI0 := Lib.hid (In.fresh (In.kept (In.start w) k1) #[.string ⟨#[120]⟩, .slice none 0 0] 45)
  have haw := Below.size k1
  rw [← ha] at haw HI0
  clear k1
  go_wp2_with fail
  rw [← ha]
  go_loopg [5, 7] K (fun mm s i wr => ∃ (j : Nat) (c : Nat) (p : Option Addr), mm = K - j ∧ j ≤ K ∧ i = .int .i64 j ∧ s = .string ⟨(cntS j).toArray⟩ ∧ In w [(a, #[.string ⟨#[120]⟩, .slice p j c], 45)] wr ∧ Hid (OwnK KO (a + 1) wr (.slice p j c) (List.replicate j (oneO, ⟨none, 0, none, 0⟩))))
  case atStart => exact ⟨0, 0, none, rfl, Nat.zero_le _, rfl, rfl, HI0.out, Lib.hid (OwnK.nil _ _ _)⟩
  case round =>
    obtain ⟨j, c, p, hm, hj, rfl, rfl, hI, HO⟩ := hrel
    have HI := Lib.hid hI
    obtain ⟨t0, t1⟩ := (HI.out.mem List.mem_cons_self).cells2
    have tf := (HI.out.mem List.mem_cons_self).free
    have tz := (HI.out.mem List.mem_cons_self).lt
    have hcl : (cntS j).length = 2 * j := cnt_len j
    obtain ⟨CS, hCS⟩ : ∃ CS, CS = cntS j := ⟨_, rfl⟩
    rw [← hCS] at hcl ⊢
    have HCS := Lib.hid hCS
    clear hI HI0 ha hCS
    by_cases hlt : j < K
    · have IA := Lib.hid (HI.out.alloc (.cells #[.int .i64 2, .int .i64 1, .int .i64 1000, .string ⟨#[]⟩, .slice none 0 0, .slice none 0 0] 32))
      have OL := Lib.hid (fun k hk => (HO.out.own.lt k hk).1)
      have OB := Lib.hid (fun k hk => (HO.out.own.lt k hk).2)
      have hrl : (List.replicate j ((oneO, ⟨none, 0, none, 0⟩) : Ob × Hd)).length = j := List.length_replicate
      have HRL := Lib.hid hrl
      obtain ⟨RR, hRR⟩ : ∃ RR, RR = List.replicate j ((oneO, ⟨none, 0, none, 0⟩) : Ob × Hd) := ⟨_, rfl⟩
      rw [← hRR] at HRL HO
      have HR2 := Lib.hid (show RR ++ [((oneO, ⟨none, 0, none, 0⟩) : Ob × Hd)] = List.replicate (j + 1) (oneO, ⟨none, 0, none, 0⟩) by rw [hRR, ← List.replicate_succ'])
      have O1 := Lib.hid (show OwnK KO (a + 1) wr (.slice p RR.length c) RR by rw [HRL.out]; exact HO.out)
      have XL := Lib.hid (show Lies (Cel (fun b => wr.heap.size ≤ b) wr) oneO ⟨none, 0, none, 0⟩ from Lies.flat _ 2 1 1000 ⟨#[]⟩ _ (Nat.zero_le _))
      have hB : a + 1 ≤ wr.heap.size := tz
      have MB := Lib.hid (show ∀ b, Value.ownBlock (.slice p RR.length c) = some b → b < wr.heap.size from fun b hb => OB.out b (by rw [HRL.out] at hb; exact hb))
      clear hrl hRR
      go_wp2_with (at_builtin; refine wpList_app_obj rfl _ _ rfl (a + 1) RR O1.out (by rw [HRL.out]; rfl) (oneO, ⟨none, 0, none, 0⟩) _ rfl wr.heap.size rfl rfl hB (by rw [HRL.out]; omega) ?_)
      intro g cap' w5 own5 hg5 hl5 hlt5
      have O8 := Lib.hid (OwnK.app (x := (oneO, ⟨none, 0, none, 0⟩)) O1.out XL.out MB.out hB own5 hg5 hl5)
      have I8 := Lib.hid (IA.out.gbOwn hg5 (fun kk hkk => by
        have h1 := OL.out kk (by rw [HRL.out] at hkk; exact hkk)
        exact ⟨by omega, fun x hx => by
          obtain rfl := List.mem_singleton.1 hx
          simp only []; omega⟩))
      rw [HR2.out, HRL.out] at O8
      rw [HRL.out]
      have I9 := Lib.hid (I8.out.setAt haw (fun x hx => by cases hx) 1 (.slice (some ⟨g, 0, none⟩) (j + 1) cap'))
      have O9 := Lib.hid (O8.out.setOut (k := a) (by omega) 1 (.slice (some ⟨g, 0, none⟩) (j + 1) cap'))
      obtain ⟨q0, q1⟩ := (I8.out.mem List.mem_cons_self).cells2
      have qf := (I8.out.mem List.mem_cons_self).free
      have qz := (I8.out.mem List.mem_cons_self).lt
      clear own5 hg5 hl5 hlt5 t0 t1 tf tz
      go_wp2_with fail
      go_roundg (K - (j + 1))
      case measure => omega
      case rel =>
        refine ⟨j + 1, cap', some ⟨g, 0, none⟩, rfl, hlt, by go_num, ?_, I9.out, Lib.hid O9.out⟩
        rw [HCS.out, cntS]
        congr 1
        first | done | (apply ByteArray.ext; simp)
    · obtain rfl : j = K := by omega
      have PA := Lib.hid (fun w' (kk : Kept w w') => OpsParse_any (⟨CS.toArray⟩ ++ ⟨#[120]⟩) w' (by
        rw [ByteArray.size_append]
        show CS.toArray.size + 1 ≤ _
        rw [List.size_toArray]; omega) (HF.out.kept kk).1 (if j ≤ 64 then (0, [xO j]) else (6, [])) (by
        rw [← cnt_parse, HCS.out]
        congr 1
        first | done | simp))
      unfold OpsPost at PA
      have LO := Lib.hid (show Lies (Cel (fun _ => True) wr) (xO j) ⟨p, c, none, 0⟩ from by
        have hrl : (List.replicate j ((oneO, ⟨none, 0, none, 0⟩) : Ob × Hd)).length = j := List.length_replicate
        have h1 := HO.out
        have h2 : OwnK KO (a + 1) wr (.slice p (List.replicate j ((oneO, ⟨none, 0, none, 0⟩) : Ob × Hd)).length c) (List.replicate j (oneO, ⟨none, 0, none, 0⟩)) := by rw [hrl]; exact h1
        have h3 := h2.op (by rw [hrl]; unfold maxLen; omega) ⟨#[120]⟩ (by decide)
        have h4 : (List.replicate j ((oneO, ⟨none, 0, none, 0⟩) : Ob × Hd)).map (·.1) = List.replicate j oneO := by rw [List.map_replicate]
        rw [h4] at h3
        exact h3.weak fun _ _ => trivial)
      by_cases h64 : j ≤ 64
      · have hx : (if j ≤ 64 then ((0, [xO j]) : Int × List Ob) else (6, [])) = (0, [xO j]) := if_pos h64
        rw [hx] at PA
        simp only [List.length_singleton] at PA
        have i1 : ¬ (64 : Int) < (j : Int) := by omega
        go_wp2_with fail
        (with_reducible refine (PA.out _ (In.k HI.out)).mono ?_)
        rintro e w2 ⟨p2, c2, rs2, rfl, hk2, hm2, hr2⟩
        have I2 := Lib.hid (HI.out.kept hk2)
        obtain ⟨pb, poff, phd, rfl, hlt2, -, d1, -⟩ := hr2.first hm2
        rw [show (xO j).l.length = j from List.length_replicate] at d1
        have KD := Lib.hid (show ∀ W, Kept w2 W → W.cell? ⟨pb, poff + 1, none⟩ = some (.slice phd.p j phd.c) from fun W k => (k.cells.1 pb _ hlt2).trans d1)
        have KA := Lib.hid ((Kept.refl w2).alloc #[.string ⟨#[120]⟩, .slice p j c] 45)
        have WR := Lib.hid (OpsWrite_any [(xO j, ⟨p, c, none, 0⟩)] (some ⟨w2.heap.size, 0, none⟩) 1 _ (opR_single (by
            have := Blk.fresh w2 #[.string ⟨#[120]⟩, .slice p j c] 45
            have e : (xO j).l.length = j := List.length_replicate
            rw [e]; exact this) ((LO.out.kept hk2).kept KA.out)) (HF.out.kept ((In.k I2.out).trans KA.out)) (HF.out.kept ((In.k I2.out).trans KA.out)).1
          (fun o ho => by rw [List.mem_singleton.1 ho]; exact ⟨by show (⟨#[120]⟩ : ByteArray).size ≤ _; decide, fun x hx => by rw [List.eq_of_mem_replicate hx]; exact one_w⟩) (by simp) 300
          (fun o ho => by rw [List.mem_singleton.1 ho]; exact cnt_V j hK127) (by decide) 0 (by rw [show ([((xO j, ⟨p, c, none, 0⟩) : Ob × Hd)].map (·.1)) = [xO j] from rfl, cnt_E, if_pos h64]) (⟨CS.toArray⟩ ++ ⟨#[120, 10]⟩) (by
            rw [show ([((xO j, ⟨p, c, none, 0⟩) : Ob × Hd)].map (·.1)) = [xO j] from rfl, cnt_T, if_pos h64, HCS.out]
            apply ByteArray.ext
            simp))
        simp only [List.length_singleton] at WR
        clear hk2 hm2 hr2 d1 t0 t1 tz tf
        obtain ⟨t0, t1⟩ := (I2.out.mem List.mem_cons_self).cells2
        have tz := (I2.out.mem List.mem_cons_self).lt
        go_wp2_with fail
        (with_reducible refine WR.out.mono ?_)
        rintro e w3 ⟨rfl, hk3⟩
        have K3 := Lib.hid (((In.k I2.out).trans KA.out).trans hk3)
        have d1 := KD.out w3 (KA.out.trans hk3)
        have hpb : pb < w3.heap.size := World.block_lt_of_cell? w3 _ d1
        clear hk3
        go_wp2_with fail
        go_ret
        exact ⟨rfl, K3.out⟩
      · have hx : (if j ≤ 64 then ((0, [xO j]) : Int × List Ob) else (6, [])) = (6, []) := if_neg h64
        rw [hx] at PA
        simp only [List.length_nil] at PA
        have i1 : (64 : Int) < (j : Int) := by omega
        go_wp2_with fail
        (with_reducible refine (PA.out _ (In.k HI.out)).mono ?_)
        rintro e w2 ⟨p2, c2, rs2, rfl, hk2, hm2, hr2⟩
        have I2 := Lib.hid (HI.out.kept hk2)
        have KA := Lib.hid ((Kept.refl w2).alloc #[.string ⟨#[120]⟩, .slice p j c] 45)
        have WR := Lib.hid (OpsWrite_any [(xO j, ⟨p, c, none, 0⟩)] (some ⟨w2.heap.size, 0, none⟩) 1 _ (opR_single (by
            have := Blk.fresh w2 #[.string ⟨#[120]⟩, .slice p j c] 45
            have e : (xO j).l.length = j := List.length_replicate
            rw [e]; exact this) ((LO.out.kept hk2).kept KA.out)) (HF.out.kept ((In.k I2.out).trans KA.out)) (HF.out.kept ((In.k I2.out).trans KA.out)).1
          (fun o ho => by rw [List.mem_singleton.1 ho]; exact ⟨by show (⟨#[120]⟩ : ByteArray).size ≤ _; decide, fun x hx => by rw [List.eq_of_mem_replicate hx]; exact one_w⟩) (by simp) 300
          (fun o ho => by rw [List.mem_singleton.1 ho]; exact cnt_V j hK127) (by decide) 6 (by rw [show ([((xO j, ⟨p, c, none, 0⟩) : Ob × Hd)].map (·.1)) = [xO j] from rfl, cnt_E, if_neg h64]) ⟨#[]⟩ (by
            rw [show ([((xO j, ⟨p, c, none, 0⟩) : Ob × Hd)].map (·.1)) = [xO j] from rfl, cnt_T, if_neg h64]))
        simp only [List.length_singleton] at WR
        clear hk2 hm2 hr2 t0 t1 tz tf
        obtain ⟨t0, t1⟩ := (I2.out.mem List.mem_cons_self).cells2
        have tz := (I2.out.mem List.mem_cons_self).lt
        go_wp2_with fail
        (with_reducible refine WR.out.mono ?_)
        rintro e w3 ⟨rfl, hk3⟩
        have K3 := Lib.hid (((In.k I2.out).trans KA.out).trans hk3)
        clear hk3
        go_wp2_with fail
        go_ret
        exact ⟨rfl, K3.out⟩

end Go.Proofs.YtkpagahnmbchjaaGreatDoor
