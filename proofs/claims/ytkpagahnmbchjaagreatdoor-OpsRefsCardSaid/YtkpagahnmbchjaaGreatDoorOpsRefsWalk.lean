/-
  The law OpsRefs answers true.
-/
import Derived.Test.YtkpagahnmbchjaaGreatDoorOpsAwake
import Derived.Test.YtkpagahnmbchjaaGreatDoorWritePartsMath
import Derived.Test.YtkpagahnmbchjaaGreatDoorWritePartsWalk
namespace Go.Proofs.YtkpagahnmbchjaaGreatDoor
open Go.RowKit Cx
set_option linter.unusedSimpArgs false
set_option linter.unusedVariables false

theorem andO7 (n : Int) : ∃ k : Nat, bits BinOp.and IntKind.i64 n 7 = (k : Int) ∧ k ≤ 7 := by
  have hle : (BitVec.ofInt 64 n &&& BitVec.ofInt 64 7).toNat ≤ 7 := by
    rw [BitVec.toNat_and]
    exact Nat.and_le_right (n := (BitVec.ofInt 64 n).toNat) (m := 7)
  refine ⟨(BitVec.ofInt 64 n &&& BitVec.ofInt 64 7).toNat, ?_, hle⟩
  show IntKind.i64.wrap ((BitVec.ofInt 64 n &&& BitVec.ofInt 64 7).toNat : Int) = _
  exact IntWalk.i64_in _ (by omega)
theorem digitO (d : Nat) (hd : d ≤ 7) : (⟨#[48, 49, 50, 51, 52, 53, 54, 55]⟩ : ByteArray).extract d (d + 1) = ⟨#[UInt8.ofNat (48 + d)]⟩ := by
  rcases (show d = 0 ∨ d = 1 ∨ d = 2 ∨ d = 3 ∨ d = 4 ∨ d = 5 ∨ d = 6 ∨ d = 7 by omega) with rfl | rfl | rfl | rfl | rfl | rfl | rfl | rfl
  all_goals rfl

def numO (x : Nat) : Ob := .mk 2 1 (1000 * (x : Int)) ⟨#[]⟩ [] []
def rfO (x y : Nat) : Ob := .mk 7 x (1000 * (y : Int)) ⟨#[]⟩ [] []
def arrO (x y : Nat) : Ob := .mk 5 0 0 ⟨#[]⟩ [rfO x y] []
def RO (x y : Nat) : Ob := opO ⟨#[82]⟩ [numO x, numO y]
def XO (x y : Nat) : Ob := opO ⟨#[120]⟩ [arrO x y]
def refT (x y : Nat) : List UInt8 := [UInt8.ofNat (48 + x), 32, UInt8.ofNat (48 + y), 32, 82, 32, 91, UInt8.ofNat (48 + x), 32, UInt8.ofNat (48 + y), 32, 82, 93, 32, 120]
set_option maxRecDepth 100000 in
theorem ref_parse (x y : Nat) (hx : x ≤ 7) (hy : y ≤ 7) : opsV (refT x y) = (0, [RO x y, XO x y]) := by
  rcases (show x = 0 ∨ x = 1 ∨ x = 2 ∨ x = 3 ∨ x = 4 ∨ x = 5 ∨ x = 6 ∨ x = 7 by omega) with rfl | rfl | rfl | rfl | rfl | rfl | rfl | rfl
  all_goals
    rcases (show y = 0 ∨ y = 1 ∨ y = 2 ∨ y = 3 ∨ y = 4 ∨ y = 5 ∨ y = 6 ∨ y = 7 by omega) with rfl | rfl | rfl | rfl | rfl | rfl | rfl | rfl
    all_goals kernel_rfl
def refChk (x y : Nat) : Bool := decide (opsE [RO x y, XO x y] = 1) && (decide ((lineV (RO x y)).length ≤ 100) && decide ((lineV (XO x y)).length ≤ 100))
theorem ref_all : ((List.range 8).all fun x => (List.range 8).all fun y => refChk x y) = true := by kernel_rfl
theorem ref_chk (x y : Nat) (hx : x ≤ 7) (hy : y ≤ 7) : opsE [RO x y, XO x y] = 1 ∧ (lineV (RO x y)).length ≤ 100 ∧ (lineV (XO x y)).length ≤ 100 := by
  have h1 := List.all_eq_true.1 ref_all x (List.mem_range.2 (by omega))
  have h2 := List.all_eq_true.1 h1 y (List.mem_range.2 (by omega))
  unfold refChk at h2
  simp only [Bool.and_eq_true, decide_eq_true_eq] at h2
  exact h2
theorem num_w (x : Nat) (hx : x ≤ 7) : OkW (numO x) := by
  have hok : Ob.Ok (numO x) := .mk _ _ _ _ _ _ (by decide) (by decide) (by decide) (by decide) (by decide) (fun x h => by cases h) (fun x h => by cases h) (fun x h => by cases h)
  refine ⟨.mk _ _ _ _ _ _ (by decide) (by decide) (by decide) (fun x h => by cases h) (fun x h => by cases h) (fun x h => by cases h), fun _ => ⟨hok, ?_⟩⟩
  have := text_le _ (numO x) (Nat.le_refl _) hok
  have hw : (numO x).wt = 1 := by rw [wt_eq]; rfl
  omega
theorem arr_w (x y : Nat) (hx : x ≤ 7) (hy : y ≤ 7) : OkW (arrO x y) := by
  have h1 : Ob.Ok (rfO x y) := .mk _ _ _ _ _ _ (by omega) (by omega) (by decide) (by decide) (by decide) (fun x h => by cases h) (fun x h => by cases h) (fun x h => by cases h)
  have h2 : Ob.Fits 4294967296 (rfO x y) := .mk _ _ _ _ _ _ (by decide) (by decide) (by decide) (fun x h => by cases h) (fun x h => by cases h) (fun x h => by cases h)
  have hok : Ob.Ok (arrO x y) := .mk _ _ _ _ _ _ (by decide) (by decide) (by decide) (by simp) (by decide) (fun x h => by rw [List.mem_singleton.1 h]; exact h1) (fun x h => by cases h) (fun x h => by cases h)
  refine ⟨.mk _ _ _ _ _ _ (by decide) (by simp) (by decide) (fun x h => by rw [List.mem_singleton.1 h]; exact h2) (fun x h => by cases h) (fun x h => by cases h), fun _ => ⟨hok, ?_⟩⟩
  have := text_le _ (arrO x y) (Nat.le_refl _) hok
  have hr : (rfO x y).wt = 1 := by rw [wt_eq]; rfl
  have hw : (arrO x y).wt = 2 := by
    rw [wt_eq]
    show 1 + 0 + wtL [rfO x y] + wtD [] = 2
    rw [wtL_cons, hr]; rfl
  omega
theorem ref_ok (x y : Nat) (hx : x ≤ 7) (hy : y ≤ 7) : WritesOk [RO x y, XO x y] := fun o ho => by
  simp only [List.mem_cons, List.not_mem_nil, or_false] at ho
  rcases ho with rfl | rfl
  · refine ⟨by show (⟨#[82]⟩ : ByteArray).size ≤ _; decide, fun z hz => ?_⟩
    have hz' : z ∈ [numO x, numO y] := hz
    simp only [List.mem_cons, List.not_mem_nil, or_false] at hz'
    rcases hz' with rfl | rfl
    · exact num_w x hx
    · exact num_w y hy
  · refine ⟨by show (⟨#[120]⟩ : ByteArray).size ≤ _; decide, fun z hz => ?_⟩
    have hz' : z ∈ [arrO x y] := hz
    rw [List.mem_singleton.1 hz']
    exact arr_w x y hx hy

/-- Two operators that lie somewhere. -/
theorem OpR.two {P : Nat → Prop} {w : World} {p : Option Addr} {rs : ORow} {o1 o2 : Ob} (h : OpR P w p rs) (hm : rs.map (·.1) = [o1, o2]) : ∃ b off h1 h2, p = some ⟨b, off, none⟩ ∧ b < w.heap.size ∧ w.cell? ⟨b, off, none⟩ = some (.string o1.s) ∧ w.cell? ⟨b, off + 1, none⟩ = some (.slice h1.p o1.l.length h1.c) ∧ w.cell? ⟨b, off + 2, none⟩ = some (.string o2.s) ∧ w.cell? ⟨b, off + 2 + 1, none⟩ = some (.slice h2.p o2.l.length h2.c) ∧ Lies (Cel P w) o1 h1 ∧ Lies (Cel P w) o2 h2 ∧ rs = [(o1, h1), (o2, h2)] := by
  match rs, hm with
  | [], hm => cases hm
  | [r], hm => cases hm
  | [r, t], hm =>
    simp only [List.map_cons, List.map_nil, List.cons.injEq, and_true] at hm
    obtain ⟨h1, h2⟩ := hm
    obtain ⟨b, off, hp, -, hlt, c0, c1⟩ := h.at' 0 (by simp)
    obtain ⟨b', off', hp', -, hlt', c2, c3⟩ := h.at' 1 (by simp)
    rw [hp] at hp'
    injection hp' with hp'
    injection hp' with e1 e2
    subst e1 e2
    simp only [List.getElem_cons_zero, List.getElem_cons_succ, h1, h2, Nat.zero_mul, Nat.add_zero, Nat.one_mul] at c0 c1 c2 c3
    have l1 := h.lies r (by simp)
    have l2 := h.lies t (by simp)
    rw [h1] at l1
    rw [h2] at l2
    obtain ⟨ro, rh⟩ := r
    obtain ⟨to, th⟩ := t
    simp only [] at h1 h2
    subst h1 h2
    exact ⟨b, off, rh, th, hp, hlt, c0, c1, c2, c3, l1, l2, rfl⟩
  | r :: t :: u :: v, hm => simp at hm
theorem lies_two {P : Nat → Prop} {w : World} {o a b : Ob} {h : Hd} (hl : Lies (Cel P w) o h) (ho : o.l = [a, b]) : ∃ k off, h.p = some ⟨k, off, none⟩ ∧ k < w.heap.size ∧ w.cell? ⟨k, off + 2, none⟩ = some (.int .i64 a.f) ∧ w.cell? ⟨k, off + 6 + 2, none⟩ = some (.int .i64 b.f) := by
  obtain ⟨x, k, off, h', hx, hp, -, hlt, -, -, -, c2, -⟩ := hl.elem 0 (by rw [ho]; simp)
  obtain ⟨x', k', off', h'', hx', hp', -, -, -, -, -, c3, -⟩ := hl.elem 1 (by rw [ho]; simp)
  rw [hp] at hp'
  injection hp' with hp'
  injection hp' with e1 e2
  subst e1 e2
  simp only [ho, List.getElem_cons_zero, List.getElem_cons_succ] at hx hx'
  subst hx hx'
  simp only [Nat.zero_mul, Nat.add_zero, Nat.one_mul] at c2 c3
  exact ⟨k, off, hp, hlt, c2, c3⟩
theorem lies_one {P : Nat → Prop} {w : World} {o a : Ob} {h : Hd} (hl : Lies (Cel P w) o h) (ho : o.l = [a]) : ∃ k off ha, h.p = some ⟨k, off, none⟩ ∧ k < w.heap.size ∧ Lies (Cel P w) a ha ∧ w.cell? ⟨k, off, none⟩ = some (.int .i64 a.k) ∧ w.cell? ⟨k, off + 1, none⟩ = some (.int .i64 a.n) ∧ w.cell? ⟨k, off + 2, none⟩ = some (.int .i64 a.f) ∧ w.cell? ⟨k, off + 3, none⟩ = some (.string a.s) ∧ w.cell? ⟨k, off + 4, none⟩ = some (.slice ha.p a.l.length ha.c) ∧ w.cell? ⟨k, off + 5, none⟩ = some (.slice ha.q a.d.length ha.e) := by
  obtain ⟨x, k, off, h', hx, hp, -, hlt, hl', c0, c1, c2, c3, c4, c5⟩ := hl.elem 0 (by rw [ho]; simp)
  simp only [ho, List.getElem_cons_zero] at hx
  subst hx
  simp only [Nat.zero_mul, Nat.add_zero] at c0 c1 c2 c3 c4 c5
  exact ⟨k, off, h', hp, hlt, hl', c0, c1, c2, c3, c4, c5⟩

set_option maxRecDepth 100000 in
set_option maxHeartbeats 16000000 in
theorem OpsRefs_walk (n m : Int) (w : World) (hf : Fine w) :
    Calls Tryz.prog 5 #[.int .i64 n, .int .i64 m] w fun e w' => e = .returned (.bool true) ∧ Kept w w' := by
  have HF := Lib.hid hf
  have AW := Lib.hid (awake11_any w hf)
  obtain ⟨x, hx, hx7⟩ := andO7 n
  obtain ⟨y, hy, hy7⟩ := andO7 m
  obtain ⟨T, hT⟩ : ∃ T, T = ((⟨#[48, 49, 50, 51, 52, 53, 54, 55]⟩ : ByteArray).extract x (x + 1) ++ ⟨#[32]⟩ ++ (⟨#[48, 49, 50, 51, 52, 53, 54, 55]⟩ : ByteArray).extract y (y + 1) ++ ⟨#[32, 82]⟩ : ByteArray) := ⟨_, rfl⟩
  have hTs : T.size = 5 := by rw [hT, digitO x hx7, digitO y hy7]; rfl
  have hTV : (T ++ ⟨#[32, 91]⟩ ++ T ++ ⟨#[93, 32, 120]⟩ : ByteArray).data.toList = refT x y := by rw [hT, digitO x hx7, digitO y hy7]; rfl
  obtain ⟨U, hU⟩ : ∃ U, U = (T ++ ⟨#[32, 91]⟩ ++ T ++ ⟨#[93, 32, 120]⟩ : ByteArray) := ⟨_, rfl⟩
  have hUs : U.size ≤ 4294967295 := by rw [hU]; simp only [ByteArray.size_append, hTs]; decide
  rw [← hU] at hTV
  have PA := Lib.hid (fun w' (kk : Kept w w') => OpsParse_any U w' hUs (HF.out.kept kk).1 (0, [RO x y, XO x y]) (by rw [hTV]; exact (ref_parse x y hx7 hy7).symm))
  unfold OpsPost at PA
  simp only [List.length_cons, List.length_nil, Nat.zero_add, Nat.reduceAdd] at PA
  have HT := Lib.hid hT
  have HU := Lib.hid hU
  have RC := Lib.hid (ref_chk x y hx7 hy7)
  have ROK := Lib.hid (ref_ok x y hx7 hy7)
  clear hf hT hTV hU hUs
  go_enter Tryz.func5, Tryz.ntmps5
  (try simp only [List.append_eq, List.cons_append, List.nil_append])
  go_wp2_with fail
  (with_reducible refine AW.out.mono ?_)
  rintro e w1 ⟨rfl, k1⟩
  have K1 := Lib.hid k1
  clear k1
  go_wp2_with fail
  go_quiet (fail)
  have e0 := HT.out
  simp only [← e0]
  clear e0
  go_wp2_with fail
  have e1 := HU.out
  simp only [← e1]
  clear e1
  (with_reducible refine (PA.out _ (K1.out.drewN _)).mono ?_)
  rintro e w2 ⟨p, c, rs, rfl, hk2, hm2, hr2⟩
  have K2 := Lib.hid ((K1.out.drewN _).trans hk2)
  obtain ⟨b, off, h1, h2, rfl, hlt, c0, c1, c2, c3, l1, l2, rfl⟩ := hr2.two hm2
  obtain ⟨k1, o1, hp1, hlt1, d1, d2⟩ := lies_two l1 (show (RO x y).l = [numO x, numO y] from rfl)
  obtain ⟨k2, o2, ha, hp2, hlt2, l3, f0, f1, f2, f3, f4, f5⟩ := lies_one l2 (show (XO x y).l = [arrO x y] from rfl)
  obtain ⟨k3, o3, hb, hp3, hlt3, -, g0, g1, g2, g3, g4, g5⟩ := lies_one l3 (show (arrO x y).l = [rfO x y] from rfl)
  rw [hp1] at c1
  rw [hp2] at c3
  rw [hp3] at f4
  have KD := Lib.hid (show ∀ W, Kept w2 W → W.cell? ⟨b, off, none⟩ = some (.string ⟨#[82]⟩) ∧ W.cell? ⟨b, off + 1, none⟩ = some (.slice (some ⟨k1, o1, none⟩) 2 h1.c) ∧ W.cell? ⟨b, off + 2 + 1, none⟩ = some (.slice (some ⟨k2, o2, none⟩) 1 h2.c) ∧ W.cell? ⟨k1, o1 + 2, none⟩ = some (.int .i64 (1000 * (x : Int))) ∧ W.cell? ⟨k1, o1 + 6 + 2, none⟩ = some (.int .i64 (1000 * (y : Int))) ∧
      W.cell? ⟨k2, o2 + 4, none⟩ = some (.slice (some ⟨k3, o3, none⟩) 1 ha.c) ∧ W.cell? ⟨k3, o3, none⟩ = some (.int .i64 7) ∧ W.cell? ⟨k3, o3 + 1, none⟩ = some (.int .i64 (x : Int)) ∧ W.cell? ⟨k3, o3 + 2, none⟩ = some (.int .i64 (1000 * (y : Int))) ∧ W.cell? ⟨k3, o3 + 3, none⟩ = some (.string ⟨#[]⟩) ∧ W.cell? ⟨k3, o3 + 4, none⟩ = some (.slice hb.p 0 hb.c) ∧ W.cell? ⟨k3, o3 + 5, none⟩ = some (.slice hb.q 0 hb.e) ∧
      b < W.heap.size ∧ k1 < W.heap.size ∧ k2 < W.heap.size ∧ k3 < W.heap.size from fun W k =>
    ⟨(k.cells.1 b _ hlt).trans c0, (k.cells.1 b _ hlt).trans c1, (k.cells.1 b _ hlt).trans c3, (k.cells.1 k1 _ hlt1).trans d1, (k.cells.1 k1 _ hlt1).trans d2, (k.cells.1 k2 _ hlt2).trans f4, (k.cells.1 k3 _ hlt3).trans g0, (k.cells.1 k3 _ hlt3).trans g1, (k.cells.1 k3 _ hlt3).trans g2, (k.cells.1 k3 _ hlt3).trans g3, (k.cells.1 k3 _ hlt3).trans g4, (k.cells.1 k3 _ hlt3).trans g5,
      Nat.lt_of_lt_of_le hlt k.size, Nat.lt_of_lt_of_le hlt1 k.size, Nat.lt_of_lt_of_le hlt2 k.size, Nat.lt_of_lt_of_le hlt3 k.size⟩)
  have KA := Lib.hid ((Kept.refl w2).alloc #[.int .i64 7, .int .i64 (x : Int), .int .i64 (1000 * (y : Int)), .string ⟨#[]⟩, .slice hb.p 0 hb.c, .slice hb.q 0 hb.e] 32)
  have BA := Lib.hid (Blk.fresh w2 #[.int .i64 7, .int .i64 (x : Int), .int .i64 (1000 * (y : Int)), .string ⟨#[]⟩, .slice hb.p 0 hb.c, .slice hb.q 0 hb.e] 32)
  have WR := Lib.hid (OpsWrite_any [(RO x y, h1), (XO x y, h2)] (some ⟨b, off, none⟩) c _ (hr2.any.kept KA.out) (HF.out.kept (K2.out.trans KA.out)) (HF.out.kept (K2.out.trans KA.out)).1 ROK.out (by simp) 100
    (fun o ho => by
      have ho' : o ∈ [RO x y, XO x y] := ho
      simp only [List.mem_cons, List.not_mem_nil, or_false] at ho'
      rcases ho' with rfl | rfl
      · exact RC.out.2.1
      · exact RC.out.2.2) (by decide) 1 RC.out.1.symm ⟨#[]⟩ (by
      show _ = (⟨(opsT [RO x y, XO x y]).toArray⟩ : ByteArray)
      unfold opsT
      rw [RC.out.1, if_pos (by decide)]))
  simp only [List.length_cons, List.length_nil, Nat.zero_add, Nat.reduceAdd] at WR
  obtain ⟨m0, m1, m3, n1, n2, q4, r0, r1, r2, r3, r4, r5, z1, z2, z3, z4⟩ := KD.out w2 (Kept.refl w2)
  have hxw : wrap64 (1000 * (x : Int)) = 1000 * (x : Int) := by unfold wrap64; omega
  have hyw : wrap64 (1000 * (y : Int)) = 1000 * (y : Int) := by unfold wrap64; omega
  clear hk2 hm2 hr2 c0 c1 c2 c3 l1 l2 l3 d1 d2 f0 f1 f2 f3 f4 f5 g0 g1 g2 g3 g4 g5 hlt hlt1 hlt2 hlt3 PA hp1 hp2 hp3
  go_wp2_with fail
  (with_reducible refine WR.out.mono ?_)
  rintro e w3 ⟨rfl, hk3⟩
  have K3 := Lib.hid ((K2.out.trans KA.out).trans hk3)
  have B3 := Lib.hid (BA.out.kept hk3)
  clear m0 m1 m3 n1 n2 q4 r0 r1 r2 r3 r4 r5 z1 z2 z3 z4
  obtain ⟨m0, m1, m3, n1, n2, q4, r0, r1, r2, r3, r4, r5, z1, z2, z3, z4⟩ := KD.out w3 (KA.out.trans hk3)
  obtain ⟨v0, v1, v2, v3, v4, v5⟩ := B3.out.cells6
  clear hk3
  go_wp2_with fail
  go_ret
  exact ⟨rfl, K3.out⟩

end Go.Proofs.YtkpagahnmbchjaaGreatDoor
