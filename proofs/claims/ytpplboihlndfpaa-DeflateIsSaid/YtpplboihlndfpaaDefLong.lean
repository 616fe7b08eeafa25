/-
  The longest match at a place.
-/
import Derived.Test.YtpplboihlndfpaaDefSame
namespace Go.Proofs.Ytpplboihlndfpaa
open Go.RowKit Dx
set_option linter.unusedSimpArgs false
set_option linter.unusedVariables false

theorem run_least' {P : Program} {w : World} (ts : Array TypeId) (t : TypeId) (k k' : IntKind) (x y : Int) : (Builtin.min_ ts t #[.int k x, .int k' y]).run P w = .ok (.int k (min x y)) w := by
  rw [run_min_int2]; congr 2; split <;> omega
attribute [local go_sem ↓] run_least'

/-- What nextAhead says of a place, as a number. -/
def nearI (o : Option Nat) : Int := match o with
  | none => -1
  | some j => (j : Int)
def ahdI (b : List UInt8) (i : Nat) : Int := nearI (ahd b i)
theorem ahdI_none {b : List UInt8} {i : Nat} (h : ahd b i = none) : ahdI b i = -1 := by unfold ahdI; rw [h]; rfl
theorem ahdI_some {b : List UInt8} {i j : Nat} (h : ahd b i = some j) : ahdI b i = j := by unfold ahdI; rw [h]; rfl
/-- Where the same three bytes stand, three bytes at least are the same. -/
theorem three_M {b : List UInt8} {i j : Nat} (h : at' b j = at' b i ∧ at' b (j + 1) = at' b (i + 1) ∧ at' b (j + 2) = at' b (i + 2)) (hi : i + 3 ≤ b.length) : 3 ≤ M b i j := by
  have ht : 3 ≤ top b i := by unfold top; omega
  have hle := M_le b i j
  by_cases c : M b i j < 3
  · exfalso
    have hne := mat_ne b i j (top b i) (show mat b i j (top b i) < top b i by unfold M at c; omega)
    unfold M at c
    rcases (show mat b i j (top b i) = 0 ∨ mat b i j (top b i) = 1 ∨ mat b i j (top b i) = 2 by omega) with e | e | e <;> rw [e] at hne
    · exact hne h.1.symm
    · exact hne h.2.1.symm
    · exact hne h.2.2.symm
  · omega
theorem M_lt_of {b : List UInt8} {i t : Nat} (h : ¬ (at' b t = at' b i ∧ at' b (t + 1) = at' b (i + 1) ∧ at' b (t + 2) = at' b (i + 2))) : M b i t < 3 := by
  by_cases c : 3 ≤ M b i t
  · obtain ⟨a1, a2, a3⟩ := M_three c
    exact absurd ⟨a1.symm, a2.symm, a3.symm⟩ h
  · omega
/-- What is left of a search: the places below lo. -/
structure Lf (b : List UInt8) (i : Nat) (jv : Int) (lo n d : Nat) : Prop where
  best : Best b i lo i n d
  le : lo ≤ i
  next : jv = nearI (near b i lo)
  room : i + 3 ≤ b.length
theorem Lf.done {b : List UInt8} {i lo n d : Nat} {jv : Int} (h : Lf b i jv lo n d) (e : near b i lo = none) : long b i = (n, d) := by
  refine long_is (h.best.down fun t ht _ => .inl (M_lt_of (near_none b i lo t (fun j hj => by rw [e] at hj; cases hj) ht)))
theorem Lf.far {b : List UInt8} {i lo n d j : Nat} {jv : Int} (h : Lf b i jv lo n d) (e : near b i lo = some j) (hf : j + 32768 < i) : long b i = (n, d) := by
  refine long_is (h.best.down fun t ht h2 => .inl (M_lt_of (near_none b i lo t (fun k hk => by rw [e] at hk; injection hk with hk; omega) ht)))
theorem Lf.full {b : List UInt8} {i lo n d : Nat} {jv : Int} (h : Lf b i jv lo n d) (e : top b i ≤ n) : long b i = (n, d) :=
  long_is (h.best.down fun t _ _ => .inr (Nat.le_trans (M_le b i t) e))
theorem Lf.step {b : List UInt8} {i lo n d j : Nat} {jv : Int} (h : Lf b i jv lo n d) (e : near b i lo = some j) (hf : i ≤ j + 32768) :
    (n < M b i j → Lf b i (ahdI b j) j (M b i j) (i - j)) ∧ (M b i j ≤ n → Lf b i (ahdI b j) j n d) := by
  have hj := near_lt b i lo j e
  have h3 := near_is b i lo j e
  have hm := three_M h3 h.room
  have hlo := h.le
  have hr := h.room
  have hb := h.best.below j hj (Nat.le_refl _) h.le hm hf (fun t h1 h2 => M_lt_of (near_none b i lo t (fun k hk => by rw [e] at hk; injection hk with hk; omega) h2))
  have ha : ahdI b j = nearI (near b i j) := by
    unfold ahdI ahd
    rw [if_pos (by omega), near_same h3]
  exact ⟨fun c => ⟨hb.1 c, by omega, ha, hr⟩, fun c => ⟨hb.2 c, by omega, ha, hr⟩⟩
theorem Lf.cases {b : List UInt8} {i lo n d : Nat} {jv : Int} (h : Lf b i jv lo n d) : (jv = -1 ∧ long b i = (n, d)) ∨ ∃ j : Nat, jv = (j : Int) ∧ near b i lo = some j ∧ j < lo := by
  rw [h.next]
  cases e : near b i lo with
  | none => exact .inl ⟨rfl, h.done e⟩
  | some j => exact .inr ⟨j, rfl, rfl, near_lt b i lo j e⟩
theorem Lf.start {b : List UInt8} {i : Nat} (h : i + 3 ≤ b.length) : Lf b i (ahdI b i) i 0 0 :=
  ⟨Best.start b i i, Nat.le_refl _, by unfold ahdI ahd; rw [if_pos h], h⟩
theorem Lf.best_le {b : List UInt8} {i lo n d : Nat} {jv : Int} (h : Lf b i jv lo n d) : n ≤ top b i ∧ d ≤ i := by
  by_cases e : n = 0
  · rw [e, h.best.none e]; omega
  · obtain ⟨a1, a2, a3, a4, a5, a6, a7⟩ := h.best.some e
    have := M_le b i (i - d)
    omega

set_option maxRecDepth 100000 in
set_option maxHeartbeats 4000000 in
theorem longest_any (b : List UInt8) (i : Nat) {w : World} {sb ga : Nat} {p : Option Addr} {c : Nat} (h : Se w sb p c b (.slice (some ⟨ga, 0, none⟩) b.length b.length)) (ha : Arr w ga b.length (ahdI b) 3) (hi : i < b.length) (hB : b.length ≤ 1099511627776) :
    Calls Try.prog 28 #[.pointer (some ⟨sb, 0, none⟩), .int .i64 i] w fun e w' => e = .returned (.tuple #[.int .i64 (long b i).1, .int .i64 (long b i).2]) ∧ Kept w w' := by
  have HS := Lib.hid h
  have HA := Lib.hid ha
  obtain ⟨c0, c1⟩ := h.blk.cells2
  have c2 := ha.cell i hi
  have ht := top_le b i
  have ht0 : (min 258 ((b.length : Int) - (i : Int))) = (top b i : Int) := by unfold top; omega
  obtain ⟨q, hq⟩ : ∃ q, q = b.length - i := ⟨_, rfl⟩
  have s1 : (b.length : Int) - (i : Int) = (q : Int) := by omega
  have s2 : IntKind.i64.wrap (q : Int) = (q : Int) := IntWalk.i64_in _ (by omega)
  rw [s1] at ht0
  have HI := Lib.hid hi
  have s3 : (i : Int) < (b.length : Int) := by omega
  clear h ha hq
  by_cases hroom : i + 3 ≤ b.length
  · have L0 := Lib.hid (Lf.start hroom)
    obtain ⟨j0, hj0⟩ : ∃ j0, j0 = ahdI b i := ⟨_, rfl⟩
    rw [← hj0] at c2 L0
    obtain ⟨T, hT⟩ : ∃ T, T = top b i := ⟨_, rfl⟩
    rw [← hT] at ht0 ht
    have HT := Lib.hid hT
    clear hj0 hT hroom
    go_enter Try.func28, Try.ntmps28
    go_wp2_with fail
    clear c0 c1 c2
    go_loopg [4, 5, 7] i (fun m x y z wr => ∃ (lo n d : Nat) (jv : Int), m = lo ∧ x = .int .i64 n ∧ y = .int .i64 d ∧ z = .int .i64 jv ∧ Hid (Lf b i jv lo n d) ∧ Kept w wr)
    case atStart => exact ⟨i, 0, 0, j0, rfl, rfl, rfl, rfl, L0, Kept.refl w⟩
    case round =>
      obtain ⟨lo, n, d, jv, rfl, rfl, rfl, rfl, HL, hk⟩ := hrel
      have HK := Lib.hid hk
      have HR := Lib.hid (HS.out.kept hk)
      have HAR := Lib.hid (HA.out.kept hk)
      clear hk
      have hn := HL.out.best_le
      rw [← HT.out] at hn
      have hlo := HL.out.le
      rcases HL.out.cases with ⟨rfl, hd⟩ | ⟨j, rfl, hnear, hjl⟩
      · have HD := Lib.hid hd
        clear hd
        go_wp2_with fail
        go_ret2
        exact ⟨by rw [HD.out]; rfl, HK.out⟩
      · have HN := Lib.hid hnear
        clear hnear
        have j1 : ((j : Int) != -1) = true := by rw [bne_iff_ne]; omega
        obtain ⟨r, hr⟩ : ∃ r, r = i - j := ⟨_, rfl⟩
        have j2 : (i : Int) - (j : Int) = (r : Int) := by omega
        have j3 : IntKind.i64.wrap (r : Int) = (r : Int) := IntWalk.i64_in _ (by omega)
        have HRR := Lib.hid hr
        by_cases hf : j + 32768 < i
        · have HD := Lib.hid (HL.out.far HN.out hf)
          have j4 : ¬ (r : Int) ≤ 32768 := by omega
          clear hf hr
          go_wp2_with fail
          go_ret2
          exact ⟨by rw [HD.out]; rfl, HK.out⟩
        · have j4 : (r : Int) ≤ 32768 := by omega
          by_cases hfull : n < T
          · have j5 : (n : Int) < (T : Int) := by omega
            obtain ⟨S1, S2⟩ := HL.out.step HN.out (by omega)
            have H1 := Lib.hid S1
            have H2 := Lib.hid S2
            obtain ⟨x, hx⟩ : ∃ x, x = j + n := ⟨_, rfl⟩
            obtain ⟨y, hy⟩ : ∃ y, y = i + n := ⟨_, rfl⟩
            have hxl : x < b.length := by omega
            have hyl : y < b.length := by omega
            have t1 : (j : Int) + (n : Int) = (x : Int) := by omega
            have t2 : (i : Int) + (n : Int) = (y : Int) := by omega
            have t3 : IntKind.i64.wrap (x : Int) = (x : Int) := IntWalk.i64_in _ (by omega)
            have t4 : IntKind.i64.wrap (y : Int) = (y : Int) := IntWalk.i64_in _ (by omega)
            have t5 : (x : Int) < (b.length : Int) := by omega
            have t6 : (y : Int) < (b.length : Int) := by omega
            obtain ⟨c0, c1⟩ := HR.out.blk.cells2
            obtain ⟨kb, o, hp, hkb, hcx⟩ := HR.out.byt x hxl
            obtain ⟨kb2, o2, hp2, hkb2, hcy⟩ := HR.out.byt y hyl
            have e := Option.some.inj (hp.symm.trans hp2)
            obtain ⟨rfl, rfl⟩ : kb = kb2 ∧ o = o2 := ⟨congrArg Addr.block e, congrArg Addr.off e⟩
            subst hp
            have HU := Lib.hid (at_getElem b x hxl)
            have HV := Lib.hid (at_getElem b y hyl)
            obtain ⟨u, hu⟩ : ∃ u, u = b[x] := ⟨_, rfl⟩
            obtain ⟨v, hv⟩ : ∃ v, v = b[y] := ⟨_, rfl⟩
            rw [← hu] at hcx HU
            rw [← hv] at hcy HV
            have HX := Lib.hid hx
            have HY := Lib.hid hy
            have hji : j < b.length := by omega
            have hjI : (j : Int) < (b.length : Int) := by omega
            have hca := HAR.out.cell j hji
            obtain ⟨jn, hjn⟩ : ∃ jn, jn = ahdI b j := ⟨_, rfl⟩
            rw [← hjn] at hca H1 H2
            have HJL := Lib.hid hjl
            have SM := Lib.hid (fun w' (k : Kept wr w') => same_any b i j T (HR.out.kept k) (by omega) (by omega) (by omega) hB)
            have HMT := Lib.hid (show M b i j = mat b i j T by rw [HT.out]; rfl)
            clear hu hv hp2 e hx hy hjn hr S1 S2 hf hfull
            by_cases huv : u = v
            · have hne : ((u.toNat : Int) != (v.toNat : Int)) = false := by rw [huv]; simp
              clear huv
              go_wp2_with fail
              go_quiet (fail)
              go_wp2_with fail
              (with_reducible refine (SM.out _ ((Kept.refl wr).drewN _)).mono ?_)
              rintro e w2 ⟨rfl, hk2⟩
              have K2 := Lib.hid (((HK.out.drewN nq).trans hk2))
              have K12 := Lib.hid (((Kept.refl wr).drewN nq).trans hk2)
              obtain ⟨d0, d1⟩ := (HR.out.kept K12.out).blk.cells2
              have dca := K12.out.cells.1 ga j (by have := HAR.out.lt; omega)
              rw [hca] at dca
              rw [← HMT.out]
              obtain ⟨mm, hmm⟩ : ∃ mm, mm = M b i j := ⟨_, rfl⟩
              rw [← hmm] at H1 H2 ⊢
              have hmt : mm ≤ T := by rw [hmm, HT.out]; exact M_le b i j
              clear hk2 hmm c0 c1 hca
              by_cases hgt : n < mm
              · have g1 : (n : Int) < (mm : Int) := by omega
                have HG := Lib.hid hgt
                clear hgt
                go_wp2_with fail
                go_roundg j
                case measure => exact HJL.out
                case rel => exact ⟨j, mm, i - j, jn, rfl, rfl, by rw [HRR.out], rfl, Lib.hid (H1.out HG.out), K2.out⟩
              · have g1 : ¬ (n : Int) < (mm : Int) := by omega
                have HG := Lib.hid (show mm ≤ n by omega)
                clear hgt
                go_wp2_with fail
                go_roundg j
                case measure => exact HJL.out
                case rel => exact ⟨j, n, d, jn, rfl, rfl, rfl, rfl, Lib.hid (H2.out HG.out), K2.out⟩
            · have hne : ((u.toNat : Int) != (v.toNat : Int)) = true := by
                rw [bne_iff_ne]; intro e; exact huv (UInt8.toNat_inj.1 (by omega))
              have HG := Lib.hid (show M b i j ≤ n by
                by_cases cc : n < M b i j
                · have z := mat_eq b i j (top b i) n cc
                  exfalso; apply huv
                  rw [HU.out, HV.out, HX.out, HY.out]; exact z.symm
                · omega)
              clear huv
              go_wp2_with fail
              go_quiet (fail)
              go_wp2_with fail
              go_roundg j
              case measure => exact HJL.out
              case rel => exact ⟨j, n, d, jn, rfl, rfl, rfl, rfl, Lib.hid (H2.out HG.out), HK.out.drewN _⟩
          · have HD := Lib.hid (HL.out.full (by rw [← HT.out]; omega))
            have j5 : ¬ (n : Int) < (T : Int) := by omega
            clear hr hfull
            go_wp2_with fail
            go_ret2
            exact ⟨by rw [HD.out]; rfl, HK.out⟩
  · have e0 : ahdI b i = -1 := ahdI_none (if_neg hroom)
    have HD := Lib.hid (show long b i = (0, 0) from long_is (by
      refine (Best.start b i i).down fun t ht' _ => .inl ?_
      have := M_le b i t
      have h2 := (top_le b i).2
      omega))
    rw [e0] at c2
    obtain ⟨T, hT⟩ : ∃ T, T = top b i := ⟨_, rfl⟩
    rw [← hT] at ht0 ht
    clear hT hroom e0
    go_enter Try.func28, Try.ntmps28
    go_wp2_with fail
    clear c0 c1 c2
    go_loopg [4, 5, 7] i (fun m x y z wr => x = .int .i64 0 ∧ y = .int .i64 0 ∧ z = .int .i64 (-1) ∧ Kept w wr)
    case atStart => exact ⟨rfl, rfl, rfl, Kept.refl w⟩
    case round =>
      obtain ⟨rfl, rfl, rfl, hk⟩ := hrel
      have HK := Lib.hid hk
      clear hk
      go_wp2_with fail
      go_ret2
      exact ⟨by rw [HD.out]; rfl, HK.out⟩

end Go.Proofs.Ytpplboihlndfpaa
