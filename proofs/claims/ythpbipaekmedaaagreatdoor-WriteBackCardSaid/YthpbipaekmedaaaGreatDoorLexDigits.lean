/-
  What package lex's digitText answers: the Text behind "<".
-/
import Derived.Test.YthpbipaekmedaaaGreatDoorLexW1
import Derived.Outline
namespace Go.Proofs.YthpbipaekmedaaaGreatDoor
open Go.RowKit

/-- The last of the bytes, and one in its place. -/
theorem Owns.last {w : World} {B : Nat} {v : Value} {acc : List UInt8} {u : UInt8} (h : Owns w B v (acc ++ [u])) :
    ∃ g cap, v = .slice (some ⟨g, 0, none⟩) (acc.length + 1) cap ∧ B ≤ g ∧ w.cell? ⟨g, acc.length, none⟩ = some (.int .u8 (u.toNat : Int)) ∧ w.frozen? ⟨g, acc.length, none⟩ = false ∧
      (∀ b cs t, Blk w b cs t → t ≠ 5 → b ≠ g) ∧ ∀ x : UInt8, Owns (w.setCell ⟨g, acc.length, none⟩ (.int .u8 (x.toNat : Int))) B v (acc ++ [x]) := by
  have h0 := h
  unfold Owns at h
  rw [List.length_append, List.length_singleton] at h
  rcases h.2 with ⟨_, h0⟩ | ⟨g, cap, cur, rfl, hb, hh, hn, hc, hs, ht⟩
  · omega
  · have hcell := World.ownsRow.cellAt h acc.length (by omega)
    have hl : acc.length < cur.size := by omega
    refine ⟨g, cap, rfl, hb, ?_, ?_, ?_, ?_⟩
    · rw [hcell]; simp [bytesV]
    · exact Blk.frozen (show Blk w g cur 5 from hh) _
    · intro b cs t hbk hne e
      have := h0.ne hbk hne
      simp [Value.ownBlock] at this
      exact this e
    · intro x
      unfold Owns
      rw [List.length_append, List.length_singleton]
      refine ⟨by simp [bytesV], .inr ⟨g, cap, cur.setIfInBounds acc.length (.int .u8 (x.toNat : Int)), rfl, hb, heap_setCell_same w g acc.length cur _ _ hh, hn, hc, by simpa using hs, ?_⟩⟩
      rw [Nat.mul_one] at ht ⊢
      rw [bytesV_app] at ht ⊢
      have hlen : (cur.setIfInBounds acc.length (.int .u8 (x.toNat : Int))).toList = cur.toList.set acc.length (.int .u8 (x.toNat : Int)) := by simp
      rw [hlen, List.take_set, ht, List.set_append_right _ _ (by simp [bytesV])]
      simp [bytesV]

theorem Run.last {w wr : World} {s : ByteArray} {k : Nat} {v : Value} {acc : List UInt8} {u : UInt8} (h : Run w s k (acc ++ [u]) v wr) :
    ∃ g cap, v = .slice (some ⟨g, 0, none⟩) (acc.length + 1) cap ∧ wr.cell? ⟨g, acc.length, none⟩ = some (.int .u8 (u.toNat : Int)) ∧ wr.frozen? ⟨g, acc.length, none⟩ = false ∧
      ∀ x : UInt8, Run w s k (acc ++ [x]) v (wr.setCell ⟨g, acc.length, none⟩ (.int .u8 (x.toNat : Int))) := by
  obtain ⟨g, cap, hv, hB, hc, hf, hd, hs⟩ := h.own.last
  exact ⟨g, cap, hv, hc, hf, fun x => ⟨h.kept.set hB _, h.res.other (hd _ _ _ h.res (by decide)) _, ⟨h.here.1.other (hd _ _ _ h.here.1 (by decide)) _, h.here.2.other (hd _ _ _ h.here.2 (by decide)) _⟩, hs x⟩⟩

theorem hexD_lt {c : UInt8} (h : Lx.isHex c = true) : (Lx.hexV c).toNat < 16 := by
  have := Lx.byte_all (fun c => !Lx.isHex c || decide ((Lx.hexV c).toNat < 16)) (by kernel_rfl) c
  rw [h] at this; simpa using this
theorem hex_or (u : UInt8) {c : UInt8} (hc : Lx.isHex c = true) : bits BinOp.or IntKind.u8 (u.toNat : Int) ((Lx.hexV c).toNat : Int) = ((u ||| Lx.hexV c).toNat : Int) := by
  have key : (List.range 256).all (fun a => (List.range 16).all fun b => bits BinOp.or IntKind.u8 ((UInt8.ofNat a).toNat : Int) ((UInt8.ofNat b).toNat : Int) == ((UInt8.ofNat a ||| UInt8.ofNat b).toNat : Int)) = true := by kernel_rfl
  have h1 := List.all_eq_true.1 (List.all_eq_true.1 key _ (List.mem_range.2 u.toNat_lt)) _ (List.mem_range.2 (hexD_lt hc))
  simpa using h1
theorem hex_shl {c : UInt8} (hc : Lx.isHex c = true) : ((Lx.hexV c).toNat : Int) * (16 : Int) % (256 : Int) = ((Lx.hexV c <<< 4).toNat : Int) := by
  have key : (List.range 16).all (fun a => ((UInt8.ofNat a).toNat : Int) * (16 : Int) % (256 : Int) == ((UInt8.ofNat a <<< 4).toNat : Int)) = true := by kernel_rfl
  have h1 := List.all_eq_true.1 key _ (List.mem_range.2 (hexD_lt hc))
  simpa using h1

set_option maxRecDepth 100000 in
set_option maxHeartbeats 4000000 in
theorem digitText_any (s : ByteArray) (k : Nat) (w : World) (hk : k ≤ s.size) (hs : s.size ≤ 4294967296) (T : Int × Lx.Tok) (hT : T = Lx.ofR3 3 (Lx.hexGo [] none (s.data.toList.drop k) k)) :
    Calls Tryz.prog 88 #[.string s, .int .i64 k] w fun e w' =>
      e = .returned (.tuple #[.agg #[.int .i64 T.2.kind, .int .i64 T.2.f, .string ⟨T.2.s.toArray⟩, .bool T.2.whole, .int .i64 T.2.frm, .int .i64 T.2.to], .int .i64 T.1]) ∧ Kept w w' := by
  have HT := Lib.hid hT
  clear hT
  go_enter Tryz.func88, Tryz.ntmps88
  go_wp2_with fail
  refine (over_any s k _).mono ?_
  rintro e w' ⟨rfl, rfl⟩
  have hrun := open_run s k w
  go_wp2_with fail
  go_loopg [8, 9] (s.size - k) (fun n v x wr => ∃ (j : Nat) (h : Option UInt8) (acc : List UInt8), n = s.size - j ∧ j ≤ s.size ∧ x = .bool h.isSome ∧ acc.length + 1 ≤ j + 1 ∧ Run w s j (acc ++ h.toList) v wr ∧ Hid (T = Lx.ofR3 3 (Lx.hexGo acc h (s.data.toList.drop j) j)))
  case atStart => exact ⟨k, none, [], rfl, hk, rfl, by simp, hrun, HT⟩
  case round =>
    clear hrun
    obtain ⟨j, h, acc, hn, hj, rfl, hl, hr, HE⟩ := hrel
    have HR := Lib.hid hr
    clear hr
    by_cases hlt : j < s.size
    · have HD := Lib.hid (drop_cons s j hlt)
      go_wp2_with fail
      refine (take_yes _ #[] (fun _ => true) ent_anyByte s _ j _ HR.out.here hlt (by omega) (fits_anyByte _) rfl).mono ?_
      rintro e w2 ⟨rfl, ha, hg⟩
      have HR2 := Lib.hid (HR.out.take ha hg)
      have hB : w.heap.size ≤ w2.heap.size := Below.size HR2.out.kept
      obtain ⟨r0, r1, r2, r3, r4, r5⟩ := HR2.out.res.cells6
      have rf := HR2.out.res.free
      clear ha hg
      by_cases h62 : s[j] = 62
      · have e1 := byte_is h62 62 rfl
        have HV := Lib.hid (show T = (0, ⟨3, 0, acc ++ h.toList, false, 0, j + 1⟩) by rw [HE.out, HD.out, Lx.hex_done h62]; rfl)
        have hcv := HR2.out.drew.own.string
        clear h62
        go_wp2_with fail
        go_region_with (go_at_call 106; refine (place_any s _ _ _ HR2.out.drew.here).mono ?_; rintro e w' ⟨rfl, rfl⟩)
        all_goals
          go_wp2_with fail
          refine bodyPost_ret (v := .tuple #[.agg #[.int .i64 3, .int .i64 0, .string ⟨(acc ++ h.toList).toArray⟩, .bool false, .int .i64 0, .int .i64 (j + 1 : Nat)], .int .i64 0]) ?_ rfl ⟨by rw [HV.out]; first | done | rfl, ?_⟩
          · simp [results, Tryz.results88, go_sem, r0, r1, r2, r3, r4, r5]
          · repeat (with_reducible first | exact HR2.out.kept | refine Kept.drew ?_ | refine Kept.set ?_ (Nat.le_refl _) _)
      have e62 := byte_not h62 62 rfl
      cases hw : Lx.white s[j]
      · cases hx : Lx.isHex s[j]
        · have HV := Lib.hid (show T = (3, Lx.zero) by rw [HE.out, HD.out, Lx.hex_bad h62 hw hx]; rfl)
          clear h62
          go_wp2_with fail
          refine (White_any _ _).mono ?_
          rintro e w' ⟨rfl, rfl⟩
          rw [hw]
          go_wp2_with fail
          refine (isDigit16_any _ _).mono ?_
          rintro e w' ⟨rfl, rfl⟩
          rw [hx]
          go_wp2_with fail
          refine bodyPost_ret (v := .tuple #[.agg #[.int .i64 0, .int .i64 0, .string ⟨#[]⟩, .bool false, .int .i64 0, .int .i64 0], .int .i64 3]) ?_ rfl ⟨by rw [HV.out]; first | done | rfl, ?_⟩
          · simp [results, Tryz.results88, go_sem, r0, r1, r2, r3, r4, r5]
          · repeat (with_reducible first | exact HR2.out.kept | refine Kept.drew ?_ | refine Kept.set ?_ (Nat.le_refl _) _)
        · go_wp2_with fail
          refine (White_any _ _).mono ?_
          rintro e w' ⟨rfl, rfl⟩
          rw [hw]
          go_wp2_with fail
          refine (isDigit16_any _ _).mono ?_
          rintro e w' ⟨rfl, rfl⟩
          rw [hx]
          cases h with
          | none =>
            have HV := Lib.hid (show T = Lx.ofR3 3 (Lx.hexGo acc (some (Lx.hexV s[j] <<< 4)) (s.data.toList.drop (j + 1)) (j + 1)) by rw [HE.out, HD.out, Lx.hex_first hx])
            have HO := Lib.hid (show Owns w2 w.heap.size _ acc by have := HR2.out.own; simpa using this)
            clear h62
            go_wp2_with fail
            refine (digit16_any _ _ hx).mono ?_
            rintro e w' ⟨rfl, rfl⟩
            have HSH := Lib.hid (hex_shl hx)
            go_wp2_with (at_builtin; refine wpList_app_bytes rfl _ _ rfl w.heap.size _ acc rfl HO.out [Lx.hexV s[j] <<< 4] _ (by rw [HSH.out]; rfl) 1 _ rfl rfl hB (by simp; omega) ?_)
            intro v' w3 hown3 hgrow
            have HR3 := Lib.hid ((HR2.out.alloc _).app (acc := acc ++ (none : Option UInt8).toList) (news := [Lx.hexV s[j] <<< 4]) (by simp) (by simp) hown3 hgrow)
            clear hown3 hgrow
            go_wp2_with fail
            go_roundg (s.size - (j + 1))
            case measure => omega
            case rel => exact ⟨j + 1, some _, acc, rfl, by omega, rfl, by omega, by simpa using HR3.out, HV⟩
          | some u =>
            have HV := Lib.hid (show T = Lx.ofR3 3 (Lx.hexGo (acc ++ [u ||| Lx.hexV s[j]]) none (s.data.toList.drop (j + 1)) (j + 1)) by rw [HE.out, HD.out, Lx.hex_second hx])
            have hR : Run w s (j + 1) (acc ++ [u]) _ w2 := HR2.out
            obtain ⟨g, cap, rfl, hcell, hfroz, hset⟩ := hR.drew.last
            have HS := Lib.hid (hset (u ||| Lx.hexV s[j]))
            have hX := hex_or u hx
            clear h62 hR hset
            obtain ⟨m, hm⟩ : ∃ m, m = acc.length := ⟨_, rfl⟩
            rw [← hm] at hcell hfroz HR HR2 HS hl ⊢
            have HM := Lib.hid hm
            clear hm
            go_wp2_with fail
            have hw2 : IntKind.i64.wrap ((m : Int) + 1 - 1) = m := by rw [Int.add_sub_cancel]; exact IntWalk.i64_in _ (by omega)
            have hw3 : IntKind.i64.wrap (m : Int) = m := IntWalk.i64_in _ (by omega)
            have hb1 : (0 : Int) ≤ m := by omega
            have hb2 : (m : Int) < (m : Int) + 1 := by omega
            go_region_with (go_at_call 110; refine (digit16_any _ _ hx).mono ?_; rintro e w' ⟨rfl, rfl⟩)
            all_goals
              clear hw2 hw3
              have HL := Lib.hid hl
              go_wp2_with fail
              go_roundg (s.size - (j + 1))
              case measure => omega
              case rel => exact ⟨j + 1, none, acc ++ [u ||| Lx.hexV s[j]], rfl, by omega, rfl, by have := HM.out; simp; omega, by rw [show (none : Option UInt8).toList = [] from rfl, List.append_nil]; exact HS.out, HV⟩
      · have HV := Lib.hid (show T = Lx.ofR3 3 (Lx.hexGo acc h (s.data.toList.drop (j + 1)) (j + 1)) by rw [HE.out, HD.out, Lx.hex_white h62 hw])
        clear h62
        go_wp2_with fail
        refine (White_any _ _).mono ?_
        rintro e w' ⟨rfl, rfl⟩
        rw [hw]
        go_wp2_with fail
        go_roundg (s.size - (j + 1))
        case measure => omega
        case rel => exact ⟨j + 1, h, acc, rfl, by omega, rfl, by omega, HR2.out, HV⟩
    · obtain rfl : j = s.size := by omega
      have HV := Lib.hid (show T = (4, Lx.zero) by rw [HE.out, drop_end s s.size (Nat.le_refl _), Lx.hex_end]; rfl)
      obtain ⟨r0, r1, r2, r3, r4, r5⟩ := HR.out.res.cells6
      have rf := HR.out.res.free
      go_wp2_with fail
      refine (take_end _ #[] s _ _ HR.out.here).mono ?_
      rintro e w' ⟨rfl, rfl⟩
      go_wp2_with fail
      refine bodyPost_ret (v := .tuple #[.agg #[.int .i64 0, .int .i64 0, .string ⟨#[]⟩, .bool false, .int .i64 0, .int .i64 0], .int .i64 4]) ?_ rfl ⟨by rw [HV.out]; first | done | rfl, ?_⟩
      · simp [results, Tryz.results88, go_sem, r0, r1, r2, r3, r4, r5]
      · repeat (with_reducible first | exact HR.out.kept | refine Kept.drew ?_ | refine Kept.set ?_ (Nat.le_refl _) _)

end Go.Proofs.YthpbipaekmedaaaGreatDoor
