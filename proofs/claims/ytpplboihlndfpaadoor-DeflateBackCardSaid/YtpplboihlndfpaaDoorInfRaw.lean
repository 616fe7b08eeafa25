/-
  Blocks up to the last one: Raw.
-/
import Derived.Test.YtpplboihlndfpaaDoorInfCatch
namespace Go.Proofs.YtpplboihlndfpaaDoor
open Go.RowKit Ix
set_option linter.unusedSimpArgs false
set_option linter.unusedVariables false

/-- What Raw leaves. -/
def RawA (w : World) (r : Except Int (List UInt8 × Nat)) (e : Ending) (w' : World) : Prop := Kept w w' ∧ match r with
  | .error k => e = .returned (.tuple #[.slice none 0 0, .int .i64 0, .int .i64 k])
  | .ok (o, n) => ∃ v, e = .returned (.tuple #[v, .int .i64 n, .int .i64 0]) ∧ Out w' w.heap.size v o ∧ o.length ≤ 1048576

theorem pressGo_ge (S D : List Nat) (B : List UInt8) : ∀ f t out o t', pressGo S D B f t out = .ok (o, t') → t ≤ t' := by
  intro f
  induction f with
  | zero => intro t out o t' h; cases h
  | succ f ih =>
    intro t out o t' h
    rw [pressGo] at h
    split at h
    · cases h
    · rename_i s t1 h1
      have a1 := sym_lt h1
      split at h
      · split at h
        · cases h
        · have := ih _ _ _ _ h; omega
      · split at h
        · injection h with h; injection h with h2 h3; omega
        · split at h
          · cases h
          · split at h
            · cases h
            · rename_i n t2 h2
              have a2 := (lenV_ge h2).1
              split at h
              · cases h
              · rename_i bk t3 h3
                have a3 := (distV_ge h3).1
                split at h
                · cases h
                · have := ih _ _ _ _ h; omega
theorem block_lt {B : List UInt8} {t t' : Nat} {out o : List UInt8} {last : Bool} (h : blockV B t out = .ok (last, o, t')) : t < t' := by
  unfold blockV at h
  split at h
  · have key : ∀ o t', kindV (numAt B 2 (t + 1)) B (t + 3) out = .ok (o, t') → t < t' := by
      intro o t' h
      unfold kindV at h
      split at h
      · unfold storedV at h
        split at h
        · split at h
          · have := storedGo_ge B _ _ _ _ _ h; unfold up8 at this; omega
          · cases h
        · cases h
      · split at h
        · have := pressGo_ge _ _ _ _ _ _ _ _ h; omega
        · split at h
          · cases ho : ownV B (t + 3) with
            | error k => rw [ho] at h; cases h
            | ok r =>
              obtain ⟨S, D, t1⟩ := r
              rw [ho, ownBlkV] at h
              have a := ownV_ok ho
              have := pressGo_ge _ _ _ _ _ _ _ _ h
              omega
          · cases h
    cases hk : kindV (numAt B 2 (t + 1)) B (t + 3) out with
    | error k => rw [hk] at h; cases h
    | ok x =>
      obtain ⟨o1, t1⟩ := x
      rw [hk] at h
      injection h with h
      have := key _ _ hk
      injection h with h1 h2
      injection h2 with h2 h3
      omega
  · cases h

theorem below_blk {w w' : World} {b k : Nat} {cs : Array Value} {t : TypeId} (h : Blk w k cs t) (g : Below b w w') (hk : k < b) : Blk w' k cs t := (g.block k hk).trans h
theorem kept_below {w w' : World} {b : Nat} (k : Kept w w') (hb : b ≤ w.heap.size) : Below b w w' := ⟨k.os, k.tape, k.output, k.size, fun j hj => k.block j (Nat.lt_of_lt_of_le hj hb)⟩
theorem below_kept {w W w' : World} {b : Nat} (k : Kept w W) (g : Below b W w') (hb : w.heap.size ≤ b) : Kept w w' := ⟨g.os.trans k.os, g.tape.trans k.tape, g.output.trans k.output, Nat.le_trans k.size g.size, fun j hj => (g.block j (Nat.lt_of_lt_of_le hj hb)).trans (k.block j hj)⟩
theorem Blk.one {w : World} {k : Nat} {v : Value} {t : TypeId} (h : Blk w k #[v] t) : w.cell? ⟨k, 0, none⟩ = some v := by rw [h.cell]; rfl

theorem leaves_tmps {fn : Func} {tm tm' : Array Value} {R : Ending → World → Prop} (h : results fn tm = results fn tm') : ∀ (ds : List Deferred) (u : FrameMode) (w : World), Leaves Tryd.prog fn tm R ds u w = Leaves Tryd.prog fn tm' R ds u w := by
  intro ds
  induction ds with
  | nil => intro u w; cases u <;> simp [Leaves, h]
  | cons d ds ih => intro u w; simp only [Leaves, ih]
theorem panic_put {post : Ending → World → Prop} {K : Act → World → Prop} {c : List PanicEntry} {a : Act} {d : Nat} (hd : 4 < d) {v : Value} {w : World} (h : Exit.then K (bodyPostD Tryd.prog Tryd.f17 post) (.panic c) (a.put (some d) v) w) : Exit.then K (bodyPostD Tryd.prog Tryd.f17 post) (.panic c) a w := by
  have hr : results Tryd.f17 (a.put (some d) v).tmps = results Tryd.f17 a.tmps := by
    have g : ∀ i, i ≤ 4 → (a.put (some d) v).tmps[i]? = a.tmps[i]? := by
      intro i hi
      simp only [Act.put, Array.getElem?_setIfInBounds]
      rw [if_neg (by omega)]
    simp only [results, Tryd.results17]
    simp [g]
  have e := leaves_tmps (R := post) hr
  have h' : Leaves Tryd.prog Tryd.f17 (a.put (some d) v).tmps post a.defers (.panicking c) w := h
  rw [e] at h'
  exact h'

theorem Out.low {w : World} {B B' : Nat} {v : Value} {l : List UInt8} (h : Out w B v l) (hB : B' ≤ B) : Out w B' v l := by
  rcases h.2 with ⟨h1, h2⟩ | ⟨g, cap, cur, h1, h2, h3⟩
  · exact ⟨h.1, .inl ⟨h1, h2⟩⟩
  · exact ⟨h.1, .inr ⟨g, cap, cur, h1, Nat.le_trans hB h2, h3⟩⟩
theorem Out.other {w : World} {B k : Nat} {v : Value} {l : List UInt8} (h : Out w B v l) (hk : k < B) (o : Nat) (x : Value) : Out (w.setCell ⟨k, o, none⟩ x) B v l :=
  h.gb (gbS w k o x) (by
    cases hv : v.ownBlock with
    | none => exact .inl rfl
    | some g => exact .inr (by intro e; injection e with e; have := (h.lt g hv).1; omega))
theorem raw_end {w w3 : World} {B : List UInt8} {o : List UInt8} {t b : Nat} {v : Value} (hr : rawV B = .ok (o, (t + 7) / 8)) (k : Kept w w3) (ho : Out w3 (b + 1) v o) (hl : o.length ≤ 1048576) (hb : w.heap.size + 1 + 1 < b) (hb2 : w.heap.size ≤ b) :
    RawA w (rawV B) (.returned (.tuple #[v, .int .i64 (((t : Int) + 7) / 8), .int .i64 0])) (((w3.setCell ⟨w.heap.size, 0, none⟩ v).setCell ⟨w.heap.size + 1, 0, none⟩ (.int .i64 (((t : Int) + 7) / 8))).setCell ⟨w.heap.size + 1 + 1, 0, none⟩ (.int .i64 0)) := by
  unfold RawA
  rw [hr]
  refine ⟨((k.set (Nat.le_refl _) _).set (by show w.heap.size ≤ w.heap.size + 1; omega) _).set (by show w.heap.size ≤ w.heap.size + 1 + 1; omega) _, v, ?_, ?_, hl⟩
  · simp
  · exact (((ho.other (by omega) _ _).other (by omega) _ _).other (by omega) _ _).low (by omega)

set_option maxRecDepth 100000 in
theorem Raw_any (B : List UInt8) (p : Option Addr) (c : Nat) (w : World) (h : ByR w w.heap.size p B) (hB : B.length ≤ 1099511627776) (ho : Ordd w) :
    Calls Tryd.prog 17 #[.slice p B.length c] w (RawA w (rawV B)) := by
  have HB := Lib.hid h
  have HORD := Lib.hid ho
  have HOLT := Lib.hid ho.lt
  clear ho
  have hmf : ∀ (fn : Fn) (first cap : Array Value) (w : World), (Instr.makeFunc fn first cap).run Tryd.prog w = .ok (.func fn first cap) w := fun _ _ _ _ => rfl
  clear h
  go_enter_defers Tryd.func17, Tryd.ntmps17
  go_wp2_with fail
  obtain ⟨W1, hW1⟩ : ∃ W1, W1 = ((((w.alloc (.cells #[.slice none 0 0] 35)).alloc (.cells #[.int .i64 0] 3)).alloc (.cells #[.int .i64 0] 29)).alloc (.cells #[.slice p B.length c, .int .i64 0, .slice none 0 0, .pointer none] 70)) := ⟨_, rfl⟩
  have KW := Lib.hid (show Kept w W1 by rw [hW1]; exact ((((Kept.refl w).allocO _).allocO _).allocO _).allocO _)
  have R0 := Lib.hid (show Blk W1 w.heap.size #[.slice none 0 0] 35 by
    rw [hW1]; exact (((Blk.fresh w _ _).alloc _).alloc _).alloc _)
  have R1 := Lib.hid (show Blk W1 (w.heap.size + 1) #[.int .i64 0] 3 by
    have z := ((Blk.fresh (w.alloc (.cells #[.slice none 0 0] 35)) #[.int .i64 0] 3).alloc (.cells #[.int .i64 0] 29)).alloc (.cells #[.slice p B.length c, .int .i64 0, .slice none 0 0, .pointer none] 70)
    rw [← hW1] at z; simpa using z)
  have R2 := Lib.hid (show Blk W1 (w.heap.size + 1 + 1) #[.int .i64 0] 29 by
    have z := (Blk.fresh ((w.alloc (.cells #[.slice none 0 0] 35)).alloc (.cells #[.int .i64 0] 3)) #[.int .i64 0] 29).alloc (.cells #[.slice p B.length c, .int .i64 0, .slice none 0 0, .pointer none] 70)
    rw [← hW1] at z; simpa using z)
  have R3 := Lib.hid (show Blk W1 (w.heap.size + 1 + 1 + 1) #[.slice p B.length c, .int .i64 ((0 : Nat) : Int), .slice none 0 0, .pointer none] 70 by
    have z := Blk.fresh (((w.alloc (.cells #[.slice none 0 0] 35)).alloc (.cells #[.int .i64 0] 3)).alloc (.cells #[.int .i64 0] 29)) #[.slice p B.length c, .int .i64 0, .slice none 0 0, .pointer none] 70
    rw [← hW1] at z; simpa using z)
  rw [← hW1]
  clear hW1
  have hs1 := R3.out.lt
  have OU := Lib.hid (show Ou W1 w.heap.size (w.heap.size + 1 + 1 + 1) p c B 0 (.slice none 0 0) [] (.pointer none) from
    ⟨⟨R3.out, fun i hi => by
      obtain ⟨k, o, hp, hk, hc⟩ := HB.out i hi
      exact ⟨k, o, hp, hk, by rw [← hc]; exact KW.out.cells.1 _ _ hk⟩, by omega⟩, World.ownsRow_nil _ _ _ _, by simp⟩)
  go_loopg [6] (8 * B.length + 2) (fun m x wr => ∃ (last : Bool) (f t : Nat) (o : List UInt8) (v gv : Value), x = .bool last ∧ m = (if last then 0 else 8 * B.length + 2 - t) ∧ t ≤ 8 * B.length ∧ Ou wr w.heap.size (w.heap.size + 1 + 1 + 1) p c B t v o gv ∧ Gv wr (w.heap.size + 1 + 1 + 1) v gv ∧ Below (w.heap.size + 1 + 1 + 1) W1 wr ∧ Hid (if last then rawV B = .ok (o, (t + 7) / 8) else rawGo B f t o = rawV B) ∧ 8 * B.length + 1 - t ≤ f)
  case atStart => exact ⟨false, 8 * B.length + 1, 0, [], _, _, rfl, rfl, Nat.zero_le _, OU.out, .inl rfl, Below.refl _ _, Lib.hid rfl, Nat.le_refl _⟩
  case round =>
    obtain ⟨last, f, t, o, v, gv, rfl, hm, ht, hou, hgv, hbw, HR, hf⟩ := hrel
    have HO := Lib.hid hou
    have HG := Lib.hid hgv
    have HBW := Lib.hid hbw
    clear hou hgv hbw
    cases last with
    | true =>
      have HV := Lib.hid (show rawV B = .ok (o, (t + 7) / 8) from HR.out)
      obtain ⟨sa, sn, sc, rfl⟩ : ∃ a n c, v = .slice a n c := by
        rcases HO.out.own.parts with ⟨rfl, -⟩ | ⟨g, cap, rfl, -, -⟩ <;> exact ⟨_, _, _, rfl⟩
      have hbs := HO.out.bi.blk.lt
      have c2 := HO.out.bi.cells.2.2.1
      have BG := Lib.hid (fun w' (k : Kept wr w') => begun_any (HO.out.kept k).bi ht hB)
      go_wp2_with fail
      refine wp_region_any (by kernel_rfl) ?_
      change wpAny _ _ _ _ _ _ _ (World.drew _)
      refine wpAny_take (i := 0) (v := ?_) rfl (by kernel_rfl) (by kernel_rfl) (by kernel_rfl) (fun c a w h => panic_put (by decide) h) (Or.inl ⟨by rfl, (by intro w; go_simp; try with_reducible rfl)⟩) ?_
      refine wpAny_take (i := 2) (v := ?_) rfl (by kernel_rfl) (by kernel_rfl) (by kernel_rfl) (fun c a w h => panic_put (by decide) h) (Or.inl ⟨by rfl, (by intro w; go_simp; try with_reducible rfl)⟩) ?_
      refine wpAny_ready (rs := [1, 3]) (by kernel_rfl) (by simp) ?_
      refine AllReady.cons rfl (fun K hK => ?_) (AllReady.cons rfl (fun K hK => ?_) AllReady.nil)
      · go_simp
        refine hK _ _ ?_
        clear hK K
        refine wpAny_ready (rs := [3]) (by kernel_rfl) (by simp) ?_
        refine AllReady.cons rfl (fun K hK => ?_) AllReady.nil
        go_simp
        go_wp2_with fail
        (with_reducible refine (BG.out _ (Kept.refl wr).drew).mono ?_)
        rintro e w3 ⟨rfl, hk3⟩
        have K3 := Lib.hid ((Kept.refl wr).drew.trans hk3)
        have hbw3 := HBW.out.trans (kept_below (b := w.heap.size + 1 + 1 + 1) K3.out (Nat.le_of_lt hbs))
        have HB3 := Lib.hid hbw3
        have q0 := (below_blk R0.out hbw3 (by omega)).one
        have q1 := (below_blk R1.out hbw3 (by omega)).one
        have q2 := (below_blk R2.out hbw3 (by omega)).one
        have qf0 := (below_blk R0.out hbw3 (by omega)).free
        have qf1 := (below_blk R1.out hbw3 (by omega)).free
        have qf2 := (below_blk R2.out hbw3 (by omega)).free
        have c2 := (HO.out.kept K3.out).bi.cells.2.2.1
        have HO3 := Lib.hid (HO.out.kept K3.out)
        clear hk3 hbw3
        go_wp2_with fail
        refine wpAny_ready (rs := [4]) (by kernel_rfl) (by simp) ?_
        refine AllReady.cons rfl (fun K hK => ?_) AllReady.nil
        go_simp
        refine hK _ _ ?_
        clear hK K
        refine wpAny_ready (rs := [5]) (by kernel_rfl) (by simp) ?_
        refine AllReady.cons rfl (fun K hK => ?_) AllReady.nil
        go_simp
        refine hK _ _ ?_
        clear hK K
        refine wpAny_ready (rs := [6]) (by kernel_rfl) (by simp) ?_
        refine AllReady.cons rfl (fun K hK => ?_) AllReady.nil
        go_simp
        refine hK _ _ ?_
        clear hK K
        refine wpAny_done (by kernel_rfl) ?_ _
        go_wp2_with fail
        refine leaves_cons (f := 38) (args := #[.pointer (some ⟨w.heap.size, 0, none⟩), .pointer (some ⟨w.heap.size + 1, 0, none⟩), .pointer (some ⟨w.heap.size + 1 + 1, 0, none⟩)]) (by simp) (by simp [go_sem]) ?_
        refine (catch_idle ⟨w.heap.size, 0, none⟩ ⟨w.heap.size + 1, 0, none⟩ ⟨w.heap.size + 1 + 1, 0, none⟩ _).mono ?_
        rintro e u' w'' ⟨rfl, rfl, rfl⟩
        simp [Leaves, settle, results, Tryd.results17, go_sem, q0, q1, q2]
        exact raw_end HV.out (below_kept KW.out HB3.out (by omega)) HO3.out.own HO.out.len (by omega) (by omega)
      · go_simp
        go_wp2_with fail
        (with_reducible refine (BG.out _ (Kept.refl wr).drew).mono ?_)
        rintro e w3 ⟨rfl, hk3⟩
        have K3 := Lib.hid ((Kept.refl wr).drew.trans hk3)
        have hbw3 := HBW.out.trans (kept_below (b := w.heap.size + 1 + 1 + 1) K3.out (Nat.le_of_lt hbs))
        have HB3 := Lib.hid hbw3
        have q0 := (below_blk R0.out hbw3 (by omega)).one
        have q1 := (below_blk R1.out hbw3 (by omega)).one
        have q2 := (below_blk R2.out hbw3 (by omega)).one
        have qf0 := (below_blk R0.out hbw3 (by omega)).free
        have qf1 := (below_blk R1.out hbw3 (by omega)).free
        have qf2 := (below_blk R2.out hbw3 (by omega)).free
        have c2 := (HO.out.kept K3.out).bi.cells.2.2.1
        have HO3 := Lib.hid (HO.out.kept K3.out)
        clear hk3 hbw3
        go_wp2_with fail
        refine wpAny_ready (rs := [1]) (by kernel_rfl) (by simp) ?_
        refine AllReady.cons rfl (fun K hK => ?_) AllReady.nil
        go_simp
        refine hK _ _ ?_
        clear hK K
        refine wpAny_ready (rs := [4]) (by kernel_rfl) (by simp) ?_
        refine AllReady.cons rfl (fun K hK => ?_) AllReady.nil
        go_simp
        refine hK _ _ ?_
        clear hK K
        refine wpAny_ready (rs := [5]) (by kernel_rfl) (by simp) ?_
        refine AllReady.cons rfl (fun K hK => ?_) AllReady.nil
        go_simp
        refine hK _ _ ?_
        clear hK K
        refine wpAny_ready (rs := [6]) (by kernel_rfl) (by simp) ?_
        refine AllReady.cons rfl (fun K hK => ?_) AllReady.nil
        go_simp
        refine hK _ _ ?_
        clear hK K
        refine wpAny_done (by kernel_rfl) ?_ _
        go_wp2_with fail
        refine leaves_cons (f := 38) (args := #[.pointer (some ⟨w.heap.size, 0, none⟩), .pointer (some ⟨w.heap.size + 1, 0, none⟩), .pointer (some ⟨w.heap.size + 1 + 1, 0, none⟩)]) (by simp) (by simp [go_sem]) ?_
        refine (catch_idle ⟨w.heap.size, 0, none⟩ ⟨w.heap.size + 1, 0, none⟩ ⟨w.heap.size + 1 + 1, 0, none⟩ _).mono ?_
        rintro e u' w'' ⟨rfl, rfl, rfl⟩
        simp [Leaves, settle, results, Tryd.results17, go_sem, q0, q1, q2]
        exact raw_end HV.out (below_kept KW.out HB3.out (by omega)) HO3.out.own HO.out.len (by omega) (by omega)
    | false =>
      obtain ⟨f', rfl⟩ : ∃ f', f = f' + 1 := ⟨f - 1, by omega⟩
      have HV := Lib.hid (show rawGo B (f' + 1) t o = rawV B from HR.out)
      have BA := Lib.hid (block_any HO.out HG.out ht hB ((HORD.out.kept KW.out).below HBW.out (by have := HOLT.out; omega)) (by have := HOLT.out; omega))
      go_wp2_with fail
      (with_reducible refine BA.out.mono ?_)
      intro e w2 hs
      rcases hs.cases with ⟨k', hr, rfl, hbb⟩ | ⟨last, o', t', v', gv', hr, rfl, ht', ho', hg', hbb⟩
      · have HRR := Lib.hid (show rawV B = .error k' by rw [← HV.out, raw_no hr])
        have HB2 := Lib.hid (HBW.out.trans hbb)
        clear hs hr hbb
        have q0 := (below_blk R0.out HB2.out (by omega)).one
        have q1 := (below_blk R1.out HB2.out (by omega)).one
        have q2 := (below_blk R2.out HB2.out (by omega)).one
        have qf0 := (below_blk R0.out HB2.out (by omega)).free
        have qf1 := (below_blk R1.out HB2.out (by omega)).free
        have qf2 := (below_blk R2.out HB2.out (by omega)).free
        go_wp2_with fail
        refine leaves_cons (f := 38) (args := #[.pointer (some ⟨w.heap.size, 0, none⟩), .pointer (some ⟨w.heap.size + 1, 0, none⟩), .pointer (some ⟨w.heap.size + 1 + 1, 0, none⟩)]) (by simp) (by simp [go_sem]) ?_
        refine (catch_panicking w.heap.size (w.heap.size + 1) (w.heap.size + 1 + 1) _ _ _ k' [] w2 q0 q1 q2 (qf0 _) (qf1 _) (qf2 _) (by omega) (by omega) (by omega)).mono ?_
        rintro e u' w'' ⟨rfl, rfl, rfl⟩
        simp [Leaves, settle, results, Tryd.results17, go_sem, q0, q1, q2]
        unfold RawA
        rw [HRR.out]
        exact ⟨((((below_kept KW.out HB2.out (by omega)).set (Nat.le_refl _) _).set (by show w.heap.size ≤ w.heap.size + 1; omega) _).set (by show w.heap.size ≤ w.heap.size + 1 + 1; omega) _).drew, rfl⟩
      · have hlt := block_lt hr
        have HO2 := Lib.hid ho'
        have HG2 := Lib.hid hg'
        have HB2 := Lib.hid (HBW.out.trans hbb)
        have HRR := Lib.hid (show if last then rawV B = .ok (o', (t' + 7) / 8) else rawGo B f' t' o' = rawV B by
          cases last
          · rw [← HV.out, raw_more hr]; rfl
          · rw [← HV.out, raw_last hr]; rfl)
        clear hs hr ho' hg' hbb
        go_wp2_with fail
        go_roundg (if last then 0 else 8 * B.length + 2 - t')
        case measure =>
          have hm2 : (if false then 0 else 8 * B.length + 2 - t) = 8 * B.length + 2 - t := rfl
          cases last <;> simp at hm ⊢ <;> omega
        case rel => exact ⟨last, f', t', o', v', gv', rfl, rfl, ht', HO2.out, HG2.out, HB2.out, HRR, by omega⟩

end Go.Proofs.YtpplboihlndfpaaDoor
