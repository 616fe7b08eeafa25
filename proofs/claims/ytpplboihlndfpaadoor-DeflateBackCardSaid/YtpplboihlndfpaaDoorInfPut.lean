/-
  What blocks told so far, as it lies in memory; put, again, stored.
-/
import Derived.Test.YtpplboihlndfpaaDoorInfTreeMem
import Derived.Test.YtpplboihlndfpaaDoorInfBits
import Derived.OwnWalk
namespace Go.Proofs.YtpplboihlndfpaaDoor
open Go.RowKit Ix
set_option linter.unusedSimpArgs false
set_option linter.unusedVariables false

def bytsV (l : List UInt8) : List Value := l.map fun c => .int .u8 (c.toNat : Int)
/-- Bytes that the call itself has made. -/
def Out (w : World) (B : Nat) (v : Value) (l : List UInt8) : Prop := w.ownsRow B 5 1 v l.length (bytsV l)
theorem info_byte : (Tryd.prog.info? 5).map (fun i => (i.zero, i.size, i.bytes)) = some (some (.int .u8 0), 1, 1) := by kernel_rfl
theorem Out.lt {w : World} {B : Nat} {v : Value} {l : List UInt8} (h : Out w B v l) : ∀ k, v.ownBlock = some k → B ≤ k ∧ k < w.heap.size := World.ownsRow.lt h
theorem Out.gb {w w' : World} {B : Nat} {v : Value} {l : List UInt8} (h : Out w B v l) {r : Option Nat} (g : w.grownBy w' r) (hne : v.ownBlock = none ∨ v.ownBlock ≠ r) : Out w' B v l := World.ownsRow.kept h g hne
theorem Out.kept {w w' : World} {B : Nat} {v : Value} {l : List UInt8} (h : Out w B v l) (k : Kept w w') : Out w' B v l :=
  h.gb (gbK k none) (by cases hv : v.ownBlock with
    | none => exact .inl rfl
    | some g => exact .inr (by simp))
theorem Out.parts {w : World} {B : Nat} {v : Value} {l : List UInt8} (h : Out w B v l) :
    (v = .slice none 0 0 ∧ l = []) ∨ ∃ g cap, v = .slice (some ⟨g, 0, none⟩) l.length cap ∧ B ≤ g ∧ ∀ (m : Nat) (hm : m < l.length), w.cell? ⟨g, m, none⟩ = some (.int .u8 (l[m].toNat : Int)) := by
  have h0 := h
  rcases h.2 with ⟨rfl, h1⟩ | ⟨g, cap, cur, rfl, hb, hh, hn, hc, hs, ht⟩
  · exact .inl ⟨rfl, List.length_eq_zero_iff.1 h1⟩
  · refine .inr ⟨g, cap, rfl, hb, fun m hm => ?_⟩
    have := World.ownsRow.cellAt h0 m (by omega)
    rw [this]; simp [bytsV, hm]

theorem wpList_app_out {ops : Array Oper} {rest : List Oper} {o : Oper} {a : Act} {Q : Exit → Act → World → Prop} (hgd : o.guard = none) (s x : Operand)
    (ho : o.op = .call { callee := .builtin .append, args := #[s, x], argTypes := #[35, 35] })
    {W : World} {B : Nat} {v : Value} {l : List UInt8} (hown : Out W B v l) (c : UInt8) (hs : a.eval s = v)
    (hx : a.eval x = .slice (some ⟨W.heap.size, 0, none⟩) 1 1) (hB : B ≤ W.heap.size) (hlen : l.length + 1 ≤ 1099511627776)
    (h : ∀ g cap w', Out w' B (.slice (some ⟨g, 0, none⟩) (l.length + 1) cap) (l ++ [c]) → (W.alloc (.cells #[.int .u8 (c.toNat : Int)] 5)).grownBy w' v.ownBlock → (v.ownBlock = some g ∨ g = W.heap.size + 1) →
      wpList Tryd.prog ops Q rest (a.put o.dst (.slice (some ⟨g, 0, none⟩) (l.length + 1) cap)) w') :
    wpList Tryd.prog ops Q (o :: rest) a (W.alloc (.cells #[.int .u8 (c.toNat : Int)] 5)) := by
  obtain ⟨i0, hi, hz0, hz1, hz2⟩ := info_parts info_byte
  refine wpList_append_lies _ hgd s x 35 ho B 5 i0 (.int .u8 0) 1 1 Tryd.underlying35 hi hz0 hz1 hz2 rfl (by decide) v l.length (bytsV l) hs (World.ownsRow.alloc hown _) ⟨W.heap.size, 0, none⟩ 1 1 [.int .u8 (c.toNat : Int)] hx rfl
    ?_ ?_ (by decide) (by unfold maxLen; omega) (by omega) (by simp; omega) (W.heap.size + 1) (by simp) ?_
  · intro j u hj
    rw [Addr.add_lit, Nat.zero_add, (Blk.fresh W #[.int .u8 (c.toNat : Int)] 5).cell j]
    simpa using hj
  · intro u hu
    simp only [List.mem_singleton] at hu
    subst hu; rfl
  · intro g cap w' h1 h2 h3 _
    refine h g cap w' ?_ h2 h3
    unfold Out
    rw [List.length_append, show bytsV (l ++ [c]) = bytsV l ++ [.int .u8 (c.toNat : Int)] by simp [bytsV]]
    exact h1

/-- Nothing has turned but block b, and bytes of one's own. -/
structure Gr (w : World) (b : Nat) (v : Value) (w' : World) (v' : Value) : Prop where
  os : w'.os = w.os
  tape : w'.tape = w.tape
  output : w'.output = w.output
  size : w.heap.size ≤ w'.heap.size
  block : ∀ j, j < w.heap.size → j ≠ b → v.ownBlock ≠ some j → w'.heap[j]? = w.heap[j]?
  at' : v'.ownBlock = v.ownBlock ∨ ∃ g, v'.ownBlock = some g ∧ w.heap.size ≤ g
theorem Gr.refl (w : World) (b : Nat) (v : Value) : Gr w b v w v := ⟨rfl, rfl, rfl, Nat.le_refl _, fun _ _ _ _ => rfl, .inl rfl⟩
theorem Gr.trans {w w1 w2 : World} {b : Nat} {v v1 v2 : Value} (h : Gr w b v w1 v1) (k : Gr w1 b v1 w2 v2) : Gr w b v w2 v2 := by
  refine ⟨k.os.trans h.os, k.tape.trans h.tape, k.output.trans h.output, Nat.le_trans h.size k.size, fun j hj hb hv => ?_, ?_⟩
  · refine (k.block j (Nat.lt_of_lt_of_le hj h.size) hb ?_).trans (h.block j hj hb hv)
    rcases h.at' with e | ⟨g, e, hg⟩
    · rw [e]; exact hv
    · rw [e]; intro e2; injection e2 with e2; omega
  · rcases k.at' with e | ⟨g, e, hg⟩
    · rcases h.at' with e2 | ⟨g, e2, hg⟩
      · exact .inl (e.trans e2)
      · exact .inr ⟨g, e.trans e2, hg⟩
    · exact .inr ⟨g, e, Nat.le_trans h.size hg⟩
theorem Gr.ofGb {w w' : World} {b : Nat} {v : Value} (g : w.grownBy w' (some b)) : Gr w b v w' v := ⟨g.os, g.tape, g.output, g.size, fun j hj hb _ => g.block j hj (by simpa using hb), .inl rfl⟩
theorem Gr.ofKept {w w' : World} {b : Nat} {v : Value} (k : Kept w w') : Gr w b v w' v := Gr.ofGb (gbK k _)
theorem Gr.below {w w' : World} {b : Nat} {v v' : Value} (h : Gr w b v w' v') (hv : ∀ k, v.ownBlock = some k → b ≤ k) (hb : b ≤ w.heap.size) : Below b w w' :=
  ⟨h.os, h.tape, h.output, h.size, fun j hj => h.block j (by omega) (by omega) (fun e => by have := hv j e; omega)⟩

/-- Bits on their way, and what they told so far. -/
structure Ou (w : World) (B0 b : Nat) (p : Option Addr) (c : Nat) (B : List UInt8) (t : Nat) (v : Value) (out : List UInt8) (gv : Value) : Prop where
  bi : Bi w B0 b p c B t v gv
  own : Out w (b + 1) v out
  len : out.length ≤ 1048576
section
variable {w w' : World} {B0 b : Nat} {p : Option Addr} {c : Nat} {B : List UInt8} {t t' : Nat} {v gv : Value} {out : List UInt8}
theorem Ou.low (h : Ou w B0 b p c B t v out gv) : ∀ k, v.ownBlock = some k → b ≤ k := fun k e => by have := (h.own.lt k e).1; omega
theorem Ou.ne (h : Ou w B0 b p c B t v out gv) : v.ownBlock = none ∨ v.ownBlock ≠ some b := by
  cases hv : v.ownBlock with
  | none => exact .inl rfl
  | some g => exact .inr (by intro e; injection e with e; have := (h.own.lt g hv).1; omega)
/-- Behind bits that were taken. -/
theorem Ou.bits (h : Ou w B0 b p c B t v out gv) (k : BiR w B0 b p c B t' v gv w') : Ou w' B0 b p c B t' v out gv := ⟨k.1, h.own.gb k.2 h.ne, h.len⟩
theorem Ou.kept (h : Ou w B0 b p c B t v out gv) (k : Kept w w') : Ou w' B0 b p c B t v out gv := ⟨h.bi.kept k, h.own.kept k, h.len⟩
end

/-- What a call that may put bytes leaves. -/
def PutA (w : World) (B0 b : Nat) (p : Option Addr) (c : Nat) (B : List UInt8) (t : Nat) (v gv : Value) (r : Except Int (List UInt8)) (e : Ending) (w' : World) : Prop := match r with
  | .error k => e = .panicked (thrown k) ∧ Below b w w'
  | .ok o => e = .returned (.tuple #[]) ∧ ∃ v', Ou w' B0 b p c B t v' o gv ∧ Gr w b v w' v'

/-- Behind an append, and a store. -/
theorem put_end {w w5 : World} {B0 b : Nat} {p : Option Addr} {c : Nat} {B : List UInt8} {t : Nat} {v gv : Value} {out : List UInt8} (h : Ou w B0 b p c B t v out gv) {x : UInt8} {o : Obj} {g5 cap5 n : Nat}
    (ho : Out w5 (b + 1) (.slice (some ⟨g5, 0, none⟩) n cap5) (out ++ [x])) (hg : (w.alloc o).grownBy w5 v.ownBlock) (hat : v.ownBlock = some g5 ∨ g5 = w.heap.size + 1) (hl : out.length < 1048576) :
    Ou (w5.setCell ⟨b, 2, none⟩ (.slice (some ⟨g5, 0, none⟩) n cap5)) B0 b p c B t (.slice (some ⟨g5, 0, none⟩) n cap5) (out ++ [x]) gv ∧ Gr w b v (w5.setCell ⟨b, 2, none⟩ (.slice (some ⟨g5, 0, none⟩) n cap5)) (.slice (some ⟨g5, 0, none⟩) n cap5) := by
  have hb := h.bi.blk.lt
  have hlow := h.own.lt
  have key : ∀ j, j < w.heap.size → v.ownBlock ≠ some j → w5.heap[j]? = w.heap[j]? := fun j hj hv => (hg.block j (by simp; omega) (fun e => hv e.symm)).trans (Below.heap_alloc w o j hj)
  have hne : ∀ j, j ≤ b → v.ownBlock ≠ some j := fun j hj e => by have := (hlow j e).1; omega
  have hs : w.heap.size ≤ w5.heap.size := by have := hg.size; simp at this; omega
  have hbk : Blk w5 b #[.slice p B.length c, .int .i64 t, v, gv] 70 := (key b hb (hne b (Nat.le_refl _))).trans h.bi.blk
  have hg5 : g5 ≠ b := by
    rcases hat with e | e
    · have := (hlow g5 e).1; omega
    · omega
  refine ⟨⟨⟨by simpa using hbk.set 2 (.slice (some ⟨g5, 0, none⟩) n cap5), fun i hi => ?_, h.bi.low⟩, ho.gb (gbS _ _ _ _) (.inr (by simp [Value.ownBlock]; exact hg5)), by rw [List.length_append, List.length_singleton]; omega⟩, ?_⟩
  · obtain ⟨k, o', hp, hk, hc⟩ := h.bi.byt i hi
    have hl := h.bi.low
    refine ⟨k, o', hp, hk, ?_⟩
    rw [← hc]
    exact World.cell?_of_block ((Below.heap_setCell w5 ⟨b, 2, none⟩ _ k (by show k ≠ b; omega)).trans (key k (by omega) (hne k (by omega))))
  · refine ⟨by rw [show (w5.setCell ⟨b, 2, none⟩ _).os = w5.os from rfl, hg.os]; rfl, by rw [show (w5.setCell ⟨b, 2, none⟩ _).tape = w5.tape from rfl, hg.tape]; rfl, by rw [show (w5.setCell ⟨b, 2, none⟩ _).output = w5.output from rfl, hg.output]; rfl, by simpa using hs, fun j hj hjb hv => ?_, ?_⟩
    · exact (Below.heap_setCell w5 ⟨b, 2, none⟩ _ j (by show j ≠ b; omega)).trans (key j hj hv)
    · rcases hat with e | e
      · exact .inl e.symm
      · exact .inr ⟨g5, rfl, by omega⟩

set_option maxRecDepth 100000 in
theorem put_any {w : World} {B0 b : Nat} {p : Option Addr} {c : Nat} {B : List UInt8} {t : Nat} {v gv : Value} {out : List UInt8} (h : Ou w B0 b p c B t v out gv) (x : UInt8) :
    Calls Tryd.prog 107 #[.pointer (some ⟨b, 0, none⟩), .int .u8 (x.toNat : Int)] w (PutA w B0 b p c B t v gv (putV' out x)) := by
  have hp := run_thrown
  have HO := Lib.hid h
  have hlen := h.len
  by_cases hm : out.length = 1048576
  · have HV := Lib.hid (show putV' out x = .error 6 from if_pos hm)
    obtain ⟨c0, c1, c2, c3⟩ := h.bi.cells
    rcases h.own.parts with ⟨rfl, rfl⟩ | ⟨g, cap, rfl, hg, -⟩
    · cases hm
    · rw [hm] at c2
      clear h
      go_enter Tryd.func107, Tryd.ntmps107
      go_wp2_with fail
      refine ⟨rfl, ?_⟩
      unfold PutA
      rw [HV.out]
      exact ⟨rfl, Below.refl _ _⟩
  · have HV := Lib.hid (show putV' out x = .ok (out ++ [x]) from if_neg hm)
    obtain ⟨c0, c1, c2, c3⟩ := h.bi.cells
    have hbl := h.bi.blk.lt
    have hne : ((out.length : Int) == 1048576) = false := by rw [beq_eq_false_iff_ne]; omega
    rcases h.own.parts with ⟨rfl, rfl⟩ | ⟨g, cap, rfl, hg, -⟩
    · clear h
      go_enter Tryd.func107, Tryd.ntmps107
      go_wp2_with (at_builtin; refine wpList_app_out rfl _ _ rfl HO.out.own x rfl rfl (by omega) (by omega) ?_; intro g5 cap5 w5 ho5 hg5 hat5; have HB5 := Lib.hid (show Blk w5 b #[.slice p B.length c, .int .i64 t, .slice none 0 0, gv] 70 from (hg5.block b (by simp; omega) (by simp [Value.ownBlock])).trans (HO.out.bi.blk.alloc _)); obtain ⟨d0, d1, d2, d3⟩ := HB5.out.cells4; have d4 := HB5.out.free)
      refine bodyPost_end (results_none rfl _ _ _) rfl ?_
      unfold PutA
      rw [HV.out]
      exact ⟨rfl, _, put_end HO.out ho5 hg5 hat5 (by simp)⟩
    · clear h
      go_enter Tryd.func107, Tryd.ntmps107
      go_wp2_with (at_builtin; refine wpList_app_out rfl _ _ rfl HO.out.own x rfl rfl (by omega) (by omega) ?_; intro g5 cap5 w5 ho5 hg5 hat5; have HB5 := Lib.hid (show Blk w5 b #[.slice p B.length c, .int .i64 t, .slice (some ⟨g, 0, none⟩) out.length cap, gv] 70 from (hg5.block b (by simp; omega) (by simp [Value.ownBlock]; omega)).trans (HO.out.bi.blk.alloc _)); obtain ⟨d0, d1, d2, d3⟩ := HB5.out.cells4; have d4 := HB5.out.free)
      refine bodyPost_end (results_none rfl _ _ _) rfl ?_
      unfold PutA
      rw [HV.out]
      exact ⟨rfl, _, put_end HO.out ho5 hg5 hat5 (by omega)⟩

theorem PutA.cases {w : World} {B0 b : Nat} {p : Option Addr} {c : Nat} {B : List UInt8} {t : Nat} {v gv : Value} {r : Except Int (List UInt8)} {e : Ending} {w' : World} (h : PutA w B0 b p c B t v gv r e w') :
    (∃ k, r = .error k ∧ e = .panicked (thrown k) ∧ Below b w w') ∨ ∃ o v', r = .ok o ∧ e = .returned (.tuple #[]) ∧ Ou w' B0 b p c B t v' o gv ∧ Gr w b v w' v' := by
  unfold PutA at h
  cases r with
  | error k => exact .inl ⟨k, rfl, h⟩
  | ok o => obtain ⟨h1, v', h2, h3⟩ := h; exact .inr ⟨o, v', rfl, h1, h2, h3⟩

end Go.Proofs.YtpplboihlndfpaaDoor
