/-
  How much an object is: itself, its bytes, its keys and all that stands in it; how deep it is. What few reckons. Nothing of the program is named here.
  How a law's post follows from 'Kept', whatever its parameters; rectangles and matrices among the arguments.
  An object among the arguments: it lies in memory as a tree does, and its texts and rows are no longer than all that came in.
  A file of the document's among a law's arguments.
-/
import Derived.Test.YtakbhdhlcnpejaaMathS
import Derived.Test.YtakbhdhlcnpejaaXBase
import Derived.ProofKit
import Derived.OpenShut
import Derived.Carry
import Derived.JoinedCond
import Derived.Lib.SmallJoins
import Derived.Test.YtakbhdhlcnpejaaCosLies
import Derived.Deep.Slices
import Derived.Test.YtakbhdhlcnpejaaStoN
import Derived.Test.YtakbhdhlcnpejaaStoW
namespace Go.Proofs.Ytakbhdhlcnpejaa.Cx

mutual
def Ob.wt : Ob → Nat
  | .mk _ _ _ s l d => 1 + s.size + wtL l + wtD d
def wtL : List Ob → Nat
  | [] => 0
  | x :: r => x.wt + wtL r
def wtD : List (ByteArray × Ob) → Nat
  | [] => 0
  | (key, x) :: r => key.size + x.wt + wtD r
end
theorem wt_eq (o : Ob) : o.wt = 1 + o.s.size + wtL o.l + wtD o.d := by
  obtain ⟨k, n, f, s, l, d⟩ := o
  rw [Ob.wt]; rfl
theorem wtD_cons (e : Entr) (r : List Entr) : wtD (e :: r) = e.1.size + e.2.wt + wtD r := by cases e; rw [wtD]
theorem wtL_cons (x : Ob) (r : List Ob) : wtL (x :: r) = x.wt + wtL r := by rw [wtL]
theorem wt_pos (o : Ob) : 1 ≤ o.wt := by rw [wt_eq]; omega
theorem wtL_len : ∀ l : List Ob, l.length ≤ wtL l
  | [] => Nat.zero_le _
  | x :: r => by
    have := wtL_len r
    have := wt_pos x
    rw [wtL_cons, List.length_cons]; omega
theorem wtD_len : ∀ l : List Entr, l.length ≤ wtD l
  | [] => Nat.zero_le _
  | x :: r => by
    have := wtD_len r
    have := wt_pos x.2
    rw [wtD_cons, List.length_cons]; omega
theorem wtL_mem {l : List Ob} {x : Ob} (h : x ∈ l) : x.wt ≤ wtL l := by
  induction l with
  | nil => simp at h
  | cons y r ih =>
    rw [wtL_cons]
    rcases List.mem_cons.1 h with rfl | h
    · omega
    · have := ih h; omega
theorem wtD_mem {l : List Entr} {x : Entr} (h : x ∈ l) : x.1.size + x.2.wt ≤ wtD l := by
  induction l with
  | nil => simp at h
  | cons y r ih =>
    rw [wtD_cons]
    rcases List.mem_cons.1 h with rfl | h
    · omega
    · have := ih h; omega
theorem wt_l {o x : Ob} (h : x ∈ o.l) : x.wt < o.wt := by
  have := wtL_mem h
  rw [wt_eq o]; omega
theorem wt_d {o : Ob} {e : Entr} (h : e ∈ o.d) : e.1.size + e.2.wt < o.wt := by
  have := wtD_mem h
  rw [wt_eq o]; omega
theorem wt_len (o : Ob) : o.l.length < o.wt ∧ o.d.length < o.wt ∧ o.s.size < o.wt := by
  have h1 := wtL_len o.l
  have h2 := wtD_len o.d
  rw [wt_eq o]; omega
theorem wtL_append : ∀ a b : List Ob, wtL (a ++ b) = wtL a + wtL b
  | [], b => by rw [List.nil_append, wtL, Nat.zero_add]
  | x :: a, b => by rw [List.cons_append, wtL, wtL, wtL_append a b]; omega
theorem wtD_append : ∀ a b : List Entr, wtD (a ++ b) = wtD a + wtD b
  | [], b => by rw [List.nil_append, wtD, Nat.zero_add]
  | x :: a, b => by rw [List.cons_append, wtD_cons, wtD_cons, wtD_append a b]; omega
theorem wtL_take_succ (l : List Ob) (i : Nat) (h : i < l.length) : wtL (l.take (i + 1)) = wtL (l.take i) + l[i].wt := by
  rw [List.take_succ_eq_append_getElem h, wtL_append, wtL_cons, wtL]; omega
theorem wtD_take_succ (l : List Entr) (i : Nat) (h : i < l.length) : wtD (l.take (i + 1)) = wtD (l.take i) + (l[i].1.size + l[i].2.wt) := by
  rw [List.take_succ_eq_append_getElem h, wtD_append, wtD_cons, wtD]; omega

mutual
/-- What few reckons: how many of so many are left; less than 0: too much, or too deep. -/
def few : Ob → Int → Nat → Int
  | .mk _ _ _ s l d, left, dep => if 200 < dep then -1 else fewD d (fewL l (left - 1 - s.size) dep) dep
def fewL : List Ob → Int → Nat → Int
  | [], left, _ => left
  | x :: r, left, dep => if 0 ≤ left then fewL r (few x left (dep + 1)) dep else left
def fewD : List (ByteArray × Ob) → Int → Nat → Int
  | [], left, _ => left
  | (key, x) :: r, left, dep => if 0 ≤ left then fewD r (few x (left - key.size) (dep + 1)) dep else left
end
theorem few_eq (o : Ob) (left : Int) (dep : Nat) : few o left dep = if 200 < dep then -1 else fewD o.d (fewL o.l (left - 1 - o.s.size) dep) dep := by
  obtain ⟨k, n, f, s, l, d⟩ := o
  rw [few]; rfl
theorem fewL_cons (x : Ob) (r : List Ob) (left : Int) (dep : Nat) : fewL (x :: r) left dep = if 0 ≤ left then fewL r (few x left (dep + 1)) dep else left := by rw [fewL]
theorem fewD_cons (e : Entr) (r : List Entr) (left : Int) (dep : Nat) : fewD (e :: r) left dep = if 0 ≤ left then fewD r (few e.2 (left - e.1.size) (dep + 1)) dep else left := by cases e; rw [fewD]
theorem fewL_neg (l : List Ob) (left : Int) (dep : Nat) (h : left < 0) : fewL l left dep = left := by
  cases l with
  | nil => rw [fewL]
  | cons x r => rw [fewL_cons, if_neg (by omega)]
theorem fewD_neg (l : List Entr) (left : Int) (dep : Nat) (h : left < 0) : fewD l left dep = left := by
  cases l with
  | nil => rw [fewD]
  | cons x r => rw [fewD_cons, if_neg (by omega)]

mutual
/-- Where few says that something is left, it is what is not reckoned yet. -/
theorem few_some : ∀ (o : Ob) (left : Int) (dep : Nat), 0 ≤ few o left dep → few o left dep = left - o.wt
  | .mk k n f s l d, left, dep, h => by
    rw [few] at h ⊢
    by_cases hd : 200 < dep
    · rw [if_pos hd] at h; omega
    · rw [if_neg hd] at h ⊢
      have h1 : 0 ≤ fewL l (left - 1 - s.size) dep := by
        rcases Int.lt_or_le (fewL l (left - 1 - s.size) dep) 0 with hn | hn
        · rw [fewD_neg _ _ _ hn] at h; omega
        · exact hn
      rw [fewD_some d _ dep h, fewL_some l _ dep h1, Ob.wt]; omega
theorem fewL_some : ∀ (l : List Ob) (left : Int) (dep : Nat), 0 ≤ fewL l left dep → fewL l left dep = left - wtL l
  | [], left, dep, _ => by rw [fewL, wtL]; omega
  | x :: r, left, dep, h => by
    rw [fewL] at h ⊢
    by_cases h0 : 0 ≤ left
    · rw [if_pos h0] at h ⊢
      have h1 : 0 ≤ few x left (dep + 1) := by
        rcases Int.lt_or_le (few x left (dep + 1)) 0 with hn | hn
        · rw [fewL_neg _ _ _ hn] at h; omega
        · exact hn
      rw [fewL_some r _ dep h, few_some x _ _ h1, wtL]; omega
    · rw [if_neg h0] at h; omega
theorem fewD_some : ∀ (l : List (ByteArray × Ob)) (left : Int) (dep : Nat), 0 ≤ fewD l left dep → fewD l left dep = left - wtD l
  | [], left, dep, _ => by rw [fewD, wtD]; omega
  | (key, x) :: r, left, dep, h => by
    rw [fewD] at h ⊢
    by_cases h0 : 0 ≤ left
    · rw [if_pos h0] at h ⊢
      have h1 : 0 ≤ few x (left - key.size) (dep + 1) := by
        rcases Int.lt_or_le (few x (left - key.size) (dep + 1)) 0 with hn | hn
        · rw [fewD_neg _ _ _ hn] at h; omega
        · exact hn
      rw [fewD_some r _ dep h, few_some x _ _ h1, wtD]; omega
    · rw [if_neg h0] at h; omega
end

theorem few_le (o : Ob) (left : Int) (dep : Nat) (h : 0 ≤ few o left dep) : (o.wt : Int) ≤ left := by
  have := few_some o left dep h; omega

/-- All texts of an object, and lists, are no longer than can be. -/
inductive Ob.Fits (M : Nat) : Ob → Prop
  | mk (k n f : Int) (s : ByteArray) (l : List Ob) (d : List (ByteArray × Ob)) (hs : s.size ≤ M) (hl : l.length ≤ M) (hd : d.length ≤ M) (hL : ∀ x ∈ l, Ob.Fits M x) (hK : ∀ e ∈ d, e.1.size ≤ M) (hD : ∀ e ∈ d, Ob.Fits M e.2) : Ob.Fits M (.mk k n f s l d)
theorem Ob.Fits.s {M : Nat} {o : Ob} (h : Ob.Fits M o) : o.s.size ≤ M ∧ o.l.length ≤ M ∧ o.d.length ≤ M := by cases h with | mk k n f s l d hs hl hd _ _ _ => exact ⟨hs, hl, hd⟩
theorem Ob.Fits.l {M : Nat} {o x : Ob} (h : Ob.Fits M o) (hx : x ∈ o.l) : Ob.Fits M x := by cases h with | mk k n f s l d hs hl hd hL _ _ => exact hL x hx
theorem Ob.Fits.d {M : Nat} {o : Ob} {e : Entr} (h : Ob.Fits M o) (he : e ∈ o.d) : e.1.size ≤ M ∧ Ob.Fits M e.2 := by cases h with | mk k n f s l d hs hl hd _ hK hD => exact ⟨hK e he, hD e he⟩

mutual
/-- What few answers is no less than this. -/
theorem few_lo (M : Nat) : ∀ (o : Ob) (left : Int) (dep : Nat), Ob.Fits M o → -1 - M ≤ left → -2 - 2 * (M : Int) ≤ few o left dep ∧ few o left dep ≤ max left 0
  | .mk k n f s l d, left, dep, h, hm => by
    rw [few]
    split
    · omega
    · have hs := h.s.1
      simp only [Ob.s] at hs
      have h1 := fewL_lo M l (left - 1 - s.size) dep (fun x hx => h.l hx) (by omega)
      have h2 := fewD_lo M d (fewL l (left - 1 - s.size) dep) dep (fun e he => h.d he) h1.1
      omega
theorem fewL_lo (M : Nat) : ∀ (l : List Ob) (left : Int) (dep : Nat), (∀ x ∈ l, Ob.Fits M x) → -2 - 2 * (M : Int) ≤ left → -2 - 2 * (M : Int) ≤ fewL l left dep ∧ fewL l left dep ≤ max left 0
  | [], left, dep, _, hm => by rw [fewL]; omega
  | x :: r, left, dep, h, hm => by
    rw [fewL]
    split
    · next h0 =>
      have h1 := few_lo M x left (dep + 1) (h x List.mem_cons_self) (by omega)
      have h2 := fewL_lo M r (few x left (dep + 1)) dep (fun y hy => h y (List.mem_cons_of_mem _ hy)) h1.1
      omega
    · omega
theorem fewD_lo (M : Nat) : ∀ (l : List (ByteArray × Ob)) (left : Int) (dep : Nat), (∀ e ∈ l, e.1.size ≤ M ∧ Ob.Fits M e.2) → -2 - 2 * (M : Int) ≤ left → -2 - 2 * (M : Int) ≤ fewD l left dep ∧ fewD l left dep ≤ max left 0
  | [], left, dep, _, hm => by rw [fewD]; omega
  | (key, x) :: r, left, dep, h, hm => by
    rw [fewD]
    split
    · next h0 =>
      have hk := h (key, x) List.mem_cons_self
      simp only [] at hk
      have h1 := few_lo M x (left - key.size) (dep + 1) hk.2 (by omega)
      have h2 := fewD_lo M r (few x (left - key.size) (dep + 1)) dep (fun y hy => h y (List.mem_cons_of_mem _ hy)) h1.1
      omega
    · omega
end

end Go.Proofs.Ytakbhdhlcnpejaa.Cx

namespace Go.Proofs.Ytakbhdhlcnpejaa
open Go.ChangeShapes Go.WideShapes Go.ChangeAt Go.RowKit

theorem own : ownKnob Try.prog.godebug = none := by kernel_rfl
theorem laidOut : laidOutB Try.prog = true := by kernel_rfl

theorem i64_bd {n : Int} (h : (Lit.int .i64 n).wf = true) : -9223372036854775808 ≤ n ∧ n ≤ 9223372036854775807 := by
  simpa [Lit.wf, IntKind.min, IntKind.max, IntKind.signed, IntKind.bits] using h

theorem u8_bd {n : Int} (h : (Lit.int .u8 n).wf = true) : 0 ≤ n ∧ n ≤ 255 := by
  simpa [Lit.wf, IntKind.min, IntKind.max, IntKind.signed, IntKind.bits] using h

section
variable {H : Type} {enc : TypeId × Value → H}
theorem trodAll_below {W W' : World} (hb : Below W.heap.size W W') : ∀ {ts : List TypeId} {vs : List Value} {ds : List (DataW H)} {ps : List MemPlace},
    (ts.all fun t => Try.prog.readableRec t && decide (t < Try.prog.types.size)) = true → DataW.TrodAll enc Try.prog W 0 (fun _ => true) true ts vs ds ps → (∀ x ∈ ps, x.block < W.heap.size) →
    DataW.TrodAll enc Try.prog W' 0 (fun b => decide (b < W.heap.size)) true ts vs ds ps := by
  intro ts
  induction ts with
  | nil =>
    intro vs ds ps _ h _
    obtain ⟨rfl, rfl, rfl⟩ := trodAll_nil h
    exact trodAll_mk0
  | cons t ts ih =>
    intro vs ds ps hr h hlt
    obtain ⟨v, vs', d, ds', p, q, rfl, rfl, rfl, h1, h2⟩ := trodAll_cons h
    rw [List.all_cons, Bool.and_eq_true, Bool.and_eq_true, decide_eq_true_eq] at hr
    exact trodAll_cons_mk (Below.trod laidOut hr.1.1 hr.1.2 h1 hb fun x hx => hlt x (List.mem_append.2 (.inl hx))) (ih hr.2 h2 fun x hx => hlt x (List.mem_append.2 (.inr hx)))

/-- A law that answered true and left what was there as it was has done what its row asks. -/
theorem law_post {f : Func} {s : ChangeSpec} {apart fresh handsOn : Bool} {W W' : World} {args : Array Value} {ds gs : List (DataW H)} {before : List MemPlace} {b : TypeId}
    (hvars : s.vars = []) (hW : DataW.Whole enc Try.prog f.params.toList s.vars apart W args.toList ds gs before)
    (hr : (f.params.toList.all fun t => Try.prog.readableRec t && decide (t < Try.prog.types.size)) = true)
    (hb : f.resultTypes = #[b]) (hbt : Try.prog.underlying b = some .bool) (hfn : s.fn H ds = { results := [.lit (.bool true)], args := ds }) (hk : Kept W W') :
    s.post enc Try.prog f apart fresh handsOn false W args (.bool true) W' := by
  have hW' := hW
  obtain ⟨p, q, hA, hV, rfl, _, _⟩ := hW
  rw [hvars] at hV
  obtain ⟨rfl, rfl⟩ := trodVars_none hV
  have hlt : ∀ x ∈ p, x.block < W.heap.size := fun x hx => hW'.lt x (List.mem_append.2 (.inl hx))
  refine ⟨ds, [], p ++ [], [], p, [], hW', ?_, ?_, ?_, hk.below.frame _, fun h => by cases h⟩
  · rw [List.append_nil, hfn, hb]
    exact trodAll_cons_mk (p := []) (p' := []) (shut_bool hbt true) trodAll_mk0
  · rw [List.append_nil, hfn]
    exact trodAll_below hk.below hr hA hlt
  · rw [List.append_nil, hfn, hvars]
    exact rfl
end

end Go.Proofs.Ytakbhdhlcnpejaa

namespace Go.Proofs.Ytakbhdhlcnpejaa
open Go.ChangeShapes Go.WideShapes Go.ChangeAt Go.RowKit Cx
set_option linter.unusedSimpArgs false
set_option linter.unusedVariables false

/-- All numbers of an object are whole words. -/
inductive Ob.Words : Ob → Prop
  | mk (k n f : Int) (s : ByteArray) (l : List Ob) (d : List (ByteArray × Ob)) (hk : (Lit.int .i64 k).wf = true) (hn : (Lit.int .i64 n).wf = true) (hf : (Lit.int .i64 f).wf = true) (hL : ∀ i (h : i < l.length), Ob.Words l[i]) (hD : ∀ i (h : i < d.length), Ob.Words d[i].2) : Ob.Words (.mk k n f s l d)

instance : Inhabited Ob := ⟨nul⟩
instance : Inhabited Hd := ⟨Hd.none⟩

section
variable {H : Type} {enc : TypeId × Value → H} {W : World} {base : Nat} {sp : Nat → Bool} {held : Bool}

theorem cells_i : Try.prog.cellsOf 3 = 1 := by kernel_rfl

theorem cells_f : Try.prog.cellsOf 23 = 1 := by kernel_rfl

theorem cells_s : Try.prog.cellsOf 9 = 1 := by kernel_rfl

theorem cells_lo : Try.prog.cellsOf 24 = 1 := by kernel_rfl

theorem cells_le : Try.prog.cellsOf 25 = 1 := by kernel_rfl

theorem cells_o : Try.prog.cellsOf 27 = 6 := by kernel_rfl

theorem cells_e : Try.prog.cellsOf 85 = 7 := by kernel_rfl

theorem bytes_o : 0 < Try.prog.bytesOf 27 := of_decide_eq_true (by kernel_rfl)

theorem bytes_e : 0 < Try.prog.bytesOf 85 := of_decide_eq_true (by kernel_rfl)

/-- What a row of cells reads as: an object. -/
def ReadsO (W : World) (P : Program) {H : Type} (cs : List Value) (x : DataW H) : Prop :=
  ∃ o h, cs = cells6 o h ∧ Lies (Cel (fun _ => True) W) o h ∧ Ob.Words o ∧ ∀ M, (∀ u ∈ x.weights P 27, u ≤ M) → Ob.Fits M o

theorem weights_all {P : Program} {e : TypeId} {M : Nat} : ∀ {l : List (DataW H)}, (∀ u ∈ DataW.weightsAll P e l, u ≤ M) → ∀ x ∈ l, ∀ u ∈ x.weights P e, u ≤ M
  | [], _, x, hx => absurd hx List.not_mem_nil
  | d :: r, h, x, hx => by
    rw [DataW.weightsAll] at h
    rcases List.mem_cons.1 hx with rfl | hx
    · exact fun u hu => h u (List.mem_append.2 (.inl hu))
    · exact weights_all (fun u hu => h u (List.mem_append.2 (.inr hu))) x hx
theorem len_le {n m b M : Nat} (hb : 0 < b) (h : (n + m) * b ≤ M) : n ≤ M := by
  have : n ≤ (n + m) * b := Nat.le_trans (Nat.le_add_right n m) (Nat.le_mul_of_pos_right _ hb)
  omega

set_option maxRecDepth 100000 in
theorem open_rowO {fuel : Nat} {cs : List Value} {x : DataW H × List MemPlace} (ih : ∀ n, n < fuel → ∀ cs (y : DataW H × List MemPlace), DataW.trod enc Try.prog W base sp held n 27 cs = some y → ReadsO W Try.prog cs y.1)
    (h : DataW.trod enc Try.prog W base sp held fuel 24 cs = some x) :
    ∃ (p : Option Addr) (c : Nat) (l : List Ob) (Hh : Nat → Hd), cs = [.slice p l.length c] ∧ l.length ≤ maxLen ∧ (∀ i (hi : i < l.length), Lies (Cel (fun _ => True) W) l[i] (Hh i)) ∧
      (∀ i (hi : i < l.length), ∃ b o, p = some ⟨b, o, none⟩ ∧ RowAt (Cel (fun _ => True) W) b (o + i * 6) (cells6 l[i] (Hh i))) ∧ (∀ i (hi : i < l.length), Ob.Words l[i]) ∧
      ∀ M, (∀ u ∈ x.1.weights Try.prog 24, u ≤ M) → l.length ≤ M ∧ ∀ y ∈ l, Ob.Fits M y := by
  rcases DataW.trod_slice Try.underlying24 h with ⟨rfl, rfl⟩ | ⟨a, len, cap, elems, rest, n, rfl, rfl, rfl, hb, hlc, hcm, hlen, hel, -, -⟩
  · exact ⟨none, 0, [], fun _ => Hd.none, rfl, Nat.zero_le _, fun _ hi => absurd hi (Nat.not_lt_zero _), fun _ hi => absurd hi (Nat.not_lt_zero _), fun _ hi => absurd hi (Nat.not_lt_zero _), fun M _ => ⟨Nat.zero_le _, fun _ hy => absurd hy List.not_mem_nil⟩⟩
  · have one : ∀ i, i < len → ∃ oh : Ob × Hd, Lies (Cel (fun _ => True) W) oh.1 oh.2 ∧ Ob.Words oh.1 ∧ (∀ j, j < 6 → W.cell? ((a.add (i * 6)).add j) = (cells6 oh.1 oh.2)[j]?) ∧ ∀ M, (∀ hi : i < elems.length, ∀ u ∈ elems[i].1.weights Try.prog 27, u ≤ M) → Ob.Fits M oh.1 := fun i hi => by
      have hi' : i < elems.length := by omega
      have key := hel i hi
      rw [cells_o, List.getElem?_eq_getElem hi'] at key
      obtain ⟨cs', h1, h2⟩ := Option.bind_eq_some_iff.1 key
      obtain ⟨o, hh, rfl, hL, hw, hF⟩ := ih n (by omega) cs' _ h2
      exact ⟨(o, hh), hL, hw, (World.cells?_some h1).2.2, fun M hM => hF M (hM hi')⟩
    obtain ⟨F, hF⟩ := Go.Deep.choose_lt (α := Ob × Hd) one
    have hll : ((List.range len).map fun i => (F i).1).length = len := by simp
    have hget : ∀ i (hi : i < ((List.range len).map fun i => (F i).1).length), ((List.range len).map fun i => (F i).1)[i] = (F i).1 := fun i hi => by simp
    refine ⟨some a, cap, (List.range len).map fun i => (F i).1, fun i => (F i).2, by rw [hll], by rw [hll]; omega, fun i hi => ?_, fun i hi => ?_, fun i hi => ?_, fun M hM => ?_⟩
    · rw [hget]; exact (hF i (by omega)).1
    · obtain ⟨ab, ao, spot⟩ := a
      have hc := (hF i (by omega)).2.2.1
      have h0 := (hF 0 (by omega)).2.2.1 0 (by omega)
      have hspot : spot = none := by simpa [Addr.add] using World.cell?_spot h0
      subst hspot
      refine ⟨ab, ao, rfl, fun j v hj => ⟨trivial, ?_⟩⟩
      have hj6 : j < 6 := by
        have := (List.getElem?_eq_some_iff.1 hj).1
        exact this
      have := hc j hj6
      rw [Addr.add_lit, Addr.add_lit] at this
      rw [hget] at hj
      rw [this]; exact hj
    · rw [hget]; exact (hF i (by omega)).2.1
    · rw [DataW.weights, Try.underlying24] at hM
      simp only [] at hM
      have h0 := hM _ List.mem_cons_self
      have h1 : ∀ u ∈ DataW.weightsAll Try.prog 27 (elems.map (·.1)), u ≤ M := fun u hu => hM u (List.mem_cons_of_mem _ (List.mem_append.2 (.inl hu)))
      have h2 := weights_all h1
      rw [List.length_map] at h0
      refine ⟨by rw [hll, ← hlen]; exact len_le bytes_o h0, fun y hy => ?_⟩
      obtain ⟨i, hi, rfl⟩ := List.mem_map.1 hy
      have hi' := List.mem_range.1 hi
      exact (hF i hi').2.2.2 M fun hi'' => h2 _ (List.mem_map.2 ⟨elems[i], List.getElem_mem hi'', rfl⟩)

/-- What a row of cells reads as: an entry. -/
def ReadsE (W : World) (P : Program) {H : Type} (cs : List Value) (x : DataW H) : Prop :=
  ∃ (e : Entr) (h : Hd), cs = cells7 e h ∧ e.1.size ≤ maxLen ∧ Lies (Cel (fun _ => True) W) e.2 h ∧ Ob.Words e.2 ∧ ∀ M, (∀ u ∈ x.weights P 85, u ≤ M) → e.1.size ≤ M ∧ Ob.Fits M e.2

set_option maxRecDepth 100000 in
theorem open_rowE {fuel : Nat} {cs : List Value} {x : DataW H × List MemPlace} (ih : ∀ n, n < fuel → ∀ cs (y : DataW H × List MemPlace), DataW.trod enc Try.prog W base sp held n 85 cs = some y → ReadsE W Try.prog cs y.1)
    (h : DataW.trod enc Try.prog W base sp held fuel 25 cs = some x) :
    ∃ (p : Option Addr) (c : Nat) (l : List Entr) (Hh : Nat → Hd), cs = [.slice p l.length c] ∧ l.length ≤ maxLen ∧ (∀ i (hi : i < l.length), Lies (Cel (fun _ => True) W) l[i].2 (Hh i)) ∧ (∀ i (hi : i < l.length), l[i].1.size ≤ maxLen) ∧
      (∀ i (hi : i < l.length), ∃ b o, p = some ⟨b, o, none⟩ ∧ RowAt (Cel (fun _ => True) W) b (o + i * 7) (cells7 l[i] (Hh i))) ∧ (∀ i (hi : i < l.length), Ob.Words l[i].2) ∧
      ∀ M, (∀ u ∈ x.1.weights Try.prog 25, u ≤ M) → l.length ≤ M ∧ ∀ y ∈ l, y.1.size ≤ M ∧ Ob.Fits M y.2 := by
  rcases DataW.trod_slice Try.underlying25 h with ⟨rfl, rfl⟩ | ⟨a, len, cap, elems, rest, n, rfl, rfl, rfl, hb, hlc, hcm, hlen, hel, -, -⟩
  · exact ⟨none, 0, [], fun _ => Hd.none, rfl, Nat.zero_le _, fun _ hi => absurd hi (Nat.not_lt_zero _), fun _ hi => absurd hi (Nat.not_lt_zero _), fun _ hi => absurd hi (Nat.not_lt_zero _), fun _ hi => absurd hi (Nat.not_lt_zero _), fun M _ => ⟨Nat.zero_le _, fun _ hy => absurd hy List.not_mem_nil⟩⟩
  · have one : ∀ i, i < len → ∃ oh : Entr × Hd, Lies (Cel (fun _ => True) W) oh.1.2 oh.2 ∧ Ob.Words oh.1.2 ∧ (∀ j, j < 7 → W.cell? ((a.add (i * 7)).add j) = (cells7 oh.1 oh.2)[j]?) ∧ oh.1.1.size ≤ maxLen ∧ ∀ M, (∀ hi : i < elems.length, ∀ u ∈ elems[i].1.weights Try.prog 85, u ≤ M) → oh.1.1.size ≤ M ∧ Ob.Fits M oh.1.2 := fun i hi => by
      have hi' : i < elems.length := by omega
      have key := hel i hi
      rw [cells_e, List.getElem?_eq_getElem hi'] at key
      obtain ⟨cs', h1, h2⟩ := Option.bind_eq_some_iff.1 key
      obtain ⟨o, hh, rfl, hs, hL, hw, hF⟩ := ih n (by omega) cs' _ h2
      exact ⟨(o, hh), hL, hw, (World.cells?_some h1).2.2, hs, fun M hM => hF M (hM hi')⟩
    obtain ⟨F, hF⟩ := Go.Deep.choose_lt (α := Entr × Hd) one
    have hll : ((List.range len).map fun i => (F i).1).length = len := by simp
    have hget : ∀ i (hi : i < ((List.range len).map fun i => (F i).1).length), ((List.range len).map fun i => (F i).1)[i] = (F i).1 := fun i hi => by simp
    refine ⟨some a, cap, (List.range len).map fun i => (F i).1, fun i => (F i).2, by rw [hll], by rw [hll]; omega, fun i hi => ?_, fun i hi => ?_, fun i hi => ?_, fun i hi => ?_, fun M hM => ?_⟩
    · rw [hget]; exact (hF i (by omega)).1
    · rw [hget]; exact (hF i (by omega)).2.2.2.1
    · obtain ⟨ab, ao, spot⟩ := a
      have hc := (hF i (by omega)).2.2.1
      have h0 := (hF 0 (by omega)).2.2.1 0 (by omega)
      have hspot : spot = none := by simpa [Addr.add] using World.cell?_spot h0
      subst hspot
      refine ⟨ab, ao, rfl, fun j v hj => ⟨trivial, ?_⟩⟩
      have hj6 : j < 7 := by
        have := (List.getElem?_eq_some_iff.1 hj).1
        exact this
      have := hc j hj6
      rw [Addr.add_lit, Addr.add_lit] at this
      rw [hget] at hj
      rw [this]; exact hj
    · rw [hget]; exact (hF i (by omega)).2.1
    · rw [DataW.weights, Try.underlying25] at hM
      simp only [] at hM
      have h0 := hM _ List.mem_cons_self
      have h1 : ∀ u ∈ DataW.weightsAll Try.prog 85 (elems.map (·.1)), u ≤ M := fun u hu => hM u (List.mem_cons_of_mem _ (List.mem_append.2 (.inl hu)))
      have h2 := weights_all h1
      rw [List.length_map] at h0
      refine ⟨by rw [hll, ← hlen]; exact len_le bytes_e h0, fun y hy => ?_⟩
      obtain ⟨i, hi, rfl⟩ := List.mem_map.1 hy
      have hi' := List.mem_range.1 hi
      exact (hF i hi').2.2.2.2 M fun hi'' => h2 _ (List.mem_map.2 ⟨elems[i], List.getElem_mem hi'', rfl⟩)

set_option maxRecDepth 100000 in
/-- Objects and entries at one fuel, out of all that is less. -/
theorem open_objs : ∀ fuel : Nat, (∀ cs (x : DataW H × List MemPlace), DataW.trod enc Try.prog W base sp held fuel 27 cs = some x → ReadsO W Try.prog cs x.1) ∧ (∀ cs (x : DataW H × List MemPlace), DataW.trod enc Try.prog W base sp held fuel 85 cs = some x → ReadsE W Try.prog cs x.1) := by
  intro fuel
  induction fuel using Nat.strongRecOn with
  | _ fuel ih =>
    have hO : ∀ cs (x : DataW H × List MemPlace), DataW.trod enc Try.prog W base sp held fuel 27 cs = some x → ReadsO W Try.prog cs x.1 := by
      intro cs x h
      obtain ⟨xs, n, rfl, rfl, hlen, hxs, hf⟩ := DataW.trod_struct Try.underlying27 h
      rw [cells_o] at hlen
      match cs, hlen with
      | [c0, c1, c2, c3, c4, c5], _ =>
        match xs, hxs with
        | [y0, y1, y2, y3, y4, y5], _ =>
          have h0 := hf 0 _ rfl
          have h1 := hf 1 _ rfl
          have h2 := hf 2 _ rfl
          have h3 := hf 3 _ rfl
          have h4 := hf 4 _ rfl
          have h5 := hf 5 _ rfl
          simp only [cells_i, cells_f, cells_s, cells_lo, cells_le, List.drop_zero, List.drop_succ_cons, List.take_succ_cons, List.take_zero, List.getElem?_cons_zero, List.getElem?_cons_succ] at h0 h1 h2 h3 h4 h5
          obtain ⟨k, hk, hk', wk⟩ := DataW.trod_int Try.underlying3 h0
          obtain ⟨n', hn, hn', wn⟩ := DataW.trod_int Try.underlying3 h1
          obtain ⟨f, hf', hf'', wf⟩ := DataW.trod_int Try.underlying23 h2
          obtain ⟨s, hs, hs', ws⟩ := DataW.trod_string Try.underlying9 h3
          obtain ⟨p, c, l, Hl, hl, hl0, hl1, hl2, hl3, hl4⟩ := open_rowO (fun m hm => (ih m (by omega)).1) h4
          obtain ⟨q, e, d, Hd', hd, hd0, hd1, hd2, hd3, hd4, hd5⟩ := open_rowE (fun m hm => (ih m (by omega)).2) h5
          cases hk; cases hn; cases hf'; cases hs; cases hl; cases hd
          refine ⟨.mk k n' f s l d, ⟨p, c, q, e⟩, rfl, .mk k n' f s l d ⟨p, c, q, e⟩ Hl Hd' ⟨hl0, hd0, ws⟩ hl1 hl2 hd1 hd2 hd3, .mk k n' f s l d wk wn wf hl3 hd4, fun M hM => ?_⟩
          subst hs'
          rw [DataW.weights, Try.underlying27] at hM
          simp only [List.map_cons, List.map_nil, DataW.weightsEach, List.mem_append, DataW.weights] at hM
          have w3 : s.size ≤ M := hM _ (.inr (.inr (.inr (.inl List.mem_cons_self))))
          have w4 := hl4 M fun u hu => hM u (.inr (.inr (.inr (.inr (.inl hu)))))
          have w5 := hd5 M fun u hu => hM u (.inr (.inr (.inr (.inr (.inr (.inl hu))))))
          exact .mk k n' f s l d w3 w4.1 w5.1 w4.2 (fun e he => (w5.2 e he).1) (fun e he => (w5.2 e he).2)
    refine ⟨hO, fun cs x h => ?_⟩
    obtain ⟨xs, n, rfl, rfl, hlen, hxs, hf⟩ := DataW.trod_struct Try.underlying85 h
    rw [cells_e] at hlen
    match cs, hlen with
    | [c0, c1, c2, c3, c4, c5, c6], _ =>
      match xs, hxs with
      | [y0, y1], _ =>
        have h0 := hf 0 _ rfl
        have h1 : DataW.trod enc Try.prog W base sp held n 27 [c1, c2, c3, c4, c5, c6] = some y1 := by simpa [cells_o] using hf 1 _ rfl
        simp only [cells_s, List.drop_zero, List.take_succ_cons, List.take_zero, List.getElem?_cons_zero] at h0
        obtain ⟨s, hs, hs', ws⟩ := DataW.trod_string Try.underlying9 h0
        obtain ⟨o, hh, ho, hL, hw, hF⟩ := (ih n (by omega)).1 _ _ h1
        cases hs
        refine ⟨(s, o), hh, by rw [ho]; rfl, ws, hL, hw, fun M hM => ?_⟩
        subst hs'
        rw [DataW.weights, Try.underlying85] at hM
        simp only [List.map_cons, List.map_nil, DataW.weightsEach, List.mem_append] at hM
        exact ⟨hM _ (.inl (by rw [DataW.weights]; exact List.mem_cons_self)), hF M fun u hu => hM u (.inr (.inl hu))⟩

set_option maxRecDepth 100000 in
/-- An object that came in: how it lies, and that it is no longer than what came in. -/
theorem open_obj {b0 : Nat} {r : Reach} {v : Value} {d : DataW H} {p : List MemPlace} (hv : Value.okWide Try.prog W r b0 27 v) (h : DataW.Trod enc Try.prog W base sp held 27 v d p) :
    ∃ o h, v = objV o h ∧ Lies (Cel (fun _ => True) W) o h ∧ Ob.Words o ∧ ∀ M, (∀ u ∈ d.weights Try.prog 27, u ≤ M) → Ob.Fits M o := by
  simp only [Value.okWide, Try.underlying27] at hv
  obtain ⟨cs, rfl, -, -⟩ := hv
  obtain ⟨fuel, hf⟩ := h
  obtain ⟨o, hh, he, hL, hw, hF⟩ := (open_objs fuel).1 _ _ hf
  refine ⟨o, hh, ?_, hL, hw, hF⟩
  simp only [Value.cells] at he
  obtain ⟨l⟩ := cs
  simp only at he
  rw [he]; rfl

theorem fits_of {l : List Nat} (h : l.all (· ≤ reachBytes) = true) : ∀ u ∈ l, u ≤ 140737488355328 := fun u hu => by
  have h1 := List.all_eq_true.1 h u hu
  have h2 : u ≤ reachBytes := by simpa using h1
  exact Nat.le_trans h2 (by decide)

end

end Go.Proofs.Ytakbhdhlcnpejaa

namespace Go.Proofs.Ytakbhdhlcnpejaa
open Go.ChangeShapes Go.WideShapes Go.ChangeAt Go.RowKit Cx Sx
set_option linter.unusedSimpArgs false
set_option linter.unusedVariables false

section
variable {H : Type} {enc : TypeId × Value → H} {W : World} {base : Nat} {sp : Nat → Bool} {held : Bool}

theorem cells_rn : Try.prog.cellsOf 56 = 8 := by kernel_rfl

theorem cells_rl : Try.prog.cellsOf 22 = 1 := by kernel_rfl

theorem cells_rf : Try.prog.cellsOf 29 = 7 := by kernel_rfl

theorem bytes_rn : 0 < Try.prog.bytesOf 56 := of_decide_eq_true (by kernel_rfl)

/-- The numbers are whole words. -/
def NmWf (x : Nm) : Prop := (-9223372036854775808 ≤ x.n ∧ x.n ≤ 9223372036854775807) ∧ (-9223372036854775808 ≤ x.g ∧ x.g ≤ 9223372036854775807)

set_option maxRecDepth 100000 in
theorem open_nm {fuel : Nat} {cs : List Value} {x : DataW H × List MemPlace} (h : DataW.trod enc Try.prog W base sp held fuel 56 cs = some x) :
    ∃ (y : Nm) (hd : Hd), cs = cells8 y hd ∧ Lies (Cel (fun _ => True) W) y.o hd ∧ Ob.Words y.o ∧ NmWf y ∧ ∀ M, (∀ u ∈ x.1.weights Try.prog 56, u ≤ M) → Ob.Fits M y.o := by
  obtain ⟨xs, n, rfl, rfl, hlen, hxs, hf⟩ := DataW.trod_struct Try.underlying56 h
  rw [cells_rn] at hlen
  match cs, hlen with
  | [c0, c1, c2, c3, c4, c5, c6, c7], _ =>
    match xs, hxs with
    | [y0, y1, y2], _ =>
      have h0 := hf 0 _ rfl
      have h1 := hf 1 _ rfl
      have h2 : DataW.trod enc Try.prog W base sp held n 27 [c2, c3, c4, c5, c6, c7] = some y2 := by simpa [cells_o, cells_i] using hf 2 _ rfl
      simp only [cells_i, List.drop_zero, List.drop_succ_cons, List.take_succ_cons, List.take_zero, List.getElem?_cons_zero, List.getElem?_cons_succ] at h0 h1
      obtain ⟨a, ha, -, wa⟩ := DataW.trod_int Try.underlying3 h0
      obtain ⟨b, hb, -, wb⟩ := DataW.trod_int Try.underlying3 h1
      obtain ⟨o, hh, ho, hL, hw, hF⟩ := (open_objs n).1 _ _ h2
      cases ha; cases hb
      refine ⟨⟨a, b, o⟩, hh, by unfold cells8; rw [ho], hL, hw, ⟨i64_bd wa, i64_bd wb⟩, fun M hM => ?_⟩
      rw [DataW.weights, Try.underlying56] at hM
      simp only [List.map_cons, List.map_nil, DataW.weightsEach, List.mem_append] at hM
      exact hF M fun u hu => hM u (.inr (.inr (.inl hu)))

set_option maxRecDepth 100000 in
theorem open_rowN {fuel : Nat} {cs : List Value} {x : DataW H × List MemPlace} (h : DataW.trod enc Try.prog W base sp held fuel 22 cs = some x) :
    ∃ (p : Option Addr) (c : Nat) (rs : NRow), cs = [.slice p rs.length c] ∧ rs.length ≤ maxLen ∧ NmK W p rs ∧ (∀ r ∈ rs, Lies (Cel (fun _ => True) W) r.1.o r.2 ∧ Ob.Words r.1.o ∧ NmWf r.1) ∧
      ∀ M, (∀ u ∈ x.1.weights Try.prog 22, u ≤ M) → rs.length ≤ M ∧ ∀ r ∈ rs, Ob.Fits M r.1.o := by
  rcases DataW.trod_slice Try.underlying22 h with ⟨rfl, rfl⟩ | ⟨a, len, cap, elems, rest, n, rfl, rfl, rfl, hb, hlc, hcm, hlen, hel, -, -⟩
  · exact ⟨none, 0, [], rfl, Nat.zero_le _, fun _ hi => absurd hi (Nat.not_lt_zero _), fun _ hr => absurd hr List.not_mem_nil, fun M _ => ⟨Nat.zero_le _, fun _ hy => absurd hy List.not_mem_nil⟩⟩
  · haveI : Inhabited (Nm × Hd) := ⟨⟨⟨0, 0, nul⟩, Hd.none⟩⟩
    have one : ∀ i, i < len → ∃ r : Nm × Hd, (Lies (Cel (fun _ => True) W) r.1.o r.2 ∧ Ob.Words r.1.o ∧ NmWf r.1) ∧ (∀ j, j < 8 → W.cell? ((a.add (i * 8)).add j) = (cells8 r.1 r.2)[j]?) ∧ ∀ M, (∀ hi : i < elems.length, ∀ u ∈ elems[i].1.weights Try.prog 56, u ≤ M) → Ob.Fits M r.1.o := fun i hi => by
      have hi' : i < elems.length := by omega
      have key := hel i hi
      rw [cells_rn, List.getElem?_eq_getElem hi'] at key
      obtain ⟨cs', h1, h2⟩ := Option.bind_eq_some_iff.1 key
      obtain ⟨y, hd, rfl, hL, hw, hwf, hF⟩ := open_nm h2
      exact ⟨(y, hd), ⟨hL, hw, hwf⟩, (World.cells?_some h1).2.2, fun M hM => hF M (hM hi')⟩
    obtain ⟨F, hF⟩ := Go.Deep.choose_lt (α := Nm × Hd) one
    have hll : ((List.range len).map F).length = len := by simp
    have hget : ∀ i (hi : i < ((List.range len).map F).length), ((List.range len).map F)[i] = F i := fun i hi => by simp
    refine ⟨some a, cap, (List.range len).map F, by rw [hll], by rw [hll]; omega, fun i hi => ?_, fun r hr => ?_, fun M hM => ?_⟩
    · obtain ⟨ab, ao, spot⟩ := a
      have hc := (hF i (by omega)).2.1
      have h0 := (hF 0 (by omega)).2.1 0 (by omega)
      have hspot : spot = none := by simpa [Addr.add] using World.cell?_spot h0
      subst hspot
      rw [hget]
      have q0 := hc 0 (by omega)
      rw [Addr.add_lit, Addr.add_lit] at q0
      refine ⟨ab, ao, rfl, World.block_lt_of_cell? W _ q0, fun q v hv => ?_⟩
      have hq : q < 8 := (List.getElem?_eq_some_iff.1 hv).1
      have := hc q hq
      rw [Addr.add_lit, Addr.add_lit] at this
      rw [this]; exact hv
    · obtain ⟨i, hi, rfl⟩ := List.mem_map.1 hr
      exact (hF i (List.mem_range.1 hi)).1
    · rw [DataW.weights, Try.underlying22] at hM
      simp only [] at hM
      have h0 := hM _ List.mem_cons_self
      have h1 : ∀ u ∈ DataW.weightsAll Try.prog 56 (elems.map (·.1)), u ≤ M := fun u hu => hM u (List.mem_cons_of_mem _ (List.mem_append.2 (.inl hu)))
      have h2 := weights_all h1
      rw [List.length_map] at h0
      refine ⟨by rw [hll, ← hlen]; exact len_le bytes_rn h0, fun y hy => ?_⟩
      obtain ⟨i, hi, rfl⟩ := List.mem_map.1 hy
      have hi' := List.mem_range.1 hi
      exact (hF i hi').2.2 M fun hi'' => h2 _ (List.mem_map.2 ⟨elems[i], List.getElem_mem hi'', rfl⟩)

/-- A file that came in. -/
def FileArg (W : World) (v : Value) (rs : NRow) (p : Option Addr) (c : Nat) (t : Ob) (ht : Hd) : Prop :=
  v = fileV (rs.map (·.1)) p c t ht ∧ rs.length ≤ maxLen ∧ NmK W p rs ∧ (∀ r ∈ rs, Lies (Cel (fun _ => True) W) r.1.o r.2 ∧ Ob.Words r.1.o ∧ NmWf r.1) ∧ Lies (Cel (fun _ => True) W) t ht ∧ Ob.Words t
/-- .. none of it is longer than M. -/
def FileFits (M : Nat) (rs : NRow) (t : Ob) : Prop := rs.length ≤ M ∧ (∀ r ∈ rs, Ob.Fits M r.1.o) ∧ Ob.Fits M t

set_option maxRecDepth 100000 in
theorem open_file {b0 : Nat} {r : Reach} {v : Value} {d : DataW H} {p : List MemPlace} (hv : Value.okWide Try.prog W r b0 29 v) (h : DataW.Trod enc Try.prog W base sp held 29 v d p) :
    ∃ rs p c t ht, FileArg W v rs p c t ht ∧ ∀ M, (∀ u ∈ d.weights Try.prog 29, u ≤ M) → FileFits M rs t := by
  simp only [Value.okWide, Try.underlying29] at hv
  obtain ⟨cs, rfl, -, -⟩ := hv
  obtain ⟨fuel, hf⟩ := h
  obtain ⟨xs, n, rfl, hd, hlen, hxs, hf⟩ := DataW.trod_struct Try.underlying29 hf
  rw [cells_rf] at hlen
  simp only [Value.cells] at hlen hf
  obtain ⟨l⟩ := cs
  simp only at hlen hf
  match l, hlen with
  | [c0, c1, c2, c3, c4, c5, c6], _ =>
    match xs, hxs with
    | [y0, y1], _ =>
      have h0 := hf 0 _ rfl
      have h1 : DataW.trod enc Try.prog W base sp held n 27 [c1, c2, c3, c4, c5, c6] = some y1 := by simpa [cells_o, cells_rl] using hf 1 _ rfl
      simp only [cells_rl, List.drop_zero, List.take_succ_cons, List.take_zero, List.getElem?_cons_zero] at h0
      obtain ⟨q, c, rs, hc0, hl0, hk, hall, hF0⟩ := open_rowN h0
      obtain ⟨t, ht, hc1, hL, hw, hF1⟩ := (open_objs n).1 _ _ h1
      cases hc0
      refine ⟨rs, q, c, t, ht, ⟨?_, hl0, hk, hall, hL, hw⟩, fun M hM => ?_⟩
      · unfold fileV
        rw [List.length_map]
        show Value.agg ⟨_ :: [c1, c2, c3, c4, c5, c6]⟩ = _
        rw [hc1]; rfl
      · obtain rfl := (Prod.mk.inj hd).1
        rw [DataW.weights, Try.underlying29] at hM
        simp only [List.map_cons, List.map_nil, DataW.weightsEach, List.mem_append] at hM
        have w0 := hF0 M fun u hu => hM u (.inl hu)
        exact ⟨w0.1, w0.2, hF1 M fun u hu => hM u (.inr (.inl hu))⟩
end

theorem FileArg.nmR {W : World} {v : Value} {rs : NRow} {p : Option Addr} {c : Nat} {t : Ob} {ht : Hd} (h : FileArg W v rs p c t ht) : NmR (fun _ => True) W p (rs.map (·.1)) :=
  h.2.2.1.nmR (fun _ _ _ => trivial) (fun r hr => (h.2.2.2.1 r hr).1) h.2.1

end Go.Proofs.Ytakbhdhlcnpejaa
