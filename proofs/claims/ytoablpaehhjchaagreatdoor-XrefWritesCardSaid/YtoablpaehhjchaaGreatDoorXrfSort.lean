/-
  Entries sorted by their numbers.
-/
import Derived.Test.YtoablpaehhjchaaGreatDoorXrfSeq
import Derived.Test.YtoablpaehhjchaaGreatDoorShelf
import Derived.Shelf.SlSortCmp.WholeK
import Derived.Shelf.SlSortCmp.NoneTotal
namespace Go.Proofs.YtoablpaehhjchaaGreatDoor
open Go.RowKit Go.Maps Go.Shelf Rx
set_option linter.unusedSimpArgs false
set_option linter.unusedVariables false

def cmpE (x y : Xent) : Int := Lib.compareInt x.n y.n
theorem ltE (x y : Xent) : ltOf cmpE x y = decide (x.n < y.n) := by
  unfold ltOf cmpE Lib.compareInt
  by_cases h1 : x.n < y.n
  · simp [h1]
  · by_cases h2 : y.n < x.n <;> simp [h1, h2]
theorem swoE : Go.Sort.SWO (ltOf cmpE) where
  irrefl x := by rw [ltE]; simp
  trans x y z h1 h2 := by rw [ltE] at *; simp at *; omega
  ntrans x y z h1 h2 := by rw [ltE] at *; simp at *; omega

set_option maxHeartbeats 1000000 in
theorem byNumber_any (x y : Xent) (W : World) : Calls Tryz.prog 34 #[xentV x, xentV y] W fun e w' => e = .returned (.int .i64 (cmpE x y)) ∧ ∃ q os', w' = Go.Sort.grow (W.drewN q) os' := by
  have hcon := fun W' => Tryz.cmp_Compare_int x.n y.n W'
  unfold cmpE xentV
  generalize Lib.compareInt x.n y.n = r at hcon ⊢
  go_enter Tryz.func34, Tryz.ntmps34
  go_wp2_with (go_at_call 53; refine (hcon _).mono ?_; rintro e w' ⟨rfl, rfl⟩)
  go_ret
  exact ⟨rfl, 0, _, by rw [Go.Sort.alloc_eq_grow, Go.Sort.alloc_eq_grow, Go.Sort.grow_grow]; rfl⟩

theorem flat_ents (ts : List Xent) : Go.Sort.flatK entc 4 ts.toArray = (entC ts).toArray := by
  apply Array.ext
  · rw [Go.Sort.size_flatK]; simp [entC_len]; omega
  · intro t h1 h2
    have h3 : t < ts.length * 4 := by simpa using h1
    have hg := Go.Sort.get_flatK entc 4 ts.toArray t (by simpa using h3)
    rw [getElem!_pos _ t h1] at hg
    rw [hg]
    have hi : t / 4 < ts.length := by omega
    have hq : t % 4 < 4 := Nat.mod_lt _ (by decide)
    have he := entC_get ts (t / 4) hi (t % 4) hq
    rw [show t / 4 * 4 + t % 4 = t by omega] at he
    have e1 : ts.toArray[t / 4]! = ts[t / 4] := by rw [getElem!_pos _ (t / 4) (by simpa using hi)]; simp
    rw [e1]
    have h4 : t < (entC ts).length := by simpa using h2
    rw [List.getElem?_eq_getElem h4, List.getElem?_eq_getElem (show t % 4 < (entc ts[t / 4]).length by rw [entc_len]; omega)] at he
    rw [getElem!_pos _ (t % 4) (by rw [entc_len]; omega)]
    have := Option.some.inj he
    simp only [List.getElem_toArray]
    exact this.symm

theorem heap_sortedE {w : World} {g n : Nat} {os : Array Obj} {cur : Array Value} {e : TypeId} {fr : Nat × Nat} (d : Array Value) (hb : w.heap[g]? = some (.cells cur e fr)) :
    (Go.Sort.grow (Go.Sort.putRow id (Go.Sort.ahead w n) g 0 d) os).heap[g]? = some (.cells (Go.Sort.putCells id 0 d cur) e fr) := by
  have hg : g < w.heap.size := (Array.getElem?_eq_some_iff.1 hb).1
  rw [Go.Sort.heap_grow_old _ _ (by simpa using hg)]
  simp [Go.Sort.putRow, Go.Sort.mapBlock, Go.Sort.ahead, Array.getElem?_modify, hb, Go.Sort.onCells]
theorem grown_sortedE {w : World} {g n : Nat} {os : Array Obj} (d : Array Value) : w.grownBy (Go.Sort.grow (Go.Sort.putRow id (Go.Sort.ahead w n) g 0 d) os) (some g) := by
  refine ⟨rfl, rfl, rfl, by simp, fun k hk hne => ?_⟩
  rw [Go.Sort.heap_grow_old _ _ (by simpa using hk)]
  have : g ≠ k := fun e => hne (by rw [e])
  simp [Go.Sort.putRow, Go.Sort.mapBlock, Go.Sort.ahead, Array.getElem?_modify, this]
theorem take_putE (cur : Array Value) (vs : List Value) (h : vs.length ≤ cur.size) : (Go.Sort.putCells id 0 vs.toArray cur).toList.take vs.length = vs := by
  apply List.ext_getElem?
  intro j
  by_cases hj : j < vs.length
  · rw [List.getElem?_take_of_lt hj, Array.getElem?_toList]
    simp [Go.Sort.putCells, hj, show j < cur.size by omega]
  · rw [List.getElem?_take_eq_none (by omega), List.getElem?_eq_none (by omega)]
theorem perm_lists {d d' : Array Xent} (h : Go.Sort.PermIn 0 d.size d d') : d'.toList.Perm d.toList ∧ d'.size = d.size := by
  obtain ⟨hsz, _, hp⟩ := h
  have e1 : d'.extract 0 d.size = d' := by rw [← hsz]; exact Array.extract_size
  rw [e1, Array.extract_size] at hp
  exact ⟨hp, hsz⟩

set_option maxRecDepth 100000 in
theorem SortFunc_any (ts : List Xent) (g cap B : Nat) (w : World) (h : Ents 65 w B (.slice (some ⟨g, 0, none⟩) ts.length cap) ts) (hlen : ts.length ≤ 1099511627776) :
    Calls Tryz.prog 51 #[.slice (some ⟨g, 0, none⟩) ts.length cap, .func (.func 34) #[] #[]] w fun e w' =>
      e = .returned (.tuple #[]) ∧ ∃ ss : List Xent, ss.Perm ts ∧ ss.Pairwise (fun a b => a.n ≤ b.n) ∧ Ents 65 w' B (.slice (some ⟨g, 0, none⟩) ts.length cap) ss ∧ w.grownBy w' (some g) := by
  have eg : ∀ args w, (callFunc 34 args).run Tryz.prog w = .ok (.enter 34 args) w := enters_of Tryz.func34 (by kernel_rfl) rfl
  rcases h.2 with ⟨he, _⟩ | ⟨g', cap', cur, he, hb, hh, hn, hc, hs, ht⟩
  · cases he
  injection he with e1 e2 e3
  injection e1 with e1
  injection e1 with e1
  subst e1 e3
  have hcl := entC_len ts
  have hH : Go.Sort.HoldsK entc 4 w g 0 ts.toArray := by
    unfold Go.Sort.HoldsK
    rw [flat_ents]
    intro j hj
    have hj' : j < (entC ts).length := by simpa using hj
    refine ⟨?_, by simp [World.frozen?, hh]⟩
    rw [Nat.zero_add, World.ownsRow.cellAt h j (by omega), getElem!_pos _ j hj]
    rw [List.getElem?_eq_getElem hj']; simp
  refine (AnyQ.slices_SortFunc Tryz.sortE 4 Tryz.isAgg65 Tryz.sizeOf65 entc entc_len (fun x v hv => by simp only [entc, List.mem_cons, List.not_mem_nil, or_false] at hv; rcases hv with rfl | rfl | rfl | rfl <;> rfl) cmpE swoE 34 #[] g 0 cap ts.toArray w eg (fun _ _ _ _ x y => byNumber_any x y _) hH (World.ownsRow.lt h g rfl).2 (by simp; omega)).mono ?_
  rintro e w' ⟨he, d', n, os, hp, hso, hw⟩
  obtain ⟨hperm, hsz⟩ := perm_lists hp
  have hl : d'.toList.length = ts.length := by simpa using hsz
  have hfl : Go.Sort.flatK entc 4 d' = (entC d'.toList).toArray := by have := flat_ents d'.toList; simpa using this
  refine ⟨he, d'.toList, by simpa using hperm, ?_, ?_, ?_⟩
  · rw [List.pairwise_iff_getElem]
    intro i j hi hj hij
    have hi' : i < d'.size := by simpa using hi
    have hj' : j < d'.size := by simpa using hj
    have := hso i j (Nat.zero_le _) hij (by rw [← hsz]; exact hj')
    rw [ltE, decide_eq_false_iff_not, getElem!_pos _ i hi', getElem!_pos _ j hj'] at this
    simp only [Array.getElem_toList]; omega
  · subst hw
    unfold Ents sortWorldK Go.Sort.putRowK
    rw [hfl]
    have hcl2 := entC_len d'.toList
    rw [hl] at hcl2
    refine ⟨by rw [hcl2, hl]; omega, .inr ⟨g, cap, _, by rw [hl], hb, heap_sortedE _ hh, by rw [hl]; exact hn, hc, by simp [Go.Sort.putCells]; exact hs, ?_⟩⟩
    have := take_putE cur (entC d'.toList) (by rw [hcl2, hs]; omega)
    rw [hcl2] at this
    rw [hl, show ts.length * 4 = 4 * ts.length by omega]
    exact this
  · subst hw
    exact grown_sortedE _

theorem Collect_any {gf : Nat} {lb : Array Value} (eg : ∀ args w, (callFunc gf args).run Tryz.prog w = .ok (.enter gf args) w)
    {S Sp : List Xent → Prop} {N : Nat} (hN : N ≤ 1099511627776) (w w0 : World) (hb0 : Below w0.heap.size w0 w) (hseq : SeqStops Fence.wide 4 Tryz.prog gf lb xentV S Sp N w0) :
    Calls Tryz.prog 50 #[.func (.func gf) #[] lb] w fun e W' => ∃ v xs, e = .returned v ∧ S xs ∧ Ents 65 W' w.heap.size v xs ∧ Kept w W' := by
  have hcon := callsIn_wide.1 (AppendSeq_in Fence.wide 5 trivial rfl (by decide) gf lb trivial eg hN w w0 hb0 hseq)
  have HC := Lib.hid hcon
  clear hcon
  go_enter Tryz.func50, Tryz.ntmps50
  go_wp2_with (go_at_call 78; refine HC.out.mono ?_; rintro e w' ⟨v, xs, rfl, hS, ho, hk⟩)
  go_ret
  exact ⟨v, xs, rfl, hS, ho, hk⟩

theorem Kept.sorted {w w1 w2 : World} {g : Nat} (h : Kept w w1) (hg : w1.grownBy w2 (some g)) (hb : w.heap.size ≤ g) : Kept w w2 := Below.grown h hg (Below.size h) (fun k e => by cases e; exact hb)
set_option maxRecDepth 100000 in
theorem SortedFunc_any {gf : Nat} {lb : Array Value} (eg : ∀ args w, (callFunc gf args).run Tryz.prog w = .ok (.enter gf args) w)
    {S Sp : List Xent → Prop} {N : Nat} (hN : N ≤ 1099511627776) (w w0 : World) (hb0 : Below w0.heap.size w0 w) (hseq : SeqStops Fence.wide 4 Tryz.prog gf lb xentV S Sp N w0) (hS : ∀ xs, S xs → xs.length ≤ 1099511627776) :
    Calls Tryz.prog 32 #[.func (.func gf) #[] lb, .func (.func 34) #[] #[]] w fun e W' =>
      ∃ v xs ss, e = .returned v ∧ S xs ∧ ss.Perm xs ∧ ss.Pairwise (fun a b => a.n ≤ b.n) ∧ Ents 65 W' w.heap.size v ss ∧ Kept w W' := by
  have HC := Lib.hid (Collect_any eg hN w w0 hb0 hseq)
  have HS := Lib.hid hS
  clear hseq hS hb0 eg
  go_enter Tryz.func32, Tryz.ntmps32
  go_wp2_with (go_at_call 50; refine HC.out.mono ?_; rintro e w1 ⟨v, xs, rfl, hS1, ho1, hk1⟩)
  have H1 := Lib.hid hS1
  have O1 := Lib.hid ho1
  have K1 := Lib.hid hk1
  have hlx := HS.out xs hS1
  obtain ⟨p, cap, rfl, hcap, hnil⟩ := ho1.shape
  clear hS1 ho1 hk1
  cases p with
  | none =>
    obtain rfl : xs = [] := hnil rfl
    go_wp2_with (go_at_call 51; refine (AnyF.slices_SortFunc_none { Tryz.sortE with } _ _ _ _).mono ?_; rintro e w2 ⟨rfl, rfl⟩)
    go_ret
    exact ⟨_, [], [], rfl, H1.out, List.Perm.nil, List.Pairwise.nil, O1.out, K1.out⟩
  | some ad =>
    have hgg : ∃ g, ad = ⟨g, 0, none⟩ ∧ w.heap.size ≤ g := by
      rcases O1.out.2 with ⟨he, _⟩ | ⟨g, c2, cur, he, hb, _⟩
      · cases he
      · injection he with e1
        exact ⟨g, Option.some.inj e1, hb⟩
    obtain ⟨g, rfl, hgb⟩ := hgg
    go_wp2_with (go_at_call 51; refine (SortFunc_any xs g cap w.heap.size w1 O1.out hlx).mono ?_; rintro e w2 ⟨rfl, ss, hp, hs, ho2, hg2⟩)
    go_ret
    exact ⟨_, xs, ss, rfl, H1.out, hp, hs, ho2, K1.out.sorted hg2 hgb⟩

end Go.Proofs.YtoablpaehhjchaaGreatDoor
