/-
  What ends a block that is wrong: the deferred closure.
-/
import Derived.Test.YtpplboihlndfpaaDoorInfBlock
import Derived.Defers
import Derived.Recover
namespace Go.Proofs.YtpplboihlndfpaaDoor
open Go.RowKit Ix
set_option linter.unusedSimpArgs false
set_option linter.unusedVariables false

theorem catch_idle (po pb pe : Addr) (w : World) :
    CallsD Tryd.prog 38 #[.pointer (some po), .pointer (some pb), .pointer (some pe)] .returning w fun e u' w' => e = .returned (.tuple #[]) ∧ u' = .returning ∧ w' = w := by
  refine callsD_of_wpS Tryd.func38 rfl fun c₀ cs hu => ?_
  apply wpS_seq
  apply wpS_region
  simp [wpOpsS, go_sem, recoverD, hu, Tryd.ntmps38, Exit.thenS]
  refine wpS_of_wp ?_
  simp only [Array.replicate, List.replicate, List.setIfInBounds_toArray, List.set_cons_succ, List.set_cons_zero, List.append_toArray, List.cons_append, List.nil_append]
  go_wp2_with fail
  cases c₀
  simp_all [bodyPostS, results, Tryd.results38]

theorem catch_panicking (bo bb be : Nat) (k0 n0 : Value) (e0 : Value) (z : Int) (older : List PanicEntry) (w : World) (ho : w.cell? ⟨bo, 0, none⟩ = some k0) (hb : w.cell? ⟨bb, 0, none⟩ = some n0) (he : w.cell? ⟨be, 0, none⟩ = some e0) (hf1 : w.frozen? ⟨bo, 0, none⟩ = false) (hf2 : w.frozen? ⟨bb, 0, none⟩ = false) (hf3 : w.frozen? ⟨be, 0, none⟩ = false) (n1 : bo ≠ bb) (n2 : bo ≠ be) (n3 : bb ≠ be) :
    CallsD Tryd.prog 38 #[.pointer (some ⟨bo, 0, none⟩), .pointer (some ⟨bb, 0, none⟩), .pointer (some ⟨be, 0, none⟩)] (.panicking ({ v := .iface 29 (.int .i64 z), recovered := false } :: older)) w fun e u' w' =>
      e = .returned (.tuple #[]) ∧ u' = .panicking ({ v := .iface 29 (.int .i64 z), recovered := true } :: older) ∧ w' = ((w.drew.setCell ⟨bo, 0, none⟩ (.slice none 0 0)).setCell ⟨bb, 0, none⟩ (.int .i64 0)).setCell ⟨be, 0, none⟩ (.int .i64 z) := by
  have ta : ∀ (T : TypeId) (w : World), (Instr.typeAssert (.iface 29 (.int .i64 z)) T 29 false).run Tryd.prog w = .ok (.int .i64 z) w := fun T w => by kernel_rfl
  refine callsD_of_wpS Tryd.func38 rfl fun c₀ cs hu => ?_
  apply wpS_seq
  apply wpS_region
  simp [wpOpsS, go_sem, recoverD, hu, Tryd.ntmps38, Exit.thenS]
  refine wpS_of_wp ?_
  simp only [Array.replicate, List.replicate, List.setIfInBounds_toArray, List.set_cons_succ, List.set_cons_zero, List.append_toArray, List.cons_append, List.nil_append]
  go_wp2_with fail
  refine wp_region_any (by kernel_rfl) ?_
  change wpAny _ _ _ _ _ _ _ (World.drew _)
  refine wpAny_take (i := 0) (v := ?_) rfl (by kernel_rfl) (by kernel_rfl) (by kernel_rfl) (fun _ _ _ h => h) (Or.inl ⟨by rfl, (by intro w; go_simp; try with_reducible rfl)⟩) ?_
  refine wpAny_take (i := 1) (v := .int .i64 z) rfl (by kernel_rfl) (by kernel_rfl) (by kernel_rfl) (fun _ _ _ h => h) (Or.inl ⟨by rfl, (by intro w; go_simp)⟩) ?_
  refine wpAny_ready (rs := [2]) (by kernel_rfl) (by simp) ?_
  refine AllReady.cons rfl (fun K hK => ?_) AllReady.nil
  go_simp
  refine hK _ _ ?_
  clear hK K
  refine wpAny_ready (rs := [3]) (by kernel_rfl) (by simp) ?_
  refine AllReady.cons rfl (fun K hK => ?_) AllReady.nil
  go_simp
  refine hK _ _ ?_
  clear hK K
  refine wpAny_ready (rs := [4]) (by kernel_rfl) (by simp) ?_
  refine AllReady.cons rfl (fun K hK => ?_) AllReady.nil
  go_simp
  refine hK _ _ ?_
  clear hK K
  refine wpAny_done (by kernel_rfl) ?_ _
  change bodyPostS _ _ _ _ _ _ _ _ _
  cases c₀
  simp [bodyPostS, results, Tryd.results38]

end Go.Proofs.YtpplboihlndfpaaDoor
