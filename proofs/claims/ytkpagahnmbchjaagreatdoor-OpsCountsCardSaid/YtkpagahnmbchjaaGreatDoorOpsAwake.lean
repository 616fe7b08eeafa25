/-
  The document's example of layer 11: what the laws ask first is so.
-/
import Derived.Test.YtkpagahnmbchjaaGreatDoorOpsP
import Derived.Test.YtkpagahnmbchjaaGreatDoorOpsW
import Derived.Test.YtkpagahnmbchjaaGreatDoorOpsV
namespace Go.Proofs.YtkpagahnmbchjaaGreatDoor
open Go.RowKit Cx
set_option linter.unusedSimpArgs false
set_option linter.unusedVariables false

def awT : ByteArray := ⟨#[49, 32, 48, 32, 48, 32, 114, 103, 32, 47, 70, 32, 84, 102]⟩
def awR : List Ob := [opO ⟨#[114, 103]⟩ [.mk 2 1 1000 ⟨#[]⟩ [] [], .mk 2 1 0 ⟨#[]⟩ [] [], .mk 2 1 0 ⟨#[]⟩ [] []], opO ⟨#[84, 102]⟩ [.mk 3 0 0 ⟨#[70]⟩ [] []]]
theorem aw_parse : opsV awT.data.toList = (0, awR) := by kernel_rfl
theorem aw_E : opsE [qO] = 0 := by kernel_rfl
theorem aw_T : opsT [qO] = [113, 10] := by kernel_rfl
theorem aw_lv : (lineV qO).length = 2 := by kernel_rfl
theorem aw_ok : WritesOk [qO] := fun o ho => by
  rw [List.mem_singleton.1 ho]
  exact ⟨by decide, fun x hx => by cases hx⟩

/-- Operators that lie somewhere, by their first ones. -/
theorem OpR.first {P : Nat → Prop} {w : World} {p : Option Addr} {rs : ORow} {o : Ob} {l : List Ob} (h : OpR P w p rs) (hm : rs.map (·.1) = o :: l) : ∃ b off hd, p = some ⟨b, off, none⟩ ∧ b < w.heap.size ∧ w.cell? ⟨b, off, none⟩ = some (.string o.s) ∧ w.cell? ⟨b, off + 1, none⟩ = some (.slice hd.p o.l.length hd.c) ∧ Lies (Cel P w) o hd := by
  cases rs with
  | nil => cases hm
  | cons r t =>
    rw [List.map_cons] at hm
    obtain ⟨h1, -⟩ := List.cons.inj hm
    obtain ⟨b, off, hp, -, hlt, c0, c1⟩ := h.at' 0 (by simp)
    have hl := h.lies r List.mem_cons_self
    rw [List.getElem_cons_zero, h1, Nat.zero_mul, Nat.add_zero] at c0
    rw [List.getElem_cons_zero, h1, Nat.zero_mul, Nat.add_zero] at c1
    rw [h1] at hl
    exact ⟨b, off, r.2, hp, hlt, c0, c1, hl⟩

theorem q_opR {w : World} {g : Nat} (h : Blk w g #[.string ⟨#[113]⟩, .slice none 0 0] 45) : OpR (fun _ => True) w (some ⟨g, 0, none⟩) [(qO, ⟨none, 0, none, 0⟩)] := by
  refine ⟨fun i hi => ?_, fun r hr => ?_⟩
  · obtain rfl : i = 0 := by simpa using hi
    exact ⟨g, 0, rfl, trivial, h.lt, h.cell 0, h.cell 1⟩
  · rw [List.mem_singleton.1 hr]
    exact Lies.flat _ 0 0 0 ⟨#[113]⟩ _ (by decide)

set_option maxRecDepth 100000 in
set_option maxHeartbeats 8000000 in
theorem awake11_any (w : World) (hf : Fine w) :
    Calls Tryz.prog 7 #[] w fun e w' => e = .returned (.bool true) ∧ Kept w w' := by
  have HF := Lib.hid hf
  have PA := Lib.hid (OpsParse_any awT w (by decide) hf.1 _ aw_parse.symm)
  unfold OpsPost awT at PA
  simp only [awR, List.length_cons, List.length_nil] at PA
  clear hf
  go_enter Tryz.func7, Tryz.ntmps7
  (try simp only [List.append_eq, List.cons_append, List.nil_append])
  go_wp2_with fail
  (with_reducible refine PA.out.mono ?_)
  rintro e w1 ⟨p, c, rs, rfl, hk1, hm1, hr1⟩
  have K1 := Lib.hid hk1
  obtain ⟨b, off, hd, rfl, hlt, c0, c1, -⟩ := hr1.first hm1
  have KB := Lib.hid (show ∀ W, Kept w1 W → W.cell? ⟨b, off, none⟩ = some (.string ⟨#[114, 103]⟩) ∧ W.cell? ⟨b, off + 1, none⟩ = some (.slice hd.p 3 hd.c) from fun W k => ⟨(k.cells.1 b _ hlt).trans c0, (k.cells.1 b _ hlt).trans c1⟩)
  have K2 := Lib.hid (hk1.alloc #[.string ⟨#[113]⟩, .slice none 0 0] 45)
  have WR := Lib.hid (OpsWrite_any [(qO, ⟨none, 0, none, 0⟩)] (some ⟨w1.heap.size, 0, none⟩) 1 _ (q_opR (Blk.fresh w1 _ _)) (HF.out.kept K2.out) (HF.out.kept K2.out).1 aw_ok (by decide) 2 (fun o ho => by rw [List.mem_singleton.1 ho, aw_lv]; exact Nat.le_refl _) (by decide) 0 aw_E.symm ⟨#[113, 10]⟩ (by rw [show ([((qO, ⟨none, 0, none, 0⟩) : Ob × Hd)].map (·.1)) = [qO] from rfl, aw_T]))
  simp only [List.length_singleton] at WR
  have KA := Lib.hid ((Kept.refl w1).alloc #[.string ⟨#[113]⟩, .slice none 0 0] 45)
  clear hk1 hm1 hr1 c0 c1 hlt PA
  go_wp2_with fail
  (with_reducible refine WR.out.mono ?_)
  rintro e w2 ⟨rfl, hk2⟩
  have K3 := Lib.hid (K2.out.trans hk2)
  obtain ⟨d0, d1⟩ := KB.out w2 (KA.out.trans hk2)
  have WP := Lib.hid (Wrap_any [] none 0 w2 (OpR.nil _ _ _) (fun _ => rfl) (fun ad e => by cases e) (by decide))
  unfold WrapPost at WP
  simp only [List.length_nil, List.map_nil] at WP
  clear hk2
  go_wp2_with fail
  (with_reducible refine WP.out.mono ?_)
  rintro e w3 ⟨p', c', rs', rfl, hk3, hm3, hr3⟩
  have K4 := Lib.hid (K3.out.trans hk3)
  have hbal : balV (rs'.map (·.1)) = true := by rw [hm3]; exact wrap_bal (fun x hx => by cases hx)
  have hlen : rs'.length = 2 := by
    have := congrArg List.length hm3
    rw [List.length_map] at this
    exact this.trans (show (wrapV []).length = 2 from rfl)
  have BA := Balanced_any _ rs' p' c' w3 hr3 (by omega)
  rw [hbal] at BA
  have BA2 := Lib.hid BA
  clear hk3 hm3 hr3 hbal BA hlen d0 d1
  go_wp2_with fail
  (with_reducible refine BA2.out.mono ?_)
  rintro e w4 ⟨rfl, hk4⟩
  have K5 := Lib.hid (K4.out.trans hk4)
  clear hk4
  go_wp2_with fail
  go_ret
  exact ⟨rfl, K5.out⟩

end Go.Proofs.YtkpagahnmbchjaaGreatDoor
