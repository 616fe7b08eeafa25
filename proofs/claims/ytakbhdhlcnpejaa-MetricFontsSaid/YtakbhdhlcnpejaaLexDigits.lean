/-
  What package lex's digitText answers: the Text behind "<".
-/
import Derived.Test.YtakbhdhlcnpejaaLexW1
import Derived.Outline
namespace Go.Proofs.Ytakbhdhlcnpejaa
open Go.RowKit

/-- The last of the bytes, and one in its place. -/
theorem Owns.last {w : World} {B : Nat} {v : Value} {acc : List UInt8} {u : UInt8} (h : Owns w B v (acc ++ [u])) :
    ∃ g cap, v = .slice (some ⟨g, 0, none⟩) (acc.length + 1) cap ∧ B ≤ g ∧ w.cell? ⟨g, acc.length, none⟩ = some (.int .u8 (u.toNat : Int)) ∧ w.frozen? ⟨g, acc.length, none⟩ = false ∧
      (∀ b cs t, Blk w b cs t → t ≠ 5 → b ≠ g) ∧ ∀ x : UInt8, Owns (w.setCell ⟨g, acc.length, none⟩ (.int .u8 (x.toNat : Int))) B v (acc ++ [x]) := by
  have h0 := h
  unfold Owns at h
  rw [List.length_append, List.length_singleton] at h
  rcases h.2 with ⟨_, h0⟩ | ⟨g, cap, cur, rfl, hb, hh, hn, hc, hs, ht⟩
  · omega
  · have hcell := World.ownsRow.cellAt h acc.length (by omega)
    have hl : acc.length < cur.size := by omega
    refine ⟨g, cap, rfl, hb, ?_, ?_, ?_, ?_⟩
    · rw [hcell]; simp [bytesV]
    · exact Blk.frozen (show Blk w g cur 5 from hh) _
    · intro b cs t hbk hne e
      have := h0.ne hbk hne
      simp [Value.ownBlock] at this
      exact this e
    · intro x
      unfold Owns
      rw [List.length_append, List.length_singleton]
      refine ⟨by simp [bytesV], .inr ⟨g, cap, cur.setIfInBounds acc.length (.int .u8 (x.toNat : Int)), rfl, hb, heap_setCell_same w g acc.length cur _ _ hh, hn, hc, by simpa using hs, ?_⟩⟩
      rw [Nat.mul_one] at ht ⊢
      rw [bytesV_app] at ht ⊢
      have hlen : (cur.setIfInBounds acc.length (.int .u8 (x.toNat : Int))).toList = cur.toList.set acc.length (.int .u8 (x.toNat : Int)) := by simp
      rw [hlen, List.take_set, ht, List.set_append_right _ _ (by simp [bytesV])]
      simp [bytesV]

theorem hexD_lt {c : UInt8} (h : Lx.isHex c = true) : (Lx.hexV c).toNat < 16 := by
  have := Lx.byte_all (fun c => !Lx.isHex c || decide ((Lx.hexV c).toNat < 16)) (by kernel_rfl) c
  rw [h] at this; simpa using this
theorem hex_or (u : UInt8) {c : UInt8} (hc : Lx.isHex c = true) : bits BinOp.or IntKind.u8 (u.toNat : Int) ((Lx.hexV c).toNat : Int) = ((u ||| Lx.hexV c).toNat : Int) := by
  have key : (List.range 256).all (fun a => (List.range 16).all fun b => bits BinOp.or IntKind.u8 ((UInt8.ofNat a).toNat : Int) ((UInt8.ofNat b).toNat : Int) == ((UInt8.ofNat a ||| UInt8.ofNat b).toNat : Int)) = true := by kernel_rfl
  have h1 := List.all_eq_true.1 (List.all_eq_true.1 key _ (List.mem_range.2 u.toNat_lt)) _ (List.mem_range.2 (hexD_lt hc))
  simpa using h1
theorem hex_shl {c : UInt8} (hc : Lx.isHex c = true) : ((Lx.hexV c).toNat : Int) * (16 : Int) % (256 : Int) = ((Lx.hexV c <<< 4).toNat : Int) := by
  have key : (List.range 16).all (fun a => ((UInt8.ofNat a).toNat : Int) * (16 : Int) % (256 : Int) == ((UInt8.ofNat a <<< 4).toNat : Int)) = true := by kernel_rfl
  have h1 := List.all_eq_true.1 key _ (List.mem_range.2 (hexD_lt hc))
  simpa using h1

end Go.Proofs.Ytakbhdhlcnpejaa
