/-
  Texts of this claim that are laid as one: Args.
-/
import Derived.Test.YtlgacmmofimlmabF3
import Derived.Test.YtlgacmmofimlmabF1
import Derived.ProofKit
import Derived.OpenShut
import Derived.ShutString
import Derived.ChangeOld
import Derived.SizedLaws
/-
  What is read of the arguments.
-/
namespace Go.Proofs.Ytlgacmmofimlmab
open Go.ChangeShapes Go.WideShapes Go.ChangeAt Go.RowKit

theorem ownK : ownKnob Try.prog.godebug = none := by kernel_rfl
theorem laidOut : laidOutB Try.prog = true := by kernel_rfl

theorem octet {x : Int} (h : (Lit.int .u8 x).wf = true) : 0 ≤ x ∧ x < 256 := by
  simp [Lit.wf, IntKind.min, IntKind.max, IntKind.bits, IntKind.signed] at h
  omega

theorem addr_add (b o i : Nat) : (⟨b, o, none⟩ : Addr).add i = ⟨b, o + i, none⟩ := by
  by_cases h : i = 0 <;> simp [Addr.add, h]

/-- A slice of bytes that came in, as it is read. -/
theorem open_bytes {H : Type} {enc : TypeId × Value → H} {W : World} {base : Nat} {sp : Nat → Bool} {held : Bool} {fuel : Nat} {a : Option Addr} {len cap : Nat} {x : DataW H × List MemPlace}
    (h : DataW.trod enc Try.prog W base sp held fuel 39 [.slice a len cap] = some x) : ∃ l, Sl W a len cap l ∧ Oct l ∧ (x.1 = .nil ∨ ∃ spare, x.1 = .slice (lits .u8 l) spare) := by
  rcases open_ints Try.underlying39 Try.underlying5 (by kernel_rfl) h with ⟨hcs, hx⟩ | ⟨ad, l, c, zs, hcs, _, hl, hm, hz, hx, hcell, hwz⟩
  · simp at hcs
    obtain ⟨rfl, rfl, rfl⟩ := hcs
    exact ⟨[], Sl.nil _, by intro x hx; simp at hx, .inl (by rw [hx])⟩
  · simp at hcs
    obtain ⟨rfl, rfl, rfl⟩ := hcs
    have hlen : len ≤ zs.length := by rw [hz]; split <;> omega
    refine ⟨zs.take len, ⟨by simp; omega, hl, hm, by simp, fun i hi => ?_⟩, fun y hy => octet (hwz y (List.mem_of_mem_take hy)), .inr ⟨_, by rw [hx]⟩⟩
    have hc := hcell i (by omega)
    obtain ⟨b, o, spot⟩ := ad
    have hspot : spot = none := by
      have := World.cell?_spot hc
      by_cases h0 : i = 0
      · subst h0; simpa [Addr.add] using this
      · have h1 := hcell 0 (by omega)
        have := World.cell?_spot h1
        simpa [Addr.add] using this
    subst hspot
    refine ⟨b, o, rfl, ?_⟩
    rw [← addr_add, hc]
    simp [List.getD, hi]

end Go.Proofs.Ytlgacmmofimlmab
