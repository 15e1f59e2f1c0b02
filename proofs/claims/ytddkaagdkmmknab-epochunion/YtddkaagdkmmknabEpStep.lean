/-
  Steps of drawn regions: epochs that are built, stored, appended.
-/
import Derived.Test.YtddkaagdkmmknabEpMem
import Derived.Deep.AppendLies
namespace Go.Proofs.Ytddkaagdkmmknab
open Go.RowKit

theorem info_span : (Try.prog.info? 43).map (fun i => (i.zero, i.size, i.bytes)) = some (some (spV 0 fun _ => false), 16, 24) := by kernel_rfl

theorem step_plain {ops : Array Oper} {o : Oper} {a : Act} {w : World} {K : Act → World → Prop} {Q : Exit → Act → World → Prop} {E : Prop} (hg : o.guard = none) (h : Oper.wp Try.prog o a w K Q) :
    if Region.wanted o (yielded ops a.tmps) = true then Oper.wp Try.prog o a w K Q else E := by
  have hw : Region.wanted o (yielded ops a.tmps) = true := by simp [Region.wanted, hg]
  rw [if_pos hw]
  exact h

/-- A row of one epoch. -/
theorem step_slice {ops : Array Oper} {a : Act} {w : World} {K : Act → World → Prop} {Q : Exit → Act → World → Prop} {E : Prop} {d : Option Tmp} {x : Operand} {ty : TypeId} {ps : String} {af : Array Edge}
    (f : Int) (S : Nat → Bool) (hx : a.eval x = spV f S) (h : K (a.put d (.slice (some ⟨w.heap.size, 0, none⟩) 1 1)) (w.alloc (.cells (spC f S).toArray 43))) :
    if Region.wanted (⟨d, .buildSlice 44 1 #[(0, x)], ty, ps, af, none⟩ : Oper) (yielded ops a.tmps) = true then Oper.wp Try.prog ⟨d, .buildSlice 44 1 #[(0, x)], ty, ps, af, none⟩ a w K Q else E := by
  refine step_plain rfl ?_
  unfold Oper.wp execOp
  simp only [List.map_toArray, List.map_cons, List.map_nil, hx, Sem.run_bind, slice_span, Result.andThen_ok, Sem.run_pure]
  exact h

theorem step_store {ops : Array Oper} {a : Act} {w : World} {K : Act → World → Prop} {Q : Exit → Act → World → Prop} {E : Prop} {d : Option Tmp} {x y : Operand} {ty : TypeId} {ps : String} {af : Array Edge}
    (g : Int) (T : Nat → Bool) {b : Nat} (hx : a.eval x = .pointer (some ⟨b, 0, none⟩)) (hy : a.eval y = spV g T) {f : Int} {S : Nat → Bool} (hc : SpAt w b f S) (h : ∀ w', Hid (SpAt w' b g T) → Hid (Kept [b] w w') → K (a.put d undef) w') :
    if Region.wanted (⟨d, .store 43 x y, ty, ps, af, none⟩ : Oper) (yielded ops a.tmps) = true then Oper.wp Try.prog ⟨d, .store 43 x y, ty, ps, af, none⟩ a w K Q else E :=
  step_plain rfl (wp_store_mid _ x y rfl b 0 (spC g T).toArray hx hy (by simpa [spC_len] using hc.there) size_span (all_oneCell_toArray (spC_one g T)) (h _ hc.store (setCells_kept (by simp) _ _ (Kept.refl _ _))))

/-- One epoch more. -/
theorem step_app {ops : Array Oper} {a : Act} {w : World} {K : Act → World → Prop} {Q : Exit → Act → World → Prop} {E : Prop} {d : Option Tmp} {s x : Operand} {ty : TypeId} {ps : String} {af : Array Edge}
    (B : Nat) (v : Value) (L : List Ep) (y : Ep) (g : Nat) (hs : a.eval s = v) (hO : RowE B w v L) (hx : a.eval x = .slice (some ⟨g, 0, none⟩) 1 1) (hc : SpAt w g y.f (setB y.m)) (hlen : L.length ≤ 1000000) (hB : B ≤ w.heap.size)
    (h : ∀ g' n cap w', Hid (RowE B w' (.slice (some ⟨g', 0, none⟩) n cap) (L ++ [y])) → Hid (w.grownBy w' v.ownBlock) → K (a.put d (.slice (some ⟨g', 0, none⟩) n cap)) w') :
    if Region.wanted (⟨d, .call { callee := .builtin .append, args := #[s, x], argTypes := #[44, 44] }, ty, ps, af, none⟩ : Oper) (yielded ops a.tmps) = true then Oper.wp Try.prog ⟨d, .call { callee := .builtin .append, args := #[s, x], argTypes := #[44, 44] }, ty, ps, af, none⟩ a w K Q else E := by
  obtain ⟨i0, hi, hz0, hz1, hz2⟩ := info_parts info_span
  refine step_append_lies w rfl s x 44 rfl B 43 i0 _ 16 24 Try.underlying44 hi hz0 hz1 hz2 rfl (by decide) v L.length (L.flatMap epC) hs hO ⟨g, 0, none⟩ 1 1 (epC y) hx rfl ?_ (spC_one _ _) (by decide) (by unfold maxLen; omega) (by omega) hB _ rfl ?_
  · intro j u hj
    rw [adr_addC]
    exact hc.range j u hj
  · intro g' cap w' h2 h3 _ _
    refine h g' _ cap w' ?_ h3
    show RowE _ _ _ _
    unfold RowE
    rw [List.length_append, List.flatMap_append]
    simpa using h2

theorem ex_build {a : Act} {w : World} {d : Option Tmp} {x y : Operand} {ty : TypeId} {ps : String} {af : Array Edge} {f : Int} {S : Nat → Bool} (hx : a.eval x = .int .i64 f) (hy : a.eval y = setV S) :
    (execOp a.eval ⟨d, .build 43 #[(0, x), (1, y)], ty, ps, af, none⟩).run Try.prog w = .ok (.value (spV f S)) w := by
  unfold execOp
  simp only [List.map_toArray, List.map_cons, List.map_nil, hx, hy, Sem.run_bind, build_span, Result.andThen_ok, Sem.run_pure]

theorem EpA.grown {B : Nat} {w w0 w' : World} {p : Nat} {al : Int} {L M : List Ep} {u : Value} (h : EpA B w0 p al L) {v : Value} (hv : w0.heap[p]? = some (.cells #[.int .i64 al, v] 46 (0, 0))) (hk : Kept [] w0 w) (hR : RowE B w' u M) (hg : w.grownBy w' v.ownBlock) (hr : RowE B w0 v L) :
    EpA B (w'.setCell ⟨p, 1, none⟩ u) p al M ∧ Tn B [46, 43] w0 (w'.setCell ⟨p, 1, none⟩ u) := by
  have hkr : Kept v.ownBlock.toList w w' := (Kept.refl _ _).grown hg fun k hk => .inl (by simp [hk])
  have hk1 : Kept v.ownBlock.toList w0 w' := (hk.mono (by simp)).trans hkr (fun i hi => .inl hi)
  have hty : ∀ k ∈ v.ownBlock.toList, B ≤ k ∧ ∃ cur, w0.heap[k]? = some (.cells cur 43 (0, 0)) := fun k hk => by
    have hk' := mem_own.1 hk
    exact ⟨(World.ownsRow.lt hr k hk').1, row_block hr hk'⟩
  have hp : p ∉ v.ownBlock.toList := fun hm => by
    obtain ⟨_, cur, hh⟩ := hty p hm
    rw [hv] at hh
    cases hh
  have h1 : w'.heap[p]? = some (.cells #[.int .i64 al, v] 46 (0, 0)) := hk1.at hv hp
  refine ⟨⟨u, h.ge, ?_, ?_⟩, ⟨p :: v.ownBlock.toList, ?_, ?_, ?_⟩⟩
  · have := heap_setCell_same w' p 1 _ _ u h1
    simpa using this
  · exact ((Kept.refl [p] w').setCell (by simp) _).ownsRow hR fun k hk hm => by
      simp at hm
      subst hm
      obtain ⟨cur, hh⟩ := row_block hR hk
      rw [h1] at hh
      cases hh
  · exact (hk1.mono (fun i hi => .inl (by simp [hi]))).setCell (by simp) _
  · intro k hk
    rcases List.mem_cons.1 hk with rfl | hk
    · exact h.ge
    · exact (hty k hk).1
  · intro k hk cur t mk hh
    rcases List.mem_cons.1 hk with rfl | hk
    · rw [hv] at hh; cases hh; simp
    · obtain ⟨_, cur', hh'⟩ := hty k hk
      rw [hh'] at hh; cases hh; simp

end Go.Proofs.Ytddkaagdkmmknab
