/-
  without, behind: lists that are never written.
-/
import Derived.Test.YtajkmhepedlmmaaSeTab
import Derived.ArgAppend
import Derived.Deep.RegionLawGrows
import Derived.Deep.AppendLies
import Derived.Deep.RegionHeld3
namespace Go.Proofs.Ytajkmhepedlmmaa
open Go.RowKit

/-- Nothing is appended. -/
theorem wp_appNo {w : World} {ops : Array Oper} {rest : List Oper} {o : Oper} {a : Act} {Q : Exit → Act → World → Prop} (hgd : o.guard = none) (s x : Operand) (t : TypeId)
    (hop : o.op = .call { callee := .builtin .append, args := #[s, x], argTypes := #[t, t] }) (e : TypeId) (i : TypeInfo) (ht : Try.prog.underlying t = some (.slice e)) (hi : Try.prog.info? e = some i)
    (base : Option Addr) (n c : Nat) (hle : n ≤ c) (hs : a.eval s = .slice base n c) (ad : Addr) (d : Nat) (hx : a.eval x = .slice (some ad) 0 d)
    (h : wpList Try.prog ops Q rest (a.put o.dst (.slice base n c)) w) : wpList Try.prog ops Q (o :: rest) a w := by
  refine wpList_plain hgd fun K hK => ?_
  have hf := run_firstCells_some (P := Try.prog) w i.size 0 ad 0 d [] (by simp) (by simp)
  have hrun : (Builtin.append_ #[t, t] o.type #[.slice base n c, .slice (some ad) 0 d]).run Try.prog w = .ok (.slice base n c) w := by
    cases base <;> simp [Builtin.append_, run_underlying ht, sizeOf, typeInfo, hi, Builtin.lenOf, hle, hf, storeCells]
  unfold Oper.wp
  simp [execOp, hop, resolve, invoke, builtin, hs, hx, hrun, Result.andThen]
  exact hK _ _ h

/-- append behind all of a list that has no room. -/
theorem wp_appT {w : World} {ops : Array Oper} {rest : List Oper} {o : Oper} {a : Act} {Q : Exit → Act → World → Prop} (hgd : o.guard = none) (s x : Operand)
    (hop : o.op = .call { callee := .builtin .append, args := #[s, x], argTypes := #[49, 49] })
    (ao : Option Addr) (n : Nat) (M : List (Se × Value)) (hs : a.eval s = .slice ao n n) (hn : n = M.length) (hao : ao = none → n = 0) (ho : ∀ b, ao = some b → ∀ (j : Nat) (u : Value), (M.flatMap seC)[j]? = some u → w.cell? (b.add j) = some u)
    (ad : Addr) (m c : Nat) (N : List (Se × Value)) (hx : a.eval x = .slice (some ad) m c) (hm : m = N.length) (hc : ∀ (j : Nat) (u : Value), (N.flatMap seC)[j]? = some u → w.cell? (ad.add j) = some u) (h1 : ∀ x ∈ N, x.2.oneCell' = true) (hpos : 0 < m)
    (hlen : M.length + N.length ≤ 1000000000)
    (h : ∀ g cap w', RowS w.heap.size w' (.slice (some ⟨g, 0, none⟩) (n + m) cap) (M ++ N) → Kept [] w w' → wpList Try.prog ops Q rest (a.put o.dst (.slice (some ⟨g, 0, none⟩) (n + m) cap)) w') : wpList Try.prog ops Q (o :: rest) a w := by
  subst hm
  subst hn
  obtain ⟨i0, hi, hz0, hz1, hz2⟩ := info_parts info_session
  refine wpList_append_grows w hgd s x 49 hop 44 i0 _ 10 112 Try.underlying49 hi hz0 hz1 hz2 rfl (by decide) ao M.length M.length (M.flatMap seC) hs (fun e => ⟨hao e, hao e⟩) (seC_length M) ho ad N.length c (N.flatMap seC) hx (seC_length N) hc (one_seC h1) (by omega) (by unfold maxLen; omega) (by omega) ?_
  intro v' w' h2 h3
  have h4 : RowS w.heap.size w' v' (M ++ N) := by
    unfold RowS
    rw [List.length_append, List.flatMap_append]
    exact h2
  obtain ⟨g, cap, he, _, _⟩ := World.ownsRow.form h2 (by omega)
  subst he
  exact h g cap w' h4 ((Kept.refl [] w).grown h3 (by simp))

/-- The same, as steps of a region that draws its order. -/
theorem step_appNo {w : World} {ops : Array Oper} {o : Oper} {a : Act} {Kk : Act → World → Prop} {Q : Exit → Act → World → Prop} {E : Prop} (hgd : o.guard = none) (s x : Operand) (t : TypeId)
    (hop : o.op = .call { callee := .builtin .append, args := #[s, x], argTypes := #[t, t] }) (e : TypeId) (i : TypeInfo) (ht : Try.prog.underlying t = some (.slice e)) (hi : Try.prog.info? e = some i)
    (base : Option Addr) (n c : Nat) (hle : n ≤ c) (hs : a.eval s = .slice base n c) (ad : Addr) (d : Nat) (hx : a.eval x = .slice (some ad) 0 d)
    (h : Kk (a.put o.dst (.slice base n c)) w) : if Region.wanted o (yielded ops a.tmps) = true then Oper.wp Try.prog o a w Kk Q else E := by
  have hw : Region.wanted o (yielded ops a.tmps) = true := by simp [Region.wanted, hgd]
  rw [if_pos hw]
  have hf := run_firstCells_some (P := Try.prog) w i.size 0 ad 0 d [] (by simp) (by simp)
  have hrun : (Builtin.append_ #[t, t] o.type #[.slice base n c, .slice (some ad) 0 d]).run Try.prog w = .ok (.slice base n c) w := by
    cases base <;> simp [Builtin.append_, run_underlying ht, sizeOf, typeInfo, hi, Builtin.lenOf, hle, hf, storeCells]
  unfold Oper.wp
  simp [execOp, hop, resolve, invoke, builtin, hs, hx, hrun, Result.andThen]
  exact h

theorem step_appT {w : World} {ops : Array Oper} {o : Oper} {a : Act} {Kk : Act → World → Prop} {Q : Exit → Act → World → Prop} {E : Prop} (hgd : o.guard = none) (s x : Operand)
    (hop : o.op = .call { callee := .builtin .append, args := #[s, x], argTypes := #[49, 49] })
    (ao : Option Addr) (n : Nat) (M : List (Se × Value)) (hs : a.eval s = .slice ao n n) (hn : n = M.length) (hao : ao = none → n = 0) (ho : ∀ b, ao = some b → ∀ (j : Nat) (u : Value), (M.flatMap seC)[j]? = some u → w.cell? (b.add j) = some u)
    (ad : Addr) (m c : Nat) (N : List (Se × Value)) (hx : a.eval x = .slice (some ad) m c) (hm : m = N.length) (hc : ∀ (j : Nat) (u : Value), (N.flatMap seC)[j]? = some u → w.cell? (ad.add j) = some u) (h1 : ∀ x ∈ N, x.2.oneCell' = true) (hpos : 0 < m)
    (hlen : M.length + N.length ≤ 1000000000)
    (h : ∀ g cap w', RowS w.heap.size w' (.slice (some ⟨g, 0, none⟩) (n + m) cap) (M ++ N) → Kept [] w w' → Kk (a.put o.dst (.slice (some ⟨g, 0, none⟩) (n + m) cap)) w') :
    if Region.wanted o (yielded ops a.tmps) = true then Oper.wp Try.prog o a w Kk Q else E := by
  subst hm
  subst hn
  obtain ⟨i0, hi, hz0, hz1, hz2⟩ := info_parts info_session
  refine step_append_grows hgd s x 49 hop 44 i0 _ 10 112 Try.underlying49 hi hz0 hz1 hz2 rfl (by decide) ao M.length M.length (M.flatMap seC) hs (fun e => ⟨hao e, hao e⟩) (seC_length M) ho ad N.length c (N.flatMap seC) hx (seC_length N) hc (one_seC h1) (by omega) (by unfold maxLen; omega) (by omega) ?_
  intro v' w' h2 h3
  have h4 : RowS w.heap.size w' v' (M ++ N) := by
    unfold RowS
    rw [List.length_append, List.flatMap_append]
    exact h2
  obtain ⟨g, cap, he, _, _⟩ := World.ownsRow.form h2 (by omega)
  subst he
  exact h g cap w' h4 ((Kept.refl [] w).grown h3 (by simp))

def adN (c i g : Nat) : Addr := if c = i + 1 then ⟨g, 0, none⟩ else ⟨g, (i + 1) * 10, none⟩

/-- A list, changed: what it is, and where it may lie. -/
def LiP (w : World) (v : Value) (X : List (Se × Value)) (e : Ending) (w' : World) : Prop :=
  ∃ v', e = .returned v' ∧ TRow w' v' X ∧ Kept [] w w' ∧ ∀ k, v'.ownBlock = some k → v.ownBlock = some k ∨ w.heap.size ≤ k

set_option linter.unusedSimpArgs false in
set_option maxHeartbeats 4000000 in
set_option maxRecDepth 100000 in
theorem without_call (w : World) (v : Value) (X : List (Se × Value)) (hR : TRow w v X) (h1 : ∀ x ∈ X, x.2.oneCell' = true) (i : Nat) (hi : i < X.length) (hn : X.length ≤ 100000) :
    Calls Try.prog 33 #[v, .int .i64 i] w fun e w' => LiP w v (outL X i) e w' := by
  obtain ⟨ao, c, rfl, hc, hm, _, hat⟩ := hR.shape
  unfold maxLen at hm
  obtain ⟨g, rfl, _⟩ := hat i hi
  clear hat
  obtain ⟨i0, hi0, _⟩ := info_parts info_session
  have HI := hide hi0
  have HR := hide hR
  have H1 := hide h1
  obtain ⟨n, hnX⟩ : ∃ n, n = X.length := ⟨_, rfl⟩
  have HN := hide hnX
  rw [← hnX] at hc hi hn ⊢
  clear hR hi0 h1 hnX
  have hi' : (i : Int) < n := by omega
  have hic : i ≤ c := by omega
  have hw : IntKind.i64.wrap ((i : Int) + 1) = ((i + 1 : Nat) : Int) := by rw [IntWalk.i64_in _ (by omega)]; omega
  by_cases hlast : i + 1 = n
  · have HE : Hid (TRow w (.slice (some ⟨g, 0, none⟩) i i) (outL X i)) := by
      show TRow _ _ _
      unfold outL
      rw [List.drop_of_length_le (by rw [← HN.out]; omega), List.append_nil]
      exact HR.out.cut (by rw [← HN.out]; omega)
    have qa : (0 : Int) ≤ (i : Int) + 1 := by omega
    have qb : (i : Int) ≤ (i : Int) + 1 := by omega
    subst hlast
    go_enter Try.func33, Try.ntmps33
    go_wp2_with fail
    refine wp_region_held_drew (S := fun _ => True) (by kernel_rfl) trivial (fun hHeld => ?_)
    refine wpAnyH_take (i := 0) (v := ?_) rfl (by kernel_rfl) (by kernel_rfl) (by kernel_rfl) (fun _ _ _ h => h) (Or.inl ⟨by rfl, ?_⟩) hHeld ?_
    rotate_left
    · intro w9 hSw; (try dsimp only at hSw); go_simp; (try with_reducible rfl)
    try simp only [List.getElem_toArray, List.getElem_cons_succ, List.getElem_cons_zero, Act.put, List.setIfInBounds_toArray, List.set_cons_zero, List.set_cons_succ]
    refine wpAnyH_take (i := 1) (v := ?_) rfl (by kernel_rfl) (by kernel_rfl) (by kernel_rfl) (fun _ _ _ h => h) (Or.inl ⟨by rfl, ?_⟩) hHeld ?_
    rotate_left
    · intro w9 hSw; (try dsimp only at hSw); go_simp; (try with_reducible rfl)
    try simp only [List.getElem_toArray, List.getElem_cons_succ, List.getElem_cons_zero, Act.put, List.setIfInBounds_toArray, List.set_cons_zero, List.set_cons_succ]
    refine wpAnyH_take (i := 2) (v := ?_) rfl (by kernel_rfl) (by kernel_rfl) (by kernel_rfl) (fun _ _ _ h => h) (Or.inl ⟨by rfl, ?_⟩) hHeld ?_
    rotate_left
    · intro w9 hSw; (try dsimp only at hSw); go_simp; (try with_reducible rfl)
    try simp only [List.getElem_toArray, List.getElem_cons_succ, List.getElem_cons_zero, Act.put, List.setIfInBounds_toArray, List.set_cons_zero, List.set_cons_succ]
    refine wpAnyH_take (i := 3) (v := ?_) rfl (by kernel_rfl) (by kernel_rfl) (by kernel_rfl) (fun _ _ _ h => h) (Or.inl ⟨by rfl, ?_⟩) hHeld ?_
    rotate_left
    · intro w9 hSw; (try dsimp only at hSw); go_simp; (try with_reducible rfl)
    try simp only [List.getElem_toArray, List.getElem_cons_succ, List.getElem_cons_zero, Act.put, List.setIfInBounds_toArray, List.set_cons_zero, List.set_cons_succ]
    refine wpAnyH_take (i := 4) (v := ?_) rfl (by kernel_rfl) (by kernel_rfl) (by kernel_rfl) (fun _ _ _ h => h) (Or.inl ⟨by rfl, ?_⟩) hHeld ?_
    rotate_left
    · intro w9 hSw; (try dsimp only at hSw); go_simp; (try with_reducible rfl)
    try simp only [List.getElem_toArray, List.getElem_cons_succ, List.getElem_cons_zero, Act.put, List.setIfInBounds_toArray, List.set_cons_zero, List.set_cons_succ]
    refine wpAnyH_take (i := 5) (v := ?_) rfl (by kernel_rfl) (by kernel_rfl) (by kernel_rfl) (fun _ _ _ h => h) (Or.inl ⟨by rfl, ?_⟩) hHeld ?_
    rotate_left
    · intro w9 hSw; (try dsimp only at hSw); go_simp; (try with_reducible rfl)
    try simp only [List.getElem_toArray, List.getElem_cons_succ, List.getElem_cons_zero, Act.put, List.setIfInBounds_toArray, List.set_cons_zero, List.set_cons_succ]
    refine wpAnyH_take (i := 6) (v := ?_) rfl (by kernel_rfl) (by kernel_rfl) (by kernel_rfl) (fun _ _ _ h => h) (Or.inl ⟨by rfl, ?_⟩) hHeld ?_
    rotate_left
    · intro w9 hSw; (try dsimp only at hSw); go_simp; (try with_reducible rfl)
    try simp only [List.getElem_toArray, List.getElem_cons_succ, List.getElem_cons_zero, Act.put, List.setIfInBounds_toArray, List.set_cons_zero, List.set_cons_succ]
    refine wpAnyH_take (i := 7) (v := ?_) rfl (by kernel_rfl) (by kernel_rfl) (by kernel_rfl) (fun _ _ _ h => h) (Or.inl ⟨by rfl, ?_⟩) hHeld ?_
    rotate_left
    · intro w9 hSw; (try dsimp only at hSw); go_simp; (try with_reducible rfl)
    try simp only [List.getElem_toArray, List.getElem_cons_succ, List.getElem_cons_zero, Act.put, List.setIfInBounds_toArray, List.set_cons_zero, List.set_cons_succ]
    refine wpAnyH_ready (rs := [8]) (by kernel_rfl) (by simp) (AllReadyH.cons rfl (fun K0 hK0 => ?_) AllReadyH.nil)
    refine step_appNo (by rfl) _ _ 49 (by rfl) 44 i0 Try.underlying49 HI.out (some ⟨g, 0, none⟩) i i (Nat.le_refl _) (by simp [Act.eval]) (adN c i g) (c - (i + 1)) (by simp [Act.eval, adN]; split <;> rfl) ?_
    refine hK0.out _ _ trivial (fun hHeld => ?_)
    clear hK0 K0
    simp only [List.getElem_toArray, List.getElem_cons_succ, List.getElem_cons_zero, Act.put, List.setIfInBounds_toArray, List.set_cons_zero, List.set_cons_succ]
    refine wpAnyH_take (i := 9) (v := ?_) rfl (by kernel_rfl) (by kernel_rfl) (by kernel_rfl) (fun _ _ _ h => h) (Or.inl ⟨by rfl, ?_⟩) hHeld ?_
    rotate_left
    · intro w9 hSw; (try dsimp only at hSw); go_simp; (try with_reducible rfl)
    try simp only [List.getElem_toArray, List.getElem_cons_succ, List.getElem_cons_zero, Act.put, List.setIfInBounds_toArray, List.set_cons_zero, List.set_cons_succ]
    refine wpAnyH_done (by kernel_rfl) ?_ _
    all_goals go_wp2_with fail
    all_goals go_ret
    all_goals exact ⟨_, rfl, HE.out.kept (drewN_kept w 1), drewN_kept w 1, fun k hk => .inl (by cases hk; rfl)⟩
  · have hne : ¬ c = i + 1 := by omega
    have qa : (0 : Int) ≤ (i : Int) + 1 := by omega
    have qb : (i : Int) + 1 ≤ n := by omega
    have H2 : Hid (∀ x ∈ X.drop (i + 1), x.2.oneCell' = true) := fun x hx => H1.out x (List.mem_of_mem_drop hx)
    have HC1 : Hid (∀ b, (some ⟨g, 0, none⟩ : Option Addr) = some b → ∀ (j : Nat) (u : Value), ((X.take i).flatMap seC)[j]? = some u → w.drew.cell? (b.add j) = some u) := fun b e => by cases e; exact (HR.out.kept (drewN_kept w 1)).run0 i
    have HC2 : Hid (∀ (j : Nat) (u : Value), ((X.drop (i + 1)).flatMap seC)[j]? = some u → w.drew.cell? ((⟨g, (i + 1) * 10, none⟩ : Addr).add j) = some u) := (HR.out.kept (drewN_kept w 1)).runs (i + 1)
    have HL1 : Hid (i = (X.take i).length) := by show _ = _; simp; rw [← HN.out]; omega
    have HL2 : Hid (n - (i + 1) = (X.drop (i + 1)).length) := by show _ = _; simp; rw [← HN.out]
    go_enter Try.func33, Try.ntmps33
    go_wp2_with fail
    refine wp_region_held_drew (S := fun _ => True) (by kernel_rfl) trivial (fun hHeld => ?_)
    refine wpAnyH_take (i := 0) (v := ?_) rfl (by kernel_rfl) (by kernel_rfl) (by kernel_rfl) (fun _ _ _ h => h) (Or.inl ⟨by rfl, ?_⟩) hHeld ?_
    rotate_left
    · intro w9 hSw; (try dsimp only at hSw); go_simp; (try with_reducible rfl)
    try simp only [List.getElem_toArray, List.getElem_cons_succ, List.getElem_cons_zero, Act.put, List.setIfInBounds_toArray, List.set_cons_zero, List.set_cons_succ]
    refine wpAnyH_take (i := 1) (v := ?_) rfl (by kernel_rfl) (by kernel_rfl) (by kernel_rfl) (fun _ _ _ h => h) (Or.inl ⟨by rfl, ?_⟩) hHeld ?_
    rotate_left
    · intro w9 hSw; (try dsimp only at hSw); go_simp; (try with_reducible rfl)
    try simp only [List.getElem_toArray, List.getElem_cons_succ, List.getElem_cons_zero, Act.put, List.setIfInBounds_toArray, List.set_cons_zero, List.set_cons_succ]
    refine wpAnyH_take (i := 2) (v := ?_) rfl (by kernel_rfl) (by kernel_rfl) (by kernel_rfl) (fun _ _ _ h => h) (Or.inl ⟨by rfl, ?_⟩) hHeld ?_
    rotate_left
    · intro w9 hSw; (try dsimp only at hSw); go_simp; (try with_reducible rfl)
    try simp only [List.getElem_toArray, List.getElem_cons_succ, List.getElem_cons_zero, Act.put, List.setIfInBounds_toArray, List.set_cons_zero, List.set_cons_succ]
    refine wpAnyH_take (i := 3) (v := ?_) rfl (by kernel_rfl) (by kernel_rfl) (by kernel_rfl) (fun _ _ _ h => h) (Or.inl ⟨by rfl, ?_⟩) hHeld ?_
    rotate_left
    · intro w9 hSw; (try dsimp only at hSw); go_simp; (try with_reducible rfl)
    try simp only [List.getElem_toArray, List.getElem_cons_succ, List.getElem_cons_zero, Act.put, List.setIfInBounds_toArray, List.set_cons_zero, List.set_cons_succ]
    refine wpAnyH_take (i := 4) (v := ?_) rfl (by kernel_rfl) (by kernel_rfl) (by kernel_rfl) (fun _ _ _ h => h) (Or.inl ⟨by rfl, ?_⟩) hHeld ?_
    rotate_left
    · intro w9 hSw; (try dsimp only at hSw); go_simp; (try with_reducible rfl)
    try simp only [List.getElem_toArray, List.getElem_cons_succ, List.getElem_cons_zero, Act.put, List.setIfInBounds_toArray, List.set_cons_zero, List.set_cons_succ]
    refine wpAnyH_take (i := 5) (v := ?_) rfl (by kernel_rfl) (by kernel_rfl) (by kernel_rfl) (fun _ _ _ h => h) (Or.inl ⟨by rfl, ?_⟩) hHeld ?_
    rotate_left
    · intro w9 hSw; (try dsimp only at hSw); go_simp; (try with_reducible rfl)
    try simp only [List.getElem_toArray, List.getElem_cons_succ, List.getElem_cons_zero, Act.put, List.setIfInBounds_toArray, List.set_cons_zero, List.set_cons_succ]
    refine wpAnyH_take (i := 6) (v := ?_) rfl (by kernel_rfl) (by kernel_rfl) (by kernel_rfl) (fun _ _ _ h => h) (Or.inl ⟨by rfl, ?_⟩) hHeld ?_
    rotate_left
    · intro w9 hSw; (try dsimp only at hSw); go_simp; (try with_reducible rfl)
    try simp only [List.getElem_toArray, List.getElem_cons_succ, List.getElem_cons_zero, Act.put, List.setIfInBounds_toArray, List.set_cons_zero, List.set_cons_succ]
    refine wpAnyH_take (i := 7) (v := ?_) rfl (by kernel_rfl) (by kernel_rfl) (by kernel_rfl) (fun _ _ _ h => h) (Or.inl ⟨by rfl, ?_⟩) hHeld ?_
    rotate_left
    · intro w9 hSw; (try dsimp only at hSw); go_simp; (try with_reducible rfl)
    try simp only [List.getElem_toArray, List.getElem_cons_succ, List.getElem_cons_zero, Act.put, List.setIfInBounds_toArray, List.set_cons_zero, List.set_cons_succ]
    refine wpAnyH_ready (rs := [8]) (by kernel_rfl) (by simp) (AllReadyH.cons rfl (fun K0 hK0 => ?_) AllReadyH.nil)
    refine step_appT (by rfl) _ _ (by rfl) (some ⟨g, 0, none⟩) i (X.take i) (by simp [Act.eval]) HL1.out (by simp) HC1.out ⟨g, (i + 1) * 10, none⟩ (n - (i + 1)) (c - (i + 1)) (X.drop (i + 1)) (by simp [Act.eval]) HL2.out HC2.out H2.out (by omega) (by rw [← HL1.out, ← HL2.out]; omega) ?_
    intro g5 c5 w5 hR5 hK5
    refine hK0.out _ _ trivial (fun hHeld => ?_)
    clear hK0 K0
    simp only [List.getElem_toArray, List.getElem_cons_succ, List.getElem_cons_zero, Act.put, List.setIfInBounds_toArray, List.set_cons_zero, List.set_cons_succ]
    refine wpAnyH_take (i := 9) (v := ?_) rfl (by kernel_rfl) (by kernel_rfl) (by kernel_rfl) (fun _ _ _ h => h) (Or.inl ⟨by rfl, ?_⟩) hHeld ?_
    rotate_left
    · intro w9 hSw; (try dsimp only at hSw); go_simp; (try with_reducible rfl)
    try simp only [List.getElem_toArray, List.getElem_cons_succ, List.getElem_cons_zero, Act.put, List.setIfInBounds_toArray, List.set_cons_zero, List.set_cons_succ]
    refine wpAnyH_done (by kernel_rfl) ?_ _
    go_wp2_with fail
    go_ret
    exact ⟨_, rfl, hR5.t, (drewN_kept w 1).trans hK5 (by simp), fun k hk => .inr (World.ownsRow.lt hR5 k hk).1⟩

set_option linter.unusedSimpArgs false in
set_option maxHeartbeats 4000000 in
set_option maxRecDepth 100000 in
theorem behind_own (w : World) (v : Value) (X : List (Se × Value)) (hR : TRow w v X) (x : Se) (u : Value) (hu : ∃ ao n c, u = .slice ao n c) (hl : X.length ≤ 100000) :
    Calls Try.prog 34 #[v, seV x u] w fun e w' => ∃ v', e = .returned v' ∧ RowS w.heap.size w' v' (X ++ [(x, u)]) ∧ Kept [] w w' := by
  obtain ⟨ao, n, c, rfl⟩ := hu
  obtain ⟨W0, hW0⟩ : ∃ W0, W0 = w.alloc (.cells #[.int .i64 x.i, .int .i64 x.q, .string (str x.n), .int .i64 x.v.c, .int .i64 x.v.s, .int .i64 x.v.r, .string (str x.v.p), .int .u64 x.v.d, .slice ao n c, .int .i64 x.v.m] 44) := ⟨_, rfl⟩
  have HK0 : Hid (Kept [] w W0) := by show Kept _ _ _; rw [hW0]; exact (Kept.refl _ _).alloc _
  have hB : W0.heap[w.heap.size]? = some (.cells #[.int .i64 x.i, .int .i64 x.q, .string (str x.n), .int .i64 x.v.c, .int .i64 x.v.s, .int .i64 x.v.r, .string (str x.v.p), .int .u64 x.v.d, .slice ao n c, .int .i64 x.v.m] 44 (0, 0)) := by rw [hW0]; exact heap_alloc_new w _
  have HKb : Hid (Kept [] W0 (W0.alloc (.cells #[.int .i64 x.i, .int .i64 x.q, .string (str x.n), .int .i64 x.v.c, .int .i64 x.v.s, .int .i64 x.v.r, .string (str x.v.p), .int .u64 x.v.d, .slice ao n c, .int .i64 x.v.m] 44)).drew) := ((Kept.refl [] W0).alloc _).drew
  have HNw : Hid (∀ (j : Nat) (u : Value), ([(x, .slice ao n c)].flatMap seC)[j]? = some u → (W0.alloc (.cells #[.int .i64 x.i, .int .i64 x.q, .string (str x.n), .int .i64 x.v.c, .int .i64 x.v.s, .int .i64 x.v.r, .string (str x.v.p), .int .u64 x.v.d, .slice ao n c, .int .i64 x.v.m] 44)).drew.cell? ((⟨w.heap.size + 1, 0, none⟩ : Addr).add j) = some u) := by
    have h := heap_alloc_new W0 (.cells #[.int .i64 x.i, .int .i64 x.q, .string (str x.n), .int .i64 x.v.c, .int .i64 x.v.s, .int .i64 x.v.r, .string (str x.v.p), .int .u64 x.v.d, .slice ao n c, .int .i64 x.v.m] 44)
    rw [show W0.heap.size = w.heap.size + 1 by rw [hW0, World.size_alloc]] at h
    exact se_news (x := (x, .slice ao n c)) rfl ((Kept.refl [] _).drew.at h (by simp))
  have HR := hide ((hR.kept HK0.out).kept HKb.out)
  have b0 := cell_inC (k := 0) hB rfl
  have b1 := cell_inC (k := 1) hB rfl
  have b2 := cell_inC (k := 2) hB rfl
  have b3 := cell_inC (k := 3) hB rfl
  have b4 := cell_inC (k := 4) hB rfl
  have b5 := cell_inC (k := 5) hB rfl
  have b6 := cell_inC (k := 6) hB rfl
  have b7 := cell_inC (k := 7) hB rfl
  have b8 := cell_inC (k := 8) hB rfl
  have b9 := cell_inC (k := 9) hB rfl
  unfold seV
  rcases hR with ⟨rfl, rfl⟩ | ⟨g, c', cur, rfl, hh, h1, h2, h3⟩
  · clear hB
    subst hW0
    go_enter Try.func34, Try.ntmps34
    go_wp2_with fail
    refine wp_region_held_drew (S := fun w' => w'.cell? ⟨w.heap.size, 0, none⟩ = some (.int .i64 x.i) ∧ w'.cell? ⟨w.heap.size, 1, none⟩ = some (.int .i64 x.q) ∧ w'.cell? ⟨w.heap.size, 2, none⟩ = some (.string (str x.n)) ∧ w'.cell? ⟨w.heap.size, 3, none⟩ = some (.int .i64 x.v.c) ∧ w'.cell? ⟨w.heap.size, 4, none⟩ = some (.int .i64 x.v.s) ∧ w'.cell? ⟨w.heap.size, 5, none⟩ = some (.int .i64 x.v.r) ∧ w'.cell? ⟨w.heap.size, 6, none⟩ = some (.string (str x.v.p)) ∧ w'.cell? ⟨w.heap.size, 7, none⟩ = some (.int .u64 x.v.d) ∧ w'.cell? ⟨w.heap.size, 8, none⟩ = some (.slice ao n c) ∧ w'.cell? ⟨w.heap.size, 9, none⟩ = some (.int .i64 x.v.m)) (by kernel_rfl) ⟨b0, b1, b2, b3, b4, b5, b6, b7, b8, b9⟩ (fun hHeld => ?_)
    refine wpAnyH_take (i := 0) (v := ?_) rfl (by kernel_rfl) (by kernel_rfl) (by kernel_rfl) (fun _ _ _ h => h) (Or.inl ⟨by rfl, ?_⟩) hHeld ?_
    rotate_left
    · intro w9 hSw; (try dsimp only at hSw); go_simp; (try with_reducible rfl)
    try simp only [List.getElem_toArray, List.getElem_cons_succ, List.getElem_cons_zero, Act.put, List.setIfInBounds_toArray, List.set_cons_zero, List.set_cons_succ]
    refine wpAnyH_take (i := 1) (v := ?_) rfl (by kernel_rfl) (by kernel_rfl) (by kernel_rfl) (fun _ _ _ h => h) (Or.inl ⟨by rfl, ?_⟩) hHeld ?_
    rotate_left
    · intro w9 hSw; (try dsimp only at hSw); go_simp; (try with_reducible rfl)
    try simp only [List.getElem_toArray, List.getElem_cons_succ, List.getElem_cons_zero, Act.put, List.setIfInBounds_toArray, List.set_cons_zero, List.set_cons_succ]
    refine wpAnyH_take (i := 2) (v := ?_) rfl (by kernel_rfl) (by kernel_rfl) (by kernel_rfl) (fun _ _ _ h => h) (Or.inl ⟨by rfl, ?_⟩) hHeld ?_
    rotate_left
    · intro w9 hSw; (try dsimp only at hSw); go_simp; (try with_reducible rfl)
    try simp only [List.getElem_toArray, List.getElem_cons_succ, List.getElem_cons_zero, Act.put, List.setIfInBounds_toArray, List.set_cons_zero, List.set_cons_succ]
    refine wpAnyH_take (i := 3) (v := ?_) rfl (by kernel_rfl) (by kernel_rfl) (by kernel_rfl) (fun _ _ _ h => h) (Or.inl ⟨by rfl, ?_⟩) hHeld ?_
    rotate_left
    · intro w9 hSw; (try dsimp only at hSw); go_simp; (try with_reducible rfl)
    try simp only [List.getElem_toArray, List.getElem_cons_succ, List.getElem_cons_zero, Act.put, List.setIfInBounds_toArray, List.set_cons_zero, List.set_cons_succ]
    refine wpAnyH_take (i := 4) (v := ?_) rfl (by kernel_rfl) (by kernel_rfl) (by kernel_rfl) (fun _ _ _ h => h) (Or.inl ⟨by rfl, ?_⟩) hHeld ?_
    rotate_left
    · intro w9 hSw; (try dsimp only at hSw); go_simp; (try with_reducible rfl)
    try simp only [List.getElem_toArray, List.getElem_cons_succ, List.getElem_cons_zero, Act.put, List.setIfInBounds_toArray, List.set_cons_zero, List.set_cons_succ]
    refine wpAnyH_take (i := 5) (v := ?_) rfl (by kernel_rfl) (by kernel_rfl) (by kernel_rfl) (fun _ _ _ h => h) (Or.inl ⟨by rfl, ?_⟩) hHeld ?_
    rotate_left
    · intro w9 hSw; (try dsimp only at hSw); go_simp; (try with_reducible rfl)
    try simp only [List.getElem_toArray, List.getElem_cons_succ, List.getElem_cons_zero, Act.put, List.setIfInBounds_toArray, List.set_cons_zero, List.set_cons_succ]
    refine wpAnyH_take (i := 6) (v := ?_) rfl (by kernel_rfl) (by kernel_rfl) (by kernel_rfl) (fun _ _ _ h => h) (Or.inl ⟨by rfl, ?_⟩) hHeld ?_
    rotate_left
    · intro w9 hSw; (try dsimp only at hSw); go_simp; (try with_reducible rfl)
    try simp only [List.getElem_toArray, List.getElem_cons_succ, List.getElem_cons_zero, Act.put, List.setIfInBounds_toArray, List.set_cons_zero, List.set_cons_succ]
    refine wpAnyH_ready (rs := [7]) (by kernel_rfl) (by simp) (AllReadyH.cons rfl (fun K0 hK0 => ?_) AllReadyH.nil)
    go_simp
    refine hK0.out _ _ ⟨HKb.out.cell b0 (by simp), HKb.out.cell b1 (by simp), HKb.out.cell b2 (by simp), HKb.out.cell b3 (by simp), HKb.out.cell b4 (by simp), HKb.out.cell b5 (by simp), HKb.out.cell b6 (by simp), HKb.out.cell b7 (by simp), HKb.out.cell b8 (by simp), HKb.out.cell b9 (by simp)⟩ (fun hHeld => ?_)
    clear hK0 K0
    try simp only [List.getElem_toArray, List.getElem_cons_succ, List.getElem_cons_zero, Act.put, List.setIfInBounds_toArray, List.set_cons_zero, List.set_cons_succ]
    refine wpAnyH_ready (rs := [8]) (by kernel_rfl) (by simp) (AllReadyH.cons rfl (fun K0 hK0 => ?_) AllReadyH.nil)
    refine step_appT (by rfl) _ _ (by rfl) none 0 [] (by simp [Act.eval]) rfl (fun _ => rfl) (by intro b e; cases e) ⟨w.heap.size + 1, 0, none⟩ 1 1 [(x, .slice ao n c)] (by simp [Act.eval]) rfl HNw.out (by intro y hy; simp at hy; subst hy; rfl) (by omega) (by simp) ?_
    intro g5 c5 w5 hR5 hK5
    have hK6 := HKb.out.trans hK5 (by simp)
    refine hK0.out _ _ ⟨hK6.cell b0 (by simp), hK6.cell b1 (by simp), hK6.cell b2 (by simp), hK6.cell b3 (by simp), hK6.cell b4 (by simp), hK6.cell b5 (by simp), hK6.cell b6 (by simp), hK6.cell b7 (by simp), hK6.cell b8 (by simp), hK6.cell b9 (by simp)⟩ (fun hHeld => ?_)
    clear hK0 K0
    try simp only [List.getElem_toArray, List.getElem_cons_succ, List.getElem_cons_zero, Act.put, List.setIfInBounds_toArray, List.set_cons_zero, List.set_cons_succ]
    refine wpAnyH_take (i := 9) (v := ?_) rfl (by kernel_rfl) (by kernel_rfl) (by kernel_rfl) (fun _ _ _ h => h) (Or.inl ⟨by rfl, ?_⟩) hHeld ?_
    rotate_left
    · intro w9 hSw; (try dsimp only at hSw); go_simp; (try with_reducible rfl)
    try simp only [List.getElem_toArray, List.getElem_cons_succ, List.getElem_cons_zero, Act.put, List.setIfInBounds_toArray, List.set_cons_zero, List.set_cons_succ]
    refine wpAnyH_done (by kernel_rfl) ?_ _
    all_goals go_wp2_with fail
    all_goals go_ret
    all_goals exact ⟨_, rfl, hR5.mono (Nat.le_trans HK0.out.size HKb.out.size), HK0.out.trans hK6 (by simp)⟩
  · unfold maxLen at h2
    have HC : Hid (∀ b, (some ⟨g, 0, none⟩ : Option Addr) = some b → ∀ (j : Nat) (u : Value), (X.flatMap seC)[j]? = some u → (W0.alloc (.cells #[.int .i64 x.i, .int .i64 x.q, .string (str x.n), .int .i64 x.v.c, .int .i64 x.v.s, .int .i64 x.v.r, .string (str x.v.p), .int .u64 x.v.d, .slice ao n c, .int .i64 x.v.m] 44)).drew.cell? (b.add j) = some u) := fun b e => by
      cases e
      have h := HR.out.run0 X.length
      rw [List.take_length] at h
      exact h
    obtain ⟨m, hmX⟩ : ∃ m, m = X.length := ⟨_, rfl⟩
    have HM := hide hmX
    rw [← hmX] at h1 hl ⊢
    clear hh h3 hmX hB
    subst hW0
    go_enter Try.func34, Try.ntmps34
    go_wp2_with fail
    refine wp_region_held_drew (S := fun w' => w'.cell? ⟨w.heap.size, 0, none⟩ = some (.int .i64 x.i) ∧ w'.cell? ⟨w.heap.size, 1, none⟩ = some (.int .i64 x.q) ∧ w'.cell? ⟨w.heap.size, 2, none⟩ = some (.string (str x.n)) ∧ w'.cell? ⟨w.heap.size, 3, none⟩ = some (.int .i64 x.v.c) ∧ w'.cell? ⟨w.heap.size, 4, none⟩ = some (.int .i64 x.v.s) ∧ w'.cell? ⟨w.heap.size, 5, none⟩ = some (.int .i64 x.v.r) ∧ w'.cell? ⟨w.heap.size, 6, none⟩ = some (.string (str x.v.p)) ∧ w'.cell? ⟨w.heap.size, 7, none⟩ = some (.int .u64 x.v.d) ∧ w'.cell? ⟨w.heap.size, 8, none⟩ = some (.slice ao n c) ∧ w'.cell? ⟨w.heap.size, 9, none⟩ = some (.int .i64 x.v.m)) (by kernel_rfl) ⟨b0, b1, b2, b3, b4, b5, b6, b7, b8, b9⟩ (fun hHeld => ?_)
    refine wpAnyH_take (i := 0) (v := ?_) rfl (by kernel_rfl) (by kernel_rfl) (by kernel_rfl) (fun _ _ _ h => h) (Or.inl ⟨by rfl, ?_⟩) hHeld ?_
    rotate_left
    · intro w9 hSw; (try dsimp only at hSw); go_simp; (try with_reducible rfl)
    try simp only [List.getElem_toArray, List.getElem_cons_succ, List.getElem_cons_zero, Act.put, List.setIfInBounds_toArray, List.set_cons_zero, List.set_cons_succ]
    refine wpAnyH_take (i := 1) (v := ?_) rfl (by kernel_rfl) (by kernel_rfl) (by kernel_rfl) (fun _ _ _ h => h) (Or.inl ⟨by rfl, ?_⟩) hHeld ?_
    rotate_left
    · intro w9 hSw; (try dsimp only at hSw); go_simp; (try with_reducible rfl)
    try simp only [List.getElem_toArray, List.getElem_cons_succ, List.getElem_cons_zero, Act.put, List.setIfInBounds_toArray, List.set_cons_zero, List.set_cons_succ]
    refine wpAnyH_take (i := 2) (v := ?_) rfl (by kernel_rfl) (by kernel_rfl) (by kernel_rfl) (fun _ _ _ h => h) (Or.inl ⟨by rfl, ?_⟩) hHeld ?_
    rotate_left
    · intro w9 hSw; (try dsimp only at hSw); go_simp; (try with_reducible rfl)
    try simp only [List.getElem_toArray, List.getElem_cons_succ, List.getElem_cons_zero, Act.put, List.setIfInBounds_toArray, List.set_cons_zero, List.set_cons_succ]
    refine wpAnyH_take (i := 3) (v := ?_) rfl (by kernel_rfl) (by kernel_rfl) (by kernel_rfl) (fun _ _ _ h => h) (Or.inl ⟨by rfl, ?_⟩) hHeld ?_
    rotate_left
    · intro w9 hSw; (try dsimp only at hSw); go_simp; (try with_reducible rfl)
    try simp only [List.getElem_toArray, List.getElem_cons_succ, List.getElem_cons_zero, Act.put, List.setIfInBounds_toArray, List.set_cons_zero, List.set_cons_succ]
    refine wpAnyH_take (i := 4) (v := ?_) rfl (by kernel_rfl) (by kernel_rfl) (by kernel_rfl) (fun _ _ _ h => h) (Or.inl ⟨by rfl, ?_⟩) hHeld ?_
    rotate_left
    · intro w9 hSw; (try dsimp only at hSw); go_simp; (try with_reducible rfl)
    try simp only [List.getElem_toArray, List.getElem_cons_succ, List.getElem_cons_zero, Act.put, List.setIfInBounds_toArray, List.set_cons_zero, List.set_cons_succ]
    refine wpAnyH_take (i := 5) (v := ?_) rfl (by kernel_rfl) (by kernel_rfl) (by kernel_rfl) (fun _ _ _ h => h) (Or.inl ⟨by rfl, ?_⟩) hHeld ?_
    rotate_left
    · intro w9 hSw; (try dsimp only at hSw); go_simp; (try with_reducible rfl)
    try simp only [List.getElem_toArray, List.getElem_cons_succ, List.getElem_cons_zero, Act.put, List.setIfInBounds_toArray, List.set_cons_zero, List.set_cons_succ]
    refine wpAnyH_take (i := 6) (v := ?_) rfl (by kernel_rfl) (by kernel_rfl) (by kernel_rfl) (fun _ _ _ h => h) (Or.inl ⟨by rfl, ?_⟩) hHeld ?_
    rotate_left
    · intro w9 hSw; (try dsimp only at hSw); go_simp; (try with_reducible rfl)
    try simp only [List.getElem_toArray, List.getElem_cons_succ, List.getElem_cons_zero, Act.put, List.setIfInBounds_toArray, List.set_cons_zero, List.set_cons_succ]
    refine wpAnyH_ready (rs := [7]) (by kernel_rfl) (by simp) (AllReadyH.cons rfl (fun K0 hK0 => ?_) AllReadyH.nil)
    go_simp
    refine hK0.out _ _ ⟨HKb.out.cell b0 (by simp), HKb.out.cell b1 (by simp), HKb.out.cell b2 (by simp), HKb.out.cell b3 (by simp), HKb.out.cell b4 (by simp), HKb.out.cell b5 (by simp), HKb.out.cell b6 (by simp), HKb.out.cell b7 (by simp), HKb.out.cell b8 (by simp), HKb.out.cell b9 (by simp)⟩ (fun hHeld => ?_)
    clear hK0 K0
    try simp only [List.getElem_toArray, List.getElem_cons_succ, List.getElem_cons_zero, Act.put, List.setIfInBounds_toArray, List.set_cons_zero, List.set_cons_succ]
    refine wpAnyH_ready (rs := [8]) (by kernel_rfl) (by simp) (AllReadyH.cons rfl (fun K0 hK0 => ?_) AllReadyH.nil)
    refine step_appT (by rfl) _ _ (by rfl) (some ⟨g, 0, none⟩) m X (by simp [Act.eval]) HM.out (by simp) HC.out ⟨w.heap.size + 1, 0, none⟩ 1 1 [(x, .slice ao n c)] (by simp [Act.eval]) rfl HNw.out (by intro y hy; simp at hy; subst hy; rfl) (by omega) (by rw [← HM.out]; simp; omega) ?_
    intro g5 c5 w5 hR5 hK5
    have hK6 := HKb.out.trans hK5 (by simp)
    refine hK0.out _ _ ⟨hK6.cell b0 (by simp), hK6.cell b1 (by simp), hK6.cell b2 (by simp), hK6.cell b3 (by simp), hK6.cell b4 (by simp), hK6.cell b5 (by simp), hK6.cell b6 (by simp), hK6.cell b7 (by simp), hK6.cell b8 (by simp), hK6.cell b9 (by simp)⟩ (fun hHeld => ?_)
    clear hK0 K0
    try simp only [List.getElem_toArray, List.getElem_cons_succ, List.getElem_cons_zero, Act.put, List.setIfInBounds_toArray, List.set_cons_zero, List.set_cons_succ]
    refine wpAnyH_take (i := 9) (v := ?_) rfl (by kernel_rfl) (by kernel_rfl) (by kernel_rfl) (fun _ _ _ h => h) (Or.inl ⟨by rfl, ?_⟩) hHeld ?_
    rotate_left
    · intro w9 hSw; (try dsimp only at hSw); go_simp; (try with_reducible rfl)
    try simp only [List.getElem_toArray, List.getElem_cons_succ, List.getElem_cons_zero, Act.put, List.setIfInBounds_toArray, List.set_cons_zero, List.set_cons_succ]
    refine wpAnyH_done (by kernel_rfl) ?_ _
    all_goals go_wp2_with fail
    all_goals go_ret
    all_goals exact ⟨_, rfl, hR5.mono (Nat.le_trans HK0.out.size HKb.out.size), HK0.out.trans hK6 (by simp)⟩

theorem behind_call (w : World) (v : Value) (X : List (Se × Value)) (hR : TRow w v X) (x : Se) (u : Value) (hu : ∃ ao n c, u = .slice ao n c) (hl : X.length ≤ 100000) :
    Calls Try.prog 34 #[v, seV x u] w fun e w' => LiP w v (X ++ [(x, u)]) e w' :=
  (behind_own w v X hR x u hu hl).mono fun _ _ ⟨v', he, h1, h2⟩ => ⟨v', he, h1.t, h2, fun k hk => .inr (World.ownsRow.lt h1 k hk).1⟩

/-- append of sessions to a row that is owned, as a step of a region that draws its order. -/
theorem step_appS {w : World} {ops : Array Oper} {o : Oper} {a : Act} {Kk : Act → World → Prop} {Q : Exit → Act → World → Prop} {E : Prop} (hgd : o.guard = none) (s x : Operand)
    (hop : o.op = .call { callee := .builtin .append, args := #[s, x], argTypes := #[49, 49] })
    (B : Nat) (v : Value) (M : List (Se × Value)) (hs : a.eval s = v) (hO : RowS B w v M) (ad : Addr) (m c : Nat) (N : List (Se × Value)) (hx : a.eval x = .slice (some ad) m c) (hm : m = N.length) (hc : ∀ (j : Nat) (u : Value), (N.flatMap seC)[j]? = some u → w.cell? (ad.add j) = some u) (h1 : ∀ x ∈ N, x.2.oneCell' = true) (hpos : 0 < m)
    (hlen : M.length + N.length ≤ 1000000000) (hB : B ≤ w.heap.size)
    (h : ∀ g n cap w', RowS B w' (.slice (some ⟨g, 0, none⟩) n cap) (M ++ N) → w.grownBy w' v.ownBlock → (v.ownBlock = some g ∨ g = w.heap.size) → Kk (a.put o.dst (.slice (some ⟨g, 0, none⟩) n cap)) w') :
    if Region.wanted o (yielded ops a.tmps) = true then Oper.wp Try.prog o a w Kk Q else E := by
  subst hm
  obtain ⟨i0, hi, hz0, hz1, hz2⟩ := info_parts info_session
  refine step_append_lies w hgd s x 49 hop B 44 i0 _ 10 112 Try.underlying49 hi hz0 hz1 hz2 rfl (by decide) v M.length (M.flatMap seC) hs hO ad N.length c (N.flatMap seC) hx (seC_length N) hc (one_seC h1) hpos (by unfold maxLen; omega) (by omega) hB _ rfl ?_
  intro g' cap w' h2 h3 h4 _
  refine h g' _ cap w' ?_ h3 h4
  unfold RowS
  rw [List.length_append, List.flatMap_append]
  exact h2

end Go.Proofs.Ytajkmhepedlmmaa
