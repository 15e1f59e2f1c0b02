/-
  Refs, Leaves.
-/
import Derived.Test.YtfoghemiaidnhaaGreatGrRead
import Derived.Test.YtfoghemiaidnhaaGreatGrLib
import Derived.Test.YtfoghemiaidnhaaGreatGrLeaf
import Derived.Handy
namespace Go.Proofs.YtfoghemiaidnhaaGreat
open Go.RowKit

def rfC (x : List UInt8 × Int) : List Value := [.string (str x.1), .int .i64 x.2]

/-- A row of refs that is owned. -/
def OwnR (B : Nat) (w : World) (v : Value) (l : List (List UInt8 × Int)) : Prop := w.ownsRow B 37 2 v l.length (l.flatMap rfC)

theorem info_ref : (Tryz.prog.info? 37).map (fun i => (i.zero, i.size, i.bytes)) = some (some (.agg #[.string ⟨#[]⟩, .int .i64 0]), 2, 24) := by kernel_rfl

theorem wp_appR {w : World} {ops : Array Oper} {rest : List Oper} {o : Oper} {a : Act} {Q : Exit → Act → World → Prop} (hgd : o.guard = none) (s x : Operand)
    (hop : o.op = .call { callee := .builtin .append, args := #[s, x], argTypes := #[34, 34] })
    (B : Nat) (v : Value) (l : List (List UInt8 × Int)) (hs : a.eval s = v) (hO : OwnR B w v l) (g : Nat) (y : List UInt8 × Int) (hx : a.eval x = .slice (some ⟨g, 0, none⟩) 1 1) (hc : w.heap[g]? = some (.cells #[.string (str y.1), .int .i64 y.2] 37 (0, 0)))
    (hlen : l.length ≤ 1000000000) (hB : B ≤ w.heap.size)
    (h : ∀ v' w', OwnR B w' v' (l ++ [y]) → w.grownBy w' v.ownBlock → wpList Tryz.prog ops Q rest (a.put o.dst v') w') : wpList Tryz.prog ops Q (o :: rest) a w := by
  obtain ⟨i0, hi, hz0, hz1, hz2⟩ := info_parts info_ref
  refine wpList_append_own w hgd s x 34 hop B 37 i0 (.agg #[.string ⟨#[]⟩, .int .i64 0]) 2 24 Tryz.underlying34 hi hz0 hz1 hz2 rfl (by decide) v l.length (l.flatMap rfC) hs hO ⟨g, 0, none⟩ 1 1 (rfC y) hx rfl (World.news_of_block hc) ?_ (by unfold maxLen; omega) (by omega) hB ?_
  · intro u hu; simp [rfC] at hu; rcases hu with rfl | rfl <;> rfl
  · intro v' w' h1 h2 _
    refine h v' w' ?_ h2
    unfold OwnR
    rw [List.length_append, List.flatMap_append]
    simpa using h1

theorem zero_int (w : World) : (zeroValue 3).run Tryz.prog w = .ok (.int .i64 0) w := by kernel_rfl

/-- A row of another type stays while one grows. -/
theorem row_other {w w' : World} {B e size n : Nat} {v : Value} {xs : List Value} (h : w.ownsRow B e size v n xs) (hg : w.grownBy w' v.ownBlock) {B2 e2 size2 n2 : Nat} {v2 : Value} {xs2 : List Value} (h2 : w.ownsRow B2 e2 size2 v2 n2 xs2) (hne : e2 ≠ e) : w'.ownsRow B2 e2 size2 v2 n2 xs2 :=
  row_typed ((Kept.refl v.ownBlock.toList w).grown hg fun k hk => .inl (mem_own.2 hk)) (Ts := [e]) (fun k hk cur t mk hh => by
    obtain ⟨c2, h3⟩ := row_block h (mem_own.1 hk)
    rw [h3] at hh; cases hh; simp) h2 (by simpa using hne)

def RefI (w : World) (l : List (List UInt8 × Int)) (nv : Value) (ov iv : Value) (wr : World) : Prop :=
  ∃ i : Nat, iv = .int .i64 (i : Int) ∧ i ≤ l.length ∧ Hid (OwnR w.heap.size wr ov (l.take i)) ∧ Hid (wr.ownsRow w.heap.size 9 1 nv l.length ((l.map (·.1)).map fun x => .string (str x))) ∧ Hid (Kept [] w wr)

set_option maxHeartbeats 4000000 in
set_option maxRecDepth 100000 in
theorem refs_call {w : World} {b : Nat} {v : Value} {p : Option Addr} {t : Tr} {mb : Nat} {K : List (Com × Value)} {G : Gr} (h : GA w b v p t mb K G) (hs : SrR G.rs) (hl : G.rs.length ≤ 1000000) (hn : ∀ x ∈ G.rs, x.1.length ≤ 1000000) :
    Calls Tryz.prog 11 #[.pointer (some ⟨b, 0, none⟩)] w fun e w' => ∃ v', e = .returned v' ∧ OwnR w.heap.size w' v' G.rs ∧ Kept [] w w' := by
  have cM := made_call h
  have cK := mkeys_call (some mb) w
  have cS := names_call w mb G.rs hs (by omega) h.map
  obtain ⟨c0, c1, c2⟩ := cells3 h.at_
  have HG : Hid (GA w b v p t mb K G) := h
  have HN : Hid (∀ x ∈ G.rs, x.1.length ≤ 1000000) := hn
  clear h hn
  go_enter Tryz.func11, Tryz.ntmps11
  go_wp2_with fail
  refine cM.mono ?_
  rintro _ W ⟨rfl, hW0⟩
  obtain rfl := hW0.symm
  go_wp2_with fail
  refine cK.mono ?_
  rintro _ _ ⟨rfl, rfl⟩
  go_wp2_with fail
  refine cS.mono ?_
  rintro _ w1 ⟨nv, rfl, hrow, hK1⟩
  obtain ⟨ao, cap, rfl, hcap, hcm⟩ : ∃ ao cap, nv = .slice ao G.rs.length cap ∧ G.rs.length ≤ cap ∧ cap ≤ maxLen := by
    obtain ⟨_, h2⟩ := hrow
    rcases h2 with ⟨h3, h4⟩ | ⟨g, cap, cur, h3, _, _, h4, h5, _⟩
    · exact ⟨none, 0, by rw [h3, h4], by omega, Nat.zero_le _⟩
    · exact ⟨_, cap, h3, h4, h5⟩
  unfold maxLen at hcm
  have HR0 : Hid (w1.ownsRow w.heap.size 9 1 (.slice ao G.rs.length cap) G.rs.length ((G.rs.map (·.1)).map fun x => .string (str x))) := hrow
  have HK1 : Hid (Kept [] w w1) := hK1
  clear hrow hK1 cM cK cS c0 c1 c2
  go_wp2_with fail
  go_loopw [3, 16] (fun ov iv wr => RefI w G.rs (.slice ao G.rs.length cap) ov iv wr) (fun _ iv _ => G.rs.length - (intOf iv).toNat)
  case atStart => exact ⟨0, rfl, Nat.zero_le _, World.ownsRow_nil _ _ _ _, HR0, HK1⟩
  case round =>
    obtain ⟨i, rfl, hi, HO, HR, HK⟩ := hrel
    by_cases hlt : i < G.rs.length
    · have hlt' : (i : Int) < G.rs.length := by omega
      have hic : i ≤ cap := by omega
      obtain ⟨g, cap', he, _, _⟩ := World.ownsRow.form HR.out (by omega)
      obtain ⟨rfl, rfl⟩ : ao = some ⟨g, 0, none⟩ ∧ cap = cap' := by simpa using he
      have d0 := World.ownsRow.cellAt HR.out i (by omega)
      obtain ⟨x, hx⟩ : ∃ x, x = G.rs[i] := ⟨_, rfl⟩
      have hxm : x ∈ G.rs := by rw [hx]; exact List.getElem_mem hlt
      rw [show (((G.rs.map (·.1)).map fun x => Value.string (str x))[i]?) = some (.string (str x.1)) from by simp [hx, hlt]] at d0
      obtain ⟨c0, c1, c2⟩ := cells3 (HG.out.kept HK.out).at_
      have hkey : keyOf Tryz.prog 9 (.string (str x.1)) = some (.string x.1) := by
        have := WideMaps.keyOf_string_mk Tryz.underlying9 (s := str x.1) (by rw [str_size]; have := HN.out x hxm; unfold maxLen; omega)
        rwa [str_data] at this
      obtain ⟨cv, hrun, hat, _⟩ := World.ownsMap.lookup_int (t := 67) (HG.out.kept HK.out).map string_keys Tryz.underlying67 Tryz.underlying3 (zero_int _) hkey
      rw [rsD_at hs hxm] at hat
      obtain rfl : x.2 = cv := by simpa using hat
      have HX : Hid (G.rs.take (i + 1) = G.rs.take i ++ [x]) := by rw [hx]; exact List.take_succ_eq_append_getElem hlt
      have HO2 := fun ob => World.ownsRow.alloc HO.out ob
      have hsz := HK.out.size
      have hlen : (G.rs.take i).length ≤ 1000000000 := by simp; omega
      clear hx hat he hkey
      go_wp2_with (at_builtin; refine wp_appR rfl _ _ rfl w.heap.size _ (G.rs.take i) rfl (HO2 _) wr.heap.size x rfl (heap_alloc_new _ _) hlen (by simp; omega) ?a1)
      case a1 =>
        intro v2 w2 hO2 hg2
        have hKa := HK.out.alloc (.cells #[.string (str x.1), .int .i64 x.2] 37)
        have HN2 : Hid (RefI w G.rs (.slice (some ⟨g, 0, none⟩) G.rs.length cap) v2 (.int .i64 ((i + 1 : Nat) : Int)) w2) :=
          ⟨i + 1, rfl, by omega, by rw [HX.out]; exact hO2, row_other (HO2 _) hg2 (World.ownsRow.alloc HR.out _) (by decide), hKa.grown hg2 (fun k hk => .inr (World.ownsRow.lt (HO2 (.cells #[.string (str x.1), .int .i64 x.2] 37)) k hk).1)⟩
        clear hO2 hg2 HO2
        go_wp2_with fail
        go_roundw
        case rel => exact HN2.out
        case measure => simp [intOf]; omega
    · have hlt' : ¬ (i : Int) < G.rs.length := by omega
      have HE : Hid (G.rs.take i = G.rs) := List.take_of_length_le (by omega)
      go_wp2_with fail
      go_ret
      exact ⟨_, rfl, by have := HO.out; rw [HE.out] at this; exact this, HK.out⟩

end Go.Proofs.YtfoghemiaidnhaaGreat
