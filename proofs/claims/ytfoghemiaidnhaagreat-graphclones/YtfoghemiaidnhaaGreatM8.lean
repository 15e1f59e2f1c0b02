/-
  Texts of this claim that are laid as one: GrAdd, GrAdd2.
-/
import Derived.Test.YtfoghemiaidnhaaGreatGrReq
import Derived.Test.YtfoghemiaidnhaaGreatTrTold
import Derived.Deep.AppendLies
import Derived.Deep.RegionHeld3
import Derived.Deep.CutRange
import Derived.Handy
/-
  add: a commit is put behind the others.
-/
namespace Go.Proofs.YtfoghemiaidnhaaGreat
open Go.RowKit

theorem info_commit : (Tryz.prog.info? 54).map (fun i => (i.zero, i.size, i.bytes)) = some (some (.agg #[.int .i64 0, .int .i64 0, .string ⟨#[]⟩, .slice none 0 0]), 4, 56) := by kernel_rfl

theorem one_coC {K : List (Com × Value)} (h : ∀ x ∈ K, x.2.oneCell' = true) : ∀ u ∈ K.flatMap coC, u.oneCell' = true := by
  intro u hu
  obtain ⟨x, hx, hu⟩ := List.mem_flatMap.1 hu
  simp [coC] at hu
  rcases hu with rfl | rfl | rfl | rfl
  · rfl
  · rfl
  · rfl
  · exact h x hx

theorem own_one {B : Nat} {w : World} {v : Value} {L : List Ch} (h : OwnC B w v L) : v.oneCell' = true := by
  obtain ⟨ao, c, rfl, _⟩ := h.sl
  rfl

/-- append of one commit to a row of commits, as a step of a region that draws its order. -/
theorem step_appK {w : World} {ops : Array Oper} {o : Oper} {a : Act} {Kk : Act → World → Prop} {Q : Exit → Act → World → Prop} {E : Prop} (hgd : o.guard = none) (s x : Operand)
    (hop : o.op = .call { callee := .builtin .append, args := #[s, x], argTypes := #[26, 26] })
    (v : Value) (K : List (Com × Value)) (hs : a.eval s = v) (hO : RowK 0 w v K) (g : Nat) (y : Com × Value) (hx : a.eval x = .slice (some ⟨g, 0, none⟩) 1 1) (hc : w.heap[g]? = some (.cells #[.int .i64 y.1.r, .int .i64 y.1.b, .string (str y.1.n), y.2] 54 (0, 0)))
    (h1 : y.2.oneCell' = true) (hlen : K.length ≤ 1000000000)
    (h : ∀ g cap w', RowK 0 w' (.slice (some ⟨g, 0, none⟩) (K.length + 1) cap) (K ++ [y]) → w.grownBy w' v.ownBlock → (v.ownBlock = some g ∨ g = w.heap.size) → g < w'.heap.size → Kk (a.put o.dst (.slice (some ⟨g, 0, none⟩) (K.length + 1) cap)) w') :
    if Region.wanted o (yielded ops a.tmps) = true then Oper.wp Tryz.prog o a w Kk Q else E := by
  obtain ⟨i0, hi, hz0, hz1, hz2⟩ := info_parts info_commit
  refine step_append_lies w hgd s x 26 hop 0 54 i0 (.agg #[.int .i64 0, .int .i64 0, .string ⟨#[]⟩, .slice none 0 0]) 4 56 Tryz.underlying26 hi hz0 hz1 hz2 rfl (by decide) v K.length (K.flatMap coC) hs hO ⟨g, 0, none⟩ 1 1 (coC y) hx rfl (World.news_of_block hc) ?_ (by decide) (by unfold maxLen; omega) (by omega) (Nat.zero_le _) _ rfl ?_
  · intro u hu; simp [coC] at hu; rcases hu with rfl | rfl | rfl | rfl <;> first | rfl | exact h1
  · intro g' cap w' h2 h3 h4 h5
    refine h g' cap w' ?_ h3 h4 h5
    unfold RowK
    rw [List.length_append, List.flatMap_append]
    simpa using h2

theorem GA.setRow {w : World} {b : Nat} {v : Value} {p : Option Addr} {t : Tr} {mb : Nat} {K : List (Com × Value)} {G : Gr} (h : GA w b v p t mb K G) {w' : World} {x : Com} {cv : Value} (hO : OwnC 0 w cv x.c) {g cap : Nat}
    (hR : RowK 0 w' (.slice (some ⟨g, 0, none⟩) (K.length + 1) cap) (K ++ [(x, cv)])) (hg : w.grownBy w' v.ownBlock) (hat : v.ownBlock = some g ∨ g = w.heap.size) :
    GA (w'.setCell ⟨b, 0, none⟩ (.slice (some ⟨g, 0, none⟩) (K.length + 1) cap)) b (.slice (some ⟨g, 0, none⟩) (K.length + 1) cap) p t mb (K ++ [(x, cv)]) ⟨G.cs ++ [x], G.ls, G.rs⟩ := by
  have hT : Typed w v.ownBlock.toList [54] := fun k hk cur t' mk hh => by
    obtain ⟨c2, h2⟩ := row_block h.row (mem_own.1 hk)
    rw [h2] at hh; cases hh; simp
  have hK : Kept v.ownBlock.toList w w' := (Kept.refl _ w).grown hg fun k hk => .inl (mem_own.2 hk)
  have hbv : b ∉ v.ownBlock.toList := fun hm => by have := hT b hm _ _ _ h.at_; simp at this
  have hbm : mb ∉ v.ownBlock.toList := fun hm => by
    obtain ⟨c2, h2⟩ := row_block h.row (mem_own.1 hm)
    obtain ⟨es, clock, h3, _⟩ := h.map
    rw [h2] at h3; cases h3
  have hb' := hK.at h.at_ hbv
  have hblt := lt_of_at h.at_
  have hgb : g ≠ b := fun e => by
    subst e
    rcases hat with hat | hat
    · exact hbv (mem_own.2 hat)
    · omega
  have hmb : mb ≠ b := fun e => by
    subst e
    obtain ⟨es, clock, h3, _⟩ := h.map
    rw [h.at_] at h3; cases h3
  have hK2 : Kept [b] w' (w'.setCell ⟨b, 0, none⟩ (.slice (some ⟨g, 0, none⟩) (K.length + 1) cap)) := (Kept.refl _ _).setCell (by simp) _
  have hT2 : Typed w' [b] [69] := fun k hk cur t' mk hh => by
    simp at hk; subst hk; rw [hb'] at hh; cases hh; simp
  refine ⟨heap_setCell_same w' b 0 _ _ _ hb', hK2.ownsRow hR (fun k hk => by simp [Value.ownBlock] at hk; subst hk; simpa using hgb), ?_, by simp [h.com], ?_, h.some_, h.list, h.good, ?_⟩
  · intro y hy
    have hy2 : OwnC 0 w y.2 y.1.c := by
      rcases List.mem_append.1 hy with hy | hy
      · exact h.own y hy
      · simp at hy; subst hy; exact hO
    exact row_typed hK2 hT2 (row_typed hK hT hy2 (by decide)) (by decide)
  · exact (tat_typed hK2 hT2 (by decide) (by decide) (tat_typed hK hT (by decide) (by decide) h.tree)).mono (Nat.le_trans hK.size hK2.size)
  · exact map_kept hK2 (map_kept hK h.map hbm) (by simpa using hmb)

theorem GA.setTree {w : World} {b : Nat} {v : Value} {p : Option Addr} {t : Tr} {mb : Nat} {K : List (Com × Value)} {G : Gr} (h : GA w b v p t mb K G) {q : Option Addr} {t' : Tr} (hT' : TAt w.heap.size w q t') (hq : q ≠ none) (hg : Good t') :
    GA (w.setCell ⟨b, 1, none⟩ (.pointer q)) b v q t' mb K ⟨G.cs, t'.list, G.rs⟩ := by
  have hK2 : Kept [b] w (w.setCell ⟨b, 1, none⟩ (.pointer q)) := (Kept.refl _ _).setCell (by simp) _
  have hT2 : Typed w [b] [69] := fun k hk cur t' mk hh => by
    simp at hk; subst hk; rw [h.at_] at hh; cases hh; simp
  have hmb : mb ≠ b := fun e => by
    subst e
    obtain ⟨es, clock, h3, _⟩ := h.map
    rw [h.at_] at h3; cases h3
  refine ⟨heap_setCell_same w b 1 _ _ _ h.at_, row_typed hK2 hT2 h.row (by decide), fun y hy => row_typed hK2 hT2 (h.own y hy) (by decide), h.com, (tat_typed hK2 hT2 (by decide) (by decide) hT').mono hK2.size, hq, rfl, hg, map_kept hK2 h.map (by simpa using hmb)⟩

theorem put_some {B : Nat} {w : World} {q : Option Addr} {t : Tr} {x : Lf} (h : TAt B w q (t.put x)) (hg : Good t) : q ≠ none := by
  rintro rfl
  rcases h with ⟨_, h⟩ | ⟨b, q, h, _⟩
  · have h1 := put_list x t hg.1
    rw [h] at h1
    have h2 := (ins_length x t.list)
    have h3 : (ins x t.list).length = 0 := by rw [← h1]; rfl
    have h4 : ins x t.list ≠ [] := by cases t.list <;> simp [ins] <;> (try split) <;> (try split) <;> simp
    exact h4 (List.eq_nil_of_length_eq_zero h3)
  · cases h

theorem GA.setMap {w : World} {b : Nat} {v : Value} {p : Option Addr} {t : Tr} {mb : Nat} {K : List (Com × Value)} {G : Gr} (h : GA w b v p t mb K G) {w' : World} {n : List UInt8} {r : Int} {m : Nat} (hs : SrR G.rs)
    (hm : w'.ownsMap Tryz.prog 9 mapR mb m ((rsD G.rs).put (.string n) (.lit (.int .i64 r)))) (hg : w.grownBy w' (some mb)) :
    GA w' b v p t mb K ⟨G.cs, G.ls, mvR n r G.rs⟩ := by
  have hK : Kept [mb] w w' := (Kept.refl _ w).grown hg fun k hk => by cases hk; simp
  have hT : Typed w [mb] [] := fun k hk cur t' mk hh => by
    simp at hk; subst hk
    obtain ⟨es, clock, h3, _⟩ := h.map
    rw [h3] at hh; cases hh
  have hbm : b ≠ mb := fun e => by
    subst e
    obtain ⟨es, clock, h3, _⟩ := h.map
    rw [h.at_] at h3; cases h3
  rw [rsD_put hs] at hm
  exact ⟨hK.at h.at_ (by simpa using hbm), row_typed hK hT h.row (by simp), fun y hy => row_typed hK hT (h.own y hy) (by simp), h.com, (tat_typed hK hT (by simp) (by simp) h.tree).mono hK.size, h.some_, h.list, h.good, owns_tight hm⟩

end Go.Proofs.YtfoghemiaidnhaaGreat

/-
  add: the walk.
-/
namespace Go.Proofs.YtfoghemiaidnhaaGreat
open Go.RowKit

theorem GA.grown {w : World} {b : Nat} {v : Value} {p : Option Addr} {t : Tr} {mb : Nat} {K : List (Com × Value)} {G : Gr} (h : GA w b v p t mb K G) {w' : World} (hg : w.grownBy w' v.ownBlock) : w'.heap[b]? = some (.cells #[v, .pointer p, .map (some mb)] 69 (0, 0)) := by
  refine ((Kept.refl v.ownBlock.toList w).grown hg fun k hk => .inl (mem_own.2 hk)).at h.at_ fun hm => ?_
  obtain ⟨c2, h2⟩ := row_block h.row (mem_own.1 hm)
  rw [h.at_] at h2; cases h2

theorem new_at (w : World) (o ob : Obj) : ((w.alloc o).alloc ob).drew.heap[w.heap.size + 1]? = some ob := by
  have := heap_alloc_new (w.alloc o) ob
  rwa [World.size_alloc] at this

theorem box_grown {w w2 : World} {b mb : Nat} {v : Value} {o ob : Obj} (hS : ∀ k ∈ ownS b mb v, k < w.heap.size) (hg : ((w.alloc o).alloc ob).drew.grownBy w2 v.ownBlock) : Hid (w2.heap[w.heap.size]? = some o) := by
  have h1 : ((w.alloc o).alloc ob).drew.heap[w.heap.size]? = some o := (Below.heap_alloc _ _ _ (by simp)).trans (heap_alloc_new w o)
  refine ((Kept.refl v.ownBlock.toList _).grown hg fun k hk => .inl (mem_own.2 hk)).at h1 fun hm => ?_
  have := hS w.heap.size (by simp [ownS, mem_own.1 hm])
  omega

theorem add_first {w w2 : World} {b mb : Nat} {v : Value} {o ob : Obj} {g n cap : Nat} (hS : ∀ k ∈ ownS b mb v, k < w.heap.size) (hg : ((w.alloc o).alloc ob).drew.grownBy w2 v.ownBlock) (hat : v.ownBlock = some g ∨ g = ((w.alloc o).alloc ob).drew.heap.size) (hB : Hid (w2.heap[w.heap.size]? = some o)) :
    Kept (ownS b mb v) w (w2.setCell ⟨b, 0, none⟩ (.slice (some ⟨g, 0, none⟩) n cap)) ∧ (∀ k, (Value.slice (some ⟨g, 0, none⟩) n cap).ownBlock = some k → v.ownBlock = some k ∨ w.heap.size ≤ k) ∧
      (w2.setCell ⟨b, 0, none⟩ (.slice (some ⟨g, 0, none⟩) n cap)).heap[w.heap.size]? = some o := by
  refine ⟨((((Kept.refl (ownS b mb v) w).alloc _).alloc _).drew.grown hg (fun k hk => .inl (by simp [ownS, hk]))).setCell (.inl (by simp [ownS])) _, fun k hk => ?_, ?_⟩
  · simp [Value.ownBlock] at hk
    subst hk
    rcases hat with h | h
    · exact .inl h
    · refine .inr ?_
      rw [h]
      show w.heap.size ≤ ((w.alloc o).alloc ob).heap.size
      rw [World.size_alloc, World.size_alloc]; omega
  · have hb := hS b (by simp [ownS])
    exact (show Kept [b] w2 _ from (Kept.refl _ _).setCell (by simp) _).at hB.out (by simp; omega)

/-- What is behind add. -/
def AddP (w : World) (b : Nat) (v : Value) (mb : Nat) (K : List (Com × Value)) (G : Gr) (w' : World) : Prop :=
  ∃ v' p' t', GA w' b v' p' t' mb K G ∧ Kept (ownS b mb v) w w' ∧ ∀ k, v'.ownBlock = some k → v.ownBlock = some k ∨ w.heap.size ≤ k

def AddI (w : World) (b : Nat) (S : List Nat) (v : Value) (mb : Nat) (K : List (Com × Value)) (cs : List Com) (ls : List Lf) (rs : List (List UInt8 × Int)) (r : Int) (L : List Ch) (iv : Value) (wr : World) : Prop :=
  ∃ (i : Nat) (p : Option Addr) (t : Tr), iv = .int .i64 (i : Int) ∧ i ≤ L.length ∧ Hid (GA wr b v p t mb K ⟨cs, putC r ls (L.take i), rs⟩) ∧ Hid (Kept S w wr)

theorem putC_take {r : Int} {ls : List Lf} {L : List Ch} {i : Nat} (h : i < L.length) : putC r ls (L.take (i + 1)) = ins ⟨L[i].p, L[i].d, r, L[i].g⟩ (putC r ls (L.take i)) := by
  rw [List.take_succ_eq_append_getElem h, putC_app]; rfl

theorem box4 (w : World) (v0 v1 v2 v3 : Value) (t : TypeId) :
    (w.alloc (.cells #[v0, v1, v2, v3] t)).cell? ⟨w.heap.size, 0, none⟩ = some v0 ∧ (w.alloc (.cells #[v0, v1, v2, v3] t)).cell? ⟨w.heap.size, 1, none⟩ = some v1 ∧ (w.alloc (.cells #[v0, v1, v2, v3] t)).cell? ⟨w.heap.size, 2, none⟩ = some v2 ∧ (w.alloc (.cells #[v0, v1, v2, v3] t)).cell? ⟨w.heap.size, 3, none⟩ = some v3 :=
  cells4 (heap_alloc_new w _)

set_option linter.unusedSimpArgs false in
set_option maxHeartbeats 8000000 in
set_option maxRecDepth 100000 in
theorem add_call {w : World} {b : Nat} {v : Value} {p : Option Addr} {t : Tr} {mb : Nat} {K : List (Com × Value)} {G : Gr} (h : GA w b v p t mb K G) (x : Com) (cv : Value) (hO : OwnC 0 w cv x.c)
    (hK : K.length ≤ 1000000) (hL : ∀ y ∈ x.c, y.p.length ≤ 1000000000) (hLl : x.c.length ≤ 1000000) (hls : G.ls.length ≤ 1000000000) (hr : 0 ≤ x.r ∧ x.r ≤ 1000000000) (hn : x.n.length ≤ 1000000) (hs : SrR G.rs) (hrs : G.rs.length ≤ 1000000) :
    Calls Tryz.prog 32 #[.pointer (some ⟨b, 0, none⟩), .agg #[.int .i64 x.r, .int .i64 x.b, .string (str x.n), cv]] w fun e w' => e = .returned (.tuple #[]) ∧ AddP w b v mb (K ++ [(x, cv)]) (addG G x) w' := by
  obtain ⟨ao, n0, c, rfl, hsC, hnil⟩ := hO.chV
  obtain ⟨W1, hW1⟩ : ∃ W1, W1 = w.alloc (.cells #[.int .i64 x.r, .int .i64 x.b, .string (str x.n), .slice ao n0 c] 54) := ⟨_, rfl⟩
  have hK1 : Kept [] w W1 := by rw [hW1]; exact (Kept.refl _ _).alloc _
  have hsz1 : W1.heap.size = w.heap.size + 1 := by rw [hW1, World.size_alloc]
  obtain ⟨q0, q1, q2, q3⟩ := box4 w (.int .i64 x.r) (.int .i64 x.b) (.string (str x.n)) (.slice ao n0 c) 54
  rw [← hW1] at q0 q1 q2 q3
  have hG1 := h.kept hK1
  obtain ⟨c0, c1, c2⟩ := cells3 hG1.at_
  have f0 := froz3 hG1.at_ 0
  have hblt := lt_of_at h.at_
  have HG1 : Hid (GA W1 b v p t mb K G) := hG1
  have HO1 : Hid (OwnC 0 W1 (.slice ao n0 c) x.c) := hO.kept hK1
  have HR2 := fun ob => World.ownsRow.alloc hG1.row ob
  have HW : Hid (W1.heap[w.heap.size]? = some (.cells #[.int .i64 x.r, .int .i64 x.b, .string (str x.n), .slice ao n0 c] 54 (0, 0))) := by rw [hW1]; exact heap_alloc_new w _
  have HS : Hid (∀ k ∈ ownS b mb v, k < w.heap.size) := h.lt
  have hlen : K.length ≤ 1000000000 := by omega
  clear hG1 h hO
  subst hW1
  go_enter Tryz.func32, Tryz.ntmps32
  go_upto_region 1 with fail
  go_cut [] from 6 to 15 (fun wx => ∃ v' : Value, GA wx b v' p t mb (K ++ [(x, .slice ao n0 c)]) ⟨G.cs ++ [x], G.ls, G.rs⟩ ∧ Kept (ownS b mb v) w wx ∧ (∀ k, v'.ownBlock = some k → v.ownBlock = some k ∨ w.heap.size ≤ k) ∧
      wx.heap[w.heap.size]? = some (.cells #[.int .i64 x.r, .int .i64 x.b, .string (str x.n), .slice ao n0 c] 54 (0, 0)))
  case first =>
    go_region_law
      ((refine step_appK (by rfl) _ _ (by rfl) v K (by rfl) (HR2 _) (w.heap.size + 1) (x, .slice ao n0 c) (by rfl) (new_at w _ _) rfl hlen ?_; intro g cap w2 hR3 hg3 hat3 hlt3; have hG3 := GA.grown (HG1.out.kept ((Kept.refl [] _).alloc _).drew) hg3; obtain ⟨c20, c21, c22⟩ := cells3 hG3; have f20 := froz3 hG3 0; have hB3 := box_grown HS.out hg3))
    all_goals go_wp2_with fail
    all_goals go_meet
    all_goals exact ⟨_, (HG1.out.kept ((Kept.refl [] _).alloc _).drew).setRow (HO1.out.kept ((Kept.refl [] _).alloc _).drew) hR3 hg3 hat3, add_first HS.out hg3 hat3 hB3⟩
  case rest =>
    obtain ⟨v', hG2, hK2, hv2, hB2⟩ := hcut
    clear q0 q1 q2 q3 c0 c1 c2 f0
    obtain ⟨q0, q1, q2, q3⟩ := cells4 hB2
    have HG2 : Hid (GA wc b v' p t mb (K ++ [(x, .slice ao n0 c)]) ⟨G.cs ++ [x], G.ls, G.rs⟩) := hG2
    have HK2 : Hid (Kept (ownS b mb v) w wc) := hK2
    have HB2 : Hid (wc.heap[w.heap.size]? = some (.cells #[.int .i64 x.r, .int .i64 x.b, .string (str x.n), .slice ao n0 c] 54 (0, 0))) := hB2
    have HV2 : Hid (∀ k, v'.ownBlock = some k → v.ownBlock = some k ∨ w.heap.size ≤ k) := hv2
    clear hv2
    have hn0 := hsC.1
    have hc0 := hsC.2.1
    have hm0 := hsC.2.2.1
    unfold maxLen at hm0
    clear hG2 hK2 hB2 HG1 HO1 HR2 HW hsC
    go_wp2_with fail
    go_loopw [19] (fun iv wr => AddI w b (ownS b mb v) v' mb (K ++ [(x, .slice ao n0 c)]) (G.cs ++ [x]) G.ls G.rs x.r x.c iv wr ∧ Hid (wr.heap[w.heap.size]? = some (.cells #[.int .i64 x.r, .int .i64 x.b, .string (str x.n), .slice ao n0 c] 54 (0, 0)))) (fun iv _ => n0 - (intOf iv).toNat)
    case atStart => exact ⟨⟨0, p, t, rfl, Nat.zero_le _, HG2.out, HK2.out⟩, HB2.out⟩
    case round =>
      obtain ⟨⟨i, pi, ti, rfl, hi, HGi, HKi⟩, HBi⟩ := hrel
      clear q0 q1 q2 q3
      obtain ⟨s0, s1, s2, s3⟩ := cells4 HBi.out
      by_cases hlt : i < n0
      · have hlt' : (i : Int) < n0 := by omega
        have hic : i ≤ c := by omega
        have hsr : SlC wr ao n0 c x.c := (HGi.out.own (x, .slice ao n0 c) (by simp)).slice
        obtain ⟨g, o, rfl, hx⟩ := hsr.2.2.2 i (by omega)
        obtain ⟨y, hye⟩ : ∃ y, y = x.c[i]'(by omega) := ⟨_, rfl⟩
        rw [← hye] at hx
        obtain ⟨e0, e1, e2⟩ := hx
        have HY : Hid (y = x.c[i]'(by omega)) := hye
        have hyp : y.p.length ≤ 1000000000 := by rw [hye]; exact hL _ (List.getElem_mem _)
        have hKa := (Kept.refl [] wr).alloc (.cells #[.string (str y.p), .bool y.g, .int .u64 y.d] 31)
        obtain ⟨d0, d1, d2⟩ := box3 wr y 31
        rw [Nat.zero_add] at d1 d2
        have hGa := HGi.out.kept hKa
        obtain ⟨b0, b1, b2⟩ := cells3 hGa.at_
        have hsz : ti.size ≤ 100000000000 := by
          have h1 := tr_size ti
          rw [HGi.out.list] at h1
          have h2 := @putC_length x.r (x.c.take i) G.ls
          have h3 := List.length_take_le i x.c
          simp only at h1
          omega
        have cP := fun W (hk : Kept [] (wr.alloc (.cells #[.string (str y.p), .bool y.g, .int .u64 y.d] 31)) W) => tPut_call ⟨y.p, y.d, x.r, y.g⟩ (by simp only; omega) _ W pi ti (hGa.kept hk).tree hsz
        simp only [lfV] at cP
        have qa := hKa.cell s0 (by simp)
        have HGa : Hid (GA (wr.alloc (.cells #[.string (str y.p), .bool y.g, .int .u64 y.d] 31)) b v' pi ti mb (K ++ [(x, .slice (some ⟨g, o, none⟩) n0 c)]) ⟨G.cs ++ [x], putC x.r G.ls (x.c.take i), G.rs⟩) := hGa
        have hbr : b < wr.heap.size := lt_of_at HGi.out.at_
        clear hye hGa hsr
        have HN : Hid (∀ w3 q, Kept [] (wr.alloc (.cells #[.string (str y.p), .bool y.g, .int .u64 y.d] 31)) w3 → TAt w3.heap.size w3 q (ti.put ⟨y.p, y.d, x.r, y.g⟩) → AddI w b (ownS b mb v) v' mb (K ++ [(x, .slice (some ⟨g, o, none⟩) n0 c)]) (G.cs ++ [x]) G.ls G.rs x.r x.c (.int .i64 ((i + 1 : Nat) : Int)) (w3.setCell ⟨b, 1, none⟩ (.pointer q)) ∧ Hid ((w3.setCell ⟨b, 1, none⟩ (.pointer q)).heap[w.heap.size]? = some (.cells #[.int .i64 x.r, .int .i64 x.b, .string (str x.n), .slice (some ⟨g, o, none⟩) n0 c] 54 (0, 0)))) := fun w3 q hK3 hT3 => by
          refine ⟨⟨i + 1, q, ti.put ⟨y.p, y.d, x.r, y.g⟩, rfl, by omega, ?_, ?_⟩, ?_⟩
          · have h1 := (HGa.out.kept hK3).setTree hT3 (put_some hT3 HGa.out.good) (HGa.out.good.put _)
            rw [put_list _ _ HGa.out.good.1, HGa.out.list] at h1
            rw [putC_take (by omega), ← HY.out]
            exact h1
          · exact ((HKi.out.trans hKa (by simp)).trans hK3 (by simp)).setCell (.inl (by simp [ownS])) _
          · have hb := HS.out b (by simp [ownS])
            exact (show Kept [b] w3 _ from (Kept.refl _ _).setCell (by simp) _).at (hK3.at (hKa.at HBi.out (by simp)) (by simp)) (by simp; omega)
        go_wp2_with fail
        refine wp_region_held_drew (S := fun w' => w'.cell? ⟨wr.heap.size, 0, none⟩ = some (.string (str y.p)) ∧ w'.cell? ⟨wr.heap.size, 1, none⟩ = some (.bool y.g) ∧ w'.cell? ⟨wr.heap.size, 2, none⟩ = some (.int .u64 y.d) ∧ w'.cell? ⟨w.heap.size, 0, none⟩ = some (.int .i64 x.r)) (by kernel_rfl) ⟨d0, d1, d2, qa⟩ (fun hHeld => ?_)
        refine wpAnyH_take (i := 0) (v := ?_) rfl (by kernel_rfl) (by kernel_rfl) (by kernel_rfl) (fun _ _ _ h => h) (Or.inl ⟨by rfl, ?_⟩) hHeld ?_
        rotate_left
        · intro w9 hSw; (try dsimp only at hSw); go_simp; (try with_reducible rfl)
        try simp only [Act.put, List.setIfInBounds_toArray, List.set_cons_zero, List.set_cons_succ]
        refine wpAnyH_take (i := 1) (v := ?_) rfl (by kernel_rfl) (by kernel_rfl) (by kernel_rfl) (fun _ _ _ h => h) (Or.inl ⟨by rfl, ?_⟩) hHeld ?_
        rotate_left
        · intro w9 hSw; (try dsimp only at hSw); go_simp; (try with_reducible rfl)
        try simp only [Act.put, List.setIfInBounds_toArray, List.set_cons_zero, List.set_cons_succ]
        refine wpAnyH_take (i := 2) (v := ?_) rfl (by kernel_rfl) (by kernel_rfl) (by kernel_rfl) (fun _ _ _ h => h) (Or.inl ⟨by rfl, ?_⟩) hHeld ?_
        rotate_left
        · intro w9 hSw; (try dsimp only at hSw); go_simp; (try with_reducible rfl)
        try simp only [Act.put, List.setIfInBounds_toArray, List.set_cons_zero, List.set_cons_succ]
        refine wpAnyH_take (i := 3) (v := ?_) rfl (by kernel_rfl) (by kernel_rfl) (by kernel_rfl) (fun _ _ _ h => h) (Or.inl ⟨by rfl, ?_⟩) hHeld ?_
        rotate_left
        · intro w9 hSw; (try dsimp only at hSw); go_simp; (try with_reducible rfl)
        try simp only [Act.put, List.setIfInBounds_toArray, List.set_cons_zero, List.set_cons_succ]
        refine wpAnyH_take (i := 5) (v := ?_) rfl (by kernel_rfl) (by kernel_rfl) (by kernel_rfl) (fun _ _ _ h => h) (Or.inl ⟨by rfl, ?_⟩) hHeld ?_
        rotate_left
        · intro w9 hSw; (try dsimp only at hSw); go_simp; (try with_reducible rfl)
        try simp only [Act.put, List.setIfInBounds_toArray, List.set_cons_zero, List.set_cons_succ]
        refine wpAnyH_take (i := 6) (v := ?_) rfl (by kernel_rfl) (by kernel_rfl) (by kernel_rfl) (fun _ _ _ h => h) (Or.inl ⟨by rfl, ?_⟩) hHeld ?_
        rotate_left
        · intro w9 hSw; (try dsimp only at hSw); go_simp; (try with_reducible rfl)
        try simp only [Act.put, List.setIfInBounds_toArray, List.set_cons_zero, List.set_cons_succ]
        refine wpAnyH_take (i := 7) (v := ?_) rfl (by kernel_rfl) (by kernel_rfl) (by kernel_rfl) (fun _ _ _ h => h) (Or.inl ⟨by rfl, ?_⟩) hHeld ?_
        rotate_left
        · intro w9 hSw; (try dsimp only at hSw); go_simp; (try with_reducible rfl)
        try simp only [Act.put, List.setIfInBounds_toArray, List.set_cons_zero, List.set_cons_succ]
        refine wpAnyH_take (i := 8) (v := ?_) rfl (by kernel_rfl) (by kernel_rfl) (by kernel_rfl) (fun _ _ _ h => h) (Or.inl ⟨by rfl, ?_⟩) hHeld ?_
        rotate_left
        · intro w9 hSw; (try dsimp only at hSw); go_simp; (try with_reducible rfl)
        try simp only [Act.put, List.setIfInBounds_toArray, List.set_cons_zero, List.set_cons_succ]
        refine wpAnyH_take (i := 9) (v := ?_) rfl (by kernel_rfl) (by kernel_rfl) (by kernel_rfl) (fun _ _ _ h => h) (Or.inl ⟨by rfl, ?_⟩) hHeld ?_
        rotate_left
        · intro w9 hSw; (try dsimp only at hSw); go_simp; (try with_reducible rfl)
        try simp only [Act.put, List.setIfInBounds_toArray, List.set_cons_zero, List.set_cons_succ]
        refine wpAnyH_take (i := 10) (v := ?_) rfl (by kernel_rfl) (by kernel_rfl) (by kernel_rfl) (fun _ _ _ h => h) (Or.inl ⟨by rfl, ?_⟩) hHeld ?_
        rotate_left
        · intro w9 hSw; (try dsimp only at hSw); go_simp; (try with_reducible rfl)
        try simp only [Act.put, List.setIfInBounds_toArray, List.set_cons_zero, List.set_cons_succ]
        refine wpAnyH_take (i := 11) (v := ?_) rfl (by kernel_rfl) (by kernel_rfl) (by kernel_rfl) (fun _ _ _ h => h) (Or.inl ⟨by rfl, ?_⟩) hHeld ?_
        rotate_left
        · intro w9 hSw; (try dsimp only at hSw); go_simp; (try with_reducible rfl)
        try simp only [Act.put, List.setIfInBounds_toArray, List.set_cons_zero, List.set_cons_succ]
        refine wpAnyH_take (i := 12) (v := ?_) rfl (by kernel_rfl) (by kernel_rfl) (by kernel_rfl) (fun _ _ _ h => h) (Or.inl ⟨by rfl, ?_⟩) hHeld ?_
        rotate_left
        · intro w9 hSw; (try dsimp only at hSw); go_simp; (try with_reducible rfl)
        try simp only [Act.put, List.setIfInBounds_toArray, List.set_cons_zero, List.set_cons_succ]
        refine wpAnyH_take (i := 13) (v := ?_) rfl (by kernel_rfl) (by kernel_rfl) (by kernel_rfl) (fun _ _ _ h => h) (Or.inl ⟨by rfl, ?_⟩) hHeld ?_
        rotate_left
        · intro w9 hSw; (try dsimp only at hSw); go_simp; (try with_reducible rfl)
        try simp only [Act.put, List.setIfInBounds_toArray, List.set_cons_zero, List.set_cons_succ]
        refine wpAnyH_ready (rs := [4]) (by kernel_rfl) (by simp) (AllReadyH.cons rfl (fun K0 hK0 => ?_) AllReadyH.nil)
        go_simp
        refine hK0.out _ _ hHeld (fun hHeld => ?_)
        clear hK0 K0
        try simp only [Act.put, List.setIfInBounds_toArray, List.set_cons_zero, List.set_cons_succ]
        refine wpAnyH_ready (rs := [14]) (by kernel_rfl) (by simp) (AllReadyH.cons rfl (fun K0 hK0 => ?_) AllReadyH.nil)
        go_simp
        refine (cP _ (Kept.refl [] _).drew).mono ?_
        rintro e w3 ⟨q, rfl, hT3, hK3⟩
        replace hK3 := (Kept.refl [] (wr.alloc (.cells #[.string (str y.p), .bool y.g, .int .u64 y.d] 31))).drew.trans hK3 (by simp)
        have hG3 := HGa.out.kept hK3
        obtain ⟨m0, m1, m2⟩ := cells3 hG3.at_
        have f3 := froz3 hG3.at_ 1
        go_wp2_with fail
        refine hK0.out _ _ ⟨hK3.cell d0 (by simp), hK3.cell d1 (by simp), hK3.cell d2 (by simp), hK3.cell qa (by simp)⟩ (fun hHeld => ?_)
        clear hK0 K0
        try simp only [Act.put, List.setIfInBounds_toArray, List.set_cons_zero, List.set_cons_succ]
        refine wpAnyH_take (i := 15) (v := ?_) rfl (by kernel_rfl) (by kernel_rfl) (by kernel_rfl) (fun _ _ _ h => h) (Or.inl ⟨by rfl, ?_⟩) hHeld ?_
        rotate_left
        · intro w9 hSw; (try dsimp only at hSw); go_simp; (try with_reducible rfl)
        try simp only [Act.put, List.setIfInBounds_toArray, List.set_cons_zero, List.set_cons_succ]
        refine wpAnyH_take (i := 16) (v := ?_) rfl (by kernel_rfl) (by kernel_rfl) (by kernel_rfl) (fun _ _ _ h => h) (Or.inl ⟨by rfl, ?_⟩) hHeld ?_
        rotate_left
        · intro w9 hSw; (try dsimp only at hSw); go_simp; (try with_reducible rfl)
        try simp only [Act.put, List.setIfInBounds_toArray, List.set_cons_zero, List.set_cons_succ]
        refine wpAnyH_ready (rs := [17]) (by kernel_rfl) (by simp) (AllReadyH.cons rfl (fun K0 hK0 => ?_) AllReadyH.nil)
        go_simp
        have hK3b : Kept [b] (wr.alloc (.cells #[.string (str y.p), .bool y.g, .int .u64 y.d] 31)) (w3.setCell ⟨b, 1, none⟩ (.pointer q)) := (hK3.mono (by simp)).setCell (.inl (by simp)) _
        have hbw0 := HS.out b (by simp [ownS])
        refine hK0.out _ _ ⟨hK3b.cell d0 (by simp; omega), hK3b.cell d1 (by simp; omega), hK3b.cell d2 (by simp; omega), hK3b.cell qa (by simp; omega)⟩ (fun hHeld => ?_)
        refine wpAnyH_done (by kernel_rfl) ?_ _
        all_goals go_wp2_with fail
        all_goals go_roundw
        all_goals first | exact HN.out w3 q hK3 hT3 | (simp [intOf]; omega)
      · have hlt' : ¬ (i : Int) < n0 := by omega
        have hi0 : i = x.c.length := by omega
        have HGe : Hid (GA wr b v' pi ti mb (K ++ [(x, .slice ao n0 c)]) ⟨G.cs ++ [x], putC x.r G.ls x.c, G.rs⟩) := by
          have := HGi.out; rw [hi0, List.take_length] at this; exact this
        clear hi0 HGi
        by_cases hnn : x.n = []
        · have HE : Hid (addG G x = ⟨G.cs ++ [x], putC x.r G.ls x.c, G.rs⟩) := by show addG G x = _; unfold addG; rw [hnn]; rfl
          have hE := str_void
          rw [hnn] at s2
          go_wp2_with fail
          go_returns
          exact ⟨rfl, v', pi, ti, by rw [HE.out]; exact HGe.out, HKi.out, HV2.out⟩
        · have HE : Hid (addG G x = ⟨G.cs ++ [x], putC x.r G.ls x.c, mvR x.n x.r G.rs⟩) := by show addG G x = _; unfold addG; rw [rsAdd_some hnn]
          have hE := str_ne_void hnn
          obtain ⟨b0, b1, b2⟩ := cells3 HGe.out.at_
          have hkey : keyOf Tryz.prog 9 (.string (str x.n)) = some (.string x.n) := by
            have := WideMaps.keyOf_string_mk Tryz.underlying9 (s := str x.n) (by rw [str_size]; unfold maxLen; omega)
            rwa [str_data] at this
          have hval : mapR (.int .i64 x.r) = some (.lit (.int .i64 x.r), []) := plainElem_int Tryz.underlying3 (by simp [Lit.wf, IntKind.min, IntKind.max, IntKind.bits, IntKind.signed]; omega)
          obtain ⟨w5, hrun, hown5, hg5⟩ := World.ownsMap.update (t := 67) (show wr.drew.ownsMap Tryz.prog 9 mapR mb G.rs.length (rsD G.rs) from HGe.out.map) string_keys Tryz.underlying67 (by unfold maxLen; omega) hkey hval
          have HF : Hid (AddP w b v mb (K ++ [(x, .slice ao n0 c)]) (addG G x) w5) :=
            ⟨v', pi, ti, by rw [HE.out]; exact (HGe.out.kept (Kept.refl [] wr).drew).setMap hs hown5 hg5, HKi.out.drew.grown hg5 (fun k hk => by cases hk; exact .inl (by simp [ownS])), HV2.out⟩
          clear HE HGe HKi HV2 hown5 hg5 hkey hval
          go_wp2_with fail
          go_region
          all_goals go_wp2_with fail
          all_goals go_returns
          all_goals exact ⟨rfl, HF.out⟩

end Go.Proofs.YtfoghemiaidnhaaGreat
