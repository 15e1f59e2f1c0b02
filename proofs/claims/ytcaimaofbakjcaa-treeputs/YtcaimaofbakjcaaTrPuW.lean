/-
  TreePuts: the walk.
-/
import Derived.Test.YtcaimaofbakjcaaTrRef4
import Derived.Test.YtcaimaofbakjcaaTrTold2
import Derived.Test.YtcaimaofbakjcaaTrAwake
import Derived.Deep.CutRange
namespace Go.Proofs.Ytcaimaofbakjcaa
open Go.RowKit

theorem set_in {w : World} {b k : Nat} {vs : Array Value} {t : TypeId} (h : w.heap[b]? = some (.cells vs t (0, 0))) (v : Value) : (w.setCell ⟨b, k, none⟩ v).heap[b]? = some (.cells (vs.setIfInBounds k v) t (0, 0)) := by
  obtain ⟨hlt, hk⟩ := Array.getElem?_eq_some_iff.1 h
  show (w.heap.modify b _)[b]? = _
  rw [Array.getElem?_eq_getElem (by rw [Array.size_modify]; exact hlt), Array.getElem_modify_self, hk]
  rfl

theorem stores4_block {w : World} {b : Nat} {a0 a1 a2 a3 : Value} {t : TypeId} (h : w.heap[b]? = some (.cells #[a0, a1, a2, a3] t (0, 0))) (v0 v1 v2 v3 : Value) :
    ((((w.setCell ⟨b, 0, none⟩ v0).setCell ⟨b, 1, none⟩ v1).setCell ⟨b, 2, none⟩ v2).setCell ⟨b, 3, none⟩ v3).heap[b]? = some (.cells #[v0, v1, v2, v3] t (0, 0)) :=
  set_in (k := 3) (set_in (k := 2) (set_in (k := 1) (set_in (k := 0) h v0) v1) v2) v3

/-- A variable of one cell lies apart from nodes, trees and leaves. -/
theorem NAt.set {B : Nat} {w : World} {m : Nat} {v : Value} {ty : TypeId} (hm : w.heap[m]? = some (.cells #[v] ty (0, 0))) (u : Value) : ∀ {p : Option Addr} {t : Tr}, NAt B w p t → NAt B (w.setCell ⟨m, 0, none⟩ u) p t
  | _, .nil, ht => ht
  | _, .node _ _ _, ⟨b, pl, pr, hp, hb, h0, h1, hl, hr⟩ => ⟨b, pl, pr, hp, hb, by
      rw [Below.heap_setCell _ _ _ _ (by rintro rfl; rw [hm] at h0; simp at h0)]; exact h0, h1, NAt.set hm u hl, NAt.set hm u hr⟩

theorem TAt.set {B : Nat} {w : World} {m : Nat} {v : Value} {ty : TypeId} (hm : w.heap[m]? = some (.cells #[v] ty (0, 0))) (u : Value) {p : Option Addr} {t : Tr} (h : TAt B w p t) : TAt B (w.setCell ⟨m, 0, none⟩ u) p t := by
  rcases h with h | ⟨b, q, h1, h2, h3, h4⟩
  · exact .inl h
  · refine .inr ⟨b, q, h1, h2, ?_, h4.set hm u⟩
    rw [Below.heap_setCell _ _ _ _ (by rintro rfl; rw [hm] at h3; simp at h3)]; exact h3

theorem LfAt.set {w : World} {m : Nat} {ao : Option Addr} {n c : Nat} {ty : TypeId} (hm : w.heap[m]? = some (.cells #[.slice ao n c] ty (0, 0))) (u : Value) {b o : Nat} {x : Lf} (h : LfAt w b o x) : LfAt (w.setCell ⟨m, 0, none⟩ u) b o x := by
  have hne : b ≠ m := by
    rintro rfl
    have h0 := h.c0
    simp only [World.cell?, hm] at h0
    by_cases e : o = 0
    · subst e; simp at h0
    · simp [e] at h0
  have hk : Kept [m] w (w.setCell ⟨m, 0, none⟩ u) := (Kept.refl _ _).setCell (by simp) _
  exact ⟨hk.cell h.c0 (by simpa using hne), hk.cell h.c1 (by simpa using hne), hk.cell h.c2 (by simpa using hne), hk.cell h.c3 (by simpa using hne)⟩

theorem sl_set {w : World} {m : Nat} {ao : Option Addr} {n c : Nat} {ty : TypeId} (hm : w.heap[m]? = some (.cells #[.slice ao n c] ty (0, 0))) (u : Value) {bo : Option Addr} {k d : Nat} {L : List Lf} (h : SlL w bo k d L) : SlL (w.setCell ⟨m, 0, none⟩ u) bo k d L :=
  ⟨h.1, h.2.1, h.2.2.1, fun i hi => by obtain ⟨b, o, e, h1⟩ := h.2.2.2 i hi; exact ⟨b, o, e, h1.set hm u⟩⟩

theorem ins_small {x : Lf} {L : List Lf} {B : Nat} (hx : x.p.length ≤ B) (h : ∀ y ∈ L, y.p.length ≤ B) : ∀ y ∈ ins x L, y.p.length ≤ B := by
  intro y hy
  rcases mem_ins hy with rfl | hy
  · exact hx
  · exact h y hy

theorem ins_ne (x : Lf) (L : List Lf) : ins x L ≠ [] := by
  cases L with
  | nil => simp [ins]
  | cons y L => simp only [ins]; split <;> (try split) <;> simp

/-- The document's list in the variable at block m is the tree's. -/
structure Same (m : Nat) (w : World) (p : Option Addr) (t : Tr) (ao : Option Addr) (c : Nat) : Prop where
  tree : TAt w.heap.size w p t
  good : Good t
  box : w.heap[m]? = some (.cells #[.slice ao t.list.length c] 35 (0, 0))
  row : SlL w ao t.list.length c t.list
  nil : NilOr ao c t.list
  small : ∀ x ∈ t.list, x.p.length ≤ 300

theorem Same.put {m : Nat} {wr w2 w3 : World} {p q bo eo : Option Addr} {t : Tr} {d ed : Nat} {x : Lf} (hS : Same m wr p t bo d) (hx : x.p.length ≤ 300) (hK2 : Kept [] wr w2) (hT2 : TAt w2.heap.size w2 q (t.put x)) (hK3 : Kept [] w2 w3) (hE : SlL w3 eo (ins x t.list).length ed (ins x t.list)) :
    Same m (w3.setCell ⟨m, 0, none⟩ (.slice eo (ins x t.list).length ed)) q (t.put x) eo ed := by
  have b3 := (hK2.trans hK3 (by simp)).at hS.box (by simp)
  have e := put_list x t hS.good.1
  refine ⟨((hT2.kept hK3).set b3 _).full, hS.good.put x, ?_, ?_, .inr ?_, ?_⟩
  · rw [e]; exact one_setCell b3
  · rw [e]; exact sl_set b3 _ hE
  · rw [e]; exact ins_ne x _
  · rw [e]; exact ins_small hx hS.small

theorem Same.kept {m : Nat} {w w' : World} {p bo : Option Addr} {t : Tr} {d : Nat} (h : Same m w p t bo d) (k : Kept [] w w') : Same m w' p t bo d :=
  ⟨(h.tree.kept k).full, h.good, k.at h.box (by simp), h.row.kept k, h.nil, h.small⟩

theorem tupL_form (R : Option Lf) : ∃ y0 y1 y2 y3 y4, tupL R = .tuple #[.agg #[.string y0, .int .u64 y1, .int .i64 y2, .bool y3], .bool y4] := by
  cases R with
  | none => exact ⟨_, _, _, _, _, rfl⟩
  | some x => exact ⟨_, _, _, _, _, rfl⟩

theorem TAt.drewN {B : Nat} {w : World} {p : Option Addr} {t : Tr} (h : TAt B w p t) (n : Nat) : TAt B (w.drewN n) p t := TAt.same (a := w) (w := w.drewN n) (fun _ _ _ => rfl) h

set_option maxHeartbeats 8000000 in
set_option maxRecDepth 100000 in
theorem puts_walk (w : World) (ao : Option Addr) (n c : Nat) (L : List Lf) (ht : SlL w ao n c L) (f : List UInt8) (hf : f.length ≤ maxLen) (z9 : List UInt8) (hto : z9.length ≤ maxLen) :
    Calls Try.prog 4 #[.slice ao n c, .string (str f), .string (str z9)] w fun e w' => e = .returned (.bool true) ∧ Kept [] w w' := by
  have hn := ht.1
  subst hn
  have hm := ht.2.2.1
  have hc := ht.2.1
  unfold maxLen at hm hf hto
  have sf : ((str f).size : Int) = f.length := by rw [str_size]
  have st : ((str z9).size : Int) = z9.length := by rw [str_size]
  by_cases hr : roomy L = true ∧ f.length ≤ 300 ∧ z9.length ≤ 300
  · obtain ⟨hr, hf3, ht3⟩ := hr
    have if3 : (f.length : Int) ≤ 300 := by omega
    have it3 : (z9.length : Int) ≤ 300 := by omega
    obtain ⟨r1, r2⟩ := roomy_iff.1 hr
    have HL : Hid (∀ i (hi : i < L.length), ∃ b o, ao = some ⟨b, o, none⟩ ∧ LfAt w b (o + i * 4) L[i]) := ht.2.2.2
    have HP : Hid (∀ x ∈ L, x.p.length ≤ 300) := r2
    clear r2
    go_enter Try.func4, Try.ntmps4
    go_wp2_with fail
    refine (awake_call _).mono ?_
    rintro e w0 ⟨rfl, hK0⟩
    have cr := room_call w0 ao L.length c L (ht.kept hK0)
    rw [hr] at cr
    clear ht hr
    go_wp2_with fail
    refine cr.mono ?_
    rintro e w' ⟨rfl, rfl⟩
    clear cr
    go_wp2_with fail
    refine (new_call _).mono ?_
    rintro e w1 ⟨a, rfl, hA, hK1⟩
    replace hK1 := hK0.trans hK1 (by simp)
    clear hK0
    go_wp2_with fail
    have hSame : Same w1.heap.size (w1.alloc (.cells #[.slice none 0 0] 35)) a .nil none 0 :=
      ⟨(hA.kept ((Kept.refl _ _).alloc _)).full, good_nil, heap_alloc_new w1 _, ⟨rfl, Nat.le_refl _, Nat.zero_le _, fun i hi => by simp [Tr.list] at hi⟩, .inl ⟨rfl, rfl, rfl⟩, fun x hx => by simp [Tr.list] at hx⟩
    have hmw : w.heap.size ≤ w1.heap.size := hK1.size
    replace hK1 := hK1.alloc (.cells #[.slice none 0 0] 35)
    clear hA
    go_loopw [7, 9] (fun tv iv wr => ∃ (p : Option Addr) (t : Tr) (k : Nat) (bo : Option Addr) (d : Nat), tv = .pointer p ∧ iv = .int .i64 (k : Int) ∧ k ≤ L.length ∧ t.size ≤ k ∧ Same w1.heap.size wr p t bo d ∧ Kept [] w wr) (fun _ iv _ => L.length - (intOf iv).toNat)
    case atStart => exact ⟨a, .nil, 0, none, 0, rfl, rfl, Nat.zero_le _, Nat.le_refl _, hSame, hK1⟩
    case round =>
      obtain ⟨p, t, k, bo, d, rfl, rfl, hk, hsz, hS, hK⟩ := hrel
      clear hSame hK1
      by_cases hlt : k < L.length
      · obtain ⟨b, o, rfl, hx⟩ := HL.out k hlt
        have hx2 := hx.kept hK
        obtain ⟨c0, c1, c2, c3⟩ := hx2
        have hxp := HP.out L[k] (List.getElem_mem hlt)
        obtain ⟨x, hxe⟩ : ∃ x, L[k] = x := ⟨_, rfl⟩
        rw [hxe] at c0 c1 c2 c3 hxp hx
        have cP := tPut_call x (by omega) _ wr p t hS.tree (by omega)
        unfold lfV at cP
        go_wp2_with fail
        refine cP.mono ?_
        rintro e w2 ⟨q, rfl, hT2, hK2⟩
        have b2 := hK2.at hS.box (by simp)
        have bc2 := cell_of_one b2
        have bf2 := frozen_in b2 0
        have hl1 : t.list.length ≤ 300 := by rw [tr_size]; omega
        have cR := fun w' (hk : Kept [] wr w') => rput_call w' bo t.list.length d t.list (hS.row.kept hk) hS.nil (by omega) (fun y hy => by have := hS.small y hy; omega) x (by omega)
        unfold lfV at cR
        have d0 := hK2.cell c0 (by simp)
        have d1 := hK2.cell c1 (by simp)
        have d2 := hK2.cell c2 (by simp)
        have d3 := hK2.cell c3 (by simp)
        clear c0 c1 c2 c3 cP
        go_wp2_with fail
        go_cut [] from 31 to 92 (fun wx => ∃ eo ed, Same w1.heap.size wx q (t.put x) eo ed ∧ Kept [] w wx)
        case first =>
          go_region_with (go_at_call 17; refine (cR _ ?_).mono ?_; exact hK2.drew; rintro e w3 ⟨eo, ed, rfl, hE, hK3⟩; have b3 := hK3.at b2 (by simp); have bc3 := cell_of_one b3; have bf3 := frozen_in b3 0)
          all_goals
            go_wp2_with fail
            go_meet
            exact ⟨eo, ed, hS.put hxp hK2 hT2 ((Kept.refl [] w2).drew.trans hK3 (by simp)) hE, ((hK.trans hK2 (by simp)).trans ((Kept.refl [] w2).drew.trans hK3 (by simp)) (by simp)).setCell (.inr hmw) _⟩
        case rest =>
          obtain ⟨eo, ed, hS3, hKw3⟩ := hcut
          have hsz2 : (t.put x).size ≤ k + 1 := by have := (put_size x t).2; omega
          clear b2 bc2 bf2 cR d0 d1 d2 d3 hT2 hK2 hS hK hsz hx hl1
          generalize t.put x = t2 at *
          have hj : L.length - 1 - k < L.length := by omega
          obtain ⟨b', o', hbo, hy⟩ := HL.out (L.length - 1 - k) hj
          obtain ⟨rfl, rfl⟩ : b = b' ∧ o = o' := by simpa using hbo
          have y0 := (hy.kept hKw3).c0
          have hyp := HP.out L[L.length - 1 - k] (List.getElem_mem hj)
          generalize L[L.length - 1 - k] = y at *
          have cG := tGet_call _ wc q t2 y.p hS3.tree (by omega)
          have hl2 : t2.list.length ≤ 300 := by rw [tr_size]; omega
          have cH := fun w' (hk : Kept [] wc w') => rget_call w' eo t2.list.length ed t2.list (hS3.row.kept hk) hS3.good.1 (fun z hz => by have := hS3.small z hz; omega) y.p (by omega)
          rw [get_mem hS3.good.1] at cG
          obtain ⟨v0, v1, v2, v3, v4, hv⟩ := tupL_form (t2.list.find? (fun x => decide (y.p = x.p)))
          rw [hv] at cG cH
          clear hv
          go_wp2_with fail
          refine cG.mono ?_
          rintro e w4 ⟨rfl, hK4⟩
          have y4 := (hy.kept (hKw3.trans hK4 (by simp))).c0
          have b4 := hK4.at hS3.box (by simp)
          have qa := heap_alloc_new w4 (.cells #[.string v0, .int .u64 v1, .int .i64 v2, .bool v3] 28)
          have hKa := (Kept.refl [] w4).alloc (.cells #[.string v0, .int .u64 v1, .int .i64 v2, .bool v3] 28)
          have ba := cell_of_one (hKa.at b4 (by simp))
          have ya := hKa.cell y4 (by simp)
          have hKt := hK4.trans hKa (by simp)
          have hKz := hKa.alloc (.cells #[.string ⟨#[]⟩, .int .u64 0, .int .i64 0, .bool false] 28)
          have bz := cell_of_one (hKz.at b4 (by simp))
          have yz := hKz.cell y4 (by simp)
          clear cG y0 y4
          go_wp2_with fail
          have hw1 : IntKind.i64.wrap ((L.length : Int) - 1) = (L.length : Int) - 1 := IntWalk.i64_in _ (by omega)
          have hw2 : IntKind.i64.wrap ((L.length : Int) - 1 - k) = ((L.length - 1 - k : Nat) : Int) := by rw [IntWalk.i64_in _ (by omega)]; omega
          have hw3 : ((L.length - 1 - k : Nat) : Int) < L.length := by omega
          have hzz := heap_alloc_new (w4.alloc (.cells #[.string v0, .int .u64 v1, .int .i64 v2, .bool v3] 28)) (.cells #[.string ⟨#[]⟩, .int .u64 0, .int .i64 0, .bool false] 28)
          rw [World.size_alloc] at hzz
          go_cut [12, 13] from 31 to 92 (fun s12 s13 wx => ∃ cb, s12 = .pointer (some ⟨cb, 0, none⟩) ∧ s13 = .bool v4 ∧ wx.heap[cb]? = some (.cells #[.string v0, .int .u64 v1, .int .i64 v2, .bool v3] 28 (0, 0)) ∧ Kept [] (w4.alloc (.cells #[.string v0, .int .u64 v1, .int .i64 v2, .bool v3] 28)) wx)
          case first =>
            go_region_with (go_at_call 19; refine (cH _ ?_).mono ?_; (first | exact hKt.drew | exact (hKt.alloc _).drew); rintro e w5 ⟨rfl, hK5⟩; try (have qz := hK5.at hzz (by simp); have fz := frozen_in qz; have g0 := fz 0; have g1 := fz 1; have g2 := fz 2; have g3 := fz 3; obtain ⟨k0, k1, k2, k3⟩ := cells4 qz))
            all_goals
              go_wp2_with fail
              go_meet
              first
                | exact ⟨w4.heap.size + 1, rfl, rfl, stores4_block qz _ _ _ _, kept4 ((((Kept.refl [] _).alloc _).drew).trans hK5 (by simp)) (by simp) _ _ _ _⟩
                | exact ⟨w5.heap.size, rfl, rfl, heap_alloc_new w5 _, ((Kept.refl [] _).drew.trans hK5 (by simp)).alloc _⟩
          case rest =>
            obtain ⟨cb, rfl, rfl, qc, hK6⟩ := hcut
            have hS6 := hS3.kept (hKt.trans hK6 (by simp))
            have hKw6 := (hKw3.trans hKt (by simp)).trans hK6 (by simp)
            have cN := fun n => tLen_call _ (wc.drewN n) q t2 (hS6.tree.drewN n)
            obtain ⟨x0, x1, x2, x3⟩ := cells4 (hK6.at qa (by simp))
            obtain ⟨z0, z1, z2, z3⟩ := cells4 qc
            have b6 := cell_of_one hS6.box
            have hlz : (t2.list.length : Int) = t2.size := by rw [tr_size]
            have HF : Hid (Same w1.heap.size wc q t2 eo ed ∧ Kept [] w wc ∧ t2.size ≤ k + 1) := ⟨hS6, hKw6, hsz2⟩
            clear hS3 hKw3 hK4 b4 qa hKa ba ya hKt hKz bz yz hzz hw1 hw2 hw3 hK6 qc hS6 hKw6 cH hy hyp hsz2
            go_wp2_with fail
            go_quiet (first | (go_at_call 13; exact quiet_n (cN _)))
            go_wp2_with fail
            go_roundw
            case rel => exact ⟨q, t2, k + 1, eo, ed, rfl, by simp, by omega, HF.out.2.2, HF.out.1.kept (kept_drewN (Kept.refl _ _) _), kept_drewN HF.out.2.1 _⟩
            case measure => simp [intOf]; omega
      · have hl1 : t.list.length ≤ 300 := by rw [tr_size]; omega
        have hts : t.size ≤ 100000000000 := by omega
        have hcb := cell_of_one hS.box
        have cA := fun w' (hk : Kept [] wr w') => tAll_call _ w' p t (hS.tree.kept hk) hts hS.good.1
        have cRg := fun w' (hk : Kept [] wr w') => tRange_call _ w' p t (hS.tree.kept hk) hts hS.good.1 f z9 (by omega) (by omega)
        have cUn := fun w' (hk : Kept [] wr w') => tUnder_call _ w' p t (hS.tree.kept hk) hts hS.good.1 f (by omega)
        have hsm : ∀ x ∈ t.list, x.p.length ≤ 100000000000 := fun y hy => by have := hS.small y hy; omega
        have dR := fun w' (hk : Kept [] wr w') => rrange_call w' bo t.list.length d t.list (hS.row.kept hk) (by omega) hsm f z9 (by omega) (by omega)
        have dU := fun w' (hk : Kept [] wr w') => runder_call w' bo t.list.length d t.list (hS.row.kept hk) (by omega) f (by omega)
        have hrow := hS.row
        clear hsm hS
        go_wp2_with fail
        go_region_held3 (fun w' => w'.cell? ⟨w1.heap.size, 0, none⟩ = some (.slice bo t.list.length d))
          (first | go_keep | exact hKe.cell hcb (by simp))
          (first
            | (go_at_call 15; refine (cA _ ?_).mono ?_; exact (Kept.refl _ _).drew; rintro e x1 ⟨l1, rfl, hO1, hKe⟩; replace hKe : Kept [] wr x1 := (Kept.refl [] wr).drew.trans hKe (by simp); obtain ⟨a1, d1, rfl, hL1⟩ := hO1.sl; have hM1 := hrow.kept hKe; clear hO1 cA)
            | (go_at_call 20; have h20 := same_call x1 _ _ _ _ _ _ _ _ hL1 hM1; rw [decide_eq_true rfl] at h20; refine h20.mono ?_; clear hL1 hM1 h20; rintro e x2 ⟨rfl, n2, rfl⟩; replace hKe := kept_drewN hKe n2)
            | (go_at_call 21; refine (cRg _ hKe).mono ?_; rintro e x3 ⟨l3, rfl, hO3, hK3⟩; obtain ⟨a3, d3, rfl, hL3⟩ := hO3.sl; replace hKe := hKe.trans hK3 (by simp); clear hO3 hK3)
            | (go_at_call 22; refine (dR _ hKe).mono ?_; rintro e x4 ⟨l4, rfl, hO4, hK4⟩; obtain ⟨a4, d4, rfl, hL4⟩ := hO4.sl; replace hKe := hKe.trans hK4 (by simp); replace hL3 := hL3.kept hK4; clear hO4 hK4)
            | (go_at_call 20; have h20 := same_call x4 _ _ _ _ _ _ _ _ hL3 hL4; rw [decide_eq_true rfl] at h20; refine h20.mono ?_; clear hL3 hL4 h20; rintro e x5 ⟨rfl, n5, rfl⟩; replace hKe := kept_drewN hKe n5)
            | (go_at_call 12; refine (cUn _ hKe).mono ?_; rintro e x6 ⟨l6, rfl, hO6, hK6⟩; obtain ⟨a6, d6, rfl, hL6⟩ := hO6.sl; replace hKe := hKe.trans hK6 (by simp); clear hO6 hK6)
            | (go_at_call 23; refine (dU _ hKe).mono ?_; rintro e x7 ⟨l7, rfl, hO7, hK7⟩; obtain ⟨a7, d7, rfl, hL7⟩ := hO7.sl; replace hKe := hKe.trans hK7 (by simp); replace hL6 := hL6.kept hK7; clear hO7 hK7)
            | (go_at_call 20; have h20 := same_call x7 _ _ _ _ _ _ _ _ hL6 hL7; rw [decide_eq_true rfl] at h20; refine h20.mono ?_; clear hL6 hL7 h20; rintro e x8 ⟨rfl, n8, rfl⟩; replace hKe := kept_drewN hKe n8))
        all_goals go_wp2_with fail
        all_goals go_ret
        all_goals exact ⟨rfl, hK.trans hKe (by simp)⟩
  · rcases (show roomy L = false ∨ (roomy L = true ∧ 300 < (f.length : Int)) ∨ (roomy L = true ∧ (f.length : Int) ≤ 300 ∧ 300 < (z9.length : Int)) from by
      cases h : roomy L with
      | false => exact .inl rfl
      | true => simp only [h, true_and] at hr; right; by_cases h2 : (f.length : Int) ≤ 300
                · right; exact ⟨rfl, h2, by omega⟩
                · left; exact ⟨rfl, by omega⟩) with h1 | ⟨h1, h2⟩ | ⟨h1, h2, h3⟩
    all_goals
      go_enter Try.func4, Try.ntmps4
      go_wp2_with fail
      refine (awake_call _).mono ?_
      rintro e w0 ⟨rfl, hK0⟩
      have cr := room_call w0 ao L.length c L (ht.kept hK0)
      rw [h1] at cr
      clear h1 hr
      go_wp2_with fail
      refine cr.mono ?_
      rintro e w' ⟨rfl, rfl⟩
      go_wp2_with fail
      go_ret
      exact ⟨rfl, hK0⟩

end Go.Proofs.Ytcaimaofbakjcaa
