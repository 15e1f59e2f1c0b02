/-
  GraphClones: the walk.
-/
import Derived.Test.YtfoghemiaidnhaaGreatM19
import Derived.Test.YtfoghemiaidnhaaGreatM20
import Derived.Deep.CutRange
import Derived.Handy
namespace Go.Proofs.YtfoghemiaidnhaaGreat
open Go.RowKit

def CwI (w0 : World) (b bm : Nat) (D : List De) (G : Gr) (iv : Value) (wr : World) : Prop := ∃ i : Nat, iv = .int .i64 (i : Int) ∧ i ≤ D.length ∧ Hid (Pair w0 wr b bm ((D.take i).foldl (fun G x => landG G x.b x.n x.l) G) ((D.take i).foldl (fun G x => landG G x.b x.n x.l) G))

/-- A row of changes, whatever it holds. -/
def Blk (B : Nat) (w : World) (v : Value) (m : Nat) : Prop := ∃ g cap cur, v = .slice (some ⟨g, 0, none⟩) m cap ∧ m ≤ cap ∧ cap ≤ maxLen ∧ B ≤ g ∧ w.heap[g]? = some (.cells cur 31 (0, 0)) ∧ cur.size = cap * 3

/-- Commits whose changes may be spoilt. -/
def Spoil (w0 : World) (v : Value) (K : List (Com × Value)) (wr : World) : Prop := RowK w0.heap.size wr v K ∧ (∀ x ∈ K, Blk w0.heap.size wr x.2 x.1.c.length) ∧ Kept [] w0 wr

theorem own_blk {B : Nat} {w : World} {v : Value} {L : List Ch} (h : OwnC B w v L) (hn : L ≠ []) : Blk B w v L.length := by
  obtain ⟨_, h2⟩ := h
  rcases h2 with ⟨_, h0⟩ | ⟨g, cap, cur, hv, hg, hh, h3, h4, h5, _⟩
  · exact absurd (List.eq_nil_of_length_eq_zero h0) hn
  · exact ⟨g, cap, cur, hv, h3, h4, hg, hh, by omega⟩

theorem Spoil.set {w0 wr : World} {v : Value} {K : List (Com × Value)} (h : Spoil w0 v K wr) {g j : Nat} {cur : Array Value} (hg : w0.heap.size ≤ g) (hh : wr.heap[g]? = some (.cells cur 31 (0, 0))) (u : Value) : Spoil w0 v K (wr.setCell ⟨g, j, none⟩ u) := by
  obtain ⟨h1, h2, h3⟩ := h
  have hk : Kept [g] wr (wr.setCell ⟨g, j, none⟩ u) := (Kept.refl _ _).setCell (by simp) _
  have hT : Typed wr [g] [31] := fun k hk cur t' mk hh2 => by
    rw [List.mem_singleton] at hk; subst hk; rw [hh] at hh2; cases hh2; simp
  refine ⟨row_typed hk hT h1 (by decide), fun x hx => ?_, h3.trans hk (fun k hk => .inr (by rw [List.mem_singleton] at hk; omega))⟩
  obtain ⟨g', cap, cur', hv, h4, h5, h6, h7, h8⟩ := h2 x hx
  by_cases e : g' = g
  · subst e
    rw [hh] at h7
    cases h7
    exact ⟨g', cap, _, hv, h4, h5, h6, heap_setCell_same wr g' j _ _ u hh, by simpa using h8⟩
  · exact ⟨g', cap, cur', hv, h4, h5, h6, hk.at h7 (by simpa using e), h8⟩

def SpI (w0 : World) (v : Value) (K : List (Com × Value)) (n : Nat) (iv : Value) (wr : World) : Prop := ∃ i : Nat, iv = .int .i64 (i : Int) ∧ i ≤ n ∧ Hid (Spoil w0 v K wr)

theorem fold_take {D : List De} {i : Nat} (h : i < D.length) (G : Gr) : (D.take (i + 1)).foldl (fun G x => landG G x.b x.n x.l) G = landG ((D.take i).foldl (fun G x => landG G x.b x.n x.l) G) D[i].b D[i].n D[i].l := by
  rw [List.take_succ_eq_append_getElem h, List.foldl_append]; rfl

theorem pair_landF {w0 w : World} {b bm i : Nat} {D : List De} {G H : Gr} (h : Pair w0 w b bm ((D.take i).foldl (fun G x => landG G x.b x.n x.l) G) H) (hG : Reach G) (hl : G.cs.length ≤ 1000) (hi : i < D.length) (hr : RoomD D) (hsl : SlC w D[i].mo D[i].m D[i].mc D[i].l) (hnl : D[i].mo = none → D[i].mc = 0) :
    Calls Tryz.prog 9 #[.pointer (some ⟨b, 0, none⟩), .int .i64 D[i].b, .string (str D[i].n), .slice D[i].mo D[i].m D[i].mc] w fun e w' => (∃ v, e = .returned v) ∧ Pair w0 w' b bm ((D.take (i + 1)).foldl (fun G x => landG G x.b x.n x.l) G) H := by
  obtain ⟨h1, h2, h3⟩ := hr.2 _ (List.getElem_mem hi)
  have hlen := len_fold (D.take i) G
  have h4 := hr.1
  rw [fold_take hi]
  exact (pair_land h (reach_fold _ _ hG).wf (by simp at hlen; omega) _ _ (by omega) _ _ _ _ hsl hnl (by have := hsl.1; omega) (fun x hx => by have := h3 x hx; omega)).mono fun _ _ ⟨g1, g2, _⟩ => ⟨⟨_, g1⟩, g2⟩

theorem pair_mlandF {w0 w : World} {b bm i : Nat} {D : List De} {G H : Gr} (h : Pair w0 w b bm H ((D.take i).foldl (fun G x => landG G x.b x.n x.l) G)) (hG : Reach G) (hl : G.cs.length ≤ 1000) (hi : i < D.length) (hr : RoomD D) (hsl : SlC w D[i].mo D[i].m D[i].mc D[i].l) :
    Calls Tryz.prog 14 #[.pointer (some ⟨bm, 0, none⟩), .int .i64 D[i].b, .string (str D[i].n), .slice D[i].mo D[i].m D[i].mc] w fun e w' => (∃ v, e = .returned v) ∧ Pair w0 w' b bm H ((D.take (i + 1)).foldl (fun G x => landG G x.b x.n x.l) G) := by
  obtain ⟨h1, h2, h3⟩ := hr.2 _ (List.getElem_mem hi)
  have hlen := len_fold (D.take i) G
  have h4 := hr.1
  rw [fold_take hi]
  exact (pair_mland h (reach_fold _ _ hG).wf (by simp at hlen; omega) _ _ (by omega) _ _ _ _ hsl (by have := hsl.1; omega) (fun x hx => by have := h3 x hx; omega)).mono fun _ _ ⟨g1, g2, _⟩ => ⟨⟨_, g1⟩, g2⟩

theorem live_clone {w0 w : World} {b : Nat} {G : Gr} (h : Live w0 w b G) (hl : G.cs.length ≤ 10000) : Calls Tryz.prog 22 #[.pointer (some ⟨b, 0, none⟩)] w fun e w' => ClP w G e w' := by
  obtain ⟨S, ⟨v, p, t, mb, K, hG, rfl⟩, h2, h3⟩ := h
  exact gclone_call hG hl

set_option linter.unusedSimpArgs false in
set_option maxHeartbeats 16000000 in
set_option maxRecDepth 100000 in
theorem clones_walk (w : World) (ao : Option Addr) (n c : Nat) (D : List De) (hS : SlD w ao n c D) (eo : Option Addr) (en ec : Nat) (E : List De) (hE : SlD w eo en ec E) :
    Calls Tryz.prog 6 #[.slice ao n c, .slice eo en ec] w fun e w' => e = .returned (.bool true) ∧ Kept [] w w' := by
  have hl := hS.1
  subst hl
  have hc := hS.2.1
  have hm := hS.2.2.1
  unfold maxLen at hm
  have hl2 := hE.1
  subst hl2
  have hc2 := hE.2.1
  have hm2 := hE.2.2.1
  unfold maxLen at hm2
  have cR := fun W (hk : Kept [] w W) => room_callD W ao D.length c D (hS.kept hk)
  have cR2 := fun W (hk : Kept [] w W) => room_callD W eo E.length ec E (hE.kept hk)
  have HS : Hid (SlD w ao D.length c D) := hS
  have HSE : Hid (SlD w eo E.length ec E) := hE
  clear hS hE
  cases hroom : roomD D with
  | false =>
    rw [hroom] at cR
    clear hroom cR2
    go_enter Tryz.func6, Tryz.ntmps6
    go_wp2_with fail
    refine (awake_callG w).mono ?_
    rintro _ w1 ⟨rfl, hK1⟩
    go_wp2_with fail
    refine (cR w1 hK1).mono ?_
    rintro _ W ⟨rfl, hW0⟩
    obtain rfl := hW0.symm
    go_wp2_with fail
    go_ret
    exact ⟨rfl, hK1⟩
  | true =>
    have HRm : Hid (RoomD D) := roomD_true.1 hroom
    rw [hroom] at cR
    clear hroom
    have hD100 : D.length ≤ 100 := HRm.out.1
    cases hroom2 : roomD E with
    | false =>
      rw [hroom2] at cR2
      clear hroom2
      go_enter Tryz.func6, Tryz.ntmps6
      go_wp2_with fail
      refine (awake_callG w).mono ?_
      rintro _ w1 ⟨rfl, hK1⟩
      go_wp2_with fail
      refine (cR w1 hK1).mono ?_
      rintro _ W ⟨rfl, hW0⟩
      obtain rfl := hW0.symm
      go_wp2_with fail
      refine (cR2 w1 hK1).mono ?_
      rintro _ W ⟨rfl, hW0⟩
      obtain rfl := hW0.symm
      go_wp2_with fail
      go_ret
      exact ⟨rfl, hK1⟩
    | true =>
      have HRe2 : Hid (RoomD E) := roomD_true.1 hroom2
      rw [hroom2] at cR2
      clear hroom2
      have hE100 : E.length ≤ 100 := HRe2.out.1
      go_enter Tryz.func6, Tryz.ntmps6
      go_wp2_with fail
      refine (awake_callG w).mono ?_
      rintro _ w1 ⟨rfl, hK1⟩
      go_wp2_with fail
      refine (cR w1 hK1).mono ?_
      rintro _ W ⟨rfl, hW0⟩
      obtain rfl := hW0.symm
      go_wp2_with fail
      refine (cR2 w1 hK1).mono ?_
      rintro _ W ⟨rfl, hW0⟩
      obtain rfl := hW0.symm
      go_wp2_with fail
      refine (live_new w1).mono ?_
      rintro _ w2 ⟨b, rfl, hG2⟩
      have HD : Hid (SlD w1 ao D.length c D) := HS.out.kept hK1
      have HK1 := hid_of hK1
      have HG2 := hid_of (pair_new hG2)
      clear hG2 cR cR2 hK1
      go_wp2_with fail
      obtain ⟨bm, hbm⟩ : ∃ bm, bm = w2.heap.size := ⟨_, rfl⟩
      rw [← hbm] at HG2 ⊢
      clear hbm
      go_loopw [7] (fun iv wr => CwI w1 b bm D voidG iv wr) (fun iv _ => D.length - (intOf iv).toNat)
      case atStart => exact ⟨0, rfl, Nat.zero_le _, HG2.out⟩
      case round =>
        obtain ⟨j, rfl, hj, HLv⟩ := hrel
        by_cases hlt2 : j < D.length
        · have hlt2' : (j : Int) < D.length := by omega
          have hjc : j ≤ c := by omega
          obtain ⟨g, o, rfl, hx⟩ := HD.out.2.2.2 j hlt2
          have hxr := hx.kept HLv.out.keeps
          have cL := fun W (hk : Kept [] wr W) => pair_landF (HLv.out.kept hk) .void (by simp [voidG]) hlt2 HRm.out (hxr.sl.kept hk (by simp)) hxr.nil
          have HCM := hid_of (fun W (hP : Pair w1 W b bm ((D.take (j + 1)).foldl (fun G x => landG G x.b x.n x.l) voidG) ((D.take j).foldl (fun G x => landG G x.b x.n x.l) voidG)) => pair_mlandF hP .void (by simp [voidG]) hlt2 HRm.out (hx.sl.kept hP.keeps (by simp)))
          obtain ⟨k0, k1, k2, _, _⟩ := hx
          obtain ⟨c0, c1, c2, _, _⟩ := hxr
          generalize D[j] = x at *
          go_wp2_with fail
          go_region_held3 (fun w' => w'.cell? ⟨g, o + j * 3, none⟩ = some (.int .i64 x.b) ∧ w'.cell? ⟨g, o + j * 3 + 1, none⟩ = some (.string (str x.n)) ∧ w'.cell? ⟨g, o + j * 3 + 2, none⟩ = some (.slice x.mo x.m x.mc))
            (first | go_keep | exact ⟨hL3.keeps.cell k0 (by simp), hL3.keeps.cell k1 (by simp), hL3.keeps.cell k2 (by simp)⟩)
            (first
              | (go_at_call 9; refine (cL _ ?_).mono ?_; exact (Kept.refl [] _).drew; rintro e w3 ⟨⟨v3, rfl⟩, hL3⟩))
          clear cL c0 c1 c2
          have c0 := hL3.keeps.cell k0 (by simp)
          have c1 := hL3.keeps.cell k1 (by simp)
          have c2 := hL3.keeps.cell k2 (by simp)
          have cM := HCM.out
          go_wp2_with fail
          go_region_held3 (fun w' => w'.cell? ⟨g, o + j * 3, none⟩ = some (.int .i64 x.b) ∧ w'.cell? ⟨g, o + j * 3 + 1, none⟩ = some (.string (str x.n)) ∧ w'.cell? ⟨g, o + j * 3 + 2, none⟩ = some (.slice x.mo x.m x.mc))
            (first | go_keep | exact ⟨hL4.keeps.cell k0 (by simp), hL4.keeps.cell k1 (by simp), hL4.keeps.cell k2 (by simp)⟩)
            (first
              | (go_at_call 14; refine (cM _ ?_).mono ?_; exact hL3.kept (Kept.refl [] _).drew; rintro e w4 ⟨⟨v4, rfl⟩, hL4⟩))
          have HN := hid_of hL4
          go_wp2_with fail
          go_roundw
          case rel => exact ⟨j + 1, by go_num, by omega, HN⟩
          case measure => (simp [intOf] <;> omega)
        · have hlt2' : ¬ (j : Int) < D.length := by omega
          have HPe : Hid (Pair w1 wr b bm (landAll D) (landAll D)) := by have := HLv.out; rw [List.take_of_length_le (by omega)] at this; exact this
          clear HLv
          have HRe : Hid (Reach (landAll D)) := landAll_reach D
          have hgl := landAll_len D
          generalize landAll D = G at *
          have HGl : Hid (G.cs.length ≤ 100) := by show _ ≤ _; omega
          clear hgl
          obtain ⟨wa, rfl⟩ : ∃ wb, wb = wr := ⟨_, rfl⟩
          have cCl := live_clone HPe.out.live (by have := HGl.out; omega)
          go_wp2_with fail
          refine cCl.mono ?_
          rintro _ w5 ⟨b8, S8, rfl, hG8, hK5, hS8⟩
          have HG8 := hid_of hG8
          have HS8 := hid_of hS8
          have HK5 := hid_of hK5
          have cC := live_commits (HPe.out.kept hK5).live HRe.out.wf (by have := HGl.out; omega)
          clear hG8 hS8 hK5 cCl
          go_wp2_with fail
          refine cC.mono ?_
          rintro _ w6 ⟨v6, K6, rfl, hc6, hR6, hO6, hK6⟩
          have HC6 := hid_of hc6
          have hne6 : ∀ x ∈ K6, x.1.c ≠ [] := fun x hx e => by
            have h1 := (HRe.out.wf.com x.1 (by rw [← hc6]; exact List.mem_map_of_mem hx)).1.1
            rw [e] at h1; simp at h1
          have HSp : Hid (Spoil w5 v6 K6 w6) := ⟨hR6, fun x hx => own_blk (hO6 x hx) (hne6 x hx), hK6⟩
          have hlK : K6.length ≤ 100 := by have h := congrArg List.length hc6; simp at h; have := HGl.out; omega
          obtain ⟨ao6, cp6, rfl, hcap6, hcm6⟩ : ∃ ao cap, v6 = .slice ao K6.length cap ∧ K6.length ≤ cap ∧ cap ≤ maxLen := by
            obtain ⟨_, h2⟩ := hR6
            rcases h2 with ⟨h3, h4⟩ | ⟨g, cap, cur, h3, _, _, h4, h5, _⟩
            · exact ⟨none, 0, by rw [h3, h4], by omega, Nat.zero_le _⟩
            · exact ⟨_, cap, h3, h4, h5⟩
          unfold maxLen at hcm6
          obtain ⟨n6, hn6⟩ : ∃ n6, n6 = K6.length := ⟨_, rfl⟩
          have HN6 := hid_of hn6
          rw [← hn6] at HSp hcap6 hlK ⊢
          clear hR6 hO6 hK6 hc6 hne6 cC hn6
          go_wp2_with fail
          go_loopw [10] (fun iv wr => SpI w5 (.slice ao6 n6 cp6) K6 n6 iv wr) (fun iv _ => n6 - (intOf iv).toNat)
          case atStart => exact ⟨0, rfl, Nat.zero_le _, HSp.out⟩
          case round =>
            obtain ⟨i, rfl, hi, HSi⟩ := hrel
            by_cases hlt : i < n6
            · have hlt' : (i : Int) < n6 := by omega
              have hic : i ≤ cp6 := by omega
              have hiK : i < K6.length := by rw [← HN6.out]; exact hlt
              obtain ⟨g6, cap6', he6, _, _⟩ := World.ownsRow.form HSi.out.1 (by omega)
              obtain ⟨rfl, _⟩ : ao6 = some ⟨g6, 0, none⟩ ∧ True := by simp at he6; exact ⟨by simpa using he6.1, trivial⟩
              have HD0 : Hid (∀ W, Spoil w5 (.slice (some ⟨g6, 0, none⟩) n6 cp6) K6 W → W.cell? ⟨g6, i * 4 + 3, none⟩ = some K6[i].2 ∧ Blk w5.heap.size W K6[i].2 K6[i].1.c.length) := fun W hW => by
                have h1 : W.ownsRow w5.heap.size 54 4 (.slice (some ⟨g6, 0, none⟩) n6 cp6) n6 (K6.flatMap coC) := by have := hW.1; unfold RowK at this; rw [← HN6.out] at this; exact this
                have d0 := World.ownsRow.cellAt h1 (i * 4 + 3) (by omega)
                rw [coC_get K6 i hiK 3 (by omega)] at d0
                exact ⟨d0, hW.2.1 _ (List.getElem_mem hiK)⟩
              obtain ⟨m, hm⟩ : ∃ m, m = K6[i].1.c.length := ⟨_, rfl⟩
              obtain ⟨g7, cap7, cur7, hv7, h71, h72, h73, h74, h75⟩ := (HD0.out _ HSi.out).2
              have HV7 := hid_of hv7
              rw [hv7, ← hm] at HD0
              unfold maxLen at h72
              have hmc7 : m ≤ cap7 := by omega
              clear hv7 h71 h74 h75 he6 hm
              generalize K6[i] = x6 at *
              go_wp2_with fail
              go_loopw [11] (fun jv wr => SpI w5 (.slice (some ⟨g6, 0, none⟩) n6 cp6) K6 m jv wr) (fun jv _ => m - (intOf jv).toNat)
              case atStart => exact ⟨0, rfl, Nat.zero_le _, HSi⟩
              case round =>
                obtain ⟨q, rfl, hq, HSq⟩ := hrel
                obtain ⟨d0, hblk⟩ := HD0.out _ HSq.out
                by_cases hlq : q < m
                · have hlq' : (q : Int) < m := by omega
                  have hqc : q ≤ cap7 := by omega
                  obtain ⟨g', cap', cur', hv', e1, e2, e3, e4, e5⟩ := hblk
                  obtain ⟨rfl, rfl⟩ : g7 = g' ∧ cap7 = cap' := by simpa using hv'
                  have hq3 : q * 3 < cur'.size := by omega
                  have hcell : wr.cell? ⟨g7, q * 3, none⟩ = some cur'[q * 3] := by simp [World.cell?, e4, hq3]
                  have hfz : wr.frozen? ⟨g7, q * 3, none⟩ = false := by simp [World.frozen?, e4]
                  have HNx := hid_of (HSq.out.set (j := q * 3) e3 e4 (.string ⟨#[122, 122]⟩))
                  generalize cur'[q * 3] = u7 at *
                  clear e1 e2 e4 e5 hv' hq3
                  go_wp2_with fail
                  go_roundw
                  case rel => exact ⟨q + 1, by go_num, by omega, HNx⟩
                  case measure => (simp [intOf] <;> omega)
                · have hlq' : ¬ (q : Int) < m := by omega
                  clear hblk
                  go_wp2_with fail
                  go_roundw
                  case rel => exact ⟨i + 1, by go_num, by omega, HSq⟩
                  case measure => (simp [intOf] <;> omega)
            · have hlt' : ¬ (i : Int) < n6 := by omega
              have HK7 := hid_of HSi.out.2.2
              have HPb := hid_of ((HPe.out.kept HK5.out).kept HK7.out)
              obtain ⟨a0, n0, p0, a1, n1, p1, a2, n2, p2, K7, hA7, hsK, hsL, hsM, hcm⟩ : ∃ a0 n0 p0 a1 n1 p1 a2 n2 p2 K7, wr.heap[bm]? = some (.cells #[.slice a0 n0 p0, .slice a1 n1 p1, .slice a2 n2 p2] 46 (0, 0)) ∧ SlK wr a0 n0 p0 K7 ∧ OwnL 0 wr (.slice a1 n1 p1) G.ls ∧ OwnM 0 wr (.slice a2 n2 p2) G.rs ∧ K7.map Prod.fst = G.cs := by
                obtain ⟨M, v, vL, vR, K, hm, _, _⟩ := HPb.out.model
                obtain ⟨aoC, cpC, rfl, hsC, _⟩ := hm.row.sl hm.own
                obtain ⟨aoL, cpL, rfl, _⟩ := hm.lvs.sl
                obtain ⟨aoR, cpR, rfl, _⟩ := hm.rfs.at
                exact ⟨_, _, _, _, _, _, _, _, _, K, hm.at_, hsC, hm.lvs, hm.rfs, hm.com⟩
              obtain ⟨c0, c1, c2⟩ := cells3 hA7
              have cN := mclone2_call wr a0 a1 a2 n0 p0 n1 p1 n2 p2 hsK hcm hsL hsM HRe.out.wf (by have := HGl.out; omega)
              obtain ⟨wb, rfl⟩ : ∃ wb, wb = wr := ⟨_, rfl⟩
              clear hA7 hsK hsL hsM hcm
              go_wp2_with fail
              refine cN.mono ?_
              rintro _ w8 ⟨x0, y0, z0, x1, y1, z1, x2, y2, z2, rfl, ⟨M8, hM8, hlt8⟩, hK8⟩
              have hK9 := hK8.alloc (.cells #[.slice x0 y0 z0, .slice x1 y1 z1, .slice x2 y2 z2] 46)
              have hKa9 : Kept [] wa (w8.alloc (.cells #[.slice x0 y0 z0, .slice x1 y1 z1, .slice x2 y2 z2] 46)) := (HK5.out.trans HK7.out (by simp)).trans hK9 (by simp)
              have hwab : wa.heap.size ≤ wb.heap.size := (HK5.out.trans HK7.out (by simp)).size
              have HP9 : Hid (Pair wa (w8.alloc (.cells #[.slice x0 y0 z0, .slice x1 y1 z1, .slice x2 y2 z2] 46)) b8 w8.heap.size G G) :=
                ⟨S8, M8, (HG8.out.kept HK7.out).kept hK9, hM8, fun k hk1 hk2 => by have h1 := HG8.out.lt k hk1; have h2 := hlt8 k hk2; have h3 := HK7.out.size; omega, hKa9, HS8.out, fun k hk => Nat.le_trans hwab (hlt8 k hk)⟩
              have HEd : Hid (SlD wa eo E.length ec E) := HSE.out.kept (HK1.out.trans HPe.out.keeps (by simp))
              clear hM8 hlt8 hK8 hK9 hKa9 hwab cN c0 c1 c2
              go_wp2_with fail
              obtain ⟨bn, hbn⟩ : ∃ bn, bn = w8.heap.size := ⟨_, rfl⟩
              rw [← hbn] at HP9 ⊢
              clear hbn
              go_loopw [13] (fun iv wr => CwI wa b8 bn E G iv wr) (fun iv _ => E.length - (intOf iv).toNat)
              case atStart => exact ⟨0, rfl, Nat.zero_le _, HP9.out⟩
              case round =>
                obtain ⟨t, rfl, ht, HLt⟩ := hrel
                by_cases hlt4 : t < E.length
                · have hlt4' : (t : Int) < E.length := by omega
                  have htc : t ≤ ec := by omega
                  obtain ⟨g, o, rfl, hx⟩ := HEd.out.2.2.2 t hlt4
                  have hxr := hx.kept HLt.out.keeps
                  have cL := fun W (hk : Kept [] wr W) => pair_landF (HLt.out.kept hk) HRe.out (by have := HGl.out; omega) hlt4 HRe2.out (hxr.sl.kept hk (by simp)) hxr.nil
                  have HCM := hid_of (fun W (hP : Pair wa W b8 bn ((E.take (t + 1)).foldl (fun G x => landG G x.b x.n x.l) G) ((E.take t).foldl (fun G x => landG G x.b x.n x.l) G)) => pair_mlandF hP HRe.out (by have := HGl.out; omega) hlt4 HRe2.out (hx.sl.kept hP.keeps (by simp)))
                  obtain ⟨k0, k1, k2, _, _⟩ := hx
                  obtain ⟨c0, c1, c2, _, _⟩ := hxr
                  generalize E[t] = x at *
                  go_wp2_with fail
                  go_region_held3 (fun w' => w'.cell? ⟨g, o + t * 3, none⟩ = some (.int .i64 x.b) ∧ w'.cell? ⟨g, o + t * 3 + 1, none⟩ = some (.string (str x.n)) ∧ w'.cell? ⟨g, o + t * 3 + 2, none⟩ = some (.slice x.mo x.m x.mc))
                    (first | go_keep | exact ⟨hL3.keeps.cell k0 (by simp), hL3.keeps.cell k1 (by simp), hL3.keeps.cell k2 (by simp)⟩)
                    (first
                      | (go_at_call 9; refine (cL _ ?_).mono ?_; exact (Kept.refl [] _).drew; rintro e w3 ⟨⟨v3, rfl⟩, hL3⟩))
                  clear cL c0 c1 c2
                  have c0 := hL3.keeps.cell k0 (by simp)
                  have c1 := hL3.keeps.cell k1 (by simp)
                  have c2 := hL3.keeps.cell k2 (by simp)
                  have cM := HCM.out
                  go_wp2_with fail
                  go_region_held3 (fun w' => w'.cell? ⟨g, o + t * 3, none⟩ = some (.int .i64 x.b) ∧ w'.cell? ⟨g, o + t * 3 + 1, none⟩ = some (.string (str x.n)) ∧ w'.cell? ⟨g, o + t * 3 + 2, none⟩ = some (.slice x.mo x.m x.mc))
                    (first | go_keep | exact ⟨hL4.keeps.cell k0 (by simp), hL4.keeps.cell k1 (by simp), hL4.keeps.cell k2 (by simp)⟩)
                    (first
                      | (go_at_call 14; refine (cM _ ?_).mono ?_; exact hL3.kept (Kept.refl [] _).drew; rintro e w4 ⟨⟨v4, rfl⟩, hL4⟩))
                  have HN := hid_of hL4
                  go_wp2_with fail
                  go_roundw
                  case rel => exact ⟨t + 1, by go_num, by omega, HN⟩
                  case measure => (simp [intOf] <;> omega)
                · have hlt4' : ¬ (t : Int) < E.length := by omega
                  have HPf : Hid (Pair wa wr b8 bn (E.foldl (fun G x => landG G x.b x.n x.l) G) (E.foldl (fun G x => landG G x.b x.n x.l) G)) := by have := HLt.out; rw [List.take_of_length_le (by omega)] at this; exact this
                  have cA := pair_looks (HPe.out.kept HPf.out.keeps) HRe.out.wf (by have := HGl.out; omega)
                  have cB := fun W (hk : Kept [] wr W) => pair_looks (HPf.out.kept hk) (reach_fold E _ HRe.out).wf (by have h1 := len_fold E G; have h2 := HGl.out; omega)
                  have HKe := hid_of ((HK1.out.trans HPe.out.keeps (by simp)).trans HPf.out.keeps (by simp))
                  clear HLt
                  go_wp2_with fail
                  refine cA.mono ?_
                  rintro _ w10 ⟨rfl, hK10⟩
                  go_wp2_with fail
                  refine (cB w10 hK10).mono ?_
                  rintro _ w11 ⟨rfl, hK11⟩
                  go_wp2_with fail
                  go_ret
                  exact ⟨rfl, (HKe.out.trans hK10 (by simp)).trans hK11 (by simp)⟩

end Go.Proofs.YtfoghemiaidnhaaGreat
