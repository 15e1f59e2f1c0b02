/-
  refs, looks: a graph tells what the document's own one holds.
-/
import Derived.Test.YtfoghemiaidnhaaGreatM11
import Derived.Test.YtfoghemiaidnhaaGreatGrReA
import Derived.Test.YtfoghemiaidnhaaGreatM16
import Derived.Test.YtfoghemiaidnhaaGreatGrSame
import Derived.Test.YtfoghemiaidnhaaGreatTrSame
import Derived.Deep.QuietTactic
import Derived.BigQuiet
import Derived.Handy
namespace Go.Proofs.YtfoghemiaidnhaaGreat
open Go.RowKit

theorem live_refsM {w0 w : World} {b : Nat} {G : Gr} (h : Live w0 w b G) (hW : Wf G) (hl : G.cs.length ≤ 10000) :
    Calls Tryz.prog 11 #[.pointer (some ⟨b, 0, none⟩)] w fun e w' => ∃ v', e = .returned v' ∧ OwnR w.heap.size w' v' G.rs ∧ Kept [] w w' := by
  obtain ⟨S, ⟨v, p, t, mb, K, hG, rfl⟩, h2, h3⟩ := h
  exact refs_call hG hW.srs (by have := hW.refs; omega) (fun x hx => by have := (hW.name x hx).2; omega)

def RfI (w : World) (n : Nat) (iv : Value) (wr : World) : Prop := ∃ i : Nat, iv = .int .i64 (i : Int) ∧ i ≤ n ∧ Hid (Kept [] w wr)

set_option maxHeartbeats 4000000 in
set_option maxRecDepth 100000 in
theorem refsL_call {w : World} {B1 B2 : Nat} {va vb : Value} {l : List (List UInt8 × Int)} (h1 : OwnR B1 w va l) (h2 : OwnM B2 w vb l) :
    Calls Tryz.prog 46 #[va, vb] w fun e w' => e = .returned (.bool true) ∧ Kept [] w w' := by
  obtain ⟨ao, c, rfl, hc, hm, hat⟩ := h1.at
  obtain ⟨bo, d, rfl, hd, hm2, hat2⟩ := h2.at
  unfold maxLen at hm hm2
  have HA : Hid (∀ i (hi : i < l.length), ∃ g, ao = some ⟨g, 0, none⟩ ∧ w.cell? ⟨g, i * 2, none⟩ = some (.string (str l[i].1)) ∧ w.cell? ⟨g, i * 2 + 1, none⟩ = some (.int .i64 l[i].2)) := hat
  have HB : Hid (∀ i (hi : i < l.length), ∃ g, bo = some ⟨g, 0, none⟩ ∧ w.cell? ⟨g, i * 2, none⟩ = some (.string (str l[i].1)) ∧ w.cell? ⟨g, i * 2 + 1, none⟩ = some (.int .i64 l[i].2)) := hat2
  obtain ⟨n, hn⟩ : ∃ n, n = l.length := ⟨_, rfl⟩
  have HN : Hid (n = l.length) := hn
  rw [← hn] at hc hd ⊢
  clear h1 h2 hat hat2 hn
  go_enter Tryz.func46, Tryz.ntmps46
  go_wp2_with fail
  go_loopw [5] (fun iv wr => RfI w n iv wr) (fun iv _ => n - (intOf iv).toNat)
  case atStart => exact ⟨0, rfl, Nat.zero_le _, Kept.refl _ _⟩
  case round =>
    obtain ⟨i, rfl, hi, HK⟩ := hrel
    by_cases hlt : i < n
    · have hlt' : (i : Int) < n := by omega
      have hic : i ≤ c := by omega
      have hid : i ≤ d := by omega
      have hil : i < l.length := by rw [← HN.out]; exact hlt
      obtain ⟨g, rfl, d0, d1⟩ := HA.out i hil
      obtain ⟨g2, rfl, e0, e1⟩ := HB.out i hil
      replace d0 := HK.out.cell d0 (by simp)
      replace d1 := HK.out.cell d1 (by simp)
      replace e0 := HK.out.cell e0 (by simp)
      replace e1 := HK.out.cell e1 (by simp)
      generalize l[i] = x at *
      have hb1 : (!((str x.1).toList == (str x.1).toList)) = false := by simp
      have hb2 : (x.2 != x.2) = false := by simp
      go_wp2_with fail
      go_quiet (fail)
      go_wp2_with fail
      go_roundw
      case rel => exact ⟨i + 1, by go_num, by omega, HK.out.trans (drewN_kept _ _) (by simp)⟩
      case measure => simp [intOf]; omega
    · have hlt' : ¬ (i : Int) < n := by omega
      go_wp2_with fail
      go_ret
      exact ⟨rfl, HK.out⟩

set_option maxHeartbeats 8000000 in
set_option maxRecDepth 100000 in
/-- looks. -/
theorem looks_call {w0 w : World} {b bm : Nat} {M : List Nat} {G : Gr} (hG : Live w0 w b G) (hM : MAt w bm M G) (hW : Wf G) (hl : G.cs.length ≤ 10000) :
    Calls Tryz.prog 15 #[.pointer (some ⟨b, 0, none⟩), .pointer (some ⟨bm, 0, none⟩)] w fun e w' => e = .returned (.bool true) ∧ Kept [] w w' := by
  obtain ⟨v, vL, vR, K, hm, _, _⟩ := hM
  obtain ⟨aoC, cpC, rfl, hsC, _⟩ := hm.row.sl hm.own
  obtain ⟨aoL, cpL, rfl, hsL⟩ := hm.lvs.sl
  obtain ⟨aoR, cpR, rfl, _⟩ := hm.rfs.at
  have hkl : K.length = G.cs.length := by rw [← hm.com]; simp
  have hll : G.ls.length ≤ 1000000 := by have := hW.many; omega
  have cH := fun W (hk : Kept [] w W) => live_head (hG.kept hk)
  have cC := fun W (hk : Kept [] w W) => live_commits (hG.kept hk) hW hl
  have cL := fun W (hk : Kept [] w W) => live_leaves (hG.kept hk) hll
  have cR := fun W (hk : Kept [] w W) => live_refsM (hG.kept hk) hW hl
  have HSC : Hid (SlK w aoC K.length cpC K) := hsC
  have HSL : Hid (SlL w aoL G.ls.length cpL G.ls) := hsL
  have HRF : Hid (OwnM 0 w (.slice aoR G.rs.length cpR) G.rs) := hm.rfs
  have HCom : Hid (K.map Prod.fst = G.cs) := hm.com
  have HAt : Hid (w.heap[bm]? = some (.cells #[.slice aoC K.length cpC, .slice aoL G.ls.length cpL, .slice aoR G.rs.length cpR] 46 (0, 0))) := hm.at_
  obtain ⟨kl, hkl2⟩ : ∃ kl, kl = K.length := ⟨_, rfl⟩
  obtain ⟨nl, hnl2⟩ : ∃ nl, nl = G.ls.length := ⟨_, rfl⟩
  obtain ⟨nr, hnr2⟩ : ∃ nr, nr = G.rs.length := ⟨_, rfl⟩
  rw [← hkl, ← hkl2] at cH
  rw [← hkl2] at HSC HAt
  rw [← hnl2] at HSL HAt
  rw [← hnr2] at HRF HAt
  have cS := fun W aoK n4 c4 K4 (hs4 : SlK W aoK n4 c4 K4) (hc4 : K4.map Prod.fst = G.cs) (hk : Kept [] w W) => samecs_call W aoK aoC n4 kl c4 cpC K4 K hs4 (HSC.out.kept hk) (by rw [hc4, HCom.out])
  have HL2 : Hid (nl = G.ls.length) := hnl2
  have cSL := fun W ao6 n6 cp6 (hs6 : SlL W ao6 n6 cp6 G.ls) (hk : Kept [] w W) => same_call W ao6 aoL n6 nl cp6 cpL G.ls G.ls hs6 (HSL.out.kept hk)
  simp only [decide_true] at cSL
  have cF := fun W v7 B7 (h7 : OwnR B7 W v7 G.rs) (hk : Kept [] w W) => refsL_call h7 (show OwnM 0 W (.slice aoR nr cpR) G.rs from hk.ownsRow HRF.out (by simp))
  clear hG hm hsC hsL hkl hkl2 hnl2 hnr2 hll hl
  obtain ⟨c0, c1, c2⟩ := cells3 HAt.out
  go_enter Tryz.func15, Tryz.ntmps15
  go_wp2_with fail
  first | go_region_held3 (fun w' => w'.cell? ⟨bm, 0, none⟩ = some (.slice aoC kl cpC) ∧ w'.cell? ⟨bm, 1, none⟩ = some (.slice aoL nl cpL) ∧ w'.cell? ⟨bm, 2, none⟩ = some (.slice aoR nr cpR))
      (first | go_keep | exact cells3 (hK9.at HAt.out (by simp)) | exact cells3 (hK8.at HAt.out (by simp)) | exact cells3 (hK7.at HAt.out (by simp)) | exact cells3 (hK6.at HAt.out (by simp)) | exact cells3 (hK5.at HAt.out (by simp)) | exact cells3 (hK4.at HAt.out (by simp)))
      (first
        | (go_at_call 24; refine (cH _ ?_).mono ?_; exact (Kept.refl [] w).drew; rintro e w3 ⟨rfl, rfl⟩)
        | (go_at_call 20; refine (cC _ ?_).mono ?_; exact (Kept.refl [] w).drew; rintro e w4 ⟨v4, K4, rfl, hc4, hR4, hO4, hK4⟩; obtain ⟨ao4, cp4, rfl, hS4, _⟩ := hR4.sl hO4; replace hK4 := (Kept.refl [] w).drew.trans hK4 (by simp))
        | (go_at_call 37; refine (cS _ _ _ _ K4 hS4 hc4 hK4).mono ?_; rintro e w5 ⟨rfl, hK5⟩; replace hK5 := hK4.trans hK5 (by simp))
        | (go_at_call 45; refine (cL _ hK5).mono ?_; rintro e w6 ⟨v6, rfl, hO6, hK6⟩; obtain ⟨ao6, cp6, rfl, hS6⟩ := hO6.sl; replace hK6 := hK5.trans hK6 (by simp))
        | (go_at_call 44; refine (cSL _ _ _ _ hS6 hK6).mono ?_; rintro e w7 ⟨rfl, q7, rfl⟩; have hK7 := hK6.trans (drewN_kept _ q7) (by simp))
        | (go_at_call 11; refine (cR _ hK7).mono ?_; rintro e w8 ⟨v8, rfl, hO8, hK8⟩; replace hK8 := hK7.trans hK8 (by simp))
        | (go_at_call 46; refine (cF _ _ _ hO8 hK8).mono ?_; rintro e w9 ⟨rfl, hK9⟩; replace hK9 := hK8.trans hK9 (by simp))) | fail
  go_wp2_with fail
  go_ret
  exact ⟨rfl, hK9⟩

end Go.Proofs.YtfoghemiaidnhaaGreat
