/-
  The document's takeChanges.
-/
import Derived.Test.YtlgacmmofimlmaaEnDr0
namespace Go.Proofs.Ytlgacmmofimlmaa
open Go.RowKit

def chL (t : List UInt8) (g : Bool) (d : Int) : List Value := [.string (str t), .bool g, .int .u64 d]

theorem one_chL (t : List UInt8) (g : Bool) (d : Int) : ∀ z ∈ chL t g d, z.oneCell' = true := by
  intro z hz
  simp [chL] at hz
  rcases hz with rfl | rfl | rfl <;> rfl

theorem rdNumE_le {e : Int} {l : List Int} (ho : Oct l) : (rdNumE e l).2.1 ≤ 1099511627776 := by
  unfold rdNumE
  split
  · rcases rdN_shape 6 0 0 l with ⟨h1, k, h⟩ | ⟨_, h⟩
    · have h3 : rdNum l = (0, (rdNum l).2.1, (rdNum l).2.2) := by rw [← h1]; rfl
      exact (rdNum_one _ _ _ ho h3).2.1
    · show (rdN 6 0 0 l).2.1 ≤ _
      rw [h]
      decide
  · show (0 : Int) ≤ 1099511627776
    omega

theorem atR_grown {B p b0 : Nat} {w w' : World} {v : Value} {L : List Ch} {st : St} (hA : AtR B p w st) (hO : OwnC b0 w v L) (hg : w.grownBy w' v.ownBlock) (hp : p < b0) (hB : B ≤ p) : AtR B p w' st := by
  have k : Kept v.ownBlock.toList w w' := (Kept.refl _ w).grown hg (fun k hk => .inl (by rw [hk]; simp))
  refine hA.kept k (fun hm => ?_) (fun i hi => ?_)
  · have := (World.ownsRow.lt hO p (by simpa using hm)).1; omega
  · have := (World.ownsRow.lt hO i (by simpa using hi)).1; omega

set_option maxHeartbeats 8000000 in
set_option maxRecDepth 100000 in
theorem tkC_call (B p : Nat) (w : World) (s : St) (hA : AtR B p w s) : Calls Try.prog 66 #[.pointer (some ⟨p, 0, none⟩)] w (TkP B p w (tkL chgR 64 s)) := by
  have hlt := hA.lt
  have hnn : 0 ≤ (eyeP.num s 0).1 := rdNumE_nonneg hA.oct
  have cN := hide (dr_num B p w s hA)
  have HNl := hide (cdc_nl cdc_num s hA.nl)
  have HT : Hid (tkL chgR 64 s = if 64 < (eyeP.num s 0).1 then ([], ([], rdRefE (eyeP.num s 0).2.2)) else itR chgR (eyeP.num s 0).1.toNat (eyeP.num s 0).2) := rfl
  generalize tkL chgR 64 s = res at HT ⊢
  have hbig : (eyeP.num s 0).1 ≤ 1099511627776 := rdNumE_le hA.oct
  generalize eyeP.num s 0 = q at *
  obtain ⟨nz, s0⟩ := q
  obtain ⟨N, rfl⟩ : ∃ N : Nat, nz = (N : Int) := ⟨nz.toNat, by simp only at hnn; omega⟩
  simp only at cN HNl HT hbig
  clear hnn hA
  go_enter Try.func66, Try.ntmps66
  go_upto_region 2 with (go_at_call 63; refine cN.out.mono ?_; clear cN; rintro _ w1 ⟨rfl, hA1, hk1⟩; have HA1 := hide hA1; have HK1 := hide hk1; clear hA1 hk1)
  by_cases hm : 64 < N
  · have hm' : (64 : Int) < N := by omega
    have HE : Hid (res = ([], ([], rdRefE s0.2))) := by show res = _; rw [HT.out, if_pos hm']
    have cR := hide (dr_refuse B p w1 s0 HA1.out)
    obtain ⟨s1, hs1⟩ : ∃ s1 : St, s1 = ([], rdRefE s0.2) := ⟨_, rfl⟩
    rw [← hs1] at cR HE
    have HF : Hid (s1.2 ≠ 0) := by rw [hs1]; exact rdRefE_ne _
    have HIT : Hid (res = itR chgR N s1) := by show res = _; rw [HE.out, itR_stop chgR s1 0 HF.out N (Nat.zero_le _)]; rfl
    have HLE : Hid (N ≤ 64 ∨ s1.2 ≠ 0) := .inr HF.out
    clear hs1 HT HE
    go_upto_region 4 with (go_at_call 64; refine cR.out.mono ?_; clear cR; rintro _ w2 ⟨rfl, hA2, hk2⟩; have HA2 := hide hA2; have HK2 := hide (HK1.out.trans hk2 (by simp)); clear hA2 hk2)
    go_wp2_with fail
    go_loopw [4, 5] (fun lv iv wr => TkI B p w s1 N lv iv wr) (fun _ iv _ => N - (intOf iv).toNat)
    case atStart => exact ⟨0, [], s1, rfl, Nat.zero_le _, OwnC.nil _ _, HA2, HK2, rfl⟩
    case round =>
      obtain ⟨i, L, st, rfl, hi, HO, HA, HK, HI⟩ := hrel
      have hf1 := HA.out.fail
      have hlen : L.length ≤ i := by have h := itR_len chgR s1 i; rw [HI.out] at h; exact h
      by_cases hlt2 : i < N
      · have hlt2' : (i : Int) < N := by omega
        by_cases hst : st.2 = 0
        · have h64 : N ≤ 64 := by
            rcases HLE.out with h | h
            · exact h
            · exfalso
              have h2 := itR_stop chgR s1 0 h i (Nat.zero_le _)
              rw [HI.out] at h2
              have h3 : st = s1 := congrArg Prod.snd h2
              rw [h3] at hst
              exact h hst
          omega
        · have hstb : (st.2 == 0) = false := by simpa using hst
          have HQ : Hid (res = (L, st)) := by show res = _; rw [HIT.out, itR_stop chgR s1 i (by rw [HI.out]; exact hst) N (by omega), HI.out]
          go_wp2_with fail
          go_ret
          rw [HQ.out]
          exact ⟨_, rfl, HO.out, HA.out, HK.out⟩
      · have hlt2' : ¬ (i : Int) < N := by omega
        have hiN : i = N := by omega
        have HQ : Hid (res = (L, st)) := by show res = _; rw [HIT.out, ← hiN, HI.out]
        clear hiN
        go_wp2_with fail
        go_ret
        rw [HQ.out]
        exact ⟨_, rfl, HO.out, HA.out, HK.out⟩
  · have hm' : ¬ (64 : Int) < N := by omega
    obtain ⟨s1, hs1⟩ : ∃ s1 : St, s1 = s0 := ⟨_, rfl⟩
    subst hs1
    have HIT : Hid (res = itR chgR N s1) := by show res = _; rw [HT.out, if_neg hm']; rfl
    have HLE : Hid (N ≤ 64 ∨ s1.2 ≠ 0) := .inl (by omega)
    clear HT
    go_upto_region 4 with fail
    go_wp2_with fail
    go_loopw [4, 5] (fun lv iv wr => TkI B p w s1 N lv iv wr) (fun _ iv _ => N - (intOf iv).toNat)
    case atStart => exact ⟨0, [], s1, rfl, Nat.zero_le _, OwnC.nil _ _, HA1, HK1, rfl⟩
    case round =>
      obtain ⟨i, L, st, rfl, hi, HO, HA, HK, HI⟩ := hrel
      have hf1 := HA.out.fail
      have hlen : L.length ≤ i := by have h := itR_len chgR s1 i; rw [HI.out] at h; exact h
      by_cases hlt2 : i < N
      · have hlt2' : (i : Int) < N := by omega
        by_cases hst : st.2 = 0
        · have h64 : N ≤ 64 := by
            rcases HLE.out with h | h
            · exact h
            · exfalso
              have h2 := itR_stop chgR s1 0 h i (Nat.zero_le _)
              rw [HI.out] at h2
              have h3 : st = s1 := congrArg Prod.snd h2
              rw [h3] at hst
              exact h hst
          have HNX : Hid (itR chgR (i + 1) s1 = (L ++ [(chgR st).1], (chgR st).2)) := by show itR chgR (i + 1) s1 = _; rw [itR, HI.out, if_pos hst]
          rw [hst] at hf1
          have hf1' : ((0 : Int) == 0) = true := rfl
          have HCH : Hid (chgR st = if (eyeP.flag (eyeP.text st []).2 false).1 = true then (⟨(eyeP.text st []).1, true, 0⟩, (eyeP.flag (eyeP.text st []).2 false).2) else (⟨(eyeP.text st []).1, false, (eyeP.word (eyeP.flag (eyeP.text st []).2 false).2 0).1⟩, (eyeP.word (eyeP.flag (eyeP.text st []).2 false).2 0).2)) := rfl
          have cT := hide (dr_text B p wr st HA.out)
          have cG := hide (fun (W2 : World) (h : AtR B p W2 (eyeP.text st []).2) => dr_flag B p W2 (eyeP.text st []).2 h)
          have cW := hide (fun (W2 : World) (h : AtR B p W2 (eyeP.flag (eyeP.text st []).2 false).2) => dr_word B p W2 (eyeP.flag (eyeP.text st []).2 false).2 h)
          generalize (eyeP.word (eyeP.flag (eyeP.text st []).2 false).2 0) = q3 at HCH cW
          generalize (eyeP.flag (eyeP.text st []).2 false) = q2 at HCH cW cG
          generalize (eyeP.text st []) = q1 at HCH cG cT
          obtain ⟨tt, s2⟩ := q1
          obtain ⟨gg, s3⟩ := q2
          obtain ⟨dd, s4⟩ := q3
          simp only at HCH cT cG cW
          clear hst
          go_upto_region 9 with (first | (go_at_call 65; refine cT.out.mono ?_; clear cT; rintro _ w3 ⟨rfl, hA3, hk3⟩; have HA3 := hide hA3; have HKr3 := hide hk3; clear hA3 hk3) | (go_at_call 94; refine (cG.out _ HA3.out).mono ?_; clear cG; rintro _ w4 ⟨rfl, hA4, hk4⟩; have HA4 := hide hA4; have HKr4 := hide (HKr3.out.trans hk4 (by simp)); have HZ : Hid (Bx (w4.alloc (.cells #[.string ⟨#[]⟩, .bool false, .int .u64 0] 61)) w4.heap.size 61 zch) := (Bx.new w4 _ zch); have HLz : Hid ((chL tt gg 0).length = zch.length) := rfl; have HOz := hide (one_chL tt gg 0); have HTz : Hid (RowT Try.prog 61 (chL tt gg 0).length) := rowT_chg; clear hA4 hk4) | ((with_reducible refine wl_store_bx HZ.out HLz.out HOz.out HTz.out ?_ ?_ ?_); rfl; rfl; intro w5 HB5 HK5))
          have k5 : Kept [] w4 w5 := (Kept.refl [] w4).trans (((Kept.refl [w4.heap.size] w4).alloc _).trans HK5.out (by simp)) (by intro i hi; simp at hi; right; omega)
          have hsz4 : w.heap.size ≤ w4.heap.size := Nat.le_trans HK.out.size HKr4.out.size
          have HKr5 := hide (HKr4.out.trans k5 (by simp))
          have HA5 := hide (HA4.out.kept k5 (by simp) (by simp))
          have q1 : w5.cell? ⟨w4.heap.size, 1, none⟩ = some (.bool gg) := HB5.out.cell 1 rfl
          clear k5 HK5 HZ HLz HOz HTz hf1
          cases gg
          · have HN2 : Hid (itR chgR (i + 1) s1 = (L ++ [⟨tt, false, dd⟩], s4)) := by show itR chgR (i + 1) s1 = _; rw [HNX.out, HCH.out]; rfl
            have cW5 := hide (cW.out w5 HA5.out)
            clear HCH HNX cW
            go_upto_region 10 with fail
            have f2 : Hid (∀ W2, Kept [p] w5 W2 → W2.cell? ⟨w4.heap.size, 2, none⟩ = some (.int .u64 0) ∧ W2.frozen? ⟨w4.heap.size, 2, none⟩ = false) := fun W2 k => by
              have h := HB5.out.kept k (by simp; omega)
              exact ⟨h.cell 2 rfl, h.froz 2⟩
            go_upto_region 11 with (go_at_call 69; refine cW5.out.mono ?_; clear cW5; rintro _ w6 ⟨rfl, hA6, hk6⟩; have HA6a := hide hA6; have HKr6a := hide (HKr5.out.trans hk6 (by simp)); have HB6a := hide (HB5.out.kept hk6 (by simp; omega)); obtain ⟨s2c, s2f⟩ := f2.out _ hk6; clear hA6 hk6 f2)
            obtain ⟨wq, hwq⟩ : ∃ wq, wq = w6.setCell ⟨w4.heap.size, 2, none⟩ (.int .u64 dd) := ⟨_, rfl⟩
            rw [← hwq]
            have HB6 : Hid (Bx wq w4.heap.size 61 (chL tt false dd)) := by rw [hwq]; exact HB6a.out.set 2 _
            have kq : Kept [w4.heap.size] w6 wq := by rw [hwq]; exact kept_set w6 w4.heap.size 2 _
            have HA6 := hide (HA6a.out.kept kq (by simp; omega) (by simp; omega))
            have HKr6 : Hid (Kept [p] wr wq) := HKr6a.out.trans kq (by intro i hi; simp at hi; right; rw [hi]; exact HKr4.out.size)
            have HK6 := hide (HK.out.trans HKr6.out (by simp))
            clear hwq kq s2c s2f q1
            have hO6 : OwnC w.heap.size wq u4 L := own_off HO.out HKr6.out hlt.1
            have hsz : w.heap.size ≤ wq.heap.size := HK6.out.size
            have HBB := (SlC.lit wq [⟨tt, false, dd⟩] (n := 1) rfl (by simp [maxLen]) (vs := #[.string (str tt), .bool false, .int .u64 dd]) rfl).runs'
            have hOa : OwnC w.heap.size (wq.alloc (.cells #[.string (str tt), .bool false, .int .u64 dd] 61)) u4 L := World.ownsRow.alloc hO6 _
            have HAa := hide (HA6.out.kept ((Kept.refl [] wq).alloc (.cells #[.string (str tt), .bool false, .int .u64 dd] 61)) (by simp) (by simp))
            have HKa := hide (HK6.out.alloc (.cells #[.string (str tt), .bool false, .int .u64 dd] 61))
            unfold chL at HB6
            have q0 : wq.cell? ⟨w4.heap.size, 0, none⟩ = some (.string (str tt)) := HB6.out.cell 0 rfl
            have q1 : wq.cell? ⟨w4.heap.size, 1, none⟩ = some (.bool false) := HB6.out.cell 1 rfl
            have q2 : wq.cell? ⟨w4.heap.size, 2, none⟩ = some (.int .u64 dd) := HB6.out.cell 2 rfl
            go_wp2_with (at_builtin; refine wp_appC rfl _ _ rfl w.heap.size _ L rfl hOa ⟨wq.heap.size, 0, none⟩ 1 1 [⟨tt, false, dd⟩] rfl rfl HBB (by simp; omega) (by simp; omega) ?b1)
            case b1 =>
              intro v7 w7 hO7 hg7
              have HK7 : Hid (Kept [p] w w7) := HKa.out.grown hg7 (fun k hk => .inr (World.ownsRow.lt hOa k hk).1)
              have HA7 := hide (atR_grown HAa.out hOa hg7 hlt.1 hlt.2)
              have HO7 := hide hO7
              clear hO7 hg7 hOa hO6 HBB q0 q1 q2
              go_wp2_with fail
              go_roundw
              case rel => exact ⟨i + 1, _, _, by go_num, by omega, HO7, HA7, HK7, HN2⟩
              case measure => simp [intOf]; omega
          · have HN2 : Hid (itR chgR (i + 1) s1 = (L ++ [⟨tt, true, 0⟩], s3)) := by show itR chgR (i + 1) s1 = _; rw [HNX.out, HCH.out]; rfl
            have HA6 := hide HA5.out
            have HB6 := hide HB5.out
            have HKr6 := hide HKr5.out
            have HK6 := hide (HK.out.trans HKr6.out (by simp))
            clear HCH HNX cW
            go_upto_region 11 with fail
            have hO6 : OwnC w.heap.size w5 u4 L := own_off HO.out HKr6.out hlt.1
            have hsz : w.heap.size ≤ w5.heap.size := HK6.out.size
            have HBB := (SlC.lit w5 [⟨tt, true, 0⟩] (n := 1) rfl (by simp [maxLen]) (vs := #[.string (str tt), .bool true, .int .u64 0]) rfl).runs'
            have hOa : OwnC w.heap.size (w5.alloc (.cells #[.string (str tt), .bool true, .int .u64 0] 61)) u4 L := World.ownsRow.alloc hO6 _
            have HAa := hide (HA6.out.kept ((Kept.refl [] w5).alloc (.cells #[.string (str tt), .bool true, .int .u64 0] 61)) (by simp) (by simp))
            have HKa := hide (HK6.out.alloc (.cells #[.string (str tt), .bool true, .int .u64 0] 61))
            unfold chL at HB6
            have q0 : w5.cell? ⟨w4.heap.size, 0, none⟩ = some (.string (str tt)) := HB6.out.cell 0 rfl
            have q1 : w5.cell? ⟨w4.heap.size, 1, none⟩ = some (.bool true) := HB6.out.cell 1 rfl
            have q2 : w5.cell? ⟨w4.heap.size, 2, none⟩ = some (.int .u64 0) := HB6.out.cell 2 rfl
            go_wp2_with (at_builtin; refine wp_appC rfl _ _ rfl w.heap.size _ L rfl hOa ⟨w5.heap.size, 0, none⟩ 1 1 [⟨tt, true, 0⟩] rfl rfl HBB (by simp; omega) (by simp; omega) ?b1)
            case b1 =>
              intro v7 w7 hO7 hg7
              have HK7 : Hid (Kept [p] w w7) := HKa.out.grown hg7 (fun k hk => .inr (World.ownsRow.lt hOa k hk).1)
              have HA7 := hide (atR_grown HAa.out hOa hg7 hlt.1 hlt.2)
              have HO7 := hide hO7
              clear hO7 hg7 hOa hO6 HBB q0 q1 q2
              go_wp2_with fail
              go_roundw
              case rel => exact ⟨i + 1, _, _, by go_num, by omega, HO7, HA7, HK7, HN2⟩
              case measure => simp [intOf]; omega
        · have hstb : (st.2 == 0) = false := by simpa using hst
          have HQ : Hid (res = (L, st)) := by show res = _; rw [HIT.out, itR_stop chgR s1 i (by rw [HI.out]; exact hst) N (by omega), HI.out]
          go_wp2_with fail
          go_ret
          rw [HQ.out]
          exact ⟨_, rfl, HO.out, HA.out, HK.out⟩
      · have hlt2' : ¬ (i : Int) < N := by omega
        have hiN : i = N := by omega
        have HQ : Hid (res = (L, st)) := by show res = _; rw [HIT.out, ← hiN, HI.out]
        clear hiN
        go_wp2_with fail
        go_ret
        rw [HQ.out]
        exact ⟨_, rfl, HO.out, HA.out, HK.out⟩

end Go.Proofs.Ytlgacmmofimlmaa
