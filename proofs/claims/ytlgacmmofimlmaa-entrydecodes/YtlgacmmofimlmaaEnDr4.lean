/-
  The document's takeCommits.
-/
import Derived.Test.YtlgacmmofimlmaaEnDr3
import Derived.Test.YtlgacmmofimlmaaF2
import Derived.Test.YtlgacmmofimlmaaF8
namespace Go.Proofs.Ytlgacmmofimlmaa
open Go.RowKit

/-- A commit, as the document reads it. -/
def comD (s : St) : Com × St :=
  (⟨(eyeP.num s 0).1, (eyeP.num (eyeP.num s 0).2 0).1, (eyeP.text (eyeP.num (eyeP.num s 0).2 0).2 []).1, (tkL chgR 64 (eyeP.text (eyeP.num (eyeP.num s 0).2 0).2 []).2).1⟩, (tkL chgR 64 (eyeP.text (eyeP.num (eyeP.num s 0).2 0).2 []).2).2)

theorem com_same (s : St) (hs : Nl s) : (comR s).2 = (comD s).2 ∧ ((comD s).2.2 = 0 → (comR s).1 = (comD s).1) := by
  have h := tk_list (chgP eyeP) ch0 cdc_chg 64 (eyeP.text (eyeP.num (eyeP.num s 0).2 0).2 []).2 (cdc_nl cdc_text _ (cdc_nl cdc_num _ (cdc_nl cdc_num _ hs)))
  refine ⟨h.1, fun h0 => ?_⟩
  have e := h.2 h0
  unfold comR comP comP1 comD
  simp only
  rw [show com0.c = [] from rfl, show com0.r = 0 from rfl, show com0.b = 0 from rfl, show com0.n = [] from rfl, e]
  rfl

theorem itR_congr {α : Type} (one two : St → α × St) (hn : ∀ s, Nl s → Nl (two s).2) (h : ∀ s, Nl s → (one s).2 = (two s).2 ∧ ((two s).2.2 = 0 → (one s).1 = (two s).1)) (s : St) (hs : Nl s) : ∀ n, (itR one n s).2 = (itR two n s).2 ∧ ((itR two n s).2.2 = 0 → (itR one n s).1 = (itR two n s).1) ∧ Nl (itR two n s).2
  | 0 => ⟨rfl, fun _ => rfl, hs⟩
  | n + 1 => by
    obtain ⟨h1, h2, h3⟩ := itR_congr one two hn h s hs n
    rw [itR, itR, h1]
    by_cases he : (itR two n s).2.2 = 0
    · rw [if_pos he, if_pos he]
      have h4 := h _ h3
      exact ⟨h4.1, fun h0 => by rw [h2 he, h4.2 h0], hn _ h3⟩
    · rw [if_neg he, if_neg he]
      exact ⟨h1, fun h0 => absurd h0 he, h3⟩

theorem nl_comD (s : St) (hs : Nl s) : Nl (comD s).2 := by
  rw [← (com_same s hs).1]
  exact cdc_nl cdc_com s hs

/-- The commits that the program reads, and the document's. -/
theorem tk_coms (s : St) (hs : Nl s) : (listP eyeP (comP eyeP) com0 s [] 32).2 = (tkL comD 32 s).2 ∧ ((tkL comD 32 s).2.2 = 0 → (listP eyeP (comP eyeP) com0 s [] 32).1 = (tkL comD 32 s).1) := by
  have h := tk_list (comP eyeP) com0 cdc_com 32 s hs
  have e : (tkL comR 32 s).2 = (tkL comD 32 s).2 ∧ ((tkL comD 32 s).2.2 = 0 → (tkL comR 32 s).1 = (tkL comD 32 s).1) := by
    unfold tkL
    split
    · exact ⟨rfl, fun _ => rfl⟩
    · have h1 := itR_congr comR comD nl_comD com_same (eyeP.num s 0).2 (cdc_nl cdc_num s hs) (eyeP.num s 0).1.toNat
      exact ⟨h1.1, h1.2.1⟩
  have h1 : (listP eyeP (comP eyeP) com0 s [] 32).2 = (tkL comR 32 s).2 := h.1
  have h2 : (tkL comR 32 s).2.2 = 0 → (listP eyeP (comP eyeP) com0 s [] 32).1 = (tkL comR 32 s).1 := h.2
  refine ⟨h1.trans e.1, fun h0 => ?_⟩
  rw [h2 (by rw [e.1]; exact h0), e.2 h0]

theorem wp_appKD {w : World} {ops : Array Oper} {rest : List Oper} {o : Oper} {a : Act} {Q : Exit → Act → World → Prop} (hgd : o.guard = none) (s x : Operand)
    (hop : o.op = .call { callee := .builtin .append, args := #[s, x], argTypes := #[41, 41] })
    (B : Nat) (v : Value) (K : List (Com × Value)) (hs : a.eval s = v) (hO : RowK B w v K) (g : Nat) (y : Com × Value) (hx : a.eval x = .slice (some ⟨g, 0, none⟩) 1 1) (hc : w.heap[g]? = some (.cells #[.int .i64 y.1.r, .int .i64 y.1.b, .string (str y.1.n), y.2] 80 (0, 0)))
    (h1 : y.2.oneCell' = true) (hlen : K.length ≤ 1000000000) (hB : B ≤ w.heap.size)
    (h : ∀ v' w', RowK B w' v' (K ++ [y]) → w.grownBy w' v.ownBlock → wpList Try.prog ops Q rest (a.put o.dst v') w') : wpList Try.prog ops Q (o :: rest) a w := by
  obtain ⟨i0, hi, hz0, hz1, hz2⟩ := info_parts info_commit
  refine wpList_append_own w hgd s x 41 hop B 80 i0 (.agg #[.int .i64 0, .int .i64 0, .string ⟨#[]⟩, .slice none 0 0]) 4 56 Try.underlying41 hi hz0 hz1 hz2 rfl (by decide) v K.length (K.flatMap coC) hs hO ⟨g, 0, none⟩ 1 1 (coC y) hx rfl (World.news_of_block hc) ?_ (by unfold maxLen; omega) (by omega) hB ?_
  · intro u hu; simp [coC] at hu; rcases hu with rfl | rfl | rfl | rfl <;> first | rfl | exact h1
  · intro v' w' h2 h3 _
    refine h v' w' ?_ h3
    unfold RowK
    rw [List.length_append, List.flatMap_append]
    simpa using h2

/-- Commits that were made, and the reader behind them. -/
def TkQ (B p : Nat) (w : World) (q : List Com × St) (r : Ending) (w' : World) : Prop := ∃ v, r = .returned v ∧ KoO w.heap.size w' v q.1 ∧ AtR B p w' q.2 ∧ Kept [p] w w'

def TqI (B p : Nat) (w : World) (s1 : St) (N : Nat) (lv iv : Value) (wr : World) : Prop :=
  ∃ (i : Nat) (L : List Com) (st : St), iv = .int .i64 (i : Int) ∧ i ≤ N ∧ Hid (KoO w.heap.size wr lv L) ∧ Hid (AtR B p wr st) ∧ Hid (Kept [p] w wr) ∧ Hid (itR comD i s1 = (L, st))

theorem koO_off {B p : Nat} {w w' : World} {v : Value} {L : List Com} (h : KoO B w v L) (k : Kept [p] w w') (hp : p < B) : KoO B w' v L := h.off k (by simpa using hp)

/-- A row of another type stays while one grows. -/
theorem row_otherD {w w' : World} {B e size n : Nat} {v : Value} {xs : List Value} (h : w.ownsRow B e size v n xs) (hg : w.grownBy w' v.ownBlock) {B2 e2 size2 n2 : Nat} {v2 : Value} {xs2 : List Value} (h2 : w.ownsRow B2 e2 size2 v2 n2 xs2) (hne : e2 ≠ e) : w'.ownsRow B2 e2 size2 v2 n2 xs2 :=
  row_typed ((Kept.refl v.ownBlock.toList w).grown hg fun k hk => .inl (mem_own.2 hk)) (Ts := [e]) (fun k hk cur t mk hh => by
    obtain ⟨c2, h3⟩ := row_block h (mem_own.1 hk)
    rw [h3] at hh; cases hh; simp) h2 (by simpa using hne)

/-- One more: the row has grown, all else of it is as it was. -/
theorem ko_snoc {b0 : Nat} {w w' : World} {v v' : Value} {K : List (Com × Value)} {y : Com × Value} (hR : RowK b0 w v K) (hO : OwnK b0 w K) (hy : OwnC b0 w y.2 y.1.c) (hg : w.grownBy w' v.ownBlock) (hR' : RowK b0 w' v' (K ++ [y])) : KoO b0 w' v' (K.map Prod.fst ++ [y.1]) := by
  refine ⟨K ++ [y], hR', fun x hx => ?_, by simp⟩
  rcases List.mem_append.1 hx with hx | hx
  · exact row_otherD hR hg (hO x hx) (by decide)
  · simp at hx; subst hx
    exact row_otherD hR hg hy (by decide)

theorem atR_grownK {B p b0 : Nat} {w w' : World} {v : Value} {K : List (Com × Value)} {st : St} (hA : AtR B p w st) (hO : RowK b0 w v K) (hg : w.grownBy w' v.ownBlock) (hp : p < b0) (hB : B ≤ p) : AtR B p w' st := by
  have k : Kept v.ownBlock.toList w w' := (Kept.refl _ w).grown hg (fun k hk => .inl (by rw [hk]; simp))
  refine hA.kept k (fun hm => ?_) (fun i hi => ?_)
  · have := (World.ownsRow.lt hO p (by simpa using hm)).1; omega
  · have := (World.ownsRow.lt hO i (by simpa using hi)).1; omega

set_option maxHeartbeats 8000000 in
set_option maxRecDepth 100000 in
theorem tkK_call (B p : Nat) (w : World) (s : St) (hA : AtR B p w s) : Calls Try.prog 70 #[.pointer (some ⟨p, 0, none⟩)] w (TkQ B p w (tkL comD 32 s)) := by
  have hlt := hA.lt
  have hnn : 0 ≤ (eyeP.num s 0).1 := rdNumE_nonneg hA.oct
  have cN := hide (dr_num B p w s hA)
  have HT : Hid (tkL comD 32 s = if 32 < (eyeP.num s 0).1 then ([], ([], rdRefE (eyeP.num s 0).2.2)) else itR comD (eyeP.num s 0).1.toNat (eyeP.num s 0).2) := rfl
  generalize tkL comD 32 s = res at HT ⊢
  have hbig : (eyeP.num s 0).1 ≤ 1099511627776 := rdNumE_le hA.oct
  generalize eyeP.num s 0 = q at *
  obtain ⟨nz, s0⟩ := q
  obtain ⟨N, rfl⟩ : ∃ N : Nat, nz = (N : Int) := ⟨nz.toNat, by simp only at hnn; omega⟩
  simp only at cN HT hbig
  clear hnn hA
  go_enter Try.func70, Try.ntmps70
  go_upto_region 2 with (go_at_call 63; refine cN.out.mono ?_; clear cN; rintro _ w1 ⟨rfl, hA1, hk1⟩; have HA1 := hide hA1; have HK1 := hide hk1; clear hA1 hk1)
  by_cases hm : 32 < N
  · have hm' : (32 : Int) < N := by omega
    have HE : Hid (res = ([], ([], rdRefE s0.2))) := by show res = _; rw [HT.out, if_pos hm']
    have cR := hide (dr_refuse B p w1 s0 HA1.out)
    obtain ⟨s1, hs1⟩ : ∃ s1 : St, s1 = ([], rdRefE s0.2) := ⟨_, rfl⟩
    rw [← hs1] at cR HE
    have HF : Hid (s1.2 ≠ 0) := by rw [hs1]; exact rdRefE_ne _
    have HIT : Hid (res = itR comD N s1) := by show res = _; rw [HE.out, itR_stop comD s1 0 HF.out N (Nat.zero_le _)]; rfl
    have HLE : Hid (N ≤ 32 ∨ s1.2 ≠ 0) := .inr HF.out
    clear hs1 HT HE
    go_upto_region 4 with (go_at_call 64; refine cR.out.mono ?_; clear cR; rintro _ w2 ⟨rfl, hA2, hk2⟩; have HA2 := hide hA2; have HK2 := hide (HK1.out.trans hk2 (by simp)); clear hA2 hk2)
    go_wp2_with fail
    go_loopw [4, 5] (fun lv iv wr => TqI B p w s1 N lv iv wr) (fun _ iv _ => N - (intOf iv).toNat)
    case atStart => exact ⟨0, [], s1, rfl, Nat.zero_le _, KoO.nil _ _, HA2, HK2, rfl⟩
    case round =>
      obtain ⟨i, L, st, rfl, hi, HO, HA, HK, HI⟩ := hrel
      have hf1 := HA.out.fail
      have hlen : L.length ≤ i := by have h := itR_len comD s1 i; rw [HI.out] at h; exact h
      by_cases hlt2 : i < N
      · have hlt2' : (i : Int) < N := by omega
        by_cases hst : st.2 = 0
        · have h64 : N ≤ 32 := by
            rcases HLE.out with h | h
            · exact h
            · exfalso
              have h2 := itR_stop comD s1 0 h i (Nat.zero_le _)
              rw [HI.out] at h2
              have h3 : st = s1 := congrArg Prod.snd h2
              rw [h3] at hst
              exact h hst
          omega
        · have hstb : (st.2 == 0) = false := by simpa using hst
          have HQ : Hid (res = (L, st)) := by show res = _; rw [HIT.out, itR_stop comD s1 i (by rw [HI.out]; exact hst) N (by omega), HI.out]
          go_wp2_with fail
          go_ret
          rw [HQ.out]
          exact ⟨_, rfl, HO.out, HA.out, HK.out⟩
      · have hlt2' : ¬ (i : Int) < N := by omega
        have hiN : i = N := by omega
        have HQ : Hid (res = (L, st)) := by show res = _; rw [HIT.out, ← hiN, HI.out]
        clear hiN
        go_wp2_with fail
        go_ret
        rw [HQ.out]
        exact ⟨_, rfl, HO.out, HA.out, HK.out⟩
  · have hm' : ¬ (32 : Int) < N := by omega
    obtain ⟨s1, hs1⟩ : ∃ s1 : St, s1 = s0 := ⟨_, rfl⟩
    subst hs1
    have HIT : Hid (res = itR comD N s1) := by show res = _; rw [HT.out, if_neg hm']; rfl
    have HLE : Hid (N ≤ 32 ∨ s1.2 ≠ 0) := .inl (by omega)
    clear HT
    go_upto_region 4 with fail
    go_wp2_with fail
    go_loopw [4, 5] (fun lv iv wr => TqI B p w s1 N lv iv wr) (fun _ iv _ => N - (intOf iv).toNat)
    case atStart => exact ⟨0, [], s1, rfl, Nat.zero_le _, KoO.nil _ _, HA1, HK1, rfl⟩
    case round =>
      obtain ⟨i, L, st, rfl, hi, HO, HA, HK, HI⟩ := hrel
      have hf1 := HA.out.fail
      have hlen : L.length ≤ i := by have h := itR_len comD s1 i; rw [HI.out] at h; exact h
      by_cases hlt2 : i < N
      · have hlt2' : (i : Int) < N := by omega
        by_cases hst : st.2 = 0
        · have h64 : N ≤ 32 := by
            rcases HLE.out with h | h
            · exact h
            · exfalso
              have h2 := itR_stop comD s1 0 h i (Nat.zero_le _)
              rw [HI.out] at h2
              have h3 : st = s1 := congrArg Prod.snd h2
              rw [h3] at hst
              exact h hst
          have HNX : Hid (itR comD (i + 1) s1 = (L ++ [(comD st).1], (comD st).2)) := by show itR comD (i + 1) s1 = _; rw [itR, HI.out, if_pos hst]
          rw [hst] at hf1
          have HCH : Hid (comD st = (⟨(eyeP.num st 0).1, (eyeP.num (eyeP.num st 0).2 0).1, (eyeP.text (eyeP.num (eyeP.num st 0).2 0).2 []).1, (tkL chgR 64 (eyeP.text (eyeP.num (eyeP.num st 0).2 0).2 []).2).1⟩, (tkL chgR 64 (eyeP.text (eyeP.num (eyeP.num st 0).2 0).2 []).2).2)) := rfl
          have cT := hide (dr_num B p wr st HA.out)
          have cG := hide (fun (W2 : World) (h : AtR B p W2 (eyeP.num st 0).2) => dr_num B p W2 (eyeP.num st 0).2 h)
          have cX := hide (fun (W2 : World) (h : AtR B p W2 (eyeP.num (eyeP.num st 0).2 0).2) => dr_text B p W2 (eyeP.num (eyeP.num st 0).2 0).2 h)
          have cC := hide (fun (W2 : World) (h : AtR B p W2 (eyeP.text (eyeP.num (eyeP.num st 0).2 0).2 []).2) => tkC_call B p W2 (eyeP.text (eyeP.num (eyeP.num st 0).2 0).2 []).2 h)
          generalize (tkL chgR 64 (eyeP.text (eyeP.num (eyeP.num st 0).2 0).2 []).2) = q4 at HCH cC
          generalize (eyeP.text (eyeP.num (eyeP.num st 0).2 0).2 []) = q3 at HCH cC cX
          generalize (eyeP.num (eyeP.num st 0).2 0) = q2 at HCH cG cX
          generalize (eyeP.num st 0) = q1 at HCH cG cT
          obtain ⟨ra, s2⟩ := q1
          obtain ⟨ba, s3⟩ := q2
          obtain ⟨tt, s4⟩ := q3
          obtain ⟨LC, s5⟩ := q4
          simp only at HCH cT cG cX cC
          have HN2 : Hid (itR comD (i + 1) s1 = (L ++ [⟨ra, ba, tt, LC⟩], s5)) := by show itR comD (i + 1) s1 = _; rw [HNX.out, HCH.out]
          clear hst HCH HNX
          go_upto_region 9 with (first | (go_at_call 63; refine cT.out.mono ?_; clear cT; rintro _ w3 ⟨rfl, hA3, hk3⟩; have HA3 := hide hA3; have HKr3 := hide hk3; clear hA3 hk3) | (go_at_call 63; refine (cG.out _ HA3.out).mono ?_; clear cG; rintro _ w4 ⟨rfl, hA4, hk4⟩; have HA4 := hide hA4; have HKr4 := hide (HKr3.out.trans hk4 (by simp)); clear hA4 hk4) | (go_at_call 65; refine (cX.out _ HA4.out).mono ?_; clear cX; rintro _ w5 ⟨rfl, hA5, hk5⟩; have HA5 := hide hA5; have HKr5 := hide (HKr4.out.trans hk5 (by simp)); have HZ : Hid (Bx (w5.alloc (.cells #[.int .i64 0, .int .i64 0, .string ⟨#[]⟩, .slice none 0 0] 80)) w5.heap.size 80 zk4) := (Bx.new w5 _ zk4); have HLz : Hid (([.int .i64 ra, .int .i64 ba, .string (str tt), .slice none 0 0] : List Value).length = zk4.length) := rfl; have HOz : Hid (∀ z ∈ ([.int .i64 ra, .int .i64 ba, .string (str tt), .slice none 0 0] : List Value), z.oneCell' = true) := (by intro z hz; simp at hz; rcases hz with rfl | rfl | rfl | rfl <;> rfl); have HTz : Hid (RowT Try.prog 80 ([.int .i64 ra, .int .i64 ba, .string (str tt), .slice none 0 0] : List Value).length) := rowT_com; clear hA5 hk5) | ((with_reducible refine wl_store_bx HZ.out HLz.out HOz.out HTz.out ?_ ?_ ?_); rfl; rfl; intro w6 HB6 HK6))
          have k6 : Kept [] w5 w6 := (Kept.refl [] w5).trans (((Kept.refl [w5.heap.size] w5).alloc _).trans HK6.out (by simp)) (by intro i hi; simp at hi; right; omega)
          have hsz5 : w.heap.size ≤ w5.heap.size := Nat.le_trans HK.out.size HKr5.out.size
          have HKr6 := hide (HKr5.out.trans k6 (by simp))
          have HA6 := hide (HA5.out.kept k6 (by simp) (by simp))
          have hb6 : w5.heap.size < w6.heap.size := HB6.out.lt
          have cC6 := hide (cC.out w6 HA6.out)
          clear k6 HK6 HZ HLz HOz HTz hf1 cC
          have f3 : Hid (∀ W2, Kept [p] w6 W2 → W2.cell? ⟨w5.heap.size, 3, none⟩ = some (.slice none 0 0) ∧ W2.frozen? ⟨w5.heap.size, 3, none⟩ = false) := fun W2 k => by
            have h := HB6.out.kept k (by simp; omega)
            exact ⟨h.cell 3 rfl, h.froz 3⟩
          go_upto_region 10 with (go_at_call 66; refine cC6.out.mono ?_; clear cC6; rintro _ w7 ⟨v7, rfl, hO7, hA7, hk7⟩; have HA7 := hide hA7; have HK7 := hide hk7; obtain ⟨lo, ln, lc, rfl⟩ := own_bare hO7; have HO7 := hide hO7; obtain ⟨s3c, s3f⟩ := f3.out _ hk7; clear hA7 hk7 hO7 f3)
          obtain ⟨wq, hwq⟩ : ∃ wq, wq = w7.setCell ⟨w5.heap.size, 3, none⟩ (.slice lo ln lc) := ⟨_, rfl⟩
          rw [← hwq]
          have HBq : Hid (Bx wq w5.heap.size 80 [.int .i64 ra, .int .i64 ba, .string (str tt), .slice lo ln lc]) := by rw [hwq]; exact (HB6.out.kept HK7.out (by simp; omega)).set 3 _
          have kq : Kept [w5.heap.size] w7 wq := by rw [hwq]; exact kept_set w7 w5.heap.size 3 _
          have HAq := hide (HA7.out.kept kq (by simp; omega) (by simp; omega))
          have HKrq : Hid (Kept [p] wr wq) := (HKr6.out.trans HK7.out (by simp)).trans kq (by intro i hi; simp at hi; right; rw [hi]; exact HKr5.out.size)
          have HKq := hide (HK.out.trans HKrq.out (by simp))
          have hOq : OwnC w6.heap.size wq (.slice lo ln lc) LC := kq.ownsRow HO7.out (fun i hi hm => by have := (World.ownsRow.lt HO7.out i hi).1; simp at hm; omega)
          obtain ⟨K, hRK, hOK, hLK⟩ := koO_off HO.out HKrq.out hlt.1
          have q0 : wq.cell? ⟨w5.heap.size, 0, none⟩ = some (.int .i64 ra) := HBq.out.cell 0 rfl
          have q1 : wq.cell? ⟨w5.heap.size, 1, none⟩ = some (.int .i64 ba) := HBq.out.cell 1 rfl
          have q2 : wq.cell? ⟨w5.heap.size, 2, none⟩ = some (.string (str tt)) := HBq.out.cell 2 rfl
          have q3 : wq.cell? ⟨w5.heap.size, 3, none⟩ = some (.slice lo ln lc) := HBq.out.cell 3 rfl
          have hszq : w.heap.size ≤ wq.heap.size := HKq.out.size
          have hszw : w.heap.size ≤ w6.heap.size := by omega
          have hRa : RowK w.heap.size (wq.alloc (.cells #[.int .i64 ra, .int .i64 ba, .string (str tt), .slice lo ln lc] 80)) u4 K := World.ownsRow.alloc hRK _
          have HOa : Hid (OwnK w.heap.size (wq.alloc (.cells #[.int .i64 ra, .int .i64 ba, .string (str tt), .slice lo ln lc] 80)) K) := fun x hx => World.ownsRow.alloc (hOK x hx) _
          have HYa : Hid (OwnC w.heap.size (wq.alloc (.cells #[.int .i64 ra, .int .i64 ba, .string (str tt), .slice lo ln lc] 80)) (.slice lo ln lc) LC) := World.ownsRow.alloc (hOq.mono hszw) _
          have HAa := hide (HAq.out.kept ((Kept.refl [] wq).alloc (.cells #[.int .i64 ra, .int .i64 ba, .string (str tt), .slice lo ln lc] 80)) (by simp) (by simp))
          have HKa := hide (HKq.out.alloc (.cells #[.int .i64 ra, .int .i64 ba, .string (str tt), .slice lo ln lc] 80))
          have hKl : K.length ≤ 1000000000 := by have h := congrArg List.length hLK; simp at h; omega
          have HLK := hide hLK
          clear hwq kq s3c s3f hOq hRK hOK hLK
          go_wp2_with (at_builtin; refine wp_appKD rfl _ _ rfl w.heap.size _ K rfl hRa wq.heap.size (⟨ra, ba, tt, LC⟩, .slice lo ln lc) rfl (heap_alloc_new _ _) rfl hKl (by simp; omega) ?b1)
          case b1 =>
            intro v8 w8 hO8 hg8
            have HK8 : Hid (Kept [p] w w8) := HKa.out.grown hg8 (fun k hk => .inr (World.ownsRow.lt hRa k hk).1)
            have HA8 := hide (atR_grownK HAa.out hRa hg8 hlt.1 hlt.2)
            have HO8 : Hid (KoO w.heap.size w8 v8 (L ++ [⟨ra, ba, tt, LC⟩])) := by
              have h := ko_snoc (y := (⟨ra, ba, tt, LC⟩, .slice lo ln lc)) hRa HOa.out HYa.out hg8 hO8
              rw [HLK.out] at h
              exact h
            clear hO8 hg8 hRa q0 q1 q2 q3
            go_wp2_with fail
            go_roundw
            case rel => exact ⟨i + 1, _, _, by go_num, by omega, HO8, HA8, HK8, HN2⟩
            case measure => simp [intOf]; omega
        · have hstb : (st.2 == 0) = false := by simpa using hst
          have HQ : Hid (res = (L, st)) := by show res = _; rw [HIT.out, itR_stop comD s1 i (by rw [HI.out]; exact hst) N (by omega), HI.out]
          go_wp2_with fail
          go_ret
          rw [HQ.out]
          exact ⟨_, rfl, HO.out, HA.out, HK.out⟩
      · have hlt2' : ¬ (i : Int) < N := by omega
        have hiN : i = N := by omega
        have HQ : Hid (res = (L, st)) := by show res = _; rw [HIT.out, ← hiN, HI.out]
        clear hiN
        go_wp2_with fail
        go_ret
        rw [HQ.out]
        exact ⟨_, rfl, HO.out, HA.out, HK.out⟩

end Go.Proofs.Ytlgacmmofimlmaa
