/-
  appendHigh, readHigh, isSummed, appendSummed, by their contracts.
-/
import Derived.Test.YtfmklcnilmhnbaaCrc0
import Derived.Test.YtfmklcnilmhnbaaWr1
import Derived.Test.YtfmklcnilmhnbaaHiP
import Derived.Deep.QuietTactic
import Derived.BigQuiet
namespace Go.Proofs.Ytfmklcnilmhnbaa
open Go.RowKit

/-- What an appending call leaves: the bytes, in the old block or in a new one. -/
def Apd (w : World) (v : Value) (l : List Int) (r : Ending) (w' : World) : Prop :=
  ∃ v', r = .returned v' ∧ Own w' v' l ∧ Fresh w v.ownBlock v'.ownBlock ∧ Kept v.ownBlock.toList w w'

theorem own_app {w : World} {v : Value} {L M : List Int} {k : Nat} {N : List Value} (h : w.ownsRow 0 5 1 v (L.length + k) (L.map (Value.int .u8) ++ N)) (hk : k = M.length) (hN : N = M.map (Value.int .u8)) : Own w v (L ++ M) := by
  subst hk; subst hN
  unfold Own
  rw [List.length_append, List.map_append]
  exact h

set_option maxHeartbeats 1000000 in
theorem appendHigh_any (w : World) (v : Value) (l : List Int) (x : Int) (many : Nat) (ho : Own w v l) (hm : many ≤ 8) (hl : l.length ≤ 1000000000) :
    Calls Try.prog 37 #[v, .int .u64 x, .int .i64 many] w (Apd w v (l ++ hiB many x)) := by
  obtain ⟨i0, hi, hz0, hz1, hz2⟩ := info_parts info_u8
  have HO : Hid (Own w v l) := ho
  clear ho
  go_enter Try.func37, Try.ntmps37
  go_wp2
  go_loopw [0, 9] (fun o i wr => ∃ (k : Nat), k ≤ many ∧ i = .int .i64 k ∧ Own wr o (l ++ (hiB many x).take k) ∧ Fresh w v.ownBlock o.ownBlock ∧ Kept v.ownBlock.toList w wr) (fun _ i _ => many - (intOf i).toNat)
  case atStart => exact ⟨0, Nat.zero_le _, rfl, by simpa using HO.out, Fresh.refl _ _, Kept.refl _ _⟩
  case round =>
    obtain ⟨k, hk, rfl, hO, hfr, hkept⟩ := hrel
    have hlen : (l ++ (hiB many x).take k).length ≤ 1000000008 := by simp [hiB_length]; omega
    obtain ⟨L, hL⟩ : ∃ L, L = l ++ (hiB many x).take k := ⟨_, rfl⟩
    rw [← hL] at hO hlen
    have HO1 : Hid (Own wr u0 L) := hO
    have HL : Hid (L = l ++ (hiB many x).take k) := hL
    clear hO HO hL
    by_cases hlt : k < many
    · skip
      go_wp2_with (at_builtin; refine wpList_append2 _ rfl _ _ 25 rfl 5 i0 (.int .u8 0) 1 1 Try.underlying25 hi hz0 hz1 hz2 rfl (by decide) _ L.length (L.map (Value.int .u8)) rfl (World.ownsRow.alloc HO1.out _) ⟨wr.heap.size, 0, none⟩ 1 1 [.int .u8 (x / 2 ^ (8 * (many - 1 - k)) % 256)] rfl rfl ?c1 ?c2 ?c3 ?c4 ?_)
      case c1 =>
        intro j u hj
        match j, hj with
        | 0, hj => simp at hj; subst hj; simp [Addr.add]
      case c2 => intro u hu; simp at hu; subst hu; rfl
      case c3 => unfold maxLen; omega
      case c4 => omega
      intro v' w1 hown hgrow hfr'
      go_wp2
      go_roundw
      case rel =>
        refine ⟨k + 1, by omega, by go_num, ?_, own_trans hfr hfr' (by have := hkept.size; omega), own_kept hfr hkept hgrow⟩
        rw [hiB_take _ _ _ hlt, ← List.append_assoc, ← HL.out]
        exact own_app hown rfl rfl
      case measure => simp [intOf]; omega
    · have e : (hiB many x).take k = hiB many x := List.take_of_length_le (by rw [hiB_length]; omega)
      have HO2 : Hid (Own wr u0 (l ++ hiB many x)) := by have := HO1.out; rw [HL.out, e] at this; exact this
      clear e HO1
      go_wp2
      go_ret
      exact ⟨_, rfl, HO2.out, hfr, hkept⟩

theorem u64_or_low (x d : Int) (hx : 0 ≤ x) (hx1 : x < 18446744073709551616) (h0 : 0 ≤ d) (h1 : d < 256) : bits .or .u64 (x * 256 % 18446744073709551616) d = x * 256 % 18446744073709551616 + d := by
  obtain ⟨a, rfl⟩ := Int.eq_ofNat_of_zero_le hx
  obtain ⟨e, rfl⟩ := Int.eq_ofNat_of_zero_le h0
  have h2 := u64_or_nat (a * 256 % 18446744073709551616) e (by omega) (by omega)
  rw [nat_join 8 _ _ (by omega) (by omega)] at h2
  have h3 : ((a * 256 % 18446744073709551616 : Nat) : Int) = (a : Int) * 256 % 18446744073709551616 := by omega
  rw [h3] at h2
  rw [h2]; omega

set_option maxHeartbeats 1000000 in
theorem readHigh_call (w : World) (ao : Option Addr) (n c : Nat) (l : List Int) (hs : Sl w ao n c l) (ho : Oct l) :
    Calls Try.prog 40 #[.slice ao n c] w fun r w' => r = .returned (.int .u64 (rdHi l)) ∧ w = w' := by
  have hn := hs.1
  subst hn
  have hm := hs.2.2.1
  have hc := hs.2.1
  unfold maxLen at hm
  by_cases h0 : l.length = 0
  · have e1 : l = [] := by simpa using h0
    subst e1
    clear hs
    go_enter Try.func40, Try.ntmps40
    go_wp2
    refine wp_loop_rounds 1 ?_
    rw [rounds_succ]
    go_wp2
    go_ret
    exact ⟨rfl, rfl⟩
  · obtain ⟨b, o, rfl, hcell⟩ := hs.some (by omega)
    have HC : Hid (∀ i, i < l.length → w.cell? ⟨b, o + i, none⟩ = some (.int .u8 (l.getD i 0))) := hcell
    have HO : Hid (Oct l) := ho
    clear hs hcell ho
    go_enter Try.func40, Try.ntmps40
    go_wp2
    go_loop [3, 8] (fun t i => ∃ (k : Nat) (x : Int), k ≤ l.length ∧ i = .int .i64 k ∧ t = .int .u64 x ∧ Hid (x = rdHi (l.take k))) (fun _ i => l.length - (intOf i).toNat)
    case atStart => exact ⟨0, 0, Nat.zero_le _, rfl, rfl, rfl⟩
    case round =>
      obtain ⟨k, x, hk, rfl, rfl, HX⟩ := hrel
      by_cases hlt : k < l.length
      · have g1 : w.cell? ⟨b, o + k, none⟩ = some (.int .u8 (l.getD k 0)) := HC.out k hlt
        have gd := getD_oct HO.out hlt
        have hb : 0 ≤ x ∧ x < 18446744073709551616 := by rw [HX.out]; exact rdHi_bd _ (HO.out.take k)
        generalize hd : l.getD k 0 = d at g1 gd
        have HD : Hid (l.getD k 0 = d) := hd
        clear hd
        obtain ⟨gd0, gd1⟩ := gd
        have HOR : Hid (bits .or .u64 (IntKind.u64.wrap (x * 256)) d = x * 256 % 18446744073709551616 + d) := by
          have hor := u64_or_low x d hb.1 hb.2 gd0 gd1
          rw [← IntKind.wrap_u64] at hor
          show bits .or .u64 (IntKind.u64.wrap (x * 256)) d = x * 256 % 18446744073709551616 + d
          rw [hor, IntKind.wrap_u64]
        clear hb
        go_wp2
        go_round
        case rel => exact ⟨k + 1, _, by omega, by go_num, rfl, by show _ = rdHi (l.take (k + 1)); rw [HOR.out, take_snoc hlt, rdHi_snoc, ← HX.out, HD.out]⟩
        case measure => simp [intOf]; omega
      · have e : l.take k = l := List.take_of_length_le (by omega)
        have HX2 : Hid (x = rdHi l) := by have := HX.out; rw [e] at this; exact this
        clear e
        go_wp2
        go_ret
        exact ⟨ret_int HX2.out, rfl⟩

theorem quiet_eq {P : Program} {f : FuncId} {args : Array Value} {w : World} {n : Nat} {v : Value}
    (h : Calls P f args (w.drewN n) fun e w' => e = .returned v ∧ w.drewN n = w') : Calls P f args (w.drewN n) fun e w'' => e = .returned v ∧ ∃ m, w'' = w.drewN m :=
  h.mono fun _ _ ⟨he, hm⟩ => ⟨he, n, hm.symm⟩

theorem Sl.drewN {w : World} {ao : Option Addr} {n c : Nat} {l : List Int} (h : Sl w ao n c l) (q : Nat) : Sl (w.drewN q) ao n c l := h

set_option maxHeartbeats 1000000 in
theorem isSummed_call (w : World) (ao : Option Addr) (n c : Nat) (l : List Int) (hs : Sl w ao n c l) (ho : Oct l) (h4 : 4 ≤ n) :
    Calls Try.prog 39 #[.slice ao n c] w fun r w' => r = .returned (.bool (summed l)) ∧ ∃ q, w' = w.drewN q := by
  have hn := hs.1
  subst hn
  have hm := hs.2.2.1
  have hc := hs.2.1
  unfold maxLen at hm
  have hc4 : ¬ c = l.length - 4 := by omega
  have hsa : Sl w (Option.map (fun x => x.add (l.length - 4)) ao) (l.length - (l.length - 4)) (c - (l.length - 4)) (l.drop (l.length - 4)) := hs.drop (by omega)
  have hsb : Sl w ao (l.length - 4) c (l.take (l.length - 4)) := hs.take (by omega)
  have HA : Hid (Sl w (Option.map (fun x => x.add (l.length - 4)) ao) (l.length - (l.length - 4)) (c - (l.length - 4)) (l.drop (l.length - 4))) := hsa
  have HB : Hid (Sl w ao (l.length - 4) c (l.take (l.length - 4))) := hsb
  clear hs hsa hsb
  go_enter Try.func39, Try.ntmps39
  go_wp2
  go_quiet (first
    | (go_at_call 40; exact quiet_eq (readHigh_call _ _ _ _ _ (Sl.drewN HA.out _) (ho.drop _)))
    | (go_at_call 15; exact quiet_eq (crc_call _ _ _ _ _ (Sl.drewN HB.out _) (ho.take _))))
  go_wp2
  go_ret
  refine ⟨ret_bool ?_, _, rfl⟩
  have h5 : IntKind.u64.wrap (crcOf (l.take (l.length - 4)) : Int) = (crcOf (l.take (l.length - 4)) : Int) := by
    have := crcOf_le (l.take (l.length - 4))
    rw [IntKind.wrap_u64]; omega
  rw [h5]
  rfl

theorem sl_news {w : World} {a : Addr} {n c : Nat} {l : List Int} (h : Sl w (some a) n c l) : ∀ j u, (l.map (Value.int .u8))[j]? = some u → w.cell? (a.add j) = some u := by
  intro j u hj
  have h5 := (List.getElem?_eq_some_iff.1 hj).1
  have h6 := h.1
  simp at h5
  obtain ⟨b, o, e, hc⟩ := h.2.2.2.2 j (by omega)
  cases e
  have ea : (⟨b, o, none⟩ : Addr).add j = ⟨b, o + j, none⟩ := by by_cases hk0 : j = 0 <;> simp [Addr.add, hk0]
  rw [ea, hc]
  have e : (l.map (Value.int .u8))[j]? = some (Value.int .u8 (l.getD j 0)) := by simp [List.getD, List.getElem?_eq_getElem h5]
  rw [e] at hj
  exact hj

theorem oneCells (l : List Int) : ∀ u ∈ l.map (Value.int .u8), u.oneCell' = true := by
  intro u hu; obtain ⟨x, _, rfl⟩ := List.mem_map.1 hu; rfl

set_option maxHeartbeats 1000000 in
theorem appendSummed_any (w : World) (v : Value) (l : List Int) (ao : Option Addr) (n c : Nat) (m : List Int) (hO : Own w v l) (hs : Sl w ao n c m) (hom : Oct m) (hd : 0 < n → ∀ k ∈ blk ao, v.ownBlock ≠ some k) (hl : l.length ≤ 100000000) (hml : n ≤ 100000000) :
    Calls Try.prog 38 #[v, .slice ao n c] w (Apd w v (l ++ (m ++ hiB 4 (crcOf m)))) := by
  obtain ⟨i0, hi, hz0, hz1, hz2⟩ := info_parts info_u8
  have hn := hs.1
  subst hn
  have hcr := crcOf_le m
  have HO : Hid (Own w v l) := hO
  have HS : Hid (Sl w ao m.length c m) := hs
  have hcw : IntKind.u64.wrap (crcOf m : Int) = (crcOf m : Int) := by rw [IntKind.wrap_u64]; omega
  clear hO hs
  cases ao with
  | none =>
    have hm0 : m = [] := by
      have h1 := HS.out.2.2.2.1 rfl
      have h2 := HS.out.2.1
      have h3 : m.length = 0 := by omega
      simpa using h3
    have hc0 : c = 0 := HS.out.2.2.2.1 rfl
    subst hm0
    subst hc0
    go_enter Try.func38, Try.ntmps38
    go_wp2_with (at_builtin; refine wpList_append_own_none rfl _ _ 25 rfl 0 5 i0 1 Try.underlying25 hi _ _ _ rfl HO.out rfl ?_)
    go_wp2_with fail
    refine (crc_call _ _ _ _ _ HS.out hom).mono ?_
    rintro _ _ ⟨rfl, rfl⟩
    go_wp2_with fail
    refine (appendHigh_any _ _ _ _ 4 HO.out (by omega) (by omega)).mono ?_
    rintro _ w2 ⟨v2, rfl, hO2, hf2, hk2⟩
    go_wp2
    go_ret
    exact ⟨v2, rfl, by simpa using hO2, hf2, hk2⟩
  | some a =>
    go_enter Try.func38, Try.ntmps38
    go_wp2_with (at_builtin; refine wpList_append2 _ rfl _ _ 25 rfl 5 i0 (.int .u8 0) 1 1 Try.underlying25 hi hz0 hz1 hz2 rfl (by decide) _ l.length (l.map (Value.int .u8)) rfl HO.out a m.length c (m.map (Value.int .u8)) rfl (by simp) (sl_news HS.out) (oneCells m) ?c3 ?c4 ?_)
    case c3 => unfold maxLen; omega
    case c4 => omega
    intro v1 w1 hown hgrow hfr
    have hO1 : Own w1 v1 (l ++ m) := own_app hown rfl rfl
    have hk1 : Kept v.ownBlock.toList w w1 := (Kept.refl _ _).grown hgrow (by intro k hk; left; rw [hk]; simp)
    have hs1 : Sl w1 (some a) m.length c m := Sl.kept' hk1 HS.out (by intro h0 k hk h7; simp at h7; exact hd h0 k hk h7)
    clear hown hgrow
    go_wp2_with fail
    refine (crc_call _ _ _ _ _ hs1 hom).mono ?_
    rintro _ _ ⟨rfl, rfl⟩
    go_wp2_with fail
    refine (appendHigh_any _ _ _ _ 4 hO1 (by omega) (by simp; omega)).mono ?_
    rintro _ w2 ⟨v2, rfl, hO2, hf2, hk2⟩
    go_wp2
    go_ret
    refine ⟨v2, rfl, by simpa using hO2, own_trans hfr hf2 hk1.size, hk1.trans hk2 ?_⟩
    intro i h7
    rcases hfr i (by simpa using h7) with h8 | h8
    · left; rw [h8]; simp
    · exact .inr h8

theorem own_sl {w : World} {v : Value} {l : List Int} (h : Own w v l) : ∃ ao n c, v = .slice ao n c ∧ Sl w ao n c l ∧ (∀ k ∈ blk ao, k < w.heap.size ∧ v.ownBlock = some k) := by
  obtain ⟨ao, n, c, h1, h2, h3⟩ := Sl.of_owns' h
  exact ⟨ao, n, c, h1, h2, fun k hk => ⟨(h3 k hk).2.1, (h3 k hk).2.2⟩⟩

/-- append of a row of bytes onto one that is owned, whatever the source is. -/
theorem wp_app {w : World} {ops : Array Oper} {rest : List Oper} {o : Oper} {a : Act} {Q : Exit → Act → World → Prop} (hgd : o.guard = none) (s x : Operand)
    (hop : o.op = .call { callee := .builtin .append, args := #[s, x], argTypes := #[25, 25] })
    (v : Value) (l : List Int) (hs : a.eval s = v) (hO : Own w v l) (ao : Option Addr) (m c : Nat) (L : List Int) (hx : a.eval x = .slice ao m c) (hS : Sl w ao m c L)
    (hlen : l.length + m ≤ 140737488355328)
    (h : ∀ v' w', Own w' v' (l ++ L) → Fresh w v.ownBlock v'.ownBlock → Kept v.ownBlock.toList w w' → wpList Try.prog ops Q rest (a.put o.dst v') w') : wpList Try.prog ops Q (o :: rest) a w := by
  obtain ⟨i0, hi, hz0, hz1, hz2⟩ := info_parts info_u8
  have hm := hS.1
  subst hm
  cases ao with
  | none =>
    have h1 := hS.2.2.2.1 rfl
    have h2 := hS.2.1
    have h3 : L = [] := by have h4 : L.length = 0 := by omega
                           simpa using h4
    subst h3
    subst h1
    refine wpList_append_own_none hgd s x 25 hop 0 5 i0 1 Try.underlying25 hi v _ _ hs hO hx ?_
    exact h v w (by simpa using hO) (Fresh.refl _ _) (Kept.refl _ _)
  | some ad =>
    refine wpList_append2 w hgd s x 25 hop 5 i0 (.int .u8 0) 1 1 Try.underlying25 hi hz0 hz1 hz2 rfl (by decide) v l.length (l.map (Value.int .u8)) hs hO ad L.length c (L.map (Value.int .u8)) hx (by simp) (sl_news hS) (oneCells L) (by unfold maxLen; omega) (by omega) ?_
    intro v1 w1 hown hgrow hfr
    exact h v1 w1 (own_app hown rfl rfl) hfr ((Kept.refl _ _).grown hgrow (by intro k hk; left; rw [hk]; simp))

end Go.Proofs.Ytfmklcnilmhnbaa
