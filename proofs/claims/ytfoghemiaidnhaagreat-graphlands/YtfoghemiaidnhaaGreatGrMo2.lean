/-
  The document's own graph: move, the walk.
-/
import Derived.Test.YtfoghemiaidnhaaGreatGrMo1
import Derived.Handy
namespace Go.Proofs.YtfoghemiaidnhaaGreat
open Go.RowKit

theorem OwnM.mono {B C : Nat} {w : World} {v : Value} {l : List (List UInt8 × Int)} (h : OwnM C w v l) (hB : B ≤ C) : OwnM B w v l := by
  obtain ⟨h1, h2⟩ := h
  exact ⟨h1, h2.imp id fun ⟨g, cap, cur, hv, hg, r⟩ => ⟨g, cap, cur, hv, Nat.le_trans hB hg, r⟩⟩

def MvI (w : World) (n : List UInt8) (r : Int) (l : List (List UInt8 × Int)) (ov pv iv : Value) (wr : World) : Prop :=
  ∃ (i : Nat) (out : List (List UInt8 × Int)) (put : Bool), iv = .int .i64 (i : Int) ∧ pv = .bool put ∧ i ≤ l.length ∧ Hid (MvP n r l i put out) ∧ Hid (out.length ≤ 2 * i) ∧ Hid (OwnM w.heap.size wr ov out) ∧ Hid (Kept [] w wr)

/-- What is behind move. -/
def MvE (w : World) (b : Nat) (v vL : Value) (K : List (Com × Value)) (G : Gr) (w' : World) : Prop := ∃ vR, MA w' b v vL vR K G ∧ Kept [b] w w'

theorem mv_end {w wr : World} {b : Nat} {v vL vR : Value} {K : List (Com × Value)} {G : Gr} (h : MA w b v vL vR K G) {ov : Value} {rs : List (List UInt8 × Int)} (hK : Kept [] w wr) (hO : OwnM w.heap.size wr ov rs) : Hid (MvE w b v vL K ⟨G.cs, G.ls, rs⟩ (wr.setCell ⟨b, 2, none⟩ ov)) :=
  ⟨ov, (h.kept hK).setRefs (OwnM.mono hO (Nat.zero_le _)), (hK.mono (by simp)).setCell (.inl (by simp)) _⟩

set_option maxHeartbeats 8000000 in
set_option maxRecDepth 100000 in
theorem move_call {w : World} {b : Nat} {v vL vR : Value} {K : List (Com × Value)} {G : Gr} (h : MA w b v vL vR K G) (n : List UInt8) (r : Int) (hs : SrR G.rs) (hl : G.rs.length ≤ 1000000) :
    Calls Tryz.prog 43 #[.pointer (some ⟨b, 0, none⟩), .string (str n), .int .i64 r] w fun e w' => e = .returned (.tuple #[]) ∧ MvE w b v vL K ⟨G.cs, G.ls, mvR n r G.rs⟩ w' := by
  obtain ⟨ao, c, rfl, hc, hm, hat⟩ := h.rfs.at
  unfold maxLen at hm
  have HAt : Hid (∀ i (hi : i < G.rs.length), ∃ g, ao = some ⟨g, 0, none⟩ ∧ w.cell? ⟨g, i * 2, none⟩ = some (.string (str G.rs[i].1)) ∧ w.cell? ⟨g, i * 2 + 1, none⟩ = some (.int .i64 G.rs[i].2)) := hat
  have HM : Hid (MA w b v vL (.slice ao G.rs.length c) K G) := h
  have HS : Hid (SrR G.rs) := hs
  obtain ⟨rn, hrn⟩ : ∃ rn : Nat, rn = G.rs.length := ⟨_, rfl⟩
  have HRn : Hid (rn = G.rs.length) := hrn
  rw [← hrn] at hc hl
  clear hat h hs hrn
  go_enter Tryz.func43, Tryz.ntmps43
  go_wp2_with fail
  go_loopw [6, 7, 8] (fun ov pv iv wr => MvI w n r G.rs ov pv iv wr) (fun _ _ iv _ => rn - (intOf iv).toNat)
  case atStart => exact ⟨0, [], false, rfl, rfl, Nat.zero_le _, .inl ⟨rfl, rfl⟩, Nat.zero_le _, World.ownsRow_nil _ _ _ _, Kept.refl _ _⟩
  case round =>
    obtain ⟨i, out, put, rfl, rfl, hi, HP, HL, HO, HK⟩ := hrel
    have hsz := HK.out.size
    obtain ⟨c0, c1, c2⟩ := cells3 (HM.out.kept HK.out).at_
    rw [← HRn.out] at c2
    have HO2 := fun ob => World.ownsRow.alloc HO.out ob
    have hlen : out.length ≤ 1000000000 := by have := HL.out; have := HRn.out; omega
    have HKa := fun ob => HK.out.alloc ob
    by_cases hlt : i < rn
    · have hlt' : (i : Int) < rn := by omega
      have hic : i ≤ c := by omega
      have hir : i < G.rs.length := by rw [← HRn.out]; exact hlt
      obtain ⟨g, rfl, d0, d1⟩ := HAt.out i hir
      have e0 := HK.out.cell d0 (by simp)
      have e1 := HK.out.cell d1 (by simp)
      have E0 : Hid (w.cell? ⟨g, i * 2, none⟩ = some (.string (str G.rs[i].1))) := d0
      have E1 : Hid (w.cell? ⟨g, i * 2 + 1, none⟩ = some (.int .i64 G.rs[i].2)) := d1
      clear d0 d1
      obtain ⟨y, hy⟩ : ∃ y, y = G.rs[i] := ⟨_, rfl⟩
      rw [← hy] at e0 e1 E0 E1
      cases put with
      | false =>
        by_cases hlt1 : y.1 < n
        · have hb1 : Op.bytesLess (str y.1).toList (str n).toList = true := by rw [less_strM]; simpa using hlt1
          have hb2 : ((str y.1).toList == (str n).toList) = false := by rw [str_eqC]; simp; intro e; rw [e] at hlt1; exact List.lt_irrefl _ hlt1
          have HN : Hid (MvP n r G.rs (i + 1) false (out ++ [y])) := by rw [hy]; exact mv_lt hir HP.out (by rw [← hy]; exact hlt1)
          clear hlt1 hy
          go_wp2_with (at_builtin; refine wp_appM rfl _ _ rfl w.heap.size _ out rfl (HO2 _) wr.heap.size y rfl (heap_alloc_new _ _) hlen (by simp; omega) ?a1)
          case a1 =>
            intro v2 w2 hO2 hg2
            have HF : Hid (MvI w n r G.rs v2 (.bool false) (.int .i64 ((i + 1 : Nat) : Int)) w2) := ⟨i + 1, _, false, rfl, rfl, by omega, HN, (by have := HL.out; show _ ≤ _; simp; omega), hO2, (HKa (.cells #[.string (str y.1), .int .i64 y.2] 116)).grown hg2 (fun k hk => .inr (World.ownsRow.lt (HO2 (.cells #[.string (str y.1), .int .i64 y.2] 116)) k hk).1)⟩
            clear hO2 hg2
            go_wp2_with fail
            go_roundw
            case rel => exact HF.out
            case measure => simp [intOf]; omega
        · have hb1 : Op.bytesLess (str y.1).toList (str n).toList = false := by rw [less_strM]; simpa using hlt1
          by_cases he : y.1 = n
          · have hb2 : ((str y.1).toList == (str n).toList) = true := by rw [str_eqC]; simpa using he
            have HN : Hid (MvP n r G.rs (i + 1) true (out ++ [(n, r)])) := mv_eq HS.out hir HP.out (by rw [← hy]; exact he)
            clear hlt1 hy he
            go_wp2_with (at_builtin; refine wp_appM rfl _ _ rfl w.heap.size _ out rfl (HO2 _) wr.heap.size (n, r) rfl (heap_alloc_new _ _) hlen (by simp; omega) ?a2)
            case a2 =>
              intro v2 w2 hO2 hg2
              have hK2 := (HKa (.cells #[.string (str n), .int .i64 r] 116)).grown hg2 (fun k hk => .inr (World.ownsRow.lt (HO2 (.cells #[.string (str n), .int .i64 r] 116)) k hk).1)
              obtain ⟨m0, m1, m2⟩ := cells3 (HM.out.kept hK2).at_
              rw [← HRn.out] at m2
              have k0 := hK2.cell E0.out (by simp)
              have k1 := hK2.cell E1.out (by simp)
              have HF : Hid (MvI w n r G.rs v2 (.bool true) (.int .i64 ((i + 1 : Nat) : Int)) w2) := ⟨i + 1, _, true, rfl, rfl, by omega, HN, (by have := HL.out; show _ ≤ _; simp; omega), hO2, hK2⟩
              clear hO2 hg2 hK2
              go_wp2_with fail
              go_roundw
              case rel => exact HF.out
              case measure => simp [intOf]; omega
          · have hb2 : ((str y.1).toList == (str n).toList) = false := by rw [str_eqC]; simpa using he
            have HN : Hid (MvP n r G.rs (i + 1) true (out ++ [(n, r)] ++ [y])) := by rw [hy]; exact mv_gt HS.out hir HP.out (by rw [← hy]; exact hlt1) (by rw [← hy]; exact he)
            clear hlt1 hy he
            go_wp2_with (at_builtin; refine wp_appM rfl _ _ rfl w.heap.size _ out rfl (HO2 _) wr.heap.size (n, r) rfl (heap_alloc_new _ _) hlen (by simp; omega) ?a3)
            case a3 =>
              intro v2 w2 hO2 hg2
              have hK2 := (HKa (.cells #[.string (str n), .int .i64 r] 116)).grown hg2 (fun k hk => .inr (World.ownsRow.lt (HO2 (.cells #[.string (str n), .int .i64 r] 116)) k hk).1)
              obtain ⟨m0, m1, m2⟩ := cells3 (HM.out.kept hK2).at_
              rw [← HRn.out] at m2
              have k0 := hK2.cell E0.out (by simp)
              have k1 := hK2.cell E1.out (by simp)
              have HK2 : Hid (Kept [] w w2) := hK2
              have HO3 := fun ob => World.ownsRow.alloc hO2 ob
              have hlen3 : (out ++ [(n, r)]).length ≤ 1000000000 := by have := HL.out; have := HRn.out; simp; omega
              have hsz2 := hK2.size
              clear hg2 hK2 HO2 HKa
              go_wp2_with (at_builtin; refine wp_appM rfl _ _ rfl w.heap.size _ (out ++ [(n, r)]) rfl (HO3 _) w2.heap.size y rfl (heap_alloc_new _ _) hlen3 (by simp; omega) ?a4)
              case a4 =>
                intro v3 w3 hO4 hg4
                have HF : Hid (MvI w n r G.rs v3 (.bool true) (.int .i64 ((i + 1 : Nat) : Int)) w3) := ⟨i + 1, _, true, rfl, rfl, by omega, HN, (by have := HL.out; show _ ≤ _; simp; omega), (by show OwnM _ _ _ _; rw [List.append_assoc]; exact hO4), (HK2.out.alloc (.cells #[.string (str y.1), .int .i64 y.2] 116)).grown hg4 (fun k hk => .inr (World.ownsRow.lt (HO3 (.cells #[.string (str y.1), .int .i64 y.2] 116)) k hk).1)⟩
                clear hO4 hg4 HO3
                go_wp2_with fail
                go_roundw
                case rel => exact HF.out
                case measure => simp [intOf]; omega
      | true =>
        by_cases he : y.1 = n
        · have hb2 : ((str y.1).toList == (str n).toList) = true := by rw [str_eqC]; simpa using he
          have HN : Hid (MvP n r G.rs (i + 1) true out) := mv_no hir HP.out (by rw [← hy]; exact he)
          have HF : Hid (MvI w n r G.rs u6 (.bool true) (.int .i64 ((i + 1 : Nat) : Int)) wr) := ⟨i + 1, _, true, rfl, rfl, by omega, HN, (by have := HL.out; show _ ≤ _; omega), HO, HK⟩
          clear hy he
          go_wp2_with fail
          go_roundw
          case rel => exact HF.out
          case measure => simp [intOf]; omega
        · have hb2 : ((str y.1).toList == (str n).toList) = false := by rw [str_eqC]; simpa using he
          have HN : Hid (MvP n r G.rs (i + 1) true (out ++ [y])) := by rw [hy]; exact mv_on hir HP.out (by rw [← hy]; exact he)
          clear hy he
          go_wp2_with (at_builtin; refine wp_appM rfl _ _ rfl w.heap.size _ out rfl (HO2 _) wr.heap.size y rfl (heap_alloc_new _ _) hlen (by simp; omega) ?a5)
          case a5 =>
            intro v2 w2 hO2 hg2
            have HF : Hid (MvI w n r G.rs v2 (.bool true) (.int .i64 ((i + 1 : Nat) : Int)) w2) := ⟨i + 1, _, true, rfl, rfl, by omega, HN, (by have := HL.out; show _ ≤ _; simp; omega), hO2, (HKa (.cells #[.string (str y.1), .int .i64 y.2] 116)).grown hg2 (fun k hk => .inr (World.ownsRow.lt (HO2 (.cells #[.string (str y.1), .int .i64 y.2] 116)) k hk).1)⟩
            clear hO2 hg2
            go_wp2_with fail
            go_roundw
            case rel => exact HF.out
            case measure => simp [intOf]; omega
    · have hlt' : ¬ (i : Int) < rn := by omega
      have hdr : G.rs.drop i = [] := List.drop_eq_nil_of_le (by rw [← HRn.out]; omega)
      cases put with
      | true =>
        have HE : Hid (out = mvR n r G.rs) := by
          have := HP.out
          rcases this with ⟨h, _⟩ | ⟨_, h⟩
          · cases h
          · rw [hdr] at h; show _ = _; simpa using h
        obtain ⟨ao6, c6, he6, _⟩ := HO.out.at
        have HF := mv_end HM.out HK.out HO.out
        rw [HE.out] at HF
        have f2 := froz3 (HM.out.kept HK.out).at_ 2
        subst he6
        clear HO2 HKa hdr
        go_wp2_with fail
        go_returns
        exact ⟨rfl, HF.out⟩
      | false =>
        have HE : Hid (out ++ [(n, r)] = mvR n r G.rs) := by
          have := HP.out
          rcases this with ⟨_, h⟩ | ⟨h, _⟩
          · rw [hdr] at h; exact h
          · cases h
        clear hdr
        go_wp2_with (at_builtin; refine wp_appM rfl _ _ rfl w.heap.size _ out rfl (HO2 _) wr.heap.size (n, r) rfl (heap_alloc_new _ _) hlen (by simp; omega) ?a6)
        case a6 =>
          intro v2 w2 hO2 hg2
          have hK2 := (HKa (.cells #[.string (str n), .int .i64 r] 116)).grown hg2 (fun k hk => .inr (World.ownsRow.lt (HO2 (.cells #[.string (str n), .int .i64 r] 116)) k hk).1)
          obtain ⟨m0, m1, m2⟩ := cells3 (HM.out.kept hK2).at_
          have f2 := froz3 (HM.out.kept hK2).at_ 2
          have HF := mv_end HM.out hK2 hO2
          rw [HE.out] at HF
          obtain ⟨ao6, c6, he6, _⟩ := OwnM.at hO2
          obtain ⟨n6, hn6⟩ : ∃ n6, n6 = (out ++ [(n, r)]).length := ⟨_, rfl⟩
          rw [← hn6] at he6
          subst he6
          clear hn6
          clear hO2 hg2 hK2 HO2 HKa
          go_wp2_with fail
          go_returns
          exact ⟨rfl, HF.out⟩

end Go.Proofs.YtfoghemiaidnhaaGreat
