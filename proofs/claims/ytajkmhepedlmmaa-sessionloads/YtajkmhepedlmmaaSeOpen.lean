/-
  Open.
-/
import Derived.Test.YtajkmhepedlmmaaSeUse
namespace Go.Proofs.Ytajkmhepedlmmaa
open Go.RowKit

set_option maxHeartbeats 8000000 in
set_option maxRecDepth 100000 in
theorem open_call {w : World} {b sz : Nat} {v : Value} {X : List (Se × Value)} {L : List Se} (h : TbA w b sz v X L) (hl : L.length ≤ sz) (hs : sz ≤ 1000) (n : List UInt8) (hn : n.length ≤ 140737488351232) (id : Int) :
    Calls Try.prog 11 #[.pointer (some ⟨b, 0, none⟩), .string (str n), .int .i64 id] w fun e w' => e = .returned (.int .i64 (openI n id L)) ∧ TbP w b sz v (openL sz n id L) w' := by
  have hl5 : L.length ≤ 100000 := by omega
  have HT := hide h
  have hXL := h.len
  have HXL := hide hXL
  have hpos := h.pos
  obtain ⟨vao, vc, hve, hvc, hvm, _⟩ := h.row.shape
  subst hve
  obtain ⟨vv, hvv⟩ : ∃ vv, vv = Value.slice vao X.length vc := ⟨_, rfl⟩
  have HVV := hide hvv
  unfold maxLen at hvm
  have H1 : Hid (∀ x ∈ X, x.2.oneCell' = true) := fun x hx => by obtain ⟨_, _, _, e⟩ := (h.own x hx).ko.one; rw [e]; rfl
  have HRw := hide h.row
  clear h hXL hvv
  cases hN : byN n L with
  | some i =>
    obtain ⟨hi, _⟩ := byN_lt hN
    have HOI : Hid (openI n id L = (L.getD i se0).i) := by show _ = _; unfold openI; rw [hN]
    have HOL : Hid (openL sz n id L = useL L i) := by show _ = _; unfold openL; rw [hN]
    go_enter Try.func11, Try.ntmps11
    go_wp2_with fail
    refine (made_callT HT.out).mono ?_
    rintro _ W ⟨rfl, hW0⟩
    obtain rfl := hW0.symm
    go_wp2_with fail
    refine (byN_call HT.out hl5 n).mono ?_
    rintro _ w1 ⟨rfl, hK1⟩
    rw [hN]
    simp only [plV]
    have cU := use_call (HT.out.kept hK1) hl5 i hi
    have hi0 : (0 : Int) ≤ i := by omega
    unfold seV at cU
    generalize L.getD i se0 = x at *
    go_wp2_with fail
    refine cU.mono ?_
    rintro _ w2 ⟨u, rfl, _, v2, X2, hT2, hK2, hv2⟩
    have HE : Hid (TbP w b sz (.slice vao X.length vc) (openL sz n id L) w2) := by
      show TbP _ _ _ _ _ _
      rw [HOL.out]
      exact ⟨v2, X2, hT2, (hK1.mono (by simp)).trans hK2 (by simp), fun k hk => (hv2 k hk).imp (fun e => e) (fun e => Nat.le_trans hK1.size e)⟩
    have hfd : ∀ W : World, (Instr.field 44 (.agg #[.int .i64 x.i, .int .i64 x.q, .string (str x.n), .int .i64 x.v.c, .int .i64 x.v.s, .int .i64 x.v.r, .string (str x.v.p), .int .u64 x.v.d, u, .int .i64 x.v.m]) 0).run Try.prog W = .ok (.int .i64 x.i) W := fun _ => by kernel_rfl
    clear hT2 hK2 hv2 cU hK1
    go_wp2_with fail
    go_ret
    exact ⟨by rw [HOI.out]; rfl, HE.out⟩
  | none =>
    have HOI : Hid (openI n id L = id) := by show _ = _; unfold openI; rw [hN]
    have HOL : Hid (openL sz n id L = fitL sz (restI id L) ++ [⟨id, 0, n, vtC 0⟩]) := by show _ = _; unfold openL; rw [hN]
    cases hI : byI id L with
    | some j =>
      obtain ⟨hj, _⟩ := byI_lt hI
      have hjX : j < X.length := by rw [HXL.out]; exact hj
      have HL5 : Hid ((outL X j).length ≤ 100000) := by show _ ≤ _; rw [outL_length hjX, HXL.out]; omega
      have HM5 : Hid ((outL X j).map Prod.fst = fitL sz (restI id L)) := by
        show _ = _
        rw [map_outL, HT.out.ses]; unfold restI; rw [hI]; unfold fitL
        rw [if_neg (by rw [outL_length hj]; omega)]
      go_enter Try.func11, Try.ntmps11
      go_wp2_with fail
      refine (made_callT HT.out).mono ?_
      rintro _ W ⟨rfl, hW0⟩
      obtain rfl := hW0.symm
      go_wp2_with fail
      refine (byN_call HT.out hl5 n).mono ?_
      rintro _ w1 ⟨rfl, hK1⟩
      rw [hN]
      simp only [plV]

      have HK1 := hide hK1
      have hT1 := HT.out.kept hK1
      obtain ⟨c0, c1⟩ := hT1.cells
      have cI := byI_call hT1 hl5 id
      rw [hI] at cI
      simp only [plV] at cI
      clear hK1 hT1
      go_wp2_with fail
      refine cI.mono ?_
      rintro _ w2 ⟨rfl, hK2⟩
      have HK2 := hide (HK1.out.trans hK2 (by simp))
      clear cI hK2 c0 c1
      have cW := without_call w2 _ X (HRw.out.kept HK2.out) H1.out j hjX (by rw [HXL.out]; omega)
      unfold LiP at cW
      have hd : ¬ ((outL X j).length : Int) = sz := by rw [outL_length hjX, HXL.out]; omega
      go_wp2_with fail
      refine cW.mono ?_
      rintro _ w3 ⟨v3, rfl, hR3, hK3, hv3⟩
      obtain ⟨ao3, c3, rfl, _⟩ := hR3.shape
      have HR5 := hide hR3
      have HK3 := hide (HK2.out.trans hK3 (by simp))
      have HV5 : Hid (∀ k, (Value.slice ao3 (outL X j).length c3).ownBlock = some k → vv.ownBlock = some k ∨ w.heap.size ≤ k) := fun k hk => by
        rcases hv3 k hk with h1 | h1
        · rw [HVV.out]; exact .inl h1
        · exact .inr (Nat.le_trans HK2.out.size h1)
      clear hR3 hK3 hv3 cW hjX
      have HK5 : Hid (Kept [] w w3) := HK3.out
      have hT5 := HT.out.kept HK5.out
      obtain ⟨c0, c1⟩ := hT5.cells
      have cC := strClone_call n w3 (by omega)
      go_wp2_with fail
      refine cC.mono ?_
      rintro _ w6 ⟨rfl, hK6⟩
      have cB := behind_call w6 (Value.slice ao3 (outL X j).length c3) (outL X j) (HR5.out.kept hK6) ⟨id, 0, n, vtC 0⟩ (.slice none 0 0) ⟨_, _, _, rfl⟩ HL5.out
      unfold LiP at cB
      simp only [seV, vtC, str_nil] at cB
      have HK6 := hide (HK5.out.trans hK6 (by simp))
      clear c0 c1 hT5 cC hK6
      go_wp2_with fail
      refine cB.mono ?_
      rintro _ w7 ⟨v7, rfl, hR7, hK7, hv7⟩
      obtain ⟨ao7, m7, c7, rfl⟩ := hR7.one
      have HK7 := hide (HK6.out.trans hK7 (by simp))
      have hT7 := HT.out.kept HK7.out
      obtain ⟨c0, c1⟩ := hT7.cells
      have fz := froz3 hT7.at_ 1
      have HE := hide (HT.out.store HK7.out hR7 (L5 := openL sz n id L) (fun y hy => by
        rcases List.mem_append.1 hy with hy | hy
        · exact (HT.out.own y (mem_outL hy)).kept HK7.out
        · simp at hy; subst hy; exact KoO.nil 0 w7) (by rw [List.map_append, HM5.out, HOL.out]; rfl))
      have HV7 := hide (show ∀ k, _ → vv.ownBlock = some k ∨ w.heap.size ≤ k from fun k hk => by
        rcases hv7 k hk with h1 | h1
        · exact HV5.out k h1
        · exact .inr (Nat.le_trans HK6.out.size h1))
      clear hR7 hK7 hv7 hT7 cB
      go_wp2_with fail
      go_ret
      exact ⟨by rw [HOI.out]; rfl, _, _, HE.out, (HK7.out.mono (by simp)).setCell (by simp) _, by have h := HV7.out; rw [HVV.out] at h; exact h⟩
    | none =>
      have hrI : restI id L = L := by unfold restI; rw [hI]
      by_cases hfull : L.length = sz
      · have h0X : 0 < X.length := by rw [HXL.out]; omega
        have HL5 : Hid ((outL X 0).length ≤ 100000) := by show _ ≤ _; rw [outL_length h0X, HXL.out]; omega
        have HM5 : Hid ((outL X 0).map Prod.fst = fitL sz (restI id L)) := by
          show _ = _
          rw [map_outL, HT.out.ses, hrI]; unfold fitL
          rw [if_pos hfull]; rfl
        have hd : (X.length : Int) = sz := by rw [HXL.out]; omega
        clear hrI
        go_enter Try.func11, Try.ntmps11
        go_wp2_with fail
        refine (made_callT HT.out).mono ?_
        rintro _ W ⟨rfl, hW0⟩
        obtain rfl := hW0.symm
        go_wp2_with fail
        refine (byN_call HT.out hl5 n).mono ?_
        rintro _ w1 ⟨rfl, hK1⟩
        rw [hN]
        simp only [plV]

        have HK1 := hide hK1
        have hT1 := HT.out.kept hK1
        obtain ⟨c0, c1⟩ := hT1.cells
        have cI := byI_call hT1 hl5 id
        rw [hI] at cI
        simp only [plV] at cI
        clear hK1 hT1
        go_wp2_with fail
        refine cI.mono ?_
        rintro _ w2 ⟨rfl, hK2⟩
        have HK2 := hide (HK1.out.trans hK2 (by simp))
        clear cI hK2 c0 c1
        have cW := without_call w2 _ X (HRw.out.kept HK2.out) H1.out 0 h0X (by rw [HXL.out]; omega)
        unfold LiP at cW
        have hT2 := HT.out.kept HK2.out
        obtain ⟨c0, c1⟩ := hT2.cells
        clear hT2
        go_wp2_with fail
        refine cW.mono ?_
        rintro _ w3 ⟨v3, rfl, hR3, hK3, hv3⟩
        obtain ⟨ao3, c3, rfl, _⟩ := hR3.shape
        have HR5 := hide hR3
        have HK3 := hide (HK2.out.trans hK3 (by simp))
        have HV5 : Hid (∀ k, (Value.slice ao3 (outL X 0).length c3).ownBlock = some k → vv.ownBlock = some k ∨ w.heap.size ≤ k) := fun k hk => by
          rcases hv3 k hk with h1 | h1
          · rw [HVV.out]; exact .inl h1
          · exact .inr (Nat.le_trans HK2.out.size h1)
        clear hR3 hK3 hv3 cW c0 c1 h0X
        have HK5 : Hid (Kept [] w w3) := HK3.out
        have hT5 := HT.out.kept HK5.out
        obtain ⟨c0, c1⟩ := hT5.cells
        have cC := strClone_call n w3 (by omega)
        go_wp2_with fail
        refine cC.mono ?_
        rintro _ w6 ⟨rfl, hK6⟩
        have cB := behind_call w6 (Value.slice ao3 (outL X 0).length c3) (outL X 0) (HR5.out.kept hK6) ⟨id, 0, n, vtC 0⟩ (.slice none 0 0) ⟨_, _, _, rfl⟩ HL5.out
        unfold LiP at cB
        simp only [seV, vtC, str_nil] at cB
        have HK6 := hide (HK5.out.trans hK6 (by simp))
        clear c0 c1 hT5 cC hK6
        go_wp2_with fail
        refine cB.mono ?_
        rintro _ w7 ⟨v7, rfl, hR7, hK7, hv7⟩
        obtain ⟨ao7, m7, c7, rfl⟩ := hR7.one
        have HK7 := hide (HK6.out.trans hK7 (by simp))
        have hT7 := HT.out.kept HK7.out
        obtain ⟨c0, c1⟩ := hT7.cells
        have fz := froz3 hT7.at_ 1
        have HE := hide (HT.out.store HK7.out hR7 (L5 := openL sz n id L) (fun y hy => by
          rcases List.mem_append.1 hy with hy | hy
          · exact (HT.out.own y (mem_outL hy)).kept HK7.out
          · simp at hy; subst hy; exact KoO.nil 0 w7) (by rw [List.map_append, HM5.out, HOL.out]; rfl))
        have HV7 := hide (show ∀ k, _ → vv.ownBlock = some k ∨ w.heap.size ≤ k from fun k hk => by
          rcases hv7 k hk with h1 | h1
          · exact HV5.out k h1
          · exact .inr (Nat.le_trans HK6.out.size h1))
        clear hR7 hK7 hv7 hT7 cB
        go_wp2_with fail
        go_ret
        exact ⟨by rw [HOI.out]; rfl, _, _, HE.out, (HK7.out.mono (by simp)).setCell (by simp) _, by have h := HV7.out; rw [HVV.out] at h; exact h⟩
      · have HL5 : Hid (X.length ≤ 100000) := by show _ ≤ _; rw [HXL.out]; omega
        have HM5 : Hid (X.map Prod.fst = fitL sz (restI id L)) := by
          show _ = _
          rw [HT.out.ses, hrI]; unfold fitL
          rw [if_neg hfull]
        have hd : ¬ (X.length : Int) = sz := by rw [HXL.out]; omega
        clear hrI
        go_enter Try.func11, Try.ntmps11
        go_wp2_with fail
        refine (made_callT HT.out).mono ?_
        rintro _ W ⟨rfl, hW0⟩
        obtain rfl := hW0.symm
        go_wp2_with fail
        refine (byN_call HT.out hl5 n).mono ?_
        rintro _ w1 ⟨rfl, hK1⟩
        rw [hN]
        simp only [plV]

        have HK1 := hide hK1
        have hT1 := HT.out.kept hK1
        obtain ⟨c0, c1⟩ := hT1.cells
        have cI := byI_call hT1 hl5 id
        rw [hI] at cI
        simp only [plV] at cI
        clear hK1 hT1
        go_wp2_with fail
        refine cI.mono ?_
        rintro _ w2 ⟨rfl, hK2⟩
        have HK2 := hide (HK1.out.trans hK2 (by simp))
        clear cI hK2 c0 c1
        have HR5 := hide (HRw.out.kept HK2.out)
        have HV5 : Hid (∀ k, (Value.slice vao X.length vc).ownBlock = some k → vv.ownBlock = some k ∨ w.heap.size ≤ k) := fun k hk => by rw [HVV.out]; exact .inl hk
        have HK5 : Hid (Kept [] w w2) := HK2.out
        have hT5 := HT.out.kept HK5.out
        obtain ⟨c0, c1⟩ := hT5.cells
        have cC := strClone_call n w2 (by omega)
        go_wp2_with fail
        refine cC.mono ?_
        rintro _ w6 ⟨rfl, hK6⟩
        have cB := behind_call w6 (Value.slice vao X.length vc) (X) (HR5.out.kept hK6) ⟨id, 0, n, vtC 0⟩ (.slice none 0 0) ⟨_, _, _, rfl⟩ HL5.out
        unfold LiP at cB
        simp only [seV, vtC, str_nil] at cB
        have HK6 := hide (HK5.out.trans hK6 (by simp))
        clear c0 c1 hT5 cC hK6
        go_wp2_with fail
        refine cB.mono ?_
        rintro _ w7 ⟨v7, rfl, hR7, hK7, hv7⟩
        obtain ⟨ao7, m7, c7, rfl⟩ := hR7.one
        have HK7 := hide (HK6.out.trans hK7 (by simp))
        have hT7 := HT.out.kept HK7.out
        obtain ⟨c0, c1⟩ := hT7.cells
        have fz := froz3 hT7.at_ 1
        have HE := hide (HT.out.store HK7.out hR7 (L5 := openL sz n id L) (fun y hy => by
          rcases List.mem_append.1 hy with hy | hy
          · exact (HT.out.own y (hy)).kept HK7.out
          · simp at hy; subst hy; exact KoO.nil 0 w7) (by rw [List.map_append, HM5.out, HOL.out]; rfl))
        have HV7 := hide (show ∀ k, _ → vv.ownBlock = some k ∨ w.heap.size ≤ k from fun k hk => by
          rcases hv7 k hk with h1 | h1
          · exact HV5.out k h1
          · exact .inr (Nat.le_trans HK6.out.size h1))
        clear hR7 hK7 hv7 hT7 cB
        go_wp2_with fail
        go_ret
        exact ⟨by rw [HOI.out]; rfl, _, _, HE.out, (HK7.out.mono (by simp)).setCell (by simp) _, by have h := HV7.out; rw [HVV.out] at h; exact h⟩

end Go.Proofs.Ytajkmhepedlmmaa
