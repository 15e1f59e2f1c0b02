/-
  Texts of this claim that are laid as one: GrDeed, GrLoop.
-/
import Derived.Test.YtfoghemiaidnhaaGreatM9
import Derived.Test.YtfoghemiaidnhaaGreatGrAwake
import Derived.Test.YtfoghemiaidnhaaGreatGrCopy
import Derived.Test.YtfoghemiaidnhaaGreatM15
/-
  Deeds in memory; room.
-/
namespace Go.Proofs.YtfoghemiaidnhaaGreat
open Go.RowKit

/-- A landing that is asked for: its base, its ref, its changes and where they lie. -/
structure De where
  b : Int
  n : List UInt8
  mo : Option Addr
  m : Nat
  mc : Nat
  l : List Ch

structure DeAt (w : World) (b o : Nat) (x : De) : Prop where
  c0 : w.cell? ⟨b, o, none⟩ = some (.int .i64 x.b)
  c1 : w.cell? ⟨b, o + 1, none⟩ = some (.string (str x.n))
  c2 : w.cell? ⟨b, o + 2, none⟩ = some (.slice x.mo x.m x.mc)
  sl : SlC w x.mo x.m x.mc x.l
  nil : x.mo = none → x.mc = 0

theorem DeAt.kept {a w : World} {b o : Nat} {x : De} (h : DeAt a b o x) (k : Kept [] a w) : DeAt w b o x :=
  ⟨k.cell h.c0 (by simp), k.cell h.c1 (by simp), k.cell h.c2 (by simp), h.sl.kept k (by simp), h.nil⟩

def SlD (w : World) (ao : Option Addr) (n c : Nat) (D : List De) : Prop :=
  D.length = n ∧ n ≤ c ∧ c ≤ maxLen ∧ ∀ i (h : i < D.length), ∃ b o, ao = some ⟨b, o, none⟩ ∧ DeAt w b (o + i * 3) D[i]

theorem SlD.kept {a w : World} {ao : Option Addr} {n c : Nat} {D : List De} (h : SlD a ao n c D) (k : Kept [] a w) : SlD w ao n c D :=
  ⟨h.1, h.2.1, h.2.2.1, fun i hi => by obtain ⟨b, o, e, h1⟩ := h.2.2.2 i hi; exact ⟨b, o, e, h1.kept k⟩⟩

def SmallD (x : De) : Prop := x.n.length ≤ 300 ∧ x.l.length ≤ 40 ∧ ∀ y ∈ x.l, y.p.length ≤ 300

/-- Few and small. -/
def RoomD (D : List De) : Prop := D.length ≤ 100 ∧ ∀ x ∈ D, SmallD x

/-- What room answers. -/
noncomputable def roomD (D : List De) : Bool := @decide (RoomD D) (Classical.propDecidable _)

theorem roomD_true {D : List De} : roomD D = true ↔ RoomD D := by unfold roomD; exact @decide_eq_true_iff _ (Classical.propDecidable _)
theorem roomD_ok {D : List De} (h : RoomD D) : roomD D = true := roomD_true.2 h
theorem roomD_no {D : List De} (h : ¬ RoomD D) : roomD D = false := by
  cases e : roomD D with
  | false => rfl
  | true => exact absurd (roomD_true.1 e) h

def RoI (D : List De) (iv : Value) : Prop := ∃ i : Nat, iv = .int .i64 (i : Int) ∧ i ≤ D.length ∧ Hid (∀ j (h : j < D.length), j < i → SmallD D[j])
def RoJ (x : De) (jv : Value) : Prop := ∃ j : Nat, jv = .int .i64 (j : Int) ∧ j ≤ x.l.length ∧ Hid (∀ q (h : q < x.l.length), q < j → x.l[q].p.length ≤ 300)

set_option maxHeartbeats 4000000 in
set_option maxRecDepth 100000 in
theorem room_callD (w : World) (ao : Option Addr) (n c : Nat) (D : List De) (hS : SlD w ao n c D) :
    Calls Tryz.prog 12 #[.slice ao n c] w fun r w' => r = .returned (.bool (roomD D)) ∧ w' = w := by
  have hl := hS.1
  subst hl
  have hc := hS.2.1
  have hm := hS.2.2.1
  unfold maxLen at hm
  obtain ⟨R, hR⟩ : ∃ R, R = roomD D := ⟨_, rfl⟩
  rw [← hR]
  have HR : Hid (R = roomD D) := hR
  have HS : Hid (SlD w ao D.length c D) := hS
  clear hR hS
  by_cases h1 : 100 < D.length
  · have h1' : (100 : Int) < D.length := by omega
    have HE : Hid (R = false) := by show R = _; rw [HR.out]; exact roomD_no fun h => by have := h.1; omega
    go_enter Tryz.func12, Tryz.ntmps12
    go_wp2_with fail
    go_ret
    exact ⟨by rw [HE.out]; rfl, rfl⟩
  · have h1' : ¬ (100 : Int) < D.length := by omega
    go_enter Tryz.func12, Tryz.ntmps12
    go_wp2_with fail
    go_loop [3] (fun iv => RoI D iv) (fun iv => D.length - (intOf iv).toNat)
    case atStart => exact ⟨0, rfl, Nat.zero_le _, fun j h h2 => by omega⟩
    case round =>
      obtain ⟨i, rfl, hi, HI⟩ := hrel
      by_cases hlt : i < D.length
      · have hlt' : (i : Int) < D.length := by omega
        have hic : i ≤ c := by omega
        obtain ⟨g, o, rfl, hx⟩ := HS.out.2.2.2 i hlt
        obtain ⟨x, hxe⟩ : ∃ x, x = D[i] := ⟨_, rfl⟩
        rw [← hxe] at hx
        have HX : Hid (x = D[i]) := hxe
        obtain ⟨c0, c1, c2, hsl, hnl⟩ := hx
        have hml := hsl.1
        have hmc := hsl.2.1
        have hmm := hsl.2.2.1
        unfold maxLen at hmm
        have HL : Hid (SlC w x.mo x.m x.mc x.l) := hsl
        have hsn : (str x.n).size = x.n.length := str_size _
        clear hxe hsl hnl
        by_cases hn3 : 300 < x.n.length
        · have hn3' : (300 : Int) < x.n.length := by omega
          have HE : Hid (R = false) := by
            show R = _; rw [HR.out]; exact roomD_no fun h => by have := (h.2 D[i] (List.getElem_mem hlt)).1; rw [← HX.out] at this; omega
          go_wp2_with fail
          go_ret
          exact ⟨by rw [HE.out]; rfl, rfl⟩
        · have hn3' : ¬ (300 : Int) < x.n.length := by omega
          by_cases hl4 : 40 < x.m
          · have hl4' : (40 : Int) < x.m := by omega
            have HE : Hid (R = false) := by
              show R = _; rw [HR.out]; exact roomD_no fun h => by have := (h.2 D[i] (List.getElem_mem hlt)).2.1; rw [← HX.out] at this; omega
            go_wp2_with fail
            go_ret
            exact ⟨by rw [HE.out]; rfl, rfl⟩
          · have hl4' : ¬ (40 : Int) < x.m := by omega
            go_wp2_with fail
            go_loop [4] (fun jv => RoJ x jv) (fun jv => x.m - (intOf jv).toNat)
            case atStart => exact ⟨0, rfl, Nat.zero_le _, fun j h h2 => by omega⟩
            case round =>
              obtain ⟨j, rfl, hj, HJ⟩ := hrel
              by_cases hjl : j < x.m
              · have hjl' : (j : Int) < x.m := by omega
                have hjc : j ≤ x.mc := by omega
                obtain ⟨g2, o2, hmo, hy⟩ := HL.out.2.2.2 j (by omega)
                obtain ⟨y, hye⟩ : ∃ y, y = x.l[j]'(by omega) := ⟨_, rfl⟩
                rw [← hye] at hy
                have HY : Hid (y = x.l[j]'(by omega)) := hye
                obtain ⟨d0, d1, d2⟩ := hy
                have hsy : (str y.p).size = y.p.length := str_size _
                rw [hmo] at c2
                clear hye
                by_cases hy3 : 300 < y.p.length
                · have hy3' : (300 : Int) < y.p.length := by omega
                  have HE : Hid (R = false) := by
                    show R = _; rw [HR.out]; exact roomD_no fun h => by
                      have := (h.2 D[i] (List.getElem_mem hlt)).2.2; rw [← HX.out] at this
                      have h5 := this y (by rw [HY.out]; exact List.getElem_mem _); omega
                  clear hmo
                  go_wp2_with fail
                  go_ret
                  exact ⟨by rw [HE.out]; rfl, rfl⟩
                · have hy3' : ¬ (300 : Int) < y.p.length := by omega
                  have HJ2 : Hid (∀ q (h : q < x.l.length), q < j + 1 → x.l[q].p.length ≤ 300) := fun q h h2 => by
                    by_cases e : q = j
                    · subst e; rw [← HY.out]; omega
                    · exact HJ.out q h (by omega)
                  clear hmo
                  go_wp2_with fail
                  go_round
                  case rel => exact ⟨j + 1, by go_num, by omega, HJ2⟩
                  case measure => simp [intOf]; omega
              · have hjl' : ¬ (j : Int) < x.m := by omega
                have HI2 : Hid (∀ q (h : q < D.length), q < i + 1 → SmallD D[q]) := fun q h h2 => by
                  by_cases e : q = i
                  · subst e
                    rw [← HX.out]
                    refine ⟨by omega, by omega, fun y hy => ?_⟩
                    obtain ⟨r, hr, rfl⟩ := List.getElem_of_mem hy
                    exact HJ.out r hr (by omega)
                  · exact HI.out q h (by omega)
                go_wp2_with fail
                go_round
                case rel => exact ⟨i + 1, by go_num, by omega, HI2⟩
                case measure => simp [intOf]; omega
      · have hlt' : ¬ (i : Int) < D.length := by omega
        have HE : Hid (R = true) := by
          show R = _; rw [HR.out]
          exact roomD_ok ⟨by omega, fun x hx => by
            obtain ⟨j, hj, rfl⟩ := List.getElem_of_mem hx
            exact HI.out j hj (by omega)⟩
        go_wp2_with fail
        go_ret
        exact ⟨by rw [HE.out]; rfl, rfl⟩

end Go.Proofs.YtfoghemiaidnhaaGreat

/-
  Landings one behind the other.
-/
namespace Go.Proofs.YtfoghemiaidnhaaGreat
open Go.RowKit

/-- All of these landings, upon nothing. -/
noncomputable def landAll (D : List De) : Gr := D.foldl (fun G x => landG G x.b x.n x.l) voidG

theorem landAll_take {D : List De} {i : Nat} (h : i < D.length) : landAll (D.take (i + 1)) = landG (landAll (D.take i)) D[i].b D[i].n D[i].l := by
  unfold landAll
  rw [List.take_succ_eq_append_getElem h, List.foldl_append]; rfl

theorem reach_fold (D : List De) : ∀ G, Reach G → Reach (D.foldl (fun G x => landG G x.b x.n x.l) G) := by
  induction D with
  | nil => intro G h; exact h
  | cons x D ih => intro G h; exact ih _ (.land _ _ _ h)

theorem landAll_reach (D : List De) : Reach (landAll D) := reach_fold D _ .void

theorem len_fold (D : List De) : ∀ G : Gr, (D.foldl (fun G x => landG G x.b x.n x.l) G).cs.length ≤ G.cs.length + D.length := by
  induction D with
  | nil => intro G; simp
  | cons x D ih => intro G; have h1 := ih (landG G x.b x.n x.l); have h2 := (land_length G x.b x.n x.l).2; simp; omega

theorem landAll_len (D : List De) : (landAll D).cs.length ≤ D.length := by
  have h1 := len_fold D voidG
  have h2 : voidG.cs.length = 0 := rfl
  unfold landAll
  omega

def LdI (w0 : World) (b : Nat) (D : List De) (iv : Value) (wr : World) : Prop := ∃ i : Nat, iv = .int .i64 (i : Int) ∧ i ≤ D.length ∧ Hid (Live w0 wr b (landAll (D.take i)))

theorem live_landD {w0 w : World} {b i : Nat} {D : List De} (h : Live w0 w b (landAll (D.take i))) (hi : i < D.length) (hr : RoomD D) (hsl : SlC w D[i].mo D[i].m D[i].mc D[i].l) (hnl : D[i].mo = none → D[i].mc = 0) :
    Calls Tryz.prog 9 #[.pointer (some ⟨b, 0, none⟩), .int .i64 D[i].b, .string (str D[i].n), .slice D[i].mo D[i].m D[i].mc] w fun e w' => e = .returned (vdV (landV (landAll (D.take i)) D[i].b D[i].n D[i].l)) ∧ Live w0 w' b (landAll (D.take (i + 1))) ∧ Off w w' := by
  obtain ⟨h1, h2, h3⟩ := hr.2 _ (List.getElem_mem hi)
  have hlen := landAll_len (D.take i)
  have h4 := hr.1
  rw [landAll_take hi]
  refine live_land h (landAll_reach _).wf (by simp at hlen; omega) _ _ (by omega) _ _ _ _ hsl hnl (by have := hsl.1; omega) (fun x hx => by have := h3 x hx; omega)

set_option maxRecDepth 100000 in
/-- The commits that a graph tells. -/
theorem commits_call {w : World} {b : Nat} {v : Value} {p : Option Addr} {t : Tr} {mb : Nat} {K : List (Com × Value)} {G : Gr} (h : GA w b v p t mb K G) (hW : Wf G) (hl : G.cs.length ≤ 10000) :
    Calls Tryz.prog 20 #[.pointer (some ⟨b, 0, none⟩)] w fun e w' => CopP w G.cs e w' := by
  obtain ⟨ao, c, hv, hs, hnil⟩ := h.row.sl h.own
  have cC := chain_call h
  have hkl : K.length = G.cs.length := by rw [← h.com]; simp
  have cK := copies_call w ao K.length c K hs hnil (by omega) (fun x hx => by
    have h1 := hW.com x.1 (by rw [← h.com]; exact List.mem_map_of_mem hx)
    have := h1.1.2.1; omega)
  rw [h.com] at cK
  rw [hv] at cC
  clear h hs hv hnil hkl hl hW
  generalize K.length = n at *
  go_enter Tryz.func20, Tryz.ntmps20
  go_wp2_with fail
  refine cC.mono ?_
  rintro _ W ⟨rfl, hW0⟩
  obtain rfl := hW0.symm
  go_wp2_with fail
  refine cK.mono ?_
  rintro e w1 ⟨v1, K1, rfl, h1, h2, h3, h4⟩
  go_wp2_with fail
  go_ret
  exact ⟨v1, K1, rfl, h1, h2, h3, h4⟩

theorem live_commits {w0 w : World} {b : Nat} {G : Gr} (h : Live w0 w b G) (hW : Wf G) (hl : G.cs.length ≤ 10000) :
    Calls Tryz.prog 20 #[.pointer (some ⟨b, 0, none⟩)] w fun e w' => CopP w G.cs e w' := by
  obtain ⟨S, ⟨v, p, t, mb, K, hG, rfl⟩, h2, h3⟩ := h
  exact commits_call hG hW hl

end Go.Proofs.YtfoghemiaidnhaaGreat
