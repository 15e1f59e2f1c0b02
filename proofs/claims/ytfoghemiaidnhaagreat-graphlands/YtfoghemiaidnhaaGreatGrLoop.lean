/-
  Landings one behind the other.
-/
import Derived.Test.YtfoghemiaidnhaaGreatGrAwake
import Derived.Test.YtfoghemiaidnhaaGreatGrDeed
import Derived.Test.YtfoghemiaidnhaaGreatGrCopy
import Derived.Test.YtfoghemiaidnhaaGreatGrHist
namespace Go.Proofs.YtfoghemiaidnhaaGreat
open Go.RowKit

/-- All of these landings, upon nothing. -/
noncomputable def landAll (D : List De) : Gr := D.foldl (fun G x => landG G x.b x.n x.l) voidG

theorem landAll_take {D : List De} {i : Nat} (h : i < D.length) : landAll (D.take (i + 1)) = landG (landAll (D.take i)) D[i].b D[i].n D[i].l := by
  unfold landAll
  rw [List.take_succ_eq_append_getElem h, List.foldl_append]; rfl

theorem reach_fold (D : List De) : ∀ G, Reach G → Reach (D.foldl (fun G x => landG G x.b x.n x.l) G) := by
  induction D with
  | nil => intro G h; exact h
  | cons x D ih => intro G h; exact ih _ (.land _ _ _ h)

theorem landAll_reach (D : List De) : Reach (landAll D) := reach_fold D _ .void

theorem len_fold (D : List De) : ∀ G : Gr, (D.foldl (fun G x => landG G x.b x.n x.l) G).cs.length ≤ G.cs.length + D.length := by
  induction D with
  | nil => intro G; simp
  | cons x D ih => intro G; have h1 := ih (landG G x.b x.n x.l); have h2 := (land_length G x.b x.n x.l).2; simp; omega

theorem landAll_len (D : List De) : (landAll D).cs.length ≤ D.length := by
  have h1 := len_fold D voidG
  have h2 : voidG.cs.length = 0 := rfl
  unfold landAll
  omega

def LdI (w0 : World) (b : Nat) (D : List De) (iv : Value) (wr : World) : Prop := ∃ i : Nat, iv = .int .i64 (i : Int) ∧ i ≤ D.length ∧ Hid (Live w0 wr b (landAll (D.take i)))

theorem live_landD {w0 w : World} {b i : Nat} {D : List De} (h : Live w0 w b (landAll (D.take i))) (hi : i < D.length) (hr : RoomD D) (hsl : SlC w D[i].mo D[i].m D[i].mc D[i].l) (hnl : D[i].mo = none → D[i].mc = 0) :
    Calls Tryz.prog 9 #[.pointer (some ⟨b, 0, none⟩), .int .i64 D[i].b, .string (str D[i].n), .slice D[i].mo D[i].m D[i].mc] w fun e w' => e = .returned (vdV (landV (landAll (D.take i)) D[i].b D[i].n D[i].l)) ∧ Live w0 w' b (landAll (D.take (i + 1))) ∧ Off w w' := by
  obtain ⟨h1, h2, h3⟩ := hr.2 _ (List.getElem_mem hi)
  have hlen := landAll_len (D.take i)
  have h4 := hr.1
  rw [landAll_take hi]
  refine live_land h (landAll_reach _).wf (by simp at hlen; omega) _ _ (by omega) _ _ _ _ hsl hnl (by have := hsl.1; omega) (fun x hx => by have := h3 x hx; omega)

set_option maxRecDepth 100000 in
/-- The commits that a graph tells. -/
theorem commits_call {w : World} {b : Nat} {v : Value} {p : Option Addr} {t : Tr} {mb : Nat} {K : List (Com × Value)} {G : Gr} (h : GA w b v p t mb K G) (hW : Wf G) (hl : G.cs.length ≤ 10000) :
    Calls Tryz.prog 20 #[.pointer (some ⟨b, 0, none⟩)] w fun e w' => CopP w G.cs e w' := by
  obtain ⟨ao, c, hv, hs, hnil⟩ := h.row.sl h.own
  have cC := chain_call h
  have hkl : K.length = G.cs.length := by rw [← h.com]; simp
  have cK := copies_call w ao K.length c K hs hnil (by omega) (fun x hx => by
    have h1 := hW.com x.1 (by rw [← h.com]; exact List.mem_map_of_mem hx)
    have := h1.1.2.1; omega)
  rw [h.com] at cK
  rw [hv] at cC
  clear h hs hv hnil hkl hl hW
  generalize K.length = n at *
  go_enter Tryz.func20, Tryz.ntmps20
  go_wp2_with fail
  refine cC.mono ?_
  rintro _ W ⟨rfl, hW0⟩
  obtain rfl := hW0.symm
  go_wp2_with fail
  refine cK.mono ?_
  rintro e w1 ⟨v1, K1, rfl, h1, h2, h3, h4⟩
  go_wp2_with fail
  go_ret
  exact ⟨v1, K1, rfl, h1, h2, h3, h4⟩

theorem live_commits {w0 w : World} {b : Nat} {G : Gr} (h : Live w0 w b G) (hW : Wf G) (hl : G.cs.length ≤ 10000) :
    Calls Tryz.prog 20 #[.pointer (some ⟨b, 0, none⟩)] w fun e w' => CopP w G.cs e w' := by
  obtain ⟨S, ⟨v, p, t, mb, K, hG, rfl⟩, h2, h3⟩ := h
  exact commits_call hG hW hl

end Go.Proofs.YtfoghemiaidnhaaGreat
