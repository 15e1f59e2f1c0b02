/-
  SessionClones: the walk.
-/
import Derived.Test.YtajkmhepedlmmaaSeClP0
import Derived.Test.YtajkmhepedlmmaaMtSame
import Derived.Test.YtajkmhepedlmmaaSeRoom
import Derived.BigQuiet
namespace Go.Proofs.Ytajkmhepedlmmaa
open Go.RowKit

def ClI (w2 : World) (b bm n : Nat) (iv : Value) (wr : World) : Prop := ∃ (i : Nat) (L : List Se), iv = .int .i64 (i : Int) ∧ i ≤ n ∧ Hid (PairT w2 wr b bm 3 L L)

def CmI (w2 w3 : World) (b m : Nat) (iv : Value) (wr : World) : Prop := ∃ (i : Nat) (L : List Se), iv = .int .i64 (i : Int) ∧ i ≤ m ∧ Hid (LiveT w2 wr b 3 L) ∧ Hid (Kept [] w3 wr)

def CsI2 (w5 : World) (v : Value) (X : List (Se × Value)) (n : Nat) (iv : Value) (wr : World) : Prop := ∃ i : Nat, iv = .int .i64 (i : Int) ∧ i ≤ n ∧ Hid (Spoil w5 v X wr)

set_option linter.unusedSimpArgs false in
set_option maxHeartbeats 32000000 in
set_option maxRecDepth 100000 in
theorem sclones_walk (W : World) (ao : Option Addr) (n c : Nat) (D : List (Dd × Value)) (hD : SlDd W ao n c D) (bo : Option Addr) (m d : Nat) (E : List (Dd × Value)) (hE : SlDd W bo m d E) :
    Calls Try.prog 7 #[.slice ao n c, .slice bo m d] W fun e w' => e = .returned (.bool true) ∧ Kept [] W w' := by
  have cW := awakeT_call W
  have hc := hD.2.1
  have hm := hD.2.2.1
  have hd := hE.2.1
  have hmE := hE.2.2.1
  unfold maxLen at hm hmE
  have HD := hide hD
  have HL := hide hD.1
  have HE := hide hE
  have HM := hide hE.1
  clear hD hE
  go_enter Try.func7, Try.ntmps7
  go_wp2_with fail
  refine cW.mono ?_
  rintro _ w0 ⟨rfl, hK0⟩
  have cR := roomD_call w0 ao n c D (HD.out.kept hK0)
  clear cW
  go_wp2_with fail
  refine cR.mono ?_
  rintro _ w1 ⟨r, rfl, hr, hK1⟩
  have HK1 := hide (hK0.trans hK1 (by simp))
  clear cR hK0 hK1
  cases r with
  | false =>
    go_wp2_with fail
    go_ret
    exact ⟨rfl, HK1.out⟩
  | true =>
    have hn := hr rfl
    clear hr
    have cR := roomD_call w1 bo m d E (HE.out.kept HK1.out)
    go_wp2_with fail
    refine cR.mono ?_
    rintro _ w2 ⟨r2, rfl, hr2, hK2⟩
    have HK2 := hide (HK1.out.trans hK2 (by simp))
    clear cR hK2
    cases r2 with
    | false =>
      go_wp2_with fail
      go_ret
      exact ⟨rfl, HK2.out⟩
    | true =>
      have hn2 := hr2 rfl
      clear hr2
      replace HD := hide (HD.out.kept HK2.out)
      replace HE := hide (HE.out.kept HK2.out)
      have cN := newT_call w2 3
      unfold NewP at cN
      go_wp2_with fail
      refine cN.mono ?_
      rintro _ w3 (⟨_, _, rfl, rfl⟩ | ⟨hs, _⟩)
      case inr => exact absurd ⟨by omega, by omega⟩ hs
      have cM := newM_call (w2.alloc (.cells #[.int .i64 3, .slice none 0 0] 68)) 3
      unfold NewM at cM
      clear cN
      go_wp2_with fail
      refine cM.mono ?_
      rintro _ w4 (⟨_, _, rfl, rfl⟩ | ⟨hs, _⟩)
      case inr => exact absurd ⟨by omega, by omega⟩ hs
      have HP := hide (PairT.new (Kept.refl [] w2) (sz := 3) (by omega) (by omega))
      rw [World.size_alloc]
      rw [show ((3 : Nat) : Int) = 3 from rfl] at HP
      obtain ⟨w4, hw4⟩ : ∃ w4, w4 = ((w2.alloc (.cells #[.int .i64 3, .slice none 0 0] 68)).alloc (.cells #[.int .i64 3, .slice none 0 0] 51)) := ⟨_, rfl⟩
      rw [← hw4] at HP ⊢
      obtain ⟨b, hb⟩ : ∃ b, b = w2.heap.size := ⟨_, rfl⟩
      obtain ⟨bm, hbm⟩ : ∃ bm, bm = w2.heap.size + 1 := ⟨_, rfl⟩
      rw [← hbm, ← hb] at HP ⊢
      clear hw4 cM hb hbm
      go_wp2_with fail
      go_loopw [9] (fun iv wr => ClI w2 b bm n iv wr) (fun iv _ => n - (intOf iv).toNat)
      case atStart => exact ⟨0, [], rfl, Nat.zero_le _, HP⟩
      case round =>
        obtain ⟨i, L, rfl, hi, HP0⟩ := hrel
        by_cases hlt : i < n
        · have hlt' : (i : Int) < n := by omega
          have hic : i ≤ c := by omega
          have hiD : i < D.length := by rw [HL.out]; exact hlt
          obtain ⟨g, o, he, hx⟩ := HD.out.2.2.2.1 i hiD
          subst he
          obtain ⟨hko, hod⟩ := HD.out.2.2.2.2 _ (List.getElem_mem hiD)
          obtain ⟨mo, mm, mc, hm2⟩ := hko.one
          obtain ⟨z0, z1, z2, z3, z4, z5, z6, z7, z8, z9, z10⟩ := hx
          rw [hm2] at z9 hko
          generalize D[i].1 = y at *
          have HKo := hide hko
          have HOd := hide hod
          clear hko hod hm2 hiD z0
          have cC := pt_open (HP0.out.kept (Kept.refl [] wr).drew) y.n HOd.out.1 y.i
          have HKc := hide HP0.out.keeps
          go_upto_region 12 with fail
          refine wp_region_held_drew (S := fun w' => w'.cell? ⟨g, o + i * 11 + 3, none⟩ = some (.string (str y.n)) ∧ w'.cell? ⟨g, o + i * 11 + 1, none⟩ = some (.int .i64 y.i)) (by kernel_rfl) ⟨HKc.out.cell z3 (by simp), HKc.out.cell z1 (by simp)⟩ (fun hHeld => ?_)
          refine wpAnyH_take (i := 0) (v := ?_) rfl (by kernel_rfl) (by kernel_rfl) (by kernel_rfl) (fun _ _ _ h => h) (Or.inl ⟨by rfl, ?_⟩) hHeld ?_
          rotate_left
          · intro w9 hSw; (try dsimp only at hSw); go_simp; (try with_reducible rfl)
          try simp only [List.getElem_toArray, List.getElem_cons_succ, List.getElem_cons_zero, Act.put, List.setIfInBounds_toArray, List.set_cons_zero, List.set_cons_succ]
          refine wpAnyH_take (i := 1) (v := ?_) rfl (by kernel_rfl) (by kernel_rfl) (by kernel_rfl) (fun _ _ _ h => h) (Or.inl ⟨by rfl, ?_⟩) hHeld ?_
          rotate_left
          · intro w9 hSw; (try dsimp only at hSw); go_simp; (try with_reducible rfl)
          try simp only [List.getElem_toArray, List.getElem_cons_succ, List.getElem_cons_zero, Act.put, List.setIfInBounds_toArray, List.set_cons_zero, List.set_cons_succ]
          refine wpAnyH_take (i := 2) (v := ?_) rfl (by kernel_rfl) (by kernel_rfl) (by kernel_rfl) (fun _ _ _ h => h) (Or.inl ⟨by rfl, ?_⟩) hHeld ?_
          rotate_left
          · intro w9 hSw; (try dsimp only at hSw); go_simp; (try with_reducible rfl)
          try simp only [List.getElem_toArray, List.getElem_cons_succ, List.getElem_cons_zero, Act.put, List.setIfInBounds_toArray, List.set_cons_zero, List.set_cons_succ]
          refine wpAnyH_take (i := 3) (v := ?_) rfl (by kernel_rfl) (by kernel_rfl) (by kernel_rfl) (fun _ _ _ h => h) (Or.inl ⟨by rfl, ?_⟩) hHeld ?_
          rotate_left
          · intro w9 hSw; (try dsimp only at hSw); go_simp; (try with_reducible rfl)
          try simp only [List.getElem_toArray, List.getElem_cons_succ, List.getElem_cons_zero, Act.put, List.setIfInBounds_toArray, List.set_cons_zero, List.set_cons_succ]
          refine wpAnyH_take (i := 4) (v := ?_) rfl (by kernel_rfl) (by kernel_rfl) (by kernel_rfl) (fun _ _ _ h => h) (Or.inl ⟨by rfl, ?_⟩) hHeld ?_
          rotate_left
          · intro w9 hSw; (try dsimp only at hSw); go_simp; (try with_reducible rfl)
          try simp only [List.getElem_toArray, List.getElem_cons_succ, List.getElem_cons_zero, Act.put, List.setIfInBounds_toArray, List.set_cons_zero, List.set_cons_succ]
          refine wpAnyH_take (i := 5) (v := ?_) rfl (by kernel_rfl) (by kernel_rfl) (by kernel_rfl) (fun _ _ _ h => h) (Or.inl ⟨by rfl, ?_⟩) hHeld ?_
          rotate_left
          · intro w9 hSw; (try dsimp only at hSw); go_simp; (try with_reducible rfl)
          try simp only [List.getElem_toArray, List.getElem_cons_succ, List.getElem_cons_zero, Act.put, List.setIfInBounds_toArray, List.set_cons_zero, List.set_cons_succ]
          refine wpAnyH_take (i := 6) (v := ?_) rfl (by kernel_rfl) (by kernel_rfl) (by kernel_rfl) (fun _ _ _ h => h) (Or.inl ⟨by rfl, ?_⟩) hHeld ?_
          rotate_left
          · intro w9 hSw; (try dsimp only at hSw); go_simp; (try with_reducible rfl)
          try simp only [List.getElem_toArray, List.getElem_cons_succ, List.getElem_cons_zero, Act.put, List.setIfInBounds_toArray, List.set_cons_zero, List.set_cons_succ]
          refine wpAnyH_take (i := 7) (v := ?_) rfl (by kernel_rfl) (by kernel_rfl) (by kernel_rfl) (fun _ _ _ h => h) (Or.inl ⟨by rfl, ?_⟩) hHeld ?_
          rotate_left
          · intro w9 hSw; (try dsimp only at hSw); go_simp; (try with_reducible rfl)
          try simp only [List.getElem_toArray, List.getElem_cons_succ, List.getElem_cons_zero, Act.put, List.setIfInBounds_toArray, List.set_cons_zero, List.set_cons_succ]
          refine wpAnyH_take (i := 8) (v := ?_) rfl (by kernel_rfl) (by kernel_rfl) (by kernel_rfl) (fun _ _ _ h => h) (Or.inl ⟨by rfl, ?_⟩) hHeld ?_
          rotate_left
          · intro w9 hSw; (try dsimp only at hSw); go_simp; (try with_reducible rfl)
          try simp only [List.getElem_toArray, List.getElem_cons_succ, List.getElem_cons_zero, Act.put, List.setIfInBounds_toArray, List.set_cons_zero, List.set_cons_succ]
          refine wpAnyH_take (i := 9) (v := ?_) rfl (by kernel_rfl) (by kernel_rfl) (by kernel_rfl) (fun _ _ _ h => h) (Or.inl ⟨by rfl, ?_⟩) hHeld ?_
          rotate_left
          · intro w9 hSw; (try dsimp only at hSw); go_simp; (try with_reducible rfl)
          try simp only [List.getElem_toArray, List.getElem_cons_succ, List.getElem_cons_zero, Act.put, List.setIfInBounds_toArray, List.set_cons_zero, List.set_cons_succ]
          refine wpAnyH_take (i := 10) (v := ?_) rfl (by kernel_rfl) (by kernel_rfl) (by kernel_rfl) (fun _ _ _ h => h) (Or.inl ⟨by rfl, ?_⟩) hHeld ?_
          rotate_left
          · intro w9 hSw; (try dsimp only at hSw); go_simp; (try with_reducible rfl)
          try simp only [List.getElem_toArray, List.getElem_cons_succ, List.getElem_cons_zero, Act.put, List.setIfInBounds_toArray, List.set_cons_zero, List.set_cons_succ]
          refine wpAnyH_ready (rs := [11]) (by kernel_rfl) (by simp) (AllReadyH.cons rfl (fun K0 hK0 => ?_) AllReadyH.nil)
          go_simp
          refine (cC).mono ?_
          rintro _ w5 ⟨rfl, hP5, _⟩
          replace HKc := hide hP5.keeps
          have cC := pt_done (hP5.kept (Kept.refl [] w5).drew) y.i y.q y.v (.slice mo mm mc) HKo.out HOd.out.2
          unfold vtV at cC
          clear hP5
          go_wp2_with fail
          refine hK0.out _ _ ⟨HKc.out.cell z3 (by simp), HKc.out.cell z1 (by simp)⟩ (fun hHeld => ?_)
          clear hK0 K0
          try simp only [List.getElem_toArray, List.getElem_cons_succ, List.getElem_cons_zero, Act.put, List.setIfInBounds_toArray, List.set_cons_zero, List.set_cons_succ]
          refine wpAnyH_done (by kernel_rfl) ?_ _
          clear hHeld
          go_upto_region 13 with fail
          refine wp_region_held_drew (S := fun w' => w'.cell? ⟨g, o + i * 11 + 1, none⟩ = some (.int .i64 y.i) ∧ w'.cell? ⟨g, o + i * 11 + 2, none⟩ = some (.int .i64 y.q) ∧ w'.cell? ⟨g, o + i * 11 + 4, none⟩ = some (.int .i64 y.v.c) ∧ w'.cell? ⟨g, o + i * 11 + 5, none⟩ = some (.int .i64 y.v.s) ∧ w'.cell? ⟨g, o + i * 11 + 6, none⟩ = some (.int .i64 y.v.r) ∧ w'.cell? ⟨g, o + i * 11 + 7, none⟩ = some (.string (str y.v.p)) ∧ w'.cell? ⟨g, o + i * 11 + 8, none⟩ = some (.int .u64 y.v.d) ∧ w'.cell? ⟨g, o + i * 11 + 9, none⟩ = some (.slice mo mm mc) ∧ w'.cell? ⟨g, o + i * 11 + 10, none⟩ = some (.int .i64 y.v.m)) (by kernel_rfl) ⟨HKc.out.cell z1 (by simp), HKc.out.cell z2 (by simp), HKc.out.cell z4 (by simp), HKc.out.cell z5 (by simp), HKc.out.cell z6 (by simp), HKc.out.cell z7 (by simp), HKc.out.cell z8 (by simp), HKc.out.cell z9 (by simp), HKc.out.cell z10 (by simp)⟩ (fun hHeld => ?_)
          refine wpAnyH_take (i := 0) (v := ?_) rfl (by kernel_rfl) (by kernel_rfl) (by kernel_rfl) (fun _ _ _ h => h) (Or.inl ⟨by rfl, ?_⟩) hHeld ?_
          rotate_left
          · intro w9 hSw; (try dsimp only at hSw); go_simp; (try with_reducible rfl)
          try simp only [List.getElem_toArray, List.getElem_cons_succ, List.getElem_cons_zero, Act.put, List.setIfInBounds_toArray, List.set_cons_zero, List.set_cons_succ]
          refine wpAnyH_take (i := 1) (v := ?_) rfl (by kernel_rfl) (by kernel_rfl) (by kernel_rfl) (fun _ _ _ h => h) (Or.inl ⟨by rfl, ?_⟩) hHeld ?_
          rotate_left
          · intro w9 hSw; (try dsimp only at hSw); go_simp; (try with_reducible rfl)
          try simp only [List.getElem_toArray, List.getElem_cons_succ, List.getElem_cons_zero, Act.put, List.setIfInBounds_toArray, List.set_cons_zero, List.set_cons_succ]
          refine wpAnyH_take (i := 2) (v := ?_) rfl (by kernel_rfl) (by kernel_rfl) (by kernel_rfl) (fun _ _ _ h => h) (Or.inl ⟨by rfl, ?_⟩) hHeld ?_
          rotate_left
          · intro w9 hSw; (try dsimp only at hSw); go_simp; (try with_reducible rfl)
          try simp only [List.getElem_toArray, List.getElem_cons_succ, List.getElem_cons_zero, Act.put, List.setIfInBounds_toArray, List.set_cons_zero, List.set_cons_succ]
          refine wpAnyH_take (i := 3) (v := ?_) rfl (by kernel_rfl) (by kernel_rfl) (by kernel_rfl) (fun _ _ _ h => h) (Or.inl ⟨by rfl, ?_⟩) hHeld ?_
          rotate_left
          · intro w9 hSw; (try dsimp only at hSw); go_simp; (try with_reducible rfl)
          try simp only [List.getElem_toArray, List.getElem_cons_succ, List.getElem_cons_zero, Act.put, List.setIfInBounds_toArray, List.set_cons_zero, List.set_cons_succ]
          refine wpAnyH_take (i := 4) (v := ?_) rfl (by kernel_rfl) (by kernel_rfl) (by kernel_rfl) (fun _ _ _ h => h) (Or.inl ⟨by rfl, ?_⟩) hHeld ?_
          rotate_left
          · intro w9 hSw; (try dsimp only at hSw); go_simp; (try with_reducible rfl)
          try simp only [List.getElem_toArray, List.getElem_cons_succ, List.getElem_cons_zero, Act.put, List.setIfInBounds_toArray, List.set_cons_zero, List.set_cons_succ]
          refine wpAnyH_take (i := 5) (v := ?_) rfl (by kernel_rfl) (by kernel_rfl) (by kernel_rfl) (fun _ _ _ h => h) (Or.inl ⟨by rfl, ?_⟩) hHeld ?_
          rotate_left
          · intro w9 hSw; (try dsimp only at hSw); go_simp; (try with_reducible rfl)
          try simp only [List.getElem_toArray, List.getElem_cons_succ, List.getElem_cons_zero, Act.put, List.setIfInBounds_toArray, List.set_cons_zero, List.set_cons_succ]
          refine wpAnyH_take (i := 6) (v := ?_) rfl (by kernel_rfl) (by kernel_rfl) (by kernel_rfl) (fun _ _ _ h => h) (Or.inl ⟨by rfl, ?_⟩) hHeld ?_
          rotate_left
          · intro w9 hSw; (try dsimp only at hSw); go_simp; (try with_reducible rfl)
          try simp only [List.getElem_toArray, List.getElem_cons_succ, List.getElem_cons_zero, Act.put, List.setIfInBounds_toArray, List.set_cons_zero, List.set_cons_succ]
          refine wpAnyH_take (i := 7) (v := ?_) rfl (by kernel_rfl) (by kernel_rfl) (by kernel_rfl) (fun _ _ _ h => h) (Or.inl ⟨by rfl, ?_⟩) hHeld ?_
          rotate_left
          · intro w9 hSw; (try dsimp only at hSw); go_simp; (try with_reducible rfl)
          try simp only [List.getElem_toArray, List.getElem_cons_succ, List.getElem_cons_zero, Act.put, List.setIfInBounds_toArray, List.set_cons_zero, List.set_cons_succ]
          refine wpAnyH_take (i := 8) (v := ?_) rfl (by kernel_rfl) (by kernel_rfl) (by kernel_rfl) (fun _ _ _ h => h) (Or.inl ⟨by rfl, ?_⟩) hHeld ?_
          rotate_left
          · intro w9 hSw; (try dsimp only at hSw); go_simp; (try with_reducible rfl)
          try simp only [List.getElem_toArray, List.getElem_cons_succ, List.getElem_cons_zero, Act.put, List.setIfInBounds_toArray, List.set_cons_zero, List.set_cons_succ]
          refine wpAnyH_take (i := 9) (v := ?_) rfl (by kernel_rfl) (by kernel_rfl) (by kernel_rfl) (fun _ _ _ h => h) (Or.inl ⟨by rfl, ?_⟩) hHeld ?_
          rotate_left
          · intro w9 hSw; (try dsimp only at hSw); go_simp; (try with_reducible rfl)
          try simp only [List.getElem_toArray, List.getElem_cons_succ, List.getElem_cons_zero, Act.put, List.setIfInBounds_toArray, List.set_cons_zero, List.set_cons_succ]
          refine wpAnyH_take (i := 10) (v := ?_) rfl (by kernel_rfl) (by kernel_rfl) (by kernel_rfl) (fun _ _ _ h => h) (Or.inl ⟨by rfl, ?_⟩) hHeld ?_
          rotate_left
          · intro w9 hSw; (try dsimp only at hSw); go_simp; (try with_reducible rfl)
          try simp only [List.getElem_toArray, List.getElem_cons_succ, List.getElem_cons_zero, Act.put, List.setIfInBounds_toArray, List.set_cons_zero, List.set_cons_succ]
          refine wpAnyH_take (i := 11) (v := ?_) rfl (by kernel_rfl) (by kernel_rfl) (by kernel_rfl) (fun _ _ _ h => h) (Or.inl ⟨by rfl, ?_⟩) hHeld ?_
          rotate_left
          · intro w9 hSw; (try dsimp only at hSw); go_simp; (try with_reducible rfl)
          try simp only [List.getElem_toArray, List.getElem_cons_succ, List.getElem_cons_zero, Act.put, List.setIfInBounds_toArray, List.set_cons_zero, List.set_cons_succ]
          refine wpAnyH_take (i := 12) (v := ?_) rfl (by kernel_rfl) (by kernel_rfl) (by kernel_rfl) (fun _ _ _ h => h) (Or.inl ⟨by rfl, ?_⟩) hHeld ?_
          rotate_left
          · intro w9 hSw; (try dsimp only at hSw); go_simp; (try with_reducible rfl)
          try simp only [List.getElem_toArray, List.getElem_cons_succ, List.getElem_cons_zero, Act.put, List.setIfInBounds_toArray, List.set_cons_zero, List.set_cons_succ]
          refine wpAnyH_take (i := 13) (v := ?_) rfl (by kernel_rfl) (by kernel_rfl) (by kernel_rfl) (fun _ _ _ h => h) (Or.inl ⟨by rfl, ?_⟩) hHeld ?_
          rotate_left
          · intro w9 hSw; (try dsimp only at hSw); go_simp; (try with_reducible rfl)
          try simp only [List.getElem_toArray, List.getElem_cons_succ, List.getElem_cons_zero, Act.put, List.setIfInBounds_toArray, List.set_cons_zero, List.set_cons_succ]
          refine wpAnyH_take (i := 14) (v := ?_) rfl (by kernel_rfl) (by kernel_rfl) (by kernel_rfl) (fun _ _ _ h => h) (Or.inl ⟨by rfl, ?_⟩) hHeld ?_
          rotate_left
          · intro w9 hSw; (try dsimp only at hSw); go_simp; (try with_reducible rfl)
          try simp only [List.getElem_toArray, List.getElem_cons_succ, List.getElem_cons_zero, Act.put, List.setIfInBounds_toArray, List.set_cons_zero, List.set_cons_succ]
          refine wpAnyH_take (i := 15) (v := ?_) rfl (by kernel_rfl) (by kernel_rfl) (by kernel_rfl) (fun _ _ _ h => h) (Or.inl ⟨by rfl, ?_⟩) hHeld ?_
          rotate_left
          · intro w9 hSw; (try dsimp only at hSw); go_simp; (try with_reducible rfl)
          try simp only [List.getElem_toArray, List.getElem_cons_succ, List.getElem_cons_zero, Act.put, List.setIfInBounds_toArray, List.set_cons_zero, List.set_cons_succ]
          refine wpAnyH_ready (rs := [16]) (by kernel_rfl) (by simp) (AllReadyH.cons rfl (fun K0 hK0 => ?_) AllReadyH.nil)
          go_simp
          refine (cC).mono ?_
          rintro _ w6 ⟨rfl, hP6, _⟩
          replace HKc := hide hP6.keeps
          have cC := pm_open (hP6.kept (Kept.refl [] w6).drew) y.n HOd.out.1 y.i
          clear hP6
          go_wp2_with fail
          refine hK0.out _ _ ⟨HKc.out.cell z1 (by simp), HKc.out.cell z2 (by simp), HKc.out.cell z4 (by simp), HKc.out.cell z5 (by simp), HKc.out.cell z6 (by simp), HKc.out.cell z7 (by simp), HKc.out.cell z8 (by simp), HKc.out.cell z9 (by simp), HKc.out.cell z10 (by simp)⟩ (fun hHeld => ?_)
          clear hK0 K0
          try simp only [List.getElem_toArray, List.getElem_cons_succ, List.getElem_cons_zero, Act.put, List.setIfInBounds_toArray, List.set_cons_zero, List.set_cons_succ]
          refine wpAnyH_done (by kernel_rfl) ?_ _
          clear hHeld
          go_upto_region 14 with fail
          refine wp_region_held_drew (S := fun w' => w'.cell? ⟨g, o + i * 11 + 3, none⟩ = some (.string (str y.n)) ∧ w'.cell? ⟨g, o + i * 11 + 1, none⟩ = some (.int .i64 y.i)) (by kernel_rfl) ⟨HKc.out.cell z3 (by simp), HKc.out.cell z1 (by simp)⟩ (fun hHeld => ?_)
          refine wpAnyH_take (i := 0) (v := ?_) rfl (by kernel_rfl) (by kernel_rfl) (by kernel_rfl) (fun _ _ _ h => h) (Or.inl ⟨by rfl, ?_⟩) hHeld ?_
          rotate_left
          · intro w9 hSw; (try dsimp only at hSw); go_simp; (try with_reducible rfl)
          try simp only [List.getElem_toArray, List.getElem_cons_succ, List.getElem_cons_zero, Act.put, List.setIfInBounds_toArray, List.set_cons_zero, List.set_cons_succ]
          refine wpAnyH_take (i := 1) (v := ?_) rfl (by kernel_rfl) (by kernel_rfl) (by kernel_rfl) (fun _ _ _ h => h) (Or.inl ⟨by rfl, ?_⟩) hHeld ?_
          rotate_left
          · intro w9 hSw; (try dsimp only at hSw); go_simp; (try with_reducible rfl)
          try simp only [List.getElem_toArray, List.getElem_cons_succ, List.getElem_cons_zero, Act.put, List.setIfInBounds_toArray, List.set_cons_zero, List.set_cons_succ]
          refine wpAnyH_take (i := 2) (v := ?_) rfl (by kernel_rfl) (by kernel_rfl) (by kernel_rfl) (fun _ _ _ h => h) (Or.inl ⟨by rfl, ?_⟩) hHeld ?_
          rotate_left
          · intro w9 hSw; (try dsimp only at hSw); go_simp; (try with_reducible rfl)
          try simp only [List.getElem_toArray, List.getElem_cons_succ, List.getElem_cons_zero, Act.put, List.setIfInBounds_toArray, List.set_cons_zero, List.set_cons_succ]
          refine wpAnyH_take (i := 3) (v := ?_) rfl (by kernel_rfl) (by kernel_rfl) (by kernel_rfl) (fun _ _ _ h => h) (Or.inl ⟨by rfl, ?_⟩) hHeld ?_
          rotate_left
          · intro w9 hSw; (try dsimp only at hSw); go_simp; (try with_reducible rfl)
          try simp only [List.getElem_toArray, List.getElem_cons_succ, List.getElem_cons_zero, Act.put, List.setIfInBounds_toArray, List.set_cons_zero, List.set_cons_succ]
          refine wpAnyH_take (i := 4) (v := ?_) rfl (by kernel_rfl) (by kernel_rfl) (by kernel_rfl) (fun _ _ _ h => h) (Or.inl ⟨by rfl, ?_⟩) hHeld ?_
          rotate_left
          · intro w9 hSw; (try dsimp only at hSw); go_simp; (try with_reducible rfl)
          try simp only [List.getElem_toArray, List.getElem_cons_succ, List.getElem_cons_zero, Act.put, List.setIfInBounds_toArray, List.set_cons_zero, List.set_cons_succ]
          refine wpAnyH_take (i := 5) (v := ?_) rfl (by kernel_rfl) (by kernel_rfl) (by kernel_rfl) (fun _ _ _ h => h) (Or.inl ⟨by rfl, ?_⟩) hHeld ?_
          rotate_left
          · intro w9 hSw; (try dsimp only at hSw); go_simp; (try with_reducible rfl)
          try simp only [List.getElem_toArray, List.getElem_cons_succ, List.getElem_cons_zero, Act.put, List.setIfInBounds_toArray, List.set_cons_zero, List.set_cons_succ]
          refine wpAnyH_take (i := 6) (v := ?_) rfl (by kernel_rfl) (by kernel_rfl) (by kernel_rfl) (fun _ _ _ h => h) (Or.inl ⟨by rfl, ?_⟩) hHeld ?_
          rotate_left
          · intro w9 hSw; (try dsimp only at hSw); go_simp; (try with_reducible rfl)
          try simp only [List.getElem_toArray, List.getElem_cons_succ, List.getElem_cons_zero, Act.put, List.setIfInBounds_toArray, List.set_cons_zero, List.set_cons_succ]
          refine wpAnyH_take (i := 7) (v := ?_) rfl (by kernel_rfl) (by kernel_rfl) (by kernel_rfl) (fun _ _ _ h => h) (Or.inl ⟨by rfl, ?_⟩) hHeld ?_
          rotate_left
          · intro w9 hSw; (try dsimp only at hSw); go_simp; (try with_reducible rfl)
          try simp only [List.getElem_toArray, List.getElem_cons_succ, List.getElem_cons_zero, Act.put, List.setIfInBounds_toArray, List.set_cons_zero, List.set_cons_succ]
          refine wpAnyH_take (i := 8) (v := ?_) rfl (by kernel_rfl) (by kernel_rfl) (by kernel_rfl) (fun _ _ _ h => h) (Or.inl ⟨by rfl, ?_⟩) hHeld ?_
          rotate_left
          · intro w9 hSw; (try dsimp only at hSw); go_simp; (try with_reducible rfl)
          try simp only [List.getElem_toArray, List.getElem_cons_succ, List.getElem_cons_zero, Act.put, List.setIfInBounds_toArray, List.set_cons_zero, List.set_cons_succ]
          refine wpAnyH_take (i := 9) (v := ?_) rfl (by kernel_rfl) (by kernel_rfl) (by kernel_rfl) (fun _ _ _ h => h) (Or.inl ⟨by rfl, ?_⟩) hHeld ?_
          rotate_left
          · intro w9 hSw; (try dsimp only at hSw); go_simp; (try with_reducible rfl)
          try simp only [List.getElem_toArray, List.getElem_cons_succ, List.getElem_cons_zero, Act.put, List.setIfInBounds_toArray, List.set_cons_zero, List.set_cons_succ]
          refine wpAnyH_take (i := 10) (v := ?_) rfl (by kernel_rfl) (by kernel_rfl) (by kernel_rfl) (fun _ _ _ h => h) (Or.inl ⟨by rfl, ?_⟩) hHeld ?_
          rotate_left
          · intro w9 hSw; (try dsimp only at hSw); go_simp; (try with_reducible rfl)
          try simp only [List.getElem_toArray, List.getElem_cons_succ, List.getElem_cons_zero, Act.put, List.setIfInBounds_toArray, List.set_cons_zero, List.set_cons_succ]
          refine wpAnyH_ready (rs := [11]) (by kernel_rfl) (by simp) (AllReadyH.cons rfl (fun K0 hK0 => ?_) AllReadyH.nil)
          go_simp
          refine (cC).mono ?_
          rintro _ w7 ⟨rfl, hP7, _⟩
          replace HKc := hide hP7.keeps
          have cC := pm_done (hP7.kept (Kept.refl [] w7).drew) y.i y.q y.v (.slice mo mm mc) HKo.out HOd.out.2
          unfold vtV at cC
          clear hP7
          go_wp2_with fail
          refine hK0.out _ _ ⟨HKc.out.cell z3 (by simp), HKc.out.cell z1 (by simp)⟩ (fun hHeld => ?_)
          clear hK0 K0
          try simp only [List.getElem_toArray, List.getElem_cons_succ, List.getElem_cons_zero, Act.put, List.setIfInBounds_toArray, List.set_cons_zero, List.set_cons_succ]
          refine wpAnyH_done (by kernel_rfl) ?_ _
          clear hHeld
          go_upto_region 15 with fail
          refine wp_region_held_drew (S := fun w' => w'.cell? ⟨g, o + i * 11 + 1, none⟩ = some (.int .i64 y.i) ∧ w'.cell? ⟨g, o + i * 11 + 2, none⟩ = some (.int .i64 y.q) ∧ w'.cell? ⟨g, o + i * 11 + 4, none⟩ = some (.int .i64 y.v.c) ∧ w'.cell? ⟨g, o + i * 11 + 5, none⟩ = some (.int .i64 y.v.s) ∧ w'.cell? ⟨g, o + i * 11 + 6, none⟩ = some (.int .i64 y.v.r) ∧ w'.cell? ⟨g, o + i * 11 + 7, none⟩ = some (.string (str y.v.p)) ∧ w'.cell? ⟨g, o + i * 11 + 8, none⟩ = some (.int .u64 y.v.d) ∧ w'.cell? ⟨g, o + i * 11 + 9, none⟩ = some (.slice mo mm mc) ∧ w'.cell? ⟨g, o + i * 11 + 10, none⟩ = some (.int .i64 y.v.m)) (by kernel_rfl) ⟨HKc.out.cell z1 (by simp), HKc.out.cell z2 (by simp), HKc.out.cell z4 (by simp), HKc.out.cell z5 (by simp), HKc.out.cell z6 (by simp), HKc.out.cell z7 (by simp), HKc.out.cell z8 (by simp), HKc.out.cell z9 (by simp), HKc.out.cell z10 (by simp)⟩ (fun hHeld => ?_)
          refine wpAnyH_take (i := 0) (v := ?_) rfl (by kernel_rfl) (by kernel_rfl) (by kernel_rfl) (fun _ _ _ h => h) (Or.inl ⟨by rfl, ?_⟩) hHeld ?_
          rotate_left
          · intro w9 hSw; (try dsimp only at hSw); go_simp; (try with_reducible rfl)
          try simp only [List.getElem_toArray, List.getElem_cons_succ, List.getElem_cons_zero, Act.put, List.setIfInBounds_toArray, List.set_cons_zero, List.set_cons_succ]
          refine wpAnyH_take (i := 1) (v := ?_) rfl (by kernel_rfl) (by kernel_rfl) (by kernel_rfl) (fun _ _ _ h => h) (Or.inl ⟨by rfl, ?_⟩) hHeld ?_
          rotate_left
          · intro w9 hSw; (try dsimp only at hSw); go_simp; (try with_reducible rfl)
          try simp only [List.getElem_toArray, List.getElem_cons_succ, List.getElem_cons_zero, Act.put, List.setIfInBounds_toArray, List.set_cons_zero, List.set_cons_succ]
          refine wpAnyH_take (i := 2) (v := ?_) rfl (by kernel_rfl) (by kernel_rfl) (by kernel_rfl) (fun _ _ _ h => h) (Or.inl ⟨by rfl, ?_⟩) hHeld ?_
          rotate_left
          · intro w9 hSw; (try dsimp only at hSw); go_simp; (try with_reducible rfl)
          try simp only [List.getElem_toArray, List.getElem_cons_succ, List.getElem_cons_zero, Act.put, List.setIfInBounds_toArray, List.set_cons_zero, List.set_cons_succ]
          refine wpAnyH_take (i := 3) (v := ?_) rfl (by kernel_rfl) (by kernel_rfl) (by kernel_rfl) (fun _ _ _ h => h) (Or.inl ⟨by rfl, ?_⟩) hHeld ?_
          rotate_left
          · intro w9 hSw; (try dsimp only at hSw); go_simp; (try with_reducible rfl)
          try simp only [List.getElem_toArray, List.getElem_cons_succ, List.getElem_cons_zero, Act.put, List.setIfInBounds_toArray, List.set_cons_zero, List.set_cons_succ]
          refine wpAnyH_take (i := 4) (v := ?_) rfl (by kernel_rfl) (by kernel_rfl) (by kernel_rfl) (fun _ _ _ h => h) (Or.inl ⟨by rfl, ?_⟩) hHeld ?_
          rotate_left
          · intro w9 hSw; (try dsimp only at hSw); go_simp; (try with_reducible rfl)
          try simp only [List.getElem_toArray, List.getElem_cons_succ, List.getElem_cons_zero, Act.put, List.setIfInBounds_toArray, List.set_cons_zero, List.set_cons_succ]
          refine wpAnyH_take (i := 5) (v := ?_) rfl (by kernel_rfl) (by kernel_rfl) (by kernel_rfl) (fun _ _ _ h => h) (Or.inl ⟨by rfl, ?_⟩) hHeld ?_
          rotate_left
          · intro w9 hSw; (try dsimp only at hSw); go_simp; (try with_reducible rfl)
          try simp only [List.getElem_toArray, List.getElem_cons_succ, List.getElem_cons_zero, Act.put, List.setIfInBounds_toArray, List.set_cons_zero, List.set_cons_succ]
          refine wpAnyH_take (i := 6) (v := ?_) rfl (by kernel_rfl) (by kernel_rfl) (by kernel_rfl) (fun _ _ _ h => h) (Or.inl ⟨by rfl, ?_⟩) hHeld ?_
          rotate_left
          · intro w9 hSw; (try dsimp only at hSw); go_simp; (try with_reducible rfl)
          try simp only [List.getElem_toArray, List.getElem_cons_succ, List.getElem_cons_zero, Act.put, List.setIfInBounds_toArray, List.set_cons_zero, List.set_cons_succ]
          refine wpAnyH_take (i := 7) (v := ?_) rfl (by kernel_rfl) (by kernel_rfl) (by kernel_rfl) (fun _ _ _ h => h) (Or.inl ⟨by rfl, ?_⟩) hHeld ?_
          rotate_left
          · intro w9 hSw; (try dsimp only at hSw); go_simp; (try with_reducible rfl)
          try simp only [List.getElem_toArray, List.getElem_cons_succ, List.getElem_cons_zero, Act.put, List.setIfInBounds_toArray, List.set_cons_zero, List.set_cons_succ]
          refine wpAnyH_take (i := 8) (v := ?_) rfl (by kernel_rfl) (by kernel_rfl) (by kernel_rfl) (fun _ _ _ h => h) (Or.inl ⟨by rfl, ?_⟩) hHeld ?_
          rotate_left
          · intro w9 hSw; (try dsimp only at hSw); go_simp; (try with_reducible rfl)
          try simp only [List.getElem_toArray, List.getElem_cons_succ, List.getElem_cons_zero, Act.put, List.setIfInBounds_toArray, List.set_cons_zero, List.set_cons_succ]
          refine wpAnyH_take (i := 9) (v := ?_) rfl (by kernel_rfl) (by kernel_rfl) (by kernel_rfl) (fun _ _ _ h => h) (Or.inl ⟨by rfl, ?_⟩) hHeld ?_
          rotate_left
          · intro w9 hSw; (try dsimp only at hSw); go_simp; (try with_reducible rfl)
          try simp only [List.getElem_toArray, List.getElem_cons_succ, List.getElem_cons_zero, Act.put, List.setIfInBounds_toArray, List.set_cons_zero, List.set_cons_succ]
          refine wpAnyH_take (i := 10) (v := ?_) rfl (by kernel_rfl) (by kernel_rfl) (by kernel_rfl) (fun _ _ _ h => h) (Or.inl ⟨by rfl, ?_⟩) hHeld ?_
          rotate_left
          · intro w9 hSw; (try dsimp only at hSw); go_simp; (try with_reducible rfl)
          try simp only [List.getElem_toArray, List.getElem_cons_succ, List.getElem_cons_zero, Act.put, List.setIfInBounds_toArray, List.set_cons_zero, List.set_cons_succ]
          refine wpAnyH_take (i := 11) (v := ?_) rfl (by kernel_rfl) (by kernel_rfl) (by kernel_rfl) (fun _ _ _ h => h) (Or.inl ⟨by rfl, ?_⟩) hHeld ?_
          rotate_left
          · intro w9 hSw; (try dsimp only at hSw); go_simp; (try with_reducible rfl)
          try simp only [List.getElem_toArray, List.getElem_cons_succ, List.getElem_cons_zero, Act.put, List.setIfInBounds_toArray, List.set_cons_zero, List.set_cons_succ]
          refine wpAnyH_take (i := 12) (v := ?_) rfl (by kernel_rfl) (by kernel_rfl) (by kernel_rfl) (fun _ _ _ h => h) (Or.inl ⟨by rfl, ?_⟩) hHeld ?_
          rotate_left
          · intro w9 hSw; (try dsimp only at hSw); go_simp; (try with_reducible rfl)
          try simp only [List.getElem_toArray, List.getElem_cons_succ, List.getElem_cons_zero, Act.put, List.setIfInBounds_toArray, List.set_cons_zero, List.set_cons_succ]
          refine wpAnyH_take (i := 13) (v := ?_) rfl (by kernel_rfl) (by kernel_rfl) (by kernel_rfl) (fun _ _ _ h => h) (Or.inl ⟨by rfl, ?_⟩) hHeld ?_
          rotate_left
          · intro w9 hSw; (try dsimp only at hSw); go_simp; (try with_reducible rfl)
          try simp only [List.getElem_toArray, List.getElem_cons_succ, List.getElem_cons_zero, Act.put, List.setIfInBounds_toArray, List.set_cons_zero, List.set_cons_succ]
          refine wpAnyH_take (i := 14) (v := ?_) rfl (by kernel_rfl) (by kernel_rfl) (by kernel_rfl) (fun _ _ _ h => h) (Or.inl ⟨by rfl, ?_⟩) hHeld ?_
          rotate_left
          · intro w9 hSw; (try dsimp only at hSw); go_simp; (try with_reducible rfl)
          try simp only [List.getElem_toArray, List.getElem_cons_succ, List.getElem_cons_zero, Act.put, List.setIfInBounds_toArray, List.set_cons_zero, List.set_cons_succ]
          refine wpAnyH_take (i := 15) (v := ?_) rfl (by kernel_rfl) (by kernel_rfl) (by kernel_rfl) (fun _ _ _ h => h) (Or.inl ⟨by rfl, ?_⟩) hHeld ?_
          rotate_left
          · intro w9 hSw; (try dsimp only at hSw); go_simp; (try with_reducible rfl)
          try simp only [List.getElem_toArray, List.getElem_cons_succ, List.getElem_cons_zero, Act.put, List.setIfInBounds_toArray, List.set_cons_zero, List.set_cons_succ]
          refine wpAnyH_ready (rs := [16]) (by kernel_rfl) (by simp) (AllReadyH.cons rfl (fun K0 hK0 => ?_) AllReadyH.nil)
          go_simp
          refine (cC).mono ?_
          rintro _ w8 ⟨rfl, hP8, _⟩
          replace HKc := hide hP8.keeps
          have HP8 := hide hP8
          clear hP8
          go_wp2_with fail
          refine hK0.out _ _ ⟨HKc.out.cell z1 (by simp), HKc.out.cell z2 (by simp), HKc.out.cell z4 (by simp), HKc.out.cell z5 (by simp), HKc.out.cell z6 (by simp), HKc.out.cell z7 (by simp), HKc.out.cell z8 (by simp), HKc.out.cell z9 (by simp), HKc.out.cell z10 (by simp)⟩ (fun hHeld => ?_)
          clear hK0 K0
          try simp only [List.getElem_toArray, List.getElem_cons_succ, List.getElem_cons_zero, Act.put, List.setIfInBounds_toArray, List.set_cons_zero, List.set_cons_succ]
          refine wpAnyH_done (by kernel_rfl) ?_ _
          clear hHeld
          clear cC HKc z1 z2 z3 z4 z5 z6 z7 z8 z9 z10
          go_wp2_with fail
          go_roundw
          case rel => exact ⟨i + 1, _, by go_num, by omega, HP8⟩
          case measure => simp [intOf]; omega
        · have hlt' : ¬ (i : Int) < n := by omega
          obtain ⟨w3, hw3⟩ : ∃ w3, w3 = wr := ⟨_, rfl⟩
          rw [← hw3] at HP0 ⊢
          clear hw3
          have HP3 := HP0
          obtain ⟨v, X, vm, Y, h1, h2, h3, h4, h5, h6, h7, h8, h9, h10, h11, h12⟩ := HP0.out
          have cC := cloneT_call h1
          unfold CloP at cC
          have HLv : Hid (∀ b' w', TbA w' b' 3 v X L → Kept [] w3 w' → w3.heap.size ≤ b' → LiveT w2 w' b' 3 L) := fun b' w' g1 g2 g3 => ⟨v, X, g1, h4.trans g2 (by simp), Nat.le_trans h4.size g3, fun k hk => h5 k (by simp [ownT, hk]), h7, h10, h11⟩
          clear h1 h2 h3 h4 h5 h6 h7 h8 h9 h10 h11 h12
          go_wp2_with fail
          refine cC.mono ?_
          rintro _ w4 ⟨b', rfl, hT4, hK4, hb4⟩
          have HV4 := hide (HLv.out b' w4 hT4 hK4 hb4)
          have HK4 := hide hK4
          have HB4 := hide hb4
          clear hT4 hK4 hb4 HLv cC
          go_wp2_with fail
          go_loopw [11] (fun iv wr => CmI w2 w3 b' m iv wr) (fun iv _ => m - (intOf iv).toNat)
          case atStart => exact ⟨0, _, rfl, Nat.zero_le _, HV4, HK4⟩
          case round =>
            obtain ⟨i, L', rfl, hi, HV0, HK0⟩ := hrel
            by_cases hlt : i < m
            · have hlt' : (i : Int) < m := by omega
              have hic : i ≤ d := by omega
              have hiD : i < E.length := by rw [HM.out]; exact hlt
              obtain ⟨g, o, he, hx⟩ := HE.out.2.2.2.1 i hiD
              subst he
              obtain ⟨hko, hod⟩ := HE.out.2.2.2.2 _ (List.getElem_mem hiD)
              obtain ⟨mo, mm, mc, hm2⟩ := hko.one
              obtain ⟨z0, z1, z2, z3, z4, z5, z6, z7, z8, z9, z10⟩ := hx
              rw [hm2] at z9 hko
              generalize E[i].1 = y at *
              have HKo := hide hko
              have HOd := hide hod
              clear hko hod hm2 hiD z0
              have cC := liveT_open (HV0.out.kept (Kept.refl [] wr).drew) y.n HOd.out.1 y.i
              have HKc := hide HV0.out.keeps
              go_upto_region 20 with fail
              refine wp_region_held_drew (S := fun w' => w'.cell? ⟨g, o + i * 11 + 3, none⟩ = some (.string (str y.n)) ∧ w'.cell? ⟨g, o + i * 11 + 1, none⟩ = some (.int .i64 y.i)) (by kernel_rfl) ⟨HKc.out.cell z3 (by simp), HKc.out.cell z1 (by simp)⟩ (fun hHeld => ?_)
              refine wpAnyH_take (i := 0) (v := ?_) rfl (by kernel_rfl) (by kernel_rfl) (by kernel_rfl) (fun _ _ _ h => h) (Or.inl ⟨by rfl, ?_⟩) hHeld ?_
              rotate_left
              · intro w9 hSw; (try dsimp only at hSw); go_simp; (try with_reducible rfl)
              try simp only [List.getElem_toArray, List.getElem_cons_succ, List.getElem_cons_zero, Act.put, List.setIfInBounds_toArray, List.set_cons_zero, List.set_cons_succ]
              refine wpAnyH_take (i := 1) (v := ?_) rfl (by kernel_rfl) (by kernel_rfl) (by kernel_rfl) (fun _ _ _ h => h) (Or.inl ⟨by rfl, ?_⟩) hHeld ?_
              rotate_left
              · intro w9 hSw; (try dsimp only at hSw); go_simp; (try with_reducible rfl)
              try simp only [List.getElem_toArray, List.getElem_cons_succ, List.getElem_cons_zero, Act.put, List.setIfInBounds_toArray, List.set_cons_zero, List.set_cons_succ]
              refine wpAnyH_take (i := 2) (v := ?_) rfl (by kernel_rfl) (by kernel_rfl) (by kernel_rfl) (fun _ _ _ h => h) (Or.inl ⟨by rfl, ?_⟩) hHeld ?_
              rotate_left
              · intro w9 hSw; (try dsimp only at hSw); go_simp; (try with_reducible rfl)
              try simp only [List.getElem_toArray, List.getElem_cons_succ, List.getElem_cons_zero, Act.put, List.setIfInBounds_toArray, List.set_cons_zero, List.set_cons_succ]
              refine wpAnyH_take (i := 3) (v := ?_) rfl (by kernel_rfl) (by kernel_rfl) (by kernel_rfl) (fun _ _ _ h => h) (Or.inl ⟨by rfl, ?_⟩) hHeld ?_
              rotate_left
              · intro w9 hSw; (try dsimp only at hSw); go_simp; (try with_reducible rfl)
              try simp only [List.getElem_toArray, List.getElem_cons_succ, List.getElem_cons_zero, Act.put, List.setIfInBounds_toArray, List.set_cons_zero, List.set_cons_succ]
              refine wpAnyH_take (i := 4) (v := ?_) rfl (by kernel_rfl) (by kernel_rfl) (by kernel_rfl) (fun _ _ _ h => h) (Or.inl ⟨by rfl, ?_⟩) hHeld ?_
              rotate_left
              · intro w9 hSw; (try dsimp only at hSw); go_simp; (try with_reducible rfl)
              try simp only [List.getElem_toArray, List.getElem_cons_succ, List.getElem_cons_zero, Act.put, List.setIfInBounds_toArray, List.set_cons_zero, List.set_cons_succ]
              refine wpAnyH_take (i := 5) (v := ?_) rfl (by kernel_rfl) (by kernel_rfl) (by kernel_rfl) (fun _ _ _ h => h) (Or.inl ⟨by rfl, ?_⟩) hHeld ?_
              rotate_left
              · intro w9 hSw; (try dsimp only at hSw); go_simp; (try with_reducible rfl)
              try simp only [List.getElem_toArray, List.getElem_cons_succ, List.getElem_cons_zero, Act.put, List.setIfInBounds_toArray, List.set_cons_zero, List.set_cons_succ]
              refine wpAnyH_take (i := 6) (v := ?_) rfl (by kernel_rfl) (by kernel_rfl) (by kernel_rfl) (fun _ _ _ h => h) (Or.inl ⟨by rfl, ?_⟩) hHeld ?_
              rotate_left
              · intro w9 hSw; (try dsimp only at hSw); go_simp; (try with_reducible rfl)
              try simp only [List.getElem_toArray, List.getElem_cons_succ, List.getElem_cons_zero, Act.put, List.setIfInBounds_toArray, List.set_cons_zero, List.set_cons_succ]
              refine wpAnyH_take (i := 7) (v := ?_) rfl (by kernel_rfl) (by kernel_rfl) (by kernel_rfl) (fun _ _ _ h => h) (Or.inl ⟨by rfl, ?_⟩) hHeld ?_
              rotate_left
              · intro w9 hSw; (try dsimp only at hSw); go_simp; (try with_reducible rfl)
              try simp only [List.getElem_toArray, List.getElem_cons_succ, List.getElem_cons_zero, Act.put, List.setIfInBounds_toArray, List.set_cons_zero, List.set_cons_succ]
              refine wpAnyH_take (i := 8) (v := ?_) rfl (by kernel_rfl) (by kernel_rfl) (by kernel_rfl) (fun _ _ _ h => h) (Or.inl ⟨by rfl, ?_⟩) hHeld ?_
              rotate_left
              · intro w9 hSw; (try dsimp only at hSw); go_simp; (try with_reducible rfl)
              try simp only [List.getElem_toArray, List.getElem_cons_succ, List.getElem_cons_zero, Act.put, List.setIfInBounds_toArray, List.set_cons_zero, List.set_cons_succ]
              refine wpAnyH_take (i := 9) (v := ?_) rfl (by kernel_rfl) (by kernel_rfl) (by kernel_rfl) (fun _ _ _ h => h) (Or.inl ⟨by rfl, ?_⟩) hHeld ?_
              rotate_left
              · intro w9 hSw; (try dsimp only at hSw); go_simp; (try with_reducible rfl)
              try simp only [List.getElem_toArray, List.getElem_cons_succ, List.getElem_cons_zero, Act.put, List.setIfInBounds_toArray, List.set_cons_zero, List.set_cons_succ]
              refine wpAnyH_take (i := 10) (v := ?_) rfl (by kernel_rfl) (by kernel_rfl) (by kernel_rfl) (fun _ _ _ h => h) (Or.inl ⟨by rfl, ?_⟩) hHeld ?_
              rotate_left
              · intro w9 hSw; (try dsimp only at hSw); go_simp; (try with_reducible rfl)
              try simp only [List.getElem_toArray, List.getElem_cons_succ, List.getElem_cons_zero, Act.put, List.setIfInBounds_toArray, List.set_cons_zero, List.set_cons_succ]
              refine wpAnyH_ready (rs := [11]) (by kernel_rfl) (by simp) (AllReadyH.cons rfl (fun K0 hK0 => ?_) AllReadyH.nil)
              go_simp
              refine (cC).mono ?_
              rintro _ w5 ⟨rfl, hP5, hQ5⟩
              replace HKc := hide hP5.keeps
              have HQ5 : Hid (Kept [] w3 w5) := (HK0.out.trans (Kept.refl [] wr).drew (by simp)).trans hQ5 (fun k hk => .inr (by simp at hk; subst hk; exact HB4.out))
              have cC := liveT_done (hP5.kept (Kept.refl [] w5).drew) y.i y.q y.v (.slice mo mm mc) (HKo.out.kept (HKc.out.trans (Kept.refl [] w5).drew (by simp))) HOd.out.2
              unfold vtV at cC
              clear hP5 hQ5
              go_wp2_with fail
              refine hK0.out _ _ ⟨HKc.out.cell z3 (by simp), HKc.out.cell z1 (by simp)⟩ (fun hHeld => ?_)
              clear hK0 K0
              try simp only [List.getElem_toArray, List.getElem_cons_succ, List.getElem_cons_zero, Act.put, List.setIfInBounds_toArray, List.set_cons_zero, List.set_cons_succ]
              refine wpAnyH_done (by kernel_rfl) ?_ _
              clear hHeld
              go_upto_region 21 with fail
              refine wp_region_held_drew (S := fun w' => w'.cell? ⟨g, o + i * 11 + 1, none⟩ = some (.int .i64 y.i) ∧ w'.cell? ⟨g, o + i * 11 + 2, none⟩ = some (.int .i64 y.q) ∧ w'.cell? ⟨g, o + i * 11 + 4, none⟩ = some (.int .i64 y.v.c) ∧ w'.cell? ⟨g, o + i * 11 + 5, none⟩ = some (.int .i64 y.v.s) ∧ w'.cell? ⟨g, o + i * 11 + 6, none⟩ = some (.int .i64 y.v.r) ∧ w'.cell? ⟨g, o + i * 11 + 7, none⟩ = some (.string (str y.v.p)) ∧ w'.cell? ⟨g, o + i * 11 + 8, none⟩ = some (.int .u64 y.v.d) ∧ w'.cell? ⟨g, o + i * 11 + 9, none⟩ = some (.slice mo mm mc) ∧ w'.cell? ⟨g, o + i * 11 + 10, none⟩ = some (.int .i64 y.v.m)) (by kernel_rfl) ⟨HKc.out.cell z1 (by simp), HKc.out.cell z2 (by simp), HKc.out.cell z4 (by simp), HKc.out.cell z5 (by simp), HKc.out.cell z6 (by simp), HKc.out.cell z7 (by simp), HKc.out.cell z8 (by simp), HKc.out.cell z9 (by simp), HKc.out.cell z10 (by simp)⟩ (fun hHeld => ?_)
              refine wpAnyH_take (i := 0) (v := ?_) rfl (by kernel_rfl) (by kernel_rfl) (by kernel_rfl) (fun _ _ _ h => h) (Or.inl ⟨by rfl, ?_⟩) hHeld ?_
              rotate_left
              · intro w9 hSw; (try dsimp only at hSw); go_simp; (try with_reducible rfl)
              try simp only [List.getElem_toArray, List.getElem_cons_succ, List.getElem_cons_zero, Act.put, List.setIfInBounds_toArray, List.set_cons_zero, List.set_cons_succ]
              refine wpAnyH_take (i := 1) (v := ?_) rfl (by kernel_rfl) (by kernel_rfl) (by kernel_rfl) (fun _ _ _ h => h) (Or.inl ⟨by rfl, ?_⟩) hHeld ?_
              rotate_left
              · intro w9 hSw; (try dsimp only at hSw); go_simp; (try with_reducible rfl)
              try simp only [List.getElem_toArray, List.getElem_cons_succ, List.getElem_cons_zero, Act.put, List.setIfInBounds_toArray, List.set_cons_zero, List.set_cons_succ]
              refine wpAnyH_take (i := 2) (v := ?_) rfl (by kernel_rfl) (by kernel_rfl) (by kernel_rfl) (fun _ _ _ h => h) (Or.inl ⟨by rfl, ?_⟩) hHeld ?_
              rotate_left
              · intro w9 hSw; (try dsimp only at hSw); go_simp; (try with_reducible rfl)
              try simp only [List.getElem_toArray, List.getElem_cons_succ, List.getElem_cons_zero, Act.put, List.setIfInBounds_toArray, List.set_cons_zero, List.set_cons_succ]
              refine wpAnyH_take (i := 3) (v := ?_) rfl (by kernel_rfl) (by kernel_rfl) (by kernel_rfl) (fun _ _ _ h => h) (Or.inl ⟨by rfl, ?_⟩) hHeld ?_
              rotate_left
              · intro w9 hSw; (try dsimp only at hSw); go_simp; (try with_reducible rfl)
              try simp only [List.getElem_toArray, List.getElem_cons_succ, List.getElem_cons_zero, Act.put, List.setIfInBounds_toArray, List.set_cons_zero, List.set_cons_succ]
              refine wpAnyH_take (i := 4) (v := ?_) rfl (by kernel_rfl) (by kernel_rfl) (by kernel_rfl) (fun _ _ _ h => h) (Or.inl ⟨by rfl, ?_⟩) hHeld ?_
              rotate_left
              · intro w9 hSw; (try dsimp only at hSw); go_simp; (try with_reducible rfl)
              try simp only [List.getElem_toArray, List.getElem_cons_succ, List.getElem_cons_zero, Act.put, List.setIfInBounds_toArray, List.set_cons_zero, List.set_cons_succ]
              refine wpAnyH_take (i := 5) (v := ?_) rfl (by kernel_rfl) (by kernel_rfl) (by kernel_rfl) (fun _ _ _ h => h) (Or.inl ⟨by rfl, ?_⟩) hHeld ?_
              rotate_left
              · intro w9 hSw; (try dsimp only at hSw); go_simp; (try with_reducible rfl)
              try simp only [List.getElem_toArray, List.getElem_cons_succ, List.getElem_cons_zero, Act.put, List.setIfInBounds_toArray, List.set_cons_zero, List.set_cons_succ]
              refine wpAnyH_take (i := 6) (v := ?_) rfl (by kernel_rfl) (by kernel_rfl) (by kernel_rfl) (fun _ _ _ h => h) (Or.inl ⟨by rfl, ?_⟩) hHeld ?_
              rotate_left
              · intro w9 hSw; (try dsimp only at hSw); go_simp; (try with_reducible rfl)
              try simp only [List.getElem_toArray, List.getElem_cons_succ, List.getElem_cons_zero, Act.put, List.setIfInBounds_toArray, List.set_cons_zero, List.set_cons_succ]
              refine wpAnyH_take (i := 7) (v := ?_) rfl (by kernel_rfl) (by kernel_rfl) (by kernel_rfl) (fun _ _ _ h => h) (Or.inl ⟨by rfl, ?_⟩) hHeld ?_
              rotate_left
              · intro w9 hSw; (try dsimp only at hSw); go_simp; (try with_reducible rfl)
              try simp only [List.getElem_toArray, List.getElem_cons_succ, List.getElem_cons_zero, Act.put, List.setIfInBounds_toArray, List.set_cons_zero, List.set_cons_succ]
              refine wpAnyH_take (i := 8) (v := ?_) rfl (by kernel_rfl) (by kernel_rfl) (by kernel_rfl) (fun _ _ _ h => h) (Or.inl ⟨by rfl, ?_⟩) hHeld ?_
              rotate_left
              · intro w9 hSw; (try dsimp only at hSw); go_simp; (try with_reducible rfl)
              try simp only [List.getElem_toArray, List.getElem_cons_succ, List.getElem_cons_zero, Act.put, List.setIfInBounds_toArray, List.set_cons_zero, List.set_cons_succ]
              refine wpAnyH_take (i := 9) (v := ?_) rfl (by kernel_rfl) (by kernel_rfl) (by kernel_rfl) (fun _ _ _ h => h) (Or.inl ⟨by rfl, ?_⟩) hHeld ?_
              rotate_left
              · intro w9 hSw; (try dsimp only at hSw); go_simp; (try with_reducible rfl)
              try simp only [List.getElem_toArray, List.getElem_cons_succ, List.getElem_cons_zero, Act.put, List.setIfInBounds_toArray, List.set_cons_zero, List.set_cons_succ]
              refine wpAnyH_take (i := 10) (v := ?_) rfl (by kernel_rfl) (by kernel_rfl) (by kernel_rfl) (fun _ _ _ h => h) (Or.inl ⟨by rfl, ?_⟩) hHeld ?_
              rotate_left
              · intro w9 hSw; (try dsimp only at hSw); go_simp; (try with_reducible rfl)
              try simp only [List.getElem_toArray, List.getElem_cons_succ, List.getElem_cons_zero, Act.put, List.setIfInBounds_toArray, List.set_cons_zero, List.set_cons_succ]
              refine wpAnyH_take (i := 11) (v := ?_) rfl (by kernel_rfl) (by kernel_rfl) (by kernel_rfl) (fun _ _ _ h => h) (Or.inl ⟨by rfl, ?_⟩) hHeld ?_
              rotate_left
              · intro w9 hSw; (try dsimp only at hSw); go_simp; (try with_reducible rfl)
              try simp only [List.getElem_toArray, List.getElem_cons_succ, List.getElem_cons_zero, Act.put, List.setIfInBounds_toArray, List.set_cons_zero, List.set_cons_succ]
              refine wpAnyH_take (i := 12) (v := ?_) rfl (by kernel_rfl) (by kernel_rfl) (by kernel_rfl) (fun _ _ _ h => h) (Or.inl ⟨by rfl, ?_⟩) hHeld ?_
              rotate_left
              · intro w9 hSw; (try dsimp only at hSw); go_simp; (try with_reducible rfl)
              try simp only [List.getElem_toArray, List.getElem_cons_succ, List.getElem_cons_zero, Act.put, List.setIfInBounds_toArray, List.set_cons_zero, List.set_cons_succ]
              refine wpAnyH_take (i := 13) (v := ?_) rfl (by kernel_rfl) (by kernel_rfl) (by kernel_rfl) (fun _ _ _ h => h) (Or.inl ⟨by rfl, ?_⟩) hHeld ?_
              rotate_left
              · intro w9 hSw; (try dsimp only at hSw); go_simp; (try with_reducible rfl)
              try simp only [List.getElem_toArray, List.getElem_cons_succ, List.getElem_cons_zero, Act.put, List.setIfInBounds_toArray, List.set_cons_zero, List.set_cons_succ]
              refine wpAnyH_take (i := 14) (v := ?_) rfl (by kernel_rfl) (by kernel_rfl) (by kernel_rfl) (fun _ _ _ h => h) (Or.inl ⟨by rfl, ?_⟩) hHeld ?_
              rotate_left
              · intro w9 hSw; (try dsimp only at hSw); go_simp; (try with_reducible rfl)
              try simp only [List.getElem_toArray, List.getElem_cons_succ, List.getElem_cons_zero, Act.put, List.setIfInBounds_toArray, List.set_cons_zero, List.set_cons_succ]
              refine wpAnyH_take (i := 15) (v := ?_) rfl (by kernel_rfl) (by kernel_rfl) (by kernel_rfl) (fun _ _ _ h => h) (Or.inl ⟨by rfl, ?_⟩) hHeld ?_
              rotate_left
              · intro w9 hSw; (try dsimp only at hSw); go_simp; (try with_reducible rfl)
              try simp only [List.getElem_toArray, List.getElem_cons_succ, List.getElem_cons_zero, Act.put, List.setIfInBounds_toArray, List.set_cons_zero, List.set_cons_succ]
              refine wpAnyH_ready (rs := [16]) (by kernel_rfl) (by simp) (AllReadyH.cons rfl (fun K0 hK0 => ?_) AllReadyH.nil)
              go_simp
              refine (cC).mono ?_
              rintro _ w6 ⟨rfl, hP6, hQ6⟩
              replace HKc := hide hP6.keeps
              have HQ6 : Hid (Kept [] w3 w6) := (HQ5.out.trans (Kept.refl [] w5).drew (by simp)).trans hQ6 (fun k hk => .inr (by simp at hk; subst hk; exact HB4.out))
              have HP6 := hide hP6
              clear hP6 hQ6
              go_wp2_with fail
              refine hK0.out _ _ ⟨HKc.out.cell z1 (by simp), HKc.out.cell z2 (by simp), HKc.out.cell z4 (by simp), HKc.out.cell z5 (by simp), HKc.out.cell z6 (by simp), HKc.out.cell z7 (by simp), HKc.out.cell z8 (by simp), HKc.out.cell z9 (by simp), HKc.out.cell z10 (by simp)⟩ (fun hHeld => ?_)
              clear hK0 K0
              try simp only [List.getElem_toArray, List.getElem_cons_succ, List.getElem_cons_zero, Act.put, List.setIfInBounds_toArray, List.set_cons_zero, List.set_cons_succ]
              refine wpAnyH_done (by kernel_rfl) ?_ _
              clear hHeld
              clear cC HKc z1 z2 z3 z4 z5 z6 z7 z8 z9 z10
              go_wp2_with fail
              go_roundw
              case rel => exact ⟨i + 1, _, by go_num, by omega, HP6, HQ6⟩
              case measure => simp [intOf]; omega
            · have hlt' : ¬ (i : Int) < m := by omega
              obtain ⟨w5, hw5⟩ : ∃ w5, w5 = wr := ⟨_, rfl⟩
              rw [← hw5] at HV0 HK0 ⊢
              clear hw5
              have HP5 := hide (HP3.out.kept HK0.out)
              have cA := liveT_all HP5.out.live
              go_wp2_with fail
              refine cA.mono ?_
              rintro _ w6 ⟨v6, X6, rfl, hR6, hO6, hM6, hK6⟩
              have HS6 : Hid (Spoil w5 v6 X6 w6) := ⟨hK6, hR6.t, fun x hx => (hO6 x hx).wr⟩
              obtain ⟨ao6, c6, rfl, hc6, hm6, _, _⟩ := hR6.t.shape
              unfold maxLen at hm6
              obtain ⟨n6, hn6⟩ : ∃ n6, n6 = X6.length := ⟨_, rfl⟩
              have HN6 := hide hn6
              rw [← hn6] at hc6 HS6 ⊢
              clear hn6 hR6 hO6 hM6 hK6 cA
              go_wp2_with fail
              go_loopw [13] (fun iv wr => CsI2 w5 (.slice ao6 n6 c6) X6 n6 iv wr) (fun iv _ => n6 - (intOf iv).toNat)
              case atStart => exact ⟨0, rfl, Nat.zero_le _, HS6⟩
              case round =>
                obtain ⟨i, rfl, hi, HS⟩ := hrel
                by_cases hlt : i < n6
                · have hlt' : (i : Int) < n6 := by omega
                  have hiX : i < X6.length := by rw [← HN6.out]; exact hlt
                  obtain ⟨g6, hg6⟩ := HS.out.2.1.addr hiX
                  subst hg6
                  have hic : i ≤ c6 := by omega
                  obtain ⟨uo, un, uc, hu, hun, huc, hz⟩ := HS.out.2.2 _ (List.getElem_mem hiX)
                  unfold maxLen at huc
                  have HAt : Hid (∀ w', Spoil w5 (.slice (some ⟨g6, 0, none⟩) n6 c6) X6 w' → w'.cell? ⟨g6, i * 10 + 8, none⟩ = some (.slice uo un uc)) := fun w' h => by rw [← hu]; exact (h.2.1.at hiX).c8
                  have HWr : Hid (∀ w' (j : Nat), Spoil w5 (.slice (some ⟨g6, 0, none⟩) n6 c6) X6 w' → j < un → ∃ g cur, uo = some ⟨g, 0, none⟩ ∧ w5.heap.size ≤ g ∧ w'.heap[g]? = some (.cells cur 65 (0, 0)) ∧ un * 4 ≤ cur.size) := fun w' j h hj => by
                    obtain ⟨uo', un', uc', hu', _, _, h4⟩ := h.2.2 _ (List.getElem_mem hiX)
                    rw [hu] at hu'
                    cases hu'
                    rcases h4 with h4 | ⟨g, cur, q1, q2, q3, q4⟩
                    · omega
                    · exact ⟨g, cur, q1, q2, q3, q4⟩
                  clear hz hu
                  go_wp2_with fail
                  go_loopw [14] (fun jv wr2 => CsI2 w5 (.slice (some ⟨g6, 0, none⟩) n6 c6) X6 un jv wr2) (fun jv _ => un - (intOf jv).toNat)
                  case atStart => exact ⟨0, rfl, Nat.zero_le _, HS⟩
                  case round =>
                    obtain ⟨j, rfl, hj, HSj⟩ := hrel
                    have p8 := HAt.out _ HSj.out
                    by_cases hjlt : j < un
                    · have hjlt' : (j : Int) < un := by omega
                      have hjc : j ≤ uc := by omega
                      obtain ⟨gk, cur, rfl, hgk, hhk, hsk⟩ := HWr.out _ j HSj.out hjlt
                      have hlk : j * 4 < cur.size := by omega
                      have q0 : wr.cell? ⟨gk, j * 4, none⟩ = some cur[j * 4] := cell_inC hhk (by simp [hlk])
                      have fz := froz3 hhk (j * 4)
                      have HSn := hide (HSj.out.set hgk hhk (j := j * 4) (.int .i64 99))
                      generalize cur[j * 4] = uq at *
                      clear hhk hlk hsk
                      go_wp2_with fail
                      go_roundw
                      case rel => exact ⟨j + 1, by go_num, by omega, HSn⟩
                      case measure => simp [intOf]; omega
                    · have hjlt' : ¬ (j : Int) < un := by omega
                      go_wp2_with fail
                      go_roundw
                      case rel => exact ⟨i + 1, by go_num, by omega, HSj⟩
                      case measure => simp [intOf]; omega
                · have hlt' : ¬ (i : Int) < n6 := by omega
                  obtain ⟨w7, hw7⟩ : ∃ w7, w7 = wr := ⟨_, rfl⟩
                  rw [← hw7] at HS ⊢
                  clear hw7
                  have HP7 := hide (HP5.out.kept HS.out.1)
                  obtain ⟨aoM, cM, YM, t1, hSM, hYM, hYo, hcM, hmM, hatM⟩ := HP7.out.model
                  have HSM := hide hSM
                  have HYM := hide hYM
                  obtain ⟨mM, hmMe⟩ : ∃ mM, mM = L.length := ⟨_, rfl⟩
                  rw [← hmMe] at t1 HSM
                  clear hSM hYM hYo hatM hmMe hcM hmM
                  have cAl := liveT_all (HP7.out.live.kept (Kept.refl [] w7).drew)
                  unfold CopS at cAl
                  go_upto_region 30 with fail
                  refine wp_region_held_drew (S := fun w' => w'.cell? ⟨bm, 1, none⟩ = some (.slice aoM mM cM)) (by kernel_rfl) t1 (fun hHeld => ?_)
                  refine wpAnyH_take (i := 0) (v := ?_) rfl (by kernel_rfl) (by kernel_rfl) (by kernel_rfl) (fun _ _ _ h => h) (Or.inl ⟨by rfl, ?_⟩) hHeld ?_
                  rotate_left
                  · intro w9 hSw; (try dsimp only at hSw); go_simp; (try with_reducible rfl)
                  try simp only [List.getElem_toArray, List.getElem_cons_succ, List.getElem_cons_zero, Act.put, List.setIfInBounds_toArray, List.set_cons_zero, List.set_cons_succ]
                  refine wpAnyH_take (i := 2) (v := ?_) rfl (by kernel_rfl) (by kernel_rfl) (by kernel_rfl) (fun _ _ _ h => h) (Or.inl ⟨by rfl, ?_⟩) hHeld ?_
                  rotate_left
                  · intro w9 hSw; (try dsimp only at hSw); go_simp; (try with_reducible rfl)
                  try simp only [List.getElem_toArray, List.getElem_cons_succ, List.getElem_cons_zero, Act.put, List.setIfInBounds_toArray, List.set_cons_zero, List.set_cons_succ]
                  refine wpAnyH_take (i := 3) (v := ?_) rfl (by kernel_rfl) (by kernel_rfl) (by kernel_rfl) (fun _ _ _ h => h) (Or.inl ⟨by rfl, ?_⟩) hHeld ?_
                  rotate_left
                  · intro w9 hSw; (try dsimp only at hSw); go_simp; (try with_reducible rfl)
                  try simp only [List.getElem_toArray, List.getElem_cons_succ, List.getElem_cons_zero, Act.put, List.setIfInBounds_toArray, List.set_cons_zero, List.set_cons_succ]
                  refine wpAnyH_take (i := 4) (v := ?_) rfl (by kernel_rfl) (by kernel_rfl) (by kernel_rfl) (fun _ _ _ h => h) (Or.inl ⟨by rfl, ?_⟩) hHeld ?_
                  rotate_left
                  · intro w9 hSw; (try dsimp only at hSw); go_simp; (try with_reducible rfl)
                  try simp only [List.getElem_toArray, List.getElem_cons_succ, List.getElem_cons_zero, Act.put, List.setIfInBounds_toArray, List.set_cons_zero, List.set_cons_succ]
                  refine wpAnyH_take (i := 5) (v := ?_) rfl (by kernel_rfl) (by kernel_rfl) (by kernel_rfl) (fun _ _ _ h => h) (Or.inl ⟨by rfl, ?_⟩) hHeld ?_
                  rotate_left
                  · intro w9 hSw; (try dsimp only at hSw); go_simp; (try with_reducible rfl)
                  try simp only [List.getElem_toArray, List.getElem_cons_succ, List.getElem_cons_zero, Act.put, List.setIfInBounds_toArray, List.set_cons_zero, List.set_cons_succ]
                  refine wpAnyH_ready (rs := [1]) (by kernel_rfl) (by simp) (AllReadyH.cons rfl (fun K0 hK0 => ?_) AllReadyH.nil)
                  go_simp
                  refine (cAl).mono ?_
                  rintro _ w8 ⟨v8, X8, rfl, hR8, hO8, hM8, hK8⟩
                  obtain ⟨ao8, c8, hv8, hs8⟩ := hR8.t.sl (fun y hy => (hO8 y hy).ko)
                  subst hv8
                  have HS8 := hide hs8
                  have HM8 := hide hM8
                  have HK8 := hide ((Kept.refl [] w7).drew.trans hK8 (by simp))
                  obtain ⟨m8, hm8⟩ : ∃ m8, m8 = X8.length := ⟨_, rfl⟩
                  rw [← hm8] at HS8 ⊢
                  clear hR8 hO8 hM8 hK8 hs8 hm8 cAl
                  go_wp2_with fail
                  refine hK0.out _ _ (HK8.out.cell t1 (by simp)) (fun hHeld => ?_)
                  clear hK0 K0
                  try simp only [List.getElem_toArray, List.getElem_cons_succ, List.getElem_cons_zero, Act.put, List.setIfInBounds_toArray, List.set_cons_zero, List.set_cons_succ]
                  refine wpAnyH_ready (rs := [6]) (by kernel_rfl) (by simp) (AllReadyH.cons rfl (fun K0 hK0 => ?_) AllReadyH.nil)
                  go_simp
                  refine (sameSs_call w8 ao8 aoM m8 mM c8 cM X8 YM HS8.out (HSM.out.kept HK8.out) (by rw [HM8.out, HYM.out])).mono ?_
                  rintro _ w9b ⟨rfl, hK9⟩
                  have HK9 := hide (HK8.out.trans hK9 (by simp))
                  clear hK9
                  go_wp2_with fail
                  refine hK0.out _ _ (HK9.out.cell t1 (by simp)) (fun hHeld => ?_)
                  clear hK0 K0
                  try simp only [List.getElem_toArray, List.getElem_cons_succ, List.getElem_cons_zero, Act.put, List.setIfInBounds_toArray, List.set_cons_zero, List.set_cons_succ]
                  refine wpAnyH_take (i := 7) (v := ?_) rfl (by kernel_rfl) (by kernel_rfl) (by kernel_rfl) (fun _ _ _ h => h) (Or.inl ⟨by rfl, ?_⟩) hHeld ?_
                  rotate_left
                  · intro w9 hSw; (try dsimp only at hSw); go_simp; (try with_reducible rfl)
                  try simp only [List.getElem_toArray, List.getElem_cons_succ, List.getElem_cons_zero, Act.put, List.setIfInBounds_toArray, List.set_cons_zero, List.set_cons_succ]
                  refine wpAnyH_done (by kernel_rfl) ?_ _
                  have HFn := hide (HK2.out.trans (HP7.out.kept HK9.out).keeps (by simp))
                  clear hHeld t1
                  go_wp2_with fail
                  go_ret
                  exact ⟨rfl, HFn.out⟩

end Go.Proofs.Ytajkmhepedlmmaa
