/-
  SessionPlays: the walk.
-/
import Derived.Test.YtajkmhepedlmmaaPtPair
import Derived.Test.YtajkmhepedlmmaaMtSame
import Derived.Test.YtajkmhepedlmmaaSeRoom
import Derived.BigQuiet
namespace Go.Proofs.Ytajkmhepedlmmaa
open Go.RowKit

/-- What has come up, written out. -/
theorem wpAnyH_lit {P : Program} {md : Region.Mode} {ops : Array Oper} {Q : Exit → Act → World → Prop} {S : World → Prop} {fuel fuel' : Nat} {listed l' : Array Bool} {a : Act} {w : World} (hf : fuel = fuel') (h : listed = l') (k : wpAnyH P md ops Q S fuel' l' a w) : wpAnyH P md ops Q S fuel listed a w := by
  subst hf; subst h; exact k

def PlI (w1 : World) (b bm sz n : Nat) (iv : Value) (wr : World) : Prop := ∃ (i : Nat) (L : List Se), iv = .int .i64 (i : Int) ∧ i ≤ n ∧ Hid (PairT w1 wr b bm sz L L)

set_option linter.unusedSimpArgs false in
set_option maxHeartbeats 32000000 in
set_option maxRecDepth 100000 in
theorem splays_walk (W : World) (size : Int) (ao : Option Addr) (n c : Nat) (D : List (Dd × Value)) (hD : SlDd W ao n c D) :
    Calls Try.prog 4 #[.int .i64 size, .slice ao n c] W fun e w' => e = .returned (.bool true) ∧ Kept [] W w' := by
  have cW := awakeT_call W
  have hc := hD.2.1
  have hm := hD.2.2.1
  unfold maxLen at hm
  have HD := hide hD
  have HL := hide hD.1
  clear hD
  go_enter Try.func4, Try.ntmps4
  go_wp2_with fail
  refine cW.mono ?_
  rintro _ w0 ⟨rfl, hK0⟩
  have cR := roomD_call w0 ao n c D (HD.out.kept hK0)
  clear cW
  go_wp2_with fail
  refine cR.mono ?_
  rintro _ w1 ⟨r, rfl, hr, hK1⟩
  have HK1 := hide (hK0.trans hK1 (by simp))
  clear cR hK0 hK1
  cases r with
  | false =>
    go_wp2_with fail
    go_ret
    exact ⟨rfl, HK1.out⟩
  | true =>
    have hn := hr rfl
    clear hr
    have cN := newT_call w1 size
    unfold NewP at cN
    go_wp2_with fail
    refine cN.mono ?_
    rintro _ w2 (⟨hs1, hs2, rfl, rfl⟩ | ⟨hs, rfl, hW2⟩)
    · obtain ⟨sz, rfl⟩ : ∃ sz : Nat, size = sz := ⟨size.toNat, by omega⟩
      have cM := newM_call (w1.alloc (.cells #[.int .i64 sz, .slice none 0 0] 68)) sz
      unfold NewM at cM
      clear cN
      go_wp2_with fail
      refine cM.mono ?_
      rintro _ w3 (⟨_, _, rfl, rfl⟩ | ⟨hs, _⟩)
      case inr => exact absurd ⟨hs1, hs2⟩ hs
      have HP := hide (PairT.new (Kept.refl [] w1) (sz := sz) (by omega) (by omega))
      rw [World.size_alloc]
      obtain ⟨w4, hw4⟩ : ∃ w4, w4 = ((w1.alloc (.cells #[.int .i64 sz, .slice none 0 0] 68)).alloc (.cells #[.int .i64 sz, .slice none 0 0] 51)) := ⟨_, rfl⟩
      rw [← hw4] at HP ⊢
      obtain ⟨b, hb⟩ : ∃ b, b = w1.heap.size := ⟨_, rfl⟩
      obtain ⟨bm, hbm⟩ : ∃ bm, bm = w1.heap.size + 1 := ⟨_, rfl⟩
      rw [← hbm, ← hb] at HP ⊢
      clear hw4 cM hb hbm
      go_wp2_with fail
      go_loopw [9] (fun iv wr => PlI w1 b bm sz n iv wr) (fun iv _ => n - (intOf iv).toNat)
      case atStart => exact ⟨0, [], rfl, Nat.zero_le _, HP⟩
      case round =>
        obtain ⟨i, L, rfl, hi, HP0⟩ := hrel
        by_cases hlt : i < n
        · have hlt' : (i : Int) < n := by omega
          have hic : i ≤ c := by omega
          have hiD : i < D.length := by rw [HL.out]; exact hlt
          have hDw := HD.out.kept (HK1.out.trans HP0.out.keeps (by simp))
          obtain ⟨g, o, he, hx⟩ := hDw.2.2.2.1 i hiD
          subst he
          obtain ⟨hko, hod⟩ := (HD.out.kept HK1.out).2.2.2.2 _ (List.getElem_mem hiD)
          obtain ⟨mo, mm, mc, hm2⟩ := hko.one
          obtain ⟨x0, x1, x2, x3, x4, x5, x6, x7, x8, x9, x10⟩ := hx
          rw [hm2] at x9 hko
          generalize D[i].1 = y at *
          have HKo := hide hko
          have HOd := hide hod
          have hKa : Kept [] wr (wr.alloc (.cells #[.int .i64 y.o, .int .i64 y.i, .int .i64 y.q, .string (str y.n), .int .i64 y.v.c, .int .i64 y.v.s, .int .i64 y.v.r, .string (str y.v.p), .int .u64 y.v.d, .slice mo mm mc, .int .i64 y.v.m] 40)) := (Kept.refl _ _).alloc _
          have HBx := hide (heap_alloc_new wr (.cells #[.int .i64 y.o, .int .i64 y.i, .int .i64 y.q, .string (str y.n), .int .i64 y.v.c, .int .i64 y.v.s, .int .i64 y.v.r, .string (str y.v.p), .int .u64 y.v.d, .slice mo mm mc, .int .i64 y.v.m] 40))
          clear hDw hko hod hm2 hiD
          go_upto_region 18 with fail
          clear x0 x1 x2 x3 x4 x5 x6 x7 x8 x9 x10
          by_cases ho : y.o ≤ 1
          · have d0 := cell_inC (k := 0) HBx.out rfl
            have d1 := cell_inC (k := 1) HBx.out rfl
            have d3 := cell_inC (k := 3) HBx.out rfl
            have cT := pt_open (HP0.out.kept hKa) y.n HOd.out.1 y.i
            have h01 : y.o ≤ 1 := ho
            clear hKa
            go_wp2_with fail
            refine cT.mono ?_
            rintro _ w3 ⟨rfl, hP3, hF3⟩
            have hBx3 := hF3.at HBx.out (by decide)
            have f1 := cell_inC (k := 1) hBx3 rfl
            have f3 := cell_inC (k := 3) hBx3 rfl
            have cU := pm_open hP3 y.n HOd.out.1 y.i
            clear cT hP3 d0 d1 d3 hBx3
            go_wp2_with fail
            refine cU.mono ?_
            rintro _ w4 ⟨rfl, hP4, hF4⟩
            obtain ⟨L4, hL4e⟩ : ∃ L4, L4 = openL sz y.n y.i L := ⟨_, rfl⟩
            rw [← hL4e] at hP4
            clear hL4e cU f1 f3

            have HBx4 := hide (hF4.at (hF3.at HBx.out (by decide)) (by decide))
            have HP4 := hide hP4
            clear hP4 hF4 hF3

            have cFi := liveT_find HP4.out.live y.i
            unfold FindP at cFi
            have e1 := cell_inC (k := 1) HBx4.out rfl
            cases hB : byI y.i L4 with
            | none =>
              have hfs : findS y.i L4 = se0 := by unfold findS; rw [hB]
              rw [hB, hfs] at cFi
              unfold seV se0 vtC at cFi
              simp only [str_nil, Option.isSome] at cFi
              clear hfs
              go_wp2_with fail
              refine cFi.mono ?_
              rintro _ w5 ⟨u5, rfl, hO5, hK5⟩
              obtain ⟨a5, n5, c5, rfl⟩ := hO5.ko.one
              have hKb : Kept [] w5 (w5.alloc (.cells #[.int .i64 0, .int .i64 0, .string ByteArray.empty, .int .i64 0, .int .i64 0, .int .i64 0, .string ByteArray.empty, .int .u64 0, .slice a5 n5 c5, .int .i64 0] 44)) := (Kept.refl _ _).alloc _
              have HP5 := hide (HP4.out.kept (hK5.trans hKb (by simp)))
              have e1b := (hK5.trans hKb (by simp)).cell e1 (by simp)
              have cFm := pm_find HP5.out y.i
              rw [hB] at cFm
              simp only [plV] at cFm
              clear cFi hO5 hK5 hKb e1
              go_wp2_with fail
              refine cFm.mono ?_
              rintro _ w6 ⟨rfl, hK6⟩
              have HP6 := hide (HP5.out.kept hK6)
              obtain ⟨aoM, cM, Y, t1, hSM, hYM, hYo, hcM, hmM, hatM⟩ := HP6.out.model
              have HSM := hide hSM
              have HYM := hide hYM
              have cAl := fun W (hk : Kept [] w6 W) => liveT_all (HP6.out.live.kept hk)
              unfold CopS at cAl
              obtain ⟨mM, hmMe⟩ : ∃ mM, mM = L4.length := ⟨_, rfl⟩
              rw [← hmMe] at t1 HSM
              clear cFm hK6 hSM hYM hYo hatM hmMe e1b hB
              go_upto_region 27 with fail
              refine wp_region_held_drew (S := fun w' => w'.cell? ⟨bm, 1, none⟩ = some (.slice aoM mM cM)) (by kernel_rfl) t1 (fun hHeld => ?_)
              refine wpAnyH_lit (fuel' := 33) (l' := #[false, false, false, false, false, false, false, false, false, false, false, false, false, false, false, false, false, false, false, false, false, false, false, false, false, false, false, false, false, false, false, false, false]) rfl rfl ?_
              refine wpAnyH_take (i := 0) (v := ?_) rfl (by kernel_rfl) (by kernel_rfl) (by kernel_rfl) (fun _ _ _ h => h) (Or.inl ⟨by rfl, ?_⟩) hHeld ?_
              rotate_left
              · intro w9 hSw; (try dsimp only at hSw); go_simp; (try with_reducible rfl)
              try simp only [List.getElem_toArray, List.getElem_cons_succ, List.getElem_cons_zero, Act.put, List.setIfInBounds_toArray, List.set_cons_zero, List.set_cons_succ]
              refine wpAnyH_take (i := 1) (v := ?_) rfl (by kernel_rfl) (by kernel_rfl) (by kernel_rfl) (fun _ _ _ h => h) (Or.inl ⟨by rfl, ?_⟩) hHeld ?_
              rotate_left
              · intro w9 hSw; (try dsimp only at hSw); go_simp; (try with_reducible rfl)
              try simp only [List.getElem_toArray, List.getElem_cons_succ, List.getElem_cons_zero, Act.put, List.setIfInBounds_toArray, List.set_cons_zero, List.set_cons_succ]
              refine wpAnyH_take (i := 2) (v := ?_) rfl (by kernel_rfl) (by kernel_rfl) (by kernel_rfl) (fun _ _ _ h => h) (Or.inl ⟨by rfl, ?_⟩) hHeld ?_
              rotate_left
              · intro w9 hSw; (try dsimp only at hSw); go_simp; (try with_reducible rfl)
              try simp only [List.getElem_toArray, List.getElem_cons_succ, List.getElem_cons_zero, Act.put, List.setIfInBounds_toArray, List.set_cons_zero, List.set_cons_succ]
              refine wpAnyH_take (i := 3) (v := ?_) rfl (by kernel_rfl) (by kernel_rfl) (by kernel_rfl) (fun _ _ _ h => h) (Or.inl ⟨by rfl, ?_⟩) hHeld ?_
              rotate_left
              · intro w9 hSw; (try dsimp only at hSw); go_simp; (try with_reducible rfl)
              try simp only [List.getElem_toArray, List.getElem_cons_succ, List.getElem_cons_zero, Act.put, List.setIfInBounds_toArray, List.set_cons_zero, List.set_cons_succ]
              refine wpAnyH_take (i := 4) (v := ?_) rfl (by kernel_rfl) (by kernel_rfl) (by kernel_rfl) (fun _ _ _ h => h) (Or.inl ⟨by rfl, ?_⟩) hHeld ?_
              rotate_left
              · intro w9 hSw; (try dsimp only at hSw); go_simp; (try with_reducible rfl)
              try simp only [List.getElem_toArray, List.getElem_cons_succ, List.getElem_cons_zero, Act.put, List.setIfInBounds_toArray, List.set_cons_zero, List.set_cons_succ]
              refine wpAnyH_take (i := 5) (v := ?_) rfl (by kernel_rfl) (by kernel_rfl) (by kernel_rfl) (fun _ _ _ h => h) (Or.inl ⟨by rfl, ?_⟩) hHeld ?_
              rotate_left
              · intro w9 hSw; (try dsimp only at hSw); go_simp; (try with_reducible rfl)
              try simp only [List.getElem_toArray, List.getElem_cons_succ, List.getElem_cons_zero, Act.put, List.setIfInBounds_toArray, List.set_cons_zero, List.set_cons_succ]
              refine wpAnyH_take (i := 6) (v := ?_) rfl (by kernel_rfl) (by kernel_rfl) (by kernel_rfl) (fun _ _ _ h => h) (Or.inl ⟨by rfl, ?_⟩) hHeld ?_
              rotate_left
              · intro w9 hSw; (try dsimp only at hSw); go_simp; (try with_reducible rfl)
              try simp only [List.getElem_toArray, List.getElem_cons_succ, List.getElem_cons_zero, Act.put, List.setIfInBounds_toArray, List.set_cons_zero, List.set_cons_succ]
              refine wpAnyH_take (i := 7) (v := ?_) rfl (by kernel_rfl) (by kernel_rfl) (by kernel_rfl) (fun _ _ _ h => h) (Or.inl ⟨by rfl, ?_⟩) hHeld ?_
              rotate_left
              · intro w9 hSw; (try dsimp only at hSw); go_simp; (try with_reducible rfl)
              try simp only [List.getElem_toArray, List.getElem_cons_succ, List.getElem_cons_zero, Act.put, List.setIfInBounds_toArray, List.set_cons_zero, List.set_cons_succ]
              refine wpAnyH_take (i := 8) (v := ?_) rfl (by kernel_rfl) (by kernel_rfl) (by kernel_rfl) (fun _ _ _ h => h) (Or.inl ⟨by rfl, ?_⟩) hHeld ?_
              rotate_left
              · intro w9 hSw; (try dsimp only at hSw); go_simp; (try with_reducible rfl)
              try simp only [List.getElem_toArray, List.getElem_cons_succ, List.getElem_cons_zero, Act.put, List.setIfInBounds_toArray, List.set_cons_zero, List.set_cons_succ]
              refine wpAnyH_take (i := 9) (v := ?_) rfl (by kernel_rfl) (by kernel_rfl) (by kernel_rfl) (fun _ _ _ h => h) (Or.inl ⟨by rfl, ?_⟩) hHeld ?_
              rotate_left
              · intro w9 hSw; (try dsimp only at hSw); go_simp; (try with_reducible rfl)
              try simp only [List.getElem_toArray, List.getElem_cons_succ, List.getElem_cons_zero, Act.put, List.setIfInBounds_toArray, List.set_cons_zero, List.set_cons_succ]
              refine wpAnyH_take (i := 10) (v := ?_) rfl (by kernel_rfl) (by kernel_rfl) (by kernel_rfl) (fun _ _ _ h => h) (Or.inl ⟨by rfl, ?_⟩) hHeld ?_
              rotate_left
              · intro w9 hSw; (try dsimp only at hSw); go_simp; (try with_reducible rfl)
              try simp only [List.getElem_toArray, List.getElem_cons_succ, List.getElem_cons_zero, Act.put, List.setIfInBounds_toArray, List.set_cons_zero, List.set_cons_succ]
              refine wpAnyH_take (i := 11) (v := undef) rfl (by kernel_rfl) (by kernel_rfl) (by kernel_rfl) (fun _ _ _ h => h) (Or.inr ⟨by rfl, rfl⟩) hHeld ?_
              try simp only [List.getElem_toArray, List.getElem_cons_succ, List.getElem_cons_zero, Act.put, List.setIfInBounds_toArray, List.set_cons_zero, List.set_cons_succ]
              refine wpAnyH_take (i := 12) (v := undef) rfl (by kernel_rfl) (by kernel_rfl) (by kernel_rfl) (fun _ _ _ h => h) (Or.inr ⟨by rfl, rfl⟩) hHeld ?_
              try simp only [List.getElem_toArray, List.getElem_cons_succ, List.getElem_cons_zero, Act.put, List.setIfInBounds_toArray, List.set_cons_zero, List.set_cons_succ]
              refine wpAnyH_take (i := 13) (v := undef) rfl (by kernel_rfl) (by kernel_rfl) (by kernel_rfl) (fun _ _ _ h => h) (Or.inr ⟨by rfl, rfl⟩) hHeld ?_
              try simp only [List.getElem_toArray, List.getElem_cons_succ, List.getElem_cons_zero, Act.put, List.setIfInBounds_toArray, List.set_cons_zero, List.set_cons_succ]
              refine wpAnyH_take (i := 14) (v := undef) rfl (by kernel_rfl) (by kernel_rfl) (by kernel_rfl) (fun _ _ _ h => h) (Or.inr ⟨by rfl, rfl⟩) hHeld ?_
              try simp only [List.getElem_toArray, List.getElem_cons_succ, List.getElem_cons_zero, Act.put, List.setIfInBounds_toArray, List.set_cons_zero, List.set_cons_succ]
              refine wpAnyH_take (i := 15) (v := undef) rfl (by kernel_rfl) (by kernel_rfl) (by kernel_rfl) (fun _ _ _ h => h) (Or.inr ⟨by rfl, rfl⟩) hHeld ?_
              try simp only [List.getElem_toArray, List.getElem_cons_succ, List.getElem_cons_zero, Act.put, List.setIfInBounds_toArray, List.set_cons_zero, List.set_cons_succ]
              refine wpAnyH_take (i := 16) (v := undef) rfl (by kernel_rfl) (by kernel_rfl) (by kernel_rfl) (fun _ _ _ h => h) (Or.inr ⟨by rfl, rfl⟩) hHeld ?_
              try simp only [List.getElem_toArray, List.getElem_cons_succ, List.getElem_cons_zero, Act.put, List.setIfInBounds_toArray, List.set_cons_zero, List.set_cons_succ]
              refine wpAnyH_take (i := 17) (v := undef) rfl (by kernel_rfl) (by kernel_rfl) (by kernel_rfl) (fun _ _ _ h => h) (Or.inr ⟨by rfl, rfl⟩) hHeld ?_
              try simp only [List.getElem_toArray, List.getElem_cons_succ, List.getElem_cons_zero, Act.put, List.setIfInBounds_toArray, List.set_cons_zero, List.set_cons_succ]
              refine wpAnyH_take (i := 18) (v := undef) rfl (by kernel_rfl) (by kernel_rfl) (by kernel_rfl) (fun _ _ _ h => h) (Or.inr ⟨by rfl, rfl⟩) hHeld ?_
              try simp only [List.getElem_toArray, List.getElem_cons_succ, List.getElem_cons_zero, Act.put, List.setIfInBounds_toArray, List.set_cons_zero, List.set_cons_succ]
              refine wpAnyH_take (i := 19) (v := undef) rfl (by kernel_rfl) (by kernel_rfl) (by kernel_rfl) (fun _ _ _ h => h) (Or.inr ⟨by rfl, rfl⟩) hHeld ?_
              try simp only [List.getElem_toArray, List.getElem_cons_succ, List.getElem_cons_zero, Act.put, List.setIfInBounds_toArray, List.set_cons_zero, List.set_cons_succ]
              refine wpAnyH_take (i := 20) (v := undef) rfl (by kernel_rfl) (by kernel_rfl) (by kernel_rfl) (fun _ _ _ h => h) (Or.inr ⟨by rfl, rfl⟩) hHeld ?_
              try simp only [List.getElem_toArray, List.getElem_cons_succ, List.getElem_cons_zero, Act.put, List.setIfInBounds_toArray, List.set_cons_zero, List.set_cons_succ]
              obtain ⟨w7, hw7⟩ : ∃ w7, w7 = w6.drew := ⟨_, rfl⟩
              have HK7 : Hid (Kept [] w6 w7) := by show Kept _ _ _; rw [hw7]; exact (Kept.refl _ _).drew
              rw [← hw7]
              rw [← hw7] at hHeld
              clear hw7
              refine wpAnyH_take (i := 21) (v := ?_) rfl (by kernel_rfl) (by kernel_rfl) (by kernel_rfl) (fun _ _ _ h => h) (Or.inl ⟨by rfl, ?_⟩) hHeld ?_
              rotate_left
              · intro w9 hSw; (try dsimp only at hSw); go_simp; (try with_reducible rfl)
              try simp only [List.getElem_toArray, List.getElem_cons_succ, List.getElem_cons_zero, Act.put, List.setIfInBounds_toArray, List.set_cons_zero, List.set_cons_succ]
              refine wpAnyH_take (i := 22) (v := ?_) rfl (by kernel_rfl) (by kernel_rfl) (by kernel_rfl) (fun _ _ _ h => h) (Or.inl ⟨by rfl, ?_⟩) hHeld ?_
              rotate_left
              · intro w9 hSw; (try dsimp only at hSw); go_simp; (try with_reducible rfl)
              try simp only [List.getElem_toArray, List.getElem_cons_succ, List.getElem_cons_zero, Act.put, List.setIfInBounds_toArray, List.set_cons_zero, List.set_cons_succ]
              refine wpAnyH_take (i := 23) (v := ?_) rfl (by kernel_rfl) (by kernel_rfl) (by kernel_rfl) (fun _ _ _ h => h) (Or.inl ⟨by rfl, ?_⟩) hHeld ?_
              rotate_left
              · intro w9 hSw; (try dsimp only at hSw); go_simp; (try with_reducible rfl)
              try simp only [List.getElem_toArray, List.getElem_cons_succ, List.getElem_cons_zero, Act.put, List.setIfInBounds_toArray, List.set_cons_zero, List.set_cons_succ]
              refine wpAnyH_take (i := 24) (v := ?_) rfl (by kernel_rfl) (by kernel_rfl) (by kernel_rfl) (fun _ _ _ h => h) (Or.inl ⟨by rfl, ?_⟩) hHeld ?_
              rotate_left
              · intro w9 hSw; (try dsimp only at hSw); go_simp; (try with_reducible rfl)
              try simp only [List.getElem_toArray, List.getElem_cons_succ, List.getElem_cons_zero, Act.put, List.setIfInBounds_toArray, List.set_cons_zero, List.set_cons_succ]
              refine wpAnyH_take (i := 26) (v := ?_) rfl (by kernel_rfl) (by kernel_rfl) (by kernel_rfl) (fun _ _ _ h => h) (Or.inl ⟨by rfl, ?_⟩) hHeld ?_
              rotate_left
              · intro w9 hSw; (try dsimp only at hSw); go_simp; (try with_reducible rfl)
              try simp only [List.getElem_toArray, List.getElem_cons_succ, List.getElem_cons_zero, Act.put, List.setIfInBounds_toArray, List.set_cons_zero, List.set_cons_succ]
              refine wpAnyH_take (i := 27) (v := ?_) rfl (by kernel_rfl) (by kernel_rfl) (by kernel_rfl) (fun _ _ _ h => h) (Or.inl ⟨by rfl, ?_⟩) hHeld ?_
              rotate_left
              · intro w9 hSw; (try dsimp only at hSw); go_simp; (try with_reducible rfl)
              try simp only [List.getElem_toArray, List.getElem_cons_succ, List.getElem_cons_zero, Act.put, List.setIfInBounds_toArray, List.set_cons_zero, List.set_cons_succ]
              refine wpAnyH_take (i := 28) (v := ?_) rfl (by kernel_rfl) (by kernel_rfl) (by kernel_rfl) (fun _ _ _ h => h) (Or.inl ⟨by rfl, ?_⟩) hHeld ?_
              rotate_left
              · intro w9 hSw; (try dsimp only at hSw); go_simp; (try with_reducible rfl)
              try simp only [List.getElem_toArray, List.getElem_cons_succ, List.getElem_cons_zero, Act.put, List.setIfInBounds_toArray, List.set_cons_zero, List.set_cons_succ]
              refine wpAnyH_take (i := 29) (v := ?_) rfl (by kernel_rfl) (by kernel_rfl) (by kernel_rfl) (fun _ _ _ h => h) (Or.inl ⟨by rfl, ?_⟩) hHeld ?_
              rotate_left
              · intro w9 hSw; (try dsimp only at hSw); go_simp; (try with_reducible rfl)
              try simp only [List.getElem_toArray, List.getElem_cons_succ, List.getElem_cons_zero, Act.put, List.setIfInBounds_toArray, List.set_cons_zero, List.set_cons_succ]
              refine wpAnyH_ready (rs := [25]) (by kernel_rfl) (by simp) (AllReadyH.cons rfl (fun K0 hK0 => ?_) AllReadyH.nil)
              go_simp
              refine (cAl _ HK7.out).mono ?_
              rintro _ w8 ⟨v8, X8, rfl, hR8, hO8, hM8, hK8⟩
              obtain ⟨ao8, c8, hv8, hs8⟩ := hR8.t.sl (fun y hy => (hO8 y hy).ko)
              subst hv8
              have HS8 := hide hs8
              have HM8 := hide hM8
              have HK8 := hide (HK7.out.trans hK8 (by simp))
              obtain ⟨m8, hm8⟩ : ∃ m8, m8 = X8.length := ⟨_, rfl⟩
              rw [← hm8] at HS8 ⊢
              clear hR8 hO8 hM8 hK8 hs8 hm8
              go_wp2_with fail
              refine hK0.out _ _ (HK8.out.cell t1 (by simp)) (fun hHeld => ?_)
              clear hK0 K0
              try simp only [List.getElem_toArray, List.getElem_cons_succ, List.getElem_cons_zero, Act.put, List.setIfInBounds_toArray, List.set_cons_zero, List.set_cons_succ]
              refine wpAnyH_ready (rs := [30]) (by kernel_rfl) (by simp) (AllReadyH.cons rfl (fun K0 hK0 => ?_) AllReadyH.nil)
              go_simp
              refine (sameSs_call w8 ao8 aoM m8 mM c8 cM X8 Y HS8.out (HSM.out.kept HK8.out) (by rw [HM8.out, HYM.out])).mono ?_
              rintro _ w9b ⟨rfl, hK9⟩
              have HK9 := hide (HK8.out.trans hK9 (by simp))
              clear hK9
              go_wp2_with fail
              refine hK0.out _ _ (HK9.out.cell t1 (by simp)) (fun hHeld => ?_)
              clear hK0 K0
              try simp only [List.getElem_toArray, List.getElem_cons_succ, List.getElem_cons_zero, Act.put, List.setIfInBounds_toArray, List.set_cons_zero, List.set_cons_succ]
              refine wpAnyH_take (i := 31) (v := ?_) rfl (by kernel_rfl) (by kernel_rfl) (by kernel_rfl) (fun _ _ _ h => h) (Or.inl ⟨by rfl, ?_⟩) hHeld ?_
              rotate_left
              · intro w9 hSw; (try dsimp only at hSw); go_simp; (try with_reducible rfl)
              try simp only [List.getElem_toArray, List.getElem_cons_succ, List.getElem_cons_zero, Act.put, List.setIfInBounds_toArray, List.set_cons_zero, List.set_cons_succ]
              refine wpAnyH_take (i := 32) (v := ?_) rfl (by kernel_rfl) (by kernel_rfl) (by kernel_rfl) (fun _ _ _ h => h) (Or.inl ⟨by rfl, ?_⟩) hHeld ?_
              rotate_left
              · intro w9 hSw; (try dsimp only at hSw); go_simp; (try with_reducible rfl)
              try simp only [List.getElem_toArray, List.getElem_cons_succ, List.getElem_cons_zero, Act.put, List.setIfInBounds_toArray, List.set_cons_zero, List.set_cons_succ]
              refine wpAnyH_done (by kernel_rfl) ?_ _
              have HFn := hide (HP6.out.kept HK9.out)
              clear hHeld t1
              go_wp2_with fail
              go_roundw
              case rel => exact ⟨i + 1, L4, by go_num, by omega, HFn⟩
              case measure => simp [intOf]; omega
            | some k =>
              obtain ⟨hk4, hki⟩ := byI_lt hB
              clear hki
              have hfs : findS y.i L4 = L4[k] := by unfold findS; rw [hB]; exact getD_get hk4
              rw [hB, hfs] at cFi
              unfold seV at cFi
              simp only [Option.isSome] at cFi
              clear hfs
              obtain ⟨x, hx4⟩ : ∃ x, x = L4[k] := ⟨_, rfl⟩
              rw [← hx4] at cFi
              have HX4 : Hid (L4[k]? = some x) := by show _ = _; rw [hx4]; exact List.getElem?_eq_getElem hk4
              clear hx4
              have HK4 := hide hk4
              go_wp2_with fail
              refine cFi.mono ?_
              rintro _ w5 ⟨u5, rfl, hO5, hK5⟩
              obtain ⟨a5, n5, c5, rfl⟩ := hO5.ko.one
              have hKb : Kept [] w5 (w5.alloc (.cells #[.int .i64 x.i, .int .i64 x.q, .string (str x.n), .int .i64 x.v.c, .int .i64 x.v.s, .int .i64 x.v.r, .string (str x.v.p), .int .u64 x.v.d, .slice a5 n5 c5, .int .i64 x.v.m] 44)) := (Kept.refl _ _).alloc _
              have HBs := hide (heap_alloc_new w5 (.cells #[.int .i64 x.i, .int .i64 x.q, .string (str x.n), .int .i64 x.v.c, .int .i64 x.v.s, .int .i64 x.v.r, .string (str x.v.p), .int .u64 x.v.d, .slice a5 n5 c5, .int .i64 x.v.m] 44))
              have HO5 := hide (hO5.ko.kept hKb)
              have HP5 := hide (HP4.out.kept (hK5.trans hKb (by simp)))
              have e1b := (hK5.trans hKb (by simp)).cell e1 (by simp)
              have cFm := pm_find HP5.out y.i
              rw [hB] at cFm
              simp only [plV] at cFm
              clear cFi hO5 hK5 hKb e1
              go_wp2_with fail
              refine cFm.mono ?_
              rintro _ w6 ⟨rfl, hK6⟩
              have HP6 := hide (HP5.out.kept hK6)
              obtain ⟨aoM, cM, Y, t1, hSM, hYM, hYo, hcM, hmM, hatM⟩ := HP6.out.model
              unfold maxLen at hmM
              have hkY : k < Y.length := by have h1 : Y.length = L4.length := by rw [← hYM]; simp
                                            have h2 := HK4.out; omega
              obtain ⟨gm, he, hsm⟩ := hatM k hkY
              subst he
              have hyx : Y[k].1 = x := by
                obtain ⟨h1, h2⟩ := List.getElem?_eq_some_iff.1 HX4.out
                rw [← h2]; exact fst_get hYM hkY h1
              have hko := hYo _ (List.getElem_mem hkY)
              obtain ⟨am, nm, cm, hum⟩ := hko.one
              obtain ⟨p0, p1, p2, p3, p4, p5, p6, p7, p8, p9⟩ := hsm
              rw [hyx] at p0 p1 p2 p3 p4 p5 p6 p7 p9 hko
              rw [hum] at p8 hko
              have hB6 := hK6.at HBs.out (by simp)
              have s0 := cell_inC (k := 0) hB6 rfl
              have s1 := cell_inC (k := 1) hB6 rfl
              have s2 := cell_inC (k := 2) hB6 rfl
              have s3 := cell_inC (k := 3) hB6 rfl
              have s4 := cell_inC (k := 4) hB6 rfl
              have s5 := cell_inC (k := 5) hB6 rfl
              have s6 := cell_inC (k := 6) hB6 rfl
              have s7 := cell_inC (k := 7) hB6 rfl
              have s8 := cell_inC (k := 8) hB6 rfl
              have s9 := cell_inC (k := 9) hB6 rfl
              have HO6 := hide (HO5.out.kept hK6)
              have HKm := hide hko
              have cSm := fun W (hk : Kept [] w6 W) => sameS_call W x (.slice a5 n5 c5) (.slice am nm cm) (HO6.out.kept hk) (HKm.out.kept hk)
              unfold seV at cSm
              have HSM := hide hSM
              have HYM := hide hYM
              have cAl := fun W (hk : Kept [] w6 W) => liveT_all (HP6.out.live.kept hk)
              unfold CopS at cAl
              have hkm : (k : Int) < L4.length := by have := HK4.out; omega
              have hkc : k ≤ cM := by have := HK4.out; omega
              obtain ⟨mM, hmMe⟩ : ∃ mM, mM = L4.length := ⟨_, rfl⟩
              rw [← hmMe] at t1 HSM hkm hcM
              have hk0 : (0 : Int) ≤ k := by omega
              clear cFm hK6 hSM hYM hYo hatM hmMe e1b hB hyx hko hum hB6 hkY hk4
              go_upto_region 27 with fail
              refine wp_region_held_drew (S := fun w' => w'.cell? ⟨bm, 1, none⟩ = some (.slice (some ⟨gm, 0, none⟩) mM cM) ∧ w'.cell? ⟨w5.heap.size, 0, none⟩ = some (.int .i64 x.i) ∧ w'.cell? ⟨w5.heap.size, 1, none⟩ = some (.int .i64 x.q) ∧ w'.cell? ⟨w5.heap.size, 2, none⟩ = some (.string (str x.n)) ∧ w'.cell? ⟨w5.heap.size, 3, none⟩ = some (.int .i64 x.v.c) ∧ w'.cell? ⟨w5.heap.size, 4, none⟩ = some (.int .i64 x.v.s) ∧ w'.cell? ⟨w5.heap.size, 5, none⟩ = some (.int .i64 x.v.r) ∧ w'.cell? ⟨w5.heap.size, 6, none⟩ = some (.string (str x.v.p)) ∧ w'.cell? ⟨w5.heap.size, 7, none⟩ = some (.int .u64 x.v.d) ∧ w'.cell? ⟨w5.heap.size, 8, none⟩ = some (.slice a5 n5 c5) ∧ w'.cell? ⟨w5.heap.size, 9, none⟩ = some (.int .i64 x.v.m) ∧ w'.cell? ⟨gm, k * 10, none⟩ = some (.int .i64 x.i) ∧ w'.cell? ⟨gm, k * 10 + 1, none⟩ = some (.int .i64 x.q) ∧ w'.cell? ⟨gm, k * 10 + 2, none⟩ = some (.string (str x.n)) ∧ w'.cell? ⟨gm, k * 10 + 3, none⟩ = some (.int .i64 x.v.c) ∧ w'.cell? ⟨gm, k * 10 + 4, none⟩ = some (.int .i64 x.v.s) ∧ w'.cell? ⟨gm, k * 10 + 5, none⟩ = some (.int .i64 x.v.r) ∧ w'.cell? ⟨gm, k * 10 + 6, none⟩ = some (.string (str x.v.p)) ∧ w'.cell? ⟨gm, k * 10 + 7, none⟩ = some (.int .u64 x.v.d) ∧ w'.cell? ⟨gm, k * 10 + 8, none⟩ = some (.slice am nm cm) ∧ w'.cell? ⟨gm, k * 10 + 9, none⟩ = some (.int .i64 x.v.m)) (by kernel_rfl) ⟨t1, s0, s1, s2, s3, s4, s5, s6, s7, s8, s9, p0, p1, p2, p3, p4, p5, p6, p7, p8, p9⟩ (fun hHeld => ?_)
              refine wpAnyH_lit (fuel' := 33) (l' := #[false, false, false, false, false, false, false, false, false, false, false, false, false, false, false, false, false, false, false, false, false, false, false, false, false, false, false, false, false, false, false, false, false]) rfl rfl ?_
              refine wpAnyH_take (i := 0) (v := ?_) rfl (by kernel_rfl) (by kernel_rfl) (by kernel_rfl) (fun _ _ _ h => h) (Or.inl ⟨by rfl, ?_⟩) hHeld ?_
              rotate_left
              · intro w9 hSw; (try dsimp only at hSw); go_simp; (try with_reducible rfl)
              try simp only [List.getElem_toArray, List.getElem_cons_succ, List.getElem_cons_zero, Act.put, List.setIfInBounds_toArray, List.set_cons_zero, List.set_cons_succ]
              refine wpAnyH_take (i := 1) (v := ?_) rfl (by kernel_rfl) (by kernel_rfl) (by kernel_rfl) (fun _ _ _ h => h) (Or.inl ⟨by rfl, ?_⟩) hHeld ?_
              rotate_left
              · intro w9 hSw; (try dsimp only at hSw); go_simp; (try with_reducible rfl)
              try simp only [List.getElem_toArray, List.getElem_cons_succ, List.getElem_cons_zero, Act.put, List.setIfInBounds_toArray, List.set_cons_zero, List.set_cons_succ]
              refine wpAnyH_take (i := 2) (v := ?_) rfl (by kernel_rfl) (by kernel_rfl) (by kernel_rfl) (fun _ _ _ h => h) (Or.inl ⟨by rfl, ?_⟩) hHeld ?_
              rotate_left
              · intro w9 hSw; (try dsimp only at hSw); go_simp; (try with_reducible rfl)
              try simp only [List.getElem_toArray, List.getElem_cons_succ, List.getElem_cons_zero, Act.put, List.setIfInBounds_toArray, List.set_cons_zero, List.set_cons_succ]
              refine wpAnyH_take (i := 3) (v := ?_) rfl (by kernel_rfl) (by kernel_rfl) (by kernel_rfl) (fun _ _ _ h => h) (Or.inl ⟨by rfl, ?_⟩) hHeld ?_
              rotate_left
              · intro w9 hSw; (try dsimp only at hSw); go_simp; (try with_reducible rfl)
              try simp only [List.getElem_toArray, List.getElem_cons_succ, List.getElem_cons_zero, Act.put, List.setIfInBounds_toArray, List.set_cons_zero, List.set_cons_succ]
              refine wpAnyH_take (i := 4) (v := ?_) rfl (by kernel_rfl) (by kernel_rfl) (by kernel_rfl) (fun _ _ _ h => h) (Or.inl ⟨by rfl, ?_⟩) hHeld ?_
              rotate_left
              · intro w9 hSw; (try dsimp only at hSw); go_simp; (try with_reducible rfl)
              try simp only [List.getElem_toArray, List.getElem_cons_succ, List.getElem_cons_zero, Act.put, List.setIfInBounds_toArray, List.set_cons_zero, List.set_cons_succ]
              refine wpAnyH_take (i := 5) (v := ?_) rfl (by kernel_rfl) (by kernel_rfl) (by kernel_rfl) (fun _ _ _ h => h) (Or.inl ⟨by rfl, ?_⟩) hHeld ?_
              rotate_left
              · intro w9 hSw; (try dsimp only at hSw); go_simp; (try with_reducible rfl)
              try simp only [List.getElem_toArray, List.getElem_cons_succ, List.getElem_cons_zero, Act.put, List.setIfInBounds_toArray, List.set_cons_zero, List.set_cons_succ]
              refine wpAnyH_take (i := 6) (v := ?_) rfl (by kernel_rfl) (by kernel_rfl) (by kernel_rfl) (fun _ _ _ h => h) (Or.inl ⟨by rfl, ?_⟩) hHeld ?_
              rotate_left
              · intro w9 hSw; (try dsimp only at hSw); go_simp; (try with_reducible rfl)
              try simp only [List.getElem_toArray, List.getElem_cons_succ, List.getElem_cons_zero, Act.put, List.setIfInBounds_toArray, List.set_cons_zero, List.set_cons_succ]
              refine wpAnyH_take (i := 7) (v := ?_) rfl (by kernel_rfl) (by kernel_rfl) (by kernel_rfl) (fun _ _ _ h => h) (Or.inl ⟨by rfl, ?_⟩) hHeld ?_
              rotate_left
              · intro w9 hSw; (try dsimp only at hSw); go_simp; (try with_reducible rfl)
              try simp only [List.getElem_toArray, List.getElem_cons_succ, List.getElem_cons_zero, Act.put, List.setIfInBounds_toArray, List.set_cons_zero, List.set_cons_succ]
              refine wpAnyH_take (i := 8) (v := ?_) rfl (by kernel_rfl) (by kernel_rfl) (by kernel_rfl) (fun _ _ _ h => h) (Or.inl ⟨by rfl, ?_⟩) hHeld ?_
              rotate_left
              · intro w9 hSw; (try dsimp only at hSw); go_simp; (try with_reducible rfl)
              try simp only [List.getElem_toArray, List.getElem_cons_succ, List.getElem_cons_zero, Act.put, List.setIfInBounds_toArray, List.set_cons_zero, List.set_cons_succ]
              refine wpAnyH_take (i := 9) (v := ?_) rfl (by kernel_rfl) (by kernel_rfl) (by kernel_rfl) (fun _ _ _ h => h) (Or.inl ⟨by rfl, ?_⟩) hHeld ?_
              rotate_left
              · intro w9 hSw; (try dsimp only at hSw); go_simp; (try with_reducible rfl)
              try simp only [List.getElem_toArray, List.getElem_cons_succ, List.getElem_cons_zero, Act.put, List.setIfInBounds_toArray, List.set_cons_zero, List.set_cons_succ]
              refine wpAnyH_take (i := 10) (v := ?_) rfl (by kernel_rfl) (by kernel_rfl) (by kernel_rfl) (fun _ _ _ h => h) (Or.inl ⟨by rfl, ?_⟩) hHeld ?_
              rotate_left
              · intro w9 hSw; (try dsimp only at hSw); go_simp; (try with_reducible rfl)
              try simp only [List.getElem_toArray, List.getElem_cons_succ, List.getElem_cons_zero, Act.put, List.setIfInBounds_toArray, List.set_cons_zero, List.set_cons_succ]
              refine wpAnyH_take (i := 11) (v := ?_) rfl (by kernel_rfl) (by kernel_rfl) (by kernel_rfl) (fun _ _ _ h => h) (Or.inl ⟨by rfl, ?_⟩) hHeld ?_
              rotate_left
              · intro w9 hSw; (try dsimp only at hSw); go_simp; (try with_reducible rfl)
              try simp only [List.getElem_toArray, List.getElem_cons_succ, List.getElem_cons_zero, Act.put, List.setIfInBounds_toArray, List.set_cons_zero, List.set_cons_succ]
              refine wpAnyH_take (i := 12) (v := ?_) rfl (by kernel_rfl) (by kernel_rfl) (by kernel_rfl) (fun _ _ _ h => h) (Or.inl ⟨by rfl, ?_⟩) hHeld ?_
              rotate_left
              · intro w9 hSw; (try dsimp only at hSw); go_simp; (try with_reducible rfl)
              try simp only [List.getElem_toArray, List.getElem_cons_succ, List.getElem_cons_zero, Act.put, List.setIfInBounds_toArray, List.set_cons_zero, List.set_cons_succ]
              refine wpAnyH_take (i := 13) (v := ?_) rfl (by kernel_rfl) (by kernel_rfl) (by kernel_rfl) (fun _ _ _ h => h) (Or.inl ⟨by rfl, ?_⟩) hHeld ?_
              rotate_left
              · intro w9 hSw; (try dsimp only at hSw); go_simp; (try with_reducible rfl)
              try simp only [List.getElem_toArray, List.getElem_cons_succ, List.getElem_cons_zero, Act.put, List.setIfInBounds_toArray, List.set_cons_zero, List.set_cons_succ]
              refine wpAnyH_take (i := 14) (v := ?_) rfl (by kernel_rfl) (by kernel_rfl) (by kernel_rfl) (fun _ _ _ h => h) (Or.inl ⟨by rfl, ?_⟩) hHeld ?_
              rotate_left
              · intro w9 hSw; (try dsimp only at hSw); go_simp; (try with_reducible rfl)
              try simp only [List.getElem_toArray, List.getElem_cons_succ, List.getElem_cons_zero, Act.put, List.setIfInBounds_toArray, List.set_cons_zero, List.set_cons_succ]
              refine wpAnyH_take (i := 15) (v := ?_) rfl (by kernel_rfl) (by kernel_rfl) (by kernel_rfl) (fun _ _ _ h => h) (Or.inl ⟨by rfl, ?_⟩) hHeld ?_
              rotate_left
              · intro w9 hSw; (try dsimp only at hSw); go_simp; (try with_reducible rfl)
              try simp only [List.getElem_toArray, List.getElem_cons_succ, List.getElem_cons_zero, Act.put, List.setIfInBounds_toArray, List.set_cons_zero, List.set_cons_succ]
              refine wpAnyH_take (i := 16) (v := ?_) rfl (by kernel_rfl) (by kernel_rfl) (by kernel_rfl) (fun _ _ _ h => h) (Or.inl ⟨by rfl, ?_⟩) hHeld ?_
              rotate_left
              · intro w9 hSw; (try dsimp only at hSw); go_simp; (try with_reducible rfl)
              try simp only [List.getElem_toArray, List.getElem_cons_succ, List.getElem_cons_zero, Act.put, List.setIfInBounds_toArray, List.set_cons_zero, List.set_cons_succ]
              refine wpAnyH_take (i := 17) (v := ?_) rfl (by kernel_rfl) (by kernel_rfl) (by kernel_rfl) (fun _ _ _ h => h) (Or.inl ⟨by rfl, ?_⟩) hHeld ?_
              rotate_left
              · intro w9 hSw; (try dsimp only at hSw); go_simp; (try with_reducible rfl)
              try simp only [List.getElem_toArray, List.getElem_cons_succ, List.getElem_cons_zero, Act.put, List.setIfInBounds_toArray, List.set_cons_zero, List.set_cons_succ]
              refine wpAnyH_take (i := 18) (v := ?_) rfl (by kernel_rfl) (by kernel_rfl) (by kernel_rfl) (fun _ _ _ h => h) (Or.inl ⟨by rfl, ?_⟩) hHeld ?_
              rotate_left
              · intro w9 hSw; (try dsimp only at hSw); go_simp; (try with_reducible rfl)
              try simp only [List.getElem_toArray, List.getElem_cons_succ, List.getElem_cons_zero, Act.put, List.setIfInBounds_toArray, List.set_cons_zero, List.set_cons_succ]
              refine wpAnyH_ready (rs := [19]) (by kernel_rfl) (by simp) (AllReadyH.cons rfl (fun K0 hK0 => ?_) AllReadyH.nil)
              go_simp
              refine (cSm _ (Kept.refl [] _).drew).mono ?_
              rintro _ w7 ⟨rfl, hK7⟩
              have HK7 := hide ((Kept.refl [] w6).drew.trans hK7 (by simp))
              clear hK7
              go_wp2_with fail
              refine hK0.out _ _ ⟨HK7.out.cell t1 (by simp), HK7.out.cell s0 (by simp), HK7.out.cell s1 (by simp), HK7.out.cell s2 (by simp), HK7.out.cell s3 (by simp), HK7.out.cell s4 (by simp), HK7.out.cell s5 (by simp), HK7.out.cell s6 (by simp), HK7.out.cell s7 (by simp), HK7.out.cell s8 (by simp), HK7.out.cell s9 (by simp), HK7.out.cell p0 (by simp), HK7.out.cell p1 (by simp), HK7.out.cell p2 (by simp), HK7.out.cell p3 (by simp), HK7.out.cell p4 (by simp), HK7.out.cell p5 (by simp), HK7.out.cell p6 (by simp), HK7.out.cell p7 (by simp), HK7.out.cell p8 (by simp), HK7.out.cell p9 (by simp)⟩ (fun hHeld => ?_)
              clear hK0 K0
              try simp only [List.getElem_toArray, List.getElem_cons_succ, List.getElem_cons_zero, Act.put, List.setIfInBounds_toArray, List.set_cons_zero, List.set_cons_succ]
              refine wpAnyH_take (i := 20) (v := ?_) rfl (by kernel_rfl) (by kernel_rfl) (by kernel_rfl) (fun _ _ _ h => h) (Or.inl ⟨by rfl, ?_⟩) hHeld ?_
              rotate_left
              · intro w9 hSw; (try dsimp only at hSw); go_simp; (try with_reducible rfl)
              try simp only [List.getElem_toArray, List.getElem_cons_succ, List.getElem_cons_zero, Act.put, List.setIfInBounds_toArray, List.set_cons_zero, List.set_cons_succ]
              refine wpAnyH_take (i := 21) (v := ?_) rfl (by kernel_rfl) (by kernel_rfl) (by kernel_rfl) (fun _ _ _ h => h) (Or.inl ⟨by rfl, ?_⟩) hHeld ?_
              rotate_left
              · intro w9 hSw; (try dsimp only at hSw); go_simp; (try with_reducible rfl)
              try simp only [List.getElem_toArray, List.getElem_cons_succ, List.getElem_cons_zero, Act.put, List.setIfInBounds_toArray, List.set_cons_zero, List.set_cons_succ]
              refine wpAnyH_take (i := 22) (v := ?_) rfl (by kernel_rfl) (by kernel_rfl) (by kernel_rfl) (fun _ _ _ h => h) (Or.inl ⟨by rfl, ?_⟩) hHeld ?_
              rotate_left
              · intro w9 hSw; (try dsimp only at hSw); go_simp; (try with_reducible rfl)
              try simp only [List.getElem_toArray, List.getElem_cons_succ, List.getElem_cons_zero, Act.put, List.setIfInBounds_toArray, List.set_cons_zero, List.set_cons_succ]
              refine wpAnyH_take (i := 23) (v := ?_) rfl (by kernel_rfl) (by kernel_rfl) (by kernel_rfl) (fun _ _ _ h => h) (Or.inl ⟨by rfl, ?_⟩) hHeld ?_
              rotate_left
              · intro w9 hSw; (try dsimp only at hSw); go_simp; (try with_reducible rfl)
              try simp only [List.getElem_toArray, List.getElem_cons_succ, List.getElem_cons_zero, Act.put, List.setIfInBounds_toArray, List.set_cons_zero, List.set_cons_succ]
              refine wpAnyH_take (i := 24) (v := ?_) rfl (by kernel_rfl) (by kernel_rfl) (by kernel_rfl) (fun _ _ _ h => h) (Or.inl ⟨by rfl, ?_⟩) hHeld ?_
              rotate_left
              · intro w9 hSw; (try dsimp only at hSw); go_simp; (try with_reducible rfl)
              try simp only [List.getElem_toArray, List.getElem_cons_succ, List.getElem_cons_zero, Act.put, List.setIfInBounds_toArray, List.set_cons_zero, List.set_cons_succ]
              refine wpAnyH_take (i := 26) (v := ?_) rfl (by kernel_rfl) (by kernel_rfl) (by kernel_rfl) (fun _ _ _ h => h) (Or.inl ⟨by rfl, ?_⟩) hHeld ?_
              rotate_left
              · intro w9 hSw; (try dsimp only at hSw); go_simp; (try with_reducible rfl)
              try simp only [List.getElem_toArray, List.getElem_cons_succ, List.getElem_cons_zero, Act.put, List.setIfInBounds_toArray, List.set_cons_zero, List.set_cons_succ]
              refine wpAnyH_take (i := 27) (v := ?_) rfl (by kernel_rfl) (by kernel_rfl) (by kernel_rfl) (fun _ _ _ h => h) (Or.inl ⟨by rfl, ?_⟩) hHeld ?_
              rotate_left
              · intro w9 hSw; (try dsimp only at hSw); go_simp; (try with_reducible rfl)
              try simp only [List.getElem_toArray, List.getElem_cons_succ, List.getElem_cons_zero, Act.put, List.setIfInBounds_toArray, List.set_cons_zero, List.set_cons_succ]
              refine wpAnyH_take (i := 28) (v := ?_) rfl (by kernel_rfl) (by kernel_rfl) (by kernel_rfl) (fun _ _ _ h => h) (Or.inl ⟨by rfl, ?_⟩) hHeld ?_
              rotate_left
              · intro w9 hSw; (try dsimp only at hSw); go_simp; (try with_reducible rfl)
              try simp only [List.getElem_toArray, List.getElem_cons_succ, List.getElem_cons_zero, Act.put, List.setIfInBounds_toArray, List.set_cons_zero, List.set_cons_succ]
              refine wpAnyH_take (i := 29) (v := ?_) rfl (by kernel_rfl) (by kernel_rfl) (by kernel_rfl) (fun _ _ _ h => h) (Or.inl ⟨by rfl, ?_⟩) hHeld ?_
              rotate_left
              · intro w9 hSw; (try dsimp only at hSw); go_simp; (try with_reducible rfl)
              try simp only [List.getElem_toArray, List.getElem_cons_succ, List.getElem_cons_zero, Act.put, List.setIfInBounds_toArray, List.set_cons_zero, List.set_cons_succ]
              refine wpAnyH_ready (rs := [25]) (by kernel_rfl) (by simp) (AllReadyH.cons rfl (fun K0 hK0 => ?_) AllReadyH.nil)
              go_simp
              refine (cAl _ HK7.out).mono ?_
              rintro _ w8 ⟨v8, X8, rfl, hR8, hO8, hM8, hK8⟩
              obtain ⟨ao8, c8, hv8, hs8⟩ := hR8.t.sl (fun y hy => (hO8 y hy).ko)
              subst hv8
              have HS8 := hide hs8
              have HM8 := hide hM8
              have HK8 := hide (HK7.out.trans hK8 (by simp))
              obtain ⟨m8, hm8⟩ : ∃ m8, m8 = X8.length := ⟨_, rfl⟩
              rw [← hm8] at HS8 ⊢
              clear hR8 hO8 hM8 hK8 hs8 hm8
              go_wp2_with fail
              refine hK0.out _ _ ⟨HK8.out.cell t1 (by simp), HK8.out.cell s0 (by simp), HK8.out.cell s1 (by simp), HK8.out.cell s2 (by simp), HK8.out.cell s3 (by simp), HK8.out.cell s4 (by simp), HK8.out.cell s5 (by simp), HK8.out.cell s6 (by simp), HK8.out.cell s7 (by simp), HK8.out.cell s8 (by simp), HK8.out.cell s9 (by simp), HK8.out.cell p0 (by simp), HK8.out.cell p1 (by simp), HK8.out.cell p2 (by simp), HK8.out.cell p3 (by simp), HK8.out.cell p4 (by simp), HK8.out.cell p5 (by simp), HK8.out.cell p6 (by simp), HK8.out.cell p7 (by simp), HK8.out.cell p8 (by simp), HK8.out.cell p9 (by simp)⟩ (fun hHeld => ?_)
              clear hK0 K0
              try simp only [List.getElem_toArray, List.getElem_cons_succ, List.getElem_cons_zero, Act.put, List.setIfInBounds_toArray, List.set_cons_zero, List.set_cons_succ]
              refine wpAnyH_ready (rs := [30]) (by kernel_rfl) (by simp) (AllReadyH.cons rfl (fun K0 hK0 => ?_) AllReadyH.nil)
              go_simp
              refine (sameSs_call w8 ao8 (some ⟨gm, 0, none⟩) m8 mM c8 cM X8 Y HS8.out (HSM.out.kept HK8.out) (by rw [HM8.out, HYM.out])).mono ?_
              rintro _ w9b ⟨rfl, hK9⟩
              have HK9 := hide (HK8.out.trans hK9 (by simp))
              clear hK9
              go_wp2_with fail
              refine hK0.out _ _ ⟨HK9.out.cell t1 (by simp), HK9.out.cell s0 (by simp), HK9.out.cell s1 (by simp), HK9.out.cell s2 (by simp), HK9.out.cell s3 (by simp), HK9.out.cell s4 (by simp), HK9.out.cell s5 (by simp), HK9.out.cell s6 (by simp), HK9.out.cell s7 (by simp), HK9.out.cell s8 (by simp), HK9.out.cell s9 (by simp), HK9.out.cell p0 (by simp), HK9.out.cell p1 (by simp), HK9.out.cell p2 (by simp), HK9.out.cell p3 (by simp), HK9.out.cell p4 (by simp), HK9.out.cell p5 (by simp), HK9.out.cell p6 (by simp), HK9.out.cell p7 (by simp), HK9.out.cell p8 (by simp), HK9.out.cell p9 (by simp)⟩ (fun hHeld => ?_)
              clear hK0 K0
              try simp only [List.getElem_toArray, List.getElem_cons_succ, List.getElem_cons_zero, Act.put, List.setIfInBounds_toArray, List.set_cons_zero, List.set_cons_succ]
              refine wpAnyH_take (i := 31) (v := ?_) rfl (by kernel_rfl) (by kernel_rfl) (by kernel_rfl) (fun _ _ _ h => h) (Or.inl ⟨by rfl, ?_⟩) hHeld ?_
              rotate_left
              · intro w9 hSw; (try dsimp only at hSw); go_simp; (try with_reducible rfl)
              try simp only [List.getElem_toArray, List.getElem_cons_succ, List.getElem_cons_zero, Act.put, List.setIfInBounds_toArray, List.set_cons_zero, List.set_cons_succ]
              refine wpAnyH_take (i := 32) (v := ?_) rfl (by kernel_rfl) (by kernel_rfl) (by kernel_rfl) (fun _ _ _ h => h) (Or.inl ⟨by rfl, ?_⟩) hHeld ?_
              rotate_left
              · intro w9 hSw; (try dsimp only at hSw); go_simp; (try with_reducible rfl)
              try simp only [List.getElem_toArray, List.getElem_cons_succ, List.getElem_cons_zero, Act.put, List.setIfInBounds_toArray, List.set_cons_zero, List.set_cons_succ]
              refine wpAnyH_done (by kernel_rfl) ?_ _
              have HFn := hide (HP6.out.kept HK9.out)
              clear hHeld t1 s0 s1 s2 s3 s4 s5 s6 s7 s8 s9 p0 p1 p2 p3 p4 p5 p6 p7 p8 p9
              go_wp2_with fail
              go_roundw
              case rel => exact ⟨i + 1, L4, by go_num, by omega, HFn⟩
              case measure => simp [intOf]; omega
          · by_cases ho4 : y.o ≤ 4
            · have d0 := cell_inC (k := 0) HBx.out rfl
              have d1 := cell_inC (k := 1) HBx.out rfl
              have d2 := cell_inC (k := 2) HBx.out rfl
              have cT := pt_ask (HP0.out.kept hKa) y.i y.q
              have h01 : ¬ y.o ≤ 1 := ho
              have h04 : y.o ≤ 4 := ho4
              clear hKa
              go_wp2_with fail
              refine cT.mono ?_
              rintro _ w3 ⟨⟨a3, n3, c3, rfl, hO3⟩, hP3, hF3⟩
              obtain ⟨pp, hpp⟩ : ∃ pp, pp = askV y.i y.q L := ⟨_, rfl⟩
              rw [← hpp] at hO3 ⊢
              unfold vtV
              have hKb : Kept [] w3 (w3.alloc (.cells #[.int .i64 pp.1.c, .int .i64 pp.1.s, .int .i64 pp.1.r, .string (str pp.1.p), .int .u64 pp.1.d, .slice a3 n3 c3, .int .i64 pp.1.m] 31)) := (Kept.refl _ _).alloc _
              have HBv := hide (heap_alloc_new w3 (.cells #[.int .i64 pp.1.c, .int .i64 pp.1.s, .int .i64 pp.1.r, .string (str pp.1.p), .int .u64 pp.1.d, .slice a3 n3 c3, .int .i64 pp.1.m] 31))
              have hBx3 := hKb.at (hF3.at HBx.out (by decide)) (by simp)
              have f1 := cell_inC (k := 1) hBx3 rfl
              have f2 := cell_inC (k := 2) hBx3 rfl
              have cU := pm_ask (hP3.kept hKb) y.i y.q
              rw [← hpp] at cU
              have HO3 := hide (hO3.kept hKb)
              have HBx3 := hide hBx3
              clear cT hP3 d0 d1 d2 hBx3 hO3 hF3 hKb hpp
              go_wp2_with fail
              refine cU.mono ?_
              rintro _ w4' ⟨⟨a4, n4, c4, rfl, hO4⟩, hP4, hF4⟩
              unfold vtV
              have hKc : Kept [] w4' (w4'.alloc (.cells #[.int .i64 pp.1.c, .int .i64 pp.1.s, .int .i64 pp.1.r, .string (str pp.1.p), .int .u64 pp.1.d, .slice a4 n4 c4, .int .i64 pp.1.m] 31)) := (Kept.refl _ _).alloc _
              have hBc := heap_alloc_new w4' (.cells #[.int .i64 pp.1.c, .int .i64 pp.1.s, .int .i64 pp.1.r, .string (str pp.1.p), .int .u64 pp.1.d, .slice a4 n4 c4, .int .i64 pp.1.m] 31)
              have hBv4 := hKc.at (hF4.at HBv.out (by decide)) (by simp)
              have g0 := cell_inC (k := 0) hBv4 rfl
              have g1 := cell_inC (k := 1) hBv4 rfl
              have g2 := cell_inC (k := 2) hBv4 rfl
              have g3 := cell_inC (k := 3) hBv4 rfl
              have g4 := cell_inC (k := 4) hBv4 rfl
              have g5 := cell_inC (k := 5) hBv4 rfl
              have g6 := cell_inC (k := 6) hBv4 rfl
              have k0 := cell_inC (k := 0) hBc rfl
              have k1 := cell_inC (k := 1) hBc rfl
              have k2 := cell_inC (k := 2) hBc rfl
              have k3 := cell_inC (k := 3) hBc rfl
              have k4 := cell_inC (k := 4) hBc rfl
              have k5 := cell_inC (k := 5) hBc rfl
              have k6 := cell_inC (k := 6) hBc rfl
              have cS := alikeT_call (w4'.alloc (.cells #[.int .i64 pp.1.c, .int .i64 pp.1.s, .int .i64 pp.1.r, .string (str pp.1.p), .int .u64 pp.1.d, .slice a4 n4 c4, .int .i64 pp.1.m] 31)) pp.1 (.slice a3 n3 c3) (.slice a4 n4 c4) ((hF4.ko HO3.out).kept hKc).ko (hO4.kept hKc).ko
              unfold vtV at cS
              have HP4a := hide (hP4.kept hKc)
              have HBx4a := hide (hKc.at (hF4.at HBx3.out (by decide)) (by simp))
              clear cU hP4 hF4 hO4 hKc hBc hBv4 f1 f2
              have hbb : (pp.2 == pp.2) = true := by simp
              go_wp2_with fail
              refine cS.mono ?_
              rintro _ w4 ⟨rfl, hK4⟩
              have HP4 := hide (HP4a.out.kept hK4)
              have HBx4 := hide (hK4.at HBx4a.out (by simp))
              obtain ⟨L4, hL4e⟩ : ∃ L4, L4 = askL y.i L := ⟨_, rfl⟩
              rw [← hL4e] at HP4
              clear cS hK4 hL4e g0 g1 g2 g3 g4 g5 g6 k0 k1 k2 k3 k4 k5 k6
              have cFi := liveT_find HP4.out.live y.i
              unfold FindP at cFi
              have e1 := cell_inC (k := 1) HBx4.out rfl
              cases hB : byI y.i L4 with
              | none =>
                have hfs : findS y.i L4 = se0 := by unfold findS; rw [hB]
                rw [hB, hfs] at cFi
                unfold seV se0 vtC at cFi
                simp only [str_nil, Option.isSome] at cFi
                clear hfs
                go_wp2_with fail
                refine cFi.mono ?_
                rintro _ w5 ⟨u5, rfl, hO5, hK5⟩
                obtain ⟨a5, n5, c5, rfl⟩ := hO5.ko.one
                have hKb : Kept [] w5 (w5.alloc (.cells #[.int .i64 0, .int .i64 0, .string ByteArray.empty, .int .i64 0, .int .i64 0, .int .i64 0, .string ByteArray.empty, .int .u64 0, .slice a5 n5 c5, .int .i64 0] 44)) := (Kept.refl _ _).alloc _
                have HP5 := hide (HP4.out.kept (hK5.trans hKb (by simp)))
                have e1b := (hK5.trans hKb (by simp)).cell e1 (by simp)
                have cFm := pm_find HP5.out y.i
                rw [hB] at cFm
                simp only [plV] at cFm
                clear cFi hO5 hK5 hKb e1
                go_wp2_with fail
                refine cFm.mono ?_
                rintro _ w6 ⟨rfl, hK6⟩
                have HP6 := hide (HP5.out.kept hK6)
                obtain ⟨aoM, cM, Y, t1, hSM, hYM, hYo, hcM, hmM, hatM⟩ := HP6.out.model
                have HSM := hide hSM
                have HYM := hide hYM
                have cAl := fun W (hk : Kept [] w6 W) => liveT_all (HP6.out.live.kept hk)
                unfold CopS at cAl
                obtain ⟨mM, hmMe⟩ : ∃ mM, mM = L4.length := ⟨_, rfl⟩
                rw [← hmMe] at t1 HSM
                clear cFm hK6 hSM hYM hYo hatM hmMe e1b hB
                go_upto_region 27 with fail
                refine wp_region_held_drew (S := fun w' => w'.cell? ⟨bm, 1, none⟩ = some (.slice aoM mM cM)) (by kernel_rfl) t1 (fun hHeld => ?_)
                refine wpAnyH_lit (fuel' := 33) (l' := #[false, false, false, false, false, false, false, false, false, false, false, false, false, false, false, false, false, false, false, false, false, false, false, false, false, false, false, false, false, false, false, false, false]) rfl rfl ?_
                refine wpAnyH_take (i := 0) (v := ?_) rfl (by kernel_rfl) (by kernel_rfl) (by kernel_rfl) (fun _ _ _ h => h) (Or.inl ⟨by rfl, ?_⟩) hHeld ?_
                rotate_left
                · intro w9 hSw; (try dsimp only at hSw); go_simp; (try with_reducible rfl)
                try simp only [List.getElem_toArray, List.getElem_cons_succ, List.getElem_cons_zero, Act.put, List.setIfInBounds_toArray, List.set_cons_zero, List.set_cons_succ]
                refine wpAnyH_take (i := 1) (v := ?_) rfl (by kernel_rfl) (by kernel_rfl) (by kernel_rfl) (fun _ _ _ h => h) (Or.inl ⟨by rfl, ?_⟩) hHeld ?_
                rotate_left
                · intro w9 hSw; (try dsimp only at hSw); go_simp; (try with_reducible rfl)
                try simp only [List.getElem_toArray, List.getElem_cons_succ, List.getElem_cons_zero, Act.put, List.setIfInBounds_toArray, List.set_cons_zero, List.set_cons_succ]
                refine wpAnyH_take (i := 2) (v := ?_) rfl (by kernel_rfl) (by kernel_rfl) (by kernel_rfl) (fun _ _ _ h => h) (Or.inl ⟨by rfl, ?_⟩) hHeld ?_
                rotate_left
                · intro w9 hSw; (try dsimp only at hSw); go_simp; (try with_reducible rfl)
                try simp only [List.getElem_toArray, List.getElem_cons_succ, List.getElem_cons_zero, Act.put, List.setIfInBounds_toArray, List.set_cons_zero, List.set_cons_succ]
                refine wpAnyH_take (i := 3) (v := ?_) rfl (by kernel_rfl) (by kernel_rfl) (by kernel_rfl) (fun _ _ _ h => h) (Or.inl ⟨by rfl, ?_⟩) hHeld ?_
                rotate_left
                · intro w9 hSw; (try dsimp only at hSw); go_simp; (try with_reducible rfl)
                try simp only [List.getElem_toArray, List.getElem_cons_succ, List.getElem_cons_zero, Act.put, List.setIfInBounds_toArray, List.set_cons_zero, List.set_cons_succ]
                refine wpAnyH_take (i := 4) (v := ?_) rfl (by kernel_rfl) (by kernel_rfl) (by kernel_rfl) (fun _ _ _ h => h) (Or.inl ⟨by rfl, ?_⟩) hHeld ?_
                rotate_left
                · intro w9 hSw; (try dsimp only at hSw); go_simp; (try with_reducible rfl)
                try simp only [List.getElem_toArray, List.getElem_cons_succ, List.getElem_cons_zero, Act.put, List.setIfInBounds_toArray, List.set_cons_zero, List.set_cons_succ]
                refine wpAnyH_take (i := 5) (v := ?_) rfl (by kernel_rfl) (by kernel_rfl) (by kernel_rfl) (fun _ _ _ h => h) (Or.inl ⟨by rfl, ?_⟩) hHeld ?_
                rotate_left
                · intro w9 hSw; (try dsimp only at hSw); go_simp; (try with_reducible rfl)
                try simp only [List.getElem_toArray, List.getElem_cons_succ, List.getElem_cons_zero, Act.put, List.setIfInBounds_toArray, List.set_cons_zero, List.set_cons_succ]
                refine wpAnyH_take (i := 6) (v := ?_) rfl (by kernel_rfl) (by kernel_rfl) (by kernel_rfl) (fun _ _ _ h => h) (Or.inl ⟨by rfl, ?_⟩) hHeld ?_
                rotate_left
                · intro w9 hSw; (try dsimp only at hSw); go_simp; (try with_reducible rfl)
                try simp only [List.getElem_toArray, List.getElem_cons_succ, List.getElem_cons_zero, Act.put, List.setIfInBounds_toArray, List.set_cons_zero, List.set_cons_succ]
                refine wpAnyH_take (i := 7) (v := ?_) rfl (by kernel_rfl) (by kernel_rfl) (by kernel_rfl) (fun _ _ _ h => h) (Or.inl ⟨by rfl, ?_⟩) hHeld ?_
                rotate_left
                · intro w9 hSw; (try dsimp only at hSw); go_simp; (try with_reducible rfl)
                try simp only [List.getElem_toArray, List.getElem_cons_succ, List.getElem_cons_zero, Act.put, List.setIfInBounds_toArray, List.set_cons_zero, List.set_cons_succ]
                refine wpAnyH_take (i := 8) (v := ?_) rfl (by kernel_rfl) (by kernel_rfl) (by kernel_rfl) (fun _ _ _ h => h) (Or.inl ⟨by rfl, ?_⟩) hHeld ?_
                rotate_left
                · intro w9 hSw; (try dsimp only at hSw); go_simp; (try with_reducible rfl)
                try simp only [List.getElem_toArray, List.getElem_cons_succ, List.getElem_cons_zero, Act.put, List.setIfInBounds_toArray, List.set_cons_zero, List.set_cons_succ]
                refine wpAnyH_take (i := 9) (v := ?_) rfl (by kernel_rfl) (by kernel_rfl) (by kernel_rfl) (fun _ _ _ h => h) (Or.inl ⟨by rfl, ?_⟩) hHeld ?_
                rotate_left
                · intro w9 hSw; (try dsimp only at hSw); go_simp; (try with_reducible rfl)
                try simp only [List.getElem_toArray, List.getElem_cons_succ, List.getElem_cons_zero, Act.put, List.setIfInBounds_toArray, List.set_cons_zero, List.set_cons_succ]
                refine wpAnyH_take (i := 10) (v := ?_) rfl (by kernel_rfl) (by kernel_rfl) (by kernel_rfl) (fun _ _ _ h => h) (Or.inl ⟨by rfl, ?_⟩) hHeld ?_
                rotate_left
                · intro w9 hSw; (try dsimp only at hSw); go_simp; (try with_reducible rfl)
                try simp only [List.getElem_toArray, List.getElem_cons_succ, List.getElem_cons_zero, Act.put, List.setIfInBounds_toArray, List.set_cons_zero, List.set_cons_succ]
                refine wpAnyH_take (i := 11) (v := undef) rfl (by kernel_rfl) (by kernel_rfl) (by kernel_rfl) (fun _ _ _ h => h) (Or.inr ⟨by rfl, rfl⟩) hHeld ?_
                try simp only [List.getElem_toArray, List.getElem_cons_succ, List.getElem_cons_zero, Act.put, List.setIfInBounds_toArray, List.set_cons_zero, List.set_cons_succ]
                refine wpAnyH_take (i := 12) (v := undef) rfl (by kernel_rfl) (by kernel_rfl) (by kernel_rfl) (fun _ _ _ h => h) (Or.inr ⟨by rfl, rfl⟩) hHeld ?_
                try simp only [List.getElem_toArray, List.getElem_cons_succ, List.getElem_cons_zero, Act.put, List.setIfInBounds_toArray, List.set_cons_zero, List.set_cons_succ]
                refine wpAnyH_take (i := 13) (v := undef) rfl (by kernel_rfl) (by kernel_rfl) (by kernel_rfl) (fun _ _ _ h => h) (Or.inr ⟨by rfl, rfl⟩) hHeld ?_
                try simp only [List.getElem_toArray, List.getElem_cons_succ, List.getElem_cons_zero, Act.put, List.setIfInBounds_toArray, List.set_cons_zero, List.set_cons_succ]
                refine wpAnyH_take (i := 14) (v := undef) rfl (by kernel_rfl) (by kernel_rfl) (by kernel_rfl) (fun _ _ _ h => h) (Or.inr ⟨by rfl, rfl⟩) hHeld ?_
                try simp only [List.getElem_toArray, List.getElem_cons_succ, List.getElem_cons_zero, Act.put, List.setIfInBounds_toArray, List.set_cons_zero, List.set_cons_succ]
                refine wpAnyH_take (i := 15) (v := undef) rfl (by kernel_rfl) (by kernel_rfl) (by kernel_rfl) (fun _ _ _ h => h) (Or.inr ⟨by rfl, rfl⟩) hHeld ?_
                try simp only [List.getElem_toArray, List.getElem_cons_succ, List.getElem_cons_zero, Act.put, List.setIfInBounds_toArray, List.set_cons_zero, List.set_cons_succ]
                refine wpAnyH_take (i := 16) (v := undef) rfl (by kernel_rfl) (by kernel_rfl) (by kernel_rfl) (fun _ _ _ h => h) (Or.inr ⟨by rfl, rfl⟩) hHeld ?_
                try simp only [List.getElem_toArray, List.getElem_cons_succ, List.getElem_cons_zero, Act.put, List.setIfInBounds_toArray, List.set_cons_zero, List.set_cons_succ]
                refine wpAnyH_take (i := 17) (v := undef) rfl (by kernel_rfl) (by kernel_rfl) (by kernel_rfl) (fun _ _ _ h => h) (Or.inr ⟨by rfl, rfl⟩) hHeld ?_
                try simp only [List.getElem_toArray, List.getElem_cons_succ, List.getElem_cons_zero, Act.put, List.setIfInBounds_toArray, List.set_cons_zero, List.set_cons_succ]
                refine wpAnyH_take (i := 18) (v := undef) rfl (by kernel_rfl) (by kernel_rfl) (by kernel_rfl) (fun _ _ _ h => h) (Or.inr ⟨by rfl, rfl⟩) hHeld ?_
                try simp only [List.getElem_toArray, List.getElem_cons_succ, List.getElem_cons_zero, Act.put, List.setIfInBounds_toArray, List.set_cons_zero, List.set_cons_succ]
                refine wpAnyH_take (i := 19) (v := undef) rfl (by kernel_rfl) (by kernel_rfl) (by kernel_rfl) (fun _ _ _ h => h) (Or.inr ⟨by rfl, rfl⟩) hHeld ?_
                try simp only [List.getElem_toArray, List.getElem_cons_succ, List.getElem_cons_zero, Act.put, List.setIfInBounds_toArray, List.set_cons_zero, List.set_cons_succ]
                refine wpAnyH_take (i := 20) (v := undef) rfl (by kernel_rfl) (by kernel_rfl) (by kernel_rfl) (fun _ _ _ h => h) (Or.inr ⟨by rfl, rfl⟩) hHeld ?_
                try simp only [List.getElem_toArray, List.getElem_cons_succ, List.getElem_cons_zero, Act.put, List.setIfInBounds_toArray, List.set_cons_zero, List.set_cons_succ]
                obtain ⟨w7, hw7⟩ : ∃ w7, w7 = w6.drew := ⟨_, rfl⟩
                have HK7 : Hid (Kept [] w6 w7) := by show Kept _ _ _; rw [hw7]; exact (Kept.refl _ _).drew
                rw [← hw7]
                rw [← hw7] at hHeld
                clear hw7
                refine wpAnyH_take (i := 21) (v := ?_) rfl (by kernel_rfl) (by kernel_rfl) (by kernel_rfl) (fun _ _ _ h => h) (Or.inl ⟨by rfl, ?_⟩) hHeld ?_
                rotate_left
                · intro w9 hSw; (try dsimp only at hSw); go_simp; (try with_reducible rfl)
                try simp only [List.getElem_toArray, List.getElem_cons_succ, List.getElem_cons_zero, Act.put, List.setIfInBounds_toArray, List.set_cons_zero, List.set_cons_succ]
                refine wpAnyH_take (i := 22) (v := ?_) rfl (by kernel_rfl) (by kernel_rfl) (by kernel_rfl) (fun _ _ _ h => h) (Or.inl ⟨by rfl, ?_⟩) hHeld ?_
                rotate_left
                · intro w9 hSw; (try dsimp only at hSw); go_simp; (try with_reducible rfl)
                try simp only [List.getElem_toArray, List.getElem_cons_succ, List.getElem_cons_zero, Act.put, List.setIfInBounds_toArray, List.set_cons_zero, List.set_cons_succ]
                refine wpAnyH_take (i := 23) (v := ?_) rfl (by kernel_rfl) (by kernel_rfl) (by kernel_rfl) (fun _ _ _ h => h) (Or.inl ⟨by rfl, ?_⟩) hHeld ?_
                rotate_left
                · intro w9 hSw; (try dsimp only at hSw); go_simp; (try with_reducible rfl)
                try simp only [List.getElem_toArray, List.getElem_cons_succ, List.getElem_cons_zero, Act.put, List.setIfInBounds_toArray, List.set_cons_zero, List.set_cons_succ]
                refine wpAnyH_take (i := 24) (v := ?_) rfl (by kernel_rfl) (by kernel_rfl) (by kernel_rfl) (fun _ _ _ h => h) (Or.inl ⟨by rfl, ?_⟩) hHeld ?_
                rotate_left
                · intro w9 hSw; (try dsimp only at hSw); go_simp; (try with_reducible rfl)
                try simp only [List.getElem_toArray, List.getElem_cons_succ, List.getElem_cons_zero, Act.put, List.setIfInBounds_toArray, List.set_cons_zero, List.set_cons_succ]
                refine wpAnyH_take (i := 26) (v := ?_) rfl (by kernel_rfl) (by kernel_rfl) (by kernel_rfl) (fun _ _ _ h => h) (Or.inl ⟨by rfl, ?_⟩) hHeld ?_
                rotate_left
                · intro w9 hSw; (try dsimp only at hSw); go_simp; (try with_reducible rfl)
                try simp only [List.getElem_toArray, List.getElem_cons_succ, List.getElem_cons_zero, Act.put, List.setIfInBounds_toArray, List.set_cons_zero, List.set_cons_succ]
                refine wpAnyH_take (i := 27) (v := ?_) rfl (by kernel_rfl) (by kernel_rfl) (by kernel_rfl) (fun _ _ _ h => h) (Or.inl ⟨by rfl, ?_⟩) hHeld ?_
                rotate_left
                · intro w9 hSw; (try dsimp only at hSw); go_simp; (try with_reducible rfl)
                try simp only [List.getElem_toArray, List.getElem_cons_succ, List.getElem_cons_zero, Act.put, List.setIfInBounds_toArray, List.set_cons_zero, List.set_cons_succ]
                refine wpAnyH_take (i := 28) (v := ?_) rfl (by kernel_rfl) (by kernel_rfl) (by kernel_rfl) (fun _ _ _ h => h) (Or.inl ⟨by rfl, ?_⟩) hHeld ?_
                rotate_left
                · intro w9 hSw; (try dsimp only at hSw); go_simp; (try with_reducible rfl)
                try simp only [List.getElem_toArray, List.getElem_cons_succ, List.getElem_cons_zero, Act.put, List.setIfInBounds_toArray, List.set_cons_zero, List.set_cons_succ]
                refine wpAnyH_take (i := 29) (v := ?_) rfl (by kernel_rfl) (by kernel_rfl) (by kernel_rfl) (fun _ _ _ h => h) (Or.inl ⟨by rfl, ?_⟩) hHeld ?_
                rotate_left
                · intro w9 hSw; (try dsimp only at hSw); go_simp; (try with_reducible rfl)
                try simp only [List.getElem_toArray, List.getElem_cons_succ, List.getElem_cons_zero, Act.put, List.setIfInBounds_toArray, List.set_cons_zero, List.set_cons_succ]
                refine wpAnyH_ready (rs := [25]) (by kernel_rfl) (by simp) (AllReadyH.cons rfl (fun K0 hK0 => ?_) AllReadyH.nil)
                go_simp
                refine (cAl _ HK7.out).mono ?_
                rintro _ w8 ⟨v8, X8, rfl, hR8, hO8, hM8, hK8⟩
                obtain ⟨ao8, c8, hv8, hs8⟩ := hR8.t.sl (fun y hy => (hO8 y hy).ko)
                subst hv8
                have HS8 := hide hs8
                have HM8 := hide hM8
                have HK8 := hide (HK7.out.trans hK8 (by simp))
                obtain ⟨m8, hm8⟩ : ∃ m8, m8 = X8.length := ⟨_, rfl⟩
                rw [← hm8] at HS8 ⊢
                clear hR8 hO8 hM8 hK8 hs8 hm8
                go_wp2_with fail
                refine hK0.out _ _ (HK8.out.cell t1 (by simp)) (fun hHeld => ?_)
                clear hK0 K0
                try simp only [List.getElem_toArray, List.getElem_cons_succ, List.getElem_cons_zero, Act.put, List.setIfInBounds_toArray, List.set_cons_zero, List.set_cons_succ]
                refine wpAnyH_ready (rs := [30]) (by kernel_rfl) (by simp) (AllReadyH.cons rfl (fun K0 hK0 => ?_) AllReadyH.nil)
                go_simp
                refine (sameSs_call w8 ao8 aoM m8 mM c8 cM X8 Y HS8.out (HSM.out.kept HK8.out) (by rw [HM8.out, HYM.out])).mono ?_
                rintro _ w9b ⟨rfl, hK9⟩
                have HK9 := hide (HK8.out.trans hK9 (by simp))
                clear hK9
                go_wp2_with fail
                refine hK0.out _ _ (HK9.out.cell t1 (by simp)) (fun hHeld => ?_)
                clear hK0 K0
                try simp only [List.getElem_toArray, List.getElem_cons_succ, List.getElem_cons_zero, Act.put, List.setIfInBounds_toArray, List.set_cons_zero, List.set_cons_succ]
                refine wpAnyH_take (i := 31) (v := ?_) rfl (by kernel_rfl) (by kernel_rfl) (by kernel_rfl) (fun _ _ _ h => h) (Or.inl ⟨by rfl, ?_⟩) hHeld ?_
                rotate_left
                · intro w9 hSw; (try dsimp only at hSw); go_simp; (try with_reducible rfl)
                try simp only [List.getElem_toArray, List.getElem_cons_succ, List.getElem_cons_zero, Act.put, List.setIfInBounds_toArray, List.set_cons_zero, List.set_cons_succ]
                refine wpAnyH_take (i := 32) (v := ?_) rfl (by kernel_rfl) (by kernel_rfl) (by kernel_rfl) (fun _ _ _ h => h) (Or.inl ⟨by rfl, ?_⟩) hHeld ?_
                rotate_left
                · intro w9 hSw; (try dsimp only at hSw); go_simp; (try with_reducible rfl)
                try simp only [List.getElem_toArray, List.getElem_cons_succ, List.getElem_cons_zero, Act.put, List.setIfInBounds_toArray, List.set_cons_zero, List.set_cons_succ]
                refine wpAnyH_done (by kernel_rfl) ?_ _
                have HFn := hide (HP6.out.kept HK9.out)
                clear hHeld t1
                go_wp2_with fail
                go_roundw
                case rel => exact ⟨i + 1, L4, by go_num, by omega, HFn⟩
                case measure => simp [intOf]; omega
              | some k =>
                obtain ⟨hk4, hki⟩ := byI_lt hB
                clear hki
                have hfs : findS y.i L4 = L4[k] := by unfold findS; rw [hB]; exact getD_get hk4
                rw [hB, hfs] at cFi
                unfold seV at cFi
                simp only [Option.isSome] at cFi
                clear hfs
                obtain ⟨x, hx4⟩ : ∃ x, x = L4[k] := ⟨_, rfl⟩
                rw [← hx4] at cFi
                have HX4 : Hid (L4[k]? = some x) := by show _ = _; rw [hx4]; exact List.getElem?_eq_getElem hk4
                clear hx4
                have HK4 := hide hk4
                go_wp2_with fail
                refine cFi.mono ?_
                rintro _ w5 ⟨u5, rfl, hO5, hK5⟩
                obtain ⟨a5, n5, c5, rfl⟩ := hO5.ko.one
                have hKb : Kept [] w5 (w5.alloc (.cells #[.int .i64 x.i, .int .i64 x.q, .string (str x.n), .int .i64 x.v.c, .int .i64 x.v.s, .int .i64 x.v.r, .string (str x.v.p), .int .u64 x.v.d, .slice a5 n5 c5, .int .i64 x.v.m] 44)) := (Kept.refl _ _).alloc _
                have HBs := hide (heap_alloc_new w5 (.cells #[.int .i64 x.i, .int .i64 x.q, .string (str x.n), .int .i64 x.v.c, .int .i64 x.v.s, .int .i64 x.v.r, .string (str x.v.p), .int .u64 x.v.d, .slice a5 n5 c5, .int .i64 x.v.m] 44))
                have HO5 := hide (hO5.ko.kept hKb)
                have HP5 := hide (HP4.out.kept (hK5.trans hKb (by simp)))
                have e1b := (hK5.trans hKb (by simp)).cell e1 (by simp)
                have cFm := pm_find HP5.out y.i
                rw [hB] at cFm
                simp only [plV] at cFm
                clear cFi hO5 hK5 hKb e1
                go_wp2_with fail
                refine cFm.mono ?_
                rintro _ w6 ⟨rfl, hK6⟩
                have HP6 := hide (HP5.out.kept hK6)
                obtain ⟨aoM, cM, Y, t1, hSM, hYM, hYo, hcM, hmM, hatM⟩ := HP6.out.model
                unfold maxLen at hmM
                have hkY : k < Y.length := by have h1 : Y.length = L4.length := by rw [← hYM]; simp
                                              have h2 := HK4.out; omega
                obtain ⟨gm, he, hsm⟩ := hatM k hkY
                subst he
                have hyx : Y[k].1 = x := by
                  obtain ⟨h1, h2⟩ := List.getElem?_eq_some_iff.1 HX4.out
                  rw [← h2]; exact fst_get hYM hkY h1
                have hko := hYo _ (List.getElem_mem hkY)
                obtain ⟨am, nm, cm, hum⟩ := hko.one
                obtain ⟨p0, p1, p2, p3, p4, p5, p6, p7, p8, p9⟩ := hsm
                rw [hyx] at p0 p1 p2 p3 p4 p5 p6 p7 p9 hko
                rw [hum] at p8 hko
                have hB6 := hK6.at HBs.out (by simp)
                have s0 := cell_inC (k := 0) hB6 rfl
                have s1 := cell_inC (k := 1) hB6 rfl
                have s2 := cell_inC (k := 2) hB6 rfl
                have s3 := cell_inC (k := 3) hB6 rfl
                have s4 := cell_inC (k := 4) hB6 rfl
                have s5 := cell_inC (k := 5) hB6 rfl
                have s6 := cell_inC (k := 6) hB6 rfl
                have s7 := cell_inC (k := 7) hB6 rfl
                have s8 := cell_inC (k := 8) hB6 rfl
                have s9 := cell_inC (k := 9) hB6 rfl
                have HO6 := hide (HO5.out.kept hK6)
                have HKm := hide hko
                have cSm := fun W (hk : Kept [] w6 W) => sameS_call W x (.slice a5 n5 c5) (.slice am nm cm) (HO6.out.kept hk) (HKm.out.kept hk)
                unfold seV at cSm
                have HSM := hide hSM
                have HYM := hide hYM
                have cAl := fun W (hk : Kept [] w6 W) => liveT_all (HP6.out.live.kept hk)
                unfold CopS at cAl
                have hkm : (k : Int) < L4.length := by have := HK4.out; omega
                have hkc : k ≤ cM := by have := HK4.out; omega
                obtain ⟨mM, hmMe⟩ : ∃ mM, mM = L4.length := ⟨_, rfl⟩
                rw [← hmMe] at t1 HSM hkm hcM
                have hk0 : (0 : Int) ≤ k := by omega
                clear cFm hK6 hSM hYM hYo hatM hmMe e1b hB hyx hko hum hB6 hkY hk4
                go_upto_region 27 with fail
                refine wp_region_held_drew (S := fun w' => w'.cell? ⟨bm, 1, none⟩ = some (.slice (some ⟨gm, 0, none⟩) mM cM) ∧ w'.cell? ⟨w5.heap.size, 0, none⟩ = some (.int .i64 x.i) ∧ w'.cell? ⟨w5.heap.size, 1, none⟩ = some (.int .i64 x.q) ∧ w'.cell? ⟨w5.heap.size, 2, none⟩ = some (.string (str x.n)) ∧ w'.cell? ⟨w5.heap.size, 3, none⟩ = some (.int .i64 x.v.c) ∧ w'.cell? ⟨w5.heap.size, 4, none⟩ = some (.int .i64 x.v.s) ∧ w'.cell? ⟨w5.heap.size, 5, none⟩ = some (.int .i64 x.v.r) ∧ w'.cell? ⟨w5.heap.size, 6, none⟩ = some (.string (str x.v.p)) ∧ w'.cell? ⟨w5.heap.size, 7, none⟩ = some (.int .u64 x.v.d) ∧ w'.cell? ⟨w5.heap.size, 8, none⟩ = some (.slice a5 n5 c5) ∧ w'.cell? ⟨w5.heap.size, 9, none⟩ = some (.int .i64 x.v.m) ∧ w'.cell? ⟨gm, k * 10, none⟩ = some (.int .i64 x.i) ∧ w'.cell? ⟨gm, k * 10 + 1, none⟩ = some (.int .i64 x.q) ∧ w'.cell? ⟨gm, k * 10 + 2, none⟩ = some (.string (str x.n)) ∧ w'.cell? ⟨gm, k * 10 + 3, none⟩ = some (.int .i64 x.v.c) ∧ w'.cell? ⟨gm, k * 10 + 4, none⟩ = some (.int .i64 x.v.s) ∧ w'.cell? ⟨gm, k * 10 + 5, none⟩ = some (.int .i64 x.v.r) ∧ w'.cell? ⟨gm, k * 10 + 6, none⟩ = some (.string (str x.v.p)) ∧ w'.cell? ⟨gm, k * 10 + 7, none⟩ = some (.int .u64 x.v.d) ∧ w'.cell? ⟨gm, k * 10 + 8, none⟩ = some (.slice am nm cm) ∧ w'.cell? ⟨gm, k * 10 + 9, none⟩ = some (.int .i64 x.v.m)) (by kernel_rfl) ⟨t1, s0, s1, s2, s3, s4, s5, s6, s7, s8, s9, p0, p1, p2, p3, p4, p5, p6, p7, p8, p9⟩ (fun hHeld => ?_)
                refine wpAnyH_lit (fuel' := 33) (l' := #[false, false, false, false, false, false, false, false, false, false, false, false, false, false, false, false, false, false, false, false, false, false, false, false, false, false, false, false, false, false, false, false, false]) rfl rfl ?_
                refine wpAnyH_take (i := 0) (v := ?_) rfl (by kernel_rfl) (by kernel_rfl) (by kernel_rfl) (fun _ _ _ h => h) (Or.inl ⟨by rfl, ?_⟩) hHeld ?_
                rotate_left
                · intro w9 hSw; (try dsimp only at hSw); go_simp; (try with_reducible rfl)
                try simp only [List.getElem_toArray, List.getElem_cons_succ, List.getElem_cons_zero, Act.put, List.setIfInBounds_toArray, List.set_cons_zero, List.set_cons_succ]
                refine wpAnyH_take (i := 1) (v := ?_) rfl (by kernel_rfl) (by kernel_rfl) (by kernel_rfl) (fun _ _ _ h => h) (Or.inl ⟨by rfl, ?_⟩) hHeld ?_
                rotate_left
                · intro w9 hSw; (try dsimp only at hSw); go_simp; (try with_reducible rfl)
                try simp only [List.getElem_toArray, List.getElem_cons_succ, List.getElem_cons_zero, Act.put, List.setIfInBounds_toArray, List.set_cons_zero, List.set_cons_succ]
                refine wpAnyH_take (i := 2) (v := ?_) rfl (by kernel_rfl) (by kernel_rfl) (by kernel_rfl) (fun _ _ _ h => h) (Or.inl ⟨by rfl, ?_⟩) hHeld ?_
                rotate_left
                · intro w9 hSw; (try dsimp only at hSw); go_simp; (try with_reducible rfl)
                try simp only [List.getElem_toArray, List.getElem_cons_succ, List.getElem_cons_zero, Act.put, List.setIfInBounds_toArray, List.set_cons_zero, List.set_cons_succ]
                refine wpAnyH_take (i := 3) (v := ?_) rfl (by kernel_rfl) (by kernel_rfl) (by kernel_rfl) (fun _ _ _ h => h) (Or.inl ⟨by rfl, ?_⟩) hHeld ?_
                rotate_left
                · intro w9 hSw; (try dsimp only at hSw); go_simp; (try with_reducible rfl)
                try simp only [List.getElem_toArray, List.getElem_cons_succ, List.getElem_cons_zero, Act.put, List.setIfInBounds_toArray, List.set_cons_zero, List.set_cons_succ]
                refine wpAnyH_take (i := 4) (v := ?_) rfl (by kernel_rfl) (by kernel_rfl) (by kernel_rfl) (fun _ _ _ h => h) (Or.inl ⟨by rfl, ?_⟩) hHeld ?_
                rotate_left
                · intro w9 hSw; (try dsimp only at hSw); go_simp; (try with_reducible rfl)
                try simp only [List.getElem_toArray, List.getElem_cons_succ, List.getElem_cons_zero, Act.put, List.setIfInBounds_toArray, List.set_cons_zero, List.set_cons_succ]
                refine wpAnyH_take (i := 5) (v := ?_) rfl (by kernel_rfl) (by kernel_rfl) (by kernel_rfl) (fun _ _ _ h => h) (Or.inl ⟨by rfl, ?_⟩) hHeld ?_
                rotate_left
                · intro w9 hSw; (try dsimp only at hSw); go_simp; (try with_reducible rfl)
                try simp only [List.getElem_toArray, List.getElem_cons_succ, List.getElem_cons_zero, Act.put, List.setIfInBounds_toArray, List.set_cons_zero, List.set_cons_succ]
                refine wpAnyH_take (i := 6) (v := ?_) rfl (by kernel_rfl) (by kernel_rfl) (by kernel_rfl) (fun _ _ _ h => h) (Or.inl ⟨by rfl, ?_⟩) hHeld ?_
                rotate_left
                · intro w9 hSw; (try dsimp only at hSw); go_simp; (try with_reducible rfl)
                try simp only [List.getElem_toArray, List.getElem_cons_succ, List.getElem_cons_zero, Act.put, List.setIfInBounds_toArray, List.set_cons_zero, List.set_cons_succ]
                refine wpAnyH_take (i := 7) (v := ?_) rfl (by kernel_rfl) (by kernel_rfl) (by kernel_rfl) (fun _ _ _ h => h) (Or.inl ⟨by rfl, ?_⟩) hHeld ?_
                rotate_left
                · intro w9 hSw; (try dsimp only at hSw); go_simp; (try with_reducible rfl)
                try simp only [List.getElem_toArray, List.getElem_cons_succ, List.getElem_cons_zero, Act.put, List.setIfInBounds_toArray, List.set_cons_zero, List.set_cons_succ]
                refine wpAnyH_take (i := 8) (v := ?_) rfl (by kernel_rfl) (by kernel_rfl) (by kernel_rfl) (fun _ _ _ h => h) (Or.inl ⟨by rfl, ?_⟩) hHeld ?_
                rotate_left
                · intro w9 hSw; (try dsimp only at hSw); go_simp; (try with_reducible rfl)
                try simp only [List.getElem_toArray, List.getElem_cons_succ, List.getElem_cons_zero, Act.put, List.setIfInBounds_toArray, List.set_cons_zero, List.set_cons_succ]
                refine wpAnyH_take (i := 9) (v := ?_) rfl (by kernel_rfl) (by kernel_rfl) (by kernel_rfl) (fun _ _ _ h => h) (Or.inl ⟨by rfl, ?_⟩) hHeld ?_
                rotate_left
                · intro w9 hSw; (try dsimp only at hSw); go_simp; (try with_reducible rfl)
                try simp only [List.getElem_toArray, List.getElem_cons_succ, List.getElem_cons_zero, Act.put, List.setIfInBounds_toArray, List.set_cons_zero, List.set_cons_succ]
                refine wpAnyH_take (i := 10) (v := ?_) rfl (by kernel_rfl) (by kernel_rfl) (by kernel_rfl) (fun _ _ _ h => h) (Or.inl ⟨by rfl, ?_⟩) hHeld ?_
                rotate_left
                · intro w9 hSw; (try dsimp only at hSw); go_simp; (try with_reducible rfl)
                try simp only [List.getElem_toArray, List.getElem_cons_succ, List.getElem_cons_zero, Act.put, List.setIfInBounds_toArray, List.set_cons_zero, List.set_cons_succ]
                refine wpAnyH_take (i := 11) (v := ?_) rfl (by kernel_rfl) (by kernel_rfl) (by kernel_rfl) (fun _ _ _ h => h) (Or.inl ⟨by rfl, ?_⟩) hHeld ?_
                rotate_left
                · intro w9 hSw; (try dsimp only at hSw); go_simp; (try with_reducible rfl)
                try simp only [List.getElem_toArray, List.getElem_cons_succ, List.getElem_cons_zero, Act.put, List.setIfInBounds_toArray, List.set_cons_zero, List.set_cons_succ]
                refine wpAnyH_take (i := 12) (v := ?_) rfl (by kernel_rfl) (by kernel_rfl) (by kernel_rfl) (fun _ _ _ h => h) (Or.inl ⟨by rfl, ?_⟩) hHeld ?_
                rotate_left
                · intro w9 hSw; (try dsimp only at hSw); go_simp; (try with_reducible rfl)
                try simp only [List.getElem_toArray, List.getElem_cons_succ, List.getElem_cons_zero, Act.put, List.setIfInBounds_toArray, List.set_cons_zero, List.set_cons_succ]
                refine wpAnyH_take (i := 13) (v := ?_) rfl (by kernel_rfl) (by kernel_rfl) (by kernel_rfl) (fun _ _ _ h => h) (Or.inl ⟨by rfl, ?_⟩) hHeld ?_
                rotate_left
                · intro w9 hSw; (try dsimp only at hSw); go_simp; (try with_reducible rfl)
                try simp only [List.getElem_toArray, List.getElem_cons_succ, List.getElem_cons_zero, Act.put, List.setIfInBounds_toArray, List.set_cons_zero, List.set_cons_succ]
                refine wpAnyH_take (i := 14) (v := ?_) rfl (by kernel_rfl) (by kernel_rfl) (by kernel_rfl) (fun _ _ _ h => h) (Or.inl ⟨by rfl, ?_⟩) hHeld ?_
                rotate_left
                · intro w9 hSw; (try dsimp only at hSw); go_simp; (try with_reducible rfl)
                try simp only [List.getElem_toArray, List.getElem_cons_succ, List.getElem_cons_zero, Act.put, List.setIfInBounds_toArray, List.set_cons_zero, List.set_cons_succ]
                refine wpAnyH_take (i := 15) (v := ?_) rfl (by kernel_rfl) (by kernel_rfl) (by kernel_rfl) (fun _ _ _ h => h) (Or.inl ⟨by rfl, ?_⟩) hHeld ?_
                rotate_left
                · intro w9 hSw; (try dsimp only at hSw); go_simp; (try with_reducible rfl)
                try simp only [List.getElem_toArray, List.getElem_cons_succ, List.getElem_cons_zero, Act.put, List.setIfInBounds_toArray, List.set_cons_zero, List.set_cons_succ]
                refine wpAnyH_take (i := 16) (v := ?_) rfl (by kernel_rfl) (by kernel_rfl) (by kernel_rfl) (fun _ _ _ h => h) (Or.inl ⟨by rfl, ?_⟩) hHeld ?_
                rotate_left
                · intro w9 hSw; (try dsimp only at hSw); go_simp; (try with_reducible rfl)
                try simp only [List.getElem_toArray, List.getElem_cons_succ, List.getElem_cons_zero, Act.put, List.setIfInBounds_toArray, List.set_cons_zero, List.set_cons_succ]
                refine wpAnyH_take (i := 17) (v := ?_) rfl (by kernel_rfl) (by kernel_rfl) (by kernel_rfl) (fun _ _ _ h => h) (Or.inl ⟨by rfl, ?_⟩) hHeld ?_
                rotate_left
                · intro w9 hSw; (try dsimp only at hSw); go_simp; (try with_reducible rfl)
                try simp only [List.getElem_toArray, List.getElem_cons_succ, List.getElem_cons_zero, Act.put, List.setIfInBounds_toArray, List.set_cons_zero, List.set_cons_succ]
                refine wpAnyH_take (i := 18) (v := ?_) rfl (by kernel_rfl) (by kernel_rfl) (by kernel_rfl) (fun _ _ _ h => h) (Or.inl ⟨by rfl, ?_⟩) hHeld ?_
                rotate_left
                · intro w9 hSw; (try dsimp only at hSw); go_simp; (try with_reducible rfl)
                try simp only [List.getElem_toArray, List.getElem_cons_succ, List.getElem_cons_zero, Act.put, List.setIfInBounds_toArray, List.set_cons_zero, List.set_cons_succ]
                refine wpAnyH_ready (rs := [19]) (by kernel_rfl) (by simp) (AllReadyH.cons rfl (fun K0 hK0 => ?_) AllReadyH.nil)
                go_simp
                refine (cSm _ (Kept.refl [] _).drew).mono ?_
                rintro _ w7 ⟨rfl, hK7⟩
                have HK7 := hide ((Kept.refl [] w6).drew.trans hK7 (by simp))
                clear hK7
                go_wp2_with fail
                refine hK0.out _ _ ⟨HK7.out.cell t1 (by simp), HK7.out.cell s0 (by simp), HK7.out.cell s1 (by simp), HK7.out.cell s2 (by simp), HK7.out.cell s3 (by simp), HK7.out.cell s4 (by simp), HK7.out.cell s5 (by simp), HK7.out.cell s6 (by simp), HK7.out.cell s7 (by simp), HK7.out.cell s8 (by simp), HK7.out.cell s9 (by simp), HK7.out.cell p0 (by simp), HK7.out.cell p1 (by simp), HK7.out.cell p2 (by simp), HK7.out.cell p3 (by simp), HK7.out.cell p4 (by simp), HK7.out.cell p5 (by simp), HK7.out.cell p6 (by simp), HK7.out.cell p7 (by simp), HK7.out.cell p8 (by simp), HK7.out.cell p9 (by simp)⟩ (fun hHeld => ?_)
                clear hK0 K0
                try simp only [List.getElem_toArray, List.getElem_cons_succ, List.getElem_cons_zero, Act.put, List.setIfInBounds_toArray, List.set_cons_zero, List.set_cons_succ]
                refine wpAnyH_take (i := 20) (v := ?_) rfl (by kernel_rfl) (by kernel_rfl) (by kernel_rfl) (fun _ _ _ h => h) (Or.inl ⟨by rfl, ?_⟩) hHeld ?_
                rotate_left
                · intro w9 hSw; (try dsimp only at hSw); go_simp; (try with_reducible rfl)
                try simp only [List.getElem_toArray, List.getElem_cons_succ, List.getElem_cons_zero, Act.put, List.setIfInBounds_toArray, List.set_cons_zero, List.set_cons_succ]
                refine wpAnyH_take (i := 21) (v := ?_) rfl (by kernel_rfl) (by kernel_rfl) (by kernel_rfl) (fun _ _ _ h => h) (Or.inl ⟨by rfl, ?_⟩) hHeld ?_
                rotate_left
                · intro w9 hSw; (try dsimp only at hSw); go_simp; (try with_reducible rfl)
                try simp only [List.getElem_toArray, List.getElem_cons_succ, List.getElem_cons_zero, Act.put, List.setIfInBounds_toArray, List.set_cons_zero, List.set_cons_succ]
                refine wpAnyH_take (i := 22) (v := ?_) rfl (by kernel_rfl) (by kernel_rfl) (by kernel_rfl) (fun _ _ _ h => h) (Or.inl ⟨by rfl, ?_⟩) hHeld ?_
                rotate_left
                · intro w9 hSw; (try dsimp only at hSw); go_simp; (try with_reducible rfl)
                try simp only [List.getElem_toArray, List.getElem_cons_succ, List.getElem_cons_zero, Act.put, List.setIfInBounds_toArray, List.set_cons_zero, List.set_cons_succ]
                refine wpAnyH_take (i := 23) (v := ?_) rfl (by kernel_rfl) (by kernel_rfl) (by kernel_rfl) (fun _ _ _ h => h) (Or.inl ⟨by rfl, ?_⟩) hHeld ?_
                rotate_left
                · intro w9 hSw; (try dsimp only at hSw); go_simp; (try with_reducible rfl)
                try simp only [List.getElem_toArray, List.getElem_cons_succ, List.getElem_cons_zero, Act.put, List.setIfInBounds_toArray, List.set_cons_zero, List.set_cons_succ]
                refine wpAnyH_take (i := 24) (v := ?_) rfl (by kernel_rfl) (by kernel_rfl) (by kernel_rfl) (fun _ _ _ h => h) (Or.inl ⟨by rfl, ?_⟩) hHeld ?_
                rotate_left
                · intro w9 hSw; (try dsimp only at hSw); go_simp; (try with_reducible rfl)
                try simp only [List.getElem_toArray, List.getElem_cons_succ, List.getElem_cons_zero, Act.put, List.setIfInBounds_toArray, List.set_cons_zero, List.set_cons_succ]
                refine wpAnyH_take (i := 26) (v := ?_) rfl (by kernel_rfl) (by kernel_rfl) (by kernel_rfl) (fun _ _ _ h => h) (Or.inl ⟨by rfl, ?_⟩) hHeld ?_
                rotate_left
                · intro w9 hSw; (try dsimp only at hSw); go_simp; (try with_reducible rfl)
                try simp only [List.getElem_toArray, List.getElem_cons_succ, List.getElem_cons_zero, Act.put, List.setIfInBounds_toArray, List.set_cons_zero, List.set_cons_succ]
                refine wpAnyH_take (i := 27) (v := ?_) rfl (by kernel_rfl) (by kernel_rfl) (by kernel_rfl) (fun _ _ _ h => h) (Or.inl ⟨by rfl, ?_⟩) hHeld ?_
                rotate_left
                · intro w9 hSw; (try dsimp only at hSw); go_simp; (try with_reducible rfl)
                try simp only [List.getElem_toArray, List.getElem_cons_succ, List.getElem_cons_zero, Act.put, List.setIfInBounds_toArray, List.set_cons_zero, List.set_cons_succ]
                refine wpAnyH_take (i := 28) (v := ?_) rfl (by kernel_rfl) (by kernel_rfl) (by kernel_rfl) (fun _ _ _ h => h) (Or.inl ⟨by rfl, ?_⟩) hHeld ?_
                rotate_left
                · intro w9 hSw; (try dsimp only at hSw); go_simp; (try with_reducible rfl)
                try simp only [List.getElem_toArray, List.getElem_cons_succ, List.getElem_cons_zero, Act.put, List.setIfInBounds_toArray, List.set_cons_zero, List.set_cons_succ]
                refine wpAnyH_take (i := 29) (v := ?_) rfl (by kernel_rfl) (by kernel_rfl) (by kernel_rfl) (fun _ _ _ h => h) (Or.inl ⟨by rfl, ?_⟩) hHeld ?_
                rotate_left
                · intro w9 hSw; (try dsimp only at hSw); go_simp; (try with_reducible rfl)
                try simp only [List.getElem_toArray, List.getElem_cons_succ, List.getElem_cons_zero, Act.put, List.setIfInBounds_toArray, List.set_cons_zero, List.set_cons_succ]
                refine wpAnyH_ready (rs := [25]) (by kernel_rfl) (by simp) (AllReadyH.cons rfl (fun K0 hK0 => ?_) AllReadyH.nil)
                go_simp
                refine (cAl _ HK7.out).mono ?_
                rintro _ w8 ⟨v8, X8, rfl, hR8, hO8, hM8, hK8⟩
                obtain ⟨ao8, c8, hv8, hs8⟩ := hR8.t.sl (fun y hy => (hO8 y hy).ko)
                subst hv8
                have HS8 := hide hs8
                have HM8 := hide hM8
                have HK8 := hide (HK7.out.trans hK8 (by simp))
                obtain ⟨m8, hm8⟩ : ∃ m8, m8 = X8.length := ⟨_, rfl⟩
                rw [← hm8] at HS8 ⊢
                clear hR8 hO8 hM8 hK8 hs8 hm8
                go_wp2_with fail
                refine hK0.out _ _ ⟨HK8.out.cell t1 (by simp), HK8.out.cell s0 (by simp), HK8.out.cell s1 (by simp), HK8.out.cell s2 (by simp), HK8.out.cell s3 (by simp), HK8.out.cell s4 (by simp), HK8.out.cell s5 (by simp), HK8.out.cell s6 (by simp), HK8.out.cell s7 (by simp), HK8.out.cell s8 (by simp), HK8.out.cell s9 (by simp), HK8.out.cell p0 (by simp), HK8.out.cell p1 (by simp), HK8.out.cell p2 (by simp), HK8.out.cell p3 (by simp), HK8.out.cell p4 (by simp), HK8.out.cell p5 (by simp), HK8.out.cell p6 (by simp), HK8.out.cell p7 (by simp), HK8.out.cell p8 (by simp), HK8.out.cell p9 (by simp)⟩ (fun hHeld => ?_)
                clear hK0 K0
                try simp only [List.getElem_toArray, List.getElem_cons_succ, List.getElem_cons_zero, Act.put, List.setIfInBounds_toArray, List.set_cons_zero, List.set_cons_succ]
                refine wpAnyH_ready (rs := [30]) (by kernel_rfl) (by simp) (AllReadyH.cons rfl (fun K0 hK0 => ?_) AllReadyH.nil)
                go_simp
                refine (sameSs_call w8 ao8 (some ⟨gm, 0, none⟩) m8 mM c8 cM X8 Y HS8.out (HSM.out.kept HK8.out) (by rw [HM8.out, HYM.out])).mono ?_
                rintro _ w9b ⟨rfl, hK9⟩
                have HK9 := hide (HK8.out.trans hK9 (by simp))
                clear hK9
                go_wp2_with fail
                refine hK0.out _ _ ⟨HK9.out.cell t1 (by simp), HK9.out.cell s0 (by simp), HK9.out.cell s1 (by simp), HK9.out.cell s2 (by simp), HK9.out.cell s3 (by simp), HK9.out.cell s4 (by simp), HK9.out.cell s5 (by simp), HK9.out.cell s6 (by simp), HK9.out.cell s7 (by simp), HK9.out.cell s8 (by simp), HK9.out.cell s9 (by simp), HK9.out.cell p0 (by simp), HK9.out.cell p1 (by simp), HK9.out.cell p2 (by simp), HK9.out.cell p3 (by simp), HK9.out.cell p4 (by simp), HK9.out.cell p5 (by simp), HK9.out.cell p6 (by simp), HK9.out.cell p7 (by simp), HK9.out.cell p8 (by simp), HK9.out.cell p9 (by simp)⟩ (fun hHeld => ?_)
                clear hK0 K0
                try simp only [List.getElem_toArray, List.getElem_cons_succ, List.getElem_cons_zero, Act.put, List.setIfInBounds_toArray, List.set_cons_zero, List.set_cons_succ]
                refine wpAnyH_take (i := 31) (v := ?_) rfl (by kernel_rfl) (by kernel_rfl) (by kernel_rfl) (fun _ _ _ h => h) (Or.inl ⟨by rfl, ?_⟩) hHeld ?_
                rotate_left
                · intro w9 hSw; (try dsimp only at hSw); go_simp; (try with_reducible rfl)
                try simp only [List.getElem_toArray, List.getElem_cons_succ, List.getElem_cons_zero, Act.put, List.setIfInBounds_toArray, List.set_cons_zero, List.set_cons_succ]
                refine wpAnyH_take (i := 32) (v := ?_) rfl (by kernel_rfl) (by kernel_rfl) (by kernel_rfl) (fun _ _ _ h => h) (Or.inl ⟨by rfl, ?_⟩) hHeld ?_
                rotate_left
                · intro w9 hSw; (try dsimp only at hSw); go_simp; (try with_reducible rfl)
                try simp only [List.getElem_toArray, List.getElem_cons_succ, List.getElem_cons_zero, Act.put, List.setIfInBounds_toArray, List.set_cons_zero, List.set_cons_succ]
                refine wpAnyH_done (by kernel_rfl) ?_ _
                have HFn := hide (HP6.out.kept HK9.out)
                clear hHeld t1 s0 s1 s2 s3 s4 s5 s6 s7 s8 s9 p0 p1 p2 p3 p4 p5 p6 p7 p8 p9
                go_wp2_with fail
                go_roundw
                case rel => exact ⟨i + 1, L4, by go_num, by omega, HFn⟩
                case measure => simp [intOf]; omega
            · have d0 := cell_inC (k := 0) HBx.out rfl
              have d1 := cell_inC (k := 1) HBx.out rfl
              have d2 := cell_inC (k := 2) HBx.out rfl
              have d4 := cell_inC (k := 4) HBx.out rfl
              have d5 := cell_inC (k := 5) HBx.out rfl
              have d6 := cell_inC (k := 6) HBx.out rfl
              have d7 := cell_inC (k := 7) HBx.out rfl
              have d8 := cell_inC (k := 8) HBx.out rfl
              have d9 := cell_inC (k := 9) HBx.out rfl
              have d10 := cell_inC (k := 10) HBx.out rfl
              have cT := pt_done (HP0.out.kept hKa) y.i y.q y.v (.slice mo mm mc) HKo.out HOd.out.2
              unfold vtV at cT
              have h01 : ¬ y.o ≤ 1 := ho
              have h04 : ¬ y.o ≤ 4 := ho4
              clear hKa
              go_wp2_with fail
              refine cT.mono ?_
              rintro _ w3 ⟨rfl, hP3, hF3⟩
              have hBx3 := hF3.at HBx.out (by decide)
              have f1 := cell_inC (k := 1) hBx3 rfl
              have f2 := cell_inC (k := 2) hBx3 rfl
              have f4 := cell_inC (k := 4) hBx3 rfl
              have f5 := cell_inC (k := 5) hBx3 rfl
              have f6 := cell_inC (k := 6) hBx3 rfl
              have f7 := cell_inC (k := 7) hBx3 rfl
              have f8 := cell_inC (k := 8) hBx3 rfl
              have f9 := cell_inC (k := 9) hBx3 rfl
              have f10 := cell_inC (k := 10) hBx3 rfl
              have cU := pm_done hP3 y.i y.q y.v (.slice mo mm mc) HKo.out HOd.out.2
              unfold vtV at cU
              clear cT hP3 d0 d1 d2 d4 d5 d6 d7 d8 d9 d10 hBx3
              generalize (doneI y.i y.q L).isSome = rb at *
              go_wp2_with fail
              refine cU.mono ?_
              rintro _ w4 ⟨rfl, hP4, hF4⟩
              obtain ⟨L4, hL4e⟩ : ∃ L4, L4 = doneL y.i y.q y.v L := ⟨_, rfl⟩
              rw [← hL4e] at hP4
              clear hL4e cU f1 f2 f4 f5 f6 f7 f8 f9 f10

              have HBx4 := hide (hF4.at (hF3.at HBx.out (by decide)) (by decide))
              have HP4 := hide hP4
              clear hP4 hF4 hF3

              have cFi := liveT_find HP4.out.live y.i
              unfold FindP at cFi
              have e1 := cell_inC (k := 1) HBx4.out rfl
              cases hB : byI y.i L4 with
              | none =>
                have hfs : findS y.i L4 = se0 := by unfold findS; rw [hB]
                rw [hB, hfs] at cFi
                unfold seV se0 vtC at cFi
                simp only [str_nil, Option.isSome] at cFi
                clear hfs
                go_wp2_with fail
                refine cFi.mono ?_
                rintro _ w5 ⟨u5, rfl, hO5, hK5⟩
                obtain ⟨a5, n5, c5, rfl⟩ := hO5.ko.one
                have hKb : Kept [] w5 (w5.alloc (.cells #[.int .i64 0, .int .i64 0, .string ByteArray.empty, .int .i64 0, .int .i64 0, .int .i64 0, .string ByteArray.empty, .int .u64 0, .slice a5 n5 c5, .int .i64 0] 44)) := (Kept.refl _ _).alloc _
                have HP5 := hide (HP4.out.kept (hK5.trans hKb (by simp)))
                have e1b := (hK5.trans hKb (by simp)).cell e1 (by simp)
                have cFm := pm_find HP5.out y.i
                rw [hB] at cFm
                simp only [plV] at cFm
                clear cFi hO5 hK5 hKb e1
                go_wp2_with fail
                refine cFm.mono ?_
                rintro _ w6 ⟨rfl, hK6⟩
                have HP6 := hide (HP5.out.kept hK6)
                obtain ⟨aoM, cM, Y, t1, hSM, hYM, hYo, hcM, hmM, hatM⟩ := HP6.out.model
                have HSM := hide hSM
                have HYM := hide hYM
                have cAl := fun W (hk : Kept [] w6 W) => liveT_all (HP6.out.live.kept hk)
                unfold CopS at cAl
                obtain ⟨mM, hmMe⟩ : ∃ mM, mM = L4.length := ⟨_, rfl⟩
                rw [← hmMe] at t1 HSM
                clear cFm hK6 hSM hYM hYo hatM hmMe e1b hB
                go_upto_region 27 with fail
                refine wp_region_held_drew (S := fun w' => w'.cell? ⟨bm, 1, none⟩ = some (.slice aoM mM cM)) (by kernel_rfl) t1 (fun hHeld => ?_)
                refine wpAnyH_lit (fuel' := 33) (l' := #[false, false, false, false, false, false, false, false, false, false, false, false, false, false, false, false, false, false, false, false, false, false, false, false, false, false, false, false, false, false, false, false, false]) rfl rfl ?_
                refine wpAnyH_take (i := 0) (v := ?_) rfl (by kernel_rfl) (by kernel_rfl) (by kernel_rfl) (fun _ _ _ h => h) (Or.inl ⟨by rfl, ?_⟩) hHeld ?_
                rotate_left
                · intro w9 hSw; (try dsimp only at hSw); go_simp; (try with_reducible rfl)
                try simp only [List.getElem_toArray, List.getElem_cons_succ, List.getElem_cons_zero, Act.put, List.setIfInBounds_toArray, List.set_cons_zero, List.set_cons_succ]
                refine wpAnyH_take (i := 1) (v := ?_) rfl (by kernel_rfl) (by kernel_rfl) (by kernel_rfl) (fun _ _ _ h => h) (Or.inl ⟨by rfl, ?_⟩) hHeld ?_
                rotate_left
                · intro w9 hSw; (try dsimp only at hSw); go_simp; (try with_reducible rfl)
                try simp only [List.getElem_toArray, List.getElem_cons_succ, List.getElem_cons_zero, Act.put, List.setIfInBounds_toArray, List.set_cons_zero, List.set_cons_succ]
                refine wpAnyH_take (i := 2) (v := ?_) rfl (by kernel_rfl) (by kernel_rfl) (by kernel_rfl) (fun _ _ _ h => h) (Or.inl ⟨by rfl, ?_⟩) hHeld ?_
                rotate_left
                · intro w9 hSw; (try dsimp only at hSw); go_simp; (try with_reducible rfl)
                try simp only [List.getElem_toArray, List.getElem_cons_succ, List.getElem_cons_zero, Act.put, List.setIfInBounds_toArray, List.set_cons_zero, List.set_cons_succ]
                refine wpAnyH_take (i := 3) (v := ?_) rfl (by kernel_rfl) (by kernel_rfl) (by kernel_rfl) (fun _ _ _ h => h) (Or.inl ⟨by rfl, ?_⟩) hHeld ?_
                rotate_left
                · intro w9 hSw; (try dsimp only at hSw); go_simp; (try with_reducible rfl)
                try simp only [List.getElem_toArray, List.getElem_cons_succ, List.getElem_cons_zero, Act.put, List.setIfInBounds_toArray, List.set_cons_zero, List.set_cons_succ]
                refine wpAnyH_take (i := 4) (v := ?_) rfl (by kernel_rfl) (by kernel_rfl) (by kernel_rfl) (fun _ _ _ h => h) (Or.inl ⟨by rfl, ?_⟩) hHeld ?_
                rotate_left
                · intro w9 hSw; (try dsimp only at hSw); go_simp; (try with_reducible rfl)
                try simp only [List.getElem_toArray, List.getElem_cons_succ, List.getElem_cons_zero, Act.put, List.setIfInBounds_toArray, List.set_cons_zero, List.set_cons_succ]
                refine wpAnyH_take (i := 5) (v := ?_) rfl (by kernel_rfl) (by kernel_rfl) (by kernel_rfl) (fun _ _ _ h => h) (Or.inl ⟨by rfl, ?_⟩) hHeld ?_
                rotate_left
                · intro w9 hSw; (try dsimp only at hSw); go_simp; (try with_reducible rfl)
                try simp only [List.getElem_toArray, List.getElem_cons_succ, List.getElem_cons_zero, Act.put, List.setIfInBounds_toArray, List.set_cons_zero, List.set_cons_succ]
                refine wpAnyH_take (i := 6) (v := ?_) rfl (by kernel_rfl) (by kernel_rfl) (by kernel_rfl) (fun _ _ _ h => h) (Or.inl ⟨by rfl, ?_⟩) hHeld ?_
                rotate_left
                · intro w9 hSw; (try dsimp only at hSw); go_simp; (try with_reducible rfl)
                try simp only [List.getElem_toArray, List.getElem_cons_succ, List.getElem_cons_zero, Act.put, List.setIfInBounds_toArray, List.set_cons_zero, List.set_cons_succ]
                refine wpAnyH_take (i := 7) (v := ?_) rfl (by kernel_rfl) (by kernel_rfl) (by kernel_rfl) (fun _ _ _ h => h) (Or.inl ⟨by rfl, ?_⟩) hHeld ?_
                rotate_left
                · intro w9 hSw; (try dsimp only at hSw); go_simp; (try with_reducible rfl)
                try simp only [List.getElem_toArray, List.getElem_cons_succ, List.getElem_cons_zero, Act.put, List.setIfInBounds_toArray, List.set_cons_zero, List.set_cons_succ]
                refine wpAnyH_take (i := 8) (v := ?_) rfl (by kernel_rfl) (by kernel_rfl) (by kernel_rfl) (fun _ _ _ h => h) (Or.inl ⟨by rfl, ?_⟩) hHeld ?_
                rotate_left
                · intro w9 hSw; (try dsimp only at hSw); go_simp; (try with_reducible rfl)
                try simp only [List.getElem_toArray, List.getElem_cons_succ, List.getElem_cons_zero, Act.put, List.setIfInBounds_toArray, List.set_cons_zero, List.set_cons_succ]
                refine wpAnyH_take (i := 9) (v := ?_) rfl (by kernel_rfl) (by kernel_rfl) (by kernel_rfl) (fun _ _ _ h => h) (Or.inl ⟨by rfl, ?_⟩) hHeld ?_
                rotate_left
                · intro w9 hSw; (try dsimp only at hSw); go_simp; (try with_reducible rfl)
                try simp only [List.getElem_toArray, List.getElem_cons_succ, List.getElem_cons_zero, Act.put, List.setIfInBounds_toArray, List.set_cons_zero, List.set_cons_succ]
                refine wpAnyH_take (i := 10) (v := ?_) rfl (by kernel_rfl) (by kernel_rfl) (by kernel_rfl) (fun _ _ _ h => h) (Or.inl ⟨by rfl, ?_⟩) hHeld ?_
                rotate_left
                · intro w9 hSw; (try dsimp only at hSw); go_simp; (try with_reducible rfl)
                try simp only [List.getElem_toArray, List.getElem_cons_succ, List.getElem_cons_zero, Act.put, List.setIfInBounds_toArray, List.set_cons_zero, List.set_cons_succ]
                refine wpAnyH_take (i := 11) (v := undef) rfl (by kernel_rfl) (by kernel_rfl) (by kernel_rfl) (fun _ _ _ h => h) (Or.inr ⟨by rfl, rfl⟩) hHeld ?_
                try simp only [List.getElem_toArray, List.getElem_cons_succ, List.getElem_cons_zero, Act.put, List.setIfInBounds_toArray, List.set_cons_zero, List.set_cons_succ]
                refine wpAnyH_take (i := 12) (v := undef) rfl (by kernel_rfl) (by kernel_rfl) (by kernel_rfl) (fun _ _ _ h => h) (Or.inr ⟨by rfl, rfl⟩) hHeld ?_
                try simp only [List.getElem_toArray, List.getElem_cons_succ, List.getElem_cons_zero, Act.put, List.setIfInBounds_toArray, List.set_cons_zero, List.set_cons_succ]
                refine wpAnyH_take (i := 13) (v := undef) rfl (by kernel_rfl) (by kernel_rfl) (by kernel_rfl) (fun _ _ _ h => h) (Or.inr ⟨by rfl, rfl⟩) hHeld ?_
                try simp only [List.getElem_toArray, List.getElem_cons_succ, List.getElem_cons_zero, Act.put, List.setIfInBounds_toArray, List.set_cons_zero, List.set_cons_succ]
                refine wpAnyH_take (i := 14) (v := undef) rfl (by kernel_rfl) (by kernel_rfl) (by kernel_rfl) (fun _ _ _ h => h) (Or.inr ⟨by rfl, rfl⟩) hHeld ?_
                try simp only [List.getElem_toArray, List.getElem_cons_succ, List.getElem_cons_zero, Act.put, List.setIfInBounds_toArray, List.set_cons_zero, List.set_cons_succ]
                refine wpAnyH_take (i := 15) (v := undef) rfl (by kernel_rfl) (by kernel_rfl) (by kernel_rfl) (fun _ _ _ h => h) (Or.inr ⟨by rfl, rfl⟩) hHeld ?_
                try simp only [List.getElem_toArray, List.getElem_cons_succ, List.getElem_cons_zero, Act.put, List.setIfInBounds_toArray, List.set_cons_zero, List.set_cons_succ]
                refine wpAnyH_take (i := 16) (v := undef) rfl (by kernel_rfl) (by kernel_rfl) (by kernel_rfl) (fun _ _ _ h => h) (Or.inr ⟨by rfl, rfl⟩) hHeld ?_
                try simp only [List.getElem_toArray, List.getElem_cons_succ, List.getElem_cons_zero, Act.put, List.setIfInBounds_toArray, List.set_cons_zero, List.set_cons_succ]
                refine wpAnyH_take (i := 17) (v := undef) rfl (by kernel_rfl) (by kernel_rfl) (by kernel_rfl) (fun _ _ _ h => h) (Or.inr ⟨by rfl, rfl⟩) hHeld ?_
                try simp only [List.getElem_toArray, List.getElem_cons_succ, List.getElem_cons_zero, Act.put, List.setIfInBounds_toArray, List.set_cons_zero, List.set_cons_succ]
                refine wpAnyH_take (i := 18) (v := undef) rfl (by kernel_rfl) (by kernel_rfl) (by kernel_rfl) (fun _ _ _ h => h) (Or.inr ⟨by rfl, rfl⟩) hHeld ?_
                try simp only [List.getElem_toArray, List.getElem_cons_succ, List.getElem_cons_zero, Act.put, List.setIfInBounds_toArray, List.set_cons_zero, List.set_cons_succ]
                refine wpAnyH_take (i := 19) (v := undef) rfl (by kernel_rfl) (by kernel_rfl) (by kernel_rfl) (fun _ _ _ h => h) (Or.inr ⟨by rfl, rfl⟩) hHeld ?_
                try simp only [List.getElem_toArray, List.getElem_cons_succ, List.getElem_cons_zero, Act.put, List.setIfInBounds_toArray, List.set_cons_zero, List.set_cons_succ]
                refine wpAnyH_take (i := 20) (v := undef) rfl (by kernel_rfl) (by kernel_rfl) (by kernel_rfl) (fun _ _ _ h => h) (Or.inr ⟨by rfl, rfl⟩) hHeld ?_
                try simp only [List.getElem_toArray, List.getElem_cons_succ, List.getElem_cons_zero, Act.put, List.setIfInBounds_toArray, List.set_cons_zero, List.set_cons_succ]
                obtain ⟨w7, hw7⟩ : ∃ w7, w7 = w6.drew := ⟨_, rfl⟩
                have HK7 : Hid (Kept [] w6 w7) := by show Kept _ _ _; rw [hw7]; exact (Kept.refl _ _).drew
                rw [← hw7]
                rw [← hw7] at hHeld
                clear hw7
                refine wpAnyH_take (i := 21) (v := ?_) rfl (by kernel_rfl) (by kernel_rfl) (by kernel_rfl) (fun _ _ _ h => h) (Or.inl ⟨by rfl, ?_⟩) hHeld ?_
                rotate_left
                · intro w9 hSw; (try dsimp only at hSw); go_simp; (try with_reducible rfl)
                try simp only [List.getElem_toArray, List.getElem_cons_succ, List.getElem_cons_zero, Act.put, List.setIfInBounds_toArray, List.set_cons_zero, List.set_cons_succ]
                refine wpAnyH_take (i := 22) (v := ?_) rfl (by kernel_rfl) (by kernel_rfl) (by kernel_rfl) (fun _ _ _ h => h) (Or.inl ⟨by rfl, ?_⟩) hHeld ?_
                rotate_left
                · intro w9 hSw; (try dsimp only at hSw); go_simp; (try with_reducible rfl)
                try simp only [List.getElem_toArray, List.getElem_cons_succ, List.getElem_cons_zero, Act.put, List.setIfInBounds_toArray, List.set_cons_zero, List.set_cons_succ]
                refine wpAnyH_take (i := 23) (v := ?_) rfl (by kernel_rfl) (by kernel_rfl) (by kernel_rfl) (fun _ _ _ h => h) (Or.inl ⟨by rfl, ?_⟩) hHeld ?_
                rotate_left
                · intro w9 hSw; (try dsimp only at hSw); go_simp; (try with_reducible rfl)
                try simp only [List.getElem_toArray, List.getElem_cons_succ, List.getElem_cons_zero, Act.put, List.setIfInBounds_toArray, List.set_cons_zero, List.set_cons_succ]
                refine wpAnyH_take (i := 24) (v := ?_) rfl (by kernel_rfl) (by kernel_rfl) (by kernel_rfl) (fun _ _ _ h => h) (Or.inl ⟨by rfl, ?_⟩) hHeld ?_
                rotate_left
                · intro w9 hSw; (try dsimp only at hSw); go_simp; (try with_reducible rfl)
                try simp only [List.getElem_toArray, List.getElem_cons_succ, List.getElem_cons_zero, Act.put, List.setIfInBounds_toArray, List.set_cons_zero, List.set_cons_succ]
                refine wpAnyH_take (i := 26) (v := ?_) rfl (by kernel_rfl) (by kernel_rfl) (by kernel_rfl) (fun _ _ _ h => h) (Or.inl ⟨by rfl, ?_⟩) hHeld ?_
                rotate_left
                · intro w9 hSw; (try dsimp only at hSw); go_simp; (try with_reducible rfl)
                try simp only [List.getElem_toArray, List.getElem_cons_succ, List.getElem_cons_zero, Act.put, List.setIfInBounds_toArray, List.set_cons_zero, List.set_cons_succ]
                refine wpAnyH_take (i := 27) (v := ?_) rfl (by kernel_rfl) (by kernel_rfl) (by kernel_rfl) (fun _ _ _ h => h) (Or.inl ⟨by rfl, ?_⟩) hHeld ?_
                rotate_left
                · intro w9 hSw; (try dsimp only at hSw); go_simp; (try with_reducible rfl)
                try simp only [List.getElem_toArray, List.getElem_cons_succ, List.getElem_cons_zero, Act.put, List.setIfInBounds_toArray, List.set_cons_zero, List.set_cons_succ]
                refine wpAnyH_take (i := 28) (v := ?_) rfl (by kernel_rfl) (by kernel_rfl) (by kernel_rfl) (fun _ _ _ h => h) (Or.inl ⟨by rfl, ?_⟩) hHeld ?_
                rotate_left
                · intro w9 hSw; (try dsimp only at hSw); go_simp; (try with_reducible rfl)
                try simp only [List.getElem_toArray, List.getElem_cons_succ, List.getElem_cons_zero, Act.put, List.setIfInBounds_toArray, List.set_cons_zero, List.set_cons_succ]
                refine wpAnyH_take (i := 29) (v := ?_) rfl (by kernel_rfl) (by kernel_rfl) (by kernel_rfl) (fun _ _ _ h => h) (Or.inl ⟨by rfl, ?_⟩) hHeld ?_
                rotate_left
                · intro w9 hSw; (try dsimp only at hSw); go_simp; (try with_reducible rfl)
                try simp only [List.getElem_toArray, List.getElem_cons_succ, List.getElem_cons_zero, Act.put, List.setIfInBounds_toArray, List.set_cons_zero, List.set_cons_succ]
                refine wpAnyH_ready (rs := [25]) (by kernel_rfl) (by simp) (AllReadyH.cons rfl (fun K0 hK0 => ?_) AllReadyH.nil)
                go_simp
                refine (cAl _ HK7.out).mono ?_
                rintro _ w8 ⟨v8, X8, rfl, hR8, hO8, hM8, hK8⟩
                obtain ⟨ao8, c8, hv8, hs8⟩ := hR8.t.sl (fun y hy => (hO8 y hy).ko)
                subst hv8
                have HS8 := hide hs8
                have HM8 := hide hM8
                have HK8 := hide (HK7.out.trans hK8 (by simp))
                obtain ⟨m8, hm8⟩ : ∃ m8, m8 = X8.length := ⟨_, rfl⟩
                rw [← hm8] at HS8 ⊢
                clear hR8 hO8 hM8 hK8 hs8 hm8
                go_wp2_with fail
                refine hK0.out _ _ (HK8.out.cell t1 (by simp)) (fun hHeld => ?_)
                clear hK0 K0
                try simp only [List.getElem_toArray, List.getElem_cons_succ, List.getElem_cons_zero, Act.put, List.setIfInBounds_toArray, List.set_cons_zero, List.set_cons_succ]
                refine wpAnyH_ready (rs := [30]) (by kernel_rfl) (by simp) (AllReadyH.cons rfl (fun K0 hK0 => ?_) AllReadyH.nil)
                go_simp
                refine (sameSs_call w8 ao8 aoM m8 mM c8 cM X8 Y HS8.out (HSM.out.kept HK8.out) (by rw [HM8.out, HYM.out])).mono ?_
                rintro _ w9b ⟨rfl, hK9⟩
                have HK9 := hide (HK8.out.trans hK9 (by simp))
                clear hK9
                go_wp2_with fail
                refine hK0.out _ _ (HK9.out.cell t1 (by simp)) (fun hHeld => ?_)
                clear hK0 K0
                try simp only [List.getElem_toArray, List.getElem_cons_succ, List.getElem_cons_zero, Act.put, List.setIfInBounds_toArray, List.set_cons_zero, List.set_cons_succ]
                refine wpAnyH_take (i := 31) (v := ?_) rfl (by kernel_rfl) (by kernel_rfl) (by kernel_rfl) (fun _ _ _ h => h) (Or.inl ⟨by rfl, ?_⟩) hHeld ?_
                rotate_left
                · intro w9 hSw; (try dsimp only at hSw); go_simp; (try with_reducible rfl)
                try simp only [List.getElem_toArray, List.getElem_cons_succ, List.getElem_cons_zero, Act.put, List.setIfInBounds_toArray, List.set_cons_zero, List.set_cons_succ]
                refine wpAnyH_take (i := 32) (v := ?_) rfl (by kernel_rfl) (by kernel_rfl) (by kernel_rfl) (fun _ _ _ h => h) (Or.inl ⟨by rfl, ?_⟩) hHeld ?_
                rotate_left
                · intro w9 hSw; (try dsimp only at hSw); go_simp; (try with_reducible rfl)
                try simp only [List.getElem_toArray, List.getElem_cons_succ, List.getElem_cons_zero, Act.put, List.setIfInBounds_toArray, List.set_cons_zero, List.set_cons_succ]
                refine wpAnyH_done (by kernel_rfl) ?_ _
                have HFn := hide (HP6.out.kept HK9.out)
                clear hHeld t1
                go_wp2_with fail
                go_roundw
                case rel => exact ⟨i + 1, L4, by go_num, by omega, HFn⟩
                case measure => simp [intOf]; omega
              | some k =>
                obtain ⟨hk4, hki⟩ := byI_lt hB
                clear hki
                have hfs : findS y.i L4 = L4[k] := by unfold findS; rw [hB]; exact getD_get hk4
                rw [hB, hfs] at cFi
                unfold seV at cFi
                simp only [Option.isSome] at cFi
                clear hfs
                obtain ⟨x, hx4⟩ : ∃ x, x = L4[k] := ⟨_, rfl⟩
                rw [← hx4] at cFi
                have HX4 : Hid (L4[k]? = some x) := by show _ = _; rw [hx4]; exact List.getElem?_eq_getElem hk4
                clear hx4
                have HK4 := hide hk4
                go_wp2_with fail
                refine cFi.mono ?_
                rintro _ w5 ⟨u5, rfl, hO5, hK5⟩
                obtain ⟨a5, n5, c5, rfl⟩ := hO5.ko.one
                have hKb : Kept [] w5 (w5.alloc (.cells #[.int .i64 x.i, .int .i64 x.q, .string (str x.n), .int .i64 x.v.c, .int .i64 x.v.s, .int .i64 x.v.r, .string (str x.v.p), .int .u64 x.v.d, .slice a5 n5 c5, .int .i64 x.v.m] 44)) := (Kept.refl _ _).alloc _
                have HBs := hide (heap_alloc_new w5 (.cells #[.int .i64 x.i, .int .i64 x.q, .string (str x.n), .int .i64 x.v.c, .int .i64 x.v.s, .int .i64 x.v.r, .string (str x.v.p), .int .u64 x.v.d, .slice a5 n5 c5, .int .i64 x.v.m] 44))
                have HO5 := hide (hO5.ko.kept hKb)
                have HP5 := hide (HP4.out.kept (hK5.trans hKb (by simp)))
                have e1b := (hK5.trans hKb (by simp)).cell e1 (by simp)
                have cFm := pm_find HP5.out y.i
                rw [hB] at cFm
                simp only [plV] at cFm
                clear cFi hO5 hK5 hKb e1
                go_wp2_with fail
                refine cFm.mono ?_
                rintro _ w6 ⟨rfl, hK6⟩
                have HP6 := hide (HP5.out.kept hK6)
                obtain ⟨aoM, cM, Y, t1, hSM, hYM, hYo, hcM, hmM, hatM⟩ := HP6.out.model
                unfold maxLen at hmM
                have hkY : k < Y.length := by have h1 : Y.length = L4.length := by rw [← hYM]; simp
                                              have h2 := HK4.out; omega
                obtain ⟨gm, he, hsm⟩ := hatM k hkY
                subst he
                have hyx : Y[k].1 = x := by
                  obtain ⟨h1, h2⟩ := List.getElem?_eq_some_iff.1 HX4.out
                  rw [← h2]; exact fst_get hYM hkY h1
                have hko := hYo _ (List.getElem_mem hkY)
                obtain ⟨am, nm, cm, hum⟩ := hko.one
                obtain ⟨p0, p1, p2, p3, p4, p5, p6, p7, p8, p9⟩ := hsm
                rw [hyx] at p0 p1 p2 p3 p4 p5 p6 p7 p9 hko
                rw [hum] at p8 hko
                have hB6 := hK6.at HBs.out (by simp)
                have s0 := cell_inC (k := 0) hB6 rfl
                have s1 := cell_inC (k := 1) hB6 rfl
                have s2 := cell_inC (k := 2) hB6 rfl
                have s3 := cell_inC (k := 3) hB6 rfl
                have s4 := cell_inC (k := 4) hB6 rfl
                have s5 := cell_inC (k := 5) hB6 rfl
                have s6 := cell_inC (k := 6) hB6 rfl
                have s7 := cell_inC (k := 7) hB6 rfl
                have s8 := cell_inC (k := 8) hB6 rfl
                have s9 := cell_inC (k := 9) hB6 rfl
                have HO6 := hide (HO5.out.kept hK6)
                have HKm := hide hko
                have cSm := fun W (hk : Kept [] w6 W) => sameS_call W x (.slice a5 n5 c5) (.slice am nm cm) (HO6.out.kept hk) (HKm.out.kept hk)
                unfold seV at cSm
                have HSM := hide hSM
                have HYM := hide hYM
                have cAl := fun W (hk : Kept [] w6 W) => liveT_all (HP6.out.live.kept hk)
                unfold CopS at cAl
                have hkm : (k : Int) < L4.length := by have := HK4.out; omega
                have hkc : k ≤ cM := by have := HK4.out; omega
                obtain ⟨mM, hmMe⟩ : ∃ mM, mM = L4.length := ⟨_, rfl⟩
                rw [← hmMe] at t1 HSM hkm hcM
                have hk0 : (0 : Int) ≤ k := by omega
                clear cFm hK6 hSM hYM hYo hatM hmMe e1b hB hyx hko hum hB6 hkY hk4
                go_upto_region 27 with fail
                refine wp_region_held_drew (S := fun w' => w'.cell? ⟨bm, 1, none⟩ = some (.slice (some ⟨gm, 0, none⟩) mM cM) ∧ w'.cell? ⟨w5.heap.size, 0, none⟩ = some (.int .i64 x.i) ∧ w'.cell? ⟨w5.heap.size, 1, none⟩ = some (.int .i64 x.q) ∧ w'.cell? ⟨w5.heap.size, 2, none⟩ = some (.string (str x.n)) ∧ w'.cell? ⟨w5.heap.size, 3, none⟩ = some (.int .i64 x.v.c) ∧ w'.cell? ⟨w5.heap.size, 4, none⟩ = some (.int .i64 x.v.s) ∧ w'.cell? ⟨w5.heap.size, 5, none⟩ = some (.int .i64 x.v.r) ∧ w'.cell? ⟨w5.heap.size, 6, none⟩ = some (.string (str x.v.p)) ∧ w'.cell? ⟨w5.heap.size, 7, none⟩ = some (.int .u64 x.v.d) ∧ w'.cell? ⟨w5.heap.size, 8, none⟩ = some (.slice a5 n5 c5) ∧ w'.cell? ⟨w5.heap.size, 9, none⟩ = some (.int .i64 x.v.m) ∧ w'.cell? ⟨gm, k * 10, none⟩ = some (.int .i64 x.i) ∧ w'.cell? ⟨gm, k * 10 + 1, none⟩ = some (.int .i64 x.q) ∧ w'.cell? ⟨gm, k * 10 + 2, none⟩ = some (.string (str x.n)) ∧ w'.cell? ⟨gm, k * 10 + 3, none⟩ = some (.int .i64 x.v.c) ∧ w'.cell? ⟨gm, k * 10 + 4, none⟩ = some (.int .i64 x.v.s) ∧ w'.cell? ⟨gm, k * 10 + 5, none⟩ = some (.int .i64 x.v.r) ∧ w'.cell? ⟨gm, k * 10 + 6, none⟩ = some (.string (str x.v.p)) ∧ w'.cell? ⟨gm, k * 10 + 7, none⟩ = some (.int .u64 x.v.d) ∧ w'.cell? ⟨gm, k * 10 + 8, none⟩ = some (.slice am nm cm) ∧ w'.cell? ⟨gm, k * 10 + 9, none⟩ = some (.int .i64 x.v.m)) (by kernel_rfl) ⟨t1, s0, s1, s2, s3, s4, s5, s6, s7, s8, s9, p0, p1, p2, p3, p4, p5, p6, p7, p8, p9⟩ (fun hHeld => ?_)
                refine wpAnyH_lit (fuel' := 33) (l' := #[false, false, false, false, false, false, false, false, false, false, false, false, false, false, false, false, false, false, false, false, false, false, false, false, false, false, false, false, false, false, false, false, false]) rfl rfl ?_
                refine wpAnyH_take (i := 0) (v := ?_) rfl (by kernel_rfl) (by kernel_rfl) (by kernel_rfl) (fun _ _ _ h => h) (Or.inl ⟨by rfl, ?_⟩) hHeld ?_
                rotate_left
                · intro w9 hSw; (try dsimp only at hSw); go_simp; (try with_reducible rfl)
                try simp only [List.getElem_toArray, List.getElem_cons_succ, List.getElem_cons_zero, Act.put, List.setIfInBounds_toArray, List.set_cons_zero, List.set_cons_succ]
                refine wpAnyH_take (i := 1) (v := ?_) rfl (by kernel_rfl) (by kernel_rfl) (by kernel_rfl) (fun _ _ _ h => h) (Or.inl ⟨by rfl, ?_⟩) hHeld ?_
                rotate_left
                · intro w9 hSw; (try dsimp only at hSw); go_simp; (try with_reducible rfl)
                try simp only [List.getElem_toArray, List.getElem_cons_succ, List.getElem_cons_zero, Act.put, List.setIfInBounds_toArray, List.set_cons_zero, List.set_cons_succ]
                refine wpAnyH_take (i := 2) (v := ?_) rfl (by kernel_rfl) (by kernel_rfl) (by kernel_rfl) (fun _ _ _ h => h) (Or.inl ⟨by rfl, ?_⟩) hHeld ?_
                rotate_left
                · intro w9 hSw; (try dsimp only at hSw); go_simp; (try with_reducible rfl)
                try simp only [List.getElem_toArray, List.getElem_cons_succ, List.getElem_cons_zero, Act.put, List.setIfInBounds_toArray, List.set_cons_zero, List.set_cons_succ]
                refine wpAnyH_take (i := 3) (v := ?_) rfl (by kernel_rfl) (by kernel_rfl) (by kernel_rfl) (fun _ _ _ h => h) (Or.inl ⟨by rfl, ?_⟩) hHeld ?_
                rotate_left
                · intro w9 hSw; (try dsimp only at hSw); go_simp; (try with_reducible rfl)
                try simp only [List.getElem_toArray, List.getElem_cons_succ, List.getElem_cons_zero, Act.put, List.setIfInBounds_toArray, List.set_cons_zero, List.set_cons_succ]
                refine wpAnyH_take (i := 4) (v := ?_) rfl (by kernel_rfl) (by kernel_rfl) (by kernel_rfl) (fun _ _ _ h => h) (Or.inl ⟨by rfl, ?_⟩) hHeld ?_
                rotate_left
                · intro w9 hSw; (try dsimp only at hSw); go_simp; (try with_reducible rfl)
                try simp only [List.getElem_toArray, List.getElem_cons_succ, List.getElem_cons_zero, Act.put, List.setIfInBounds_toArray, List.set_cons_zero, List.set_cons_succ]
                refine wpAnyH_take (i := 5) (v := ?_) rfl (by kernel_rfl) (by kernel_rfl) (by kernel_rfl) (fun _ _ _ h => h) (Or.inl ⟨by rfl, ?_⟩) hHeld ?_
                rotate_left
                · intro w9 hSw; (try dsimp only at hSw); go_simp; (try with_reducible rfl)
                try simp only [List.getElem_toArray, List.getElem_cons_succ, List.getElem_cons_zero, Act.put, List.setIfInBounds_toArray, List.set_cons_zero, List.set_cons_succ]
                refine wpAnyH_take (i := 6) (v := ?_) rfl (by kernel_rfl) (by kernel_rfl) (by kernel_rfl) (fun _ _ _ h => h) (Or.inl ⟨by rfl, ?_⟩) hHeld ?_
                rotate_left
                · intro w9 hSw; (try dsimp only at hSw); go_simp; (try with_reducible rfl)
                try simp only [List.getElem_toArray, List.getElem_cons_succ, List.getElem_cons_zero, Act.put, List.setIfInBounds_toArray, List.set_cons_zero, List.set_cons_succ]
                refine wpAnyH_take (i := 7) (v := ?_) rfl (by kernel_rfl) (by kernel_rfl) (by kernel_rfl) (fun _ _ _ h => h) (Or.inl ⟨by rfl, ?_⟩) hHeld ?_
                rotate_left
                · intro w9 hSw; (try dsimp only at hSw); go_simp; (try with_reducible rfl)
                try simp only [List.getElem_toArray, List.getElem_cons_succ, List.getElem_cons_zero, Act.put, List.setIfInBounds_toArray, List.set_cons_zero, List.set_cons_succ]
                refine wpAnyH_take (i := 8) (v := ?_) rfl (by kernel_rfl) (by kernel_rfl) (by kernel_rfl) (fun _ _ _ h => h) (Or.inl ⟨by rfl, ?_⟩) hHeld ?_
                rotate_left
                · intro w9 hSw; (try dsimp only at hSw); go_simp; (try with_reducible rfl)
                try simp only [List.getElem_toArray, List.getElem_cons_succ, List.getElem_cons_zero, Act.put, List.setIfInBounds_toArray, List.set_cons_zero, List.set_cons_succ]
                refine wpAnyH_take (i := 9) (v := ?_) rfl (by kernel_rfl) (by kernel_rfl) (by kernel_rfl) (fun _ _ _ h => h) (Or.inl ⟨by rfl, ?_⟩) hHeld ?_
                rotate_left
                · intro w9 hSw; (try dsimp only at hSw); go_simp; (try with_reducible rfl)
                try simp only [List.getElem_toArray, List.getElem_cons_succ, List.getElem_cons_zero, Act.put, List.setIfInBounds_toArray, List.set_cons_zero, List.set_cons_succ]
                refine wpAnyH_take (i := 10) (v := ?_) rfl (by kernel_rfl) (by kernel_rfl) (by kernel_rfl) (fun _ _ _ h => h) (Or.inl ⟨by rfl, ?_⟩) hHeld ?_
                rotate_left
                · intro w9 hSw; (try dsimp only at hSw); go_simp; (try with_reducible rfl)
                try simp only [List.getElem_toArray, List.getElem_cons_succ, List.getElem_cons_zero, Act.put, List.setIfInBounds_toArray, List.set_cons_zero, List.set_cons_succ]
                refine wpAnyH_take (i := 11) (v := ?_) rfl (by kernel_rfl) (by kernel_rfl) (by kernel_rfl) (fun _ _ _ h => h) (Or.inl ⟨by rfl, ?_⟩) hHeld ?_
                rotate_left
                · intro w9 hSw; (try dsimp only at hSw); go_simp; (try with_reducible rfl)
                try simp only [List.getElem_toArray, List.getElem_cons_succ, List.getElem_cons_zero, Act.put, List.setIfInBounds_toArray, List.set_cons_zero, List.set_cons_succ]
                refine wpAnyH_take (i := 12) (v := ?_) rfl (by kernel_rfl) (by kernel_rfl) (by kernel_rfl) (fun _ _ _ h => h) (Or.inl ⟨by rfl, ?_⟩) hHeld ?_
                rotate_left
                · intro w9 hSw; (try dsimp only at hSw); go_simp; (try with_reducible rfl)
                try simp only [List.getElem_toArray, List.getElem_cons_succ, List.getElem_cons_zero, Act.put, List.setIfInBounds_toArray, List.set_cons_zero, List.set_cons_succ]
                refine wpAnyH_take (i := 13) (v := ?_) rfl (by kernel_rfl) (by kernel_rfl) (by kernel_rfl) (fun _ _ _ h => h) (Or.inl ⟨by rfl, ?_⟩) hHeld ?_
                rotate_left
                · intro w9 hSw; (try dsimp only at hSw); go_simp; (try with_reducible rfl)
                try simp only [List.getElem_toArray, List.getElem_cons_succ, List.getElem_cons_zero, Act.put, List.setIfInBounds_toArray, List.set_cons_zero, List.set_cons_succ]
                refine wpAnyH_take (i := 14) (v := ?_) rfl (by kernel_rfl) (by kernel_rfl) (by kernel_rfl) (fun _ _ _ h => h) (Or.inl ⟨by rfl, ?_⟩) hHeld ?_
                rotate_left
                · intro w9 hSw; (try dsimp only at hSw); go_simp; (try with_reducible rfl)
                try simp only [List.getElem_toArray, List.getElem_cons_succ, List.getElem_cons_zero, Act.put, List.setIfInBounds_toArray, List.set_cons_zero, List.set_cons_succ]
                refine wpAnyH_take (i := 15) (v := ?_) rfl (by kernel_rfl) (by kernel_rfl) (by kernel_rfl) (fun _ _ _ h => h) (Or.inl ⟨by rfl, ?_⟩) hHeld ?_
                rotate_left
                · intro w9 hSw; (try dsimp only at hSw); go_simp; (try with_reducible rfl)
                try simp only [List.getElem_toArray, List.getElem_cons_succ, List.getElem_cons_zero, Act.put, List.setIfInBounds_toArray, List.set_cons_zero, List.set_cons_succ]
                refine wpAnyH_take (i := 16) (v := ?_) rfl (by kernel_rfl) (by kernel_rfl) (by kernel_rfl) (fun _ _ _ h => h) (Or.inl ⟨by rfl, ?_⟩) hHeld ?_
                rotate_left
                · intro w9 hSw; (try dsimp only at hSw); go_simp; (try with_reducible rfl)
                try simp only [List.getElem_toArray, List.getElem_cons_succ, List.getElem_cons_zero, Act.put, List.setIfInBounds_toArray, List.set_cons_zero, List.set_cons_succ]
                refine wpAnyH_take (i := 17) (v := ?_) rfl (by kernel_rfl) (by kernel_rfl) (by kernel_rfl) (fun _ _ _ h => h) (Or.inl ⟨by rfl, ?_⟩) hHeld ?_
                rotate_left
                · intro w9 hSw; (try dsimp only at hSw); go_simp; (try with_reducible rfl)
                try simp only [List.getElem_toArray, List.getElem_cons_succ, List.getElem_cons_zero, Act.put, List.setIfInBounds_toArray, List.set_cons_zero, List.set_cons_succ]
                refine wpAnyH_take (i := 18) (v := ?_) rfl (by kernel_rfl) (by kernel_rfl) (by kernel_rfl) (fun _ _ _ h => h) (Or.inl ⟨by rfl, ?_⟩) hHeld ?_
                rotate_left
                · intro w9 hSw; (try dsimp only at hSw); go_simp; (try with_reducible rfl)
                try simp only [List.getElem_toArray, List.getElem_cons_succ, List.getElem_cons_zero, Act.put, List.setIfInBounds_toArray, List.set_cons_zero, List.set_cons_succ]
                refine wpAnyH_ready (rs := [19]) (by kernel_rfl) (by simp) (AllReadyH.cons rfl (fun K0 hK0 => ?_) AllReadyH.nil)
                go_simp
                refine (cSm _ (Kept.refl [] _).drew).mono ?_
                rintro _ w7 ⟨rfl, hK7⟩
                have HK7 := hide ((Kept.refl [] w6).drew.trans hK7 (by simp))
                clear hK7
                go_wp2_with fail
                refine hK0.out _ _ ⟨HK7.out.cell t1 (by simp), HK7.out.cell s0 (by simp), HK7.out.cell s1 (by simp), HK7.out.cell s2 (by simp), HK7.out.cell s3 (by simp), HK7.out.cell s4 (by simp), HK7.out.cell s5 (by simp), HK7.out.cell s6 (by simp), HK7.out.cell s7 (by simp), HK7.out.cell s8 (by simp), HK7.out.cell s9 (by simp), HK7.out.cell p0 (by simp), HK7.out.cell p1 (by simp), HK7.out.cell p2 (by simp), HK7.out.cell p3 (by simp), HK7.out.cell p4 (by simp), HK7.out.cell p5 (by simp), HK7.out.cell p6 (by simp), HK7.out.cell p7 (by simp), HK7.out.cell p8 (by simp), HK7.out.cell p9 (by simp)⟩ (fun hHeld => ?_)
                clear hK0 K0
                try simp only [List.getElem_toArray, List.getElem_cons_succ, List.getElem_cons_zero, Act.put, List.setIfInBounds_toArray, List.set_cons_zero, List.set_cons_succ]
                refine wpAnyH_take (i := 20) (v := ?_) rfl (by kernel_rfl) (by kernel_rfl) (by kernel_rfl) (fun _ _ _ h => h) (Or.inl ⟨by rfl, ?_⟩) hHeld ?_
                rotate_left
                · intro w9 hSw; (try dsimp only at hSw); go_simp; (try with_reducible rfl)
                try simp only [List.getElem_toArray, List.getElem_cons_succ, List.getElem_cons_zero, Act.put, List.setIfInBounds_toArray, List.set_cons_zero, List.set_cons_succ]
                refine wpAnyH_take (i := 21) (v := ?_) rfl (by kernel_rfl) (by kernel_rfl) (by kernel_rfl) (fun _ _ _ h => h) (Or.inl ⟨by rfl, ?_⟩) hHeld ?_
                rotate_left
                · intro w9 hSw; (try dsimp only at hSw); go_simp; (try with_reducible rfl)
                try simp only [List.getElem_toArray, List.getElem_cons_succ, List.getElem_cons_zero, Act.put, List.setIfInBounds_toArray, List.set_cons_zero, List.set_cons_succ]
                refine wpAnyH_take (i := 22) (v := ?_) rfl (by kernel_rfl) (by kernel_rfl) (by kernel_rfl) (fun _ _ _ h => h) (Or.inl ⟨by rfl, ?_⟩) hHeld ?_
                rotate_left
                · intro w9 hSw; (try dsimp only at hSw); go_simp; (try with_reducible rfl)
                try simp only [List.getElem_toArray, List.getElem_cons_succ, List.getElem_cons_zero, Act.put, List.setIfInBounds_toArray, List.set_cons_zero, List.set_cons_succ]
                refine wpAnyH_take (i := 23) (v := ?_) rfl (by kernel_rfl) (by kernel_rfl) (by kernel_rfl) (fun _ _ _ h => h) (Or.inl ⟨by rfl, ?_⟩) hHeld ?_
                rotate_left
                · intro w9 hSw; (try dsimp only at hSw); go_simp; (try with_reducible rfl)
                try simp only [List.getElem_toArray, List.getElem_cons_succ, List.getElem_cons_zero, Act.put, List.setIfInBounds_toArray, List.set_cons_zero, List.set_cons_succ]
                refine wpAnyH_take (i := 24) (v := ?_) rfl (by kernel_rfl) (by kernel_rfl) (by kernel_rfl) (fun _ _ _ h => h) (Or.inl ⟨by rfl, ?_⟩) hHeld ?_
                rotate_left
                · intro w9 hSw; (try dsimp only at hSw); go_simp; (try with_reducible rfl)
                try simp only [List.getElem_toArray, List.getElem_cons_succ, List.getElem_cons_zero, Act.put, List.setIfInBounds_toArray, List.set_cons_zero, List.set_cons_succ]
                refine wpAnyH_take (i := 26) (v := ?_) rfl (by kernel_rfl) (by kernel_rfl) (by kernel_rfl) (fun _ _ _ h => h) (Or.inl ⟨by rfl, ?_⟩) hHeld ?_
                rotate_left
                · intro w9 hSw; (try dsimp only at hSw); go_simp; (try with_reducible rfl)
                try simp only [List.getElem_toArray, List.getElem_cons_succ, List.getElem_cons_zero, Act.put, List.setIfInBounds_toArray, List.set_cons_zero, List.set_cons_succ]
                refine wpAnyH_take (i := 27) (v := ?_) rfl (by kernel_rfl) (by kernel_rfl) (by kernel_rfl) (fun _ _ _ h => h) (Or.inl ⟨by rfl, ?_⟩) hHeld ?_
                rotate_left
                · intro w9 hSw; (try dsimp only at hSw); go_simp; (try with_reducible rfl)
                try simp only [List.getElem_toArray, List.getElem_cons_succ, List.getElem_cons_zero, Act.put, List.setIfInBounds_toArray, List.set_cons_zero, List.set_cons_succ]
                refine wpAnyH_take (i := 28) (v := ?_) rfl (by kernel_rfl) (by kernel_rfl) (by kernel_rfl) (fun _ _ _ h => h) (Or.inl ⟨by rfl, ?_⟩) hHeld ?_
                rotate_left
                · intro w9 hSw; (try dsimp only at hSw); go_simp; (try with_reducible rfl)
                try simp only [List.getElem_toArray, List.getElem_cons_succ, List.getElem_cons_zero, Act.put, List.setIfInBounds_toArray, List.set_cons_zero, List.set_cons_succ]
                refine wpAnyH_take (i := 29) (v := ?_) rfl (by kernel_rfl) (by kernel_rfl) (by kernel_rfl) (fun _ _ _ h => h) (Or.inl ⟨by rfl, ?_⟩) hHeld ?_
                rotate_left
                · intro w9 hSw; (try dsimp only at hSw); go_simp; (try with_reducible rfl)
                try simp only [List.getElem_toArray, List.getElem_cons_succ, List.getElem_cons_zero, Act.put, List.setIfInBounds_toArray, List.set_cons_zero, List.set_cons_succ]
                refine wpAnyH_ready (rs := [25]) (by kernel_rfl) (by simp) (AllReadyH.cons rfl (fun K0 hK0 => ?_) AllReadyH.nil)
                go_simp
                refine (cAl _ HK7.out).mono ?_
                rintro _ w8 ⟨v8, X8, rfl, hR8, hO8, hM8, hK8⟩
                obtain ⟨ao8, c8, hv8, hs8⟩ := hR8.t.sl (fun y hy => (hO8 y hy).ko)
                subst hv8
                have HS8 := hide hs8
                have HM8 := hide hM8
                have HK8 := hide (HK7.out.trans hK8 (by simp))
                obtain ⟨m8, hm8⟩ : ∃ m8, m8 = X8.length := ⟨_, rfl⟩
                rw [← hm8] at HS8 ⊢
                clear hR8 hO8 hM8 hK8 hs8 hm8
                go_wp2_with fail
                refine hK0.out _ _ ⟨HK8.out.cell t1 (by simp), HK8.out.cell s0 (by simp), HK8.out.cell s1 (by simp), HK8.out.cell s2 (by simp), HK8.out.cell s3 (by simp), HK8.out.cell s4 (by simp), HK8.out.cell s5 (by simp), HK8.out.cell s6 (by simp), HK8.out.cell s7 (by simp), HK8.out.cell s8 (by simp), HK8.out.cell s9 (by simp), HK8.out.cell p0 (by simp), HK8.out.cell p1 (by simp), HK8.out.cell p2 (by simp), HK8.out.cell p3 (by simp), HK8.out.cell p4 (by simp), HK8.out.cell p5 (by simp), HK8.out.cell p6 (by simp), HK8.out.cell p7 (by simp), HK8.out.cell p8 (by simp), HK8.out.cell p9 (by simp)⟩ (fun hHeld => ?_)
                clear hK0 K0
                try simp only [List.getElem_toArray, List.getElem_cons_succ, List.getElem_cons_zero, Act.put, List.setIfInBounds_toArray, List.set_cons_zero, List.set_cons_succ]
                refine wpAnyH_ready (rs := [30]) (by kernel_rfl) (by simp) (AllReadyH.cons rfl (fun K0 hK0 => ?_) AllReadyH.nil)
                go_simp
                refine (sameSs_call w8 ao8 (some ⟨gm, 0, none⟩) m8 mM c8 cM X8 Y HS8.out (HSM.out.kept HK8.out) (by rw [HM8.out, HYM.out])).mono ?_
                rintro _ w9b ⟨rfl, hK9⟩
                have HK9 := hide (HK8.out.trans hK9 (by simp))
                clear hK9
                go_wp2_with fail
                refine hK0.out _ _ ⟨HK9.out.cell t1 (by simp), HK9.out.cell s0 (by simp), HK9.out.cell s1 (by simp), HK9.out.cell s2 (by simp), HK9.out.cell s3 (by simp), HK9.out.cell s4 (by simp), HK9.out.cell s5 (by simp), HK9.out.cell s6 (by simp), HK9.out.cell s7 (by simp), HK9.out.cell s8 (by simp), HK9.out.cell s9 (by simp), HK9.out.cell p0 (by simp), HK9.out.cell p1 (by simp), HK9.out.cell p2 (by simp), HK9.out.cell p3 (by simp), HK9.out.cell p4 (by simp), HK9.out.cell p5 (by simp), HK9.out.cell p6 (by simp), HK9.out.cell p7 (by simp), HK9.out.cell p8 (by simp), HK9.out.cell p9 (by simp)⟩ (fun hHeld => ?_)
                clear hK0 K0
                try simp only [List.getElem_toArray, List.getElem_cons_succ, List.getElem_cons_zero, Act.put, List.setIfInBounds_toArray, List.set_cons_zero, List.set_cons_succ]
                refine wpAnyH_take (i := 31) (v := ?_) rfl (by kernel_rfl) (by kernel_rfl) (by kernel_rfl) (fun _ _ _ h => h) (Or.inl ⟨by rfl, ?_⟩) hHeld ?_
                rotate_left
                · intro w9 hSw; (try dsimp only at hSw); go_simp; (try with_reducible rfl)
                try simp only [List.getElem_toArray, List.getElem_cons_succ, List.getElem_cons_zero, Act.put, List.setIfInBounds_toArray, List.set_cons_zero, List.set_cons_succ]
                refine wpAnyH_take (i := 32) (v := ?_) rfl (by kernel_rfl) (by kernel_rfl) (by kernel_rfl) (fun _ _ _ h => h) (Or.inl ⟨by rfl, ?_⟩) hHeld ?_
                rotate_left
                · intro w9 hSw; (try dsimp only at hSw); go_simp; (try with_reducible rfl)
                try simp only [List.getElem_toArray, List.getElem_cons_succ, List.getElem_cons_zero, Act.put, List.setIfInBounds_toArray, List.set_cons_zero, List.set_cons_succ]
                refine wpAnyH_done (by kernel_rfl) ?_ _
                have HFn := hide (HP6.out.kept HK9.out)
                clear hHeld t1 s0 s1 s2 s3 s4 s5 s6 s7 s8 s9 p0 p1 p2 p3 p4 p5 p6 p7 p8 p9
                go_wp2_with fail
                go_roundw
                case rel => exact ⟨i + 1, L4, by go_num, by omega, HFn⟩
                case measure => simp [intOf]; omega
        · have hlt' : ¬ (i : Int) < n := by omega
          have HF := hide (HK1.out.trans HP0.out.keeps (by simp))
          go_wp2_with fail
          go_ret
          exact ⟨rfl, HF.out⟩
    · obtain rfl := hW2.symm
      have cM := newM_call w1 size
      unfold NewM at cM
      clear cN
      go_wp2_with fail
      refine cM.mono ?_
      rintro _ w3 (⟨h1, h2, _⟩ | ⟨_, rfl, hW3⟩)
      case inl => exact absurd ⟨h1, h2⟩ hs
      obtain rfl := hW3.symm
      go_wp2_with fail
      go_ret
      exact ⟨rfl, HK1.out⟩

end Go.Proofs.Ytajkmhepedlmmaa
