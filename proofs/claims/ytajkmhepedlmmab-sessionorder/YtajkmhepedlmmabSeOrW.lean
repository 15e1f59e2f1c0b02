/-
  SessionOrder: the walk.
-/
import Derived.Test.YtajkmhepedlmmabSeLive
import Derived.Test.YtajkmhepedlmmabSeOrP0
import Derived.Test.YtajkmhepedlmmabSeInts
import Derived.Test.YtajkmhepedlmmabSeRoom
import Derived.BigQuiet
import Derived.Deep.CutRange
import Derived.Deep.CutBlock
namespace Go.Proofs.Ytajkmhepedlmmab
open Go.RowKit

theorem and255 (x : Int) : ∃ a : Nat, a < 256 ∧ bits .and .i64 x 255 = (a : Int) := by
  have hb : 0 ≤ bits .and .i64 x 255 ∧ bits .and .i64 x 255 ≤ 255 := by
    simp only [bits, BitVec.toNat_and]
    have h1 : ∀ a : Nat, a &&& (BitVec.ofInt IntKind.i64.bits 255).toNat ≤ 255 := fun a => Nat.and_le_right
    have h2 := h1 (BitVec.ofInt IntKind.i64.bits x).toNat
    generalize (BitVec.ofInt IntKind.i64.bits x).toNat &&& (BitVec.ofInt IntKind.i64.bits 255).toNat = n at *
    rw [IntKind.wrap_i64]
    omega
  exact ⟨(bits .and .i64 x 255).toNat, by omega, by omega⟩

theorem nmR_conv {a : Nat} (ha : a < 16) (W : World) (b : Nat) (h0 : W.cell? ⟨b, 0, none⟩ = some (.int .u8 110)) (h1 : W.cell? ⟨b, 1, none⟩ = some (.int .u8 (97 + (a : Int)))) :
    (convert 37 9 (.slice (some ⟨b, 0, none⟩) 2 2)).run Try.prog W = .ok (.string (str (nmR a))) W := by
  refine run_convert_bytes_back (P := Try.prog) W 37 9 5 ⟨b, 0, none⟩ 2 (nmR a) Try.underlying37 Try.underlying5 Try.underlying9 (fun j hj => ?_)
  have e1 : (UInt8.ofNat (97 + a)).toNat = 97 + a := by rw [UInt8.toNat_ofNat']; omega
  have hj2 : j < 2 := by simpa [nmR] using hj
  rw [adr_addC, Nat.zero_add]
  match j, hj2 with
  | 0, _ => rw [h0]; simp [nmR]
  | 1, _ =>
    rw [h1]
    show _ = some (Value.int .u8 ((UInt8.ofNat (97 + a)).toNat : Int))
    rw [e1]; simp

theorem LiveT.keepT {w0 w w' : World} {b sz : Nat} {L : List Se} (h : LiveT w0 w b sz L) {S : List Nat} {Ts : List TypeId} (k : Kept S w w') (hT : Typed w S Ts) (hS : ∀ i ∈ S, w0.heap.size ≤ i) (h0 : 48 ∉ Ts) (h1 : 42 ∉ Ts) (h2 : 63 ∉ Ts) (h3 : 69 ∉ Ts) : LiveT w0 w' b sz L := by
  obtain ⟨v, X, g1, g2, g3⟩ := h
  exact ⟨v, X, g1.keepT k hT h0 h1 h2 h3, g2.trans k (fun i hi => .inr (hS i hi)), g3⟩

/-- A row of numbers stays while a table is changed. -/
theorem RowI.tab {B : Nat} {w0 w w' : World} {b sz : Nat} {L : List Se} {v : Value} {S : List Int} (h : RowI B w v S) (hL : LiveT w0 w b sz L) (k : Kept [b] w w') : RowI B w' v S :=
  k.ownsRow h (fun j hj hm => by
    simp at hm; subst hm
    obtain ⟨c2, h2⟩ := row_block h hj
    obtain ⟨vs, h3⟩ := hL.at
    rw [h2] at h3; cases h3)

/-- The table and the order, behind i deeds. -/
def OrI (w1 : World) (b n : Nat) (ov iv : Value) (wr : World) : Prop :=
  ∃ (i : Nat) (L : List Se), iv = .int .i64 (i : Int) ∧ i ≤ n ∧ i ≤ 16 ∧ Hid (RowI w1.heap.size wr ov (idsL L)) ∧ Hid (LiveT w1 wr b 16 L) ∧ Hid (OrdT i L)

/-- Behind the switch. -/
def OrS (w1 : World) (b i : Nat) (ov : Value) (S : List Int) (uv : Value) (wr : World) : Prop :=
  ∃ (u : Int) (L : List Se), uv = .int .i64 u ∧ Hid (RowI w1.heap.size wr ov S) ∧ Hid (LiveT w1 wr b 16 L) ∧ Hid (OrdT (i + 1) L) ∧ (Hid (u = -1 ∧ idsL L = S) ∨ Hid (0 ≤ u ∧ idsL L = dropI u S ++ [u]))

/-- Behind the deed: the order is the table's. -/
def OrE (w1 : World) (b : Nat) (L : List Se) (ov : Value) (wr : World) : Prop := Hid (RowI w1.heap.size wr ov (idsL L)) ∧ Hid (LiveT w1 wr b 16 L)

/-- The order is copied without one number. -/
def NxI (w1 wc : World) (b m : Nat) (L : List Se) (sv : Value) (S : List Int) (u : Int) (nv kv : Value) (wr : World) : Prop :=
  ∃ k : Nat, kv = .int .i64 (k : Int) ∧ k ≤ m ∧ Hid (RowI wc.heap.size wr nv (dropI u (S.take k))) ∧ Hid (RowI w1.heap.size wr sv S) ∧ Hid (LiveT w1 wr b 16 L) ∧ Hid (Kept [] wc wr)

theorem RowI.cellS {B : Nat} {w : World} {so : Option Addr} {m sc : Nat} {S : List Int} (h : RowI B w (.slice so m sc) S) {k : Nat} (hk : k < S.length) :
    ∃ b o, so = some ⟨b, o, none⟩ ∧ w.cell? ⟨b, o + k, none⟩ = some (.int .i64 S[k]) ∧ m ≤ sc := by
  obtain ⟨a7, c7, h7, h8⟩ := h.sl
  cases h7
  obtain ⟨b9, o9, h9, h10⟩ := h8.2.2.2 k hk
  exact ⟨b9, o9, h9, h10, h8.2.1⟩

def AlI (w6 : World) (m : Nat) (kv : Value) (wr : World) : Prop := ∃ k : Nat, kv = .int .i64 (k : Int) ∧ k ≤ m ∧ Hid (Kept [] w6 wr)

theorem rowI_mono {B C : Nat} {w : World} {v : Value} {S : List Int} (h : RowI B w v S) (hBC : C ≤ B) : RowI C w v S := by
  obtain ⟨h1, h2⟩ := h
  refine ⟨h1, ?_⟩
  rcases h2 with h2 | ⟨g, cap, cur, hv, hg, hr⟩
  · exact .inl h2
  · exact .inr ⟨g, cap, cur, hv, Nat.le_trans hBC hg, hr⟩

set_option linter.unusedSimpArgs false in
set_option maxHeartbeats 16000000 in
set_option maxRecDepth 100000 in
theorem sorder_walk (W : World) (ao : Option Addr) (n c : Nat) (D : List (Dd × Value)) (hD : SlDd W ao n c D) :
    Calls Try.prog 3 #[.slice ao n c] W fun e w' => e = .returned (.bool true) ∧ Kept [] W w' := by
  have cW := awakeT_call W
  have hc := hD.2.1
  have hm := hD.2.2.1
  unfold maxLen at hm
  have HD := hide hD
  have HL := hide hD.1
  clear hD
  go_enter Try.func3, Try.ntmps3
  go_wp2_with fail
  refine cW.mono ?_
  rintro _ w0 ⟨rfl, hK0⟩
  have cR := roomD_call w0 ao n c D (HD.out.kept hK0)
  clear cW
  go_wp2_with fail
  refine cR.mono ?_
  rintro _ w1 ⟨r, rfl, hr, hK1⟩
  have HK1 := hide (hK0.trans hK1 (by simp))
  clear cR hK0 hK1
  cases r with
  | false =>
    go_wp2_with fail
    go_ret
    exact ⟨rfl, HK1.out⟩
  | true =>
    have hn := hr rfl
    clear hr
    have cN := liveT_new w1 16 (by omega) (by omega)
    go_wp2_with fail
    refine cN.mono ?_
    rintro _ w2 ⟨b, rfl, hT2⟩
    have HT2 := hide hT2
    clear cN hT2
    go_wp2_with fail
    go_loopw [5, 6] (fun ov iv wr => OrI w1 b n ov iv wr) (fun _ iv _ => 16 - (intOf iv).toNat)
    case atStart => exact ⟨0, [], rfl, Nat.zero_le _, Nat.zero_le _, RowI.nil _ _, HT2, ord_nil⟩
    case round =>
      obtain ⟨i, L, rfl, hi, hi16, HRo, HLv0, HOr⟩ := hrel
      by_cases hlt : i < n
      · have hlt' : (i : Int) < n := by omega
        by_cases hl16 : i < 16
        · have hl16' : (i : Int) < 16 := by omega
          have hic : i ≤ c := by omega
          have hiD : i < D.length := by rw [HL.out]; exact hlt
          have hDw := HD.out.kept (HK1.out.trans HLv0.out.keeps (by simp))
          obtain ⟨g, o, he, hx⟩ := hDw.2.2.2.1 i hiD
          subst he
          obtain ⟨hko, hod⟩ := hDw.2.2.2.2 _ (List.getElem_mem hiD)
          obtain ⟨mo, mm, mc, hm2⟩ := hko.one
          obtain ⟨x0, x1, x2, x3, x4, x5, x6, x7, x8, x9, x10⟩ := hx
          rw [hm2] at x9 hko
          generalize D[i].1 = y at *
          have HKo := hide hko
          have HOd := hide hod
          have hKa : Kept [] wr (wr.alloc (.cells #[.int .i64 y.o, .int .i64 y.i, .int .i64 y.q, .string (str y.n), .int .i64 y.v.c, .int .i64 y.v.s, .int .i64 y.v.r, .string (str y.v.p), .int .u64 y.v.d, .slice mo mm mc, .int .i64 y.v.m] 35)) := (Kept.refl _ _).alloc _
          have hBx := heap_alloc_new wr (.cells #[.int .i64 y.o, .int .i64 y.i, .int .i64 y.q, .string (str y.n), .int .i64 y.v.c, .int .i64 y.v.s, .int .i64 y.v.r, .string (str y.v.p), .int .u64 y.v.d, .slice mo mm mc, .int .i64 y.v.m] 35)
          clear hDw hko hod hm2 hiD
          go_upto_block 2 with fail
          obtain ⟨so, sc, hsv, hsl⟩ := HRo.out.sl
          subst hsv
          obtain ⟨m, hme⟩ : ∃ m, m = (idsL L).length := ⟨_, rfl⟩
          rw [← hme] at hsl HRo ⊢
          have hm16 : m ≤ 16 := by have h := HOr.out.2.1; rw [hme]; simp only [idsL, List.length_map]; omega
          have HME := hide hme
          obtain ⟨S, hSe⟩ : ∃ S, S = idsL L := ⟨_, rfl⟩
          have HSE := hide hSe
          rw [← hSe] at hsl HRo
          have HSl := hide hsl
          have hsz1 : w1.heap.size ≤ wr.heap.size := HLv0.out.keeps.size
          clear hme hSe hsl x0 x1 x2 x3 x4 x5 x6 x7 x8 x9 x10
          obtain ⟨w3, hw3⟩ : ∃ w3, w3 = wr.alloc (.cells #[.int .i64 y.o, .int .i64 y.i, .int .i64 y.q, .string (str y.n), .int .i64 y.v.c, .int .i64 y.v.s, .int .i64 y.v.r, .string (str y.v.p), .int .u64 y.v.d, .slice mo mm mc, .int .i64 y.v.m] 35) := ⟨_, rfl⟩
          rw [← hw3] at hKa hBx ⊢
          have HL1 := hide (HLv0.out.kept hKa)
          have HR1 : Hid (RowI w1.heap.size w3 (.slice so m sc) S) := hKa.ownsRow HRo.out (by simp)
          have HS1 := hide (HSl.out.kept hKa)
          have HKo1 := hide (HKo.out.kept hKa)
          have d0 := cell_inC (k := 0) hBx rfl
          have d1 := cell_inC (k := 1) hBx rfl
          have d2 := cell_inC (k := 2) hBx rfl
          have HB1 := hide hBx
          clear hw3 hKa hBx HLv0 HRo HSl HKo
          go_cut [8] from 28 to 149 (fun uv wx => OrS w1 b i (.slice so m sc) S uv wx)
          case first =>
            by_cases ho : y.o ≤ 1
            · have hcv := fun W b h0 h1 => nmR_conv hl16 W b h0 h1
              obtain ⟨e1, e2, e3⟩ := ord_open HOr.out hl16
              rw [show ((100 + i : Nat) : Int) = 100 + (i : Int) by omega] at e1 e2 e3
              rw [← HSE.out] at e3
              have H2 := hide e2
              have H3 := hide e3
              have hKb : Kept [] w3 (w3.alloc (.cells #[.int .u8 110, .int .u8 (97 + (i : Int))] 5)) := (Kept.refl _ _).alloc _
              have HL2 := hide (HL1.out.kept hKb)
              have HR2 : Hid (RowI w1.heap.size _ (.slice so m sc) S) := hKb.ownsRow HR1.out (by simp)
              have cO := liveT_open HL2.out (nmR i) (by simp [nmR]) (100 + (i : Int))
              rw [e1] at cO
              clear e1 e2 e3 hKb
              go_wp2_with fail
              refine cO.mono ?_
              rintro _ w4 ⟨rfl, hL4, hK4⟩
              have HR4 := hide (HR2.out.tab HL2.out hK4)
              have HL4 := hide hL4
              clear cO hL4 hK4
              go_wp2_with fail
              go_meet
              case rel => exact ⟨_, _, rfl, HR4, HL4, H2, .inr ⟨by omega, H3.out⟩⟩
            · by_cases hm0 : m = 0
              · subst hm0
                go_wp2_with fail
                all_goals go_meet
                all_goals first
                  | (case rel => exact ⟨_, _, rfl, HR1, HL1, ord_up HOr.out, .inl ⟨rfl, HSE.out.symm⟩⟩)
                  | skip
              · have hmp : (0 : Int) < m := by omega
                obtain ⟨a, ha, hab⟩ := and255 y.i
                have hrm : Int.tmod (a : Int) m = ((a % m : Nat) : Int) := by rw [Int.tmod_eq_emod_of_nonneg (by omega)]; omega
                have hkm : a % m < m := Nat.mod_lt _ (by omega)
                generalize a % m = k at *
                have hkS : k < S.length := by rw [HSE.out, ← HME.out]; exact hkm
                have hk2 : k < (idsL L).length := by rw [← HME.out]; exact hkm
                obtain ⟨g5, o5, e5, q5⟩ := HS1.out.2.2.2 k hkS
                subst e5
                have e6 : S[k] = (idsL L)[k] := by have h := HSE.out; subst h; rfl
                have hkc : k ≤ sc := by have h := HS1.out.2.1; omega
                obtain ⟨f1, f2⟩ := ord_ask HOr.out hk2
                rw [← e6] at f1 f2
                rw [← HSE.out] at f2
                have hz0 : 0 ≤ S[k] := by
                  rw [e6]; have hm9 := List.getElem_mem hk2
                  obtain ⟨x, hx, hxe⟩ := List.mem_map.1 hm9
                  obtain ⟨j, _, hj2, _⟩ := HOr.out.2.2 x hx
                  rw [← hxe, hj2]; omega
                have HRC : Hid (∀ w', RowI w1.heap.size w' (.slice (some ⟨g5, o5, none⟩) m sc) S → w'.cell? ⟨g5, o5 + k, none⟩ = some (.int .i64 S[k])) := fun w' h => by
                  obtain ⟨a7, c7, h7, h8⟩ := h.sl
                  obtain ⟨b9, o9, h9, h10⟩ := h8.2.2.2 k hkS
                  subst h9
                  cases h7
                  exact h10
                have HRZ : Hid (∀ w', RowI w1.heap.size w' (.slice (some ⟨g5, o5, none⟩) m sc) S → ∃ z0, w'.cell? ⟨g5, o5, none⟩ = some (.int .i64 z0)) := fun w' h => by
                  obtain ⟨a7, c7, h7, h8⟩ := h.sl
                  obtain ⟨b9, o9, h9, h10⟩ := h8.2.2.2 0 (by omega)
                  subst h9
                  cases h7
                  exact ⟨_, h10⟩
                clear e6
                generalize S[k] = z at *
                have H1 := hide f1
                have H2 := hide f2
                clear f1 f2 ha
                by_cases ho4 : y.o ≤ 4
                · have cA := liveT_ask HL1.out z y.q
                  go_wp2_with fail
                  refine cA.mono ?_
                  rintro _ w4 ⟨⟨a3, n3, c3, rfl, _⟩, hL4, hK4⟩
                  have HR4 := hide (HR1.out.tab HL1.out hK4)
                  have HL4 := hide hL4
                  clear cA hL4 hK4
                  go_wp2_with fail
                  go_meet
                  case rel => exact ⟨_, _, rfl, HR4, HL4, H1, .inr ⟨hz0, H2.out⟩⟩
                · have b4 := cell_inC (k := 4) HB1.out rfl
                  have b5 := cell_inC (k := 5) HB1.out rfl
                  have b6 := cell_inC (k := 6) HB1.out rfl
                  have b7 := cell_inC (k := 7) HB1.out rfl
                  have b8 := cell_inC (k := 8) HB1.out rfl
                  have b9 := cell_inC (k := 9) HB1.out rfl
                  have b10 := cell_inC (k := 10) HB1.out rfl
                  have cD := fun W (hk : Kept [] w3 W) => liveT_done (HL1.out.kept hk) z y.q y.v (.slice mo mm mc) (HKo1.out.kept hk) HOd.out.2
                  unfold vtV at cD
                  go_upto_region 20 with fail
                  refine wp_region_held_drew (S := fun w' => w'.cell? ⟨g5, o5 + k, none⟩ = some (.int .i64 z) ∧ w'.cell? ⟨wr.heap.size, 1, none⟩ = some (.int .i64 y.i) ∧ w'.cell? ⟨wr.heap.size, 2, none⟩ = some (.int .i64 y.q) ∧ w'.cell? ⟨wr.heap.size, 4, none⟩ = some (.int .i64 y.v.c) ∧ w'.cell? ⟨wr.heap.size, 5, none⟩ = some (.int .i64 y.v.s) ∧ w'.cell? ⟨wr.heap.size, 6, none⟩ = some (.int .i64 y.v.r) ∧ w'.cell? ⟨wr.heap.size, 7, none⟩ = some (.string (str y.v.p)) ∧ w'.cell? ⟨wr.heap.size, 8, none⟩ = some (.int .u64 y.v.d) ∧ w'.cell? ⟨wr.heap.size, 9, none⟩ = some (.slice mo mm mc) ∧ w'.cell? ⟨wr.heap.size, 10, none⟩ = some (.int .i64 y.v.m)) (by kernel_rfl) ⟨q5, d1, d2, b4, b5, b6, b7, b8, b9, b10⟩ (fun hHeld => ?_)
                  refine wpAnyH_take (i := 0) (v := ?_) rfl (by kernel_rfl) (by kernel_rfl) (by kernel_rfl) (fun _ _ _ h => h) (Or.inl ⟨by rfl, ?_⟩) hHeld ?_
                  rotate_left
                  · intro w9 hSw; (try dsimp only at hSw); go_simp; (try with_reducible rfl)
                  try simp only [List.getElem_toArray, List.getElem_cons_succ, List.getElem_cons_zero, Act.put, List.setIfInBounds_toArray, List.set_cons_zero, List.set_cons_succ]
                  refine wpAnyH_take (i := 1) (v := ?_) rfl (by kernel_rfl) (by kernel_rfl) (by kernel_rfl) (fun _ _ _ h => h) (Or.inl ⟨by rfl, ?_⟩) hHeld ?_
                  rotate_left
                  · intro w9 hSw; (try dsimp only at hSw); go_simp; (try with_reducible rfl)
                  try simp only [List.getElem_toArray, List.getElem_cons_succ, List.getElem_cons_zero, Act.put, List.setIfInBounds_toArray, List.set_cons_zero, List.set_cons_succ]
                  refine wpAnyH_take (i := 2) (v := ?_) rfl (by kernel_rfl) (by kernel_rfl) (by kernel_rfl) (fun _ _ _ h => h) (Or.inl ⟨by rfl, ?_⟩) hHeld ?_
                  rotate_left
                  · intro w9 hSw; (try dsimp only at hSw); go_simp; (try with_reducible rfl)
                  try simp only [List.getElem_toArray, List.getElem_cons_succ, List.getElem_cons_zero, Act.put, List.setIfInBounds_toArray, List.set_cons_zero, List.set_cons_succ]
                  refine wpAnyH_take (i := 3) (v := ?_) rfl (by kernel_rfl) (by kernel_rfl) (by kernel_rfl) (fun _ _ _ h => h) (Or.inl ⟨by rfl, ?_⟩) hHeld ?_
                  rotate_left
                  · intro w9 hSw; (try dsimp only at hSw); go_simp; (try with_reducible rfl)
                  try simp only [List.getElem_toArray, List.getElem_cons_succ, List.getElem_cons_zero, Act.put, List.setIfInBounds_toArray, List.set_cons_zero, List.set_cons_succ]
                  refine wpAnyH_take (i := 4) (v := ?_) rfl (by kernel_rfl) (by kernel_rfl) (by kernel_rfl) (fun _ _ _ h => h) (Or.inl ⟨by rfl, ?_⟩) hHeld ?_
                  rotate_left
                  · intro w9 hSw; (try dsimp only at hSw); go_simp; (try with_reducible rfl)
                  try simp only [List.getElem_toArray, List.getElem_cons_succ, List.getElem_cons_zero, Act.put, List.setIfInBounds_toArray, List.set_cons_zero, List.set_cons_succ]
                  refine wpAnyH_take (i := 5) (v := ?_) rfl (by kernel_rfl) (by kernel_rfl) (by kernel_rfl) (fun _ _ _ h => h) (Or.inl ⟨by rfl, ?_⟩) hHeld ?_
                  rotate_left
                  · intro w9 hSw; (try dsimp only at hSw); go_simp; (try with_reducible rfl)
                  try simp only [List.getElem_toArray, List.getElem_cons_succ, List.getElem_cons_zero, Act.put, List.setIfInBounds_toArray, List.set_cons_zero, List.set_cons_succ]
                  refine wpAnyH_take (i := 6) (v := ?_) rfl (by kernel_rfl) (by kernel_rfl) (by kernel_rfl) (fun _ _ _ h => h) (Or.inl ⟨by rfl, ?_⟩) hHeld ?_
                  rotate_left
                  · intro w9 hSw; (try dsimp only at hSw); go_simp; (try with_reducible rfl)
                  try simp only [List.getElem_toArray, List.getElem_cons_succ, List.getElem_cons_zero, Act.put, List.setIfInBounds_toArray, List.set_cons_zero, List.set_cons_succ]
                  refine wpAnyH_take (i := 7) (v := ?_) rfl (by kernel_rfl) (by kernel_rfl) (by kernel_rfl) (fun _ _ _ h => h) (Or.inl ⟨by rfl, ?_⟩) hHeld ?_
                  rotate_left
                  · intro w9 hSw; (try dsimp only at hSw); go_simp; (try with_reducible rfl)
                  try simp only [List.getElem_toArray, List.getElem_cons_succ, List.getElem_cons_zero, Act.put, List.setIfInBounds_toArray, List.set_cons_zero, List.set_cons_succ]
                  refine wpAnyH_take (i := 8) (v := ?_) rfl (by kernel_rfl) (by kernel_rfl) (by kernel_rfl) (fun _ _ _ h => h) (Or.inl ⟨by rfl, ?_⟩) hHeld ?_
                  rotate_left
                  · intro w9 hSw; (try dsimp only at hSw); go_simp; (try with_reducible rfl)
                  try simp only [List.getElem_toArray, List.getElem_cons_succ, List.getElem_cons_zero, Act.put, List.setIfInBounds_toArray, List.set_cons_zero, List.set_cons_succ]
                  refine wpAnyH_take (i := 9) (v := ?_) rfl (by kernel_rfl) (by kernel_rfl) (by kernel_rfl) (fun _ _ _ h => h) (Or.inl ⟨by rfl, ?_⟩) hHeld ?_
                  rotate_left
                  · intro w9 hSw; (try dsimp only at hSw); go_simp; (try with_reducible rfl)
                  try simp only [List.getElem_toArray, List.getElem_cons_succ, List.getElem_cons_zero, Act.put, List.setIfInBounds_toArray, List.set_cons_zero, List.set_cons_succ]
                  refine wpAnyH_take (i := 10) (v := ?_) rfl (by kernel_rfl) (by kernel_rfl) (by kernel_rfl) (fun _ _ _ h => h) (Or.inl ⟨by rfl, ?_⟩) hHeld ?_
                  rotate_left
                  · intro w9 hSw; (try dsimp only at hSw); go_simp; (try with_reducible rfl)
                  try simp only [List.getElem_toArray, List.getElem_cons_succ, List.getElem_cons_zero, Act.put, List.setIfInBounds_toArray, List.set_cons_zero, List.set_cons_succ]
                  refine wpAnyH_take (i := 11) (v := ?_) rfl (by kernel_rfl) (by kernel_rfl) (by kernel_rfl) (fun _ _ _ h => h) (Or.inl ⟨by rfl, ?_⟩) hHeld ?_
                  rotate_left
                  · intro w9 hSw; (try dsimp only at hSw); go_simp; (try with_reducible rfl)
                  try simp only [List.getElem_toArray, List.getElem_cons_succ, List.getElem_cons_zero, Act.put, List.setIfInBounds_toArray, List.set_cons_zero, List.set_cons_succ]
                  refine wpAnyH_take (i := 12) (v := ?_) rfl (by kernel_rfl) (by kernel_rfl) (by kernel_rfl) (fun _ _ _ h => h) (Or.inl ⟨by rfl, ?_⟩) hHeld ?_
                  rotate_left
                  · intro w9 hSw; (try dsimp only at hSw); go_simp; (try with_reducible rfl)
                  try simp only [List.getElem_toArray, List.getElem_cons_succ, List.getElem_cons_zero, Act.put, List.setIfInBounds_toArray, List.set_cons_zero, List.set_cons_succ]
                  refine wpAnyH_take (i := 13) (v := ?_) rfl (by kernel_rfl) (by kernel_rfl) (by kernel_rfl) (fun _ _ _ h => h) (Or.inl ⟨by rfl, ?_⟩) hHeld ?_
                  rotate_left
                  · intro w9 hSw; (try dsimp only at hSw); go_simp; (try with_reducible rfl)
                  try simp only [List.getElem_toArray, List.getElem_cons_succ, List.getElem_cons_zero, Act.put, List.setIfInBounds_toArray, List.set_cons_zero, List.set_cons_succ]
                  refine wpAnyH_ready (rs := [14]) (by kernel_rfl) (by simp) (AllReadyH.cons rfl (fun K0 hK0 => ?_) AllReadyH.nil)
                  go_simp
                  refine (cD _ (Kept.refl [] _).drew).mono ?_
                  rintro _ w4 ⟨rfl, hL4, hK4⟩
                  have hK9 : Kept [b] w3 w4 := ((Kept.refl [b] w3).drew).trans hK4 (by simp)
                  have hbs : b ≠ wr.heap.size := fun e => by obtain ⟨vs, h3⟩ := HL1.out.at; rw [e, HB1.out] at h3; cases h3
                  have HR4 := hide (HR1.out.tab HL1.out hK9)
                  have HL4 := hide hL4
                  go_wp2_with fail
                  refine hK0.out _ _ ⟨HRC.out _ HR4.out, hK9.cell d1 (by simpa using fun e => hbs e.symm), hK9.cell d2 (by simpa using fun e => hbs e.symm), hK9.cell b4 (by simpa using fun e => hbs e.symm), hK9.cell b5 (by simpa using fun e => hbs e.symm), hK9.cell b6 (by simpa using fun e => hbs e.symm), hK9.cell b7 (by simpa using fun e => hbs e.symm), hK9.cell b8 (by simpa using fun e => hbs e.symm), hK9.cell b9 (by simpa using fun e => hbs e.symm), hK9.cell b10 (by simpa using fun e => hbs e.symm)⟩ (fun _ => ?_)
                  clear hK0 K0
                  try simp only [List.getElem_toArray, List.getElem_cons_succ, List.getElem_cons_zero, Act.put, List.setIfInBounds_toArray, List.set_cons_zero, List.set_cons_succ]
                  refine wpAnyH_done (by kernel_rfl) ?_ _
                  obtain ⟨z0, hz⟩ := HRZ.out _ HR4.out
                  have cF := liveT_find HL4.out z0
                  have hsc : 1 ≤ sc := by have h := HS1.out.2.1; omega
                  clear hHeld cD d0 d1 d2 b4 b5 b6 b7 b8 b9 b10 hK4 hK9 hbs hL4 q5 hab hrm
                  go_wp2_with fail
                  refine cF.mono ?_
                  rintro _ w5 ⟨u5, rfl, _, hK5⟩
                  have HR5 : Hid (RowI w1.heap.size w5 (.slice (some ⟨g5, o5, none⟩) m sc) S) := hK5.ownsRow HR4.out (by simp)
                  have HL5 := hide (HL4.out.kept hK5)
                  clear cF hK5 hz
                  go_wp2_with fail
                  go_meet
                  case rel => exact ⟨_, _, rfl, HR5, HL5, ord_done HOr.out _ _ _, .inl ⟨rfl, by rw [ids_done]; exact HSE.out.symm⟩⟩
          case rest =>
            obtain ⟨u, L2, rfl, HRc, HLc, HOc, hor⟩ := hcut
            clear d0 d1 d2
            go_upto_if 103 with fail
            go_cut [5] from 28 to 149 (fun ov wx => OrE w1 b L2 ov wx)
            case first =>
              rcases hor with H | H
              · obtain ⟨rfl, hE⟩ := H.out
                have HE := hide hE
                clear hE
                go_wp2_with fail
                go_meet
                case rel => exact ⟨by show RowI _ _ _ _; rw [HE.out]; exact HRc.out, HLc⟩
              · have hu0 := H.out.1
                have hdu : decide (0 ≤ u) = true := by simpa using hu0
                rw [hdu]
                clear hdu
                have HE := hide H.out.2
                have hlc := HRc.out
                have HSL : Hid (S.length = m) := by show _ = _; rw [HSE.out, ← HME.out]
                have HFar : Hid (∀ k, (Value.slice so m sc).ownBlock = some k → k < wc.heap.size) := fun k hk => (World.ownsRow.lt hlc k hk).2
                have hwc1 : w1.heap.size ≤ wc.heap.size := HLc.out.keeps.size
                clear hlc
                go_wp2_with fail
                go_loopw [9, 10] (fun nv kv wr2 => NxI w1 wc b m L2 (.slice so m sc) S u nv kv wr2) (fun _ kv _ => m - (intOf kv).toNat)
                case atStart => exact ⟨0, rfl, Nat.zero_le _, RowI.nil _ _, HRc, HLc, Kept.refl _ _⟩
                case round =>
                  obtain ⟨k, rfl, hk, HNk, HRk, HLk, HKk⟩ := hrel
                  obtain ⟨no, nc, hnv, _⟩ := HNk.out.sl
                  subst hnv
                  have hnl : (dropI u (S.take k)).length ≤ 1000000 := by have h := dropI_le u (S.take k); rw [List.length_take] at h; omega
                  obtain ⟨l, hle⟩ : ∃ l, l = (dropI u (S.take k)).length := ⟨_, rfl⟩
                  rw [← hle] at HNk ⊢
                  have HLE := hide hle
                  clear hle
                  by_cases hklt : k < m
                  · have hklt' : (k : Int) < m := by omega
                    have hkS : k < S.length := by rw [HSL.out]; exact hklt
                    obtain ⟨g6, o6, he6, q6, hmc6⟩ := HRk.out.cellS hkS
                    subst he6
                    have hkc : k ≤ sc := by omega
                    by_cases hz : S[k] = u
                    · have HN2 : Hid (RowI wc.heap.size wr (.slice no l nc) (dropI u (S.take (k + 1)))) := by show RowI _ _ _ _; rw [dropI_take_neg hkS hz]; exact HNk.out
                      rw [hz] at q6
                      clear hz
                      go_wp2_with fail
                      go_roundw
                      case rel => exact ⟨k + 1, by go_num, hklt, HN2, HRk, HLk, HKk⟩
                      case measure => simp [intOf]; omega
                    · have HN2 : Hid (dropI u (S.take (k + 1)) = dropI u (S.take k) ++ [S[k]]) := dropI_take_pos hkS hz
                      generalize S[k] = z at *
                      have hKc : Kept [] wr (wr.alloc (.cells #[.int .i64 z] 3)) := (Kept.refl _ _).alloc _
                      have hRc : RowI wc.heap.size (wr.alloc (.cells #[.int .i64 z] 3)) (.slice no l nc) (dropI u (S.take k)) := World.ownsRow.alloc HNk.out _
                      have hcc : (wr.alloc (.cells #[.int .i64 z] 3)).cell? ⟨wr.heap.size, 0, none⟩ = some (.int .i64 z) := cell_inC (heap_alloc_new wr _) rfl
                      have hwcr : wc.heap.size ≤ wr.heap.size := HKk.out.size
                      go_wp2_with (at_builtin; refine wp_appI rfl _ _ rfl wc.heap.size _ (dropI u (S.take k)) rfl hRc wr.heap.size z rfl hcc hnl (by simp; omega) ?p1)
                      case p1 =>
                        intro v6 w6 hR6 hg6
                        have hT6 : Typed (wr.alloc (.cells #[.int .i64 z] 3)) (Value.slice no l nc).ownBlock.toList [3] := fun k hk cur t' mk hh => by
                          obtain ⟨c2, h2⟩ := row_block hRc (mem_own.1 hk)
                          rw [h2] at hh; cases hh; simp
                        have hK6 : Kept (Value.slice no l nc).ownBlock.toList (wr.alloc (.cells #[.int .i64 z] 3)) w6 := (Kept.refl _ _).grown hg6 fun k hk => .inl (mem_own.2 hk)
                        have hge : ∀ j ∈ (Value.slice no l nc).ownBlock.toList, wc.heap.size ≤ j := fun j hj => (World.ownsRow.lt hRc j (mem_own.1 hj)).1
                        have HL6 := hide ((HLk.out.kept hKc).keepT hK6 hT6 (fun j hj => Nat.le_trans hwc1 (hge j hj)) (by decide) (by decide) (by decide) (by decide))
                        have HS6 : Hid (RowI w1.heap.size w6 (.slice (some ⟨g6, o6, none⟩) m sc) S) := hK6.ownsRow (hKc.ownsRow HRk.out (by simp)) (fun j hj hm => by
                          have h1 := HFar.out j hj
                          have h2 := hge j hm
                          omega)
                        have HR6 : Hid (RowI wc.heap.size w6 v6 (dropI u (S.take (k + 1)))) := by show RowI _ _ _ _; rw [HN2.out]; exact hR6
                        obtain ⟨no6, nc6, hv6, _⟩ := hR6.sl
                        obtain ⟨l6, hl6⟩ : ∃ l6, l6 = (dropI u (S.take k) ++ [z]).length := ⟨_, rfl⟩
                        rw [← hl6] at hv6
                        subst hv6
                        have HK6 : Hid (Kept [] wc w6) := (HKk.out.trans hKc (by simp)).trans hK6 (fun j hj => .inr (hge j hj))
                        clear hR6 hg6 hT6 hK6 hge hRc hKc hcc hl6
                        go_wp2_with fail
                        go_roundw
                        case rel => exact ⟨k + 1, by go_num, hklt, HR6, HS6, HL6, HK6⟩
                        case measure => simp [intOf]; omega
                  · have hklt' : ¬ (k : Int) < m := by omega
                    have HTk : Hid (S.take k = S) := List.take_of_length_le (by rw [HSL.out]; omega)
                    have hKc : Kept [] wr (wr.alloc (.cells #[.int .i64 u] 3)) := (Kept.refl _ _).alloc _
                    have hRc : RowI wc.heap.size (wr.alloc (.cells #[.int .i64 u] 3)) (.slice no l nc) (dropI u (S.take k)) := World.ownsRow.alloc HNk.out _
                    have hcc : (wr.alloc (.cells #[.int .i64 u] 3)).cell? ⟨wr.heap.size, 0, none⟩ = some (.int .i64 u) := cell_inC (heap_alloc_new wr _) rfl
                    have hwcr : wc.heap.size ≤ wr.heap.size := HKk.out.size
                    go_wp2_with (at_builtin; refine wp_appI rfl _ _ rfl wc.heap.size _ (dropI u (S.take k)) rfl hRc wr.heap.size u rfl hcc hnl (by simp; omega) ?p1)
                    case p1 =>
                      intro v6 w6 hR6 hg6
                      have hT6 : Typed (wr.alloc (.cells #[.int .i64 u] 3)) (Value.slice no l nc).ownBlock.toList [3] := fun k hk cur t' mk hh => by
                        obtain ⟨c2, h2⟩ := row_block hRc (mem_own.1 hk)
                        rw [h2] at hh; cases hh; simp
                      have hK6 : Kept (Value.slice no l nc).ownBlock.toList (wr.alloc (.cells #[.int .i64 u] 3)) w6 := (Kept.refl _ _).grown hg6 fun k hk => .inl (mem_own.2 hk)
                      have hge : ∀ j ∈ (Value.slice no l nc).ownBlock.toList, wc.heap.size ≤ j := fun j hj => (World.ownsRow.lt hRc j (mem_own.1 hj)).1
                      have HL6 := hide ((HLk.out.kept hKc).keepT hK6 hT6 (fun j hj => Nat.le_trans hwc1 (hge j hj)) (by decide) (by decide) (by decide) (by decide))
                      have HR6 : Hid (RowI w1.heap.size w6 v6 (idsL L2)) := by
                        show RowI _ _ _ _
                        rw [HE.out]
                        rw [HTk.out] at hR6
                        exact rowI_mono hR6 hwc1
                      clear hR6 hg6 hT6 hK6 hge hRc hKc hcc
                      go_wp2_with fail
                      go_meet
                      case rel => exact ⟨HR6, HL6⟩
            case rest =>
              obtain ⟨HRe, HLe⟩ := hcut
              obtain ⟨eo, ec, hev, _⟩ := HRe.out.sl
              subst hev
              obtain ⟨l, hle⟩ : ∃ l, l = (idsL L2).length := ⟨_, rfl⟩
              rw [← hle] at HRe ⊢
              have HLE := hide hle
              have hl16 : l ≤ 16 := by have h1 := HLe.out.pos; rw [hle]; simp only [idsL, List.length_map]; omega
              have cA := liveT_all HLe.out
              clear hle
              go_wp2_with fail
              refine cA.mono ?_
              rintro _ w6 ⟨v6, X6, rfl, hR6, _, hM6, hK6⟩
              obtain ⟨ao6, c6, rfl, hc6, hm6, _, hat6⟩ := hR6.t.shape
              unfold maxLen at hm6
              have hXl : X6.length = l := by rw [HLE.out, ← hM6]; simp [idsL]
              have HXl := hide hXl
              rw [hXl] at hc6 ⊢
              have HM6 := hide hM6
              have HAt := hide hat6
              have HR7 : Hid (RowI w1.heap.size w6 (.slice eo l ec) (idsL L2)) := hK6.ownsRow HRe.out (by simp)
              have HL7 := hide (HLe.out.kept hK6)
              clear cA hR6 hM6 hK6 hat6 hXl
              go_wp2_with fail
              go_loopw [12] (fun kv wr2 => AlI w6 l kv wr2) (fun kv _ => l - (intOf kv).toNat)
              case atStart => exact ⟨0, rfl, Nat.zero_le _, Kept.refl _ _⟩
              case round =>
                obtain ⟨k, rfl, hk, HKk⟩ := hrel
                by_cases hklt : k < l
                · have hklt' : (k : Int) < l := by omega
                  have hkX : k < X6.length := by rw [HXl.out]; exact hklt
                  have hkS : k < (idsL L2).length := by rw [← HLE.out]; exact hklt
                  have hkL : k < L2.length := by simpa [idsL] using hkS
                  obtain ⟨g7, he7, hxk⟩ := HAt.out k hkX
                  subst he7
                  have hR8 : RowI w1.heap.size wr (.slice eo l ec) (idsL L2) := HKk.out.ownsRow HR7.out (by simp)
                  obtain ⟨g8, o8, he8, q8, hmc8⟩ := hR8.cellS hkS
                  subst he8
                  have p0 := (hxk.kept HKk.out (by simp)).c0
                  rw [fst_get HM6.out hkX hkL] at p0
                  rw [show (idsL L2)[k] = L2[k].i by simp [idsL]] at q8
                  generalize L2[k].i = z at *
                  have hkc6 : k ≤ c6 := by omega
                  have hkec : k ≤ ec := by omega
                  clear hxk hkX hkS hkL hR8
                  go_wp2_with fail
                  go_quiet (fail)
                  go_wp2_with fail
                  go_roundw
                  case rel => exact ⟨k + 1, by go_num, hklt, HKk.out.trans (drewN_kept _ _) (by simp)⟩
                  case measure => simp [intOf]; omega
                · have hklt' : ¬ (k : Int) < l := by omega
                  have HR9 : Hid (RowI w1.heap.size wr (.slice eo l ec) (idsL L2)) := HKk.out.ownsRow HR7.out (by simp)
                  have HL9 := hide (HL7.out.kept HKk.out)
                  go_wp2_with fail
                  go_roundw
                  case rel => exact ⟨i + 1, L2, by go_num, by omega, by omega, HR9, HL9, HOc⟩
                  case measure => simp [intOf]; omega
        · have hl16' : ¬ (i : Int) < 16 := by omega
          go_wp2_with fail
          go_ret
          exact ⟨rfl, HK1.out.trans HLv0.out.keeps (by simp)⟩
      · have hlt' : ¬ (i : Int) < n := by omega
        go_wp2_with fail
        go_ret
        exact ⟨rfl, HK1.out.trans HLv0.out.keeps (by simp)⟩
end Go.Proofs.Ytajkmhepedlmmab
