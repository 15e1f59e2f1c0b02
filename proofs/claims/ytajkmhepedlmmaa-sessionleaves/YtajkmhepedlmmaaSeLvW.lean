/-
  SessionLeaves: the walk.
-/
import Derived.Test.YtajkmhepedlmmaaSeLive
import Derived.Test.YtajkmhepedlmmaaSeLvP0
import Derived.Test.YtajkmhepedlmmaaSeInts
import Derived.BigQuiet
namespace Go.Proofs.Ytajkmhepedlmmaa
open Go.RowKit

theorem and31 (x : Int) : ∃ a : Nat, a < 32 ∧ bits .and .i64 x 31 = (a : Int) := by
  have hb : 0 ≤ bits .and .i64 x 31 ∧ bits .and .i64 x 31 ≤ 31 := by
    simp only [bits, BitVec.toNat_and]
    have h1 : ∀ a : Nat, a &&& (BitVec.ofInt IntKind.i64.bits 31).toNat ≤ 31 := fun a => Nat.and_le_right
    have h2 := h1 (BitVec.ofInt IntKind.i64.bits x).toNat
    generalize (BitVec.ofInt IntKind.i64.bits x).toNat &&& (BitVec.ofInt IntKind.i64.bits 31).toNat = n at *
    rw [IntKind.wrap_i64]
    omega
  exact ⟨(bits .and .i64 x 31).toNat, by omega, by omega⟩

/-- The name of the other one, out of its bytes. -/
theorem nmO_conv {a : Nat} (ha : a < 32) (W : World) (b : Nat) (h0 : W.cell? ⟨b, 0, none⟩ = some (.int .u8 120)) (h1 : W.cell? ⟨b, 1, none⟩ = some (.int .u8 (97 + (a : Int) % 16))) (h2 : W.cell? ⟨b, 2, none⟩ = some (.int .u8 (97 + (a : Int) / 16))) :
    (convert 60 9 (.slice (some ⟨b, 0, none⟩) 3 3)).run Try.prog W = .ok (.string (str (nmO a))) W := by
  refine run_convert_bytes_back (P := Try.prog) W 60 9 5 ⟨b, 0, none⟩ 3 (nmO a) Try.underlying60 Try.underlying5 Try.underlying9 (fun j hj => ?_)
  have e1 : (UInt8.ofNat (97 + a % 16)).toNat = 97 + a % 16 := by rw [UInt8.toNat_ofNat']; omega
  have e2 : (UInt8.ofNat (97 + a / 16)).toNat = 97 + a / 16 := by rw [UInt8.toNat_ofNat']; omega
  have hj3 : j < 3 := by simpa [nmO] using hj
  rw [adr_addC, Nat.zero_add]
  match j, hj3 with
  | 0, _ => rw [h0]; simp [nmO]
  | 1, _ =>
    rw [h1]
    show _ = some (Value.int .u8 ((UInt8.ofNat (97 + a % 16)).toNat : Int))
    rw [e1]; simp
  | 2, _ =>
    rw [h2]
    show _ = some (Value.int .u8 ((UInt8.ofNat (97 + a / 16)).toNat : Int))
    rw [e2]; simp

theorem LiveT.keepT {w0 w w' : World} {b sz : Nat} {L : List Se} (h : LiveT w0 w b sz L) {S : List Nat} {Ts : List TypeId} (k : Kept S w w') (hT : Typed w S Ts) (hS : ∀ i ∈ S, w0.heap.size ≤ i) (h0 : 68 ∉ Ts) (h1 : 44 ∉ Ts) (h2 : 65 ∉ Ts) (h3 : 89 ∉ Ts) : LiveT w0 w' b sz L := by
  obtain ⟨v, X, g1, g2, g3⟩ := h
  exact ⟨v, X, g1.keepT k hT h0 h1 h2 h3, g2.trans k (fun i hi => .inr (hS i hi)), g3⟩

def LvI (w1 : World) (b sz n : Nat) (uv sv iv : Value) (wr : World) : Prop :=
  ∃ (i : Nat) (S : List Int) (L : List Se), iv = .int .i64 (i : Int) ∧ i ≤ n ∧ uv = .int .i64 (S.length : Int) ∧ S.length ≤ i ∧ Hid (RowI w1.heap.size wr sv S) ∧ Hid (LiveT w1 wr b sz L) ∧ Hid (Stay sz S L) ∧ True

def LwI (w1 : World) (b sz n : Nat) (iv : Value) (wr : World) : Prop := ∃ (i : Nat) (L : List Se), iv = .int .i64 (i : Int) ∧ i ≤ n ∧ Hid (LiveT w1 wr b sz L) ∧ Hid (byI (-1) L = none)

set_option linter.unusedSimpArgs false in
set_option maxHeartbeats 16000000 in
set_option maxRecDepth 100000 in
theorem sleaves_walk (W : World) (size : Int) (ao : Option Addr) (n c : Nat) (O : List Int) (hO : SlI W ao n c O) (qo : Option Addr) (m d : Nat) (Q : List Int) (hQ : SlI W qo m d Q) :
    Calls Try.prog 6 #[.int .i64 size, .slice ao n c, .slice qo m d] W fun e w' => e = .returned (.bool true) ∧ Kept [] W w' := by
  have cW := awakeT_call W
  have hc := hO.2.1
  have hcm := hO.2.2.1
  have hd := hQ.2.1
  have hdm := hQ.2.2.1
  unfold maxLen at hcm hdm
  have HO := hide hO
  have HQ := hide hQ
  have HLo := hide hO.1
  have HLq := hide hQ.1
  clear hO hQ
  go_enter Try.func6, Try.ntmps6
  go_wp2_with fail
  refine cW.mono ?_
  rintro _ w0 ⟨rfl, hK0⟩
  clear cW
  by_cases hn : (100 : Int) < n
  · go_wp2_with fail
    go_ret
    exact ⟨rfl, hK0⟩
  by_cases hmm : (100 : Int) < m
  · go_wp2_with fail
    go_ret
    exact ⟨rfl, hK0⟩
  by_cases hs : 1 ≤ size ∧ size ≤ 16
  · obtain ⟨sz, rfl⟩ : ∃ sz : Nat, size = sz := ⟨size.toNat, by omega⟩
    have cN := liveT_new w0 sz (by omega) (by omega)
    go_wp2_with fail
    refine cN.mono ?_
    rintro _ w1 ⟨b, rfl, hT1⟩
    have cA := awakeT_call w1
    clear cN
    go_wp2_with fail
    refine cA.mono ?_
    rintro _ w2 ⟨rfl, hK2⟩
    have hT2 := hT1.kept hK2
    have cO := liveT_open hT2 [109, 101] (by simp) (-1)
    unfold str at cO
    clear cA hT1 hK2 hT2
    go_wp2_with fail
    refine cO.mono ?_
    rintro _ w3 ⟨rfl, hT3, _⟩
    have HT3 : Hid (LiveT w0 w3 b sz [me]) := by
      have e : openL sz [109, 101] (-1) [] = [me] := by
        have hf : fitL sz [] = [] := by unfold fitL; split <;> rfl
        show fitL sz [] ++ [me] = [me]
        rw [hf]; rfl
      rw [e] at hT3; exact hT3
    have HK0 := hide hK0
    clear cO hT3 hK0
    go_wp2_with fail
    go_loopw [9, 10, 11] (fun uv sv iv wr => LvI w0 b sz n uv sv iv wr) (fun _ _ iv _ => n - (intOf iv).toNat)
    case atStart => exact ⟨0, [], [me], rfl, Nat.zero_le _, rfl, Nat.le_refl _, RowI.nil _ _, HT3, stay_new (by omega), trivial⟩
    case round =>
      obtain ⟨i, S, L, rfl, hi, rfl, hSi, HRs, HLv, HSt, _⟩ := hrel
      by_cases hlt : i < n
      · have hlt' : (i : Int) < n := by omega
        have hic : i ≤ c := by omega
        have hiO : i < O.length := by rw [HLo.out]; exact hlt
        obtain ⟨g, o, rfl, h0⟩ := (HO.out.kept (HK0.out.trans HLv.out.keeps (by simp))).2.2.2 i hiO
        obtain ⟨a, ha, hab⟩ := and31 O[i]
        generalize O[i] = z at *
        obtain ⟨so, sc, hsv, hsl⟩ := HRs.out.sl
        subst hsv
        have cH := has_call wr so S.length sc S hsl a
        go_wp2_with fail
        refine cH.mono ?_
        rintro _ w4 ⟨rfl, hK4⟩
        have hL4 := HLv.out.kept hK4
        have HR4 : Hid (RowI w0.heap.size w4 (.slice so S.length sc) S) := hK4.ownsRow HRs.out (by simp)
        have hb4 := hL4.lt
        have hwb := hL4.made
        have hsz4 : w0.heap.size ≤ w4.heap.size := hL4.keeps.size
        have p0 : (0 : Int) ≤ a := by omega
        have p1 : (a : Int) ≤ 31 := by omega
        have hSl : S.length ≤ 1000000 := by omega
        have HNx := hide (stay_next HSt.out ha)
        have hcv := fun W b h0 h1 h2 => nmO_conv ha W b h0 h1 h2
        clear cH hab h0 hsl
        by_cases hmem : (a : Int) ∈ S
        · have hdm : decide ((a : Int) ∈ S) = true := by simpa using hmem
          have HS2 : Hid (seen S a = S) := if_pos hmem
          have HNx2 : Hid (Stay sz S (openL sz (nmO a) a L)) := by have h := HNx.out; rw [HS2.out] at h; exact h
          rw [hdm]
          clear hmem hdm
          have HL6 := hide hL4
          have HR6 := HR4
          clear hL4
          have hKb : Kept [] w4 (w4.alloc (.cells #[.int .u8 120, .int .u8 (97 + (a : Int) % 16), .int .u8 (97 + (a : Int) / 16)] 5)) := (Kept.refl _ _).alloc _
          have cO := liveT_open (HL6.out.kept hKb) (nmO a) (by simp [nmO]) a
          go_wp2_with fail
          refine cO.mono ?_
          rintro _ w7 ⟨rfl, hL7, hK7⟩
          have HL7 := hide hL7
          have HR7 : Hid (RowI w0.heap.size w7 (.slice so S.length sc) S) := hK7.ownsRow (hKb.ownsRow HR6.out (by simp)) (fun k hk hm => by
            simp at hm; subst hm
            obtain ⟨c2, h2⟩ := row_block HR6.out hk
            obtain ⟨vs, h3⟩ := HL6.out.at
            rw [h2] at h3; cases h3)
          clear cO hL7 hK7 hKb
          go_wp2_with fail
          go_roundw
          case rel => exact ⟨i + 1, S, _, by go_num, by omega, rfl, by omega, HR7, HL7, HNx2, trivial⟩
          case measure => simp [intOf]; omega
        · have hdm : decide ((a : Int) ∈ S) = false := by simpa using hmem
          have HS2 : Hid (seen S a = S ++ [(a : Int)]) := if_neg hmem
          have HNx2 : Hid (Stay sz (S ++ [(a : Int)]) (openL sz (nmO a) a L)) := by have h := HNx.out; rw [HS2.out] at h; exact h
          rw [hdm]
          clear hmem hdm
          have hKc : Kept [] w4 (w4.alloc (.cells #[.int .i64 a] 3)) := (Kept.refl _ _).alloc _
          have hRc : RowI w0.heap.size (w4.alloc (.cells #[.int .i64 a] 3)) (.slice so S.length sc) S := World.ownsRow.alloc HR4.out _
          have hcc : (w4.alloc (.cells #[.int .i64 (a : Int)] 3)).cell? ⟨w4.heap.size, 0, none⟩ = some (.int .i64 a) := cell_inC (heap_alloc_new w4 _) rfl
          go_wp2_with (at_builtin; refine wp_appI rfl _ _ rfl w0.heap.size _ S rfl hRc w4.heap.size a rfl hcc hSl (by simp; omega) ?p1)
          case p1 =>
            intro v6 w6 hR6 hg6
            have hT6 : Typed (w4.alloc (.cells #[.int .i64 (a : Int)] 3)) (Value.slice so S.length sc).ownBlock.toList [3] := fun k hk cur t' mk hh => by
              obtain ⟨c2, h2⟩ := row_block hRc (mem_own.1 hk)
              rw [h2] at hh; cases hh; simp
            have hK6 : Kept (Value.slice so S.length sc).ownBlock.toList (w4.alloc (.cells #[.int .i64 (a : Int)] 3)) w6 := (Kept.refl _ _).grown hg6 fun k hk => .inl (mem_own.2 hk)
            have HL6 := hide ((hL4.kept hKc).keepT hK6 hT6 (fun k hk => (World.ownsRow.lt hRc k (mem_own.1 hk)).1) (by decide) (by decide) (by decide) (by decide))
            obtain ⟨so6, sc6, hv6, _⟩ := hR6.sl
            obtain ⟨l6, hl6⟩ : ∃ l6, l6 = (S ++ [(a : Int)]).length := ⟨_, rfl⟩
            have HE6 := hide hl6
            rw [← hl6] at hv6
            subst hv6
            have HR6 := hide hR6
            have hlS : S.length + 1 ≤ i + 1 := by omega
            clear hR6 hg6 hT6 hK6 hRc hKc hcc hl6 hL4
            have hKb : Kept [] w6 (w6.alloc (.cells #[.int .u8 120, .int .u8 (97 + (a : Int) % 16), .int .u8 (97 + (a : Int) / 16)] 5)) := (Kept.refl _ _).alloc _
            have cO := liveT_open (HL6.out.kept hKb) (nmO a) (by simp [nmO]) a
            go_wp2_with fail
            refine cO.mono ?_
            rintro _ w7 ⟨rfl, hL7, hK7⟩
            have HL7 := hide hL7
            have HR7 : Hid (RowI w0.heap.size w7 (.slice so6 l6 sc6) (S ++ [(a : Int)])) := hK7.ownsRow (hKb.ownsRow HR6.out (by simp)) (fun k hk hm => by
              simp at hm; subst hm
              obtain ⟨c2, h2⟩ := row_block HR6.out hk
              obtain ⟨vs, h3⟩ := HL6.out.at
              rw [h2] at h3; cases h3)
            clear cO hL7 hK7 hKb
            go_wp2_with fail
            go_roundw
            case rel => exact ⟨i + 1, (S ++ [(a : Int)]), _, by go_num, by omega, by simp, by simp; omega, HR7, HL7, HNx2, trivial⟩
            case measure => simp [intOf]; omega
      · have hlt' : ¬ (i : Int) < n := by omega
        have cK := liveT_ask HLv.out (-1) 1
        by_cases hus : S.length < sz
        · have hus' : (S.length : Int) < sz := by omega
          rw [stay_in HSt.out hus] at cK
          unfold vtC at cK
          clear hus
          go_wp2_with fail
          refine cK.mono ?_
          rintro _ w4 ⟨⟨a3, n3, c3, rfl, _⟩, hL4, _⟩
          have HF := hide (HK0.out.trans hL4.keeps (by simp))
          unfold vtV
          simp only [str_nil]
          clear cK hL4
          go_wp2_with fail
          go_ret
          exact ⟨rfl, HF.out.alloc _⟩
        · have hus' : ¬ (S.length : Int) < sz := by omega
          have hno := stay_out HSt.out hus
          rw [show askV (-1) 1 L = (vtC 6, true) by unfold askV; rw [hno], show askL (-1) L = L by unfold askL; rw [hno]] at cK
          unfold vtC at cK
          have HNo := hide hno
          clear hus hno
          go_wp2_with fail
          refine cK.mono ?_
          rintro _ w4 ⟨⟨a3, n3, c3, rfl, _⟩, hL4, _⟩
          have hKb : Kept [] w4 (w4.alloc (.cells #[.int .i64 6, .int .i64 0, .int .i64 0, .string ByteArray.empty, .int .u64 0, .slice a3 n3 c3, .int .i64 0] 31)) := (Kept.refl _ _).alloc _
          have HL5 := hide (hL4.kept hKb)
          unfold vtV
          simp only [str_nil]
          clear cK hL4 hKb
          go_wp2_with fail
          go_loopw [15] (fun iv wr => LwI w0 b sz m iv wr) (fun iv _ => m - (intOf iv).toNat)
          case atStart => exact ⟨0, L, rfl, Nat.zero_le _, HL5, HNo⟩
          case round =>
            obtain ⟨j, L2, rfl, hj, HLj, HNj⟩ := hrel
            by_cases hjlt : j < m
            · have hjlt' : (j : Int) < m := by omega
              have hjd : j ≤ d := by omega
              have hjQ : j < Q.length := by rw [HLq.out]; exact hjlt
              obtain ⟨gq, oq, rfl, hq0⟩ := HQ.out.2.2.2 j hjQ
              have z0 := (HK0.out.trans HLj.out.keeps (by simp)).cell hq0 (by simp)
              have cQ := liveT_ask HLj.out (-1) Q[j]
              rw [show askV (-1) Q[j] L2 = (vtC 6, true) by unfold askV; rw [HNj.out], show askL (-1) L2 = L2 by unfold askL; rw [HNj.out]] at cQ
              unfold vtC at cQ
              have HQ0 := hide hq0
              generalize Q[j] = zq at *
              clear hq0 hjQ
              go_wp2_with fail
              refine cQ.mono ?_
              rintro _ w6 ⟨⟨a3, n3, c3, rfl, hO6⟩, hL6, _⟩
              obtain ⟨w7, hw7⟩ : ∃ w7, w7 = w6.alloc (.cells #[.int .i64 6, .int .i64 0, .int .i64 0, .string ByteArray.empty, .int .u64 0, .slice a3 n3 c3, .int .i64 0] 31) := ⟨_, rfl⟩
              have hKb : Kept [] w6 w7 := by rw [hw7]; exact (Kept.refl _ _).alloc _
              have hB7 : w7.heap[w6.heap.size]? = some (.cells #[.int .i64 6, .int .i64 0, .int .i64 0, .string ByteArray.empty, .int .u64 0, .slice a3 n3 c3, .int .i64 0] 31 (0, 0)) := by rw [hw7]; exact heap_alloc_new w6 _
              have HL7 := hide (hL6.kept hKb)
              have z1 := (HK0.out.trans HL7.out.keeps (by simp)).cell HQ0.out (by simp)
              have cD := fun W (hk : Kept [] w7 W) => liveT_done (HL7.out.kept hk) (-1) zq ⟨6, 0, 0, [], 0, [], 0⟩ (.slice a3 n3 c3) (((hO6.kept hKb).kept hk).ko) ⟨by simp, by simp, by simp⟩
              rw [show doneI (-1) zq L2 = none by unfold doneI; rw [HNj.out], show doneL (-1) zq ⟨6, 0, 0, [], 0, [], 0⟩ L2 = L2 by unfold doneL doneI; rw [HNj.out]] at cD
              unfold vtV at cD
              simp only [str_nil, Option.isSome] at cD
              unfold vtV
              simp only [str_nil]
              have b0 : w7.cell? ⟨w6.heap.size, 0, none⟩ = some (.int .i64 6) := cell_inC hB7 rfl
              have b1 : w7.cell? ⟨w6.heap.size, 1, none⟩ = some (.int .i64 0) := cell_inC hB7 rfl
              have b2 : w7.cell? ⟨w6.heap.size, 2, none⟩ = some (.int .i64 0) := cell_inC hB7 rfl
              have b3 : w7.cell? ⟨w6.heap.size, 3, none⟩ = some (.string ByteArray.empty) := cell_inC hB7 rfl
              have b4 : w7.cell? ⟨w6.heap.size, 4, none⟩ = some (.int .u64 0) := cell_inC hB7 rfl
              have b5 : w7.cell? ⟨w6.heap.size, 5, none⟩ = some (.slice a3 n3 c3) := cell_inC hB7 rfl
              have b6 : w7.cell? ⟨w6.heap.size, 6, none⟩ = some (.int .i64 0) := cell_inC hB7 rfl
              have HB7 := hide hB7
              clear cQ hL6 hO6 hKb hB7 z0
              go_upto_region 30 with fail
              rw [← hw7]
              clear hw7
              refine wp_region_held_drew (S := fun w' => w'.cell? ⟨gq, oq + j, none⟩ = some (.int .i64 zq) ∧ w'.cell? ⟨w6.heap.size, 0, none⟩ = some (.int .i64 6) ∧ w'.cell? ⟨w6.heap.size, 1, none⟩ = some (.int .i64 0) ∧ w'.cell? ⟨w6.heap.size, 2, none⟩ = some (.int .i64 0) ∧ w'.cell? ⟨w6.heap.size, 3, none⟩ = some (.string ByteArray.empty) ∧ w'.cell? ⟨w6.heap.size, 4, none⟩ = some (.int .u64 0) ∧ w'.cell? ⟨w6.heap.size, 5, none⟩ = some (.slice a3 n3 c3) ∧ w'.cell? ⟨w6.heap.size, 6, none⟩ = some (.int .i64 0)) (by kernel_rfl) ⟨z1, b0, b1, b2, b3, b4, b5, b6⟩ (fun hHeld => ?_)
              refine wpAnyH_take (i := 0) (v := ?_) rfl (by kernel_rfl) (by kernel_rfl) (by kernel_rfl) (fun _ _ _ h => h) (Or.inl ⟨by rfl, ?_⟩) hHeld ?_
              rotate_left
              · intro w9 hSw; (try dsimp only at hSw); go_simp; (try with_reducible rfl)
              try simp only [List.getElem_toArray, List.getElem_cons_succ, List.getElem_cons_zero, Act.put, List.setIfInBounds_toArray, List.set_cons_zero, List.set_cons_succ]
              refine wpAnyH_take (i := 1) (v := ?_) rfl (by kernel_rfl) (by kernel_rfl) (by kernel_rfl) (fun _ _ _ h => h) (Or.inl ⟨by rfl, ?_⟩) hHeld ?_
              rotate_left
              · intro w9 hSw; (try dsimp only at hSw); go_simp; (try with_reducible rfl)
              try simp only [List.getElem_toArray, List.getElem_cons_succ, List.getElem_cons_zero, Act.put, List.setIfInBounds_toArray, List.set_cons_zero, List.set_cons_succ]
              refine wpAnyH_take (i := 2) (v := ?_) rfl (by kernel_rfl) (by kernel_rfl) (by kernel_rfl) (fun _ _ _ h => h) (Or.inl ⟨by rfl, ?_⟩) hHeld ?_
              rotate_left
              · intro w9 hSw; (try dsimp only at hSw); go_simp; (try with_reducible rfl)
              try simp only [List.getElem_toArray, List.getElem_cons_succ, List.getElem_cons_zero, Act.put, List.setIfInBounds_toArray, List.set_cons_zero, List.set_cons_succ]
              refine wpAnyH_take (i := 3) (v := ?_) rfl (by kernel_rfl) (by kernel_rfl) (by kernel_rfl) (fun _ _ _ h => h) (Or.inl ⟨by rfl, ?_⟩) hHeld ?_
              rotate_left
              · intro w9 hSw; (try dsimp only at hSw); go_simp; (try with_reducible rfl)
              try simp only [List.getElem_toArray, List.getElem_cons_succ, List.getElem_cons_zero, Act.put, List.setIfInBounds_toArray, List.set_cons_zero, List.set_cons_succ]
              refine wpAnyH_take (i := 4) (v := ?_) rfl (by kernel_rfl) (by kernel_rfl) (by kernel_rfl) (fun _ _ _ h => h) (Or.inl ⟨by rfl, ?_⟩) hHeld ?_
              rotate_left
              · intro w9 hSw; (try dsimp only at hSw); go_simp; (try with_reducible rfl)
              try simp only [List.getElem_toArray, List.getElem_cons_succ, List.getElem_cons_zero, Act.put, List.setIfInBounds_toArray, List.set_cons_zero, List.set_cons_succ]
              refine wpAnyH_take (i := 5) (v := ?_) rfl (by kernel_rfl) (by kernel_rfl) (by kernel_rfl) (fun _ _ _ h => h) (Or.inl ⟨by rfl, ?_⟩) hHeld ?_
              rotate_left
              · intro w9 hSw; (try dsimp only at hSw); go_simp; (try with_reducible rfl)
              try simp only [List.getElem_toArray, List.getElem_cons_succ, List.getElem_cons_zero, Act.put, List.setIfInBounds_toArray, List.set_cons_zero, List.set_cons_succ]
              refine wpAnyH_take (i := 6) (v := ?_) rfl (by kernel_rfl) (by kernel_rfl) (by kernel_rfl) (fun _ _ _ h => h) (Or.inl ⟨by rfl, ?_⟩) hHeld ?_
              rotate_left
              · intro w9 hSw; (try dsimp only at hSw); go_simp; (try with_reducible rfl)
              try simp only [List.getElem_toArray, List.getElem_cons_succ, List.getElem_cons_zero, Act.put, List.setIfInBounds_toArray, List.set_cons_zero, List.set_cons_succ]
              refine wpAnyH_take (i := 7) (v := ?_) rfl (by kernel_rfl) (by kernel_rfl) (by kernel_rfl) (fun _ _ _ h => h) (Or.inl ⟨by rfl, ?_⟩) hHeld ?_
              rotate_left
              · intro w9 hSw; (try dsimp only at hSw); go_simp; (try with_reducible rfl)
              try simp only [List.getElem_toArray, List.getElem_cons_succ, List.getElem_cons_zero, Act.put, List.setIfInBounds_toArray, List.set_cons_zero, List.set_cons_succ]
              refine wpAnyH_take (i := 8) (v := ?_) rfl (by kernel_rfl) (by kernel_rfl) (by kernel_rfl) (fun _ _ _ h => h) (Or.inl ⟨by rfl, ?_⟩) hHeld ?_
              rotate_left
              · intro w9 hSw; (try dsimp only at hSw); go_simp; (try with_reducible rfl)
              try simp only [List.getElem_toArray, List.getElem_cons_succ, List.getElem_cons_zero, Act.put, List.setIfInBounds_toArray, List.set_cons_zero, List.set_cons_succ]
              refine wpAnyH_take (i := 9) (v := ?_) rfl (by kernel_rfl) (by kernel_rfl) (by kernel_rfl) (fun _ _ _ h => h) (Or.inl ⟨by rfl, ?_⟩) hHeld ?_
              rotate_left
              · intro w9 hSw; (try dsimp only at hSw); go_simp; (try with_reducible rfl)
              try simp only [List.getElem_toArray, List.getElem_cons_succ, List.getElem_cons_zero, Act.put, List.setIfInBounds_toArray, List.set_cons_zero, List.set_cons_succ]
              refine wpAnyH_take (i := 10) (v := ?_) rfl (by kernel_rfl) (by kernel_rfl) (by kernel_rfl) (fun _ _ _ h => h) (Or.inl ⟨by rfl, ?_⟩) hHeld ?_
              rotate_left
              · intro w9 hSw; (try dsimp only at hSw); go_simp; (try with_reducible rfl)
              try simp only [List.getElem_toArray, List.getElem_cons_succ, List.getElem_cons_zero, Act.put, List.setIfInBounds_toArray, List.set_cons_zero, List.set_cons_succ]
              refine wpAnyH_take (i := 11) (v := ?_) rfl (by kernel_rfl) (by kernel_rfl) (by kernel_rfl) (fun _ _ _ h => h) (Or.inl ⟨by rfl, ?_⟩) hHeld ?_
              rotate_left
              · intro w9 hSw; (try dsimp only at hSw); go_simp; (try with_reducible rfl)
              try simp only [List.getElem_toArray, List.getElem_cons_succ, List.getElem_cons_zero, Act.put, List.setIfInBounds_toArray, List.set_cons_zero, List.set_cons_succ]
              refine wpAnyH_take (i := 12) (v := ?_) rfl (by kernel_rfl) (by kernel_rfl) (by kernel_rfl) (fun _ _ _ h => h) (Or.inl ⟨by rfl, ?_⟩) hHeld ?_
              rotate_left
              · intro w9 hSw; (try dsimp only at hSw); go_simp; (try with_reducible rfl)
              try simp only [List.getElem_toArray, List.getElem_cons_succ, List.getElem_cons_zero, Act.put, List.setIfInBounds_toArray, List.set_cons_zero, List.set_cons_succ]
              refine wpAnyH_take (i := 13) (v := ?_) rfl (by kernel_rfl) (by kernel_rfl) (by kernel_rfl) (fun _ _ _ h => h) (Or.inl ⟨by rfl, ?_⟩) hHeld ?_
              rotate_left
              · intro w9 hSw; (try dsimp only at hSw); go_simp; (try with_reducible rfl)
              try simp only [List.getElem_toArray, List.getElem_cons_succ, List.getElem_cons_zero, Act.put, List.setIfInBounds_toArray, List.set_cons_zero, List.set_cons_succ]
              refine wpAnyH_ready (rs := [14]) (by kernel_rfl) (by simp) (AllReadyH.cons rfl (fun K0 hK0 => ?_) AllReadyH.nil)
              go_simp
              refine (cD _ (Kept.refl [] _).drew).mono ?_
              rintro _ w8 ⟨rfl, hL8, hK8⟩
              have hb8 := HL7.out.made
              have hK9 : Kept [b] w7 w8 := ((Kept.refl [b] w7).drew).trans hK8 (by simp)
              have hq8 := HK0.out.trans hL8.keeps (by simp)
              have hbs : b ≠ w6.heap.size := fun e => by obtain ⟨vs, h3⟩ := HL7.out.at; rw [e, HB7.out] at h3; cases h3
              have HL8 := hide hL8
              go_wp2_with fail
              refine hK0.out _ _ ⟨hq8.cell HQ0.out (by simp), hK9.cell b0 (by simpa using fun e => hbs e.symm), hK9.cell b1 (by simpa using fun e => hbs e.symm), hK9.cell b2 (by simpa using fun e => hbs e.symm), hK9.cell b3 (by simpa using fun e => hbs e.symm), hK9.cell b4 (by simpa using fun e => hbs e.symm), hK9.cell b5 (by simpa using fun e => hbs e.symm), hK9.cell b6 (by simpa using fun e => hbs e.symm)⟩ (fun hHeld => ?_)
              clear hK0 K0
              try simp only [List.getElem_toArray, List.getElem_cons_succ, List.getElem_cons_zero, Act.put, List.setIfInBounds_toArray, List.set_cons_zero, List.set_cons_succ]
              refine wpAnyH_take (i := 15) (v := ?_) rfl (by kernel_rfl) (by kernel_rfl) (by kernel_rfl) (fun _ _ _ h => h) (Or.inl ⟨by rfl, ?_⟩) hHeld ?_
              rotate_left
              · intro w9 hSw; (try dsimp only at hSw); go_simp; (try with_reducible rfl)
              try simp only [List.getElem_toArray, List.getElem_cons_succ, List.getElem_cons_zero, Act.put, List.setIfInBounds_toArray, List.set_cons_zero, List.set_cons_succ]
              refine wpAnyH_done (by kernel_rfl) ?_ _
              clear hHeld z1 b0 b1 b2 b3 b4 b5 b6 hK8 hK9 hq8 hbs hL8
              go_wp2_with fail
              go_roundw
              case rel => exact ⟨j + 1, L2, by go_num, by omega, HL8, HNj⟩
              case measure => simp [intOf]; omega
            · have hjlt' : ¬ (j : Int) < m := by omega
              have HF := hide (HK0.out.trans HLj.out.keeps (by simp))
              go_wp2_with fail
              go_ret
              exact ⟨rfl, HF.out⟩
  · have cN := newT_bad w0 size hs
    go_wp2_with fail
    refine cN.mono ?_
    rintro _ W2 ⟨rfl, hW0⟩
    obtain rfl := hW0.symm
    have cA := awakeT_call w0
    go_wp2_with fail
    refine cA.mono ?_
    rintro _ w2 ⟨rfl, hK2⟩
    go_wp2_with fail
    go_ret
    exact ⟨rfl, hK0.trans hK2 (by simp)⟩

end Go.Proofs.Ytajkmhepedlmmaa
