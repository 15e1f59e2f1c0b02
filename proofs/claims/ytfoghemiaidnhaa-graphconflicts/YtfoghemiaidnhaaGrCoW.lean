/-
  GraphConflicts: the walk.
-/
import Derived.Test.YtfoghemiaidnhaaGrLoop
import Derived.Test.YtfoghemiaidnhaaGrSame
import Derived.Test.YtfoghemiaidnhaaGrLegF
import Derived.Test.YtfoghemiaidnhaaGrHist2
import Derived.Test.YtfoghemiaidnhaaChRefC
import Derived.Test.YtfoghemiaidnhaaChRefS
import Derived.Deep.QuietTactic
import Derived.BigQuiet
import Derived.Deep.CutRange
import Derived.Handy
namespace Go.Proofs.Ytfoghemiaidnhaa
open Go.RowKit

theorem lastIn_or (p : List UInt8) (r : Int) (l : List Ch) (o : Option Lf) : lastIn p r o l = (lastIn p r none l).or o := by
  by_cases h : ∃ q ∈ l, q.p = p
  · obtain ⟨q, hq, hqp⟩ := h
    have : ∀ (l : List Ch) (o o' : Option Lf), (∃ q ∈ l, q.p = p) → lastIn p r o l = lastIn p r o' l := by
      intro l
      induction l with
      | nil => intro o o' ⟨q, hq, _⟩; cases hq
      | cons a l ih =>
        intro o o' ⟨q, hq, hqp⟩
        unfold lastIn
        rw [List.foldl_cons, List.foldl_cons]
        by_cases h2 : ∃ q ∈ l, q.p = p
        · exact ih _ _ h2
        · rcases List.mem_cons.1 hq with rfl | hq
          · rw [if_pos hqp, if_pos hqp]
          · exact absurd ⟨q, hq, hqp⟩ h2
    obtain ⟨y, h1, _⟩ := lastIn_hit (r := r) hq hqp none
    rw [this l o none ⟨q, hq, hqp⟩, h1]; rfl
  · rw [lastIn_none (fun y hy e => h ⟨y, hy, e⟩), lastIn_none (fun y hy e => h ⟨y, hy, e⟩)]; rfl

theorem fold_or (p : List UInt8) (cs : List Com) : ∀ o : Option Lf, cs.foldl (fun o c => lastIn p c.r o c.c) o = (lastC p cs).or o := by
  induction cs with
  | nil => intro o; rfl
  | cons c cs ih =>
    intro o
    unfold lastC
    rw [List.foldl_cons, List.foldl_cons, ih, ih (lastIn p c.r none c.c), lastIn_or p c.r c.c o]
    cases lastC p cs <;> rfl

theorem lastC_parts (p : List UInt8) (cs : List Com) (b : Nat) : lastC p cs = (lastC p (cs.drop b)).or (lastC p (cs.take b)) := by
  rw [← fold_or]
  unfold lastC
  rw [← List.foldl_append, List.take_append_drop]

/-- The verdict, of conflicts among these. -/
def conV (len : Nat) : Option (List UInt8 × Int) → Vd
  | some x => ⟨3, x.2, x.1, 0⟩
  | none => ⟨2, (len : Int) + 1, [], 0⟩

/-- .. where a scan of commits has found something. -/
def scanV (p : List UInt8) (o : Option Lf) (v : Vd) : Vd :=
  match o with
  | some y => ⟨3, y.r, p, 0⟩
  | none => v

theorem scan_step {G : Gr} (h : Reach G) {b : Nat} {x : Ch} {l : List Ch} : scanV x.p (lastC x.p (G.cs.drop b)) (conV G.cs.length (confl G.ls (b : Int) l)) = conV G.cs.length (confl G.ls (b : Int) (x :: l)) := by
  have hf := h.last x.p
  rw [lastC_parts x.p G.cs b] at hf
  cases hd : lastC x.p (G.cs.drop b) with
  | some y =>
    rw [hd] at hf
    rcases lastC_from none hd with ⟨c, hc, z, hz, hzp, he⟩ | h0
    · obtain ⟨i, hi, rfl⟩ := List.getElem_of_mem hc
      have hr := (h.wf.revs (b + i) (by simp at hi; omega)).1
      simp only [List.getElem_drop] at he
      have hyr : (b : Int) < y.r := by rw [he]; simp only; rw [hr]; omega
      rw [confl_hit (y := y) (by simpa using hf) hyr]
      rfl
    · cases h0
  | none =>
    rw [hd] at hf
    simp only [scanV]
    cases ht : lastC x.p (G.cs.take b) with
    | none => rw [ht] at hf; rw [confl_miss hf]
    | some y =>
      rw [ht] at hf
      have hyr : ¬ (b : Int) < y.r := by
        rcases lastC_from none ht with ⟨c, hc, z, hz, hzp, he⟩ | h0
        · obtain ⟨i, hi, rfl⟩ := List.getElem_of_mem hc
          simp at hi
          have hr := (h.wf.revs i (by omega)).1
          simp only [List.getElem_take] at he
          rw [he]; simp only; omega
        · cases h0
      rw [confl_old (y := y) (by simpa using hf) hyr]

/-- A base among those that there are. -/
def baseZ (b : Int) (n : Int) : Int := ((b.tmod (n + 1)) + n + 1).tmod (n + 1)

theorem baseZ_le {b n : Int} (hn : 0 ≤ n) : 0 ≤ baseZ b n ∧ baseZ b n ≤ n := by
  unfold baseZ
  have h1 : -(n + 1) < b.tmod (n + 1) := by
    rcases Int.le_total 0 b with h | h
    · have := Int.tmod_nonneg (n + 1) h; omega
    · have h2 := Int.tmod_lt_of_pos (-b) (b := n + 1) (by omega)
      rw [Int.neg_tmod] at h2
      omega
  have h3 : 0 ≤ (b.tmod (n + 1)) + n + 1 := by omega
  have h4 := Int.tmod_nonneg (n + 1) h3
  have h5 := Int.tmod_lt_of_pos ((b.tmod (n + 1)) + n + 1) (b := n + 1) (by omega)
  omega

theorem tmod_range (b : Int) {k : Int} (hk : 0 < k) : -k < b.tmod k ∧ b.tmod k < k := by
  have h5 := Int.tmod_lt_of_pos b hk
  refine ⟨?_, h5⟩
  rcases Int.le_total 0 b with h | h
  · have := Int.tmod_nonneg k h; omega
  · have h2 := Int.tmod_lt_of_pos (-b) hk
    rw [Int.neg_tmod] at h2
    omega

theorem cell_lt {w : World} {b o : Nat} {v : Value} (h : w.cell? ⟨b, o, none⟩ = some v) : b < w.heap.size := by
  unfold World.cell? at h
  by_cases hlt : b < w.heap.size
  · exact hlt
  · rw [show w.heap[(⟨b, o, none⟩ : Addr).block]? = none from Array.getElem?_eq_none (by show w.heap.size ≤ b; omega)] at h; simp at h

theorem deed_one (w : World) (bo : Option Addr) (m d : Nat) (L : List Ch) (hL : SlC w bo m d L) (hz : bo = none → d = 0) :
    SlD (w.alloc (.cells #[.int .i64 0, .string ⟨#[]⟩, .slice bo m d] 34)) (some ⟨w.heap.size, 0, none⟩) 1 1 [⟨0, [], bo, m, d, L⟩] := by
  have h := heap_alloc_new w (.cells #[.int .i64 0, .string ⟨#[]⟩, .slice bo m d] 34)
  refine ⟨rfl, Nat.le_refl _, by decide, fun i hi => ⟨w.heap.size, 0, rfl, ?_⟩⟩
  have : i = 0 := by simpa using hi
  subst this
  obtain ⟨c0, c1, c2⟩ := cells3 h
  exact ⟨c0, c1, c2, hL.kept ((Kept.refl [] w).alloc _) (by simp), hz⟩

theorem land_conV {G : Gr} {L : List Ch} {b : Nat} (hC : CheckOK L) (hb : b ≤ G.cs.length) : landV G (b : Int) [] L = conV G.cs.length (confl G.ls (b : Int) (sortC L)) := by
  have h1 : badB (b : Int) [] L = false := by simp [badB, errC_zero.2 hC]
  unfold landV
  rw [endV_conf h1 (by omega)]
  cases confl G.ls (b : Int) (sortC L) <;> rfl

/-- Where the verdict that is wanted lies, and what it is. -/
def WanI (wA : World) (v : Vd) (wr : World) : Prop := Kept [] wA wr ∧ wr.heap[wA.heap.size]? = some (.cells (vdA v (.slice none 0 0)) 30 (0, 0))

theorem drew2_at {w : World} {k : Nat} {o : Option Obj} (h : w.heap[k]? = o) : w.drew.drew.heap[k]? = o := h

theorem wan_set {wA w : World} {v0 : Vd} (h : WanI wA v0 w) (r : Int) (p : List UInt8) : Hid (WanI wA ⟨3, r, p, 0⟩ (set7w w wA.heap.size (.int .i64 3) (.int .i64 0) (.int .i64 r) (.string (str p)) (.int .u64 0) (.slice none 0 0) (.int .i64 0)).drew.drew) := by
  obtain ⟨h1, h2⟩ := h
  unfold vdA at h2
  exact ⟨(set7_kept h1 (.inr (Nat.le_refl _)) _ _ _ _ _ _ _).drew.drew, drew2_at (set7 h2 _ _ _ _ _ _ _)⟩

def CoI (wA : World) (G : Gr) (b : Nat) (s : List Ch) (iv : Value) (wr : World) : Prop :=
  ∃ i : Nat, iv = .int .i64 ((i : Int) - 1) ∧ i ≤ s.length ∧ Hid (WanI wA (conV G.cs.length (confl G.ls (b : Int) (s.drop i))) wr)

def CoK (wA : World) (cs : List Com) (b : Nat) (p : List UInt8) (v : Vd) (kv : Value) (wr : World) : Prop :=
  ∃ k : Nat, kv = .int .i64 ((b + k : Nat) : Int) ∧ b + k ≤ cs.length ∧ Hid (WanI wA (scanV p (lastC p ((cs.drop b).take k)) v) wr)

def CoJ (wA : World) (r : Int) (l : List Ch) (p : List UInt8) (o : Option Lf) (v : Vd) (jv : Value) (wr : World) : Prop :=
  ∃ j : Nat, jv = .int .i64 (j : Int) ∧ j ≤ l.length ∧ Hid (WanI wA (scanV p (lastIn p r o (l.take j)) v) wr)

set_option linter.unusedSimpArgs false in
set_option maxHeartbeats 16000000 in
set_option maxRecDepth 100000 in
theorem confl_walk (w : World) (ao : Option Addr) (n c : Nat) (D : List De) (hS : SlD w ao n c D) (base : Int) (bo : Option Addr) (m d : Nat) (L : List Ch) (hL : SlC w bo m d L) (hz : bo = none → d = 0) :
    Calls Try.prog 4 #[.slice ao n c, .int .i64 base, .slice bo m d] w fun e w' => e = .returned (.bool true) ∧ Kept [] w w' := by
  have hl := hS.1
  subst hl
  have hc := hS.2.1
  have hm := hS.2.2.1
  unfold maxLen at hm
  have cR := fun W (hk : Kept [] w W) => room_callD W ao D.length c D (hS.kept hk)
  have cR2 := fun W (hk : Kept [] w W) => room_callD _ _ _ _ _ (deed_one W bo m d L (hL.kept hk (by simp)) hz)
  have HS : Hid (SlD w ao D.length c D) := hS
  have HL : Hid (SlC w bo m d L) := hL
  clear hS
  cases hroom : roomD D with
  | false =>
    rw [hroom] at cR
    clear hroom hL cR2
    go_enter Try.func4, Try.ntmps4
    go_wp2_with fail
    refine (awake_callG w).mono ?_
    rintro _ w1 ⟨rfl, hK1⟩
    go_wp2_with fail
    refine (cR w1 hK1).mono ?_
    rintro _ W ⟨rfl, hW0⟩
    obtain rfl := hW0.symm
    go_wp2_with fail
    go_ret
    exact ⟨rfl, hK1⟩
  | true =>
    have HR : Hid (RoomD D) := roomD_true.1 hroom
    rw [hroom] at cR
    clear hroom
    have hD100 : D.length ≤ 100 := HR.out.1
    cases hroom2 : roomD [⟨0, [], bo, m, d, L⟩] with
    | false =>
      rw [hroom2] at cR2
      clear hroom2 hL
      go_enter Try.func4, Try.ntmps4
      go_wp2_with fail
      refine (awake_callG w).mono ?_
      rintro _ w1 ⟨rfl, hK1⟩
      go_wp2_with fail
      refine (cR w1 hK1).mono ?_
      rintro _ W ⟨rfl, hW0⟩
      obtain rfl := hW0.symm
      go_wp2_with fail
      refine (cR2 w1 hK1).mono ?_
      rintro _ W ⟨rfl, hW0⟩
      obtain rfl := hW0.symm
      go_wp2_with fail
      go_ret
      exact ⟨rfl, hK1.alloc _⟩
    | true =>
      have hsm := (roomD_true.1 hroom2).2 _ (List.mem_singleton.2 rfl)
      have HSm : Hid (SmallD ⟨0, [], bo, m, d, L⟩) := hsm
      rw [hroom2] at cR2
      have cK := fun W (hk : Kept [] w W) => rcheck_call W bo m d L (hL.kept hk (by simp)) (fun x hx => by have := hsm.2.2 x hx; omega)
      have hez : errC L = 0 ∨ errC L = 1 := by
        by_cases h : CheckOK L
        · exact .inl (errC_ok h)
        · exact .inr (errC_bad h)
      clear hroom2 hsm hL
      rcases hez with hez | hez
      · rw [hez] at cK
        have HC : Hid (CheckOK L) := errC_zero.1 hez
        clear hez
        go_enter Try.func4, Try.ntmps4
        go_wp2_with fail
        refine (awake_callG w).mono ?_
        rintro _ w1 ⟨rfl, hK1⟩
        go_wp2_with fail
        refine (cR w1 hK1).mono ?_
        rintro _ W ⟨rfl, hW0⟩
        obtain rfl := hW0.symm
        go_wp2_with fail
        refine (cR2 w1 hK1).mono ?_
        rintro _ W ⟨rfl, hW0⟩
        obtain rfl := hW0.symm
        go_wp2_with fail
        refine (cK _ (hK1.alloc _)).mono ?_
        rintro _ w1b ⟨rfl, hK1b⟩
        replace hK1b := (hK1.alloc _).trans hK1b (by simp)
        go_wp2_with fail
        refine (live_new w1b).mono ?_
        rintro _ w2 ⟨b, rfl, hG2⟩
        have HD : Hid (SlD w1b ao D.length c D) := HS.out.kept hK1b
        have HL1 : Hid (SlC w1b bo m d L) := HL.out.kept hK1b (by simp)
        have HK1 : Hid (Kept [] w w1b) := hK1b
        have HG2 : Hid (Live w1b w2 b voidG) := hG2
        clear cR cR2 cK hK1 hK1b hG2 HS HL
        go_wp2_with fail
        go_loopw [8] (fun iv wr => LdI w1b b D iv wr) (fun iv _ => D.length - (intOf iv).toNat)
        case atStart => exact ⟨0, rfl, Nat.zero_le _, HG2.out⟩
        case round =>
          obtain ⟨i, rfl, hi, HLv⟩ := hrel
          by_cases hlt : i < D.length
          · have hlt' : (i : Int) < D.length := by omega
            have hic : i ≤ c := by omega
            obtain ⟨g, o, rfl, hx⟩ := HD.out.2.2.2 i hlt
            have hxr := hx.kept HLv.out.keeps
            have cL := fun W (hk : Kept [] wr W) => live_landD (HLv.out.kept hk) hlt HR.out (hxr.sl.kept hk (by simp)) hxr.nil
            obtain ⟨k0, k1, k2, _, _⟩ := hx
            obtain ⟨c0, c1, c2, _, _⟩ := hxr
            generalize D[i] = x at *
            go_wp2_with fail
            go_region_held3 (fun w' => w'.cell? ⟨g, o + i * 3, none⟩ = some (.int .i64 x.b) ∧ w'.cell? ⟨g, o + i * 3 + 1, none⟩ = some (.string (str x.n)) ∧ w'.cell? ⟨g, o + i * 3 + 2, none⟩ = some (.slice x.mo x.m x.mc))
              (first | go_keep | exact ⟨hL3.keeps.cell k0 (by simp), hL3.keeps.cell k1 (by simp), hL3.keeps.cell k2 (by simp)⟩)
              (first
                | (go_at_call 8; refine (cL _ ?_).mono ?_; exact (Kept.refl [] _).drew; rintro e w3 ⟨rfl, hL3, hO3⟩))
            go_wp2_with fail
            go_roundw
            case rel => exact ⟨i + 1, by go_num, by omega, hL3⟩
            case measure => (simp [intOf] <;> omega)
          · have hlt' : ¬ (i : Int) < D.length := by omega
            have HLe : Hid (Live w1b wr b (landAll D)) := by have := HLv.out; rw [List.take_of_length_le (by omega)] at this; exact this
            clear HLv
            have hRe := landAll_reach D
            have hle := landAll_len D
            have HRe : Hid (Reach (landAll D)) := hRe
            generalize landAll D = G at *
            have cH := fun W (hk : Kept [] wr W) => live_head (HLe.out.kept hk)
            have hl100 : (G.cs.length : Int) ≤ 100 := by omega
            have hl0 : (0 : Int) ≤ G.cs.length := by omega
            obtain ⟨len, hlen⟩ : ∃ len : Int, len = (G.cs.length : Int) := ⟨_, rfl⟩
            rw [← hlen] at cH hl100 hl0
            have HLen : Hid (len = (G.cs.length : Int)) := hlen
            have hnz : ¬ len + 1 = 0 := by omega
            clear hRe hle hlen
            have hb1 : -(len + 1) < base.tmod (len + 1) ∧ base.tmod (len + 1) < len + 1 := tmod_range base (by omega)
            have hbz := baseZ_le (b := base) hl0
            have q1 : IntKind.i64.wrap (len + 1) = len + 1 := IntWalk.i64_in _ (by omega)
            have q2 : IntKind.i64.wrap (base.tmod (len + 1)) = base.tmod (len + 1) := IntWalk.i64_in _ (by omega)
            have q3 : IntKind.i64.wrap (base.tmod (len + 1) + len) = base.tmod (len + 1) + len := IntWalk.i64_in _ (by omega)
            have q4 : IntKind.i64.wrap (base.tmod (len + 1) + len + 1) = base.tmod (len + 1) + len + 1 := IntWalk.i64_in _ (by omega)
            have q5 : IntKind.i64.wrap ((base.tmod (len + 1) + len + 1).tmod (len + 1)) = baseZ base len := IntWalk.i64_in _ (by unfold baseZ at hbz; omega)
            clear hb1
            go_wp2_with fail
            go_quiet ((go_at_call 11; exact quiet_n (cH _ (drewN_kept _ _))))
            obtain ⟨bz, hbzn⟩ : ∃ bz : Nat, (base.tmod (len + 1) + len + 1).tmod (len + 1) = (bz : Int) := ⟨(baseZ base len).toNat, by rw [Int.toNat_of_nonneg hbz.1]; rfl⟩
            have hbl : bz ≤ G.cs.length := by have := hbz.2; unfold baseZ at this; rw [hbzn, HLen.out] at this; omega
            have HB : Hid (bz ≤ G.cs.length) := hbl
            rw [hbzn]
            have HLq : Hid (Live w1b (wr.drewN nq) b G) := HLe.out.kept (drewN_kept _ _)
            clear hbzn hbz q1 q2 q3 q4 q5 hnz HLe cH hbl
            obtain ⟨W3, hW3⟩ : ∃ W3, W3 = wr.drewN nq := ⟨_, rfl⟩
            rw [← hW3] at HLq ⊢
            clear hW3
            have hgl : G.cs.length ≤ 100 := by have := HLen.out; omega
            have cC := live_commits HLq.out HRe.out.wf (by omega)
            have cT := fun W (hk : Kept [] W3 W) => rsorted_call W bo m d L ((HL1.out.kept HLq.out.keeps (by simp)).kept hk (by simp)) (by have h1 := HL1.out.1; have := HSm.out.2.1; simp only at this; omega) (fun x hx => by have := HSm.out.2.2 x hx; omega)
            have cH := fun W (hk : Kept [] W3 W) => live_head (HLq.out.kept hk)
            rw [← HLen.out] at cH
            go_wp2_with fail
            refine cC.mono ?_
            rintro _ w4 ⟨v4, K4, rfl, hc4, hR4, hO4, hK4⟩
            obtain ⟨ao4, cp4, rfl, hS4, _⟩ := hR4.sl hO4
            go_wp2_with fail
            refine (cT w4 hK4).mono ?_
            rintro _ w5 ⟨v5, rfl, hO5, hK5⟩
            obtain ⟨ao5, n5, cp5, rfl, hS5, _⟩ := hO5.chV
            go_wp2_with fail
            refine (cH w5 (hK4.trans hK5 (by simp))).mono ?_
            rintro _ W ⟨rfl, hW0⟩
            obtain rfl := hW0.symm
            have hkl : K4.length = G.cs.length := by rw [← hc4]; simp
            have HKl : Hid (K4.length = G.cs.length) := hkl
            have HS4 : Hid (SlK w5 ao4 K4.length cp4 K4) := hS4.kept hK5
            have HC4 : Hid (K4.map Prod.fst = G.cs) := hc4
            have HS5 : Hid (SlC w5 ao5 n5 cp5 (sortC L)) := hS5
            have hn5 := hS5.1
            have hc5 := hS5.2.1
            have hm5 := hS5.2.2.1
            have hc4b := hS4.2.1
            have hm4b := hS4.2.2.1
            unfold maxLen at hm5 hm4b
            have HN5 : Hid ((sortC L).length = n5) := hn5
            have hs16 : n5 ≤ 16 := by have := (sortC_check.2 HC.out).2.1; omega
            have HLv5 : Hid (Live w1b w5 b G) := (HLq.out.kept hK4).kept hK5
            have HKw : Hid (Kept [] w w5) := HK1.out.trans HLv5.out.keeps (by simp)
            rw [hkl] at hc4b
            obtain ⟨kn, hkn⟩ : ∃ kn : Nat, kn = K4.length := ⟨_, rfl⟩
            have HKn : Hid (kn = K4.length) := hkn
            rw [← hkn] at HS4 ⊢
            have hkg : kn = G.cs.length := hkn.trans hkl
            have HKg : Hid (kn = G.cs.length) := hkg
            rw [← hkg] at hc4b
            have hk100 : (kn : Int) ≤ 100 := by omega
            have hbk : bz ≤ kn := by have := HB.out; omega
            have hlenk : len = (kn : Int) := by rw [HLen.out, hkg]
            subst hlenk
            have hW6 : WanI w5 (conV G.cs.length (confl G.ls (bz : Int) ((sortC L).drop n5))) (w5.alloc (.cells #[.int .i64 2, .int .i64 0, .int .i64 ((kn : Int) + 1), .string ⟨#[]⟩, .int .u64 0, .slice none 0 0, .int .i64 0] 30)) := by
              refine ⟨(Kept.refl [] w5).alloc _, ?_⟩
              rw [List.drop_eq_nil_of_le (by omega), heap_alloc_new]
              simp only [confl, conV, vdA, hkg]
              rfl
            have HW6 : Hid (WanI w5 (conV G.cs.length (confl G.ls (bz : Int) ((sortC L).drop n5))) (w5.alloc (.cells #[.int .i64 2, .int .i64 0, .int .i64 ((kn : Int) + 1), .string ⟨#[]⟩, .int .u64 0, .slice none 0 0, .int .i64 0] 30))) := hW6
            clear hW6 hkn hkl hkg hS4 hS5 hO4 hO5 hR4 hK4 hK5 hc4 cC cT cH hn5 HLq hgl
            go_wp2_with fail
            go_loopw [12] (fun iv wr => CoI w5 G bz (sortC L) iv wr) (fun iv _ => ((intOf iv) + 1).toNat)
            case atStart => exact ⟨n5, by go_num, by have := HN5.out; omega, HW6⟩
            case round =>
              obtain ⟨i1, rfl, hi1, HW⟩ := hrel
              by_cases hi0 : i1 = 0
              · subst hi0
                have HE : Hid (landV G (bz : Int) [] L = conV G.cs.length (confl G.ls (bz : Int) (sortC L))) := land_conV HC.out HB.out
                have hwb : wr.heap[w5.heap.size]? = some (.cells (vdA (conV G.cs.length (confl G.ls (bz : Int) (sortC L))) (.slice none 0 0)) 30 (0, 0)) := HW.out.2
                have cL := fun W (hk : Kept [] wr W) => live_land ((HLv5.out.kept HW.out.1).kept hk) HRe.out.wf (by have := HKg.out; omega) (bz : Int) [] (by simp) bo m d L ((((HL1.out.kept HLv5.out.keeps (by simp)).kept HW.out.1 (by simp)).kept hk (by simp))) hz (by have h1 := HL1.out.1; have := HSm.out.2.1; simp only at this; omega) (fun x hx => by have := HSm.out.2.2 x hx; omega)
                rw [HE.out] at cL
                have HKe : Hid (Kept [] w wr) := HKw.out.trans HW.out.1 (by simp)
                generalize conV G.cs.length (confl G.ls (bz : Int) (sortC L)) = vv at *
                unfold vdA at hwb
                have cA := fun W => alike_plain W vv
                simp only [vdV, vdW] at cL cA
                obtain ⟨r0, r1, r2, r3, r4, r5, r6⟩ := cells7 hwb
                go_wp2_with fail
                go_region_held3 (fun w' => w'.cell? ⟨w5.heap.size, 0, none⟩ = some (.int .i64 vv.c) ∧ w'.cell? ⟨w5.heap.size, 1, none⟩ = some (.int .i64 0) ∧ w'.cell? ⟨w5.heap.size, 2, none⟩ = some (.int .i64 vv.r) ∧ w'.cell? ⟨w5.heap.size, 3, none⟩ = some (.string (str vv.p)) ∧ w'.cell? ⟨w5.heap.size, 4, none⟩ = some (.int .u64 vv.d) ∧ w'.cell? ⟨w5.heap.size, 5, none⟩ = some (.slice none 0 0) ∧ w'.cell? ⟨w5.heap.size, 6, none⟩ = some (.int .i64 0))
                  (first | go_keep | exact cells7 h8 | exact cells7 (hK9.at h8 (by simp)))
                  (first
                    | (go_at_call 8; refine (cL _ ?_).mono ?_; exact (Kept.refl [] _).drew; rintro e w8 ⟨rfl, hL8, hO8⟩; have h8 := hO8 _ _ _ hwb (by decide) (by decide))
                    | (go_at_call 15; refine (cA _).mono ?_; rintro e w9 ⟨rfl, hK9⟩))
                go_wp2_with fail
                go_ret
                exact ⟨rfl, (HK1.out.trans hL8.keeps (by simp)).trans hK9 (by simp)⟩
              · obtain ⟨i, rfl⟩ : ∃ i, i1 = i + 1 := ⟨i1 - 1, by omega⟩
                have hii : ((i + 1 : Nat) : Int) - 1 = (i : Int) := by omega
                rw [hii]
                have hi5 : i < n5 := by have := HN5.out; omega
                have hi5' : (i : Int) < n5 := by omega
                have hic : i ≤ cp5 := by omega
                have his : i < (sortC L).length := by have := HN5.out; omega
                obtain ⟨g5, o5, rfl, hx5⟩ := HS5.out.2.2.2 i his
                have HX : Hid ((sortC L).drop i = (sortC L)[i] :: (sortC L).drop (i + 1)) := List.drop_eq_getElem_cons his
                obtain ⟨x, hxe⟩ : ∃ x, x = (sortC L)[i] := ⟨_, rfl⟩
                rw [← hxe] at hx5 HX
                have HX5 : Hid (w5.cell? ⟨g5, o5 + i * 3, none⟩ = some (.string (str x.p))) := hx5.c0
                have HSt : Hid (scanV x.p (lastC x.p (G.cs.drop bz)) (conV G.cs.length (confl G.ls (bz : Int) ((sortC L).drop (i + 1)))) = conV G.cs.length (confl G.ls (bz : Int) ((sortC L).drop i))) := by
                  show scanV _ _ _ = _
                  rw [scan_step HRe.out, HX.out]
                obtain ⟨v0, hv0⟩ : ∃ v0, v0 = conV G.cs.length (confl G.ls (bz : Int) ((sortC L).drop (i + 1))) := ⟨_, rfl⟩
                rw [← hv0] at HSt HW
                clear hx5 hxe hv0 hi0 hii
                go_wp2_with fail
                go_loopw [13] (fun kv wr => CoK w5 G.cs bz x.p v0 kv wr) (fun kv _ => kn - (intOf kv).toNat)
                case atStart => exact ⟨0, rfl, by have := HB.out; omega, HW⟩
                case round =>
                  obtain ⟨k, rfl, hk, HWk⟩ := hrel
                  by_cases hlk : bz + k < kn
                  · have hlk' : ((bz + k : Nat) : Int) < kn := by omega
                    have hkc : bz + k ≤ cp4 := by omega
                    have hkk : bz + k < K4.length := by rw [← HKn.out]; exact hlk
                    have hkg : bz + k < G.cs.length := by rw [← HKg.out]; exact hlk
                    have HCk : Hid (K4[bz + k].1 = G.cs[bz + k]) := by
                      show K4[bz + k].1 = G.cs[bz + k]
                      have h1 : (K4.map Prod.fst)[bz + k]'(by simpa using hkk) = G.cs[bz + k] := by simp only [HC4.out]
                      simpa using h1
                    obtain ⟨g4, o4, mo, mm, mc, rfl, h40, _, _, h43, hsl⟩ := HS4.out.at hkk
                    rw [HCk.out] at h40 hsl
                    have HNk : Hid (lastC x.p ((G.cs.drop bz).take (k + 1)) = lastIn x.p G.cs[bz + k].r (lastC x.p ((G.cs.drop bz).take k)) G.cs[bz + k].c) := by
                      have h := lastC_take (p := x.p) (cs := G.cs.drop bz) (k := k) (by simp; omega)
                      simp only [List.getElem_drop] at h
                      exact h
                    obtain ⟨ck, hck⟩ : ∃ ck, ck = G.cs[bz + k] := ⟨_, rfl⟩
                    rw [← hck] at h40 hsl HNk
                    obtain ⟨oo, hoo⟩ : ∃ oo, oo = lastC x.p ((G.cs.drop bz).take k) := ⟨_, rfl⟩
                    rw [← hoo] at HNk HWk
                    have HSl : Hid (SlC w5 mo mm mc ck.c) := hsl
                    have hml := hsl.1
                    have hmc := hsl.2.1
                    have hmm := hsl.2.2.1
                    unfold maxLen at hmm
                    have HML : Hid (ck.c.length = mm) := hml
                    have H43 : Hid (w5.cell? ⟨g4, o4 + (bz + k) * 4 + 3, none⟩ = some (.slice mo mm mc)) := h43
                    have H40 : Hid (w5.cell? ⟨g4, o4 + (bz + k) * 4, none⟩ = some (.int .i64 ck.r)) := h40
                    obtain ⟨kk, hkke⟩ : ∃ kk, kk = bz + k := ⟨_, rfl⟩
                    rw [← hkke] at H43 H40 hlk' hkc ⊢
                    have HKK : Hid (kk = bz + k) := hkke
                    clear hsl HCk hck hoo h40 h43 hml hkg hkke
                    go_wp2_with fail
                    go_loopw [14] (fun jv wr => CoJ w5 ck.r ck.c x.p oo v0 jv wr) (fun jv _ => mm - (intOf jv).toNat)
                    case atStart => exact ⟨0, rfl, Nat.zero_le _, HWk⟩
                    case round =>
                      obtain ⟨j, rfl, hj, HWj⟩ := hrel
                      have e43 := HWj.out.1.cell H43.out (by simp)
                      have e40 := HWj.out.1.cell H40.out (by simp)
                      have hg4 := cell_lt H40.out
                      have hg5 := cell_lt HX5.out
                      have hn4 : ¬ g4 = w5.heap.size := by omega
                      have hn5b : ¬ g5 = w5.heap.size := by omega
                      have hn4' : ¬ w5.heap.size = g4 := by omega
                      have hn5' : ¬ w5.heap.size = g5 := by omega
                      have e50 := HWj.out.1.cell HX5.out (by simp)
                      by_cases hlj : j < mm
                      · have hlj' : (j : Int) < mm := by omega
                        have hjc : j ≤ mc := by omega
                        have hjl : j < ck.c.length := by rw [HML.out]; exact hlj
                        obtain ⟨g8, o8, rfl, hz8⟩ := (HSl.out.kept HWj.out.1 (by simp)).2.2.2 j hjl
                        have HT : Hid (lastIn x.p ck.r oo (ck.c.take (j + 1)) = if ck.c[j].p = x.p then some ⟨ck.c[j].p, ck.c[j].d, ck.r, ck.c[j].g⟩ else lastIn x.p ck.r oo (ck.c.take j)) := lastIn_take hjl
                        obtain ⟨z, hze⟩ : ∃ z, z = ck.c[j] := ⟨_, rfl⟩
                        rw [← hze] at hz8 HT
                        have e80 := hz8.c0
                        clear hz8 hze
                        by_cases hzp : z.p = x.p
                        · have hpe : ((str z.p).toList == (str x.p).toList) = true := by rw [str_eqC]; simpa using hzp
                          have HT2 : Hid (scanV x.p (lastIn x.p ck.r oo (ck.c.take (j + 1))) v0 = ⟨3, ck.r, x.p, 0⟩) := by show scanV _ _ _ = _; rw [HT.out, if_pos hzp]; rfl
                          have hwb := HWj.out.2
                          unfold vdA at hwb
                          obtain ⟨r0, r1, r2, r3, r4, r5, r6⟩ := cells7 hwb
                          have f0 := frozen_in hwb 0
                          have f1 := frozen_in hwb 1
                          have f2 := frozen_in hwb 2
                          have f3 := frozen_in hwb 3
                          have f4 := frozen_in hwb 4
                          have f5 := frozen_in hwb 5
                          have f6 := frozen_in hwb 6
                          have HNx := wan_set HWj.out ck.r x.p
                          generalize scanV x.p (lastIn x.p ck.r oo (ck.c.take j)) v0 = vj at *
                          clear hzp hwb
                          go_wp2_with fail
                          go_region_held3 (fun w' => w'.cell? ⟨g4, o4 + kk * 4 + 3, none⟩ = some (.slice (some ⟨g8, o8, none⟩) mm mc) ∧ w'.cell? ⟨g8, o8 + j * 3, none⟩ = some (.string (str z.p)) ∧ w'.cell? ⟨g5, o5 + i * 3, none⟩ = some (.string (str x.p))) (go_keep) (fail)
                          go_wp2_with fail
                          refine wp_region_held_drew (S := fun w' => w'.cell? ⟨g5, o5 + i * 3, none⟩ = some (.string (str x.p)) ∧ w'.cell? ⟨g4, o4 + kk * 4, none⟩ = some (.int .i64 ck.r)) (by kernel_rfl) ⟨e50, e40⟩ (fun hHeld => ?_)
                          refine wpAnyH_take (i := 0) (v := ?_) rfl (by kernel_rfl) (by kernel_rfl) (by kernel_rfl) (fun _ _ _ h => h) (Or.inl ⟨by rfl, ?_⟩) hHeld ?_
                          rotate_left
                          · intro w9 hSw; (try dsimp only at hSw); go_simp; (try with_reducible rfl)
                          try simp only [Act.put, List.setIfInBounds_toArray, List.set_cons_zero, List.set_cons_succ]
                          refine wpAnyH_take (i := 1) (v := ?_) rfl (by kernel_rfl) (by kernel_rfl) (by kernel_rfl) (fun _ _ _ h => h) (Or.inl ⟨by rfl, ?_⟩) hHeld ?_
                          rotate_left
                          · intro w9 hSw; (try dsimp only at hSw); go_simp; (try with_reducible rfl)
                          try simp only [Act.put, List.setIfInBounds_toArray, List.set_cons_zero, List.set_cons_succ]
                          refine wpAnyH_take (i := 2) (v := ?_) rfl (by kernel_rfl) (by kernel_rfl) (by kernel_rfl) (fun _ _ _ h => h) (Or.inl ⟨by rfl, ?_⟩) hHeld ?_
                          rotate_left
                          · intro w9 hSw; (try dsimp only at hSw); go_simp; (try with_reducible rfl)
                          try simp only [Act.put, List.setIfInBounds_toArray, List.set_cons_zero, List.set_cons_succ]
                          refine wpAnyH_take (i := 3) (v := ?_) rfl (by kernel_rfl) (by kernel_rfl) (by kernel_rfl) (fun _ _ _ h => h) (Or.inl ⟨by rfl, ?_⟩) hHeld ?_
                          rotate_left
                          · intro w9 hSw; (try dsimp only at hSw); go_simp; (try with_reducible rfl)
                          try simp only [Act.put, List.setIfInBounds_toArray, List.set_cons_zero, List.set_cons_succ]
                          refine wpAnyH_take (i := 4) (v := ?_) rfl (by kernel_rfl) (by kernel_rfl) (by kernel_rfl) (fun _ _ _ h => h) (Or.inl ⟨by rfl, ?_⟩) hHeld ?_
                          rotate_left
                          · intro w9 hSw; (try dsimp only at hSw); go_simp; (try with_reducible rfl)
                          try simp only [Act.put, List.setIfInBounds_toArray, List.set_cons_zero, List.set_cons_succ]
                          refine wpAnyH_take (i := 5) (v := ?_) rfl (by kernel_rfl) (by kernel_rfl) (by kernel_rfl) (fun _ _ _ h => h) (Or.inl ⟨by rfl, ?_⟩) hHeld ?_
                          rotate_left
                          · intro w9 hSw; (try dsimp only at hSw); go_simp; (try with_reducible rfl)
                          try simp only [Act.put, List.setIfInBounds_toArray, List.set_cons_zero, List.set_cons_succ]
                          refine wpAnyH_take (i := 6) (v := ?_) rfl (by kernel_rfl) (by kernel_rfl) (by kernel_rfl) (fun _ _ _ h => h) (Or.inl ⟨by rfl, ?_⟩) hHeld ?_
                          rotate_left
                          · intro w9 hSw; (try dsimp only at hSw); go_simp; (try with_reducible rfl)
                          try simp only [Act.put, List.setIfInBounds_toArray, List.set_cons_zero, List.set_cons_succ]
                          refine wpAnyH_take (i := 7) (v := ?_) rfl (by kernel_rfl) (by kernel_rfl) (by kernel_rfl) (fun _ _ _ h => h) (Or.inl ⟨by rfl, ?_⟩) hHeld ?_
                          rotate_left
                          · intro w9 hSw; (try dsimp only at hSw); go_simp; (try with_reducible rfl)
                          try simp only [Act.put, List.setIfInBounds_toArray, List.set_cons_zero, List.set_cons_succ]
                          refine wpAnyH_take (i := 8) (v := ?_) rfl (by kernel_rfl) (by kernel_rfl) (by kernel_rfl) (fun _ _ _ h => h) (Or.inl ⟨by rfl, ?_⟩) hHeld ?_
                          rotate_left
                          · intro w9 hSw; (try dsimp only at hSw); go_simp; (try with_reducible rfl)
                          try simp only [Act.put, List.setIfInBounds_toArray, List.set_cons_zero, List.set_cons_succ]
                          refine wpAnyH_take (i := 9) (v := ?_) rfl (by kernel_rfl) (by kernel_rfl) (by kernel_rfl) (fun _ _ _ h => h) (Or.inl ⟨by rfl, ?_⟩) hHeld ?_
                          rotate_left
                          · intro w9 hSw; (try dsimp only at hSw); go_simp; (try with_reducible rfl)
                          try simp only [Act.put, List.setIfInBounds_toArray, List.set_cons_zero, List.set_cons_succ]
                          refine wpAnyH_take (i := 10) (v := ?_) rfl (by kernel_rfl) (by kernel_rfl) (by kernel_rfl) (fun _ _ _ h => h) (Or.inl ⟨by rfl, ?_⟩) hHeld ?_
                          rotate_left
                          · intro w9 hSw; (try dsimp only at hSw); go_simp; (try with_reducible rfl)
                          try simp only [Act.put, List.setIfInBounds_toArray, List.set_cons_zero, List.set_cons_succ]
                          refine wpAnyH_ready (rs := [11]) (by kernel_rfl) (by simp) (AllReadyH.cons rfl (fun K0 hK0 => ?_) AllReadyH.nil)
                          go_simp
                          have hN1 := HNx.out.1
                          unfold set7w at hN1
                          have n50 := hN1.cell HX5.out (by simp)
                          have n40 := hN1.cell H40.out (by simp)
                          clear hN1
                          refine hK0.out _ _ ?_ (fun hHeld => ?_)
                          · exact And.intro n50 n40
                          clear n50 n40
                          refine wpAnyH_done (by kernel_rfl) ?_ _
                          all_goals go_wp2_with fail
                          all_goals go_roundw
                          all_goals first | exact ⟨j + 1, by go_num, by omega, by rw [HT2.out]; exact HNx.out⟩ | (simp [intOf] <;> omega)
                        · have hpe : ((str z.p).toList == (str x.p).toList) = false := by rw [str_eqC]; simpa using hzp
                          have HT2 : Hid (lastIn x.p ck.r oo (ck.c.take (j + 1)) = lastIn x.p ck.r oo (ck.c.take j)) := by show lastIn _ _ _ _ = _; rw [HT.out, if_neg hzp]
                          clear hzp
                          go_wp2_with fail
                          go_region_held3 (fun w' => w'.cell? ⟨g4, o4 + kk * 4 + 3, none⟩ = some (.slice (some ⟨g8, o8, none⟩) mm mc) ∧ w'.cell? ⟨g8, o8 + j * 3, none⟩ = some (.string (str z.p)) ∧ w'.cell? ⟨g5, o5 + i * 3, none⟩ = some (.string (str x.p))) (go_keep) (fail)
                          go_wp2_with fail
                          go_roundw
                          case rel => exact ⟨j + 1, by go_num, by omega, by rw [HT2.out]; exact ⟨HWj.out.1.drew, HWj.out.2⟩⟩
                          case measure => (simp [intOf] <;> omega)
                      · have hlj' : ¬ (j : Int) < mm := by omega
                        have HE9 : Hid (WanI w5 (scanV x.p (lastC x.p ((G.cs.drop bz).take (k + 1))) v0) wr) := by
                          have := HWj.out; rw [List.take_of_length_le (by rw [HML.out]; omega), ← HNk.out] at this; exact this
                        clear HWj
                        go_wp2_with fail
                        go_roundw
                        case rel => exact ⟨k + 1, by have h := HKK.out; simp; omega, by have := HKg.out; omega, HE9⟩
                        case measure => (simp [intOf] <;> omega)
                  · have hlk' : ¬ ((bz + k : Nat) : Int) < kn := by omega
                    have HE9 : Hid (WanI w5 (conV G.cs.length (confl G.ls (bz : Int) ((sortC L).drop i))) wr) := by
                      have := HWk.out; rw [List.take_of_length_le (by have := HKg.out; simp; omega), HSt.out] at this; exact this
                    clear HWk
                    go_wp2_with fail
                    go_roundw
                    case rel => exact ⟨i, by go_num, by omega, HE9⟩
                    case measure => (simp [intOf] <;> omega)
      · rw [hez] at cK
        clear hez
        go_enter Try.func4, Try.ntmps4
        go_wp2_with fail
        refine (awake_callG w).mono ?_
        rintro _ w1 ⟨rfl, hK1⟩
        go_wp2_with fail
        refine (cR w1 hK1).mono ?_
        rintro _ W ⟨rfl, hW0⟩
        obtain rfl := hW0.symm
        go_wp2_with fail
        refine (cR2 w1 hK1).mono ?_
        rintro _ W ⟨rfl, hW0⟩
        obtain rfl := hW0.symm
        go_wp2_with fail
        refine (cK _ (hK1.alloc _)).mono ?_
        rintro _ w2 ⟨rfl, hK2⟩
        go_wp2_with fail
        go_ret
        exact ⟨rfl, (hK1.alloc _).trans hK2 (by simp)⟩

end Go.Proofs.Ytfoghemiaidnhaa
