/-
  GraphLegal: the walk.
-/
import Derived.Test.YtfoghemiaidnhaaGrLoop
import Derived.Test.YtfoghemiaidnhaaGrLeaf
import Derived.Test.YtfoghemiaidnhaaGrLegF
import Derived.Test.YtfoghemiaidnhaaTrRow
import Derived.Deep.QuietTactic
import Derived.BigQuiet
namespace Go.Proofs.Ytfoghemiaidnhaa
open Go.RowKit

/-- The revision of a leaf; 0: there is none. -/
def rvO : Option Lf → Int
  | some y => y.r
  | none => 0

/-- The last revision behind so many commits, so many changes of the next one. -/
def lastV (p : List UInt8) (cs : List Com) (k : Nat) : Option Lf := lastC p (cs.take k)

theorem lastC_take {p : List UInt8} {cs : List Com} {k : Nat} (h : k < cs.length) : lastC p (cs.take (k + 1)) = lastIn p cs[k].r (lastC p (cs.take k)) cs[k].c := by
  rw [List.take_succ_eq_append_getElem h, lastC_snoc]

theorem lastIn_take {p : List UInt8} {r : Int} {o : Option Lf} {l : List Ch} {j : Nat} (h : j < l.length) : lastIn p r o (l.take (j + 1)) = if l[j].p = p then some ⟨l[j].p, l[j].d, r, l[j].g⟩ else lastIn p r o (l.take j) := by
  rw [List.take_succ_eq_append_getElem h]
  unfold lastIn
  rw [List.foldl_append]; rfl

/-- Who changed it last: one of the commits, by its only change of that path. -/
theorem lastC_from {p : List UInt8} {cs : List Com} {y : Lf} : ∀ (o : Option Lf), cs.foldl (fun o c => lastIn p c.r o c.c) o = some y → (∃ c ∈ cs, ∃ x ∈ c.c, x.p = p ∧ y = ⟨x.p, x.d, c.r, x.g⟩) ∨ o = some y := by
  induction cs with
  | nil => intro o h; exact .inr h
  | cons c cs ih =>
    intro o h
    rw [List.foldl_cons] at h
    rcases ih _ h with ⟨c', h1, h2⟩ | h1
    · exact .inl ⟨c', by simp [h1], h2⟩
    · rcases lastIn_rev h1 with ⟨h2, x, hx, hp, he⟩ | h2
      · exact .inl ⟨c, by simp, x, hx, hp, he⟩
      · exact .inr h2

/-- A change of the path of a leaf, in the commit of its revision, is the leaf's. -/
theorem leaf_of {G : Gr} (h : Reach G) {y : Lf} (hy : y ∈ G.ls) {k : Nat} (hk : k < G.cs.length) {x : Ch} (hx : x ∈ G.cs[k].c) (hp : x.p = y.p) (hr : G.cs[k].r = y.r) : x.d = y.d ∧ x.g = y.g := by
  have hf : findL y.p G.ls = some y := find_srt h.wf.srt hy
  rw [h.last] at hf
  rcases lastC_from none hf with ⟨c, hc, z, hz, hzp, he⟩ | h0
  · obtain ⟨i, hi, rfl⟩ := List.getElem_of_mem hc
    have h1 := (h.wf.revs i hi).1
    have h2 := (h.wf.revs k hk).1
    have h3 : G.cs[i].r = y.r := by rw [he]
    have hik : i = k := by omega
    subst hik
    have h4 : (G.cs[i].c.map Ch.p).Nodup := ((checkOK_iff _).1 (h.wf.com _ hc).1).2.2.2
    have h5 : x = z := nodup_one h4 hx hz (hp.trans (hzp.symm))
    subst h5
    rw [he]; exact ⟨rfl, rfl⟩
  · cases h0

def LeK (w : World) (p : List UInt8) (cs : List Com) (lv kv : Value) (wr : World) : Prop :=
  ∃ k : Nat, kv = .int .i64 (k : Int) ∧ k ≤ cs.length ∧ lv = .int .i64 (rvO (lastC p (cs.take k))) ∧ Hid (Kept [] w wr)

def LeJ (w : World) (p : List UInt8) (o : Option Lf) (r : Int) (l : List Ch) (lv jv : Value) (wr : World) : Prop :=
  ∃ j : Nat, jv = .int .i64 (j : Int) ∧ j ≤ l.length ∧ lv = .int .i64 (rvO (lastIn p r o (l.take j))) ∧ Hid (Kept [] w wr)

set_option maxHeartbeats 16000000 in
set_option maxRecDepth 100000 in
theorem legal_walk (w : World) (ao : Option Addr) (n c : Nat) (D : List De) (hS : SlD w ao n c D) :
    Calls Try.prog 3 #[.slice ao n c] w fun e w' => e = .returned (.bool true) ∧ Kept [] w w' := by
  have hl := hS.1
  subst hl
  have hc := hS.2.1
  have hm := hS.2.2.1
  unfold maxLen at hm
  have cR := fun W (hk : Kept [] w W) => room_callD W ao D.length c D (hS.kept hk)
  have HS : Hid (SlD w ao D.length c D) := hS
  clear hS
  cases hroom : roomD D with
  | false =>
    rw [hroom] at cR
    clear hroom
    go_enter Try.func3, Try.ntmps3
    go_wp2_with fail
    refine (awake_callG w).mono ?_
    rintro _ w1 ⟨rfl, hK1⟩
    go_wp2_with fail
    refine (cR w1 hK1).mono ?_
    rintro _ W ⟨rfl, hW0⟩
    obtain rfl := hW0.symm
    go_wp2_with fail
    go_ret
    exact ⟨rfl, hK1⟩
  | true =>
    have HR : Hid (RoomD D) := roomD_true.1 hroom
    rw [hroom] at cR
    clear hroom
    have hD100 : D.length ≤ 100 := HR.out.1
    go_enter Try.func3, Try.ntmps3
    go_wp2_with fail
    refine (awake_callG w).mono ?_
    rintro _ w1 ⟨rfl, hK1⟩
    go_wp2_with fail
    refine (cR w1 hK1).mono ?_
    rintro _ W ⟨rfl, hW0⟩
    obtain rfl := hW0.symm
    go_wp2_with fail
    refine (live_new w1).mono ?_
    rintro _ w2 ⟨b, rfl, hG2⟩
    have HD : Hid (SlD w1 ao D.length c D) := HS.out.kept hK1
    have HK1 : Hid (Kept [] w w1) := hK1
    have HG2 : Hid (Live w1 w2 b voidG) := hG2
    clear cR hK1 hG2 HS
    go_wp2_with fail
    go_loopw [4] (fun iv wr => LdI w1 b D iv wr) (fun iv _ => D.length - (intOf iv).toNat)
    case atStart => exact ⟨0, rfl, Nat.zero_le _, HG2.out⟩
    case round =>
      obtain ⟨i, rfl, hi, HL⟩ := hrel
      by_cases hlt : i < D.length
      · have hlt' : (i : Int) < D.length := by omega
        have hic : i ≤ c := by omega
        obtain ⟨g, o, rfl, hx⟩ := HD.out.2.2.2 i hlt
        have hxr := hx.kept HL.out.keeps
        have cL := fun W (hk : Kept [] wr W) => live_landD (HL.out.kept hk) hlt HR.out (hxr.sl.kept hk (by simp)) hxr.nil
        obtain ⟨k0, k1, k2, _, _⟩ := hx
        obtain ⟨c0, c1, c2, _, _⟩ := hxr
        generalize D[i] = x at *
        go_wp2_with fail
        go_region_held3 (fun w' => w'.cell? ⟨g, o + i * 3, none⟩ = some (.int .i64 x.b) ∧ w'.cell? ⟨g, o + i * 3 + 1, none⟩ = some (.string (str x.n)) ∧ w'.cell? ⟨g, o + i * 3 + 2, none⟩ = some (.slice x.mo x.m x.mc))
          (first | go_keep | exact ⟨hL3.keeps.cell k0 (by simp), hL3.keeps.cell k1 (by simp), hL3.keeps.cell k2 (by simp)⟩)
          (first
            | (go_at_call 8; refine (cL _ ?_).mono ?_; exact (Kept.refl [] _).drew; rintro e w3 ⟨rfl, hL3, hO3⟩))
        go_wp2_with fail
        go_roundw
        case rel => exact ⟨i + 1, by go_num, by omega, hL3⟩
        case measure => simp [intOf]; omega
      · have hlt' : ¬ (i : Int) < D.length := by omega
        have HLe : Hid (Live w1 wr b (landAll D)) := by have := HL.out; rw [List.take_of_length_le (by omega)] at this; exact this
        clear HL
        have hRe := landAll_reach D
        have hle := landAll_len D
        have HRe : Hid (Reach (landAll D)) := hRe
        have cC := live_commits HLe.out hRe.wf (by omega)
        generalize landAll D = G at *
        go_wp2_with fail
        refine cC.mono ?_
        rintro _ w3 ⟨v3, K3, rfl, hc3, hR3, hO3, hK3⟩
        obtain ⟨ao3, cp3, rfl, hS3, _⟩ := hR3.sl hO3
        have hkl : K3.length = G.cs.length := by rw [← hc3]; simp
        have cF := legal_call w3 ao3 K3.length cp3 K3 hS3 (by omega) (by rw [hc3]; exact HRe.out.legal)
        have cH := fun W (hk : Kept [] wr W) => live_head (HLe.out.kept hk)
        rw [← hkl] at cH
        have cV := fun W (hk : Kept [] wr W) => live_leaves (HLe.out.kept hk) (by have := HRe.out.wf.many; omega)
        have HS3 : Hid (SlK w3 ao3 K3.length cp3 K3) := hS3
        have HC3 : Hid (K3.map Prod.fst = G.cs) := hc3
        have hcc3 := hS3.2.1
        have hcm3 := hS3.2.2.1
        unfold maxLen at hcm3
        have hk100 : (K3.length : Int) ≤ 100 := by omega
        clear cC hc3 hS3 hO3 hR3 hkl hRe hle
        obtain ⟨kn, hkn⟩ : ∃ kn, kn = K3.length := ⟨_, rfl⟩
        have HKn : Hid (kn = K3.length) := hkn
        rw [← hkn] at cF cH hcc3 hk100 HS3 ⊢
        clear hkn
        go_wp2_with fail
        refine cF.mono ?_
        rintro _ w4 ⟨rfl, hK4⟩
        go_wp2_with fail
        refine (cH w4 (hK3.trans hK4 (by simp))).mono ?_
        rintro _ W ⟨rfl, hW0⟩
        obtain rfl := hW0.symm
        go_wp2_with fail
        refine (cV w4 (hK3.trans hK4 (by simp))).mono ?_
        rintro _ w5 ⟨v5, rfl, hO5, hK5⟩
        obtain ⟨ao5, cp5, rfl, hS5⟩ := hO5.sl
        have HS5 : Hid (SlL w5 ao5 G.ls.length cp5 G.ls) := hS5
        have hc5 := hS5.2.1
        have hm5 := hS5.2.2.1
        unfold maxLen at hm5
        have HKw : Hid (Kept [] w w5) := (((HK1.out.trans HLe.out.keeps (by simp)).trans hK3 (by simp)).trans hK4 (by simp)).trans hK5 (by simp)
        have HS35 : Hid (SlK w5 ao3 kn cp3 K3) := (HS3.out.kept hK4).kept hK5
        obtain ⟨ln, hln⟩ : ∃ ln, ln = G.ls.length := ⟨_, rfl⟩
        have HLn : Hid (ln = G.ls.length) := hln
        rw [← hln] at hc5 HS5 ⊢
        clear hS5 hO5 hK3 hK4 hK5 cF cH cV HS3 hln HLe
        go_wp2_with fail
        go_loopw [7] (fun iv wr => LgI w5 ln iv wr) (fun iv _ => ln - (intOf iv).toNat)
        case atStart => exact ⟨0, rfl, Nat.zero_le _, Kept.refl _ _⟩
        case round =>
          obtain ⟨i, rfl, hi, HK6⟩ := hrel
          by_cases hlt : i < ln
          · have hlt' : (i : Int) < ln := by omega
            have hic : i ≤ cp5 := by omega
            have hil : i < G.ls.length := by rw [← HLn.out]; exact hlt
            obtain ⟨g5, o5, rfl, hy⟩ := HS5.out.2.2.2 i hil
            obtain ⟨y, hye⟩ : ∃ y, y = G.ls[i] := ⟨_, rfl⟩
            rw [← hye] at hy
            have hym : y ∈ G.ls := by rw [hye]; exact List.getElem_mem hil
            have hyr := HRe.out.wf.rev y hym
            have hfy : findL y.p G.ls = some y := find_srt HRe.out.wf.srt hym
            have HFy : Hid (lastC y.p G.cs = some y) := by rw [← HRe.out.last]; exact hfy
            have HYm : Hid (y ∈ G.ls) := hym
            have hyb : ¬ y.r = 0 := by omega
            have HY5 : Hid (LfAt w5 g5 (o5 + i * 4) y) := hy
            obtain ⟨w6, hw6⟩ : ∃ w6, w6 = wr := ⟨_, rfl⟩
            subst hw6
            clear hye hfy hym hy
            go_wp2_with fail
            go_loopw [8, 9] (fun lv kv wr => LeK w6 y.p G.cs lv kv wr) (fun _ kv _ => kn - (intOf kv).toNat)
            case atStart => exact ⟨0, rfl, Nat.zero_le _, rfl, Kept.refl _ _⟩
            case round =>
              obtain ⟨k, rfl, hk, rfl, HK7⟩ := hrel
              have HKl : Hid (kn = G.cs.length) := by show kn = _; rw [HKn.out, ← HC3.out]; simp
              by_cases hlk : k < kn
              · have hlk' : (k : Int) < kn := by omega
                have hkc : k ≤ cp3 := by omega
                have hkk : k < K3.length := by rw [← HKn.out]; exact hlk
                have hkg : k < G.cs.length := by rw [← HKl.out]; exact hlk
                have HCk : Hid (K3[k].1 = G.cs[k]) := by
                  show K3[k].1 = G.cs[k]
                  have h1 : (K3.map Prod.fst)[k]'(by simpa using hkk) = G.cs[k] := by simp only [HC3.out]
                  simpa using h1
                obtain ⟨g3, o3, mo, m, mc, rfl, h30, _, _, h33, hsl⟩ := ((HS35.out.kept HK6.out).kept HK7.out).at hkk
                rw [HCk.out] at h30 hsl
                have HSl : Hid (SlC wr mo m mc G.cs[k].c) := hsl
                have hml := hsl.1
                have hmc := hsl.2.1
                have hmm := hsl.2.2.1
                unfold maxLen at hmm
                have HN3 : Hid (lastC y.p (G.cs.take (k + 1)) = lastIn y.p G.cs[k].r (lastC y.p (G.cs.take k)) G.cs[k].c) := lastC_take hkg
                have HO : Hid (∀ x ∈ G.cs[k].c, x.p = y.p → G.cs[k].r = y.r → x.d = y.d ∧ x.g = y.g) := fun x hx h1 h2 => leaf_of HRe.out HYm.out hkg hx h1 h2
                obtain ⟨ck, hck⟩ : ∃ ck, ck = G.cs[k] := ⟨_, rfl⟩
                rw [← hck] at h30 HSl hml HN3 HO
                obtain ⟨w7, hw7⟩ : ∃ w7, w7 = wr := ⟨_, rfl⟩
                subst hw7
                obtain ⟨oo, hoo⟩ : ∃ oo, oo = lastC y.p (G.cs.take k) := ⟨_, rfl⟩
                rw [← hoo] at HN3 ⊢
                clear hsl HCk hck hoo
                go_wp2_with fail
                go_loopw [8, 10] (fun lv jv wr => LeJ w7 y.p oo ck.r ck.c lv jv wr) (fun _ jv _ => m - (intOf jv).toNat)
                case atStart => exact ⟨0, rfl, Nat.zero_le _, rfl, Kept.refl _ _⟩
                case round =>
                  obtain ⟨j, rfl, hj, rfl, HK8⟩ := hrel
                  have h83 := HK8.out.cell h33 (by simp)
                  by_cases hlj : j < m
                  · have hlj' : (j : Int) < m := by omega
                    have hjc : j ≤ mc := by omega
                    obtain ⟨g8, o8, rfl, hx⟩ := (HSl.out.kept HK8.out (by simp)).2.2.2 j (by omega)
                    have HT : Hid (lastIn y.p ck.r oo (ck.c.take (j + 1)) = if (ck.c[j]'(by omega)).p = y.p then some ⟨(ck.c[j]'(by omega)).p, (ck.c[j]'(by omega)).d, ck.r, (ck.c[j]'(by omega)).g⟩ else lastIn y.p ck.r oo (ck.c.take j)) := lastIn_take (by omega)
                    have HOx : Hid ((ck.c[j]'(by omega)).p = y.p → ck.r = y.r → (ck.c[j]'(by omega)).d = y.d ∧ (ck.c[j]'(by omega)).g = y.g) := fun h1 h2 => HO.out _ (List.getElem_mem _) h1 h2
                    generalize hxe : ck.c[j]'(by omega) = x at *
                    obtain ⟨x0, x1, x2⟩ := hx
                    have hKa := (Kept.refl [] wr).alloc (.cells #[.string (str x.p), .bool x.g, .int .u64 x.d] 43)
                    obtain ⟨d0, d1, d2⟩ := box3 wr x 43
                    rw [Nat.zero_add] at d1 d2
                    obtain ⟨l0, l1, l2, l3⟩ := (((HY5.out.kept HK6.out).kept HK7.out).kept HK8.out).kept hKa
                    have h30a := hKa.cell (HK8.out.cell h30 (by simp)) (by simp)
                    have hgw : g5 ≠ wr.heap.size := fun e => by have := ((((HY5.out.kept HK6.out).kept HK7.out).kept HK8.out).c0); rw [e] at this; simp [World.cell?] at this
                    have HK9 : Hid (Kept [] w7 (wr.alloc (.cells #[.string (str x.p), .bool x.g, .int .u64 x.d] 43))) := HK8.out.trans hKa (by simp)
                    by_cases hxp : x.p = y.p
                    · have hpe : ((str x.p).toList == (str y.p).toList) = true := by rw [str_eqC]; simpa using hxp
                      have HT2 : Hid (rvO (lastIn y.p ck.r oo (ck.c.take (j + 1))) = ck.r) := by show rvO _ = _; rw [HT.out, if_pos hxp]; rfl
                      by_cases hre : ck.r = y.r
                      · obtain ⟨hd, hg⟩ := HOx.out hxp hre
                        have HT3 : Hid (rvO (lastIn y.p ck.r oo (ck.c.take (j + 1))) = y.r) := HT2.out.trans hre
                        rw [hre] at h30a
                        clear hxp hre HOx HT d0 d1 d2 hxe
                        obtain ⟨xp, xg, xd⟩ := x
                        dsimp only at hd hg hpe hKa HK9 l0 l1 l2 l3 h30a x0 x1 x2
                        subst hd
                        subst hg
                        go_wp2_with fail
                        go_region_held3 (fun w' => w'.cell? ⟨wr.heap.size, 0, none⟩ = some (.string (str xp)) ∧ w'.cell? ⟨g5, o5 + i * 4, none⟩ = some (.string (str y.p))) (go_keep) (fail)
                        go_wp2_with fail
                        go_quiet (fail)
                        go_wp2_with fail
                        go_roundw
                        case rel => exact ⟨j + 1, by go_num, by omega, by rw [HT3.out], HK9.out.trans (drewN_kept _ _) (by simp)⟩
                        case measure => simp [intOf]; omega
                      · have hreb : ((ck.r : Int) == y.r) = false := by simpa using hre
                        clear hxp hre
                        go_wp2_with fail
                        go_region_held3 (fun w' => w'.cell? ⟨wr.heap.size, 0, none⟩ = some (.string (str x.p)) ∧ w'.cell? ⟨g5, o5 + i * 4, none⟩ = some (.string (str y.p))) (go_keep) (fail)
                        go_wp2_with fail
                        go_quiet (fail)
                        go_wp2_with fail
                        go_roundw
                        case rel => exact ⟨j + 1, by go_num, by omega, by rw [HT2.out], HK9.out.trans (drewN_kept _ _) (by simp)⟩
                        case measure => simp [intOf]; omega
                    · have hpe : ((str x.p).toList == (str y.p).toList) = false := by rw [str_eqC]; simpa using hxp
                      have HT2 : Hid (lastIn y.p ck.r oo (ck.c.take (j + 1)) = lastIn y.p ck.r oo (ck.c.take j)) := by show lastIn _ _ _ _ = _; rw [HT.out, if_neg hxp]
                      clear hxp
                      go_wp2_with fail
                      go_region_held3 (fun w' => w'.cell? ⟨wr.heap.size, 0, none⟩ = some (.string (str x.p)) ∧ w'.cell? ⟨g5, o5 + i * 4, none⟩ = some (.string (str y.p))) (go_keep) (fail)
                      go_wp2_with fail
                      go_roundw
                      case rel => exact ⟨j + 1, by go_num, by omega, by rw [HT2.out], HK9.out.drew⟩
                      case measure => simp [intOf]; omega
                  · have hlj' : ¬ (j : Int) < m := by omega
                    have HK9 : Hid (Kept [] w6 wr) := HK7.out.trans HK8.out (by simp)
                    have HE9 : Hid (lastIn y.p ck.r oo (ck.c.take j) = lastC y.p (G.cs.take (k + 1))) := by rw [List.take_of_length_le (by omega)]; exact HN3.out.symm
                    go_wp2_with fail
                    go_roundw
                    case rel => exact ⟨k + 1, by go_num, by omega, by rw [← HE9.out], HK9⟩
                    case measure => simp [intOf]; omega
              · have hlk' : ¬ (k : Int) < kn := by omega
                have HE : Hid (rvO (lastC y.p (G.cs.take k)) = y.r) := by
                  show rvO _ = _
                  rw [List.take_of_length_le (by have := HKl.out; omega), HFy.out]; rfl
                obtain ⟨l0, l1, l2, l3⟩ := (HY5.out.kept HK6.out).kept HK7.out
                have HK9 : Hid (Kept [] w5 wr) := HK6.out.trans HK7.out (by simp)
                rw [HE.out]
                go_wp2_with fail
                go_roundw
                case rel => exact ⟨i + 1, by go_num, by omega, HK9⟩
                case measure => simp [intOf]; omega
          · have hlt' : ¬ (i : Int) < ln := by omega
            go_wp2_with fail
            go_ret
            exact ⟨rfl, HKw.out.trans HK6.out (by simp)⟩

end Go.Proofs.Ytfoghemiaidnhaa
