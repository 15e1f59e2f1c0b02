/-
  A reader's other calls.
-/
import Derived.Test.YtfmklcnilmhnbaaRd3
import Derived.Test.YtfmklcnilmhnbaaHi0
import Derived.Test.YtfmklcnilmhnbaaWr3
namespace Go.Proofs.Ytfmklcnilmhnbaa
open Go.RowKit

/-- Bytes behind their length. -/
def rdRun (most : Int) (l : List Int) : Int × List Int × List Int :=
  if (rdNum l).1 ≠ 0 then ((rdNum l).1, [], []) else
  if most < (rdNum l).2.1 then (3, [], []) else
  if ((rdNum l).2.2.length : Int) < (rdNum l).2.1 then (2, [], []) else
  (0, (rdNum l).2.2.take (rdNum l).2.1.toNat, (rdNum l).2.2.drop (rdNum l).2.1.toNat)

def rdFlag : List Int → Int × Bool × List Int
  | [] => (2, false, [])
  | d :: l => if 1 < d then (4, false, []) else (0, d == 1, l)

def rdWord (l : List Int) : Int × Int × List Int := if l.length < 8 then (2, 0, []) else (0, rdHi (l.take 8), l.drop 8)

theorem rdRun_num {most e x : Int} {l rest : List Int} (h : rdNum l = (e, x, rest)) :
    rdRun most l = if e ≠ 0 then (e, [], []) else if most < x then (3, [], []) else if (rest.length : Int) < x then (2, [], []) else (0, rest.take x.toNat, rest.drop x.toNat) := by
  unfold rdRun; rw [h]

/-- What the step 'run' comes to. -/
def Run (p : Nat) (ao : Option Addr) (most : Int) (l : List Int) (w : World) (r : Ending) (w' : World) : Prop :=
  Kept [p] w w' ∧ ((∃ a1 n1 c1 a2 c2 data rest, rdRun most l = (0, data, rest) ∧ r = .returned (.slice a1 n1 c1) ∧ Sl w' a1 n1 c1 data ∧ RdAt w' p (.slice a2 rest.length c2) 0 ∧ Sl w' a2 rest.length c2 rest ∧ (∀ k ∈ blk a2, k ∈ blk ao)) ∨
    (∃ e v, rdRun most l = (e, [], []) ∧ e ≠ 0 ∧ r = .panicked [{ v := .iface 27 (.int .i64 e), recovered := false }] ∧ RdAt w' p v 0))

set_option maxHeartbeats 1000000 in
theorem run_any (w : World) (p : Nat) (ao : Option Addr) (n c : Nat) (most : Int) (l : List Int) (hR : RdAt w p (.slice ao n c) 0) (hs : Sl w ao n c l) (hp : p ∉ blk ao) (ho : Oct l) :
    Calls Try.prog 63 #[.pointer (some ⟨p, 0, none⟩), .int .i64 most] w (Run p ao most l w) := by
  have HR : Hid (RdAt w p (.slice ao n c) 0) := hR
  have HS : Hid (Sl w ao n c l) := hs
  clear hR hs
  go_enter Try.func63, Try.ntmps63
  go_wp2_with fail
  refine (number_any _ _ _ _ _ _ HR.out HS.out hp ho).mono ?_
  rintro r w1 (⟨a, c', rest, x, h1, rfl, h2, h3, h4, h5⟩ | ⟨e, v, h1, h2, rfl, h3, h4⟩)
  · have hx := rdNum_one x l rest ho h1
    have hrun := rdRun_num (most := most) h1
    have HRUN : Hid (rdRun most l = if (0 : Int) ≠ 0 then (0, [], []) else if most < x then (3, [], []) else if (rest.length : Int) < x then (2, [], []) else (0, rest.take x.toNat, rest.drop x.toNat)) := hrun
    have H2 : Hid (RdAt w1 p (.slice a rest.length c') 0) := h2
    have H3 : Hid (Sl w1 a rest.length c' rest) := h3
    have H4 : Hid (blk a = blk ao) := h4
    have hx0 := hx.1
    have hx1 := hx.2.1
    clear h1 h2 h3 h4 hrun hx
    by_cases hbig : most < x
    · have HE : Hid (rdRun most l = (3, [], [])) := by show rdRun most l = _; rw [HRUN.out, if_neg (by simp), if_pos hbig]
      go_wp2
      exact ⟨rfl, h5, .inr ⟨3, _, HE.out, by decide, rfl, H2.out⟩⟩
    · by_cases hsh : (rest.length : Int) < x
      · have HE : Hid (rdRun most l = (2, [], [])) := by show rdRun most l = _; rw [HRUN.out, if_neg (by simp), if_neg hbig, if_pos hsh]
        obtain ⟨k, rfl⟩ := Int.eq_ofNat_of_zero_le hx0
        go_wp2_with fail
        refine (take_short _ _ _ _ _ k _ H2.out (by omega)).mono ?_
        rintro _ _ ⟨rfl, rfl⟩
        go_wp2
        exact ⟨rfl, h5, .inr ⟨2, _, HE.out, by decide, rfl, H2.out⟩⟩
      · have HE : Hid (rdRun most l = (0, rest.take x.toNat, rest.drop x.toNat)) := by show rdRun most l = _; rw [HRUN.out, if_neg (by simp), if_neg hbig, if_neg hsh]
        obtain ⟨k, rfl⟩ := Int.eq_ofNat_of_zero_le hx0
        go_wp2_with fail
        refine (take_fits _ _ _ _ _ k _ _ H2.out H3.out (by rw [H4.out]; exact hp) (by omega)).mono ?_
        rintro _ w2 ⟨a1, c1, a2, c2, rfl, hR2, hs1, hs2, hb1, hb2, hk2⟩
        have HFIN : Hid (Run p ao most l w (.returned (.slice a1 k c1)) w2) := by
          refine ⟨h5.trans hk2 (by simp), .inl ⟨a1, k, c1, a2, c2, _, _, HE.out, rfl, by simpa using hs1, ?_, ?_, ?_⟩⟩
          · have e : (rest.drop (k : Int).toNat).length = rest.length - k := by simp
            rw [e]; exact hR2
          · have e : (rest.drop (k : Int).toNat).length = rest.length - k := by simp
            rw [e]; simpa using hs2
          · intro j hj; rw [hb2, H4.out] at hj; exact hj
        clear hR2 hs1 hs2 hb1 hb2 hk2
        go_wp2
        go_ret
        exact HFIN.out
  · have HE : Hid (rdRun most l = (e, [], [])) := by show rdRun most l = _; rw [rdRun_num h1, if_pos h2]
    clear h1
    go_wp2
    exact ⟨rfl, h4, .inr ⟨e, v, HE.out, h2, rfl, h3⟩⟩

theorem rdRun_oct {most : Int} {l : List Int} (ho : Oct l) : Oct (rdRun most l).2.1 ∧ Oct (rdRun most l).2.2 := by
  have h := rdNum_oct ho
  unfold rdRun
  split
  · exact ⟨oct_nil, oct_nil⟩
  · split
    · exact ⟨oct_nil, oct_nil⟩
    · split
      · exact ⟨oct_nil, oct_nil⟩
      · exact ⟨h.take _, h.drop _⟩

theorem rdRun_short {most : Int} {l : List Int} : (rdRun most l).2.1.length ≤ l.length ∧ (rdRun most l).2.2.length ≤ l.length := by
  have h : (rdNum l).2.2.length ≤ l.length := by
    rcases rdN_shape 6 0 0 l with ⟨_, k, h⟩ | ⟨_, h⟩
    · show (rdN 6 0 0 l).2.2.length ≤ _; rw [h]; simp
    · show (rdN 6 0 0 l).2.2.length ≤ _; rw [h]; simp
  unfold rdRun
  split
  · simp
  · split
    · simp
    · split
      · simp
      · simp; omega

/-- Bytes as a text. -/
def strB (l : List Int) : ByteArray := ⟨(l.map fun n => UInt8.ofNat n.toNat).toArray⟩

theorem strB_strOf (s : ByteArray) : strB (strOf s) = s := by
  unfold strB strOf
  have : (s.data.toList.map fun b => (b.toNat : Int)).map (fun n => UInt8.ofNat n.toNat) = s.data.toList := by
    rw [List.map_map]
    conv => rhs; rw [← List.map_id s.data.toList]
    apply List.map_congr_left
    intro b _
    simp
  rw [this]

theorem strB_fold (l : List Int) : l.foldl (fun r n => r.push (UInt8.ofNat n.toNat)) ByteArray.empty = strB l := by
  have h : ∀ (l : List Int) (s : ByteArray), l.foldl (fun r n => r.push (UInt8.ofNat n.toNat)) s = ⟨s.data ++ (l.map fun n => UInt8.ofNat n.toNat).toArray⟩ := by
    intro l
    induction l with
    | nil => intro s; simp
    | cons d l ih => intro s; rw [List.foldl_cons, ih]; simp [ByteArray.push]
  rw [h]; simp [strB, ByteArray.empty, ByteArray.emptyWithCapacity]; rfl

theorem conv_text (w : World) (ao : Option Addr) (n c : Nat) (l : List Int) (hs : Sl w ao n c l) : (convert 25 9 (.slice ao n c)).run Try.prog w = .ok (.string (strB l)) w := by
  rw [run_convert_bytes_string w 25 9 5 ao n c Try.underlying25 Try.underlying5 Try.underlying9]
  have hn := hs.1
  subst hn
  cases ao with
  | none =>
    have h1 := hs.2.2.2.1 rfl
    have h2 := hs.2.1
    have h3 : l = [] := by have h4 : l.length = 0 := by omega
                           simpa using h4
    subst h3
    rfl
  | some a =>
    have h := run_loadCells_list (P := Try.prog) w a (l.map (Value.int .u8)) (sl_news hs)
    rw [List.length_map] at h
    rw [run_bytesToString w a l.length c l h, strB_fold]

theorem enter_Text (a : Array Value) (w : World) : Sem.run Try.prog (callFunc 62 a) w = .ok (.enter 62 a) w := by kernel_rfl

theorem enter_Bytes (a : Array Value) (w : World) : Sem.run Try.prog (callFunc 65 a) w = .ok (.enter 65 a) w := by kernel_rfl

theorem enter_Word (a : Array Value) (w : World) : Sem.run Try.prog (callFunc 69 a) w = .ok (.enter 69 a) w := by kernel_rfl

theorem enter_Refuse (a : Array Value) (w : World) : Sem.run Try.prog (callFunc 82 a) w = .ok (.enter 82 a) w := by kernel_rfl

/-- The step of Text: bytes behind their length, as a text. -/
theorem text_step (w : World) (p q : Nat) (ao : Option Addr) (n c : Nat) (most : Int) (l : List Int) (hR : RdAt w p (.slice ao n c) 0) (hs : Sl w ao n c l) (hp : p ∉ blk ao) (ho : Oct l) (hq : w.cell? ⟨q, 0, none⟩ = some (.int .i64 most)) :
    Calls Try.prog 62 #[.pointer (some ⟨p, 0, none⟩), .pointer (some ⟨q, 0, none⟩)] w (Step p ao (fun _ x rest => ∃ d, x = .string (strB d) ∧ rdRun most l = (0, d, rest)) (fun e => rdRun most l = (e, [], [])) w) := by
  have HR : Hid (RdAt w p (.slice ao n c) 0) := hR
  have HS : Hid (Sl w ao n c l) := hs
  clear hR hs
  go_enter Try.func62, Try.ntmps62
  go_wp2_with fail
  refine (run_any _ _ _ _ _ _ _ HR.out HS.out hp ho).mono ?_
  rintro r w1 ⟨hk, ⟨a1, n1, c1, a2, c2, data, rest, h1, rfl, h2, h3, h4, h5⟩ | ⟨e, v, h1, h2, rfl, h3⟩⟩
  · have hcv := conv_text w1 a1 n1 c1 data h2
    have HF : Hid (Step p ao (fun _ x rest => ∃ d, x = .string (strB d) ∧ rdRun most l = (0, d, rest)) (fun e => rdRun most l = (e, [], [])) w (.returned (.string (strB data))) w1) := ⟨hk, .inl ⟨_, a2, c2, rest, rfl, h3, h4, h5, data, rfl, h1⟩⟩
    clear h1 h2 h3 h4 h5
    go_wp2
    go_ret
    exact HF.out
  · have HF : Hid (Step p ao (fun _ x rest => ∃ d, x = .string (strB d) ∧ rdRun most l = (0, d, rest)) (fun e => rdRun most l = (e, [], [])) w (.panicked [{ v := .iface 27 (.int .i64 e), recovered := false }]) w1) := ⟨hk, .inr ⟨e, v, rfl, h2, h3, h1⟩⟩
    clear h1 h2 h3
    go_wp2
    exact ⟨rfl, HF.out⟩

/-- What a call of Text comes to, at a reader that failed by e. -/
def rdRunE (e most : Int) (l : List Int) : Int × List Int × List Int := if e = 0 then rdRun most l else (e, [], [])

set_option maxHeartbeats 1000000 in
theorem text_call (w : World) (p : Nat) (F : List Nat) (l : List Int) (e most : Int) (hr : Rd w p F l e) :
    Calls Try.prog 24 #[.pointer (some ⟨p, 0, none⟩), .int .i64 most] w fun r w' => r = .returned (.string (strB (rdRunE e most l).2.1)) ∧ Rd w' p F (rdRunE e most l).2.2 (rdRunE e most l).1 ∧ Kept [p] w w' := by
  obtain ⟨ao, c, h1, h2, h3, h4, h5, h6⟩ := hr
  have hK : Kept [] w (w.alloc (.cells #[.int .i64 most] 3)) := (Kept.refl _ _).alloc _
  have H1 : Hid (RdAt (w.alloc (.cells #[.int .i64 most] 3)) p (.slice ao l.length c) e) := hK.at h1 (by simp)
  have H2 : Hid (Sl (w.alloc (.cells #[.int .i64 most] 3)) ao l.length c l) := Sl.kept hK h2 (by simp)
  have hq : (w.alloc (.cells #[.int .i64 most] 3)).cell? ⟨w.heap.size, 0, none⟩ = some (.int .i64 most) := by simp
  have HQ : Hid ((w.alloc (.cells #[.int .i64 most] 3)).cell? ⟨w.heap.size, 0, none⟩ = some (.int .i64 most)) := hq
  have hmf : ∀ (fn : Fn) (first cap : Array Value) (w : World), (Instr.makeFunc fn first cap).run Try.prog w = .ok (.func fn first cap) w := fun _ _ _ _ => rfl
  clear h1 h2 hq
  by_cases he : e = 0
  · subst he
    go_enter Try.func24, Try.ntmps24
    go_wp2_with fail
    refine (readStr _ p ao _ c l H1.out H2.out 62 enter_Text #[.pointer (some ⟨w.heap.size, 0, none⟩)] _ _ (fun w1 hk hR1 hs1 => text_step w1 p w.heap.size ao _ c most l hR1 hs1 (fun h => h4 (h3 p h)) h5 (hk.cell HQ.out (by simp)))).mono ?_
    rintro _ w1 ⟨hk, x, a, c', rest, e, rfl, hR, hs, hb, h7⟩
    have hx : ∃ d, x = .string (strB d) ∧ rdRun most l = (e, d, rest) := by
      rcases h7 with ⟨rfl, d, rfl, h8⟩ | ⟨h8, h9, rfl, rfl⟩
      · exact ⟨d, rfl, h8⟩
      · exact ⟨[], rfl, h9⟩
    obtain ⟨d, rfl, h8⟩ := hx
    have H8 : Hid (rdRun most l = (e, d, rest)) := h8
    have h10 : e ≠ 0 → rest = [] := by
      intro he
      rcases h7 with ⟨h, _⟩ | ⟨_, _, _, h⟩
      · exact absurd h he
      · exact h
    have h11 : Oct rest := by have := (rdRun_oct (most := most) h5).2; rw [h8] at this; exact this
    clear h8 h7
    go_wp2
    go_ret
    have h12 : rdRunE 0 most l = (e, d, rest) := by unfold rdRunE; rw [if_pos rfl]; exact H8.out
    rw [h12]
    exact ⟨rfl, ⟨a, c', hR, hs, fun k hk => h3 k (hb k hk), h4, h11, h10⟩, (hK.mono (by simp)).trans hk (by simp)⟩
  · have hl := h6 he
    subst hl
    have HE : Hid (¬ e = 0) := he
    clear he h6
    go_enter Try.func24, Try.ntmps24
    go_wp2_with fail
    refine (readStr_failed _ p _ e H1.out HE.out _).mono ?_
    rintro _ w1 ⟨rfl, hk⟩
    go_wp2
    go_ret
    have h12 : rdRunE e most [] = (e, [], []) := by unfold rdRunE; rw [if_neg HE.out]
    rw [h12]
    exact ⟨rfl, Rd.kept hk ⟨ao, c, H1.out, H2.out, h3, h4, h5, fun _ => rfl⟩ (by simp) (by simp), (hK.trans hk (by simp)).mono (by simp)⟩

/-- Bytes that were read, in memory that was made since w. -/
def GotB (w : World) (most : Int) (l : List Int) (w' : World) (x : Value) (rest : List Int) : Prop :=
  ∃ a n c d, x = .slice a n c ∧ Sl w' a n c d ∧ (∀ k ∈ blk a, w.heap.size ≤ k ∧ k < w'.heap.size) ∧ rdRun most l = (0, d, rest)

/-- The step of Bytes: bytes behind their length, in new memory. -/
theorem bytes_step (w : World) (p q : Nat) (ao : Option Addr) (n c : Nat) (most : Int) (l : List Int) (hR : RdAt w p (.slice ao n c) 0) (hs : Sl w ao n c l) (hp : p ∉ blk ao) (ho : Oct l) (hq : w.cell? ⟨q, 0, none⟩ = some (.int .i64 most)) (hbig : n ≤ 140737488355328) :
    Calls Try.prog 65 #[.pointer (some ⟨p, 0, none⟩), .pointer (some ⟨q, 0, none⟩)] w (Step p ao (GotB w most l) (fun e => rdRun most l = (e, [], [])) w) := by
  have hn := hs.1
  have HR : Hid (RdAt w p (.slice ao n c) 0) := hR
  have HS : Hid (Sl w ao n c l) := hs
  clear hR hs
  go_enter Try.func65, Try.ntmps65
  go_wp2_with fail
  refine (run_any _ _ _ _ _ _ _ HR.out HS.out hp ho).mono ?_
  rintro r w1 ⟨hk, ⟨a1, n1, c1, a2, c2, data, rest, h1, rfl, h2, h3, h4, h5⟩ | ⟨e, v, h1, h2, rfl, h3⟩⟩
  · have hn1 : n1 ≤ 140737488355328 := by
      have h6 := h2.1
      have h7 := rdRun_short (most := most) (l := l)
      rw [h1] at h7
      simp only at h7
      omega
    have H1 : Hid (rdRun most l = (0, data, rest)) := h1
    have H3 : Hid (RdAt w1 p (.slice a2 rest.length c2) 0) := h3
    have H4 : Hid (Sl w1 a2 rest.length c2 rest) := h4
    clear h1 h3 h4
    go_wp2_with fail
    refine (clone_any _ _ _ _ _ h2 hn1).mono ?_
    rintro _ w2 ⟨a3, c3, rfl, hs3, hb3, hk3⟩
    have HF : Hid (Step p ao (GotB w most l) (fun e => rdRun most l = (e, [], [])) w (.returned (.slice a3 n1 c3)) w2) :=
      ⟨hk.trans hk3 (by simp), .inl ⟨_, a2, c2, rest, rfl, hk3.at H3.out (by simp), Sl.kept hk3 H4.out (by simp), h5, a3, n1, c3, data, rfl, hs3, fun k hk' => ⟨Nat.le_trans hk.size (hb3 k hk').1, (hb3 k hk').2⟩, H1.out⟩⟩
    clear h2 hs3 hb3 hk3 h5
    go_wp2
    go_ret
    exact HF.out
  · have HF : Hid (Step p ao (GotB w most l) (fun e => rdRun most l = (e, [], [])) w (.panicked [{ v := .iface 27 (.int .i64 e), recovered := false }]) w1) := ⟨hk, .inr ⟨e, v, rfl, h2, h3, h1⟩⟩
    clear h1 h2 h3
    go_wp2
    exact ⟨rfl, HF.out⟩

set_option maxHeartbeats 1000000 in
theorem bytes_call (w : World) (p : Nat) (F : List Nat) (l : List Int) (e most : Int) (hr : Rd w p F l e) (hbig : l.length ≤ 140737488355328) :
    Calls Try.prog 25 #[.pointer (some ⟨p, 0, none⟩), .int .i64 most] w fun r w' => ∃ a n c, r = .returned (.slice a n c) ∧ Sl w' a n c (rdRunE e most l).2.1 ∧ (∀ k ∈ blk a, w.heap.size ≤ k ∧ k < w'.heap.size) ∧ Rd w' p F (rdRunE e most l).2.2 (rdRunE e most l).1 ∧ Kept [p] w w' := by
  obtain ⟨ao, c, h1, h2, h3, h4, h5, h6⟩ := hr
  have hK : Kept [] w (w.alloc (.cells #[.int .i64 most] 3)) := (Kept.refl _ _).alloc _
  have H1 : Hid (RdAt (w.alloc (.cells #[.int .i64 most] 3)) p (.slice ao l.length c) e) := hK.at h1 (by simp)
  have H2 : Hid (Sl (w.alloc (.cells #[.int .i64 most] 3)) ao l.length c l) := Sl.kept hK h2 (by simp)
  have hq : (w.alloc (.cells #[.int .i64 most] 3)).cell? ⟨w.heap.size, 0, none⟩ = some (.int .i64 most) := by simp
  have HQ : Hid ((w.alloc (.cells #[.int .i64 most] 3)).cell? ⟨w.heap.size, 0, none⟩ = some (.int .i64 most)) := hq
  have hmf : ∀ (fn : Fn) (first cap : Array Value) (w : World), (Instr.makeFunc fn first cap).run Try.prog w = .ok (.func fn first cap) w := fun _ _ _ _ => rfl
  clear h1 h2 hq
  by_cases he : e = 0
  · subst he
    go_enter Try.func25, Try.ntmps25
    go_wp2_with fail
    refine (readByt _ p ao _ c l H1.out H2.out 65 enter_Bytes #[.pointer (some ⟨w.heap.size, 0, none⟩)] (GotB w most l) (fun e => rdRun most l = (e, [], [])) (fun w1 hk hR1 hs1 => (bytes_step w1 p w.heap.size ao _ c most l hR1 hs1 (fun h => h4 (h3 p h)) h5 (hk.cell HQ.out (by simp)) hbig).mono (fun r w2 hS => ?_))).mono ?_
    · obtain ⟨hSk, hSe⟩ := hS
      refine ⟨hSk, ?_⟩
      rcases hSe with ⟨x, a, c', rest, k1, k2, k3, k4, a9, n9, c9, d9, m1, m2, m3, m4⟩ | hSe
      · exact .inl ⟨x, a, c', rest, k1, k2, k3, k4, a9, n9, c9, d9, m1, m2, fun k hk' => ⟨Nat.le_trans (Nat.le_trans hK.size hk.size) (m3 k hk').1, (m3 k hk').2⟩, m4⟩
      · exact .inr hSe
    rintro _ w1 ⟨hk, x, a, c', rest, e, rfl, hR, hs, hb, h7⟩
    have hx : ∃ a9 n9 c9 d, x = .slice a9 n9 c9 ∧ Sl w1 a9 n9 c9 d ∧ (∀ k ∈ blk a9, w.heap.size ≤ k ∧ k < w1.heap.size) ∧ rdRun most l = (e, d, rest) := by
      rcases h7 with ⟨rfl, a9, n9, c9, d, m1, m2, m3, m4⟩ | ⟨h8, h9, rfl, rfl⟩
      · exact ⟨a9, n9, c9, d, m1, m2, m3, m4⟩
      · exact ⟨none, 0, 0, [], rfl, Sl.nil _, by simp [blk], h9⟩
    obtain ⟨a9, n9, c9, d, rfl, m2, m3, h8⟩ := hx
    have H8 : Hid (rdRun most l = (e, d, rest)) := h8
    have h10 : e ≠ 0 → rest = [] := by
      intro he
      rcases h7 with ⟨h, _⟩ | ⟨_, _, _, h⟩
      · exact absurd h he
      · exact h
    have h11 : Oct rest := by have := (rdRun_oct (most := most) h5).2; rw [h8] at this; exact this
    have M2 : Hid (Sl w1 a9 n9 c9 d) := m2
    clear h8 h7 m2
    go_wp2
    go_ret
    have h12 : rdRunE 0 most l = (e, d, rest) := by unfold rdRunE; rw [if_pos rfl]; exact H8.out
    rw [h12]
    exact ⟨a9, n9, c9, rfl, M2.out, m3, ⟨a, c', hR, hs, fun k hk => h3 k (hb k hk), h4, h11, h10⟩, (hK.mono (by simp)).trans hk (by simp)⟩
  · have hl := h6 he
    subst hl
    have HE : Hid (¬ e = 0) := he
    clear he h6
    go_enter Try.func25, Try.ntmps25
    go_wp2_with fail
    refine (readByt_failed _ p _ e H1.out HE.out _).mono ?_
    rintro _ w1 ⟨rfl, hk⟩
    go_wp2
    go_ret
    have h12 : rdRunE e most [] = (e, [], []) := by unfold rdRunE; rw [if_neg HE.out]
    rw [h12]
    exact ⟨none, 0, 0, rfl, Sl.nil _, by simp [blk], Rd.kept hk ⟨ao, c, H1.out, H2.out, h3, h4, h5, fun _ => rfl⟩ (by simp) (by simp), (hK.trans hk (by simp)).mono (by simp)⟩

end Go.Proofs.Ytfmklcnilmhnbaa
