/-
  room: are deeds few and small?
-/
import Derived.Test.YtajkmhepedlmmaaSeArgs
import Derived.Test.YtajkmhepedlmmaaSeCopy
namespace Go.Proofs.Ytajkmhepedlmmaa
open Go.RowKit

def RoomP (w : World) (n : Nat) (e : Ending) (w' : World) : Prop := ∃ r, e = .returned (.bool r) ∧ (r = true → n ≤ 200) ∧ Kept [] w w'

def RmI (w : World) (n : Nat) (iv : Value) (wr : World) : Prop := ∃ i : Nat, iv = .int .i64 (i : Int) ∧ i ≤ n ∧ Hid (Kept [] w wr)

set_option maxHeartbeats 4000000 in
set_option maxRecDepth 100000 in
theorem roomD_call (w : World) (ao : Option Addr) (n c : Nat) (D : List (Dd × Value)) (hD : SlDd w ao n c D) :
    Calls Try.prog 13 #[.slice ao n c] w fun e w' => RoomP w n e w' := by
  have hl := hD.1
  have hc := hD.2.1
  have hm := hD.2.2.1
  unfold maxLen at hm
  have HD := hide hD
  have HL := hide hl
  clear hD hl
  by_cases h2 : n ≤ 200
  · have hn2 : ¬ (200 : Int) < n := by omega
    go_enter Try.func13, Try.ntmps13
    go_wp2_with fail
    go_loopw [3] (fun iv wr => RmI w n iv wr) (fun iv _ => n - (intOf iv).toNat)
    case atStart => exact ⟨0, rfl, Nat.zero_le _, Kept.refl _ _⟩
    case round =>
      obtain ⟨i, rfl, hi, HK⟩ := hrel
      by_cases hlt : i < n
      · have hlt' : (i : Int) < n := by omega
        have hic : i ≤ c := by omega
        have hiD : i < D.length := by rw [HL.out]; exact hlt
        obtain ⟨g, o, rfl, hx⟩ := (HD.out.kept HK.out).2.2.2.1 i hiD
        obtain ⟨mo, mm, mc, hm2⟩ := ((HD.out.kept HK.out).2.2.2.2 _ (List.getElem_mem hiD)).1.one
        have x3 := hx.c3
        have x7 := hx.c7
        have x9 := hx.c9
        rw [hm2] at x9
        clear hm2
        have hs3 := str_size D[i].1.n
        have hs7 := str_size D[i].1.v.p
        generalize D[i].1 = y at *
        obtain ⟨p3, hp3⟩ : ∃ p3, p3 = (str y.n).size := ⟨_, rfl⟩
        obtain ⟨p7, hp7⟩ : ∃ p7, p7 = (str y.v.p).size := ⟨_, rfl⟩
        clear hx hs3 hs7
        by_cases q1 : (300 : Int) < (str y.n).size
        · go_wp2_with fail
          go_ret
          exact ⟨_, rfl, fun _ => h2, HK.out⟩
        · by_cases q2 : (20 : Int) < mm
          · go_wp2_with fail
            go_ret
            exact ⟨_, rfl, fun _ => h2, HK.out⟩
          · by_cases q3 : (300 : Int) < (str y.v.p).size
            · go_wp2_with fail
              go_ret
              exact ⟨_, rfl, fun _ => h2, HK.out⟩
            · go_wp2_with fail
              go_roundw
              case rel => exact ⟨i + 1, by go_num, by omega, HK⟩
              case measure => simp [intOf]; omega
      · have hlt' : ¬ (i : Int) < n := by omega
        go_wp2_with fail
        go_ret
        exact ⟨_, rfl, fun _ => h2, HK.out⟩
  · have hn2 : (200 : Int) < n := by omega
    go_enter Try.func13, Try.ntmps13
    go_wp2_with fail
    go_ret
    exact ⟨_, rfl, (fun h => by cases h), Kept.refl _ _⟩

end Go.Proofs.Ytajkmhepedlmmaa
