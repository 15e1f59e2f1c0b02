/-
  strings.Cut at "/": the part ahead of the first stroke, and what is behind it. (The library's own contracts for it, laid.)
-/
import Derived.Test.YtfoghemiaidnhaaGreatM1
import Derived.Test.YtfoghemiaidnhaaGreatShelf
import Derived.Lib.CutLaws
import Derived.Laws.Strings3
namespace Go.Proofs.YtfoghemiaidnhaaGreat
open Go.RowKit

theorem indexByte_miss (l : List UInt8) (h : (47 : UInt8) ∉ l) : Lib.indexByte l 47 = -1 := by
  induction l with
  | nil => rfl
  | cons c t ih =>
    simp only [List.mem_cons, not_or] at h
    unfold Lib.indexByte
    rw [ih h.2]
    have : ¬ c = 47 := fun e => h.1 e.symm
    simp [this]

theorem indexByte_hit (a b : List UInt8) (h : (47 : UInt8) ∉ a) : Lib.indexByte (a ++ 47 :: b) 47 = a.length := by
  induction a with
  | nil => rfl
  | cons c t ih =>
    simp only [List.mem_cons, not_or] at h
    rw [List.cons_append]
    unfold Lib.indexByte
    rw [ih h.2]
    have : ¬ c = 47 := fun e => h.1 e.symm
    simp [this]

set_option maxHeartbeats 2000000 in
set_option maxRecDepth 100000 in
theorem lcut_miss (l : List UInt8) (w : World) (h : (47 : UInt8) ∉ l) :
    Calls Tryz.prog 123 #[.string (str l), .string ⟨#[47]⟩] w fun e w' => e = .returned (.tuple #[.string (str l), .string ByteArray.empty, .bool false]) ∧ w' = w := by
  have c46 := Tryz.stringslite_Index_one (str l) 47
  rw [str_data, indexByte_miss l h] at c46
  go_enter Tryz.func123, Tryz.ntmps123
  go_wp2_with (go_at_call 144; refine (c46 _).mono ?_; rintro e w' ⟨rfl, rfl⟩)
  go_ret3
  exact ⟨rfl, rfl⟩

theorem ext_a (a b : List UInt8) : (str (a ++ 47 :: b)).extract 0 a.length = str a := by
  rw [Lib.extract_eq, str_data]; simp [str]

theorem ext_b (a b : List UInt8) : (str (a ++ 47 :: b)).extract (a.length + 1) (str (a ++ 47 :: b)).size = str b := by
  rw [Lib.extract_eq, str_data, str_size]; simp [str]
  exact List.take_of_length_le (by omega)

set_option maxHeartbeats 2000000 in
set_option maxRecDepth 100000 in
theorem lcut_hit (a b : List UInt8) (w : World) (h : (47 : UInt8) ∉ a) (hl : (a ++ 47 :: b).length ≤ 140737488355328) :
    Calls Tryz.prog 123 #[.string (str (a ++ 47 :: b)), .string ⟨#[47]⟩] w fun e w' => e = .returned (.tuple #[.string (str a), .string (str b), .bool true]) ∧ w' = w.drew := by
  have c46 := Tryz.stringslite_Index_one (str (a ++ 47 :: b)) 47
  rw [str_data, indexByte_hit a b h] at c46
  have hsz := str_size (a ++ 47 :: b)
  have c1 : (0 : Int) ≤ ↑a.length := by omega
  have c2 : (↑a.length : Int) ≤ ↑(str (a ++ 47 :: b)).size := by rw [hsz]; simp; omega
  have c3 : (0 : Int) ≤ ↑a.length + 1 := by omega
  have c4 : (↑a.length + 1 : Int) ≤ ↑(str (a ++ 47 :: b)).size := by rw [hsz]; simp; omega
  rw [← ext_a a b, ← ext_b a b]
  have hll : (a.length : Int) + 1 ≤ 140737488355328 := by simp at hl; omega
  have hwr : IntKind.i64.wrap (↑a.length + 1) = ↑a.length + 1 := IntWalk.i64_in _ (by omega)
  clear hsz
  go_enter Tryz.func123, Tryz.ntmps123
  go_wp2_with (go_at_call 144; refine (c46 _).mono ?_; rintro e w' ⟨rfl, rfl⟩)
  go_region
  go_wp2
  go_ret3
  exact ⟨rfl, rfl⟩

set_option maxHeartbeats 2000000 in
set_option maxRecDepth 100000 in
theorem cut_miss (l : List UInt8) (w : World) (h : (47 : UInt8) ∉ l) :
    Calls Tryz.prog 101 #[.string (str l), .string ⟨#[47]⟩] w fun e w' => e = .returned (.tuple #[.string (str l), .string ByteArray.empty, .bool false]) ∧ w' = w := by
  go_enter Tryz.func101, Tryz.ntmps101
  go_wp2_with (go_at_call 123; refine (lcut_miss l _ h).mono ?_; rintro e w' ⟨rfl, rfl⟩)
  go_ret3
  exact ⟨rfl, rfl⟩
set_option maxHeartbeats 2000000 in
set_option maxRecDepth 100000 in
theorem cut_hit (a b : List UInt8) (w : World) (h : (47 : UInt8) ∉ a) (hl : (a ++ 47 :: b).length ≤ 140737488355328) :
    Calls Tryz.prog 101 #[.string (str (a ++ 47 :: b)), .string ⟨#[47]⟩] w fun e w' => e = .returned (.tuple #[.string (str a), .string (str b), .bool true]) ∧ w' = w.drew := by
  go_enter Tryz.func101, Tryz.ntmps101
  go_wp2_with (go_at_call 123; refine (lcut_hit a b _ h hl).mono ?_; rintro e w' ⟨rfl, rfl⟩)
  go_ret3
  exact ⟨rfl, rfl⟩

end Go.Proofs.YtfoghemiaidnhaaGreat
