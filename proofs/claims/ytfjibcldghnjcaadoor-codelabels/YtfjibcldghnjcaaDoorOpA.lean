/-
  ops: the letters of an instruction's operands.
-/
import Derived.Test.YtfjibcldghnjcaaDoorOutA
namespace Go.Proofs.YtfjibcldghnjcaaDoor
open Go.RowKit
set_option linter.unusedVariables false
set_option linter.unusedSimpArgs false

/-- The letters, from 1 on. -/
def sigT : List (List UInt8) := [[117], [97, 97, 117], [], [115, 100], [108], [117, 108], [117, 108], [117, 108, 117], [117, 117], [117], [], [117, 117], [117], [117], [121], [117, 117], [115, 115, 100], [83, 100], [115, 100, 100], [115, 117, 100], [108, 115], [108, 115], [108, 115], [108, 115], [108, 115], [108, 115], [108, 115], [108, 115, 117], [108, 115, 115], [108, 115, 115], [108, 115, 115], [108, 115, 115], [115, 108, 80], [100, 100], [102, 117, 117, 115, 115, 100], [102, 117, 115, 100], [102, 117, 115, 115, 100], [108, 115, 117, 120], [108, 120, 117, 100], [108, 120, 117, 117, 100], [120, 117, 100], [108, 120, 117], [117, 83, 100], [117, 83, 100], [121, 108], [121], [121], [115, 115], [115], [115], []]
/-- The names, from 1 on. -/
def nmT : List (List UInt8) := [[108, 97, 98, 101, 108], [102, 117, 110, 99, 95, 105, 110, 102, 111], [101, 110, 100], [109, 111, 118, 101], [106, 117, 109, 112], [99, 97, 108, 108], [99, 97, 108, 108, 95, 111, 110, 108, 121], [99, 97, 108, 108, 95, 108, 97, 115, 116], [99, 97, 108, 108, 95, 101, 120, 116], [99, 97, 108, 108, 95, 102, 117, 110], [114, 101, 116, 117, 114, 110], [97, 108, 108, 111, 99, 97, 116, 101], [100, 101, 97, 108, 108, 111, 99, 97, 116, 101], [116, 114, 105, 109], [105, 110, 105, 116], [116, 101, 115, 116, 95, 104, 101, 97, 112], [112, 117, 116, 95, 108, 105, 115, 116], [112, 117, 116, 95, 116, 117, 112, 108, 101], [103, 101, 116, 95, 108, 105, 115, 116], [103, 101, 116, 95, 101, 108, 101, 109, 101, 110, 116], [105, 115, 95, 105, 110, 116], [105, 115, 95, 97, 116, 111, 109], [105, 115, 95, 110, 105, 108], [105, 115, 95, 99, 111, 110, 115], [105, 115, 95, 116, 117, 112, 108, 101], [105, 115, 95, 98, 105, 110], [105, 115, 95, 102, 117, 110], [116, 101, 115, 116, 95, 97, 114, 105, 116, 121], [105, 115, 95, 108, 116], [105, 115, 95, 103, 101], [105, 115, 95, 101, 113], [105, 115, 95, 110, 101], [115, 101, 108, 101, 99, 116], [115, 119, 97, 112], [103, 99, 95, 111, 112], [98, 105, 102, 49], [98, 105, 102, 50], [98, 115, 95, 115, 116, 97, 114, 116], [98, 115, 95, 105, 110, 116], [98, 115, 95, 98, 105, 110], [98, 115, 95, 114, 101, 115, 116], [98, 115, 95, 116, 97, 105, 108], [98, 115, 95, 109, 97, 107, 101], [109, 97, 107, 101, 95, 102, 117, 110], [116, 114, 121], [116, 114, 121, 95, 101, 110, 100], [116, 114, 121, 95, 99, 97, 115, 101], [114, 97, 105, 115, 101], [98, 97, 100, 109, 97, 116, 99, 104], [99, 97, 115, 101, 95, 101, 110, 100], [105, 102, 95, 101, 110, 100]]
def sigS (op : Int) : List UInt8 := if 1 ≤ op ∧ op ≤ 51 then sigT.getD (op - 1).toNat [] else []
def nmS (op : Int) : List UInt8 := if 1 ≤ op ∧ op ≤ 51 then nmT.getD (op - 1).toNat [] else []
def endS (op : Int) : Bool := decide (op = 2 ∨ op = 3 ∨ op = 5 ∨ op = 7 ∨ op = 8 ∨ op = 11 ∨ op = 33 ∨ op = 48 ∨ op = 49 ∨ op = 50 ∨ op = 51)
def strV (l : List UInt8) : Value := .string ⟨l.toArray⟩
theorem sg1 : sigS 1 = [117] := rfl
theorem sg2 : sigS 2 = [97, 97, 117] := rfl
theorem sg3 : sigS 3 = [] := rfl
theorem sg4 : sigS 4 = [115, 100] := rfl
theorem sg5 : sigS 5 = [108] := rfl
theorem sg6 : sigS 6 = [117, 108] := rfl
theorem sg7 : sigS 7 = [117, 108] := rfl
theorem sg8 : sigS 8 = [117, 108, 117] := rfl
theorem sg9 : sigS 9 = [117, 117] := rfl
theorem sg10 : sigS 10 = [117] := rfl
theorem sg11 : sigS 11 = [] := rfl
theorem sg12 : sigS 12 = [117, 117] := rfl
theorem sg13 : sigS 13 = [117] := rfl
theorem sg14 : sigS 14 = [117] := rfl
theorem sg15 : sigS 15 = [121] := rfl
theorem sg16 : sigS 16 = [117, 117] := rfl
theorem sg17 : sigS 17 = [115, 115, 100] := rfl
theorem sg18 : sigS 18 = [83, 100] := rfl
theorem sg19 : sigS 19 = [115, 100, 100] := rfl
theorem sg20 : sigS 20 = [115, 117, 100] := rfl
theorem sg21 : sigS 21 = [108, 115] := rfl
theorem sg22 : sigS 22 = [108, 115] := rfl
theorem sg23 : sigS 23 = [108, 115] := rfl
theorem sg24 : sigS 24 = [108, 115] := rfl
theorem sg25 : sigS 25 = [108, 115] := rfl
theorem sg26 : sigS 26 = [108, 115] := rfl
theorem sg27 : sigS 27 = [108, 115] := rfl
theorem sg28 : sigS 28 = [108, 115, 117] := rfl
theorem sg29 : sigS 29 = [108, 115, 115] := rfl
theorem sg30 : sigS 30 = [108, 115, 115] := rfl
theorem sg31 : sigS 31 = [108, 115, 115] := rfl
theorem sg32 : sigS 32 = [108, 115, 115] := rfl
theorem sg33 : sigS 33 = [115, 108, 80] := rfl
theorem sg34 : sigS 34 = [100, 100] := rfl
theorem sg35 : sigS 35 = [102, 117, 117, 115, 115, 100] := rfl
theorem sg36 : sigS 36 = [102, 117, 115, 100] := rfl
theorem sg37 : sigS 37 = [102, 117, 115, 115, 100] := rfl
theorem sg38 : sigS 38 = [108, 115, 117, 120] := rfl
theorem sg39 : sigS 39 = [108, 120, 117, 100] := rfl
theorem sg40 : sigS 40 = [108, 120, 117, 117, 100] := rfl
theorem sg41 : sigS 41 = [120, 117, 100] := rfl
theorem sg42 : sigS 42 = [108, 120, 117] := rfl
theorem sg43 : sigS 43 = [117, 83, 100] := rfl
theorem sg44 : sigS 44 = [117, 83, 100] := rfl
theorem sg45 : sigS 45 = [121, 108] := rfl
theorem sg46 : sigS 46 = [121] := rfl
theorem sg47 : sigS 47 = [121] := rfl
theorem sg48 : sigS 48 = [115, 115] := rfl
theorem sg49 : sigS 49 = [115] := rfl
theorem sg50 : sigS 50 = [115] := rfl
theorem sg51 : sigS 51 = [] := rfl
theorem sig_out {op : Int} (h : op < 1 ∨ 51 < op) : sigS op = [] := by unfold sigS; rw [if_neg (by omega)]
theorem nm_out {op : Int} (h : op < 1 ∨ 51 < op) : nmS op = [] := by unfold nmS; rw [if_neg (by omega)]

set_option maxRecDepth 100000 in
set_option maxHeartbeats 4000000 in
theorem termSig_in (op : Int) (w : World) (hop : op = 4 ∨ op = 17 ∨ op = 18 ∨ op = 19 ∨ op = 20 ∨ op = 34 ∨ op = 35 ∨ op = 36 ∨ op = 37 ∨ op = 38 ∨ op = 39 ∨ op = 40 ∨ op = 41 ∨ op = 42 ∨ op = 43 ∨ op = 44 ∨ op = 3 ∨ op = 11 ∨ op = 51) : Calls Tryd.prog 33 #[.int .i64 op] w fun e w' => e = .returned (strV (sigS op)) ∧ w' = w := by
  rcases hop with rfl | rfl | rfl | rfl | rfl | rfl | rfl | rfl | rfl | rfl | rfl | rfl | rfl | rfl | rfl | rfl | rfl | rfl | rfl
  all_goals
    simp only [strV, sg1, sg2, sg3, sg4, sg5, sg6, sg7, sg8, sg9, sg10, sg11, sg12, sg13, sg14, sg15, sg16, sg17, sg18, sg19, sg20, sg21, sg22, sg23, sg24, sg25, sg26, sg27, sg28, sg29, sg30, sg31, sg32, sg33, sg34, sg35, sg36, sg37, sg38, sg39, sg40, sg41, sg42, sg43, sg44, sg45, sg46, sg47, sg48, sg49, sg50, sg51]
    go_enter Tryd.func33, Tryd.ntmps33
    repeat (first | (with_reducible (first | apply then_exit | apply inb_eq | apply then_normal | apply then_ret | apply inb_ret | apply inb_normal | (refine inb_ne (by decide) ?_))) | go_values | go_skip | go_guarded | go_step | go_upon | go_back | (simp only [Int.not_lt, Int.not_le] at *; go_simp) | (go_values <;> (try go_simp)))
    go_ret
    exact ⟨rfl, rfl⟩
set_option maxRecDepth 100000 in
set_option maxHeartbeats 4000000 in
theorem termSig_out (op : Int) (w : World) (h : op < 1 ∨ 51 < op) : Calls Tryd.prog 33 #[.int .i64 op] w fun e w' => e = .returned (strV []) ∧ w' = w := by
    have n1 : ¬ op = 1 := by omega
    have n2 : ¬ op = 2 := by omega
    have n3 : ¬ op = 3 := by omega
    have n4 : ¬ op = 4 := by omega
    have n5 : ¬ op = 5 := by omega
    have n6 : ¬ op = 6 := by omega
    have n7 : ¬ op = 7 := by omega
    have n8 : ¬ op = 8 := by omega
    have n9 : ¬ op = 9 := by omega
    have n10 : ¬ op = 10 := by omega
    have n11 : ¬ op = 11 := by omega
    have n12 : ¬ op = 12 := by omega
    have n13 : ¬ op = 13 := by omega
    have n14 : ¬ op = 14 := by omega
    have n15 : ¬ op = 15 := by omega
    have n16 : ¬ op = 16 := by omega
    have n17 : ¬ op = 17 := by omega
    have n18 : ¬ op = 18 := by omega
    have n19 : ¬ op = 19 := by omega
    have n20 : ¬ op = 20 := by omega
    have n21 : ¬ op = 21 := by omega
    have n22 : ¬ op = 22 := by omega
    have n23 : ¬ op = 23 := by omega
    have n24 : ¬ op = 24 := by omega
    have n25 : ¬ op = 25 := by omega
    have n26 : ¬ op = 26 := by omega
    have n27 : ¬ op = 27 := by omega
    have n28 : ¬ op = 28 := by omega
    have n29 : ¬ op = 29 := by omega
    have n30 : ¬ op = 30 := by omega
    have n31 : ¬ op = 31 := by omega
    have n32 : ¬ op = 32 := by omega
    have n33 : ¬ op = 33 := by omega
    have n34 : ¬ op = 34 := by omega
    have n35 : ¬ op = 35 := by omega
    have n36 : ¬ op = 36 := by omega
    have n37 : ¬ op = 37 := by omega
    have n38 : ¬ op = 38 := by omega
    have n39 : ¬ op = 39 := by omega
    have n40 : ¬ op = 40 := by omega
    have n41 : ¬ op = 41 := by omega
    have n42 : ¬ op = 42 := by omega
    have n43 : ¬ op = 43 := by omega
    have n44 : ¬ op = 44 := by omega
    have n45 : ¬ op = 45 := by omega
    have n46 : ¬ op = 46 := by omega
    have n47 : ¬ op = 47 := by omega
    have n48 : ¬ op = 48 := by omega
    have n49 : ¬ op = 49 := by omega
    have n50 : ¬ op = 50 := by omega
    have n51 : ¬ op = 51 := by omega
    clear h
    go_enter Tryd.func33, Tryd.ntmps33
    repeat (first | (with_reducible (first | apply then_exit | apply inb_eq | apply then_normal | apply then_ret | apply inb_ret | apply inb_normal | (refine inb_ne (by decide) ?_))) | go_values | go_skip | go_guarded | go_step | go_upon | go_back | (simp only [Int.not_lt, Int.not_le] at *; go_simp) | (go_values <;> (try go_simp)))
    go_ret
    exact ⟨rfl, rfl⟩
set_option maxRecDepth 100000 in
set_option maxHeartbeats 4000000 in
theorem sig_own (op : Int) (w : World) (hop : op = 1 ∨ op = 2 ∨ op = 5 ∨ op = 6 ∨ op = 7 ∨ op = 8 ∨ op = 9 ∨ op = 10 ∨ op = 12 ∨ op = 13 ∨ op = 14 ∨ op = 15 ∨ op = 16 ∨ op = 21 ∨ op = 22 ∨ op = 23 ∨ op = 24 ∨ op = 25 ∨ op = 26 ∨ op = 27 ∨ op = 28 ∨ op = 29 ∨ op = 30 ∨ op = 31 ∨ op = 32 ∨ op = 33 ∨ op = 45 ∨ op = 46 ∨ op = 47 ∨ op = 48 ∨ op = 49 ∨ op = 50) : Calls Tryd.prog 27 #[.int .i64 op] w fun e w' => e = .returned (strV (sigS op)) ∧ w' = w := by
  rcases hop with rfl | rfl | rfl | rfl | rfl | rfl | rfl | rfl | rfl | rfl | rfl | rfl | rfl | rfl | rfl | rfl | rfl | rfl | rfl | rfl | rfl | rfl | rfl | rfl | rfl | rfl | rfl | rfl | rfl | rfl | rfl | rfl
  all_goals
    simp only [strV, sg1, sg2, sg3, sg4, sg5, sg6, sg7, sg8, sg9, sg10, sg11, sg12, sg13, sg14, sg15, sg16, sg17, sg18, sg19, sg20, sg21, sg22, sg23, sg24, sg25, sg26, sg27, sg28, sg29, sg30, sg31, sg32, sg33, sg34, sg35, sg36, sg37, sg38, sg39, sg40, sg41, sg42, sg43, sg44, sg45, sg46, sg47, sg48, sg49, sg50, sg51]
    go_enter Tryd.func27, Tryd.ntmps27
    repeat (first | (with_reducible (first | apply then_exit | apply inb_eq | apply then_normal | apply then_ret | apply inb_ret | apply inb_normal | (refine inb_ne (by decide) ?_))) | go_values | go_skip | go_guarded | go_step | go_upon | go_back | (simp only [Int.not_lt, Int.not_le] at *; go_simp) | (go_values <;> (try go_simp)))
    go_ret
    exact ⟨rfl, rfl⟩
set_option maxRecDepth 100000 in
set_option maxHeartbeats 4000000 in
theorem sig_term (op : Int) (w : World) (hop : op = 4 ∨ op = 17 ∨ op = 18 ∨ op = 19 ∨ op = 20 ∨ op = 34 ∨ op = 35 ∨ op = 36 ∨ op = 37 ∨ op = 38 ∨ op = 39 ∨ op = 40 ∨ op = 41 ∨ op = 42 ∨ op = 43 ∨ op = 44 ∨ op = 3 ∨ op = 11 ∨ op = 51) : Calls Tryd.prog 27 #[.int .i64 op] w fun e w' => e = .returned (strV (sigS op)) ∧ w' = w := by
  have HT : Hid (Calls Tryd.prog 33 #[.int .i64 op] w fun e w' => e = .returned (strV (sigS op)) ∧ w' = w) := termSig_in op w hop
  generalize strV (sigS op) = r at *
  rcases hop with rfl | rfl | rfl | rfl | rfl | rfl | rfl | rfl | rfl | rfl | rfl | rfl | rfl | rfl | rfl | rfl | rfl | rfl | rfl
  all_goals
    go_enter Tryd.func27, Tryd.ntmps27
    repeat (first | (with_reducible (first | apply then_exit | apply inb_eq | apply then_normal | apply then_ret | apply inb_ret | apply inb_normal | (refine inb_ne (by decide) ?_))) | go_values | go_skip | go_guarded | go_step | go_upon | go_back | (simp only [Int.not_lt, Int.not_le] at *; go_simp) | (go_values <;> (try go_simp)))
    refine HT.out.mono ?_
    rintro e w2 ⟨rfl, rfl⟩
    repeat (first | (with_reducible (first | apply then_exit | apply inb_eq | apply then_normal | apply then_ret | apply inb_ret | apply inb_normal | (refine inb_ne (by decide) ?_))) | go_values | go_skip | go_guarded | go_step | go_upon | go_back | (simp only [Int.not_lt, Int.not_le] at *; go_simp) | (go_values <;> (try go_simp)))
    go_ret
    exact ⟨rfl, rfl⟩
set_option maxRecDepth 100000 in
set_option maxHeartbeats 4000000 in
theorem sig_no (op : Int) (w : World) (h : op < 1 ∨ 51 < op) : Calls Tryd.prog 27 #[.int .i64 op] w fun e w' => e = .returned (strV []) ∧ w' = w := by
    have HT : Hid (Calls Tryd.prog 33 #[.int .i64 op] w fun e w' => e = .returned (strV []) ∧ w' = w) := termSig_out op w h
    generalize strV [] = r at *
    have n1 : ¬ op = 1 := by omega
    have n2 : ¬ op = 2 := by omega
    have n3 : ¬ op = 3 := by omega
    have n4 : ¬ op = 4 := by omega
    have n5 : ¬ op = 5 := by omega
    have n6 : ¬ op = 6 := by omega
    have n7 : ¬ op = 7 := by omega
    have n8 : ¬ op = 8 := by omega
    have n9 : ¬ op = 9 := by omega
    have n10 : ¬ op = 10 := by omega
    have n11 : ¬ op = 11 := by omega
    have n12 : ¬ op = 12 := by omega
    have n13 : ¬ op = 13 := by omega
    have n14 : ¬ op = 14 := by omega
    have n15 : ¬ op = 15 := by omega
    have n16 : ¬ op = 16 := by omega
    have n17 : ¬ op = 17 := by omega
    have n18 : ¬ op = 18 := by omega
    have n19 : ¬ op = 19 := by omega
    have n20 : ¬ op = 20 := by omega
    have n21 : ¬ op = 21 := by omega
    have n22 : ¬ op = 22 := by omega
    have n23 : ¬ op = 23 := by omega
    have n24 : ¬ op = 24 := by omega
    have n25 : ¬ op = 25 := by omega
    have n26 : ¬ op = 26 := by omega
    have n27 : ¬ op = 27 := by omega
    have n28 : ¬ op = 28 := by omega
    have n29 : ¬ op = 29 := by omega
    have n30 : ¬ op = 30 := by omega
    have n31 : ¬ op = 31 := by omega
    have n32 : ¬ op = 32 := by omega
    have n33 : ¬ op = 33 := by omega
    have n34 : ¬ op = 34 := by omega
    have n35 : ¬ op = 35 := by omega
    have n36 : ¬ op = 36 := by omega
    have n37 : ¬ op = 37 := by omega
    have n38 : ¬ op = 38 := by omega
    have n39 : ¬ op = 39 := by omega
    have n40 : ¬ op = 40 := by omega
    have n41 : ¬ op = 41 := by omega
    have n42 : ¬ op = 42 := by omega
    have n43 : ¬ op = 43 := by omega
    have n44 : ¬ op = 44 := by omega
    have n45 : ¬ op = 45 := by omega
    have n46 : ¬ op = 46 := by omega
    have n47 : ¬ op = 47 := by omega
    have n48 : ¬ op = 48 := by omega
    have n49 : ¬ op = 49 := by omega
    have n50 : ¬ op = 50 := by omega
    have n51 : ¬ op = 51 := by omega
    clear h
    go_enter Tryd.func27, Tryd.ntmps27
    repeat (first | (with_reducible (first | apply then_exit | apply inb_eq | apply then_normal | apply then_ret | apply inb_ret | apply inb_normal | (refine inb_ne (by decide) ?_))) | go_values | go_skip | go_guarded | go_step | go_upon | go_back | (simp only [Int.not_lt, Int.not_le] at *; go_simp) | (go_values <;> (try go_simp)))
    refine HT.out.mono ?_
    rintro e w2 ⟨rfl, rfl⟩
    repeat (first | (with_reducible (first | apply then_exit | apply inb_eq | apply then_normal | apply then_ret | apply inb_ret | apply inb_normal | (refine inb_ne (by decide) ?_))) | go_values | go_skip | go_guarded | go_step | go_upon | go_back | (simp only [Int.not_lt, Int.not_le] at *; go_simp) | (go_values <;> (try go_simp)))
    go_ret
    exact ⟨rfl, rfl⟩
theorem sig_any (op : Int) (w : World) : Calls Tryd.prog 27 #[.int .i64 op] w fun e w' => e = .returned (strV (sigS op)) ∧ w' = w := by
  by_cases h : op < 1 ∨ 51 < op
  · rw [sig_out h]
    exact sig_no op w h
  · have hall : op = 1 ∨ op = 2 ∨ op = 3 ∨ op = 4 ∨ op = 5 ∨ op = 6 ∨ op = 7 ∨ op = 8 ∨ op = 9 ∨ op = 10 ∨ op = 11 ∨ op = 12 ∨ op = 13 ∨ op = 14 ∨ op = 15 ∨ op = 16 ∨ op = 17 ∨ op = 18 ∨ op = 19 ∨ op = 20 ∨ op = 21 ∨ op = 22 ∨ op = 23 ∨ op = 24 ∨ op = 25 ∨ op = 26 ∨ op = 27 ∨ op = 28 ∨ op = 29 ∨ op = 30 ∨ op = 31 ∨ op = 32 ∨ op = 33 ∨ op = 34 ∨ op = 35 ∨ op = 36 ∨ op = 37 ∨ op = 38 ∨ op = 39 ∨ op = 40 ∨ op = 41 ∨ op = 42 ∨ op = 43 ∨ op = 44 ∨ op = 45 ∨ op = 46 ∨ op = 47 ∨ op = 48 ∨ op = 49 ∨ op = 50 ∨ op = 51 := by omega
    by_cases h2 : op = 4 ∨ op = 17 ∨ op = 18 ∨ op = 19 ∨ op = 20 ∨ op = 34 ∨ op = 35 ∨ op = 36 ∨ op = 37 ∨ op = 38 ∨ op = 39 ∨ op = 40 ∨ op = 41 ∨ op = 42 ∨ op = 43 ∨ op = 44 ∨ op = 3 ∨ op = 11 ∨ op = 51
    · exact sig_term op w h2
    · exact sig_own op w (by omega)
end Go.Proofs.YtfjibcldghnjcaaDoor
