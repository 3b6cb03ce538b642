/-
  compact: put of a list; Put.
-/
import Derived.Test.YtfjibcldghnjcaaDoorZCpD
namespace Go.Proofs.YtfjibcldghnjcaaDoor
open Go.RowKit
set_option linter.unusedVariables false
set_option linter.unusedSimpArgs false

/-- What stands behind how many. -/
def elsB (l : List El) : List UInt8 := (l.map fun x => sglB x.t x.n).flatten
theorem elsB_step (l : List El) (k : Nat) (hk : k < l.length) : elsB (l.take (k + 1)) = elsB (l.take k) ++ sglB l[k].t l[k].n := by
  unfold elsB
  rw [List.take_succ_eq_append_getElem hk, List.map_append, List.flatten_append]
  simp
theorem num_len {t n : Int} : (numB t n).length ≤ 9 := by
  unfold numB
  split
  · simp
  · split
    · simp
    · have := sz_ge t n
      simp only [List.length_cons, dnB_len]
      omega
theorem sgl_len {t n : Int} : (sglB t n).length ≤ 10 := by
  unfold sglB
  split
  · have := @num_len 0 n
    simp only [List.length_cons]; omega
  · have := @num_len t n; omega
theorem els_len : ∀ (l : List El), (elsB l).length ≤ 10 * l.length
  | [] => by simp [elsB]
  | x :: r => by
    have h := els_len r
    have h1 := @sgl_len x.t x.n
    have e : elsB (x :: r) = sglB x.t x.n ++ elsB r := by simp [elsB]
    rw [e, List.length_append, List.length_cons]
    omega

set_option maxRecDepth 100000 in
theorem step_append_rb {ops : Array Oper} {o : Oper} {a : Act} {w : World} {K : Act → World → Prop} {Q : Exit → Act → World → Prop} {E : Prop}
    (hg : o.guard = none) (s x : Operand) (hop : o.op = Op.call { callee := Callee.builtin Builtin.append, args := #[s, x], argTypes := #[42, 42] })
    (base : Nat) (v : Value) (l : List UInt8) (hs : a.eval s = v) (h : RB w base v l) (hl : l.length ≤ 1000000000) (hb : base ≤ w.heap.size)
    (ad : Addr) (m c : Nat) (news : List UInt8) (hx : a.eval x = .slice (some ad) m c) (h0 : 0 < m) (hm : m ≤ 1000000000) (hn : news.length = m) (hc : ∀ j u, (bv news)[j]? = some u → w.cell? (ad.add j) = some u)
    (hK : ∀ v' w', OB w' base v' (l ++ news) → (∀ B W, B ≤ w.heap.size → B ≤ base → Below B W w → Below B W w') → Keep w w' → K (a.put o.dst v') w') :
    if Region.wanted o (yielded ops a.tmps) = true then Oper.wp Tryd.prog o a w K Q else E := by
  have hw : Region.wanted o (yielded ops a.tmps) = true := by simp [Region.wanted, hg]
  rw [if_pos hw]
  obtain ⟨v', w', hrun, r1, r2, r3⟩ := run_append_rb w base o.type v l h hl hb ad m c news h0 hm hn hc
  unfold Oper.wp
  simp [execOp, hop, resolve, invoke, builtin, hs, hx, hrun, Result.andThen]
  exact hK v' w' r1 r2 r3

set_option maxRecDepth 100000 in
set_option maxHeartbeats 2000000 in
theorem put_list (W0 : World) (v : Value) (l : List UInt8) (n : Int) (a : Option Addr) (c : Nat) (L : List El) (w : World) (hW : Below W0.heap.size W0 w) (h : RB w W0.heap.size v l) (hl : l.length ≤ 80000000) (hc : (c : Int) ≤ 9223372036854775807) (hcl : L.length ≤ c)
    (hL : Rw3 W0 (.slice a L.length c) L) (h40 : L.length ≤ 40) (hok : L.all El.ok1 = true) :
    Calls Tryd.prog 25 #[v, agV 7 n (.slice a L.length c)] w fun e w' => PutS W0 w l (23 :: (numB 0 (L.length : Int) ++ elsB L)) e w' := by
  unfold agV
  have hb1 := (Below.refl w.heap.size w).alloc (Nat.le_refl _) (.cells #[.int .i64 7, .int .i64 n, .slice a L.length c] 30)
  have h1 : RB (w.alloc (.cells #[.int .i64 7, .int .i64 n, .slice a L.length c] 30)) W0.heap.size v l := h.under hb1
  have hsz := hW.size
  have HX : Hid (BxA (w.alloc (.cells #[.int .i64 7, .int .i64 n, .slice a L.length c] 30)) w.heap.size 7 n (.slice a L.length c)) := BxA.new w 7 n _
  have HW1 : Hid (Below W0.heap.size W0 (w.alloc (.cells #[.int .i64 7, .int .i64 n, .slice a L.length c] 30))) := hW.alloc hW.size _
  have HK1 : Hid (Keep w (w.alloc (.cells #[.int .i64 7, .int .i64 n, .slice a L.length c] 30))) := Keep.alloc _ _
  have HL : Hid (Rw3 W0 (.slice a L.length c) L) := hL
  have HO : Hid (L.all El.ok1 = true) := hok
  have HH1 : Hid (RB (w.alloc (.cells #[.int .i64 7, .int .i64 n, .slice a L.length c] 30)) W0.heap.size v l) := h1
  clear hb1 h1 h hL hok
  obtain ⟨c0, c1, c2, -⟩ := HX.out.facts
  have hp := okP_len h40
  go_enter Tryd.func25, Tryd.ntmps25
  go_wp2_with fail
  generalize w.alloc (.cells #[.int .i64 7, .int .i64 n, .slice a L.length c] 30) = w1 at *
  have hglt := HX.out.lt
  generalize w.heap.size = g at *
  have hs1 := HW1.out.size
  have bA : Below w1.heap.size w1 (w1.drew.alloc (.cells #[.int .u8 23] 5)) := (Below.refl _ _).drew.alloc (by exact Nat.le_refl _) _
  have hRA : RB (w1.drew.alloc (.cells #[.int .u8 23] 5)) W0.heap.size v l := RB.under HH1.out bA
  have hNA := byte_new w1.drew 23 23 rfl
  have hWA : Below W0.heap.size W0 (w1.drew.alloc (.cells #[.int .u8 23] 5)) := HW1.out.trans (bA.mono HW1.out.size)
  have hXA := HX.out.under bA
  have HRA : Hid (RB (w1.drew.alloc (.cells #[.int .u8 23] 5)) W0.heap.size v l) := hRA
  have HNA : Hid _ := hNA
  have HWA : Hid (Below W0.heap.size W0 (w1.drew.alloc (.cells #[.int .u8 23] 5))) := hWA
  have HKA : Hid (Keep w1 (w1.drew.alloc (.cells #[.int .u8 23] 5))) := Keep.below bA
  have HXA : Hid (BxA (w1.drew.alloc (.cells #[.int .u8 23] 5)) g 7 n (.slice a L.length c)) := hXA
  have hsA : W0.heap.size ≤ (w1.drew.alloc (.cells #[.int .u8 23] 5)).heap.size := hWA.size
  have HSA : Hid _ := hsA
  clear bA hRA hNA hWA hXA hsA
  go_cut [0] from 15 (fun s0 wc => Hid (CpRow W0 w1 (l ++ [23] ++ numB 0 (L.length : Int)) s0 wc))
  case first =>
    go_region_law (first
      | (refine step_append_rb rfl (.tmp 15) (.tmp 16) rfl W0.heap.size v l (by simp [Act.eval, Act.put]) HRA.out (by omega) HSA.out ⟨w1.drew.heap.size, 0, none⟩ 1 1 [23] (by simp [Act.eval, Act.put]) (by omega) (by omega) rfl HNA.out ?_; intro v2 w2 o2 g2 k2; have hW2 : Below W0.heap.size W0 w2 := g2 _ _ HSA.out (Nat.le_refl _) HWA.out; obtain ⟨e0, e1, e2, -⟩ := (HXA.out.keep k2).facts)
      | (go_simp; go_at_call 32; refine (putNumber_any W0 v2 _ 0 (L.length : Int) _ hW2 (.inl o2) (by simp; omega) hp).mono ?_; rintro e w3 ⟨v3, rfl, o3, hW3, k3⟩))
    all_goals
      go_wp2_with fail
      go_meet
      case rel => exact ⟨by exact o3, hW3, (HKA.out.trans k2).trans k3⟩
  case rest =>
    have hcut' := hcut
    obtain ⟨ro, rw0, rk⟩ := hcut'.out
    obtain ⟨d0, d1, d2, -⟩ := (HX.out.keep rk).facts
    clear HRA HNA HWA HKA HXA HSA HH1 c0 c1 c2 ro rw0 rk
    have HC : Hid (CpRow W0 w1 (l ++ [23] ++ numB 0 (L.length : Int) ++ elsB (L.take 0)) u0 wc) := by simpa [elsB] using hcut
    have hnl := @num_len 0 (L.length : Int)
    clear hcut hcut'
    go_wp2_with fail
    clear d0 d1 d2
    go_loopg [0, 25] L.length (fun gk s0 s25 wr => ∃ k : Nat, k + gk = L.length ∧ s25 = .int .i64 (k : Int) ∧ Hid (CpRow W0 w1 (l ++ [23] ++ numB 0 (L.length : Int) ++ elsB (L.take k)) s0 wr))
    case atStart => exact ⟨0, by omega, rfl, HC⟩
    case round =>
      obtain ⟨k, hk, rfl, hrow⟩ := hrel
      cases gk with
      | zero =>
        obtain rfl : k = L.length := by omega
        go_wp2_with fail
        go_ret
        obtain ⟨ro, rw0, rk⟩ := hrow.out
        exact ⟨_, rfl, by simpa using ro, rw0, HK1.out.trans rk⟩
      | succ g' =>
        obtain ⟨ro, rw0, rk⟩ := hrow.out
        obtain ⟨b, off, rfl, hlt, ⟨c0, c1, c2⟩, hft⟩ := (HL.out.under rw0).at k (by omega)
        have hkl : (k : Int) < (L.length : Int) := by omega
        have hkL : k < L.length := by omega
        have HE : Hid (elsB (L.take (k + 1)) = elsB (L.take k) ++ sglB L[k].t L[k].n) := elsB_step L k hkL
        have hok := List.all_eq_true.1 HO.out _ (List.getElem_mem hkL)
        have hel := els_len (L.take k)
        have hlen : (l ++ [23] ++ numB 0 (L.length : Int) ++ elsB (L.take k)).length ≤ 90000000 := by
          simp only [List.length_append, List.length_cons, List.length_nil]
          have : (L.take k).length ≤ 40 := by simp; omega
          omega
        obtain ⟨y, hy⟩ : ∃ y, y = L[k] := ⟨_, rfl⟩
        rw [← hy] at c0 c1 c2 hft hok HE
        clear hy
        obtain ⟨X, hX⟩ : ∃ X, X = l ++ [23] ++ numB 0 (L.length : Int) ++ elsB (L.take k) := ⟨_, rfl⟩
        have HX2 : Hid (l ++ [23] ++ numB 0 (L.length : Int) ++ elsB (L.take (k + 1)) = X ++ sglB y.t y.n) := by unfold Hid; rw [HE.out, hX]; simp
        rw [← hX] at ro hlen
        have HOK : Hid (y.ok1 = true) := hok
        have HFT : Hid (El.fit y) := hft
        have HPS : Hid (∀ W : World, Below W0.heap.size W0 W → RB W W0.heap.size u0 X → Calls Tryd.prog 25 #[u0, agV y.t y.n y.sl] W fun e w' => PutS W0 W X (sglB y.t y.n) e w') := fun W h1 h2 => put_single W0 u0 X y W h1 h2 hlen HFT.out HOK.out
        have HBX : Hid (∀ o, OB (wr.alloc o) W0.heap.size u0 X) := fun o => ro.under ((Below.refl _ _).alloc (Nat.le_refl _) o)
        have HWX : Hid (∀ o, Below W0.heap.size W0 (wr.alloc o)) := fun o => rw0.alloc rw0.size o
        have HKX : Hid (∀ o, Keep w1 (wr.alloc o)) := fun o => rk.trans (Keep.alloc _ _)
        obtain ⟨t, n', sa, m, sc⟩ := y
        unfold El.fit at hft
        unfold El.sl at c2
        unfold El.sl agV at HPS
        dsimp only at c0 c1 c2 hft HPS HX2
        clear hok HFT HOK HE hX hrow ro rw0 rk HC
        have hcap : (k : Int) < (c : Int) := by omega
        go_wp2_with fail
        refine (HPS.out _ (HWX.out _) (.inl (HBX.out _))).mono ?_
        rintro e w3 ⟨v3, rfl, o3, hW3, k3⟩
        have HG : Hid (CpRow W0 w1 (l ++ [23] ++ numB 0 (L.length : Int) ++ elsB (L.take (k + 1))) v3 w3) := ⟨by rw [HX2.out]; exact o3, hW3, (HKX.out _).trans k3⟩
        clear o3 hW3 k3 HPS HWX HBX HKX HX2
        go_wp2_with fail
        go_roundg g'
        case measure => omega
        case rel => exact ⟨k + 1, by omega, by go_num, HG⟩
end Go.Proofs.YtfjibcldghnjcaaDoor
