import Derived.Test.YtfjibcldghnjcaaDoorZCdA
import Derived.Test.YtfjibcldghnjcaaDoorCpGet
import Derived.Deep.AppendLies
import Derived.Deep.CutRange
import Derived.Deep.CutBlock

/-
  code: instruction.
-/
namespace Go.Proofs.YtfjibcldghnjcaaDoor
open Go.RowKit
set_option linter.unusedVariables false
set_option linter.unusedSimpArgs false

theorem results_i3 {fn : Func} {q u u' : Tmp} (h : fn.results = #[.cell q 27, .tmp u, .tmp u']) (tmps : Array Value) (w : World) (g : Nat) (op : Int) (sl : Value) (hq : tmps.getD q undef = .pointer (some ⟨g, 0, none⟩)) (hb : BxI w g op sl) :
    (results fn tmps).run Tryd.prog w = .ok (.tuple #[.agg #[.int .i64 op, sl], tmps.getD u undef, tmps.getD u' undef]) w := by
  have hl := ins_load hb
  simp only [Array.getD_eq_getD_getElem?] at hq
  simp only [results, h]
  simp [hq, asAddr, hl]
/-- What instruction answers. -/
def InsPost (w : World) (p : Nat) (R : Int × In × Nat) (e : Ending) (w' : World) : Prop :=
  ∃ sl, e = .returned (.tuple #[.agg #[.int .i64 R.2.1.op, sl], .int .i64 (if R.1 = 0 then ((p + R.2.2 : Nat) : Int) else 0), .int .i64 R.1]) ∧ GsQ w' (fun b => w.heap.size ≤ b) sl R.2.1.K ∧ Below w.heap.size w w'
theorem InsPost.bad {w : World} {p : Nat} {k : Int} {w' : World} (hk : k ≠ 0) (ho : Below w.heap.size w w') : InsPost w p (k, In.zero, 0) (.returned (.tuple #[.agg #[.int .i64 0, .slice none 0 0], .int .i64 0, .int .i64 k])) w' :=
  ⟨_, by dsimp only; rw [if_neg hk]; rfl, GsQ.nil _ _, ho⟩
theorem drop_byte {l : List UInt8} {p : Nat} (hp : p < l.length) : (l.drop p).length ≠ 0 ∧ (l.drop p).getD 0 0 = l.getD p 0 ∧ (l.drop p).drop 1 = l.drop (p + 1) := by
  refine ⟨by simp; omega, by simp [List.getD], by rw [List.drop_drop]⟩
set_option maxRecDepth 100000 in
set_option maxHeartbeats 4000000 in
theorem instruction_any (w : World) (v : Value) (l : List UInt8) (p : Nat) (hN : Nam w) (hS : Spn w) (hv : By w v l) (hp : p ≤ l.length) :
    Calls Tryd.prog 19 #[v, .int .i64 (p : Int)] w (InsPost w p (insR (l.drop p))) := by
  obtain ⟨i0, hi, hz0, hz1, hz2⟩ := info_parts Tryd.infoArg
  obtain ⟨R, hR⟩ : ∃ R, insR (l.drop p) = R := ⟨_, rfl⟩
  have HR : Hid (insR (l.drop p) = R) := hR
  rw [hR]; clear hR
  obtain ⟨av, cap, rfl, hc1, hc2, hc3⟩ := hv.shape
  have bA := box_below w #[.int .i64 0, .slice none 0 0] 27
  have HB1 : Hid (Below w.heap.size w (w.alloc (.cells #[.int .i64 0, .slice none 0 0] 27))) := bA
  have HX1 : Hid (BxI (w.alloc (.cells #[.int .i64 0, .slice none 0 0] 27)) w.heap.size 0 (.slice none 0 0)) := BxI.new w 0 _
  have HV1 : Hid (By (w.alloc (.cells #[.int .i64 0, .slice none 0 0] 27)) (.slice av l.length cap) l) := hv.under bA
  have HS1 : Hid (Spn (w.alloc (.cells #[.int .i64 0, .slice none 0 0] 27))) := hS.under bA
  have HN1 : Hid (Nam (w.alloc (.cells #[.int .i64 0, .slice none 0 0] 27))) := hN.under bA
  have hz1w : (w.alloc (.cells #[.int .i64 0, .slice none 0 0] 27)).heap.size = w.heap.size + 1 := by simp
  clear bA hS hN hv
  have hcp : (cap : Int) ≤ 9223372036854775807 := hc2
  by_cases hpl : p = l.length
  · subst hpl
    have HE : Hid (R = (3, In.zero, 0)) := by unfold Hid; rw [← HR.out]; unfold insR; rw [if_pos (by simp)]
    obtain ⟨e0, e1, f0, f1⟩ := HX1.out.stor
    clear HR hz1w
    go_enter Tryd.func19, Tryd.ntmps19
    go_wp2_with fail
    refine bodyPost_ret (results_i3 rfl _ _ w.heap.size 0 (.slice none 0 0) rfl HX1.out) rfl ?_
    rw [HE.out]
    exact InsPost.bad (by decide) HB1.out
  have hpl' : p < l.length := by omega
  have hpi : ((p : Int) == (l.length : Int)) = false := by simp; omega
  obtain ⟨hd1, hd2, hd3⟩ := drop_byte hpl'
  obtain ⟨f, hf⟩ : ∃ f, l.getD p 0 = f := ⟨_, rfl⟩
  rw [hf] at hd2
  obtain ⟨b, off, rfl, hlt, hczA⟩ := HV1.out.at p hpl'
  have hcz := hczA p hpl'
  rw [hf] at hcz
  clear hczA
  have hfb := f.toNat_lt
  obtain ⟨op, hop⟩ : ∃ op, op = (f.toNat : Int) := ⟨_, rfl⟩
  have hop0 : 0 ≤ op := by omega
  have hop1 : op ≤ 255 := by omega
  rw [← hop] at hcz
  have HRE : Hid (R = if nmS op = [] then (9, In.zero, 0) else if (argsR (sigS op).length (l.drop (p + 1))).1 ≠ 0 then ((argsR (sigS op).length (l.drop (p + 1))).1, In.zero, 0)
      else if fitsI op (argsR (sigS op).length (l.drop (p + 1))).2.1 = true then (0, ⟨op, (argsR (sigS op).length (l.drop (p + 1))).2.1⟩, 1 + (argsR (sigS op).length (l.drop (p + 1))).2.2) else (10, In.zero, 0)) := by
    unfold Hid
    rw [← HR.out]
    unfold insR
    rw [if_neg hd1, hd2, hd3, ← hop]
  clear HR hd1 hd2 hd3 hf hop hfb
  generalize hw1d : w.alloc (.cells #[.int .i64 0, .slice none 0 0] 27) = w1 at *
  have HST0 : Hid (InSt w1 [] op w1.heap.size (.slice none 0 0) [] (w1.alloc (.cells #[.int .i64 op, .slice none 0 0] 27))) :=
    ⟨BxI.new _ _ _, Nat.le_refl _, AOwn.nil _ _, rfl, fun x hx => absurd hx (by simp), fun e => (by cases e), fun i h => absurd h (by simp), box_below _ _ _⟩
  have hkl : (p : Int) < (l.length : Int) := by omega
  have hkc : (p : Int) < (cap : Int) := by omega
  obtain ⟨e0, e1, f0, f1⟩ := HX1.out.stor
  have hgw : w.heap.size < w1.heap.size := by omega
  clear hz1w
  generalize hgd : w.heap.size = g0 at *
  have HNM : Hid (∀ W, Below w1.heap.size w1 W → Calls Tryd.prog 26 #[.int .i64 op] W fun e w' => e = .returned (strV (nmS op)) ∧ w' = W) := fun W hW => name_any op W (HN1.out.under hW)
  have HSG : Hid (∀ W, Calls Tryd.prog 27 #[.int .i64 op] W fun e w' => e = .returned (strV (sigS op)) ∧ w' = W) := fun W => sig_any op W
  unfold strV at HNM HSG
  obtain ⟨nb, hnb⟩ : ∃ nb, decide (nmS op = []) = nb := ⟨_, rfl⟩
  have hne : (⟨(nmS op).toArray⟩ : ByteArray).toList.isEmpty = nb := by
    rw [tl_eq, ← hnb]
    cases nmS op <;> simp
  have HNB : Hid (decide (nmS op = []) = nb) := hnb
  clear hnb
  generalize (⟨(nmS op).toArray⟩ : ByteArray) = ns at *
  go_enter Tryd.func19, Tryd.ntmps19
  go_wp2_with fail
  obtain ⟨d0, d1, dg0, dg1⟩ := HST0.out.1.stor
  have HBB := box_below w1 #[.int .i64 op, .slice none 0 0] 27
  have HX2 : Hid (BxI (w1.alloc (.cells #[.int .i64 op, .slice none 0 0] 27)) g0 0 (.slice none 0 0)) := HX1.out.under HBB
  clear hcz
  go_wp2_with fail
  refine (HNM.out _ HBB).mono ?_
  rintro e w3 ⟨rfl, rfl⟩
  clear HNM
  generalize hw2d : w1.alloc (.cells #[.int .i64 op, .slice none 0 0] 27) = w2 at *
  generalize hgx : w1.heap.size = gx at *
  have HB2 : Hid (Below g0 w w2) := HB1.out.trans (HBB.mono (by omega))
  cases nb
  case true =>
    have h9 : nmS op = [] := of_decide_eq_true HNB.out
    have HE : Hid (R = (9, In.zero, 0)) := by unfold Hid; rw [HRE.out, if_pos h9]
    clear HRE h9 d0 d1 dg0 dg1 e0 e1 f0 f1
    obtain ⟨e0, e1, f0, f1⟩ := HX2.out.stor
    go_wp2_with fail
    refine bodyPost_ret (results_i3 rfl _ _ g0 0 (.slice none 0 0) rfl (HX2.out.set 0 _)) rfl ?_
    rw [HE.out]
    refine InsPost.bad (by decide) ?_
    rw [hgd]
    exact setI_below HB2.out (Nat.le_refl _) _ _
  case false =>
    have h9 : ¬ nmS op = [] := of_decide_eq_false HNB.out
    obtain ⟨M, hM⟩ : ∃ M, M = (sigS op).length := ⟨_, rfl⟩
    obtain ⟨Y, hY⟩ : ∃ Y, argsR M (l.drop (p + 1)) = Y := ⟨_, rfl⟩
    have HRY : Hid (R = if Y.1 ≠ 0 then (Y.1, In.zero, 0) else if fitsI op Y.2.1 = true then (0, ⟨op, Y.2.1⟩, 1 + Y.2.2) else (10, In.zero, 0)) := by
      unfold Hid; rw [HRE.out, if_neg h9, ← hM, hY]
    have HY : Hid (argsR M (l.drop (p + 1)) = Y) := hY
    have hM6 : M ≤ 6 := by rw [hM]; exact sig_len op
    have hs : (⟨(sigS op).toArray⟩ : ByteArray).size = M := by rw [hM]; simp [ByteArray.size]
    generalize (⟨(sigS op).toArray⟩ : ByteArray) = ss at *
    have hsi : (ss.size : Int) = (M : Int) := by omega
    clear HRE h9 hM hY HNB hs e0 e1 f0 f1 HBB hpi hkl hkc
    go_wp2_with fail
    refine (HSG.out _).mono ?_
    rintro e w4 ⟨rfl, rfl⟩
    go_wp2_with fail
    clear HSG d0 d1 dg0 dg1
    go_loopg [1, 33] M (fun gk s1 s33 wr => ∃ (k q : Nat) (A : List Ag) (L : List El) (p3 : Option Addr) (c3 : Nat), k + gk = M ∧ L.length = k ∧ s33 = .int .i64 (k : Int) ∧ s1 = .int .i64 ((p + 1 + q : Nat) : Int) ∧ p + 1 + q ≤ l.length ∧ Hid (InSt w1 A op gx (.slice p3 k c3) L wr) ∧ Hid (cmbA A q (argsR gk (l.drop (p + 1 + q))) = Y))
    case atStart =>
      refine ⟨0, 0, [], [], none, 0, by omega, rfl, rfl, ?_, by omega, HST0.out, ?_⟩
      · first | rfl | go_num | (simp; done)
      · unfold Hid; rw [cmbA_nil]; exact HY.out
    case round =>
      obtain ⟨k, q, A, L, p3, c3, hk, hL, rfl, rfl, hq, HST, HCM⟩ := hrel
      have HBI : Hid (Below gx w1 wr) := by have := HST.out.2.2.2.2.2.2.2; rw [hgx] at this; exact this
      have HX4 : Hid (BxI wr g0 0 (.slice none 0 0)) := HX1.out.under (by rw [hgx]; exact HBI.out)
      have HBR : Hid (Below g0 w wr) := HB1.out.trans (HBI.out.mono (by omega))
      have hwr : gx ≤ wr.heap.size := by have := HBI.out.size; omega
      clear HST0 HX2 HB2
      cases gk with
      | zero =>
        obtain rfl : k = M := by omega
        obtain ⟨r, hr⟩ : ∃ r, fitsI op A = r := ⟨_, rfl⟩
        have HYE : Hid (Y = (0, A, q)) := by unfold Hid; rw [← HCM.out]; exact cmbA_done _ _ _
        have HRE : Hid (R = if r = true then (0, ⟨op, A⟩, 1 + q) else (10, In.zero, 0)) := by unfold Hid; rw [HRY.out, HYE.out, ← hr]; simp
        have HFT : Hid (Calls Tryd.prog 20 #[.agg #[.int .i64 op, .slice p3 k c3]] wr (RBool r wr)) := by
          have := Fits_any op A _ wr HST.out.gs.gs
          rw [hr] at this; exact this
        obtain ⟨x0, x1, -⟩ := HST.out.1.facts
        clear HRY HYE HCM HY hr
        go_wp2_with fail
        refine HFT.out.mono ?_
        rintro e w5 ⟨rfl, b5⟩
        have HX5 : Hid (BxI w5 g0 0 (.slice none 0 0)) := HX4.out.under b5
        have HST5 : Hid (InSt w1 A op gx (.slice p3 k c3) L w5) := HST.out.under b5
        have HB5 : Hid (Below g0 w w5) := HBR.out.trans (b5.mono (by omega))
        clear b5 HFT HX4 HST HBR x0 x1
        obtain ⟨e0, e1, f0, f1⟩ := HX5.out.stor
        cases r
        · have HE : Hid (R = (10, In.zero, 0)) := by unfold Hid; rw [HRE.out]; rfl
          clear HRE
          go_wp2_with fail
          refine bodyPost_ret (results_i3 rfl _ _ g0 0 (.slice none 0 0) rfl (HX5.out.set 0 _)) rfl ?_
          rw [HE.out]
          refine InsPost.bad (by decide) ?_
          rw [hgd]
          exact setI_below HB5.out (Nat.le_refl _) _ _
        · have HE : Hid (R = (0, ⟨op, A⟩, 1 + q)) := by unfold Hid; rw [HRE.out]; rfl
          clear HRE
          obtain ⟨x0, x1, -⟩ := HST5.out.1.facts
          go_wp2_with fail
          refine bodyPost_ret (results_i3 rfl _ _ g0 op (.slice p3 k c3) rfl (HX5.out.set op _)) rfl ?_
          rw [HE.out]
          have hlt5 : g0 < w5.heap.size := (Array.getElem?_eq_some_iff.1 HX5.out).1
          have hst := HST5.out.gs
          rw [hgx] at hst
          refine ⟨.slice p3 k c3, ?_, ?_, by rw [hgd]; exact setI_below HB5.out (Nat.le_refl _) _ _⟩
          · dsimp only
            rw [if_pos rfl, show p + (1 + q) = p + 1 + q by omega]
            rfl
          · refine hst.move (by simp [setBxI, World.setCell]) (fun b hP _ => setI_block _ _ _ _ _ (by omega)) (fun b hP _ => by omega)
      | succ gk' =>
        have hki : (k : Int) < (k : Int) + ((gk' + 1 : Nat) : Int) := by omega
        have hkM : (k : Int) < (M : Int) := by omega
        obtain ⟨O, hO⟩ : ∃ O, opR (l.drop (p + 1 + q)) = O := ⟨_, rfl⟩
        obtain ⟨oe, oa, on⟩ := O
        have hG : getS l ((p + 1 + q : Nat) : Int) = if oe = 0 then (oa, ((p + 1 + q + on : Nat) : Int), 0) else (Ar.zero, 0, oe) := by
          unfold getS
          rw [if_neg (by omega), Int.toNat_natCast, hO]
          simp only [Int.natCast_add]
        have HGET : Hid (Calls Tryd.prog 28 #[.slice (some ⟨b, off, none⟩) l.length cap, .int .i64 ((p + 1 + q : Nat) : Int)] wr (fun e w' => GetPost wr (if oe = 0 then (oa, ((p + 1 + q + on : Nat) : Int), 0) else (Ar.zero, 0, oe)) e w')) := by
          have := get_any wr _ l ((p + 1 + q : Nat) : Int) (HS1.out.under (by rw [hgx]; exact HBI.out)) (HV1.out.under (by rw [hgx]; exact HBI.out))
          rw [hG] at this; exact this
        have HOO : Hid (opR (l.drop (p + 1 + q)) = (oe, oa, on)) := hO
        obtain ⟨N, hN⟩ : ∃ N, N = p + 1 + q := ⟨_, rfl⟩
        have HNN : Hid (N = p + 1 + q) := hN
        rw [← hN] at HGET
        rw [← hN]
        clear hG hO hN HV1 HS1 HN1 hki
        by_cases hO1 : oe = 0
        · subst hO1
          obtain ⟨q1, q2, q3, q4⟩ := op_read (l := l.drop (p + 1 + q)) (by rw [HOO.out])
          rw [HOO.out] at q1 q2 q3 q4
          dsimp only at q1 q2 q3 q4
          have hq4 : p + 1 + (q + on) ≤ l.length := by rw [List.length_drop] at q4; omega
          have HOK : Hid (oa.ok = true) := q1
          have HCM2 : Hid (cmbA (A ++ [oa.ag]) (q + on) (argsR gk' (l.drop (p + 1 + (q + on)))) = Y) := by
            unfold Hid
            rw [← HCM.out, cmbA_step _ _ _ _ (by rw [HOO.out]), HOO.out, List.drop_drop, show p + 1 + (q + on) = p + 1 + q + on by omega]
          rw [if_pos rfl] at HGET
          have HON : Hid (N + on = p + 1 + (q + on)) := by have := HNN.out; unfold Hid; omega
          clear q1 q2 q3 q4 HOO HCM HY HRY HNN
          have hown := HST.out.2.2.1
          unfold AOwn at hown
          rw [hL, hgx] at hown
          have HOW : Hid (wr.ownsRow gx 30 3 (.slice p3 k c3) k (cl3 L)) := hown
          have HLL : Hid (L.length = k) := hL
          clear hown hL
          go_wp2_with fail
          refine HGET.out.mono ?_
          rintro e w5 ⟨sl, rfl, hrw, hnw, b5⟩
          clear HGET
          dsimp only at hrw hnw ⊢
          obtain ⟨⟨xt, xn, xa, xm, xc⟩, hxe, hxf, hxt, hxn, hxs, hxg⟩ := get_tree HOK.out hrw hnw
          dsimp only at hxt hxn hxs
          rw [hxe]
          have HXF : Hid (El.fit ⟨xt, xn, xa, xm, xc⟩) := hxf
          have ba5 := box_below w5 #[.int .i64 xt, .int .i64 xn, .slice xa xm xc] 30
          have HXG : Hid (IsGQ (w5.alloc (.cells #[.int .i64 xt, .int .i64 xn, .slice xa xm xc] 30)) (fun b => wr.heap.size ≤ b) oa.ag (El.v ⟨xt, xn, xa, xm, xc⟩)) := hxg.move ba5.size (fun b _ hlt => ba5.block b hlt) (fun b hb _ => hb)
          have HB6 : Hid (Below wr.heap.size wr (w5.alloc (.cells #[.int .i64 xt, .int .i64 xn, .slice xa xm xc] 30))) := b5.trans (ba5.mono b5.size)
          have HBA : Hid (BxA (w5.alloc (.cells #[.int .i64 xt, .int .i64 xn, .slice xa xm xc] 30)) w5.heap.size xt xn (.slice xa xm xc)) := BxA.new _ _ _ _
          clear hrw hnw hxe hxf hxt hxn hxs hxg ba5 b5
          unfold El.v agV El.sl
          dsimp only
          go_upto_if 43 with fail
          generalize hw6 : w5.alloc (.cells #[.int .i64 xt, .int .i64 xn, .slice xa xm xc] 30) = w6 at *
          generalize hg6 : w5.heap.size = g6 at *
          have HST6 : Hid (InSt w1 A op gx (.slice p3 k c3) L w6) := HST.out.under HB6.out
          obtain ⟨y0, y1, y2, y3⟩ := HST6.out.1.stor
          obtain ⟨z0, z1, z2, -⟩ := HBA.out.facts
          have HO6 : Hid ((w6.alloc (.cells #[.int .i64 xt, .int .i64 xn, .slice xa xm xc] 30)).ownsRow gx 30 3 (.slice p3 k c3) k (cl3 L)) := World.ownsRow.alloc (own_same HOW.out (fun b _ hlt => HB6.out.block b hlt)) _
          have hg6x : gx ≤ w6.heap.size := by have := HB6.out.size; omega
          have hk6 : k < 6 := by omega
          go_wp2_with (first | (at_builtin; go_loud (refine wpList_append_own_at _ rfl _ _ 25 rfl gx 30 i0 (.agg #[.int .i64 0, .int .i64 0, .slice none 0 0]) 3 40 Tryd.underlying25 hi hz0 hz1 hz2 rfl (by decide) (.slice p3 k c3) k (cl3 L) rfl HO6.out ⟨w6.heap.size, 0, none⟩ 1 1 [.int .i64 xt, .int .i64 xn, .slice xa xm xc] rfl rfl (World.news_of_block (heap_alloc_new w6 _)) (fun u hu => by simp at hu; rcases hu with rfl | rfl | rfl <;> rfl) (by simp only [maxLen]; omega) (by omega) (by simp; omega) ?_; intro v7 w7 hown7 hgr7 hnil7 hloc7; have HBX7 : Hid (BxI w7 gx op (.slice p3 k c3)) := in_box HST.out HB6.out hgr7; obtain ⟨y4, y5, y6, y7⟩ := HBX7.out.stor; obtain ⟨p5, c5, rfl, hc5, hc6⟩ := own_shape hown7; have HS7 : Hid (InSt w1 (A ++ [oa.ag]) op gx (.slice p5 (k + 1) c5) (L ++ [⟨xt, xn, xa, xm, xc⟩]) (w7.setCell ⟨gx, 1, none⟩ (.slice p5 (k + 1) c5))) := (in_push (x := ⟨xt, xn, xa, xm, xc⟩) HST.out HB6.out HXF.out HXG.out (by rw [HLL.out, hgx]; exact hown7) hgr7 hloc7); clear hown7 hgr7 hnil7 hloc7)) | fail)
          go_roundg gk'
          case measure => omega
          case rel => exact ⟨k + 1, q + on, A ++ [oa.ag], L ++ [⟨xt, xn, xa, xm, xc⟩], p5, c5, by omega, by simp [HLL.out], by go_num, by rw [← HON.out, Int.natCast_add], hq4, HS7, HCM2⟩
        · have HE : Hid (R = (oe, In.zero, 0)) := by
            unfold Hid
            rw [HRY.out, ← HCM.out, cmbA_bad _ _ _ _ (by rw [HOO.out]; exact hO1), HOO.out]
            simp [hO1]
          rw [if_neg hO1] at HGET
          have hob : (oe != 0) = true := by simp [hO1]
          have HO1 : Hid (oe ≠ 0) := hO1
          clear HCM HOO HRY HY HNN hO1
          go_wp2_with fail
          refine HGET.out.mono ?_
          rintro e w5 ⟨sl, rfl, hrw, ⟨sa, sc, rfl, hnew⟩, b5⟩
          have ba5 := box_below w5 #[.int .i64 0, .int .i64 0, .slice sa 0 sc] 30
          have HX6 : Hid (BxI (w5.alloc (.cells #[.int .i64 0, .int .i64 0, .slice sa 0 sc] 30)) g0 0 (.slice none 0 0)) := (HX4.out.under b5).under ba5
          have HB6 : Hid (Below g0 w (w5.alloc (.cells #[.int .i64 0, .int .i64 0, .slice sa 0 sc] 30))) := (HBR.out.trans (b5.mono (by omega))).trans (ba5.mono (by have := b5.size; omega))
          clear hrw hnew b5 ba5 HGET HX4 HBR
          obtain ⟨e0, e1, f0, f1⟩ := HX6.out.stor
          unfold agV Ar.zero
          dsimp only [List.length_nil]
          go_wp2_with fail
          refine bodyPost_ret (results_i3 rfl _ _ g0 0 (.slice none 0 0) rfl (HX6.out.set 0 _)) rfl ?_
          rw [HE.out]
          refine InsPost.bad HO1.out ?_
          rw [hgd]
          exact setI_below HB6.out (Nat.le_refl _) _ _
end Go.Proofs.YtfjibcldghnjcaaDoor


/-
  code: Get.
-/
namespace Go.Proofs.YtfjibcldghnjcaaDoor
open Go.RowKit
set_option linter.unusedVariables false
set_option linter.unusedSimpArgs false

/-- What Get answers. -/
def CodePost (w : World) (R : Int × List In × Nat) (e : Ending) (w' : World) : Prop :=
  ∃ sl, e = .returned (.tuple #[sl, .int .i64 ((R.2.2 : Nat) : Int), .int .i64 R.1]) ∧ Is w' sl R.2.1 ∧ Below w.heap.size w w'

set_option maxRecDepth 100000 in
set_option maxHeartbeats 4000000 in
theorem codeGet_any (w : World) (v : Value) (l : List UInt8) (hN : Nam w) (hS : Spn w) (hv : By w v l) :
    Calls Tryd.prog 16 #[v] w (CodePost w (codeR 400 l)) := by
  obtain ⟨i0, hi, hz0, hz1, hz2⟩ := info_parts Tryd.infoIns
  obtain ⟨N, hN4⟩ : ∃ N, N = 400 := ⟨_, rfl⟩
  obtain ⟨R, hR⟩ : ∃ R, codeR 400 l = R := ⟨_, rfl⟩
  rw [hR]
  rw [← hN4] at hR
  have HR : Hid (codeR N l = R) := hR
  clear hR
  obtain ⟨av, cap, rfl, hc1, hc2, hc3⟩ := hv.shape
  have HIN : Hid (∀ W, Below w.heap.size w W → ∀ q : Nat, q ≤ l.length → Calls Tryd.prog 19 #[.slice av l.length cap, .int .i64 (q : Int)] W (InsPost W q (insR (l.drop q)))) :=
    fun W hW q hq => instruction_any W _ l q (hN.under hW) (hS.under hW) (hv.under hW) hq
  clear hN hS hv
  have hlc : (l.length : Int) ≤ 9223372036854775807 := by omega
  go_enter Tryd.func16, Tryd.ntmps16
  go_wp2_with fail
  go_step3
  go_wp2_with fail
  go_step3
  go_wp2_with fail
  go_loopg [5, 6, 7] N (fun gk s5 s6 s7 wr => ∃ (k q : Nat) (A : List In) (E : List Ei) (p5 : Option Addr) (c5 : Nat), k + gk = N ∧ E.length = k ∧ s5 = .slice p5 k c5 ∧ s6 = .int .i64 (q : Int) ∧ s7 = .int .i64 2 ∧ q ≤ l.length ∧ Hid (CiSt w A (.slice p5 k c5) E wr) ∧ Hid (cmbC A q (codeR gk (l.drop q)) = R))
  case atStart =>
    refine ⟨0, 0, [], [], none, 0, by omega, rfl, rfl, rfl, rfl, Nat.zero_le _, CiSt.nil w, ?_⟩
    unfold Hid
    rw [List.drop_zero, ← HR.out]
    unfold cmbC
    by_cases h : (codeR N l).1 = 0
    · rw [if_pos h]
      refine Prod.ext h.symm (Prod.ext ?_ ?_)
      · simp
      · exact (code_read _ _ h).2.1.symm
    · rw [if_neg h]
      refine Prod.ext rfl (Prod.ext ?_ ?_)
      · exact (code_wrong _ _ h).1.symm
      · simp
  case round =>
    obtain ⟨k, q, A, E, p5, c5, hk, hE, rfl, rfl, rfl, hq, HST, HCM⟩ := hrel
    have HBR : Hid (Below w.heap.size w wr) := HST.out.2.2.2
    clear HR
    cases gk with
    | zero =>
      have hk4 : ¬ (k : Int) < 400 := by omega
      have HE : Hid (R = (2, [], q)) := by unfold Hid; rw [← HCM.out]; exact cmbC_zero _ _ _
      clear HCM HIN
      go_wp2_with fail
      try simp only [Exit.noGoto]
      go_ret3
      rw [HE.out]
      exact ⟨_, rfl, Is.nil _, HBR.out⟩
    | succ gk' =>
      have hk4 : (k : Int) < 400 := by omega
      obtain ⟨I, hI⟩ : ∃ I, insR (l.drop q) = I := ⟨_, rfl⟩
      have HC := HIN.out wr HBR.out q hq
      rw [hI] at HC
      obtain ⟨ie, ⟨op, K⟩, inx⟩ := I
      have HII : Hid (insR (l.drop q) = (ie, ⟨op, K⟩, inx)) := hI
      have HC' : Hid (Calls Tryd.prog 19 #[.slice av l.length cap, .int .i64 (q : Int)] wr (InsPost wr q (ie, ⟨op, K⟩, inx))) := HC
      have hwr := HBR.out.size
      clear HC hI
      by_cases he : ie = 0
      · subst he
        obtain ⟨-, g2, g3, -⟩ := ins_read (l := l.drop q) (by rw [HII.out])
        rw [HII.out] at g2 g3
        dsimp only at g2 g3
        have hqn : q + inx ≤ l.length := by rw [List.length_drop] at g2; omega
        obtain ⟨n, hn⟩ : ∃ n, q + inx = n := ⟨_, rfl⟩
        have HNQ : Hid (q + inx = n) := hn
        rw [hn] at hqn
        have HLD : Hid (inx < (l.drop q).length ↔ n < l.length) := by unfold Hid; rw [List.length_drop]; omega
        clear g2 g3 hn
        go_wp2_with fail
        refine HC'.out.mono ?_
        rintro e w5 ⟨sl, rfl, hgs, b5⟩
        dsimp only at hgs ⊢
        rw [if_pos rfl, HNQ.out]
        obtain ⟨pa, ca, rfl, hca1, hca2, -⟩ := hgs.shape
        have ba := box_below w5 #[.int .i64 op, .slice pa K.length ca] 27
        have HXI : Hid (BxI (w5.alloc (.cells #[.int .i64 op, .slice pa K.length ca] 27)) w5.heap.size op (.slice pa K.length ca)) := BxI.new _ _ _
        have HGS : Hid (GsQ (w5.alloc (.cells #[.int .i64 op, .slice pa K.length ca] 27)) (fun b => wr.heap.size ≤ b) (.slice pa K.length ca) K) := hgs.under ba
        have HB6 : Hid (Below wr.heap.size wr (w5.alloc (.cells #[.int .i64 op, .slice pa K.length ca] 27))) := b5.trans (ba.mono b5.size)
        have hb5s := b5.size
        clear hgs ba b5 HC'
        go_upto_if 21 with fail
        generalize w5.alloc (.cells #[.int .i64 op, .slice pa K.length ca] 27) = w6 at *
        have hg6 : wr.heap.size ≤ w5.heap.size := hb5s
        generalize w5.heap.size = g6 at *
        obtain ⟨x0, x1, -⟩ := HXI.out.facts
        have hw6 := HB6.out.size
        by_cases h3 : op = 3
        · subst h3
          by_cases hnl : n < l.length
          · have hni : (n : Int) < (l.length : Int) := by omega
            have HE : Hid (R = (4, [], n)) := by
              unfold Hid
              rw [← HCM.out, cmbC_more _ _ _ _ (by rw [HII.out]) (by rw [HII.out]) (by rw [HII.out]; exact HLD.out.2 hnl), HII.out]
              dsimp only
              rw [HNQ.out]
            have HBZ : Hid (Below w.heap.size w w6) := HBR.out.trans (HB6.out.mono hwr)
            clear HCM HIN HGS HB6 HST
            go_wp2_with fail
            try simp only [Exit.noGoto]
            go_ret3
            rw [HE.out]
            exact ⟨_, rfl, Is.nil _, HBZ.out⟩
          · have hni : ¬ (n : Int) < (l.length : Int) := by omega
            have HE : Hid (R = (0, A ++ [⟨3, K⟩], 0)) := by
              unfold Hid
              rw [← HCM.out, cmbC_end _ _ _ _ (by rw [HII.out]) (by rw [HII.out]) (by rw [HII.out]; exact fun h => hnl (HLD.out.1 h)), HII.out]
            have HFAR : Hid (∀ (lit : Obj) (W7 : World) (u : Unit), (w6.alloc lit).grownBy W7 (Value.slice p5 k c5).ownBlock → BxI W7 g6 3 (.slice pa K.length ca)) := by
              intro lit W7 _ hg
              have h1 := HXI.out
              have hrow := World.ownsRow.lt HST.out.1
              unfold BxI at h1 ⊢
              have hlt := (Array.getElem?_eq_some_iff.1 h1).1
              rw [hg.block g6 (by simp; omega) (fun e => by have := (hrow g6 e.symm).2; omega), ((Below.refl w6.heap.size w6).alloc (Nat.le_refl _) lit).block g6 hlt]
              exact h1
            have HO6 : Hid ((w6.alloc (.cells #[.int .i64 3, .slice pa K.length ca] 27)).ownsRow w.heap.size 27 2 (.slice p5 k c5) k (cl2 E)) := World.ownsRow.alloc (own_same (by have := HST.out.1; unfold IOwn at this; rw [hE] at this; exact this) (fun b _ hlt => HB6.out.block b hlt)) _
            have HEL : Hid (E.length = k) := hE
            clear HCM HIN HII hE
            go_wp2_with (first | (at_builtin; go_loud (refine wpList_append_own_at _ rfl _ _ 23 rfl w.heap.size 27 i0 (.agg #[.int .i64 0, .slice none 0 0]) 2 32 Tryd.underlying23 hi hz0 hz1 hz2 rfl (by decide) (.slice p5 k c5) k (cl2 E) rfl HO6.out ⟨w6.heap.size, 0, none⟩ 1 1 [.int .i64 3, .slice pa K.length ca] rfl rfl (World.news_of_block (heap_alloc_new w6 _)) (fun u hu => by simp at hu; rcases hu with rfl | rfl <;> rfl) (by simp only [maxLen]; omega) (by omega) (by simp; omega) ?_; intro v7 w7 hown7 hgr7 hnil7 hloc7; obtain ⟨p7, c7, rfl, hc7, hc8⟩ := own_shape hown7; have HBX7 : Hid (BxI w7 g6 3 (.slice pa K.length ca)) := HFAR.out _ _ () hgr7; obtain ⟨y0, y1, -⟩ := HBX7.out.facts; have HS7 : Hid (CiSt w (A ++ [⟨3, K⟩]) (.slice p7 (k + 1) c7) (E ++ [⟨3, pa, K.length, ca⟩]) w7) := (ci_push (x := ⟨3, pa, K.length, ca⟩) HST.out HB6.out rfl HGS.out (by rw [HEL.out]; exact hown7) hgr7 hloc7); clear hown7 hgr7 hnil7 hloc7)) | fail)
            try simp only [Exit.noGoto]
            go_ret3
            rw [HE.out]
            exact ⟨_, rfl, HS7.out.is, HS7.out.2.2.2⟩
        · have h3b : (op == 3) = false := by simp [h3]
          have HCM2 : Hid (cmbC (A ++ [⟨op, K⟩]) n (codeR gk' (l.drop n)) = R) := by
            unfold Hid
            rw [← HCM.out, cmbC_step _ _ _ _ (by rw [HII.out]) (by rw [HII.out]; exact h3), HII.out, List.drop_drop]
            dsimp only
            rw [HNQ.out]
          have HFAR : Hid (∀ (lit : Obj) (W7 : World) (u : Unit), (w6.alloc lit).grownBy W7 (Value.slice p5 k c5).ownBlock → BxI W7 g6 op (.slice pa K.length ca)) := by
            intro lit W7 _ hg
            have h1 := HXI.out
            have hrow := World.ownsRow.lt HST.out.1
            unfold BxI at h1 ⊢
            have hlt := (Array.getElem?_eq_some_iff.1 h1).1
            rw [hg.block g6 (by simp; omega) (fun e => by have := (hrow g6 e.symm).2; omega), ((Below.refl w6.heap.size w6).alloc (Nat.le_refl _) lit).block g6 hlt]
            exact h1
          have HO6 : Hid ((w6.alloc (.cells #[.int .i64 op, .slice pa K.length ca] 27)).ownsRow w.heap.size 27 2 (.slice p5 k c5) k (cl2 E)) := World.ownsRow.alloc (own_same (by have := HST.out.1; unfold IOwn at this; rw [hE] at this; exact this) (fun b _ hlt => HB6.out.block b hlt)) _
          have HEL : Hid (E.length = k) := hE
          clear HCM HIN HII hE
          go_wp2_with (first | (at_builtin; go_loud (refine wpList_append_own_at _ rfl _ _ 23 rfl w.heap.size 27 i0 (.agg #[.int .i64 0, .slice none 0 0]) 2 32 Tryd.underlying23 hi hz0 hz1 hz2 rfl (by decide) (.slice p5 k c5) k (cl2 E) rfl HO6.out ⟨w6.heap.size, 0, none⟩ 1 1 [.int .i64 op, .slice pa K.length ca] rfl rfl (World.news_of_block (heap_alloc_new w6 _)) (fun u hu => by simp at hu; rcases hu with rfl | rfl <;> rfl) (by simp only [maxLen]; omega) (by omega) (by simp; omega) ?_; intro v7 w7 hown7 hgr7 hnil7 hloc7; obtain ⟨p7, c7, rfl, hc7, hc8⟩ := own_shape hown7; have HBX7 : Hid (BxI w7 g6 op (.slice pa K.length ca)) := HFAR.out _ _ () hgr7; obtain ⟨y0, y1, -⟩ := HBX7.out.facts; have HS7 : Hid (CiSt w (A ++ [⟨op, K⟩]) (.slice p7 (k + 1) c7) (E ++ [⟨op, pa, K.length, ca⟩]) w7) := (ci_push (x := ⟨op, pa, K.length, ca⟩) HST.out HB6.out rfl HGS.out (by rw [HEL.out]; exact hown7) hgr7 hloc7); clear hown7 hgr7 hnil7 hloc7)) | fail)
          go_roundg gk'
          case measure => omega
          case rel => exact ⟨k + 1, n, A ++ [⟨op, K⟩], E ++ [⟨op, pa, K.length, ca⟩], p7, c7, by omega, by simp [HEL.out], rfl, rfl, rfl, hqn, HS7, HCM2⟩
      · have heb : (ie != 0) = true := by simp [he]
        have HE : Hid (R = (ie, [], q)) := by
          unfold Hid
          rw [← HCM.out, cmbC_bad _ _ _ _ (by rw [HII.out]; exact he), HII.out]
        have HEN : Hid (ie ≠ 0) := he
        clear HCM HIN he
        go_wp2_with fail
        refine HC'.out.mono ?_
        rintro e w5 ⟨sl, rfl, hgs, b5⟩
        dsimp only at hgs ⊢
        rw [if_neg HEN.out]
        obtain ⟨pa, ca, rfl, hca1, hca2, -⟩ := hgs.shape
        have ba := box_below w5 #[.int .i64 op, .slice pa K.length ca] 27
        have HB6 : Hid (Below w.heap.size w (w5.alloc (.cells #[.int .i64 op, .slice pa K.length ca] 27))) := (HBR.out.trans (b5.mono hwr)).trans (ba.mono (by have := b5.size; omega))
        clear hgs ba b5 HC'
        go_wp2_with fail
        try simp only [Exit.noGoto]
        go_ret3
        rw [HE.out]
        exact ⟨_, rfl, Is.nil _, HB6.out⟩
end Go.Proofs.YtfjibcldghnjcaaDoor
