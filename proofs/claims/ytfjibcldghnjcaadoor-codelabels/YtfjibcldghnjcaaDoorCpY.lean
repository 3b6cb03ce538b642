/-
  compact: list.
-/
import Derived.Test.YtfjibcldghnjcaaDoorCpX
namespace Go.Proofs.YtfjibcldghnjcaaDoor
open Go.RowKit
set_option linter.unusedVariables false
set_option linter.unusedSimpArgs false

/-- What is answered of an operand. -/
def OpPost (w : World) (g : Nat) (vb : Value) (p : Nat) (R : Int × Ar × Nat) (e : Ending) (w' : World) : Prop :=
  ∃ sl, e = .returned (.tuple #[agV R.2.1.t R.2.1.n sl, .int .i64 R.1]) ∧ Rw3 w' sl (R.2.1.l.map elOf) ∧ (∃ a c, sl = .slice a R.2.1.l.length c ∧ ∀ x, a = some x → w.heap.size ≤ x.block) ∧ (R.1 = 0 → BxR w' g vb ((p + R.2.2 : Nat) : Int)) ∧ Oth g w w'
theorem OpPost.bad {w : World} {g : Nat} {vb : Value} {p : Nat} {k : Int} {w' : World} (hk : k ≠ 0) (ho : Oth g w w') : OpPost w g vb p (k, Ar.zero, 0) (.returned (.tuple #[agV 0 0 (.slice none 0 0), .int .i64 k])) w' :=
  ⟨_, rfl, Rw3.nil _, ⟨none, 0, rfl, fun x h => by cases h⟩, fun h => absurd h hk, ho⟩
/-- The loop's state. -/
def LsRel (w : World) (g gr gl : Nat) (vb : Value) (l : List UInt8) (p1 m : Nat) (Z : Int × List (Int × Int) × Nat) (k : Nat) (wr : World) : Prop :=
  ∃ (pos : Nat) (done : List (Int × Int)), done.length = k ∧ pos ≤ l.length ∧ p1 ≤ pos ∧ BxR wr g vb (pos : Int) ∧ RwA wr gl (done ++ List.replicate (m - k) (0, 0)) ∧ BxA wr gr 0 0 (.slice none 0 0) ∧ Oth g w wr ∧ Spn wr ∧ By wr vb l ∧
    (∀ q ∈ done, El.fit (elOf q)) ∧ comb done (pos - p1) (sglsR (m - k) (l.drop pos)) = Z
theorem RwA.setA {w : World} {g gr : Nat} {t n : Int} {sl : Value} {l : List (Int × Int)} (h : RwA w g l) (hne : g ≠ gr) : RwA (setBxA w gr t n sl) g l := by
  unfold RwA at h ⊢
  rw [setA_block _ _ _ _ _ _ hne]; exact h
theorem RwA.under {w w' : World} {g : Nat} {l : List (Int × Int)} (h : RwA w g l) (hb : Below w.heap.size w w') : RwA w' g l := by
  have hl := h.lt
  unfold RwA at h ⊢
  rw [hb.block g hl]; exact h
theorem fit_ok {t n : Int} (h : okN1 t n = true) : El.fit (elOf (t, n)) := by
  unfold okN1 at h
  unfold elOf El.fit
  dsimp only
  split at h <;> simp at h <;> omega
theorem set_mid (d : List (Int × Int)) (m k : Nat) (x : Int × Int) (h : d.length = k) (hk : k < m) : (d ++ List.replicate (m - k) (0, 0)).set k x = (d ++ [x]) ++ List.replicate (m - (k + 1)) (0, 0) := by
  obtain ⟨j, hj⟩ : ∃ j, m - k = j + 1 := ⟨m - k - 1, by omega⟩
  rw [hj, show m - (k + 1) = j by omega, List.set_append_right _ _ (by omega), h, Nat.sub_self, List.replicate_succ, List.set_cons_zero]
  simp

set_option maxRecDepth 100000 in
set_option maxHeartbeats 2000000 in
theorem list_any (w : World) (g : Nat) (vb : Value) (l : List UInt8) (p : Nat) (hS : Spn w) (hb : BxR w g vb (p : Int)) (hv : By w vb l) (hp : p ≤ l.length) :
    Calls Tryd.prog 40 #[.pointer (some ⟨g, 0, none⟩)] w fun e w' => OpPost w g vb p (lstR (l.drop p)) e w' := by
  obtain ⟨R, hR⟩ : ∃ R, lstR (l.drop p) = R := ⟨_, rfl⟩
  have HR : Hid (lstR (l.drop p) = R) := hR
  rw [hR]; clear hR
  have hglt := hb.lt
  have bA := (Below.refl w.heap.size w).alloc (Nat.le_refl _) (.cells #[.int .i64 0, .int .i64 0, .slice none 0 0] 30)
  have hlt1 : g < (w.alloc (.cells #[.int .i64 0, .int .i64 0, .slice none 0 0] 30)).heap.size := by simp; omega
  have HO1 : Hid (Oth g w (w.alloc (.cells #[.int .i64 0, .int .i64 0, .slice none 0 0] 30))) := Oth.of bA (by omega)
  have HB1 : Hid (BxR (w.alloc (.cells #[.int .i64 0, .int .i64 0, .slice none 0 0] 30)) g vb (p : Int)) := hb.under bA
  have HV1 : Hid (By (w.alloc (.cells #[.int .i64 0, .int .i64 0, .slice none 0 0] 30)) vb l) := hv.under bA
  have HS1 : Hid (Spn (w.alloc (.cells #[.int .i64 0, .int .i64 0, .slice none 0 0] 30))) := hS.under bA
  have HX1 : Hid (BxA (w.alloc (.cells #[.int .i64 0, .int .i64 0, .slice none 0 0] 30)) w.heap.size 0 0 (.slice none 0 0)) := BxA.new w 0 0 _
  have hgr : w.heap.size ≠ g := by omega
  clear bA hS hb hv
  have hwsz : w.heap.size ≤ w.heap.size := Nat.le_refl _
  generalize hgd : w.heap.size = gr at *
  generalize hw1d : w.alloc (.cells #[.int .i64 0, .int .i64 0, .slice none 0 0] 30) = w1 at *
  have HPL : Hid (Calls Tryd.prog 43 #[.pointer (some ⟨g, 0, none⟩)] w1 fun e w' => PlPost w1 g vb p (plnR (l.drop p)) e w') := plain_any w1 g vb l p HS1.out HB1.out HV1.out hp
  have hrd := @pln_read (l.drop p)
  have hdl : (l.drop p).length = l.length - p := by simp
  have HL : Hid (R = if (plnR (l.drop p)).e ≠ 0 then ((plnR (l.drop p)).e, Ar.zero, 0) else if 40 < (plnR (l.drop p)).n then (4, Ar.zero, 0) else if (sglsR (plnR (l.drop p)).n.toNat (l.drop (p + (plnR (l.drop p)).k))).1 = 0 then (0, ⟨7, 0, (sglsR (plnR (l.drop p)).n.toNat (l.drop (p + (plnR (l.drop p)).k))).2.1⟩, (plnR (l.drop p)).k + (sglsR (plnR (l.drop p)).n.toNat (l.drop (p + (plnR (l.drop p)).k))).2.2) else ((sglsR (plnR (l.drop p)).n.toNat (l.drop (p + (plnR (l.drop p)).k))).1, Ar.zero, 0)) := by
    unfold Hid
    rw [← HR.out, ← List.drop_drop]
    rfl
  unfold PlPost at HPL
  obtain ⟨Q, hQ⟩ : ∃ Q, Q = plnR (l.drop p) := ⟨_, rfl⟩
  rw [← hQ] at HPL HL hrd
  have HRD : Hid (Q.e = 0 → Q.k ≤ l.length - p ∧ 0 ≤ Q.n ∧ Q.n ≤ 268435455) := fun h => by
    obtain ⟨-, -, a, b, c, -⟩ := hrd h
    exact ⟨by omega, b, c⟩
  clear hrd hQ HR
  by_cases h1 : Q.e = 0
  · have hrd := HRD.out h1
    obtain ⟨hk, hn0, hn1⟩ := hrd
    by_cases h2 : 40 < Q.n
    · have HE : Hid (R = (4, Ar.zero, 0)) := by unfold Hid; rw [HL.out, if_neg (by simp [h1]), if_pos h2]
      rw [h1] at HPL
      go_enter Tryd.func40, Tryd.ntmps40
      go_wp2_with fail
      refine HPL.out.mono ?_
      rintro e w2 ⟨rfl, -, ho2⟩
      have HO2 : Hid (Oth g w w2) := HO1.out.trans ho2
      have HX2 : Hid (BxA w2 gr 0 0 (.slice none 0 0)) := HX1.out.oth ho2 hgr
      obtain ⟨e0, e1, e2, f0, f1, f2⟩ := HX2.out.facts
      clear ho2
      go_wp2_with fail
      refine bodyPost_ret (results_a2 rfl _ _ gr 0 0 (.slice none 0 0) rfl (HX2.out.set 0 0 _)) rfl ?_
      rw [HE.out]
      exact OpPost.bad (by decide) (HO2.out.setA (by omega) (by omega) _ _ _)
    · obtain ⟨m, hm⟩ : ∃ m : Nat, Q.n = (m : Int) := ⟨Q.n.toNat, by omega⟩
      have hm40 : m ≤ 40 := by omega
      obtain ⟨p1, hp1⟩ : ∃ p1, p1 = p + Q.k := ⟨_, rfl⟩
      have hp1l : p1 ≤ l.length := by omega
      have HE : Hid (R = if (sglsR m (l.drop p1)).1 = 0 then (0, ⟨7, 0, (sglsR m (l.drop p1)).2.1⟩, Q.k + (sglsR m (l.drop p1)).2.2) else ((sglsR m (l.drop p1)).1, Ar.zero, 0)) := by
        unfold Hid
        rw [HL.out, if_neg (by simp [h1]), if_neg h2, hm, Int.toNat_natCast, ← hp1]
      rw [h1, hm, ← hp1] at HPL
      obtain ⟨Z, hZ⟩ : ∃ Z, sglsR m (l.drop p1) = Z := ⟨_, rfl⟩
      rw [hZ] at HE
      have HZ : Hid (comb [] (p1 - p1) (sglsR (m - 0) (l.drop p1)) = Z) := by unfold Hid; rw [Nat.sub_self, Nat.sub_zero, comb_nil, hZ]
      have HQK : Hid (p + Q.k = p1) := hp1.symm
      clear HL HRD h1 h2 hk hn0 hn1 hm hp1 hZ hdl
      go_enter Tryd.func40, Tryd.ntmps40
      go_wp2_with fail
      refine HPL.out.mono ?_
      rintro e w2 ⟨rfl, hb2, ho2⟩
      have HB2 : Hid (BxR w2 g vb (p1 : Int)) := hb2 trivial
      have HO2 : Hid (Oth g w w2) := HO1.out.trans ho2
      have HX2 : Hid (BxA w2 gr 0 0 (.slice none 0 0)) := HX1.out.oth ho2 hgr
      have HS2 : Hid (Spn w2) := HS1.out.oth HB1.out ho2
      have HV2 : Hid (By w2 vb l) := HV1.out.oth HB1.out ho2
      have hsz2 : gr < w2.heap.size := by have := HX2.out.lt; exact this
      clear ho2 hb2 HPL HB1 HV1 HS1 HX1 HO1
      go_wp2_with (first
        | (refine wpList_make_arg rfl _ _ rfl (m : Int) (m : Int) m rfl rfl rfl rfl hm40 ?_; intro w3 hr3 hb3)
        | fail)
      have hgl : g < w2.heap.size := by have := HB2.out.lt; exact this
      have HL0 : Hid (LsRel w g gr w2.heap.size vb l p1 m Z 0 w3) := by
        refine ⟨p1, [], rfl, hp1l, Nat.le_refl _, HB2.out.under hb3, by simpa using hr3, HX2.out.under hb3, HO2.out.call hb3 (by omega), HS2.out.under hb3, HV2.out.under hb3, fun q hq => by simp at hq, HZ.out⟩
      generalize w2.heap.size = gl at *
      clear hr3 hb3 HB2 HO2 HX2 HS2 HV2 HZ
      go_loopg [24] m (fun gk s24 wr => ∃ k : Nat, k + gk = m ∧ s24 = .int .i64 (k : Int) ∧ Hid (LsRel w g gr gl vb l p1 m Z k wr))
      case atStart => exact ⟨0, by omega, rfl, HL0⟩
      case round =>
        obtain ⟨k, hk, rfl, HL⟩ := hrel
        obtain ⟨pos, done, hdn, hpos, hp1p, hb, hr, hx, ho, hS, hV, hfit, hcomb⟩ := HL.out
        obtain ⟨e0, e1, e2, f0, f1, f2⟩ := hx.facts
        clear HL HL0
        cases gk with
        | zero =>
          obtain rfl : k = m := by omega
          have HRW : Hid (Rw3 (setBxA wr gr 7 0 (.slice (some ⟨gl, 0, none⟩) k k)) (.slice (some ⟨gl, 0, none⟩) k k) (done.map elOf)) := by
            have h1 : RwA wr gl done := by simpa using hr
            have h2 := (RwA.setA (t := 7) (n := 0) (sl := .slice (some ⟨gl, 0, none⟩) k k) h1 (by omega : gl ≠ gr)).rw3 hfit (by omega)
            rw [hdn] at h2
            exact h2
          have HE2 : Hid (R = (0, ⟨7, 0, done⟩, Q.k + (pos - p1))) := by
            unfold Hid
            have hz : Z = (0, done, pos - p1) := by
              rw [← hcomb, Nat.sub_self]
              simp [sglsR, comb]
            rw [HE.out, hz, if_pos rfl]
          have HX : Hid (BxA wr gr 0 0 (.slice none 0 0)) := hx
          have HO : Hid (Oth g w wr) := ho
          have HB : Hid (BxR wr g vb (pos : Int)) := hb
          have HPP : Hid (p + (Q.k + (pos - p1)) = pos) := by unfold Hid; have := HQK.out; omega
          have HDN : Hid (done.length = k) := hdn
          clear hb hr hx ho hS hV hfit hcomb hdn HE HQK
          go_wp2_with fail
          refine bodyPost_ret (results_a2 rfl _ _ gr 7 0 (.slice (some ⟨gl, 0, none⟩) k k) rfl (HX.out.set 7 0 _)) rfl ?_
          rw [HE2.out]
          refine ⟨_, rfl, HRW.out, ⟨_, _, by rw [HDN.out], fun x h => by cases h; dsimp only; omega⟩, fun _ => ?_, HO.out.setA (by omega) (by omega) _ _ _⟩
          rw [HPP.out]
          exact HB.out.setA hgr.symm _ _ _
        | succ gi =>
          have hkm : k < m := by omega
          have hki : (k : Int) < (m : Int) := by omega
          have HSG := single_any wr g vb l pos hS hb hV hpos
          unfold NmPost at HSG
          have hrd := @sgl_read (l.drop pos)
          obtain ⟨T, hT⟩ : ∃ T, T = sglR (l.drop pos) := ⟨_, rfl⟩
          have hcs := @comb_step done (pos - p1) (m - (k + 1)) (l.drop pos)
          have hcb := @comb_bad done (pos - p1) (m - (k + 1)) (l.drop pos)
          rw [show m - (k + 1) + 1 = m - k by omega, hcomb, ← hT] at hcs hcb
          rw [← hT] at HSG hrd
          have HS1 : Hid (Calls Tryd.prog 41 #[.pointer (some ⟨g, 0, none⟩)] wr fun e w' => e = .returned (.tuple #[agV T.t T.n (.slice none 0 0), .int .i64 T.e]) ∧ (T.e = 0 → BxR w' g vb ((pos + T.k : Nat) : Int)) ∧ Oth g wr w') := HSG
          have hrl : (done ++ List.replicate (m - k) ((0 : Int), (0 : Int))).length = m := by simp; omega
          have HR3 : Hid (∀ w2, Oth g wr w2 → RwA (setRwA w2 gl k T.t T.n) gl ((done ++ [(T.t, T.n)]) ++ List.replicate (m - (k + 1)) (0, 0))) := by
            intro w2 ho2
            rw [← set_mid done m k (T.t, T.n) hdn hkm]
            exact (hr.oth ho2 (by omega)).set k (by omega) _ _
          have HR4 : Hid (∀ w2, Oth g wr w2 → ∃ z1 z2 : Int, w2.cell? ⟨gl, k * 3, none⟩ = some (.int .i64 z1) ∧ w2.cell? ⟨gl, k * 3 + 1, none⟩ = some (.int .i64 z2) ∧ w2.cell? ⟨gl, k * 3 + 2, none⟩ = some (.slice none 0 0) ∧ w2.frozen? ⟨gl, k * 3, none⟩ = false ∧ w2.frozen? ⟨gl, k * 3 + 1, none⟩ = false ∧ w2.frozen? ⟨gl, k * 3 + 2, none⟩ = false) := fun w2 ho2 => ⟨_, _, (hr.oth ho2 (by omega)).facts k (by omega)⟩
          have HXO : Hid (∀ w2, Oth g wr w2 → BxA (setRwA w2 gl k T.t T.n) gr 0 0 (.slice none 0 0)) := fun w2 ho2 => (hx.oth ho2 hgr).setR (by omega) k _ _
          have HOO : Hid (∀ w2, Oth g wr w2 → Oth g w (setRwA w2 gl k T.t T.n)) := fun w2 ho2 => (ho.trans ho2).setR (by omega) (by omega) k _ _
          have HSO : Hid (∀ w2, Oth g wr w2 → Spn (setRwA w2 gl k T.t T.n)) := fun w2 ho2 => (hS.oth hb ho2).setR (W := w) (by omega) k _ _
          have HVO : Hid (∀ w2, Oth g wr w2 → By (setRwA w2 gl k T.t T.n) vb l) := fun w2 ho2 => (hV.oth hb ho2).setR (hr.oth ho2 (by omega)) k _ _
          have HDN : Hid (done.length = k) := hdn
          have HFT : Hid (∀ q ∈ done, El.fit (elOf q)) := hfit
          have HQ : Hid (T.e = 0 → T.k ≤ l.length - pos ∧ El.fit (elOf (T.t, T.n))) := fun h => ⟨by have := (hrd h).1; simpa using this, fit_ok (hrd h).2.2.1⟩
          have HCS : Hid (T.e = 0 → comb (done ++ [(T.t, T.n)]) (pos - p1 + T.k) (sglsR (m - (k + 1)) (l.drop (pos + T.k))) = Z) := fun h => by
            have := hcs h
            rw [List.drop_drop] at this
            exact this.symm
          have HCB : Hid (T.e ≠ 0 → Z = (T.e, [], 0)) := hcb
          clear hcs hcb hT hrd hcomb HSG hr hS hV hb hx ho hfit hdn hrl e0 e1 e2 f0 f1 f2
          go_wp2_with fail
          refine HS1.out.mono ?_
          rintro e w2 ⟨rfl, hb2, ho2⟩
          unfold agV
          have hr3 := HR3.out w2 ho2
          have hx3 := HXO.out w2 ho2
          have ho3 := HOO.out w2 ho2
          have hs3 := HSO.out w2 ho2
          have hv3 := HVO.out w2 ho2
          have HB3 : Hid (T.e = 0 → BxR (setRwA w2 gl k T.t T.n) g vb ((pos + T.k : Nat) : Int)) := fun h => (hb2 h).setR (by omega) k _ _
          obtain ⟨z1, z2, t0, t1, t2, t3, t4, t5⟩ := HR4.out w2 ho2
          have HR3' : Hid _ := hr3
          have HX3 : Hid (BxA (setRwA w2 gl k T.t T.n) gr 0 0 (.slice none 0 0)) := hx3
          have HO3 : Hid (Oth g w (setRwA w2 gl k T.t T.n)) := ho3
          have HS3 : Hid (Spn (setRwA w2 gl k T.t T.n)) := hs3
          have HV3 : Hid (By (setRwA w2 gl k T.t T.n) vb l) := hv3
          obtain ⟨e0, e1, e2, f0, f1, f2⟩ := hx3.facts
          unfold setRwA at e0 e1 e2 f0 f1 f2
          have hglt2 : gl < w2.heap.size := by have := RwA.lt hr3; rw [setR_size] at this; exact this
          clear hb2 ho2 hr3 hx3 ho3 hs3 hv3 HR3 HXO HOO HSO HVO HR4 HS1
          by_cases hTe : T.e = 0
          · obtain ⟨hTk, hTf⟩ := HQ.out hTe
            have HG : Hid (LsRel w g gr gl vb l p1 m Z (k + 1) (setRwA w2 gl k T.t T.n)) := by
              refine ⟨pos + T.k, done ++ [(T.t, T.n)], by simp [HDN.out], by omega, by omega, HB3.out hTe, HR3'.out, HX3.out, HO3.out, HS3.out, HV3.out, ?_, ?_⟩
              · intro q hq
                rcases List.mem_append.1 hq with h | h
                · exact HFT.out q h
                · simp only [List.mem_cons, List.not_mem_nil, or_false] at h
                  subst h
                  exact hTf
              · rw [show pos + T.k - p1 = pos - p1 + T.k by omega]
                exact HCS.out hTe
            unfold setRwA at HG
            rw [hTe]
            clear HCS HCB HQ HB3 HR3' HX3 HO3 HS3 HV3 HFT HDN hTk hTf HE HQK
            go_wp2_with fail
            go_roundg gi
            case measure => omega
            case rel => exact ⟨k + 1, by omega, by go_num, HG⟩
          · have HE2 : Hid (R = (T.e, Ar.zero, 0)) := by
              unfold Hid
              rw [HE.out, HCB.out hTe, if_neg hTe]
            obtain ⟨te, hte⟩ : ∃ te, te = T.e := ⟨_, rfl⟩
            rw [← hte] at hTe HE2 ⊢
            have hqb : (te != 0) = true := by simp [hTe]
            unfold setRwA at HX3 HO3
            clear HCS HCB HQ HB3 HR3' HS3 HV3 HFT HDN HE HQK hte
            go_wp2_with fail
            refine bodyPost_ret (results_a2 rfl _ _ gr 0 0 (.slice none 0 0) rfl (HX3.out.set 0 0 _)) rfl ?_
            rw [HE2.out]
            exact OpPost.bad hTe (HO3.out.setA (by omega) (by omega) _ _ _)
  · have HE : Hid (R = (Q.e, Ar.zero, 0)) := by unfold Hid; rw [HL.out, if_pos h1]
    obtain ⟨qe, hqe⟩ : ∃ qe, qe = Q.e := ⟨_, rfl⟩
    rw [← hqe] at h1 HE HPL
    have hqb : (qe != 0) = true := by simp [h1]
    clear HL HRD hqe
    go_enter Tryd.func40, Tryd.ntmps40
    go_wp2_with fail
    refine HPL.out.mono ?_
    rintro e w2 ⟨rfl, -, ho2⟩
    have HO2 : Hid (Oth g w w2) := HO1.out.trans ho2
    have HX2 : Hid (BxA w2 gr 0 0 (.slice none 0 0)) := HX1.out.oth ho2 hgr
    obtain ⟨e0, e1, e2, f0, f1, f2⟩ := HX2.out.facts
    clear ho2
    go_wp2_with fail
    refine bodyPost_ret (results_a2 rfl _ _ gr 0 0 (.slice none 0 0) rfl (HX2.out.set 0 0 _)) rfl ?_
    rw [HE.out]
    exact OpPost.bad h1 (HO2.out.setA (by omega) (by omega) _ _ _)
end Go.Proofs.YtfjibcldghnjcaaDoor
