
/-
  ext: alone.
-/
import Derived.Test.YtbmondbicnfcpaaDoorExtO
import Derived.Deep.RegionWith
namespace Go.Proofs.YtbmondbicnfcpaaDoor
open Go.RowKit
set_option linter.unusedVariables false
set_option linter.unusedSimpArgs false

/-- A small number has but one sign and one list of limbs. -/
theorem num_one {n : Bool} {z : List Int} {x : Int} (hg : Good n z) (hok : Ok z) (h : Z n (V z) = x) (hx : x.natAbs < 4294967296) : n = decide (x < 0) ∧ z = if x = 0 then [] else [(x.natAbs : Int)] := by
  obtain ⟨A, hA⟩ := Int.eq_ofNat_of_zero_le (V_nonneg hok)
  have hab : x.natAbs = A := by rw [← h]; exact natAbs_Z n hok hA
  have hsg := Z_pos hg hok
  rw [h] at hsg
  have hn : n = decide (x < 0) := by
    cases n
    · have := hsg.2 rfl; simp; omega
    · have := hsg.1 rfl; simp; omega
  refine ⟨hn, ?_⟩
  by_cases h0 : x = 0
  · rw [if_pos h0]
    refine Nm_inj hok Ok.nil hg.2.1 Nm_nil ?_
    rw [hA]; simp only [V]; omega
  · rw [if_neg h0]
    refine Nm_inj hok ?_ hg.2.1 ?_ ?_
    · intro y hy
      simp only [List.mem_singleton] at hy
      omega
    · intro _
      simp
      omega
    · rw [hA]; simp only [V]; omega

def AlP (w : World) (t : Tm) (e : Ending) (w' : World) : Prop := ∃ v, e = .returned v ∧ IsT (veil (fromB w.heap.size) w') t v ∧ Below w.heap.size w w'
theorem al_int {w w1 : World} {n : Bool} {p : Option Addr} {z : List Int} {c : Nat} (hs : Sl (veil (fromB (w.heap.size + 1)) w1) (.slice p z.length c) z) (hB : Below w.heap.size w w1) :
    AlP w (.mk 1 n z ⟨#[]⟩ 0 []) (.returned (tmV 1 n (.slice p z.length c) ⟨#[]⟩ 0 (.slice none 0 0))) (setBt w1 w.heap.size 1 n (.slice p z.length c) ⟨#[]⟩ 0 (.slice none 0 0)) := by
  have hbu := setBt_but w1 w.heap.size 1 n (.slice p z.length c) ⟨#[]⟩ 0 (.slice none 0 0)
  refine ⟨_, rfl, IsT.shut (by omega) (by omega) (by decide) (hs.veiled (by rw [hbu.size]; exact Nat.le_refl _) (fun b hb hlt => ⟨hbu.block b (by have := fromB_is.1 hb; omega), fromB_is.2 (by have := fromB_is.1 hb; omega)⟩)) (Ts.nil _), hB.trans (hbu.below (Nat.le_refl _))⟩
theorem al_str {w w1 : World} (k : Int) (hk : -9223372036854775808 ≤ k ∧ k ≤ 9223372036854775807) (S : ByteArray) (hS : (S.size : Int) ≤ 140737488355328) (hB : Below w.heap.size w w1) :
    AlP w (.mk k false [] S 0 []) (.returned (tmV k false (.slice none 0 0) S 0 (.slice none 0 0))) (setBt w1 w.heap.size k false (.slice none 0 0) S 0 (.slice none 0 0)) :=
  ⟨_, rfl, IsT.shut hk (by omega) hS (Sl.nil _) (Ts.nil _), hB.trans ((setBt_but _ _ _ _ _ _ _ _).below (Nat.le_refl _))⟩

/-- How many bytes a tag may have with it. -/
def alF (tag m : Nat) : Prop := (tag = 97 → m = 1) ∧ (tag = 98 → m = 4) ∧ (tag = 110 → 1 ≤ m) ∧ m ≤ 401

set_option maxRecDepth 100000 in
set_option maxHeartbeats 8000000 in
theorem alone_any (tag : Nat) (v : Value) (D : List UInt8) (w : World) (hy : By w v D) (hf : alF tag D.length) (ht : tag ≤ 255) :
    Calls Tryd.prog 131 #[.int .u8 (tag : Int), v] w fun e w' => AlP w (rawT tag D) e w' := by
  obtain ⟨hf1, hf2, hf3, hf4⟩ := hf
  obtain ⟨t, htd⟩ : ∃ t, rawT tag D = t := ⟨_, rfl⟩
  have HT : Hid (rawT tag D = t) := htd
  rw [htd]
  clear htd
  obtain ⟨a, cap, rfl, hc, hcm, hnl⟩ := hy.shape
  obtain ⟨wA, hwA⟩ : ∃ wA, w.alloc (.cells #[.int .i64 0, .bool false, .slice none 0 0, .string ⟨#[]⟩, .int .i64 0, .slice none 0 0] 29) = wA := ⟨_, rfl⟩
  have hBt : Bt wA w.heap.size 0 false (.slice none 0 0) ⟨#[]⟩ 0 (.slice none 0 0) := by rw [← hwA]; exact Bt.new w _ _ _ _ _ _ ⟨_, _, _, rfl⟩ ⟨_, _, _, rfl⟩
  have hBA : Below w.heap.size w wA := by rw [← hwA]; exact (Below.refl _ _).alloc (Nat.le_refl _) _
  have hszA : wA.heap.size = w.heap.size + 1 := by rw [← hwA]; simp
  have hyA := hy.under hBA
  obtain ⟨a0, a1, a2, a3, a4, a5⟩ := hBt.cells
  obtain ⟨f0, f1, f2, f3, f4, f5⟩ := hBt.froz
  have HBt : Hid (Bt wA w.heap.size 0 false (.slice none 0 0) ⟨#[]⟩ 0 (.slice none 0 0)) := hBt
  have HBA : Hid (Below w.heap.size w wA) := hBA
  have HSZ : Hid (wA.heap.size = w.heap.size + 1) := hszA
  have HYA : Hid (By wA (.slice a D.length cap) D) := hyA
  clear hBt hBA hszA hy
  by_cases h97 : tag = 97
  · have hl := hf1 h97
    have q1 : ((tag : Int) == 97) = true := by simp [h97]
    have hE : t = numT (highL D) := by rw [← HT.out]; unfold rawT; rw [if_pos h97]
    have hh : highL D ≤ 255 := by have := high_lt 1 D hl; omega
    have HE : Hid _ := hE
    have HHF : Hid (Calls Tryd.prog 156 #[.slice a D.length cap] wA fun e w' => e = .returned (.int .i64 (highL D : Int)) ∧ w' = wA) := highFirst_any _ D wA HYA.out (by omega)
    obtain ⟨x, hx⟩ : ∃ x : Int, x = (highL D : Int) := ⟨_, rfl⟩
    rw [← hx] at HE HHF
    have hx0 : 0 ≤ x := by omega
    have hx1 : x ≤ 255 := by omega
    clear hyA h97 hE hh hx hl hf1 hf2 hf3
    go_enter Tryd.func131, Tryd.ntmps131
    go_wp2_with fail
    refine HHF.out.mono ?_
    rintro e w1 ⟨rfl, rfl⟩
    go_wp2_with fail
    refine (of_new x w1 (by omega) (by omega)).mono ?_
    rintro e w2 ⟨n, p, z, c, rfl, hs, hg, hz, b2⟩
    have HN : Hid (n = decide (x < 0) ∧ z = if x = 0 then [] else [(x.natAbs : Int)]) := num_one hg hs.ok hz (by omega)
    have HS : Hid (Sl (veil (fromB (w.heap.size + 1)) w2) (.slice p z.length c) z) := by unfold Hid; rw [← HSZ.out]; exact hs
    have HB2 : Hid (Bt w2 w.heap.size 0 false (.slice none 0 0) ⟨#[]⟩ 0 (.slice none 0 0)) := HBt.out.under b2
    have HBw : Hid (Below w.heap.size w w2) := HBA.out.trans (b2.mono (by rw [HSZ.out]; omega))
    obtain ⟨a0, a1, a2, a3, a4, a5⟩ := HB2.out.cells
    obtain ⟨f0, f1, f2, f3, f4, f5⟩ := HB2.out.froz
    clear hs hg hz b2
    go_wp2_with fail
    refine bodyPost_ret (results_bt1 rfl _ _ w.heap.size 1 n (.slice p z.length c) ⟨#[]⟩ 0 (.slice none 0 0) rfl (HB2.out.set 1 n (.slice p z.length c) ⟨#[]⟩ 0 (.slice none 0 0) ⟨_, _, _, rfl⟩ ⟨_, _, _, rfl⟩)) rfl ?_
    have h := al_int (n := n) HS.out HBw.out
    rw [HE.out]
    unfold numT
    rw [← HN.out.1, ← HN.out.2]
    exact h
  by_cases h98 : tag = 98
  · have hl := hf2 h98
    have q1 : ((tag : Int) == 97) = false := by simp [h98]
    have q2 : ((tag : Int) == 98) = true := by simp [h98]
    have hE : t = numT (sig32 (highL D)) := by rw [← HT.out]; unfold rawT; rw [if_neg h97, if_pos h98]
    have hh : highL D < 4294967296 := by
      have h := high_lt 4 D hl
      have h8 : (256 : Nat) ^ 4 = 4294967296 := by decide
      omega
    have HE : Hid _ := hE
    have HHF : Hid (Calls Tryd.prog 156 #[.slice a D.length cap] wA fun e w' => e = .returned (.int .i64 (highL D : Int)) ∧ w' = wA) := highFirst_any _ D wA HYA.out (by omega)
    obtain ⟨x, hx⟩ : ∃ x : Nat, x = highL D := ⟨_, rfl⟩
    rw [← hx] at HE HHF hh
    obtain ⟨y, hy⟩ : ∃ y, y = sig32 x := ⟨_, rfl⟩
    rw [← hy] at HE
    have hw : IntKind.i32.wrap (x : Int) = y := by
      rw [hy]; unfold sig32
      rw [IntKind.wrap_i32]
      split <;> omega
    have hy0 : -2147483648 ≤ y ∧ y ≤ 2147483647 := by rw [hy]; unfold sig32; split <;> omega
    obtain ⟨hy1, hy2⟩ := hy0
    clear hyA h97 h98 hE hh hx hy hl hf1 hf2 hf3
    go_enter Tryd.func131, Tryd.ntmps131
    go_wp2_with fail
    refine HHF.out.mono ?_
    rintro e w1 ⟨rfl, rfl⟩
    go_wp2_with fail
    refine (of_new y w1 (by omega) (by omega)).mono ?_
    rintro e w2 ⟨n, p, z, c, rfl, hs, hg, hz, b2⟩
    have HN : Hid (n = decide (y < 0) ∧ z = if y = 0 then [] else [(y.natAbs : Int)]) := num_one hg hs.ok hz (by omega)
    have HS : Hid (Sl (veil (fromB (w.heap.size + 1)) w2) (.slice p z.length c) z) := by unfold Hid; rw [← HSZ.out]; exact hs
    have HB2 : Hid (Bt w2 w.heap.size 0 false (.slice none 0 0) ⟨#[]⟩ 0 (.slice none 0 0)) := HBt.out.under b2
    have HBw : Hid (Below w.heap.size w w2) := HBA.out.trans (b2.mono (by rw [HSZ.out]; omega))
    obtain ⟨a0, a1, a2, a3, a4, a5⟩ := HB2.out.cells
    obtain ⟨f0, f1, f2, f3, f4, f5⟩ := HB2.out.froz
    clear hs hg hz b2
    go_wp2_with fail
    refine bodyPost_ret (results_bt1 rfl _ _ w.heap.size 1 n (.slice p z.length c) ⟨#[]⟩ 0 (.slice none 0 0) rfl (HB2.out.set 1 n (.slice p z.length c) ⟨#[]⟩ 0 (.slice none 0 0) ⟨_, _, _, rfl⟩ ⟨_, _, _, rfl⟩)) rfl ?_
    have h := al_int (n := n) HS.out HBw.out
    rw [HE.out]
    unfold numT
    rw [← HN.out.1, ← HN.out.2]
    exact h
  by_cases h110 : tag = 110
  · have r1 : ((tag : Int) == 97) = false := by simp [h110]
    have r2 : ((tag : Int) == 98) = false := by simp [h110]
    have r3 : ((tag : Int) == 110) = true := by simp [h110]
    have h0 := hf3 h110
    have HE : Hid (t = .mk 1 (decide (D.getD 0 0 ≠ 0)) (limR (D.drop 1) (D.drop 1).length) ⟨#[]⟩ 0 []) := by unfold Hid; rw [← HT.out]; unfold rawT; rw [if_neg h97, if_neg h98, if_pos h110]
    obtain ⟨b, off, rfl, hlt, hcell⟩ := hyA.at 0 (by omega)
    have hc0 := hcell 0 (by omega)
    rw [Nat.add_zero] at hc0
    have hx8 := ubd D 0
    obtain ⟨x, hxd⟩ : ∃ x, x = (D.getD 0 0).toNat := ⟨_, rfl⟩
    rw [← hxd] at hc0 hx8
    have hne : ((x : Int) != 0) = decide (D.getD 0 0 ≠ 0) := by
      rw [hxd]
      generalize D.getD 0 0 = d
      have e : (d ≠ 0) ↔ d.toNat ≠ 0 := by
        constructor
        · intro h e; exact h (UInt8.toNat_inj.1 (by simpa using e))
        · intro h e; subst e; exact h rfl
      rw [Bool.eq_iff_iff]
      simp only [bne_iff_ne, decide_eq_true_eq, e]
      omega
    obtain ⟨ng, hng⟩ : ∃ ng, ng = decide (D.getD 0 0 ≠ 0) := ⟨_, rfl⟩
    rw [← hng] at hne HE
    obtain ⟨ob, hob⟩ : ∃ ob, ob = if cap = 1 then off else off + 1 := ⟨_, rfl⟩
    have hy1 := hyA.dropI 1 ob (by omega) hob
    have hq : (if cap = 1 then some (⟨b, off, none⟩ : Addr) else some ⟨b, off + 1, none⟩) = some ⟨b, ob, none⟩ := by rw [hob]; split <;> rfl
    obtain ⟨m, hm⟩ : ∃ m, m = D.length := ⟨_, rfl⟩
    have hm1 : (1 : Int) ≤ (m : Int) := by omega
    have hm2 : (m : Int) ≤ 401 := by omega
    have hm3 : (m : Int) ≤ (cap : Int) := by omega
    have hlim : ((D.drop 1).length + 3) / 4 = (limR (D.drop 1) (D.drop 1).length).length := (limR_len _ _).symm
    have hLI : ∀ wx, Below wA.heap.size wA wx → Calls Tryd.prog 157 #[.slice (some ⟨b, ob, none⟩) (m - 1) (cap - 1)] wx fun e w' => ∃ p z c, e = .returned (.slice p z.length c) ∧ Sl (veil (fromB wx.heap.size) w') (.slice p z.length c) z ∧ Below wx.heap.size wx w' ∧ z = limR (D.drop 1) (D.drop 1).length := fun wx hb => by
      rw [hm]
      refine (limbs_any _ (D.drop 1) wx (hy1.under hb) (by simp; omega)).mono ?_
      rintro e w' ⟨p, c, rfl, hs, hbw⟩
      rw [hlim] at hs ⊢
      exact ⟨p, _, c, rfl, hs, hbw, rfl⟩
    have HLI : Hid _ := hLI
    have HC0 : Hid (wA.cell? ⟨b, off, none⟩ = some (.int .u8 (x : Int)) ∧ b < wA.heap.size) := ⟨hc0, hlt⟩
    rw [← hm]
    have hc0d : wA.drew.cell? ⟨b, off, none⟩ = some (.int .u8 (x : Int)) := hc0
    clear hyA h97 h98 h110 hf1 hf2 hf3 hxd hng hob hy1 hlim hLI hm h0 hcell HT HYA hnl hc hcm
    go_enter Tryd.func131, Tryd.ntmps131
    go_wp2_with fail
    go_region_with (first
      | (go_at_call 157; refine (HLI.out _ (by first | exact (Below.refl _ _).drew | exact below_drewN (Below.refl _ _) _ | exact Below.refl _ _)).mono ?_; rintro e w2 ⟨p, z, c, rfl, hs, b2, hz⟩; have hk2 : Below wA.heap.size wA w2 := (by first | exact ((Below.refl _ _).drew).trans (b2.mono (Nat.le_refl _)) | exact (below_drewN (Below.refl _ _) _).trans (b2.mono (Nat.le_refl _)) | exact b2); have hc2 : w2.cell? ⟨b, off, none⟩ = some (.int .u8 (x : Int)) := (hk2.cell (p := ⟨b, off, none⟩) HC0.out.2).trans HC0.out.1; have HZ : Hid (z = limR (D.drop 1) (D.drop 1).length) := hz; have HS : Hid (Sl (veil (fromB (w.heap.size + 1)) w2) (.slice p z.length c) z) := (by unfold Hid; rw [← HSZ.out]; exact hs); have HK2 : Hid (Below wA.heap.size wA w2) := hk2; clear hz hs b2; obtain ⟨b0, b1, b2', b3, b4, b5⟩ := (HBt.out.under hk2).cells; obtain ⟨g0, g1, g2, g3, g4, g5⟩ := (HBt.out.under hk2).froz))
    all_goals
      go_wp2_with fail
      refine bodyPost_ret (results_bt1 rfl _ _ w.heap.size 1 ng (.slice p z.length c) ⟨#[]⟩ 0 (.slice none 0 0) rfl ((HBt.out.under HK2.out).set 1 ng (.slice p z.length c) ⟨#[]⟩ 0 (.slice none 0 0) ⟨_, _, _, rfl⟩ ⟨_, _, _, rfl⟩)) rfl ?_
      have h := al_int (n := ng) HS.out (HBA.out.trans (HK2.out.mono (by rw [HSZ.out]; omega)))
      rw [HE.out, ← HZ.out]
      exact h
  have r1 : ((tag : Int) == 97) = false := by rw [beq_eq_false_iff_ne]; omega
  have r2 : ((tag : Int) == 98) = false := by rw [beq_eq_false_iff_ne]; omega
  have r3 : ((tag : Int) == 110) = false := by rw [beq_eq_false_iff_ne]; omega
  have hsz : (⟨D.toArray⟩ : ByteArray).size = D.length := by simp [ByteArray.size]
  have htx := hyA.text
  have HSS : Hid (((⟨D.toArray⟩ : ByteArray).size : Int) ≤ 140737488355328) := by unfold Hid; rw [hsz]; omega
  clear hyA hsz
  by_cases h119 : tag = 119
  · have r4 : ((tag : Int) == 119) = true := by simp [h119]
    have HE : Hid (t = .mk 2 false [] ⟨D.toArray⟩ 0 []) := by unfold Hid; rw [← HT.out]; unfold rawT; rw [if_neg h97, if_neg h98, if_neg h110, if_pos h119]
    clear h97 h98 h110 h119
    obtain ⟨S, hS⟩ : ∃ S : ByteArray, S = ⟨D.toArray⟩ := ⟨_, rfl⟩
    rw [← hS] at htx HE HSS
    clear hS
    go_enter Tryd.func131, Tryd.ntmps131
    go_wp2_with fail
    refine bodyPost_ret (results_bt1 rfl _ _ w.heap.size 2 false (.slice none 0 0) S 0 (.slice none 0 0) rfl (HBt.out.set 2 false (.slice none 0 0) S 0 (.slice none 0 0) ⟨_, _, _, rfl⟩ ⟨_, _, _, rfl⟩)) rfl ?_
    rw [HE.out]
    exact al_str 2 (by omega) S HSS.out HBA.out
  have r4 : ((tag : Int) == 119) = false := by rw [beq_eq_false_iff_ne]; omega
  by_cases h109 : tag = 109
  · have r5 : ((tag : Int) == 109) = true := by simp [h109]
    have HE : Hid (t = .mk 6 false [] ⟨D.toArray⟩ 0 []) := by unfold Hid; rw [← HT.out]; unfold rawT; rw [if_neg h97, if_neg h98, if_neg h110, if_neg h119, if_pos h109]
    clear h97 h98 h110 h119 h109
    obtain ⟨S, hS⟩ : ∃ S : ByteArray, S = ⟨D.toArray⟩ := ⟨_, rfl⟩
    rw [← hS] at htx HE HSS
    clear hS
    go_enter Tryd.func131, Tryd.ntmps131
    go_wp2_with fail
    refine bodyPost_ret (results_bt1 rfl _ _ w.heap.size 6 false (.slice none 0 0) S 0 (.slice none 0 0) rfl (HBt.out.set 6 false (.slice none 0 0) S 0 (.slice none 0 0) ⟨_, _, _, rfl⟩ ⟨_, _, _, rfl⟩)) rfl ?_
    rw [HE.out]
    exact al_str 6 (by omega) S HSS.out HBA.out
  have r5 : ((tag : Int) == 109) = false := by rw [beq_eq_false_iff_ne]; omega
  by_cases h108 : tag = 108
  · have r6 : ((tag : Int) == 108) = true := by simp [h108]
    have HE : Hid (t = .mk 4 false [] ⟨#[]⟩ 0 []) := by unfold Hid; rw [← HT.out]; unfold rawT; rw [if_neg h97, if_neg h98, if_neg h110, if_neg h119, if_neg h109, if_pos h108]
    clear h97 h98 h110 h119 h109 h108 htx
    go_enter Tryd.func131, Tryd.ntmps131
    go_wp2_with fail
    refine bodyPost_ret (results_bt1 rfl _ _ w.heap.size 4 false (.slice none 0 0) ⟨#[]⟩ 0 (.slice none 0 0) rfl (HBt.out.set 4 false (.slice none 0 0) ⟨#[]⟩ 0 (.slice none 0 0) ⟨_, _, _, rfl⟩ ⟨_, _, _, rfl⟩)) rfl ?_
    rw [HE.out]
    exact al_str 4 (by omega) ⟨#[]⟩ (by decide) HBA.out
  have r6 : ((tag : Int) == 108) = false := by rw [beq_eq_false_iff_ne]; omega
  by_cases h104 : tag = 104
  · have r7 : ((tag : Int) == 104) = true := by simp [h104]
    have HE : Hid (t = .mk 5 false [] ⟨#[]⟩ 0 []) := by unfold Hid; rw [← HT.out]; unfold rawT; rw [if_neg h97, if_neg h98, if_neg h110, if_neg h119, if_neg h109, if_neg h108, if_pos h104]
    clear h97 h98 h110 h119 h109 h108 h104 htx
    go_enter Tryd.func131, Tryd.ntmps131
    go_wp2_with fail
    refine bodyPost_ret (results_bt1 rfl _ _ w.heap.size 5 false (.slice none 0 0) ⟨#[]⟩ 0 (.slice none 0 0) rfl (HBt.out.set 5 false (.slice none 0 0) ⟨#[]⟩ 0 (.slice none 0 0) ⟨_, _, _, rfl⟩ ⟨_, _, _, rfl⟩)) rfl ?_
    rw [HE.out]
    exact al_str 5 (by omega) ⟨#[]⟩ (by decide) HBA.out
  have r7 : ((tag : Int) == 104) = false := by rw [beq_eq_false_iff_ne]; omega
  have HE : Hid (t = .mk 3 false [] ⟨#[]⟩ 0 []) := by unfold Hid; rw [← HT.out]; unfold rawT; rw [if_neg h97, if_neg h98, if_neg h110, if_neg h119, if_neg h109, if_neg h108, if_neg h104]; rfl
  clear h97 h98 h110 h119 h109 h108 h104 htx
  go_enter Tryd.func131, Tryd.ntmps131
  go_wp2_with fail
  refine bodyPost_ret (results_bt1 rfl _ _ w.heap.size 3 false (.slice none 0 0) ⟨#[]⟩ 0 (.slice none 0 0) rfl (HBt.out.set 3 false (.slice none 0 0) ⟨#[]⟩ 0 (.slice none 0 0) ⟨_, _, _, rfl⟩ ⟨_, _, _, rfl⟩)) rfl ?_
  rw [HE.out]
  exact al_str 3 (by omega) ⟨#[]⟩ (by decide) HBA.out
end Go.Proofs.YtbmondbicnfcpaaDoor
