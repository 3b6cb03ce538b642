
/-
  relictlaw06.CompactAll.
-/
import Derived.Test.YtgjjeghnfhjnnaaDoorZCrG
import Derived.Test.YtgjjeghnfhjnnaaDoorZCdC
import Derived.Test.YtgjjeghnfhjnnaaDoorCpL
import Derived.Test.YtgjjeghnfhjnnaaDoorZCgS
import Derived.Deep.Cut
import Derived.Test.YtgjjeghnfhjnnaaDoorCrAll
import Derived.Test.YtgjjeghnfhjnnaaDoorNth
namespace Go.Proofs.YtgjjeghnfhjnnaaDoor
open Go.RowKit
set_option linter.unusedVariables false
set_option linter.unusedSimpArgs false

theorem alk_self (l : List (Int × Int)) : Alk (l.map elOf) (l.map elOf) := ⟨rfl, fun i h h' => by simp [elOf]⟩
theorem sgls_len (L : List (Int × Int)) : (sglsB L).length ≤ 10 * L.length := by
  rw [← els_of]
  have := els_len (L.map elOf)
  rw [List.length_map] at this
  exact this
theorem putT_len (a : Ag) : a.putT.length ≤ 1000 := by
  unfold Ag.putT
  split
  · rename_i h
    rw [Ar.put_eq]
    unfold Ag.okT at h
    unfold Ag.arS
    dsimp only
    split
    · rename_i h7
      rw [if_pos h7] at h
      simp only [Bool.and_eq_true, decide_eq_true_eq] at h
      have h1 := sgls_len (a.kids.map fun k => (k.t, k.n))
      have h2 := @num_len 0 ((a.kids.map fun k => (k.t, k.n)).length : Int)
      rw [List.length_map] at h1
      simp only [List.length_cons, List.length_append]
      omega
    · have := @sgl_len a.t a.n
      omega
  · simp
theorem tree_all {w : World} {a : Ag} {x : El} (h : IsG w a x.v) : ∃ L, Rw3 w x.sl L ∧ x.m = L.length ∧ x.ok L = a.okT ∧ x.putS L = a.putT ∧ x.fit := by
  obtain ⟨t, n, K⟩ := a
  obtain ⟨e1, e2, e3, -⟩ := h.el
  obtain ⟨p, cap, L, he, hf, hl, hr, hk⟩ := (isG_mk ..).1 h
  obtain ⟨xt, xn, xa, xm, xc⟩ := x
  unfold El.v agV El.sl at he
  simp only [Value.agg.injEq, List.toArray_inj, List.cons.injEq, Value.int.injEq, Value.slice.injEq, and_true, true_and] at he
  obtain ⟨rfl, rfl, rfl, rfl, rfl⟩ := he
  have hat : ∀ i (h : i < L.length) (h' : i < K.length), L[i].t = K[i].t ∧ L[i].n = K[i].n ∧ L[i].m = K[i].kids.length := fun i a b => by
    obtain ⟨f1, f2, f3, -⟩ := (hk i b a).el
    exact ⟨f1, f2, f3⟩
  have hall : L.all El.ok1 = K.all Ag.sgS := all_at _ _ L K hl (fun i a b => by
    obtain ⟨f1, f2, f3⟩ := hat i a b
    unfold El.ok1 Ag.sgS
    rw [f1, f2, f3])
  have hbt : elsB L = sglsB (K.map fun k => (k.t, k.n)) := by
    unfold elsB sglsB
    congr 1
    rw [List.map_map]
    refine List.ext_getElem (by simp [hl]) (fun i a b => ?_)
    obtain ⟨f1, f2, f3⟩ := hat i (by simpa using a) (by simpa using b)
    simp only [List.getElem_map, Function.comp_apply, f1, f2]
  have hk1 : El.ok1 ⟨t, n, p, K.length, cap⟩ = Ag.sgS ⟨t, n, K⟩ := rfl
  have hok : El.ok ⟨t, n, p, K.length, cap⟩ L = Ag.okT ⟨t, n, K⟩ := by
    unfold El.ok Ag.okT
    dsimp only
    rw [hall, hl, hk1]
  have hpp : El.put ⟨t, n, p, K.length, cap⟩ L = (Ag.arS ⟨t, n, K⟩).put := by
    unfold El.put
    rw [Ar.put_eq, hbt, hl]
    unfold Ag.arS
    simp
  refine ⟨L, hr, by dsimp only; omega, hok, ?_, hf⟩
  unfold El.putS Ag.putT
  rw [hok, hpp]

set_option maxRecDepth 100000 in
set_option maxHeartbeats 8000000 in
theorem compactAll_walk (v : Value) (l : List UInt8) (va : Value) (a : Ag) (at' : Int) (w : World) (hS : Spn w) (hv : By w v l) (ha : IsG w a va) :
    Calls Tryd.prog 3 #[v, va, .int .i64 at'] w fun e w' => e = .returned (.bool true) ∧ Below w.heap.size w w' := by
  obtain ⟨av, cap, rfl, hc1, hc2, hc3⟩ := hv.shape
  obtain ⟨pa, ca, rfl, hfa, hga⟩ := ha.open
  have HAW : Hid (∀ W, Below w.heap.size w W → Calls Tryd.prog 9 #[] W fun e w' => e = .returned (.bool true) ∧ Below W.heap.size W w') := fun W hW => awake6 W (hS.under hW)
  have HS : Hid (Spn w) := hS
  have HV : Hid (By w (.slice av l.length cap) l) := hv
  have HA : Hid (IsG w a (El.v ⟨a.t, a.n, pa, a.kids.length, ca⟩)) := ha
  have HFA : Hid (El.fit ⟨a.t, a.n, pa, a.kids.length, ca⟩) := hfa
  have b1 := (Below.refl w.heap.size w).alloc (Nat.le_refl _) (.cells #[.int .i64 a.t, .int .i64 a.n, .slice pa a.kids.length ca] 25)
  have HB1 : Hid (Below w.heap.size w (w.alloc (.cells #[.int .i64 a.t, .int .i64 a.n, .slice pa a.kids.length ca] 25))) := b1
  have HX1 : Hid (BxA (w.alloc (.cells #[.int .i64 a.t, .int .i64 a.n, .slice pa a.kids.length ca] 25)) w.heap.size a.t a.n (.slice pa a.kids.length ca)) := BxA.new _ _ _ _
  clear hv ha hga hfa hS
  unfold agV
  by_cases hbig : (3000 : Int) < (l.length : Int)
  · clear b1
    go_enter Tryd.func3, Tryd.ntmps3
    go_wp2_with fail
    refine (HAW.out _ HB1.out).mono ?_
    rintro e w2 ⟨rfl, b2⟩
    have HB2 : Hid (Below w.heap.size w w2) := HB1.out.trans (b2.mono HB1.out.size)
    clear b2
    go_wp2_with fail
    go_ret
    exact ⟨rfl, HB2.out⟩
  have hls : l.length ≤ 3000 := by omega
  have HFEW : Hid (Calls Tryd.prog 8 #[.slice (some ⟨(w.alloc (.cells #[.int .i64 a.t, .int .i64 a.n, .slice pa a.kids.length ca] 25)).heap.size, 0, none⟩) 1 1, .int .i64 3] ((w.alloc (.cells #[.int .i64 a.t, .int .i64 a.n, .slice pa a.kids.length ca] 25)).alloc (.cells #[.int .i64 a.t, .int .i64 a.n, .slice pa a.kids.length ca] 25)) (FewT ((w.alloc (.cells #[.int .i64 a.t, .int .i64 a.n, .slice pa a.kids.length ca] 25)).alloc (.cells #[.int .i64 a.t, .int .i64 a.n, .slice pa a.kids.length ca] 25)) [a])) :=
    few_tell ⟨0, 0, [a]⟩ _ _ 3 (Gs.one _ a ⟨a.t, a.n, pa, a.kids.length, ca⟩ HFA.out (HA.out.under b1)) (by decide) (by decide)
  have b12 := (Below.refl (w.alloc (.cells #[.int .i64 a.t, .int .i64 a.n, .slice pa a.kids.length ca] 25)).heap.size (w.alloc (.cells #[.int .i64 a.t, .int .i64 a.n, .slice pa a.kids.length ca] 25))).alloc (Nat.le_refl _) (.cells #[.int .i64 a.t, .int .i64 a.n, .slice pa a.kids.length ca] 25)
  have HB2 : Hid (Below w.heap.size w ((w.alloc (.cells #[.int .i64 a.t, .int .i64 a.n, .slice pa a.kids.length ca] 25)).alloc (.cells #[.int .i64 a.t, .int .i64 a.n, .slice pa a.kids.length ca] 25))) := b1.trans (b12.mono b1.size)
  have HX2 : Hid (BxA ((w.alloc (.cells #[.int .i64 a.t, .int .i64 a.n, .slice pa a.kids.length ca] 25)).alloc (.cells #[.int .i64 a.t, .int .i64 a.n, .slice pa a.kids.length ca] 25)) w.heap.size a.t a.n (.slice pa a.kids.length ca)) := HX1.out.under b12
  have hgl : w.heap.size < ((w.alloc (.cells #[.int .i64 a.t, .int .i64 a.n, .slice pa a.kids.length ca] 25)).alloc (.cells #[.int .i64 a.t, .int .i64 a.n, .slice pa a.kids.length ca] 25)).heap.size := HX2.out.lt
  obtain ⟨q0, q1, q2, -⟩ := HX1.out.facts
  clear b1 b12
  rw [show (w.alloc (.cells #[.int .i64 a.t, .int .i64 a.n, .slice pa a.kids.length ca] 25)).heap.size = w.heap.size + 1 by simp] at HFEW
  generalize hgd : w.heap.size = g0 at *
  go_enter Tryd.func3, Tryd.ntmps3
  go_wp2_with fail
  refine HFEW.out.mono ?_
  rintro e w2 ⟨q, rfl, rfl, hq⟩
  generalize hw2d : (w.alloc (.cells #[.int .i64 a.t, .int .i64 a.n, .slice pa a.kids.length ca] 25)).alloc (.cells #[.int .i64 a.t, .int .i64 a.n, .slice pa a.kids.length ca] 25) = w2 at *
  clear HFEW q0 q1 q2
  cases q
  · clear hq
    go_wp2_with fail
    refine (HAW.out _ HB2.out).mono ?_
    rintro e w3 ⟨rfl, b3⟩
    have HB3 : Hid (Below g0 w w3) := HB2.out.trans (b3.mono (by omega))
    clear b3
    go_wp2_with fail
    go_ret
    exact ⟨rfl, HB3.out⟩
  obtain ⟨-, hall⟩ := hq rfl
  have HALL : Hid (fewAll a = true) := by unfold Hid; simpa using hall
  clear hq hall hw2d
  have HVY : Hid (By w2 (.slice av l.length cap) l) := HV.out.under (by rw [hgd]; exact HB2.out)
  have hg2 : g0 ≤ w2.heap.size := by omega
  go_wp2_with (first | (at_builtin; refine wpList_append_by rfl _ _ rfl w2.heap.size (.slice none 0 0) [] rfl (OB.nil _ _) (by simp) (Nat.le_refl _) _ l rfl HVY.out (by omega) ?_; intro v3 w3 hO3 hBB hKK; rw [List.nil_append] at hO3; have HO3 : Hid (OB w3 w2.heap.size v3 l) := hO3; have HB3 : Hid (Below w2.heap.size w2 w3) := hBB _ _ (Nat.le_refl _) (Nat.le_refl _) (Below.refl _ _); have HO4 : Hid (OB (w3.alloc (.cells #[.int .u8 99] 5)) w2.heap.size v3 l) := hO3.under ((Below.refl w3.heap.size w3).alloc (Nat.le_refl _) _); have HB4 : Hid (Below w2.heap.size w2 (w3.alloc (.cells #[.int .u8 99] 5))) := HB3.out.alloc HB3.out.size _; have HL4 : Hid (By (w3.alloc (.cells #[.int .u8 99] 5)) (.slice (some ⟨w3.heap.size, 0, none⟩) 1 1) [99]) := By.lit w3 99 (by decide) (by decide); clear hO3 hBB hKK) | (at_builtin; refine wpList_append_by rfl _ _ rfl w2.heap.size v3 l rfl HO4.out (by omega) (by have := HB3.out.size; simp; omega) _ [99] rfl HL4.out (by simp) ?_; intro v5 w5 hO5 hBB hKK; have HO5 : Hid (OB w5 w2.heap.size v5 (l ++ [99])) := hO5; have HB5 : Hid (Below w2.heap.size w2 w5) := hBB _ _ (by have := HB3.out.size; simp; omega) (Nat.le_refl _) HB4.out; obtain ⟨gc, cc, rfl, hgc, hcc1, hcc2⟩ := hO5.shape (by simp); clear hO5 hBB hKK; rw [List.length_append] at hcc1; dsimp only [List.length_cons, List.length_nil] at hcc1) | fail)
  have hb5 : Below w.heap.size w w5 := by rw [hgd]; exact HB2.out.trans (HB5.out.mono hg2)
  have HB6 : Hid (Below g0 w w5) := by rw [← hgd]; exact hb5
  have HX5 : Hid (BxA w5 g0 a.t a.n (.slice pa a.kids.length ca)) := HX2.out.under HB5.out
  have HCL : Hid (∀ W, Below w5.heap.size w5 W → W.cell? ⟨g0, 0, none⟩ = some (.int .i64 a.t) ∧ W.cell? ⟨g0, 1, none⟩ = some (.int .i64 a.n) ∧ W.cell? ⟨g0, 2, none⟩ = some (.slice pa a.kids.length ca)) := fun W hW => by
    obtain ⟨c0, c1, c2, -⟩ := (HX5.out.under hW).facts
    exact ⟨c0, c1, c2⟩
  have hcy := HO5.out.by.take l.length cc (by simp) (by omega) (Nat.le_refl _)
  rw [List.take_left] at hcy
  have HCY : Hid (By w5 (.slice (some ⟨gc, 0, none⟩) l.length cc) l) := hcy
  have HAW5 : ∀ W, Below w5.heap.size w5 W → IsG W a (El.v ⟨a.t, a.n, pa, a.kids.length, ca⟩) := fun W hW => HA.out.under (hb5.trans (hW.mono hb5.size))
  have HSW : ∀ W, Below w5.heap.size w5 W → Spn W := fun W hW => HS.out.under (hb5.trans (hW.mono hb5.size))
  have HARG : Hid (∀ W, Below w5.heap.size w5 W → Calls Tryd.prog 11 #[.agg #[.int .i64 a.t, .int .i64 a.n, .slice pa a.kids.length ca]] W (ArgPost W a)) := fun W hW => arg_copy a W _ (HAW5 W hW) HALL.out
  have HCHK : Hid (∀ W (x : El), Below w5.heap.size w5 W → IsG W a x.v → Calls Tryd.prog 10 #[.agg #[.int .i64 x.t, .int .i64 x.n, .slice x.a x.m x.c]] W (fun e w' => e = .returned (.bool a.okT) ∧ Below W.heap.size W w')) := fun W x hW hx => by
    obtain ⟨L, hr, hm, ho, hp, hf⟩ := tree_all hx
    have := check_any x L W (HSW W hW) hf hr hm
    rw [ho] at this
    exact this
  have HRCK : Hid (∀ W, Below w5.heap.size w5 W → Calls Tryd.prog 12 #[.agg #[.int .i64 a.t, .int .i64 a.n, .slice pa a.kids.length ca]] W (fun e w' => e = .returned (.bool a.okT) ∧ Below W.heap.size W w')) := fun W hW => by
    obtain ⟨L, hr, hm, ho, hp, hf⟩ := tree_all (HAW5 W hW)
    have := rcx_any W _ L hf hr hm
    rw [ho] at this
    exact this
  have HPUT : Hid (∀ W (x : El), Below w5.heap.size w5 W → IsG W a x.v → Calls Tryd.prog 13 #[.slice (some ⟨gc, 0, none⟩) l.length cc, .agg #[.int .i64 x.t, .int .i64 x.n, .slice x.a x.m x.c]] W (fun e w' => PutA W l a.putT e w')) := fun W x hW hx => by
    obtain ⟨L, hr, hm, ho, hp, hf⟩ := tree_all hx
    have := put_any _ l x L W (HSW W hW) (hcy.under hW) (by omega) hf hr hm
    rw [hp] at this
    exact this
  have HRPT : Hid (∀ W, Below w5.heap.size w5 W → Calls Tryd.prog 14 #[.agg #[.int .i64 a.t, .int .i64 a.n, .slice pa a.kids.length ca]] W (fun e w' => PutA W [] a.putT e w')) := fun W hW => by
    obtain ⟨L, hr, hm, ho, hp, hf⟩ := tree_all (HAW5 W hW)
    have := rPut_any W _ L hf hr hm
    rw [hp] at this
    exact this
  obtain ⟨S1, hS1⟩ : ∃ S : ByteArray, S = ⟨(l ++ a.putT).toArray⟩ := ⟨_, rfl⟩
  obtain ⟨S2, hS2⟩ : ∃ S : ByteArray, S = ⟨l.toArray⟩ := ⟨_, rfl⟩
  obtain ⟨S3, hS3⟩ : ∃ S : ByteArray, S = ⟨a.putT.toArray⟩ := ⟨_, rfl⟩
  have hcat : (S1.toList == (S2 ++ S3).toList) = true := by
    rw [tl_eq, tl_eq, hS1, hS2, hS3]
    simp [ByteArray.data_append]
  have hz2 : (S2.size : Int) ≤ 3000 := by rw [hS2]; simp [ByteArray.size]; omega
  have hz3 : (S3.size : Int) ≤ 1000 := by
    rw [hS3]
    have := putT_len a
    simp [ByteArray.size]
    omega
  have hzz : ¬ (9223372036854775807 < S2.size + S3.size) := by omega
  have HS1 : Hid (S1 = ⟨(l ++ a.putT).toArray⟩) := hS1
  have HS3 : Hid (S3 = ⟨a.putT.toArray⟩) := hS3
  have HTB : Hid (∀ W, Below w5.heap.size w5 W → (convert 22 9 (.slice av l.length cap)).run Tryd.prog W = .ok (.string S2) W) := fun W hW => by
    have := (HV.out.under (hb5.trans (hW.mono hb5.size))).text
    rw [← hS2] at this
    exact this
  clear hS1 hS2 hS3 hcy HAW5 HSW hb5
  go_cut [50] from 31 (fun s wc => s = .bool false ∧ Below w5.heap.size w5 wc)
  case first =>
    refine wp_region_noPanic ?_
    refine wp_region_held_drew (S := (fun W' => W'.cell? ⟨g0, 0, none⟩ = some (.int .i64 a.t) ∧ W'.cell? ⟨g0, 1, none⟩ = some (.int .i64 a.n) ∧ W'.cell? ⟨g0, 2, none⟩ = some (.slice pa a.kids.length ca))) (by kernel_rfl) ?_ (fun hHeld => ?_)
    · exact HCL.out _ ((Below.refl _ _).drew)
    refine wpAnyH_take (i := 0) (v := ?_) (opNth_ops rfl) (by kernel_rfl) (by kernel_rfl) (by kernel_rfl) (fun _ _ _ h => h) (Or.inl ⟨by rfl, ?_⟩) (by assumption) ?_
    rotate_left
    · intro wq hSq
      go_simp
      try with_reducible rfl
    try simp only [Act.put, List.setIfInBounds_toArray, List.set_cons_zero, List.set_cons_succ]
    refine wpAnyH_take (i := 3) (v := ?_) (opNth_ops rfl) (by kernel_rfl) (by kernel_rfl) (by kernel_rfl) (fun _ _ _ h => h) (Or.inl ⟨by rfl, ?_⟩) (by assumption) ?_
    rotate_left
    · intro wq hSq
      go_simp
      try with_reducible rfl
    try simp only [Act.put, List.setIfInBounds_toArray, List.set_cons_zero, List.set_cons_succ]
    refine wpAnyH_ready (rs := [1]) (by kernel_rfl) (by simp) ?_
    refine AllReadyH.cons (opNth_ops rfl) (fun K hK => ?_) ?_
    rotate_left
    exact AllReadyH.nil
    go_simp
    go_at_call 11
    refine (HARG.out _ ((Below.refl _ _).drew)).mono ?_
    rintro e x1 ⟨⟨y1t, y1n, y1a, y1m, y1c⟩, rfl, yf1, yg1, b1⟩
    have h1 : Below w5.heap.size w5 x1 := ((Below.refl _ _).drew).trans (b1.mono (Nat.le_refl _))
    have IG1 : Hid (IsG x1 a (El.v ⟨y1t, y1n, y1a, y1m, y1c⟩)) := yg1.isG
    clear yf1 yg1 b1
    unfold El.v agV El.sl
    dsimp only
    go_wp2_with fail
    refine hK.out _ _ ?_ (fun hHeld => ?_)
    · exact HCL.out _ h1
    clear hK K
    try simp only [Act.put, List.setIfInBounds_toArray, List.set_cons_zero, List.set_cons_succ]
    refine wpAnyH_ready (rs := [2]) (by kernel_rfl) (by simp) ?_
    refine AllReadyH.cons (opNth_ops rfl) (fun K hK => ?_) ?_
    rotate_left
    exact AllReadyH.nil
    go_simp
    go_at_call 10
    refine (HCHK.out _ _ h1 IG1.out).mono ?_
    rintro e x2 ⟨rfl, b2⟩
    have h2 : Below w5.heap.size w5 x2 := h1.trans (b2.mono h1.size)
    clear b2 IG1
    go_wp2_with fail
    refine hK.out _ _ ?_ (fun hHeld => ?_)
    · exact HCL.out _ h2
    clear hK K
    try simp only [Act.put, List.setIfInBounds_toArray, List.set_cons_zero, List.set_cons_succ]
    refine wpAnyH_ready (rs := [4]) (by kernel_rfl) (by simp) ?_
    refine AllReadyH.cons (opNth_ops rfl) (fun K hK => ?_) ?_
    rotate_left
    exact AllReadyH.nil
    go_simp
    go_at_call 12
    refine (HRCK.out _ h2).mono ?_
    rintro e x3 ⟨rfl, b3⟩
    have h3 : Below w5.heap.size w5 x3 := h2.trans (b3.mono h2.size)
    clear b3
    go_wp2_with fail
    refine hK.out _ _ ?_ (fun hHeld => ?_)
    · exact HCL.out _ h3
    clear hK K
    try simp only [Act.put, List.setIfInBounds_toArray, List.set_cons_zero, List.set_cons_succ]
    refine wpAnyH_take (i := 5) (v := ?_) (opNth_ops rfl) (by kernel_rfl) (by kernel_rfl) (by kernel_rfl) (fun _ _ _ h => h) (Or.inl ⟨by rfl, ?_⟩) (by assumption) ?_
    rotate_left
    · intro wq hSq
      go_simp
      try with_reducible rfl
    try simp only [Act.put, List.setIfInBounds_toArray, List.set_cons_zero, List.set_cons_succ]
    refine wpAnyH_take (i := 6) (v := ?_) (opNth_ops rfl) (by kernel_rfl) (by kernel_rfl) (by kernel_rfl) (fun _ _ _ h => h) (Or.inl ⟨by rfl, ?_⟩) (by assumption) ?_
    rotate_left
    · intro wq hSq
      go_simp
      try with_reducible rfl
    try simp only [Act.put, List.setIfInBounds_toArray, List.set_cons_zero, List.set_cons_succ]
    refine wpAnyH_take (i := 7) (v := ?_) (opNth_ops rfl) (by kernel_rfl) (by kernel_rfl) (by kernel_rfl) (fun _ _ _ h => h) (Or.inl ⟨by rfl, ?_⟩) (by assumption) ?_
    rotate_left
    · intro wq hSq
      go_simp
      try with_reducible rfl
    try simp only [Act.put, List.setIfInBounds_toArray, List.set_cons_zero, List.set_cons_succ]
    refine wpAnyH_take (i := 8) (v := ?_) (opNth_ops rfl) (by kernel_rfl) (by kernel_rfl) (by kernel_rfl) (fun _ _ _ h => h) (Or.inl ⟨by rfl, ?_⟩) (by assumption) ?_
    rotate_left
    · intro wq hSq
      go_simp
      try with_reducible rfl
    try simp only [Act.put, List.setIfInBounds_toArray, List.set_cons_zero, List.set_cons_succ]
    refine wpAnyH_take (i := 12) (v := ?_) (opNth_ops rfl) (by kernel_rfl) (by kernel_rfl) (by kernel_rfl) (fun _ _ _ h => h) (Or.inl ⟨by rfl, ?_⟩) (by assumption) ?_
    rotate_left
    · intro wq hSq
      go_simp
      try with_reducible rfl
    try simp only [Act.put, List.setIfInBounds_toArray, List.set_cons_zero, List.set_cons_succ]
    refine wpAnyH_take (i := 14) (v := ?_) (opNth_ops rfl) (by kernel_rfl) (by kernel_rfl) (by kernel_rfl) (fun _ _ _ h => h) (Or.inl ⟨by rfl, ?_⟩) (by assumption) ?_
    rotate_left
    · intro wq hSq
      go_simp
      try with_reducible rfl
    try simp only [Act.put, List.setIfInBounds_toArray, List.set_cons_zero, List.set_cons_succ]
    refine wpAnyH_ready (rs := [9, 13]) (by kernel_rfl) (by simp) ?_
    refine AllReadyH.cons (opNth_ops rfl) (fun K hK => ?_) ?_
    · go_simp
      go_at_call 11
      refine (HARG.out _ h3).mono ?_
      rintro e x4 ⟨⟨y4t, y4n, y4a, y4m, y4c⟩, rfl, yf4, yg4, b4⟩
      have h4 : Below w5.heap.size w5 x4 := h3.trans (b4.mono h3.size)
      have IG4 : Hid (IsG x4 a (El.v ⟨y4t, y4n, y4a, y4m, y4c⟩)) := yg4.isG
      clear yf4 yg4 b4
      unfold El.v agV El.sl
      dsimp only
      go_wp2_with fail
      refine hK.out _ _ ?_ (fun hHeld => ?_)
      · exact HCL.out _ h4
      clear hK K
      try simp only [Act.put, List.setIfInBounds_toArray, List.set_cons_zero, List.set_cons_succ]
      refine wpAnyH_ready (rs := [10, 13]) (by kernel_rfl) (by simp) ?_
      refine AllReadyH.cons (opNth_ops rfl) (fun K hK => ?_) ?_
      · go_simp
        go_at_call 13
        refine (HPUT.out _ _ h4 IG4.out).mono ?_
        rintro e x5 ⟨vp, rfl, y5, b5⟩
        have h5 : Below w5.heap.size w5 x5 := h4.trans (b5.mono h4.size)
        obtain ⟨ap, cp, rfl, -⟩ := y5.shape
        obtain ⟨n5, hn5⟩ : ∃ n, n = (l ++ a.putT).length := ⟨_, rfl⟩
        have HP5 : Hid (∀ W, Below x5.heap.size x5 W → (convert 22 9 (.slice ap n5 cp)).run Tryd.prog W = .ok (.string S1) W) := fun W hW => (by have := (y5.under hW).text; rw [← HS1.out, ← hn5] at this; exact this)
        rw [← hn5]
        have k5 : Below x5.heap.size x5 x5 := Below.refl _ _
        clear y5 b5 IG4 hn5
        go_wp2_with fail
        refine hK.out _ _ ?_ (fun hHeld => ?_)
        · exact HCL.out _ h5
        clear hK K
        try simp only [Act.put, List.setIfInBounds_toArray, List.set_cons_zero, List.set_cons_succ]
        refine wpAnyH_ready (rs := [11, 13, 15]) (by kernel_rfl) (by simp) ?_
        refine AllReadyH.cons (opNth_ops rfl) (fun K hK => ?_) ?_
        · have tp := HP5.out _ k5
          go_simp
          refine hK.out _ _ ?_ (fun hHeld => ?_)
          · exact HCL.out _ h5
          clear hK K
          try simp only [Act.put, List.setIfInBounds_toArray, List.set_cons_zero, List.set_cons_succ]
          clear tp
          refine wpAnyH_ready (rs := [13, 15]) (by kernel_rfl) (by simp) ?_
          refine AllReadyH.cons (opNth_ops rfl) (fun K hK => ?_) ?_
          · have tb := HTB.out _ h5
            go_simp
            refine hK.out _ _ ?_ (fun hHeld => ?_)
            · exact HCL.out _ h5
            clear hK K
            try simp only [Act.put, List.setIfInBounds_toArray, List.set_cons_zero, List.set_cons_succ]
            clear tb
            refine wpAnyH_ready (rs := [15]) (by kernel_rfl) (by simp) ?_
            refine AllReadyH.cons (opNth_ops rfl) (fun K hK => ?_) ?_
            · go_simp
              go_at_call 14
              refine (HRPT.out _ h5).mono ?_
              rintro e x6 ⟨vr, rfl, y6, b6⟩
              have h6 : Below w5.heap.size w5 x6 := h5.trans (b6.mono h5.size)
              rw [List.nil_append] at y6
              obtain ⟨ar, cr, rfl, -⟩ := y6.shape
              have HP6 : Hid ((convert 22 9 (.slice ar a.putT.length cr)).run Tryd.prog x6 = .ok (.string S3) x6) := (by have := y6.text; rw [← HS3.out] at this; exact this)
              have k6 : Below x5.heap.size x5 x6 := b6
              clear y6 b6
              go_wp2_with fail
              refine hK.out _ _ ?_ (fun hHeld => ?_)
              · exact HCL.out _ h6
              clear hK K
              try simp only [Act.put, List.setIfInBounds_toArray, List.set_cons_zero, List.set_cons_succ]
              refine wpAnyH_ready (rs := [16]) (by kernel_rfl) (by simp) ?_
              refine AllReadyH.cons (opNth_ops rfl) (fun K hK => ?_) ?_
              · have tr := HP6.out
                go_simp
                refine hK.out _ _ ?_ (fun hHeld => ?_)
                · exact HCL.out _ h6
                clear hK K
                try simp only [Act.put, List.setIfInBounds_toArray, List.set_cons_zero, List.set_cons_succ]
                clear tr
                refine wpAnyH_take (i := 17) (v := ?_) (opNth_ops rfl) (by kernel_rfl) (by kernel_rfl) (by kernel_rfl) (fun _ _ _ h => h) (Or.inl ⟨by rfl, ?_⟩) (by assumption) ?_
                rotate_left
                · intro wq hSq
                  go_simp
                  try with_reducible rfl
                try simp only [Act.put, List.setIfInBounds_toArray, List.set_cons_zero, List.set_cons_succ]
                refine wpAnyH_take (i := 18) (v := ?_) (opNth_ops rfl) (by kernel_rfl) (by kernel_rfl) (by kernel_rfl) (fun _ _ _ h => h) (Or.inl ⟨by rfl, ?_⟩) (by assumption) ?_
                rotate_left
                · intro wq hSq
                  go_simp
                  try with_reducible rfl
                try simp only [Act.put, List.setIfInBounds_toArray, List.set_cons_zero, List.set_cons_succ]
                refine wpAnyH_take (i := 19) (v := ?_) (opNth_ops rfl) (by kernel_rfl) (by kernel_rfl) (by kernel_rfl) (fun _ _ _ h => h) (Or.inl ⟨by rfl, ?_⟩) (by assumption) ?_
                rotate_left
                · intro wq hSq
                  go_simp
                  try with_reducible rfl
                try simp only [Act.put, List.setIfInBounds_toArray, List.set_cons_zero, List.set_cons_succ]
                refine wpAnyH_done (by kernel_rfl) ?_ _
                refine NoPanic.normal ?_
                go_wp2_with fail
                go_meet
                case rel => exact ⟨rfl, h6⟩
              exact AllReadyH.nil
            exact AllReadyH.nil
          refine AllReadyH.cons (opNth_ops rfl) (fun K hK => ?_) ?_
          · go_simp
            go_at_call 14
            refine (HRPT.out _ h5).mono ?_
            rintro e x6 ⟨vr, rfl, y6, b6⟩
            have h6 : Below w5.heap.size w5 x6 := h5.trans (b6.mono h5.size)
            rw [List.nil_append] at y6
            obtain ⟨ar, cr, rfl, -⟩ := y6.shape
            have HP6 : Hid ((convert 22 9 (.slice ar a.putT.length cr)).run Tryd.prog x6 = .ok (.string S3) x6) := (by have := y6.text; rw [← HS3.out] at this; exact this)
            have k6 : Below x5.heap.size x5 x6 := b6
            clear y6 b6
            go_wp2_with fail
            refine hK.out _ _ ?_ (fun hHeld => ?_)
            · exact HCL.out _ h6
            clear hK K
            try simp only [Act.put, List.setIfInBounds_toArray, List.set_cons_zero, List.set_cons_succ]
            refine wpAnyH_ready (rs := [13, 16]) (by kernel_rfl) (by simp) ?_
            refine AllReadyH.cons (opNth_ops rfl) (fun K hK => ?_) ?_
            · have tb := HTB.out _ h6
              go_simp
              refine hK.out _ _ ?_ (fun hHeld => ?_)
              · exact HCL.out _ h6
              clear hK K
              try simp only [Act.put, List.setIfInBounds_toArray, List.set_cons_zero, List.set_cons_succ]
              clear tb
              refine wpAnyH_ready (rs := [16]) (by kernel_rfl) (by simp) ?_
              refine AllReadyH.cons (opNth_ops rfl) (fun K hK => ?_) ?_
              · have tr := HP6.out
                go_simp
                refine hK.out _ _ ?_ (fun hHeld => ?_)
                · exact HCL.out _ h6
                clear hK K
                try simp only [Act.put, List.setIfInBounds_toArray, List.set_cons_zero, List.set_cons_succ]
                clear tr
                refine wpAnyH_take (i := 17) (v := ?_) (opNth_ops rfl) (by kernel_rfl) (by kernel_rfl) (by kernel_rfl) (fun _ _ _ h => h) (Or.inl ⟨by rfl, ?_⟩) (by assumption) ?_
                rotate_left
                · intro wq hSq
                  go_simp
                  try with_reducible rfl
                try simp only [Act.put, List.setIfInBounds_toArray, List.set_cons_zero, List.set_cons_succ]
                refine wpAnyH_take (i := 18) (v := ?_) (opNth_ops rfl) (by kernel_rfl) (by kernel_rfl) (by kernel_rfl) (fun _ _ _ h => h) (Or.inl ⟨by rfl, ?_⟩) (by assumption) ?_
                rotate_left
                · intro wq hSq
                  go_simp
                  try with_reducible rfl
                try simp only [Act.put, List.setIfInBounds_toArray, List.set_cons_zero, List.set_cons_succ]
                refine wpAnyH_take (i := 19) (v := ?_) (opNth_ops rfl) (by kernel_rfl) (by kernel_rfl) (by kernel_rfl) (fun _ _ _ h => h) (Or.inl ⟨by rfl, ?_⟩) (by assumption) ?_
                rotate_left
                · intro wq hSq
                  go_simp
                  try with_reducible rfl
                try simp only [Act.put, List.setIfInBounds_toArray, List.set_cons_zero, List.set_cons_succ]
                refine wpAnyH_done (by kernel_rfl) ?_ _
                refine NoPanic.normal ?_
                go_wp2_with fail
                go_meet
                case rel => exact ⟨rfl, h6⟩
              exact AllReadyH.nil
            refine AllReadyH.cons (opNth_ops rfl) (fun K hK => ?_) ?_
            · have tr := HP6.out
              go_simp
              refine hK.out _ _ ?_ (fun hHeld => ?_)
              · exact HCL.out _ h6
              clear hK K
              try simp only [Act.put, List.setIfInBounds_toArray, List.set_cons_zero, List.set_cons_succ]
              clear tr
              refine wpAnyH_ready (rs := [13]) (by kernel_rfl) (by simp) ?_
              refine AllReadyH.cons (opNth_ops rfl) (fun K hK => ?_) ?_
              · have tb := HTB.out _ h6
                go_simp
                refine hK.out _ _ ?_ (fun hHeld => ?_)
                · exact HCL.out _ h6
                clear hK K
                try simp only [Act.put, List.setIfInBounds_toArray, List.set_cons_zero, List.set_cons_succ]
                clear tb
                refine wpAnyH_take (i := 17) (v := ?_) (opNth_ops rfl) (by kernel_rfl) (by kernel_rfl) (by kernel_rfl) (fun _ _ _ h => h) (Or.inl ⟨by rfl, ?_⟩) (by assumption) ?_
                rotate_left
                · intro wq hSq
                  go_simp
                  try with_reducible rfl
                try simp only [Act.put, List.setIfInBounds_toArray, List.set_cons_zero, List.set_cons_succ]
                refine wpAnyH_take (i := 18) (v := ?_) (opNth_ops rfl) (by kernel_rfl) (by kernel_rfl) (by kernel_rfl) (fun _ _ _ h => h) (Or.inl ⟨by rfl, ?_⟩) (by assumption) ?_
                rotate_left
                · intro wq hSq
                  go_simp
                  try with_reducible rfl
                try simp only [Act.put, List.setIfInBounds_toArray, List.set_cons_zero, List.set_cons_succ]
                refine wpAnyH_take (i := 19) (v := ?_) (opNth_ops rfl) (by kernel_rfl) (by kernel_rfl) (by kernel_rfl) (fun _ _ _ h => h) (Or.inl ⟨by rfl, ?_⟩) (by assumption) ?_
                rotate_left
                · intro wq hSq
                  go_simp
                  try with_reducible rfl
                try simp only [Act.put, List.setIfInBounds_toArray, List.set_cons_zero, List.set_cons_succ]
                refine wpAnyH_done (by kernel_rfl) ?_ _
                refine NoPanic.normal ?_
                go_wp2_with fail
                go_meet
                case rel => exact ⟨rfl, h6⟩
              exact AllReadyH.nil
            exact AllReadyH.nil
          exact AllReadyH.nil
        refine AllReadyH.cons (opNth_ops rfl) (fun K hK => ?_) ?_
        · have tb := HTB.out _ h5
          go_simp
          refine hK.out _ _ ?_ (fun hHeld => ?_)
          · exact HCL.out _ h5
          clear hK K
          try simp only [Act.put, List.setIfInBounds_toArray, List.set_cons_zero, List.set_cons_succ]
          clear tb
          refine wpAnyH_ready (rs := [11, 15]) (by kernel_rfl) (by simp) ?_
          refine AllReadyH.cons (opNth_ops rfl) (fun K hK => ?_) ?_
          · have tp := HP5.out _ k5
            go_simp
            refine hK.out _ _ ?_ (fun hHeld => ?_)
            · exact HCL.out _ h5
            clear hK K
            try simp only [Act.put, List.setIfInBounds_toArray, List.set_cons_zero, List.set_cons_succ]
            clear tp
            refine wpAnyH_ready (rs := [15]) (by kernel_rfl) (by simp) ?_
            refine AllReadyH.cons (opNth_ops rfl) (fun K hK => ?_) ?_
            · go_simp
              go_at_call 14
              refine (HRPT.out _ h5).mono ?_
              rintro e x6 ⟨vr, rfl, y6, b6⟩
              have h6 : Below w5.heap.size w5 x6 := h5.trans (b6.mono h5.size)
              rw [List.nil_append] at y6
              obtain ⟨ar, cr, rfl, -⟩ := y6.shape
              have HP6 : Hid ((convert 22 9 (.slice ar a.putT.length cr)).run Tryd.prog x6 = .ok (.string S3) x6) := (by have := y6.text; rw [← HS3.out] at this; exact this)
              have k6 : Below x5.heap.size x5 x6 := b6
              clear y6 b6
              go_wp2_with fail
              refine hK.out _ _ ?_ (fun hHeld => ?_)
              · exact HCL.out _ h6
              clear hK K
              try simp only [Act.put, List.setIfInBounds_toArray, List.set_cons_zero, List.set_cons_succ]
              refine wpAnyH_ready (rs := [16]) (by kernel_rfl) (by simp) ?_
              refine AllReadyH.cons (opNth_ops rfl) (fun K hK => ?_) ?_
              · have tr := HP6.out
                go_simp
                refine hK.out _ _ ?_ (fun hHeld => ?_)
                · exact HCL.out _ h6
                clear hK K
                try simp only [Act.put, List.setIfInBounds_toArray, List.set_cons_zero, List.set_cons_succ]
                clear tr
                refine wpAnyH_take (i := 17) (v := ?_) (opNth_ops rfl) (by kernel_rfl) (by kernel_rfl) (by kernel_rfl) (fun _ _ _ h => h) (Or.inl ⟨by rfl, ?_⟩) (by assumption) ?_
                rotate_left
                · intro wq hSq
                  go_simp
                  try with_reducible rfl
                try simp only [Act.put, List.setIfInBounds_toArray, List.set_cons_zero, List.set_cons_succ]
                refine wpAnyH_take (i := 18) (v := ?_) (opNth_ops rfl) (by kernel_rfl) (by kernel_rfl) (by kernel_rfl) (fun _ _ _ h => h) (Or.inl ⟨by rfl, ?_⟩) (by assumption) ?_
                rotate_left
                · intro wq hSq
                  go_simp
                  try with_reducible rfl
                try simp only [Act.put, List.setIfInBounds_toArray, List.set_cons_zero, List.set_cons_succ]
                refine wpAnyH_take (i := 19) (v := ?_) (opNth_ops rfl) (by kernel_rfl) (by kernel_rfl) (by kernel_rfl) (fun _ _ _ h => h) (Or.inl ⟨by rfl, ?_⟩) (by assumption) ?_
                rotate_left
                · intro wq hSq
                  go_simp
                  try with_reducible rfl
                try simp only [Act.put, List.setIfInBounds_toArray, List.set_cons_zero, List.set_cons_succ]
                refine wpAnyH_done (by kernel_rfl) ?_ _
                refine NoPanic.normal ?_
                go_wp2_with fail
                go_meet
                case rel => exact ⟨rfl, h6⟩
              exact AllReadyH.nil
            exact AllReadyH.nil
          refine AllReadyH.cons (opNth_ops rfl) (fun K hK => ?_) ?_
          · go_simp
            go_at_call 14
            refine (HRPT.out _ h5).mono ?_
            rintro e x6 ⟨vr, rfl, y6, b6⟩
            have h6 : Below w5.heap.size w5 x6 := h5.trans (b6.mono h5.size)
            rw [List.nil_append] at y6
            obtain ⟨ar, cr, rfl, -⟩ := y6.shape
            have HP6 : Hid ((convert 22 9 (.slice ar a.putT.length cr)).run Tryd.prog x6 = .ok (.string S3) x6) := (by have := y6.text; rw [← HS3.out] at this; exact this)
            have k6 : Below x5.heap.size x5 x6 := b6
            clear y6 b6
            go_wp2_with fail
            refine hK.out _ _ ?_ (fun hHeld => ?_)
            · exact HCL.out _ h6
            clear hK K
            try simp only [Act.put, List.setIfInBounds_toArray, List.set_cons_zero, List.set_cons_succ]
            refine wpAnyH_ready (rs := [11, 16]) (by kernel_rfl) (by simp) ?_
            refine AllReadyH.cons (opNth_ops rfl) (fun K hK => ?_) ?_
            · have tp := HP5.out _ k6
              go_simp
              refine hK.out _ _ ?_ (fun hHeld => ?_)
              · exact HCL.out _ h6
              clear hK K
              try simp only [Act.put, List.setIfInBounds_toArray, List.set_cons_zero, List.set_cons_succ]
              clear tp
              refine wpAnyH_ready (rs := [16]) (by kernel_rfl) (by simp) ?_
              refine AllReadyH.cons (opNth_ops rfl) (fun K hK => ?_) ?_
              · have tr := HP6.out
                go_simp
                refine hK.out _ _ ?_ (fun hHeld => ?_)
                · exact HCL.out _ h6
                clear hK K
                try simp only [Act.put, List.setIfInBounds_toArray, List.set_cons_zero, List.set_cons_succ]
                clear tr
                refine wpAnyH_take (i := 17) (v := ?_) (opNth_ops rfl) (by kernel_rfl) (by kernel_rfl) (by kernel_rfl) (fun _ _ _ h => h) (Or.inl ⟨by rfl, ?_⟩) (by assumption) ?_
                rotate_left
                · intro wq hSq
                  go_simp
                  try with_reducible rfl
                try simp only [Act.put, List.setIfInBounds_toArray, List.set_cons_zero, List.set_cons_succ]
                refine wpAnyH_take (i := 18) (v := ?_) (opNth_ops rfl) (by kernel_rfl) (by kernel_rfl) (by kernel_rfl) (fun _ _ _ h => h) (Or.inl ⟨by rfl, ?_⟩) (by assumption) ?_
                rotate_left
                · intro wq hSq
                  go_simp
                  try with_reducible rfl
                try simp only [Act.put, List.setIfInBounds_toArray, List.set_cons_zero, List.set_cons_succ]
                refine wpAnyH_take (i := 19) (v := ?_) (opNth_ops rfl) (by kernel_rfl) (by kernel_rfl) (by kernel_rfl) (fun _ _ _ h => h) (Or.inl ⟨by rfl, ?_⟩) (by assumption) ?_
                rotate_left
                · intro wq hSq
                  go_simp
                  try with_reducible rfl
                try simp only [Act.put, List.setIfInBounds_toArray, List.set_cons_zero, List.set_cons_succ]
                refine wpAnyH_done (by kernel_rfl) ?_ _
                refine NoPanic.normal ?_
                go_wp2_with fail
                go_meet
                case rel => exact ⟨rfl, h6⟩
              exact AllReadyH.nil
            refine AllReadyH.cons (opNth_ops rfl) (fun K hK => ?_) ?_
            · have tr := HP6.out
              go_simp
              refine hK.out _ _ ?_ (fun hHeld => ?_)
              · exact HCL.out _ h6
              clear hK K
              try simp only [Act.put, List.setIfInBounds_toArray, List.set_cons_zero, List.set_cons_succ]
              clear tr
              refine wpAnyH_take (i := 17) (v := ?_) (opNth_ops rfl) (by kernel_rfl) (by kernel_rfl) (by kernel_rfl) (fun _ _ _ h => h) (Or.inl ⟨by rfl, ?_⟩) (by assumption) ?_
              rotate_left
              · intro wq hSq
                go_simp
                try with_reducible rfl
              try simp only [Act.put, List.setIfInBounds_toArray, List.set_cons_zero, List.set_cons_succ]
              refine wpAnyH_ready (rs := [11]) (by kernel_rfl) (by simp) ?_
              refine AllReadyH.cons (opNth_ops rfl) (fun K hK => ?_) ?_
              · have tp := HP5.out _ k6
                go_simp
                refine hK.out _ _ ?_ (fun hHeld => ?_)
                · exact HCL.out _ h6
                clear hK K
                try simp only [Act.put, List.setIfInBounds_toArray, List.set_cons_zero, List.set_cons_succ]
                clear tp
                refine wpAnyH_take (i := 18) (v := ?_) (opNth_ops rfl) (by kernel_rfl) (by kernel_rfl) (by kernel_rfl) (fun _ _ _ h => h) (Or.inl ⟨by rfl, ?_⟩) (by assumption) ?_
                rotate_left
                · intro wq hSq
                  go_simp
                  try with_reducible rfl
                try simp only [Act.put, List.setIfInBounds_toArray, List.set_cons_zero, List.set_cons_succ]
                refine wpAnyH_take (i := 19) (v := ?_) (opNth_ops rfl) (by kernel_rfl) (by kernel_rfl) (by kernel_rfl) (fun _ _ _ h => h) (Or.inl ⟨by rfl, ?_⟩) (by assumption) ?_
                rotate_left
                · intro wq hSq
                  go_simp
                  try with_reducible rfl
                try simp only [Act.put, List.setIfInBounds_toArray, List.set_cons_zero, List.set_cons_succ]
                refine wpAnyH_done (by kernel_rfl) ?_ _
                refine NoPanic.normal ?_
                go_wp2_with fail
                go_meet
                case rel => exact ⟨rfl, h6⟩
              exact AllReadyH.nil
            exact AllReadyH.nil
          exact AllReadyH.nil
        refine AllReadyH.cons (opNth_ops rfl) (fun K hK => ?_) ?_
        · go_simp
          go_at_call 14
          refine (HRPT.out _ h5).mono ?_
          rintro e x6 ⟨vr, rfl, y6, b6⟩
          have h6 : Below w5.heap.size w5 x6 := h5.trans (b6.mono h5.size)
          rw [List.nil_append] at y6
          obtain ⟨ar, cr, rfl, -⟩ := y6.shape
          have HP6 : Hid ((convert 22 9 (.slice ar a.putT.length cr)).run Tryd.prog x6 = .ok (.string S3) x6) := (by have := y6.text; rw [← HS3.out] at this; exact this)
          have k6 : Below x5.heap.size x5 x6 := b6
          clear y6 b6
          go_wp2_with fail
          refine hK.out _ _ ?_ (fun hHeld => ?_)
          · exact HCL.out _ h6
          clear hK K
          try simp only [Act.put, List.setIfInBounds_toArray, List.set_cons_zero, List.set_cons_succ]
          refine wpAnyH_ready (rs := [11, 13, 16]) (by kernel_rfl) (by simp) ?_
          refine AllReadyH.cons (opNth_ops rfl) (fun K hK => ?_) ?_
          · have tp := HP5.out _ k6
            go_simp
            refine hK.out _ _ ?_ (fun hHeld => ?_)
            · exact HCL.out _ h6
            clear hK K
            try simp only [Act.put, List.setIfInBounds_toArray, List.set_cons_zero, List.set_cons_succ]
            clear tp
            refine wpAnyH_ready (rs := [13, 16]) (by kernel_rfl) (by simp) ?_
            refine AllReadyH.cons (opNth_ops rfl) (fun K hK => ?_) ?_
            · have tb := HTB.out _ h6
              go_simp
              refine hK.out _ _ ?_ (fun hHeld => ?_)
              · exact HCL.out _ h6
              clear hK K
              try simp only [Act.put, List.setIfInBounds_toArray, List.set_cons_zero, List.set_cons_succ]
              clear tb
              refine wpAnyH_ready (rs := [16]) (by kernel_rfl) (by simp) ?_
              refine AllReadyH.cons (opNth_ops rfl) (fun K hK => ?_) ?_
              · have tr := HP6.out
                go_simp
                refine hK.out _ _ ?_ (fun hHeld => ?_)
                · exact HCL.out _ h6
                clear hK K
                try simp only [Act.put, List.setIfInBounds_toArray, List.set_cons_zero, List.set_cons_succ]
                clear tr
                refine wpAnyH_take (i := 17) (v := ?_) (opNth_ops rfl) (by kernel_rfl) (by kernel_rfl) (by kernel_rfl) (fun _ _ _ h => h) (Or.inl ⟨by rfl, ?_⟩) (by assumption) ?_
                rotate_left
                · intro wq hSq
                  go_simp
                  try with_reducible rfl
                try simp only [Act.put, List.setIfInBounds_toArray, List.set_cons_zero, List.set_cons_succ]
                refine wpAnyH_take (i := 18) (v := ?_) (opNth_ops rfl) (by kernel_rfl) (by kernel_rfl) (by kernel_rfl) (fun _ _ _ h => h) (Or.inl ⟨by rfl, ?_⟩) (by assumption) ?_
                rotate_left
                · intro wq hSq
                  go_simp
                  try with_reducible rfl
                try simp only [Act.put, List.setIfInBounds_toArray, List.set_cons_zero, List.set_cons_succ]
                refine wpAnyH_take (i := 19) (v := ?_) (opNth_ops rfl) (by kernel_rfl) (by kernel_rfl) (by kernel_rfl) (fun _ _ _ h => h) (Or.inl ⟨by rfl, ?_⟩) (by assumption) ?_
                rotate_left
                · intro wq hSq
                  go_simp
                  try with_reducible rfl
                try simp only [Act.put, List.setIfInBounds_toArray, List.set_cons_zero, List.set_cons_succ]
                refine wpAnyH_done (by kernel_rfl) ?_ _
                refine NoPanic.normal ?_
                go_wp2_with fail
                go_meet
                case rel => exact ⟨rfl, h6⟩
              exact AllReadyH.nil
            refine AllReadyH.cons (opNth_ops rfl) (fun K hK => ?_) ?_
            · have tr := HP6.out
              go_simp
              refine hK.out _ _ ?_ (fun hHeld => ?_)
              · exact HCL.out _ h6
              clear hK K
              try simp only [Act.put, List.setIfInBounds_toArray, List.set_cons_zero, List.set_cons_succ]
              clear tr
              refine wpAnyH_ready (rs := [13]) (by kernel_rfl) (by simp) ?_
              refine AllReadyH.cons (opNth_ops rfl) (fun K hK => ?_) ?_
              · have tb := HTB.out _ h6
                go_simp
                refine hK.out _ _ ?_ (fun hHeld => ?_)
                · exact HCL.out _ h6
                clear hK K
                try simp only [Act.put, List.setIfInBounds_toArray, List.set_cons_zero, List.set_cons_succ]
                clear tb
                refine wpAnyH_take (i := 17) (v := ?_) (opNth_ops rfl) (by kernel_rfl) (by kernel_rfl) (by kernel_rfl) (fun _ _ _ h => h) (Or.inl ⟨by rfl, ?_⟩) (by assumption) ?_
                rotate_left
                · intro wq hSq
                  go_simp
                  try with_reducible rfl
                try simp only [Act.put, List.setIfInBounds_toArray, List.set_cons_zero, List.set_cons_succ]
                refine wpAnyH_take (i := 18) (v := ?_) (opNth_ops rfl) (by kernel_rfl) (by kernel_rfl) (by kernel_rfl) (fun _ _ _ h => h) (Or.inl ⟨by rfl, ?_⟩) (by assumption) ?_
                rotate_left
                · intro wq hSq
                  go_simp
                  try with_reducible rfl
                try simp only [Act.put, List.setIfInBounds_toArray, List.set_cons_zero, List.set_cons_succ]
                refine wpAnyH_take (i := 19) (v := ?_) (opNth_ops rfl) (by kernel_rfl) (by kernel_rfl) (by kernel_rfl) (fun _ _ _ h => h) (Or.inl ⟨by rfl, ?_⟩) (by assumption) ?_
                rotate_left
                · intro wq hSq
                  go_simp
                  try with_reducible rfl
                try simp only [Act.put, List.setIfInBounds_toArray, List.set_cons_zero, List.set_cons_succ]
                refine wpAnyH_done (by kernel_rfl) ?_ _
                refine NoPanic.normal ?_
                go_wp2_with fail
                go_meet
                case rel => exact ⟨rfl, h6⟩
              exact AllReadyH.nil
            exact AllReadyH.nil
          refine AllReadyH.cons (opNth_ops rfl) (fun K hK => ?_) ?_
          · have tb := HTB.out _ h6
            go_simp
            refine hK.out _ _ ?_ (fun hHeld => ?_)
            · exact HCL.out _ h6
            clear hK K
            try simp only [Act.put, List.setIfInBounds_toArray, List.set_cons_zero, List.set_cons_succ]
            clear tb
            refine wpAnyH_ready (rs := [11, 16]) (by kernel_rfl) (by simp) ?_
            refine AllReadyH.cons (opNth_ops rfl) (fun K hK => ?_) ?_
            · have tp := HP5.out _ k6
              go_simp
              refine hK.out _ _ ?_ (fun hHeld => ?_)
              · exact HCL.out _ h6
              clear hK K
              try simp only [Act.put, List.setIfInBounds_toArray, List.set_cons_zero, List.set_cons_succ]
              clear tp
              refine wpAnyH_ready (rs := [16]) (by kernel_rfl) (by simp) ?_
              refine AllReadyH.cons (opNth_ops rfl) (fun K hK => ?_) ?_
              · have tr := HP6.out
                go_simp
                refine hK.out _ _ ?_ (fun hHeld => ?_)
                · exact HCL.out _ h6
                clear hK K
                try simp only [Act.put, List.setIfInBounds_toArray, List.set_cons_zero, List.set_cons_succ]
                clear tr
                refine wpAnyH_take (i := 17) (v := ?_) (opNth_ops rfl) (by kernel_rfl) (by kernel_rfl) (by kernel_rfl) (fun _ _ _ h => h) (Or.inl ⟨by rfl, ?_⟩) (by assumption) ?_
                rotate_left
                · intro wq hSq
                  go_simp
                  try with_reducible rfl
                try simp only [Act.put, List.setIfInBounds_toArray, List.set_cons_zero, List.set_cons_succ]
                refine wpAnyH_take (i := 18) (v := ?_) (opNth_ops rfl) (by kernel_rfl) (by kernel_rfl) (by kernel_rfl) (fun _ _ _ h => h) (Or.inl ⟨by rfl, ?_⟩) (by assumption) ?_
                rotate_left
                · intro wq hSq
                  go_simp
                  try with_reducible rfl
                try simp only [Act.put, List.setIfInBounds_toArray, List.set_cons_zero, List.set_cons_succ]
                refine wpAnyH_take (i := 19) (v := ?_) (opNth_ops rfl) (by kernel_rfl) (by kernel_rfl) (by kernel_rfl) (fun _ _ _ h => h) (Or.inl ⟨by rfl, ?_⟩) (by assumption) ?_
                rotate_left
                · intro wq hSq
                  go_simp
                  try with_reducible rfl
                try simp only [Act.put, List.setIfInBounds_toArray, List.set_cons_zero, List.set_cons_succ]
                refine wpAnyH_done (by kernel_rfl) ?_ _
                refine NoPanic.normal ?_
                go_wp2_with fail
                go_meet
                case rel => exact ⟨rfl, h6⟩
              exact AllReadyH.nil
            refine AllReadyH.cons (opNth_ops rfl) (fun K hK => ?_) ?_
            · have tr := HP6.out
              go_simp
              refine hK.out _ _ ?_ (fun hHeld => ?_)
              · exact HCL.out _ h6
              clear hK K
              try simp only [Act.put, List.setIfInBounds_toArray, List.set_cons_zero, List.set_cons_succ]
              clear tr
              refine wpAnyH_take (i := 17) (v := ?_) (opNth_ops rfl) (by kernel_rfl) (by kernel_rfl) (by kernel_rfl) (fun _ _ _ h => h) (Or.inl ⟨by rfl, ?_⟩) (by assumption) ?_
              rotate_left
              · intro wq hSq
                go_simp
                try with_reducible rfl
              try simp only [Act.put, List.setIfInBounds_toArray, List.set_cons_zero, List.set_cons_succ]
              refine wpAnyH_ready (rs := [11]) (by kernel_rfl) (by simp) ?_
              refine AllReadyH.cons (opNth_ops rfl) (fun K hK => ?_) ?_
              · have tp := HP5.out _ k6
                go_simp
                refine hK.out _ _ ?_ (fun hHeld => ?_)
                · exact HCL.out _ h6
                clear hK K
                try simp only [Act.put, List.setIfInBounds_toArray, List.set_cons_zero, List.set_cons_succ]
                clear tp
                refine wpAnyH_take (i := 18) (v := ?_) (opNth_ops rfl) (by kernel_rfl) (by kernel_rfl) (by kernel_rfl) (fun _ _ _ h => h) (Or.inl ⟨by rfl, ?_⟩) (by assumption) ?_
                rotate_left
                · intro wq hSq
                  go_simp
                  try with_reducible rfl
                try simp only [Act.put, List.setIfInBounds_toArray, List.set_cons_zero, List.set_cons_succ]
                refine wpAnyH_take (i := 19) (v := ?_) (opNth_ops rfl) (by kernel_rfl) (by kernel_rfl) (by kernel_rfl) (fun _ _ _ h => h) (Or.inl ⟨by rfl, ?_⟩) (by assumption) ?_
                rotate_left
                · intro wq hSq
                  go_simp
                  try with_reducible rfl
                try simp only [Act.put, List.setIfInBounds_toArray, List.set_cons_zero, List.set_cons_succ]
                refine wpAnyH_done (by kernel_rfl) ?_ _
                refine NoPanic.normal ?_
                go_wp2_with fail
                go_meet
                case rel => exact ⟨rfl, h6⟩
              exact AllReadyH.nil
            exact AllReadyH.nil
          refine AllReadyH.cons (opNth_ops rfl) (fun K hK => ?_) ?_
          · have tr := HP6.out
            go_simp
            refine hK.out _ _ ?_ (fun hHeld => ?_)
            · exact HCL.out _ h6
            clear hK K
            try simp only [Act.put, List.setIfInBounds_toArray, List.set_cons_zero, List.set_cons_succ]
            clear tr
            refine wpAnyH_ready (rs := [11, 13]) (by kernel_rfl) (by simp) ?_
            refine AllReadyH.cons (opNth_ops rfl) (fun K hK => ?_) ?_
            · have tp := HP5.out _ k6
              go_simp
              refine hK.out _ _ ?_ (fun hHeld => ?_)
              · exact HCL.out _ h6
              clear hK K
              try simp only [Act.put, List.setIfInBounds_toArray, List.set_cons_zero, List.set_cons_succ]
              clear tp
              refine wpAnyH_ready (rs := [13]) (by kernel_rfl) (by simp) ?_
              refine AllReadyH.cons (opNth_ops rfl) (fun K hK => ?_) ?_
              · have tb := HTB.out _ h6
                go_simp
                refine hK.out _ _ ?_ (fun hHeld => ?_)
                · exact HCL.out _ h6
                clear hK K
                try simp only [Act.put, List.setIfInBounds_toArray, List.set_cons_zero, List.set_cons_succ]
                clear tb
                refine wpAnyH_take (i := 17) (v := ?_) (opNth_ops rfl) (by kernel_rfl) (by kernel_rfl) (by kernel_rfl) (fun _ _ _ h => h) (Or.inl ⟨by rfl, ?_⟩) (by assumption) ?_
                rotate_left
                · intro wq hSq
                  go_simp
                  try with_reducible rfl
                try simp only [Act.put, List.setIfInBounds_toArray, List.set_cons_zero, List.set_cons_succ]
                refine wpAnyH_take (i := 18) (v := ?_) (opNth_ops rfl) (by kernel_rfl) (by kernel_rfl) (by kernel_rfl) (fun _ _ _ h => h) (Or.inl ⟨by rfl, ?_⟩) (by assumption) ?_
                rotate_left
                · intro wq hSq
                  go_simp
                  try with_reducible rfl
                try simp only [Act.put, List.setIfInBounds_toArray, List.set_cons_zero, List.set_cons_succ]
                refine wpAnyH_take (i := 19) (v := ?_) (opNth_ops rfl) (by kernel_rfl) (by kernel_rfl) (by kernel_rfl) (fun _ _ _ h => h) (Or.inl ⟨by rfl, ?_⟩) (by assumption) ?_
                rotate_left
                · intro wq hSq
                  go_simp
                  try with_reducible rfl
                try simp only [Act.put, List.setIfInBounds_toArray, List.set_cons_zero, List.set_cons_succ]
                refine wpAnyH_done (by kernel_rfl) ?_ _
                refine NoPanic.normal ?_
                go_wp2_with fail
                go_meet
                case rel => exact ⟨rfl, h6⟩
              exact AllReadyH.nil
            refine AllReadyH.cons (opNth_ops rfl) (fun K hK => ?_) ?_
            · have tb := HTB.out _ h6
              go_simp
              refine hK.out _ _ ?_ (fun hHeld => ?_)
              · exact HCL.out _ h6
              clear hK K
              try simp only [Act.put, List.setIfInBounds_toArray, List.set_cons_zero, List.set_cons_succ]
              clear tb
              refine wpAnyH_take (i := 17) (v := ?_) (opNth_ops rfl) (by kernel_rfl) (by kernel_rfl) (by kernel_rfl) (fun _ _ _ h => h) (Or.inl ⟨by rfl, ?_⟩) (by assumption) ?_
              rotate_left
              · intro wq hSq
                go_simp
                try with_reducible rfl
              try simp only [Act.put, List.setIfInBounds_toArray, List.set_cons_zero, List.set_cons_succ]
              refine wpAnyH_ready (rs := [11]) (by kernel_rfl) (by simp) ?_
              refine AllReadyH.cons (opNth_ops rfl) (fun K hK => ?_) ?_
              · have tp := HP5.out _ k6
                go_simp
                refine hK.out _ _ ?_ (fun hHeld => ?_)
                · exact HCL.out _ h6
                clear hK K
                try simp only [Act.put, List.setIfInBounds_toArray, List.set_cons_zero, List.set_cons_succ]
                clear tp
                refine wpAnyH_take (i := 18) (v := ?_) (opNth_ops rfl) (by kernel_rfl) (by kernel_rfl) (by kernel_rfl) (fun _ _ _ h => h) (Or.inl ⟨by rfl, ?_⟩) (by assumption) ?_
                rotate_left
                · intro wq hSq
                  go_simp
                  try with_reducible rfl
                try simp only [Act.put, List.setIfInBounds_toArray, List.set_cons_zero, List.set_cons_succ]
                refine wpAnyH_take (i := 19) (v := ?_) (opNth_ops rfl) (by kernel_rfl) (by kernel_rfl) (by kernel_rfl) (fun _ _ _ h => h) (Or.inl ⟨by rfl, ?_⟩) (by assumption) ?_
                rotate_left
                · intro wq hSq
                  go_simp
                  try with_reducible rfl
                try simp only [Act.put, List.setIfInBounds_toArray, List.set_cons_zero, List.set_cons_succ]
                refine wpAnyH_done (by kernel_rfl) ?_ _
                refine NoPanic.normal ?_
                go_wp2_with fail
                go_meet
                case rel => exact ⟨rfl, h6⟩
              exact AllReadyH.nil
            exact AllReadyH.nil
          exact AllReadyH.nil
        exact AllReadyH.nil
      refine AllReadyH.cons (opNth_ops rfl) (fun K hK => ?_) ?_
      · have tb := HTB.out _ h4
        go_simp
        refine hK.out _ _ ?_ (fun hHeld => ?_)
        · exact HCL.out _ h4
        clear hK K
        try simp only [Act.put, List.setIfInBounds_toArray, List.set_cons_zero, List.set_cons_succ]
        clear tb
        refine wpAnyH_ready (rs := [10]) (by kernel_rfl) (by simp) ?_
        refine AllReadyH.cons (opNth_ops rfl) (fun K hK => ?_) ?_
        · go_simp
          go_at_call 13
          refine (HPUT.out _ _ h4 IG4.out).mono ?_
          rintro e x5 ⟨vp, rfl, y5, b5⟩
          have h5 : Below w5.heap.size w5 x5 := h4.trans (b5.mono h4.size)
          obtain ⟨ap, cp, rfl, -⟩ := y5.shape
          obtain ⟨n5, hn5⟩ : ∃ n, n = (l ++ a.putT).length := ⟨_, rfl⟩
          have HP5 : Hid (∀ W, Below x5.heap.size x5 W → (convert 22 9 (.slice ap n5 cp)).run Tryd.prog W = .ok (.string S1) W) := fun W hW => (by have := (y5.under hW).text; rw [← HS1.out, ← hn5] at this; exact this)
          rw [← hn5]
          have k5 : Below x5.heap.size x5 x5 := Below.refl _ _
          clear y5 b5 IG4 hn5
          go_wp2_with fail
          refine hK.out _ _ ?_ (fun hHeld => ?_)
          · exact HCL.out _ h5
          clear hK K
          try simp only [Act.put, List.setIfInBounds_toArray, List.set_cons_zero, List.set_cons_succ]
          refine wpAnyH_ready (rs := [11, 15]) (by kernel_rfl) (by simp) ?_
          refine AllReadyH.cons (opNth_ops rfl) (fun K hK => ?_) ?_
          · have tp := HP5.out _ k5
            go_simp
            refine hK.out _ _ ?_ (fun hHeld => ?_)
            · exact HCL.out _ h5
            clear hK K
            try simp only [Act.put, List.setIfInBounds_toArray, List.set_cons_zero, List.set_cons_succ]
            clear tp
            refine wpAnyH_ready (rs := [15]) (by kernel_rfl) (by simp) ?_
            refine AllReadyH.cons (opNth_ops rfl) (fun K hK => ?_) ?_
            · go_simp
              go_at_call 14
              refine (HRPT.out _ h5).mono ?_
              rintro e x6 ⟨vr, rfl, y6, b6⟩
              have h6 : Below w5.heap.size w5 x6 := h5.trans (b6.mono h5.size)
              rw [List.nil_append] at y6
              obtain ⟨ar, cr, rfl, -⟩ := y6.shape
              have HP6 : Hid ((convert 22 9 (.slice ar a.putT.length cr)).run Tryd.prog x6 = .ok (.string S3) x6) := (by have := y6.text; rw [← HS3.out] at this; exact this)
              have k6 : Below x5.heap.size x5 x6 := b6
              clear y6 b6
              go_wp2_with fail
              refine hK.out _ _ ?_ (fun hHeld => ?_)
              · exact HCL.out _ h6
              clear hK K
              try simp only [Act.put, List.setIfInBounds_toArray, List.set_cons_zero, List.set_cons_succ]
              refine wpAnyH_ready (rs := [16]) (by kernel_rfl) (by simp) ?_
              refine AllReadyH.cons (opNth_ops rfl) (fun K hK => ?_) ?_
              · have tr := HP6.out
                go_simp
                refine hK.out _ _ ?_ (fun hHeld => ?_)
                · exact HCL.out _ h6
                clear hK K
                try simp only [Act.put, List.setIfInBounds_toArray, List.set_cons_zero, List.set_cons_succ]
                clear tr
                refine wpAnyH_take (i := 17) (v := ?_) (opNth_ops rfl) (by kernel_rfl) (by kernel_rfl) (by kernel_rfl) (fun _ _ _ h => h) (Or.inl ⟨by rfl, ?_⟩) (by assumption) ?_
                rotate_left
                · intro wq hSq
                  go_simp
                  try with_reducible rfl
                try simp only [Act.put, List.setIfInBounds_toArray, List.set_cons_zero, List.set_cons_succ]
                refine wpAnyH_take (i := 18) (v := ?_) (opNth_ops rfl) (by kernel_rfl) (by kernel_rfl) (by kernel_rfl) (fun _ _ _ h => h) (Or.inl ⟨by rfl, ?_⟩) (by assumption) ?_
                rotate_left
                · intro wq hSq
                  go_simp
                  try with_reducible rfl
                try simp only [Act.put, List.setIfInBounds_toArray, List.set_cons_zero, List.set_cons_succ]
                refine wpAnyH_take (i := 19) (v := ?_) (opNth_ops rfl) (by kernel_rfl) (by kernel_rfl) (by kernel_rfl) (fun _ _ _ h => h) (Or.inl ⟨by rfl, ?_⟩) (by assumption) ?_
                rotate_left
                · intro wq hSq
                  go_simp
                  try with_reducible rfl
                try simp only [Act.put, List.setIfInBounds_toArray, List.set_cons_zero, List.set_cons_succ]
                refine wpAnyH_done (by kernel_rfl) ?_ _
                refine NoPanic.normal ?_
                go_wp2_with fail
                go_meet
                case rel => exact ⟨rfl, h6⟩
              exact AllReadyH.nil
            exact AllReadyH.nil
          refine AllReadyH.cons (opNth_ops rfl) (fun K hK => ?_) ?_
          · go_simp
            go_at_call 14
            refine (HRPT.out _ h5).mono ?_
            rintro e x6 ⟨vr, rfl, y6, b6⟩
            have h6 : Below w5.heap.size w5 x6 := h5.trans (b6.mono h5.size)
            rw [List.nil_append] at y6
            obtain ⟨ar, cr, rfl, -⟩ := y6.shape
            have HP6 : Hid ((convert 22 9 (.slice ar a.putT.length cr)).run Tryd.prog x6 = .ok (.string S3) x6) := (by have := y6.text; rw [← HS3.out] at this; exact this)
            have k6 : Below x5.heap.size x5 x6 := b6
            clear y6 b6
            go_wp2_with fail
            refine hK.out _ _ ?_ (fun hHeld => ?_)
            · exact HCL.out _ h6
            clear hK K
            try simp only [Act.put, List.setIfInBounds_toArray, List.set_cons_zero, List.set_cons_succ]
            refine wpAnyH_ready (rs := [11, 16]) (by kernel_rfl) (by simp) ?_
            refine AllReadyH.cons (opNth_ops rfl) (fun K hK => ?_) ?_
            · have tp := HP5.out _ k6
              go_simp
              refine hK.out _ _ ?_ (fun hHeld => ?_)
              · exact HCL.out _ h6
              clear hK K
              try simp only [Act.put, List.setIfInBounds_toArray, List.set_cons_zero, List.set_cons_succ]
              clear tp
              refine wpAnyH_ready (rs := [16]) (by kernel_rfl) (by simp) ?_
              refine AllReadyH.cons (opNth_ops rfl) (fun K hK => ?_) ?_
              · have tr := HP6.out
                go_simp
                refine hK.out _ _ ?_ (fun hHeld => ?_)
                · exact HCL.out _ h6
                clear hK K
                try simp only [Act.put, List.setIfInBounds_toArray, List.set_cons_zero, List.set_cons_succ]
                clear tr
                refine wpAnyH_take (i := 17) (v := ?_) (opNth_ops rfl) (by kernel_rfl) (by kernel_rfl) (by kernel_rfl) (fun _ _ _ h => h) (Or.inl ⟨by rfl, ?_⟩) (by assumption) ?_
                rotate_left
                · intro wq hSq
                  go_simp
                  try with_reducible rfl
                try simp only [Act.put, List.setIfInBounds_toArray, List.set_cons_zero, List.set_cons_succ]
                refine wpAnyH_take (i := 18) (v := ?_) (opNth_ops rfl) (by kernel_rfl) (by kernel_rfl) (by kernel_rfl) (fun _ _ _ h => h) (Or.inl ⟨by rfl, ?_⟩) (by assumption) ?_
                rotate_left
                · intro wq hSq
                  go_simp
                  try with_reducible rfl
                try simp only [Act.put, List.setIfInBounds_toArray, List.set_cons_zero, List.set_cons_succ]
                refine wpAnyH_take (i := 19) (v := ?_) (opNth_ops rfl) (by kernel_rfl) (by kernel_rfl) (by kernel_rfl) (fun _ _ _ h => h) (Or.inl ⟨by rfl, ?_⟩) (by assumption) ?_
                rotate_left
                · intro wq hSq
                  go_simp
                  try with_reducible rfl
                try simp only [Act.put, List.setIfInBounds_toArray, List.set_cons_zero, List.set_cons_succ]
                refine wpAnyH_done (by kernel_rfl) ?_ _
                refine NoPanic.normal ?_
                go_wp2_with fail
                go_meet
                case rel => exact ⟨rfl, h6⟩
              exact AllReadyH.nil
            refine AllReadyH.cons (opNth_ops rfl) (fun K hK => ?_) ?_
            · have tr := HP6.out
              go_simp
              refine hK.out _ _ ?_ (fun hHeld => ?_)
              · exact HCL.out _ h6
              clear hK K
              try simp only [Act.put, List.setIfInBounds_toArray, List.set_cons_zero, List.set_cons_succ]
              clear tr
              refine wpAnyH_take (i := 17) (v := ?_) (opNth_ops rfl) (by kernel_rfl) (by kernel_rfl) (by kernel_rfl) (fun _ _ _ h => h) (Or.inl ⟨by rfl, ?_⟩) (by assumption) ?_
              rotate_left
              · intro wq hSq
                go_simp
                try with_reducible rfl
              try simp only [Act.put, List.setIfInBounds_toArray, List.set_cons_zero, List.set_cons_succ]
              refine wpAnyH_ready (rs := [11]) (by kernel_rfl) (by simp) ?_
              refine AllReadyH.cons (opNth_ops rfl) (fun K hK => ?_) ?_
              · have tp := HP5.out _ k6
                go_simp
                refine hK.out _ _ ?_ (fun hHeld => ?_)
                · exact HCL.out _ h6
                clear hK K
                try simp only [Act.put, List.setIfInBounds_toArray, List.set_cons_zero, List.set_cons_succ]
                clear tp
                refine wpAnyH_take (i := 18) (v := ?_) (opNth_ops rfl) (by kernel_rfl) (by kernel_rfl) (by kernel_rfl) (fun _ _ _ h => h) (Or.inl ⟨by rfl, ?_⟩) (by assumption) ?_
                rotate_left
                · intro wq hSq
                  go_simp
                  try with_reducible rfl
                try simp only [Act.put, List.setIfInBounds_toArray, List.set_cons_zero, List.set_cons_succ]
                refine wpAnyH_take (i := 19) (v := ?_) (opNth_ops rfl) (by kernel_rfl) (by kernel_rfl) (by kernel_rfl) (fun _ _ _ h => h) (Or.inl ⟨by rfl, ?_⟩) (by assumption) ?_
                rotate_left
                · intro wq hSq
                  go_simp
                  try with_reducible rfl
                try simp only [Act.put, List.setIfInBounds_toArray, List.set_cons_zero, List.set_cons_succ]
                refine wpAnyH_done (by kernel_rfl) ?_ _
                refine NoPanic.normal ?_
                go_wp2_with fail
                go_meet
                case rel => exact ⟨rfl, h6⟩
              exact AllReadyH.nil
            exact AllReadyH.nil
          exact AllReadyH.nil
        exact AllReadyH.nil
      exact AllReadyH.nil
    refine AllReadyH.cons (opNth_ops rfl) (fun K hK => ?_) ?_
    · have tb := HTB.out _ h3
      go_simp
      refine hK.out _ _ ?_ (fun hHeld => ?_)
      · exact HCL.out _ h3
      clear hK K
      try simp only [Act.put, List.setIfInBounds_toArray, List.set_cons_zero, List.set_cons_succ]
      clear tb
      refine wpAnyH_ready (rs := [9]) (by kernel_rfl) (by simp) ?_
      refine AllReadyH.cons (opNth_ops rfl) (fun K hK => ?_) ?_
      · go_simp
        go_at_call 11
        refine (HARG.out _ h3).mono ?_
        rintro e x4 ⟨⟨y4t, y4n, y4a, y4m, y4c⟩, rfl, yf4, yg4, b4⟩
        have h4 : Below w5.heap.size w5 x4 := h3.trans (b4.mono h3.size)
        have IG4 : Hid (IsG x4 a (El.v ⟨y4t, y4n, y4a, y4m, y4c⟩)) := yg4.isG
        clear yf4 yg4 b4
        unfold El.v agV El.sl
        dsimp only
        go_wp2_with fail
        refine hK.out _ _ ?_ (fun hHeld => ?_)
        · exact HCL.out _ h4
        clear hK K
        try simp only [Act.put, List.setIfInBounds_toArray, List.set_cons_zero, List.set_cons_succ]
        refine wpAnyH_ready (rs := [10]) (by kernel_rfl) (by simp) ?_
        refine AllReadyH.cons (opNth_ops rfl) (fun K hK => ?_) ?_
        · go_simp
          go_at_call 13
          refine (HPUT.out _ _ h4 IG4.out).mono ?_
          rintro e x5 ⟨vp, rfl, y5, b5⟩
          have h5 : Below w5.heap.size w5 x5 := h4.trans (b5.mono h4.size)
          obtain ⟨ap, cp, rfl, -⟩ := y5.shape
          obtain ⟨n5, hn5⟩ : ∃ n, n = (l ++ a.putT).length := ⟨_, rfl⟩
          have HP5 : Hid (∀ W, Below x5.heap.size x5 W → (convert 22 9 (.slice ap n5 cp)).run Tryd.prog W = .ok (.string S1) W) := fun W hW => (by have := (y5.under hW).text; rw [← HS1.out, ← hn5] at this; exact this)
          rw [← hn5]
          have k5 : Below x5.heap.size x5 x5 := Below.refl _ _
          clear y5 b5 IG4 hn5
          go_wp2_with fail
          refine hK.out _ _ ?_ (fun hHeld => ?_)
          · exact HCL.out _ h5
          clear hK K
          try simp only [Act.put, List.setIfInBounds_toArray, List.set_cons_zero, List.set_cons_succ]
          refine wpAnyH_ready (rs := [11, 15]) (by kernel_rfl) (by simp) ?_
          refine AllReadyH.cons (opNth_ops rfl) (fun K hK => ?_) ?_
          · have tp := HP5.out _ k5
            go_simp
            refine hK.out _ _ ?_ (fun hHeld => ?_)
            · exact HCL.out _ h5
            clear hK K
            try simp only [Act.put, List.setIfInBounds_toArray, List.set_cons_zero, List.set_cons_succ]
            clear tp
            refine wpAnyH_ready (rs := [15]) (by kernel_rfl) (by simp) ?_
            refine AllReadyH.cons (opNth_ops rfl) (fun K hK => ?_) ?_
            · go_simp
              go_at_call 14
              refine (HRPT.out _ h5).mono ?_
              rintro e x6 ⟨vr, rfl, y6, b6⟩
              have h6 : Below w5.heap.size w5 x6 := h5.trans (b6.mono h5.size)
              rw [List.nil_append] at y6
              obtain ⟨ar, cr, rfl, -⟩ := y6.shape
              have HP6 : Hid ((convert 22 9 (.slice ar a.putT.length cr)).run Tryd.prog x6 = .ok (.string S3) x6) := (by have := y6.text; rw [← HS3.out] at this; exact this)
              have k6 : Below x5.heap.size x5 x6 := b6
              clear y6 b6
              go_wp2_with fail
              refine hK.out _ _ ?_ (fun hHeld => ?_)
              · exact HCL.out _ h6
              clear hK K
              try simp only [Act.put, List.setIfInBounds_toArray, List.set_cons_zero, List.set_cons_succ]
              refine wpAnyH_ready (rs := [16]) (by kernel_rfl) (by simp) ?_
              refine AllReadyH.cons (opNth_ops rfl) (fun K hK => ?_) ?_
              · have tr := HP6.out
                go_simp
                refine hK.out _ _ ?_ (fun hHeld => ?_)
                · exact HCL.out _ h6
                clear hK K
                try simp only [Act.put, List.setIfInBounds_toArray, List.set_cons_zero, List.set_cons_succ]
                clear tr
                refine wpAnyH_take (i := 17) (v := ?_) (opNth_ops rfl) (by kernel_rfl) (by kernel_rfl) (by kernel_rfl) (fun _ _ _ h => h) (Or.inl ⟨by rfl, ?_⟩) (by assumption) ?_
                rotate_left
                · intro wq hSq
                  go_simp
                  try with_reducible rfl
                try simp only [Act.put, List.setIfInBounds_toArray, List.set_cons_zero, List.set_cons_succ]
                refine wpAnyH_take (i := 18) (v := ?_) (opNth_ops rfl) (by kernel_rfl) (by kernel_rfl) (by kernel_rfl) (fun _ _ _ h => h) (Or.inl ⟨by rfl, ?_⟩) (by assumption) ?_
                rotate_left
                · intro wq hSq
                  go_simp
                  try with_reducible rfl
                try simp only [Act.put, List.setIfInBounds_toArray, List.set_cons_zero, List.set_cons_succ]
                refine wpAnyH_take (i := 19) (v := ?_) (opNth_ops rfl) (by kernel_rfl) (by kernel_rfl) (by kernel_rfl) (fun _ _ _ h => h) (Or.inl ⟨by rfl, ?_⟩) (by assumption) ?_
                rotate_left
                · intro wq hSq
                  go_simp
                  try with_reducible rfl
                try simp only [Act.put, List.setIfInBounds_toArray, List.set_cons_zero, List.set_cons_succ]
                refine wpAnyH_done (by kernel_rfl) ?_ _
                refine NoPanic.normal ?_
                go_wp2_with fail
                go_meet
                case rel => exact ⟨rfl, h6⟩
              exact AllReadyH.nil
            exact AllReadyH.nil
          refine AllReadyH.cons (opNth_ops rfl) (fun K hK => ?_) ?_
          · go_simp
            go_at_call 14
            refine (HRPT.out _ h5).mono ?_
            rintro e x6 ⟨vr, rfl, y6, b6⟩
            have h6 : Below w5.heap.size w5 x6 := h5.trans (b6.mono h5.size)
            rw [List.nil_append] at y6
            obtain ⟨ar, cr, rfl, -⟩ := y6.shape
            have HP6 : Hid ((convert 22 9 (.slice ar a.putT.length cr)).run Tryd.prog x6 = .ok (.string S3) x6) := (by have := y6.text; rw [← HS3.out] at this; exact this)
            have k6 : Below x5.heap.size x5 x6 := b6
            clear y6 b6
            go_wp2_with fail
            refine hK.out _ _ ?_ (fun hHeld => ?_)
            · exact HCL.out _ h6
            clear hK K
            try simp only [Act.put, List.setIfInBounds_toArray, List.set_cons_zero, List.set_cons_succ]
            refine wpAnyH_ready (rs := [11, 16]) (by kernel_rfl) (by simp) ?_
            refine AllReadyH.cons (opNth_ops rfl) (fun K hK => ?_) ?_
            · have tp := HP5.out _ k6
              go_simp
              refine hK.out _ _ ?_ (fun hHeld => ?_)
              · exact HCL.out _ h6
              clear hK K
              try simp only [Act.put, List.setIfInBounds_toArray, List.set_cons_zero, List.set_cons_succ]
              clear tp
              refine wpAnyH_ready (rs := [16]) (by kernel_rfl) (by simp) ?_
              refine AllReadyH.cons (opNth_ops rfl) (fun K hK => ?_) ?_
              · have tr := HP6.out
                go_simp
                refine hK.out _ _ ?_ (fun hHeld => ?_)
                · exact HCL.out _ h6
                clear hK K
                try simp only [Act.put, List.setIfInBounds_toArray, List.set_cons_zero, List.set_cons_succ]
                clear tr
                refine wpAnyH_take (i := 17) (v := ?_) (opNth_ops rfl) (by kernel_rfl) (by kernel_rfl) (by kernel_rfl) (fun _ _ _ h => h) (Or.inl ⟨by rfl, ?_⟩) (by assumption) ?_
                rotate_left
                · intro wq hSq
                  go_simp
                  try with_reducible rfl
                try simp only [Act.put, List.setIfInBounds_toArray, List.set_cons_zero, List.set_cons_succ]
                refine wpAnyH_take (i := 18) (v := ?_) (opNth_ops rfl) (by kernel_rfl) (by kernel_rfl) (by kernel_rfl) (fun _ _ _ h => h) (Or.inl ⟨by rfl, ?_⟩) (by assumption) ?_
                rotate_left
                · intro wq hSq
                  go_simp
                  try with_reducible rfl
                try simp only [Act.put, List.setIfInBounds_toArray, List.set_cons_zero, List.set_cons_succ]
                refine wpAnyH_take (i := 19) (v := ?_) (opNth_ops rfl) (by kernel_rfl) (by kernel_rfl) (by kernel_rfl) (fun _ _ _ h => h) (Or.inl ⟨by rfl, ?_⟩) (by assumption) ?_
                rotate_left
                · intro wq hSq
                  go_simp
                  try with_reducible rfl
                try simp only [Act.put, List.setIfInBounds_toArray, List.set_cons_zero, List.set_cons_succ]
                refine wpAnyH_done (by kernel_rfl) ?_ _
                refine NoPanic.normal ?_
                go_wp2_with fail
                go_meet
                case rel => exact ⟨rfl, h6⟩
              exact AllReadyH.nil
            refine AllReadyH.cons (opNth_ops rfl) (fun K hK => ?_) ?_
            · have tr := HP6.out
              go_simp
              refine hK.out _ _ ?_ (fun hHeld => ?_)
              · exact HCL.out _ h6
              clear hK K
              try simp only [Act.put, List.setIfInBounds_toArray, List.set_cons_zero, List.set_cons_succ]
              clear tr
              refine wpAnyH_take (i := 17) (v := ?_) (opNth_ops rfl) (by kernel_rfl) (by kernel_rfl) (by kernel_rfl) (fun _ _ _ h => h) (Or.inl ⟨by rfl, ?_⟩) (by assumption) ?_
              rotate_left
              · intro wq hSq
                go_simp
                try with_reducible rfl
              try simp only [Act.put, List.setIfInBounds_toArray, List.set_cons_zero, List.set_cons_succ]
              refine wpAnyH_ready (rs := [11]) (by kernel_rfl) (by simp) ?_
              refine AllReadyH.cons (opNth_ops rfl) (fun K hK => ?_) ?_
              · have tp := HP5.out _ k6
                go_simp
                refine hK.out _ _ ?_ (fun hHeld => ?_)
                · exact HCL.out _ h6
                clear hK K
                try simp only [Act.put, List.setIfInBounds_toArray, List.set_cons_zero, List.set_cons_succ]
                clear tp
                refine wpAnyH_take (i := 18) (v := ?_) (opNth_ops rfl) (by kernel_rfl) (by kernel_rfl) (by kernel_rfl) (fun _ _ _ h => h) (Or.inl ⟨by rfl, ?_⟩) (by assumption) ?_
                rotate_left
                · intro wq hSq
                  go_simp
                  try with_reducible rfl
                try simp only [Act.put, List.setIfInBounds_toArray, List.set_cons_zero, List.set_cons_succ]
                refine wpAnyH_take (i := 19) (v := ?_) (opNth_ops rfl) (by kernel_rfl) (by kernel_rfl) (by kernel_rfl) (fun _ _ _ h => h) (Or.inl ⟨by rfl, ?_⟩) (by assumption) ?_
                rotate_left
                · intro wq hSq
                  go_simp
                  try with_reducible rfl
                try simp only [Act.put, List.setIfInBounds_toArray, List.set_cons_zero, List.set_cons_succ]
                refine wpAnyH_done (by kernel_rfl) ?_ _
                refine NoPanic.normal ?_
                go_wp2_with fail
                go_meet
                case rel => exact ⟨rfl, h6⟩
              exact AllReadyH.nil
            exact AllReadyH.nil
          exact AllReadyH.nil
        exact AllReadyH.nil
      exact AllReadyH.nil
    exact AllReadyH.nil
  case rest =>
    obtain ⟨rfl, hk⟩ := hcut
    have HKC : Hid (Below w5.heap.size w5 wc) := hk
    have hg5 : g0 ≤ w5.heap.size := Nat.le_of_lt HX5.out.lt
    have HBC : Hid (Below g0 w wc) := HB6.out.trans (hk.mono hg5)
    have hbc : Below w.heap.size w wc := by rw [hgd]; exact HBC.out
    have hgc : g0 ≤ wc.heap.size := by have := hk.size; omega
    have H99 : Hid (∀ W, Below w5.heap.size w5 W → W.cell? ⟨gc, l.length, none⟩ = some (.int .u8 99)) := fun W hW => by
      have h1 := (HO5.out.under hW).facts l.length (by simp)
      rw [h1.1]
      simp [List.getD]
    obtain ⟨G, hG⟩ : ∃ G, getS l at' = G := ⟨_, rfl⟩
    obtain ⟨⟨gt, gn, gl⟩, gx, ge⟩ := G
    have HGET : Hid (Calls Tryd.prog 15 #[.slice (some ⟨gc, 0, none⟩) l.length cc, .int .i64 at'] wc (fun e w' => GetPost wc (⟨gt, gn, gl⟩, gx, ge) e w')) := by
      have := get_any wc _ l at' (HS.out.under hbc) (HCY.out.under hk)
      rw [hG] at this
      exact this
    have HRG : Hid (∀ W, Below wc.heap.size wc W → Calls Tryd.prog 16 #[.slice av l.length cap, .int .i64 at'] W (fun e w' => GetPost W (⟨gt, gn, gl⟩, gx, ge) e w')) := fun W hW => by
      have := rget_any W _ l at' (HV.out.under (hbc.trans (hW.mono hbc.size)))
      rw [hG] at this
      exact this
    clear hk hbc hG HARG HCHK HRCK HPUT HRPT HTB HCL HS1 HS3 hcat hz2 hz3 hzz
    go_wp2_with fail
    refine HGET.out.mono ?_
    rintro e w6 ⟨sx, rfl, hrx, ⟨ax, cx, rfl, -⟩, b6⟩
    unfold agV
    dsimp only at hrx ⊢
    have b7 := (Below.refl w6.heap.size w6).alloc (Nat.le_refl _) (.cells #[.int .i64 gt, .int .i64 gn, .slice ax gl.length cx] 25)
    have H7 : Hid (Below wc.heap.size wc (w6.alloc (.cells #[.int .i64 gt, .int .i64 gn, .slice ax gl.length cx] 25))) := b6.trans (b7.mono b6.size)
    have HX7 : Hid (BxA (w6.alloc (.cells #[.int .i64 gt, .int .i64 gn, .slice ax gl.length cx] 25)) w6.heap.size gt gn (.slice ax gl.length cx)) := BxA.new _ _ _ _
    have HR7 : Hid (Rw3 (w6.alloc (.cells #[.int .i64 gt, .int .i64 gn, .slice ax gl.length cx] 25)) (.slice ax gl.length cx) (gl.map elOf)) := hrx.under b7
    clear hrx b6 b7 HGET
    go_wp2_with fail
    generalize w6.alloc (.cells #[.int .i64 gt, .int .i64 gn, .slice ax gl.length cx] 25) = w7 at *
    generalize w6.heap.size = g7 at *
    refine (HRG.out _ H7.out).mono ?_
    rintro e w8 ⟨sy, rfl, hry, ⟨ay, cy, rfl, -⟩, b8⟩
    unfold agV
    dsimp only at hry ⊢
    have b9 := (Below.refl w8.heap.size w8).alloc (Nat.le_refl _) (.cells #[.int .i64 gt, .int .i64 gn, .slice ay gl.length cy] 25)
    have H9 : Hid (Below wc.heap.size wc (w8.alloc (.cells #[.int .i64 gt, .int .i64 gn, .slice ay gl.length cy] 25))) := (H7.out.trans (b8.mono H7.out.size)).trans (b9.mono (by have := H7.out.size; have := b8.size; omega))
    have HX9 : Hid (BxA (w8.alloc (.cells #[.int .i64 gt, .int .i64 gn, .slice ay gl.length cy] 25)) w8.heap.size gt gn (.slice ay gl.length cy)) := BxA.new _ _ _ _
    have HX7b : Hid (BxA (w8.alloc (.cells #[.int .i64 gt, .int .i64 gn, .slice ay gl.length cy] 25)) g7 gt gn (.slice ax gl.length cx)) := (HX7.out.under b8).under b9
    have HSA : Hid (Calls Tryd.prog 17 #[.agg #[.int .i64 gt, .int .i64 gn, .slice ax gl.length cx], .agg #[.int .i64 gt, .int .i64 gn, .slice ay gl.length cy]] (w8.alloc (.cells #[.int .i64 gt, .int .i64 gn, .slice ay gl.length cy] 25)) (fun e w' => e = .returned (.bool true) ∧ Below (w8.alloc (.cells #[.int .i64 gt, .int .i64 gn, .slice ay gl.length cy] 25)).heap.size (w8.alloc (.cells #[.int .i64 gt, .int .i64 gn, .slice ay gl.length cy] 25)) w')) :=
      sameArg_with _ gt gn ax ay gl.length cx cy (fun W hW => sameArgs_any W _ _ (gl.map elOf) (gl.map elOf) (((HR7.out.under b8).under b9).under hW) ((hry.under b9).under hW) (alk_self gl))
    obtain ⟨u0, u1, u2, -⟩ := HX7b.out.facts
    obtain ⟨v0, v1, v2, -⟩ := HX9.out.facts
    clear hry b8 b9 HRG
    have h99 := H99.out
    have hci : (l.length : Int) + 1 ≤ (cc : Int) := by omega
    have hll : (l.length : Int) < (l.length : Int) + 1 := by omega
    clear h99
    go_wp2_with fail
    generalize w8.alloc (.cells #[.int .i64 gt, .int .i64 gn, .slice ay gl.length cy] 25) = w9 at *
    generalize w8.heap.size = g9 at *
    refine HSA.out.mono ?_
    rintro e w10 ⟨rfl, b10⟩
    have H10 : Hid (Below w5.heap.size w5 w10) := HKC.out.trans ((H9.out.trans (b10.mono H9.out.size)).mono HKC.out.size)
    have HB10 : Hid (Below g0 w w10) := HBC.out.trans ((H9.out.trans (b10.mono H9.out.size)).mono hgc)
    have hc99 := H99.out w10 H10.out
    clear b10 HSA u0 u1 u2 v0 v1 v2
    go_wp2_with fail
    refine (HAW.out _ HB10.out).mono ?_
    rintro e w11 ⟨rfl, b11⟩
    have h10g : g0 ≤ w10.heap.size := by have := H10.out.size; omega
    have HB11 : Hid (Below g0 w w11) := HB10.out.trans (b11.mono h10g)
    clear b11
    go_wp2_with fail
    go_ret
    exact ⟨rfl, HB11.out⟩
end Go.Proofs.YtgjjeghnfhjnnaaDoor
