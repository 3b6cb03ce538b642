/-
  relictlaw06.CompactBack: the walk.
-/
import Derived.Test.YtmoonigeghoeeaaDoorCgSameB
import Derived.Test.YtmoonigeghoeeaaDoorCgChk
namespace Go.Proofs.YtmoonigeghoeeaaDoor
open Go.RowKit
set_option linter.unusedVariables false
set_option linter.unusedSimpArgs false

theorem get_two (a : Ar) (h : a.ok = true) (x y : UInt8) (more : List UInt8) : getS (x :: y :: (a.put ++ more)) 2 = (a, ((a.put.length + 2 : Nat) : Int), 0) := by
  unfold getS
  rw [if_neg (by simp; omega)]
  have e : (x :: y :: (a.put ++ more)).drop (2 : Int).toNat = a.put ++ more := rfl
  rw [e, op_of h]
  simp
  omega
theorem get_short (a : Ar) (h : a.ok = true) (x y : UInt8) (j : Nat) (hj : j < a.put.length) : getS ((x :: y :: a.put).take (2 + j)) 2 = (Ar.zero, 0, 3) := by
  have e0 : (x :: y :: a.put).take (2 + j) = x :: y :: a.put.take j := by rw [Nat.add_comm]; rfl
  rw [e0]
  unfold getS
  rw [if_neg (by simp; omega)]
  have e : (x :: y :: a.put.take j).drop (2 : Int).toNat = a.put.take j := rfl
  rw [e, op_cut h j hj]
  rfl
theorem put_pos (a : Ar) (h : a.ok = true) : 1 ≤ a.put.length ∧ a.put.length ≤ 500 := by
  rw [a.put_eq]
  split
  · rename_i h7
    obtain ⟨-, h2, -⟩ := ok7 h h7
    have h1 := @num_len 0 (a.l.length : Int)
    have h3 := els_len (a.l.map elOf)
    rw [els_of, List.length_map] at h3
    simp only [List.length_cons, List.length_append]
    omega
  · have h1 := @sgl_len a.t a.n
    rename_i h7
    obtain ⟨f, r, e, -⟩ := sgl_head (ok1 h h7).1
    rw [e] at h1 ⊢
    simp at h1 ⊢
    omega
/-- A tree's kids, if these are singles, as what is got has them. -/
theorem alk_of {a : Ag} {L : List El} {w : World} (hk : ∀ k ∈ a.kids, k.kids = []) (hl : L.length = a.kids.length) (hi : ∀ i (h : i < a.kids.length) (h' : i < L.length), IsG w a.kids[i] (L[i].v)) : Alk (a.ar.l.map elOf) L := by
  unfold Ag.ar
  dsimp only
  refine ⟨by simp [hl], fun i h h' => ?_⟩
  have h2 : i < a.kids.length := by simpa using h
  obtain ⟨e1, e2, e3, -⟩ := (hi i h2 h').el
  simp only [List.getElem_map, elOf]
  refine ⟨e1.symm, e2.symm, trivial, ?_⟩
  rw [e3, hk _ (List.getElem_mem h2)]
  rfl
theorem el_same {a : Ag} {L : List El} {w : World} (hk : ∀ k ∈ a.kids, k.kids = []) (hl : L.length = a.kids.length) (hi : ∀ i (h : i < a.kids.length) (h' : i < L.length), IsG w a.kids[i] (L[i].v)) (hok : a.ar.ok = true) (p : Option Addr) (c : Nat) : El.putS ⟨a.t, a.n, p, a.kids.length, c⟩ L = a.ar.put := by
  have hal := alk_of hk hl hi
  have hmap : L.map (fun x => (x.t, x.n)) = a.ar.l := by
    refine List.ext_getElem (by simp [hl, Ag.ar]) (fun i h1 h2 => ?_)
    simp at h1
    obtain ⟨g1, g2, -, -⟩ := hal.2 i (by simpa [Ag.ar, hl] using h1) h1
    simp only [List.getElem_map] at g1 g2 ⊢
    unfold elOf at g1 g2
    dsimp only at g1 g2
    exact Prod.ext g1.symm g2.symm
  have hm0 : ∀ x ∈ L, x.m = 0 := fun x hx => by
    obtain ⟨i, hi', rfl⟩ := List.getElem_of_mem hx
    exact (hal.2 i (by simpa [Ag.ar, hl] using hi') hi').2.2.2
  have hall : (∀ q ∈ a.ar.l, okN1 q.1 q.2 = true) → L.all El.ok1 = true := fun h => List.all_eq_true.2 (fun x hx => by
    have h1 : okN1 x.t x.n = true := h (x.t, x.n) (by rw [← hmap]; exact List.mem_map.2 ⟨x, hx, rfl⟩)
    simp [El.ok1, hm0 x hx, h1])
  have hels : elsB L = sglsB a.ar.l := by
    unfold elsB sglsB
    rw [← hmap, List.map_map]
    rfl
  have hll : L.length = a.ar.l.length := by rw [← hmap]; simp
  have hok2 : El.ok ⟨a.t, a.n, p, a.kids.length, c⟩ L = true := by
    unfold El.ok
    dsimp only
    by_cases h7 : a.t = 7
    · obtain ⟨h1, h2, h3⟩ := ok7 hok h7
      have h1' : a.n = 0 := h1
      rw [if_pos h7, hall h3, hll]
      simp [h1', h2]
    · obtain ⟨h1, h2⟩ := ok1 hok h7
      rw [if_neg h7]
      unfold El.ok1
      dsimp only
      have : a.kids.length = 0 := by rw [← hl, hll, h2]; rfl
      have h1' : okN1 a.t a.n = true := h1
      simp [h1', this]
  unfold El.putS
  rw [if_pos hok2]
  unfold El.put
  dsimp only
  rw [Ar.put_eq, hels, hll]
  rfl

theorem two_cells (w : World) : By (w.alloc (.cells #[.int .u8 1, .int .u8 2] 5)) (.slice (some ⟨w.heap.size, 0, none⟩) 2 2) [1, 2] := by
  refine ⟨_, 2, rfl, Nat.le_refl _, by decide, fun e => (by cases e), fun _ => ⟨w.heap.size, 0, rfl, by simp, fun i hi => ?_⟩⟩
  have : i = 0 ∨ i = 1 := by simp at hi; omega
  rcases this with rfl | rfl <;> (rw [World.cell?_alloc_mark]; rfl)

set_option maxRecDepth 100000 in
set_option maxHeartbeats 8000000 in
theorem compactBack_walk (a : Ag) (v vm : Value) (more : List UInt8) (at' : Int) (w : World) (hS : Spn w) (hv : IsG w a v) (hm : By w vm more) (hml : (more.length : Int) ≤ 140737488351232) (ha1 : -9223372036854775808 ≤ at') (ha2 : at' ≤ 9223372036854775807) :
    Calls Tryd.prog 4 #[v, vm, .int .i64 at'] w fun e w' => e = .returned (.bool true) ∧ Below w.heap.size w w' := by
  obtain ⟨i0, hi, hz0, hz1, hz2⟩ := info_parts Tryd.infoB
  have hv0 := hv
  obtain ⟨p, c, rfl, hf, hg⟩ := hv.open
  obtain ⟨p', c', L, he, hl, hr, hk⟩ := hg
  obtain ⟨am, cm, rfl, hm1, hm2, hm3⟩ := hm.shape
  have hff := hf
  unfold El.fit at hff
  dsimp only at hff
  have HS : Hid (Spn w) := hS
  have HV : Hid (IsG w a (agV a.t a.n (.slice p a.kids.length c))) := hv0
  have HM : Hid (By w (.slice am more.length cm) more) := hm
  have HF : Hid (El.fit ⟨a.t, a.n, p, a.kids.length, c⟩) := hf
  have HR : Hid (Rw3 w (.slice p a.kids.length c) L) := hr
  have HK : Hid (∀ i (h : i < a.kids.length) (h' : i < L.length), IsG w a.kids[i] (L[i].v)) := hk
  have HL : Hid (L.length = a.kids.length) := hl
  clear hS hv hv0 hm hf hr hk hl he p' c'
  have bA := (Below.refl w.heap.size w).alloc (Nat.le_refl _) (.cells #[.int .i64 a.t, .int .i64 a.n, .slice p a.kids.length c] 25)
  have HX1 : Hid (BxA (w.alloc (.cells #[.int .i64 a.t, .int .i64 a.n, .slice p a.kids.length c] 25)) w.heap.size a.t a.n (.slice p a.kids.length c)) := BxA.new w _ _ _
  have HB1 : Hid (Below w.heap.size w (w.alloc (.cells #[.int .i64 a.t, .int .i64 a.n, .slice p a.kids.length c] 25))) := bA
  have hz : (w.alloc (.cells #[.int .i64 a.t, .int .i64 a.n, .slice p a.kids.length c] 25)).heap.size = w.heap.size + 1 := by simp
  have HFW : Hid (Calls Tryd.prog 8 #[.slice (some ⟨w.heap.size + 1, 0, none⟩) 1 1, .int .i64 3] ((w.alloc (.cells #[.int .i64 a.t, .int .i64 a.n, .slice p a.kids.length c] 25)).alloc (.cells #[.int .i64 a.t, .int .i64 a.n, .slice p a.kids.length c] 25)) fun e w' => AnyB ((w.alloc (.cells #[.int .i64 a.t, .int .i64 a.n, .slice p a.kids.length c] 25)).alloc (.cells #[.int .i64 a.t, .int .i64 a.n, .slice p a.kids.length c] 25)) e w') := by
    have h1 := Gs.one (w.alloc (.cells #[.int .i64 a.t, .int .i64 a.n, .slice p a.kids.length c] 25)) a ⟨a.t, a.n, p, a.kids.length, c⟩ HF.out (HV.out.under bA)
    rw [hz] at h1
    exact few_all (.mk 0 0 [a]) _ _ 3 h1 (by decide) (by decide)
  unfold agV
  obtain ⟨c0, c1, c2, -⟩ := HX1.out.facts
  clear bA
  go_enter Tryd.func4, Tryd.ntmps4
  go_wp2_with fail
  refine HFW.out.mono ?_
  rintro e w2 ⟨⟨q, rfl⟩, rfl⟩
  have bB := (Below.refl (w.alloc (.cells #[.int .i64 a.t, .int .i64 a.n, .slice p a.kids.length c] 25)).heap.size (w.alloc (.cells #[.int .i64 a.t, .int .i64 a.n, .slice p a.kids.length c] 25))).alloc (Nat.le_refl _) (.cells #[.int .i64 a.t, .int .i64 a.n, .slice p a.kids.length c] 25)
  have HX2 := HX1.out.under bB
  have HB2 : Hid _ := HB1.out.trans (bB.mono HB1.out.size)
  generalize (w.alloc (.cells #[.int .i64 a.t, .int .i64 a.n, .slice p a.kids.length c] 25)).alloc (.cells #[.int .i64 a.t, .int .i64 a.n, .slice p a.kids.length c] 25) = w2 at *
  replace HB2 : Hid (Below w.heap.size w w2) := HB2
  have HX3 : Hid (BxA w2 w.heap.size a.t a.n (.slice p a.kids.length c)) := HX2
  obtain ⟨d0, d1, d2, -⟩ := HX2.facts
  clear HFW HX1 HB1 hz bB HX2 c0 c1 c2
  cases q with
  | false =>
    go_wp2_with fail
    refine (awake6 _ (HS.out.under HB2.out)).mono ?_
    rintro e w4 ⟨rfl, b4⟩
    have HB4 : Hid (Below w.heap.size w w4) := HB2.out.trans (b4.mono HB2.out.size)
    clear b4
    go_wp2_with fail
    go_ret
    exact ⟨rfl, HB4.out⟩
  | true =>
    go_wp2_with fail
    refine (rck_any w2 a (.agg #[.int .i64 a.t, .int .i64 a.n, .slice p a.kids.length c]) (HV.out.under HB2.out)).mono ?_
    rintro e w3 ⟨q, rfl, hq, b3⟩
    have HB3 : Hid (Below w.heap.size w w3) := HB2.out.trans (b3.mono HB2.out.size)
    have HX4 : Hid (BxA w3 w.heap.size a.t a.n (.slice p a.kids.length c)) := HX3.out.under b3
    have HQ : Hid (q = true → a.ar.ok = true ∧ ∀ k ∈ a.kids, k.kids = []) := hq
    obtain ⟨e0, e1, e2, -⟩ := HX4.out.facts
    clear b3 hq d0 d1 d2 HX3 HB2
    cases q with
    | false =>
      go_wp2_with fail
      refine (awake6 _ (HS.out.under HB3.out)).mono ?_
      rintro e w4 ⟨rfl, b4⟩
      have HB4 : Hid (Below w.heap.size w w4) := HB3.out.trans (b4.mono HB3.out.size)
      clear b4
      go_wp2_with fail
      go_ret
      exact ⟨rfl, HB4.out⟩
    | true =>
      obtain ⟨hok, hkk⟩ := HQ.out rfl
      obtain ⟨hp1, hp2⟩ := put_pos a.ar hok
      have HPUT : Hid (El.putS ⟨a.t, a.n, p, a.kids.length, c⟩ L = a.ar.put) := el_same hkk HL.out HK.out hok p c
      have HAL : Hid (Alk (a.ar.l.map elOf) L) := alk_of hkk HL.out HK.out
      have HG1 : Hid (getS (1 :: 2 :: (a.ar.put ++ more)) 2 = (a.ar, ((a.ar.put.length + 2 : Nat) : Int), 0)) := get_two a.ar hok 1 2 more
      have HG2 : Hid (∀ j, j < a.ar.put.length → getS ((1 :: 2 :: a.ar.put).take (2 + j)) 2 = (Ar.zero, 0, 3)) := get_short a.ar hok 1 2
      have HARL : Hid (a.ar.l.length = a.kids.length) := by unfold Hid Ag.ar; simp
      have HART : Hid (a.ar.t = a.t ∧ a.ar.n = a.n) := ⟨rfl, rfl⟩
      obtain ⟨P, hP⟩ : ∃ P, P = a.ar.put := ⟨_, rfl⟩
      rw [← hP] at hp1 hp2 HPUT HG1 HG2
      obtain ⟨N, hN⟩ : ∃ N, N = P.length := ⟨_, rfl⟩
      rw [← hN] at hp1 hp2 HG1 HG2
      have HN : Hid (P.length = N) := hN.symm
      have hb2 := two_cells w3
      have bC := (Below.refl w3.heap.size w3).alloc (Nat.le_refl _) (.cells #[.int .u8 1, .int .u8 2] 5)
      have HB4 : Hid (Below w.heap.size w (w3.alloc (.cells #[.int .u8 1, .int .u8 2] 5))) := HB3.out.trans (bC.mono HB3.out.size)
      have HX5 : Hid (BxA (w3.alloc (.cells #[.int .u8 1, .int .u8 2] 5)) w.heap.size a.t a.n (.slice p a.kids.length c)) := HX4.out.under bC
      have HPC : Hid (Calls Tryd.prog 13 #[.slice (some ⟨w3.heap.size, 0, none⟩) 2 2, .agg #[.int .i64 a.t, .int .i64 a.n, .slice p a.kids.length c]] (w3.alloc (.cells #[.int .u8 1, .int .u8 2] 5)) fun e w' => PutA (w3.alloc (.cells #[.int .u8 1, .int .u8 2] 5)) [1, 2] P e w') := by
        have := put_any _ [1, 2] ⟨a.t, a.n, p, a.kids.length, c⟩ L _ (HS.out.under HB4.out) hb2 (by simp) HF.out (HR.out.under HB4.out) HL.out.symm
        rw [HPUT.out] at this
        exact this
      obtain ⟨g0, g1, g2, -⟩ := HX5.out.facts
      clear hok hkk hP hN hb2 bC HQ HPUT
      go_wp2_with fail
      refine HPC.out.mono ?_
      rintro e w5 ⟨v5, rfl, y5, b5⟩
      have HB5 : Hid (Below w.heap.size w w5) := HB4.out.trans (b5.mono HB4.out.size)
      have HX6 : Hid (BxA w5 w.heap.size a.t a.n (.slice p a.kids.length c)) := HX5.out.under b5
      have hy5 : ([1, 2] ++ P : List UInt8).length = N + 2 := by simp; have := HN.out; omega
      obtain ⟨a5, c5, rfl, hc5, hd5, -⟩ := y5.shape
      rw [hy5] at hc5 y5 ⊢
      have HY5 : Hid (By w5 (.slice a5 (N + 2) c5) (1 :: 2 :: P)) := y5
      clear b5 y5 HPC HX5 HB4 g0 g1 g2 hy5 e0 e1 e2 HX4 HB3
      go_wp2_with fail
      refine (bytes_any _ (1 :: 2 :: P) _ HY5.out (by simp; have := HN.out; omega)).mono ?_
      rintro e w6 ⟨v6, rfl, o6, b6⟩
      have hl6 : (1 :: 2 :: P : List UInt8).length = N + 2 := by simp; have := HN.out; omega
      have ho6 : w6.ownsRow w5.heap.size 5 1 v6 (N + 2) (bv (1 :: 2 :: P)) := by have := o6; unfold OB at this; rw [hl6] at this; exact this
      rcases am with _ | x
      · have hcm := hm3 rfl
        have hmo : more = [] := List.eq_nil_of_length_eq_zero (by omega)
        subst hcm
        subst hmo
        have hb57 : Below w5.heap.size w5 w6 := b6
        have hy7 : By w6 v6 (1 :: 2 :: (P ++ [])) := by rw [List.append_nil]; exact o6.by
        go_wp2_with (first | (at_builtin; refine wpList_append_own_none rfl _ _ 22 rfl w5.heap.size 5 i0 1 Tryd.underlying22 hi v6 (N + 2) (bv (1 :: 2 :: P)) rfl ho6 rfl ?_) | fail)
        clear ho6 o6 b6 hl6
        obtain ⟨w7, hw7⟩ : ∃ w7, w7 = w6 := ⟨_, rfl⟩
        obtain ⟨v7, hv7⟩ : ∃ v7, v7 = v6 := ⟨_, rfl⟩
        rw [← hw7, ← hv7] at hy7
        rw [← hw7] at hb57
        subst hw7
        subst hv7
        have HB57 : Hid (Below w5.heap.size w5 w7) := hb57
        have HB7 : Hid (Below w.heap.size w w7) := HB5.out.trans (hb57.mono HB5.out.size)
        have HX7 : Hid (BxA w7 w.heap.size a.t a.n (.slice p a.kids.length c)) := HX6.out.under hb57
        have HY7 : Hid (By w7 (.slice a5 (N + 2) c5) (1 :: 2 :: P)) := HY5.out.under hb57
        have HZ7 : Hid (By w7 v7 (1 :: 2 :: (P ++ []))) := hy7
        have HGC : Hid (Calls Tryd.prog 15 #[v7, .int .i64 2] w7 fun e w' => GetPost w7 (a.ar, ((N + 2 : Nat) : Int), 0) e w') := by
          have := get_any w7 v7 _ 2 (HS.out.under HB7.out) HZ7.out
          rw [HG1.out] at this
          exact this
        clear hb57 hy7 HX6 HY5 HB5
        refine HGC.out.mono ?_
        rintro e w8 ⟨sl, rfl, hrw, ⟨sa, sc, rfl, -⟩, b8⟩
        have hrw2 : Rw3 w8 (.slice sa a.kids.length sc) (a.ar.l.map elOf) := by have := hrw; dsimp only at this; rw [HARL.out] at this; exact this
        have hsl : (Value.slice sa a.ar.l.length sc) = .slice sa a.kids.length sc := by rw [HARL.out]
        dsimp only
        rw [hsl]
        unfold agV
        have har1 : a.ar.t = a.t := rfl
        have har2 : a.ar.n = a.n := rfl
        rw [har1, har2]
        have bD := (Below.refl w8.heap.size w8).alloc (Nat.le_refl _) (.cells #[.int .i64 a.t, .int .i64 a.n, .slice sa a.kids.length sc] 25)
        have b89 := b8.trans (bD.mono b8.size)
        have HR9 : Hid (Rw3 (w8.alloc (.cells #[.int .i64 a.t, .int .i64 a.n, .slice sa a.kids.length sc] 25)) (.slice sa a.kids.length sc) (a.ar.l.map elOf)) := hrw2.under bD
        have HA9 : Hid (BxA (w8.alloc (.cells #[.int .i64 a.t, .int .i64 a.n, .slice sa a.kids.length sc] 25)) w8.heap.size a.t a.n (.slice sa a.kids.length sc)) := BxA.new _ _ _ _
        have HX9 : Hid (BxA (w8.alloc (.cells #[.int .i64 a.t, .int .i64 a.n, .slice sa a.kids.length sc] 25)) w.heap.size a.t a.n (.slice p a.kids.length c)) := HX7.out.under b89
        have HY9 : Hid (By (w8.alloc (.cells #[.int .i64 a.t, .int .i64 a.n, .slice sa a.kids.length sc] 25)) (.slice a5 (N + 2) c5) (1 :: 2 :: P)) := HY7.out.under b89
        have HB9 : Hid (Below w.heap.size w (w8.alloc (.cells #[.int .i64 a.t, .int .i64 a.n, .slice sa a.kids.length sc] 25))) := HB7.out.trans (b89.mono HB7.out.size)
        clear hrw hrw2 hsl b8 bD b89 HX7 HY7 HB7 HB57 HZ7 HGC har1 har2
        go_wp2_with fail
        generalize w8.alloc (.cells #[.int .i64 a.t, .int .i64 a.n, .slice sa a.kids.length sc] 25) = w9 at *
        generalize w8.heap.size = g8 at *
        refine (place_any at' (N : Int) w9 (by omega) (by omega) ha1 ha2).mono ?_
        rintro e w0 ⟨rfl, rfl⟩
        have hj0 := Int.emod_nonneg at' (show (N : Int) ≠ 0 by omega)
        have hj1 := Int.emod_lt_of_pos at' (show (0 : Int) < (N : Int) by omega)
        obtain ⟨j, hj⟩ : ∃ j : Nat, at' % (N : Int) = (j : Int) := ⟨(at' % (N : Int)).toNat, by omega⟩
        rw [hj] at hj0 hj1 ⊢
        have hjN : j < N := by omega
        obtain ⟨b5, o5, rfl, -⟩ := HY9.out.at 0 (by simp)
        have HT9 : Hid (By w9 (.slice (some ⟨b5, o5, none⟩) (2 + j) c5) ((1 :: 2 :: P).take (2 + j))) := HY9.out.take (2 + j) c5 (by simp; have := HN.out; omega) (by omega) (Nat.le_refl _)
        have HGC2 : Hid (Calls Tryd.prog 15 #[.slice (some ⟨b5, o5, none⟩) (2 + j) c5, .int .i64 2] w9 fun e w' => GetPost w9 (Ar.zero, 0, 3) e w') := by
          have := get_any w9 _ _ 2 (HS.out.under HB9.out) HT9.out
          rw [HG2.out j (by have := HN.out; omega)] at this
          exact this
        have hji : (2 : Int) + (j : Int) ≤ (c5 : Int) := by omega
        clear hj hj0 HT9
        go_wp2_with fail
        refine HGC2.out.mono ?_
        rintro e w10 ⟨sl2, rfl, -, ⟨sa2, sc2, rfl, -⟩, b10⟩
        unfold agV Ar.zero
        dsimp only [List.length_nil]
        have bE := (Below.refl w10.heap.size w10).alloc (Nat.le_refl _) (.cells #[.int .i64 0, .int .i64 0, .slice sa2 0 sc2] 25)
        have bt := b10.trans (bE.mono b10.size)
        have HR11 : Hid (Rw3 (w10.alloc (.cells #[.int .i64 0, .int .i64 0, .slice sa2 0 sc2] 25)) (.slice sa a.kids.length sc) (a.ar.l.map elOf)) := HR9.out.under bt
        have HA11 : Hid (BxA (w10.alloc (.cells #[.int .i64 0, .int .i64 0, .slice sa2 0 sc2] 25)) g8 a.t a.n (.slice sa a.kids.length sc)) := HA9.out.under bt
        have HX11 : Hid (BxA (w10.alloc (.cells #[.int .i64 0, .int .i64 0, .slice sa2 0 sc2] 25)) w.heap.size a.t a.n (.slice p a.kids.length c)) := HX9.out.under bt
        have HB11 : Hid (Below w.heap.size w (w10.alloc (.cells #[.int .i64 0, .int .i64 0, .slice sa2 0 sc2] 25))) := HB9.out.trans (bt.mono HB9.out.size)
        clear b10 bE bt HR9 HA9 HX9 HY9 HB9 HGC2
        obtain ⟨s0, s1, s2, -⟩ := HA11.out.facts
        obtain ⟨t0, t1, t2, -⟩ := HX11.out.facts
        have HSA : Hid (Calls Tryd.prog 17 #[.agg #[.int .i64 a.t, .int .i64 a.n, .slice sa a.kids.length sc], .agg #[.int .i64 a.t, .int .i64 a.n, .slice p a.kids.length c]] (w10.alloc (.cells #[.int .i64 0, .int .i64 0, .slice sa2 0 sc2] 25)) fun e w' => e = .returned (.bool true) ∧ Below (w10.alloc (.cells #[.int .i64 0, .int .i64 0, .slice sa2 0 sc2] 25)).heap.size (w10.alloc (.cells #[.int .i64 0, .int .i64 0, .slice sa2 0 sc2] 25)) w') := sameArg_with (w10.alloc (.cells #[.int .i64 0, .int .i64 0, .slice sa2 0 sc2] 25)) a.t a.n sa p a.kids.length sc c (fun W hW => sameArgs_any W _ _ _ _ (HR11.out.under hW) ((HR.out.under HB11.out).under hW) HAL.out)
        go_wp2_with fail
        refine HSA.out.mono ?_
        rintro e w12 ⟨rfl, b12⟩
        have HB12 : Hid (Below w.heap.size w w12) := HB11.out.trans (b12.mono HB11.out.size)
        clear b12 HSA s0 s1 s2 t0 t1 t2
        go_wp2_with fail
        refine (awake6 _ (HS.out.under HB12.out)).mono ?_
        rintro e w13 ⟨rfl, b13⟩
        have HB13 : Hid (Below w.heap.size w w13) := HB12.out.trans (b13.mono HB12.out.size)
        clear b13
        go_wp2_with fail
        go_ret
        exact ⟨rfl, HB13.out⟩
      · have hnews : ∀ j u, (bv more)[j]? = some u → w6.cell? (x.add j) = some u := by
          intro j u hu
          by_cases hj : j < more.length
          · obtain ⟨b, off, he, -, hc⟩ := ((HM.out.under HB5.out).under b6).at j hj
            injection he with he
            subst he
            rw [show (⟨b, off, none⟩ : Addr).add j = ⟨b, off + j, none⟩ by unfold Addr.add; split <;> simp_all, hc j hj]
            simp [bv, hj] at hu
            simp [List.getD, hj, hu]
          · rw [List.getElem?_eq_none (by simp [bv]; omega)] at hu
            cases hu
        have hs6 : w5.heap.size ≤ w6.heap.size := b6.size
        go_wp2_with (first | (at_builtin; refine wpList_append_own _ rfl _ _ 22 rfl w5.heap.size 5 i0 (.int .u8 0) 1 1 Tryd.underlying22 hi hz0 hz1 hz2 rfl (by decide) v6 (N + 2) (bv (1 :: 2 :: P)) rfl ho6 x more.length cm (bv more) rfl (by simp [bv]) hnews (bv_one _) (by simp only [maxLen]; omega) (by omega) hs6 ?_; intro v7 w7 hown7 hgr7 _) | fail)
        have hb57 : Below w5.heap.size w5 w7 := OB.belowG o6 b6 hgr7 hs6 (Nat.le_refl _)
        have hy7 : By w7 v7 (1 :: 2 :: (P ++ more)) := (OB.more (l := 1 :: 2 :: P) (m := more) hown7 (by rw [hl6])).by
        clear ho6 o6 b6 hl6 hnews hown7 hgr7 hs6
        have HB57 : Hid (Below w5.heap.size w5 w7) := hb57
        have HB7 : Hid (Below w.heap.size w w7) := HB5.out.trans (hb57.mono HB5.out.size)
        have HX7 : Hid (BxA w7 w.heap.size a.t a.n (.slice p a.kids.length c)) := HX6.out.under hb57
        have HY7 : Hid (By w7 (.slice a5 (N + 2) c5) (1 :: 2 :: P)) := HY5.out.under hb57
        have HZ7 : Hid (By w7 v7 (1 :: 2 :: (P ++ more))) := hy7
        have HGC : Hid (Calls Tryd.prog 15 #[v7, .int .i64 2] w7 fun e w' => GetPost w7 (a.ar, ((N + 2 : Nat) : Int), 0) e w') := by
          have := get_any w7 v7 _ 2 (HS.out.under HB7.out) HZ7.out
          rw [HG1.out] at this
          exact this
        clear hb57 hy7 HX6 HY5 HB5
        refine HGC.out.mono ?_
        rintro e w8 ⟨sl, rfl, hrw, ⟨sa, sc, rfl, -⟩, b8⟩
        have hrw2 : Rw3 w8 (.slice sa a.kids.length sc) (a.ar.l.map elOf) := by have := hrw; dsimp only at this; rw [HARL.out] at this; exact this
        have hsl : (Value.slice sa a.ar.l.length sc) = .slice sa a.kids.length sc := by rw [HARL.out]
        dsimp only
        rw [hsl]
        unfold agV
        have har1 : a.ar.t = a.t := rfl
        have har2 : a.ar.n = a.n := rfl
        rw [har1, har2]
        have bD := (Below.refl w8.heap.size w8).alloc (Nat.le_refl _) (.cells #[.int .i64 a.t, .int .i64 a.n, .slice sa a.kids.length sc] 25)
        have b89 := b8.trans (bD.mono b8.size)
        have HR9 : Hid (Rw3 (w8.alloc (.cells #[.int .i64 a.t, .int .i64 a.n, .slice sa a.kids.length sc] 25)) (.slice sa a.kids.length sc) (a.ar.l.map elOf)) := hrw2.under bD
        have HA9 : Hid (BxA (w8.alloc (.cells #[.int .i64 a.t, .int .i64 a.n, .slice sa a.kids.length sc] 25)) w8.heap.size a.t a.n (.slice sa a.kids.length sc)) := BxA.new _ _ _ _
        have HX9 : Hid (BxA (w8.alloc (.cells #[.int .i64 a.t, .int .i64 a.n, .slice sa a.kids.length sc] 25)) w.heap.size a.t a.n (.slice p a.kids.length c)) := HX7.out.under b89
        have HY9 : Hid (By (w8.alloc (.cells #[.int .i64 a.t, .int .i64 a.n, .slice sa a.kids.length sc] 25)) (.slice a5 (N + 2) c5) (1 :: 2 :: P)) := HY7.out.under b89
        have HB9 : Hid (Below w.heap.size w (w8.alloc (.cells #[.int .i64 a.t, .int .i64 a.n, .slice sa a.kids.length sc] 25))) := HB7.out.trans (b89.mono HB7.out.size)
        clear hrw hrw2 hsl b8 bD b89 HX7 HY7 HB7 HB57 HZ7 HGC har1 har2
        go_wp2_with fail
        generalize w8.alloc (.cells #[.int .i64 a.t, .int .i64 a.n, .slice sa a.kids.length sc] 25) = w9 at *
        generalize w8.heap.size = g8 at *
        refine (place_any at' (N : Int) w9 (by omega) (by omega) ha1 ha2).mono ?_
        rintro e w0 ⟨rfl, rfl⟩
        have hj0 := Int.emod_nonneg at' (show (N : Int) ≠ 0 by omega)
        have hj1 := Int.emod_lt_of_pos at' (show (0 : Int) < (N : Int) by omega)
        obtain ⟨j, hj⟩ : ∃ j : Nat, at' % (N : Int) = (j : Int) := ⟨(at' % (N : Int)).toNat, by omega⟩
        rw [hj] at hj0 hj1 ⊢
        have hjN : j < N := by omega
        obtain ⟨b5, o5, rfl, -⟩ := HY9.out.at 0 (by simp)
        have HT9 : Hid (By w9 (.slice (some ⟨b5, o5, none⟩) (2 + j) c5) ((1 :: 2 :: P).take (2 + j))) := HY9.out.take (2 + j) c5 (by simp; have := HN.out; omega) (by omega) (Nat.le_refl _)
        have HGC2 : Hid (Calls Tryd.prog 15 #[.slice (some ⟨b5, o5, none⟩) (2 + j) c5, .int .i64 2] w9 fun e w' => GetPost w9 (Ar.zero, 0, 3) e w') := by
          have := get_any w9 _ _ 2 (HS.out.under HB9.out) HT9.out
          rw [HG2.out j (by have := HN.out; omega)] at this
          exact this
        have hji : (2 : Int) + (j : Int) ≤ (c5 : Int) := by omega
        clear hj hj0 HT9
        go_wp2_with fail
        refine HGC2.out.mono ?_
        rintro e w10 ⟨sl2, rfl, -, ⟨sa2, sc2, rfl, -⟩, b10⟩
        unfold agV Ar.zero
        dsimp only [List.length_nil]
        have bE := (Below.refl w10.heap.size w10).alloc (Nat.le_refl _) (.cells #[.int .i64 0, .int .i64 0, .slice sa2 0 sc2] 25)
        have bt := b10.trans (bE.mono b10.size)
        have HR11 : Hid (Rw3 (w10.alloc (.cells #[.int .i64 0, .int .i64 0, .slice sa2 0 sc2] 25)) (.slice sa a.kids.length sc) (a.ar.l.map elOf)) := HR9.out.under bt
        have HA11 : Hid (BxA (w10.alloc (.cells #[.int .i64 0, .int .i64 0, .slice sa2 0 sc2] 25)) g8 a.t a.n (.slice sa a.kids.length sc)) := HA9.out.under bt
        have HX11 : Hid (BxA (w10.alloc (.cells #[.int .i64 0, .int .i64 0, .slice sa2 0 sc2] 25)) w.heap.size a.t a.n (.slice p a.kids.length c)) := HX9.out.under bt
        have HB11 : Hid (Below w.heap.size w (w10.alloc (.cells #[.int .i64 0, .int .i64 0, .slice sa2 0 sc2] 25))) := HB9.out.trans (bt.mono HB9.out.size)
        clear b10 bE bt HR9 HA9 HX9 HY9 HB9 HGC2
        obtain ⟨s0, s1, s2, -⟩ := HA11.out.facts
        obtain ⟨t0, t1, t2, -⟩ := HX11.out.facts
        have HSA : Hid (Calls Tryd.prog 17 #[.agg #[.int .i64 a.t, .int .i64 a.n, .slice sa a.kids.length sc], .agg #[.int .i64 a.t, .int .i64 a.n, .slice p a.kids.length c]] (w10.alloc (.cells #[.int .i64 0, .int .i64 0, .slice sa2 0 sc2] 25)) fun e w' => e = .returned (.bool true) ∧ Below (w10.alloc (.cells #[.int .i64 0, .int .i64 0, .slice sa2 0 sc2] 25)).heap.size (w10.alloc (.cells #[.int .i64 0, .int .i64 0, .slice sa2 0 sc2] 25)) w') := sameArg_with (w10.alloc (.cells #[.int .i64 0, .int .i64 0, .slice sa2 0 sc2] 25)) a.t a.n sa p a.kids.length sc c (fun W hW => sameArgs_any W _ _ _ _ (HR11.out.under hW) ((HR.out.under HB11.out).under hW) HAL.out)
        go_wp2_with fail
        refine HSA.out.mono ?_
        rintro e w12 ⟨rfl, b12⟩
        have HB12 : Hid (Below w.heap.size w w12) := HB11.out.trans (b12.mono HB11.out.size)
        clear b12 HSA s0 s1 s2 t0 t1 t2
        go_wp2_with fail
        refine (awake6 _ (HS.out.under HB12.out)).mono ?_
        rintro e w13 ⟨rfl, b13⟩
        have HB13 : Hid (Below w.heap.size w w13) := HB12.out.trans (b13.mono HB12.out.size)
        clear b13
        go_wp2_with fail
        go_ret
        exact ⟨rfl, HB13.out⟩
end Go.Proofs.YtmoonigeghoeeaaDoor
