/-
  term.fits, Check.
-/
import Derived.Test.YtbmondbicnfcpaaDoorTermAlone
import Derived.Test.YtbmondbicnfcpaaDoorTermTotal
namespace Go.Proofs.YtbmondbicnfcpaaDoor
open Go.RowKit
set_option linter.unusedVariables false
set_option linter.unusedSimpArgs false

def fitL : List (Nat → Nat → Option Nat) → Nat → Nat → Option Nat
  | [], _, n => some n
  | f :: r, d, n => match f d n with
    | none => none
    | some m => fitL r d m
def fitH : List (Nat → Nat → Option Nat) → Nat → Nat → Option Nat
  | [], _, _ => none
  | f :: _, d, n => f d n
def fitC : List (Nat → Nat → Option Nat) → Nat → Nat → Option Nat
  | [], _, n => some n
  | f :: r, d, n => match f (d + 1) n with
    | none => none
    | some m => fitH r d m
def fitF (t : Tm) (Ks : List (Nat → Nat → Option Nat)) (d n : Nat) : Option Nat :=
  if 60 < d then none else if n = 0 then none else if aloneK t.kind t.neg t.limbs t.str t.num Ks.length = false then none
    else if t.kind = 4 then fitC Ks d (n - 1) else fitL Ks (d + 1) (n - 1)
/-- How many nodes are left behind a term that lies so deep, where so many were left ahead of it; none: it may not be. -/
def chk : Tm → Nat → Nat → Option Nat := Tm.fold fitF
def chkL : List Tm → Nat → Nat → Option Nat
  | [], _, n => some n
  | t :: r, d, n => match chk t d n with
    | none => none
    | some m => chkL r d m
def chkH : List Tm → Nat → Nat → Option Nat
  | [], _, _ => none
  | t :: _, d, n => chk t d n
def chkC : List Tm → Nat → Nat → Option Nat
  | [], _, n => some n
  | t :: r, d, n => match chk t (d + 1) n with
    | none => none
    | some m => chkH r d m
theorem fitL_map : ∀ (l : List Tm) (d n : Nat), fitL (l.map chk) d n = chkL l d n
  | [], _, _ => rfl
  | t :: r, d, n => by
    simp only [List.map_cons, fitL, chkL]
    cases chk t d n with
    | none => rfl
    | some m => exact fitL_map r d m
theorem fitH_map (l : List Tm) (d n : Nat) : fitH (l.map chk) d n = chkH l d n := by cases l <;> rfl
theorem fitC_map (l : List Tm) (d n : Nat) : fitC (l.map chk) d n = chkC l d n := by
  cases l with
  | nil => rfl
  | cons t r =>
    simp only [List.map_cons, fitC, chkC]
    cases chk t (d + 1) n with
    | none => rfl
    | some m => exact fitH_map r d m
theorem chk_mk (k : Int) (neg : Bool) (L : List Int) (S : ByteArray) (N : Int) (K : List Tm) (d n : Nat) : chk (.mk k neg L S N K) d n =
    if 60 < d then none else if n = 0 then none else if aloneK k neg L S N K.length = false then none
    else if k = 4 then chkC K d (n - 1) else chkL K (d + 1) (n - 1) := by
  rw [← fitC_map, ← fitL_map]
  unfold chk
  rw [Tm.fold_mk]
  simp only [fitF, List.length_map]

theorem chk_deep (t : Tm) (d n : Nat) (h : 60 < d) : chk t d n = none := by cases t; simp [chk_mk, h]
theorem chk_zero (t : Tm) (d : Nat) : chk t d 0 = none := by cases t; simp [chk_mk]
theorem chk_bad (t : Tm) (d n : Nat) (h : t.alone = false) : chk t d n = none := by
  cases t
  simp only [Tm.alone, Tm.kind, Tm.neg, Tm.limbs, Tm.str, Tm.num, Tm.kids] at h
  simp [chk_mk, h]
theorem chk_other (t : Tm) (d n : Nat) (hd : d ≤ 60) (hn : 0 < n) (h : t.alone = true) (hk : ¬ t.kind = 4) : chk t d n = chkL t.kids (d + 1) (n - 1) := by
  cases t
  simp only [Tm.alone, Tm.kind, Tm.neg, Tm.limbs, Tm.str, Tm.num, Tm.kids] at h hk ⊢
  rw [chk_mk, if_neg (by omega), if_neg (by omega), if_neg (by simp [h]), if_neg hk]
theorem alone_two (t : Tm) (h : t.alone = true) (hk : t.kind = 4) : ∃ a b, t.kids = [a, b] := by
  unfold Tm.alone aloneK at h
  rw [hk] at h
  simp at h
  have h2 := h.1
  match hK : t.kids, h2 with
  | [a, b], _ => exact ⟨a, b, rfl⟩
theorem chk_cons (t a b : Tm) (d n : Nat) (hd : d ≤ 60) (hn : 0 < n) (h : t.alone = true) (hk : t.kind = 4) (hK : t.kids = [a, b]) :
    chk t d n = (chkL (t.kids.take 1) (d + 1) (n - 1)).bind (chk b d) := by
  cases t
  simp only [Tm.alone, Tm.kind, Tm.neg, Tm.limbs, Tm.str, Tm.num, Tm.kids] at h hk hK ⊢
  rw [chk_mk, if_neg (by omega), if_neg (by omega), if_neg (by simp [h]), if_pos hk]
  subst hK
  simp only [chkC, chkH, List.take_succ_cons, List.take_zero, chkL]
  cases chk a (d + 1) (n - 1) <;> rfl
theorem chkL_step (K : List Tm) (d n i : Nat) (h : i < K.length) : chkL (K.drop i) d n = match chk K[i] d n with
      | none => none
      | some m => chkL (K.drop (i + 1)) d m := by
  rw [List.drop_eq_getElem_cons h]
  simp only [chkL]

theorem nodes_mem : ∀ (l : List Tm) (i : Nat) (h : i < l.length), l[i].nodes ≤ nodesL l
  | t :: r, 0, _ => by simp [nodesL]
  | t :: r, i + 1, h => by
    have := nodes_mem r i (by simpa using h)
    simp only [nodesL, List.getElem_cons_succ]; omega
theorem nodes_take : ∀ (l : List Tm) (i : Nat), nodesL (l.take i) ≤ nodesL l
  | [], i => by simp
  | t :: r, 0 => by simp [nodesL]
  | t :: r, i + 1 => by
    have := nodes_take r i
    simp only [nodesL, List.take_succ_cons]; omega

/-- A cell that holds a number. -/
def Lft (w : World) (g : Nat) (n : Nat) : Prop := w.heap[g]? = some (.cells #[.int .i64 (n : Int)] 3 (0, 0))
theorem Lft.lt {w : World} {g n : Nat} (h : Lft w g n) : g < w.heap.size := (Array.getElem?_eq_some_iff.1 h).1
theorem Lft.cell {w : World} {g n : Nat} (h : Lft w g n) : w.cell? ⟨g, 0, none⟩ = some (.int .i64 (n : Int)) := by
  unfold Lft at h
  simp [World.cell?, h]
theorem Lft.froz {w : World} {g n : Nat} (h : Lft w g n) : w.frozen? ⟨g, 0, none⟩ = false := by
  unfold Lft at h
  simp [World.frozen?, h]
theorem Lft.set {w : World} {g n : Nat} (h : Lft w g n) (m : Nat) {z : Int} (hz : z = (m : Int)) : Lft (w.setCell ⟨g, 0, none⟩ (.int .i64 z)) g m := by
  unfold Lft at h ⊢
  simp [World.setCell, Array.getElem?_modify, h, hz]
theorem Lft.under {w w' : World} {g n : Nat} (h : Lft w g n) (hb : Below w.heap.size w w') : Lft w' g n := by
  have := h.lt
  unfold Lft at h ⊢
  rw [hb.block g this]; exact h
theorem Lft.other {w w' : World} {g g' n : Nat} (h : Lft w g n) (hb : But g' w w') (hne : g ≠ g') : Lft w' g n := by
  unfold Lft at h ⊢
  rw [hb.block g hne]; exact h

def FitPost (w : World) (g : Nat) (r : Option Nat) (e : Ending) (w' : World) : Prop := e = .returned (.bool r.isSome) ∧ Grw g w w' ∧ ∃ m, Lft w' g m ∧ ∀ x, r = some x → m = x

theorem Grw.trans {g : Nat} {a b c : World} (h : Grw g a b) (k : Grw g b c) : Grw g a c :=
  ⟨k.os.trans h.os, k.tape.trans h.tape, k.output.trans h.output, Nat.le_trans h.size k.size, fun i hi hg => (k.block i (Nat.lt_of_lt_of_le hi h.size) hg).trans (h.block i hi hg)⟩
theorem Grw.of {g : Nat} {B : Nat} {w a b : World} (h : Grw g w a) (k : Below B a b) (hB : w.heap.size ≤ B) : Grw g w b :=
  ⟨k.os.trans h.os, k.tape.trans h.tape, k.output.trans h.output, Nat.le_trans h.size k.size, fun i hi hg => (k.block i (Nat.lt_of_lt_of_le hi hB)).trans (h.block i hi hg)⟩

def FitOut (NM : Nat) (w0 w : World) (g gb d : Nat) (r : Option Nat) (gk : Nat) (wr : World) : Prop :=
  ∃ (t : Tm) (n : Nat) (pl : Option Addr) (cl : Nat) (pk : Option Addr) (ck : Nat), IsT w0 t (tmV t.kind t.neg (.slice pl t.limbs.length cl) t.str t.num (.slice pk t.kids.length ck)) ∧ Bt wr gb t.kind t.neg (.slice pl t.limbs.length cl) t.str t.num (.slice pk t.kids.length ck) ∧ Lft wr g n ∧ n ≤ 2000 ∧ t.nodes ≤ gk ∧ gk ≤ NM ∧ chk t d n = r ∧ Grw g w wr

def FitIn (w0 w : World) (g gb d : Nat) (D : List Tm) (rr : Option Nat) (t : Tm) (pl : Option Addr) (cl : Nat) (pk : Option Addr) (ck : Nat) (q : Nat) (si : Value) (wr : World) : Prop :=
  ∃ i m, i + q = D.length ∧ si = .int .i64 (i : Int) ∧ Bt wr gb t.kind t.neg (.slice pl t.limbs.length cl) t.str t.num (.slice pk t.kids.length ck) ∧ Lft wr g m ∧ m ≤ 2000 ∧ chkL (D.drop i) (d + 1) m = rr ∧ Grw g w wr

theorem chkL_l : ∀ (l : List Tm), (∀ t, t ∈ l → ∀ d n m, chk t d n = some m → m ≤ n) → ∀ (d n m : Nat), chkL l d n = some m → m ≤ n
  | [], _, d, n, m, h => by simp [chkL] at h; omega
  | t :: r, ih, d, n, m, h => by
    rw [chkL] at h
    split at h
    · cases h
    · rename_i x hx
      have h1 := ih t (by simp) d n x hx
      have h2 := chkL_l r (fun y hy => ih y (by simp [hy])) d x m h
      omega
theorem chkH_l : ∀ (l : List Tm), (∀ t, t ∈ l → ∀ d n m, chk t d n = some m → m ≤ n) → ∀ (d n m : Nat), chkH l d n = some m → m ≤ n
  | [], _, d, n, m, h => by simp [chkH] at h
  | t :: r, ih, d, n, m, h => by
    rw [chkH] at h
    exact ih t (by simp) d n m h
theorem chkC_l : ∀ (l : List Tm), (∀ t, t ∈ l → ∀ d n m, chk t d n = some m → m ≤ n) → ∀ (d n m : Nat), chkC l d n = some m → m ≤ n
  | [], _, d, n, m, h => by simp [chkC] at h; omega
  | t :: r, ih, d, n, m, h => by
    rw [chkC] at h
    split at h
    · cases h
    · rename_i x hx
      have h1 := ih t (by simp) (d + 1) n x hx
      have h2 := chkH_l r (fun y hy => ih y (by simp [hy])) d x m h
      omega
theorem chk_le : ∀ (t : Tm) (d n m : Nat), chk t d n = some m → m ≤ n :=
  Tm.ind (fun k neg L S N K ih d n m h => by
    rw [chk_mk] at h
    split at h
    · cases h
    · split at h
      · cases h
      · split at h
        · cases h
        · split at h
          · have := chkC_l K ih d (n - 1) m h; omega
          · have := chkL_l K ih (d + 1) (n - 1) m h; omega)
theorem chkL_le (l : List Tm) (d n m : Nat) (h : chkL l d n = some m) : m ≤ n := chkL_l l (fun t _ => chk_le t) d n m h
theorem chkC_le (l : List Tm) (d n m : Nat) (h : chkC l d n = some m) : m ≤ n := chkC_l l (fun t _ => chk_le t) d n m h
theorem chkH_le (l : List Tm) (d n m : Nat) (h : chkH l d n = some m) : m ≤ n := chkH_l l (fun t _ => chk_le t) d n m h

set_option maxRecDepth 100000 in
set_option maxHeartbeats 8000000 in
theorem fits_any : ∀ (NN : Nat) (t : Tm) (v : Value) (d n g : Nat) (w0 w : World), t.nodes ≤ NN → IsT w0 t v → Below w0.heap.size w0 w → w0.heap.size ≤ g → Lft w g n → d ≤ 1000 → n ≤ 2000 →
    Calls Tryd.prog 40 #[v, .int .i64 (d : Int), .pointer (some ⟨g, 0, none⟩)] w fun e w' => FitPost w g (chk t d n) e w' := by
  intro NN
  induction NN with
  | zero => intro t v d n g w0 w hnn; rw [Tm.nodes_eq] at hnn; omega
  | succ NN ih0 =>
    have ih : Hid (∀ (t : Tm) (v : Value) (d n g : Nat) (w0 w : World), t.nodes ≤ NN → IsT w0 t v → Below w0.heap.size w0 w → w0.heap.size ≤ g → Lft w g n → d ≤ 1000 → n ≤ 2000 →
      Calls Tryd.prog 40 #[v, .int .i64 (d : Int), .pointer (some ⟨g, 0, none⟩)] w fun e w' => FitPost w g (chk t d n) e w') := ih0
    clear ih0
    intro t v d n g w0 w hnn h hb hg hL hd hn
    have h0 := h
    obtain ⟨sl, sk, rfl, hl, hk, -, -, -⟩ := h.open
    obtain ⟨pl, cl, rfl⟩ := hl.shape
    obtain ⟨pk, ck, rfl, -⟩ := hk.shape
    simp only [tmV] at h0 ⊢
    have hB1 := (Below.refl w.heap.size w).alloc (Nat.le_refl _) (.cells #[.int .i64 t.kind, .bool t.neg, .slice pl t.limbs.length cl, .string t.str, .int .i64 t.num, .slice pk t.kids.length ck] 29)
    have ub := Bt.new w t.kind t.neg (.slice pl t.limbs.length cl) t.str t.num (.slice pk t.kids.length ck) ⟨_, _, _, rfl⟩ ⟨_, _, _, rfl⟩
    have hLw := hL.under hB1
    have hgl := hL.lt
    obtain ⟨r, hr⟩ : ∃ r, chk t d n = r := ⟨_, rfl⟩
    have HR : Hid (chk t d n = r) := hr
    rw [hr]
    clear hr h
    by_cases hdd : 60 < d
    · have hdi : (60 : Int) < (d : Int) := by omega
      have HZ : Hid (r = none) := by show r = none; rw [← HR.out]; exact chk_deep t d n hdd
      go_enter Tryd.func40, Tryd.ntmps40
      go_wp2_with fail
      go_ret
      exact ⟨by rw [HZ.out]; rfl, Grw.ofBelow hB1, n, hLw, fun x hx => by rw [HZ.out] at hx; cases hx⟩
    · have hdi : ¬ (60 : Int) < (d : Int) := by omega
      have hd60 : d ≤ 60 := by omega
      have hst : FitOut (NN + 1) w0 w g w.heap.size d r (NN + 1) (w.alloc (.cells #[.int .i64 t.kind, .bool t.neg, .slice pl t.limbs.length cl, .string t.str, .int .i64 t.num, .slice pk t.kids.length ck] 29)) :=
        ⟨t, n, pl, cl, pk, ck, h0, ub, hLw, hn, hnn, Nat.le_refl _, HR.out, Grw.ofBelow hB1⟩
      have hgne : g ≠ w.heap.size := by omega
      clear HR hn hnn h0 ub hLw hdd hL
      go_enter Tryd.func40, Tryd.ntmps40
      go_wp2_with fail
      clear hB1
      generalize w.alloc (.cells #[.int .i64 t.kind, .bool t.neg, .slice pl t.limbs.length cl, .string t.str, .int .i64 t.num, .slice pk t.kids.length ck] 29) = wa at *
      go_loopg [7] (NN + 1) (fun gk s7 wr => FitOut (NN + 1) w0 w g w.heap.size d r gk wr)
      case atStart => exact hst
      case round =>
        obtain ⟨tc, m, pl2, cl2, pk2, ck2, hT, uB, hLf, hm, hnd, hgN, hch, hG⟩ := hrel
        have hndN : tc.nodes ≤ NN + 1 := by omega
        obtain ⟨G, hGG⟩ : ∃ G, gk = G := ⟨_, rfl⟩
        have HGG : Hid (gk = G) := hGG
        rw [hGG] at hnd hgN
        clear hGG
        have HCH : Hid (chk tc d m = r) := hch
        clear hch hst
        simp only [tmV] at hT
        have hbelow : Below w0.heap.size w0 wr := hb.trans (hG.below hg hb.size)
        have hgm := hG.size
        obtain ⟨a0, a1, a2, a3, a4, a5⟩ := uB.cells
        have hLc := hLf.cell
        by_cases hm0 : m = 0
        · have hmi : ¬ ((0 : Int) < (m : Int)) := by omega
          have HZ : Hid (r = none) := by show r = none; rw [← HCH.out, hm0]; exact chk_zero tc d
          clear hm0
          go_wp2_with fail
          go_ret
          exact ⟨by rw [HZ.out]; rfl, hG, m, hLf, fun x hx => by rw [HZ.out] at hx; cases hx⟩
        · have hmi : (0 : Int) < (m : Int) := by omega
          have hm2 : (m : Int) ≤ 2000 := by omega
          go_wp2_with fail
          refine (fitsAlone_any tc _ _ (hT.under hbelow)).mono ?_
          rintro e w1 ⟨rfl, b1⟩
          replace uB := uB.under b1
          replace hLf := hLf.under b1
          replace hG := hG.more b1
          replace hgm := hG.size
          clear a0 a1 a2 a3 a4 a5 hLc b1 hbelow
          obtain ⟨a0, a1, a2, a3, a4, a5⟩ := uB.cells
          have hLc := hLf.cell
          have hLz := hLf.froz
          have hgl2 := hLf.lt
          cases hal : tc.alone
          · have HZ : Hid (r = none) := by show r = none; rw [← HCH.out]; exact chk_bad tc d m hal
            go_wp2_with fail
            go_ret
            exact ⟨by rw [HZ.out]; rfl, hG, m, hLf, fun x hx => by rw [HZ.out] at hx; cases hx⟩
          · have HAL : Hid (tc.alone = true) := hal
            clear hal
            have hw2 : IntKind.i64.wrap ((m : Int) - 1) = (m : Int) - 1 := by rw [IntKind.wrap_i64]; omega
            have hLn := hLf.set (m - 1) (z := (m : Int) - 1) (by omega)
            have hbg := (But.refl g w1).setCell 0 (.int .i64 ((m : Int) - 1))
            have uB2 := uB.other hbg (Ne.symm hgne)
            have hG2 : Grw g w (w1.setCell ⟨g, 0, none⟩ (.int .i64 ((m : Int) - 1))) := hG.but hbg (Or.inl rfl)
            obtain ⟨slx, skx, hvx, -, hTs, -, -, -⟩ := hT.open
            simp only [tmV, Value.agg.injEq, List.toArray_inj, List.cons.injEq, and_true, true_and] at hvx
            obtain ⟨rfl, rfl⟩ := hvx
            clear uB hG hLf a0 a1 a2 a3 a4 a5
            obtain ⟨a0, a1, a2, a3, a4, a5⟩ := uB2.cells
            by_cases hk4 : tc.kind = 4
            · obtain ⟨x1, x2, hK⟩ := alone_two tc HAL.out hk4
              have hTD : Ts w0 (.slice pk2 1 ck2) (tc.kids.take 1) := hTs.take 1 (by rw [hK]; simp)
              obtain ⟨rr, hrr⟩ : ∃ rr, chkL (tc.kids.take 1) (d + 1) (m - 1) = rr := ⟨_, rfl⟩
              have HRR : Hid (chkL (List.drop 0 (tc.kids.take 1)) (d + 1) (m - 1) = rr) := hrr
              have HR3 : Hid (r = rr.bind (chk x2 d)) := by show r = _; rw [← HCH.out, chk_cons tc x1 x2 d m hd60 (by omega) HAL.out hk4 hK, hrr]
              have HR2 : Hid (rr = none → r = none) := fun hn => by rw [HR3.out, hn]; rfl
              have HX2 : Hid (x2.nodes < tc.nodes ∧ x2.nodes ≤ NN + 1) := by
                have := Tm.nodes_eq tc
                rw [hK] at this
                simp only [nodesL] at this
                show x2.nodes < tc.nodes ∧ x2.nodes ≤ NN + 1
                omega
              clear hrr
              have hl2 : (1 : Int) < (tc.kids.length : Int) := by rw [hK]; simp
              have hlc : (tc.kids.length : Int) ≤ (ck2 : Int) := by obtain ⟨_, _, hh, h1, h2, -⟩ := hTs.shape; injection hh with e1 e2 e3; omega
              have HKE : Hid (tc.kids = [x1, x2]) := hK
              clear hK
              go_wp2_with fail
              generalize w1.setCell ⟨g, 0, none⟩ (.int .i64 ((m : Int) - 1)) = w2 at *
              have uB := uB2
              have hLf := hLn
              have hG := hG2
              have hbelow : Hid True := trivial
              have HK4 : Hid (tc.kind = 4) := hk4
              have hK := HKE.out
              clear hk4 uB2 hLn hG2 a0 a1 a2 a3 a4 a5 hLc hLz hbg hgl2 hw2 hlc hK
              go_loopg [35] (1) (fun q si wy => FitIn w0 w g w.heap.size d (tc.kids.take 1) rr tc pl2 cl2 pk2 ck2 q si wy)
              case atStart => exact ⟨0, m - 1, by first | omega | (simp; done) | (rw [HKE.out]; rfl), rfl, uB, hLf, by omega, HRR.out, hG⟩
              case round =>
                clear uB hLf hG hbelow
                obtain ⟨i, mm, hiq, rfl, uB, hLf, hmm, hcl, hG⟩ := hrel
                have HCL : Hid (chkL (List.drop i (tc.kids.take 1)) (d + 1) mm = rr) := hcl
                clear hcl
                have hbelow : Below w0.heap.size w0 wr := hb.trans (hG.below hg hb.size)
                have hgm := hG.size
                cases gk with
                | zero =>
                  have HM : Hid (rr = some mm) := by
                    show rr = some mm
                    rw [← HCL.out, List.drop_of_length_le (by omega)]; rfl
                  obtain ⟨a0, a1, a2, a3, a4, a5⟩ := uB.cells
                  have hcnt : ¬ ((i : Int) < 1) := by simp [HKE.out] at hiq; omega
                  have HC : Hid (chk x2 d mm = r) := by
                    have := HR3.out
                    rw [HM.out] at this
                    exact this.symm
                  obtain ⟨b, off, v, hpk, hlt, h6, hv⟩ := hTs.at 1 (by rw [HKE.out]; simp)
                  replace h6 := h6.below hbelow hlt
                  have hx2 : tc.kids[1]'(by rw [HKE.out]; simp) = x2 := by simp [HKE.out]
                  rw [hx2] at hv
                  clear hx2
                  subst hpk
                  obtain ⟨e0, e1, e2, e3, e4, e5, hve, p0, p1, p2, p3, p4, p5⟩ := h6
                  obtain ⟨sl', sk', hv', hl', hk', -, -, -⟩ := hv.open
                  obtain ⟨pl', cl', rfl⟩ := hl'.shape
                  obtain ⟨pk', ck', rfl, hkc1, hkc2, -⟩ := hk'.shape
                  rw [hv'] at hve hv
                  simp only [tmV, Value.agg.injEq, List.toArray_inj, List.cons.injEq, and_true] at hve hv
                  obtain ⟨rfl, rfl, rfl, rfl, rfl, rfl⟩ := hve
                  clear hv' v hl' hk'
                  have p0' : wr.cell? ⟨b, off + 6, none⟩ = some (.int .i64 x2.kind) := p0
                  have p1' : wr.cell? ⟨b, off + 7, none⟩ = some (.bool x2.neg) := p1
                  have p2' : wr.cell? ⟨b, off + 8, none⟩ = some (.slice pl' x2.limbs.length cl') := p2
                  have p3' : wr.cell? ⟨b, off + 9, none⟩ = some (.string x2.str) := p3
                  have p4' : wr.cell? ⟨b, off + 10, none⟩ = some (.int .i64 x2.num) := p4
                  have p5' : wr.cell? ⟨b, off + 11, none⟩ = some (.slice pk' x2.kids.length ck') := p5
                  have q1' : wr.cell? ⟨b, off + 6 + 1, none⟩ = some (.bool x2.neg) := p1
                  have q2' : wr.cell? ⟨b, off + 6 + 2, none⟩ = some (.slice pl' x2.limbs.length cl') := p2
                  have q3' : wr.cell? ⟨b, off + 6 + 3, none⟩ = some (.string x2.str) := p3
                  have q4' : wr.cell? ⟨b, off + 6 + 4, none⟩ = some (.int .i64 x2.num) := p4
                  have q5' : wr.cell? ⟨b, off + 6 + 5, none⟩ = some (.slice pk' x2.kids.length ck') := p5
                  clear p0 p1 p2 p3 p4 p5
                  obtain ⟨f0, f1, f2, f3, f4, f5⟩ := uB.froz
                  have hltb := uB.lt
                  have hk4 : tc.kind = 4 := HK4.out
                  have hbut := setBt_but wr w.heap.size x2.kind x2.neg (.slice pl' x2.limbs.length cl') x2.str x2.num (.slice pk' x2.kids.length ck')
                  have huB := uB.set x2.kind x2.neg (.slice pl' x2.limbs.length cl') x2.str x2.num (.slice pk' x2.kids.length ck') ⟨_, _, _, rfl⟩ ⟨_, _, _, rfl⟩
                  have HF : Hid (FitOut (NN + 1) w0 w g w.heap.size d r x2.nodes (setBt wr w.heap.size x2.kind x2.neg (.slice pl' x2.limbs.length cl') x2.str x2.num (.slice pk' x2.kids.length ck'))) :=
                    ⟨x2, mm, pl', cl', pk', ck', hv, huB, hLf.other hbut hgne, hmm, Nat.le_refl _, by have := HX2.out; omega, HC.out, hG.but hbut (Or.inr (Nat.le_refl _))⟩
                  clear hbut huB
                  go_wp2_with fail
                  go_roundg x2.nodes
                  case measure => have := HX2.out; have := HGG.out; omega
                  case rel => exact HF.out
                | succ q =>
                  have hil : i < (tc.kids.take 1).length := by omega
                  have hcnt : (i : Int) < 1 := by simp [HKE.out] at hiq; omega
                  obtain ⟨b, off, v, hpk, hlt, h6, hv⟩ := hTD.at i hil
                  replace h6 := h6.below hbelow hlt
                  have HST := chkL_step (tc.kids.take 1) (d + 1) mm i hil
                  rw [HCL.out] at HST
                  have hnd2 : (tc.kids.take 1)[i].nodes ≤ NN := by
                    have := nodes_mem (tc.kids.take 1) i hil
                    have := Tm.nodes_eq tc
                    have := nodes_take tc.kids 1; omega
                  obtain ⟨x, hx⟩ : ∃ x, (tc.kids.take 1)[i] = x := ⟨_, rfl⟩
                  rw [hx] at HST hv hnd2
                  clear hx
                  have HST2 : Hid _ := HST
                  clear HST
                  subst hpk
                  obtain ⟨e0, e1, e2, e3, e4, e5, hve, p0, p1, p2, p3, p4, p5⟩ := h6
                  obtain ⟨sl', sk', hv', hl', hk', -, -, -⟩ := hv.open
                  obtain ⟨pl', cl', rfl⟩ := hl'.shape
                  obtain ⟨pk', ck', rfl, hkc1, hkc2, -⟩ := hk'.shape
                  rw [hv'] at hve hv
                  simp only [tmV, Value.agg.injEq, List.toArray_inj, List.cons.injEq, and_true] at hve hv
                  obtain ⟨rfl, rfl, rfl, rfl, rfl, rfl⟩ := hve
                  clear hv' v hl' hk'
                  have hbk := (Below.refl wr.heap.size wr).alloc (Nat.le_refl _) (.cells #[.int .i64 x.kind, .bool x.neg, .slice pl' x.limbs.length cl', .string x.str, .int .i64 x.num, .slice pk' x.kids.length ck'] 29)
                  go_wp2_with fail
                  rw [show ((d : Int) + 1) = ((d + 1 : Nat) : Int) by omega]
                  refine (ih.out x _ (d + 1) mm g w0 _ hnd2 hv (hbelow.trans (hbk.mono hbelow.size)) hg (hLf.under hbk) (by omega) (by omega)).mono ?_
                  cases hcx : chk x (d + 1) mm with
                  | none =>
                    have HZ : Hid (r = none) := by
                      show r = none
                      have := HST2.out
                      rw [hcx] at this
                      exact HR2.out this
                    rintro e w3 ⟨rfl, hG3, m3, hL3, -⟩
                    clear hcx
                    go_wp2_with fail
                    go_ret
                    exact ⟨by rw [HZ.out]; rfl, (hG.more hbk).trans hG3, m3, hL3, fun x hx => by rw [HZ.out] at hx; cases hx⟩
                  | some mx =>
                    have hmx := chk_le x (d + 1) mm mx hcx
                    have HN : Hid (chkL (List.drop (i + 1) (tc.kids.take 1)) (d + 1) mx = rr) := by
                      have := HST2.out
                      rw [hcx] at this
                      exact this.symm
                    rintro e w3 ⟨rfl, hG3, m3, hL3, hm3⟩
                    obtain rfl := hm3 mx rfl
                    replace uB := (uB.under hbk).grw hG3 (Ne.symm hgne)
                    clear hcx HST2 HCL
                    go_wp2_with fail
                    go_roundg q
                    case measure => omega
                    case rel => exact ⟨i + 1, m3, by omega, by go_num, uB, hL3, by omega, HN.out, (hG.more hbk).trans hG3⟩
            · have hTD := hTs
              obtain ⟨rr, hrr⟩ : ∃ rr, chkL tc.kids (d + 1) (m - 1) = rr := ⟨_, rfl⟩
              have HRR : Hid (chkL (List.drop 0 tc.kids) (d + 1) (m - 1) = rr) := hrr
              have HR2 : Hid (rr = none → r = none) := fun hn => by rw [← HCH.out, chk_other tc d m hd60 (by omega) HAL.out hk4, hrr]; exact hn
              have HR3 : Hid (r = rr) := by show r = rr; rw [← HCH.out, chk_other tc d m hd60 (by omega) HAL.out hk4, hrr]
              clear hrr
              go_wp2_with fail
              generalize w1.setCell ⟨g, 0, none⟩ (.int .i64 ((m : Int) - 1)) = w2 at *
              have uB := uB2
              have hLf := hLn
              have hG := hG2
              have hbelow : Hid True := trivial
              have HK4 : Hid (¬ tc.kind = 4) := hk4
              have hkb : (tc.kind == 4) = false := by simpa using hk4
              try rw [hkb]
              have hlen : (tc.kids.length : Int) ≤ 9223372036854775807 := by obtain ⟨_, _, hh, h1, h2, -⟩ := hTs.shape; omega
              clear hkb hk4 uB2 hLn hG2 a0 a1 a2 a3 a4 a5 hLc hLz hbg hgl2 hw2
              go_loopg [35] (tc.kids.length) (fun q si wy => FitIn w0 w g w.heap.size d (tc.kids) rr tc pl2 cl2 pk2 ck2 q si wy)
              case atStart => exact ⟨0, m - 1, by first | omega | (simp; done) | (rw [HKE.out]; rfl), rfl, uB, hLf, by omega, HRR.out, hG⟩
              case round =>
                clear uB hLf hG hbelow
                obtain ⟨i, mm, hiq, rfl, uB, hLf, hmm, hcl, hG⟩ := hrel
                have HCL : Hid (chkL (List.drop i (tc.kids)) (d + 1) mm = rr) := hcl
                clear hcl
                have hbelow : Below w0.heap.size w0 wr := hb.trans (hG.below hg hb.size)
                have hgm := hG.size
                cases gk with
                | zero =>
                  have HM : Hid (rr = some mm) := by
                    show rr = some mm
                    rw [← HCL.out, List.drop_of_length_le (by omega)]; rfl
                  obtain ⟨a0, a1, a2, a3, a4, a5⟩ := uB.cells
                  have hcnt : ¬ ((i : Int) < (tc.kids.length : Int)) := by omega
                  have hk4' : ¬ tc.kind = 4 := HK4.out
                  have HZ : Hid (r = some mm) := by show r = some mm; rw [HR3.out, HM.out]
                  go_wp2_with fail
                  go_ret
                  exact ⟨by rw [HZ.out]; rfl, hG, mm, hLf, fun x hx => by rw [HZ.out] at hx; injection hx⟩
                | succ q =>
                  have hil : i < (tc.kids).length := by omega
                  have hcnt : (i : Int) < (tc.kids.length : Int) := by omega
                  obtain ⟨b, off, v, hpk, hlt, h6, hv⟩ := hTD.at i hil
                  replace h6 := h6.below hbelow hlt
                  have HST := chkL_step (tc.kids) (d + 1) mm i hil
                  rw [HCL.out] at HST
                  have hnd2 : (tc.kids)[i].nodes ≤ NN := by
                    have := nodes_mem (tc.kids) i hil
                    have := Tm.nodes_eq tc
                    omega
                  obtain ⟨x, hx⟩ : ∃ x, (tc.kids)[i] = x := ⟨_, rfl⟩
                  rw [hx] at HST hv hnd2
                  clear hx
                  have HST2 : Hid _ := HST
                  clear HST
                  subst hpk
                  obtain ⟨e0, e1, e2, e3, e4, e5, hve, p0, p1, p2, p3, p4, p5⟩ := h6
                  obtain ⟨sl', sk', hv', hl', hk', -, -, -⟩ := hv.open
                  obtain ⟨pl', cl', rfl⟩ := hl'.shape
                  obtain ⟨pk', ck', rfl, hkc1, hkc2, -⟩ := hk'.shape
                  rw [hv'] at hve hv
                  simp only [tmV, Value.agg.injEq, List.toArray_inj, List.cons.injEq, and_true] at hve hv
                  obtain ⟨rfl, rfl, rfl, rfl, rfl, rfl⟩ := hve
                  clear hv' v hl' hk'
                  have hbk := (Below.refl wr.heap.size wr).alloc (Nat.le_refl _) (.cells #[.int .i64 x.kind, .bool x.neg, .slice pl' x.limbs.length cl', .string x.str, .int .i64 x.num, .slice pk' x.kids.length ck'] 29)
                  go_wp2_with fail
                  rw [show ((d : Int) + 1) = ((d + 1 : Nat) : Int) by omega]
                  refine (ih.out x _ (d + 1) mm g w0 _ hnd2 hv (hbelow.trans (hbk.mono hbelow.size)) hg (hLf.under hbk) (by omega) (by omega)).mono ?_
                  cases hcx : chk x (d + 1) mm with
                  | none =>
                    have HZ : Hid (r = none) := by
                      show r = none
                      have := HST2.out
                      rw [hcx] at this
                      exact HR2.out this
                    rintro e w3 ⟨rfl, hG3, m3, hL3, -⟩
                    clear hcx
                    go_wp2_with fail
                    go_ret
                    exact ⟨by rw [HZ.out]; rfl, (hG.more hbk).trans hG3, m3, hL3, fun x hx => by rw [HZ.out] at hx; cases hx⟩
                  | some mx =>
                    have hmx := chk_le x (d + 1) mm mx hcx
                    have HN : Hid (chkL (List.drop (i + 1) (tc.kids)) (d + 1) mx = rr) := by
                      have := HST2.out
                      rw [hcx] at this
                      exact this.symm
                    rintro e w3 ⟨rfl, hG3, m3, hL3, hm3⟩
                    obtain rfl := hm3 mx rfl
                    replace uB := (uB.under hbk).grw hG3 (Ne.symm hgne)
                    clear hcx HST2 HCL
                    go_wp2_with fail
                    go_roundg q
                    case measure => omega
                    case rel => exact ⟨i + 1, m3, by omega, by go_num, uB, hL3, by omega, HN.out, (hG.more hbk).trans hG3⟩
end Go.Proofs.YtbmondbicnfcpaaDoor
