import Derived.Test.YtfjibcldghnjcaaDoorZCpN
import Derived.Test.YtfjibcldghnjcaaDoorZOpD
import Derived.Test.YtfjibcldghnjcaaDoorZOpI
import Derived.Test.YtfjibcldghnjcaaDoorZAgR

/-
  Instructions as bytes, plain.
-/
namespace Go.Proofs.YtfjibcldghnjcaaDoor
set_option linter.unusedVariables false
set_option linter.unusedSimpArgs false

/-- A tree as an operand whose list has no lists. -/
def Ag.arS (a : Ag) : Ar := ⟨a.t, a.n, a.kids.map fun k => (k.t, k.n)⟩
def Ag.sgS (a : Ag) : Bool := okN1 a.t a.n && decide (a.kids.length = 0)
/-- Whether a tree may be. -/
def Ag.okT (a : Ag) : Bool := if a.t = 7 then decide (a.n = 0) && decide (a.kids.length ≤ 40) && a.kids.all Ag.sgS else a.sgS
def Ag.putT (a : Ag) : List UInt8 := if a.okT = true then a.arS.put else []
/-- An operand that was read, as a tree. -/
def Ar.ag (a : Ar) : Ag := ⟨a.t, a.n, a.l.map agS⟩
theorem Ar.ag_arS (a : Ar) : a.ag.arS = a := by
  obtain ⟨t, n, l⟩ := a
  unfold Ar.ag Ag.arS agS
  simp [List.map_map, Function.comp_def]
theorem Ar.ag_ok (a : Ar) : a.ag.okT = a.ok := by
  obtain ⟨t, n, l⟩ := a
  unfold Ar.ag Ag.okT Ar.ok Ag.sgS agS
  dsimp only
  by_cases h : t = 7
  · rw [if_pos h, if_pos h]
    simp [List.all_map, Function.comp_def]
  · rw [if_neg h, if_neg h]
    simp
theorem Ar.ag_put {a : Ar} (h : a.ok = true) : a.ag.putT = a.put := by
  unfold Ag.putT
  rw [if_pos (by rw [Ar.ag_ok]; exact h), Ar.ag_arS]

/-- An instruction. -/
structure In where
  mk ::
  op : Int
  K : List Ag
def In.zero : In := ⟨0, []⟩
def argsB (K : List Ag) : List UInt8 := (K.map Ag.putT).flatten
def In.bytes (i : In) : List UInt8 := ub8 i.op :: argsB i.K
def codeB (L : List In) : List UInt8 := (L.map In.bytes).flatten
def In.fits (i : In) : Bool := fitsI i.op i.K
theorem codeB_app (a b : List In) : codeB (a ++ b) = codeB a ++ codeB b := by simp [codeB]
theorem codeB_cons (i : In) (b : List In) : codeB (i :: b) = i.bytes ++ codeB b := by simp [codeB]
theorem argsB_app (a b : List Ag) : argsB (a ++ b) = argsB a ++ argsB b := by simp [argsB]
/-- The last one, and no other, is end. -/
def endsS (L : List In) : Bool := decide ((L.findIdx (fun i => decide (i.op = 3))) + 1 = L.length)
/-- What is wrong with instructions that are to be put. -/
def refS (L : List In) : Int := if 400 < L.length then 2 else if L.all In.fits = false then 10 else if endsS L = true then 0 else 9

/-- So many operands: what is wrong, what was read, how many bytes. -/
def cmbA (A : List Ag) (q : Nat) (Y : Int × List Ag × Nat) : Int × List Ag × Nat := if Y.1 = 0 then (0, A ++ Y.2.1, q + Y.2.2) else (Y.1, [], 0)
def argsR : Nat → List UInt8 → Int × List Ag × Nat
  | 0, _ => (0, [], 0)
  | m + 1, l => if (opR l).1 = 0 then cmbA [(opR l).2.1.ag] (opR l).2.2 (argsR m (l.drop (opR l).2.2)) else ((opR l).1, [], 0)
theorem cmbA_cmbA (A B : List Ag) (q r : Nat) (Y : Int × List Ag × Nat) : cmbA A q (cmbA B r Y) = cmbA (A ++ B) (q + r) Y := by
  unfold cmbA
  by_cases h : Y.1 = 0
  · simp [h, Nat.add_assoc]
  · simp [h]
theorem args_err (m : Nat) (l : List UInt8) (h : (argsR m l).1 ≠ 0) : (argsR m l).2 = ([], 0) := by
  cases m with
  | zero => exact absurd rfl h
  | succ m =>
    unfold argsR at h ⊢
    by_cases h1 : (opR l).1 = 0
    · rw [if_pos h1] at h ⊢
      unfold cmbA at h ⊢
      by_cases h2 : (argsR m (l.drop (opR l).2.2)).1 = 0
      · rw [if_pos h2] at h; exact absurd rfl h
      · rw [if_neg h2]
    · rw [if_neg h1]
theorem cmbA_nil (m : Nat) (l : List UInt8) : cmbA [] 0 (argsR m l) = argsR m l := by
  unfold cmbA
  by_cases h : (argsR m l).1 = 0
  · rw [if_pos h]
    refine Prod.ext h.symm (Prod.ext ?_ ?_) <;> simp
  · rw [if_neg h, ← args_err m l h]
theorem cmbA_step (A : List Ag) (q m : Nat) (l : List UInt8) (h : (opR l).1 = 0) : cmbA A q (argsR (m + 1) l) = cmbA (A ++ [(opR l).2.1.ag]) (q + (opR l).2.2) (argsR m (l.drop (opR l).2.2)) := by
  rw [argsR, if_pos h, cmbA_cmbA]
theorem cmbA_bad (A : List Ag) (q m : Nat) (l : List UInt8) (h : (opR l).1 ≠ 0) : cmbA A q (argsR (m + 1) l) = ((opR l).1, [], 0) := by
  rw [argsR, if_neg h]
  unfold cmbA
  rw [if_neg h]
theorem cmbA_done (A : List Ag) (q : Nat) (l : List UInt8) : cmbA A q (argsR 0 l) = (0, A, q) := by
  unfold argsR cmbA
  simp
/-- The instruction at the beginning of bytes. -/
def insR (l : List UInt8) : Int × In × Nat :=
  if l.length = 0 then (3, .zero, 0)
  else if nmS ((l.getD 0 0).toNat : Int) = [] then (9, .zero, 0)
  else if (argsR (sigS ((l.getD 0 0).toNat : Int)).length (l.drop 1)).1 ≠ 0 then ((argsR (sigS ((l.getD 0 0).toNat : Int)).length (l.drop 1)).1, .zero, 0)
  else if fitsI ((l.getD 0 0).toNat : Int) (argsR (sigS ((l.getD 0 0).toNat : Int)).length (l.drop 1)).2.1 = true then (0, ⟨((l.getD 0 0).toNat : Int), (argsR (sigS ((l.getD 0 0).toNat : Int)).length (l.drop 1)).2.1⟩, 1 + (argsR (sigS ((l.getD 0 0).toNat : Int)).length (l.drop 1)).2.2)
  else (10, .zero, 0)
/-- Instructions, so many at most: what is wrong, what was read, where it is wrong. -/
def cmbC (A : List In) (q : Nat) (Y : Int × List In × Nat) : Int × List In × Nat := if Y.1 = 0 then (0, A ++ Y.2.1, 0) else (Y.1, [], q + Y.2.2)
def codeR : Nat → List UInt8 → Int × List In × Nat
  | 0, _ => (2, [], 0)
  | m + 1, l => if (insR l).1 ≠ 0 then ((insR l).1, [], 0)
    else if (insR l).2.1.op = 3 then (if (insR l).2.2 < l.length then (4, [], (insR l).2.2) else (0, [(insR l).2.1], 0))
    else cmbC [(insR l).2.1] (insR l).2.2 (codeR m (l.drop (insR l).2.2))
theorem cmbC_cmbC (A B : List In) (q r : Nat) (Y : Int × List In × Nat) : cmbC A q (cmbC B r Y) = cmbC (A ++ B) (q + r) Y := by
  unfold cmbC
  by_cases h : Y.1 = 0
  · simp [h]
  · simp [h, Nat.add_assoc]
theorem cmbC_step (A : List In) (q m : Nat) (l : List UInt8) (h : (insR l).1 = 0) (h3 : (insR l).2.1.op ≠ 3) : cmbC A q (codeR (m + 1) l) = cmbC (A ++ [(insR l).2.1]) (q + (insR l).2.2) (codeR m (l.drop (insR l).2.2)) := by
  rw [codeR, if_neg (by simp [h]), if_neg h3, cmbC_cmbC]
theorem cmbC_bad (A : List In) (q m : Nat) (l : List UInt8) (h : (insR l).1 ≠ 0) : cmbC A q (codeR (m + 1) l) = ((insR l).1, [], q) := by
  rw [codeR, if_pos h]
  unfold cmbC
  rw [if_neg h]; rfl
theorem cmbC_more (A : List In) (q m : Nat) (l : List UInt8) (h : (insR l).1 = 0) (h3 : (insR l).2.1.op = 3) (hl : (insR l).2.2 < l.length) : cmbC A q (codeR (m + 1) l) = (4, [], q + (insR l).2.2) := by
  rw [codeR, if_neg (by simp [h]), if_pos h3, if_pos hl]
  rfl
theorem cmbC_end (A : List In) (q m : Nat) (l : List UInt8) (h : (insR l).1 = 0) (h3 : (insR l).2.1.op = 3) (hl : ¬ (insR l).2.2 < l.length) : cmbC A q (codeR (m + 1) l) = (0, A ++ [(insR l).2.1], 0) := by
  rw [codeR, if_neg (by simp [h]), if_pos h3, if_neg hl]
  rfl
theorem cmbC_zero (A : List In) (q : Nat) (l : List UInt8) : cmbC A q (codeR 0 l) = (2, [], q) := rfl

/-- What is read of operands. -/
theorem args_read : ∀ (m : Nat) (l : List UInt8), (argsR m l).1 = 0 → (argsR m l).2.1.length = m ∧ (argsR m l).2.2 ≤ l.length ∧ argsB (argsR m l).2.1 = l.take (argsR m l).2.2
  | 0, l, _ => ⟨rfl, Nat.zero_le _, by simp [argsR, argsB]⟩
  | m + 1, l, h => by
    rw [argsR] at h ⊢
    by_cases h1 : (opR l).1 = 0
    · rw [if_pos h1] at h ⊢
      unfold cmbA at h ⊢
      by_cases h2 : (argsR m (l.drop (opR l).2.2)).1 = 0
      · rw [if_pos h2]
        obtain ⟨a, b, c, d⟩ := op_read h1
        obtain ⟨e, f, g⟩ := args_read m _ h2
        dsimp only
        have hl : (l.drop (opR l).2.2).length = l.length - (opR l).2.2 := by simp
        refine ⟨by simp [e], by omega, ?_⟩
        have e2 : argsB ([(opR l).2.1.ag] ++ (argsR m (l.drop (opR l).2.2)).2.1) = (opR l).2.1.put ++ argsB (argsR m (l.drop (opR l).2.2)).2.1 := by
          rw [argsB_app]; unfold argsB; simp [Ar.ag_put a]
        rw [e2, b, g, ← List.take_add]
      · rw [if_neg h2] at h; exact absurd h h2
    · rw [if_neg h1] at h; exact absurd h h1
theorem args_errs : ∀ (m : Nat) (l : List UInt8), (argsR m l).1 = 0 ∨ (argsR m l).1 = 3 ∨ (argsR m l).1 = 4
  | 0, l => .inl rfl
  | m + 1, l => by
    rw [argsR]
    split
    · unfold cmbA
      split
      · exact .inl rfl
      · exact args_errs m _
    · exact op_err l
theorem ub8_of (x : UInt8) : ub8 (x.toNat : Int) = x := by
  have := u8i (x.toNat : Int)
  have h2 := x.toNat_lt
  apply UInt8.toNat_inj.1
  omega
theorem ins_read {l : List UInt8} (h : (insR l).1 = 0) : (insR l).2.1.fits = true ∧ (insR l).2.2 ≤ l.length ∧ 1 ≤ (insR l).2.2 ∧ (insR l).2.1.bytes = l.take (insR l).2.2 := by
  unfold insR at h ⊢
  by_cases h1 : l.length = 0
  · rw [if_pos h1] at h; cases h
  rw [if_neg h1] at h ⊢
  by_cases h2 : nmS ((l.getD 0 0).toNat : Int) = []
  · rw [if_pos h2] at h; cases h
  rw [if_neg h2] at h ⊢
  by_cases h3 : (argsR (sigS ((l.getD 0 0).toNat : Int)).length (l.drop 1)).1 ≠ 0
  · rw [if_pos h3] at h; exact absurd h h3
  rw [if_neg h3] at h ⊢
  obtain ⟨e, f, g⟩ := args_read _ _ (Classical.not_not.1 h3)
  generalize argsR (sigS ((l.getD 0 0).toNat : Int)).length (l.drop 1) = Y at *
  have hdl : (l.drop 1).length = l.length - 1 := by simp
  by_cases h4 : fitsI ((l.getD 0 0).toNat : Int) Y.2.1 = true
  · rw [if_pos h4] at h ⊢
    dsimp only
    refine ⟨h4, by omega, by omega, ?_⟩
    unfold In.bytes
    dsimp only
    rw [g, ub8_of]
    match l, h1 with
    | x :: r, h1 =>
      rw [Nat.add_comm 1, List.take_succ_cons]
      rfl
  · rw [if_neg h4] at h; cases h
theorem code_read : ∀ (m : Nat) (l : List UInt8), (codeR m l).1 = 0 → (codeR m l).2.1.length ≤ m ∧ (codeR m l).2.2 = 0 ∧ codeB (codeR m l).2.1 = l ∧ (∀ i ∈ (codeR m l).2.1, In.fits i = true) ∧ ∃ A i, (codeR m l).2.1 = A ++ [i] ∧ i.op = 3 ∧ ∀ j ∈ A, j.op ≠ 3
  | 0, l, h => by cases h
  | m + 1, l, h => by
    rw [codeR] at h ⊢
    by_cases h1 : (insR l).1 ≠ 0
    · rw [if_pos h1] at h; exact absurd h h1
    rw [if_neg h1] at h ⊢
    obtain ⟨a, b, c, d⟩ := ins_read (Classical.not_not.1 h1)
    by_cases h2 : (insR l).2.1.op = 3
    · rw [if_pos h2] at h ⊢
      by_cases h3 : (insR l).2.2 < l.length
      · rw [if_pos h3] at h; cases h
      rw [if_neg h3]
      refine ⟨by simp, rfl, ?_, ?_, [], _, rfl, h2, fun j hj => absurd hj (by simp)⟩
      · dsimp only
        rw [codeB_cons, d]
        unfold codeB
        simp only [List.map_nil, List.flatten_nil, List.append_nil]
        exact List.take_of_length_le (by omega)
      · intro i hi
        simp only [List.mem_singleton] at hi
        rw [hi]; exact a
    · rw [if_neg h2] at h ⊢
      unfold cmbC at h ⊢
      by_cases h3 : (codeR m (l.drop (insR l).2.2)).1 = 0
      · rw [if_pos h3]
        obtain ⟨e, f, g, i, A, z, k1, k2, k3⟩ := code_read m _ h3
        dsimp only
        refine ⟨by simp; omega, rfl, ?_, ?_, (insR l).2.1 :: A, z, by rw [k1]; rfl, k2, ?_⟩
        · rw [codeB_app, codeB_cons, d, g]
          simp [codeB]
        · intro x hx
          rcases List.mem_append.1 hx with hx | hx
          · simp only [List.mem_singleton] at hx
            rw [hx]; exact a
          · exact i x hx
        · intro x hx
          rcases List.mem_cons.1 hx with rfl | hx
          · exact h2
          · exact k3 x hx
      · rw [if_neg h3] at h; exact absurd h h3
theorem code_wrong : ∀ (m : Nat) (l : List UInt8), (codeR m l).1 ≠ 0 → (codeR m l).2.1 = [] ∧ (codeR m l).2.2 ≤ l.length
  | 0, l, h => ⟨rfl, Nat.zero_le _⟩
  | m + 1, l, h => by
    rw [codeR] at h ⊢
    by_cases h1 : (insR l).1 ≠ 0
    · rw [if_pos h1]; exact ⟨rfl, Nat.zero_le _⟩
    rw [if_neg h1] at h ⊢
    obtain ⟨a, b, c, d⟩ := ins_read (Classical.not_not.1 h1)
    by_cases h2 : (insR l).2.1.op = 3
    · rw [if_pos h2] at h ⊢
      by_cases h3 : (insR l).2.2 < l.length
      · rw [if_pos h3]; exact ⟨rfl, b⟩
      · rw [if_neg h3] at h; exact absurd rfl h
    · rw [if_neg h2] at h ⊢
      unfold cmbC at h ⊢
      by_cases h3 : (codeR m (l.drop (insR l).2.2)).1 = 0
      · rw [if_pos h3] at h; exact absurd rfl h
      · rw [if_neg h3]
        obtain ⟨e, f⟩ := code_wrong m _ h3
        have hl : (l.drop (insR l).2.2).length = l.length - (insR l).2.2 := by simp
        exact ⟨rfl, by dsimp only; omega⟩
theorem ends_of {A : List In} {i : In} (h : i.op = 3) (hA : ∀ j ∈ A, j.op ≠ 3) : endsS (A ++ [i]) = true := by
  unfold endsS
  rw [decide_eq_true_eq, List.findIdx_append]
  have : List.findIdx (fun i => decide (i.op = 3)) A = A.length := by
    rw [List.findIdx_eq_length]
    intro x hx
    simpa using hA x hx
  rw [this]
  simp [h]
end Go.Proofs.YtfjibcldghnjcaaDoor


/-
  Instructions in memory: trees whose lists lie in blocks of P (IsGQ, GsQ); an instruction that is being read (InSt); rows of instructions (IOwn, CiSt), instructions to be read (Is).
-/
namespace Go.Proofs.YtfjibcldghnjcaaDoor
open Go.RowKit
set_option linter.unusedVariables false
set_option linter.unusedSimpArgs false

def isGFQ (w : World) (P : Nat → Prop) (a : Ag) (Ks : List (Value → Prop)) (v : Value) : Prop :=
  ∃ (p : Option Addr) (cap : Nat) (L : List El), v = agV a.t a.n (.slice p Ks.length cap) ∧ El.fit ⟨a.t, a.n, p, Ks.length, cap⟩ ∧ L.length = Ks.length ∧ Rw3 w (.slice p Ks.length cap) L ∧ (0 < Ks.length → ∀ x, p = some x → P x.block) ∧ ∀ i (h : i < Ks.length) (h' : i < L.length), Ks[i] (L[i].v)
def IsGQ (w : World) (P : Nat → Prop) : Ag → Value → Prop := Ag.fold (isGFQ w P)
theorem isGQ_mk (w : World) (P : Nat → Prop) (t n : Int) (K : List Ag) (v : Value) : IsGQ w P (.mk t n K) v ↔
    ∃ (p : Option Addr) (cap : Nat) (L : List El), v = agV t n (.slice p K.length cap) ∧ El.fit ⟨t, n, p, K.length, cap⟩ ∧ L.length = K.length ∧ Rw3 w (.slice p K.length cap) L ∧ (0 < K.length → ∀ x, p = some x → P x.block) ∧ ∀ i (h : i < K.length) (h' : i < L.length), IsGQ w P K[i] (L[i].v) := by
  unfold IsGQ
  rw [Ag.fold_mk]
  unfold isGFQ
  simp only [List.length_map, List.getElem_map]
theorem IsGQ.ind {w : World} {P : Nat → Prop} {R : Ag → Value → Prop} (h : ∀ (t n : Int) (K : List Ag) (p : Option Addr) (cap : Nat) (L : List El), El.fit ⟨t, n, p, K.length, cap⟩ → L.length = K.length → Rw3 w (.slice p K.length cap) L → (0 < K.length → ∀ x, p = some x → P x.block) →
      (∀ i (h : i < K.length) (h' : i < L.length), R K[i] (L[i].v)) → R (.mk t n K) (agV t n (.slice p K.length cap))) : ∀ (a : Ag) (v : Value), IsGQ w P a v → R a v :=
  Ag.ind (P := fun a => ∀ v, IsGQ w P a v → R a v) (fun t n K ih v hv => by
    obtain ⟨p, cap, L, rfl, hf, hl, hr, hp, hk⟩ := (isGQ_mk ..).1 hv
    exact h t n K p cap L hf hl hr hp (fun i hi hi' => ih _ (List.getElem_mem hi) _ (hk i hi hi')))
theorem IsGQ.isG {w : World} {P : Nat → Prop} {a : Ag} {v : Value} (h : IsGQ w P a v) : IsG w a v :=
  IsGQ.ind (R := fun a v => IsG w a v) (fun t n K p cap L hf hl hr hp ih => (isG_mk ..).2 ⟨p, cap, L, rfl, hf, hl, hr, ih⟩) a v h
theorem Rw3.moveQ {w w' : World} {p : Option Addr} {m cap : Nat} {L : List El} (h : Rw3 w (.slice p m cap) L) (hsz : w.heap.size ≤ w'.heap.size) (hs : 0 < m → ∀ x, p = some x → x.block < w.heap.size → w'.heap[x.block]? = w.heap[x.block]?) : Rw3 w' (.slice p m cap) L := by
  obtain ⟨a, c, he, hl, hc, hn, hf, hp⟩ := h
  injection he with e1 e2 e3
  subst e1; subst e2; subst e3
  refine ⟨p, cap, rfl, hl, hc, hn, hf, fun h0 => ?_⟩
  obtain ⟨b, off, rfl, hlt, hcell⟩ := hp h0
  refine ⟨b, off, rfl, by omega, fun i hi => ?_⟩
  obtain ⟨c0, c1, c2⟩ := hcell i hi
  have hb : w'.heap[b]? = w.heap[b]? := hs h0 ⟨b, off, none⟩ rfl hlt
  have e : ∀ o, w'.cell? ⟨b, o, none⟩ = w.cell? ⟨b, o, none⟩ := fun o => World.cell?_of_block (a := ⟨b, o, none⟩) hb
  exact ⟨by rw [e]; exact c0, by rw [e]; exact c1, by rw [e]; exact c2⟩
theorem Rw3.lt {w : World} {x : Addr} {m cap : Nat} {L : List El} (h : Rw3 w (.slice (some x) m cap) L) (h0 : 0 < m) : x.block < w.heap.size := by
  obtain ⟨a, c, he, hl, hc, hn, hf, hp⟩ := h
  injection he with e1 e2 e3
  subst e1
  obtain ⟨b, off, e, hlt, -⟩ := hp (by omega)
  injection e with e
  rw [e]; exact hlt
theorem IsGQ.move {w w' : World} {P Q : Nat → Prop} {a : Ag} {v : Value} (h : IsGQ w P a v) (hsz : w.heap.size ≤ w'.heap.size) (hs : ∀ b, P b → b < w.heap.size → w'.heap[b]? = w.heap[b]?) (hPQ : ∀ b, P b → b < w.heap.size → Q b) : IsGQ w' Q a v := by
  refine IsGQ.ind (R := fun a v => IsGQ w' Q a v) (fun t n K p cap L hf hl hr hp ih => ?_) a v h
  exact (isGQ_mk ..).2 ⟨p, cap, L, rfl, hf, hl, hr.moveQ hsz (fun h0 x hx hlt => hs _ (hp h0 x hx) hlt), fun h0 x hx => hPQ _ (hp h0 x hx) (by subst hx; exact hr.lt h0), ih⟩
theorem IsGP.gq {w : World} {P : Nat → Prop} {a : Ag} {v : Value} (h : IsGP w P a v) : IsGQ w P a v :=
  IsGP.ind (R := fun a v => IsGQ w P a v) (fun t n K p cap L hf hl hr hp ih => (isGQ_mk ..).2 ⟨p, cap, L, rfl, hf, hl, hr, fun _ x hx => (hp x hx).1, ih⟩) a v h
def GsQ (w : World) (P : Nat → Prop) (v : Value) (K : List Ag) : Prop := ∃ (p : Option Addr) (cap : Nat) (L : List El), v = .slice p K.length cap ∧ L.length = K.length ∧ Rw3 w v L ∧ (0 < K.length → ∀ x, p = some x → P x.block) ∧ ∀ i (h : i < K.length) (h' : i < L.length), IsGQ w P K[i] (L[i].v)
theorem GsQ.nil (w : World) (P : Nat → Prop) : GsQ w P (.slice none 0 0) [] := ⟨none, 0, [], rfl, rfl, Rw3.nil _, fun h => absurd h (by simp), fun i h => absurd h (by simp)⟩
theorem GsQ.gs {w : World} {P : Nat → Prop} {v : Value} {K : List Ag} (h : GsQ w P v K) : Gs w v K := by
  obtain ⟨p, cap, L, rfl, hl, hr, hp, hk⟩ := h
  exact ⟨p, cap, L, rfl, hl, hr, fun i a b => (hk i a b).isG⟩
theorem GsQ.move {w w' : World} {P Q : Nat → Prop} {v : Value} {K : List Ag} (h : GsQ w P v K) (hsz : w.heap.size ≤ w'.heap.size) (hs : ∀ b, P b → b < w.heap.size → w'.heap[b]? = w.heap[b]?) (hPQ : ∀ b, P b → b < w.heap.size → Q b) : GsQ w' Q v K := by
  obtain ⟨p, cap, L, rfl, hl, hr, hp, hk⟩ := h
  exact ⟨p, cap, L, rfl, hl, hr.moveQ hsz (fun h0 x hx hlt => hs _ (hp h0 x hx) hlt), fun h0 x hx => hPQ _ (hp h0 x hx) (by subst hx; exact hr.lt h0), fun i a b => (hk i a b).move hsz hs hPQ⟩
theorem GsQ.under {w w' : World} {P : Nat → Prop} {v : Value} {K : List Ag} (h : GsQ w P v K) (hb : Below w.heap.size w w') : GsQ w' P v K := h.move hb.size (fun b _ hlt => hb.block b hlt) (fun b hb _ => hb)
theorem GsQ.shape {w : World} {P : Nat → Prop} {v : Value} {K : List Ag} (h : GsQ w P v K) : ∃ p cap, v = .slice p K.length cap ∧ K.length ≤ cap ∧ (cap : Int) ≤ 9223372036854775807 ∧ (p = none → cap = 0) := h.gs.shape

/-- What Get of compact answers, as a tree in new memory. -/
theorem get_tree {w w' : World} {a : Ar} {sl : Value} (hok : a.ok = true) (hr : Rw3 w' sl (a.l.map elOf)) (hn : ∃ p c, sl = .slice p a.l.length c ∧ ∀ x, p = some x → w.heap.size ≤ x.block) : ∃ x : El, agV a.t a.n sl = x.v ∧ x.fit ∧ x.t = a.t ∧ x.n = a.n ∧ x.sl = sl ∧ IsGQ w' (fun b => w.heap.size ≤ b) a.ag x.v := by
  obtain ⟨p, c, rfl, hnew⟩ := hn
  obtain ⟨p2, c2, he, h1, h2, h3⟩ := hr.shape
  rw [List.length_map] at he h1
  injection he with e1 _ e3
  subst e1; subst e3
  have hf := el_fit hok p c h1 h2
  refine ⟨a.el p c, rfl, hf, rfl, rfl, rfl, ?_⟩
  unfold Ar.ag
  refine (isGQ_mk ..).2 ⟨p, c, a.l.map elOf, ?_, ?_, by simp, ?_, fun _ x hx => hnew x hx, fun i hi hi' => ?_⟩
  · rw [List.length_map]; rfl
  · rw [List.length_map]; exact hf
  · rw [List.length_map]; exact hr
  · have hfe : ∀ x ∈ a.l.map elOf, El.fit x := by obtain ⟨_, _, _, _, _, _, h, _⟩ := hr; exact h
    simp only [List.getElem_map]
    have hi2 : i < a.l.length := by simpa using hi
    have := hfe _ (List.mem_map.2 ⟨a.l[i], List.getElem_mem hi2, rfl⟩)
    unfold agS
    exact (isGQ_mk ..).2 ⟨none, 0, [], rfl, this, rfl, Rw3.nil _, fun h => absurd h (by simp), fun j hj => absurd hj (by simp)⟩

/-- An instruction that is being read: its box g, its operands' row v. -/
def InSt (w : World) (A : List Ag) (op : Int) (g : Nat) (v : Value) (L : List El) (wr : World) : Prop :=
  BxI wr g op v ∧ w.heap.size ≤ g ∧ AOwn wr w.heap.size v L ∧ L.length = A.length ∧ (∀ x ∈ L, El.fit x) ∧ v.ownBlock ≠ some g ∧
    (∀ i (h : i < A.length) (h' : i < L.length), IsGQ wr (fun b => w.heap.size ≤ b ∧ v.ownBlock ≠ some b ∧ b ≠ g) A[i] (L[i].v)) ∧ Below w.heap.size w wr
theorem InSt.under {w1 wc W : World} {K : List Ag} {op : Int} {g : Nat} {v : Value} {L : List El} (h : InSt w1 K op g v L wc) (hb : Below wc.heap.size wc W) : InSt w1 K op g v L W := by
  obtain ⟨h1, h2, h3, h4, h5, h6, h7, h8⟩ := h
  exact ⟨h1.under hb, h2, own_same h3 (fun b _ hlt => hb.block b hlt), h4, h5, h6, fun i a b => (h7 i a b).move hb.size (fun x _ hlt => hb.block x hlt) (fun x hx _ => hx), h8.trans (hb.mono h8.size)⟩
theorem InSt.gs {w1 wc : World} {K : List Ag} {op : Int} {g : Nat} {v : Value} {L : List El} (h : InSt w1 K op g v L wc) : GsQ wc (fun b => w1.heap.size ≤ b) v K := by
  obtain ⟨h1, h2, h3, h4, h5, h6, h7, h8⟩ := h
  have hr := h3.rw3 h5
  have hrow := World.ownsRow.lt h3
  obtain ⟨p, c, rfl, -⟩ := own_shape h3
  refine ⟨p, c, L, by rw [h4], h4, hr, fun h0 x hx => ?_, fun i a b => (h7 i a b).move (Nat.le_refl _) (fun _ _ _ => rfl) (fun x hx _ => hx.1)⟩
  subst hx
  exact (hrow x.block rfl).1
theorem in_box {w1 wc wu w5 : World} {K : List Ag} {op : Int} {g : Nat} {v : Value} {L : List El} {lit : Obj} (h : InSt w1 K op g v L wc) (hb : Below wc.heap.size wc wu) (hgr : (wu.alloc lit).grownBy w5 v.ownBlock) : BxI w5 g op v := by
  obtain ⟨h1, h2, h3, h4, h5, h6, h7, h8⟩ := h.under (hb.trans (((Below.refl _ _).alloc (Nat.le_refl _) lit).mono hb.size))
  unfold BxI at h1 ⊢
  rw [hgr.block g (Array.getElem?_eq_some_iff.1 h1).1 (fun e => h6 e.symm)]
  exact h1
theorem in_push {w1 wc wu w5 : World} {K : List Ag} {op : Int} {g : Nat} {v v5 : Value} {L : List El} {lit : Obj} {x : El} {a : Ag} (h : InSt w1 K op g v L wc) (hb : Below wc.heap.size wc wu) (hf : x.fit) (hx : IsGQ wu (fun b => wc.heap.size ≤ b) a x.v)
    (hown : w5.ownsRow w1.heap.size 30 3 v5 (L.length + 1) (cl3 L ++ [.int .i64 x.t, .int .i64 x.n, x.sl])) (hgr : (wu.alloc lit).grownBy w5 v.ownBlock) (hloc : v5.ownBlock = v.ownBlock ∨ v5.ownBlock = some (wu.alloc lit).heap.size) :
    InSt w1 (K ++ [a]) op g v5 (L ++ [x]) (w5.setCell ⟨g, 1, none⟩ v5) := by
  have hg5 := in_box h hb hgr
  have hgl : g < wc.heap.size := (Array.getElem?_eq_some_iff.1 h.1).1
  have hrowc := World.ownsRow.lt h.2.2.1
  have ba := (Below.refl wu.heap.size wu).alloc (Nat.le_refl _) lit
  obtain ⟨h1, h2, h3, h4, h5, h6, h7, h8⟩ := h.under (hb.trans (((Below.refl _ _).alloc (Nat.le_refl _) lit).mono hb.size))
  have hrow := World.ownsRow.lt h3
  have hgs : (wu.alloc lit).heap.size ≤ w5.heap.size := hgr.size
  have hsz : (wu.alloc lit).heap.size = wu.heap.size + 1 := by simp
  have hbs := hb.size
  have hkeep : ∀ b, b < (wu.alloc lit).heap.size → v.ownBlock ≠ some b → w5.heap[b]? = (wu.alloc lit).heap[b]? := fun b hlt hne => hgr.block b hlt (fun e => hne e.symm)
  have hset : ∀ b, b ≠ g → (w5.setCell ⟨g, 1, none⟩ v5).heap[b]? = w5.heap[b]? := fun b hb => by
    simp only [World.setCell, Array.getElem?_modify]
    rw [if_neg (fun e => hb e.symm)]
  have hss : (w5.setCell ⟨g, 1, none⟩ v5).heap.size = w5.heap.size := by simp [World.setCell]
  have hv5 : v5.ownBlock ≠ some g := by
    rcases hloc with e | e
    · rw [e]; exact h6
    · rw [e]; intro e2; injection e2 with e2; omega
  have hout : ∀ b, b < (wu.alloc lit).heap.size → v.ownBlock ≠ some b → v5.ownBlock ≠ some b := fun b hlt hne => by
    rcases hloc with e | e
    · rw [e]; exact hne
    · rw [e]; intro e2; injection e2 with e2; omega
  refine ⟨?_, h2, ?_, by simp [h4], ?_, hv5, ?_, (h8.grown hgr h8.size (fun j hj => (hrow j hj).1)).setCell (by exact h2) _⟩
  · unfold BxI at hg5 ⊢
    simp [World.setCell, Array.getElem?_modify, hg5]
  · unfold AOwn
    rw [cl3_app, List.length_append]
    obtain ⟨e1, e2⟩ := hown
    refine ⟨by simpa [cl3] using e1, ?_⟩
    rcases e2 with e2 | ⟨gr, cap, cur, e3, e4, e5, e6⟩
    · exact .inl e2
    · have hne : gr ≠ g := fun e => hv5 (by rw [e3, e]; rfl)
      exact .inr ⟨gr, cap, cur, e3, e4, by rw [hset _ hne]; exact e5, by simpa [cl3] using e6⟩
  · intro y hy
    rcases List.mem_append.1 hy with hy | hy
    · exact h5 y hy
    · simp only [List.mem_singleton] at hy
      subst hy; exact hf
  · intro i hi hi'
    by_cases hL : i < L.length
    · have hK : i < K.length := by omega
      rw [List.getElem_append_left hL, List.getElem_append_left hK]
      refine (h7 i hK hL).move (by omega) (fun b hP hlt => ?_) (fun b hP hlt => ⟨hP.1, hout b hlt hP.2.1, hP.2.2⟩)
      rw [hset b hP.2.2, hkeep b hlt hP.2.1]
    · have hiL : i = L.length := by simp at hi'; omega
      subst hiL
      rw [List.getElem_append_right (Nat.le_refl _), List.getElem_append_right (by omega)]
      simp only [Nat.sub_self, h4, List.getElem_cons_zero]
      have hnb : ∀ b, wc.heap.size ≤ b → v.ownBlock ≠ some b := fun b hP e => by have := (hrowc b e).2; omega
      have h8s := h.2.2.2.2.2.2.2.size
      refine hx.move (by omega) (fun b hP hlt => ?_) (fun b hP hlt => ⟨by omega, hout b (by omega) (hnb b hP), by omega⟩)
      rw [hset b (by omega), hkeep b (by omega) (hnb b hP), ba.block b hlt]

/-- An instruction as it stands in memory. -/
structure Ei where
  mk ::
  op : Int
  a : Option Addr
  m : Nat
  c : Nat
def Ei.sl (x : Ei) : Value := .slice x.a x.m x.c
def Ei.v (x : Ei) : Value := .agg #[.int .i64 x.op, x.sl]
def cl2 : List Ei → List Value
  | [] => []
  | x :: t => .int .i64 x.op :: x.sl :: cl2 t
theorem cl2_len : ∀ L : List Ei, (cl2 L).length = L.length * 2
  | [] => rfl
  | x :: t => by simp [cl2, cl2_len t]; omega
theorem cl2_app : ∀ a b : List Ei, cl2 (a ++ b) = cl2 a ++ cl2 b
  | [], b => rfl
  | x :: t, b => by simp [cl2, cl2_app t b]
theorem cl2_get : ∀ (L : List Ei) (i : Nat) (h : i < L.length), (cl2 L)[i * 2]? = some (.int .i64 L[i].op) ∧ (cl2 L)[i * 2 + 1]? = some L[i].sl
  | [], i, h => by simp at h
  | x :: t, 0, h => by simp [cl2]
  | x :: t, i + 1, h => by
    have := cl2_get t i (by simpa using h)
    rw [show (i + 1) * 2 = i * 2 + 1 + 1 by omega]
    simpa [cl2] using this
def IOwn (w : World) (base : Nat) (v : Value) (E : List Ei) : Prop := w.ownsRow base 27 2 v E.length (cl2 E)
theorem IOwn.nil (w : World) (base : Nat) : IOwn w base (.slice none 0 0) [] := World.ownsRow_nil _ _ _ _
theorem Tryd.infoIns : (Tryd.prog.info? 27).map (fun i => (i.zero, i.size, i.bytes)) = some (some (.agg #[.int .i64 0, .slice none 0 0]), 2, 32) := by kernel_rfl
/-- Two cells at a place. -/
def At2 (w : World) (b off : Nat) (op : Int) (sl : Value) : Prop := w.cell? ⟨b, off, none⟩ = some (.int .i64 op) ∧ w.cell? ⟨b, off + 1, none⟩ = some sl
/-- The slice v has in w these instructions. -/
def Is (w : World) (v : Value) (L : List In) : Prop :=
  ∃ (a : Option Addr) (cap : Nat) (E : List Ei), v = .slice a L.length cap ∧ E.length = L.length ∧ L.length ≤ cap ∧ (cap : Int) ≤ 9223372036854775807 ∧ (a = none → cap = 0) ∧
    (0 < L.length → ∃ b off, a = some ⟨b, off, none⟩ ∧ b < w.heap.size ∧ ∀ i (h : i < E.length), At2 w b (off + i * 2) E[i].op E[i].sl) ∧
    ∀ i (h : i < L.length) (h' : i < E.length), E[i].op = L[i].op ∧ Gs w E[i].sl L[i].K
theorem Is.nil (w : World) : Is w (.slice none 0 0) [] := ⟨none, 0, [], rfl, rfl, Nat.le_refl _, by decide, fun _ => rfl, fun h => absurd h (by simp), fun i h => absurd h (by simp)⟩
theorem Is.shape {w : World} {v : Value} {L : List In} (h : Is w v L) : ∃ a cap, v = .slice a L.length cap ∧ L.length ≤ cap ∧ (cap : Int) ≤ 9223372036854775807 ∧ (a = none → cap = 0) := by
  obtain ⟨a, cap, E, rfl, h0, h1, h2, h3, _⟩ := h
  exact ⟨a, cap, rfl, h1, h2, h3⟩
theorem Is.under {w w' : World} {v : Value} {L : List In} (h : Is w v L) (hb : Below w.heap.size w w') : Is w' v L := by
  obtain ⟨a, cap, E, rfl, h0, h1, h2, h3, h4, h5⟩ := h
  refine ⟨a, cap, E, rfl, h0, h1, h2, h3, fun hp => ?_, fun i a b => ⟨(h5 i a b).1, (h5 i a b).2.under hb⟩⟩
  obtain ⟨b, off, rfl, hlt, hc⟩ := h4 hp
  refine ⟨b, off, rfl, Nat.lt_of_lt_of_le hlt hb.size, fun i hi => ?_⟩
  obtain ⟨c0, c1⟩ := hc i hi
  exact ⟨by rw [hb.cell (p := ⟨b, off + i * 2, none⟩) hlt]; exact c0, by rw [hb.cell (p := ⟨b, off + i * 2 + 1, none⟩) hlt]; exact c1⟩
theorem Is.at {w : World} {a : Option Addr} {n cap : Nat} {L : List In} (h : Is w (.slice a n cap) L) (k : Nat) (hk : k < L.length) :
    ∃ b off p m c, a = some ⟨b, off, none⟩ ∧ b < w.heap.size ∧ At2 w b (off + k * 2) L[k].op (.slice p m c) ∧ Gs w (.slice p m c) L[k].K := by
  obtain ⟨a', cap', E, he, h0, h1, h2, h3, h4, h5⟩ := h
  injection he with e1 e2 e3
  subst e1
  obtain ⟨b, off, rfl, hlt, hc⟩ := h4 (by omega)
  obtain ⟨g1, g2⟩ := h5 k hk (by omega)
  have := hc k (by omega)
  rw [g1] at this
  exact ⟨b, off, E[k].a, E[k].m, E[k].c, rfl, hlt, this, g2⟩

/-- Instructions that are being made: a row of the call's own; what they are made of lies elsewhere in new memory. -/
def CiSt (w : World) (L : List In) (v : Value) (E : List Ei) (wr : World) : Prop :=
  IOwn wr w.heap.size v E ∧ E.length = L.length ∧ (∀ i (h : i < L.length) (h' : i < E.length), E[i].op = L[i].op ∧ GsQ wr (fun b => w.heap.size ≤ b ∧ v.ownBlock ≠ some b) E[i].sl L[i].K) ∧ Below w.heap.size w wr
theorem CiSt.nil (w : World) : CiSt w [] (.slice none 0 0) [] w := ⟨IOwn.nil _ _, rfl, fun i h => absurd h (by simp), Below.refl _ _⟩
theorem CiSt.under {w wr W : World} {L : List In} {v : Value} {E : List Ei} (h : CiSt w L v E wr) (hb : Below wr.heap.size wr W) : CiSt w L v E W := by
  obtain ⟨h1, h2, h3, h4⟩ := h
  exact ⟨own_same h1 (fun b _ hlt => hb.block b hlt), h2, fun i a b => ⟨(h3 i a b).1, (h3 i a b).2.under hb⟩, h4.trans (hb.mono h4.size)⟩
theorem CiSt.is {w wr : World} {L : List In} {v : Value} {E : List Ei} (h : CiSt w L v E wr) : Is wr v L := by
  obtain ⟨h1, h2, h3, h4⟩ := h
  obtain ⟨hl, ⟨rfl, hn⟩ | ⟨g, cap, cur, rfl, hbg, hg, hn, hcap, hsz, ht⟩⟩ := h1
  · have : L = [] := List.eq_nil_of_length_eq_zero (by omega)
    subst this
    exact Is.nil wr
  · refine ⟨some ⟨g, 0, none⟩, cap, E, by rw [h2], h2, by omega, by simp only [maxLen] at hcap; omega, fun e => (by cases e), fun h0 => ⟨g, 0, rfl, (Array.getElem?_eq_some_iff.1 hg).1, fun i hi => ?_⟩, fun i a b => ⟨(h3 i a b).1, (h3 i a b).2.gs⟩⟩
    obtain ⟨g0, g1⟩ := cl2_get E i hi
    have key : ∀ j u, (cl2 E)[j]? = some u → wr.cell? ⟨g, 0 + j, none⟩ = some u := by
      intro j u hu
      have hj := (List.getElem?_eq_some_iff.1 hu).1
      rw [cl2_len] at hj
      rw [← ht] at hu
      rw [List.getElem?_take_of_lt (by omega)] at hu
      rw [Nat.zero_add]
      unfold World.cell?
      simp only [hg]
      simpa using hu
    exact ⟨key _ _ g0, by have := key _ _ g1; rw [Nat.add_assoc]; exact this⟩
theorem ci_push {w wr wu w5 : World} {L : List In} {v v5 : Value} {E : List Ei} {x : Ei} {i : In} {lit : Obj} (h : CiSt w L v E wr) (hb : Below wr.heap.size wr wu) (ho : x.op = i.op) (hx : GsQ wu (fun b => wr.heap.size ≤ b) x.sl i.K)
    (hown : w5.ownsRow w.heap.size 27 2 v5 (E.length + 1) (cl2 E ++ [.int .i64 x.op, x.sl])) (hgr : (wu.alloc lit).grownBy w5 v.ownBlock) (hloc : v5.ownBlock = v.ownBlock ∨ v5.ownBlock = some (wu.alloc lit).heap.size) : CiSt w (L ++ [i]) v5 (E ++ [x]) w5 := by
  obtain ⟨h1, h2, h3, h4⟩ := h
  have hsz : (wu.alloc lit).heap.size = wu.heap.size + 1 := by simp
  have hb1 := hb.size
  have hb0 := h4.size
  have ba := (Below.refl wu.heap.size wu).alloc (Nat.le_refl _) lit
  have hrow := World.ownsRow.lt h1
  have hgs : (wu.alloc lit).heap.size ≤ w5.heap.size := hgr.size
  have hkeep : ∀ b, b < wu.heap.size → v.ownBlock ≠ some b → w5.heap[b]? = wu.heap[b]? := by
    intro b hlt hne
    rw [hgr.block b (by omega) (fun e => hne e.symm), ba.block b hlt]
  have hout : ∀ b, b < wu.heap.size → v.ownBlock ≠ some b → v5.ownBlock ≠ some b := fun b hlt hne => by
    rcases hloc with e | e
    · rw [e]; exact hne
    · rw [e]; intro e2; injection e2 with e2; omega
  refine ⟨?_, by simp [h2], ?_, ((h4.trans (hb.mono h4.size)).trans (ba.mono (by omega))).grown hgr (by omega) (fun j hj => (hrow j hj).1)⟩
  · unfold IOwn
    rw [cl2_app, List.length_append]
    simpa [cl2] using hown
  · intro k hk hk'
    by_cases hL : k < E.length
    · have hK : k < L.length := by omega
      rw [List.getElem_append_left hL, List.getElem_append_left hK]
      refine ⟨(h3 k hK hL).1, (h3 k hK hL).2.move (by omega) (fun b hP hlt => ?_) (fun b hP hlt => ⟨hP.1, hout b (by omega) hP.2⟩)⟩
      rw [hkeep b (by omega) hP.2, hb.block b hlt]
    · have hiL : k = E.length := by simp at hk'; omega
      subst hiL
      rw [List.getElem_append_right (Nat.le_refl _), List.getElem_append_right (by omega)]
      simp only [Nat.sub_self, h2, List.getElem_cons_zero]
      have hnb : ∀ b, wr.heap.size ≤ b → v.ownBlock ≠ some b := fun b hP e => by have := (hrow b e).2; omega
      exact ⟨ho, hx.move (by omega) (fun b hP hlt => hkeep b hlt (hnb b hP)) (fun b hP hlt => ⟨by omega, hout b hlt (hnb b hP)⟩)⟩
end Go.Proofs.YtfjibcldghnjcaaDoor
