/-
  Operands in memory and as trees: El, Rw3 (a slice of operands), BxA (an operand's box); Ag, IsG (a value that reads in a world as a tree), Gs (a slice that reads as trees).
-/
import Derived.Test.YtfjibcldghnjcaaDoorProg
import Derived.Test.YtfjibcldghnjcaaDoorCpMath
import Derived.WalkKit
import Derived.WalkSpells
import Derived.WalkLawsBesides
import Derived.Laws.AppendOwnNone
import Derived.Deep.RegionLaw
import Derived.BigQuiet
import Derived.Deep.LoopGhost
import Derived.Deep.Cut
namespace Go.Proofs.YtfjibcldghnjcaaDoor
open Go.RowKit
set_option linter.unusedVariables false
set_option linter.unusedSimpArgs false

/-- An operand's value. -/
def agV (t n : Int) (sl : Value) : Value := .agg #[.int .i64 t, .int .i64 n, sl]
/-- Three cells at a place. -/
def At3 (w : World) (b off : Nat) (t n : Int) (sl : Value) : Prop := w.cell? ⟨b, off, none⟩ = some (.int .i64 t) ∧ w.cell? ⟨b, off + 1, none⟩ = some (.int .i64 n) ∧ w.cell? ⟨b, off + 2, none⟩ = some sl
/-- An operand as it stands in memory: its tag, its number, its slice: how long, and where. -/
structure El where
  mk ::
  t : Int
  n : Int
  a : Option Addr
  m : Nat
  c : Nat
def El.sl (x : El) : Value := .slice x.a x.m x.c
def El.fit (x : El) : Prop := -9223372036854775808 ≤ x.t ∧ x.t ≤ 9223372036854775807 ∧ -9223372036854775808 ≤ x.n ∧ x.n ≤ 9223372036854775807 ∧ x.m ≤ x.c ∧ (x.c : Int) ≤ 9223372036854775807
/-- The slice v has in w these. -/
def Rw3 (w : World) (v : Value) (l : List El) : Prop :=
  ∃ a cap, v = .slice a l.length cap ∧ l.length ≤ cap ∧ cap ≤ 9223372036854775807 ∧ (a = none → cap = 0) ∧ (∀ x ∈ l, El.fit x) ∧
    (0 < l.length → ∃ b off, a = some ⟨b, off, none⟩ ∧ b < w.heap.size ∧ ∀ i (h : i < l.length), At3 w b (off + i * 3) l[i].t l[i].n l[i].sl)
theorem Rw3.nil (w : World) : Rw3 w (.slice none 0 0) [] := ⟨none, 0, rfl, Nat.le_refl _, by decide, fun _ => rfl, fun x h => by simp at h, fun h => absurd h (by decide)⟩
theorem Rw3.shape {w : World} {v : Value} {l : List El} (h : Rw3 w v l) : ∃ a cap, v = .slice a l.length cap ∧ l.length ≤ cap ∧ (cap : Int) ≤ 9223372036854775807 ∧ (a = none → cap = 0) := by
  obtain ⟨a, cap, rfl, h1, h2, h3, _⟩ := h
  exact ⟨a, cap, rfl, h1, by omega, h3⟩
theorem At3.below {w w' : World} {b off : Nat} {t n : Int} {sl : Value} (h : At3 w b off t n sl) (hb : Below w.heap.size w w') (hlt : b < w.heap.size) : At3 w' b off t n sl := by
  obtain ⟨h0, h1, h2⟩ := h
  refine ⟨?_, ?_, ?_⟩
  · rw [hb.cell (p := ⟨b, off, none⟩) hlt]; exact h0
  · rw [hb.cell (p := ⟨b, off + 1, none⟩) hlt]; exact h1
  · rw [hb.cell (p := ⟨b, off + 2, none⟩) hlt]; exact h2
theorem Rw3.under {w w' : World} {v : Value} {l : List El} (h : Rw3 w v l) (hb : Below w.heap.size w w') : Rw3 w' v l := by
  obtain ⟨a, cap, rfl, hl, hc, hn, hf, hp⟩ := h
  refine ⟨a, cap, rfl, hl, hc, hn, hf, fun h0 => ?_⟩
  obtain ⟨b, off, rfl, hlt, hcell⟩ := hp h0
  exact ⟨b, off, rfl, Nat.lt_of_lt_of_le hlt hb.size, fun i hi => (hcell i hi).below hb hlt⟩
theorem Rw3.at {w : World} {a : Option Addr} {n cap : Nat} {l : List El} (h : Rw3 w (.slice a n cap) l) (k : Nat) (hk : k < l.length) :
    ∃ b off, a = some ⟨b, off, none⟩ ∧ b < w.heap.size ∧ At3 w b (off + k * 3) l[k].t l[k].n l[k].sl ∧ El.fit l[k] := by
  obtain ⟨a', cap', he, _, _, _, hf, hp⟩ := h
  injection he with e1 e2 e3
  subst e1; subst e2; subst e3
  obtain ⟨b, off, h1, h2, h3⟩ := hp (by omega)
  exact ⟨b, off, h1, h2, h3 k hk, hf _ (List.getElem_mem hk)⟩

/-- Whether one is no list, and may be. -/
def El.ok1 (x : El) : Bool := okN1 x.t x.n && decide (x.m = 0)
def El.ok (x : El) (l : List El) : Bool := if x.t = 7 then decide (x.n = 0) && decide (l.length ≤ 40) && l.all El.ok1 else x.ok1

/-- An operand's box. -/
def BxA (w : World) (g : Nat) (t n : Int) (sl : Value) : Prop := w.heap[g]? = some (.cells #[.int .i64 t, .int .i64 n, sl] 30 (0, 0))
theorem BxA.new (w : World) (t n : Int) (sl : Value) : BxA (w.alloc (.cells #[.int .i64 t, .int .i64 n, sl] 30)) w.heap.size t n sl := heap_alloc_new w _
theorem BxA.lt {w : World} {g : Nat} {t n : Int} {sl : Value} (h : BxA w g t n sl) : g < w.heap.size := (Array.getElem?_eq_some_iff.1 h).1
theorem BxA.facts {w : World} {g : Nat} {t n : Int} {sl : Value} (h : BxA w g t n sl) : w.cell? ⟨g, 0, none⟩ = some (.int .i64 t) ∧ w.cell? ⟨g, 1, none⟩ = some (.int .i64 n) ∧ w.cell? ⟨g, 2, none⟩ = some sl ∧ w.frozen? ⟨g, 0, none⟩ = false ∧ w.frozen? ⟨g, 1, none⟩ = false ∧ w.frozen? ⟨g, 2, none⟩ = false := by
  unfold BxA at h
  refine ⟨?_, ?_, ?_, ?_, ?_, ?_⟩ <;> simp [World.cell?, World.frozen?, h]
theorem BxA.under {w w' : World} {g : Nat} {t n : Int} {sl : Value} (h : BxA w g t n sl) (hb : Below w.heap.size w w') : BxA w' g t n sl := by
  unfold BxA at h ⊢
  rw [hb.block g (Array.getElem?_eq_some_iff.1 h).1]
  exact h
theorem Rw3.one (w : World) (x : El) (hf : x.fit) : Rw3 (w.alloc (.cells #[.int .i64 x.t, .int .i64 x.n, x.sl] 30)) (.slice (some ⟨w.heap.size, 0, none⟩) 1 1) [x] := by
  refine ⟨_, 1, rfl, Nat.le_refl _, by decide, fun e => (by cases e), fun y hy => ?_, fun _ => ⟨w.heap.size, 0, rfl, by simp, fun i hi => ?_⟩⟩
  · simp at hy; subst hy; exact hf
  · have : i = 0 := by simpa using hi
    subst this
    refine ⟨?_, ?_, ?_⟩ <;> (rw [World.cell?_alloc_mark]; rfl)


/-- An operand: tag, number, what it is made of. -/
structure Ag where
  mk ::
  t : Int
  n : Int
  kids : List Ag
def Ag.fold {α : Type} (f : Ag → List α → α) : Ag → α
  | .mk t n K => f (.mk t n K) (K.map fun a => Ag.fold f a)
theorem Ag.fold_mk {α : Type} (f : Ag → List α → α) (t n : Int) (K : List Ag) : Ag.fold f (.mk t n K) = f (.mk t n K) (K.map (Ag.fold f)) := by
  rw [Ag.fold]
theorem Ag.ind {P : Ag → Prop} (h : ∀ t n K, (∀ a, a ∈ K → P a) → P (.mk t n K)) : ∀ a, P a
  | .mk t n K => h t n K (fun a _ => Ag.ind h a)
def El.v (x : El) : Value := agV x.t x.n x.sl
/-- How a value reads as a tree, if its kids' values read as theirs. -/
def isGF (w : World) (a : Ag) (Ks : List (Value → Prop)) (v : Value) : Prop :=
  ∃ (p : Option Addr) (cap : Nat) (L : List El), v = agV a.t a.n (.slice p Ks.length cap) ∧ El.fit ⟨a.t, a.n, p, Ks.length, cap⟩ ∧ L.length = Ks.length ∧ Rw3 w (.slice p Ks.length cap) L ∧ ∀ i (h : i < Ks.length) (h' : i < L.length), Ks[i] (L[i].v)
def IsG (w : World) : Ag → Value → Prop := Ag.fold (isGF w)
theorem isG_mk (w : World) (t n : Int) (K : List Ag) (v : Value) : IsG w (.mk t n K) v ↔
    ∃ (p : Option Addr) (cap : Nat) (L : List El), v = agV t n (.slice p K.length cap) ∧ El.fit ⟨t, n, p, K.length, cap⟩ ∧ L.length = K.length ∧ Rw3 w (.slice p K.length cap) L ∧ ∀ i (h : i < K.length) (h' : i < L.length), IsG w K[i] (L[i].v) := by
  unfold IsG
  rw [Ag.fold_mk]
  unfold isGF
  simp only [List.length_map, List.getElem_map]
/-- A slice of trees. -/
def Gs (w : World) (v : Value) (K : List Ag) : Prop := ∃ (p : Option Addr) (cap : Nat) (L : List El), v = .slice p K.length cap ∧ L.length = K.length ∧ Rw3 w v L ∧ ∀ i (h : i < K.length) (h' : i < L.length), IsG w K[i] (L[i].v)
theorem IsG.open {w : World} {a : Ag} {v : Value} (h : IsG w a v) : ∃ p cap, v = agV a.t a.n (.slice p a.kids.length cap) ∧ El.fit ⟨a.t, a.n, p, a.kids.length, cap⟩ ∧ Gs w (.slice p a.kids.length cap) a.kids := by
  obtain ⟨t, n, K⟩ := a
  obtain ⟨p, cap, L, rfl, hf, hl, hr, hk⟩ := (isG_mk ..).1 h
  exact ⟨p, cap, rfl, hf, p, cap, L, rfl, hl, hr, hk⟩
theorem IsG.ind {w : World} {P : Ag → Value → Prop} (h : ∀ (t n : Int) (K : List Ag) (p : Option Addr) (cap : Nat) (L : List El), El.fit ⟨t, n, p, K.length, cap⟩ → L.length = K.length → Rw3 w (.slice p K.length cap) L →
      (∀ i (h : i < K.length) (h' : i < L.length), P K[i] (L[i].v)) → P (.mk t n K) (agV t n (.slice p K.length cap))) : ∀ (a : Ag) (v : Value), IsG w a v → P a v :=
  Ag.ind (P := fun a => ∀ v, IsG w a v → P a v) (fun t n K ih v hv => by
    obtain ⟨p, cap, L, rfl, hf, hl, hr, hk⟩ := (isG_mk ..).1 hv
    exact h t n K p cap L hf hl hr (fun i hi hi' => ih _ (List.getElem_mem hi) _ (hk i hi hi')))
theorem IsG.under {w w' : World} {a : Ag} {v : Value} (h : IsG w a v) (hb : Below w.heap.size w w') : IsG w' a v := by
  refine IsG.ind (P := fun a v => IsG w' a v) ?_ a v h
  intro t n K p cap L hf hl hr ih
  exact (isG_mk ..).2 ⟨p, cap, L, rfl, hf, hl, hr.under hb, ih⟩
theorem Gs.under {w w' : World} {v : Value} {K : List Ag} (h : Gs w v K) (hb : Below w.heap.size w w') : Gs w' v K := by
  obtain ⟨p, cap, L, rfl, hl, hr, hk⟩ := h
  exact ⟨p, cap, L, rfl, hl, hr.under hb, fun i h1 h2 => (hk i h1 h2).under hb⟩
theorem Gs.at {w : World} {p : Option Addr} {n cap : Nat} {K : List Ag} (h : Gs w (.slice p n cap) K) (i : Nat) (hi : i < K.length) : ∃ b off x, p = some ⟨b, off, none⟩ ∧ b < w.heap.size ∧ At3 w b (off + i * 3) x.t x.n x.sl ∧ El.fit x ∧ IsG w K[i] x.v := by
  obtain ⟨p', cap', L, he, hl, hr, hk⟩ := h
  obtain ⟨b, off, h1, h2, h3, h4⟩ := hr.at i (by omega)
  exact ⟨b, off, L[i], h1, h2, h3, h4, hk i hi (by omega)⟩
theorem Gs.shape {w : World} {v : Value} {K : List Ag} (h : Gs w v K) : ∃ p cap, v = .slice p K.length cap ∧ K.length ≤ cap ∧ (cap : Int) ≤ 9223372036854775807 ∧ (p = none → cap = 0) := by
  obtain ⟨p, cap, L, rfl, hl, hr, hk⟩ := h
  obtain ⟨p', cap', he, h1, h2, h3⟩ := hr.shape
  injection he with e1 e2 e3
  subst e1; subst e3
  exact ⟨p, cap, rfl, by omega, h2, h3⟩
/-- A kid's own slice. -/
theorem IsG.el {w : World} {a : Ag} {x : El} (h : IsG w a x.v) : x.t = a.t ∧ x.n = a.n ∧ x.m = a.kids.length ∧ Gs w x.sl a.kids := by
  obtain ⟨p, cap, he, hf, hg⟩ := h.open
  obtain ⟨t, n, q, m, c⟩ := x
  unfold El.v agV El.sl at he
  simp only [Value.agg.injEq, List.toArray_inj, List.cons.injEq, Value.int.injEq, Value.slice.injEq, and_true, true_and] at he
  obtain ⟨rfl, rfl, rfl, rfl, rfl⟩ := he
  exact ⟨rfl, rfl, rfl, hg⟩
/-- One tree in new memory, as a slice. -/
theorem Gs.one (w : World) (a : Ag) (x : El) (hf : x.fit) (h : IsG w a x.v) : Gs (w.alloc (.cells #[.int .i64 x.t, .int .i64 x.n, x.sl] 30)) (.slice (some ⟨w.heap.size, 0, none⟩) 1 1) [a] := by
  refine ⟨_, 1, [x], rfl, rfl, Rw3.one w x hf, fun i h1 h2 => ?_⟩
  have : i = 0 := by simpa using h1
  subst this
  exact h.under ((Below.refl _ _).alloc (Nat.le_refl _) _)

/-- Some bool is answered. -/
def AnyB (w : World) (e : Ending) (w' : World) : Prop := (∃ q, e = .returned (.bool q)) ∧ w' = w
end Go.Proofs.YtfjibcldghnjcaaDoor
