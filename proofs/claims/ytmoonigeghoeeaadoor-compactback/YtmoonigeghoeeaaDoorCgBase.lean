/-
  Operands as trees: Ag, IsG (a value that reads in a world as a tree), Gs (a slice that reads as trees).
-/
import Derived.Test.YtmoonigeghoeeaaDoorCpL
import Derived.Test.YtmoonigeghoeeaaDoorCpP
namespace Go.Proofs.YtmoonigeghoeeaaDoor
open Go.RowKit
set_option linter.unusedVariables false
set_option linter.unusedSimpArgs false

/-- An operand: tag, number, what it is made of. -/
structure Ag where
  mk ::
  t : Int
  n : Int
  kids : List Ag
def Ag.fold {α : Type} (f : Ag → List α → α) : Ag → α
  | .mk t n K => f (.mk t n K) (K.map fun a => Ag.fold f a)
theorem Ag.fold_mk {α : Type} (f : Ag → List α → α) (t n : Int) (K : List Ag) : Ag.fold f (.mk t n K) = f (.mk t n K) (K.map (Ag.fold f)) := by
  rw [Ag.fold]
theorem Ag.ind {P : Ag → Prop} (h : ∀ t n K, (∀ a, a ∈ K → P a) → P (.mk t n K)) : ∀ a, P a
  | .mk t n K => h t n K (fun a _ => Ag.ind h a)
def El.v (x : El) : Value := agV x.t x.n x.sl
/-- How a value reads as a tree, if its kids' values read as theirs. -/
def isGF (w : World) (a : Ag) (Ks : List (Value → Prop)) (v : Value) : Prop :=
  ∃ (p : Option Addr) (cap : Nat) (L : List El), v = agV a.t a.n (.slice p Ks.length cap) ∧ El.fit ⟨a.t, a.n, p, Ks.length, cap⟩ ∧ L.length = Ks.length ∧ Rw3 w (.slice p Ks.length cap) L ∧ ∀ i (h : i < Ks.length) (h' : i < L.length), Ks[i] (L[i].v)
def IsG (w : World) : Ag → Value → Prop := Ag.fold (isGF w)
theorem isG_mk (w : World) (t n : Int) (K : List Ag) (v : Value) : IsG w (.mk t n K) v ↔
    ∃ (p : Option Addr) (cap : Nat) (L : List El), v = agV t n (.slice p K.length cap) ∧ El.fit ⟨t, n, p, K.length, cap⟩ ∧ L.length = K.length ∧ Rw3 w (.slice p K.length cap) L ∧ ∀ i (h : i < K.length) (h' : i < L.length), IsG w K[i] (L[i].v) := by
  unfold IsG
  rw [Ag.fold_mk]
  unfold isGF
  simp only [List.length_map, List.getElem_map]
/-- A slice of trees. -/
def Gs (w : World) (v : Value) (K : List Ag) : Prop := ∃ (p : Option Addr) (cap : Nat) (L : List El), v = .slice p K.length cap ∧ L.length = K.length ∧ Rw3 w v L ∧ ∀ i (h : i < K.length) (h' : i < L.length), IsG w K[i] (L[i].v)
theorem IsG.open {w : World} {a : Ag} {v : Value} (h : IsG w a v) : ∃ p cap, v = agV a.t a.n (.slice p a.kids.length cap) ∧ El.fit ⟨a.t, a.n, p, a.kids.length, cap⟩ ∧ Gs w (.slice p a.kids.length cap) a.kids := by
  obtain ⟨t, n, K⟩ := a
  obtain ⟨p, cap, L, rfl, hf, hl, hr, hk⟩ := (isG_mk ..).1 h
  exact ⟨p, cap, rfl, hf, p, cap, L, rfl, hl, hr, hk⟩
theorem IsG.ind {w : World} {P : Ag → Value → Prop} (h : ∀ (t n : Int) (K : List Ag) (p : Option Addr) (cap : Nat) (L : List El), El.fit ⟨t, n, p, K.length, cap⟩ → L.length = K.length → Rw3 w (.slice p K.length cap) L →
      (∀ i (h : i < K.length) (h' : i < L.length), P K[i] (L[i].v)) → P (.mk t n K) (agV t n (.slice p K.length cap))) : ∀ (a : Ag) (v : Value), IsG w a v → P a v :=
  Ag.ind (P := fun a => ∀ v, IsG w a v → P a v) (fun t n K ih v hv => by
    obtain ⟨p, cap, L, rfl, hf, hl, hr, hk⟩ := (isG_mk ..).1 hv
    exact h t n K p cap L hf hl hr (fun i hi hi' => ih _ (List.getElem_mem hi) _ (hk i hi hi')))
theorem IsG.under {w w' : World} {a : Ag} {v : Value} (h : IsG w a v) (hb : Below w.heap.size w w') : IsG w' a v := by
  refine IsG.ind (P := fun a v => IsG w' a v) ?_ a v h
  intro t n K p cap L hf hl hr ih
  exact (isG_mk ..).2 ⟨p, cap, L, rfl, hf, hl, hr.under hb, ih⟩
theorem Gs.under {w w' : World} {v : Value} {K : List Ag} (h : Gs w v K) (hb : Below w.heap.size w w') : Gs w' v K := by
  obtain ⟨p, cap, L, rfl, hl, hr, hk⟩ := h
  exact ⟨p, cap, L, rfl, hl, hr.under hb, fun i h1 h2 => (hk i h1 h2).under hb⟩
theorem Gs.at {w : World} {p : Option Addr} {n cap : Nat} {K : List Ag} (h : Gs w (.slice p n cap) K) (i : Nat) (hi : i < K.length) : ∃ b off x, p = some ⟨b, off, none⟩ ∧ b < w.heap.size ∧ At3 w b (off + i * 3) x.t x.n x.sl ∧ El.fit x ∧ IsG w K[i] x.v := by
  obtain ⟨p', cap', L, he, hl, hr, hk⟩ := h
  obtain ⟨b, off, h1, h2, h3, h4⟩ := hr.at i (by omega)
  exact ⟨b, off, L[i], h1, h2, h3, h4, hk i hi (by omega)⟩
theorem Gs.shape {w : World} {v : Value} {K : List Ag} (h : Gs w v K) : ∃ p cap, v = .slice p K.length cap ∧ K.length ≤ cap ∧ (cap : Int) ≤ 9223372036854775807 ∧ (p = none → cap = 0) := by
  obtain ⟨p, cap, L, rfl, hl, hr, hk⟩ := h
  obtain ⟨p', cap', he, h1, h2, h3⟩ := hr.shape
  injection he with e1 e2 e3
  subst e1; subst e3
  exact ⟨p, cap, rfl, by omega, h2, h3⟩
/-- A kid's own slice. -/
theorem IsG.el {w : World} {a : Ag} {x : El} (h : IsG w a x.v) : x.t = a.t ∧ x.n = a.n ∧ x.m = a.kids.length ∧ Gs w x.sl a.kids := by
  obtain ⟨p, cap, he, hf, hg⟩ := h.open
  obtain ⟨t, n, q, m, c⟩ := x
  unfold El.v agV El.sl at he
  simp only [Value.agg.injEq, List.toArray_inj, List.cons.injEq, Value.int.injEq, Value.slice.injEq, and_true, true_and] at he
  obtain ⟨rfl, rfl, rfl, rfl, rfl⟩ := he
  exact ⟨rfl, rfl, rfl, hg⟩
/-- One tree in new memory, as a slice. -/
theorem Gs.one (w : World) (a : Ag) (x : El) (hf : x.fit) (h : IsG w a x.v) : Gs (w.alloc (.cells #[.int .i64 x.t, .int .i64 x.n, x.sl] 25)) (.slice (some ⟨w.heap.size, 0, none⟩) 1 1) [a] := by
  refine ⟨_, 1, [x], rfl, rfl, Rw3.one w x hf, fun i h1 h2 => ?_⟩
  have : i = 0 := by simpa using h1
  subst this
  exact h.under ((Below.refl _ _).alloc (Nat.le_refl _) _)

/-- Some bool is answered. -/
def AnyB (w : World) (e : Ending) (w' : World) : Prop := (∃ q, e = .returned (.bool q)) ∧ w' = w
set_option maxRecDepth 100000 in
set_option maxHeartbeats 2000000 in
/-- FewArgs answers, whatever. -/
theorem few_all : ∀ (a : Ag) (w : World) (v : Value) (deep : Int), Gs w v a.kids → -1 ≤ deep → deep ≤ 1000 → Calls Tryd.prog 8 #[v, .int .i64 deep] w fun e w' => AnyB w e w' := by
  refine Ag.ind (P := fun a => ∀ (w : World) (v : Value) (deep : Int), Gs w v a.kids → -1 ≤ deep → deep ≤ 1000 → Calls Tryd.prog 8 #[v, .int .i64 deep] w fun e w' => AnyB w e w') ?_
  intro t n K ih w v deep h hd1 hd2
  dsimp only at h
  obtain ⟨p, cap, rfl, hc1, hc2, hc3⟩ := h.shape
  have HG : Hid (Gs w (.slice p K.length cap) K) := h
  have HIH : Hid (∀ a, a ∈ K → ∀ (w : World) (v : Value) (deep : Int), Gs w v a.kids → -1 ≤ deep → deep ≤ 1000 → Calls Tryd.prog 8 #[v, .int .i64 deep] w fun e w' => AnyB w e w') := ih
  clear h ih
  by_cases h60 : (60 : Int) < (K.length : Int)
  · go_enter Tryd.func8, Tryd.ntmps8
    go_wp2_with fail
    go_ret
    exact ⟨⟨_, rfl⟩, rfl⟩
  by_cases hdn : deep < 0
  · go_enter Tryd.func8, Tryd.ntmps8
    go_wp2_with fail
    go_ret
    exact ⟨⟨_, rfl⟩, rfl⟩
  go_enter Tryd.func8, Tryd.ntmps8
  go_wp2_with fail
  go_loopg [5] K.length (fun gk s5 wr => ∃ k : Nat, k + gk = K.length ∧ s5 = .int .i64 (k : Int) ∧ w = wr)
  case atStart => exact ⟨0, by omega, rfl, rfl⟩
  case round =>
    obtain ⟨k, hk, rfl, rfl⟩ := hrel
    cases gk with
    | zero =>
      obtain rfl : k = K.length := by omega
      go_wp2_with fail
      go_ret
      exact ⟨⟨_, rfl⟩, rfl⟩
    | succ g =>
      have hkl : k < K.length := by omega
      have hki : (k : Int) < (K.length : Int) := by omega
      have hkc : (k : Int) < (cap : Int) := by omega
      obtain ⟨b, off, x, rfl, hlt, ⟨a0, a1, a2⟩, hft, hx⟩ := HG.out.at k hkl
      obtain ⟨e1, e2, e3, hgk⟩ := hx.el
      have HC : Hid (Calls Tryd.prog 8 #[x.sl, .int .i64 (deep - 1)] w fun e w' => AnyB w e w') := HIH.out _ (List.getElem_mem hkl) w x.sl (deep - 1) hgk (by omega) (by omega)
      obtain ⟨xt, xn, xa, xm, xc⟩ := x
      unfold El.sl at a2 HC
      dsimp only at a0 a1 a2 HC
      clear e1 e2 e3 hgk hx hft
      by_cases hm : (0 : Int) < (xm : Int)
      · go_wp2_with fail
        refine HC.out.mono ?_
        rintro e w2 ⟨⟨q, rfl⟩, rfl⟩
        cases q
        · go_wp2_with fail
          go_ret
          exact ⟨⟨_, rfl⟩, rfl⟩
        · go_wp2_with fail
          go_roundg g
          case measure => omega
          case rel => exact ⟨k + 1, by omega, by go_num, rfl⟩
      · have hm0 : xm = 0 := by omega
        subst hm0
        go_wp2_with fail
        go_roundg g
        case measure => omega
        case rel => exact ⟨k + 1, by omega, by go_num, rfl⟩
end Go.Proofs.YtmoonigeghoeeaaDoor
