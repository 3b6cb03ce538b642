import Derived.Test.YtfjibcldghnjcaaDoorAgA
import Derived.LaidEqlPtr
import Derived.ChangeMaps4
import Derived.Maps.OwnSet
import Derived.Test.YtfjibcldghnjcaaDoorZCdA
import Derived.Maps.AppendAt
/-
  A set of pointers to operands (map[*api.Arg]struct{}): asked, added to.
-/
namespace Go.Proofs.YtfjibcldghnjcaaDoor
open Go.RowKit Go.ChangeMaps
set_option linter.unusedVariables false
set_option linter.unusedSimpArgs false

/-- Block b is a row of operands, none of them frozen. -/
def PlainA (w : World) (b : Nat) : Prop := ∃ cs, w.heap[b]? = some (.cells cs 30 (0, 0))
theorem PlainA.lt {w : World} {b : Nat} (h : PlainA w b) : b < w.heap.size := by
  obtain ⟨cs, h⟩ := h
  exact (Array.getElem?_eq_some_iff.1 h).1
theorem PlainA.same {w w' : World} {b : Nat} (h : PlainA w b) (e : w'.heap[b]? = w.heap[b]?) : PlainA w' b := by
  obtain ⟨cs, h⟩ := h
  exact ⟨cs, e.trans h⟩

/-- Block b is a set that holds just these addresses. -/
def Pts (w : World) (b : Nat) (B : List Addr) : Prop :=
  ∃ es clock, w.heap[b]? = some (.map es clock) ∧ es.toList.map (fun e => (e.key, e.val)) = B.map (fun a => (Value.pointer (some a), Value.agg #[])) ∧ ∀ a ∈ B, PlainA w a.block
theorem Pts.lt {w : World} {b : Nat} {B : List Addr} (h : Pts w b B) : b < w.heap.size := by
  obtain ⟨es, clock, h, -⟩ := h
  exact (Array.getElem?_eq_some_iff.1 h).1
theorem Pts.made (w : World) : Pts (w.alloc (.map #[] 0)) w.heap.size [] := ⟨#[], 0, heap_alloc_new w _, rfl, fun a h => by simp at h⟩
theorem Pts.same {w w' : World} {b : Nat} {B : List Addr} (h : Pts w b B) (e : w'.heap[b]? = w.heap[b]?) (k : ∀ a ∈ B, w'.heap[a.block]? = w.heap[a.block]?) : Pts w' b B := by
  obtain ⟨es, clock, h1, h2, h3⟩ := h
  exact ⟨es, clock, e.trans h1, h2, fun a ha => (h3 a ha).same (k a ha)⟩
theorem Pts.under {w w' : World} {b : Nat} {B : List Addr} (h : Pts w b B) (hb : Below w.heap.size w w') : Pts w' b B := by
  have h0 := h
  obtain ⟨es, clock, h1, h2, h3⟩ := h
  exact h0.same (hb.block b h0.lt) (fun a ha => hb.block _ (h3 a ha).lt)

theorem Tryd.argInfo : (Tryd.prog.info? 30).map (fun i => i.size) = some 3 := by kernel_rfl
theorem equal_ptr (w : World) (a c : Addr) (ha : PlainA w a.block) (hc : PlainA w c.block) : (Op.equal 49 (.pointer (some a)) (.pointer (some c))).run Tryd.prog w = .ok (decide (a = c)) w := by
  obtain ⟨ca, ha⟩ := ha
  obtain ⟨cc, hc⟩ := hc
  obtain ⟨j, hj, hs⟩ : ∃ j, Tryd.prog.info? 30 = some j ∧ j.size = 3 := by
    have h := Tryd.argInfo
    cases hx : Tryd.prog.info? 30 with
    | none => rw [hx] at h; cases h
    | some j => rw [hx] at h; simp at h; exact ⟨j, rfl, h⟩
  by_cases e : a = c
  · subst e
    have h : ∀ d : Nat, (Op.equalIn (d + 1) 49 (.pointer (some a)) (.pointer (some a))).run Tryd.prog w = .ok true w := fun d => by
      simp [Op.equalIn, run_underlying Tryd.underlying49, sizeOf, typeInfo, hj, hs, run_sameAddr_same]
    simp [Op.equal, Op.maxDepth, h 9999]
  · have h : ∀ d : Nat, (Op.equalIn (d + 1) 49 (.pointer (some a)) (.pointer (some c))).run Tryd.prog w = .ok false w := fun d => by
      simp [Op.equalIn, run_underlying Tryd.underlying49, sizeOf, typeInfo, hj, hs, run_sameAddr_other w e ha hc]
    simp [Op.equal, Op.maxDepth, h 9999, e]

theorem find_ptr (w : World) (a : Addr) (ha : PlainA w a.block) : ∀ (es : List MapEntry) (B : List Addr) (i : Nat), es.map (fun e => (e.key, e.val)) = B.map (fun a => (Value.pointer (some a), Value.agg #[])) → (∀ c ∈ B, PlainA w c.block) →
    ∃ r, (Instr.findAsking 49 (.pointer (some a)) es i).run Tryd.prog w = .ok r w ∧ ((a ∈ B ∧ ∃ j, r = some (j, Value.agg #[])) ∨ (a ∉ B ∧ r = none))
  | [], B, i, h, hB => by
    have : B = [] := by cases B with
      | nil => rfl
      | cons x t => simp at h
    subst this
    exact ⟨none, by simp [Instr.findAsking], .inr ⟨by simp, rfl⟩⟩
  | e :: es, [], i, h, hB => by simp at h
  | e :: es, c :: B, i, h, hB => by
    simp only [List.map_cons, List.cons.injEq, Prod.mk.injEq] at h
    obtain ⟨⟨h1, h2⟩, h3⟩ := h
    have heq := equal_ptr w a c ha (hB c (by simp))
    by_cases hac : a = c
    · refine ⟨some (i, Value.agg #[]), ?_, .inl ⟨by simp [hac], i, rfl⟩⟩
      rw [decide_eq_true hac] at heq
      simp [Instr.findAsking, h1, h2, heq, Result.andThen]
    · obtain ⟨r, hr, hor⟩ := find_ptr w a ha es B (i + 1) h3 (fun x hx => hB x (by simp [hx]))
      rw [decide_eq_false hac] at heq
      refine ⟨r, ?_, ?_⟩
      · simp [Instr.findAsking, h1, heq, Result.andThen, hr]
      · rcases hor with ⟨h4, h5⟩ | ⟨h4, h5⟩
        · exact .inl ⟨by simp [h4], h5⟩
        · exact .inr ⟨by simp [h4, hac], h5⟩
theorem findKey_ptr (w : World) (a : Addr) (ha : PlainA w a.block) (es : Array MapEntry) (B : List Addr) (h : es.toList.map (fun e => (e.key, e.val)) = B.map (fun a => (Value.pointer (some a), Value.agg #[]))) (hB : ∀ c ∈ B, PlainA w c.block) :
    ∃ r, (Instr.findKey 49 (.pointer (some a)) es.toList).run Tryd.prog w = .ok r w ∧ ((a ∈ B ∧ ∃ j, r = some (j, Value.agg #[])) ∨ (a ∉ B ∧ r = none)) := by
  obtain ⟨es⟩ := es
  cases es with
  | nil =>
    have : B = [] := by cases B with
      | nil => rfl
      | cons x t => simp at h
    subst this
    exact ⟨none, by simp [Instr.findKey, Instr.findNow, run_underlying Tryd.underlying49], .inr ⟨by simp, rfl⟩⟩
  | cons e es =>
    obtain ⟨r, hr, hor⟩ := find_ptr w a ha (e :: es) B 0 h hB
    refine ⟨r, ?_, hor⟩
    have hk : ∃ c, e.key = .pointer c := by
      cases B with
      | nil => simp at h
      | cons c t =>
        simp only [List.map_cons, List.cons.injEq, Prod.mk.injEq] at h
        exact ⟨_, h.1.1⟩
    obtain ⟨c, hk⟩ := hk
    simp [Instr.findKey, Instr.findNow, run_underlying Tryd.underlying49, hk, Instr.sameNow, hr]
theorem check_ptr (w : World) (e : Bool) (a : Addr) : (Instr.checkKey e 10000 49 (.pointer (some a))).run Tryd.prog w = .ok () w := by
  have h : ∀ d : Nat, (Instr.checkKey e (d + 1) 49 (.pointer (some a))).run Tryd.prog w = .ok () w := fun d => by
    simp [Instr.checkKey, run_underlying Tryd.underlying49]
  exact h 9999
theorem zeroUnitP (w : World) : (zeroValue 50).run Tryd.prog w = .ok (.agg #[]) w := by kernel_rfl
theorem look_ptr (w : World) (b : Nat) (B : List Addr) (a : Addr) (h : Pts w b B) (ha : PlainA w a.block) :
    (Instr.lookup 48 (.map (some b)) (.pointer (some a)) true).run Tryd.prog w = .ok (.tuple #[.agg #[], .bool (decide (a ∈ B))]) w := by
  obtain ⟨es, clock, h1, h2, h3⟩ := h
  obtain ⟨r, hr, ⟨hin, j, rfl⟩ | ⟨hin, rfl⟩⟩ := findKey_ptr w a ha es B h2 h3
  · rw [decide_eq_true hin]
    simp [Instr.lookup, run_underlying Tryd.underlying48, MapKept.run_getObj_map h1, check_ptr, hr, Result.andThen]
  · rw [decide_eq_false hin]
    simp [Instr.lookup, run_underlying Tryd.underlying48, MapKept.run_getObj_map h1, check_ptr, hr, Result.andThen, zeroUnitP]
theorem store_ptr (w : World) (b : Nat) (B : List Addr) (a : Addr) (h : Pts w b B) (ha : PlainA w a.block) (hn : a ∉ B) :
    ∃ w', (Instr.mapUpdate 48 (.map (some b)) (.pointer (some a)) (.agg #[])).run Tryd.prog w = .ok () w' ∧ Pts w' b (B ++ [a]) ∧ w.grownBy w' (some b) := by
  have h0 := h
  obtain ⟨es, clock, h1, h2, h3⟩ := h
  obtain ⟨r, hr, ⟨hin, j, rfl⟩ | ⟨hin, rfl⟩⟩ := findKey_ptr w a ha es B h2 h3
  · exact absurd hin hn
  · have hne : ∀ c, PlainA w c → c ≠ b := fun c hc e => by
      obtain ⟨cs, hc⟩ := hc
      rw [e, h1] at hc
      cases hc
    refine ⟨setBlock w b (.map (es.push { key := .pointer (some a), val := .agg #[], born := clock }) (clock + 1)), ?_, ⟨_, _, heap_setBlock_same h1 _, ?_, ?_⟩, ⟨rfl, rfl, rfl, by simp [setBlock], fun i _ hi => heap_setBlock_other h1 _ (fun e => hi (by rw [e]))⟩⟩
    · simp [Instr.mapUpdate, run_underlying Tryd.underlying48, MapKept.run_getObj_map h1, check_ptr, hr, MapKept.run_setObj_map _ h1, Result.andThen, setBlock]
    · simp [h2]
    · intro c hc
      rcases List.mem_append.1 hc with hc | hc
      · exact (h3 c hc).same (heap_setBlock_other h1 _ (hne _ (h3 c hc)))
      · simp at hc; subst hc
        exact ha.same (heap_setBlock_other h1 _ (hne _ ha))

section
variable {w : World} {ops : Array Oper} {rest : List Oper} {o : Oper} {a : Act} {Q : Exit → Act → World → Prop}
theorem wpList_look_ptr (hg : o.guard = none) (m x : Operand) (hop : o.op = Op.lookup 48 m x true) (b : Nat) (B : List Addr) (ad : Addr) (hm : a.eval m = .map (some b)) (hx : a.eval x = .pointer (some ad)) (h : Pts w b B) (ha : PlainA w ad.block)
    (hK : wpList Tryd.prog ops Q rest (a.put o.dst (.tuple #[.agg #[], .bool (decide (ad ∈ B))])) w) : wpList Tryd.prog ops Q (o :: rest) a w := by
  refine wpList_plain hg fun K' hK' => ?_
  have hrun := look_ptr w b B ad h ha
  unfold Oper.wp
  simp [execOp, hop, hm, hx, hrun, Result.andThen]
  exact hK' _ _ hK
theorem wpList_store_ptr (hg : o.guard = none) (m x v : Operand) (hop : o.op = Op.mapUpdate 48 m x v) (b : Nat) (B : List Addr) (ad : Addr) (hm : a.eval m = .map (some b)) (hx : a.eval x = .pointer (some ad)) (hv : a.eval v = .agg #[]) (h : Pts w b B) (ha : PlainA w ad.block) (hn : ad ∉ B)
    (hK : ∀ w', Pts w' b (B ++ [ad]) → w.grownBy w' (some b) → wpList Tryd.prog ops Q rest (a.put o.dst undef) w') : wpList Tryd.prog ops Q (o :: rest) a w := by
  refine wpList_plain hg fun K' hK' => ?_
  obtain ⟨w', hrun, h1, h2⟩ := store_ptr w b B ad h ha hn
  unfold Oper.wp
  simp [execOp, hop, hm, hx, hv, hrun, Result.andThen]
  exact hK' _ _ (hK w' h1 h2)
end
end Go.Proofs.YtfjibcldghnjcaaDoor


/-
  code: labels, plain: where each stands; whether each that is named is there; what is still to be looked at.
-/
namespace Go.Proofs.YtfjibcldghnjcaaDoor
open Go.RowKit
set_option linter.unusedVariables false
set_option linter.unusedSimpArgs false

/-- The labels and where they stand. -/
def hasP (P : List (Int × Nat)) (n : Int) : Bool := P.any (fun x => x.1 == n)
theorem hasP_app (P : List (Int × Nat)) (n m : Int) (k : Nat) : hasP (P ++ [(m, k)]) n = (hasP P n || m == n) := by simp [hasP]
def numL (i : In) : Int := match i.K with
  | [] => 0
  | a :: _ => a.n
def labF : List In → Nat → List (Int × Nat) → Option (List (Int × Nat))
  | [], _, P => some P
  | i :: L, k, P => if i.op = 1 then (if hasP P (numL i) = true ∨ numL i < 1 ∨ 200 < numL i then none else labF L (k + 1) (P ++ [(numL i, k)])) else labF L (k + 1) P
/-- An operand that names a label that is not there. -/
def badF (P : List (Int × Nat)) (t n : Int) : Bool := t == 5 && n != 0 && !hasP P n
def okF (P : List (Int × Nat)) : Ag → Bool := Ag.fold fun a Ks => !badF P a.t a.n && Ks.all id
theorem okF_mk (P : List (Int × Nat)) (t n : Int) (K : List Ag) : okF P (.mk t n K) = (!badF P t n && K.all (okF P)) := by
  unfold okF
  rw [Ag.fold_mk]
  simp only [List.all_map]
  rfl
def thereS (P : List (Int × Nat)) (L : List In) : Bool := L.all fun i => i.K.all (okF P)
def labS (L : List In) : Option (List (Int × Nat)) := match labF L 0 [] with
  | none => none
  | some P => if thereS P L = true then some P else none
/-- How many operands there are in one. -/
def szT : Ag → Nat := Ag.fold fun _ Ks => 1 + Ks.sum
theorem szT_mk (t n : Int) (K : List Ag) : szT (.mk t n K) = 1 + (K.map szT).sum := by
  unfold szT
  rw [Ag.fold_mk]
def szK (K : List Ag) : Nat := (K.map szT).sum
theorem szT_eq (a : Ag) : szT a = 1 + szK a.kids := by
  obtain ⟨t, n, K⟩ := a
  exact szT_mk t n K
theorem szK_mem : ∀ {K : List Ag} {a : Ag}, a ∈ K → szT a ≤ szK K
  | x :: t, a, h => by
    unfold szK
    simp only [List.map_cons, List.sum_cons]
    rcases List.mem_cons.1 h with rfl | h
    · omega
    · have := szK_mem h
      unfold szK at this
      omega
theorem szT_kid {a k : Ag} (h : k ∈ a.kids) : szT k < szT a := by
  rw [szT_eq a]
  have := szK_mem h
  omega
theorem szK_app (A B : List Ag) : szK (A ++ B) = szK A + szK B := by simp [szK]
theorem szK_drop (K : List Ag) (i : Nat) (h : i < K.length) : szK (K.drop i) = szT K[i] + szK (K.drop (i + 1)) := by
  unfold szK
  rw [List.drop_eq_getElem_cons h, List.map_cons, List.sum_cons]
theorem okF_eq (P : List (Int × Nat)) (a : Ag) : okF P a = (!badF P a.t a.n && a.kids.all (okF P)) := by
  obtain ⟨t, n, K⟩ := a
  exact okF_mk P t n K

/-- The operand that stands at an address, as a tree. -/
def TrAt (w : World) (ad : Addr) (t : Ag) : Prop := ∃ (b off : Nat) (x : El), ad = ⟨b, off, none⟩ ∧ At3 w b off x.t x.n x.sl ∧ IsGQ w (PlainA w) t x.v
theorem isGQ_one {w : World} {P : Nat → Prop} : ∀ (a c : Ag) (v : Value), IsGQ w P a v → IsGQ w P c v → a = c :=
  Ag.ind (P := fun a => ∀ c v, IsGQ w P a v → IsGQ w P c v → a = c) (fun t n K ih c v h1 h2 => by
    obtain ⟨t', n', K'⟩ := c
    obtain ⟨p, cap, L, rfl, hf, hl, hr, hp, hk⟩ := (isGQ_mk ..).1 h1
    obtain ⟨p', cap', L', he, hf', hl', hr', hp', hk'⟩ := (isGQ_mk ..).1 h2
    unfold agV at he
    simp only [Value.agg.injEq, List.toArray_inj, List.cons.injEq, Value.int.injEq, Value.slice.injEq, and_true, true_and] at he
    have he := congrArg Array.toList he
    simp only [List.cons.injEq, Value.int.injEq, Value.slice.injEq, and_true, true_and] at he
    obtain ⟨e1, e2, e3, hlen, e5⟩ := he
    subst e1 e2 e3 e5
    have : K = K' := by
      refine List.ext_getElem hlen (fun i i1 i2 => ?_)
      have j1 : i < L.length := by omega
      have j2 : i < L'.length := by omega
      obtain ⟨b, off, e1, q1, ⟨a0, a1, a2⟩, q2⟩ := hr.at i j1
      obtain ⟨b', off', e2, q3, ⟨b0, b1, b2⟩, q4⟩ := hr'.at i j2
      rw [e1] at e2
      injection e2 with e2
      injection e2 with e3 e4 _
      subst e3; subst e4
      rw [a0] at b0; rw [a1] at b1; rw [a2] at b2
      injection b0 with b0; injection b1 with b1; injection b2 with b2
      injection b0 with _ b0; injection b1 with _ b1
      have hv : L'[i].v = L[i].v := by unfold El.v agV; rw [← b0, ← b1, ← b2]
      have hki := hk i i1 (by omega)
      have hki' := hk' i i2 (by omega)
      rw [hv] at hki'
      exact ih _ (List.getElem_mem i1) _ _ hki hki'
    rw [this])
theorem TrAt.one {w : World} {ad : Addr} {a c : Ag} (h : TrAt w ad a) (k : TrAt w ad c) : a = c := by
  obtain ⟨b, off, x, rfl, ⟨a0, a1, a2⟩, hx⟩ := h
  obtain ⟨b', off', y, he, ⟨b0, b1, b2⟩, hy⟩ := k
  injection he with e1 e2 _
  subst e1; subst e2
  rw [a0] at b0; rw [a1] at b1; rw [a2] at b2
  injection b0 with b0; injection b1 with b1; injection b2 with b2
  injection b0 with _ b0; injection b1 with _ b1
  have hv : y.v = x.v := by unfold El.v agV; rw [← b0, ← b1, ← b2]
  rw [hv] at hy
  exact isGQ_one _ _ _ hx hy

/-- What is still to be looked at (O), what has been gone into (B): all of it good, all is good. -/
structure Due (w : World) (P : List (Int × Nat)) (G : Prop) (O : List Ag) (B : List Addr) : Prop where
  mk ::
  to : (∀ x ∈ O, okF P x = true) → G
  fro : G → ∀ x ∈ O, okF P x = true
  been : ∀ ad ∈ B, ∀ t, TrAt w ad t → (∀ x ∈ O, szT x < szT t → okF P x = true) → t.kids.all (okF P) = true
theorem Due.bad {w : World} {P : List (Int × Nat)} {G : Prop} {O : List Ag} {B : List Addr} {a : Ag} (h : Due w P G O B) (ha : a ∈ O) (hb : badF P a.t a.n = true) : ¬ G := fun g => by
  have := h.fro g a ha
  rw [okF_eq, hb] at this
  cases this
theorem Due.leaf {w : World} {P : List (Int × Nat)} {G : Prop} {R : List Ag} {B : List Addr} {a : Ag} (h : Due w P G (a :: R) B) (hb : badF P a.t a.n = false) (hk : a.kids = []) : Due w P G R B := by
  have ha : okF P a = true := by rw [okF_eq, hb, hk]; rfl
  refine ⟨fun hR => h.to (fun x hx => ?_), fun g x hx => h.fro g x (List.mem_cons_of_mem _ hx), fun ad had t ht hR => h.been ad had t ht (fun x hx hs => ?_)⟩
  · rcases List.mem_cons.1 hx with rfl | hx
    · exact ha
    · exact hR x hx
  · rcases List.mem_cons.1 hx with rfl | hx
    · exact ha
    · exact hR x hx hs
theorem Due.again {w : World} {P : List (Int × Nat)} {G : Prop} {R : List Ag} {B : List Addr} {a : Ag} {ad : Addr} (h : Due w P G (a :: R) B) (hb : badF P a.t a.n = false) (hin : ad ∈ B) (ht : TrAt w ad a) : Due w P G R B := by
  have key : (∀ x ∈ R, szT x < szT a → okF P x = true) → okF P a = true := fun hR => by
    have := h.been ad hin a ht (fun x hx hs => by
      rcases List.mem_cons.1 hx with rfl | hx
      · exact absurd hs (Nat.lt_irrefl _)
      · exact hR x hx hs)
    rw [okF_eq, hb, this]; rfl
  refine ⟨fun hR => h.to (fun x hx => ?_), fun g x hx => h.fro g x (List.mem_cons_of_mem _ hx), fun ad' had t ht' hR => h.been ad' had t ht' (fun x hx hs => ?_)⟩
  · rcases List.mem_cons.1 hx with rfl | hx
    · exact key (fun y hy _ => hR y hy)
    · exact hR x hx
  · rcases List.mem_cons.1 hx with rfl | hx
    · exact key (fun y hy hys => hR y hy (Nat.lt_trans hys hs))
    · exact hR x hx hs
theorem Due.into {w : World} {P : List (Int × Nat)} {G : Prop} {R : List Ag} {B : List Addr} {a : Ag} {ad : Addr} (h : Due w P G (a :: R) B) (hb : badF P a.t a.n = false) (ht : TrAt w ad a) {O : List Ag} (hO : ∀ x, x ∈ O ↔ x ∈ R ∨ x ∈ a.kids) : Due w P G O (B ++ [ad]) := by
  have key : (∀ x ∈ a.kids, okF P x = true) → okF P a = true := fun hk => by
    rw [okF_eq, hb, List.all_eq_true.2 hk]; rfl
  refine ⟨fun hA => h.to (fun x hx => ?_), fun g x hx => ?_, fun ad' had t ht' hA => ?_⟩
  · rcases List.mem_cons.1 hx with rfl | hx
    · exact key (fun y hy => hA y ((hO y).2 (.inr hy)))
    · exact hA x ((hO x).2 (.inl hx))
  · rcases (hO x).1 hx with hx | hx
    · exact h.fro g x (List.mem_cons_of_mem _ hx)
    · have := h.fro g a (List.mem_cons_self ..)
      rw [okF_eq] at this
      exact List.all_eq_true.1 (Bool.and_eq_true_iff.1 this).2 x hx
  · rcases List.mem_append.1 had with had | had
    · refine h.been ad' had t ht' (fun x hx hs => ?_)
      rcases List.mem_cons.1 hx with rfl | hx
      · exact key (fun y hy => hA y ((hO y).2 (.inr hy)) (Nat.lt_trans (szT_kid hy) hs))
      · exact hA x ((hO x).2 (.inl hx)) hs
    · simp only [List.mem_singleton] at had
      subst had
      obtain rfl := ht.one ht'
      exact List.all_eq_true.2 (fun y hy => hA y ((hO y).2 (.inr hy)) (szT_kid hy))
theorem Due.mem {w : World} {P : List (Int × Nat)} {G : Prop} {O O' : List Ag} {B : List Addr} (h : Due w P G O B) (e : ∀ x, x ∈ O' ↔ x ∈ O) : Due w P G O' B :=
  ⟨fun k => h.to (fun x hx => k x ((e x).2 hx)), fun g x hx => h.fro g x ((e x).1 hx), fun ad had t ht k => h.been ad had t ht (fun x hx hs => k x ((e x).2 hx) hs)⟩
end Go.Proofs.YtfjibcldghnjcaaDoor


/-
  code: instructions in plain memory (IsP), a stack of rows of operands (WOwn, Stk), the map of places (Pm); labelNumber.
-/
namespace Go.Proofs.YtfjibcldghnjcaaDoor
open Go.RowKit Go.Maps
set_option linter.unusedVariables false
set_option linter.unusedSimpArgs false

theorem IsGQ.el {w : World} {P : Nat → Prop} {a : Ag} {x : El} (h : IsGQ w P a x.v) : x.t = a.t ∧ x.n = a.n ∧ x.m = a.kids.length ∧ GsQ w P x.sl a.kids := by
  obtain ⟨e1, e2, e3, -⟩ := h.isG.el
  obtain ⟨t, n, K⟩ := a
  obtain ⟨p, cap, L, he, hf, hl, hr, hp, hk⟩ := (isGQ_mk ..).1 h
  obtain ⟨xt, xn, xa, xm, xc⟩ := x
  unfold El.v agV El.sl at he
  simp only [Value.agg.injEq, List.toArray_inj, List.cons.injEq, Value.int.injEq, Value.slice.injEq, and_true, true_and] at he
  obtain ⟨rfl, rfl, rfl, rfl, rfl⟩ := he
  exact ⟨e1, e2, e3, p, cap, L, rfl, hl, hr, hp, hk⟩
theorem GsQ.at {w : World} {P : Nat → Prop} {p : Option Addr} {n cap : Nat} {K : List Ag} (h : GsQ w P (.slice p n cap) K) (i : Nat) (hi : i < K.length) : ∃ b off x, p = some ⟨b, off, none⟩ ∧ P b ∧ b < w.heap.size ∧ At3 w b (off + i * 3) x.t x.n x.sl ∧ El.fit x ∧ IsGQ w P K[i] x.v := by
  obtain ⟨p', cap', L, he, hl, hr, hp, hk⟩ := h
  injection he with e1 e2 e3
  subst e1
  obtain ⟨b, off, h1, h2, h3, h4⟩ := hr.at i (by omega)
  exact ⟨b, off, L[i], h1, hp (by omega) _ h1, h2, h3, h4, hk i hi (by omega)⟩

/-- The slice v has in w these instructions; their operands' rows are plain. -/
def IsP (w : World) (v : Value) (L : List In) : Prop :=
  ∃ (a : Option Addr) (cap : Nat) (E : List Ei), v = .slice a L.length cap ∧ E.length = L.length ∧ L.length ≤ cap ∧ (cap : Int) ≤ 9223372036854775807 ∧ (a = none → cap = 0) ∧
    (0 < L.length → ∃ b off, a = some ⟨b, off, none⟩ ∧ b < w.heap.size ∧ ∀ i (h : i < E.length), At2 w b (off + i * 2) E[i].op E[i].sl) ∧
    ∀ i (h : i < L.length) (h' : i < E.length), E[i].op = L[i].op ∧ GsQ w (PlainA w) E[i].sl L[i].K
theorem GsQ.plain {w w' : World} {v : Value} {K : List Ag} (h : GsQ w (PlainA w) v K) (hsz : w.heap.size ≤ w'.heap.size) (hs : ∀ b, PlainA w b → w'.heap[b]? = w.heap[b]?) : GsQ w' (PlainA w') v K :=
  h.move hsz (fun b hb _ => hs b hb) (fun b hb _ => hb.same (hs b hb))
theorem GsQ.plainB {w w' : World} {v : Value} {K : List Ag} (h : GsQ w (PlainA w) v K) (hb : Below w.heap.size w w') : GsQ w' (PlainA w') v K := h.plain hb.size (fun b k => hb.block b k.lt)
theorem IsP.shape {w : World} {v : Value} {L : List In} (h : IsP w v L) : ∃ a cap, v = .slice a L.length cap ∧ L.length ≤ cap ∧ (cap : Int) ≤ 9223372036854775807 ∧ (a = none → cap = 0) := by
  obtain ⟨a, cap, E, rfl, h0, h1, h2, h3, _⟩ := h
  exact ⟨a, cap, rfl, h1, h2, h3⟩
theorem IsP.under {w w' : World} {v : Value} {L : List In} (h : IsP w v L) (hb : Below w.heap.size w w') : IsP w' v L := by
  obtain ⟨a, cap, E, rfl, h0, h1, h2, h3, h4, h5⟩ := h
  refine ⟨a, cap, E, rfl, h0, h1, h2, h3, fun hp => ?_, fun i a b => ⟨(h5 i a b).1, (h5 i a b).2.plainB hb⟩⟩
  obtain ⟨b, off, rfl, hlt, hc⟩ := h4 hp
  refine ⟨b, off, rfl, Nat.lt_of_lt_of_le hlt hb.size, fun i hi => ?_⟩
  obtain ⟨c0, c1⟩ := hc i hi
  exact ⟨by rw [hb.cell (p := ⟨b, off + i * 2, none⟩) hlt]; exact c0, by rw [hb.cell (p := ⟨b, off + i * 2 + 1, none⟩) hlt]; exact c1⟩
theorem IsP.at {w : World} {a : Option Addr} {n cap : Nat} {L : List In} (h : IsP w (.slice a n cap) L) (k : Nat) (hk : k < L.length) :
    ∃ b off p m c, a = some ⟨b, off, none⟩ ∧ b < w.heap.size ∧ At2 w b (off + k * 2) L[k].op (.slice p m c) ∧ GsQ w (PlainA w) (.slice p m c) L[k].K := by
  obtain ⟨a', cap', E, he, h0, h1, h2, h3, h4, h5⟩ := h
  injection he with e1 e2 e3
  subst e1
  obtain ⟨b, off, rfl, hlt, hc⟩ := h4 (by omega)
  obtain ⟨g1, g2⟩ := h5 k hk (by omega)
  have := hc k (by omega)
  rw [g1] at this
  exact ⟨b, off, E[k].a, E[k].m, E[k].c, rfl, hlt, this, g2⟩

/-- A row of slices of operands, of the call's own. -/
def WOwn (w : World) (base : Nat) (v : Value) (S : List Value) : Prop := w.ownsRow base 25 1 v S.length S
theorem Tryd.infoArgs : (Tryd.prog.info? 25).map (fun i => (i.zero, i.size, i.bytes)) = some (some (.slice none 0 0), 1, 24) := by kernel_rfl
/-- Slices that read as rows of operands. -/
def Stk (w : World) (S : List Value) (O : List (List Ag)) : Prop := S.length = O.length ∧ ∀ i (h : i < S.length) (h' : i < O.length), GsQ w (PlainA w) S[i] O[i]
theorem Stk.push {w : World} {S : List Value} {O : List (List Ag)} {v : Value} {K : List Ag} (h : Stk w S O) (hv : GsQ w (PlainA w) v K) : Stk w (S ++ [v]) (O ++ [K]) := by
  obtain ⟨h1, h2⟩ := h
  refine ⟨by simp [h1], fun i a b => ?_⟩
  by_cases hi : i < S.length
  · rw [List.getElem_append_left hi, List.getElem_append_left (by omega)]
    exact h2 i hi (by omega)
  · have : i = S.length := by simp at a; omega
    subst this
    rw [List.getElem_append_right (Nat.le_refl _), List.getElem_append_right (by omega)]
    simpa [h1] using hv
theorem Stk.pop {w : World} {S : List Value} {O : List (List Ag)} {n : Nat} (h : Stk w S O) (hn : S.length = n + 1) : ∃ S' v O' K, S = S' ++ [v] ∧ O = O' ++ [K] ∧ S'.length = n ∧ Stk w S' O' ∧ GsQ w (PlainA w) v K := by
  obtain ⟨h1, h2⟩ := h
  have hs : S ≠ [] := fun e => by rw [e] at hn; simp at hn
  have ho : O ≠ [] := fun e => by rw [e] at h1; simp at h1; exact hs h1
  refine ⟨S.dropLast, S.getLast hs, O.dropLast, O.getLast ho, (List.dropLast_concat_getLast hs).symm, (List.dropLast_concat_getLast ho).symm, by simp; omega, ⟨by simp [h1], fun i a b => ?_⟩, ?_⟩
  · rw [List.getElem_dropLast, List.getElem_dropLast]
    exact h2 i _ _
  · have := h2 n (by omega) (by omega)
    rw [List.getLast_eq_getElem, List.getLast_eq_getElem]
    simpa [hn, show O.length = n + 1 by omega] using this
theorem WOwn.lastCell {w : World} {base : Nat} {v x : Value} {S : List Value} (h : WOwn w base v (S ++ [x])) : ∃ g cap, v = .slice (some ⟨g, 0, none⟩) (S.length + 1) cap ∧ base ≤ g ∧ g < w.heap.size ∧ S.length + 1 ≤ cap ∧ cap ≤ maxLen ∧ w.cell? ⟨g, S.length, none⟩ = some x ∧ WOwn w base (.slice (some ⟨g, 0, none⟩) S.length cap) S := by
  obtain ⟨hl, ⟨rfl, hn⟩ | ⟨g, cap, cur, rfl, hbg, hg, hn, hcap, hsz, ht⟩⟩ := h
  · simp at hn
  · have hlen : (S ++ [x]).length = S.length + 1 := by simp
    refine ⟨g, cap, by rw [hlen], hbg, (Array.getElem?_eq_some_iff.1 hg).1, by omega, hcap, ?_, by simp, .inr ⟨g, cap, cur, rfl, hbg, hg, by omega, hcap, hsz, ?_⟩⟩
    · rw [cell_of_row w g S.length _ _ _ hg]
      have e := congrArg (fun l : List Value => l[S.length]?) ht
      simp only [hlen, Nat.mul_one] at e
      rw [List.getElem?_take_of_lt (by omega)] at e
      simpa using e
    · rw [hlen] at ht
      have e := congrArg (List.take S.length) ht
      rw [List.take_take] at e
      simp only [Nat.mul_one] at e ⊢
      rw [show min S.length (S.length + 1) = S.length by omega] at e
      rw [e]; simp
theorem WOwn.below {w w' : World} {base : Nat} {v : Value} {S : List Value} (h : WOwn w base v S) (hb : Below w.heap.size w w') : WOwn w' base v S := own_same h (fun b _ hlt => hb.block b hlt)
theorem WOwn.ne {w : World} {base b : Nat} {v : Value} {S : List Value} {es : Array MapEntry} {clock : Nat} (h : WOwn w base v S) (hb : w.heap[b]? = some (.map es clock)) : v.ownBlock ≠ some b := by
  obtain ⟨hl, ⟨rfl, hn⟩ | ⟨g, cap, cur, rfl, hbg, hg, hn, hcap, hsz, ht⟩⟩ := h
  · simp [Value.ownBlock]
  · intro e
    simp [Value.ownBlock] at e
    subst e
    rw [hg] at hb
    cases hb

theorem lawI : Keyed Tryd.prog 3 := int_keyed Tryd.underlying3
theorem zeroI (w : World) : (zeroValue 3).run Tryd.prog w = .ok (.int .i64 0) w := by kernel_rfl
/-- Block b is a map that holds just these places. -/
def Pm (w : World) (b : Nat) (P : List (Int × Nat)) : Prop :=
  ∃ D : DataW Unit, w.ownsMap Tryd.prog 3 (plainElem Tryd.prog 3) b P.length D ∧ (∀ n, Maps.has D (.int .i64 n) = hasP P n) ∧ (∀ n k, (n, k) ∈ P → D.atKey (.int .i64 n) (.lit (.int .i64 0)) = .lit (.int .i64 (k : Int))) ∧ Maps.size D = P.length
theorem Pm.made (w : World) : Pm (w.alloc (.map #[] 0)) w.heap.size [] := ⟨_, World.ownsMap_made _ _ _ _, fun n => rfl, fun n k h => by simp at h, rfl⟩
theorem Pm.lt {w : World} {b : Nat} {P : List (Int × Nat)} (h : Pm w b P) : b < w.heap.size := by
  obtain ⟨D, h1, -⟩ := h
  exact h1.lt
theorem Pm.under {w w' : World} {b : Nat} {P : List (Int × Nat)} (h : Pm w b P) (hb : Below w.heap.size w w') : Pm w' b P := by
  obtain ⟨D, h1, h2⟩ := h
  have hlt := h1.lt
  obtain ⟨es, clock, hh, r⟩ := h1
  exact ⟨D, ⟨es, clock, by rw [hb.block b hlt]; exact hh, r⟩, h2⟩

set_option maxRecDepth 100000 in
theorem labelNumber_any (op : Int) (v : Value) (K : List Ag) (w : World) (h : Gs w v K) :
    Calls Tryd.prog 13 #[.agg #[.int .i64 op, v]] w fun e w' => e = .returned (.int .i64 (numL ⟨op, K⟩)) ∧ Below w.heap.size w w' := by
  obtain ⟨p, cap, rfl, h1, h2, h3⟩ := h.shape
  cases K with
  | nil =>
    go_enter Tryd.func13, Tryd.ntmps13
    go_wp2_with fail
    go_ret
    exact ⟨rfl, (Below.refl _ _).alloc (Nat.le_refl _) _⟩
  | cons a t =>
    obtain ⟨b, off, x, rfl, hlt, ⟨c0, c1, c2⟩, hf, hx⟩ := h.at 0 (by simp)
    obtain ⟨e1, e2, -⟩ := hx.el
    have hn : numL ⟨op, a :: t⟩ = x.n := e2.symm
    rw [hn]
    obtain ⟨m, hm⟩ : ∃ m, m = (a :: t).length := ⟨_, rfl⟩
    have hm1 : m = t.length + 1 := by rw [hm]; rfl
    have hm0 : (0 : Int) < (m : Int) := by omega
    have hmz : ((m : Int) == 0) = false := by simp; omega
    rw [← hm] at h1 ⊢
    simp only [Nat.zero_mul, Nat.add_zero] at c0 c1 c2
    clear hm hm1 h hn hx e1 e2
    go_enter Tryd.func13, Tryd.ntmps13
    go_wp2_with fail
    go_ret
    exact ⟨rfl, (Below.refl _ _).alloc (Nat.le_refl _) _⟩
end Go.Proofs.YtfjibcldghnjcaaDoor
