
/-
  Two terms side by side, depth first: the answer as a function of two lists of trees; the raw contracts of term.ends, parts, comparedParts.
-/
import Derived.Test.YtfcdocgjmgpmkaaDoorTermCParts
import Derived.Test.YtfcdocgjmgpmkaaDoorTermUnlike
import Derived.Test.YtfcdocgjmgpmkaaDoorTermWaitP
namespace Go.Proofs.YtfcdocgjmgpmkaaDoor
open Go.RowKit
set_option linter.unusedVariables false
set_option linter.unusedSimpArgs false

/-- The first thing but 0 that jd says, of pairs from the left, each ahead of its parts, its parts ahead of the next pair. -/
def sbF (jd : Tm → Tm → Int) (pt : Tm → List Tm) : Nat → List Tm → List Tm → Int
  | 0, _, _ => 0
  | _ + 1, [], _ => 0
  | _ + 1, _ :: _, [] => 0
  | n + 1, x :: xs, y :: ys => if jd x y = 0 then sbF jd pt n (pt x ++ xs) (pt y ++ ys) else jd x y

theorem nodes_pos (t : Tm) : 0 < t.nodes := by rw [Tm.nodes_eq]; omega
theorem nodesL_zero {l : List Tm} (h : nodesL l = 0) : l = [] := by
  cases l with
  | nil => rfl
  | cons x r => have := nodes_pos x; simp only [nodesL] at h; omega
theorem nodesL_len (l : List Tm) : l.length ≤ nodesL l := by
  induction l with
  | nil => simp
  | cons x r ih => have := nodes_pos x; simp only [nodesL, List.length_cons]; omega
theorem nodesL_take (l : List Tm) (n : Nat) : nodesL (l.take n) ≤ nodesL l := by
  induction l generalizing n with
  | nil => simp [nodesL]
  | cons x r ih =>
    cases n with
    | zero => simp [nodesL]
    | succ n => have := ih n; simp only [List.take_succ_cons, nodesL]; omega

theorem sbF_nil (jd : Tm → Tm → Int) (pt : Tm → List Tm) (n : Nat) (ys : List Tm) : sbF jd pt n [] ys = 0 := by
  cases n <;> simp [sbF]
theorem sbF_same {jd : Tm → Tm → Int} {pt : Tm → List Tm} (hpt : ∀ t, nodesL (pt t) < t.nodes) : ∀ (n m : Nat) (xs ys : List Tm), nodesL xs ≤ n → nodesL xs ≤ m → sbF jd pt n xs ys = sbF jd pt m xs ys := by
  intro n
  induction n with
  | zero =>
    intro m xs ys h1 h2
    rw [nodesL_zero (by omega : nodesL xs = 0), sbF_nil, sbF_nil]
  | succ n ih =>
    intro m xs ys h1 h2
    cases xs with
    | nil => rw [sbF_nil, sbF_nil]
    | cons x xs =>
      have hx := nodes_pos x
      have hp := hpt x
      simp only [nodesL] at h1 h2
      cases m with
      | zero => omega
      | succ m =>
        cases ys with
        | nil => simp [sbF]
        | cons y ys =>
          simp only [sbF]
          rw [ih m (pt x ++ xs) (pt y ++ ys) (by rw [nodesL_app]; omega) (by rw [nodesL_app]; omega)]
/-- One pair, with all that it has. -/
theorem sbF_step {jd : Tm → Tm → Int} {pt : Tm → List Tm} (hpt : ∀ t, nodesL (pt t) < t.nodes) (n : Nat) (x y : Tm) (xs ys : List Tm) (hn : nodesL (x :: xs) ≤ n) : sbF jd pt n (x :: xs) (y :: ys) = if jd x y = 0 then sbF jd pt (n - 1) (pt x ++ xs) (pt y ++ ys) else jd x y := by
  have := nodes_pos x
  simp only [nodesL] at hn
  obtain ⟨m, rfl⟩ : ∃ m, n = m + 1 := ⟨n - 1, by omega⟩
  simp [sbF]

theorem parts_nodes (t : Tm) : nodesL t.parts < t.nodes := by
  rw [Tm.nodes_eq, Tm.parts]
  split
  · omega
  · simp [nodesL]
theorem cparts_nodes (t : Tm) : nodesL t.cparts < t.nodes := by
  rw [Tm.cparts]
  split
  · have := nodesL_take t.kids 2; rw [Tm.nodes_eq]; omega
  · exact parts_nodes t

/-- The value that parts answers. -/
def partsV (k : Int) (pk : Option Addr) (n ck : Nat) : Value := if k = 4 ∨ k = 5 ∨ k = 7 then .slice pk n ck else .slice none 0 0
def cpartsV (k : Int) (pk : Option Addr) (n ck : Nat) : Value := if k = 4 then .slice pk 2 ck else partsV k pk n ck

set_option maxRecDepth 100000 in
set_option maxHeartbeats 4000000 in
theorem parts_raw (k : Int) (n1 : Bool) (sl : Value) (hl : IsS sl) (S1 : ByteArray) (N1 : Int) (pk : Option Addr) (n ck : Nat) (w : World) : Calls Tryd.prog 26 #[.agg #[.int .i64 k, .bool n1, sl, .string S1, .int .i64 N1, .slice pk n ck]] w fun e w' => e = .returned (partsV k pk n ck) ∧ Below w.heap.size w w' := by
  obtain ⟨pl, nl, cl, rfl⟩ := hl
  have HB1 : Hid (Below w.heap.size w (w.alloc (.cells #[.int .i64 k, .bool n1, .slice pl nl cl, .string S1, .int .i64 N1, .slice pk n ck] 27))) := (Below.refl w.heap.size w).alloc (Nat.le_refl _) _
  obtain ⟨q, hq⟩ : ∃ q, partsV k pk n ck = q := ⟨_, rfl⟩
  have HQ : Hid (partsV k pk n ck = q) := hq
  rw [hq]; clear hq
  by_cases k4 : k = 4
  · have HZ : Hid (q = .slice pk n ck) := by show q = _; rw [← HQ.out, partsV, if_pos (by simp [k4])]
    have f4 : (k == 4) = true := by simp [k4]
    clear HQ k4
    go_enter Tryd.func26, Tryd.ntmps26
    go_wp2_with fail
    go_ret
    exact ⟨by rw [HZ.out]; rfl, HB1.out⟩
  · by_cases k5 : k = 5
    · have HZ : Hid (q = .slice pk n ck) := by show q = _; rw [← HQ.out, partsV, if_pos (by simp [k5])]
      have f4 : (k == 4) = false := by simp [k4]
      have f5 : (k == 5) = true := by simp [k5]
      clear HQ k4 k5
      go_enter Tryd.func26, Tryd.ntmps26
      go_wp2_with fail
      go_ret
      exact ⟨by rw [HZ.out]; rfl, HB1.out⟩
    · by_cases k7 : k = 7
      · have HZ : Hid (q = .slice pk n ck) := by show q = _; rw [← HQ.out, partsV, if_pos (by simp [k7])]
        have f4 : (k == 4) = false := by simp [k4]
        have f5 : (k == 5) = false := by simp [k5]
        have f7 : (k == 7) = true := by simp [k7]
        clear HQ k4 k5 k7
        go_enter Tryd.func26, Tryd.ntmps26
        go_wp2_with fail
        go_ret
        exact ⟨by rw [HZ.out]; rfl, HB1.out⟩
      · have HZ : Hid (q = .slice none 0 0) := by show q = _; rw [← HQ.out, partsV, if_neg (by rintro (h | h | h) <;> contradiction)]
        have f4 : (k == 4) = false := by simp [k4]
        have f5 : (k == 5) = false := by simp [k5]
        have f7 : (k == 7) = false := by simp [k7]
        clear HQ k4 k5 k7
        go_enter Tryd.func26, Tryd.ntmps26
        go_wp2_with fail
        go_ret
        exact ⟨by rw [HZ.out]; rfl, HB1.out⟩

set_option maxHeartbeats 1000000 in
theorem ends_raw (k : Int) (n1 : Bool) (sl : Value) (hl : IsS sl) (S1 : ByteArray) (N1 : Int) (pk : Option Addr) (n ck : Nat) (w : World) (h2 : 2 ≤ n) (hc : n ≤ ck) : Calls Tryd.prog 36 #[.agg #[.int .i64 k, .bool n1, sl, .string S1, .int .i64 N1, .slice pk n ck]] w fun e w' => e = .returned (.slice pk 2 ck) ∧ Below w.heap.size w w' := by
  obtain ⟨pl, nl, cl, rfl⟩ := hl
  have h2' : (2 : Int) ≤ (n : Int) := by omega
  have hc3 : (2 : Int) ≤ (ck : Int) := by omega
  go_enter Tryd.func36, Tryd.ntmps36
  go_wp2_with fail
  go_ret
  exact ⟨rfl, (Below.refl _ _).alloc (Nat.le_refl _) _⟩

set_option maxRecDepth 100000 in
set_option maxHeartbeats 4000000 in
theorem cparts_raw (k : Int) (n1 : Bool) (sl : Value) (hl : IsS sl) (S1 : ByteArray) (N1 : Int) (pk : Option Addr) (n ck : Nat) (w : World) (h4 : k = 4 → 2 ≤ n) (hc : n ≤ ck) : Calls Tryd.prog 24 #[.agg #[.int .i64 k, .bool n1, sl, .string S1, .int .i64 N1, .slice pk n ck]] w fun e w' => e = .returned (cpartsV k pk n ck) ∧ Below w.heap.size w w' := by
  obtain ⟨pl, nl, cl, rfl⟩ := hl
  have HB1 : Hid (Below w.heap.size w (w.alloc (.cells #[.int .i64 k, .bool n1, .slice pl nl cl, .string S1, .int .i64 N1, .slice pk n ck] 27))) := (Below.refl w.heap.size w).alloc (Nat.le_refl _) _
  obtain ⟨q, hq⟩ : ∃ q, cpartsV k pk n ck = q := ⟨_, rfl⟩
  have HQ : Hid (cpartsV k pk n ck = q) := hq
  rw [hq]; clear hq
  by_cases k4 : k = 4
  · have HZ : Hid (q = .slice pk 2 ck) := by show q = _; rw [← HQ.out, cpartsV, if_pos k4]
    have h2 := h4 k4
    have fk : (k == 4) = true := by simp [k4]
    clear HQ k4 h4
    go_enter Tryd.func24, Tryd.ntmps24
    go_wp2_with fail
    refine (ends_raw k n1 _ ⟨_, _, _, rfl⟩ S1 N1 pk n ck _ h2 hc).mono ?_
    rintro e w1 ⟨rfl, b1⟩
    have hbb := HB1.out.trans (b1.mono HB1.out.size)
    clear HB1 b1
    go_wp2_with fail
    go_ret
    exact ⟨by rw [HZ.out]; rfl, hbb⟩
  · have HZ : Hid (q = partsV k pk n ck) := by show q = _; rw [← HQ.out, cpartsV, if_neg k4]
    have fk : (k == 4) = false := by simp [k4]
    clear HQ k4 h4
    obtain ⟨pz, nz, cz, hz⟩ : ∃ pz nz cz, partsV k pk n ck = .slice pz nz cz := by unfold partsV; split <;> exact ⟨_, _, _, rfl⟩
    rw [hz] at HZ
    have HZ2 : Hid (partsV k pk n ck = .slice pz nz cz) := hz
    clear hz
    go_enter Tryd.func24, Tryd.ntmps24
    go_wp2_with fail
    refine (parts_raw k n1 _ ⟨_, _, _, rfl⟩ S1 N1 pk n ck _).mono ?_
    rw [HZ2.out]
    rintro e w1 ⟨rfl, b1⟩
    have hbb := HB1.out.trans (b1.mono HB1.out.size)
    clear HB1 b1
    go_wp2_with fail
    go_ret
    exact ⟨by rw [HZ.out]; rfl, hbb⟩

/-- s is in every world the parts (by pt) of what reads as t there. -/
def PartOf (pt : Tm → List Tm) (t : Tm) (v s : Value) : Prop := ∀ w0, IsT w0 t v → Ts w0 s (pt t)
theorem tmV_inj {k k' : Int} {n n' : Bool} {sl sl' : Value} {S S' : ByteArray} {N N' : Int} {sk sk' : Value} (h : tmV k n sl S N sk = tmV k' n' sl' S' N' sk') : k = k' ∧ n = n' ∧ sl = sl' ∧ S = S' ∧ N = N' ∧ sk = sk' := by
  simpa [tmV] using h
theorem partOf_parts {t : Tm} {sl : Value} {pk : Option Addr} {ck : Nat} {v : Value} (hv : v = tmV t.kind t.neg sl t.str t.num (.slice pk t.kids.length ck)) : PartOf Tm.parts t v (partsV t.kind pk t.kids.length ck) := by
  intro w0 h
  obtain ⟨sl', sk', e, -, hk, -⟩ := h.open
  rw [hv] at e
  obtain ⟨-, -, -, -, -, rfl⟩ := tmV_inj e
  unfold Tm.parts partsV
  split
  · exact hk
  · exact Ts.nil _
theorem partOf_cparts {t : Tm} {sl : Value} {pk : Option Addr} {ck : Nat} {v : Value} (hv : v = tmV t.kind t.neg sl t.str t.num (.slice pk t.kids.length ck)) (h4 : t.kind = 4 → 2 ≤ t.kids.length) : PartOf Tm.cparts t v (cpartsV t.kind pk t.kids.length ck) := by
  intro w0 h
  unfold Tm.cparts cpartsV
  split
  · obtain ⟨sl', sk', e, -, hk, -⟩ := h.open
    rw [hv] at e
    obtain ⟨-, -, -, -, -, rfl⟩ := tmV_inj e
    exact hk.take 2 (h4 (by assumption))
  · exact partOf_parts hv w0 h

/-- What parts leaves. -/
def PartPost (pt : Tm → List Tm) (t : Tm) (v : Value) (w : World) (e : Ending) (w' : World) : Prop := ∃ s, e = .returned s ∧ PartOf pt t v s ∧ Below w.heap.size w w'
theorem parts_of (t : Tm) (v : Value) (w : World) (h : IsT w t v) : Calls Tryd.prog 26 #[v] w fun e w' => PartPost Tm.parts t v w e w' := by
  obtain ⟨sl, sk, rfl, hl, hk, -, -, -⟩ := h.open
  obtain ⟨pk, ck, rfl, hc1, hc2, -⟩ := hk.shape
  refine (parts_raw t.kind t.neg sl hl.isS t.str t.num pk t.kids.length ck w).mono ?_
  rintro e w1 ⟨rfl, b⟩
  exact ⟨_, rfl, partOf_parts rfl, b⟩
theorem cparts_of (t : Tm) (v : Value) (w : World) (h : IsT w t v) (h4 : t.kind = 4 → 2 ≤ t.kids.length) : Calls Tryd.prog 24 #[v] w fun e w' => PartPost Tm.cparts t v w e w' := by
  obtain ⟨sl, sk, rfl, hl, hk, -, -, -⟩ := h.open
  obtain ⟨pk, ck, rfl, hc1, hc2, -⟩ := hk.shape
  refine (cparts_raw t.kind t.neg sl hl.isS t.str t.num pk t.kids.length ck w h4 hc1).mono ?_
  rintro e w1 ⟨rfl, b⟩
  exact ⟨_, rfl, partOf_cparts rfl h4, b⟩
end Go.Proofs.YtfcdocgjmgpmkaaDoor
