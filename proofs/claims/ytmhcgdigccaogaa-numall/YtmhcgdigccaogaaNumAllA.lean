/-
  What the law NumAll wants beside the contracts: relictlaw00.Num, relictlaw02.few, Check as one answer, two copies side by side.
-/
import Derived.Test.YtmhcgdigccaogaaNumRefO
namespace Go.Proofs.Ytmhcgdigccaogaa
open Go.RowKit
set_option linter.unusedVariables false

def CopyPost (w : World) (n : Bool) (zs : List Int) (e : Ending) (w' : World) : Prop := ∃ v, e = .returned v ∧ Nu w' v n zs ∧ Below w.heap.size w w'

set_option maxHeartbeats 1000000 in
theorem copy_any (n : Bool) (s : Value) (zs : List Int) (w : World) (hs : Sl w s zs) (hl : zs.length ≤ 1000000) :
    Calls Try.prog 7 #[.agg #[.bool n, s]] w fun e w' => CopyPost w n zs e w' := by
  obtain ⟨p, c, rfl⟩ := hs.shape
  obtain ⟨hb1, x0, x1⟩ := boxes1 w n p zs.length c
  have hs1 := hs.below hb1
  go_enter Try.func7, Try.ntmps7
  go_wp2_with fail
  generalize (w.alloc (.cells #[.bool n, .slice p zs.length c] 24)).alloc (.cells #[.bool false, .slice none 0 0] 24) = w0 at *
  go_region_held3 (fun w' => w'.cell? ⟨w.heap.size, 0, none⟩ = some (.bool n) ∧ w'.cell? ⟨w.heap.size, 1, none⟩ = some (.slice p zs.length c))
    (first | exact x0.held ((Below.refl _ _).drew) | exact x0.held hk1 | exact x0.held3 hk1 (by omega))
    (first
      | (go_at_call 27; refine (limbs_any _ zs _ (hs1.below ((Below.refl _ _).drew)) hl).mono ?_; rintro e w1 ⟨v1, rfl, o1, b1⟩; have hk1 : Below w0.heap.size w0 w1 := bcall ((Below.refl _ _).drew) b1; have t1 := o1.sl hs.ok; obtain ⟨p1, c1, rfl⟩ := t1.shape; obtain ⟨d0, d1, f0, f1, l1⟩ := (x1.under hk1).facts))
  have u1 := x1.under hk1
  have hB := hb1.trans (hk1.mono hb1.size)
  clear x0 x1 hs hs1 o1 hk1 hb1
  go_wp2_with fail
  refine bodyPost_ret (results_box1 rfl _ _ (w.heap.size + 1) _ _ rfl u1.set) rfl ?_
  exact ⟨_, rfl, ⟨_, rfl, t1.box u1 (setBx_but _ _ _ _)⟩, hB.trans ((setBx_but _ _ _ _).below (by omega))⟩

theorem few_any (na nb b : Bool) (sa sb : Value) (za zb : List Int) (w : World) (hsa : Sl w sa za) (hsb : Sl w sb zb) (hb : (decide (za.length ≤ 30) && decide (zb.length ≤ 30)) = b) :
    Calls Try.prog 5 #[.agg #[.bool na, sa], .agg #[.bool nb, sb]] w fun e w' => e = .returned (.bool b) ∧ Below w.heap.size w w' := by
  obtain ⟨pa, ca, rfl⟩ := hsa.shape
  obtain ⟨pb, cb, rfl⟩ := hsb.shape
  obtain ⟨hB, ua, ub⟩ := boxes2' w na nb pa pb za.length ca zb.length cb
  by_cases h1 : za.length ≤ 30
  · have h1' : (za.length : Int) ≤ 30 := by omega
    by_cases h2 : zb.length ≤ 30
    · have h2' : (zb.length : Int) ≤ 30 := by omega
      have HB : Hid (true = b) := by show true = b; rw [← hb]; simp [h1, h2]
      clear hb
      go_enter Try.func5, Try.ntmps5
      go_wp2_with fail
      go_ret
      exact ⟨by rw [← HB.out]; rfl, hB⟩
    · have h2' : ¬ (zb.length : Int) ≤ 30 := by omega
      have HB : Hid (false = b) := by show false = b; rw [← hb]; simp [h2]
      clear hb
      go_enter Try.func5, Try.ntmps5
      go_wp2_with fail
      go_ret
      exact ⟨by rw [← HB.out]; rfl, hB⟩
  · have h1' : ¬ (za.length : Int) ≤ 30 := by omega
    have HB : Hid (false = b) := by show false = b; rw [← hb]; simp [h1]
    clear hb
    go_enter Try.func5, Try.ntmps5
    go_wp2_with fail
    go_ret
    exact ⟨by rw [← HB.out]; rfl, hB⟩

theorem check_is (g neg : Bool) (s : Value) (zs : List Int) (w : World) (hs : Sl w s zs) (hg : g = true ↔ Good neg zs) :
    Calls Try.prog 13 #[.agg #[.bool neg, s]] w fun e w' => e = .returned (.bool g) ∧ Below w.heap.size w w' := by
  cases g
  · exact check_no neg s zs w hs (fun h => by have := hg.2 h; cases this)
  · exact check_yes neg s zs w hs (hg.1 rfl)
theorem rcheck_is (g neg : Bool) (s : Value) (zs : List Int) (w : World) (hs : Sl w s zs) (hg : g = true ↔ Good neg zs) :
    Calls Try.prog 14 #[.agg #[.bool neg, s]] w fun e w' => e = .returned (.bool g) ∧ Below w.heap.size w w' := by
  cases g
  · exact rcheck_no neg s zs w hs (fun h => by have := hg.2 h; cases this)
  · exact rcheck_yes neg s zs w hs (hg.1 rfl)

theorem rbits_is (v : Value) (x : Int) (n : Nat) (w : World) (h : Nx w v x) (hn : IsLen (Int.natAbs x) n) : Calls Try.prog 22 #[v] w fun e w' => e = .returned (.int .i64 n) ∧ Below w.heap.size w w' := by
  refine (rbits_any v x w h).mono ?_
  rintro e w' ⟨m, rfl, hm, -, hb⟩
  rw [hn.one hm]
  exact ⟨rfl, hb⟩

/-- A variable that holds a sign and limbs. -/
def VarR (w : World) (s : Value) (n : Bool) (zs : List Int) : Prop := ∃ g p c, s = .pointer (some ⟨g, 0, none⟩) ∧ Bx w g n (.slice p (List.length zs) c) ∧ Sl w (.slice p zs.length c) zs
theorem VarR.below {w w' : World} {s : Value} {n : Bool} {zs : List Int} (h : VarR w s n zs) (hb : Below w.heap.size w w') : VarR w' s n zs := by
  obtain ⟨g, p, c, rfl, h1, h2⟩ := h
  exact ⟨g, p, c, rfl, h1.under hb, h2.below hb⟩
theorem VarR.new {w : World} {n : Bool} {p : Option Addr} {z : List Int} {c : Nat} (t : Sl w (.slice p z.length c) z) :
    VarR (w.alloc (.cells #[.bool n, .slice p z.length c] 24)) (.pointer (some ⟨w.heap.size, 0, none⟩)) n z :=
  ⟨w.heap.size, p, c, rfl, Bx.new w n p z.length c, t.below ((Below.refl _ _).alloc (Nat.le_refl _) _)⟩
theorem VarR.put {w : World} {g : Nat} {n m : Bool} {p : Option Addr} {z : List Int} {c : Nat} {s : Value} (u : Bx w g m s) (t : Sl w (.slice p z.length c) z) :
    VarR (setBx w g n (.slice p z.length c)) (.pointer (some ⟨g, 0, none⟩)) n z :=
  ⟨g, p, c, rfl, u.set, t.box u (setBx_but _ _ _ _)⟩
theorem VarR.keep {w w' : World} {s : Value} {n : Bool} {zs : List Int} {g : Nat} {m : Bool} {s' : Value} (h : VarR w s n zs) (u : Bx w g m s') (hb : But g w w') (hne : s ≠ .pointer (some ⟨g, 0, none⟩)) : VarR w' s n zs := by
  obtain ⟨g', p, c, rfl, h1, h2⟩ := h
  refine ⟨g', p, c, rfl, h1.other hb ?_, h2.box u hb⟩
  intro e
  subst e
  exact hne rfl

def RPair (w : World) (n1 : Bool) (z1 : List Int) (n2 : Bool) (z2 : List Int) (s q : Value) (wc : World) : Prop := VarR wc s n1 z1 ∧ VarR wc q n2 z2 ∧ Below w.heap.size w wc
section
variable {w w2 : World} {n1 n2 : Bool} {p1 p2 : Option Addr} {z1 z2 : List Int} {q1 q2 gA gB : Nat}
theorem rpair1 (hk : Below w.heap.size w w2) (t1 : Sl w2 (.slice p1 z1.length q1) z1) (t2 : Sl w2 (.slice p2 z2.length q2) z2) :
    RPair w n1 z1 n2 z2 (.pointer (some ⟨w2.heap.size, 0, none⟩)) (.pointer (some ⟨w2.heap.size + 1, 0, none⟩)) ((w2.alloc (.cells #[.bool n1, .slice p1 z1.length q1] 24)).alloc (.cells #[.bool n2, .slice p2 z2.length q2] 24)) := by
  have b1 := (Below.refl w2.heap.size w2).alloc (Nat.le_refl _) (.cells #[.bool n1, .slice p1 z1.length q1] 24)
  have v2 := VarR.new (n := n2) (t2.below b1)
  rw [World.size_alloc] at v2
  exact ⟨(VarR.new t1).below ((Below.refl _ _).alloc (Nat.le_refl _) _), v2, balloc (balloc hk _) _⟩
theorem rpair2 (hk : Below w.heap.size w w2) (t1 : Sl w2 (.slice p1 z1.length q1) z1) (t2 : Sl w2 (.slice p2 z2.length q2) z2) :
    RPair w n1 z1 n2 z2 (.pointer (some ⟨w2.heap.size + 1, 0, none⟩)) (.pointer (some ⟨w2.heap.size, 0, none⟩)) ((w2.alloc (.cells #[.bool n2, .slice p2 z2.length q2] 24)).alloc (.cells #[.bool n1, .slice p1 z1.length q1] 24)) :=
  have h := rpair1 hk t2 t1
  ⟨h.2.1, h.1, h.2.2⟩
theorem rpair3 (hk : Below w.heap.size w w2) (uA : Bx w2 gA false (.slice none 0 0)) (hA : w.heap.size ≤ gA) (t1 : Sl w2 (.slice p1 z1.length q1) z1) (t2 : Sl w2 (.slice p2 z2.length q2) z2) :
    RPair w n1 z1 n2 z2 (.pointer (some ⟨gA, 0, none⟩)) (.pointer (some ⟨w2.heap.size, 0, none⟩)) (((w2.setCell ⟨gA, 0, none⟩ (.bool n1)).setCell ⟨gA, 1, none⟩ (.slice p1 z1.length q1)).alloc (.cells #[.bool n2, .slice p2 z2.length q2] 24)) := by
  have bA := setBx_but w2 gA n1 (.slice p1 z1.length q1)
  have v2 := VarR.new (n := n2) (t2.box uA bA)
  rw [setBx_size] at v2
  exact ⟨(VarR.put uA t1).below ((Below.refl _ _).alloc (Nat.le_refl _) _), v2, balloc (hk.trans (bA.below hA)) _⟩
theorem rpair4 (hk : Below w.heap.size w w2) (uA : Bx w2 gA false (.slice none 0 0)) (hA : w.heap.size ≤ gA) (t1 : Sl w2 (.slice p1 z1.length q1) z1) (t2 : Sl w2 (.slice p2 z2.length q2) z2) :
    RPair w n1 z1 n2 z2 (.pointer (some ⟨w2.heap.size, 0, none⟩)) (.pointer (some ⟨gA, 0, none⟩)) (((w2.setCell ⟨gA, 0, none⟩ (.bool n2)).setCell ⟨gA, 1, none⟩ (.slice p2 z2.length q2)).alloc (.cells #[.bool n1, .slice p1 z1.length q1] 24)) :=
  have h := rpair3 hk uA hA t2 t1
  ⟨h.2.1, h.1, h.2.2⟩
theorem rpair5 (hk : Below w.heap.size w w2) (uA : Bx w2 gA false (.slice none 0 0)) (uB : Bx w2 gB false (.slice none 0 0)) (hne : gA ≠ gB) (hA : w.heap.size ≤ gA) (hB : w.heap.size ≤ gB) (t1 : Sl w2 (.slice p1 z1.length q1) z1) (t2 : Sl w2 (.slice p2 z2.length q2) z2) :
    RPair w n1 z1 n2 z2 (.pointer (some ⟨gA, 0, none⟩)) (.pointer (some ⟨gB, 0, none⟩)) ((((w2.setCell ⟨gA, 0, none⟩ (.bool n1)).setCell ⟨gA, 1, none⟩ (.slice p1 z1.length q1)).setCell ⟨gB, 0, none⟩ (.bool n2)).setCell ⟨gB, 1, none⟩ (.slice p2 z2.length q2)) := by
  have bA := setBx_but w2 gA n1 (.slice p1 z1.length q1)
  have bB := setBx_but (setBx w2 gA n1 (.slice p1 z1.length q1)) gB n2 (.slice p2 z2.length q2)
  have uB' := uB.other bA hne.symm
  exact ⟨(VarR.put uA t1).keep uB' bB (ptr_ne hne), VarR.put uB' (t2.box uA bA), (hk.trans (bA.below hA)).trans (bB.below hB)⟩
end
end Go.Proofs.Ytmhcgdigccaogaa
