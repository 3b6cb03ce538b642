
/-
  The law TermOrders: for every three terms it returns true.
-/
import Derived.Test.YtfcdocgjmgpmkaaDoorTermOrdM
import Derived.Test.YtfcdocgjmgpmkaaDoorTermAwake
import Derived.Deep.Cut
import Derived.Deep.CutRange
import Derived.Deep.RegionHeld3
namespace Go.Proofs.YtfcdocgjmgpmkaaDoor
open Go.RowKit
set_option linter.unusedVariables false
set_option linter.unusedSimpArgs false
attribute [local go_sem ↓] Go.wp_at_zero Go.wp_at_succ

theorem lexL_bd : ∀ (x y : List Int), -1 ≤ lexL x y ∧ lexL x y ≤ 1
  | [], [] => by simp [lexL]
  | [], _ :: _ => by simp [lexL]
  | _ :: _, [] => by simp [lexL]
  | a :: x, b :: y => by
    simp only [lexL]
    split
    · exact lexL_bd x y
    · exact sg_bd a b
theorem sbF_bd : ∀ (n : Nat) (xs ys : List Tm), (∀ t ∈ xs, tOk t) → (∀ t ∈ ys, tOk t) → -1 ≤ sbF Tm.cmp1 Tm.cparts n xs ys ∧ sbF Tm.cmp1 Tm.cparts n xs ys ≤ 1
  | 0, _, _, _, _ => by simp [sbF]
  | n + 1, [], _, _, _ => by simp [sbF]
  | n + 1, _ :: _, [], _, _ => by simp [sbF]
  | n + 1, x :: xs, y :: ys, hx, hy => by
    by_cases h : x.cmp1 y = 0
    · rw [sbF_eq0 h]; exact sbF_bd n _ _ (all_parts hx) (all_parts hy)
    · rw [sbF_ne0 h, cmp1_key (tOk_f (hx x (by simp))) (tOk_f (hy y (by simp)))]; exact lexL_bd _ _
theorem cmp_bd {a b : Tm} (ha : tOk a) (hb : tOk b) : -1 ≤ a.cmp b ∧ a.cmp b ≤ 1 := sbF_bd _ _ _ (one ha) (one hb)
theorem boxes3 (w : World) (a : Tm) (pla pka : Option Addr) (cla cka : Nat) (b : Tm) (plb pkb : Option Addr) (clb ckb : Nat) (c : Tm) (plc pkc : Option Addr) (clc ckc : Nat) : Bt (((w.alloc (.cells #[.int .i64 a.kind, .bool a.neg, .slice pla a.limbs.length cla, .string a.str, .int .i64 a.num, .slice pka a.kids.length cka] 27)).alloc (.cells #[.int .i64 b.kind, .bool b.neg, .slice plb b.limbs.length clb, .string b.str, .int .i64 b.num, .slice pkb b.kids.length ckb] 27)).alloc (.cells #[.int .i64 c.kind, .bool c.neg, .slice plc c.limbs.length clc, .string c.str, .int .i64 c.num, .slice pkc c.kids.length ckc] 27)) w.heap.size a.kind a.neg (.slice pla a.limbs.length cla) a.str a.num (.slice pka a.kids.length cka) ∧ Bt (((w.alloc (.cells #[.int .i64 a.kind, .bool a.neg, .slice pla a.limbs.length cla, .string a.str, .int .i64 a.num, .slice pka a.kids.length cka] 27)).alloc (.cells #[.int .i64 b.kind, .bool b.neg, .slice plb b.limbs.length clb, .string b.str, .int .i64 b.num, .slice pkb b.kids.length ckb] 27)).alloc (.cells #[.int .i64 c.kind, .bool c.neg, .slice plc c.limbs.length clc, .string c.str, .int .i64 c.num, .slice pkc c.kids.length ckc] 27)) (w.heap.size + 1) b.kind b.neg (.slice plb b.limbs.length clb) b.str b.num (.slice pkb b.kids.length ckb) ∧ Bt (((w.alloc (.cells #[.int .i64 a.kind, .bool a.neg, .slice pla a.limbs.length cla, .string a.str, .int .i64 a.num, .slice pka a.kids.length cka] 27)).alloc (.cells #[.int .i64 b.kind, .bool b.neg, .slice plb b.limbs.length clb, .string b.str, .int .i64 b.num, .slice pkb b.kids.length ckb] 27)).alloc (.cells #[.int .i64 c.kind, .bool c.neg, .slice plc c.limbs.length clc, .string c.str, .int .i64 c.num, .slice pkc c.kids.length ckc] 27)) (w.heap.size + 1 + 1) c.kind c.neg (.slice plc c.limbs.length clc) c.str c.num (.slice pkc c.kids.length ckc) ∧ Below w.heap.size w (((w.alloc (.cells #[.int .i64 a.kind, .bool a.neg, .slice pla a.limbs.length cla, .string a.str, .int .i64 a.num, .slice pka a.kids.length cka] 27)).alloc (.cells #[.int .i64 b.kind, .bool b.neg, .slice plb b.limbs.length clb, .string b.str, .int .i64 b.num, .slice pkb b.kids.length ckb] 27)).alloc (.cells #[.int .i64 c.kind, .bool c.neg, .slice plc c.limbs.length clc, .string c.str, .int .i64 c.num, .slice pkc c.kids.length ckc] 27)) := by
  have b1 := (Below.refl w.heap.size w).alloc (Nat.le_refl _) (.cells #[.int .i64 a.kind, .bool a.neg, .slice pla a.limbs.length cla, .string a.str, .int .i64 a.num, .slice pka a.kids.length cka] 27)
  have b2 := (Below.refl (w.alloc (.cells #[.int .i64 a.kind, .bool a.neg, .slice pla a.limbs.length cla, .string a.str, .int .i64 a.num, .slice pka a.kids.length cka] 27)).heap.size (w.alloc (.cells #[.int .i64 a.kind, .bool a.neg, .slice pla a.limbs.length cla, .string a.str, .int .i64 a.num, .slice pka a.kids.length cka] 27))).alloc (Nat.le_refl _) (.cells #[.int .i64 b.kind, .bool b.neg, .slice plb b.limbs.length clb, .string b.str, .int .i64 b.num, .slice pkb b.kids.length ckb] 27)
  have b3 := (Below.refl ((w.alloc (.cells #[.int .i64 a.kind, .bool a.neg, .slice pla a.limbs.length cla, .string a.str, .int .i64 a.num, .slice pka a.kids.length cka] 27)).alloc (.cells #[.int .i64 b.kind, .bool b.neg, .slice plb b.limbs.length clb, .string b.str, .int .i64 b.num, .slice pkb b.kids.length ckb] 27)).heap.size ((w.alloc (.cells #[.int .i64 a.kind, .bool a.neg, .slice pla a.limbs.length cla, .string a.str, .int .i64 a.num, .slice pka a.kids.length cka] 27)).alloc (.cells #[.int .i64 b.kind, .bool b.neg, .slice plb b.limbs.length clb, .string b.str, .int .i64 b.num, .slice pkb b.kids.length ckb] 27))).alloc (Nat.le_refl _) (.cells #[.int .i64 c.kind, .bool c.neg, .slice plc c.limbs.length clc, .string c.str, .int .i64 c.num, .slice pkc c.kids.length ckc] 27)
  have u1 := Bt.new w a.kind a.neg (.slice pla a.limbs.length cla) a.str a.num (.slice pka a.kids.length cka) ⟨_, _, _, rfl⟩ ⟨_, _, _, rfl⟩
  have u2 := Bt.new (w.alloc (.cells #[.int .i64 a.kind, .bool a.neg, .slice pla a.limbs.length cla, .string a.str, .int .i64 a.num, .slice pka a.kids.length cka] 27)) b.kind b.neg (.slice plb b.limbs.length clb) b.str b.num (.slice pkb b.kids.length ckb) ⟨_, _, _, rfl⟩ ⟨_, _, _, rfl⟩
  have u3 := Bt.new ((w.alloc (.cells #[.int .i64 a.kind, .bool a.neg, .slice pla a.limbs.length cla, .string a.str, .int .i64 a.num, .slice pka a.kids.length cka] 27)).alloc (.cells #[.int .i64 b.kind, .bool b.neg, .slice plb b.limbs.length clb, .string b.str, .int .i64 b.num, .slice pkb b.kids.length ckb] 27)) c.kind c.neg (.slice plc c.limbs.length clc) c.str c.num (.slice pkc c.kids.length ckc) ⟨_, _, _, rfl⟩ ⟨_, _, _, rfl⟩
  rw [World.size_alloc] at u2
  rw [World.size_alloc, World.size_alloc] at u3
  exact ⟨(u1.under b2).under b3, u2.under b3, u3, (b1.trans (b2.mono b1.size)).trans (b3.mono (by simp; omega))⟩

set_option maxRecDepth 100000 in
set_option maxHeartbeats 8000000 in
theorem termOrders_walk (a b c : Tm) (va vb vc : Value) (w : World) (ho : Ord w) (ia : IsT w a va) (ib : IsT w b vb) (ic : IsT w c vc) :
    Calls Tryd.prog 3 #[va, vb, vc] w fun e w' => e = .returned (.bool true) ∧ Below w.heap.size w w' := by
  have ja := ia
  obtain ⟨sla, ska, rfl, hla, hka, -, -, -⟩ := ja.open
  obtain ⟨pla, cla, rfl⟩ := hla.shape
  obtain ⟨pka, cka, rfl, -⟩ := hka.shape
  have jb := ib
  obtain ⟨slb, skb, rfl, hlb, hkb, -, -, -⟩ := jb.open
  obtain ⟨plb, clb, rfl⟩ := hlb.shape
  obtain ⟨pkb, ckb, rfl, -⟩ := hkb.shape
  have jc := ic
  obtain ⟨slc, skc, rfl, hlc, hkc, -, -, -⟩ := jc.open
  obtain ⟨plc, clc, rfl⟩ := hlc.shape
  obtain ⟨pkc, ckc, rfl, -⟩ := hkc.shape
  simp only [tmV] at *
  clear ja jb jc hla hlb hlc hka hkb hkc
  obtain ⟨ua, ub, uc, hB⟩ := boxes3 w a pla pka cla cka b plb pkb clb ckb c plc pkc clc ckc
  replace ia := ia.under hB
  replace ib := ib.under hB
  replace ic := ic.under hB
  replace ho := ho.under hB
  obtain ⟨a0, a1, a2, a3, a4, a5⟩ := ua.cells
  obtain ⟨b0, b1, b2, b3, b4, b5⟩ := ub.cells
  obtain ⟨c0, c1, c2, c3, c4, c5⟩ := uc.cells
  go_enter Tryd.func3, Tryd.ntmps3
  go_wp2_with fail
  refine (rcheckT_any a _ _ ia).mono ?_
  rintro e y1 ⟨q1, rfl, bw1, ha⟩
  clear a0 a1 a2 a3 a4 a5 b0 b1 b2 b3 b4 b5 c0 c1 c2 c3 c4 c5
  replace ua := ua.under bw1
  replace ia := ia.under bw1
  replace ub := ub.under bw1
  replace ib := ib.under bw1
  replace uc := uc.under bw1
  replace ic := ic.under bw1
  replace ho := ho.under bw1
  replace hB := hB.trans (bw1.mono hB.size)
  clear bw1
  obtain ⟨a0, a1, a2, a3, a4, a5⟩ := ua.cells
  obtain ⟨b0, b1, b2, b3, b4, b5⟩ := ub.cells
  obtain ⟨c0, c1, c2, c3, c4, c5⟩ := uc.cells
  cases q1 with
  | false =>
    go_wp2_with fail
    refine (tawake_any _).mono ?_
    rintro e x9 ⟨rfl, b9⟩
    go_wp2_with fail
    go_ret
    exact ⟨rfl, hB.trans (b9.mono hB.size)⟩
  | true =>
    go_wp2_with fail
    refine (rcheckT_any b _ _ ib).mono ?_
    rintro e y2 ⟨q2, rfl, bw2, hb⟩
    clear a0 a1 a2 a3 a4 a5 b0 b1 b2 b3 b4 b5 c0 c1 c2 c3 c4 c5
    replace ua := ua.under bw2
    replace ia := ia.under bw2
    replace ub := ub.under bw2
    replace ib := ib.under bw2
    replace uc := uc.under bw2
    replace ic := ic.under bw2
    replace ho := ho.under bw2
    replace hB := hB.trans (bw2.mono hB.size)
    clear bw2
    obtain ⟨a0, a1, a2, a3, a4, a5⟩ := ua.cells
    obtain ⟨b0, b1, b2, b3, b4, b5⟩ := ub.cells
    obtain ⟨c0, c1, c2, c3, c4, c5⟩ := uc.cells
    cases q2 with
    | false =>
      go_wp2_with fail
      refine (tawake_any _).mono ?_
      rintro e x9 ⟨rfl, b9⟩
      go_wp2_with fail
      go_ret
      exact ⟨rfl, hB.trans (b9.mono hB.size)⟩
    | true =>
      go_wp2_with fail
      refine (rcheckT_any c _ _ ic).mono ?_
      rintro e y3 ⟨q3, rfl, bw3, hc⟩
      clear a0 a1 a2 a3 a4 a5 b0 b1 b2 b3 b4 b5 c0 c1 c2 c3 c4 c5
      replace ua := ua.under bw3
      replace ia := ia.under bw3
      replace ub := ub.under bw3
      replace ib := ib.under bw3
      replace uc := uc.under bw3
      replace ic := ic.under bw3
      replace ho := ho.under bw3
      replace hB := hB.trans (bw3.mono hB.size)
      clear bw3
      obtain ⟨a0, a1, a2, a3, a4, a5⟩ := ua.cells
      obtain ⟨b0, b1, b2, b3, b4, b5⟩ := ub.cells
      obtain ⟨c0, c1, c2, c3, c4, c5⟩ := uc.cells
      cases q3 with
      | false =>
        go_wp2_with fail
        refine (tawake_any _).mono ?_
        rintro e x9 ⟨rfl, b9⟩
        go_wp2_with fail
        go_ret
        exact ⟨rfl, hB.trans (b9.mono hB.size)⟩
      | true =>
        generalize y3 = W at *
        have ta : tOk a := ⟨(ha (by trivial)).1, ia.lOk⟩
        have tb : tOk b := ⟨(hb (by trivial)).1, ib.lOk⟩
        have tc : tOk c := ⟨(hc (by trivial)).1, ic.lOk⟩
        have na : a.nodes ≤ 1000000 := by have := (ha (by trivial)).2; omega
        have nb : b.nodes ≤ 1000000 := by have := (hb (by trivial)).2; omega
        have cca : Hid a.cons2 := rOk_cons2 a ta.1
        have ccb : Hid b.cons2 := rOk_cons2 b tb.1
        have ccc : Hid c.cons2 := rOk_cons2 c tc.1
        obtain ⟨X, hX⟩ : ∃ X, a.cmp b = X := ⟨_, rfl⟩
        obtain ⟨Y, hY⟩ : ∃ Y, b.cmp c = Y := ⟨_, rfl⟩
        obtain ⟨Zc, hZ⟩ : ∃ Zc, a.cmp c = Zc := ⟨_, rfl⟩
        have HX : Hid (a.cmp b = X) := hX
        have HY : Hid (b.cmp c = Y) := hY
        have HZ : Hid (a.cmp c = Zc) := hZ
        have bX := cmp_bd ta tb
        rw [hX] at bX
        have HBA : Hid (b.cmp a = -X) := by show _ = _; rw [cmp_anti ta tb, hX]
        have HT1 : Hid (X ≤ 0 → Y ≤ 0 → Zc ≤ 0) := fun h1 h2 => by rw [← hZ]; exact cmp_t ta tb tc (by rw [hX]; exact h1) (by rw [hY]; exact h2)
        have HT2 : Hid (0 ≤ X → 0 ≤ Y → 0 ≤ Zc) := fun h1 h2 => by
          have e1 := cmp_anti ta tb
          have e2 := cmp_anti tb tc
          have e3 := cmp_anti ta tc
          have := cmp_t tc tb ta (by omega) (by omega)
          omega
        have HSY : Hid (X = 0 → a.same b = true) := fun h => (cmp_same ta tb).1 (hX.trans h)
        have HSN : Hid (X ≠ 0 → a.same b = false) := fun h => by
          cases hs : a.same b with
          | false => rfl
          | true => exact absurd (hX.symm.trans ((cmp_same ta tb).2 hs)) h
        have hwX : IntKind.i64.wrap (-X) = -X := by rw [IntKind.wrap_i64]; omega
        clear hX hY hZ ta tb tc ha hb hc
        have tokx : Tok 1 := trivial
        have toky : Tok 2 := trivial
        have tokz : Tok 3 := trivial
        go_upto_region 3 with fail
        go_cut [7, 8, 9] from 10 (fun x y z wc => x = .int .i64 X ∧ y = .int .i64 Y ∧ z = .int .i64 Zc ∧ Below W.heap.size W wc)
        case first =>
          go_region_held3 (fun w' => (w'.cell? ⟨w.heap.size, 0, none⟩ = some (.int .i64 a.kind) ∧ w'.cell? ⟨w.heap.size, 1, none⟩ = some (.bool a.neg) ∧ w'.cell? ⟨w.heap.size, 2, none⟩ = some (.slice pla a.limbs.length cla) ∧ w'.cell? ⟨w.heap.size, 3, none⟩ = some (.string a.str) ∧ w'.cell? ⟨w.heap.size, 4, none⟩ = some (.int .i64 a.num) ∧ w'.cell? ⟨w.heap.size, 5, none⟩ = some (.slice pka a.kids.length cka)) ∧ (w'.cell? ⟨(w.heap.size + 1), 0, none⟩ = some (.int .i64 b.kind) ∧ w'.cell? ⟨(w.heap.size + 1), 1, none⟩ = some (.bool b.neg) ∧ w'.cell? ⟨(w.heap.size + 1), 2, none⟩ = some (.slice plb b.limbs.length clb) ∧ w'.cell? ⟨(w.heap.size + 1), 3, none⟩ = some (.string b.str) ∧ w'.cell? ⟨(w.heap.size + 1), 4, none⟩ = some (.int .i64 b.num) ∧ w'.cell? ⟨(w.heap.size + 1), 5, none⟩ = some (.slice pkb b.kids.length ckb)) ∧ (w'.cell? ⟨(w.heap.size + 1 + 1), 0, none⟩ = some (.int .i64 c.kind) ∧ w'.cell? ⟨(w.heap.size + 1 + 1), 1, none⟩ = some (.bool c.neg) ∧ w'.cell? ⟨(w.heap.size + 1 + 1), 2, none⟩ = some (.slice plc c.limbs.length clc) ∧ w'.cell? ⟨(w.heap.size + 1 + 1), 3, none⟩ = some (.string c.str) ∧ w'.cell? ⟨(w.heap.size + 1 + 1), 4, none⟩ = some (.int .i64 c.num) ∧ w'.cell? ⟨(w.heap.size + 1 + 1), 5, none⟩ = some (.slice pkc c.kids.length ckc)))
            (first | exact ⟨(ua.under hcur).cells, (ub.under hcur).cells, (uc.under hcur).cells⟩ | exact ⟨(ua.under (Below.refl _ _).drew).cells, (ub.under (Below.refl _ _).drew).cells, (uc.under (Below.refl _ _).drew).cells⟩)
            (first
              | ((have := tokx; go_at_call_of 10 (Value.slice pka a.kids.length cka); go_at_call_of 10 (Value.slice pkb b.kids.length ckb); refine (tcmp_any a b _ _ _ (ho.under (by first | exact hcur | exact (Below.refl _ _).drew)) (cca.out) (ccb.out) (ia.under (by first | exact hcur | exact (Below.refl _ _).drew)) (ib.under (by first | exact hcur | exact (Below.refl _ _).drew)) na).mono ?_; rw [HX.out]; rintro e xab ⟨rfl, bz⟩; clear tokx; (first | (replace hcur : Below W.heap.size W xab := hcur.trans (bz.mono hcur.size)) | (have hcur : Below W.heap.size W xab := (Below.refl _ _).drew.trans bz)); clear bz))
              | ((have := toky; go_at_call_of 10 (Value.slice pkb b.kids.length ckb); go_at_call_of 10 (Value.slice pkc c.kids.length ckc); refine (tcmp_any b c _ _ _ (ho.under (by first | exact hcur | exact (Below.refl _ _).drew)) (ccb.out) (ccc.out) (ib.under (by first | exact hcur | exact (Below.refl _ _).drew)) (ic.under (by first | exact hcur | exact (Below.refl _ _).drew)) nb).mono ?_; rw [HY.out]; rintro e xbc ⟨rfl, bz⟩; clear toky; (first | (replace hcur : Below W.heap.size W xbc := hcur.trans (bz.mono hcur.size)) | (have hcur : Below W.heap.size W xbc := (Below.refl _ _).drew.trans bz)); clear bz))
              | ((have := tokz; go_at_call_of 10 (Value.slice pka a.kids.length cka); go_at_call_of 10 (Value.slice pkc c.kids.length ckc); refine (tcmp_any a c _ _ _ (ho.under (by first | exact hcur | exact (Below.refl _ _).drew)) (cca.out) (ccc.out) (ia.under (by first | exact hcur | exact (Below.refl _ _).drew)) (ic.under (by first | exact hcur | exact (Below.refl _ _).drew)) na).mono ?_; rw [HZ.out]; rintro e xac ⟨rfl, bz⟩; clear tokz; (first | (replace hcur : Below W.heap.size W xac := hcur.trans (bz.mono hcur.size)) | (have hcur : Below W.heap.size W xac := (Below.refl _ _).drew.trans bz)); clear bz)))
          all_goals
            go_wp2_with fail
            go_meet
            case rel => exact ⟨rfl, rfl, rfl, hcur⟩
        case rest =>
        obtain ⟨rfl, rfl, rfl, hBc⟩ := hcut
        clear a0 a1 a2 a3 a4 a5 b0 b1 b2 b3 b4 b5 c0 c1 c2 c3 c4 c5
        replace ua := ua.under hBc
        replace ia := ia.under hBc
        replace ub := ub.under hBc
        replace ib := ib.under hBc
        replace uc := uc.under hBc
        replace ic := ic.under hBc
        replace ho := ho.under hBc
        replace hB := hB.trans (hBc.mono hB.size)
        clear hBc
        obtain ⟨a0, a1, a2, a3, a4, a5⟩ := ua.cells
        obtain ⟨b0, b1, b2, b3, b4, b5⟩ := ub.cells
        obtain ⟨c0, c1, c2, c3, c4, c5⟩ := uc.cells
        by_cases hx : 0 < X
        · have hx2 : ¬ (X < 0) := by omega
          have hxe : (X == 0) = false := beq_eq_false_iff_ne.2 (by omega)
          by_cases hy : Y < 0
          · go_wp2_with fail
            refine (tcmp_any b a _ _ _ ho (ccb.out) (cca.out) ib ia nb).mono ?_
            rw [HBA.out]
            rintro e x1 ⟨rfl, k1⟩
            clear a0 a1 a2 a3 a4 a5 b0 b1 b2 b3 b4 b5 c0 c1 c2 c3 c4 c5
            replace ua := ua.under k1
            replace ia := ia.under k1
            replace ub := ub.under k1
            replace ib := ib.under k1
            replace uc := uc.under k1
            replace ic := ic.under k1
            replace ho := ho.under k1
            replace hB := hB.trans (k1.mono hB.size)
            clear k1
            obtain ⟨a0, a1, a2, a3, a4, a5⟩ := ua.cells
            obtain ⟨b0, b1, b2, b3, b4, b5⟩ := ub.cells
            obtain ⟨c0, c1, c2, c3, c4, c5⟩ := uc.cells
            go_wp2_with fail
            refine (tsame_any a b _ _ _ ia ib na).mono ?_
            rw [HSN.out (by omega)]
            rintro e x2 ⟨rfl, k2⟩
            clear a0 a1 a2 a3 a4 a5 b0 b1 b2 b3 b4 b5 c0 c1 c2 c3 c4 c5
            replace ua := ua.under k2
            replace ia := ia.under k2
            replace ub := ub.under k2
            replace ib := ib.under k2
            replace uc := uc.under k2
            replace ic := ic.under k2
            replace ho := ho.under k2
            replace hB := hB.trans (k2.mono hB.size)
            clear k2
            obtain ⟨a0, a1, a2, a3, a4, a5⟩ := ua.cells
            obtain ⟨b0, b1, b2, b3, b4, b5⟩ := ub.cells
            obtain ⟨c0, c1, c2, c3, c4, c5⟩ := uc.cells
            go_wp2_with fail
            refine (tcmp_any a a _ _ _ ho (cca.out) (cca.out) ia ia na).mono ?_
            rw [cmp_self]
            rintro e x3 ⟨rfl, k3⟩
            clear a0 a1 a2 a3 a4 a5 b0 b1 b2 b3 b4 b5 c0 c1 c2 c3 c4 c5
            replace ua := ua.under k3
            replace ia := ia.under k3
            replace ub := ub.under k3
            replace ib := ib.under k3
            replace uc := uc.under k3
            replace ic := ic.under k3
            replace ho := ho.under k3
            replace hB := hB.trans (k3.mono hB.size)
            clear k3
            go_wp2_with fail
            refine (tawake_any _).mono ?_
            rintro e x9 ⟨rfl, b9⟩
            go_wp2_with fail
            go_ret
            exact ⟨rfl, hB.trans (b9.mono hB.size)⟩
          · have hz2 : 0 ≤ Zc := HT2.out (by omega) (by omega)
            go_wp2_with fail
            refine (tcmp_any b a _ _ _ ho (ccb.out) (cca.out) ib ia nb).mono ?_
            rw [HBA.out]
            rintro e x1 ⟨rfl, k1⟩
            clear a0 a1 a2 a3 a4 a5 b0 b1 b2 b3 b4 b5 c0 c1 c2 c3 c4 c5
            replace ua := ua.under k1
            replace ia := ia.under k1
            replace ub := ub.under k1
            replace ib := ib.under k1
            replace uc := uc.under k1
            replace ic := ic.under k1
            replace ho := ho.under k1
            replace hB := hB.trans (k1.mono hB.size)
            clear k1
            obtain ⟨a0, a1, a2, a3, a4, a5⟩ := ua.cells
            obtain ⟨b0, b1, b2, b3, b4, b5⟩ := ub.cells
            obtain ⟨c0, c1, c2, c3, c4, c5⟩ := uc.cells
            go_wp2_with fail
            refine (tsame_any a b _ _ _ ia ib na).mono ?_
            rw [HSN.out (by omega)]
            rintro e x2 ⟨rfl, k2⟩
            clear a0 a1 a2 a3 a4 a5 b0 b1 b2 b3 b4 b5 c0 c1 c2 c3 c4 c5
            replace ua := ua.under k2
            replace ia := ia.under k2
            replace ub := ub.under k2
            replace ib := ib.under k2
            replace uc := uc.under k2
            replace ic := ic.under k2
            replace ho := ho.under k2
            replace hB := hB.trans (k2.mono hB.size)
            clear k2
            obtain ⟨a0, a1, a2, a3, a4, a5⟩ := ua.cells
            obtain ⟨b0, b1, b2, b3, b4, b5⟩ := ub.cells
            obtain ⟨c0, c1, c2, c3, c4, c5⟩ := uc.cells
            go_wp2_with fail
            refine (tcmp_any a a _ _ _ ho (cca.out) (cca.out) ia ia na).mono ?_
            rw [cmp_self]
            rintro e x3 ⟨rfl, k3⟩
            clear a0 a1 a2 a3 a4 a5 b0 b1 b2 b3 b4 b5 c0 c1 c2 c3 c4 c5
            replace ua := ua.under k3
            replace ia := ia.under k3
            replace ub := ub.under k3
            replace ib := ib.under k3
            replace uc := uc.under k3
            replace ic := ic.under k3
            replace ho := ho.under k3
            replace hB := hB.trans (k3.mono hB.size)
            clear k3
            go_wp2_with fail
            refine (tawake_any _).mono ?_
            rintro e x9 ⟨rfl, b9⟩
            go_wp2_with fail
            go_ret
            exact ⟨rfl, hB.trans (b9.mono hB.size)⟩
        · by_cases hx2 : X < 0
          · have hxe : (X == 0) = false := beq_eq_false_iff_ne.2 (by omega)
            by_cases hy : 0 < Y
            · go_wp2_with fail
              refine (tcmp_any b a _ _ _ ho (ccb.out) (cca.out) ib ia nb).mono ?_
              rw [HBA.out]
              rintro e x1 ⟨rfl, k1⟩
              clear a0 a1 a2 a3 a4 a5 b0 b1 b2 b3 b4 b5 c0 c1 c2 c3 c4 c5
              replace ua := ua.under k1
              replace ia := ia.under k1
              replace ub := ub.under k1
              replace ib := ib.under k1
              replace uc := uc.under k1
              replace ic := ic.under k1
              replace ho := ho.under k1
              replace hB := hB.trans (k1.mono hB.size)
              clear k1
              obtain ⟨a0, a1, a2, a3, a4, a5⟩ := ua.cells
              obtain ⟨b0, b1, b2, b3, b4, b5⟩ := ub.cells
              obtain ⟨c0, c1, c2, c3, c4, c5⟩ := uc.cells
              go_wp2_with fail
              refine (tsame_any a b _ _ _ ia ib na).mono ?_
              rw [HSN.out (by omega)]
              rintro e x2 ⟨rfl, k2⟩
              clear a0 a1 a2 a3 a4 a5 b0 b1 b2 b3 b4 b5 c0 c1 c2 c3 c4 c5
              replace ua := ua.under k2
              replace ia := ia.under k2
              replace ub := ub.under k2
              replace ib := ib.under k2
              replace uc := uc.under k2
              replace ic := ic.under k2
              replace ho := ho.under k2
              replace hB := hB.trans (k2.mono hB.size)
              clear k2
              obtain ⟨a0, a1, a2, a3, a4, a5⟩ := ua.cells
              obtain ⟨b0, b1, b2, b3, b4, b5⟩ := ub.cells
              obtain ⟨c0, c1, c2, c3, c4, c5⟩ := uc.cells
              go_wp2_with fail
              refine (tcmp_any a a _ _ _ ho (cca.out) (cca.out) ia ia na).mono ?_
              rw [cmp_self]
              rintro e x3 ⟨rfl, k3⟩
              clear a0 a1 a2 a3 a4 a5 b0 b1 b2 b3 b4 b5 c0 c1 c2 c3 c4 c5
              replace ua := ua.under k3
              replace ia := ia.under k3
              replace ub := ub.under k3
              replace ib := ib.under k3
              replace uc := uc.under k3
              replace ic := ic.under k3
              replace ho := ho.under k3
              replace hB := hB.trans (k3.mono hB.size)
              clear k3
              go_wp2_with fail
              refine (tawake_any _).mono ?_
              rintro e x9 ⟨rfl, b9⟩
              go_wp2_with fail
              go_ret
              exact ⟨rfl, hB.trans (b9.mono hB.size)⟩
            · have hz : Zc ≤ 0 := HT1.out (by omega) (by omega)
              go_wp2_with fail
              refine (tcmp_any b a _ _ _ ho (ccb.out) (cca.out) ib ia nb).mono ?_
              rw [HBA.out]
              rintro e x1 ⟨rfl, k1⟩
              clear a0 a1 a2 a3 a4 a5 b0 b1 b2 b3 b4 b5 c0 c1 c2 c3 c4 c5
              replace ua := ua.under k1
              replace ia := ia.under k1
              replace ub := ub.under k1
              replace ib := ib.under k1
              replace uc := uc.under k1
              replace ic := ic.under k1
              replace ho := ho.under k1
              replace hB := hB.trans (k1.mono hB.size)
              clear k1
              obtain ⟨a0, a1, a2, a3, a4, a5⟩ := ua.cells
              obtain ⟨b0, b1, b2, b3, b4, b5⟩ := ub.cells
              obtain ⟨c0, c1, c2, c3, c4, c5⟩ := uc.cells
              go_wp2_with fail
              refine (tsame_any a b _ _ _ ia ib na).mono ?_
              rw [HSN.out (by omega)]
              rintro e x2 ⟨rfl, k2⟩
              clear a0 a1 a2 a3 a4 a5 b0 b1 b2 b3 b4 b5 c0 c1 c2 c3 c4 c5
              replace ua := ua.under k2
              replace ia := ia.under k2
              replace ub := ub.under k2
              replace ib := ib.under k2
              replace uc := uc.under k2
              replace ic := ic.under k2
              replace ho := ho.under k2
              replace hB := hB.trans (k2.mono hB.size)
              clear k2
              obtain ⟨a0, a1, a2, a3, a4, a5⟩ := ua.cells
              obtain ⟨b0, b1, b2, b3, b4, b5⟩ := ub.cells
              obtain ⟨c0, c1, c2, c3, c4, c5⟩ := uc.cells
              go_wp2_with fail
              refine (tcmp_any a a _ _ _ ho (cca.out) (cca.out) ia ia na).mono ?_
              rw [cmp_self]
              rintro e x3 ⟨rfl, k3⟩
              clear a0 a1 a2 a3 a4 a5 b0 b1 b2 b3 b4 b5 c0 c1 c2 c3 c4 c5
              replace ua := ua.under k3
              replace ia := ia.under k3
              replace ub := ub.under k3
              replace ib := ib.under k3
              replace uc := uc.under k3
              replace ic := ic.under k3
              replace ho := ho.under k3
              replace hB := hB.trans (k3.mono hB.size)
              clear k3
              go_wp2_with fail
              refine (tawake_any _).mono ?_
              rintro e x9 ⟨rfl, b9⟩
              go_wp2_with fail
              go_ret
              exact ⟨rfl, hB.trans (b9.mono hB.size)⟩
          · obtain rfl : X = 0 := by omega
            by_cases hy : 0 < Y
            · have hy2 : ¬ (Y < 0) := by omega
              have hz2 : 0 ≤ Zc := HT2.out (by omega) (by omega)
              go_wp2_with fail
              refine (tcmp_any b a _ _ _ ho (ccb.out) (cca.out) ib ia nb).mono ?_
              rw [HBA.out]
              rintro e x1 ⟨rfl, k1⟩
              clear a0 a1 a2 a3 a4 a5 b0 b1 b2 b3 b4 b5 c0 c1 c2 c3 c4 c5
              replace ua := ua.under k1
              replace ia := ia.under k1
              replace ub := ub.under k1
              replace ib := ib.under k1
              replace uc := uc.under k1
              replace ic := ic.under k1
              replace ho := ho.under k1
              replace hB := hB.trans (k1.mono hB.size)
              clear k1
              obtain ⟨a0, a1, a2, a3, a4, a5⟩ := ua.cells
              obtain ⟨b0, b1, b2, b3, b4, b5⟩ := ub.cells
              obtain ⟨c0, c1, c2, c3, c4, c5⟩ := uc.cells
              go_wp2_with fail
              refine (tsame_any a b _ _ _ ia ib na).mono ?_
              rw [HSY.out (by trivial)]
              rintro e x2 ⟨rfl, k2⟩
              clear a0 a1 a2 a3 a4 a5 b0 b1 b2 b3 b4 b5 c0 c1 c2 c3 c4 c5
              replace ua := ua.under k2
              replace ia := ia.under k2
              replace ub := ub.under k2
              replace ib := ib.under k2
              replace uc := uc.under k2
              replace ic := ic.under k2
              replace ho := ho.under k2
              replace hB := hB.trans (k2.mono hB.size)
              clear k2
              obtain ⟨a0, a1, a2, a3, a4, a5⟩ := ua.cells
              obtain ⟨b0, b1, b2, b3, b4, b5⟩ := ub.cells
              obtain ⟨c0, c1, c2, c3, c4, c5⟩ := uc.cells
              go_wp2_with fail
              refine (tcmp_any a a _ _ _ ho (cca.out) (cca.out) ia ia na).mono ?_
              rw [cmp_self]
              rintro e x3 ⟨rfl, k3⟩
              clear a0 a1 a2 a3 a4 a5 b0 b1 b2 b3 b4 b5 c0 c1 c2 c3 c4 c5
              replace ua := ua.under k3
              replace ia := ia.under k3
              replace ub := ub.under k3
              replace ib := ib.under k3
              replace uc := uc.under k3
              replace ic := ic.under k3
              replace ho := ho.under k3
              replace hB := hB.trans (k3.mono hB.size)
              clear k3
              go_wp2_with fail
              refine (tawake_any _).mono ?_
              rintro e x9 ⟨rfl, b9⟩
              go_wp2_with fail
              go_ret
              exact ⟨rfl, hB.trans (b9.mono hB.size)⟩
            · by_cases hy2 : Y < 0
              · have hz : Zc ≤ 0 := HT1.out (by omega) (by omega)
                go_wp2_with fail
                refine (tcmp_any b a _ _ _ ho (ccb.out) (cca.out) ib ia nb).mono ?_
                rw [HBA.out]
                rintro e x1 ⟨rfl, k1⟩
                clear a0 a1 a2 a3 a4 a5 b0 b1 b2 b3 b4 b5 c0 c1 c2 c3 c4 c5
                replace ua := ua.under k1
                replace ia := ia.under k1
                replace ub := ub.under k1
                replace ib := ib.under k1
                replace uc := uc.under k1
                replace ic := ic.under k1
                replace ho := ho.under k1
                replace hB := hB.trans (k1.mono hB.size)
                clear k1
                obtain ⟨a0, a1, a2, a3, a4, a5⟩ := ua.cells
                obtain ⟨b0, b1, b2, b3, b4, b5⟩ := ub.cells
                obtain ⟨c0, c1, c2, c3, c4, c5⟩ := uc.cells
                go_wp2_with fail
                refine (tsame_any a b _ _ _ ia ib na).mono ?_
                rw [HSY.out (by trivial)]
                rintro e x2 ⟨rfl, k2⟩
                clear a0 a1 a2 a3 a4 a5 b0 b1 b2 b3 b4 b5 c0 c1 c2 c3 c4 c5
                replace ua := ua.under k2
                replace ia := ia.under k2
                replace ub := ub.under k2
                replace ib := ib.under k2
                replace uc := uc.under k2
                replace ic := ic.under k2
                replace ho := ho.under k2
                replace hB := hB.trans (k2.mono hB.size)
                clear k2
                obtain ⟨a0, a1, a2, a3, a4, a5⟩ := ua.cells
                obtain ⟨b0, b1, b2, b3, b4, b5⟩ := ub.cells
                obtain ⟨c0, c1, c2, c3, c4, c5⟩ := uc.cells
                go_wp2_with fail
                refine (tcmp_any a a _ _ _ ho (cca.out) (cca.out) ia ia na).mono ?_
                rw [cmp_self]
                rintro e x3 ⟨rfl, k3⟩
                clear a0 a1 a2 a3 a4 a5 b0 b1 b2 b3 b4 b5 c0 c1 c2 c3 c4 c5
                replace ua := ua.under k3
                replace ia := ia.under k3
                replace ub := ub.under k3
                replace ib := ib.under k3
                replace uc := uc.under k3
                replace ic := ic.under k3
                replace ho := ho.under k3
                replace hB := hB.trans (k3.mono hB.size)
                clear k3
                go_wp2_with fail
                refine (tawake_any _).mono ?_
                rintro e x9 ⟨rfl, b9⟩
                go_wp2_with fail
                go_ret
                exact ⟨rfl, hB.trans (b9.mono hB.size)⟩
              · have hz : Zc ≤ 0 := HT1.out (by omega) (by omega)
                have hz2 : 0 ≤ Zc := HT2.out (by omega) (by omega)
                go_wp2_with fail
                refine (tcmp_any b a _ _ _ ho (ccb.out) (cca.out) ib ia nb).mono ?_
                rw [HBA.out]
                rintro e x1 ⟨rfl, k1⟩
                clear a0 a1 a2 a3 a4 a5 b0 b1 b2 b3 b4 b5 c0 c1 c2 c3 c4 c5
                replace ua := ua.under k1
                replace ia := ia.under k1
                replace ub := ub.under k1
                replace ib := ib.under k1
                replace uc := uc.under k1
                replace ic := ic.under k1
                replace ho := ho.under k1
                replace hB := hB.trans (k1.mono hB.size)
                clear k1
                obtain ⟨a0, a1, a2, a3, a4, a5⟩ := ua.cells
                obtain ⟨b0, b1, b2, b3, b4, b5⟩ := ub.cells
                obtain ⟨c0, c1, c2, c3, c4, c5⟩ := uc.cells
                go_wp2_with fail
                refine (tsame_any a b _ _ _ ia ib na).mono ?_
                rw [HSY.out (by trivial)]
                rintro e x2 ⟨rfl, k2⟩
                clear a0 a1 a2 a3 a4 a5 b0 b1 b2 b3 b4 b5 c0 c1 c2 c3 c4 c5
                replace ua := ua.under k2
                replace ia := ia.under k2
                replace ub := ub.under k2
                replace ib := ib.under k2
                replace uc := uc.under k2
                replace ic := ic.under k2
                replace ho := ho.under k2
                replace hB := hB.trans (k2.mono hB.size)
                clear k2
                obtain ⟨a0, a1, a2, a3, a4, a5⟩ := ua.cells
                obtain ⟨b0, b1, b2, b3, b4, b5⟩ := ub.cells
                obtain ⟨c0, c1, c2, c3, c4, c5⟩ := uc.cells
                go_wp2_with fail
                refine (tcmp_any a a _ _ _ ho (cca.out) (cca.out) ia ia na).mono ?_
                rw [cmp_self]
                rintro e x3 ⟨rfl, k3⟩
                clear a0 a1 a2 a3 a4 a5 b0 b1 b2 b3 b4 b5 c0 c1 c2 c3 c4 c5
                replace ua := ua.under k3
                replace ia := ia.under k3
                replace ub := ub.under k3
                replace ib := ib.under k3
                replace uc := uc.under k3
                replace ic := ic.under k3
                replace ho := ho.under k3
                replace hB := hB.trans (k3.mono hB.size)
                clear k3
                go_wp2_with fail
                refine (tawake_any _).mono ?_
                rintro e x9 ⟨rfl, b9⟩
                go_wp2_with fail
                go_ret
                exact ⟨rfl, hB.trans (b9.mono hB.size)⟩
end Go.Proofs.YtfcdocgjmgpmkaaDoor
