
/-
  term.spell.
-/
import Derived.Test.YtfcdocgjmgpmkaaDoorZTermC
import Derived.Deep.RegionHeld3
import Derived.Sort.CutIn
namespace Go.Proofs.YtfcdocgjmgpmkaaDoor
open Go.RowKit Go.Shelf
set_option linter.unusedVariables false
set_option linter.unusedSimpArgs false
attribute [local go_sem] Oper.semAt_some

/-- What spell leaves: the marks and the terms lie on those that waited. -/
def SpellPost (w0 w : World) (g : Nat) (ps : List (Value × Tm)) (K : List Tm) (b m e : ByteArray) (ed : Ending) (w' : World) : Prop :=
  ∃ (xs : List (El w0)) (g' cap' : Nat), Came K xs ∧ xs.length = K.length ∧ ed = .returned (.slice (some ⟨g', 0, none⟩) (stk ps e m xs ++ [(mkV b, tmMark b)]).length cap') ∧
    WaitT w' w0.heap.size (.slice (some ⟨g', 0, none⟩) (stk ps e m xs ++ [(mkV b, tmMark b)]).length cap') (stk ps e m xs ++ [(mkV b, tmMark b)]) ∧ w.grownBy w' (some g) ∧ (g' = g ∨ w.heap.size ≤ g')

set_option maxRecDepth 100000 in
set_option maxHeartbeats 8000000 in
theorem spell_any (b m e : ByteArray) (g cap : Nat) (vl : Value) (ps : List (Value × Tm)) (K : List Tm) (w0 w : World) (hT : Ts w0 vl K) (hb : Below w0.heap.size w0 w) (hW : WaitT w w0.heap.size (.slice (some ⟨g, 0, none⟩) ps.length cap) ps) (hl : ps.length + 2 * K.length + 4 ≤ 1000000) :
    Calls Tryd.prog 35 #[.slice (some ⟨g, 0, none⟩) ps.length cap, .string b, vl, .string m, .string e] w fun ed w' => SpellPost w0 w g ps K b m e ed w' := by
  obtain ⟨ti, hi, hz0, hz1, hz2⟩ := info_parts Tryd.infoT
  refine (callsIn_wide (n := 4)).1 ?_
  refine callsIn_of_wp_marks Tryd.func35 rfl trivial ?_ rfl
  simp only [Tryd.ntmps35, List.size_toArray, List.length_cons, List.length_nil, Nat.reduceAdd, Nat.reduceSub, Array.replicate_succ, Array.replicate_zero, List.push_toArray, List.append_toArray, List.nil_append, List.cons_append]
  have hbs := hb.size
  have hgB : w0.heap.size ≤ g := (World.ownsRow.lt hW g rfl).1
  have hgl : g < w.heap.size := (World.ownsRow.lt hW g rfl).2
  have hP0 : Pz w0.heap.size w g w.heap.size m (.slice (some ⟨g, 0, none⟩) ps.length cap) g cap ps.length (flat ps) ((w.alloc (.cells #[.slice (some ⟨g, 0, none⟩) ps.length cap] 25)).alloc (.cells #[.string m] 9)) := Pz.new hW rfl hgl
  gi_wp2_with fail
  generalize (w.alloc (.cells #[.slice (some ⟨g, 0, none⟩) ps.length cap] 25)).alloc (.cells #[.string m] 9) = wA at *
  gi_cut [10] from 13 (fun s10 wc => s10 = .slice none 0 0 ∧ Sp w0.heap.size w g w.heap.size m (ps ++ [(mkV e, tmMark e)]) wc)
  case first =>
    refine wpIn_wide.2 ?_
    refine wp_region_noPanic ?_
    refine wp_region_held_drew (S := fun _ => True) (by kernel_rfl) trivial (fun hHeld => ?_)
    have hP := hP0.drew
    have hfl : (flat ps).length = ps.length * 6 := hP.2.2.1.1
    have hql : ps.length ≤ 1000000 := by omega
    have hq1 : (ps.length : Int) < (ps.length : Int) + 1 := by omega
    have hqi : (ps.length : Int) ≤ 1000000 := by omega
    have hqc : (ps.length : Int) ≤ (cap : Int) ∧ (cap : Int) ≤ 9223372036854775807 := by obtain ⟨cur, -, h1, h2, -⟩ := hP.row; unfold maxLen at h2; omega
    generalize wA.drew = wd at *
    refine wpAnyH_take (i := 1) (v := ?tv22) (nth_ops rfl) (by kernel_rfl) (by kernel_rfl) (by kernel_rfl) (fun _ _ _ h => h) (Or.inl ⟨by rfl, ?ty22⟩) (by assumption) ?tr22
    case ty22 =>
      intro wq hSq
      go_simp
      try with_reducible rfl
    try simp only [Act.put, List.setIfInBounds_toArray, List.set_cons_zero, List.set_cons_succ]
    refine wpAnyH_ready (rs := [0, 2, 4]) (by kernel_rfl) (by simp) ?_
    refine AllReadyH.cons (nth_ops rfl) (fun K hK => ?_) ?_
    · obtain ⟨c5, f5, c8, l5, l8⟩ := hP.cells
      go_simp
      clear c5 f5 c8 l5 l8
      refine hK.out _ _ ?_ (fun hHeld => ?_)
      exact trivial
      clear hK K
      try simp only [Act.put, List.setIfInBounds_toArray, List.set_cons_zero, List.set_cons_succ]
      refine wpAnyH_take (i := 3) (v := ?tv23) (nth_ops rfl) (by kernel_rfl) (by kernel_rfl) (by kernel_rfl) (fun _ _ _ h => h) (Or.inl ⟨by rfl, ?ty23⟩) (by assumption) ?tr23
      case ty23 =>
        intro wq hSq
        go_simp
        try with_reducible rfl
      try simp only [Act.put, List.setIfInBounds_toArray, List.set_cons_zero, List.set_cons_succ]
      refine wpAnyH_ready (rs := [2, 4]) (by kernel_rfl) (by simp) ?_
      refine AllReadyH.cons (nth_ops rfl) (fun K hK => ?_) ?_
      · go_simp
        refine (mark_any e _).mono ?_
        rintro ed wdm ⟨rfl, bm⟩
        replace hP := hP.below bm
        clear bm
        simp only [mkV, tmV]
        refine hK.out _ _ ?_ (fun hHeld => ?_)
        exact trivial
        clear hK K
        try simp only [Act.put, List.setIfInBounds_toArray, List.set_cons_zero, List.set_cons_succ]
        refine wpAnyH_ready (rs := [4]) (by kernel_rfl) (by simp) ?_
        refine AllReadyH.cons (nth_ops rfl) (fun K hK => ?_) ?_
        · go_simp
          obtain ⟨wdmb, hwdmb⟩ : ∃ x, x = wdm.alloc (.cells #[.int .i64 0, .bool false, .slice none 0 0, .string ⟨#[]⟩, .int .i64 0, .slice none 0 0] 27) := ⟨_, rfl⟩
          rw [← hwdmb]
          have bm : Below wdm.heap.size wdm wdmb := by rw [hwdmb]; exact (Below.refl _ _).alloc (Nat.le_refl _) _
          replace hP := hP.below bm
          have hZ : wdmb.heap[wdm.heap.size]? = some (.cells #[.int .i64 0, .bool false, .slice none 0 0, .string ⟨#[]⟩, .int .i64 0, .slice none 0 0] 27 (0, 0)) := by rw [hwdmb]; exact heap_alloc_new wdm _
          clear hwdmb bm
          refine hK.out _ _ ?_ (fun hHeld => ?_)
          exact trivial
          clear hK K
          try simp only [Act.put, List.setIfInBounds_toArray, List.set_cons_zero, List.set_cons_succ]
          refine wpAnyH_ready (rs := [5]) (by kernel_rfl) (by simp) ?_
          refine AllReadyH.cons (nth_ops rfl) (fun K hK => ?_) ?_
          · refine step_append_lies _ (by rfl) _ _ 25 (by rfl) w0.heap.size 27 ti (.agg #[.int .i64 0, .bool false, .slice none 0 0, .string ⟨#[]⟩, .int .i64 0, .slice none 0 0]) 6 88 Tryd.underlying25 hi hz0 hz1 hz2 rfl (by omega) (.slice (some ⟨g, 0, none⟩) ps.length cap) ps.length (flat ps) rfl hP.2.2.1 ⟨wdm.heap.size, 0, none⟩ 1 1 zc rfl rfl (World.news_of_block hZ) zc_one (by omega) (by unfold maxLen; omega) (by omega) (by have := hP.2.2.2.1.size; omega) _ rfl ?_
            intro g' cap' wdmba hown hgrow hat hlt
            replace hP := hP.grown hgrow hown hat
            have HTL : Hid _ := hP.tail hfl
            clear hown hgrow hat hZ hlt
            refine hK.out _ _ ?_ (fun hHeld => ?_)
            exact trivial
            clear hK K
            try simp only [Act.put, List.setIfInBounds_toArray, List.set_cons_zero, List.set_cons_succ]
            refine wpAnyH_take (i := 6) (v := ?tv24) (nth_ops rfl) (by kernel_rfl) (by kernel_rfl) (by kernel_rfl) (fun _ _ _ h => h) (Or.inl ⟨by rfl, ?ty24⟩) (by assumption) ?tr24
            case ty24 =>
              intro wq hSq
              go_simp
              try with_reducible rfl
            try simp only [Act.put, List.setIfInBounds_toArray, List.set_cons_zero, List.set_cons_succ]
            refine wpAnyH_ready (rs := [7, 8]) (by kernel_rfl) (by simp) ?_
            refine AllReadyH.cons (nth_ops rfl) (fun K hK => ?_) ?_
            · obtain ⟨⟨r0, r1, r2, r3, r4, r5⟩, ⟨q0, q1, q2, q3, q4, q5⟩⟩ := HTL.out
              go_simp
              change K _ (setT wdmba g' (ps.length * 6) (.int .i64 2) (.bool false) (.slice none 0 0) (.string e) (.int .i64 0) (.slice none 0 0))
              replace hP := hP.put (ps.length * 6) (.int .i64 2) (.bool false) (.slice none 0 0) (.string e) (.int .i64 0) (.slice none 0 0)
              clear r0 r1 r2 r3 r4 r5 q0 q1 q2 q3 q4 q5 HTL
              generalize setT wdmba g' (ps.length * 6) (.int .i64 2) (.bool false) (.slice none 0 0) (.string e) (.int .i64 0) (.slice none 0 0) = wdmbar at *
              refine hK.out _ _ ?_ (fun hHeld => ?_)
              exact trivial
              clear hK K
              try simp only [Act.put, List.setIfInBounds_toArray, List.set_cons_zero, List.set_cons_succ]
              refine wpAnyH_ready (rs := [8]) (by kernel_rfl) (by simp) ?_
              refine AllReadyH.cons (nth_ops rfl) (fun K hK => ?_) ?_
              · obtain ⟨c5, f5, c8, l5, l8⟩ := hP.cells
                go_simp
                clear c5 f5 c8
                replace hP := hP.box (.slice (some ⟨g', 0, none⟩) (ps.length + 1) cap')
                clear l5 l8
                generalize wdmbar.setCell ⟨w.heap.size, 0, none⟩ (.slice (some ⟨g', 0, none⟩) (ps.length + 1) cap') = wdmbarx at *
                refine hK.out _ _ ?_ (fun hHeld => ?_)
                exact trivial
                clear hK K
                try simp only [Act.put, List.setIfInBounds_toArray, List.set_cons_zero, List.set_cons_succ]
                refine wpAnyH_done (by kernel_rfl) ?_ _
                refine NoPanic.normal ?_
                go_wp2_with fail
                gi_meet
                case rel => exact ⟨rfl, g', cap', by have := hP; rw [set_tail (flat ps) _ hfl] at this; simpa [flat_app, flat, cells6, mkV, tmV] using this⟩
              · exact AllReadyH.nil
            · refine AllReadyH.cons (nth_ops rfl) (fun K hK => ?_) ?_
              · obtain ⟨c5, f5, c8, l5, l8⟩ := hP.cells
                go_simp
                clear c5 f5 c8
                replace hP := hP.box (.slice (some ⟨g', 0, none⟩) (ps.length + 1) cap')
                replace HTL : Hid _ := hP.tail hfl
                clear l5 l8
                generalize wdmba.setCell ⟨w.heap.size, 0, none⟩ (.slice (some ⟨g', 0, none⟩) (ps.length + 1) cap') = wdmbax at *
                refine hK.out _ _ ?_ (fun hHeld => ?_)
                exact trivial
                clear hK K
                try simp only [Act.put, List.setIfInBounds_toArray, List.set_cons_zero, List.set_cons_succ]
                refine wpAnyH_ready (rs := [7]) (by kernel_rfl) (by simp) ?_
                refine AllReadyH.cons (nth_ops rfl) (fun K hK => ?_) ?_
                · obtain ⟨⟨r0, r1, r2, r3, r4, r5⟩, ⟨q0, q1, q2, q3, q4, q5⟩⟩ := HTL.out
                  go_simp
                  change K _ (setT wdmbax g' (ps.length * 6) (.int .i64 2) (.bool false) (.slice none 0 0) (.string e) (.int .i64 0) (.slice none 0 0))
                  replace hP := hP.put (ps.length * 6) (.int .i64 2) (.bool false) (.slice none 0 0) (.string e) (.int .i64 0) (.slice none 0 0)
                  clear r0 r1 r2 r3 r4 r5 q0 q1 q2 q3 q4 q5 HTL
                  generalize setT wdmbax g' (ps.length * 6) (.int .i64 2) (.bool false) (.slice none 0 0) (.string e) (.int .i64 0) (.slice none 0 0) = wdmbaxr at *
                  refine hK.out _ _ ?_ (fun hHeld => ?_)
                  exact trivial
                  clear hK K
                  try simp only [Act.put, List.setIfInBounds_toArray, List.set_cons_zero, List.set_cons_succ]
                  refine wpAnyH_done (by kernel_rfl) ?_ _
                  refine NoPanic.normal ?_
                  go_wp2_with fail
                  gi_meet
                  case rel => exact ⟨rfl, g', cap', by have := hP; rw [set_tail (flat ps) _ hfl] at this; simpa [flat_app, flat, cells6, mkV, tmV] using this⟩
                · exact AllReadyH.nil
              · exact AllReadyH.nil
          · exact AllReadyH.nil
        · exact AllReadyH.nil
      · refine AllReadyH.cons (nth_ops rfl) (fun K hK => ?_) ?_
        · go_simp
          obtain ⟨wdb, hwdb⟩ : ∃ x, x = wd.alloc (.cells #[.int .i64 0, .bool false, .slice none 0 0, .string ⟨#[]⟩, .int .i64 0, .slice none 0 0] 27) := ⟨_, rfl⟩
          rw [← hwdb]
          have bm : Below wd.heap.size wd wdb := by rw [hwdb]; exact (Below.refl _ _).alloc (Nat.le_refl _) _
          replace hP := hP.below bm
          have hZ : wdb.heap[wd.heap.size]? = some (.cells #[.int .i64 0, .bool false, .slice none 0 0, .string ⟨#[]⟩, .int .i64 0, .slice none 0 0] 27 (0, 0)) := by rw [hwdb]; exact heap_alloc_new wd _
          clear hwdb bm
          refine hK.out _ _ ?_ (fun hHeld => ?_)
          exact trivial
          clear hK K
          try simp only [Act.put, List.setIfInBounds_toArray, List.set_cons_zero, List.set_cons_succ]
          refine wpAnyH_ready (rs := [2]) (by kernel_rfl) (by simp) ?_
          refine AllReadyH.cons (nth_ops rfl) (fun K hK => ?_) ?_
          · go_simp
            refine (mark_any e _).mono ?_
            rintro ed wdbm ⟨rfl, bm⟩
            replace hP := hP.below bm
            replace hZ : wdbm.heap[wd.heap.size]? = some (.cells #[.int .i64 0, .bool false, .slice none 0 0, .string ⟨#[]⟩, .int .i64 0, .slice none 0 0] 27 (0, 0)) := by rw [bm.block _ (Array.getElem?_eq_some_iff.1 hZ).1]; exact hZ
            clear bm
            simp only [mkV, tmV]
            refine hK.out _ _ ?_ (fun hHeld => ?_)
            exact trivial
            clear hK K
            try simp only [Act.put, List.setIfInBounds_toArray, List.set_cons_zero, List.set_cons_succ]
            refine wpAnyH_ready (rs := [5]) (by kernel_rfl) (by simp) ?_
            refine AllReadyH.cons (nth_ops rfl) (fun K hK => ?_) ?_
            · refine step_append_lies _ (by rfl) _ _ 25 (by rfl) w0.heap.size 27 ti (.agg #[.int .i64 0, .bool false, .slice none 0 0, .string ⟨#[]⟩, .int .i64 0, .slice none 0 0]) 6 88 Tryd.underlying25 hi hz0 hz1 hz2 rfl (by omega) (.slice (some ⟨g, 0, none⟩) ps.length cap) ps.length (flat ps) rfl hP.2.2.1 ⟨wd.heap.size, 0, none⟩ 1 1 zc rfl rfl (World.news_of_block hZ) zc_one (by omega) (by unfold maxLen; omega) (by omega) (by have := hP.2.2.2.1.size; omega) _ rfl ?_
              intro g' cap' wdbma hown hgrow hat hlt
              replace hP := hP.grown hgrow hown hat
              have HTL : Hid _ := hP.tail hfl
              clear hown hgrow hat hZ hlt
              refine hK.out _ _ ?_ (fun hHeld => ?_)
              exact trivial
              clear hK K
              try simp only [Act.put, List.setIfInBounds_toArray, List.set_cons_zero, List.set_cons_succ]
              refine wpAnyH_take (i := 6) (v := ?tv25) (nth_ops rfl) (by kernel_rfl) (by kernel_rfl) (by kernel_rfl) (fun _ _ _ h => h) (Or.inl ⟨by rfl, ?ty25⟩) (by assumption) ?tr25
              case ty25 =>
                intro wq hSq
                go_simp
                try with_reducible rfl
              try simp only [Act.put, List.setIfInBounds_toArray, List.set_cons_zero, List.set_cons_succ]
              refine wpAnyH_ready (rs := [7, 8]) (by kernel_rfl) (by simp) ?_
              refine AllReadyH.cons (nth_ops rfl) (fun K hK => ?_) ?_
              · obtain ⟨⟨r0, r1, r2, r3, r4, r5⟩, ⟨q0, q1, q2, q3, q4, q5⟩⟩ := HTL.out
                go_simp
                change K _ (setT wdbma g' (ps.length * 6) (.int .i64 2) (.bool false) (.slice none 0 0) (.string e) (.int .i64 0) (.slice none 0 0))
                replace hP := hP.put (ps.length * 6) (.int .i64 2) (.bool false) (.slice none 0 0) (.string e) (.int .i64 0) (.slice none 0 0)
                clear r0 r1 r2 r3 r4 r5 q0 q1 q2 q3 q4 q5 HTL
                generalize setT wdbma g' (ps.length * 6) (.int .i64 2) (.bool false) (.slice none 0 0) (.string e) (.int .i64 0) (.slice none 0 0) = wdbmar at *
                refine hK.out _ _ ?_ (fun hHeld => ?_)
                exact trivial
                clear hK K
                try simp only [Act.put, List.setIfInBounds_toArray, List.set_cons_zero, List.set_cons_succ]
                refine wpAnyH_ready (rs := [8]) (by kernel_rfl) (by simp) ?_
                refine AllReadyH.cons (nth_ops rfl) (fun K hK => ?_) ?_
                · obtain ⟨c5, f5, c8, l5, l8⟩ := hP.cells
                  go_simp
                  clear c5 f5 c8
                  replace hP := hP.box (.slice (some ⟨g', 0, none⟩) (ps.length + 1) cap')
                  clear l5 l8
                  generalize wdbmar.setCell ⟨w.heap.size, 0, none⟩ (.slice (some ⟨g', 0, none⟩) (ps.length + 1) cap') = wdbmarx at *
                  refine hK.out _ _ ?_ (fun hHeld => ?_)
                  exact trivial
                  clear hK K
                  try simp only [Act.put, List.setIfInBounds_toArray, List.set_cons_zero, List.set_cons_succ]
                  refine wpAnyH_done (by kernel_rfl) ?_ _
                  refine NoPanic.normal ?_
                  go_wp2_with fail
                  gi_meet
                  case rel => exact ⟨rfl, g', cap', by have := hP; rw [set_tail (flat ps) _ hfl] at this; simpa [flat_app, flat, cells6, mkV, tmV] using this⟩
                · exact AllReadyH.nil
              · refine AllReadyH.cons (nth_ops rfl) (fun K hK => ?_) ?_
                · obtain ⟨c5, f5, c8, l5, l8⟩ := hP.cells
                  go_simp
                  clear c5 f5 c8
                  replace hP := hP.box (.slice (some ⟨g', 0, none⟩) (ps.length + 1) cap')
                  replace HTL : Hid _ := hP.tail hfl
                  clear l5 l8
                  generalize wdbma.setCell ⟨w.heap.size, 0, none⟩ (.slice (some ⟨g', 0, none⟩) (ps.length + 1) cap') = wdbmax at *
                  refine hK.out _ _ ?_ (fun hHeld => ?_)
                  exact trivial
                  clear hK K
                  try simp only [Act.put, List.setIfInBounds_toArray, List.set_cons_zero, List.set_cons_succ]
                  refine wpAnyH_ready (rs := [7]) (by kernel_rfl) (by simp) ?_
                  refine AllReadyH.cons (nth_ops rfl) (fun K hK => ?_) ?_
                  · obtain ⟨⟨r0, r1, r2, r3, r4, r5⟩, ⟨q0, q1, q2, q3, q4, q5⟩⟩ := HTL.out
                    go_simp
                    change K _ (setT wdbmax g' (ps.length * 6) (.int .i64 2) (.bool false) (.slice none 0 0) (.string e) (.int .i64 0) (.slice none 0 0))
                    replace hP := hP.put (ps.length * 6) (.int .i64 2) (.bool false) (.slice none 0 0) (.string e) (.int .i64 0) (.slice none 0 0)
                    clear r0 r1 r2 r3 r4 r5 q0 q1 q2 q3 q4 q5 HTL
                    generalize setT wdbmax g' (ps.length * 6) (.int .i64 2) (.bool false) (.slice none 0 0) (.string e) (.int .i64 0) (.slice none 0 0) = wdbmaxr at *
                    refine hK.out _ _ ?_ (fun hHeld => ?_)
                    exact trivial
                    clear hK K
                    try simp only [Act.put, List.setIfInBounds_toArray, List.set_cons_zero, List.set_cons_succ]
                    refine wpAnyH_done (by kernel_rfl) ?_ _
                    refine NoPanic.normal ?_
                    go_wp2_with fail
                    gi_meet
                    case rel => exact ⟨rfl, g', cap', by have := hP; rw [set_tail (flat ps) _ hfl] at this; simpa [flat_app, flat, cells6, mkV, tmV] using this⟩
                  · exact AllReadyH.nil
                · exact AllReadyH.nil
            · exact AllReadyH.nil
          · exact AllReadyH.nil
        · exact AllReadyH.nil
    · refine AllReadyH.cons (nth_ops rfl) (fun K hK => ?_) ?_
      · go_simp
        refine (mark_any e _).mono ?_
        rintro ed wdm ⟨rfl, bm⟩
        replace hP := hP.below bm
        clear bm
        simp only [mkV, tmV]
        refine hK.out _ _ ?_ (fun hHeld => ?_)
        exact trivial
        clear hK K
        try simp only [Act.put, List.setIfInBounds_toArray, List.set_cons_zero, List.set_cons_succ]
        refine wpAnyH_ready (rs := [0, 4]) (by kernel_rfl) (by simp) ?_
        refine AllReadyH.cons (nth_ops rfl) (fun K hK => ?_) ?_
        · obtain ⟨c5, f5, c8, l5, l8⟩ := hP.cells
          go_simp
          clear c5 f5 c8 l5 l8
          refine hK.out _ _ ?_ (fun hHeld => ?_)
          exact trivial
          clear hK K
          try simp only [Act.put, List.setIfInBounds_toArray, List.set_cons_zero, List.set_cons_succ]
          refine wpAnyH_take (i := 3) (v := ?tv26) (nth_ops rfl) (by kernel_rfl) (by kernel_rfl) (by kernel_rfl) (fun _ _ _ h => h) (Or.inl ⟨by rfl, ?ty26⟩) (by assumption) ?tr26
          case ty26 =>
            intro wq hSq
            go_simp
            try with_reducible rfl
          try simp only [Act.put, List.setIfInBounds_toArray, List.set_cons_zero, List.set_cons_succ]
          refine wpAnyH_ready (rs := [4]) (by kernel_rfl) (by simp) ?_
          refine AllReadyH.cons (nth_ops rfl) (fun K hK => ?_) ?_
          · go_simp
            obtain ⟨wdmb, hwdmb⟩ : ∃ x, x = wdm.alloc (.cells #[.int .i64 0, .bool false, .slice none 0 0, .string ⟨#[]⟩, .int .i64 0, .slice none 0 0] 27) := ⟨_, rfl⟩
            rw [← hwdmb]
            have bm : Below wdm.heap.size wdm wdmb := by rw [hwdmb]; exact (Below.refl _ _).alloc (Nat.le_refl _) _
            replace hP := hP.below bm
            have hZ : wdmb.heap[wdm.heap.size]? = some (.cells #[.int .i64 0, .bool false, .slice none 0 0, .string ⟨#[]⟩, .int .i64 0, .slice none 0 0] 27 (0, 0)) := by rw [hwdmb]; exact heap_alloc_new wdm _
            clear hwdmb bm
            refine hK.out _ _ ?_ (fun hHeld => ?_)
            exact trivial
            clear hK K
            try simp only [Act.put, List.setIfInBounds_toArray, List.set_cons_zero, List.set_cons_succ]
            refine wpAnyH_ready (rs := [5]) (by kernel_rfl) (by simp) ?_
            refine AllReadyH.cons (nth_ops rfl) (fun K hK => ?_) ?_
            · refine step_append_lies _ (by rfl) _ _ 25 (by rfl) w0.heap.size 27 ti (.agg #[.int .i64 0, .bool false, .slice none 0 0, .string ⟨#[]⟩, .int .i64 0, .slice none 0 0]) 6 88 Tryd.underlying25 hi hz0 hz1 hz2 rfl (by omega) (.slice (some ⟨g, 0, none⟩) ps.length cap) ps.length (flat ps) rfl hP.2.2.1 ⟨wdm.heap.size, 0, none⟩ 1 1 zc rfl rfl (World.news_of_block hZ) zc_one (by omega) (by unfold maxLen; omega) (by omega) (by have := hP.2.2.2.1.size; omega) _ rfl ?_
              intro g' cap' wdmba hown hgrow hat hlt
              replace hP := hP.grown hgrow hown hat
              have HTL : Hid _ := hP.tail hfl
              clear hown hgrow hat hZ hlt
              refine hK.out _ _ ?_ (fun hHeld => ?_)
              exact trivial
              clear hK K
              try simp only [Act.put, List.setIfInBounds_toArray, List.set_cons_zero, List.set_cons_succ]
              refine wpAnyH_take (i := 6) (v := ?tv27) (nth_ops rfl) (by kernel_rfl) (by kernel_rfl) (by kernel_rfl) (fun _ _ _ h => h) (Or.inl ⟨by rfl, ?ty27⟩) (by assumption) ?tr27
              case ty27 =>
                intro wq hSq
                go_simp
                try with_reducible rfl
              try simp only [Act.put, List.setIfInBounds_toArray, List.set_cons_zero, List.set_cons_succ]
              refine wpAnyH_ready (rs := [7, 8]) (by kernel_rfl) (by simp) ?_
              refine AllReadyH.cons (nth_ops rfl) (fun K hK => ?_) ?_
              · obtain ⟨⟨r0, r1, r2, r3, r4, r5⟩, ⟨q0, q1, q2, q3, q4, q5⟩⟩ := HTL.out
                go_simp
                change K _ (setT wdmba g' (ps.length * 6) (.int .i64 2) (.bool false) (.slice none 0 0) (.string e) (.int .i64 0) (.slice none 0 0))
                replace hP := hP.put (ps.length * 6) (.int .i64 2) (.bool false) (.slice none 0 0) (.string e) (.int .i64 0) (.slice none 0 0)
                clear r0 r1 r2 r3 r4 r5 q0 q1 q2 q3 q4 q5 HTL
                generalize setT wdmba g' (ps.length * 6) (.int .i64 2) (.bool false) (.slice none 0 0) (.string e) (.int .i64 0) (.slice none 0 0) = wdmbar at *
                refine hK.out _ _ ?_ (fun hHeld => ?_)
                exact trivial
                clear hK K
                try simp only [Act.put, List.setIfInBounds_toArray, List.set_cons_zero, List.set_cons_succ]
                refine wpAnyH_ready (rs := [8]) (by kernel_rfl) (by simp) ?_
                refine AllReadyH.cons (nth_ops rfl) (fun K hK => ?_) ?_
                · obtain ⟨c5, f5, c8, l5, l8⟩ := hP.cells
                  go_simp
                  clear c5 f5 c8
                  replace hP := hP.box (.slice (some ⟨g', 0, none⟩) (ps.length + 1) cap')
                  clear l5 l8
                  generalize wdmbar.setCell ⟨w.heap.size, 0, none⟩ (.slice (some ⟨g', 0, none⟩) (ps.length + 1) cap') = wdmbarx at *
                  refine hK.out _ _ ?_ (fun hHeld => ?_)
                  exact trivial
                  clear hK K
                  try simp only [Act.put, List.setIfInBounds_toArray, List.set_cons_zero, List.set_cons_succ]
                  refine wpAnyH_done (by kernel_rfl) ?_ _
                  refine NoPanic.normal ?_
                  go_wp2_with fail
                  gi_meet
                  case rel => exact ⟨rfl, g', cap', by have := hP; rw [set_tail (flat ps) _ hfl] at this; simpa [flat_app, flat, cells6, mkV, tmV] using this⟩
                · exact AllReadyH.nil
              · refine AllReadyH.cons (nth_ops rfl) (fun K hK => ?_) ?_
                · obtain ⟨c5, f5, c8, l5, l8⟩ := hP.cells
                  go_simp
                  clear c5 f5 c8
                  replace hP := hP.box (.slice (some ⟨g', 0, none⟩) (ps.length + 1) cap')
                  replace HTL : Hid _ := hP.tail hfl
                  clear l5 l8
                  generalize wdmba.setCell ⟨w.heap.size, 0, none⟩ (.slice (some ⟨g', 0, none⟩) (ps.length + 1) cap') = wdmbax at *
                  refine hK.out _ _ ?_ (fun hHeld => ?_)
                  exact trivial
                  clear hK K
                  try simp only [Act.put, List.setIfInBounds_toArray, List.set_cons_zero, List.set_cons_succ]
                  refine wpAnyH_ready (rs := [7]) (by kernel_rfl) (by simp) ?_
                  refine AllReadyH.cons (nth_ops rfl) (fun K hK => ?_) ?_
                  · obtain ⟨⟨r0, r1, r2, r3, r4, r5⟩, ⟨q0, q1, q2, q3, q4, q5⟩⟩ := HTL.out
                    go_simp
                    change K _ (setT wdmbax g' (ps.length * 6) (.int .i64 2) (.bool false) (.slice none 0 0) (.string e) (.int .i64 0) (.slice none 0 0))
                    replace hP := hP.put (ps.length * 6) (.int .i64 2) (.bool false) (.slice none 0 0) (.string e) (.int .i64 0) (.slice none 0 0)
                    clear r0 r1 r2 r3 r4 r5 q0 q1 q2 q3 q4 q5 HTL
                    generalize setT wdmbax g' (ps.length * 6) (.int .i64 2) (.bool false) (.slice none 0 0) (.string e) (.int .i64 0) (.slice none 0 0) = wdmbaxr at *
                    refine hK.out _ _ ?_ (fun hHeld => ?_)
                    exact trivial
                    clear hK K
                    try simp only [Act.put, List.setIfInBounds_toArray, List.set_cons_zero, List.set_cons_succ]
                    refine wpAnyH_done (by kernel_rfl) ?_ _
                    refine NoPanic.normal ?_
                    go_wp2_with fail
                    gi_meet
                    case rel => exact ⟨rfl, g', cap', by have := hP; rw [set_tail (flat ps) _ hfl] at this; simpa [flat_app, flat, cells6, mkV, tmV] using this⟩
                  · exact AllReadyH.nil
                · exact AllReadyH.nil
            · exact AllReadyH.nil
          · exact AllReadyH.nil
        · refine AllReadyH.cons (nth_ops rfl) (fun K hK => ?_) ?_
          · go_simp
            obtain ⟨wdmb, hwdmb⟩ : ∃ x, x = wdm.alloc (.cells #[.int .i64 0, .bool false, .slice none 0 0, .string ⟨#[]⟩, .int .i64 0, .slice none 0 0] 27) := ⟨_, rfl⟩
            rw [← hwdmb]
            have bm : Below wdm.heap.size wdm wdmb := by rw [hwdmb]; exact (Below.refl _ _).alloc (Nat.le_refl _) _
            replace hP := hP.below bm
            have hZ : wdmb.heap[wdm.heap.size]? = some (.cells #[.int .i64 0, .bool false, .slice none 0 0, .string ⟨#[]⟩, .int .i64 0, .slice none 0 0] 27 (0, 0)) := by rw [hwdmb]; exact heap_alloc_new wdm _
            clear hwdmb bm
            refine hK.out _ _ ?_ (fun hHeld => ?_)
            exact trivial
            clear hK K
            try simp only [Act.put, List.setIfInBounds_toArray, List.set_cons_zero, List.set_cons_succ]
            refine wpAnyH_ready (rs := [0]) (by kernel_rfl) (by simp) ?_
            refine AllReadyH.cons (nth_ops rfl) (fun K hK => ?_) ?_
            · obtain ⟨c5, f5, c8, l5, l8⟩ := hP.cells
              go_simp
              clear c5 f5 c8 l5 l8
              refine hK.out _ _ ?_ (fun hHeld => ?_)
              exact trivial
              clear hK K
              try simp only [Act.put, List.setIfInBounds_toArray, List.set_cons_zero, List.set_cons_succ]
              refine wpAnyH_take (i := 3) (v := ?tv28) (nth_ops rfl) (by kernel_rfl) (by kernel_rfl) (by kernel_rfl) (fun _ _ _ h => h) (Or.inl ⟨by rfl, ?ty28⟩) (by assumption) ?tr28
              case ty28 =>
                intro wq hSq
                go_simp
                try with_reducible rfl
              try simp only [Act.put, List.setIfInBounds_toArray, List.set_cons_zero, List.set_cons_succ]
              refine wpAnyH_ready (rs := [5]) (by kernel_rfl) (by simp) ?_
              refine AllReadyH.cons (nth_ops rfl) (fun K hK => ?_) ?_
              · refine step_append_lies _ (by rfl) _ _ 25 (by rfl) w0.heap.size 27 ti (.agg #[.int .i64 0, .bool false, .slice none 0 0, .string ⟨#[]⟩, .int .i64 0, .slice none 0 0]) 6 88 Tryd.underlying25 hi hz0 hz1 hz2 rfl (by omega) (.slice (some ⟨g, 0, none⟩) ps.length cap) ps.length (flat ps) rfl hP.2.2.1 ⟨wdm.heap.size, 0, none⟩ 1 1 zc rfl rfl (World.news_of_block hZ) zc_one (by omega) (by unfold maxLen; omega) (by omega) (by have := hP.2.2.2.1.size; omega) _ rfl ?_
                intro g' cap' wdmba hown hgrow hat hlt
                replace hP := hP.grown hgrow hown hat
                have HTL : Hid _ := hP.tail hfl
                clear hown hgrow hat hZ hlt
                refine hK.out _ _ ?_ (fun hHeld => ?_)
                exact trivial
                clear hK K
                try simp only [Act.put, List.setIfInBounds_toArray, List.set_cons_zero, List.set_cons_succ]
                refine wpAnyH_take (i := 6) (v := ?tv29) (nth_ops rfl) (by kernel_rfl) (by kernel_rfl) (by kernel_rfl) (fun _ _ _ h => h) (Or.inl ⟨by rfl, ?ty29⟩) (by assumption) ?tr29
                case ty29 =>
                  intro wq hSq
                  go_simp
                  try with_reducible rfl
                try simp only [Act.put, List.setIfInBounds_toArray, List.set_cons_zero, List.set_cons_succ]
                refine wpAnyH_ready (rs := [7, 8]) (by kernel_rfl) (by simp) ?_
                refine AllReadyH.cons (nth_ops rfl) (fun K hK => ?_) ?_
                · obtain ⟨⟨r0, r1, r2, r3, r4, r5⟩, ⟨q0, q1, q2, q3, q4, q5⟩⟩ := HTL.out
                  go_simp
                  change K _ (setT wdmba g' (ps.length * 6) (.int .i64 2) (.bool false) (.slice none 0 0) (.string e) (.int .i64 0) (.slice none 0 0))
                  replace hP := hP.put (ps.length * 6) (.int .i64 2) (.bool false) (.slice none 0 0) (.string e) (.int .i64 0) (.slice none 0 0)
                  clear r0 r1 r2 r3 r4 r5 q0 q1 q2 q3 q4 q5 HTL
                  generalize setT wdmba g' (ps.length * 6) (.int .i64 2) (.bool false) (.slice none 0 0) (.string e) (.int .i64 0) (.slice none 0 0) = wdmbar at *
                  refine hK.out _ _ ?_ (fun hHeld => ?_)
                  exact trivial
                  clear hK K
                  try simp only [Act.put, List.setIfInBounds_toArray, List.set_cons_zero, List.set_cons_succ]
                  refine wpAnyH_ready (rs := [8]) (by kernel_rfl) (by simp) ?_
                  refine AllReadyH.cons (nth_ops rfl) (fun K hK => ?_) ?_
                  · obtain ⟨c5, f5, c8, l5, l8⟩ := hP.cells
                    go_simp
                    clear c5 f5 c8
                    replace hP := hP.box (.slice (some ⟨g', 0, none⟩) (ps.length + 1) cap')
                    clear l5 l8
                    generalize wdmbar.setCell ⟨w.heap.size, 0, none⟩ (.slice (some ⟨g', 0, none⟩) (ps.length + 1) cap') = wdmbarx at *
                    refine hK.out _ _ ?_ (fun hHeld => ?_)
                    exact trivial
                    clear hK K
                    try simp only [Act.put, List.setIfInBounds_toArray, List.set_cons_zero, List.set_cons_succ]
                    refine wpAnyH_done (by kernel_rfl) ?_ _
                    refine NoPanic.normal ?_
                    go_wp2_with fail
                    gi_meet
                    case rel => exact ⟨rfl, g', cap', by have := hP; rw [set_tail (flat ps) _ hfl] at this; simpa [flat_app, flat, cells6, mkV, tmV] using this⟩
                  · exact AllReadyH.nil
                · refine AllReadyH.cons (nth_ops rfl) (fun K hK => ?_) ?_
                  · obtain ⟨c5, f5, c8, l5, l8⟩ := hP.cells
                    go_simp
                    clear c5 f5 c8
                    replace hP := hP.box (.slice (some ⟨g', 0, none⟩) (ps.length + 1) cap')
                    replace HTL : Hid _ := hP.tail hfl
                    clear l5 l8
                    generalize wdmba.setCell ⟨w.heap.size, 0, none⟩ (.slice (some ⟨g', 0, none⟩) (ps.length + 1) cap') = wdmbax at *
                    refine hK.out _ _ ?_ (fun hHeld => ?_)
                    exact trivial
                    clear hK K
                    try simp only [Act.put, List.setIfInBounds_toArray, List.set_cons_zero, List.set_cons_succ]
                    refine wpAnyH_ready (rs := [7]) (by kernel_rfl) (by simp) ?_
                    refine AllReadyH.cons (nth_ops rfl) (fun K hK => ?_) ?_
                    · obtain ⟨⟨r0, r1, r2, r3, r4, r5⟩, ⟨q0, q1, q2, q3, q4, q5⟩⟩ := HTL.out
                      go_simp
                      change K _ (setT wdmbax g' (ps.length * 6) (.int .i64 2) (.bool false) (.slice none 0 0) (.string e) (.int .i64 0) (.slice none 0 0))
                      replace hP := hP.put (ps.length * 6) (.int .i64 2) (.bool false) (.slice none 0 0) (.string e) (.int .i64 0) (.slice none 0 0)
                      clear r0 r1 r2 r3 r4 r5 q0 q1 q2 q3 q4 q5 HTL
                      generalize setT wdmbax g' (ps.length * 6) (.int .i64 2) (.bool false) (.slice none 0 0) (.string e) (.int .i64 0) (.slice none 0 0) = wdmbaxr at *
                      refine hK.out _ _ ?_ (fun hHeld => ?_)
                      exact trivial
                      clear hK K
                      try simp only [Act.put, List.setIfInBounds_toArray, List.set_cons_zero, List.set_cons_succ]
                      refine wpAnyH_done (by kernel_rfl) ?_ _
                      refine NoPanic.normal ?_
                      go_wp2_with fail
                      gi_meet
                      case rel => exact ⟨rfl, g', cap', by have := hP; rw [set_tail (flat ps) _ hfl] at this; simpa [flat_app, flat, cells6, mkV, tmV] using this⟩
                    · exact AllReadyH.nil
                  · exact AllReadyH.nil
              · exact AllReadyH.nil
            · exact AllReadyH.nil
          · exact AllReadyH.nil
      · refine AllReadyH.cons (nth_ops rfl) (fun K hK => ?_) ?_
        · go_simp
          obtain ⟨wdb, hwdb⟩ : ∃ x, x = wd.alloc (.cells #[.int .i64 0, .bool false, .slice none 0 0, .string ⟨#[]⟩, .int .i64 0, .slice none 0 0] 27) := ⟨_, rfl⟩
          rw [← hwdb]
          have bm : Below wd.heap.size wd wdb := by rw [hwdb]; exact (Below.refl _ _).alloc (Nat.le_refl _) _
          replace hP := hP.below bm
          have hZ : wdb.heap[wd.heap.size]? = some (.cells #[.int .i64 0, .bool false, .slice none 0 0, .string ⟨#[]⟩, .int .i64 0, .slice none 0 0] 27 (0, 0)) := by rw [hwdb]; exact heap_alloc_new wd _
          clear hwdb bm
          refine hK.out _ _ ?_ (fun hHeld => ?_)
          exact trivial
          clear hK K
          try simp only [Act.put, List.setIfInBounds_toArray, List.set_cons_zero, List.set_cons_succ]
          refine wpAnyH_ready (rs := [0, 2]) (by kernel_rfl) (by simp) ?_
          refine AllReadyH.cons (nth_ops rfl) (fun K hK => ?_) ?_
          · obtain ⟨c5, f5, c8, l5, l8⟩ := hP.cells
            go_simp
            clear c5 f5 c8 l5 l8
            refine hK.out _ _ ?_ (fun hHeld => ?_)
            exact trivial
            clear hK K
            try simp only [Act.put, List.setIfInBounds_toArray, List.set_cons_zero, List.set_cons_succ]
            refine wpAnyH_take (i := 3) (v := ?tv30) (nth_ops rfl) (by kernel_rfl) (by kernel_rfl) (by kernel_rfl) (fun _ _ _ h => h) (Or.inl ⟨by rfl, ?ty30⟩) (by assumption) ?tr30
            case ty30 =>
              intro wq hSq
              go_simp
              try with_reducible rfl
            try simp only [Act.put, List.setIfInBounds_toArray, List.set_cons_zero, List.set_cons_succ]
            refine wpAnyH_ready (rs := [2]) (by kernel_rfl) (by simp) ?_
            refine AllReadyH.cons (nth_ops rfl) (fun K hK => ?_) ?_
            · go_simp
              refine (mark_any e _).mono ?_
              rintro ed wdbm ⟨rfl, bm⟩
              replace hP := hP.below bm
              replace hZ : wdbm.heap[wd.heap.size]? = some (.cells #[.int .i64 0, .bool false, .slice none 0 0, .string ⟨#[]⟩, .int .i64 0, .slice none 0 0] 27 (0, 0)) := by rw [bm.block _ (Array.getElem?_eq_some_iff.1 hZ).1]; exact hZ
              clear bm
              simp only [mkV, tmV]
              refine hK.out _ _ ?_ (fun hHeld => ?_)
              exact trivial
              clear hK K
              try simp only [Act.put, List.setIfInBounds_toArray, List.set_cons_zero, List.set_cons_succ]
              refine wpAnyH_ready (rs := [5]) (by kernel_rfl) (by simp) ?_
              refine AllReadyH.cons (nth_ops rfl) (fun K hK => ?_) ?_
              · refine step_append_lies _ (by rfl) _ _ 25 (by rfl) w0.heap.size 27 ti (.agg #[.int .i64 0, .bool false, .slice none 0 0, .string ⟨#[]⟩, .int .i64 0, .slice none 0 0]) 6 88 Tryd.underlying25 hi hz0 hz1 hz2 rfl (by omega) (.slice (some ⟨g, 0, none⟩) ps.length cap) ps.length (flat ps) rfl hP.2.2.1 ⟨wd.heap.size, 0, none⟩ 1 1 zc rfl rfl (World.news_of_block hZ) zc_one (by omega) (by unfold maxLen; omega) (by omega) (by have := hP.2.2.2.1.size; omega) _ rfl ?_
                intro g' cap' wdbma hown hgrow hat hlt
                replace hP := hP.grown hgrow hown hat
                have HTL : Hid _ := hP.tail hfl
                clear hown hgrow hat hZ hlt
                refine hK.out _ _ ?_ (fun hHeld => ?_)
                exact trivial
                clear hK K
                try simp only [Act.put, List.setIfInBounds_toArray, List.set_cons_zero, List.set_cons_succ]
                refine wpAnyH_take (i := 6) (v := ?tv31) (nth_ops rfl) (by kernel_rfl) (by kernel_rfl) (by kernel_rfl) (fun _ _ _ h => h) (Or.inl ⟨by rfl, ?ty31⟩) (by assumption) ?tr31
                case ty31 =>
                  intro wq hSq
                  go_simp
                  try with_reducible rfl
                try simp only [Act.put, List.setIfInBounds_toArray, List.set_cons_zero, List.set_cons_succ]
                refine wpAnyH_ready (rs := [7, 8]) (by kernel_rfl) (by simp) ?_
                refine AllReadyH.cons (nth_ops rfl) (fun K hK => ?_) ?_
                · obtain ⟨⟨r0, r1, r2, r3, r4, r5⟩, ⟨q0, q1, q2, q3, q4, q5⟩⟩ := HTL.out
                  go_simp
                  change K _ (setT wdbma g' (ps.length * 6) (.int .i64 2) (.bool false) (.slice none 0 0) (.string e) (.int .i64 0) (.slice none 0 0))
                  replace hP := hP.put (ps.length * 6) (.int .i64 2) (.bool false) (.slice none 0 0) (.string e) (.int .i64 0) (.slice none 0 0)
                  clear r0 r1 r2 r3 r4 r5 q0 q1 q2 q3 q4 q5 HTL
                  generalize setT wdbma g' (ps.length * 6) (.int .i64 2) (.bool false) (.slice none 0 0) (.string e) (.int .i64 0) (.slice none 0 0) = wdbmar at *
                  refine hK.out _ _ ?_ (fun hHeld => ?_)
                  exact trivial
                  clear hK K
                  try simp only [Act.put, List.setIfInBounds_toArray, List.set_cons_zero, List.set_cons_succ]
                  refine wpAnyH_ready (rs := [8]) (by kernel_rfl) (by simp) ?_
                  refine AllReadyH.cons (nth_ops rfl) (fun K hK => ?_) ?_
                  · obtain ⟨c5, f5, c8, l5, l8⟩ := hP.cells
                    go_simp
                    clear c5 f5 c8
                    replace hP := hP.box (.slice (some ⟨g', 0, none⟩) (ps.length + 1) cap')
                    clear l5 l8
                    generalize wdbmar.setCell ⟨w.heap.size, 0, none⟩ (.slice (some ⟨g', 0, none⟩) (ps.length + 1) cap') = wdbmarx at *
                    refine hK.out _ _ ?_ (fun hHeld => ?_)
                    exact trivial
                    clear hK K
                    try simp only [Act.put, List.setIfInBounds_toArray, List.set_cons_zero, List.set_cons_succ]
                    refine wpAnyH_done (by kernel_rfl) ?_ _
                    refine NoPanic.normal ?_
                    go_wp2_with fail
                    gi_meet
                    case rel => exact ⟨rfl, g', cap', by have := hP; rw [set_tail (flat ps) _ hfl] at this; simpa [flat_app, flat, cells6, mkV, tmV] using this⟩
                  · exact AllReadyH.nil
                · refine AllReadyH.cons (nth_ops rfl) (fun K hK => ?_) ?_
                  · obtain ⟨c5, f5, c8, l5, l8⟩ := hP.cells
                    go_simp
                    clear c5 f5 c8
                    replace hP := hP.box (.slice (some ⟨g', 0, none⟩) (ps.length + 1) cap')
                    replace HTL : Hid _ := hP.tail hfl
                    clear l5 l8
                    generalize wdbma.setCell ⟨w.heap.size, 0, none⟩ (.slice (some ⟨g', 0, none⟩) (ps.length + 1) cap') = wdbmax at *
                    refine hK.out _ _ ?_ (fun hHeld => ?_)
                    exact trivial
                    clear hK K
                    try simp only [Act.put, List.setIfInBounds_toArray, List.set_cons_zero, List.set_cons_succ]
                    refine wpAnyH_ready (rs := [7]) (by kernel_rfl) (by simp) ?_
                    refine AllReadyH.cons (nth_ops rfl) (fun K hK => ?_) ?_
                    · obtain ⟨⟨r0, r1, r2, r3, r4, r5⟩, ⟨q0, q1, q2, q3, q4, q5⟩⟩ := HTL.out
                      go_simp
                      change K _ (setT wdbmax g' (ps.length * 6) (.int .i64 2) (.bool false) (.slice none 0 0) (.string e) (.int .i64 0) (.slice none 0 0))
                      replace hP := hP.put (ps.length * 6) (.int .i64 2) (.bool false) (.slice none 0 0) (.string e) (.int .i64 0) (.slice none 0 0)
                      clear r0 r1 r2 r3 r4 r5 q0 q1 q2 q3 q4 q5 HTL
                      generalize setT wdbmax g' (ps.length * 6) (.int .i64 2) (.bool false) (.slice none 0 0) (.string e) (.int .i64 0) (.slice none 0 0) = wdbmaxr at *
                      refine hK.out _ _ ?_ (fun hHeld => ?_)
                      exact trivial
                      clear hK K
                      try simp only [Act.put, List.setIfInBounds_toArray, List.set_cons_zero, List.set_cons_succ]
                      refine wpAnyH_done (by kernel_rfl) ?_ _
                      refine NoPanic.normal ?_
                      go_wp2_with fail
                      gi_meet
                      case rel => exact ⟨rfl, g', cap', by have := hP; rw [set_tail (flat ps) _ hfl] at this; simpa [flat_app, flat, cells6, mkV, tmV] using this⟩
                    · exact AllReadyH.nil
                  · exact AllReadyH.nil
              · exact AllReadyH.nil
            · exact AllReadyH.nil
          · refine AllReadyH.cons (nth_ops rfl) (fun K hK => ?_) ?_
            · go_simp
              refine (mark_any e _).mono ?_
              rintro ed wdbm ⟨rfl, bm⟩
              replace hP := hP.below bm
              replace hZ : wdbm.heap[wd.heap.size]? = some (.cells #[.int .i64 0, .bool false, .slice none 0 0, .string ⟨#[]⟩, .int .i64 0, .slice none 0 0] 27 (0, 0)) := by rw [bm.block _ (Array.getElem?_eq_some_iff.1 hZ).1]; exact hZ
              clear bm
              simp only [mkV, tmV]
              refine hK.out _ _ ?_ (fun hHeld => ?_)
              exact trivial
              clear hK K
              try simp only [Act.put, List.setIfInBounds_toArray, List.set_cons_zero, List.set_cons_succ]
              refine wpAnyH_ready (rs := [0]) (by kernel_rfl) (by simp) ?_
              refine AllReadyH.cons (nth_ops rfl) (fun K hK => ?_) ?_
              · obtain ⟨c5, f5, c8, l5, l8⟩ := hP.cells
                go_simp
                clear c5 f5 c8 l5 l8
                refine hK.out _ _ ?_ (fun hHeld => ?_)
                exact trivial
                clear hK K
                try simp only [Act.put, List.setIfInBounds_toArray, List.set_cons_zero, List.set_cons_succ]
                refine wpAnyH_take (i := 3) (v := ?tv32) (nth_ops rfl) (by kernel_rfl) (by kernel_rfl) (by kernel_rfl) (fun _ _ _ h => h) (Or.inl ⟨by rfl, ?ty32⟩) (by assumption) ?tr32
                case ty32 =>
                  intro wq hSq
                  go_simp
                  try with_reducible rfl
                try simp only [Act.put, List.setIfInBounds_toArray, List.set_cons_zero, List.set_cons_succ]
                refine wpAnyH_ready (rs := [5]) (by kernel_rfl) (by simp) ?_
                refine AllReadyH.cons (nth_ops rfl) (fun K hK => ?_) ?_
                · refine step_append_lies _ (by rfl) _ _ 25 (by rfl) w0.heap.size 27 ti (.agg #[.int .i64 0, .bool false, .slice none 0 0, .string ⟨#[]⟩, .int .i64 0, .slice none 0 0]) 6 88 Tryd.underlying25 hi hz0 hz1 hz2 rfl (by omega) (.slice (some ⟨g, 0, none⟩) ps.length cap) ps.length (flat ps) rfl hP.2.2.1 ⟨wd.heap.size, 0, none⟩ 1 1 zc rfl rfl (World.news_of_block hZ) zc_one (by omega) (by unfold maxLen; omega) (by omega) (by have := hP.2.2.2.1.size; omega) _ rfl ?_
                  intro g' cap' wdbma hown hgrow hat hlt
                  replace hP := hP.grown hgrow hown hat
                  have HTL : Hid _ := hP.tail hfl
                  clear hown hgrow hat hZ hlt
                  refine hK.out _ _ ?_ (fun hHeld => ?_)
                  exact trivial
                  clear hK K
                  try simp only [Act.put, List.setIfInBounds_toArray, List.set_cons_zero, List.set_cons_succ]
                  refine wpAnyH_take (i := 6) (v := ?tv33) (nth_ops rfl) (by kernel_rfl) (by kernel_rfl) (by kernel_rfl) (fun _ _ _ h => h) (Or.inl ⟨by rfl, ?ty33⟩) (by assumption) ?tr33
                  case ty33 =>
                    intro wq hSq
                    go_simp
                    try with_reducible rfl
                  try simp only [Act.put, List.setIfInBounds_toArray, List.set_cons_zero, List.set_cons_succ]
                  refine wpAnyH_ready (rs := [7, 8]) (by kernel_rfl) (by simp) ?_
                  refine AllReadyH.cons (nth_ops rfl) (fun K hK => ?_) ?_
                  · obtain ⟨⟨r0, r1, r2, r3, r4, r5⟩, ⟨q0, q1, q2, q3, q4, q5⟩⟩ := HTL.out
                    go_simp
                    change K _ (setT wdbma g' (ps.length * 6) (.int .i64 2) (.bool false) (.slice none 0 0) (.string e) (.int .i64 0) (.slice none 0 0))
                    replace hP := hP.put (ps.length * 6) (.int .i64 2) (.bool false) (.slice none 0 0) (.string e) (.int .i64 0) (.slice none 0 0)
                    clear r0 r1 r2 r3 r4 r5 q0 q1 q2 q3 q4 q5 HTL
                    generalize setT wdbma g' (ps.length * 6) (.int .i64 2) (.bool false) (.slice none 0 0) (.string e) (.int .i64 0) (.slice none 0 0) = wdbmar at *
                    refine hK.out _ _ ?_ (fun hHeld => ?_)
                    exact trivial
                    clear hK K
                    try simp only [Act.put, List.setIfInBounds_toArray, List.set_cons_zero, List.set_cons_succ]
                    refine wpAnyH_ready (rs := [8]) (by kernel_rfl) (by simp) ?_
                    refine AllReadyH.cons (nth_ops rfl) (fun K hK => ?_) ?_
                    · obtain ⟨c5, f5, c8, l5, l8⟩ := hP.cells
                      go_simp
                      clear c5 f5 c8
                      replace hP := hP.box (.slice (some ⟨g', 0, none⟩) (ps.length + 1) cap')
                      clear l5 l8
                      generalize wdbmar.setCell ⟨w.heap.size, 0, none⟩ (.slice (some ⟨g', 0, none⟩) (ps.length + 1) cap') = wdbmarx at *
                      refine hK.out _ _ ?_ (fun hHeld => ?_)
                      exact trivial
                      clear hK K
                      try simp only [Act.put, List.setIfInBounds_toArray, List.set_cons_zero, List.set_cons_succ]
                      refine wpAnyH_done (by kernel_rfl) ?_ _
                      refine NoPanic.normal ?_
                      go_wp2_with fail
                      gi_meet
                      case rel => exact ⟨rfl, g', cap', by have := hP; rw [set_tail (flat ps) _ hfl] at this; simpa [flat_app, flat, cells6, mkV, tmV] using this⟩
                    · exact AllReadyH.nil
                  · refine AllReadyH.cons (nth_ops rfl) (fun K hK => ?_) ?_
                    · obtain ⟨c5, f5, c8, l5, l8⟩ := hP.cells
                      go_simp
                      clear c5 f5 c8
                      replace hP := hP.box (.slice (some ⟨g', 0, none⟩) (ps.length + 1) cap')
                      replace HTL : Hid _ := hP.tail hfl
                      clear l5 l8
                      generalize wdbma.setCell ⟨w.heap.size, 0, none⟩ (.slice (some ⟨g', 0, none⟩) (ps.length + 1) cap') = wdbmax at *
                      refine hK.out _ _ ?_ (fun hHeld => ?_)
                      exact trivial
                      clear hK K
                      try simp only [Act.put, List.setIfInBounds_toArray, List.set_cons_zero, List.set_cons_succ]
                      refine wpAnyH_ready (rs := [7]) (by kernel_rfl) (by simp) ?_
                      refine AllReadyH.cons (nth_ops rfl) (fun K hK => ?_) ?_
                      · obtain ⟨⟨r0, r1, r2, r3, r4, r5⟩, ⟨q0, q1, q2, q3, q4, q5⟩⟩ := HTL.out
                        go_simp
                        change K _ (setT wdbmax g' (ps.length * 6) (.int .i64 2) (.bool false) (.slice none 0 0) (.string e) (.int .i64 0) (.slice none 0 0))
                        replace hP := hP.put (ps.length * 6) (.int .i64 2) (.bool false) (.slice none 0 0) (.string e) (.int .i64 0) (.slice none 0 0)
                        clear r0 r1 r2 r3 r4 r5 q0 q1 q2 q3 q4 q5 HTL
                        generalize setT wdbmax g' (ps.length * 6) (.int .i64 2) (.bool false) (.slice none 0 0) (.string e) (.int .i64 0) (.slice none 0 0) = wdbmaxr at *
                        refine hK.out _ _ ?_ (fun hHeld => ?_)
                        exact trivial
                        clear hK K
                        try simp only [Act.put, List.setIfInBounds_toArray, List.set_cons_zero, List.set_cons_succ]
                        refine wpAnyH_done (by kernel_rfl) ?_ _
                        refine NoPanic.normal ?_
                        go_wp2_with fail
                        gi_meet
                        case rel => exact ⟨rfl, g', cap', by have := hP; rw [set_tail (flat ps) _ hfl] at this; simpa [flat_app, flat, cells6, mkV, tmV] using this⟩
                      · exact AllReadyH.nil
                    · exact AllReadyH.nil
                · exact AllReadyH.nil
              · exact AllReadyH.nil
            · exact AllReadyH.nil
        · exact AllReadyH.nil
  case rest =>
    obtain ⟨rfl, hSp⟩ := hcut
    clear hP0
    obtain ⟨pv, nv, cv, rfl⟩ := hT.isS
    gi_wp2_with fail
    refine ⟨trivial, ?_⟩
    refine (callsIn_wide.2 (back_any _ _ ⟨_, _, _, rfl⟩)).mono ?_
    rintro ed wB ⟨rfl, hwB⟩
    have bB : Below wc.heap.size wc wB := by rw [hwB]; exact (Below.refl _ _).alloc (Nat.le_refl _) _
    have hbn : wB.heap[wc.heap.size]? = some (.cells #[.slice pv nv cv] 25 (0, 0)) := by rw [hwB]; exact heap_alloc_new wc _
    have hsB : wB.heap.size = wc.heap.size + 1 := by rw [hwB]; simp
    have hSpB : Sp w0.heap.size w g w.heap.size m (ps ++ [(mkV e, tmMark e)]) wB := by obtain ⟨g1, c1, hP1⟩ := hSp; exact ⟨g1, c1, hP1.below bB⟩
    have hwc : w.heap.size + 1 < wc.heap.size := by obtain ⟨g1, c1, hP1⟩ := hSp; exact hP1.cells.2.2.2.2
    have hgr : w.grownBy wB (some g) := by obtain ⟨g1, c1, hP1⟩ := hSpB; exact hP1.2.2.2.1
    have hbB : Below w0.heap.size w0 wB := hb.grown hgr hb.size (fun k e => by cases e; exact hgB)
    obtain ⟨Bn, hBn⟩ : ∃ x, x = wc.heap.size := ⟨_, rfl⟩
    rw [← hBn] at hbn hsB hwc ⊢
    have HBN : Hid (Bn = wc.heap.size) := hBn
    clear hBn
    have hsB1 : Bn + 1 ≤ wB.heap.size := by omega
    have hsB2 : wB.heap.size ≤ Bn + 1 := by omega
    clear hSp bB hwB hgr hsB
    gi_wp2_with fail
    refine wpIn_rangeFunc_ownH (α := El w0) rfl (by omega) (gf := 47) (lb := #[.pointer (some ⟨Bn, 0, none⟩)]) rfl trivial (enters_of Tryd.func47 (by kernel_rfl) rfl)
      (back_stops Fence.wide 3 trivial rfl (by omega) Bn _ K w0 wB hT hbB (by omega) (cell_of_row wB Bn 0 _ _ _ hbn)) KpB.trans
      (fun W l o o' hl h1 h2 h3 => ⟨belowK_b (w := wB) (by omega) W l o o' hl h1 h2 h3, World.putObj_heap_other (by omega)⟩) (Below.refl _ _) (fun _ => rfl)
      (fun pre W => Sp w0.heap.size w g w.heap.size m (stk ps e m pre) W ∧ W.heap[Bn]? = some (.cells #[.slice pv nv cv] 25 (0, 0)) ∧ wB.heap.size ≤ W.heap.size)
      (fun _ _ _ => False) ?hI (fun _ _ _ _ _ h _ _ => h) ⟨by rw [stk_nil]; exact hSpB, hbn, Nat.le_refl _⟩
      (fun x a' W => ∃ bt c0 c1 c2 c3 c4 c5, x.v = .agg #[c0, c1, c2, c3, c4, c5] ∧ a' = { tmps := #[.slice (some ⟨g, 0, none⟩) ps.length cap, .string b, .slice pv nv cv, .string m, .string e, .pointer (some ⟨w.heap.size, 0, none⟩), undef, undef, .pointer (some ⟨w.heap.size + 1, 0, none⟩), undef, .slice none 0 0, .int .i64 (x.i : Int), .pointer (some ⟨bt, 0, none⟩), u13, u14, u15, u16, u17, u18, u19, .slice pv nv cv, .func (.func 47) #[] #[.pointer (some ⟨Bn, 0, none⟩)], .int .i64 (x.i : Int), x.v, u24, u25, u26, u27, u28, u29, u30, u31, u32, u33, u34, u35, u36, u37, u38, u39, u40, u41, u42, u43], defers := [] } ∧ W.heap[bt]? = some (.cells #[c0, c1, c2, c3, c4, c5] 27 (0, 0)) ∧ wB.heap.size ≤ bt ∧ ∀ g1 n1 cp1, W.heap[w.heap.size]? = some (.cells #[.slice (some ⟨g1, 0, none⟩) n1 cp1] 25 (0, 0)) → g1 ≠ bt)
      ?hAx ?assign ?body ?done ?stop
    case hI =>
      rintro pre W W' row ⟨⟨g1, cp1, hP⟩, h2, h3⟩ hg hr
      exact ⟨⟨g1, cp1, hP.own hg (fun r e => ⟨by have := (hr r e).1; omega, (hr r e).2⟩)⟩, by rw [hg.block _ (Array.getElem?_eq_some_iff.1 h2).1 (cells_not (r := 0) (fun r e => (hr r e).2) h2)]; exact h2, Nat.le_trans h3 hg.size⟩
    case hAx =>
      rintro x a' - W W' row ⟨bt, c0, c1, c2, c3, c4, c5, hx, ha, hbt, hle, hne⟩ hg hr
      have hlt := (Array.getElem?_eq_some_iff.1 hbt).1
      refine ⟨bt, c0, c1, c2, c3, c4, c5, hx, ha, ?_, hle, fun g1 n1 cp1 h => hne g1 n1 cp1 ?_⟩
      · rw [hg.block _ hlt (cells_not (r := 0) (fun r e => (hr r e).2) hbt)]; exact hbt
      · rw [hg.block _ (by omega) (fun e => by have := (hr _ e.symm).1; omega)] at h; exact h
    case assign =>
      rintro l pre ⟨i, v, t, hx⟩ W K' ⟨⟨g1, cp1, hP⟩, h2, h3⟩ hK
      obtain ⟨sl, sk, rfl, hxl, hxk, -, -, -⟩ := hx.open
      obtain ⟨pl, cl, rfl⟩ := hxl.shape
      obtain ⟨pk, ck, rfl, -⟩ := hxk.shape
      have hKX := hK
      clear hK
      have HKX : Hid _ := hKX
      clear hKX
      dsimp only [tmV]
      gi_wp2
      refine HKX.out _ _ ((KeepsOthers.alloc _ _).from _) ⟨(Below.refl _ W).alloc (by have := hP.2.2.2.1.size; omega) _, Below.heap_alloc _ _ _ (Array.getElem?_eq_some_iff.1 h2).1⟩ ⟨⟨g1, cp1, hP.alloc _⟩, ?_, ?_⟩ ⟨W.heap.size, _, _, _, _, _, _, rfl, rfl, heap_alloc_new W _, h3, ?_⟩
      · rw [Below.heap_alloc _ _ _ (Array.getElem?_eq_some_iff.1 h2).1]; exact h2
      · simp; omega
      · intro g2 n2 cp2 h
        rw [Below.heap_alloc _ _ _ hP.cells.2.2.2.1, hP.1] at h
        simp at h
        obtain ⟨cur, hc, -⟩ := hP.row
        have := (Array.getElem?_eq_some_iff.1 hc).1
        omega
    case body =>
      rintro l pre ⟨i, v, t, hx⟩ a' W hll ⟨r, hr⟩ ⟨⟨g1, cp1, hP⟩, h2, h3⟩ ⟨bt, c0, c1, c2, c3, c4, c5, hv, rfl, hbt, hle, hne⟩ hlt
      dsimp only at hv ⊢
      subst hv
      obtain ⟨sl, sk, hve, hxl, hxk, -, -, -⟩ := hx.open
      obtain ⟨pl, cl, rfl⟩ := hxl.shape
      obtain ⟨pk, ck, rfl, -⟩ := hxk.shape
      simp only [tmV, Value.agg.injEq, List.toArray_inj, List.cons.injEq, and_true] at hve
      obtain ⟨rfl, rfl, rfl, rfl, rfl, rfl⟩ := hve
      clear hxl hxk
      have hgbt : g1 ≠ bt := hne g1 _ _ hP.1
      have hpl := stk_len ps e m pre
      have hqn : (stk ps e m pre).length + 2 ≤ 1000000 := by omega
      have HI : Hid (∀ W', KB w0.heap.size Bn (.slice pv nv cv) W W' → Sp w0.heap.size w g w.heap.size m (stk ps e m pre ++ spiece m (⟨i, .agg #[.int .i64 t.kind, .bool t.neg, .slice pl t.limbs.length cl, .string t.str, .int .i64 t.num, .slice pk t.kids.length ck], t, hx⟩ : El w0)) W' →
          KeepsFrom wB.heap.size W W' ∧ KpB w0.heap.size Bn W W' ∧ Sp w0.heap.size w g w.heap.size m (stk ps e m (pre ++ [(⟨i, .agg #[.int .i64 t.kind, .bool t.neg, .slice pl t.limbs.length cl, .string t.str, .int .i64 t.num, .slice pk t.kids.length ck], t, hx⟩ : El w0)])) W' ∧ W'.heap[Bn]? = some (.cells #[.slice pv nv cv] 25 (0, 0)) ∧ wB.heap.size ≤ W'.heap.size) :=
        fun W' hK hS => ⟨⟨hK.size, fun k o _ h1 h2 => hK.oth k o h1 h2⟩, ⟨⟨hK.os, hK.tape, hK.output, hK.size, fun k hk => hK.low k hk⟩, hK.bn.trans hK.hbn.symm⟩, by rw [stk_snoc]; exact hS, hK.bn, Nat.le_trans h3 hK.size⟩
      obtain ⟨qs, hqs⟩ : ∃ qs, qs = stk ps e m pre := ⟨_, rfl⟩
      rw [← hqs] at hP hqn HI
      clear hqs hpl hne
      have HKB : KB w0.heap.size Bn (.slice pv nv cv) W W := KB.start (by have := hbB.size; omega) h2
      have hww := hP.cells.2.2.2.2
      clear h2 hr
      gi_wp2_with fail
      gi_cut [12] from 24 (fun s12 wd => s12 = .pointer (some ⟨bt, 0, none⟩) ∧ Sp w0.heap.size w g w.heap.size m (qs ++ [(.agg #[.int .i64 t.kind, .bool t.neg, .slice pl t.limbs.length cl, .string t.str, .int .i64 t.num, .slice pk t.kids.length ck], t)]) wd ∧ KB w0.heap.size Bn (.slice pv nv cv) W wd)
      case first =>
        have hBt := hbt
        refine wpIn_round_held (S := fun W' => W'.cell? ⟨bt, 0, none⟩ = some (.int .i64 t.kind) ∧ W'.cell? ⟨bt, 1, none⟩ = some (.bool t.neg) ∧ W'.cell? ⟨bt, 2, none⟩ = some (.slice pl t.limbs.length cl) ∧ W'.cell? ⟨bt, 3, none⟩ = some (.string t.str) ∧ W'.cell? ⟨bt, 4, none⟩ = some (.int .i64 t.num) ∧ W'.cell? ⟨bt, 5, none⟩ = some (.slice pk t.kids.length ck)) (by kernel_rfl) (by kernel_rfl) (fun ⟨_, _, h⟩ => h) (s6 hBt) (fun hHeld => ?_)
        replace hP := hP.drew
        replace HKB := HKB.below ((Below.refl _ W).drew)
        replace hBt : W.drew.heap[bt]? = some (.cells #[.int .i64 t.kind, .bool t.neg, .slice pl t.limbs.length cl, .string t.str, .int .i64 t.num, .slice pk t.kids.length ck] 27 (0, 0)) := hBt
        have hfl : (flat qs).length = qs.length * 6 := hP.2.2.1.1
        have hq1 : (qs.length : Int) < (qs.length : Int) + 1 := by omega
        have hqi : (qs.length : Int) ≤ 1000000 := by omega
        have hqc : (qs.length : Int) ≤ (cp1 : Int) ∧ (cp1 : Int) ≤ 9223372036854775807 := by obtain ⟨cur, -, h1, h2, -⟩ := hP.row; unfold maxLen at h2; omega
        generalize W.drew = wd at *
        refine wpAnyH_take (i := 1) (v := ?tv1) (nth_ops rfl) (by kernel_rfl) (by kernel_rfl) (by kernel_rfl) (fun _ _ _ h => h) (Or.inl ⟨by rfl, ?ty1⟩) (by assumption) ?tr1
        case ty1 =>
          intro wq hSq
          go_simp
          try with_reducible rfl
        try simp only [Act.put, List.setIfInBounds_toArray, List.set_cons_zero, List.set_cons_succ]
        refine wpAnyH_ready (rs := [0, 3]) (by kernel_rfl) (by simp) ?_
        refine AllReadyH.cons (nth_ops rfl) (fun K hK => ?_) ?_
        · obtain ⟨c5, f5, c8, l5, l8⟩ := hP.cells
          go_simp
          clear c5 f5 c8 l5 l8
          refine hK.out _ _ ?_ (fun hHeld => ?_)
          exact s6 hBt
          clear hK K
          try simp only [Act.put, List.setIfInBounds_toArray, List.set_cons_zero, List.set_cons_succ]
          refine wpAnyH_take (i := 2) (v := ?tv2) (nth_ops rfl) (by kernel_rfl) (by kernel_rfl) (by kernel_rfl) (fun _ _ _ h => h) (Or.inl ⟨by rfl, ?ty2⟩) (by assumption) ?tr2
          case ty2 =>
            intro wq hSq
            go_simp
            try with_reducible rfl
          try simp only [Act.put, List.setIfInBounds_toArray, List.set_cons_zero, List.set_cons_succ]
          refine wpAnyH_ready (rs := [3]) (by kernel_rfl) (by simp) ?_
          refine AllReadyH.cons (nth_ops rfl) (fun K hK => ?_) ?_
          · go_simp
            obtain ⟨wdb, hwdb⟩ : ∃ x, x = wd.alloc (.cells #[.int .i64 0, .bool false, .slice none 0 0, .string ⟨#[]⟩, .int .i64 0, .slice none 0 0] 27) := ⟨_, rfl⟩
            rw [← hwdb]
            have bm : Below wd.heap.size wd wdb := by rw [hwdb]; exact (Below.refl _ _).alloc (Nat.le_refl _) _
            replace hP := hP.below bm
            have hZ : wdb.heap[wd.heap.size]? = some (.cells #[.int .i64 0, .bool false, .slice none 0 0, .string ⟨#[]⟩, .int .i64 0, .slice none 0 0] 27 (0, 0)) := by rw [hwdb]; exact heap_alloc_new wd _
            replace HKB := HKB.below bm
            replace hBt : wdb.heap[bt]? = some (.cells #[.int .i64 t.kind, .bool t.neg, .slice pl t.limbs.length cl, .string t.str, .int .i64 t.num, .slice pk t.kids.length ck] 27 (0, 0)) := by rw [bm.block bt (Array.getElem?_eq_some_iff.1 hBt).1]; exact hBt
            clear hwdb bm
            refine hK.out _ _ ?_ (fun hHeld => ?_)
            exact s6 hBt
            clear hK K
            try simp only [Act.put, List.setIfInBounds_toArray, List.set_cons_zero, List.set_cons_succ]
            refine wpAnyH_ready (rs := [4]) (by kernel_rfl) (by simp) ?_
            refine AllReadyH.cons (nth_ops rfl) (fun K hK => ?_) ?_
            · refine step_append_lies _ (by rfl) _ _ 25 (by rfl) w0.heap.size 27 ti (.agg #[.int .i64 0, .bool false, .slice none 0 0, .string ⟨#[]⟩, .int .i64 0, .slice none 0 0]) 6 88 Tryd.underlying25 hi hz0 hz1 hz2 rfl (by omega) (.slice (some ⟨g1, 0, none⟩) qs.length cp1) qs.length (flat qs) rfl hP.2.2.1 ⟨wd.heap.size, 0, none⟩ 1 1 zc rfl rfl (World.news_of_block hZ) zc_one (by omega) (by unfold maxLen; omega) (by omega) (by have := hP.2.2.2.1.size; omega) _ rfl ?_
              intro g' cap' wdba hown hgrow hat hlt
              replace HKB := HKB.app hP hgrow
              have hgt : g' ≠ bt := by
                have := (Array.getElem?_eq_some_iff.1 hBt).1
                rcases hat with e | e
                · injection e with e; rw [← e]; exact hgbt
                · omega
              replace hBt : wdba.heap[bt]? = some (.cells #[.int .i64 t.kind, .bool t.neg, .slice pl t.limbs.length cl, .string t.str, .int .i64 t.num, .slice pk t.kids.length ck] 27 (0, 0)) := by rw [hgrow.block bt (Array.getElem?_eq_some_iff.1 hBt).1 (fun e => by injection e with e; exact hgbt e.symm)]; exact hBt
              replace hP := hP.grown hgrow hown hat
              have HTL : Hid _ := hP.tail hfl
              clear hown hgrow hat hZ hlt
              refine hK.out _ _ ?_ (fun hHeld => ?_)
              exact s6 hBt
              clear hK K
              try simp only [Act.put, List.setIfInBounds_toArray, List.set_cons_zero, List.set_cons_succ]
              refine wpAnyH_take (i := 5) (v := ?tv3) (nth_ops rfl) (by kernel_rfl) (by kernel_rfl) (by kernel_rfl) (fun _ _ _ h => h) (Or.inl ⟨by rfl, ?ty3⟩) (by assumption) ?tr3
              case ty3 =>
                intro wq hSq
                go_simp
                try with_reducible rfl
              try simp only [Act.put, List.setIfInBounds_toArray, List.set_cons_zero, List.set_cons_succ]
              refine wpAnyH_ready (rs := [6, 7]) (by kernel_rfl) (by simp) ?_
              refine AllReadyH.cons (nth_ops rfl) (fun K hK => ?_) ?_
              · obtain ⟨⟨r0, r1, r2, r3, r4, r5⟩, ⟨q0, q1, q2, q3, q4, q5⟩⟩ := HTL.out
                go_simp
                change K _ (setT wdba g' (qs.length * 6) (.int .i64 t.kind) (.bool t.neg) (.slice pl t.limbs.length cl) (.string t.str) (.int .i64 t.num) (.slice pk t.kids.length ck))
                replace HKB := HKB.put hP (qs.length * 6) (.int .i64 t.kind) (.bool t.neg) (.slice pl t.limbs.length cl) (.string t.str) (.int .i64 t.num) (.slice pk t.kids.length ck)
                replace hBt : (setT wdba g' (qs.length * 6) (.int .i64 t.kind) (.bool t.neg) (.slice pl t.limbs.length cl) (.string t.str) (.int .i64 t.num) (.slice pk t.kids.length ck)).heap[bt]? = some (.cells #[.int .i64 t.kind, .bool t.neg, .slice pl t.limbs.length cl, .string t.str, .int .i64 t.num, .slice pk t.kids.length ck] 27 (0, 0)) := by rw [(grownBy_setT wdba g' (qs.length * 6) (.int .i64 t.kind) (.bool t.neg) (.slice pl t.limbs.length cl) (.string t.str) (.int .i64 t.num) (.slice pk t.kids.length ck)).block bt (Array.getElem?_eq_some_iff.1 hBt).1 (fun e => by injection e with e; exact hgt e.symm)]; exact hBt
                replace hP := hP.put (qs.length * 6) (.int .i64 t.kind) (.bool t.neg) (.slice pl t.limbs.length cl) (.string t.str) (.int .i64 t.num) (.slice pk t.kids.length ck)
                clear r0 r1 r2 r3 r4 r5 q0 q1 q2 q3 q4 q5 HTL
                generalize setT wdba g' (qs.length * 6) (.int .i64 t.kind) (.bool t.neg) (.slice pl t.limbs.length cl) (.string t.str) (.int .i64 t.num) (.slice pk t.kids.length ck) = wdbar at *
                refine hK.out _ _ ?_ (fun hHeld => ?_)
                exact s6 hBt
                clear hK K
                try simp only [Act.put, List.setIfInBounds_toArray, List.set_cons_zero, List.set_cons_succ]
                refine wpAnyH_ready (rs := [7]) (by kernel_rfl) (by simp) ?_
                refine AllReadyH.cons (nth_ops rfl) (fun K hK => ?_) ?_
                · obtain ⟨c5, f5, c8, l5, l8⟩ := hP.cells
                  go_simp
                  clear c5 f5 c8
                  replace HKB := HKB.box hP (.slice (some ⟨g', 0, none⟩) (qs.length + 1) cap') (by omega) (by omega)
                  replace hBt : (wdbar.setCell ⟨w.heap.size, 0, none⟩ (.slice (some ⟨g', 0, none⟩) (qs.length + 1) cap')).heap[bt]? = some (.cells #[.int .i64 t.kind, .bool t.neg, .slice pl t.limbs.length cl, .string t.str, .int .i64 t.num, .slice pk t.kids.length ck] 27 (0, 0)) := by rw [(grownBy_set wdbar w.heap.size 0 (.slice (some ⟨g', 0, none⟩) (qs.length + 1) cap')).block bt (Array.getElem?_eq_some_iff.1 hBt).1 (fun e => by injection e with e; omega)]; exact hBt
                  replace hP := hP.box (.slice (some ⟨g', 0, none⟩) (qs.length + 1) cap')
                  clear l5 l8
                  generalize wdbar.setCell ⟨w.heap.size, 0, none⟩ (.slice (some ⟨g', 0, none⟩) (qs.length + 1) cap') = wdbarx at *
                  refine hK.out _ _ ?_ (fun hHeld => ?_)
                  exact s6 hBt
                  clear hK K
                  try simp only [Act.put, List.setIfInBounds_toArray, List.set_cons_zero, List.set_cons_succ]
                  refine wpAnyH_done (by kernel_rfl) ?_ _
                  gi_wp2_with fail
                  gi_meet
                  case rel => exact ⟨rfl, ⟨g', cap', by have := hP; rw [set_tail (flat qs) _ hfl] at this; simpa [flat_app, flat, cells6, mkV, tmV] using this⟩, HKB⟩
                · exact AllReadyH.nil
              · refine AllReadyH.cons (nth_ops rfl) (fun K hK => ?_) ?_
                · obtain ⟨c5, f5, c8, l5, l8⟩ := hP.cells
                  go_simp
                  clear c5 f5 c8
                  replace HKB := HKB.box hP (.slice (some ⟨g', 0, none⟩) (qs.length + 1) cap') (by omega) (by omega)
                  replace hBt : (wdba.setCell ⟨w.heap.size, 0, none⟩ (.slice (some ⟨g', 0, none⟩) (qs.length + 1) cap')).heap[bt]? = some (.cells #[.int .i64 t.kind, .bool t.neg, .slice pl t.limbs.length cl, .string t.str, .int .i64 t.num, .slice pk t.kids.length ck] 27 (0, 0)) := by rw [(grownBy_set wdba w.heap.size 0 (.slice (some ⟨g', 0, none⟩) (qs.length + 1) cap')).block bt (Array.getElem?_eq_some_iff.1 hBt).1 (fun e => by injection e with e; omega)]; exact hBt
                  replace hP := hP.box (.slice (some ⟨g', 0, none⟩) (qs.length + 1) cap')
                  replace HTL : Hid _ := hP.tail hfl
                  clear l5 l8
                  generalize wdba.setCell ⟨w.heap.size, 0, none⟩ (.slice (some ⟨g', 0, none⟩) (qs.length + 1) cap') = wdbax at *
                  refine hK.out _ _ ?_ (fun hHeld => ?_)
                  exact s6 hBt
                  clear hK K
                  try simp only [Act.put, List.setIfInBounds_toArray, List.set_cons_zero, List.set_cons_succ]
                  refine wpAnyH_ready (rs := [6]) (by kernel_rfl) (by simp) ?_
                  refine AllReadyH.cons (nth_ops rfl) (fun K hK => ?_) ?_
                  · obtain ⟨⟨r0, r1, r2, r3, r4, r5⟩, ⟨q0, q1, q2, q3, q4, q5⟩⟩ := HTL.out
                    go_simp
                    change K _ (setT wdbax g' (qs.length * 6) (.int .i64 t.kind) (.bool t.neg) (.slice pl t.limbs.length cl) (.string t.str) (.int .i64 t.num) (.slice pk t.kids.length ck))
                    replace HKB := HKB.put hP (qs.length * 6) (.int .i64 t.kind) (.bool t.neg) (.slice pl t.limbs.length cl) (.string t.str) (.int .i64 t.num) (.slice pk t.kids.length ck)
                    replace hBt : (setT wdbax g' (qs.length * 6) (.int .i64 t.kind) (.bool t.neg) (.slice pl t.limbs.length cl) (.string t.str) (.int .i64 t.num) (.slice pk t.kids.length ck)).heap[bt]? = some (.cells #[.int .i64 t.kind, .bool t.neg, .slice pl t.limbs.length cl, .string t.str, .int .i64 t.num, .slice pk t.kids.length ck] 27 (0, 0)) := by rw [(grownBy_setT wdbax g' (qs.length * 6) (.int .i64 t.kind) (.bool t.neg) (.slice pl t.limbs.length cl) (.string t.str) (.int .i64 t.num) (.slice pk t.kids.length ck)).block bt (Array.getElem?_eq_some_iff.1 hBt).1 (fun e => by injection e with e; exact hgt e.symm)]; exact hBt
                    replace hP := hP.put (qs.length * 6) (.int .i64 t.kind) (.bool t.neg) (.slice pl t.limbs.length cl) (.string t.str) (.int .i64 t.num) (.slice pk t.kids.length ck)
                    clear r0 r1 r2 r3 r4 r5 q0 q1 q2 q3 q4 q5 HTL
                    generalize setT wdbax g' (qs.length * 6) (.int .i64 t.kind) (.bool t.neg) (.slice pl t.limbs.length cl) (.string t.str) (.int .i64 t.num) (.slice pk t.kids.length ck) = wdbaxr at *
                    refine hK.out _ _ ?_ (fun hHeld => ?_)
                    exact s6 hBt
                    clear hK K
                    try simp only [Act.put, List.setIfInBounds_toArray, List.set_cons_zero, List.set_cons_succ]
                    refine wpAnyH_done (by kernel_rfl) ?_ _
                    gi_wp2_with fail
                    gi_meet
                    case rel => exact ⟨rfl, ⟨g', cap', by have := hP; rw [set_tail (flat qs) _ hfl] at this; simpa [flat_app, flat, cells6, mkV, tmV] using this⟩, HKB⟩
                  · exact AllReadyH.nil
                · exact AllReadyH.nil
            · exact AllReadyH.nil
          · exact AllReadyH.nil
        · refine AllReadyH.cons (nth_ops rfl) (fun K hK => ?_) ?_
          · go_simp
            obtain ⟨wdb, hwdb⟩ : ∃ x, x = wd.alloc (.cells #[.int .i64 0, .bool false, .slice none 0 0, .string ⟨#[]⟩, .int .i64 0, .slice none 0 0] 27) := ⟨_, rfl⟩
            rw [← hwdb]
            have bm : Below wd.heap.size wd wdb := by rw [hwdb]; exact (Below.refl _ _).alloc (Nat.le_refl _) _
            replace hP := hP.below bm
            have hZ : wdb.heap[wd.heap.size]? = some (.cells #[.int .i64 0, .bool false, .slice none 0 0, .string ⟨#[]⟩, .int .i64 0, .slice none 0 0] 27 (0, 0)) := by rw [hwdb]; exact heap_alloc_new wd _
            replace HKB := HKB.below bm
            replace hBt : wdb.heap[bt]? = some (.cells #[.int .i64 t.kind, .bool t.neg, .slice pl t.limbs.length cl, .string t.str, .int .i64 t.num, .slice pk t.kids.length ck] 27 (0, 0)) := by rw [bm.block bt (Array.getElem?_eq_some_iff.1 hBt).1]; exact hBt
            clear hwdb bm
            refine hK.out _ _ ?_ (fun hHeld => ?_)
            exact s6 hBt
            clear hK K
            try simp only [Act.put, List.setIfInBounds_toArray, List.set_cons_zero, List.set_cons_succ]
            refine wpAnyH_ready (rs := [0]) (by kernel_rfl) (by simp) ?_
            refine AllReadyH.cons (nth_ops rfl) (fun K hK => ?_) ?_
            · obtain ⟨c5, f5, c8, l5, l8⟩ := hP.cells
              go_simp
              clear c5 f5 c8 l5 l8
              refine hK.out _ _ ?_ (fun hHeld => ?_)
              exact s6 hBt
              clear hK K
              try simp only [Act.put, List.setIfInBounds_toArray, List.set_cons_zero, List.set_cons_succ]
              refine wpAnyH_take (i := 2) (v := ?tv4) (nth_ops rfl) (by kernel_rfl) (by kernel_rfl) (by kernel_rfl) (fun _ _ _ h => h) (Or.inl ⟨by rfl, ?ty4⟩) (by assumption) ?tr4
              case ty4 =>
                intro wq hSq
                go_simp
                try with_reducible rfl
              try simp only [Act.put, List.setIfInBounds_toArray, List.set_cons_zero, List.set_cons_succ]
              refine wpAnyH_ready (rs := [4]) (by kernel_rfl) (by simp) ?_
              refine AllReadyH.cons (nth_ops rfl) (fun K hK => ?_) ?_
              · refine step_append_lies _ (by rfl) _ _ 25 (by rfl) w0.heap.size 27 ti (.agg #[.int .i64 0, .bool false, .slice none 0 0, .string ⟨#[]⟩, .int .i64 0, .slice none 0 0]) 6 88 Tryd.underlying25 hi hz0 hz1 hz2 rfl (by omega) (.slice (some ⟨g1, 0, none⟩) qs.length cp1) qs.length (flat qs) rfl hP.2.2.1 ⟨wd.heap.size, 0, none⟩ 1 1 zc rfl rfl (World.news_of_block hZ) zc_one (by omega) (by unfold maxLen; omega) (by omega) (by have := hP.2.2.2.1.size; omega) _ rfl ?_
                intro g' cap' wdba hown hgrow hat hlt
                replace HKB := HKB.app hP hgrow
                have hgt : g' ≠ bt := by
                  have := (Array.getElem?_eq_some_iff.1 hBt).1
                  rcases hat with e | e
                  · injection e with e; rw [← e]; exact hgbt
                  · omega
                replace hBt : wdba.heap[bt]? = some (.cells #[.int .i64 t.kind, .bool t.neg, .slice pl t.limbs.length cl, .string t.str, .int .i64 t.num, .slice pk t.kids.length ck] 27 (0, 0)) := by rw [hgrow.block bt (Array.getElem?_eq_some_iff.1 hBt).1 (fun e => by injection e with e; exact hgbt e.symm)]; exact hBt
                replace hP := hP.grown hgrow hown hat
                have HTL : Hid _ := hP.tail hfl
                clear hown hgrow hat hZ hlt
                refine hK.out _ _ ?_ (fun hHeld => ?_)
                exact s6 hBt
                clear hK K
                try simp only [Act.put, List.setIfInBounds_toArray, List.set_cons_zero, List.set_cons_succ]
                refine wpAnyH_take (i := 5) (v := ?tv5) (nth_ops rfl) (by kernel_rfl) (by kernel_rfl) (by kernel_rfl) (fun _ _ _ h => h) (Or.inl ⟨by rfl, ?ty5⟩) (by assumption) ?tr5
                case ty5 =>
                  intro wq hSq
                  go_simp
                  try with_reducible rfl
                try simp only [Act.put, List.setIfInBounds_toArray, List.set_cons_zero, List.set_cons_succ]
                refine wpAnyH_ready (rs := [6, 7]) (by kernel_rfl) (by simp) ?_
                refine AllReadyH.cons (nth_ops rfl) (fun K hK => ?_) ?_
                · obtain ⟨⟨r0, r1, r2, r3, r4, r5⟩, ⟨q0, q1, q2, q3, q4, q5⟩⟩ := HTL.out
                  go_simp
                  change K _ (setT wdba g' (qs.length * 6) (.int .i64 t.kind) (.bool t.neg) (.slice pl t.limbs.length cl) (.string t.str) (.int .i64 t.num) (.slice pk t.kids.length ck))
                  replace HKB := HKB.put hP (qs.length * 6) (.int .i64 t.kind) (.bool t.neg) (.slice pl t.limbs.length cl) (.string t.str) (.int .i64 t.num) (.slice pk t.kids.length ck)
                  replace hBt : (setT wdba g' (qs.length * 6) (.int .i64 t.kind) (.bool t.neg) (.slice pl t.limbs.length cl) (.string t.str) (.int .i64 t.num) (.slice pk t.kids.length ck)).heap[bt]? = some (.cells #[.int .i64 t.kind, .bool t.neg, .slice pl t.limbs.length cl, .string t.str, .int .i64 t.num, .slice pk t.kids.length ck] 27 (0, 0)) := by rw [(grownBy_setT wdba g' (qs.length * 6) (.int .i64 t.kind) (.bool t.neg) (.slice pl t.limbs.length cl) (.string t.str) (.int .i64 t.num) (.slice pk t.kids.length ck)).block bt (Array.getElem?_eq_some_iff.1 hBt).1 (fun e => by injection e with e; exact hgt e.symm)]; exact hBt
                  replace hP := hP.put (qs.length * 6) (.int .i64 t.kind) (.bool t.neg) (.slice pl t.limbs.length cl) (.string t.str) (.int .i64 t.num) (.slice pk t.kids.length ck)
                  clear r0 r1 r2 r3 r4 r5 q0 q1 q2 q3 q4 q5 HTL
                  generalize setT wdba g' (qs.length * 6) (.int .i64 t.kind) (.bool t.neg) (.slice pl t.limbs.length cl) (.string t.str) (.int .i64 t.num) (.slice pk t.kids.length ck) = wdbar at *
                  refine hK.out _ _ ?_ (fun hHeld => ?_)
                  exact s6 hBt
                  clear hK K
                  try simp only [Act.put, List.setIfInBounds_toArray, List.set_cons_zero, List.set_cons_succ]
                  refine wpAnyH_ready (rs := [7]) (by kernel_rfl) (by simp) ?_
                  refine AllReadyH.cons (nth_ops rfl) (fun K hK => ?_) ?_
                  · obtain ⟨c5, f5, c8, l5, l8⟩ := hP.cells
                    go_simp
                    clear c5 f5 c8
                    replace HKB := HKB.box hP (.slice (some ⟨g', 0, none⟩) (qs.length + 1) cap') (by omega) (by omega)
                    replace hBt : (wdbar.setCell ⟨w.heap.size, 0, none⟩ (.slice (some ⟨g', 0, none⟩) (qs.length + 1) cap')).heap[bt]? = some (.cells #[.int .i64 t.kind, .bool t.neg, .slice pl t.limbs.length cl, .string t.str, .int .i64 t.num, .slice pk t.kids.length ck] 27 (0, 0)) := by rw [(grownBy_set wdbar w.heap.size 0 (.slice (some ⟨g', 0, none⟩) (qs.length + 1) cap')).block bt (Array.getElem?_eq_some_iff.1 hBt).1 (fun e => by injection e with e; omega)]; exact hBt
                    replace hP := hP.box (.slice (some ⟨g', 0, none⟩) (qs.length + 1) cap')
                    clear l5 l8
                    generalize wdbar.setCell ⟨w.heap.size, 0, none⟩ (.slice (some ⟨g', 0, none⟩) (qs.length + 1) cap') = wdbarx at *
                    refine hK.out _ _ ?_ (fun hHeld => ?_)
                    exact s6 hBt
                    clear hK K
                    try simp only [Act.put, List.setIfInBounds_toArray, List.set_cons_zero, List.set_cons_succ]
                    refine wpAnyH_done (by kernel_rfl) ?_ _
                    gi_wp2_with fail
                    gi_meet
                    case rel => exact ⟨rfl, ⟨g', cap', by have := hP; rw [set_tail (flat qs) _ hfl] at this; simpa [flat_app, flat, cells6, mkV, tmV] using this⟩, HKB⟩
                  · exact AllReadyH.nil
                · refine AllReadyH.cons (nth_ops rfl) (fun K hK => ?_) ?_
                  · obtain ⟨c5, f5, c8, l5, l8⟩ := hP.cells
                    go_simp
                    clear c5 f5 c8
                    replace HKB := HKB.box hP (.slice (some ⟨g', 0, none⟩) (qs.length + 1) cap') (by omega) (by omega)
                    replace hBt : (wdba.setCell ⟨w.heap.size, 0, none⟩ (.slice (some ⟨g', 0, none⟩) (qs.length + 1) cap')).heap[bt]? = some (.cells #[.int .i64 t.kind, .bool t.neg, .slice pl t.limbs.length cl, .string t.str, .int .i64 t.num, .slice pk t.kids.length ck] 27 (0, 0)) := by rw [(grownBy_set wdba w.heap.size 0 (.slice (some ⟨g', 0, none⟩) (qs.length + 1) cap')).block bt (Array.getElem?_eq_some_iff.1 hBt).1 (fun e => by injection e with e; omega)]; exact hBt
                    replace hP := hP.box (.slice (some ⟨g', 0, none⟩) (qs.length + 1) cap')
                    replace HTL : Hid _ := hP.tail hfl
                    clear l5 l8
                    generalize wdba.setCell ⟨w.heap.size, 0, none⟩ (.slice (some ⟨g', 0, none⟩) (qs.length + 1) cap') = wdbax at *
                    refine hK.out _ _ ?_ (fun hHeld => ?_)
                    exact s6 hBt
                    clear hK K
                    try simp only [Act.put, List.setIfInBounds_toArray, List.set_cons_zero, List.set_cons_succ]
                    refine wpAnyH_ready (rs := [6]) (by kernel_rfl) (by simp) ?_
                    refine AllReadyH.cons (nth_ops rfl) (fun K hK => ?_) ?_
                    · obtain ⟨⟨r0, r1, r2, r3, r4, r5⟩, ⟨q0, q1, q2, q3, q4, q5⟩⟩ := HTL.out
                      go_simp
                      change K _ (setT wdbax g' (qs.length * 6) (.int .i64 t.kind) (.bool t.neg) (.slice pl t.limbs.length cl) (.string t.str) (.int .i64 t.num) (.slice pk t.kids.length ck))
                      replace HKB := HKB.put hP (qs.length * 6) (.int .i64 t.kind) (.bool t.neg) (.slice pl t.limbs.length cl) (.string t.str) (.int .i64 t.num) (.slice pk t.kids.length ck)
                      replace hBt : (setT wdbax g' (qs.length * 6) (.int .i64 t.kind) (.bool t.neg) (.slice pl t.limbs.length cl) (.string t.str) (.int .i64 t.num) (.slice pk t.kids.length ck)).heap[bt]? = some (.cells #[.int .i64 t.kind, .bool t.neg, .slice pl t.limbs.length cl, .string t.str, .int .i64 t.num, .slice pk t.kids.length ck] 27 (0, 0)) := by rw [(grownBy_setT wdbax g' (qs.length * 6) (.int .i64 t.kind) (.bool t.neg) (.slice pl t.limbs.length cl) (.string t.str) (.int .i64 t.num) (.slice pk t.kids.length ck)).block bt (Array.getElem?_eq_some_iff.1 hBt).1 (fun e => by injection e with e; exact hgt e.symm)]; exact hBt
                      replace hP := hP.put (qs.length * 6) (.int .i64 t.kind) (.bool t.neg) (.slice pl t.limbs.length cl) (.string t.str) (.int .i64 t.num) (.slice pk t.kids.length ck)
                      clear r0 r1 r2 r3 r4 r5 q0 q1 q2 q3 q4 q5 HTL
                      generalize setT wdbax g' (qs.length * 6) (.int .i64 t.kind) (.bool t.neg) (.slice pl t.limbs.length cl) (.string t.str) (.int .i64 t.num) (.slice pk t.kids.length ck) = wdbaxr at *
                      refine hK.out _ _ ?_ (fun hHeld => ?_)
                      exact s6 hBt
                      clear hK K
                      try simp only [Act.put, List.setIfInBounds_toArray, List.set_cons_zero, List.set_cons_succ]
                      refine wpAnyH_done (by kernel_rfl) ?_ _
                      gi_wp2_with fail
                      gi_meet
                      case rel => exact ⟨rfl, ⟨g', cap', by have := hP; rw [set_tail (flat qs) _ hfl] at this; simpa [flat_app, flat, cells6, mkV, tmV] using this⟩, HKB⟩
                    · exact AllReadyH.nil
                  · exact AllReadyH.nil
              · exact AllReadyH.nil
            · exact AllReadyH.nil
          · exact AllReadyH.nil
      case rest =>
        obtain ⟨rfl, ⟨g2, cp2, hP2⟩, HK2⟩ := hcut
        clear hP HKB hbt
        by_cases hi0 : 0 < i
        · have hi0' : (0 : Int) < (i : Int) := by omega
          obtain ⟨qz, hqz⟩ : ∃ qz, qz = qs ++ [(.agg #[.int .i64 t.kind, .bool t.neg, .slice pl t.limbs.length cl, .string t.str, .int .i64 t.num, .slice pk t.kids.length ck], t)] := ⟨_, rfl⟩
          have hqn2 : qz.length + 1 ≤ 1000000 := by rw [hqz]; simp; omega
          have HI2 : Hid (∀ W', KB w0.heap.size Bn (.slice pv nv cv) W W' → Sp w0.heap.size w g w.heap.size m (qz ++ [(mkV m, tmMark m)]) W' →
              KeepsFrom wB.heap.size W W' ∧ KpB w0.heap.size Bn W W' ∧ Sp w0.heap.size w g w.heap.size m (stk ps e m (pre ++ [(⟨i, .agg #[.int .i64 t.kind, .bool t.neg, .slice pl t.limbs.length cl, .string t.str, .int .i64 t.num, .slice pk t.kids.length ck], t, hx⟩ : El w0)])) W' ∧ W'.heap[Bn]? = some (.cells #[.slice pv nv cv] 25 (0, 0)) ∧ wB.heap.size ≤ W'.heap.size) :=
            fun W' hK hS => HI.out W' hK (by rw [hqz] at hS; simpa [spiece, hi0] using hS)
          rw [← hqz] at hP2
          clear hqz HI
          have hP := hP2
          have HKB := HK2
          clear hP2 HK2
          gi_wp2_with fail
          refine wpIn_round_held (S := fun W' => W'.cell? ⟨w.heap.size + 1, 0, none⟩ = some (.string m)) (by kernel_rfl) (by kernel_rfl) (fun ⟨_, _, h⟩ => h) hP.cells.2.2.1 (fun hHeld => ?_)
          replace hP := hP.drew
          replace HKB := HKB.below ((Below.refl _ _).drew)
          have hfl : (flat qz).length = qz.length * 6 := hP.2.2.1.1
          have hq1 : (qz.length : Int) < (qz.length : Int) + 1 := by omega
          have hqi : (qz.length : Int) ≤ 1000000 := by omega
          have hqc : (qz.length : Int) ≤ (cp2 : Int) ∧ (cp2 : Int) ≤ 9223372036854775807 := by obtain ⟨cur, -, h1, h2, -⟩ := hP.row; unfold maxLen at h2; omega
          generalize World.drew _ = we at *
          refine wpAnyH_take (i := 1) (v := ?tv6) (nth_ops rfl) (by kernel_rfl) (by kernel_rfl) (by kernel_rfl) (fun _ _ _ h => h) (Or.inl ⟨by rfl, ?ty6⟩) (by assumption) ?tr6
          case ty6 =>
            intro wq hSq
            go_simp
            try with_reducible rfl
          try simp only [Act.put, List.setIfInBounds_toArray, List.set_cons_zero, List.set_cons_succ]
          refine wpAnyH_ready (rs := [0, 2, 4]) (by kernel_rfl) (by simp) ?_
          refine AllReadyH.cons (nth_ops rfl) (fun K hK => ?_) ?_
          · obtain ⟨c5, f5, c8, l5, l8⟩ := hP.cells
            go_simp
            clear c5 f5 c8 l5 l8
            refine hK.out _ _ ?_ (fun hHeld => ?_)
            exact hP.cells.2.2.1
            clear hK K
            try simp only [Act.put, List.setIfInBounds_toArray, List.set_cons_zero, List.set_cons_succ]
            refine wpAnyH_take (i := 3) (v := ?tv7) (nth_ops rfl) (by kernel_rfl) (by kernel_rfl) (by kernel_rfl) (fun _ _ _ h => h) (Or.inl ⟨by rfl, ?ty7⟩) (by assumption) ?tr7
            case ty7 =>
              intro wq hSq
              go_simp
              try with_reducible rfl
            try simp only [Act.put, List.setIfInBounds_toArray, List.set_cons_zero, List.set_cons_succ]
            refine wpAnyH_ready (rs := [2, 4]) (by kernel_rfl) (by simp) ?_
            refine AllReadyH.cons (nth_ops rfl) (fun K hK => ?_) ?_
            · go_simp
              refine (mark_any m _).mono ?_
              rintro ed wem ⟨rfl, bm⟩
              replace hP := hP.below bm
              replace HKB := HKB.below bm
              clear bm
              simp only [mkV, tmV]
              refine hK.out _ _ ?_ (fun hHeld => ?_)
              exact hP.cells.2.2.1
              clear hK K
              try simp only [Act.put, List.setIfInBounds_toArray, List.set_cons_zero, List.set_cons_succ]
              refine wpAnyH_ready (rs := [4]) (by kernel_rfl) (by simp) ?_
              refine AllReadyH.cons (nth_ops rfl) (fun K hK => ?_) ?_
              · go_simp
                obtain ⟨wemb, hwemb⟩ : ∃ x, x = wem.alloc (.cells #[.int .i64 0, .bool false, .slice none 0 0, .string ⟨#[]⟩, .int .i64 0, .slice none 0 0] 27) := ⟨_, rfl⟩
                rw [← hwemb]
                have bm : Below wem.heap.size wem wemb := by rw [hwemb]; exact (Below.refl _ _).alloc (Nat.le_refl _) _
                replace hP := hP.below bm
                have hZ : wemb.heap[wem.heap.size]? = some (.cells #[.int .i64 0, .bool false, .slice none 0 0, .string ⟨#[]⟩, .int .i64 0, .slice none 0 0] 27 (0, 0)) := by rw [hwemb]; exact heap_alloc_new wem _
                replace HKB := HKB.below bm
                clear hwemb bm
                refine hK.out _ _ ?_ (fun hHeld => ?_)
                exact hP.cells.2.2.1
                clear hK K
                try simp only [Act.put, List.setIfInBounds_toArray, List.set_cons_zero, List.set_cons_succ]
                refine wpAnyH_ready (rs := [5]) (by kernel_rfl) (by simp) ?_
                refine AllReadyH.cons (nth_ops rfl) (fun K hK => ?_) ?_
                · refine step_append_lies _ (by rfl) _ _ 25 (by rfl) w0.heap.size 27 ti (.agg #[.int .i64 0, .bool false, .slice none 0 0, .string ⟨#[]⟩, .int .i64 0, .slice none 0 0]) 6 88 Tryd.underlying25 hi hz0 hz1 hz2 rfl (by omega) (.slice (some ⟨g2, 0, none⟩) qz.length cp2) qz.length (flat qz) rfl hP.2.2.1 ⟨wem.heap.size, 0, none⟩ 1 1 zc rfl rfl (World.news_of_block hZ) zc_one (by omega) (by unfold maxLen; omega) (by omega) (by have := hP.2.2.2.1.size; omega) _ rfl ?_
                  intro g' cap' wemba hown hgrow hat hlt
                  replace HKB := HKB.app hP hgrow
                  replace hP := hP.grown hgrow hown hat
                  have HTL : Hid _ := hP.tail hfl
                  clear hown hgrow hat hZ hlt
                  refine hK.out _ _ ?_ (fun hHeld => ?_)
                  exact hP.cells.2.2.1
                  clear hK K
                  try simp only [Act.put, List.setIfInBounds_toArray, List.set_cons_zero, List.set_cons_succ]
                  refine wpAnyH_take (i := 6) (v := ?tv8) (nth_ops rfl) (by kernel_rfl) (by kernel_rfl) (by kernel_rfl) (fun _ _ _ h => h) (Or.inl ⟨by rfl, ?ty8⟩) (by assumption) ?tr8
                  case ty8 =>
                    intro wq hSq
                    go_simp
                    try with_reducible rfl
                  try simp only [Act.put, List.setIfInBounds_toArray, List.set_cons_zero, List.set_cons_succ]
                  refine wpAnyH_ready (rs := [7, 8]) (by kernel_rfl) (by simp) ?_
                  refine AllReadyH.cons (nth_ops rfl) (fun K hK => ?_) ?_
                  · obtain ⟨⟨r0, r1, r2, r3, r4, r5⟩, ⟨q0, q1, q2, q3, q4, q5⟩⟩ := HTL.out
                    go_simp
                    change K _ (setT wemba g' (qz.length * 6) (.int .i64 2) (.bool false) (.slice none 0 0) (.string m) (.int .i64 0) (.slice none 0 0))
                    replace HKB := HKB.put hP (qz.length * 6) (.int .i64 2) (.bool false) (.slice none 0 0) (.string m) (.int .i64 0) (.slice none 0 0)
                    replace hP := hP.put (qz.length * 6) (.int .i64 2) (.bool false) (.slice none 0 0) (.string m) (.int .i64 0) (.slice none 0 0)
                    clear r0 r1 r2 r3 r4 r5 q0 q1 q2 q3 q4 q5 HTL
                    generalize setT wemba g' (qz.length * 6) (.int .i64 2) (.bool false) (.slice none 0 0) (.string m) (.int .i64 0) (.slice none 0 0) = wembar at *
                    refine hK.out _ _ ?_ (fun hHeld => ?_)
                    exact hP.cells.2.2.1
                    clear hK K
                    try simp only [Act.put, List.setIfInBounds_toArray, List.set_cons_zero, List.set_cons_succ]
                    refine wpAnyH_ready (rs := [8]) (by kernel_rfl) (by simp) ?_
                    refine AllReadyH.cons (nth_ops rfl) (fun K hK => ?_) ?_
                    · obtain ⟨c5, f5, c8, l5, l8⟩ := hP.cells
                      go_simp
                      clear c5 f5 c8
                      replace HKB := HKB.box hP (.slice (some ⟨g', 0, none⟩) (qz.length + 1) cap') (by omega) (by omega)
                      replace hP := hP.box (.slice (some ⟨g', 0, none⟩) (qz.length + 1) cap')
                      clear l5 l8
                      generalize wembar.setCell ⟨w.heap.size, 0, none⟩ (.slice (some ⟨g', 0, none⟩) (qz.length + 1) cap') = wembarx at *
                      refine hK.out _ _ ?_ (fun hHeld => ?_)
                      exact hP.cells.2.2.1
                      clear hK K
                      try simp only [Act.put, List.setIfInBounds_toArray, List.set_cons_zero, List.set_cons_succ]
                      refine wpAnyH_done (by kernel_rfl) ?_ _
                      exact HI2.out _ HKB ⟨g', cap', by have := hP; rw [set_tail (flat qz) _ hfl] at this; simpa [flat_app, flat, cells6, mkV, tmV] using this⟩
                    · exact AllReadyH.nil
                  · refine AllReadyH.cons (nth_ops rfl) (fun K hK => ?_) ?_
                    · obtain ⟨c5, f5, c8, l5, l8⟩ := hP.cells
                      go_simp
                      clear c5 f5 c8
                      replace HKB := HKB.box hP (.slice (some ⟨g', 0, none⟩) (qz.length + 1) cap') (by omega) (by omega)
                      replace hP := hP.box (.slice (some ⟨g', 0, none⟩) (qz.length + 1) cap')
                      replace HTL : Hid _ := hP.tail hfl
                      clear l5 l8
                      generalize wemba.setCell ⟨w.heap.size, 0, none⟩ (.slice (some ⟨g', 0, none⟩) (qz.length + 1) cap') = wembax at *
                      refine hK.out _ _ ?_ (fun hHeld => ?_)
                      exact hP.cells.2.2.1
                      clear hK K
                      try simp only [Act.put, List.setIfInBounds_toArray, List.set_cons_zero, List.set_cons_succ]
                      refine wpAnyH_ready (rs := [7]) (by kernel_rfl) (by simp) ?_
                      refine AllReadyH.cons (nth_ops rfl) (fun K hK => ?_) ?_
                      · obtain ⟨⟨r0, r1, r2, r3, r4, r5⟩, ⟨q0, q1, q2, q3, q4, q5⟩⟩ := HTL.out
                        go_simp
                        change K _ (setT wembax g' (qz.length * 6) (.int .i64 2) (.bool false) (.slice none 0 0) (.string m) (.int .i64 0) (.slice none 0 0))
                        replace HKB := HKB.put hP (qz.length * 6) (.int .i64 2) (.bool false) (.slice none 0 0) (.string m) (.int .i64 0) (.slice none 0 0)
                        replace hP := hP.put (qz.length * 6) (.int .i64 2) (.bool false) (.slice none 0 0) (.string m) (.int .i64 0) (.slice none 0 0)
                        clear r0 r1 r2 r3 r4 r5 q0 q1 q2 q3 q4 q5 HTL
                        generalize setT wembax g' (qz.length * 6) (.int .i64 2) (.bool false) (.slice none 0 0) (.string m) (.int .i64 0) (.slice none 0 0) = wembaxr at *
                        refine hK.out _ _ ?_ (fun hHeld => ?_)
                        exact hP.cells.2.2.1
                        clear hK K
                        try simp only [Act.put, List.setIfInBounds_toArray, List.set_cons_zero, List.set_cons_succ]
                        refine wpAnyH_done (by kernel_rfl) ?_ _
                        exact HI2.out _ HKB ⟨g', cap', by have := hP; rw [set_tail (flat qz) _ hfl] at this; simpa [flat_app, flat, cells6, mkV, tmV] using this⟩
                      · exact AllReadyH.nil
                    · exact AllReadyH.nil
                · exact AllReadyH.nil
              · exact AllReadyH.nil
            · refine AllReadyH.cons (nth_ops rfl) (fun K hK => ?_) ?_
              · go_simp
                obtain ⟨web, hweb⟩ : ∃ x, x = we.alloc (.cells #[.int .i64 0, .bool false, .slice none 0 0, .string ⟨#[]⟩, .int .i64 0, .slice none 0 0] 27) := ⟨_, rfl⟩
                rw [← hweb]
                have bm : Below we.heap.size we web := by rw [hweb]; exact (Below.refl _ _).alloc (Nat.le_refl _) _
                replace hP := hP.below bm
                have hZ : web.heap[we.heap.size]? = some (.cells #[.int .i64 0, .bool false, .slice none 0 0, .string ⟨#[]⟩, .int .i64 0, .slice none 0 0] 27 (0, 0)) := by rw [hweb]; exact heap_alloc_new we _
                replace HKB := HKB.below bm
                clear hweb bm
                refine hK.out _ _ ?_ (fun hHeld => ?_)
                exact hP.cells.2.2.1
                clear hK K
                try simp only [Act.put, List.setIfInBounds_toArray, List.set_cons_zero, List.set_cons_succ]
                refine wpAnyH_ready (rs := [2]) (by kernel_rfl) (by simp) ?_
                refine AllReadyH.cons (nth_ops rfl) (fun K hK => ?_) ?_
                · go_simp
                  refine (mark_any m _).mono ?_
                  rintro ed webm ⟨rfl, bm⟩
                  replace hP := hP.below bm
                  replace HKB := HKB.below bm
                  replace hZ : webm.heap[we.heap.size]? = some (.cells #[.int .i64 0, .bool false, .slice none 0 0, .string ⟨#[]⟩, .int .i64 0, .slice none 0 0] 27 (0, 0)) := by rw [bm.block _ (Array.getElem?_eq_some_iff.1 hZ).1]; exact hZ
                  clear bm
                  simp only [mkV, tmV]
                  refine hK.out _ _ ?_ (fun hHeld => ?_)
                  exact hP.cells.2.2.1
                  clear hK K
                  try simp only [Act.put, List.setIfInBounds_toArray, List.set_cons_zero, List.set_cons_succ]
                  refine wpAnyH_ready (rs := [5]) (by kernel_rfl) (by simp) ?_
                  refine AllReadyH.cons (nth_ops rfl) (fun K hK => ?_) ?_
                  · refine step_append_lies _ (by rfl) _ _ 25 (by rfl) w0.heap.size 27 ti (.agg #[.int .i64 0, .bool false, .slice none 0 0, .string ⟨#[]⟩, .int .i64 0, .slice none 0 0]) 6 88 Tryd.underlying25 hi hz0 hz1 hz2 rfl (by omega) (.slice (some ⟨g2, 0, none⟩) qz.length cp2) qz.length (flat qz) rfl hP.2.2.1 ⟨we.heap.size, 0, none⟩ 1 1 zc rfl rfl (World.news_of_block hZ) zc_one (by omega) (by unfold maxLen; omega) (by omega) (by have := hP.2.2.2.1.size; omega) _ rfl ?_
                    intro g' cap' webma hown hgrow hat hlt
                    replace HKB := HKB.app hP hgrow
                    replace hP := hP.grown hgrow hown hat
                    have HTL : Hid _ := hP.tail hfl
                    clear hown hgrow hat hZ hlt
                    refine hK.out _ _ ?_ (fun hHeld => ?_)
                    exact hP.cells.2.2.1
                    clear hK K
                    try simp only [Act.put, List.setIfInBounds_toArray, List.set_cons_zero, List.set_cons_succ]
                    refine wpAnyH_take (i := 6) (v := ?tv9) (nth_ops rfl) (by kernel_rfl) (by kernel_rfl) (by kernel_rfl) (fun _ _ _ h => h) (Or.inl ⟨by rfl, ?ty9⟩) (by assumption) ?tr9
                    case ty9 =>
                      intro wq hSq
                      go_simp
                      try with_reducible rfl
                    try simp only [Act.put, List.setIfInBounds_toArray, List.set_cons_zero, List.set_cons_succ]
                    refine wpAnyH_ready (rs := [7, 8]) (by kernel_rfl) (by simp) ?_
                    refine AllReadyH.cons (nth_ops rfl) (fun K hK => ?_) ?_
                    · obtain ⟨⟨r0, r1, r2, r3, r4, r5⟩, ⟨q0, q1, q2, q3, q4, q5⟩⟩ := HTL.out
                      go_simp
                      change K _ (setT webma g' (qz.length * 6) (.int .i64 2) (.bool false) (.slice none 0 0) (.string m) (.int .i64 0) (.slice none 0 0))
                      replace HKB := HKB.put hP (qz.length * 6) (.int .i64 2) (.bool false) (.slice none 0 0) (.string m) (.int .i64 0) (.slice none 0 0)
                      replace hP := hP.put (qz.length * 6) (.int .i64 2) (.bool false) (.slice none 0 0) (.string m) (.int .i64 0) (.slice none 0 0)
                      clear r0 r1 r2 r3 r4 r5 q0 q1 q2 q3 q4 q5 HTL
                      generalize setT webma g' (qz.length * 6) (.int .i64 2) (.bool false) (.slice none 0 0) (.string m) (.int .i64 0) (.slice none 0 0) = webmar at *
                      refine hK.out _ _ ?_ (fun hHeld => ?_)
                      exact hP.cells.2.2.1
                      clear hK K
                      try simp only [Act.put, List.setIfInBounds_toArray, List.set_cons_zero, List.set_cons_succ]
                      refine wpAnyH_ready (rs := [8]) (by kernel_rfl) (by simp) ?_
                      refine AllReadyH.cons (nth_ops rfl) (fun K hK => ?_) ?_
                      · obtain ⟨c5, f5, c8, l5, l8⟩ := hP.cells
                        go_simp
                        clear c5 f5 c8
                        replace HKB := HKB.box hP (.slice (some ⟨g', 0, none⟩) (qz.length + 1) cap') (by omega) (by omega)
                        replace hP := hP.box (.slice (some ⟨g', 0, none⟩) (qz.length + 1) cap')
                        clear l5 l8
                        generalize webmar.setCell ⟨w.heap.size, 0, none⟩ (.slice (some ⟨g', 0, none⟩) (qz.length + 1) cap') = webmarx at *
                        refine hK.out _ _ ?_ (fun hHeld => ?_)
                        exact hP.cells.2.2.1
                        clear hK K
                        try simp only [Act.put, List.setIfInBounds_toArray, List.set_cons_zero, List.set_cons_succ]
                        refine wpAnyH_done (by kernel_rfl) ?_ _
                        exact HI2.out _ HKB ⟨g', cap', by have := hP; rw [set_tail (flat qz) _ hfl] at this; simpa [flat_app, flat, cells6, mkV, tmV] using this⟩
                      · exact AllReadyH.nil
                    · refine AllReadyH.cons (nth_ops rfl) (fun K hK => ?_) ?_
                      · obtain ⟨c5, f5, c8, l5, l8⟩ := hP.cells
                        go_simp
                        clear c5 f5 c8
                        replace HKB := HKB.box hP (.slice (some ⟨g', 0, none⟩) (qz.length + 1) cap') (by omega) (by omega)
                        replace hP := hP.box (.slice (some ⟨g', 0, none⟩) (qz.length + 1) cap')
                        replace HTL : Hid _ := hP.tail hfl
                        clear l5 l8
                        generalize webma.setCell ⟨w.heap.size, 0, none⟩ (.slice (some ⟨g', 0, none⟩) (qz.length + 1) cap') = webmax at *
                        refine hK.out _ _ ?_ (fun hHeld => ?_)
                        exact hP.cells.2.2.1
                        clear hK K
                        try simp only [Act.put, List.setIfInBounds_toArray, List.set_cons_zero, List.set_cons_succ]
                        refine wpAnyH_ready (rs := [7]) (by kernel_rfl) (by simp) ?_
                        refine AllReadyH.cons (nth_ops rfl) (fun K hK => ?_) ?_
                        · obtain ⟨⟨r0, r1, r2, r3, r4, r5⟩, ⟨q0, q1, q2, q3, q4, q5⟩⟩ := HTL.out
                          go_simp
                          change K _ (setT webmax g' (qz.length * 6) (.int .i64 2) (.bool false) (.slice none 0 0) (.string m) (.int .i64 0) (.slice none 0 0))
                          replace HKB := HKB.put hP (qz.length * 6) (.int .i64 2) (.bool false) (.slice none 0 0) (.string m) (.int .i64 0) (.slice none 0 0)
                          replace hP := hP.put (qz.length * 6) (.int .i64 2) (.bool false) (.slice none 0 0) (.string m) (.int .i64 0) (.slice none 0 0)
                          clear r0 r1 r2 r3 r4 r5 q0 q1 q2 q3 q4 q5 HTL
                          generalize setT webmax g' (qz.length * 6) (.int .i64 2) (.bool false) (.slice none 0 0) (.string m) (.int .i64 0) (.slice none 0 0) = webmaxr at *
                          refine hK.out _ _ ?_ (fun hHeld => ?_)
                          exact hP.cells.2.2.1
                          clear hK K
                          try simp only [Act.put, List.setIfInBounds_toArray, List.set_cons_zero, List.set_cons_succ]
                          refine wpAnyH_done (by kernel_rfl) ?_ _
                          exact HI2.out _ HKB ⟨g', cap', by have := hP; rw [set_tail (flat qz) _ hfl] at this; simpa [flat_app, flat, cells6, mkV, tmV] using this⟩
                        · exact AllReadyH.nil
                      · exact AllReadyH.nil
                  · exact AllReadyH.nil
                · exact AllReadyH.nil
              · exact AllReadyH.nil
          · refine AllReadyH.cons (nth_ops rfl) (fun K hK => ?_) ?_
            · go_simp
              refine (mark_any m _).mono ?_
              rintro ed wem ⟨rfl, bm⟩
              replace hP := hP.below bm
              replace HKB := HKB.below bm
              clear bm
              simp only [mkV, tmV]
              refine hK.out _ _ ?_ (fun hHeld => ?_)
              exact hP.cells.2.2.1
              clear hK K
              try simp only [Act.put, List.setIfInBounds_toArray, List.set_cons_zero, List.set_cons_succ]
              refine wpAnyH_ready (rs := [0, 4]) (by kernel_rfl) (by simp) ?_
              refine AllReadyH.cons (nth_ops rfl) (fun K hK => ?_) ?_
              · obtain ⟨c5, f5, c8, l5, l8⟩ := hP.cells
                go_simp
                clear c5 f5 c8 l5 l8
                refine hK.out _ _ ?_ (fun hHeld => ?_)
                exact hP.cells.2.2.1
                clear hK K
                try simp only [Act.put, List.setIfInBounds_toArray, List.set_cons_zero, List.set_cons_succ]
                refine wpAnyH_take (i := 3) (v := ?tv10) (nth_ops rfl) (by kernel_rfl) (by kernel_rfl) (by kernel_rfl) (fun _ _ _ h => h) (Or.inl ⟨by rfl, ?ty10⟩) (by assumption) ?tr10
                case ty10 =>
                  intro wq hSq
                  go_simp
                  try with_reducible rfl
                try simp only [Act.put, List.setIfInBounds_toArray, List.set_cons_zero, List.set_cons_succ]
                refine wpAnyH_ready (rs := [4]) (by kernel_rfl) (by simp) ?_
                refine AllReadyH.cons (nth_ops rfl) (fun K hK => ?_) ?_
                · go_simp
                  obtain ⟨wemb, hwemb⟩ : ∃ x, x = wem.alloc (.cells #[.int .i64 0, .bool false, .slice none 0 0, .string ⟨#[]⟩, .int .i64 0, .slice none 0 0] 27) := ⟨_, rfl⟩
                  rw [← hwemb]
                  have bm : Below wem.heap.size wem wemb := by rw [hwemb]; exact (Below.refl _ _).alloc (Nat.le_refl _) _
                  replace hP := hP.below bm
                  have hZ : wemb.heap[wem.heap.size]? = some (.cells #[.int .i64 0, .bool false, .slice none 0 0, .string ⟨#[]⟩, .int .i64 0, .slice none 0 0] 27 (0, 0)) := by rw [hwemb]; exact heap_alloc_new wem _
                  replace HKB := HKB.below bm
                  clear hwemb bm
                  refine hK.out _ _ ?_ (fun hHeld => ?_)
                  exact hP.cells.2.2.1
                  clear hK K
                  try simp only [Act.put, List.setIfInBounds_toArray, List.set_cons_zero, List.set_cons_succ]
                  refine wpAnyH_ready (rs := [5]) (by kernel_rfl) (by simp) ?_
                  refine AllReadyH.cons (nth_ops rfl) (fun K hK => ?_) ?_
                  · refine step_append_lies _ (by rfl) _ _ 25 (by rfl) w0.heap.size 27 ti (.agg #[.int .i64 0, .bool false, .slice none 0 0, .string ⟨#[]⟩, .int .i64 0, .slice none 0 0]) 6 88 Tryd.underlying25 hi hz0 hz1 hz2 rfl (by omega) (.slice (some ⟨g2, 0, none⟩) qz.length cp2) qz.length (flat qz) rfl hP.2.2.1 ⟨wem.heap.size, 0, none⟩ 1 1 zc rfl rfl (World.news_of_block hZ) zc_one (by omega) (by unfold maxLen; omega) (by omega) (by have := hP.2.2.2.1.size; omega) _ rfl ?_
                    intro g' cap' wemba hown hgrow hat hlt
                    replace HKB := HKB.app hP hgrow
                    replace hP := hP.grown hgrow hown hat
                    have HTL : Hid _ := hP.tail hfl
                    clear hown hgrow hat hZ hlt
                    refine hK.out _ _ ?_ (fun hHeld => ?_)
                    exact hP.cells.2.2.1
                    clear hK K
                    try simp only [Act.put, List.setIfInBounds_toArray, List.set_cons_zero, List.set_cons_succ]
                    refine wpAnyH_take (i := 6) (v := ?tv11) (nth_ops rfl) (by kernel_rfl) (by kernel_rfl) (by kernel_rfl) (fun _ _ _ h => h) (Or.inl ⟨by rfl, ?ty11⟩) (by assumption) ?tr11
                    case ty11 =>
                      intro wq hSq
                      go_simp
                      try with_reducible rfl
                    try simp only [Act.put, List.setIfInBounds_toArray, List.set_cons_zero, List.set_cons_succ]
                    refine wpAnyH_ready (rs := [7, 8]) (by kernel_rfl) (by simp) ?_
                    refine AllReadyH.cons (nth_ops rfl) (fun K hK => ?_) ?_
                    · obtain ⟨⟨r0, r1, r2, r3, r4, r5⟩, ⟨q0, q1, q2, q3, q4, q5⟩⟩ := HTL.out
                      go_simp
                      change K _ (setT wemba g' (qz.length * 6) (.int .i64 2) (.bool false) (.slice none 0 0) (.string m) (.int .i64 0) (.slice none 0 0))
                      replace HKB := HKB.put hP (qz.length * 6) (.int .i64 2) (.bool false) (.slice none 0 0) (.string m) (.int .i64 0) (.slice none 0 0)
                      replace hP := hP.put (qz.length * 6) (.int .i64 2) (.bool false) (.slice none 0 0) (.string m) (.int .i64 0) (.slice none 0 0)
                      clear r0 r1 r2 r3 r4 r5 q0 q1 q2 q3 q4 q5 HTL
                      generalize setT wemba g' (qz.length * 6) (.int .i64 2) (.bool false) (.slice none 0 0) (.string m) (.int .i64 0) (.slice none 0 0) = wembar at *
                      refine hK.out _ _ ?_ (fun hHeld => ?_)
                      exact hP.cells.2.2.1
                      clear hK K
                      try simp only [Act.put, List.setIfInBounds_toArray, List.set_cons_zero, List.set_cons_succ]
                      refine wpAnyH_ready (rs := [8]) (by kernel_rfl) (by simp) ?_
                      refine AllReadyH.cons (nth_ops rfl) (fun K hK => ?_) ?_
                      · obtain ⟨c5, f5, c8, l5, l8⟩ := hP.cells
                        go_simp
                        clear c5 f5 c8
                        replace HKB := HKB.box hP (.slice (some ⟨g', 0, none⟩) (qz.length + 1) cap') (by omega) (by omega)
                        replace hP := hP.box (.slice (some ⟨g', 0, none⟩) (qz.length + 1) cap')
                        clear l5 l8
                        generalize wembar.setCell ⟨w.heap.size, 0, none⟩ (.slice (some ⟨g', 0, none⟩) (qz.length + 1) cap') = wembarx at *
                        refine hK.out _ _ ?_ (fun hHeld => ?_)
                        exact hP.cells.2.2.1
                        clear hK K
                        try simp only [Act.put, List.setIfInBounds_toArray, List.set_cons_zero, List.set_cons_succ]
                        refine wpAnyH_done (by kernel_rfl) ?_ _
                        exact HI2.out _ HKB ⟨g', cap', by have := hP; rw [set_tail (flat qz) _ hfl] at this; simpa [flat_app, flat, cells6, mkV, tmV] using this⟩
                      · exact AllReadyH.nil
                    · refine AllReadyH.cons (nth_ops rfl) (fun K hK => ?_) ?_
                      · obtain ⟨c5, f5, c8, l5, l8⟩ := hP.cells
                        go_simp
                        clear c5 f5 c8
                        replace HKB := HKB.box hP (.slice (some ⟨g', 0, none⟩) (qz.length + 1) cap') (by omega) (by omega)
                        replace hP := hP.box (.slice (some ⟨g', 0, none⟩) (qz.length + 1) cap')
                        replace HTL : Hid _ := hP.tail hfl
                        clear l5 l8
                        generalize wemba.setCell ⟨w.heap.size, 0, none⟩ (.slice (some ⟨g', 0, none⟩) (qz.length + 1) cap') = wembax at *
                        refine hK.out _ _ ?_ (fun hHeld => ?_)
                        exact hP.cells.2.2.1
                        clear hK K
                        try simp only [Act.put, List.setIfInBounds_toArray, List.set_cons_zero, List.set_cons_succ]
                        refine wpAnyH_ready (rs := [7]) (by kernel_rfl) (by simp) ?_
                        refine AllReadyH.cons (nth_ops rfl) (fun K hK => ?_) ?_
                        · obtain ⟨⟨r0, r1, r2, r3, r4, r5⟩, ⟨q0, q1, q2, q3, q4, q5⟩⟩ := HTL.out
                          go_simp
                          change K _ (setT wembax g' (qz.length * 6) (.int .i64 2) (.bool false) (.slice none 0 0) (.string m) (.int .i64 0) (.slice none 0 0))
                          replace HKB := HKB.put hP (qz.length * 6) (.int .i64 2) (.bool false) (.slice none 0 0) (.string m) (.int .i64 0) (.slice none 0 0)
                          replace hP := hP.put (qz.length * 6) (.int .i64 2) (.bool false) (.slice none 0 0) (.string m) (.int .i64 0) (.slice none 0 0)
                          clear r0 r1 r2 r3 r4 r5 q0 q1 q2 q3 q4 q5 HTL
                          generalize setT wembax g' (qz.length * 6) (.int .i64 2) (.bool false) (.slice none 0 0) (.string m) (.int .i64 0) (.slice none 0 0) = wembaxr at *
                          refine hK.out _ _ ?_ (fun hHeld => ?_)
                          exact hP.cells.2.2.1
                          clear hK K
                          try simp only [Act.put, List.setIfInBounds_toArray, List.set_cons_zero, List.set_cons_succ]
                          refine wpAnyH_done (by kernel_rfl) ?_ _
                          exact HI2.out _ HKB ⟨g', cap', by have := hP; rw [set_tail (flat qz) _ hfl] at this; simpa [flat_app, flat, cells6, mkV, tmV] using this⟩
                        · exact AllReadyH.nil
                      · exact AllReadyH.nil
                  · exact AllReadyH.nil
                · exact AllReadyH.nil
              · refine AllReadyH.cons (nth_ops rfl) (fun K hK => ?_) ?_
                · go_simp
                  obtain ⟨wemb, hwemb⟩ : ∃ x, x = wem.alloc (.cells #[.int .i64 0, .bool false, .slice none 0 0, .string ⟨#[]⟩, .int .i64 0, .slice none 0 0] 27) := ⟨_, rfl⟩
                  rw [← hwemb]
                  have bm : Below wem.heap.size wem wemb := by rw [hwemb]; exact (Below.refl _ _).alloc (Nat.le_refl _) _
                  replace hP := hP.below bm
                  have hZ : wemb.heap[wem.heap.size]? = some (.cells #[.int .i64 0, .bool false, .slice none 0 0, .string ⟨#[]⟩, .int .i64 0, .slice none 0 0] 27 (0, 0)) := by rw [hwemb]; exact heap_alloc_new wem _
                  replace HKB := HKB.below bm
                  clear hwemb bm
                  refine hK.out _ _ ?_ (fun hHeld => ?_)
                  exact hP.cells.2.2.1
                  clear hK K
                  try simp only [Act.put, List.setIfInBounds_toArray, List.set_cons_zero, List.set_cons_succ]
                  refine wpAnyH_ready (rs := [0]) (by kernel_rfl) (by simp) ?_
                  refine AllReadyH.cons (nth_ops rfl) (fun K hK => ?_) ?_
                  · obtain ⟨c5, f5, c8, l5, l8⟩ := hP.cells
                    go_simp
                    clear c5 f5 c8 l5 l8
                    refine hK.out _ _ ?_ (fun hHeld => ?_)
                    exact hP.cells.2.2.1
                    clear hK K
                    try simp only [Act.put, List.setIfInBounds_toArray, List.set_cons_zero, List.set_cons_succ]
                    refine wpAnyH_take (i := 3) (v := ?tv12) (nth_ops rfl) (by kernel_rfl) (by kernel_rfl) (by kernel_rfl) (fun _ _ _ h => h) (Or.inl ⟨by rfl, ?ty12⟩) (by assumption) ?tr12
                    case ty12 =>
                      intro wq hSq
                      go_simp
                      try with_reducible rfl
                    try simp only [Act.put, List.setIfInBounds_toArray, List.set_cons_zero, List.set_cons_succ]
                    refine wpAnyH_ready (rs := [5]) (by kernel_rfl) (by simp) ?_
                    refine AllReadyH.cons (nth_ops rfl) (fun K hK => ?_) ?_
                    · refine step_append_lies _ (by rfl) _ _ 25 (by rfl) w0.heap.size 27 ti (.agg #[.int .i64 0, .bool false, .slice none 0 0, .string ⟨#[]⟩, .int .i64 0, .slice none 0 0]) 6 88 Tryd.underlying25 hi hz0 hz1 hz2 rfl (by omega) (.slice (some ⟨g2, 0, none⟩) qz.length cp2) qz.length (flat qz) rfl hP.2.2.1 ⟨wem.heap.size, 0, none⟩ 1 1 zc rfl rfl (World.news_of_block hZ) zc_one (by omega) (by unfold maxLen; omega) (by omega) (by have := hP.2.2.2.1.size; omega) _ rfl ?_
                      intro g' cap' wemba hown hgrow hat hlt
                      replace HKB := HKB.app hP hgrow
                      replace hP := hP.grown hgrow hown hat
                      have HTL : Hid _ := hP.tail hfl
                      clear hown hgrow hat hZ hlt
                      refine hK.out _ _ ?_ (fun hHeld => ?_)
                      exact hP.cells.2.2.1
                      clear hK K
                      try simp only [Act.put, List.setIfInBounds_toArray, List.set_cons_zero, List.set_cons_succ]
                      refine wpAnyH_take (i := 6) (v := ?tv13) (nth_ops rfl) (by kernel_rfl) (by kernel_rfl) (by kernel_rfl) (fun _ _ _ h => h) (Or.inl ⟨by rfl, ?ty13⟩) (by assumption) ?tr13
                      case ty13 =>
                        intro wq hSq
                        go_simp
                        try with_reducible rfl
                      try simp only [Act.put, List.setIfInBounds_toArray, List.set_cons_zero, List.set_cons_succ]
                      refine wpAnyH_ready (rs := [7, 8]) (by kernel_rfl) (by simp) ?_
                      refine AllReadyH.cons (nth_ops rfl) (fun K hK => ?_) ?_
                      · obtain ⟨⟨r0, r1, r2, r3, r4, r5⟩, ⟨q0, q1, q2, q3, q4, q5⟩⟩ := HTL.out
                        go_simp
                        change K _ (setT wemba g' (qz.length * 6) (.int .i64 2) (.bool false) (.slice none 0 0) (.string m) (.int .i64 0) (.slice none 0 0))
                        replace HKB := HKB.put hP (qz.length * 6) (.int .i64 2) (.bool false) (.slice none 0 0) (.string m) (.int .i64 0) (.slice none 0 0)
                        replace hP := hP.put (qz.length * 6) (.int .i64 2) (.bool false) (.slice none 0 0) (.string m) (.int .i64 0) (.slice none 0 0)
                        clear r0 r1 r2 r3 r4 r5 q0 q1 q2 q3 q4 q5 HTL
                        generalize setT wemba g' (qz.length * 6) (.int .i64 2) (.bool false) (.slice none 0 0) (.string m) (.int .i64 0) (.slice none 0 0) = wembar at *
                        refine hK.out _ _ ?_ (fun hHeld => ?_)
                        exact hP.cells.2.2.1
                        clear hK K
                        try simp only [Act.put, List.setIfInBounds_toArray, List.set_cons_zero, List.set_cons_succ]
                        refine wpAnyH_ready (rs := [8]) (by kernel_rfl) (by simp) ?_
                        refine AllReadyH.cons (nth_ops rfl) (fun K hK => ?_) ?_
                        · obtain ⟨c5, f5, c8, l5, l8⟩ := hP.cells
                          go_simp
                          clear c5 f5 c8
                          replace HKB := HKB.box hP (.slice (some ⟨g', 0, none⟩) (qz.length + 1) cap') (by omega) (by omega)
                          replace hP := hP.box (.slice (some ⟨g', 0, none⟩) (qz.length + 1) cap')
                          clear l5 l8
                          generalize wembar.setCell ⟨w.heap.size, 0, none⟩ (.slice (some ⟨g', 0, none⟩) (qz.length + 1) cap') = wembarx at *
                          refine hK.out _ _ ?_ (fun hHeld => ?_)
                          exact hP.cells.2.2.1
                          clear hK K
                          try simp only [Act.put, List.setIfInBounds_toArray, List.set_cons_zero, List.set_cons_succ]
                          refine wpAnyH_done (by kernel_rfl) ?_ _
                          exact HI2.out _ HKB ⟨g', cap', by have := hP; rw [set_tail (flat qz) _ hfl] at this; simpa [flat_app, flat, cells6, mkV, tmV] using this⟩
                        · exact AllReadyH.nil
                      · refine AllReadyH.cons (nth_ops rfl) (fun K hK => ?_) ?_
                        · obtain ⟨c5, f5, c8, l5, l8⟩ := hP.cells
                          go_simp
                          clear c5 f5 c8
                          replace HKB := HKB.box hP (.slice (some ⟨g', 0, none⟩) (qz.length + 1) cap') (by omega) (by omega)
                          replace hP := hP.box (.slice (some ⟨g', 0, none⟩) (qz.length + 1) cap')
                          replace HTL : Hid _ := hP.tail hfl
                          clear l5 l8
                          generalize wemba.setCell ⟨w.heap.size, 0, none⟩ (.slice (some ⟨g', 0, none⟩) (qz.length + 1) cap') = wembax at *
                          refine hK.out _ _ ?_ (fun hHeld => ?_)
                          exact hP.cells.2.2.1
                          clear hK K
                          try simp only [Act.put, List.setIfInBounds_toArray, List.set_cons_zero, List.set_cons_succ]
                          refine wpAnyH_ready (rs := [7]) (by kernel_rfl) (by simp) ?_
                          refine AllReadyH.cons (nth_ops rfl) (fun K hK => ?_) ?_
                          · obtain ⟨⟨r0, r1, r2, r3, r4, r5⟩, ⟨q0, q1, q2, q3, q4, q5⟩⟩ := HTL.out
                            go_simp
                            change K _ (setT wembax g' (qz.length * 6) (.int .i64 2) (.bool false) (.slice none 0 0) (.string m) (.int .i64 0) (.slice none 0 0))
                            replace HKB := HKB.put hP (qz.length * 6) (.int .i64 2) (.bool false) (.slice none 0 0) (.string m) (.int .i64 0) (.slice none 0 0)
                            replace hP := hP.put (qz.length * 6) (.int .i64 2) (.bool false) (.slice none 0 0) (.string m) (.int .i64 0) (.slice none 0 0)
                            clear r0 r1 r2 r3 r4 r5 q0 q1 q2 q3 q4 q5 HTL
                            generalize setT wembax g' (qz.length * 6) (.int .i64 2) (.bool false) (.slice none 0 0) (.string m) (.int .i64 0) (.slice none 0 0) = wembaxr at *
                            refine hK.out _ _ ?_ (fun hHeld => ?_)
                            exact hP.cells.2.2.1
                            clear hK K
                            try simp only [Act.put, List.setIfInBounds_toArray, List.set_cons_zero, List.set_cons_succ]
                            refine wpAnyH_done (by kernel_rfl) ?_ _
                            exact HI2.out _ HKB ⟨g', cap', by have := hP; rw [set_tail (flat qz) _ hfl] at this; simpa [flat_app, flat, cells6, mkV, tmV] using this⟩
                          · exact AllReadyH.nil
                        · exact AllReadyH.nil
                    · exact AllReadyH.nil
                  · exact AllReadyH.nil
                · exact AllReadyH.nil
            · refine AllReadyH.cons (nth_ops rfl) (fun K hK => ?_) ?_
              · go_simp
                obtain ⟨web, hweb⟩ : ∃ x, x = we.alloc (.cells #[.int .i64 0, .bool false, .slice none 0 0, .string ⟨#[]⟩, .int .i64 0, .slice none 0 0] 27) := ⟨_, rfl⟩
                rw [← hweb]
                have bm : Below we.heap.size we web := by rw [hweb]; exact (Below.refl _ _).alloc (Nat.le_refl _) _
                replace hP := hP.below bm
                have hZ : web.heap[we.heap.size]? = some (.cells #[.int .i64 0, .bool false, .slice none 0 0, .string ⟨#[]⟩, .int .i64 0, .slice none 0 0] 27 (0, 0)) := by rw [hweb]; exact heap_alloc_new we _
                replace HKB := HKB.below bm
                clear hweb bm
                refine hK.out _ _ ?_ (fun hHeld => ?_)
                exact hP.cells.2.2.1
                clear hK K
                try simp only [Act.put, List.setIfInBounds_toArray, List.set_cons_zero, List.set_cons_succ]
                refine wpAnyH_ready (rs := [0, 2]) (by kernel_rfl) (by simp) ?_
                refine AllReadyH.cons (nth_ops rfl) (fun K hK => ?_) ?_
                · obtain ⟨c5, f5, c8, l5, l8⟩ := hP.cells
                  go_simp
                  clear c5 f5 c8 l5 l8
                  refine hK.out _ _ ?_ (fun hHeld => ?_)
                  exact hP.cells.2.2.1
                  clear hK K
                  try simp only [Act.put, List.setIfInBounds_toArray, List.set_cons_zero, List.set_cons_succ]
                  refine wpAnyH_take (i := 3) (v := ?tv14) (nth_ops rfl) (by kernel_rfl) (by kernel_rfl) (by kernel_rfl) (fun _ _ _ h => h) (Or.inl ⟨by rfl, ?ty14⟩) (by assumption) ?tr14
                  case ty14 =>
                    intro wq hSq
                    go_simp
                    try with_reducible rfl
                  try simp only [Act.put, List.setIfInBounds_toArray, List.set_cons_zero, List.set_cons_succ]
                  refine wpAnyH_ready (rs := [2]) (by kernel_rfl) (by simp) ?_
                  refine AllReadyH.cons (nth_ops rfl) (fun K hK => ?_) ?_
                  · go_simp
                    refine (mark_any m _).mono ?_
                    rintro ed webm ⟨rfl, bm⟩
                    replace hP := hP.below bm
                    replace HKB := HKB.below bm
                    replace hZ : webm.heap[we.heap.size]? = some (.cells #[.int .i64 0, .bool false, .slice none 0 0, .string ⟨#[]⟩, .int .i64 0, .slice none 0 0] 27 (0, 0)) := by rw [bm.block _ (Array.getElem?_eq_some_iff.1 hZ).1]; exact hZ
                    clear bm
                    simp only [mkV, tmV]
                    refine hK.out _ _ ?_ (fun hHeld => ?_)
                    exact hP.cells.2.2.1
                    clear hK K
                    try simp only [Act.put, List.setIfInBounds_toArray, List.set_cons_zero, List.set_cons_succ]
                    refine wpAnyH_ready (rs := [5]) (by kernel_rfl) (by simp) ?_
                    refine AllReadyH.cons (nth_ops rfl) (fun K hK => ?_) ?_
                    · refine step_append_lies _ (by rfl) _ _ 25 (by rfl) w0.heap.size 27 ti (.agg #[.int .i64 0, .bool false, .slice none 0 0, .string ⟨#[]⟩, .int .i64 0, .slice none 0 0]) 6 88 Tryd.underlying25 hi hz0 hz1 hz2 rfl (by omega) (.slice (some ⟨g2, 0, none⟩) qz.length cp2) qz.length (flat qz) rfl hP.2.2.1 ⟨we.heap.size, 0, none⟩ 1 1 zc rfl rfl (World.news_of_block hZ) zc_one (by omega) (by unfold maxLen; omega) (by omega) (by have := hP.2.2.2.1.size; omega) _ rfl ?_
                      intro g' cap' webma hown hgrow hat hlt
                      replace HKB := HKB.app hP hgrow
                      replace hP := hP.grown hgrow hown hat
                      have HTL : Hid _ := hP.tail hfl
                      clear hown hgrow hat hZ hlt
                      refine hK.out _ _ ?_ (fun hHeld => ?_)
                      exact hP.cells.2.2.1
                      clear hK K
                      try simp only [Act.put, List.setIfInBounds_toArray, List.set_cons_zero, List.set_cons_succ]
                      refine wpAnyH_take (i := 6) (v := ?tv15) (nth_ops rfl) (by kernel_rfl) (by kernel_rfl) (by kernel_rfl) (fun _ _ _ h => h) (Or.inl ⟨by rfl, ?ty15⟩) (by assumption) ?tr15
                      case ty15 =>
                        intro wq hSq
                        go_simp
                        try with_reducible rfl
                      try simp only [Act.put, List.setIfInBounds_toArray, List.set_cons_zero, List.set_cons_succ]
                      refine wpAnyH_ready (rs := [7, 8]) (by kernel_rfl) (by simp) ?_
                      refine AllReadyH.cons (nth_ops rfl) (fun K hK => ?_) ?_
                      · obtain ⟨⟨r0, r1, r2, r3, r4, r5⟩, ⟨q0, q1, q2, q3, q4, q5⟩⟩ := HTL.out
                        go_simp
                        change K _ (setT webma g' (qz.length * 6) (.int .i64 2) (.bool false) (.slice none 0 0) (.string m) (.int .i64 0) (.slice none 0 0))
                        replace HKB := HKB.put hP (qz.length * 6) (.int .i64 2) (.bool false) (.slice none 0 0) (.string m) (.int .i64 0) (.slice none 0 0)
                        replace hP := hP.put (qz.length * 6) (.int .i64 2) (.bool false) (.slice none 0 0) (.string m) (.int .i64 0) (.slice none 0 0)
                        clear r0 r1 r2 r3 r4 r5 q0 q1 q2 q3 q4 q5 HTL
                        generalize setT webma g' (qz.length * 6) (.int .i64 2) (.bool false) (.slice none 0 0) (.string m) (.int .i64 0) (.slice none 0 0) = webmar at *
                        refine hK.out _ _ ?_ (fun hHeld => ?_)
                        exact hP.cells.2.2.1
                        clear hK K
                        try simp only [Act.put, List.setIfInBounds_toArray, List.set_cons_zero, List.set_cons_succ]
                        refine wpAnyH_ready (rs := [8]) (by kernel_rfl) (by simp) ?_
                        refine AllReadyH.cons (nth_ops rfl) (fun K hK => ?_) ?_
                        · obtain ⟨c5, f5, c8, l5, l8⟩ := hP.cells
                          go_simp
                          clear c5 f5 c8
                          replace HKB := HKB.box hP (.slice (some ⟨g', 0, none⟩) (qz.length + 1) cap') (by omega) (by omega)
                          replace hP := hP.box (.slice (some ⟨g', 0, none⟩) (qz.length + 1) cap')
                          clear l5 l8
                          generalize webmar.setCell ⟨w.heap.size, 0, none⟩ (.slice (some ⟨g', 0, none⟩) (qz.length + 1) cap') = webmarx at *
                          refine hK.out _ _ ?_ (fun hHeld => ?_)
                          exact hP.cells.2.2.1
                          clear hK K
                          try simp only [Act.put, List.setIfInBounds_toArray, List.set_cons_zero, List.set_cons_succ]
                          refine wpAnyH_done (by kernel_rfl) ?_ _
                          exact HI2.out _ HKB ⟨g', cap', by have := hP; rw [set_tail (flat qz) _ hfl] at this; simpa [flat_app, flat, cells6, mkV, tmV] using this⟩
                        · exact AllReadyH.nil
                      · refine AllReadyH.cons (nth_ops rfl) (fun K hK => ?_) ?_
                        · obtain ⟨c5, f5, c8, l5, l8⟩ := hP.cells
                          go_simp
                          clear c5 f5 c8
                          replace HKB := HKB.box hP (.slice (some ⟨g', 0, none⟩) (qz.length + 1) cap') (by omega) (by omega)
                          replace hP := hP.box (.slice (some ⟨g', 0, none⟩) (qz.length + 1) cap')
                          replace HTL : Hid _ := hP.tail hfl
                          clear l5 l8
                          generalize webma.setCell ⟨w.heap.size, 0, none⟩ (.slice (some ⟨g', 0, none⟩) (qz.length + 1) cap') = webmax at *
                          refine hK.out _ _ ?_ (fun hHeld => ?_)
                          exact hP.cells.2.2.1
                          clear hK K
                          try simp only [Act.put, List.setIfInBounds_toArray, List.set_cons_zero, List.set_cons_succ]
                          refine wpAnyH_ready (rs := [7]) (by kernel_rfl) (by simp) ?_
                          refine AllReadyH.cons (nth_ops rfl) (fun K hK => ?_) ?_
                          · obtain ⟨⟨r0, r1, r2, r3, r4, r5⟩, ⟨q0, q1, q2, q3, q4, q5⟩⟩ := HTL.out
                            go_simp
                            change K _ (setT webmax g' (qz.length * 6) (.int .i64 2) (.bool false) (.slice none 0 0) (.string m) (.int .i64 0) (.slice none 0 0))
                            replace HKB := HKB.put hP (qz.length * 6) (.int .i64 2) (.bool false) (.slice none 0 0) (.string m) (.int .i64 0) (.slice none 0 0)
                            replace hP := hP.put (qz.length * 6) (.int .i64 2) (.bool false) (.slice none 0 0) (.string m) (.int .i64 0) (.slice none 0 0)
                            clear r0 r1 r2 r3 r4 r5 q0 q1 q2 q3 q4 q5 HTL
                            generalize setT webmax g' (qz.length * 6) (.int .i64 2) (.bool false) (.slice none 0 0) (.string m) (.int .i64 0) (.slice none 0 0) = webmaxr at *
                            refine hK.out _ _ ?_ (fun hHeld => ?_)
                            exact hP.cells.2.2.1
                            clear hK K
                            try simp only [Act.put, List.setIfInBounds_toArray, List.set_cons_zero, List.set_cons_succ]
                            refine wpAnyH_done (by kernel_rfl) ?_ _
                            exact HI2.out _ HKB ⟨g', cap', by have := hP; rw [set_tail (flat qz) _ hfl] at this; simpa [flat_app, flat, cells6, mkV, tmV] using this⟩
                          · exact AllReadyH.nil
                        · exact AllReadyH.nil
                    · exact AllReadyH.nil
                  · exact AllReadyH.nil
                · refine AllReadyH.cons (nth_ops rfl) (fun K hK => ?_) ?_
                  · go_simp
                    refine (mark_any m _).mono ?_
                    rintro ed webm ⟨rfl, bm⟩
                    replace hP := hP.below bm
                    replace HKB := HKB.below bm
                    replace hZ : webm.heap[we.heap.size]? = some (.cells #[.int .i64 0, .bool false, .slice none 0 0, .string ⟨#[]⟩, .int .i64 0, .slice none 0 0] 27 (0, 0)) := by rw [bm.block _ (Array.getElem?_eq_some_iff.1 hZ).1]; exact hZ
                    clear bm
                    simp only [mkV, tmV]
                    refine hK.out _ _ ?_ (fun hHeld => ?_)
                    exact hP.cells.2.2.1
                    clear hK K
                    try simp only [Act.put, List.setIfInBounds_toArray, List.set_cons_zero, List.set_cons_succ]
                    refine wpAnyH_ready (rs := [0]) (by kernel_rfl) (by simp) ?_
                    refine AllReadyH.cons (nth_ops rfl) (fun K hK => ?_) ?_
                    · obtain ⟨c5, f5, c8, l5, l8⟩ := hP.cells
                      go_simp
                      clear c5 f5 c8 l5 l8
                      refine hK.out _ _ ?_ (fun hHeld => ?_)
                      exact hP.cells.2.2.1
                      clear hK K
                      try simp only [Act.put, List.setIfInBounds_toArray, List.set_cons_zero, List.set_cons_succ]
                      refine wpAnyH_take (i := 3) (v := ?tv16) (nth_ops rfl) (by kernel_rfl) (by kernel_rfl) (by kernel_rfl) (fun _ _ _ h => h) (Or.inl ⟨by rfl, ?ty16⟩) (by assumption) ?tr16
                      case ty16 =>
                        intro wq hSq
                        go_simp
                        try with_reducible rfl
                      try simp only [Act.put, List.setIfInBounds_toArray, List.set_cons_zero, List.set_cons_succ]
                      refine wpAnyH_ready (rs := [5]) (by kernel_rfl) (by simp) ?_
                      refine AllReadyH.cons (nth_ops rfl) (fun K hK => ?_) ?_
                      · refine step_append_lies _ (by rfl) _ _ 25 (by rfl) w0.heap.size 27 ti (.agg #[.int .i64 0, .bool false, .slice none 0 0, .string ⟨#[]⟩, .int .i64 0, .slice none 0 0]) 6 88 Tryd.underlying25 hi hz0 hz1 hz2 rfl (by omega) (.slice (some ⟨g2, 0, none⟩) qz.length cp2) qz.length (flat qz) rfl hP.2.2.1 ⟨we.heap.size, 0, none⟩ 1 1 zc rfl rfl (World.news_of_block hZ) zc_one (by omega) (by unfold maxLen; omega) (by omega) (by have := hP.2.2.2.1.size; omega) _ rfl ?_
                        intro g' cap' webma hown hgrow hat hlt
                        replace HKB := HKB.app hP hgrow
                        replace hP := hP.grown hgrow hown hat
                        have HTL : Hid _ := hP.tail hfl
                        clear hown hgrow hat hZ hlt
                        refine hK.out _ _ ?_ (fun hHeld => ?_)
                        exact hP.cells.2.2.1
                        clear hK K
                        try simp only [Act.put, List.setIfInBounds_toArray, List.set_cons_zero, List.set_cons_succ]
                        refine wpAnyH_take (i := 6) (v := ?tv17) (nth_ops rfl) (by kernel_rfl) (by kernel_rfl) (by kernel_rfl) (fun _ _ _ h => h) (Or.inl ⟨by rfl, ?ty17⟩) (by assumption) ?tr17
                        case ty17 =>
                          intro wq hSq
                          go_simp
                          try with_reducible rfl
                        try simp only [Act.put, List.setIfInBounds_toArray, List.set_cons_zero, List.set_cons_succ]
                        refine wpAnyH_ready (rs := [7, 8]) (by kernel_rfl) (by simp) ?_
                        refine AllReadyH.cons (nth_ops rfl) (fun K hK => ?_) ?_
                        · obtain ⟨⟨r0, r1, r2, r3, r4, r5⟩, ⟨q0, q1, q2, q3, q4, q5⟩⟩ := HTL.out
                          go_simp
                          change K _ (setT webma g' (qz.length * 6) (.int .i64 2) (.bool false) (.slice none 0 0) (.string m) (.int .i64 0) (.slice none 0 0))
                          replace HKB := HKB.put hP (qz.length * 6) (.int .i64 2) (.bool false) (.slice none 0 0) (.string m) (.int .i64 0) (.slice none 0 0)
                          replace hP := hP.put (qz.length * 6) (.int .i64 2) (.bool false) (.slice none 0 0) (.string m) (.int .i64 0) (.slice none 0 0)
                          clear r0 r1 r2 r3 r4 r5 q0 q1 q2 q3 q4 q5 HTL
                          generalize setT webma g' (qz.length * 6) (.int .i64 2) (.bool false) (.slice none 0 0) (.string m) (.int .i64 0) (.slice none 0 0) = webmar at *
                          refine hK.out _ _ ?_ (fun hHeld => ?_)
                          exact hP.cells.2.2.1
                          clear hK K
                          try simp only [Act.put, List.setIfInBounds_toArray, List.set_cons_zero, List.set_cons_succ]
                          refine wpAnyH_ready (rs := [8]) (by kernel_rfl) (by simp) ?_
                          refine AllReadyH.cons (nth_ops rfl) (fun K hK => ?_) ?_
                          · obtain ⟨c5, f5, c8, l5, l8⟩ := hP.cells
                            go_simp
                            clear c5 f5 c8
                            replace HKB := HKB.box hP (.slice (some ⟨g', 0, none⟩) (qz.length + 1) cap') (by omega) (by omega)
                            replace hP := hP.box (.slice (some ⟨g', 0, none⟩) (qz.length + 1) cap')
                            clear l5 l8
                            generalize webmar.setCell ⟨w.heap.size, 0, none⟩ (.slice (some ⟨g', 0, none⟩) (qz.length + 1) cap') = webmarx at *
                            refine hK.out _ _ ?_ (fun hHeld => ?_)
                            exact hP.cells.2.2.1
                            clear hK K
                            try simp only [Act.put, List.setIfInBounds_toArray, List.set_cons_zero, List.set_cons_succ]
                            refine wpAnyH_done (by kernel_rfl) ?_ _
                            exact HI2.out _ HKB ⟨g', cap', by have := hP; rw [set_tail (flat qz) _ hfl] at this; simpa [flat_app, flat, cells6, mkV, tmV] using this⟩
                          · exact AllReadyH.nil
                        · refine AllReadyH.cons (nth_ops rfl) (fun K hK => ?_) ?_
                          · obtain ⟨c5, f5, c8, l5, l8⟩ := hP.cells
                            go_simp
                            clear c5 f5 c8
                            replace HKB := HKB.box hP (.slice (some ⟨g', 0, none⟩) (qz.length + 1) cap') (by omega) (by omega)
                            replace hP := hP.box (.slice (some ⟨g', 0, none⟩) (qz.length + 1) cap')
                            replace HTL : Hid _ := hP.tail hfl
                            clear l5 l8
                            generalize webma.setCell ⟨w.heap.size, 0, none⟩ (.slice (some ⟨g', 0, none⟩) (qz.length + 1) cap') = webmax at *
                            refine hK.out _ _ ?_ (fun hHeld => ?_)
                            exact hP.cells.2.2.1
                            clear hK K
                            try simp only [Act.put, List.setIfInBounds_toArray, List.set_cons_zero, List.set_cons_succ]
                            refine wpAnyH_ready (rs := [7]) (by kernel_rfl) (by simp) ?_
                            refine AllReadyH.cons (nth_ops rfl) (fun K hK => ?_) ?_
                            · obtain ⟨⟨r0, r1, r2, r3, r4, r5⟩, ⟨q0, q1, q2, q3, q4, q5⟩⟩ := HTL.out
                              go_simp
                              change K _ (setT webmax g' (qz.length * 6) (.int .i64 2) (.bool false) (.slice none 0 0) (.string m) (.int .i64 0) (.slice none 0 0))
                              replace HKB := HKB.put hP (qz.length * 6) (.int .i64 2) (.bool false) (.slice none 0 0) (.string m) (.int .i64 0) (.slice none 0 0)
                              replace hP := hP.put (qz.length * 6) (.int .i64 2) (.bool false) (.slice none 0 0) (.string m) (.int .i64 0) (.slice none 0 0)
                              clear r0 r1 r2 r3 r4 r5 q0 q1 q2 q3 q4 q5 HTL
                              generalize setT webmax g' (qz.length * 6) (.int .i64 2) (.bool false) (.slice none 0 0) (.string m) (.int .i64 0) (.slice none 0 0) = webmaxr at *
                              refine hK.out _ _ ?_ (fun hHeld => ?_)
                              exact hP.cells.2.2.1
                              clear hK K
                              try simp only [Act.put, List.setIfInBounds_toArray, List.set_cons_zero, List.set_cons_succ]
                              refine wpAnyH_done (by kernel_rfl) ?_ _
                              exact HI2.out _ HKB ⟨g', cap', by have := hP; rw [set_tail (flat qz) _ hfl] at this; simpa [flat_app, flat, cells6, mkV, tmV] using this⟩
                            · exact AllReadyH.nil
                          · exact AllReadyH.nil
                      · exact AllReadyH.nil
                    · exact AllReadyH.nil
                  · exact AllReadyH.nil
              · exact AllReadyH.nil
        · have hi0' : ¬ (0 : Int) < (i : Int) := by omega
          have hS3 := HI.out _ HK2 (by simpa [spiece, hi0] using ⟨g2, cp2, hP2⟩)
          have HS3 : Hid _ := hS3
          clear hS3 HI
          gi_wp2_with fail
          exact HS3.out
    case done =>
      rintro D xs W hD ⟨hcm, hxl⟩ ⟨⟨g1, cp1, hP⟩, h2, h3⟩ hDD
      have hpl := stk_len ps e m xs
      have hqn : (stk ps e m xs).length + 2 ≤ 1000000 := by omega
      obtain ⟨qs, hqs⟩ : ∃ qs, qs = stk ps e m xs := ⟨_, rfl⟩
      rw [← hqs] at hP hqn
      have HQS : Hid (qs = stk ps e m xs) := hqs
      clear hqs hpl h2
      have HD : Hid (wB.heap.size ≤ D) := hD
      clear hD
      gi_wp2_with fail
      gi_cut [10] from 39 (fun s10 wd => ∃ g' cap', s10 = .slice (some ⟨g', 0, none⟩) (qs.length + 1) cap' ∧ Pz w0.heap.size w g w.heap.size m (.slice (some ⟨g1, 0, none⟩) qs.length cp1) g' cap' (qs.length + 1) (flat qs ++ [.int .i64 2, .bool false, .slice none 0 0, .string b, .int .i64 0, .slice none 0 0]) wd ∧ wd.heap[D]? = some (.deferred (some [])))
      case first =>
        refine wpIn_wide.2 ?_
        refine wp_region_noPanic ?_
        refine wp_region_held_drew (S := fun _ => True) (by kernel_rfl) trivial (fun hHeld => ?_)
        replace hP := hP.drew
        replace hDD : W.drew.heap[D]? = some (.deferred (some [])) := hDD
        have hfl : (flat qs).length = qs.length * 6 := hP.2.2.1.1
        have hq1 : (qs.length : Int) < (qs.length : Int) + 1 := by omega
        have hqi : (qs.length : Int) ≤ 1000000 := by omega
        have hqc : (qs.length : Int) ≤ (cp1 : Int) ∧ (cp1 : Int) ≤ 9223372036854775807 := by obtain ⟨cur, -, h1, h2, -⟩ := hP.row; unfold maxLen at h2; omega
        generalize W.drew = wd at *
        refine wpAnyH_take (i := 1) (v := ?tv18) (nth_ops rfl) (by kernel_rfl) (by kernel_rfl) (by kernel_rfl) (fun _ _ _ h => h) (Or.inl ⟨by rfl, ?ty18⟩) (by assumption) ?tr18
        case ty18 =>
          intro wq hSq
          go_simp
          try with_reducible rfl
        try simp only [Act.put, List.setIfInBounds_toArray, List.set_cons_zero, List.set_cons_succ]
        refine wpAnyH_ready (rs := [0, 2]) (by kernel_rfl) (by simp) ?_
        refine AllReadyH.cons (nth_ops rfl) (fun K hK => ?_) ?_
        · obtain ⟨c5, f5, c8, l5, l8⟩ := hP.cells
          go_simp
          clear c5 f5 c8 l5 l8
          refine hK.out _ _ ?_ (fun hHeld => ?_)
          exact trivial
          clear hK K
          try simp only [Act.put, List.setIfInBounds_toArray, List.set_cons_zero, List.set_cons_succ]
          refine wpAnyH_ready (rs := [2]) (by kernel_rfl) (by simp) ?_
          refine AllReadyH.cons (nth_ops rfl) (fun K hK => ?_) ?_
          · go_simp
            refine (mark_any b _).mono ?_
            rintro ed wdm ⟨rfl, bm⟩
            replace hP := hP.below bm
            replace hDD : wdm.heap[D]? = some (.deferred (some [])) := by rw [bm.block D (Array.getElem?_eq_some_iff.1 hDD).1]; exact hDD
            clear bm
            simp only [mkV, tmV]
            refine hK.out _ _ ?_ (fun hHeld => ?_)
            exact trivial
            clear hK K
            try simp only [Act.put, List.setIfInBounds_toArray, List.set_cons_zero, List.set_cons_succ]
            refine wpAnyH_ready (rs := [3]) (by kernel_rfl) (by simp) ?_
            refine AllReadyH.cons (nth_ops rfl) (fun K hK => ?_) ?_
            · go_simp
              obtain ⟨wdmb, hwdmb⟩ : ∃ x, x = wdm.alloc (.cells #[.int .i64 2, .bool false, .slice none 0 0, .string b, .int .i64 0, .slice none 0 0] 27) := ⟨_, rfl⟩
              rw [← hwdmb]
              have bm : Below wdm.heap.size wdm wdmb := by rw [hwdmb]; exact (Below.refl _ _).alloc (Nat.le_refl _) _
              replace hP := hP.below bm
              have hZ : wdmb.heap[wdm.heap.size]? = some (.cells #[.int .i64 2, .bool false, .slice none 0 0, .string b, .int .i64 0, .slice none 0 0] 27 (0, 0)) := by rw [hwdmb]; exact heap_alloc_new wdm _
              replace hDD : wdmb.heap[D]? = some (.deferred (some [])) := by rw [bm.block D (Array.getElem?_eq_some_iff.1 hDD).1]; exact hDD
              clear hwdmb bm
              refine hK.out _ _ ?_ (fun hHeld => ?_)
              exact trivial
              clear hK K
              try simp only [Act.put, List.setIfInBounds_toArray, List.set_cons_zero, List.set_cons_succ]
              refine wpAnyH_ready (rs := [4]) (by kernel_rfl) (by simp) ?_
              refine AllReadyH.cons (nth_ops rfl) (fun K hK => ?_) ?_
              · refine step_append_lies _ (by rfl) _ _ 25 (by rfl) w0.heap.size 27 ti (.agg #[.int .i64 0, .bool false, .slice none 0 0, .string ⟨#[]⟩, .int .i64 0, .slice none 0 0]) 6 88 Tryd.underlying25 hi hz0 hz1 hz2 rfl (by omega) (.slice (some ⟨g1, 0, none⟩) qs.length cp1) qs.length (flat qs) rfl hP.2.2.1 ⟨wdm.heap.size, 0, none⟩ 1 1 [.int .i64 2, .bool false, .slice none 0 0, .string b, .int .i64 0, .slice none 0 0] rfl rfl (World.news_of_block hZ) (by intro u hu; simp only [List.mem_cons, List.not_mem_nil, or_false] at hu; rcases hu with rfl | rfl | rfl | rfl | rfl | rfl <;> rfl) (by omega) (by unfold maxLen; omega) (by omega) (by have := hP.2.2.2.1.size; omega) _ rfl ?_
                intro g' cap' wdmba hown hgrow hat hlt
                replace hDD : wdmba.heap[D]? = some (.deferred (some [])) := by
                  rw [hgrow.block D (Array.getElem?_eq_some_iff.1 hDD).1 ?_]
                  · exact hDD
                  · obtain ⟨cur, hc, -⟩ := hP.row
                    intro e
                    injection e with e
                    rw [e, hc] at hDD
                    cases hDD
                replace hP := hP.grown hgrow hown hat
                clear hown hgrow hat hZ hlt
                refine hK.out _ _ ?_ (fun hHeld => ?_)
                exact trivial
                clear hK K
                try simp only [Act.put, List.setIfInBounds_toArray, List.set_cons_zero, List.set_cons_succ]
                refine wpAnyH_take (i := 5) (v := ?tv19) (nth_ops rfl) (by kernel_rfl) (by kernel_rfl) (by kernel_rfl) (fun _ _ _ h => h) (Or.inl ⟨by rfl, ?ty19⟩) (by assumption) ?tr19
                case ty19 =>
                  intro wq hSq
                  go_simp
                  try with_reducible rfl
                try simp only [Act.put, List.setIfInBounds_toArray, List.set_cons_zero, List.set_cons_succ]
                refine wpAnyH_done (by kernel_rfl) ?_ _
                refine NoPanic.normal ?_
                go_wp2_with fail
                gi_meet
                case rel => exact ⟨g', cap', rfl, hP, hDD⟩
              · exact AllReadyH.nil
            · exact AllReadyH.nil
          · exact AllReadyH.nil
        · refine AllReadyH.cons (nth_ops rfl) (fun K hK => ?_) ?_
          · go_simp
            refine (mark_any b _).mono ?_
            rintro ed wdm ⟨rfl, bm⟩
            replace hP := hP.below bm
            replace hDD : wdm.heap[D]? = some (.deferred (some [])) := by rw [bm.block D (Array.getElem?_eq_some_iff.1 hDD).1]; exact hDD
            clear bm
            simp only [mkV, tmV]
            refine hK.out _ _ ?_ (fun hHeld => ?_)
            exact trivial
            clear hK K
            try simp only [Act.put, List.setIfInBounds_toArray, List.set_cons_zero, List.set_cons_succ]
            refine wpAnyH_ready (rs := [0, 3]) (by kernel_rfl) (by simp) ?_
            refine AllReadyH.cons (nth_ops rfl) (fun K hK => ?_) ?_
            · obtain ⟨c5, f5, c8, l5, l8⟩ := hP.cells
              go_simp
              clear c5 f5 c8 l5 l8
              refine hK.out _ _ ?_ (fun hHeld => ?_)
              exact trivial
              clear hK K
              try simp only [Act.put, List.setIfInBounds_toArray, List.set_cons_zero, List.set_cons_succ]
              refine wpAnyH_ready (rs := [3]) (by kernel_rfl) (by simp) ?_
              refine AllReadyH.cons (nth_ops rfl) (fun K hK => ?_) ?_
              · go_simp
                obtain ⟨wdmb, hwdmb⟩ : ∃ x, x = wdm.alloc (.cells #[.int .i64 2, .bool false, .slice none 0 0, .string b, .int .i64 0, .slice none 0 0] 27) := ⟨_, rfl⟩
                rw [← hwdmb]
                have bm : Below wdm.heap.size wdm wdmb := by rw [hwdmb]; exact (Below.refl _ _).alloc (Nat.le_refl _) _
                replace hP := hP.below bm
                have hZ : wdmb.heap[wdm.heap.size]? = some (.cells #[.int .i64 2, .bool false, .slice none 0 0, .string b, .int .i64 0, .slice none 0 0] 27 (0, 0)) := by rw [hwdmb]; exact heap_alloc_new wdm _
                replace hDD : wdmb.heap[D]? = some (.deferred (some [])) := by rw [bm.block D (Array.getElem?_eq_some_iff.1 hDD).1]; exact hDD
                clear hwdmb bm
                refine hK.out _ _ ?_ (fun hHeld => ?_)
                exact trivial
                clear hK K
                try simp only [Act.put, List.setIfInBounds_toArray, List.set_cons_zero, List.set_cons_succ]
                refine wpAnyH_ready (rs := [4]) (by kernel_rfl) (by simp) ?_
                refine AllReadyH.cons (nth_ops rfl) (fun K hK => ?_) ?_
                · refine step_append_lies _ (by rfl) _ _ 25 (by rfl) w0.heap.size 27 ti (.agg #[.int .i64 0, .bool false, .slice none 0 0, .string ⟨#[]⟩, .int .i64 0, .slice none 0 0]) 6 88 Tryd.underlying25 hi hz0 hz1 hz2 rfl (by omega) (.slice (some ⟨g1, 0, none⟩) qs.length cp1) qs.length (flat qs) rfl hP.2.2.1 ⟨wdm.heap.size, 0, none⟩ 1 1 [.int .i64 2, .bool false, .slice none 0 0, .string b, .int .i64 0, .slice none 0 0] rfl rfl (World.news_of_block hZ) (by intro u hu; simp only [List.mem_cons, List.not_mem_nil, or_false] at hu; rcases hu with rfl | rfl | rfl | rfl | rfl | rfl <;> rfl) (by omega) (by unfold maxLen; omega) (by omega) (by have := hP.2.2.2.1.size; omega) _ rfl ?_
                  intro g' cap' wdmba hown hgrow hat hlt
                  replace hDD : wdmba.heap[D]? = some (.deferred (some [])) := by
                    rw [hgrow.block D (Array.getElem?_eq_some_iff.1 hDD).1 ?_]
                    · exact hDD
                    · obtain ⟨cur, hc, -⟩ := hP.row
                      intro e
                      injection e with e
                      rw [e, hc] at hDD
                      cases hDD
                  replace hP := hP.grown hgrow hown hat
                  clear hown hgrow hat hZ hlt
                  refine hK.out _ _ ?_ (fun hHeld => ?_)
                  exact trivial
                  clear hK K
                  try simp only [Act.put, List.setIfInBounds_toArray, List.set_cons_zero, List.set_cons_succ]
                  refine wpAnyH_take (i := 5) (v := ?tv20) (nth_ops rfl) (by kernel_rfl) (by kernel_rfl) (by kernel_rfl) (fun _ _ _ h => h) (Or.inl ⟨by rfl, ?ty20⟩) (by assumption) ?tr20
                  case ty20 =>
                    intro wq hSq
                    go_simp
                    try with_reducible rfl
                  try simp only [Act.put, List.setIfInBounds_toArray, List.set_cons_zero, List.set_cons_succ]
                  refine wpAnyH_done (by kernel_rfl) ?_ _
                  refine NoPanic.normal ?_
                  go_wp2_with fail
                  gi_meet
                  case rel => exact ⟨g', cap', rfl, hP, hDD⟩
                · exact AllReadyH.nil
              · exact AllReadyH.nil
            · refine AllReadyH.cons (nth_ops rfl) (fun K hK => ?_) ?_
              · go_simp
                obtain ⟨wdmb, hwdmb⟩ : ∃ x, x = wdm.alloc (.cells #[.int .i64 2, .bool false, .slice none 0 0, .string b, .int .i64 0, .slice none 0 0] 27) := ⟨_, rfl⟩
                rw [← hwdmb]
                have bm : Below wdm.heap.size wdm wdmb := by rw [hwdmb]; exact (Below.refl _ _).alloc (Nat.le_refl _) _
                replace hP := hP.below bm
                have hZ : wdmb.heap[wdm.heap.size]? = some (.cells #[.int .i64 2, .bool false, .slice none 0 0, .string b, .int .i64 0, .slice none 0 0] 27 (0, 0)) := by rw [hwdmb]; exact heap_alloc_new wdm _
                replace hDD : wdmb.heap[D]? = some (.deferred (some [])) := by rw [bm.block D (Array.getElem?_eq_some_iff.1 hDD).1]; exact hDD
                clear hwdmb bm
                refine hK.out _ _ ?_ (fun hHeld => ?_)
                exact trivial
                clear hK K
                try simp only [Act.put, List.setIfInBounds_toArray, List.set_cons_zero, List.set_cons_succ]
                refine wpAnyH_ready (rs := [0]) (by kernel_rfl) (by simp) ?_
                refine AllReadyH.cons (nth_ops rfl) (fun K hK => ?_) ?_
                · obtain ⟨c5, f5, c8, l5, l8⟩ := hP.cells
                  go_simp
                  clear c5 f5 c8 l5 l8
                  refine hK.out _ _ ?_ (fun hHeld => ?_)
                  exact trivial
                  clear hK K
                  try simp only [Act.put, List.setIfInBounds_toArray, List.set_cons_zero, List.set_cons_succ]
                  refine wpAnyH_ready (rs := [4]) (by kernel_rfl) (by simp) ?_
                  refine AllReadyH.cons (nth_ops rfl) (fun K hK => ?_) ?_
                  · refine step_append_lies _ (by rfl) _ _ 25 (by rfl) w0.heap.size 27 ti (.agg #[.int .i64 0, .bool false, .slice none 0 0, .string ⟨#[]⟩, .int .i64 0, .slice none 0 0]) 6 88 Tryd.underlying25 hi hz0 hz1 hz2 rfl (by omega) (.slice (some ⟨g1, 0, none⟩) qs.length cp1) qs.length (flat qs) rfl hP.2.2.1 ⟨wdm.heap.size, 0, none⟩ 1 1 [.int .i64 2, .bool false, .slice none 0 0, .string b, .int .i64 0, .slice none 0 0] rfl rfl (World.news_of_block hZ) (by intro u hu; simp only [List.mem_cons, List.not_mem_nil, or_false] at hu; rcases hu with rfl | rfl | rfl | rfl | rfl | rfl <;> rfl) (by omega) (by unfold maxLen; omega) (by omega) (by have := hP.2.2.2.1.size; omega) _ rfl ?_
                    intro g' cap' wdmba hown hgrow hat hlt
                    replace hDD : wdmba.heap[D]? = some (.deferred (some [])) := by
                      rw [hgrow.block D (Array.getElem?_eq_some_iff.1 hDD).1 ?_]
                      · exact hDD
                      · obtain ⟨cur, hc, -⟩ := hP.row
                        intro e
                        injection e with e
                        rw [e, hc] at hDD
                        cases hDD
                    replace hP := hP.grown hgrow hown hat
                    clear hown hgrow hat hZ hlt
                    refine hK.out _ _ ?_ (fun hHeld => ?_)
                    exact trivial
                    clear hK K
                    try simp only [Act.put, List.setIfInBounds_toArray, List.set_cons_zero, List.set_cons_succ]
                    refine wpAnyH_take (i := 5) (v := ?tv21) (nth_ops rfl) (by kernel_rfl) (by kernel_rfl) (by kernel_rfl) (fun _ _ _ h => h) (Or.inl ⟨by rfl, ?ty21⟩) (by assumption) ?tr21
                    case ty21 =>
                      intro wq hSq
                      go_simp
                      try with_reducible rfl
                    try simp only [Act.put, List.setIfInBounds_toArray, List.set_cons_zero, List.set_cons_succ]
                    refine wpAnyH_done (by kernel_rfl) ?_ _
                    refine NoPanic.normal ?_
                    go_wp2_with fail
                    gi_meet
                    case rel => exact ⟨g', cap', rfl, hP, hDD⟩
                  · exact AllReadyH.nil
                · exact AllReadyH.nil
              · exact AllReadyH.nil
          · exact AllReadyH.nil
      case rest =>
        obtain ⟨g', cap', rfl, hP8, hD8⟩ := hcut
        gi_wp2_with fail
        refine ⟨by simp, .inl ⟨_, _, rfl, run_takeDeferred hD8, ?_⟩⟩
        refine ⟨_, results_tmp rfl _ _ _, ?_⟩
        have hDs := HD.out
        have hP9 := hP8.own (grownBy_putObj' _ D (.deferred none)) (fun r e => by cases e; exact ⟨by omega, _, hD8, rfl⟩)
        refine ⟨xs, g', cap', hcm, hxl, ?_, ?_, hP9.2.2.2.1, hP9.2.2.2.2.1⟩
        · rw [← HQS.out, List.length_append]; rfl
        · have := hP9.2.2.1
          rw [← HQS.out]
          unfold WaitT
          simpa [flat_app, flat, cells6, mkV, tmV] using this
    case stop =>
      rintro D c pre W _ _ h _
      exact h.elim
end Go.Proofs.YtfcdocgjmgpmkaaDoor
