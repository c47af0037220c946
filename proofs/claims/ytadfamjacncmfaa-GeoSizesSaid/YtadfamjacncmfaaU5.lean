/- Statement GeoSizes: for every geometry the law returns true. -/
import Derived.Test.YtadfamjacncmfaaGd
import Derived.Test.YtadfamjacncmfaaGs
namespace Go.Proofs.Ytadfamjacncmfaa
open Go.RowKit
attribute [local go_sem ↓] Cl.quiet_after

theorem siz_more {B P W K : Int} (hM : mayG B P W K = true) (hH : mayG B P W (K + 1) = true) :
    10 * W - 8 ≤ 8 * (sizG B P W (K + 1) - sizG B P W K) ∧ 8 * (sizG B P W (K + 1) - sizG B P W K) ≤ 10 * W + 8 ∧ 0 ≤ sizG B P W K ∧ sizG B P W K ≤ 400 ∧ 0 ≤ sizG B P W (K + 1) ∧ sizG B P W (K + 1) ≤ 400 := by
  obtain ⟨_, _, _, _, g5, g6, g7, g8, g9⟩ := may_of hM
  obtain ⟨_, _, _, _, _, _, h7, h8, h9⟩ := may_of hH
  have p1 := prod_le g5 g6 g7 g8
  have p2 := prod_le g5 g6 h7 h8
  have e : W * (K + 1) = W * K + W := by rw [Int.mul_add, Int.mul_one]
  rw [e] at p2 h9
  unfold sizG bytG
  rw [if_pos hM, if_pos hH, e]
  generalize W * K = x at *
  omega
theorem cel_more {B P W K : Int} (hM : mayG B P W K = true) (hH : mayG B P W (K + 1) = true) :
    celG B P W (K + 1) = celG B P W K + W ∧ 0 ≤ celG B P W K ∧ celG B P W K ≤ 400 := by
  obtain ⟨_, _, _, _, g5, g6, g7, g8, _⟩ := may_of hM
  unfold celG
  rw [if_pos hM, if_pos hH]
  have : W = 1 ∨ W = 2 ∨ W = 3 ∨ W = 4 := by omega
  rcases this with rfl | rfl | rfl | rfl <;> omega
set_option maxRecDepth 20000 in
set_option maxHeartbeats 4000000 in
theorem sizes_any (B P W K : Int) (w : World) : Calls Try.prog 7 #[.agg #[.int .i64 B, .int .i64 P, .int .i64 W, .int .i64 K]] w (Ans w (.bool true)) := by
  have hb := Lib.hid (below_alloc w (.cells #[.int .i64 B, .int .i64 P, .int .i64 W, .int .i64 K] 23))
  have hx := Lib.hid (Box.new w B P W K)
  have ca := Lib.hid awake_any
  have cr := refmay_any B P W K
  cases hM : mayG B P W K
  · rw [hM] at cr
    replace cr := Lib.hid cr
    clear hM
    go_enter Try.func7, Try.ntmps7
    go_wp2_with (first
      | (go_at_call 8; (with_reducible refine (ca.out _).mono ?_); rintro e w1 ⟨rfl, hb1⟩; have hx := Lib.hid (hx.out.keep hb1); obtain ⟨hlt, c0, c1, c2, c3⟩ := hx.out; have hb := Lib.hid (hb.out.trans (hb1.mono hb.out.size)); clear hb1)
      | (go_at_call 9; (with_reducible refine (cr.out _).mono ?_); rintro e w2 ⟨rfl, hb1⟩; have hb := Lib.hid (hb.out.trans (Below.mono ((below_alloc w1 _).trans (hb1.mono (below_alloc w1 _).size)) hb.out.size)); clear hb1))
    go_ret
    exact ⟨rfl, hb.out⟩
  · have cr2 := refmay_any B P W (K + 1)
    obtain ⟨g1, g2, g3, g4, g5, g6, g7, g8, g9⟩ := may_of hM
    rw [hM] at cr
    replace cr := Lib.hid cr
    cases hH : mayG B P W (K + 1)
    · rw [hH] at cr2
      replace cr2 := Lib.hid cr2
      clear hM hH g9
      go_enter Try.func7, Try.ntmps7
      go_wp2_with (first
        | (go_at_call 8; (with_reducible refine (ca.out _).mono ?_); rintro e w1 ⟨rfl, hb1⟩; have hx := Lib.hid (hx.out.keep hb1); obtain ⟨hlt, c0, c1, c2, c3⟩ := hx.out; have hb := Lib.hid (hb.out.trans (hb1.mono hb.out.size)); clear hb1; have hA := below_alloc w1 (.cells #[.int .i64 B, .int .i64 P, .int .i64 W, .int .i64 (K + 1)] 23); have hx := Lib.hid (hx.out.keep hA); have hb := Lib.hid (hb.out.trans (hA.mono hb.out.size)); have hy := Lib.hid (Box.new w1 B P W (K + 1)); clear hA)
        | (go_at_call 9; (first | (with_reducible refine (cr.out _).mono ?_) | (with_reducible refine (cr2.out _).mono ?_)); rintro e w1 ⟨rfl, hb1⟩; have hb := Lib.hid (hb.out.trans (hb1.mono hb.out.size)); have hx := Lib.hid (hx.out.keep hb1); obtain ⟨_, c0, c1, c2, c3⟩ := hx.out; have hy := Lib.hid (hy.out.keep hb1); obtain ⟨_, e0, e1, e2, e3⟩ := hy.out; clear hb1))
      go_ret
      exact ⟨rfl, hb.out⟩
    · obtain ⟨m1, m2, m3, m4, m5, m6⟩ := siz_more hM hH
      obtain ⟨l1, l2, l3⟩ := cel_more hM hH
      have d1 := cells_any B P W K
      have d2 := cells_any B P W (K + 1)
      have d3 := size_any B P W K
      have d4 := size_any B P W (K + 1)
      have d5 := count_any B P W K
      have d6 := count_any B P W (K + 1)
      have d7 := fun w => lpns_any B P W K 0 w (by decide)
      have d8 := fun w => lpns_any B P W (K + 1) 0 w (by decide)
      have q1 : cntG B P W (K + 1) = cntG B P W K := by unfold cntG; rw [hM, hH]
      have q2 : lpnG B P W (K + 1) 0 = lpnG B P W K 0 := by unfold lpnG; rw [hM, hH]
      rw [q1] at d6
      rw [q2] at d8
      rw [l1] at d2
      rw [hH] at cr2
      obtain ⟨c, hc⟩ : ∃ c, cntG B P W K = c := ⟨_, rfl⟩
      obtain ⟨l, hl⟩ : ∃ l, lpnG B P W K 0 = l := ⟨_, rfl⟩
      obtain ⟨e, he⟩ : ∃ e, celG B P W K = e := ⟨_, rfl⟩
      obtain ⟨y, hy⟩ : ∃ y, sizG B P W K = y := ⟨_, rfl⟩
      obtain ⟨z, hz⟩ : ∃ z, sizG B P W (K + 1) = z := ⟨_, rfl⟩
      rw [hc] at d5 d6; rw [hl] at d7 d8; rw [he] at d1 l2 l3; rw [hy] at d3 m1 m2 m3 m4; rw [hz] at d4 m1 m2 m5 m6
      obtain ⟨v, hv⟩ : ∃ v, e + W = v := ⟨_, rfl⟩
      have hv2 : v - e = W := by omega
      have hv3 : 0 ≤ v ∧ v ≤ 500 := by omega
      have hv4 : (W == W) = true := by simp
      have hv5 : (v - e == W) = true := by rw [hv2]; exact hv4
      rw [he, hv] at d2
      clear hc hl he hy hz q1 q2 l1 hM hH g9 hv
      replace cr2 := Lib.hid cr2
      replace d1 := Lib.hid d1; replace d2 := Lib.hid d2; replace d3 := Lib.hid d3; replace d4 := Lib.hid d4; replace d5 := Lib.hid d5; replace d6 := Lib.hid d6; replace d7 := Lib.hid d7; replace d8 := Lib.hid d8
      go_enter Try.func7, Try.ntmps7
      go_wp2_with (first
        | (go_at_call 8; (with_reducible refine (ca.out _).mono ?_); rintro e w1 ⟨rfl, hb1⟩; have hx := Lib.hid (hx.out.keep hb1); obtain ⟨hlt, c0, c1, c2, c3⟩ := hx.out; have hb := Lib.hid (hb.out.trans (hb1.mono hb.out.size)); clear hb1; have hA := below_alloc w1 (.cells #[.int .i64 B, .int .i64 P, .int .i64 W, .int .i64 (K + 1)] 23); have hx := Lib.hid (hx.out.keep hA); have hb := Lib.hid (hb.out.trans (hA.mono hb.out.size)); have hy := Lib.hid (Box.new w1 B P W (K + 1)); clear hA)
        | (go_at_call 9; (first | (with_reducible refine (cr.out _).mono ?_) | (with_reducible refine (cr2.out _).mono ?_)); rintro e w1 ⟨rfl, hb1⟩; have hb := Lib.hid (hb.out.trans (hb1.mono hb.out.size)); have hx := Lib.hid (hx.out.keep hb1); obtain ⟨_, c0, c1, c2, c3⟩ := hx.out; have hy := Lib.hid (hy.out.keep hb1); obtain ⟨_, e0, e1, e2, e3⟩ := hy.out; clear hb1))
      have k0 := fun x : Cl.After w1.heap.size w1 => (hx.out.aft x).c0
      have k1 := fun x : Cl.After w1.heap.size w1 => (hx.out.aft x).c1
      have k2 := fun x : Cl.After w1.heap.size w1 => (hx.out.aft x).c2
      have k3 := fun x : Cl.After w1.heap.size w1 => (hx.out.aft x).c3
      have l0 := fun x : Cl.After w1.heap.size w1 => (hy.out.aft x).c0
      have l1 := fun x : Cl.After w1.heap.size w1 => (hy.out.aft x).c1
      have l2 := fun x : Cl.After w1.heap.size w1 => (hy.out.aft x).c2
      have l3 := fun x : Cl.After w1.heap.size w1 => (hy.out.aft x).c3
      refine Cl.region_after_at w1.heap.size (by kernel_rfl) lex7_7 (by kernel_rfl) ?_
      try simp only [List.append]
      repeat (go_big_quiet_step (first
        | (go_at_call 15; first | (with_reducible exact ans_of (Nat.le_refl _) (d3.out _)) | (with_reducible exact ans_of (Nat.le_refl _) (d4.out _)))))
      refine wpQuiet_nil ?_
      rintro _ ⟨x, rfl⟩
      clear k0 k1 k2 k3 l0 l1 l2 l3
      have hb := Lib.hid (hb.out.trans (x.below.mono hb.out.size))
      have hx := Lib.hid (hx.out.aft x)
      have hy := Lib.hid (hy.out.aft x)
      generalize x.w = w1 at hb hx hy ⊢
      obtain ⟨_, c0, c1, c2, c3⟩ := hx.out
      obtain ⟨_, e0, e1, e2, e3⟩ := hy.out
      go_wp2_with fail
      have k0 := fun x : Cl.After w1.heap.size w1 => (hx.out.aft x).c0
      have k1 := fun x : Cl.After w1.heap.size w1 => (hx.out.aft x).c1
      have k2 := fun x : Cl.After w1.heap.size w1 => (hx.out.aft x).c2
      have k3 := fun x : Cl.After w1.heap.size w1 => (hx.out.aft x).c3
      have l0 := fun x : Cl.After w1.heap.size w1 => (hy.out.aft x).c0
      have l1 := fun x : Cl.After w1.heap.size w1 => (hy.out.aft x).c1
      have l2 := fun x : Cl.After w1.heap.size w1 => (hy.out.aft x).c2
      have l3 := fun x : Cl.After w1.heap.size w1 => (hy.out.aft x).c3
      refine Cl.region_after_at w1.heap.size (by kernel_rfl) lex7_8 (by kernel_rfl) ?_
      try simp only [List.append]
      repeat (go_big_quiet_step (first
        | (go_at_call 13; first | (with_reducible exact ans_of (Nat.le_refl _) (d1.out _)) | (with_reducible exact ans_of (Nat.le_refl _) (d2.out _)))
        | (go_at_call 17; first | (with_reducible exact ans_of (Nat.le_refl _) (d5.out _)) | (with_reducible exact ans_of (Nat.le_refl _) (d6.out _)))
        | (go_at_call 18; first | (with_reducible exact ans_of (Nat.le_refl _) (d7.out _)) | (with_reducible exact ans_of (Nat.le_refl _) (d8.out _)))))
      refine wpQuiet_nil ?_
      rintro _ ⟨x, rfl⟩
      clear k0 k1 k2 k3 l0 l1 l2 l3
      have hb := Lib.hid (hb.out.trans (x.below.mono hb.out.size))
      have hx := Lib.hid (hx.out.aft x)
      have hy := Lib.hid (hy.out.aft x)
      generalize x.w = w1 at hb hx hy ⊢
      obtain ⟨_, c0, c1, c2, c3⟩ := hx.out
      obtain ⟨_, e0, e1, e2, e3⟩ := hy.out
      go_wp2
      go_ret
      exact ⟨rfl, hb.out⟩
theorem sizes_law (B P W K : Int) (_ : (Lit.int .i64 B).wf = true) (_ : (Lit.int .i64 P).wf = true) (_ : (Lit.int .i64 W).wf = true) (_ : (Lit.int .i64 K).wf = true) (w : World) :
    Calls Try.prog 7 #[.agg #[.int .i64 B, .int .i64 P, .int .i64 W, .int .i64 K]] w fun e w' => e = .returned (.bool true) ∧ Below w.heap.size w w' := sizes_any B P W K w
end Go.Proofs.Ytadfamjacncmfaa
namespace Go.Proofs.Ytadfamjacncmfaa.geoSizes
open Go.ChangeShapes Go.WideShapes Go.ChangeAt Go.RowKit
set_option linter.unusedVariables false

theorem own : ownKnob Try.prog.godebug = none := by kernel_rfl

theorem walk (B0 P0 W0 K0 : Int) (wB0 : (Lit.int .i64 B0).wf = true) (wP0 : (Lit.int .i64 P0).wf = true) (wW0 : (Lit.int .i64 W0).wf = true) (wK0 : (Lit.int .i64 K0).wf = true) (w : World)  :
    Calls Try.prog 7 #[.agg #[.int .i64 B0, .int .i64 P0, .int .i64 W0, .int .i64 K0]] w fun e w' => e = .returned (.bool true) ∧ Below w.heap.size w w' := sizes_law B0 P0 W0 K0 wB0 wP0 wW0 wK0 w 

set_option maxRecDepth 100000 in
theorem lifted (os : Os) (started : os.Started) (H : Type) (enc : TypeId × Value → H) :
    ReturnsInHanded {} Try.checked os 7 .any (Rows.geoSizesSpec.pre6 enc Try.prog Try.f7 Rows.geoSizesRow.domain false) (Rows.geoSizesSpec.post enc Try.prog Try.f7 false true false false) := by
  refine returnsInHanded_of_change (C := Try.checked) own started (by kernel_rfl) Try.func7
    (ChangeSpec.witness6 (enc := enc) (C := Try.checked) false ⟨#[], #[.agg #[.int .i64 0, .int .i64 0, .int .i64 0, .int .i64 0]], []⟩ 8 (by kernel_rfl) (by kernel_rfl) (by kernel_rfl) (by kernel_rfl)) ?_
  intro W base args ds gs before hval0 hW hcnd _
  have hval : ∀ (j : Nat) t v, Try.f7.params[j]? = some t → args[j]? = some v → Value.okWide Try.prog W .any base t v := hval0
  have hW' := hW
  obtain ⟨p, q, hA0, hV, rfl, hfz, hnd⟩ := hW
  have hA : DataW.TrodAll enc Try.prog W 0 (fun _ => true) true Try.f7.params.toList args.toList ds p := hA0
  rw [Try.params7] at hA hval
  obtain ⟨v0, vs0, d0, ds0, p0, q0, hargs, rfl, rfl, h0, r0⟩ := trodAll_cons hA
  obtain ⟨rfl, rfl, rfl⟩ := trodAll_nil r0
  obtain rfl : args = #[v0] := by cases args; simp_all
  obtain ⟨rfl, rfl⟩ := trodVars_none hV
  obtain ⟨B0, P0, W0, K0, rfl, rfl, rfl, wB0, wP0, wW0, wK0⟩ := open_four Try.underlying23 (by kernel_rfl) (by kernel_rfl : Try.prog.cellsOf 23 = 4) Try.underlying3 Try.underlying3 Try.underlying3 Try.underlying3 (hval 0 23 v0 rfl rfl) h0
  clear hA0 hval0
  refine (walk B0 P0 W0 K0 wB0 wP0 wW0 wK0 W ).mono fun e W' ⟨he, hg⟩ => ?_
  subst he
  exact ⟨_, rfl, Cl.post_below (pv := []) hW' (fun _ _ _ => (trodAll_cons_mk (shut_bool Try.underlying4 _) trodAll_mk0)) (fun sp hsp => (trodAll_cons_mk (shut_four Try.underlying23 (by kernel_rfl) (by kernel_rfl : Try.prog.cellsOf 23 = 4) Try.underlying3 Try.underlying3 Try.underlying3 Try.underlying3 wB0 wP0 wW0 wK0) trodAll_mk0)) (fun _ _ => rfl) rfl
    hg (ok_one (by kernel_rfl) rfl (okWide_bool_mk Try.underlying4 _))⟩

theorem over : Rows.geoSizesRow.holds Try.pinned (OpenSpec.ofChange Rows.geoSizesSpec) :=
  OpenClaim.holds_of_wide 7 Try.f7 rfl rfl rfl rfl rfl rfl rfl ⟨rfl, rfl, rfl, rfl, rfl⟩ rfl rfl rfl rfl rfl (by kernel_rfl) Try.func7 (by kernel_rfl)
    (of_decide_eq_true (by kernel_rfl)) (by unfold Func.isWrapper; first | (rw [if_pos (by decide +kernel)]; kernel_rfl) | (rw [if_neg (by decide +kernel)]; exact ⟨rfl, rfl⟩))
    (fun os started H enc _ => lifted os started H enc)

/-- THE STATEMENT -/
theorem proved : Rows.GeoSizesSaid := over
end Go.Proofs.Ytadfamjacncmfaa.geoSizes
