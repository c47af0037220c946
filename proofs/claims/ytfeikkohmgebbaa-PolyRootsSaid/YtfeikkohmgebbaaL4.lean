/- Statement PolyRoots: for every list of numbers and every number the law returns true. -/
import Derived.Test.YtfeikkohmgebbaaAw
import Derived.Test.YtfeikkohmgebbaaSq
namespace Go.Proofs.Ytfeikkohmgebbaa
open Go.RowKit Go.Gf
attribute [local go_sem ↓] exec_load_tb Cl.quiet_since
attribute [local go_sem] tbAt_ptr tbIn_ptr

/-- the product of (x + q) over the first i numbers -/
def rts (l : List Nat) : Nat → List Nat
  | 0 => [1]
  | i + 1 => pmul (rts l i) [at_ l i, 1]
/-- is X among the first i? -/
def inB (l : List Nat) (X : Nat) : Nat → Bool
  | 0 => false
  | i + 1 => inB l X i || at_ l i % 1024 == X
theorem tr_pair1 (q : Nat) : tr [q, 1] = [q % 1024, 1] := by
  have : ([q, 1] : List Nat) = [q] ++ [1] := rfl
  rw [this, tr_snoc, if_neg (by decide)]
  rfl
theorem rts_tr (l : List Nat) (i : Nat) : tr (rts l i) = rts l i := by
  cases i with
  | zero => rfl
  | succ i => exact tr_pmul _ _
theorem rts_len (l : List Nat) (i : Nat) (h : i ≤ 1000) : (rts l i).length = i + 1 := by
  induction i with
  | zero => rfl
  | succ i ih =>
    have ih := ih (by omega)
    have e := rts_tr l i
    have h1 : (tr [at_ l i, 1]).length = 2 := by rw [tr_pair1]; rfl
    have := pmul_len (p := rts l i) (q := [at_ l i, 1]) (by rw [e, h1]; omega) (by rw [e]; intro h0; rw [h0] at ih; simp at ih) (by rw [tr_pair1]; simp)
    show (pmul (rts l i) [at_ l i, 1]).length = _
    rw [this, e, h1]; omega
theorem ev_pair1 {x q : Nat} (hx : x < 1024) : ev x [q, 1] = x ^^^ q % 1024 := by
  show gm (gm 0 x ^^^ (1 % 1024)) x ^^^ (q % 1024) = _
  rw [gm_zero_left, Nat.zero_xor, show 1 % 1024 = 1 from rfl, gm_one_left hx]
theorem rts_root (l : List Nat) (X : Nat) (hX : X < 1024) (i : Nat) (h : i ≤ 1000) : (ev X (rts l i) == 0) = inB l X i := by
  induction i with
  | zero =>
    have : ev X (rts l 0) = 1 := by
      show gm 0 X ^^^ (1 % 1024) = 1
      rw [gm_zero_left, Nat.zero_xor]
    rw [this]; rfl
  | succ i ih =>
    have ih := ih (by omega)
    have h1 : (tr [at_ l i, 1]).length = 2 := by rw [tr_pair1]; rfl
    have e : ev X (rts l (i + 1)) = gm (ev X (rts l i)) (X ^^^ at_ l i % 1024) := by
      show ev X (pmul (rts l i) [at_ l i, 1]) = _
      rw [ev_pmul X hX (by rw [rts_tr, h1, rts_len l i (by omega)]; omega), ev_pair1 hX]
    rw [e]
    show _ = (inB l X i || at_ l i % 1024 == X)
    rw [← ih, Bool.eq_iff_iff, beq_iff_eq, Bool.or_eq_true, beq_iff_eq, beq_iff_eq, gm_eq_zero (ev_lt _ _) (xor_lt hX (Nat.mod_lt _ (by decide)))]
    constructor
    · rintro (h | h)
      · exact Or.inl h
      · exact Or.inr (xor_zero_eq h).symm
    · rintro (h | h)
      · exact Or.inl h
      · right; rw [h, Nat.xor_self]
/-- what holds at the head of the loop -/
def RootR (w : World) (g : Nat) (cs : List Nat) (xs : List Nat) (P : Option Addr) (i : Nat) (wr : World) : Prop := St w g cs wr ∧ Sl wr wr.heap.size P (rts xs i)

set_option maxRecDepth 20000 in
set_option maxHeartbeats 8000000 in
theorem roots_core (A : Option Addr) (xs : List Nat) (ca : Nat) (hca : xs.length ≤ ca) (l1 : xs.length ≤ 40) (x : Int) (x0 : 0 ≤ x) (x1 : x < 65536) (w : World) (hA : Hid (Sl w w.heap.size A xs)) (hA0 : Hid (Sl w w.heap.size A xs)) :
    Calls Try.prog 6 #[.slice A xs.length ca, .int .u16 x] w (Leaves w (.bool true)) := by
  have lx : xs.length ≤ 1000000 := by omega
  have d1 : decide ((40 : Int) < (xs.length : Int)) = false := by rw [decide_eq_false_iff_not]; omega
  have hz := zero27
  obtain ⟨X, hX⟩ : ∃ X, Hid (x.toNat % 1024 = X) := ⟨_, Lib.hid rfl⟩
  have hX1 : X < 1024 := by rw [← hX.out]; omega
  have hmask : bits .and .u16 x 1023 = (X : Int) := by rw [u16_mask x x0 x1, ← hX.out]; omega
  go_enter Try.func6, Try.ntmps6
  go_wp2_with fail
  have hW : Hid (Below w.heap.size w w) := Lib.hid (Below.refl _ _)
  have hc := awake_any w
  replace hc := Lib.hid hc
  refine hc.out.mono ?_
  rintro e w1 ⟨rfl, hb⟩
  clear hc
  have hW := Lib.hid (hW.out.trans (hb.mono hW.out.size))
  replace hA := Lib.hid (hA.out.far hb)
  clear hb
  go_wp2_with fail
  refine (make_any _).mono ?_
  rintro e w2 ⟨cs, rfl, hl, hb⟩
  have hb0 := hW.out.trans (hb.mono hW.out.size)
  replace hA := Lib.hid (hA.out.far hb)
  clear hb hW
  go_wp2_with (refine wpList_store_row rfl 28 _ _ rfl w2.heap.size (cells cs) rfl rfl 28 (cells ZT) (heap_alloc_new w2 _) (rsize hl) (zsize hl) (cells_one cs) ?_)
  have hS := St.start (cs := cs) hb0 (cells ZT)
  have hb : Below w2.heap.size w2 ((w2.alloc (Obj.cells (cells ZT) 28)).setRow w2.heap.size (cells cs)) := below_setRow ((Below.refl _ _).alloc (Nat.le_refl _) _) (Nat.le_refl _) _
  replace hA := Lib.hid (hA.out.far hb)
  clear hb0 hb
  generalize hg : w2.heap.size = g at hS ⊢
  rw [hg] at hA
  have hgz : ((w2.alloc (Obj.cells (cells ZT) 28)).setRow g (cells cs)).heap.size = g + 1 := by simp [World.setRow, hg]
  generalize (w2.alloc (Obj.cells (cells ZT) 28)).setRow g (cells cs) = w3 at *
  clear hg hz
  have hi := hS.is hl.1
  have ho := hS.of
  go_wp2_with fail
  have h0 := sl_new w3 (.cells #[.int .u16 1] 23) [1] (g + 1) hgz rfl (by decide)
  have hS1 := hS.next (below_alloc w3 (.cells #[.int .u16 1] 23))
  generalize w3.alloc (.cells #[.int .u16 1] 23) = ws at h0 hS1 ⊢
  clear hA hS hi ho hgz
  go_loopw [6, 7, 8] (fun p b q wr => ∃ (i : Nat) (P : Option Addr), i ≤ xs.length ∧ q = .int .i64 i ∧ b = .bool (inB xs X i) ∧ p = .slice P (rts xs i).length (rts xs i).length ∧ RootR w g cs xs P i wr) (fun _ _ q _ => xs.length - (intOf q).toNat)
  case atStart => exact ⟨0, _, Nat.zero_le _, rfl, rfl, rfl, hS1, h0⟩
  case round =>
    clear hS1 h0
    obtain ⟨i, P, hin, rfl, rfl, rfl, hS, hP⟩ := hrel
    have hAr := Lib.hid (hA0.out.far hS.below)
    have hri := Lib.hid (rts_len xs i (by omega))
    replace hP := Lib.hid hP
    by_cases hlt : i < xs.length
    · have hxi := hA0.out.1 xs[i] (List.getElem_mem hlt)
      obtain ⟨ad, hAe, hab, hcell⟩ := hAr.out.at_ hlt
      have hmaskI := u16_mask (xs[i] : Int) (by omega) (by omega)
      have hstep : Hid (inB xs X (i + 1) = (inB xs X i || ((xs[i] : Int) % 1024 == (X : Int)))) := by
        unfold Hid
        show (inB xs X i || at_ xs i % 1024 == X) = _
        rw [at_get hlt]
        congr 1
        rw [Bool.eq_iff_iff, beq_iff_eq, beq_iff_eq]; omega
      have hrow : Hid (rts xs (i + 1) = pmul (rts xs i) [xs[i], 1]) := by
        unfold Hid
        show pmul (rts xs i) [at_ xs i, 1] = _
        rw [at_get hlt]
      generalize inB xs X i = b at *
      go_wp2_with fail
      refine Cl.region_way (fun _ => True) 9 [(0, .r), (1, .r), (2, .r), (3, .r), (4, .r), (5, .r), (6, .c), (7, .c), (8, .r)] (by kernel_rfl) (by kernel_rfl) ?_
      intro w20 hk
      have hb := Cl.Keeps.below hk
      replace hS := hS.next hb
      replace hAr := Lib.hid (hAr.out.far hb)
      replace hP := Lib.hid (hP.out.far hb)
      clear hk hb hcell
      have hiA : ∀ y : Cl.Since (fun _ => True) w20, isTb y.w g = true := fun y => (hS.next (Cl.Keeps.below y.keeps)).is hl.1
      have hoA : ∀ y : Cl.Since (fun _ => True) w20, tbOf y.w g = cells cs := fun y => (hS.next (Cl.Keeps.below y.keeps)).of
      have hcA : ∀ y : Cl.Since (fun _ => True) w20, y.w.cell? (ad.add i) = some (.int .u16 ((xs[i] : Nat) : Int)) := fun y => by
        obtain ⟨ad', h1, _, h2⟩ := (hAr.out.far (Cl.Keeps.below y.keeps)).at_ hlt
        rw [hAe] at h1
        injection h1 with h1
        rw [h1]; exact h2
      subst hAe
      iterate 6 (refine Cl.way_r rfl ?_; go_big_quiet_step (fail); refine wpQuiet_nil ?_)
      clear hiA hoA hcA
      refine Cl.way_c rfl ?_
      go_wp2_with fail
      refine Cl.way_on (Cl.Keeps.of_below (below_alloc _ _)) ?_
      have hq := sl_new w20 (.cells #[.int .u16 ((xs[i] : Nat) : Int), .int .u16 1] 23) [xs[i], 1] w20.heap.size rfl rfl (by simp; omega)
      have hb := below_alloc w20 (.cells #[.int .u16 ((xs[i] : Nat) : Int), .int .u16 1] 23)
      replace hS := hS.next hb
      replace hAr := Lib.hid (hAr.out.far hb)
      replace hP := Lib.hid (hP.out.far hb)
      generalize w20.alloc (.cells #[.int .u16 ((xs[i] : Nat) : Int), .int .u16 1] 23) = w21 at *
      generalize w20.heap.size = g21 at *
      clear hb
      have hc := row_mul (cb := 2) hl hP.out hq (by rw [hri.out]; omega) (by simp) (Nat.le_refl _) (by simp)
      rw [← hrow.out] at hc
      replace hc := Lib.hid hc
      replace hq := Lib.hid hq
      refine Cl.way_c rfl ?_
      go_wp2_with fail
      refine hc.out.mono ?_
      rintro e w22 ⟨P2, rfl, hP2, hb⟩
      clear hc hq hP
      have hbk := Lib.hid hb
      replace hS := hS.next hb
      replace hAr := Lib.hid (hAr.out.far hb)
      replace hP2 := Lib.hid hP2
      clear hb
      go_wp2_with fail
      refine Cl.way_on (Cl.Keeps.of_below hbk.out) ?_
      iterate 1 (refine Cl.way_r rfl ?_; go_big_quiet_step (fail); refine wpQuiet_nil ?_)
      refine Cl.way_end ?_
      obtain ⟨ad', hAe, _, hcell⟩ := hAr.out.at_ hlt
      injection hAe with hAe
      subst hAe
      replace hS := Lib.hid hS
      cases b
      · go_wp2_with fail
        go_roundw
        case rel => exact ⟨i + 1, P2, by omega, by go_num, by rw [hstep.out]; simp, rfl, hS.out, hP2.out⟩
        case measure => simp [intOf]; omega
      · go_wp2_with fail
        go_roundw
        case rel => exact ⟨i + 1, P2, by omega, by go_num, by rw [hstep.out]; rfl, rfl, hS.out, hP2.out⟩
        case measure => simp [intOf]; omega
    · obtain rfl : i = xs.length := by omega
      have hlen : (((rts xs xs.length).length : Int) == (xs.length : Int) + 1) = true := by rw [hri.out, beq_iff_eq]; omega
      have hroot := rts_root xs X hX1 xs.length (by omega)
      have hfin : Hid ((((ev X (rts xs xs.length) : Nat) : Int) == 0) = inB xs X xs.length) := by
        unfold Hid
        rw [← hroot, Bool.eq_iff_iff, beq_iff_eq, beq_iff_eq]; omega
      have hc := val_at (ca := (rts xs xs.length).length) (x := x) hl hP.out (by rw [hri.out]; omega) x0 x1
      rw [hX.out] at hc
      generalize ev X (rts xs xs.length) = E at *
      generalize inB xs X xs.length = b at *
      clear hroot
      have hfin' := hfin.out
      replace hc := Lib.hid hc
      have hi := hS.is hl.1
      have ho := hS.of
      replace hP := Lib.hid hP
      go_wp2_with fail
      refine hc.out.mono ?_
      rintro e w30 ⟨rfl, hb⟩
      replace hS := Lib.hid (hS.next hb)
      clear hb
      cases b
      all_goals
        go_wp2_with fail
        go_ret
        exact ⟨rfl, hS.out.below⟩
theorem roots_law (A : Option Addr) (xs : List Nat) (ca : Nat) (hca : xs.length ≤ ca) (hx : ca ≤ maxLen) (x : Int) (wx : (Lit.int .u16 x).wf = true) (w : World) (hA : Sl w w.heap.size A xs) :
    Calls Try.prog 6 #[.slice A xs.length ca, .int .u16 x] w (Leaves w (.bool true)) := by
  obtain ⟨x0, x1⟩ := u16_bd wx
  have mx : (xs.length : Int) ≤ 9223372036854775807 := by unfold maxLen at hx; omega
  clear hx
  by_cases l1 : xs.length ≤ 40
  · exact roots_core A xs ca hca l1 x x0 x1 w (Lib.hid hA) (Lib.hid hA)
  · have d1 : decide ((40 : Int) < (xs.length : Int)) = true := by rw [decide_eq_true_eq]; omega
    clear l1
    go_enter Try.func6, Try.ntmps6
    go_wp2_with fail
    refine (awake_any w).mono ?_
    rintro e w1 ⟨rfl, hb⟩
    go_wp2_with fail
    go_ret
    exact ⟨rfl, hb⟩
end Go.Proofs.Ytfeikkohmgebbaa
namespace Go.Proofs.Ytfeikkohmgebbaa.polyRoots
open Go.ChangeShapes Go.WideShapes Go.ChangeAt Go.RowKit Go.Gf
set_option linter.unusedVariables false

theorem own : ownKnob Try.prog.godebug = none := by kernel_rfl

theorem walk (A0 : Option Addr) (x0 : List Nat) (c0 : Nat) (l0 : x0.length ≤ c0) (m0 : c0 ≤ maxLen) (a1 : Int) (w1 : (Lit.int .u16 a1).wf = true) (w : World) (s0 : Sl w w.heap.size A0 x0) :
    Calls Try.prog 6 #[.slice A0 x0.length c0, .int .u16 a1] w fun e w' => e = .returned (.bool true) ∧ Below w.heap.size w w' := roots_law A0 x0 c0 l0 m0 a1 w1 w s0

set_option maxRecDepth 100000 in
theorem lifted (os : Os) (started : os.Started) (H : Type) (enc : TypeId × Value → H) :
    ReturnsInHanded {} Try.checked os 6 .any (Rows.polyRootsSpec.pre6 enc Try.prog Try.f6 Rows.polyRootsRow.domain false) (Rows.polyRootsSpec.post enc Try.prog Try.f6 false true false false) := by
  refine returnsInHanded_of_change (C := Try.checked) own started (by kernel_rfl) Try.func6
    (ChangeSpec.witness6 (enc := enc) (C := Try.checked) false ⟨#[], #[.slice none 0 0, .int .u16 0], []⟩ 8 (by kernel_rfl) (by kernel_rfl) (by kernel_rfl) (by kernel_rfl)) ?_
  intro W base args ds gs before hval0 hW hcnd _
  have hval : ∀ (j : Nat) t v, Try.f6.params[j]? = some t → args[j]? = some v → Value.okWide Try.prog W .any base t v := hval0
  have hW' := hW
  obtain ⟨p, q, hA0, hV, rfl, hfz, hnd⟩ := hW
  have hA : DataW.TrodAll enc Try.prog W 0 (fun _ => true) true Try.f6.params.toList args.toList ds p := hA0
  rw [Try.params6] at hA hval
  obtain ⟨v0, vs0, d0, ds0, p0, q0, hargs, rfl, rfl, h0, r0⟩ := trodAll_cons hA
  obtain ⟨v1, vs1, d1, ds1, p1, q1, rfl, rfl, rfl, h1, r1⟩ := trodAll_cons r0
  obtain ⟨rfl, rfl, rfl⟩ := trodAll_nil r1
  obtain rfl : args = #[v0, v1] := by cases args; simp_all
  obtain ⟨rfl, rfl⟩ := trodVars_none hV
  obtain ⟨A0, x0, c0, rfl, l0, m0, s0, t0⟩ := open_sl Try.underlying22 Try.underlying23 (by kernel_rfl : Try.prog.cellsOf 23 = 1) (hval 0 22 v0 rfl rfl) h0
  obtain ⟨a1, rfl, rfl, rfl, w1⟩ := open_int Try.underlying23 (hval 1 23 v1 rfl rfl) h1
  clear hA0 hval0
  refine (walk A0 x0 c0 l0 m0 a1 w1 W s0).mono fun e W' ⟨he, hg⟩ => ?_
  subst he
  exact ⟨_, rfl, Cl.post_below (pv := []) hW' (fun _ _ _ => (trodAll_cons_mk (shut_bool Try.underlying4 _) trodAll_mk0)) (fun sp hsp => (trodAll_cons_mk (t0 W' hg sp (fun q hq => hsp q (by simp [hq]))) (trodAll_cons_mk (shut_int Try.underlying23 w1) trodAll_mk0))) (fun _ _ => rfl) rfl
    hg (ok_one (by kernel_rfl) rfl (okWide_bool_mk Try.underlying4 _))⟩

theorem over : Rows.polyRootsRow.holds Try.pinned (OpenSpec.ofChange Rows.polyRootsSpec) :=
  OpenClaim.holds_of_wide 6 Try.f6 rfl rfl rfl rfl rfl rfl rfl ⟨rfl, rfl, rfl, rfl, rfl⟩ rfl rfl rfl rfl rfl (by kernel_rfl) Try.func6 (by kernel_rfl)
    (of_decide_eq_true (by kernel_rfl)) (by unfold Func.isWrapper; first | (rw [if_pos (by decide +kernel)]; kernel_rfl) | (rw [if_neg (by decide +kernel)]; exact ⟨rfl, rfl⟩))
    (fun os started H enc _ => lifted os started H enc)

/-- THE STATEMENT -/
theorem proved : Rows.PolyRootsSaid := over
end Go.Proofs.Ytfeikkohmgebbaa.polyRoots
