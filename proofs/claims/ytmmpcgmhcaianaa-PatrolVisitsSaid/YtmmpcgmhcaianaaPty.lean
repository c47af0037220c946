/- THE PROGRAM's PATROL: its box of five cells, and its contracts: whatever it is asked it answers as chapter 19 says. -/
import Derived.Test.YtmmpcgmhcaianaaGc
import Derived.Test.YtmmpcgmhcaianaaPta
import Derived.Test.YtmmpcgmhcaianaaTr
namespace Go.Proofs.Ytmmpcgmhcaianaa.Pt
open Go.RowKit Go.Proofs.Ytmmpcgmhcaianaa.Ge
set_option linter.unusedVariables false
set_option linter.unusedSimpArgs false
attribute [local go_sem ↓] Cl.quiet_since
theorem res2 {fn : Func} {t u : Tmp} (h : fn.results = #[.tmp t, .tmp u]) (tmps : Array Value) (P : Program) (w : World) :
    (results fn tmps).run P w = .ok (.tuple #[tmps.getD t undef, tmps.getD u undef]) w := by
  simp [results, h]
/-- block g is the box -/
def PB (w : World) (g : Nat) (B P W K n : Int) : Prop := w.heap[g]? = some (.cells #[.int .i64 B, .int .i64 P, .int .i64 W, .int .i64 K, .int .i64 n] 47 (0, 0))
section
variable {w w' : World} {g : Nat} {B P W K n : Int}
theorem PB.lt (h : PB w g B P W K n) : g < w.heap.size := by
  rcases Nat.lt_or_ge g w.heap.size with hlt | hge
  · exact hlt
  · unfold PB at h; rw [Array.getElem?_eq_none hge] at h; cases h
theorem PB.c (h : PB w g B P W K n) (i : Nat) : w.cell? ⟨g, i, none⟩ = (#[Value.int .i64 B, .int .i64 P, .int .i64 W, .int .i64 K, .int .i64 n])[i]? := cell_of_row w g i _ 47 (0, 0) h
theorem PB.frozen (h : PB w g B P W K n) (i : Nat) : w.frozen? ⟨g, i, none⟩ = false := by
  unfold PB at h
  simp [World.frozen?, h]
theorem PB.keep (h : PB w g B P W K n) (hb : w'.heap[g]? = w.heap[g]?) : PB w' g B P W K n := hb.trans h
theorem PB.below (h : PB w g B P W K n) (hb : Below w.heap.size w w') : PB w' g B P W K n := h.keep (hb.block g h.lt)
theorem PB.new (w : World) (B P W K n : Int) : PB (w.alloc (.cells #[.int .i64 B, .int .i64 P, .int .i64 W, .int .i64 K, .int .i64 n] 47)) w.heap.size B P W K n := heap_alloc_new w _
theorem PB.set_ (h : PB w g B P W K n) (m : Int) : PB (w.setCell ⟨g, 4, none⟩ (.int .i64 m)) g B P W K m := by
  unfold PB at h ⊢
  simp only [World.setCell]
  rw [Array.getElem?_modify, if_pos rfl, h]
  rfl
end
/-- THE PATROL: its box lies in G -/
structure QM (w : World) (lo hi G : Nat) (B P W K : Int) (k : Nat) : Prop where
  box : PB w G B P W K (k : Int)
  rng : lo ≤ G ∧ G < hi
section
variable {w w' : World} {lo hi G : Nat} {B P W K : Int} {k : Nat}
theorem QM.keep (m : QM w lo hi G B P W K k) (h : ∀ b, lo ≤ b → b < hi → b < w.heap.size → w'.heap[b]? = w.heap[b]?) : QM w' lo hi G B P W K k :=
  ⟨m.box.keep (h G m.rng.1 m.rng.2 m.box.lt), m.rng⟩
theorem keeps_set {i : Nat} (v : Value) (h1 : lo ≤ G) (h2 : G < hi) : Cl.Keeps (Out lo hi) w (w.setCell ⟨G, i, none⟩ v) :=
  ⟨rfl, rfl, rfl, by simp [World.setCell], fun b _ hb => by
    simp only [World.setCell]
    rw [Array.getElem?_modify, if_neg (fun e => hb (by rw [← e]; exact ⟨h1, h2⟩))]⟩
end
/-- a geometry's pages as a number -/
theorem cnt_nat {B P W K : Int} (h : mayG B P W K = true) : ∃ c p : Nat, cntG B P W K = (c : Int) ∧ B * P = (c : Int) ∧ P = (p : Int) ∧ 0 < c ∧ c ≤ 2048 ∧ 0 < p ∧ p ≤ 32 := by
  obtain ⟨h1, h2, h3, h4, _⟩ := may_of h
  have hb := bp_le (by omega : 0 ≤ B) h2 (by omega : 0 ≤ P) h4
  have hp : 0 < B * P := Int.mul_pos (by omega) (by omega)
  refine ⟨(B * P).toNat, P.toNat, ?_, ?_, ?_, ?_, ?_, ?_, ?_⟩
  · unfold cntG; rw [if_pos h]; omega
  all_goals omega
set_option maxHeartbeats 2000000 in
theorem visit_any (w : World) (B P W K k : Int) (hk : (Lit.int .i64 k).wf = true) : Calls Try.prog 11 #[.agg #[.int .i64 B, .int .i64 P, .int .i64 W, .int .i64 K], .int .i64 k] w (We.Ans w (.tuple #[.int .i64 (visI B P W K k).1, .int .i64 (visI B P W K k).2])) := by
  clear hk
  have hb := below_alloc w (.cells #[.int .i64 B, .int .i64 P, .int .i64 W, .int .i64 K] 23)
  have hx := Lib.hid (Box.new w B P W K)
  have hc := Lib.hid (count_any B P W K (w.alloc (.cells #[.int .i64 B, .int .i64 P, .int .i64 W, .int .i64 K] 23)))
  replace hb := Lib.hid hb
  cases hM : mayG B P W K
  · have hr : cntG B P W K = 0 := by unfold cntG; rw [hM]; rfl
    have hv : visI B P W K k = (0, 0) := by unfold visI; rw [hM]; exact if_neg fun h => by cases h.1
    rw [hr] at hc
    rw [hv]
    clear hr hv
    go_enter Try.func11, Try.ntmps11
    go_wp2_with (go_at_call 14; (with_reducible refine hc.out.mono ?_); clear hc; rintro e w1 ⟨rfl, hb1⟩; have hb2 := Lib.hid (hb.out.trans (hb1.mono hb.out.size)); clear hb1)
    ((try simp only [Exit.inBlock, Exit.then]); refine bodyPost_ret (res2 rfl _ _ _) rfl ?_)
    exact ⟨rfl, hb2.out⟩
  obtain ⟨c, p, hC, hBP, hP, hc0, hc1, hp0, hp1⟩ := cnt_nat hM
  rw [hC] at hc
  have z0 : ((c : Int) == 0) = false := by simp; omega
  have z1 : ¬ (c : Int) = 0 := by omega
  have z2 : ¬ c = 0 := by omega
  by_cases hk : k < 0
  · have hv : visI B P W K k = (0, 0) := by unfold visI; exact if_neg fun h => by omega
    have d1 : decide (k < 0) = true := decide_eq_true hk
    rw [hv]
    clear hv hC hBP hP
    go_enter Try.func11, Try.ntmps11
    go_wp2_with (go_at_call 14; (with_reducible refine hc.out.mono ?_); clear hc; rintro e w1 ⟨rfl, hb1⟩; have hb2 := Lib.hid (hb.out.trans (hb1.mono hb.out.size)); clear hb1)
    ((try simp only [Exit.inBlock, Exit.then]); refine bodyPost_ret (res2 rfl _ _ _) rfl ?_)
    exact ⟨rfl, hb2.out⟩
  obtain ⟨n, rfl⟩ : ∃ n : Nat, k = (n : Int) := ⟨k.toNat, by omega⟩
  have d1 : decide ((n : Int) < 0) = false := decide_eq_false hk
  have hv : visI B P W K (n : Int) = (((n % c / p : Nat) : Int), ((n % c % p : Nat) : Int)) := by
    unfold visI
    rw [if_pos ⟨hM, by omega⟩, hBP, hP]
    rfl
  have hl : n % c < c := Nat.mod_lt _ hc0
  have hpl := Lib.hid (fun w' => place_yes B W K p (n % c) w' (by rw [← hP, hC]; exact Int.ofNat_lt.mpr hl))
  rw [hv]
  have f1 : (n : Int).tmod (c : Int) = ((n % c : Nat) : Int) := rfl
  have f2 : (n : Int) % (c : Int) = ((n % c : Nat) : Int) := (Int.natCast_emod _ _).symm
  subst hP
  clear hv hC hBP hM hk hl
  generalize n % c = m at *
  generalize m / p = X at *
  generalize m % p = Y at *
  go_enter Try.func11, Try.ntmps11
  go_wp2_with (go_at_call 14; (with_reducible refine hc.out.mono ?_); clear hc; rintro e w1 ⟨rfl, hb1⟩; have hb2 := Lib.hid (hb.out.trans (hb1.mono hb.out.size)); replace hx := Lib.hid (hx.out.keep hb1); clear hb1)
  refine Cl.region_way (fun _ => True) 11 [(0, .r), (1, .r), (2, .r), (3, .r), (4, .c), (5, .r), (6, .r), (7, .r), (8, .r), (9, .r), (10, .r), (11, .z)] (by kernel_rfl) (by kernel_rfl) ?_
  intro w3 hk3
  have hk := Lib.hid hk3.below
  have hX := Lib.hid (hx.out.keep hk.out)
  have t0 : ∀ y : Cl.Since (fun _ => True) w3, y.w.cell? ⟨w.heap.size, 0, none⟩ = some (.int .i64 B) := fun y => (hX.out.keep y.keeps.below).c0
  have t1 : ∀ y : Cl.Since (fun _ => True) w3, y.w.cell? ⟨w.heap.size, 1, none⟩ = some (.int .i64 (p : Int)) := fun y => (hX.out.keep y.keeps.below).c1
  have t2 : ∀ y : Cl.Since (fun _ => True) w3, y.w.cell? ⟨w.heap.size, 2, none⟩ = some (.int .i64 W) := fun y => (hX.out.keep y.keeps.below).c2
  have t3 : ∀ y : Cl.Since (fun _ => True) w3, y.w.cell? ⟨w.heap.size, 3, none⟩ = some (.int .i64 K) := fun y => (hX.out.keep y.keeps.below).c3
  have hc3 := Lib.hid (hpl.out w3)
  have hb3 := Lib.hid (We.below_trans hb2.out hk.out)
  clear hk3 hpl hx hX hb2 hb
  iterate 4 (refine Cl.way_r rfl ?_; go_big_quiet_step (fail); refine wpQuiet_nil ?_)
  clear t0 t1 t2 t3
  refine Cl.way_c rfl ?_
  go_wp2_with (go_at_call 15; (with_reducible refine hc3.out.mono ?_); rintro e w4 ⟨rfl, hB4⟩)
  refine Cl.way_on (Cl.Keeps.of_below hB4) ?_
  have B4 := Lib.hid (We.below_trans hb3.out hB4)
  clear hB4 hc3 hk hb3
  iterate 6 (refine Cl.way_r rfl ?_; go_big_quiet_step (fail); refine wpQuiet_nil ?_)
  refine Cl.way_z rfl ?_
  go_wp2_with fail
  refine Cl.Calm.normal ?_
  go_wp2_with fail
  ((try simp only [Exit.inBlock, Exit.then]); refine bodyPost_ret (res2 rfl _ _ _) rfl ?_)
  exact ⟨rfl, B4.out⟩
set_option maxHeartbeats 2000000 in
theorem next_any {w : World} {lo hi G : Nat} {B P W K : Int} {k : Nat} (m : QM w lo hi G B P W K k) (hk6 : k ≤ 1000000) :
    Calls Try.prog 10 #[.pointer (some ⟨G, 0, none⟩)] w fun e w' => e = .returned (.tuple #[.int .i64 (visI B P W K (k : Int)).1, .int .i64 (visI B P W K (k : Int)).2]) ∧ Cl.Keeps (Out lo hi) w w' ∧ QM w' lo hi G B P W K (k + 1) := by
  have hwf : (Lit.int .i64 (k : Int)).wf = true := by simp [Lit.wf, IntKind.min, IntKind.max, IntKind.signed, IntKind.bits]; omega
  have hc := Lib.hid (fun w' => visit_any w' B P W K (k : Int) hwf)
  have M := Lib.hid m.box
  have hr := Lib.hid m.rng
  clear m hwf
  have hk1 : wrap64 ((k : Int) + 1) = ((k + 1 : Nat) : Int) := by rw [IntWalk.wrap64_in _ (by omega)]; omega
  clear hk6
  generalize (visI B P W K (k : Int)).1 = X at *
  generalize (visI B P W K (k : Int)).2 = Y at *
  go_enter Try.func10, Try.ntmps10
  go_wp2_with fail
  refine Cl.region_way (fun _ => True) 13 [(0, .r), (1, .r), (2, .r), (3, .r), (4, .r), (5, .r), (6, .r), (7, .r), (8, .c), (9, .r), (10, .r), (11, .r), (12, .r), (13, .z)] (by kernel_rfl) (by kernel_rfl) ?_
  intro w3 hk3
  have hk := Lib.hid hk3.below
  have t0 : ∀ y : Cl.Since (fun _ => True) w3, y.w.cell? ⟨G, 0, none⟩ = some (.int .i64 B) := fun y => ((M.out.below hk.out).below y.keeps.below).c 0
  have t1 : ∀ y : Cl.Since (fun _ => True) w3, y.w.cell? ⟨G, 1, none⟩ = some (.int .i64 P) := fun y => ((M.out.below hk.out).below y.keeps.below).c 1
  have t2 : ∀ y : Cl.Since (fun _ => True) w3, y.w.cell? ⟨G, 2, none⟩ = some (.int .i64 W) := fun y => ((M.out.below hk.out).below y.keeps.below).c 2
  have t3 : ∀ y : Cl.Since (fun _ => True) w3, y.w.cell? ⟨G, 3, none⟩ = some (.int .i64 K) := fun y => ((M.out.below hk.out).below y.keeps.below).c 3
  have t4 : ∀ y : Cl.Since (fun _ => True) w3, y.w.cell? ⟨G, 4, none⟩ = some (.int .i64 (k : Int)) := fun y => ((M.out.below hk.out).below y.keeps.below).c 4
  have hc3 := Lib.hid (hc.out w3)
  clear hk3 hc
  iterate 8 (refine Cl.way_r rfl ?_; go_big_quiet_step (fail); refine wpQuiet_nil ?_)
  clear t0 t1 t2 t3 t4
  refine Cl.way_c rfl ?_
  go_wp2_with (go_at_call 11; (with_reducible refine hc3.out.mono ?_); rintro e w4 ⟨rfl, hB4⟩)
  refine Cl.way_on (Cl.Keeps.of_below hB4) ?_
  have B4 := Lib.hid (We.below_trans hk.out hB4)
  clear hB4 hc3 hk
  iterate 4 (refine Cl.way_r rfl ?_; go_big_quiet_step (fail); refine wpQuiet_nil ?_)
  have M4 := Lib.hid (M.out.below B4.out)
  have c4 : w4.cell? ⟨G, 4, none⟩ = some (.int .i64 (k : Int)) := M4.out.c 4
  have z4 : w4.frozen? ⟨G, 4, none⟩ = false := M4.out.frozen 4
  refine Cl.way_z rfl ?_
  go_wp2_with fail
  refine Cl.Calm.normal ?_
  go_wp2_with fail
  ((try simp only [Exit.inBlock, Exit.then]); refine bodyPost_ret (res2 rfl _ _ _) rfl ?_)
  have kS : Cl.Keeps (Out lo hi) w4 (w4.setCell ⟨G, 4, none⟩ (.int .i64 ((k + 1 : Nat) : Int))) := keeps_set _ hr.out.1 hr.out.2
  first
    | exact ⟨rfl, (Cl.Keeps.of_below B4.out).trans kS, ⟨M4.out.set_ _, hr.out⟩⟩
    | (rw [hk1]; exact ⟨rfl, (Cl.Keeps.of_below B4.out).trans kS, ⟨M4.out.set_ _, hr.out⟩⟩)
set_option maxHeartbeats 2000000 in
theorem rounds_any {w : World} {lo hi G : Nat} {B P W K : Int} {k : Nat} (m : QM w lo hi G B P W K k) (hk6 : k ≤ 1000000) :
    Calls Try.prog 12 #[.pointer (some ⟨G, 0, none⟩)] w (We.Ans w (.int .i64 (rdI B P W K k))) := by
  have M := m.box
  have c0 : w.cell? ⟨G, 0, none⟩ = some (.int .i64 B) := M.c 0
  have c1 : w.cell? ⟨G, 1, none⟩ = some (.int .i64 P) := M.c 1
  have c2 : w.cell? ⟨G, 2, none⟩ = some (.int .i64 W) := M.c 2
  have c3 : w.cell? ⟨G, 3, none⟩ = some (.int .i64 K) := M.c 3
  have hc := Lib.hid (count_any B P W K w)
  replace M := Lib.hid M
  clear m
  cases hM : mayG B P W K
  · have hr : cntG B P W K = 0 := by unfold cntG; rw [hM]; rfl
    have hv : rdI B P W K k = 0 := by unfold rdI; rw [hM]; rfl
    rw [hr] at hc
    rw [hv]
    clear hr hv
    go_enter Try.func12, Try.ntmps12
    go_wp2_with (go_at_call 14; (with_reducible refine hc.out.mono ?_); clear hc; rintro e w1 ⟨rfl, hb1⟩; replace hb1 := Lib.hid hb1)
    go_ret
    exact ⟨rfl, hb1.out⟩
  obtain ⟨c, p, hC, hBP, hP, hc0, hc1, hp0, hp1⟩ := cnt_nat hM
  rw [hC] at hc
  have z0 : ((c : Int) == 0) = false := by simp; omega
  have z1 : ¬ (c : Int) = 0 := by omega
  have z2 : ¬ c = 0 := by omega
  have hv : rdI B P W K k = ((k / c : Nat) : Int) := by
    unfold rdI
    rw [if_pos hM, hBP]
    rfl
  have hq : k / c ≤ k := Nat.div_le_self k c
  rw [hv]
  have f1 : (k : Int).tdiv (c : Int) = ((k / c : Nat) : Int) := rfl
  have f2 : (k : Int) / (c : Int) = ((k / c : Nat) : Int) := (Int.natCast_ediv _ _).symm
  have f3 : wrap64 ((k / c : Nat) : Int) = ((k / c : Nat) : Int) := IntWalk.wrap64_in _ (by clear hv f1 f2; generalize k / c = q at *; omega)
  clear hv hC hBP hM hP hp0 hp1
  generalize k / c = q at *
  go_enter Try.func12, Try.ntmps12
  go_wp2_with (go_at_call 14; (with_reducible refine hc.out.mono ?_); clear hc c0 c1 c2 c3; rintro e w1 ⟨rfl, hb1⟩; have c4 : w1.cell? ⟨G, 4, none⟩ = some (.int .i64 (k : Int)) := (M.out.below hb1).c 4; replace hb1 := Lib.hid hb1)
  go_ret
  exact ⟨rfl, hb1.out⟩
theorem due_step (f : Nat → Int × Bool) (i : Nat) (h : dueF f i = false) : dueF f (i + 1) = (decide (4 ≤ (f i).1) && (f i).2) := by
  show (dueF f i || _) = _
  rw [h, Bool.false_or]
theorem due_true (f : Nat → Int × Bool) {i : Nat} (h : dueF f (i + 1) = true) : ∀ {n}, i < n → dueF f n = true
  | 0, hn => by omega
  | n + 1, hn => by
    rcases Nat.lt_or_ge i n with hl | hg
    · show (dueF f n || _) = true
      rw [due_true f h hl, Bool.true_or]
    · rw [show n = i by omega]; exact h
set_option maxHeartbeats 2000000 in
theorem due_any {w : World} {A : Option Addr} {n c : Nat} {f : Nat → Int × Bool} (h : DB w w.heap.size A n f) (hn : n ≤ 1000000) : Calls Try.prog 13 #[.slice A n c] w (We.Ans w (.bool (dueF f n))) := by
  have H := Lib.hid h
  clear h
  go_enter Try.func13, Try.ntmps13
  go_wp2_with fail
  go_loopw [7] (fun q wr => ∃ i : Nat, q = .int .i64 (i : Int) ∧ i ≤ n ∧ dueF f i = false ∧ Hid (Below w.heap.size w wr)) (fun q _ => n - (intOf q).toNat)
  case atStart => exact ⟨0, rfl, Nat.zero_le _, rfl, Lib.hid (Below.refl _ _)⟩
  case round =>
    obtain ⟨i, rfl, hin, hd, hB⟩ := hrel
    by_cases hi : i < n
    · have d1 : decide (i < n) = true := decide_eq_true hi
      have d2 : decide ((i : Int) < (n : Int)) = true := decide_eq_true (Int.ofNat_lt.mpr hi)
      have hiI : (i : Int) < (n : Int) := Int.ofNat_lt.mpr hi
      have hk1 : wrap64 ((i : Int) + 1) = ((i + 1 : Nat) : Int) := by rw [IntWalk.wrap64_in _ (by omega)]; omega
      obtain ⟨a0, ea, hal, hx, hy, hz⟩ := (H.out.below hB.out).at_ hi
      subst ea
      have hst := due_step f i hd
      have htr := Lib.hid (fun e => due_true f (i := i) e hi)
      obtain ⟨x, y, hxy⟩ : ∃ x y, f i = (x, y) := ⟨_, _, rfl⟩
      rw [hxy] at hx hy hz hst
      replace hst := Lib.hid hst
      replace hi := Lib.hid hi
      replace hd := Lib.hid hd
      clear hxy
      have hba := Lib.hid (hB.out.trans ((We.below_alloc wr (.cells #[.int .i64 x, .bool y] 36)).mono hB.out.size))
      cases y
      · go_wp2_with fail
        go_roundw
        case rel => exact ⟨i + 1, by first | rfl | rw [hk1], hi.out, by rw [hst.out]; exact Bool.and_false _, hba⟩
        case measure => first | (rw [hk1]; simp only [intOf, Int.toNat_natCast]; exact Nat.sub_lt_sub_left hi.out (Nat.lt_succ_self i)) | (simp only [intOf]; exact Nat.sub_lt_sub_left hi.out (Nat.lt_succ_self i))
      · by_cases hx4 : (4 : Int) ≤ x
        · have e1 : decide ((4 : Int) ≤ x) = true := decide_eq_true hx4
          have e2 : decide (x ≥ (4 : Int)) = true := decide_eq_true hx4
          have hres := htr.out (by rw [hst.out, e1]; rfl)
          go_wp2_with fail
          go_ret
          first | exact ⟨rfl, hba.out⟩ | exact ⟨congrArg (fun z => Ending.returned (.bool z)) hres.symm, hba.out⟩
        · have e1 : decide ((4 : Int) ≤ x) = false := decide_eq_false hx4
          have e2 : decide (x ≥ (4 : Int)) = false := decide_eq_false hx4
          go_wp2_with fail
          go_roundw
          case rel => exact ⟨i + 1, by first | rfl | rw [hk1], hi.out, by rw [hst.out, e1]; rfl, hba⟩
          case measure => first | (rw [hk1]; simp only [intOf, Int.toNat_natCast]; exact Nat.sub_lt_sub_left hi.out (Nat.lt_succ_self i)) | (simp only [intOf]; exact Nat.sub_lt_sub_left hi.out (Nat.lt_succ_self i))
    · obtain rfl : i = n := Nat.le_antisymm hin (Nat.le_of_not_lt hi)
      have d1 : decide (i < i) = false := decide_eq_false (Nat.lt_irrefl i)
      have d2 : decide ((i : Int) < (i : Int)) = false := decide_eq_false (Int.lt_irrefl _)
      go_wp2_with fail
      go_ret
      exact ⟨congrArg (fun z => Ending.returned (.bool z)) hd.symm, hB.out⟩
set_option maxHeartbeats 1000000 in
theorem new_any (w : World) (B P W K : Int) : Calls Try.prog 8 #[.agg #[.int .i64 B, .int .i64 P, .int .i64 W, .int .i64 K]] w fun e w' => ∃ G, e = .returned (.pointer (some ⟨G, 0, none⟩)) ∧ Below w.heap.size w w' ∧ QM w' w.heap.size w'.heap.size G B P W K 0 := by
  have hb1 := below_alloc w (.cells #[.int .i64 B, .int .i64 P, .int .i64 W, .int .i64 K] 23)
  obtain ⟨hlt, c0, c1, c2, c3⟩ := Box.new w B P W K
  have hsz := World.size_alloc w (.cells #[.int .i64 B, .int .i64 P, .int .i64 W, .int .i64 K] 23)
  replace hb1 := Lib.hid hb1
  replace hsz := Lib.hid hsz
  clear hlt
  go_enter Try.func8, Try.ntmps8
  go_wp2_with fail
  go_ret
  refine ⟨_, rfl, hb1.out.trans ((below_alloc _ _).mono hb1.out.size), ?_, ?_⟩
  · rw [← hsz.out]; exact PB.new _ B P W K 0
  · exact ⟨by omega, by rw [World.size_alloc, hsz.out]; omega⟩
/-- THE PROGRAM's PATROL has a patrol's contracts. -/
theorem the_patrol : PC QM := by
  refine { keep := fun m h => m.keep h, new := new_any, next := fun m hk => next_any m hk, rounds := fun m hk => rounds_any m hk, visit := visit_any, due := fun h hn => due_any h hn }
end Go.Proofs.Ytmmpcgmhcaianaa.Pt
