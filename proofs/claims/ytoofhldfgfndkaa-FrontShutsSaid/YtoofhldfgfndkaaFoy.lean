/- THE PROGRAM's FRONTIER: its box of five cells, and its contracts: whatever it is asked it answers as chapter 17 says. -/
import Derived.Test.YtoofhldfgfndkaaGc
import Derived.Test.YtoofhldfgfndkaaFoa
import Derived.Test.YtoofhldfgfndkaaTr
namespace Go.Proofs.Ytoofhldfgfndkaa.Fo
open Go.RowKit Go.Proofs.Ytoofhldfgfndkaa.Ge
set_option linter.unusedVariables false
set_option linter.unusedSimpArgs false
attribute [local go_sem ↓] Cl.quiet_since
/-- the page's number; -1: it is not open -/
def atI (P : Int) (o : Option (Nat × Nat)) : Int := if o.isSome = true then (bkN o : Int) * P + (pgN o : Int) else -1
/-- block g is the box -/
def FB (w : World) (g : Nat) (B P W K n : Int) : Prop := w.heap[g]? = some (.cells #[.int .i64 B, .int .i64 P, .int .i64 W, .int .i64 K, .int .i64 n] 40 (0, 0))
section
variable {w w' : World} {g : Nat} {B P W K n : Int}
theorem FB.lt (h : FB w g B P W K n) : g < w.heap.size := by
  rcases Nat.lt_or_ge g w.heap.size with hlt | hge
  · exact hlt
  · unfold FB at h; rw [Array.getElem?_eq_none hge] at h; cases h
theorem FB.c (h : FB w g B P W K n) (i : Nat) : w.cell? ⟨g, i, none⟩ = (#[Value.int .i64 B, .int .i64 P, .int .i64 W, .int .i64 K, .int .i64 n])[i]? := cell_of_row w g i _ 40 (0, 0) h
theorem FB.frozen (h : FB w g B P W K n) (i : Nat) : w.frozen? ⟨g, i, none⟩ = false := by
  unfold FB at h
  simp [World.frozen?, h]
theorem FB.keep (h : FB w g B P W K n) (hb : w'.heap[g]? = w.heap[g]?) : FB w' g B P W K n := hb.trans h
theorem FB.below (h : FB w g B P W K n) (hb : Below w.heap.size w w') : FB w' g B P W K n := h.keep (hb.block g h.lt)
theorem FB.new (w : World) (B P W K n : Int) : FB (w.alloc (.cells #[.int .i64 B, .int .i64 P, .int .i64 W, .int .i64 K, .int .i64 n] 40)) w.heap.size B P W K n := heap_alloc_new w _
theorem FB.set_ (h : FB w g B P W K n) (m : Int) : FB (w.setCell ⟨g, 4, none⟩ (.int .i64 m)) g B P W K m := by
  unfold FB at h ⊢
  simp only [World.setCell]
  rw [Array.getElem?_modify, if_pos rfl, h]
  rfl
end
/-- THE FRONTIER: its box lies in G, and where it is open there is such a page -/
structure FM (w : World) (lo hi G : Nat) (B P W K : Int) (o : Option (Nat × Nat)) : Prop where
  box : FB w G B P W K (atI P o)
  rng : lo ≤ G ∧ G < hi
  ok : ∀ b p, o = some (b, p) → mayG B P W K = true ∧ (b : Int) < B ∧ (p : Int) < P
section
variable {w w' : World} {lo hi G : Nat} {B P W K : Int} {o : Option (Nat × Nat)}
theorem FM.keep (m : FM w lo hi G B P W K o) (h : ∀ b, lo ≤ b → b < hi → b < w.heap.size → w'.heap[b]? = w.heap[b]?) : FM w' lo hi G B P W K o :=
  ⟨m.box.keep (h G m.rng.1 m.rng.2 m.box.lt), m.rng, m.ok⟩
theorem FM.below (m : FM w lo hi G B P W K o) (hb : Below w.heap.size w w') : FM w' lo hi G B P W K o := m.keep fun b _ _ hl => hb.block b hl
theorem keeps_set {i : Nat} (v : Value) (h1 : lo ≤ G) (h2 : G < hi) : Cl.Keeps (Out lo hi) w (w.setCell ⟨G, i, none⟩ v) :=
  ⟨rfl, rfl, rfl, by simp [World.setCell], fun b _ hb => by
    simp only [World.setCell]
    rw [Array.getElem?_modify, if_neg (fun e => hb (by rw [← e]; exact ⟨h1, h2⟩))]⟩
theorem FM.put (m : FM w lo hi G B P W K o) (n : Int) (o' : Option (Nat × Nat)) (hn : atI P o' = n) (ok : ∀ b p, o' = some (b, p) → mayG B P W K = true ∧ (b : Int) < B ∧ (p : Int) < P) :
    Cl.Keeps (Out lo hi) w (w.setCell ⟨G, 4, none⟩ (.int .i64 n)) ∧ FM (w.setCell ⟨G, 4, none⟩ (.int .i64 n)) lo hi G B P W K o' := by
  subst hn
  exact ⟨keeps_set _ m.rng.1 m.rng.2, ⟨m.box.set_ _, m.rng, ok⟩⟩
end
/-- where the number's page stands -/
theorem place_o {B P W K : Int} {o : Option (Nat × Nat)} (ok : ∀ b p, o = some (b, p) → mayG B P W K = true ∧ (b : Int) < B ∧ (p : Int) < P) (w : World) :
    Calls Try.prog 17 #[.agg #[.int .i64 B, .int .i64 P, .int .i64 W, .int .i64 K], .int .i64 (atI P o)] w (Ge.Ans w (nxV o)) := by
  cases o with
  | none => exact place_no B P W K (-1) w rfl
  | some q =>
    obtain ⟨b, p⟩ := q
    obtain ⟨hM, hb, hp⟩ := ok b p rfl
    obtain ⟨h1, h2, h3, h4, _⟩ := may_of hM
    obtain ⟨m, rfl⟩ : ∃ m : Nat, P = (m : Int) := ⟨P.toNat, by omega⟩
    have hpm : p < m := by omega
    have e : atI (m : Int) (some (b, p)) = ((b * m + p : Nat) : Int) := by
      show (b : Int) * (m : Int) + (p : Int) = _
      rw [Int.natCast_add, Int.natCast_mul]
    have hn : ((b * m + p : Nat) : Int) < cntG B (m : Int) W K := by
      unfold cntG
      rw [if_pos hM]
      have h5 : (b + 1) * m ≤ B.toNat * m := Nat.mul_le_mul_right m (by omega)
      have h6 : ((B.toNat * m : Nat) : Int) = B * (m : Int) := by rw [Int.natCast_mul, Int.toNat_of_nonneg (by omega)]
      rw [← h6, Int.ofNat_lt]
      have h7 : (b + 1) * m = b * m + m := Nat.succ_mul b m
      omega
    have e1 : (b * m + p) / m = b := by rw [Nat.mul_comm, Nat.mul_add_div (by omega), Nat.div_eq_of_lt hpm, Nat.add_zero]
    have e2 : (b * m + p) % m = p := by rw [Nat.mul_comm, Nat.mul_add_mod, Nat.mod_eq_of_lt hpm]
    have h := place_yes B W K m (b * m + p) w hn
    rw [e1, e2] at h
    rw [e]
    exact h
set_option maxHeartbeats 2000000 in
theorem next_any {w : World} {lo hi G : Nat} {B P W K : Int} {o : Option (Nat × Nat)} (m : FM w lo hi G B P W K o) :
    Calls Try.prog 11 #[.pointer (some ⟨G, 0, none⟩)] w (We.Ans w (nxV o)) := by
  have hc := Lib.hid (fun w' => place_o m.ok w')
  have M := Lib.hid m.box
  clear m
  unfold nxV at hc ⊢
  generalize (bkN o : Int) = X at *
  generalize (pgN o : Int) = Y at *
  generalize o.isSome = Z at *
  generalize atI P o = n at *
  go_enter Try.func11, Try.ntmps11
  go_wp2_with fail
  refine Cl.region_way (fun _ => True) 14 [(0, .r), (1, .r), (2, .r), (3, .r), (4, .r), (5, .r), (6, .r), (7, .r), (8, .c), (9, .r), (10, .r), (11, .r), (12, .r), (13, .r), (14, .z)] (by kernel_rfl) (by kernel_rfl) ?_
  intro w3 hk3
  have hk := Lib.hid hk3.below
  have t0 : ∀ y : Cl.Since (fun _ => True) w3, y.w.cell? ⟨G, 0, none⟩ = some (.int .i64 B) := fun y => ((M.out.below hk.out).below y.keeps.below).c 0
  have t1 : ∀ y : Cl.Since (fun _ => True) w3, y.w.cell? ⟨G, 1, none⟩ = some (.int .i64 P) := fun y => ((M.out.below hk.out).below y.keeps.below).c 1
  have t2 : ∀ y : Cl.Since (fun _ => True) w3, y.w.cell? ⟨G, 2, none⟩ = some (.int .i64 W) := fun y => ((M.out.below hk.out).below y.keeps.below).c 2
  have t3 : ∀ y : Cl.Since (fun _ => True) w3, y.w.cell? ⟨G, 3, none⟩ = some (.int .i64 K) := fun y => ((M.out.below hk.out).below y.keeps.below).c 3
  have t4 : ∀ y : Cl.Since (fun _ => True) w3, y.w.cell? ⟨G, 4, none⟩ = some (.int .i64 n) := fun y => ((M.out.below hk.out).below y.keeps.below).c 4
  have hc3 := Lib.hid (hc.out w3)
  clear hk3 hc
  iterate 8 (refine Cl.way_r rfl ?_; go_big_quiet_step (fail); refine wpQuiet_nil ?_)
  clear t0 t1 t2 t3 t4
  refine Cl.way_c rfl ?_
  go_wp2_with (go_at_call 17; (with_reducible refine hc3.out.mono ?_); rintro e w4 ⟨rfl, hB4⟩)
  refine Cl.way_on (Cl.Keeps.of_below hB4) ?_
  have B4 := Lib.hid (We.below_trans hk.out hB4)
  clear hB4 hc3 hk
  iterate 5 (refine Cl.way_r rfl ?_; go_big_quiet_step (fail); refine wpQuiet_nil ?_)
  refine Cl.way_z rfl ?_
  go_wp2_with fail
  refine Cl.Calm.normal ?_
  go_wp2_with fail
  ((try simp only [Exit.inBlock, Exit.then]); refine bodyPost_ret (res3 rfl _ _ _) rfl ?_)
  exact ⟨rfl, B4.out⟩
set_option maxHeartbeats 1000000 in
theorem block_any {w : World} {lo hi G : Nat} {B P W K : Int} {o : Option (Nat × Nat)} (m : FM w lo hi G B P W K o) :
    Calls Try.prog 14 #[.pointer (some ⟨G, 0, none⟩)] w (We.Ans w (.int .i64 (blI o))) := by
  have hc := Lib.hid (next_any m)
  clear m
  unfold nxV at hc
  unfold blI
  generalize (bkN o : Int) = X at *
  generalize (pgN o : Int) = Y at *
  generalize o.isSome = Z at *
  cases Z
  · rw [if_neg (by simp)]
    go_enter Try.func14, Try.ntmps14
    go_wp2_with (go_at_call 11; (with_reducible refine hc.out.mono ?_); rintro e w1 ⟨rfl, hB1⟩; replace hB1 := Lib.hid hB1)
    go_ret
    exact ⟨rfl, hB1.out⟩
  · rw [if_pos rfl]
    go_enter Try.func14, Try.ntmps14
    go_wp2_with (go_at_call 11; (with_reducible refine hc.out.mono ?_); rintro e w1 ⟨rfl, hB1⟩; replace hB1 := Lib.hid hB1)
    go_ret
    exact ⟨rfl, hB1.out⟩
theorem wrap_in {n : Int} (h : -2147483648 ≤ n ∧ n ≤ 2147483648) : wrap64 n = n := IntWalk.wrap64_in _ (by omega)
set_option maxHeartbeats 1000000 in
theorem left_any {w : World} {lo hi G : Nat} {B P W K : Int} {o : Option (Nat × Nat)} (m : FM w lo hi G B P W K o) :
    Calls Try.prog 15 #[.pointer (some ⟨G, 0, none⟩)] w (We.Ans w (.int .i64 (lfI P o))) := by
  have hc := Lib.hid (next_any m)
  have M := Lib.hid m.box
  have ok := m.ok
  clear m
  cases o with
  | none =>
    clear ok
    show Calls _ _ _ w (We.Ans w (.int .i64 0))
    replace hc : Hid (Calls Try.prog 11 #[.pointer (some ⟨G, 0, none⟩)] w (We.Ans w (.tuple #[.int .i64 0, .int .i64 0, .bool false]))) := hc
    go_enter Try.func15, Try.ntmps15
    go_wp2_with (go_at_call 11; (with_reducible refine hc.out.mono ?_); rintro e w1 ⟨rfl, hB1⟩; replace hB1 := Lib.hid hB1)
    go_ret
    exact ⟨rfl, hB1.out⟩
  | some q =>
    obtain ⟨b, p⟩ := q
    obtain ⟨hM, h1, h2⟩ := ok b p rfl
    obtain ⟨g1, g2, g3, g4, _⟩ := may_of hM
    clear ok hM
    show Calls _ _ _ w (We.Ans w (.int .i64 (P - (p : Int))))
    replace hc : Hid (Calls Try.prog 11 #[.pointer (some ⟨G, 0, none⟩)] w (We.Ans w (.tuple #[.int .i64 (b : Int), .int .i64 (p : Int), .bool true]))) := hc
    have hw : wrap64 (P - (p : Int)) = P - (p : Int) := wrap_in (by omega)
    replace hw := Lib.hid hw
    clear h1 h2 g1 g2 g3 g4
    go_enter Try.func15, Try.ntmps15
    go_wp2_with (go_at_call 11; (with_reducible refine hc.out.mono ?_); rintro e w1 ⟨rfl, hB1⟩; have c1 := (M.out.below hB1).c 1; replace hB1 := Lib.hid hB1; replace c1 : w1.cell? ⟨G, 1, none⟩ = some (.int .i64 P) := c1)
    go_ret
    exact ⟨congrArg (fun z => Ending.returned (.int .i64 z)) hw.out, hB1.out⟩
theorem on_keeps {w w1 : World} {lo hi : Nat} (h : Below w.heap.size w w1) : Cl.Keeps (Out lo hi) w w1 := Cl.Keeps.of_below h
set_option maxHeartbeats 1000000 in
theorem shut_any {w : World} {lo hi G : Nat} {B P W K : Int} {o : Option (Nat × Nat)} (m : FM w lo hi G B P W K o) :
    Calls Try.prog 13 #[.pointer (some ⟨G, 0, none⟩)] w fun e w' => e = .returned (.int .i64 (blI o)) ∧ Cl.Keeps (Out lo hi) w w' ∧ FM w' lo hi G B P W K none := by
  have hc := Lib.hid (block_any m)
  have M := Lib.hid m
  clear m
  generalize blI o = X at *
  go_enter Try.func13, Try.ntmps13
  go_wp2_with (go_at_call 14; (with_reducible refine hc.out.mono ?_); rintro e w1 ⟨rfl, hB1⟩; have c4 := (M.out.below hB1).box.c 4; have f4 := (M.out.below hB1).box.frozen 4; replace c4 : w1.cell? ⟨G, 4, none⟩ = some (.int .i64 (atI P o)) := c4; replace M := Lib.hid ((M.out.below hB1).put (-1) none rfl (by intro _ _ h; cases h)); replace hB1 := Lib.hid (on_keeps (lo := lo) (hi := hi) hB1))
  go_ret
  exact ⟨rfl, hB1.out.trans M.out.1, M.out.2⟩
theorem opB_none (B P W K a b : Int) : opB B P W K none a b = isN B P W K a b := by
  unfold opB isN
  rw [show decide (a < B) = decide (a ≤ B - 1) from decide_eq_decide.2 (by omega), show decide (b < P) = decide (b ≤ P - 1) from decide_eq_decide.2 (by omega)]
  simp
set_option maxHeartbeats 2000000 in
theorem open_any {w : World} {lo hi G : Nat} {B P W K : Int} {o : Option (Nat × Nat)} (m : FM w lo hi G B P W K o) (a b : Int) :
    Calls Try.prog 10 #[.pointer (some ⟨G, 0, none⟩), .int .i64 a, .int .i64 b] w fun e w' => e = .returned (.bool (opB B P W K o a b)) ∧ Cl.Keeps (Out lo hi) w w' ∧ FM w' lo hi G B P W K (opO B P W K o a b) := by
  have hc := Lib.hid (next_any m)
  have M := Lib.hid m
  cases o with
  | some q =>
    have e1 : opB B P W K (some q) a b = false := by unfold opB; simp
    have e2 : opO B P W K (some q) a b = some q := by unfold opO; rw [e1, if_neg (by simp)]
    rw [e1, e2]
    clear m e1 e2
    replace hc : Hid (Calls Try.prog 11 #[.pointer (some ⟨G, 0, none⟩)] w (We.Ans w (.tuple #[.int .i64 (bkN (some q) : Int), .int .i64 (pgN (some q) : Int), .bool true]))) := hc
    generalize (bkN (some q) : Int) = X at *
    generalize (pgN (some q) : Int) = Y at *
    go_enter Try.func10, Try.ntmps10
    go_wp2_with (go_at_call 11; (with_reducible refine hc.out.mono ?_); rintro e w1 ⟨rfl, hB1⟩; replace M := Lib.hid (M.out.below hB1); replace hB1 := Lib.hid (on_keeps (lo := lo) (hi := hi) hB1))
    go_ret
    exact ⟨rfl, hB1.out, M.out⟩
  | none =>
    replace hc : Hid (Calls Try.prog 11 #[.pointer (some ⟨G, 0, none⟩)] w (We.Ans w (.tuple #[.int .i64 0, .int .i64 0, .bool false]))) := hc
    have hn := Lib.hid (fun w' => number_any B P W K a b w')
    have hput : Hid (isN B P W K a b = true → atI P (some (a.toNat, b.toNat)) = numG B P W K a b ∧ ∀ x y, some (a.toNat, b.toNat) = some (x, y) → mayG B P W K = true ∧ (x : Int) < B ∧ (y : Int) < P) := Lib.hid fun h => by
      have h' := h
      unfold isN at h
      simp only [Bool.and_eq_true, decide_eq_true_eq] at h
      obtain ⟨⟨hM, h1, h2⟩, h3, h4⟩ := h
      refine ⟨?_, ?_⟩
      · unfold numG
        rw [if_pos h']
        show ((a.toNat : Nat) : Int) * P + ((b.toNat : Nat) : Int) = _
        rw [Int.toNat_of_nonneg h1, Int.toNat_of_nonneg h3]
      · intro x y e
        cases e
        exact ⟨hM, by omega, by omega⟩
    unfold opO
    rw [opB_none]
    generalize numG B P W K a b = N at *
    generalize isN B P W K a b = Z at *
    clear m
    cases Z
    · rw [if_neg (by simp)]
      clear hput
      go_enter Try.func10, Try.ntmps10
      go_wp2_with (first
        | (go_at_call 11; (with_reducible refine hc.out.mono ?_); rintro e w1 ⟨rfl, hB1⟩; obtain ⟨c0, c1, c2, c3⟩ : w1.cell? ⟨G, 0, none⟩ = some (.int .i64 B) ∧ w1.cell? ⟨G, 1, none⟩ = some (.int .i64 P) ∧ w1.cell? ⟨G, 2, none⟩ = some (.int .i64 W) ∧ w1.cell? ⟨G, 3, none⟩ = some (.int .i64 K) := ⟨(M.out.below hB1).box.c 0, (M.out.below hB1).box.c 1, (M.out.below hB1).box.c 2, (M.out.below hB1).box.c 3⟩; replace M := Lib.hid (M.out.below hB1); replace hB1 := Lib.hid hB1)
        | (go_at_call 16; (with_reducible refine (hn.out _).mono ?_); rintro e w2 ⟨rfl, hB2⟩; have M2 := Lib.hid (M.out.below hB2); have hB3 := Lib.hid (on_keeps (lo := lo) (hi := hi) (We.below_trans hB1.out hB2)); clear hB2))
      go_ret
      exact ⟨rfl, hB3.out, M2.out⟩
    · rw [if_pos rfl]
      replace hput := Lib.hid (hput.out rfl)
      go_enter Try.func10, Try.ntmps10
      go_wp2_with (first
        | (go_at_call 11; (with_reducible refine hc.out.mono ?_); rintro e w1 ⟨rfl, hB1⟩; obtain ⟨c0, c1, c2, c3⟩ : w1.cell? ⟨G, 0, none⟩ = some (.int .i64 B) ∧ w1.cell? ⟨G, 1, none⟩ = some (.int .i64 P) ∧ w1.cell? ⟨G, 2, none⟩ = some (.int .i64 W) ∧ w1.cell? ⟨G, 3, none⟩ = some (.int .i64 K) := ⟨(M.out.below hB1).box.c 0, (M.out.below hB1).box.c 1, (M.out.below hB1).box.c 2, (M.out.below hB1).box.c 3⟩; replace M := Lib.hid (M.out.below hB1); replace hB1 := Lib.hid hB1)
        | (go_at_call 16; (with_reducible refine (hn.out _).mono ?_); rintro e w2 ⟨rfl, hB2⟩; clear c0 c1 c2 c3; have c4 := (M.out.below hB2).box.c 4; have f4 := (M.out.below hB2).box.frozen 4; replace c4 : w2.cell? ⟨G, 4, none⟩ = some (.int .i64 (-1)) := c4; have M2 := Lib.hid ((M.out.below hB2).put N _ hput.out.1 hput.out.2); have hB3 := Lib.hid (on_keeps (lo := lo) (hi := hi) (We.below_trans hB1.out hB2)); clear hB2))
      go_ret
      exact ⟨rfl, hB3.out.trans M2.out.1, M2.out.2⟩
set_option maxHeartbeats 2000000 in
theorem take_any {w : World} {lo hi G : Nat} {B P W K : Int} {o : Option (Nat × Nat)} (m : FM w lo hi G B P W K o) :
    Calls Try.prog 12 #[.pointer (some ⟨G, 0, none⟩)] w fun e w' => e = .returned (nxV o) ∧ Cl.Keeps (Out lo hi) w w' ∧ FM w' lo hi G B P W K (tkO P o) := by
  have hc := Lib.hid (next_any m)
  cases o with
  | none =>
    have M := Lib.hid m
    clear m
    replace hc : Hid (Calls Try.prog 11 #[.pointer (some ⟨G, 0, none⟩)] w (We.Ans w (.tuple #[.int .i64 0, .int .i64 0, .bool false]))) := hc
    go_enter Try.func12, Try.ntmps12
    go_wp2_with (go_at_call 11; (with_reducible refine hc.out.mono ?_); rintro e w1 ⟨rfl, hB1⟩; replace M := Lib.hid (M.out.below hB1); replace hB1 := Lib.hid (on_keeps (lo := lo) (hi := hi) hB1))
    ((try simp only [Exit.inBlock, Exit.then]); refine bodyPost_ret (res3 rfl _ _ _) rfl ?_)
    exact ⟨rfl, hB1.out, M.out⟩
  | some q =>
    obtain ⟨b, p⟩ := q
    obtain ⟨hM, h1, h2⟩ := m.ok b p rfl
    obtain ⟨g1, g2, g3, g4, _⟩ := may_of hM
    replace hc : Hid (Calls Try.prog 11 #[.pointer (some ⟨G, 0, none⟩)] w (We.Ans w (.tuple #[.int .i64 (b : Int), .int .i64 (p : Int), .bool true]))) := hc
    have hl : Hid (∀ w' : World, FM w' lo hi G B P W K (some (b, p)) → Calls Try.prog 15 #[.pointer (some ⟨G, 0, none⟩)] w' (We.Ans w' (.int .i64 (P - (p : Int))))) := Lib.hid fun w' m' => left_any m'
    show Calls _ _ _ w fun e w' => e = .returned (.tuple #[.int .i64 (b : Int), .int .i64 (p : Int), .bool true]) ∧ Cl.Keeps (Out lo hi) w w' ∧ FM w' lo hi G B P W K (tkO P (some (b, p)))
    rw [show tkO P (some (b, p)) = if (p : Int) + 1 < P then some (b, p + 1) else none by unfold tkO; simp [pgN, bkN]]
    have M := Lib.hid m
    clear m
    by_cases hlast : (p : Int) + 1 < P
    · rw [if_pos hlast]
      have t1 : (P - (p : Int) == 1) = false := by simp; omega
      have hok : Hid (∀ x y, some (b, p + 1) = some (x, y) → mayG B P W K = true ∧ (x : Int) < B ∧ (y : Int) < P) := Lib.hid fun x y e => by
        cases e
        exact ⟨hM, h1, by omega⟩
      have hbp := bp_le (by omega : (0 : Int) ≤ (b : Int)) (by omega) (by omega : (0 : Int) ≤ P) g4
      have e0 : Hid (atI P (some (b, p)) = (b : Int) * P + (p : Int)) := Lib.hid rfl
      have e1 : Hid (atI P (some (b, p + 1)) = (b : Int) * P + (p : Int) + 1) := Lib.hid (by
        show (b : Int) * P + ((p + 1 : Nat) : Int) = _
        rw [Int.natCast_add]
        omega)
      have hw : IntKind.i64.wrap ((b : Int) * P + (p : Int) + 1) = (b : Int) * P + (p : Int) + 1 := by simp only [IntKind.wrap, IntKind.signed, IntKind.bits]; simp; omega
      obtain ⟨n, hn⟩ : ∃ n, (b : Int) * P + (p : Int) = n := ⟨_, rfl⟩
      rw [hn] at e0 e1 hw
      clear hn hbp hlast h1 h2 g1 g2 g3 g4 hM
      generalize P - (p : Int) = L at *
      go_enter Try.func12, Try.ntmps12
      go_wp2_with (first
        | (go_at_call 11; (with_reducible refine hc.out.mono ?_); rintro e w1 ⟨rfl, hB1⟩; replace M := Lib.hid (M.out.below hB1); replace hB1 := Lib.hid hB1)
        | (go_at_call 15; (with_reducible refine (hl.out _ M.out).mono ?_); rintro e w2 ⟨rfl, hB2⟩; have c4 : w2.cell? ⟨G, 4, none⟩ = some (.int .i64 n) := e0.out ▸ (M.out.below hB2).box.c 4; have f4 := (M.out.below hB2).box.frozen 4; have M2 := Lib.hid ((M.out.below hB2).put (n + 1) _ e1.out hok.out); have hB3 := Lib.hid (on_keeps (lo := lo) (hi := hi) (We.below_trans hB1.out hB2)); clear hB2))
      ((try simp only [Exit.inBlock, Exit.then]); refine bodyPost_ret (res3 rfl _ _ _) rfl ?_)
      exact ⟨rfl, hB3.out.trans M2.out.1, M2.out.2⟩
    · rw [if_neg hlast]
      have t0 : P - (p : Int) = 1 := by omega
      rw [t0] at hl
      have hs : Hid (∀ w' : World, FM w' lo hi G B P W K (some (b, p)) → Calls Try.prog 13 #[.pointer (some ⟨G, 0, none⟩)] w' fun e w'' => e = .returned (.int .i64 (b : Int)) ∧ Cl.Keeps (Out lo hi) w' w'' ∧ FM w'' lo hi G B P W K none) := Lib.hid fun w' m' => shut_any m'
      clear t0 hlast h1 h2 g1 g2 g3 g4 hM
      go_enter Try.func12, Try.ntmps12
      go_wp2_with (first
        | (go_at_call 11; (with_reducible refine hc.out.mono ?_); rintro e w1 ⟨rfl, hB1⟩; replace M := Lib.hid (M.out.below hB1); replace hB1 := Lib.hid hB1)
        | (go_at_call 15; (with_reducible refine (hl.out _ M.out).mono ?_); rintro e w2 ⟨rfl, hB2⟩; replace M := Lib.hid (M.out.below hB2); have hB3 := Lib.hid (on_keeps (lo := lo) (hi := hi) (We.below_trans hB1.out hB2)); clear hB2)
        | (go_at_call 13; (with_reducible refine (hs.out _ M.out).mono ?_); rintro e w4 ⟨rfl, hk4, M4⟩; have k4 := Lib.hid (hB3.out.trans hk4); replace M4 := Lib.hid M4; clear hk4))
      ((try simp only [Exit.inBlock, Exit.then]); refine bodyPost_ret (res3 rfl _ _ _) rfl ?_)
      exact ⟨rfl, k4.out, M4.out⟩
set_option maxHeartbeats 1000000 in
theorem new_any (w : World) (B P W K : Int) : Calls Try.prog 8 #[.agg #[.int .i64 B, .int .i64 P, .int .i64 W, .int .i64 K]] w fun e w' => ∃ G, e = .returned (.pointer (some ⟨G, 0, none⟩)) ∧ Below w.heap.size w w' ∧ FM w' w.heap.size w'.heap.size G B P W K none := by
  have hb1 := below_alloc w (.cells #[.int .i64 B, .int .i64 P, .int .i64 W, .int .i64 K] 23)
  obtain ⟨hlt, c0, c1, c2, c3⟩ := Box.new w B P W K
  have hsz := World.size_alloc w (.cells #[.int .i64 B, .int .i64 P, .int .i64 W, .int .i64 K] 23)
  replace hb1 := Lib.hid hb1
  replace hsz := Lib.hid hsz
  clear hlt
  go_enter Try.func8, Try.ntmps8
  go_wp2_with fail
  go_ret
  refine ⟨_, rfl, hb1.out.trans ((below_alloc _ _).mono hb1.out.size), ?_, ⟨?_, ?_⟩, by intro _ _ h; cases h⟩
  · rw [← hsz.out]; exact FB.new _ B P W K (-1)
  · omega
  · rw [World.size_alloc, hsz.out]; omega
/-- THE PROGRAM's FRONTIER has a frontier's contracts. -/
theorem the_front : FC FM := by
  refine { keep := fun m h => m.keep h, fine := fun m => m.ok, new := new_any, open_ := fun m => open_any m, next := fun m => next_any m, take := fun m => take_any m, block := fun m => block_any m, left := fun m => left_any m, shut := fun m => shut_any m }
end Go.Proofs.Ytoofhldfgfndkaa.Fo
