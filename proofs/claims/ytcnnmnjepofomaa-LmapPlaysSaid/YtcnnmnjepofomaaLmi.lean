/- THE PROGRAM's MAP: what lies; Get, Owner, Count, Many walked. -/
import Derived.Test.YtcnnmnjepofomaaLmg
import Derived.Test.YtcnnmnjepofomaaLmh
import Derived.Test.YtcnnmnjepofomaaLmd
namespace Go.Proofs.Ytcnnmnjepofomaa.Lm
open Go.RowKit Go.Bw Go.Proofs.Ytcnnmnjepofomaa.Vl
set_option linter.unusedVariables false
set_option linter.unusedSimpArgs false
attribute [local go_sem ↓] Cl.quiet_since
/-- where a map lies: its box in G; boxes of bits, words, rows, both ways -/
structure Blk where
  G : Nat
  mid : Nat
  g1 : Nat
  h1 : Nat
  r1 : Nat
  g2 : Nat
  h2 : Nat
  r2 : Nat
/-- the box's cells -/
def mpF (K : Blk) (lp pg : Nat) (i : Nat) : Value := if i = 0 then .pointer (some ⟨K.g1, 0, none⟩) else if i = 1 then .slice (some ⟨K.r1, 0, none⟩) lp lp else if i = 2 then .pointer (some ⟨K.g2, 0, none⟩) else .slice (some ⟨K.r2, 0, none⟩) pg pg
/-- THE MAP of lp host pages and pg pages: f tells where all lie; its blocks lie from lo on below hi -/
structure PM (w : World) (lo hi : Nat) (K : Blk) (lp pg : Nat) (f : Nat → Int) : Prop where
  box : PV w 55 K.G 4 (mpF K lp pg)
  ways : ∃ φ1 φ2, Way w lo K.mid K.g1 K.h1 K.r1 lp (lieB f lp) φ1 ∧ (∀ i, i < lp → 0 ≤ f i → φ1 i = f i) ∧ Way w K.mid K.G K.g2 K.h2 K.r2 pg (ownB f lp) φ2 ∧ (∀ p o : Nat, ow f lp (p : Int) = some o → φ2 p = (o : Int))
  inj : Inj f lp
  fine : Fine f lp pg
  rng : lo ≤ K.mid ∧ K.mid ≤ K.G ∧ K.G < hi
  le : lp ≤ 1048576 ∧ pg ≤ 1048576
section
variable {w w' : World} {lo hi lp pg : Nat} {K : Blk} {f : Nat → Int}
theorem PM.c0 (m : PM w lo hi K lp pg f) : w.cell? ⟨K.G, 0, none⟩ = some (.pointer (some ⟨K.g1, 0, none⟩)) := m.box.cell (i := 0) (by decide)
theorem PM.c1 (m : PM w lo hi K lp pg f) : w.cell? ⟨K.G, 1, none⟩ = some (.slice (some ⟨K.r1, 0, none⟩) lp lp) := m.box.cell (i := 1) (by decide)
theorem PM.c2 (m : PM w lo hi K lp pg f) : w.cell? ⟨K.G, 2, none⟩ = some (.pointer (some ⟨K.g2, 0, none⟩)) := m.box.cell (i := 2) (by decide)
theorem PM.c3 (m : PM w lo hi K lp pg f) : w.cell? ⟨K.G, 3, none⟩ = some (.slice (some ⟨K.r2, 0, none⟩) pg pg) := m.box.cell (i := 3) (by decide)
theorem PM.keep (m : PM w lo hi K lp pg f) (k : ∀ b, lo ≤ b → b < hi → b < w.heap.size → w'.heap[b]? = w.heap[b]?) : PM w' lo hi K lp pg f := by
  obtain ⟨r1, r2, r3⟩ := m.rng
  obtain ⟨φ1, φ2, a1, a2, a3, a4⟩ := m.ways
  exact ⟨m.box.keep (k _ (by omega) r3 m.box.lt), ⟨φ1, φ2, a1.keep fun b h1 h2 => k b h1 (by omega), a2, a3.keep fun b h1 h2 => k b (by omega) (by omega), a4⟩, m.inj, m.fine, m.rng, m.le⟩
theorem PM.below (m : PM w lo hi K lp pg f) (hb : Below w.heap.size w w') : PM w' lo hi K lp pg f := m.keep fun b _ _ h => hb.block b h
theorem PM.keeps (m : PM w lo hi K lp pg f) {S : Nat → Prop} (k : Cl.Keeps S w w') (hS : ∀ b, lo ≤ b → b < hi → S b) : PM w' lo hi K lp pg f := m.keep fun b h1 h2 h3 => k.block b h3 (hS b h1 h2)
theorem PM.more (m : PM w lo hi K lp pg f) {lo' hi' : Nat} (h1 : lo' ≤ lo) (h2 : hi ≤ hi') : PM w lo' hi' K lp pg f := by
  obtain ⟨r1, r2, r3⟩ := m.rng
  obtain ⟨φ1, φ2, a1, a2, a3, a4⟩ := m.ways
  exact ⟨m.box, ⟨φ1, φ2, a1.more h1 (Nat.le_refl _), a2, a3, a4⟩, m.inj, m.fine, by omega, m.le⟩
theorem ow_congr {f' : Nat → Int} (e : ∀ i, i < lp → f i = f' i) (p : Int) : ow f lp p = ow f' lp p := by
  cases h : ow f lp p with
  | none => exact (nx_none.2 fun j hj => by rw [← e j hj]; exact nx_none.1 h j hj).symm
  | some o =>
    obtain ⟨h1, h2, h3⟩ := nx_some.1 h
    exact (nx_some.2 ⟨h1, by rw [← e o h1]; exact h2, fun j hj => by rw [← e j (by omega)]; exact h3 j hj⟩).symm
theorem PM.congr (m : PM w lo hi K lp pg f) {f' : Nat → Int} (e : ∀ i, i < lp → f i = f' i) : PM w lo hi K lp pg f' := by
  obtain ⟨φ1, φ2, a1, a2, a3, a4⟩ := m.ways
  refine ⟨m.box, ⟨φ1, φ2, ⟨a1.bt.congr fun j => ?_, a1.row, a1.nr, a1.rng⟩, fun i hi h0 => by rw [← e i hi] at h0 ⊢; exact a2 i hi h0, ⟨a3.bt.congr fun j => ?_, a3.row, a3.nr, a3.rng⟩, fun p o h => a4 p o (by rw [ow_congr e]; exact h)⟩, fun i j hi hj h0 h => ?_, fun i hi => by rw [← e i hi]; exact m.fine i hi, m.rng, m.le⟩
  · unfold lieB
    by_cases h : j < lp
    · rw [e j h]
    · simp [h]
  · unfold ownB; rw [ow_congr e]
  · rw [← e i hi] at h0 h; rw [← e j hj] at h; exact m.inj i j hi hj h0 h
end
/-- what Get answers -/
def getM (f : Nat → Int) (lp : Nat) (a : Int) : Int × Bool := if (inB lp a && decide (0 ≤ f a.toNat)) = true then (f a.toNat, true) else (0, false)
def getV (r : Int × Bool) : Value := .tuple #[.int .i64 r.1, .bool r.2]
theorem has_lie {f : Nat → Int} {lp : Nat} (a : Int) : hasB lp (lieB f lp) a = (inB lp a && decide (0 ≤ f a.toNat)) := by
  unfold hasB lieB inB
  by_cases h1 : 0 ≤ a
  · by_cases h2 : a < (lp : Int)
    · have : a.toNat < lp := by omega
      simp [h1, h2, this]
    · simp [h2]
  · simp [h1]
set_option maxHeartbeats 1000000 in
theorem get_any {lo hi lp pg : Nat} {K : Blk} {f : Nat → Int} (w : World) (m : PM w lo hi K lp pg f) (a : Int) :
    Calls Try.prog 13 #[.pointer (some ⟨K.G, 0, none⟩), .int .i64 a] w (We.Ans w (getV (getM f lp a))) := by
  have c0 := m.c0
  have c1 := m.c1
  have hc : Hid (Calls Try.prog 23 #[.agg #[.pointer (some ⟨K.g1, 0, none⟩), .slice (some ⟨K.r1, 0, none⟩) lp lp], .int .i64 a] w (We.Ans w (getV (getM f lp a)))) := by
    obtain ⟨φ1, φ2, a1, a2, a3, a4⟩ := m.ways
    have h0 : hasB lp (lieB f lp) a = true → 0 ≤ φ1 a.toNat ∧ φ1 a.toNat ≤ 1048576 ∧ φ1 a.toNat = f a.toNat := fun h => by
      rw [has_lie, Bool.and_eq_true, decide_eq_true_eq] at h
      obtain ⟨p, rfl, hp⟩ := of_inB h.1
      have hf := m.fine p hp
      have h2 := h.2
      rw [Int.toNat_natCast] at h2 ⊢
      rw [a2 p hp h2]
      have := m.le.2
      exact ⟨by omega, by omega, rfl⟩
    have := at_any w a1 a fun h => ⟨(h0 h).1, (h0 h).2.1⟩
    have e : atV lp (lieB f lp) φ1 a = getV (getM f lp a) := by
      unfold atV getM getV
      cases hb : hasB lp (lieB f lp) a
      · rw [has_lie] at hb; rw [hb]; rfl
      · have h3 := (h0 hb).2.2
        rw [has_lie] at hb; rw [hb]
        simp only [if_true]; rw [h3]
    rw [e] at this
    exact Lib.hid this
  clear m
  obtain ⟨X, hX⟩ : ∃ X, (getM f lp a).1 = X := ⟨_, rfl⟩
  obtain ⟨b, hb⟩ : ∃ b, (getM f lp a).2 = b := ⟨_, rfl⟩
  unfold getV at hc ⊢
  rw [hX, hb] at hc ⊢
  replace hX := Lib.hid hX
  replace hb := Lib.hid hb
  go_enter Try.func13, Try.ntmps13
  go_wp2_with (go_at_call 23; (with_reducible refine hc.out.mono ?_); rintro e w2 ⟨rfl, hB2⟩; replace hB2 := Lib.hid hB2)
  go_ret2
  exact ⟨rfl, hB2.out⟩
theorem has_own {f : Nat → Int} {lp pg : Nat} (hF : Fine f lp pg) (p : Int) : hasB pg (ownB f lp) p = (ow f lp p).isSome := by
  unfold hasB inB
  by_cases h1 : 0 ≤ p
  · obtain ⟨q, rfl⟩ : ∃ q : Nat, p = (q : Int) := ⟨p.toNat, by omega⟩
    by_cases h2 : (q : Int) < (pg : Int)
    · simp [h2]; rfl
    · rw [ow_out hF (by omega)]; simp [h2]
  · rw [ow_neg (by omega)]; simp [h1]
theorem at_own {lo hi lp pg : Nat} {K : Blk} {f : Nat → Int} (w : World) (m : PM w lo hi K lp pg f) (p : Int) :
    Calls Try.prog 23 #[.agg #[.pointer (some ⟨K.g2, 0, none⟩), .slice (some ⟨K.r2, 0, none⟩) pg pg], .int .i64 p] w (We.Ans w (owV (ow f lp p))) := by
  obtain ⟨φ1, φ2, a1, a2, a3, a4⟩ := m.ways
  have h0 : ∀ o, ow f lp p = some o → φ2 p.toNat = (o : Int) ∧ o < lp := fun o h => by
    obtain ⟨h1, h2, h3⟩ := ow_some h
    obtain ⟨q, rfl⟩ : ∃ q : Nat, p = (q : Int) := ⟨p.toNat, by omega⟩
    exact ⟨a4 q o h, h1⟩
  have hle := m.le.1
  have := at_any w a3 p fun h => by
    rw [has_own m.fine] at h
    obtain ⟨o, ho⟩ := Option.isSome_iff_exists.1 h
    obtain ⟨e1, e2⟩ := h0 o ho
    rw [e1]; omega
  have e : atV pg (ownB f lp) φ2 p = owV (ow f lp p) := by
    unfold atV owV
    rw [has_own m.fine]
    cases ho : ow f lp p with
    | none => rfl
    | some o => simp only [Option.isSome_some, if_true, Option.getD_some]; rw [(h0 o ho).1]
  rw [e] at this
  exact this
set_option maxHeartbeats 1000000 in
theorem owner_any {lo hi lp pg : Nat} {K : Blk} {f : Nat → Int} (w : World) (m : PM w lo hi K lp pg f) (p : Int) :
    Calls Try.prog 14 #[.pointer (some ⟨K.G, 0, none⟩), .int .i64 p] w (We.Ans w (owV (ow f lp p))) := by
  have c2 := m.c2
  have c3 := m.c3
  have hc := Lib.hid (at_own w m p)
  clear m
  obtain ⟨X, hX⟩ : ∃ X, (((ow f lp p).getD 0 : Nat) : Int) = X := ⟨_, rfl⟩
  obtain ⟨b, hb⟩ : ∃ b, (ow f lp p).isSome = b := ⟨_, rfl⟩
  unfold owV at hc ⊢
  rw [hX, hb] at hc ⊢
  replace hX := Lib.hid hX
  replace hb := Lib.hid hb
  go_enter Try.func14, Try.ntmps14
  go_wp2_with (go_at_call 23; (with_reducible refine hc.out.mono ?_); rintro e w2 ⟨rfl, hB2⟩; replace hB2 := Lib.hid hB2)
  go_ret2
  exact ⟨rfl, hB2.out⟩
set_option maxHeartbeats 1000000 in
theorem count_any {lo hi lp pg : Nat} {K : Blk} {f : Nat → Int} (w : World) (m : PM w lo hi K lp pg f) (A B : Int) (hA : A ≤ 9223372036854775807) :
    Calls Try.prog 18 #[.pointer (some ⟨K.G, 0, none⟩), .int .i64 A, .int .i64 B] w (Same w (.int .i64 ((pc (fun i => decide (0 ≤ f i) && decide (A ≤ f i) && decide (f i < B)) lp : Nat) : Int))) := by
  have c2 := m.c2
  rw [← count_ways A B m.inj m.fine]
  have hc : Hid (Calls Try.prog 26 #[.pointer (some ⟨K.g2, 0, none⟩), .int .i64 A, .int .i64 B] w (Same w (.int .i64 ((pc (sel (ownB f lp) A B) pg : Nat) : Int)))) := by
    obtain ⟨φ1, φ2, a1, a2, a3, a4⟩ := m.ways
    exact Lib.hid (Vl.count_any w a3.bt A B hA)
  clear m
  generalize ((pc (sel (ownB f lp) A B) pg : Nat) : Int) = X at *
  go_enter Try.func18, Try.ntmps18
  go_wp2_with (go_at_call 26; (with_reducible refine hc.out.mono ?_); rintro e w2 ⟨rfl, rfl⟩)
  go_ret
  exact ⟨rfl, rfl⟩
set_option maxHeartbeats 1000000 in
theorem many_any {lo hi lp pg : Nat} {K : Blk} {f : Nat → Int} (w : World) (m : PM w lo hi K lp pg f) :
    Calls Try.prog 19 #[.pointer (some ⟨K.G, 0, none⟩)] w (We.Ans w (.int .i64 ((pc (fun i => decide (0 ≤ f i)) lp : Nat) : Int))) := by
  have e : pc (fun i => decide (0 ≤ f i)) lp = pc (sel (lieB f lp) 0 (lp : Int)) lp := pc_congr fun j hj => by unfold sel lieB; simp [hj]
  rw [e]
  have hc : Hid (∀ w' : World, Below w.heap.size w w' → Calls Try.prog 26 #[.pointer (some ⟨K.g1, 0, none⟩), .int .i64 0, .int .i64 (lp : Int)] w' (Same w' (.int .i64 ((pc (sel (lieB f lp) 0 (lp : Int)) lp : Nat) : Int)))) := Lib.hid fun w' hb => by
    obtain ⟨φ1, φ2, a1, a2, a3, a4⟩ := (m.below hb).ways
    exact Vl.count_any w' a1.bt 0 (lp : Int) (by decide)
  have M := Lib.hid m
  clear m e
  generalize ((pc (sel (lieB f lp) 0 (lp : Int)) lp : Nat) : Int) = X at *
  go_enter Try.func19, Try.ntmps19
  go_wp2_with fail
  refine Cl.region_way (fun _ => True) 12 [(0, .r), (1, .r), (2, .r), (3, .r), (4, .r), (5, .r), (6, .r), (7, .r), (8, .r), (9, .r), (10, .r), (11, .c), (12, .z)] (by kernel_rfl) (by kernel_rfl) ?_
  intro w3 hk3
  have hk := Lib.hid hk3.below
  have t0 : ∀ y : Cl.Since (fun _ => True) w3, y.w.cell? ⟨K.G, 0, none⟩ = some (.pointer (some ⟨K.g1, 0, none⟩)) := fun y => ((M.out.below hk.out).below y.keeps.below).c0
  have t1 : ∀ y : Cl.Since (fun _ => True) w3, y.w.cell? ⟨K.G, 1, none⟩ = some (.slice (some ⟨K.r1, 0, none⟩) lp lp) := fun y => ((M.out.below hk.out).below y.keeps.below).c1
  have hc3 := Lib.hid (hc.out _ hk.out)
  clear hk3 hc
  iterate 11 (refine Cl.way_r rfl ?_; go_big_quiet_step (fail); refine wpQuiet_nil ?_)
  refine Cl.way_c rfl ?_
  go_wp2_with (go_at_call 26; (with_reducible refine hc3.out.mono ?_); rintro e w4 ⟨rfl, rfl⟩)
  refine Cl.way_on (Cl.Keeps.refl _ _) ?_
  refine Cl.way_z rfl ?_
  go_wp2_with fail
  refine Cl.Calm.normal ?_
  go_wp2_with fail
  go_ret
  exact ⟨rfl, hk.out⟩
end Go.Proofs.Ytcnnmnjepofomaa.Lm
