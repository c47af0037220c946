/- The program's map: Put walked, at what there is. -/
import Derived.Test.YtcnnmnjepofomaaLml
namespace Go.Proofs.Ytcnnmnjepofomaa.Lm
open Go.RowKit Go.Bw Go.Proofs.Ytcnnmnjepofomaa.Vl
set_option linter.unusedVariables false
set_option linter.unusedSimpArgs false
attribute [local go_sem ↓] Cl.quiet_since
theorem knows_yes {g r n p : Nat} (w : World) (hp : p < n) : Calls Try.prog 22 #[.agg #[.pointer (some ⟨g, 0, none⟩), .slice (some ⟨r, 0, none⟩) n n], .int .i64 (p : Int)] w (We.Ans w (.bool true)) := by
  have h := knows_any (g := g) (r := r) (n := n) w (p : Int)
  rw [show inB n (p : Int) = true by unfold inB; simp; omega] at h
  exact h
theorem knows_no {g r n : Nat} (w : World) {a : Int} (ha : inB n a = false) : Calls Try.prog 22 #[.agg #[.pointer (some ⟨g, 0, none⟩), .slice (some ⟨r, 0, none⟩) n n], .int .i64 a] w (We.Ans w (.bool false)) := by
  have h := knows_any (g := g) (r := r) (n := n) w a
  rw [ha] at h
  exact h
set_option maxHeartbeats 2000000 in
theorem put_core {lo hi lp pg p q : Nat} {K : Blk} {f : Nat → Int} (w : World) (m : PM w lo hi K lp pg f) (hp : p < lp) (hq : q < pg) (b : Bool) (how : owV (ow f lp (q : Int)) = .tuple #[.int .i64 (if b = true then (p : Int) else 0), .bool b]) (hor : ow f lp (q : Int) = none ∨ f p = (q : Int))
    (u : Int) (v : Bool) (f1 : Nat → Int) (hD : dropM lp f (p : Int) = (u, v, f1)) (t : Bool) (ht : (u == (q : Int)) = t) (Z : Int) (hZ : (if (!v || t) = true then -1 else u) = Z) :
    Calls Try.prog 11 #[.pointer (some ⟨K.G, 0, none⟩), .int .i64 (p : Int), .int .i64 (q : Int)] w fun e w' => e = .returned (.tuple #[.int .i64 Z, .int .i64 0]) ∧ Cl.Keeps (Out lo hi) w w' ∧ PM w' lo hi K lp pg (lay f (p : Int) (q : Int)) := by
  have c0 := m.c0
  have c1 := m.c1
  obtain ⟨a1, a2, a3⟩ := after_drop m.inj hp hor
  have hf1 : (if 0 ≤ f p then lay f (p : Int) (-1) else f) = f1 := by rw [drop_f hp] at hD; exact (Prod.mk.inj (Prod.mk.inj hD).2).2
  rw [hf1] at a1 a2 a3
  have M := Lib.hid m
  have hk := Lib.hid (fun (g r n p : Nat) (w : World) (h : p < n) => knows_yes (g := g) (r := r) (n := n) (p := p) w h)
  have hp2 := Lib.hid hp
  have hq2 := Lib.hid hq
  have Q1 := Lib.hid a1
  have Q2 := Lib.hid a2
  have Q3 := Lib.hid a3
  have HD := Lib.hid hD
  have HO := Lib.hid how
  clear m hor hf1 a1 a2 a3 hp hq hD how
  cases b
  · simp only [Bool.false_eq_true, if_false] at HO
    go_enter Try.func11, Try.ntmps11
    go_wp2_with (go_at_call 22; (with_reducible refine (hk.out _ _ _ _ _ hp2.out).mono ?_); rintro e w2 ⟨rfl, B2⟩; have M2 := Lib.hid (M.out.below B2); replace B2 := Lib.hid B2; have c2 := M2.out.c2; have c3 := M2.out.c3; clear c0 c1)
    go_wp2_with (go_at_call 22; (with_reducible refine (hk.out _ _ _ _ _ hq2.out).mono ?_); clear c2 c3; rintro e w3 ⟨rfl, B3⟩; have M3 := Lib.hid (M2.out.below B3); replace B3 := Lib.hid (We.below_trans B2.out B3); have c2 := M3.out.c2; have c3 := M3.out.c3)
    have ha := Lib.hid (at_own w3 M3.out (q : Int))
    rw [HO.out] at ha
    go_wp2_with (go_at_call 23; (with_reducible refine ha.out.mono ?_); clear ha c2 c3; rintro e w4 ⟨rfl, B4⟩; have M4 := Lib.hid (M3.out.below B4); replace B4 := Lib.hid (We.below_trans B3.out B4))
    have hd := Lib.hid (drop_any w4 M4.out (p : Int))
    rw [HD.out] at hd
    unfold dropV at hd
    go_wp2_with (go_at_call 16; (with_reducible refine hd.out.mono ?_); clear hd; rintro e w5 ⟨rfl, k5, M5⟩; replace k5 := Lib.hid ((Cl.Keeps.of_below B4.out).trans k5); replace M5 := Lib.hid M5; have c0 := M5.out.c0; have c1 := M5.out.c1)
    have hl := Lib.hid (lead1 M5.out hp2.out hq2.out)
    go_wp2_with (go_at_call 24; (with_reducible refine hl.out.mono ?_); clear hl c0 c1; rintro e w6 ⟨rfl, k6, M6⟩; replace k6 := Lib.hid (k5.out.trans k6); replace M6 := Lib.hid M6; have c2 := M6.out.c2; have c3 := M6.out.c3)
    have hl := Lib.hid (lead2 M6.out hp2.out hq2.out Q1.out Q2.out)
    rw [Q3.out] at hl
    have F := hZ
    cases v
    · go_wp2_with (go_at_call 24; (with_reducible refine hl.out.mono ?_); clear hl c2 c3; rintro e w7 ⟨rfl, k7, M7⟩; replace k7 := Lib.hid (k6.out.trans k7); replace M7 := Lib.hid M7)
      simp at F
      go_ret2
      exact ⟨by rw [← F]; rfl, k7.out, M7.out⟩
    · cases t
      · simp at F
        go_wp2_with (go_at_call 24; (with_reducible refine hl.out.mono ?_); clear hl c2 c3; rintro e w7 ⟨rfl, k7, M7⟩; replace k7 := Lib.hid (k6.out.trans k7); replace M7 := Lib.hid M7)
        go_ret2
        exact ⟨by rw [← F]; rfl, k7.out, M7.out⟩
      · simp at F
        go_wp2_with (go_at_call 24; (with_reducible refine hl.out.mono ?_); clear hl c2 c3; rintro e w7 ⟨rfl, k7, M7⟩; replace k7 := Lib.hid (k6.out.trans k7); replace M7 := Lib.hid M7)
        go_ret2
        exact ⟨by rw [← F]; rfl, k7.out, M7.out⟩
  · simp only [if_true] at HO
    go_enter Try.func11, Try.ntmps11
    go_wp2_with (go_at_call 22; (with_reducible refine (hk.out _ _ _ _ _ hp2.out).mono ?_); rintro e w2 ⟨rfl, B2⟩; have M2 := Lib.hid (M.out.below B2); replace B2 := Lib.hid B2; have c2 := M2.out.c2; have c3 := M2.out.c3; clear c0 c1)
    go_wp2_with (go_at_call 22; (with_reducible refine (hk.out _ _ _ _ _ hq2.out).mono ?_); clear c2 c3; rintro e w3 ⟨rfl, B3⟩; have M3 := Lib.hid (M2.out.below B3); replace B3 := Lib.hid (We.below_trans B2.out B3); have c2 := M3.out.c2; have c3 := M3.out.c3)
    have ha := Lib.hid (at_own w3 M3.out (q : Int))
    rw [HO.out] at ha
    go_wp2_with (go_at_call 23; (with_reducible refine ha.out.mono ?_); clear ha c2 c3; rintro e w4 ⟨rfl, B4⟩; have M4 := Lib.hid (M3.out.below B4); replace B4 := Lib.hid (We.below_trans B3.out B4))
    have hd := Lib.hid (drop_any w4 M4.out (p : Int))
    rw [HD.out] at hd
    unfold dropV at hd
    go_wp2_with (go_at_call 16; (with_reducible refine hd.out.mono ?_); clear hd; rintro e w5 ⟨rfl, k5, M5⟩; replace k5 := Lib.hid ((Cl.Keeps.of_below B4.out).trans k5); replace M5 := Lib.hid M5; have c0 := M5.out.c0; have c1 := M5.out.c1)
    have hl := Lib.hid (lead1 M5.out hp2.out hq2.out)
    go_wp2_with (go_at_call 24; (with_reducible refine hl.out.mono ?_); clear hl c0 c1; rintro e w6 ⟨rfl, k6, M6⟩; replace k6 := Lib.hid (k5.out.trans k6); replace M6 := Lib.hid M6; have c2 := M6.out.c2; have c3 := M6.out.c3)
    have hl := Lib.hid (lead2 M6.out hp2.out hq2.out Q1.out Q2.out)
    rw [Q3.out] at hl
    have F := hZ
    cases v
    · go_wp2_with (go_at_call 24; (with_reducible refine hl.out.mono ?_); clear hl c2 c3; rintro e w7 ⟨rfl, k7, M7⟩; replace k7 := Lib.hid (k6.out.trans k7); replace M7 := Lib.hid M7)
      simp at F
      go_ret2
      exact ⟨by rw [← F]; rfl, k7.out, M7.out⟩
    · cases t
      · simp at F
        go_wp2_with (go_at_call 24; (with_reducible refine hl.out.mono ?_); clear hl c2 c3; rintro e w7 ⟨rfl, k7, M7⟩; replace k7 := Lib.hid (k6.out.trans k7); replace M7 := Lib.hid M7)
        go_ret2
        exact ⟨by rw [← F]; rfl, k7.out, M7.out⟩
      · simp at F
        go_wp2_with (go_at_call 24; (with_reducible refine hl.out.mono ?_); clear hl c2 c3; rintro e w7 ⟨rfl, k7, M7⟩; replace k7 := Lib.hid (k6.out.trans k7); replace M7 := Lib.hid M7)
        go_ret2
        exact ⟨by rw [← F]; rfl, k7.out, M7.out⟩
set_option maxHeartbeats 2000000 in
theorem put_own {lo hi lp pg p q o : Nat} {K : Blk} {f : Nat → Int} (w : World) (m : PM w lo hi K lp pg f) (hp : p < lp) (hq : q < pg) (how : ow f lp (q : Int) = some o) (hop : o ≠ p) :
    Calls Try.prog 11 #[.pointer (some ⟨K.G, 0, none⟩), .int .i64 (p : Int), .int .i64 (q : Int)] w (We.Ans w (.tuple #[.int .i64 0, .int .i64 1])) := by
  have c0 := m.c0
  have c1 := m.c1
  have M := Lib.hid m
  have hk := Lib.hid (fun (g r n p : Nat) (w : World) (h : p < n) => knows_yes (g := g) (r := r) (n := n) (p := p) w h)
  have hp2 := Lib.hid hp
  have hq2 := Lib.hid hq
  have HO : Hid (owV (ow f lp (q : Int)) = .tuple #[.int .i64 (o : Int), .bool true]) := Lib.hid (by rw [how]; rfl)
  have d1 : ((o : Int) == (p : Int)) = false := by simp; omega
  have d2 : ((o : Int) != (p : Int)) = true := by simp; omega
  clear m how hp hq
  replace hop := Lib.hid hop
  go_enter Try.func11, Try.ntmps11
  go_wp2_with (go_at_call 22; (with_reducible refine (hk.out _ _ _ _ _ hp2.out).mono ?_); rintro e w2 ⟨rfl, B2⟩; have M2 := Lib.hid (M.out.below B2); replace B2 := Lib.hid B2; have c2 := M2.out.c2; have c3 := M2.out.c3; clear c0 c1)
  go_wp2_with (go_at_call 22; (with_reducible refine (hk.out _ _ _ _ _ hq2.out).mono ?_); clear c2 c3; rintro e w3 ⟨rfl, B3⟩; have M3 := Lib.hid (M2.out.below B3); replace B3 := Lib.hid (We.below_trans B2.out B3); have c2 := M3.out.c2; have c3 := M3.out.c3)
  have ha := Lib.hid (at_own w3 M3.out (q : Int))
  rw [HO.out] at ha
  go_wp2_with (go_at_call 23; (with_reducible refine ha.out.mono ?_); clear ha c2 c3; rintro e w4 ⟨rfl, B4⟩; have M4 := Lib.hid (M3.out.below B4); replace B4 := Lib.hid (We.below_trans B3.out B4))
  go_ret2
  exact ⟨rfl, B4.out⟩
set_option maxHeartbeats 2000000 in
theorem put_out {lo hi lp pg : Nat} {K : Blk} {f : Nat → Int} (w : World) (m : PM w lo hi K lp pg f) (a b : Int) (h : (inB lp a && inB pg b) = false) :
    Calls Try.prog 11 #[.pointer (some ⟨K.G, 0, none⟩), .int .i64 a, .int .i64 b] w (We.Ans w (.tuple #[.int .i64 0, .int .i64 2])) := by
  have c0 := m.c0
  have c1 := m.c1
  have M := Lib.hid m
  clear m
  cases ha : inB lp a
  · have hk := Lib.hid (knows_no (g := K.g1) (r := K.r1) w ha)
    go_enter Try.func11, Try.ntmps11
    go_wp2_with (go_at_call 22; (with_reducible refine hk.out.mono ?_); rintro e w2 ⟨rfl, B2⟩; replace B2 := Lib.hid B2)
    go_ret2
    exact ⟨rfl, B2.out⟩
  · rw [ha, Bool.true_and] at h
    obtain ⟨p, rfl, hp⟩ := of_inB ha
    have hk := Lib.hid (knows_yes (g := K.g1) (r := K.r1) w hp)
    have hn := Lib.hid (fun w => knows_no (g := K.g2) (r := K.r2) w h)
    replace ha := Lib.hid ha
    replace h := Lib.hid h
    clear hp
    go_enter Try.func11, Try.ntmps11
    go_wp2_with (go_at_call 22; (with_reducible refine hk.out.mono ?_); rintro e w2 ⟨rfl, B2⟩; have M2 := Lib.hid (M.out.below B2); replace B2 := Lib.hid B2; have c2 := M2.out.c2; have c3 := M2.out.c3; clear c0 c1)
    go_wp2_with (go_at_call 22; (with_reducible refine (hn.out _).mono ?_); clear c2 c3; rintro e w3 ⟨rfl, B3⟩; replace B3 := Lib.hid (We.below_trans B2.out B3))
    go_ret2
    exact ⟨rfl, B3.out⟩
/-- PUT, whatever is put -/
theorem put_any {lo hi lp pg : Nat} {K : Blk} {f : Nat → Int} (w : World) (m : PM w lo hi K lp pg f) (a b : Int) :
    Calls Try.prog 11 #[.pointer (some ⟨K.G, 0, none⟩), .int .i64 a, .int .i64 b] w fun e w' => e = .returned (putV (putM lp pg f a b)) ∧ Cl.Keeps (Out lo hi) w w' ∧ PM w' lo hi K lp pg (putM lp pg f a b).2.2 := by
  cases hin : (inB lp a && inB pg b)
  · have e : putM lp pg f a b = (0, 2, f) := by unfold putM; rw [hin]; rfl
    rw [e]
    exact (put_out w m a b hin).mono fun _ w' ⟨h1, h2⟩ => ⟨h1, Cl.Keeps.of_below h2, m.below h2⟩
  · have hin2 := hin
    rw [Bool.and_eq_true] at hin2
    obtain ⟨p, rfl, hp⟩ := of_inB hin2.1
    obtain ⟨q, rfl, hq⟩ := of_inB hin2.2
    have hfin := m.fine p hp
    have core : (ow f lp (q : Int) = none ∨ (ow f lp (q : Int) = some p ∧ f p = (q : Int))) → putM lp pg f (p : Int) (q : Int) = (if f p = (q : Int) then -1 else f p, 0, lay f (p : Int) (q : Int)) := fun h => by
      unfold putM
      rw [hin]
      rcases h with h | ⟨h, h2⟩ <;> rw [h] <;> simp
    have hZ : (if (!(decide (0 ≤ f p)) || ((if 0 ≤ f p then f p else 0) == (q : Int))) = true then -1 else (if 0 ≤ f p then f p else 0)) = if f p = (q : Int) then -1 else f p := by
      by_cases h0 : 0 ≤ f p
      · by_cases h1 : f p = (q : Int)
        · simp [h0, h1]
        · simp [h0, h1]
      · have : f p = -1 := by omega
        have h2 : ¬ ((-1 : Int) = (q : Int)) := by omega
        simp [this, h2]
    cases how : ow f lp (q : Int) with
    | none =>
      rw [core (Or.inl how)]
      have := put_core w m hp hq false (by rw [how]; rfl) (Or.inl how) _ _ _ (drop_f hp) _ rfl _ hZ
      exact this
    | some o =>
      by_cases hop : o = p
      · subst hop
        have h2 := (ow_some how).2.1
        rw [core (Or.inr ⟨how, h2⟩)]
        have := put_core w m hp hq true (by rw [how]; rfl) (Or.inr h2) _ _ _ (drop_f hp) _ rfl _ hZ
        exact this
      · have e : putM lp pg f (p : Int) (q : Int) = (0, 1, f) := by
          unfold putM
          rw [hin, how]
          simp only [if_true]
          rw [if_neg (by omega)]
        rw [e]
        exact (put_own w m hp hq how hop).mono fun _ w' ⟨h1, h2⟩ => ⟨h1, Cl.Keeps.of_below h2, m.below h2⟩
end Go.Proofs.Ytcnnmnjepofomaa.Lm
