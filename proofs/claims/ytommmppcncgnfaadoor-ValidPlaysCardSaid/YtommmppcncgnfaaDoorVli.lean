/- Numbers of bits put and counted; ValidSums walked. -/
import Derived.Test.YtommmppcncgnfaaDoorVlh
namespace Go.Proofs.YtommmppcncgnfaaDoor.Vl
open Go.RowKit Go.Bw
set_option linter.unusedVariables false
set_option linter.unusedSimpArgs false
/-- bit p as told -/
def put (β : Nat → Bool) (p : Nat) (on : Bool) (j : Nat) : Bool := if j = p then on else β j
theorem upd_put {n p : Nat} {β : Nat → Bool} {on : Bool} (hp : p < n) : upd n β (p : Int) on = put β p on := by
  have h1 : inB n (p : Int) = true := by unfold inB; simp; omega
  funext j
  unfold upd put
  by_cases e : j = p
  · subst e; rw [if_pos ⟨h1, rfl⟩, if_pos rfl]
  · rw [if_neg e, if_neg (fun hh => e (by have := hh.2; omega))]
theorem chg_put {n p : Nat} {β : Nat → Bool} {on : Bool} (hp : p < n) : chg n β (p : Int) on = (β p != on) := by
  unfold chg inB; simp [hp]
theorem has_put {n p : Nat} {β : Nat → Bool} (hp : p < n) : hasB n β (p : Int) = β p := by
  unfold hasB inB; simp [hp]
theorem pc_put {β : Nat → Bool} {p : Nat} {on : Bool} : ∀ {k : Nat}, p < k → pc (put β p on) k + (β p).toNat = pc β k + on.toNat
  | 0, h => absurd h (Nat.not_lt_zero _)
  | k + 1, h => by
    rw [pc, pc]
    by_cases e : p = k
    · subst e
      have h1 : pc (put β p on) p = pc β p := pc_congr fun j hj => by unfold put; rw [if_neg (by omega)]
      have h2 : put β p on p = on := by unfold put; rw [if_pos rfl]
      rw [h1, h2]
      cases on <;> cases β p <;> simp
    · have ih := pc_put (β := β) (p := p) (on := on) (k := k) (by omega)
      have h2 : put β p on k = β k := by unfold put; rw [if_neg (fun e2 => e e2.symm)]
      rw [h2]
      omega
theorem pc_split {f g h : Nat → Bool} : ∀ {k : Nat}, (∀ j, j < k → h j = (f j || g j) ∧ (f j && g j) = false) → pc f k + pc g k = pc h k
  | 0, _ => rfl
  | k + 1, e => by
    have ih := pc_split (f := f) (g := g) (h := h) (k := k) fun j hj => e j (by omega)
    obtain ⟨e1, e2⟩ := e k (by omega)
    rw [pc, pc, pc, e1]
    revert e2
    cases f k <;> cases g k <;> simp <;> omega
theorem set_p {g h n : Nat} {β : Nat → Bool} {w0 : World} (w : World) (hB : Below w0.heap.size w0 w) (hh : w0.heap.size ≤ h) (b : Bt w g h n β) {p : Nat} (hp : p < n) (i : Int) (hi : i = (p : Int)) (on r : Bool) (hr : (β p != on) = r) :
    Calls Tryd.prog 9 #[.pointer (some ⟨g, 0, none⟩), .int .i64 i, .bool on] w fun e w' => e = .returned (.bool r) ∧ Below w0.heap.size w0 w' ∧ Cl.Keeps (fun q => q ≠ h) w w' ∧ Bt w' g h n (put β p on) := by
  subst hi
  exact set_lit w hB hh b _ on r (by rw [chg_put hp, hr]) _ (upd_put hp)
theorem has_p {g h n : Nat} {β : Nat → Bool} (w : World) (b : Bt w g h n β) {p : Nat} (hp : p < n) (i : Int) (hi : i = (p : Int)) (r : Bool) (hr : β p = r) :
    Calls Tryd.prog 10 #[.pointer (some ⟨g, 0, none⟩), .int .i64 i] w (We.Ans w (.bool r)) := by
  subst hi
  exact has_lit w b _ r (by rw [has_put hp, hr])
theorem put_put (β : Nat → Bool) (p : Nat) (on : Bool) : put (put β p on) p (β p) = β := by
  funext j
  unfold put
  by_cases e : j = p
  · subst e; rw [if_pos rfl]
  · rw [if_neg e, if_neg e]
theorem put_self (β : Nat → Bool) (p : Nat) : put β p (β p) = β := by
  funext j
  unfold put
  by_cases e : j = p
  · subst e; rw [if_pos rfl]
  · rw [if_neg e]
/-- slices of 16-bit words by functions -/
def uF (x : Nat → Nat) (i : Nat) : Value := .int .u16 ((x i : Nat) : Int)
set_option maxHeartbeats 4000000 in
set_option maxRecDepth 20000 in
theorem sums_law (A : Option Addr) (n c : Nat) (x : Nat → Nat) (hx : ∀ j, x j < 65536) (N C : Nat) (hN : N < 65536) (hC : C < 65536) (w : World) (hTb : Tb w) (hs : We.SF w w.heap.size A n (uF x)) :
    Calls Tryd.prog 5 #[.slice A n c, .int .u16 (N : Int), .int .u16 (C : Int)] w (We.Ans w (.bool true)) := by
  have ha := Lib.hid (awake_any w hTb)
  replace hTb := Lib.hid hTb
  have H := Lib.hid hs
  clear hs
  by_cases h300 : (300 : Int) < (n : Int)
  · go_enter Tryd.func5, Tryd.ntmps5
    go_wp2_with (go_at_call 7; (with_reducible refine ha.out.mono ?_); rintro e w1 ⟨rfl, hB1⟩; replace hB1 := Lib.hid hB1)
    go_ret
    exact ⟨rfl, hB1.out⟩
  obtain ⟨k, hk⟩ : ∃ k, N % 1000 = k := ⟨_, rfl⟩
  have f1 : (N : Int) % 1000 = (k : Int) := by omega
  obtain ⟨q, hq⟩ : ∃ q, C % 1001 = q := ⟨_, rfl⟩
  have f2 : (C : Int) % 1001 = (q : Int) := by omega
  have hkl : k < 1000 := by omega
  have hql : q < 1001 := by omega
  clear hk hq
  have hnew := Lib.hid fun w => new_any (k : Int) k (by omega) w
  go_enter Tryd.func5, Tryd.ntmps5
  go_wp2_with (first
    | (go_at_call 7; (with_reducible refine ha.out.mono ?_); rintro e w1 ⟨rfl, hB1⟩; replace hB1 := Lib.hid hB1)
    | (go_at_call 8; (with_reducible refine (hnew.out w1).mono ?_); rintro e w2 ⟨g, h, rfl, hB2, hg, hh, b2⟩; replace hh := Lib.hid (Nat.le_trans hB1.out.size hh); replace b2 := Lib.hid b2; replace hB2 := Lib.hid (We.below_trans hB1.out hB2); clear hg))
  clear ha hB1 hnew
  go_loopw [9] (fun p wr => ∃ (i : Nat) (β : Nat → Bool), p = .int .i64 (i : Int) ∧ i ≤ n ∧ Hid (Bt wr g h k β) ∧ Hid (Below w.heap.size w wr)) (fun p _ => n - (intOf p).toNat)
  case atStart => exact ⟨0, _, rfl, Nat.zero_le _, b2, hB2⟩
  case round =>
    obtain ⟨i, β, rfl, hi, b, hB⟩ := hrel
    clear b2 hB2
    by_cases hin : i < n
    · obtain ⟨a, rfl, hab, c0⟩ := (H.out.below hB.out).at_ hin
      have hinI : (i : Int) < (n : Int) := by omega
      have d1 : decide ((i : Int) < (n : Int)) = true := decide_eq_true hinI
      go_wp2_with fail
      refine Cl.region_way (fun _ => True) 13 [(0, .r), (1, .r), (2, .r), (3, .r), (4, .r), (5, .r), (6, .r), (7, .r), (8, .r), (9, .r), (10, .r), (11, .r), (12, .r), (13, .z)] (by kernel_rfl) (by kernel_rfl) ?_
      intro w3 hk3
      have hB3 := Lib.hid (We.below_trans hB.out hk3.below)
      have b3 := Lib.hid (b.out.below hk3.below)
      obtain ⟨X, hX⟩ : ∃ X, x i = X := ⟨_, rfl⟩
      have hXl := hx i
      rw [hX] at hXl
      have t0 : ∀ y : Cl.Since (fun _ => True) w3, y.w.cell? (a.add i) = some (.int .u16 (X : Int)) := fun y => by
        have e := ((H.out.below (We.below_trans hB3.out y.keeps.below)).at_ hin)
        obtain ⟨a', ha', _, hc⟩ := e
        cases ha'
        rw [hc]; unfold uF; rw [hX]
      obtain ⟨r, hr⟩ : ∃ r, X % 1000 = r := ⟨_, rfl⟩
      have f3 : (X : Int) % 1000 = (r : Int) := by omega
      obtain ⟨on, hon⟩ : ∃ on, (bits .and .u16 (X : Int) 1 == 0) = on := ⟨_, rfl⟩
      have hset := Lib.hid (set_any w3 b3.out (r : Int) on)
      clear hX hr c0 hk3 b hB
      iterate 13 (refine Cl.way_r rfl ?_; go_big_quiet_step (fail); refine wpQuiet_nil ?_)
      refine Cl.way_z rfl ?_
      go_wp2_with (go_at_call 9; (with_reducible refine hset.out.mono ?_); rintro e w4 ⟨rfl, hK, b4⟩; have hB4 := Lib.hid (below_keeps hB3.out hh.out hK); replace b4 := Lib.hid b4; clear hK hset)
      refine Cl.Calm.normal ?_
      go_wp2_with fail
      go_roundw
      case rel => exact ⟨i + 1, _, by go_num, by omega, b4, hB4⟩
      case measure => simp [intOf]; omega
    · obtain rfl : i = n := by omega
      have d1 : decide ((i : Int) < (i : Int)) = false := decide_eq_false (by omega)
      have hcn := Lib.hid fun w (b : Bt w g h k β) => count_any w b
      obtain ⟨R, hR⟩ : ∃ R, Hid (pc (sel β 0 k) k = R) := ⟨_, Lib.hid rfl⟩
      obtain ⟨R1, hR1⟩ : ∃ R, Hid (pc (sel β 0 q) k = R) := ⟨_, Lib.hid rfl⟩
      obtain ⟨R2, hR2⟩ : ∃ R, Hid (pc (sel β q (k + 5)) k = R) := ⟨_, Lib.hid rfl⟩
      have hsum : R1 + R2 = R := by
        rw [← hR.out, ← hR1.out, ← hR2.out]
        refine pc_split fun j hj => ?_
        unfold sel
        rw [decide_eq_true (show (0 : Int) ≤ (j : Int) by omega), decide_eq_true (show (j : Int) < (k : Int) by omega), decide_eq_true (show (j : Int) < (k : Int) + 5 by omega)]
        by_cases hjq : j < q
        · rw [decide_eq_true (show (j : Int) < (q : Int) by omega), decide_eq_false (show ¬ (q : Int) ≤ (j : Int) by omega)]
          cases β j <;> simp
        · rw [decide_eq_false (show ¬ (j : Int) < (q : Int) by omega), decide_eq_true (show (q : Int) ≤ (j : Int) by omega)]
          cases β j <;> simp
      have hRl : R ≤ 1000 := by rw [← hR.out]; exact Nat.le_trans (pc_le _ _) (by omega)
      have hsumI : (R1 : Int) + (R2 : Int) = (R : Int) := by omega
      have c0 := Lib.hid (count_lit wr b.out 0 k (by decide) (R : Int) (by rw [hR.out]))
      have c1 := Lib.hid (count_lit wr b.out 0 q (by decide) (R1 : Int) (by rw [hR1.out]))
      have c2 := Lib.hid (count_lit wr b.out q ((k : Int) + 5) (by omega) (R2 : Int) (by rw [hR2.out]))
      have c3 := Lib.hid (count_lit wr b.out 5 5 (by decide) 0 (by
        rw [pc_zero fun j hj => ?_]; rfl
        unfold sel
        by_cases h5 : (5 : Int) ≤ (j : Int)
        · rw [decide_eq_false (show ¬ (j : Int) < 5 by omega)]; simp
        · rw [decide_eq_false h5]; simp))
      have c4 := Lib.hid (count_lit wr b.out 9 3 (by decide) 0 (by
        rw [pc_zero fun j hj => ?_]; rfl
        unfold sel
        by_cases h5 : (9 : Int) ≤ (j : Int)
        · rw [decide_eq_false (show ¬ (j : Int) < 3 by omega)]; simp
        · rw [decide_eq_false h5]; simp))
      clear hcn hR1 hR2 hsum
      go_wp2_with (first
        | (go_at_call 11; (with_reducible refine c0.out.mono ?_); rintro e w4 ⟨rfl, rfl⟩)
        | (go_at_call 11; (with_reducible refine c1.out.mono ?_); rintro e w4 ⟨rfl, rfl⟩)
        | (go_at_call 11; (with_reducible refine c2.out.mono ?_); rintro e w4 ⟨rfl, rfl⟩)
        | (go_at_call 11; (with_reducible refine c3.out.mono ?_); rintro e w4 ⟨rfl, rfl⟩)
        | (go_at_call 11; (with_reducible refine c4.out.mono ?_); rintro e w4 ⟨rfl, rfl⟩))
      clear c0 c1 c2 c3 c4
      have b0 := b
      have hB0 := hB
      clear b hB
      go_loopw [12] (fun p wq => ∃ j : Nat, p = .int .i64 (j : Int) ∧ j ≤ k + 7 ∧ Hid (Bt wq g h k β) ∧ Hid (Below w.heap.size w wq)) (fun p _ => k - (intOf p).toNat)
      case atStart => exact ⟨0, rfl, Nat.zero_le _, b0, hB0⟩
      case round =>
        obtain ⟨j, rfl, hj, b, hB⟩ := hrel
        rename_i wq
        clear b0 hB0
        by_cases hjk : j < k
        · have d2 : decide ((j : Int) < (k : Int)) = true := decide_eq_true (by omega)
          obtain ⟨v, hv⟩ : ∃ v, β j = v := ⟨_, rfl⟩
          obtain ⟨v', hv'⟩ : ∃ v', (!v) = v' := ⟨_, rfl⟩
          have hne : (v != v') = true := by rw [← hv']; cases v <;> rfl
          have hne' : (v' != v) = true := by rw [← hv']; cases v <;> rfl
          have hhas := Lib.hid (has_p wr b.out hjk (j : Int) rfl v hv)
          have hpp : put (put β j v') j v = β := by rw [← hv]; exact put_put β j v'
          have hps : put β j v = β := by rw [← hv]; exact put_self β j
          have hpj : put β j v' j = v' := by unfold put; rw [if_pos rfl]
          replace hne := Lib.hid hne
          replace hne' := Lib.hid hne'
          replace hv := Lib.hid hv
          replace hpp := Lib.hid hpp
          replace hps := Lib.hid hps
          replace hpj := Lib.hid hpj
          go_wp2_with (go_at_call 10; (with_reducible refine hhas.out.mono ?_); rintro e w5 ⟨rfl, hb⟩; have b5 := Lib.hid (b.out.below hb); have hB5 := Lib.hid (We.below_trans hB.out hb); clear hb b hB hhas)
          go_wp2_with (go_at_call 9; (have hc := Lib.hid (set_p w5 hB5.out hh.out b5.out hjk (j : Int) rfl v' true (by rw [hv.out, hne.out]))); (with_reducible refine hc.out.mono ?_); clear hc; rintro e w6 ⟨rfl, hB6, hK, b6⟩; replace hB6 := Lib.hid hB6; replace b6 := Lib.hid b6; clear hK b5 hB5)
          go_wp2_with (go_at_call 9; (have hc := Lib.hid (set_p w6 hB6.out hh.out b6.out hjk (j : Int) rfl v true (by rw [hpj.out, hne'.out]))); (with_reducible refine hc.out.mono ?_); clear hc; rintro e w7 ⟨rfl, hB7, hK, b7⟩; rw [hpp.out] at b7; replace hB7 := Lib.hid hB7; replace b7 := Lib.hid b7; clear hK b6 hB6)
          go_wp2_with (go_at_call 9; (have hc := Lib.hid (set_p w7 hB7.out hh.out b7.out hjk (j : Int) rfl v false (by rw [hv.out]; cases v <;> rfl))); (with_reducible refine hc.out.mono ?_); clear hc; rintro e w8 ⟨rfl, hB8, hK, b8⟩; rw [hps.out] at b8; replace hB8 := Lib.hid hB8; replace b8 := Lib.hid b8; clear hK b7 hB7)
          go_roundw
          case rel => exact ⟨j + 7, by go_num, by omega, b8, hB8⟩
          case measure => simp [intOf]; omega
        · have d2 : decide ((j : Int) < (k : Int)) = false := decide_eq_false (by omega)
          have c0 := Lib.hid (count_lit wr b.out 0 k (by decide) (R : Int) (by rw [hR.out]))
          go_wp2_with (go_at_call 11; (with_reducible refine c0.out.mono ?_); rintro e w4 ⟨rfl, rfl⟩)
          go_ret
          exact ⟨rfl, hB.out⟩
theorem u16_nat {a : Int} (h : (Lit.int .u16 a).wf = true) : ∃ n : Nat, n < 65536 ∧ a = (n : Int) := by
  have hr : 0 ≤ a ∧ a < 65536 := by simp [Lit.wf, IntKind.min, IntKind.max, IntKind.signed, IntKind.bits] at h; omega
  exact ⟨a.toNat, by omega, (Int.toNat_of_nonneg hr.1).symm⟩
theorem uF_of {x0 : Nat → Int} (f0 : ∀ j, (Lit.int .u16 (x0 j)).wf = true) : ∃ x : Nat → Nat, (∀ j, x j < 65536) ∧ (fun j => Value.int .u16 (x0 j)) = uF x := by
  refine ⟨fun j => (x0 j).toNat, fun j => ?_, funext fun j => ?_⟩
  · obtain ⟨n, h1, h2⟩ := u16_nat (f0 j)
    show (x0 j).toNat < 65536
    omega
  · obtain ⟨n, h1, h2⟩ := u16_nat (f0 j)
    show Value.int .u16 (x0 j) = .int .u16 (((x0 j).toNat : Nat) : Int)
    rw [h2]; rfl
theorem sums_row (A0 : Option Addr) (n0 : Nat) (x0 : Nat → Int) (c0 : Nat) (l0 : n0 ≤ c0) (m0 : c0 ≤ maxLen) (f0 : ∀ j, (Lit.int .u16 (x0 j)).wf = true) (a1 : Int) (w1 : (Lit.int .u16 a1).wf = true) (a2 : Int) (w2 : (Lit.int .u16 a2).wf = true) (w : World) (hTb : Tb w) (s0 : We.SF w w.heap.size A0 n0 (fun j => .int .u16 (x0 j))) :
    Calls Tryd.prog 5 #[.slice A0 n0 c0, .int .u16 a1, .int .u16 a2] w (We.Ans w (.bool true)) := by
  obtain ⟨x, hx, e⟩ := uF_of f0
  rw [e] at s0
  obtain ⟨N, hN, rfl⟩ := u16_nat w1
  obtain ⟨C, hC, rfl⟩ := u16_nat w2
  exact sums_law A0 n0 c0 x hx N C hN hC w hTb s0
end Go.Proofs.YtommmppcncgnfaaDoor.Vl
