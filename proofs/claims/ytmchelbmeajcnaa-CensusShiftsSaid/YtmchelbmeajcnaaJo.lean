/- CensusShifts: a page all of whose cells move by one step less than halfway. -/
import Derived.Test.YtmchelbmeajcnaaJk
import Derived.Test.YtmchelbmeajcnaaMw
namespace Go.Proofs.Ytmchelbmeajcnaa
open Go.RowKit Go.Gf Go.Fl
set_option linter.unusedVariables false
set_option linter.unusedSimpArgs false
set_option maxRecDepth 20000
attribute [local go_sem ↓] exec_load_tb Cl.quiet_since
attribute [local go_sem] tbAt_ptr tbIn_ptr run_store_cpx

/-- where the points lie that all moved alike -/
def mvZ (S : List Nat) (da db : Int) (j : Nat) : Int × Int := (ofQ (at_ S j / 32) + da, ofQ (at_ S j) + db)
theorem levQ_mv (k : Nat) {d : Int} (h : -3 ≤ d ∧ d ≤ 3) : levQ (ofQ k + d) = k % 32 := by unfold levQ ofQ; omega
theorem mv_off {S : List Nat} {da db : Int} (hS : ∀ y ∈ S, y < 1024) (ha : -3 ≤ da ∧ da ≤ 3) (hb : -3 ≤ db ∧ db ≤ 3) (j : Nat) : offZ S (mvZ S da db) j = false := by
  have h1 : slcQ (mvZ S da db j).1 (mvZ S da db j).2 = at_ S j := by
    unfold slcQ mvZ
    dsimp only
    rw [levQ_mv _ ha, levQ_mv _ hb]
    have := at_lt' hS j
    omega
  unfold offZ
  rw [h1]
  simp only [ne_eq, not_true_eq_false, decide_false, Bool.or_false, decide_eq_false_iff_not]
  unfold mvZ
  rw [Prod.mk.injEq]
  rintro ⟨h, _⟩
  unfold ofQ at h
  omega
theorem mv_dQ {S : List Nat} {da db : Int} (ha : -3 ≤ da ∧ da ≤ 3) (hb : -3 ≤ db ∧ db ≤ 3) (j : Nat) : dQ (mvZ S da db j) = max da.natAbs db.natAbs := by
  unfold dQ mvZ
  dsimp only
  rw [levQ_mv _ ha, levQ_mv _ hb]
  unfold ofQ
  omega
theorem mxF_const (a : Nat) : ∀ n, 0 < n → mxF (fun _ => a) n = a
  | 1, _ => by show max 0 a = a; omega
  | n + 2, _ => by
    show max (mxF (fun _ => a) (n + 1)) a = a
    rw [mxF_const a (n + 1) (by omega)]
    omega
theorem mv_cnt {S : List Nat} {da db : Int} (hS : ∀ y ∈ S, y < 1024) (ha : -3 ≤ da ∧ da ≤ 3) (hb : -3 ≤ db ∧ db ≤ 3) (W n j : Nat) : cntZ S (mvZ S da db) W n j = 0 := bc_zero fun t _ => mv_off hS ha hb _
theorem mv_sum (S : List Nat) (da db : Int) (n : Nat) : smI (sfR S (mvZ S da db)) n = da * n ∧ smI (sfI S (mvZ S da db)) n = db * n := by
  constructor
  · rw [← smI_const]
    exact smI_congr fun i _ => by unfold sfR mvZ; dsimp only; omega
  · rw [← smI_const]
    exact smI_congr fun i _ => by unfold sfI mvZ; dsimp only; omega
/-- the first i points moved -/
def mvX (S : List Nat) (FX FY : Nat → Nat) (i j : Nat) : Nat × Nat := if j < i then (FX (at_ S j), FY (at_ S j)) else ptB (at_ S j)
theorem mvX_at {S : List Nat} {FX FY : Nat → Nat} {i : Nat} : mvX S FX FY i i = ptB (at_ S i) := by unfold mvX; rw [if_neg (Nat.lt_irrefl _)]
theorem mvX_step {S : List Nat} {FX FY : Nat → Nat} {i : Nat} (j : Nat) : (if j = i then cpx (FX (at_ S i), FY (at_ S i)) else cpx (mvX S FX FY i j)) = cpx (mvX S FX FY (i + 1) j) := by
  unfold mvX
  by_cases e : j = i
  · rw [if_pos e, if_pos (by omega), e]
  · rw [if_neg e]
    by_cases h : j < i
    · rw [if_pos h, if_pos (by omega)]
    · rw [if_neg h, if_neg (by omega)]
theorem run_negF (x y : Nat) (h : Op.negFloat .f64 x = y) (w : World) : (Op.unary UnOp.neg (Value.float FloatKind.f64 x)).run Try.prog w = .ok (.float .f64 y) w := by simp [Op.unary, h]
theorem q_half : Qt 4602678819172646912 2 := by
  have h : Is 4602678819172646912 ((2 : Int) * pw (-2)) := ⟨false, 4503599627370496, -53, by decide +kernel, by decide +kernel⟩
  exact h
theorem q_mhalf : Qt 13826050856027422720 (-2) := by
  have h : Is 13826050856027422720 ((-2 : Int) * pw (-2)) := ⟨true, 4503599627370496, -53, by decide +kernel, by decide +kernel⟩
  exact h
theorem q_quart : Qt 4598175219545276416 1 := by
  have h : Is 4598175219545276416 ((1 : Int) * pw (-2)) := ⟨false, 4503599627370496, -54, by decide +kernel, by decide +kernel⟩
  exact h
theorem q_mquart : Qt 13821547256400052224 (-1) := by
  have h : Is 13821547256400052224 ((-1 : Int) * pw (-2)) := ⟨true, 4503599627370496, -54, by decide +kernel, by decide +kernel⟩
  exact h
theorem q_three : Qt 4604930618986332160 3 := by
  have h : Is 4604930618986332160 ((3 : Int) * pw (-2)) := ⟨false, 6755399441055744, -53, by decide +kernel, by decide +kernel⟩
  exact h
theorem q_mthree : Qt 13828302655841107968 (-3) := by
  have h : Is 13828302655841107968 ((-3 : Int) * pw (-2)) := ⟨true, 6755399441055744, -53, by decide +kernel, by decide +kernel⟩
  exact h
set_option maxHeartbeats 32000000 in
theorem shifts_law (B P W K : Int) (wB : (Lit.int .i64 B).wf = true) (wP : (Lit.int .i64 P).wf = true) (wW : (Lit.int .i64 W).wf = true) (wK : (Lit.int .i64 K).wf = true)
    (A : Option Addr) (d : List Nat) (c : Nat) (hl : d.length ≤ c) (hc : c ≤ maxLen) (by_ : Bool) (w : World) (hs : Sb w w.heap.size A d) :
    Calls Try.prog 10 #[.agg #[.int .i64 B, .int .i64 P, .int .i64 W, .int .i64 K], .slice A d.length c, .bool by_] w fun e w' => e = .returned (.bool true) ∧ Below w.heap.size w w' := by
  have H := Lib.hid hs
  have hz := zero27
  have hdm : d.length ≤ 9223372036854775807 := by unfold maxLen at hc; omega
  clear hc hs
  obtain ⟨wb, hwb⟩ : ∃ wb, wb = w.alloc (.cells #[.int .i64 B, .int .i64 P, .int .i64 W, .int .i64 K] 23) := ⟨_, rfl⟩
  have hbb : Below w.heap.size w wb := by rw [hwb]; exact Ge.below_alloc w _
  have hX : Ge.Box wb w.heap.size B P W K := by rw [hwb]; exact Ge.Box.new w B P W K
  go_enter Try.func10, Try.ntmps10
  go_wp2_with fail
  rw [← hwb]
  clear hwb
  refine (cawake_any wb).mono ?_
  rintro e w1 ⟨rfl, hb1⟩
  have hX1 := hX.keep hb1
  have hbw1 := hbb.trans (hb1.mono hbb.size)
  clear hX hbb hb1
  obtain ⟨x1, x2, x3, x4, x5⟩ := id hX1
  have hsm := small_any B P W K w1
  have hmg : Hid (∀ w', Calls Try.prog 21 #[.agg #[.int .i64 B, .int .i64 P, .int .i64 W, .int .i64 K]] w' (Ge.Ans w' (.bool (Ge.mayG B P W K)))) := fun w' => Ge.refmay_any B P W K w'
  cases hSM : smB B P W K
  · rw [hSM] at hsm
    replace hsm := Lib.hid hsm
    go_wp2_with (go_at_call 14; (with_reducible refine hsm.out.mono ?_); rintro e w2 ⟨rfl, hb2⟩; have hbw2 := hbw1.trans (hb2.mono hbw1.size); have hX2 := hX1.keep hb2; obtain ⟨y1, y2, y3, y4, y5⟩ := id hX2; have hgm := Lib.hid (hmg.out w2))
    go_ret
    exact ⟨rfl, hbw2⟩
  rw [hSM] at hsm
  replace hsm := Lib.hid hsm
  cases hM : Ge.mayG B P W K
  · rw [hM] at hmg
    go_wp2_with (first | (go_at_call 14; (with_reducible refine hsm.out.mono ?_); rintro e w2 ⟨rfl, hb2⟩; have hbw2 := hbw1.trans (hb2.mono hbw1.size); have hX2 := hX1.keep hb2; obtain ⟨y1, y2, y3, y4, y5⟩ := id hX2; have hgm := Lib.hid (hmg.out w2)) | (go_at_call 21; (with_reducible refine hgm.out.mono ?_); rintro e w3 ⟨rfl, hb3⟩; have hbw3 := hbw2.trans (hb3.mono hbw2.size); have hX3 := hX2.keep hb3; obtain ⟨m1, m2, m3, m4, m5⟩ := id hX3))
    go_ret
    exact ⟨rfl, hbw3⟩
  rw [hM] at hmg
  by_cases hd1 : d.length ≤ 1000
  rotate_left
  · have hdd : decide ((1000 : Int) < (d.length : Int)) = true := decide_eq_true (by omega)
    go_wp2_with (first | (go_at_call 14; (with_reducible refine hsm.out.mono ?_); rintro e w2 ⟨rfl, hb2⟩; have hbw2 := hbw1.trans (hb2.mono hbw1.size); have hX2 := hX1.keep hb2; obtain ⟨y1, y2, y3, y4, y5⟩ := id hX2; have hgm := Lib.hid (hmg.out w2)) | (go_at_call 21; (with_reducible refine hgm.out.mono ?_); rintro e w3 ⟨rfl, hb3⟩; have hbw3 := hbw2.trans (hb3.mono hbw2.size); have hX3 := hX2.keep hb3; obtain ⟨m1, m2, m3, m4, m5⟩ := id hX3))
    go_ret
    exact ⟨rfl, hbw3⟩
  have hdd : decide ((1000 : Int) < (d.length : Int)) = false := decide_eq_false (by omega)
  obtain ⟨W', K', N, rfl, rfl, hN, hW1, hW4, hK1, hK64, h8, h256, hsg, hcg⟩ := mayG_of hM
  obtain ⟨n, hn⟩ : ∃ n, 10 * (N - 8) / 8 = n := ⟨_, rfl⟩
  have hn0 : n ≤ 1000 := by omega
  have hsz : Hid (∀ w', Calls Try.prog 22 #[.agg #[.int .i64 B, .int .i64 P, .int .i64 (W' : Int), .int .i64 (K' : Int)]] w' (Ge.Ans w' (.int .i64 (n : Int)))) := fun w' => by
    have := Ge.refsize_any B P W' K' w'
    rwa [hsg, hn] at this
  have hmk : ∀ w' : World, (Instr.makeSlice 26 (.int .i64 (n : Int)) (.int .i64 (n : Int))).run Try.prog w' = .ok (.slice (some ⟨w'.heap.size, 0, none⟩) n n) (w'.alloc (.cells (madeCells #[.int .u8 0] n) 5)) :=
    run_make_row' (P := Try.prog) 26 5 (.int .u8 0) 1 Try.underlying26 info5 rfl .i64 .i64 n (by omega) (by omega)
  go_wp2_with (first
    | (go_at_call 14; (with_reducible refine hsm.out.mono ?_); rintro e w2 ⟨rfl, hb2⟩; have hbw2 := hbw1.trans (hb2.mono hbw1.size); have hX2 := hX1.keep hb2; obtain ⟨y1, y2, y3, y4, y5⟩ := id hX2; have hgm := Lib.hid (hmg.out w2))
    | (go_at_call 21; (with_reducible refine hgm.out.mono ?_); rintro e w3 ⟨rfl, hb3⟩; have hbw3 := hbw2.trans (hb3.mono hbw2.size); have hX3 := hX2.keep hb3; have hs3 := Lib.hid (hsz.out w3); obtain ⟨m1, m2, m3, m4, m5⟩ := id hX3)
    | (go_at_call 22; (with_reducible refine hs3.out.mono ?_); rintro e w4 ⟨rfl, hb4⟩; have hX4 := hX3.keep hb4; have hbw4 := hbw3.trans (hb4.mono hbw3.size); have hA4 := ab_new w4 n; have hB4 := Ge.below_alloc w4 (.cells (madeCells #[.int .u8 0] n) 5))
    | (refine wpList_copy_bytesG rfl (.tmp 40) (.tmp 41) rfl w4.heap.size n rfl A d c rfl hA4 ((H.out.far hbw4).far hB4) ?_))
  intro w5 hA5 hg5
  have hb5 := below_grown hB4 hg5 (Nat.le_refl _)
  have hX5 := hX4.keep hb5
  have hbw5 := hbw4.trans (hb5.mono hbw4.size)
  generalize w4.heap.size = gb at *
  clear hX1 hbw1 hX2 hbw2 hX3 hbw3 hX4 hbw4 x1 x2 x3 x4 x5 y1 y2 y3 y4 y5 m1 m2 m3 m4 m5 hb2 hb3 hb4 hgm hs3 hsm hmg hsz hdd hmk hA4 hB4 hg5 hb5
  obtain ⟨D, hD⟩ : ∃ D, rm n (at_ d) = D := ⟨_, rfl⟩
  have hDl : D.length = n := by rw [← hD, rm_len]
  have hDb : ∀ x ∈ D, x < 256 := by rw [← hD]; exact rm_mem fun j _ => at_lt H.out.1 (by decide)
  rw [hD] at hA5
  clear hD
  have hB : mkB 1 0 3 = true := by decide
  have hE := mkE_ok (n := n) hM hB (by rw [hsg, hn])
  obtain ⟨S, hS⟩ : ∃ S, mkW B P (W' : Int) (K' : Int) 1 0 3 D = S := ⟨_, rfl⟩
  obtain ⟨k1, l1, q1, e1, e2, e3, hsv, hSe⟩ := mk_okN hN hDb (by rw [hDl]; exact hE)
  rw [hS] at hSe
  obtain rfl : k1 = 1 := by omega
  obtain rfl : l1 = 0 := by omega
  obtain rfl : q1 = 3 := by omega
  clear e1 e2 e3 hB
  have hL1 : (sayL N 1 0 3 D).length = W' * K' := by rw [say_len (N := N) hsv.2.2.2.2.1 (by omega), hN]
  have hLb : ∀ y ∈ sayL N 1 0 3 D, y < 1024 := say_bd hsv.2.1 hsv.2.2.1 hsv.2.2.2.1
  have hSb : ∀ y ∈ S, y < 1024 := by rw [hSe]; exact pageL_bd hL1 hW1 hLb
  obtain ⟨L, hLe⟩ : ∃ L, W' * (K' + 16) = L := ⟨_, rfl⟩
  have hlen : S.length = L := by rw [hSe, ← hLe]; exact pageL_len hL1 hW1
  have hL4 : L ≤ 320 := by rw [← hLe]; exact Nat.mul_le_mul hW4 (show K' + 16 ≤ 80 by omega)
  have hL17 : 17 ≤ L := by rw [← hLe]; exact Nat.mul_le_mul hW1 (show 17 ≤ K' + 16 by omega)
  have hne : S ≠ [] := by intro e; rw [e] at hlen; simp at hlen; omega
  have hrm := make_rf (B := B) (P := P) (W := W') (K := K') (k := 1) (l := 0) (q := 3) (c := n) (hA5.sb hDb) (by rw [hDl]; omega)
  rw [hDl, hE, hS] at hrm
  replace hrm := Lib.hid hrm
  have hsp0 := Lib.hid hL1
  obtain ⟨s0, hs0⟩ : ∃ s0, sayL N 1 0 3 D = s0 := ⟨_, rfl⟩
  rw [hs0] at hSe hL1 hLb hsp0
  have HSH : Hid (∀ (da db : Int), (-3 ≤ da ∧ da ≤ 3) → (-3 ≤ db ∧ db ≤ 3) → ∀ (cs : List Nat) (hcs : Tab cs) (A : Option Addr) (c : Nat) (xs : List (Nat × Nat)) (w : World), xs.length = L → Quart xs 2000 (mvZ S da db) → Cx w w.heap.size A xs → Hid (Calls Try.prog 27 #[.agg (cells cs), .agg #[.int .i64 B, .int .i64 P, .int .i64 (W' : Int), .int .i64 (K' : Int)], .slice A L c] w
      fun e w' => (∃ rx ry, e = .returned (.tuple #[.complex .f64 rx ry, .int .i64 0]) ∧ Qt rx (da * L) ∧ Qt ry (db * L)) ∧ Below w.heap.size w w')) := fun da db ha hb cs hcs A c xs w hx hq hs => by
    have h := shift_Z (S := s0) (n := L) (c := c) (Z := mvZ S da db) hcs hM ⟨hW1, hW4⟩ ⟨hK1, hK64⟩ hL1 hLb hLe.symm hx hq hs (fun j _ => by rw [← hSe, mv_cnt hSb ha hb]; omega)
    rw [← hSe, (mv_sum S da db L).1, (mv_sum S da db L).2] at h
    exact h
  have HOF : Hid (∀ (da db : Int), (-3 ≤ da ∧ da ≤ 3) → (-3 ≤ db ∧ db ≤ 3) → ∀ (cs : List Nat) (hcs : Tab cs) (A : Option Addr) (c : Nat) (xs : List (Nat × Nat)) (w : World), xs.length = L → Quart xs 2000 (mvZ S da db) → Cx w w.heap.size A xs → Hid (Calls Try.prog 28 #[.agg (cells cs), .agg #[.int .i64 B, .int .i64 P, .int .i64 (W' : Int), .int .i64 (K' : Int)], .slice A L c] w
      fun e w' => ∃ g f, e = .returned (.tuple #[.slice (some ⟨g, 0, none⟩) W' W', .int .i64 0]) ∧ w.heap.size ≤ g ∧ RowsR w' g W' f (fun _ => 0) (fun _ => true) W' ∧ Below w.heap.size w w')) := fun da db ha hb cs hcs A c xs w hx hq hs => by
    have h := of_Z (S := s0) (n := L) (c := c) (Z := mvZ S da db) hcs hM ⟨hW1, hW4⟩ ⟨hK1, hK64⟩ hL1 hLb hLe.symm hx hq hs (fun j _ => by rw [← hSe, mv_cnt hSb ha hb]; omega)
    refine h.mono ?_
    rintro e w' ⟨g, f, he, hg, hR, hb'⟩
    refine ⟨g, f, he, hg, ⟨hR.pre, fun j hj => ?_⟩, hb'⟩
    obtain ⟨h1, h2⟩ := hR.each j hj
    rw [← hSe, mv_cnt hSb ha hb] at h1
    exact ⟨h1, h2⟩
  obtain ⟨x1, x2, x3, x4, x5⟩ := id hX5
  replace hDl := Lib.hid hDl
  replace hlen := Lib.hid hlen
  replace hSb := Lib.hid hSb
  have hbw5' := Lib.hid hbw5
  have hX5' := Lib.hid hX5
  clear hS hL1 hLb hE hA5 hbw5 hn hLe hSe hsp0 hs0 hsv hX5
  cases by_
  · go_wp2_with (first
      | (go_at_call 17; (with_reducible refine hrm.out.mono ?_); rintro e w6 ⟨v6, rfl, ho6, hb6⟩; have hX6 := hX5'.out.keep hb6; have hbw6 := hbw5'.out.trans (hb6.mono hbw5'.out.size); obtain ⟨A6, c6, rfl, hs6⟩ := ho6.len; have hpt := lawpts_any (c := c6) hs6 (by rw [hlen.out]; omega))
      | (go_at_call 20; (with_reducible refine hpt.mono ?_); rintro e w7 ⟨v7, rfl, ho7, hb7⟩; have hX7 := hX6.keep hb7; obtain ⟨gp, c7, rfl, hc7, hgp, hp7⟩ := ho7.pre (by intro e; exact hne (List.map_eq_nil_iff.1 e)); rw [List.length_map, hlen.out] at hp7 ⊢))
    obtain ⟨FX, hFX⟩ := Classical.axiomOfChoice fun s : Nat => qt_add (qt_of s).1 q_half (by have := ofQ_bd (s / 32); omega)
    obtain ⟨FY, hFY⟩ := Classical.axiomOfChoice fun s : Nat => qt_add (qt_of s).2 q_mquart (by have := ofQ_bd s; omega)
    have hop : ∀ (s : Nat) (w : World) t, (binOp .add t (.complex .f64 (Go.Proofs.Ytmchelbmeajcnaa.L ((s : Int) / 32)) (Go.Proofs.Ytmchelbmeajcnaa.L (s : Int))) (.complex .f64 4602678819172646912 13821547256400052224)).run Try.prog w = .ok (.complex .f64 (FX s) (FY s)) w := fun s w t => run_complex_sum w .add (Or.inl rfl) t .f64 _ _ _ _ _ _ (by unfold cSumBits; rw [(hFX s).1, (hFY s).1]; rfl)
    have hp8 := hp7.congr (f' := fun j => cpx (mvX S FX FY 0 j)) (fun j hj => by rw [pts_at (by rw [hlen.out]; exact hj)]; rfl)
    replace hgp := Lib.hid hgp
    replace hX6 := Lib.hid hX6
    replace hbw6 := Lib.hid hbw6
    clear hp7 ho7 hX7 hc7 hpt hs6 ho6 hrm hb6 x1 x2 x3 x4 x5 hX5' hbw5' hne
    go_loopw [12] (fun p wr => ∃ i : Nat, i ≤ L ∧ p = .int .i64 i ∧ PreV wr 49 gp L (fun j => cpx (mvX S FX FY i j)) ∧ Below w6.heap.size w6 wr) (fun p _ => L - (intOf p).toNat)
    case atStart => exact ⟨0, Nat.zero_le _, rfl, hp8, hb7⟩
    case round =>
      clear hp8 hb7
      obtain ⟨i, hi, rfl, hP, hB⟩ := hrel
      by_cases hlt : i < L
      · have hiI : (i : Int) < (L : Int) := by omega
        have hdi : decide (i < L) = true := decide_eq_true hlt
        have hc0 := hP.cell (i := i) hlt
        have hcf := hP.frozen i
        have hP' := Lib.hid ((hP.set_ i (cpx (FX (at_ S i), FY (at_ S i)))).congr fun j _ => mvX_step j)
        have hB' := Lib.hid (hB.setCell (show w6.heap.size ≤ gp from hgp.out) (p := ⟨gp, i, none⟩) (cpx (FX (at_ S i), FY (at_ S i))))
        rw [mvX_at] at hc0
        have hops := hop (at_ S i)
        change wr.cell? ⟨gp, i, none⟩ = some (.complex .f64 (Go.Proofs.Ytmchelbmeajcnaa.L (((at_ S i : Nat) : Int) / 32)) (Go.Proofs.Ytmchelbmeajcnaa.L ((at_ S i : Nat) : Int))) at hc0
        generalize at_ S i = s at *
        clear hP hB
        go_wp2_with (simp only [hops])
        go_roundw
        case rel => exact ⟨i + 1, by omega, by go_num, hP'.out, hB'.out⟩
        case measure => simp [intOf]; omega
      · obtain rfl : i = L := by omega
        have hdi : decide (i < i) = false := decide_eq_false (Nat.lt_irrefl _)
        have hq : Quart ((List.range i).map (mvX S FX FY i)) 2000 (mvZ S (2) (-1)) := fun j hj => by
          have hj' : j < i := by simpa using hj
          rw [range_at hj']
          have e : mvX S FX FY i j = (FX (at_ S j), FY (at_ S j)) := by unfold mvX; rw [if_pos hj']
          rw [e]
          have b1 := ofQ_bd (at_ S j / 32)
          have b2 := ofQ_bd (at_ S j)
          refine ⟨(hFX _).2, (hFY _).2, ?_, ?_⟩ <;> dsimp only [mvZ] <;> omega
        have hcx := Lib.hid (PreV.cx hP)
        have hxl : ((List.range i).map (mvX S FX FY i)).length = i := by simp
        generalize ((List.range i).map (mvX S FX FY i)) = xs at *
        have hXr := Lib.hid (hX6.out.keep hB)
        have hbwr := Lib.hid (hbw6.out.trans (hB.mono hbw6.out.size))
        have hQ := Lib.hid hq
        have hXL := Lib.hid hxl
        clear hP hop hFX hFY hB hX6 hbw6 hgp hq hxl
        go_wp2_with fail
        refine (make_any _).mono ?_
        rintro e wc ⟨cs, rfl, hlc, hbc⟩
        have hbwc := hbwr.out.trans (hbc.mono hbwr.out.size)
        go_upto_region 19 with (refine wpList_store_row rfl 33 _ _ rfl wc.heap.size (cells cs) rfl rfl 33 (cells ZT) (heap_alloc_new wc _) (rsize hlc) (zsize hlc) (cells_one cs) ?_)
        have hSt := St.start (cs := cs) hbwc (cells ZT)
        have hb9 : Below wc.heap.size wc ((wc.alloc (Obj.cells (cells ZT) 33)).setRow wc.heap.size (cells cs)) := below_setRow ((Below.refl _ _).alloc (Nat.le_refl _) _) (Nat.le_refl _) _
        have hbr9 := hbc.trans (hb9.mono hbc.size)
        generalize wc.heap.size = g1 at *
        generalize (wc.alloc (Obj.cells (cells ZT) 33)).setRow g1 (cells cs) = w9 at *
        have hT9 := hSt.tb
        have hX9 := hXr.out.keep hbr9
        have hbw9 := Lib.hid (hbwr.out.trans (hbr9.mono hbwr.out.size))
        have hC := Lib.hid hlc.tab
        have hi1 := hT9.is hlc.1
        have hi2 := hT9.of
        obtain ⟨n1, n2, n3, n4, n5⟩ := id hX9
        have hcx9 := Lib.hid (hcx.out.far hbr9)
        have hsh := HSH.out (2) (-1) (by decide) (by decide) cs hC.out (some ⟨gp, 0, none⟩) c7 xs w9 hXL.out hQ.out hcx9.out
        clear hSt hb9 hbr9 hbwc hbc hcx hXr hbwr hlc hz
        go_wp2_with (first
          | (go_at_call 27; (with_reducible refine hsh.out.mono ?_); rintro e wd ⟨⟨rx, ry, rfl, q7, q8⟩, hbd⟩; have hXd := hX9.keep hbd; have hTd := hT9.keep hbd; obtain ⟨m1, m2, m3, m4, m5⟩ := id hXd; have hi3 := hTd.is hC.out.1; have hi4 := hTd.of; have hcxd := Lib.hid (hcx9.out.far hbd); have hof := HOF.out (2) (-1) (by decide) (by decide) cs hC.out (some ⟨gp, 0, none⟩) c7 xs wd hXL.out hQ.out hcxd.out; have hbwd := Lib.hid (hbw9.out.trans (hbd.mono hbw9.out.size)))
          | (go_at_call 28; (with_reducible refine hof.out.mono ?_); rintro e wf ⟨gr, fr, rfl, hgr, hRr, hbf⟩; have hcxf := Lib.hid (hcxd.out.far hbf); have hbwf := Lib.hid (hbwd.out.trans (hbf.mono hbwd.out.size))))
        clear hi1 hi2 n1 n2 n3 n4 n5 m1 m2 m3 m4 m5 hi3 hi4 hsh hof hXd hTd hX9 hT9 hbd hbf hcx9 hcxd hbw9 hbwd
        go_loopw [18] (fun p wq => wq = wf ∧ ∃ j : Nat, j ≤ W' ∧ p = .int .i64 j) (fun p _ => W' - (intOf p).toNat)
        case atStart => exact ⟨rfl, 0, Nat.zero_le _, rfl⟩
        case round =>
          obtain ⟨rfl, j, hj, rfl⟩ := hrel
          by_cases hjt : j < W'
          · have hjI : (j : Int) < (W' : Int) := by omega
            have hdj : decide (j < W') = true := decide_eq_true hjt
            have k0 := hRr.c0 hjt
            have k1 := hRr.c1 hjt
            change wr.cell? ⟨gr, j * 2, none⟩ = some (.int .i64 0) at k0
            go_wp2_with fail
            go_roundw
            case rel => exact ⟨trivial, j + 1, by omega, by go_num⟩
            case measure => simp [intOf]; omega
          · obtain rfl : j = W' := by omega
            have hdj : decide (j < j) = false := decide_eq_false (Nat.lt_irrefl _)
            have hI := ofInt_is (i : Int) (by omega)
            obtain ⟨wx, hwx, qwx⟩ := qt_mul q_half hI (by omega)
            obtain ⟨wy, hwy, qwy⟩ := qt_mul q_mquart hI (by omega)
            have ho1 := fun t w => run_float_arith (P := Try.prog) w .mul t .f64 _ _ _ hwx
            have ho2 := fun t w => run_float_arith (P := Try.prog) w .mul t .f64 _ _ _ hwy
            obtain ⟨r4, q4, hmx⟩ := qt_max4 q_half q_mhalf q_mquart q_quart
            obtain ⟨r5, h5, q5⟩ := qt_sub qt_one q4 (by decide)
            have ho3 := fun t w => run_float_arith (P := Try.prog) w .sub t .f64 _ _ _ h5
            have ng1 := fun w => run_negF 4602678819172646912 13826050856027422720 (by decide +kernel) w
            have ng2 := fun w => run_negF 13821547256400052224 4598175219545276416 (by decide +kernel) w
            have e1 : (FloatKind.f64.format.order rx wx == some .eq) = true := by rw [qt_eqb q7 qwx]; simp
            have e2 : (FloatKind.f64.format.order ry wy == some .eq) = true := by rw [qt_eqb q8 qwy]; simp
            have hmg := margin_any (c := c7) (mvZ S (2) (-1)) hcxf.out (by rw [hXL.out]; omega) hQ.out
            rw [mxF_congr (h := fun _ => 2) (fun j _ => mv_dQ (by decide) (by decide) j), hXL.out, mxF_const _ _ (by omega)] at hmg
            replace hmg := Lib.hid hmg
            have Q5 := Lib.hid q5
            clear hI hwx hwy qwx qwy q4 h5 q5 q7 q8 hRr hgr
            go_wp2_with (first
              | simp only [ho1]
              | simp only [ho2]
              | simp only [ng1]
              | simp only [ng2]
              | simp only [hmx]
              | simp only [ho3]
              | (go_at_call 26; (with_reducible refine hmg.out.mono ?_); rintro e wz ⟨⟨r9, rfl, q9⟩, hbz⟩; have e3 : (FloatKind.f64.format.order r9 r5 == some .eq) = true := (by rw [qt_eqb q9 Q5.out]; decide); have hbwz := Lib.hid (hbwf.out.trans (hbz.mono hbwf.out.size))))
            go_ret
            exact ⟨rfl, hbwz.out⟩
  · go_wp2_with (first
      | (go_at_call 17; (with_reducible refine hrm.out.mono ?_); rintro e w6 ⟨v6, rfl, ho6, hb6⟩; have hX6 := hX5'.out.keep hb6; have hbw6 := hbw5'.out.trans (hb6.mono hbw5'.out.size); obtain ⟨A6, c6, rfl, hs6⟩ := ho6.len; have hpt := lawpts_any (c := c6) hs6 (by rw [hlen.out]; omega))
      | (go_at_call 20; (with_reducible refine hpt.mono ?_); rintro e w7 ⟨v7, rfl, ho7, hb7⟩; have hX7 := hX6.keep hb7; obtain ⟨gp, c7, rfl, hc7, hgp, hp7⟩ := ho7.pre (by intro e; exact hne (List.map_eq_nil_iff.1 e)); rw [List.length_map, hlen.out] at hp7 ⊢))
    obtain ⟨FX, hFX⟩ := Classical.axiomOfChoice fun s : Nat => qt_add (qt_of s).1 q_mhalf (by have := ofQ_bd (s / 32); omega)
    obtain ⟨FY, hFY⟩ := Classical.axiomOfChoice fun s : Nat => qt_add (qt_of s).2 q_three (by have := ofQ_bd s; omega)
    have hop : ∀ (s : Nat) (w : World) t, (binOp .add t (.complex .f64 (Go.Proofs.Ytmchelbmeajcnaa.L ((s : Int) / 32)) (Go.Proofs.Ytmchelbmeajcnaa.L (s : Int))) (.complex .f64 13826050856027422720 4604930618986332160)).run Try.prog w = .ok (.complex .f64 (FX s) (FY s)) w := fun s w t => run_complex_sum w .add (Or.inl rfl) t .f64 _ _ _ _ _ _ (by unfold cSumBits; rw [(hFX s).1, (hFY s).1]; rfl)
    have hp8 := hp7.congr (f' := fun j => cpx (mvX S FX FY 0 j)) (fun j hj => by rw [pts_at (by rw [hlen.out]; exact hj)]; rfl)
    replace hgp := Lib.hid hgp
    replace hX6 := Lib.hid hX6
    replace hbw6 := Lib.hid hbw6
    clear hp7 ho7 hX7 hc7 hpt hs6 ho6 hrm hb6 x1 x2 x3 x4 x5 hX5' hbw5' hne
    go_loopw [12] (fun p wr => ∃ i : Nat, i ≤ L ∧ p = .int .i64 i ∧ PreV wr 49 gp L (fun j => cpx (mvX S FX FY i j)) ∧ Below w6.heap.size w6 wr) (fun p _ => L - (intOf p).toNat)
    case atStart => exact ⟨0, Nat.zero_le _, rfl, hp8, hb7⟩
    case round =>
      clear hp8 hb7
      obtain ⟨i, hi, rfl, hP, hB⟩ := hrel
      by_cases hlt : i < L
      · have hiI : (i : Int) < (L : Int) := by omega
        have hdi : decide (i < L) = true := decide_eq_true hlt
        have hc0 := hP.cell (i := i) hlt
        have hcf := hP.frozen i
        have hP' := Lib.hid ((hP.set_ i (cpx (FX (at_ S i), FY (at_ S i)))).congr fun j _ => mvX_step j)
        have hB' := Lib.hid (hB.setCell (show w6.heap.size ≤ gp from hgp.out) (p := ⟨gp, i, none⟩) (cpx (FX (at_ S i), FY (at_ S i))))
        rw [mvX_at] at hc0
        have hops := hop (at_ S i)
        change wr.cell? ⟨gp, i, none⟩ = some (.complex .f64 (Go.Proofs.Ytmchelbmeajcnaa.L (((at_ S i : Nat) : Int) / 32)) (Go.Proofs.Ytmchelbmeajcnaa.L ((at_ S i : Nat) : Int))) at hc0
        generalize at_ S i = s at *
        clear hP hB
        go_wp2_with (simp only [hops])
        go_roundw
        case rel => exact ⟨i + 1, by omega, by go_num, hP'.out, hB'.out⟩
        case measure => simp [intOf]; omega
      · obtain rfl : i = L := by omega
        have hdi : decide (i < i) = false := decide_eq_false (Nat.lt_irrefl _)
        have hq : Quart ((List.range i).map (mvX S FX FY i)) 2000 (mvZ S (-2) (3)) := fun j hj => by
          have hj' : j < i := by simpa using hj
          rw [range_at hj']
          have e : mvX S FX FY i j = (FX (at_ S j), FY (at_ S j)) := by unfold mvX; rw [if_pos hj']
          rw [e]
          have b1 := ofQ_bd (at_ S j / 32)
          have b2 := ofQ_bd (at_ S j)
          refine ⟨(hFX _).2, (hFY _).2, ?_, ?_⟩ <;> dsimp only [mvZ] <;> omega
        have hcx := Lib.hid (PreV.cx hP)
        have hxl : ((List.range i).map (mvX S FX FY i)).length = i := by simp
        generalize ((List.range i).map (mvX S FX FY i)) = xs at *
        have hXr := Lib.hid (hX6.out.keep hB)
        have hbwr := Lib.hid (hbw6.out.trans (hB.mono hbw6.out.size))
        have hQ := Lib.hid hq
        have hXL := Lib.hid hxl
        clear hP hop hFX hFY hB hX6 hbw6 hgp hq hxl
        go_wp2_with fail
        refine (make_any _).mono ?_
        rintro e wc ⟨cs, rfl, hlc, hbc⟩
        have hbwc := hbwr.out.trans (hbc.mono hbwr.out.size)
        go_upto_region 19 with (refine wpList_store_row rfl 33 _ _ rfl wc.heap.size (cells cs) rfl rfl 33 (cells ZT) (heap_alloc_new wc _) (rsize hlc) (zsize hlc) (cells_one cs) ?_)
        have hSt := St.start (cs := cs) hbwc (cells ZT)
        have hb9 : Below wc.heap.size wc ((wc.alloc (Obj.cells (cells ZT) 33)).setRow wc.heap.size (cells cs)) := below_setRow ((Below.refl _ _).alloc (Nat.le_refl _) _) (Nat.le_refl _) _
        have hbr9 := hbc.trans (hb9.mono hbc.size)
        generalize wc.heap.size = g1 at *
        generalize (wc.alloc (Obj.cells (cells ZT) 33)).setRow g1 (cells cs) = w9 at *
        have hT9 := hSt.tb
        have hX9 := hXr.out.keep hbr9
        have hbw9 := Lib.hid (hbwr.out.trans (hbr9.mono hbwr.out.size))
        have hC := Lib.hid hlc.tab
        have hi1 := hT9.is hlc.1
        have hi2 := hT9.of
        obtain ⟨n1, n2, n3, n4, n5⟩ := id hX9
        have hcx9 := Lib.hid (hcx.out.far hbr9)
        have hsh := HSH.out (-2) (3) (by decide) (by decide) cs hC.out (some ⟨gp, 0, none⟩) c7 xs w9 hXL.out hQ.out hcx9.out
        clear hSt hb9 hbr9 hbwc hbc hcx hXr hbwr hlc hz
        go_wp2_with (first
          | (go_at_call 27; (with_reducible refine hsh.out.mono ?_); rintro e wd ⟨⟨rx, ry, rfl, q7, q8⟩, hbd⟩; have hXd := hX9.keep hbd; have hTd := hT9.keep hbd; obtain ⟨m1, m2, m3, m4, m5⟩ := id hXd; have hi3 := hTd.is hC.out.1; have hi4 := hTd.of; have hcxd := Lib.hid (hcx9.out.far hbd); have hof := HOF.out (-2) (3) (by decide) (by decide) cs hC.out (some ⟨gp, 0, none⟩) c7 xs wd hXL.out hQ.out hcxd.out; have hbwd := Lib.hid (hbw9.out.trans (hbd.mono hbw9.out.size)))
          | (go_at_call 28; (with_reducible refine hof.out.mono ?_); rintro e wf ⟨gr, fr, rfl, hgr, hRr, hbf⟩; have hcxf := Lib.hid (hcxd.out.far hbf); have hbwf := Lib.hid (hbwd.out.trans (hbf.mono hbwd.out.size))))
        clear hi1 hi2 n1 n2 n3 n4 n5 m1 m2 m3 m4 m5 hi3 hi4 hsh hof hXd hTd hX9 hT9 hbd hbf hcx9 hcxd hbw9 hbwd
        go_loopw [18] (fun p wq => wq = wf ∧ ∃ j : Nat, j ≤ W' ∧ p = .int .i64 j) (fun p _ => W' - (intOf p).toNat)
        case atStart => exact ⟨rfl, 0, Nat.zero_le _, rfl⟩
        case round =>
          obtain ⟨rfl, j, hj, rfl⟩ := hrel
          by_cases hjt : j < W'
          · have hjI : (j : Int) < (W' : Int) := by omega
            have hdj : decide (j < W') = true := decide_eq_true hjt
            have k0 := hRr.c0 hjt
            have k1 := hRr.c1 hjt
            change wr.cell? ⟨gr, j * 2, none⟩ = some (.int .i64 0) at k0
            go_wp2_with fail
            go_roundw
            case rel => exact ⟨trivial, j + 1, by omega, by go_num⟩
            case measure => simp [intOf]; omega
          · obtain rfl : j = W' := by omega
            have hdj : decide (j < j) = false := decide_eq_false (Nat.lt_irrefl _)
            have hI := ofInt_is (i : Int) (by omega)
            obtain ⟨wx, hwx, qwx⟩ := qt_mul q_mhalf hI (by omega)
            obtain ⟨wy, hwy, qwy⟩ := qt_mul q_three hI (by omega)
            have ho1 := fun t w => run_float_arith (P := Try.prog) w .mul t .f64 _ _ _ hwx
            have ho2 := fun t w => run_float_arith (P := Try.prog) w .mul t .f64 _ _ _ hwy
            obtain ⟨r4, q4, hmx⟩ := qt_max4 q_mhalf q_half q_three q_mthree
            obtain ⟨r5, h5, q5⟩ := qt_sub qt_one q4 (by decide)
            have ho3 := fun t w => run_float_arith (P := Try.prog) w .sub t .f64 _ _ _ h5
            have ng1 := fun w => run_negF 13826050856027422720 4602678819172646912 (by decide +kernel) w
            have ng2 := fun w => run_negF 4604930618986332160 13828302655841107968 (by decide +kernel) w
            have e1 : (FloatKind.f64.format.order rx wx == some .eq) = true := by rw [qt_eqb q7 qwx]; simp
            have e2 : (FloatKind.f64.format.order ry wy == some .eq) = true := by rw [qt_eqb q8 qwy]; simp
            have hmg := margin_any (c := c7) (mvZ S (-2) (3)) hcxf.out (by rw [hXL.out]; omega) hQ.out
            rw [mxF_congr (h := fun _ => 3) (fun j _ => mv_dQ (by decide) (by decide) j), hXL.out, mxF_const _ _ (by omega)] at hmg
            replace hmg := Lib.hid hmg
            have Q5 := Lib.hid q5
            clear hI hwx hwy qwx qwy q4 h5 q5 q7 q8 hRr hgr
            go_wp2_with (first
              | simp only [ho1]
              | simp only [ho2]
              | simp only [ng1]
              | simp only [ng2]
              | simp only [hmx]
              | simp only [ho3]
              | (go_at_call 26; (with_reducible refine hmg.out.mono ?_); rintro e wz ⟨⟨r9, rfl, q9⟩, hbz⟩; have e3 : (FloatKind.f64.format.order r9 r5 == some .eq) = true := (by rw [qt_eqb q9 Q5.out]; decide); have hbwz := Lib.hid (hbwf.out.trans (hbz.mono hbwf.out.size))))
            go_ret
            exact ⟨rfl, hbwz.out⟩
end Go.Proofs.Ytmchelbmeajcnaa
