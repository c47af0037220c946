/- Statement WeavePlaces: for every number of words, all symbols and every place the law returns true. -/
import Derived.Test.YtpanmjohmgjigaaVj
namespace Go.Proofs.Ytpanmjohmgjigaa
open Go.RowKit Go.Gf
attribute [local go_sem ↓] Cl.quiet_since

theorem u8_rg' {a : Int} (h : (Lit.int .u8 a).wf = true) : 0 ≤ a ∧ a < 256 := by
  simp [Lit.wf, IntKind.min, IntKind.max, IntKind.signed, IntKind.bits] at h; omega
theorem xor1_ne (X : Nat) : X ^^^ 1 ≠ X := by
  intro h
  have h2 := congrArg (X ^^^ ·) h
  simp [← Nat.xor_assoc, Nat.xor_self] at h2
theorem sw_dealt_row {w : World} {B : Nat} {A : Option Addr} {k N i : Nat} {s : List Nat} (h : Sw w B A (dealt k s)) (hN : s.length / k = N) (hi : i < k) :
    ∃ a D c, A = some a ∧ a.block < B ∧ w.cell? (a.add i) = some (.slice D N c) ∧ Sl w B D (rm N fun q => at_ s (q * k + i)) := by
  obtain ⟨a, D, c, h1, h2, h3, _, h4⟩ := h.at_ (i := i) (by rw [dealt_len]; exact hi)
  rw [dealt_get, hN] at h3 h4
  rw [rm_len] at h3
  exact ⟨a, D, c, h1, h2, h3, h4⟩
theorem sw_dealt_at {w : World} {B : Nat} {A : Option Addr} {k N i j : Nat} {s : List Nat} (h : Sw w B A (dealt k s)) (hN : s.length / k = N) (hi : i < k) (hj : j < N) :
    ∃ a d c, A = some a ∧ w.cell? (a.add i) = some (.slice (some d) N c) ∧ w.cell? (d.add j) = some (.int .u16 ((at_ s (j * k + i) : Nat) : Int)) := by
  obtain ⟨a, D, c, h1, h2, h3, h4⟩ := sw_dealt_row h hN hi
  obtain ⟨d, rfl, _, hd⟩ := h4.at_ (i := j) (by rw [rm_len]; exact hj)
  rw [rm_get] at hd
  exact ⟨a, d, c, h1, h3, hd⟩
/-- which of row i's symbols stand at place t or behind it -/
theorem cn_lt {V i t j : Nat} (hi : i < V) : j * V + i < t ↔ j < cn V i t := by
  unfold cn
  rw [← Nat.succ_le_iff, Nat.succ_eq_add_one, Nat.lt_iff_add_one_le, Nat.le_div_iff_mul_le (by omega), Nat.add_mul]
  omega
theorem cn_burst {V i t N : Nat} (hi : i < V) (ht : t ≤ N * V) : N - cn V i t ≤ burst V (N * V - t) := by
  unfold cn burst
  have hV : 0 < V := by omega
  have hd := Nat.div_add_mod t V
  have hm := Nat.mod_lt t hV
  generalize t / V = q at *
  generalize t % V = r at *
  subst hd
  have e1 : q ≤ (V * q + r + (V - 1 - i)) / V := by
    rw [Nat.le_div_iff_mul_le hV, Nat.mul_comm]; omega
  have e2 : N - q ≤ (N * V - (V * q + r) + V - 1) / V := by
    rw [Nat.le_div_iff_mul_le hV, Nat.sub_mul, Nat.mul_comm q V]
    omega
  omega
theorem OwnS.bare (w : World) : OwnS w (w.alloc (.cells #[] 37)) (.slice (some ⟨w.heap.size, 0, none⟩) 0 0) [] :=
  ⟨⟨rfl, Or.inr ⟨w.heap.size, 0, #[], rfl, Nat.le_refl _, heap_alloc_new w _, Nat.le_refl _, Nat.zero_le _, rfl, rfl⟩⟩, by simp⟩
set_option maxRecDepth 20000 in
set_option maxHeartbeats 8000000 in
theorem places_law (a0 : Int) (w0 : (Lit.int .u8 a0).wf = true) (A : Option Addr) (xs : List Nat) (ca : Nat) (hca : xs.length ≤ ca) (hx : ca ≤ maxLen) (a2 : Int) (w2 : (Lit.int .u16 a2).wf = true) (w : World) (hA : Sl w w.heap.size A xs) :
    Calls Try.prog 6 #[.int .u8 a0, .slice A xs.length ca, .int .u16 a2] w (Tells w (.bool true)) := by
  obtain ⟨n, rfl⟩ : ∃ n : Nat, a0 = (n : Int) := ⟨a0.toNat, by have := u8_rg' w0; omega⟩
  obtain ⟨f, rfl⟩ : ∃ n : Nat, a2 = (n : Int) := ⟨a2.toNat, by have := u16_range w2; omega⟩
  have hn : n < 256 := by have := u8_rg' w0; omega
  have hf : f < 65536 := by have := u16_range w2; omega
  clear w0 w2
  obtain ⟨k, hk⟩ : ∃ k : Nat, 1 + (n : Int) % 4 = (k : Int) := ⟨1 + n % 4, by omega⟩
  have hk4 : 1 ≤ k ∧ k ≤ 4 := by omega
  have hk0 : (k : Int) ≠ 0 := by omega
  have mx : (xs.length : Int) ≤ 9223372036854775807 := by unfold maxLen at hx; omega
  clear hx
  replace hA := Lib.hid hA
  have haw := Lib.hid (wawake_any w)
  by_cases h0 : xs.length = 0
  · have d0 : ((xs.length : Int) == 0) = true := by rw [beq_iff_eq]; omega
    clear h0
    go_enter Try.func6, Try.ntmps6
    go_wp2_with (go_at_call 8; (with_reducible refine haw.out.mono ?_); rintro e w1 ⟨rfl, hb⟩)
    go_ret
    exact ⟨rfl, hb⟩
  · have d0 : ((xs.length : Int) == 0) = false := by rw [beq_eq_false_iff_ne]; omega
    by_cases h1 : 2000 < xs.length
    · have d1 : decide ((2000 : Int) < (xs.length : Int)) = true := by rw [decide_eq_true_eq]; omega
      clear h0 h1
      go_enter Try.func6, Try.ntmps6
      go_wp2_with (go_at_call 8; (with_reducible refine haw.out.mono ?_); rintro e w1 ⟨rfl, hb⟩)
      go_ret
      exact ⟨rfl, hb⟩
    · have d1 : decide ((2000 : Int) < (xs.length : Int)) = false := by rw [decide_eq_false_iff_not]; omega
      obtain ⟨N, hN⟩ : ∃ N, xs.length / k = N := ⟨_, rfl⟩
      have hNx : N ≤ xs.length := by rw [← hN]; exact Nat.div_le_self _ _
      obtain ⟨L, hL⟩ : ∃ L, N * k = L := ⟨_, rfl⟩
      have hLx : L ≤ xs.length := by rw [← hL, ← hN]; exact Nat.div_mul_le_self _ _
      have hdiv : wrap64 ((xs.length : Int) / (k : Int)) = (N : Int) := by
        rw [← Int.natCast_ediv, hN]
        exact IntWalk.wrap64_in _ (by omega)
      have hdivI : (xs.length : Int) / (k : Int) = (N : Int) := by rw [← Int.natCast_ediv, hN]
      have hmulI : (N : Int) * (k : Int) = (L : Int) := by rw [← hL]; push_cast; rfl
      have hsl := slice_head A xs.length ca L (by omega)
      by_cases hL0 : L = 0
      · have dL : ((L : Int) == 0) = true := by rw [beq_iff_eq]; omega
        clear h0 h1 hL0 hL
        go_enter Try.func6, Try.ntmps6
        go_wp2_with (go_at_call 8; (with_reducible refine haw.out.mono ?_); rintro e w1 ⟨rfl, hb⟩)
        go_ret
        exact ⟨rfl, hb⟩
      · have dL : ((L : Int) == 0) = false := by rw [beq_eq_false_iff_ne]; omega
        have hL2 : L ≤ 2000 := by omega
        have hN2 : N ≤ 2000 := Nat.le_trans hNx (Nat.le_of_not_lt h1)
        have hLI0 : (L : Int) ≠ 0 := by omega
        obtain ⟨t, ht⟩ : ∃ t, f % L = t := ⟨_, rfl⟩
        have htL : t < L := by rw [← ht]; exact Nat.mod_lt _ (by omega)
        have htI : (f : Int) % (L : Int) = (t : Int) := by rw [← ht]; exact (Int.natCast_emod _ _).symm
        obtain ⟨ss, hss⟩ : ∃ ss, Hid (xs.take L = ss) := ⟨_, Lib.hid rfl⟩
        have hsl2 : Hid (ss.length = L) := by unfold Hid; rw [← hss.out, List.length_take]; omega
        have hkk : mayB (k : Int) = true := by unfold mayB; rw [Bool.and_eq_true, decide_eq_true_eq, decide_eq_true_eq]; omega
        have hLk : Hid (∀ s : List Nat, s.length = L → inE (k : Int) s = 0 ∧ inW (k : Int) s = dealt k s ∧ s.length / k = N) := fun s hs => by
          have e : inE (k : Int) s = 0 := inE_ok hkk (by rw [hs, Int.toNat_natCast, ← hL, Nat.mul_mod_left]; omega)
          refine ⟨e, ?_, by rw [hs, ← hL, Nat.mul_div_cancel _ (by omega)]⟩
          unfold inW
          rw [if_pos e, Int.toNat_natCast]
        have hin : Hid (∀ (s : List Nat), s.length = L → ∀ {A c w}, Sl w w.heap.size A s → Calls Try.prog 11 #[.int .i64 (k : Int), .slice A L c] w (RowsV w (dealt k s) 0)) := fun s hs {A c w} h => by
          obtain ⟨e1, e2, _⟩ := hLk.out s hs
          exact in_lit h hs (by omega) e2 e1
        clear h0 h1 hL0 hkk ht hN
        replace hL := Lib.hid hL
        have hbu : Hid (∀ w, Calls Try.prog 16 #[.int .i64 (k : Int), .int .i64 (t : Int), .int .i64 ((L : Int) - (t : Int))] w fun e w' => e = .returned (.int .i64 ((burst k (L - t) : Nat) : Int)) ∧ w = w') := fun w => burst_lit (by omega) (by
          unfold burstI
          rw [if_pos (by omega), Int.toNat_natCast]
          congr 2
          omega)
        obtain ⟨b, hbb⟩ : ∃ b, Hid (burst k (L - t) = b) := ⟨_, Lib.hid rfl⟩
        rw [hbb.out] at hbu
        obtain ⟨ad, rfl⟩ : ∃ ad, A = some ad := by
          rcases hA.out.2 with e | ⟨a, e, _⟩
          · rw [e] at hLx; simp at hLx; omega
          · exact ⟨a, e⟩
        have hssne : Hid (ss ≠ []) := fun e => by have := hsl2.out; rw [e] at this; simp at this; omega
        have hLN : Hid (ss.length / k = N) := (hLk.out ss hsl2.out).2.2
        go_enter Try.func6, Try.ntmps6
        go_wp2_with (first
          | (go_at_call 8; (with_reducible refine haw.out.mono ?_); rintro e w1 ⟨rfl, hb⟩; have hb1 := Lib.hid hb; have hA1 := Lib.hid ((hA.out.far hb).take L); rw [hss.out] at hA1; have hk1 := Lib.hid (hin.out ss hsl2.out (c := ca) hA1.out); clear hb haw hA)
          | (go_at_call 11; (with_reducible refine hk1.out.mono ?_); intro e w2 hr; obtain ⟨A2, c2, rfl, hcc2, hs, hb⟩ := hr.sw; rw [dealt_len]; have hb2 := Lib.hid (hb1.out.trans (hb.mono hb1.out.size)); have hA2 := Lib.hid (hA1.out.far hb); have hu2 := Lib.hid hs; have hE2 := Lib.hid (OwnS.bare w2); have hB2 := Lib.hid (below_alloc w2 (.cells #[] 37)); have hA2e := Lib.hid (hA2.out.far hB2.out); clear hb hs hr hk1 hA1 hb1)
          | (refine app_own (w0 := w2) rfl (.tmp 50) (.tmp 51) rfl (.slice (some ⟨w2.heap.size, 0, none⟩) 0 0) [] rfl hE2.out hB2.out.size ad ca ss (by rw [hsl2.out]; rfl) hA2e.out (by rw [hsl2.out]; simp; omega) ?_))
        intro v3 w3 ho hg _
        obtain ⟨g, c3, rfl, hc3, hg3, hP3⟩ := ho.pre hssne.out
        rw [hsl2.out] at hP3 hc3 ⊢
        have hB3 := Lib.hid (hB2.out.grown hg hB2.out.size (OwnS.block hE2.out))
        have hg2 := Lib.hid hg3
        have hss16 := Lib.hid ho.2
        replace hP3 : Hid (Pre w3 g L (fun j => if t ≤ j ∧ j < t then at_ ss j ^^^ 1 else at_ ss j)) := hP3.congr fun j _ => by rw [if_neg (by omega)]
        clear ho hg hg3 hE2 hB2 hA2e
        go_wp2_with fail
        go_loopw [12] (fun q wr => ∃ i : Nat, t ≤ i ∧ i ≤ L ∧ q = .int .i64 i ∧ Pre wr g L (fun j => if t ≤ j ∧ j < i then at_ ss j ^^^ 1 else at_ ss j) ∧ Below w2.heap.size w2 wr) (fun q _ => L - (intOf q).toNat)
        case atStart => exact ⟨t, Nat.le_refl _, Nat.le_of_lt htL, by first | rfl | rw [htI], hP3.out, hB3.out⟩
        case round =>
          clear hP3 hB3
          obtain ⟨i, hti, hi, rfl, hP, hB⟩ := hrel
          by_cases hlt : i < L
          · have hiI : (i : Int) < (L : Int) := by omega
            have hd : decide (i < L) = true := decide_eq_true hlt
            have hc := hP.cell hlt
            rw [if_neg (by omega)] at hc
            have hfz := hP.frozen i
            obtain ⟨X, hX⟩ : ∃ X, Hid (at_ ss i = X) := ⟨_, Lib.hid rfl⟩
            have hX16 : X < 65536 := by rw [← hX.out]; exact at_lt hss16.out (by decide)
            rw [hX.out] at hc
            have hxor : bits .xor .u16 (X : Int) 1 = ((X ^^^ 1 : Nat) : Int) := u16_xor_nat X 1 (by omega) (by decide)
            have hP' := Lib.hid ((hP.set_ i (X ^^^ 1)).congr (f' := fun j => if t ≤ j ∧ j < i + 1 then at_ ss j ^^^ 1 else at_ ss j) (fun j _ => by
              show (if j = i then X ^^^ 1 else if t ≤ j ∧ j < i then at_ ss j ^^^ 1 else at_ ss j) = if t ≤ j ∧ j < i + 1 then at_ ss j ^^^ 1 else at_ ss j
              by_cases e : j = i
              · rw [if_pos e, if_pos (by omega), e, hX.out]
              · rw [if_neg e]
                by_cases h : t ≤ j ∧ j < i
                · rw [if_pos h, if_pos (by omega)]
                · rw [if_neg h, if_neg (by omega)]))
            have hB' := Lib.hid (hB.setCell (p := ⟨g, i, none⟩) hg2.out (.int .u16 ((X ^^^ 1 : Nat) : Int)))
            generalize X ^^^ 1 = Z at *
            clear hP hB
            go_wp2_with fail
            go_roundw
            case rel => exact ⟨i + 1, by omega, by omega, by go_num, hP'.out, hB'.out⟩
            case measure => simp [intOf]; omega
          · obtain rfl : L = i := by omega
            have hd : decide (L < L) = false := decide_eq_false (Nat.lt_irrefl _)
            obtain ⟨bs, hbs⟩ : ∃ bs, Hid (rm L (fun j => if t ≤ j ∧ j < L then at_ ss j ^^^ 1 else at_ ss j) = bs) := ⟨_, Lib.hid rfl⟩
            have hbl : Hid (bs.length = L) := by rw [← hbs.out]; exact Lib.hid (rm_len _ _)
            have hS := hP.sl (fun j _ => by
              have h1 := at_lt (j := j) hss16.out (by decide)
              show (if t ≤ j ∧ j < L then at_ ss j ^^^ 1 else at_ ss j) < 65536
              split
              · exact Nat.xor_lt_two_pow (n := 16) h1 (by decide)
              · exact h1)
            rw [hbs.out] at hS
            have hki := Lib.hid (hin.out bs hbl.out (c := c3) hS)
            have hbN : Hid (bs.length / k = N) := (hLk.out bs hbl.out).2.2
            have hb5 := Lib.hid (hb2.out.trans (hB.mono hb2.out.size))
            have hA5 := Lib.hid (hA2.out.far hB)
            have hu5 := Lib.hid (hu2.out.far hB)
            have z1 : ((k : Int) != (k : Int)) = false := by simp
            have z2 : (k != k) = false := by simp
            have hcb : Hid (∀ r, r < k → N - cn k r t ≤ b) := fun r hr => by
              have := cn_burst (V := k) (i := r) (t := t) (N := N) hr (by rw [hL.out]; omega)
              rwa [hL.out, hbb.out] at this
            clear hP hB hS hin hLk
            go_wp2_with (first
              | (go_at_call 11; (with_reducible refine hki.out.mono ?_); intro e w6 hr; obtain ⟨A6, c6, rfl, hcc6, hs, hb⟩ := hr.sw; rw [dealt_len]; have hb6 := Lib.hid (hb5.out.trans (hb.mono hb5.out.size)); have hA6 := Lib.hid (hA5.out.far hb); have hu6 := Lib.hid (hu5.out.far hb); have hv6 := Lib.hid hs; clear hb hs hr hki hA5 hu5 hb5)
              | (go_at_call 16; (with_reducible refine (hbu.out _).mono ?_); rintro e w7 ⟨rfl, rfl⟩))
            have hbat : Hid (∀ q, q < L → at_ bs q = if t ≤ q then at_ ss q ^^^ 1 else at_ ss q) := fun q hq => by
              rw [← hbs.out, at_rm, if_pos hq]
              by_cases h : t ≤ q
              · rw [if_pos ⟨h, hq⟩, if_pos h]
              · rw [if_neg (fun e => h e.1), if_neg h]
            clear hbs hbl hcc6 hcc2 hA2 hu2 hb2
            go_loopw [16] (fun p wr => ∃ r : Nat, r ≤ k ∧ p = .int .i64 r ∧ Below w6.heap.size w6 wr) (fun p _ => k - (intOf p).toNat)
            case atStart => exact ⟨0, Nat.zero_le _, rfl, Below.refl _ _⟩
            case round =>
              obtain ⟨r, hr, rfl, hB⟩ := hrel
              by_cases hrk : r < k
              · have hrI : (r : Int) < (k : Int) := by omega
                have hdr : decide (r < k) = true := decide_eq_true hrk
                have hbur := Lib.hid (hcb.out r hrk)
                obtain ⟨C, hC⟩ : ∃ C, Hid (cn k r t = C) := ⟨_, Lib.hid rfl⟩
                have hClt : Hid (∀ j, j * k + r < t ↔ j < C) := fun j => by rw [← hC.out]; exact cn_lt hrk
                rw [hC.out] at hbur
                replace hB := Lib.hid hB
                go_wp2_with fail
                go_loopw [17, 18] (fun m p wr => ∃ j : Nat, j ≤ N ∧ p = .int .i64 j ∧ m = .int .i64 ((j - C : Nat) : Int) ∧ Below w6.heap.size w6 wr) (fun _ p _ => N - (intOf p).toNat)
                case atStart => exact ⟨0, Nat.zero_le _, rfl, by rw [Nat.zero_sub]; rfl, hB.out⟩
                case round =>
                  clear hB
                  obtain ⟨j, hj, rfl, rfl, hB⟩ := hrel
                  by_cases hjN : j < N
                  · have hjI : (j : Int) < (N : Int) := by omega
                    have hdj : decide (j < N) = true := decide_eq_true hjN
                    have hlt2 : j * k + r < L := by
                      have h1 : (j + 1) * k ≤ N * k := Nat.mul_le_mul_right _ hjN
                      rw [Nat.add_mul, hL.out] at h1
                      omega
                    obtain ⟨q, hq⟩ : ∃ q, j * k + r = q := ⟨_, rfl⟩
                    have hqI : (j : Int) * (k : Int) + (r : Int) = (q : Int) := by rw [← hq]; push_cast; rfl
                    have hClq := (hClt.out j)
                    rw [hq] at hlt2 hClq
                    have hqL : (q : Int) < (L : Int) := by omega
                    have hbq := hbat.out q hlt2
                    obtain ⟨a1, d1', cc1, rfl, hca1, hcd1⟩ := sw_dealt_at (hu6.out.below hB) hLN.out hrk hjN
                    obtain ⟨a2, d2', cc2, rfl, hca2, hcd2⟩ := sw_dealt_at (hv6.out.below hB) hbN.out hrk hjN
                    obtain ⟨_, e, _, hcs⟩ := (hA6.out.below hB).at_ (i := q) (by rw [hsl2.out]; exact hlt2)
                    injection e with e
                    subst e
                    rw [← at_get (by rw [hsl2.out]; exact hlt2)] at hcs
                    rw [hq] at hcd1 hcd2
                    rw [hbq] at hcd2
                    obtain ⟨X, hX⟩ : ∃ X, Hid (at_ ss q = X) := ⟨_, Lib.hid rfl⟩
                    rw [hX.out] at hcs hcd1 hcd2
                    have hn1 : ((X : Int) != (X : Int)) = false := by simp
                    replace hB := Lib.hid hB
                    by_cases hcase : t ≤ q
                    · rw [if_pos hcase] at hcd2
                      have hX1 := xor1_ne X
                      generalize X ^^^ 1 = Y at *
                      have hn2 : ((X : Int) != (Y : Int)) = true := by simp; omega
                      have hstep : Hid (((j - C : Nat) : Int) + 1 = ((j + 1 - C : Nat) : Int)) := by unfold Hid; omega
                      have hsm : j - C ≤ 2000 := by omega
                      obtain ⟨M, hM⟩ : ∃ M, Hid (j - C = M) := ⟨_, Lib.hid rfl⟩
                      rw [hM.out] at hstep hsm ⊢
                      clear hX1 hClq hcase hbq
                      go_wp2_with fail
                      go_quiet (fail)
                      go_wp2_with fail
                      go_quiet (fail)
                      go_wp2_with fail
                      go_roundw
                      case rel => exact ⟨j + 1, by omega, by go_num, by rw [← hstep.out]; try go_num, below_drewN hB.out _⟩
                      case measure => simp [intOf]; omega
                    · rw [if_neg hcase] at hcd2
                      have hz : Hid (j - C = 0 ∧ j + 1 - C = 0) := by
                        have := hClq.1 (by omega)
                        unfold Hid
                        omega
                      rw [hz.out.1]
                      clear hClq hcase hbq
                      go_wp2_with fail
                      go_quiet (fail)
                      go_wp2_with fail
                      go_quiet (fail)
                      go_wp2_with fail
                      go_roundw
                      case rel => exact ⟨j + 1, by omega, by go_num, by rw [hz.out.2]; try rfl, below_drewN hB.out _⟩
                      case measure => simp [intOf]; omega
                  · obtain rfl : j = N := by omega
                    have hdj : decide (j < j) = false := decide_eq_false (Nat.lt_irrefl _)
                    obtain ⟨a1, D1, cc1, rfl, _, hca1, _⟩ := sw_dealt_row (hu6.out.below hB) hLN.out hrk
                    have hbur2 := hbur.out
                    obtain ⟨M, hM⟩ : ∃ M, j - C = M := ⟨_, rfl⟩
                    rw [hM] at hbur2 ⊢
                    have hdm : decide ((b : Int) < (M : Int)) = false := by rw [decide_eq_false_iff_not]; omega
                    have hdm2 : decide (b < M) = false := by rw [decide_eq_false_iff_not]; omega
                    replace hB := Lib.hid hB
                    clear hM hbur2
                    go_wp2_with fail
                    go_roundw
                    case rel => exact ⟨r + 1, by omega, by go_num, hB.out⟩
                    case measure => simp [intOf]; omega
              · obtain rfl : r = k := by omega
                have hdr : decide (r < r) = false := decide_eq_false (Nat.lt_irrefl _)
                replace hB := Lib.hid hB
                go_wp2_with fail
                go_ret
                exact ⟨rfl, hb6.out.trans (hB.out.mono hb6.out.size)⟩
end Go.Proofs.Ytpanmjohmgjigaa
namespace Go.Proofs.Ytpanmjohmgjigaa.weavePlaces
open Go.ChangeShapes Go.WideShapes Go.ChangeAt Go.RowKit Go.Gf
set_option linter.unusedVariables false

theorem own : ownKnob Try.prog.godebug = none := by kernel_rfl

theorem walk (a0 : Int) (w0 : (Lit.int .u8 a0).wf = true) (A1 : Option Addr) (x1 : List Nat) (c1 : Nat) (l1 : x1.length ≤ c1) (m1 : c1 ≤ maxLen) (a2 : Int) (w2 : (Lit.int .u16 a2).wf = true) (w : World) (s1 : Sl w w.heap.size A1 x1) :
    Calls Try.prog 6 #[.int .u8 a0, .slice A1 x1.length c1, .int .u16 a2] w fun e w' => e = .returned (.bool true) ∧ Below w.heap.size w w' := places_law a0 w0 A1 x1 c1 l1 m1 a2 w2 w s1

set_option maxRecDepth 100000 in
theorem lifted (os : Os) (started : os.Started) (H : Type) (enc : TypeId × Value → H) :
    ReturnsInHanded {} Try.checked os 6 .any (Rows.weavePlacesSpec.pre6 enc Try.prog Try.f6 Rows.weavePlacesRow.domain false) (Rows.weavePlacesSpec.post enc Try.prog Try.f6 false true false false) := by
  refine returnsInHanded_of_change (C := Try.checked) own started (by kernel_rfl) Try.func6
    (ChangeSpec.witness6 (enc := enc) (C := Try.checked) false ⟨#[], #[.int .u8 0, .slice none 0 0, .int .u16 0], []⟩ 8 (by kernel_rfl) (by kernel_rfl) (by kernel_rfl) (by kernel_rfl)) ?_
  intro W base args ds gs before hval0 hW hcnd _
  have hval : ∀ (j : Nat) t v, Try.f6.params[j]? = some t → args[j]? = some v → Value.okWide Try.prog W .any base t v := hval0
  have hW' := hW
  obtain ⟨p, q, hA0, hV, rfl, hfz, hnd⟩ := hW
  have hA : DataW.TrodAll enc Try.prog W 0 (fun _ => true) true Try.f6.params.toList args.toList ds p := hA0
  rw [Try.params6] at hA hval
  obtain ⟨v0, vs0, d0, ds0, p0, q0, hargs, rfl, rfl, h0, r0⟩ := trodAll_cons hA
  obtain ⟨v1, vs1, d1, ds1, p1, q1, rfl, rfl, rfl, h1, r1⟩ := trodAll_cons r0
  obtain ⟨v2, vs2, d2, ds2, p2, q2, rfl, rfl, rfl, h2, r2⟩ := trodAll_cons r1
  obtain ⟨rfl, rfl, rfl⟩ := trodAll_nil r2
  obtain rfl : args = #[v0, v1, v2] := by cases args; simp_all
  obtain ⟨rfl, rfl⟩ := trodVars_none hV
  obtain ⟨a0, rfl, rfl, rfl, w0⟩ := open_int Try.underlying5 (hval 0 5 v0 rfl rfl) h0
  obtain ⟨A1, x1, c1, rfl, l1, m1, s1, t1⟩ := open_sl Try.underlying23 Try.underlying37 (by kernel_rfl : Try.prog.cellsOf 37 = 1) (hval 1 23 v1 rfl rfl) h1
  obtain ⟨a2, rfl, rfl, rfl, w2⟩ := open_int Try.underlying37 (hval 2 37 v2 rfl rfl) h2
  clear hA0 hval0
  refine (walk a0 w0 A1 x1 c1 l1 m1 a2 w2 W s1).mono fun e W' ⟨he, hg⟩ => ?_
  subst he
  exact ⟨_, rfl, Cl.post_below (pv := []) hW' (fun _ _ _ => (trodAll_cons_mk (shut_bool Try.underlying4 _) trodAll_mk0)) (fun sp hsp => (trodAll_cons_mk (shut_int Try.underlying5 w0) (trodAll_cons_mk (t1 W' hg sp (fun q hq => hsp q (by simp [hq]))) (trodAll_cons_mk (shut_int Try.underlying37 w2) trodAll_mk0)))) (fun _ _ => rfl) rfl
    hg (ok_one (by kernel_rfl) rfl (okWide_bool_mk Try.underlying4 _))⟩

theorem over : Rows.weavePlacesRow.holds Try.pinned (OpenSpec.ofChange Rows.weavePlacesSpec) :=
  OpenClaim.holds_of_wide 6 Try.f6 rfl rfl rfl rfl rfl rfl rfl ⟨rfl, rfl, rfl, rfl, rfl⟩ rfl rfl rfl rfl rfl (by kernel_rfl) Try.func6 (by kernel_rfl)
    (of_decide_eq_true (by kernel_rfl)) (by unfold Func.isWrapper; first | (rw [if_pos (by decide +kernel)]; kernel_rfl) | (rw [if_neg (by decide +kernel)]; exact ⟨rfl, rfl⟩))
    (fun os started H enc _ => lifted os started H enc)

/-- THE STATEMENT -/
theorem proved : Rows.WeavePlacesSaid := over
end Go.Proofs.Ytpanmjohmgjigaa.weavePlaces
