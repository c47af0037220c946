/- The places of what is wrong. -/
import Derived.Test.YtnndhbppgmnefaaYi
import Derived.Test.YtnndhbppgmnefaaCl
import Derived.Test.YtnndhbppgmnefaaYs
import Derived.KernelRfl
namespace Go.Proofs.Ytnndhbppgmnefaa
open Go.RowKit Go.Gf Go.Fl
set_option linter.unusedVariables false
set_option linter.unusedSimpArgs false
attribute [local go_sem ↓] Cl.quiet_after

/-- the program's Slice of whole points -/
theorem pslice_any {x y : Nat} {a b : Int} (hx : Is x (a : Rat)) (hy : Is y (b : Rat)) (ha : -1000000 ≤ a ∧ a ≤ 1000000) (hb : -1000000 ≤ b ∧ b ≤ 1000000) (w : World) :
    Calls Try.prog 52 #[.complex .f64 x y] w fun e w' => e = .returned (.int .u16 (slc a b)) ∧ w = w' := by
  have n1 := near_of x a (lev a).toNat hx (by unfold lev; omega) (by omega) (by omega) (by unfold lev; omega) (by unfold lev; omega)
  have n2 := near_of y b (lev b).toNat hy (by unfold lev; omega) (by omega) (by omega) (by unfold lev; omega) (by unfold lev; omega)
  have := slice_any x y _ _ w n1 n2
  have e : (32 * (((lev a).toNat : Nat) : Int) + (((lev b).toNat : Nat) : Int)) = slc a b := by
    unfold slc
    have := lev_le a
    have := lev_le b
    omega
  rw [e] at this
  exact this
def wrongTo (ps : List (Int × Int)) (ss : List Nat) (i : Nat) : List Nat := (List.range i).filter fun j => bad (ptAt ps j) (syAt ss j)
theorem wrongTo_step (ps : List (Int × Int)) (ss : List Nat) (i : Nat) : wrongTo ps ss (i + 1) = if bad (ptAt ps i) (syAt ss i) = true then wrongTo ps ss i ++ [i] else wrongTo ps ss i := by
  unfold wrongTo
  rw [List.range_succ, List.filter_append]
  by_cases h : bad (ptAt ps i) (syAt ss i) = true
  · rw [if_pos h]; simp [h]
  · rw [if_neg h]; simp [h]
theorem wrongTo_len (ps : List (Int × Int)) (ss : List Nat) (i : Nat) : (wrongTo ps ss i).length ≤ i := by
  unfold wrongTo
  exact Nat.le_trans (List.length_filter_le _ _) (by simp)
theorem lex14_7 : (Cl.opsAt 7 (Try.f34.body.getD .skip)).map (Region.lexB .any) = some true := by kernel_rfl
attribute [local go_sem] run_store_cx
set_option maxRecDepth 20000 in
set_option maxHeartbeats 4000000 in
theorem p_wrong {w : World} {F : Nat → Prop} {p : Addr} {ps : List (Int × Int)} {ss : List Nat} {st : Int} (h : Page w F p ps ss st) {l : List Nat} {m : Nat} (hl : (if st = 1 then wrongI ps ss else []) = l) (hm : l.length = m) :
    Calls Try.prog 34 #[.pointer (some p)] w fun e w' => ∃ A c, e = .returned (.slice A m c) ∧ Below w.heap.size w w' ∧ Ints w' w.heap.size A l := by
  obtain ⟨⟨g, k, d, rfl, hg, hgl, hk', hkl, hgk, hfr, c0, c1, hr, hc⟩, hbd, hn⟩ := h
  by_cases hst : st = 1
  · subst hst
    rw [if_pos rfl] at hl
    obtain ⟨n, hpn⟩ : ∃ n, ps.length = n := ⟨_, rfl⟩
    rw [hpn] at c0 hn hc
    have hlw : Hid (wrongTo ps ss n = l) := by rw [← hl]; unfold wrongI; rw [hpn]; rfl
    replace hbd := Lib.hid hbd
    replace hc := Lib.hid hc
    clear hpn hl hr hfr
    go_enter Try.func34, Try.ntmps34
    go_wp2_with fail
    go_loopw [3, 20] (fun v q wr => ∃ i : Nat, i ≤ n ∧ q = .int .i64 i ∧ OwnI w wr v (wrongTo ps ss i) ∧ Below w.heap.size w wr) (fun _ q _ => n - (intOf q).toNat)
    case atStart => exact ⟨0, Nat.zero_le _, rfl, OwnI.nil _ _, Below.refl _ _⟩
    case round =>
      obtain ⟨i, hi, rfl, hO, hB⟩ := hrel
      by_cases hin : i < n
      · have hiI : (i : Int) < (n : Int) := by omega
        have hdi : decide (i < n) = true := decide_eq_true hin
        obtain ⟨⟨x, y, hxy, hx, hy⟩, X, hs, hsX⟩ := hc.out i hin
        have hxr : wr.cell? ⟨k, i * 2, none⟩ = some (.complex .f64 x y) := (hB.cell (p := ⟨k, i * 2, none⟩) hkl).trans hxy
        have hsr : wr.cell? ⟨k, i * 2 + 1, none⟩ = some (.int .u16 (X : Int)) := (hB.cell (p := ⟨k, i * 2 + 1, none⟩) hkl).trans hs
        have hX := hsX rfl
        have hb1 := hbd.out i
        have hstp := wrongTo_step ps ss i
        have hlen := wrongTo_len ps ss i
        rw [← hX] at hstp
        obtain ⟨L', hL'⟩ : ∃ L', wrongTo ps ss (i + 1) = L' := ⟨_, rfl⟩
        have hst2 := Lib.hid hL'
        rw [hL'] at hstp
        clear hL' hX hsX hs hxy
        obtain ⟨q, hq⟩ : ∃ q, ptAt ps i = q := ⟨_, rfl⟩
        rw [hq] at hx hy hb1 hstp
        obtain ⟨a, b⟩ := q
        dsimp only at hx hy hb1
        have hsl2 := Lib.hid (pslice_any hx hy (by omega) (by omega))
        have o1 := ord_eq_i hx is_zero'
        have o2 := ord_eq_i hy is_zero'
        have hbad : bad (a, b) X = ((decide (a = 0) && decide (b = 0)) || decide (slc a b ≠ (X : Int))) := by
          unfold bad
          congr 1
          rw [Bool.eq_iff_iff, Bool.and_eq_true, decide_eq_true_eq, decide_eq_true_eq, decide_eq_true_eq, Prod.mk.injEq]
        have hz := (show (slc a b != (X : Int)) = decide (slc a b ≠ (X : Int)) from by rw [Bool.eq_iff_iff]; simp)
        clear hx hy hb1 hq
        generalize slc a b = SL at *
        generalize decide (a = 0) = O1 at *
        generalize decide (b = 0) = O2 at *
        generalize decide (SL ≠ (X : Int)) = Z at *
        rw [hbad] at hstp
        have hA := below_alloc' wr (.cells #[.complex .f64 x y, .int .u16 (X : Int)] 103)
        have hz2 := World.size_alloc wr (.cells #[.complex .f64 x y, .int .u16 (X : Int)] 103)
        have hk0 := Lib.hid (show (wr.alloc (.cells #[.complex .f64 x y, .int .u16 (X : Int)] 103)).cell? ⟨wr.heap.size, 0, none⟩ = some (.complex .f64 x y) from cell_new wr #[.complex .f64 x y, .int .u16 (X : Int)] 103 0)
        have hk1 := Lib.hid (show (wr.alloc (.cells #[.complex .f64 x y, .int .u16 (X : Int)] 103)).cell? ⟨wr.heap.size, 1, none⟩ = some (.int .u16 (X : Int)) from cell_new wr #[.complex .f64 x y, .int .u16 (X : Int)] 103 1)
        have hO1 := Lib.hid (hO.alloc (.cells #[.complex .f64 x y, .int .u16 (X : Int)] 103))
        have hB1 := Lib.hid (hB.trans (hA.mono hB.size))
        replace hz2 := Lib.hid (show wr.heap.size < (wr.alloc (.cells #[.complex .f64 x y, .int .u16 (X : Int)] 103)).heap.size from by rw [hz2]; omega)
        have h6 : i < 65536 := by omega
        clear hbad hA hO hB
        cases O1 <;> cases O2 <;> cases Z
        all_goals
          go_wp2_with fail
          generalize hw2 : wr.alloc (.cells #[.complex .f64 x y, .int .u16 (X : Int)] 103) = w2 at hk0 hk1 hO1 hB1 hz2 ⊢
          have k0 := fun z : Cl.After w2.heap.size w2 => (show z.w.cell? ⟨wr.heap.size, 0, none⟩ = some (.complex .f64 x y) from (z.below.cell (p := ⟨wr.heap.size, 0, none⟩) hz2.out).trans hk0.out)
          have k1 := fun z : Cl.After w2.heap.size w2 => (show z.w.cell? ⟨wr.heap.size, 1, none⟩ = some (.int .u16 (X : Int)) from (z.below.cell (p := ⟨wr.heap.size, 1, none⟩) hz2.out).trans hk1.out)
          clear hw2
          refine Cl.region_after_at w2.heap.size (by kernel_rfl) lex14_7 (by kernel_rfl) ?_
          try simp only [List.append]
          repeat (go_big_quiet_step (first | (go_at_call 52; with_reducible exact Cl.after_same (hsl2.out _))))
          refine wpQuiet_nil ?_
          rintro _ ⟨z, rfl⟩
          clear k0 k1
          have hO2 := Lib.hid (hO1.out.below z.below)
          have hB2 := Lib.hid (hB1.out.trans (z.below.mono hB1.out.size))
          clear hO1 hB1 hk0 hk1 hz2
          generalize z.w = w4 at *
          first
            | (rw [if_neg (by decide)] at hstp
               go_wp2_with fail
               go_roundw
               case rel => exact ⟨i + 1, by omega, by go_num, by rw [hst2.out, hstp]; exact hO2.out, hB2.out⟩
               case measure => simp [intOf]; omega)
            | (rw [if_pos (by decide)] at hstp
               have hO3 := Lib.hid (hO2.out.alloc (.cells #[.int .i64 (i : Int)] 3))
               have hA3 := below_alloc' w4 (.cells #[.int .i64 (i : Int)] 3)
               have hB3 := Lib.hid (hB2.out.trans (hA3.mono hB2.out.size))
               have hyc := Lib.hid (show (w4.alloc (.cells #[.int .i64 (i : Int)] 3)).cell? ⟨w4.heap.size, 0, none⟩ = some (.int .i64 (i : Int)) from cell_new w4 #[.int .i64 (i : Int)] 3 0)
               have hlen2 := Lib.hid (show (wrongTo ps ss i).length ≤ 1000000 from by omega)
               clear hA3 hO2 hB2
               go_wp2_with (first
                 | (refine app_num (w0 := w) rfl (.tmp 36) (.tmp 38) rfl _ _ rfl hO3.out hB3.out.size w4.heap.size rfl i hyc.out hlen2.out ?_))
               intro v' w' ho hg'
               rw [← hstp, ← hst2.out] at ho
               have hO4 := Lib.hid ho
               have hB4 := Lib.hid (hB3.out.grown hg' hB3.out.size (OwnI.blk hO3.out))
               clear ho hg' hO3 hB3 hyc
               go_wp2_with fail
               go_roundw
               case rel => exact ⟨i + 1, by omega, by go_num, hO4.out, hB4.out⟩
               case measure => simp [intOf]; omega)
      · obtain rfl : i = n := by omega
        have hdi : decide (i < i) = false := decide_eq_false (Nat.lt_irrefl _)
        rw [hlw.out] at hO
        obtain ⟨B, cb, rfl, hcb, hI⟩ := hO.ints
        rw [hm] at hcb ⊢
        have hI := Lib.hid hI
        have hB := Lib.hid hB
        go_wp2_with fail
        go_ret
        exact ⟨B, cb, rfl, hB.out, hI.out⟩
  · rw [if_neg hst] at hl
    subst hl
    subst hm
    have e1 : (st != 1) = true := by simpa using hst
    clear hc hr
    go_enter Try.func34, Try.ntmps34
    go_wp2_with fail
    go_ret
    exact ⟨none, 0, rfl, Below.refl _ _, Or.inl rfl⟩
end Go.Proofs.Ytnndhbppgmnefaa
