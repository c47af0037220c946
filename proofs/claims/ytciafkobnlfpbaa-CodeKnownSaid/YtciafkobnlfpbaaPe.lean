/- The program's package poly: At. -/
import Derived.Test.YtciafkobnlfpbaaPd
import Derived.WalkMore
import Derived.ScopeJumps
namespace Go.Proofs.Ytciafkobnlfpbaa
open Go.RowKit Go.Gf
attribute [local go_sem ↓] exec_load_tb Cl.quiet_since
attribute [local go_sem] tbAt_ptr tbIn_ptr

/-- a call answers v and leaves old memory as it was -/
def Leaves (w : World) (v : Value) (e : Ending) (w' : World) : Prop := e = .returned v ∧ Below w.heap.size w w'
/-- the loop of At -/
def AtR (w : World) (h : Nat) (cs : List Nat) (wr : World) : Prop := Below w.heap.size w wr ∧ Tb wr h cs

set_option maxRecDepth 20000 in
set_option maxHeartbeats 4000000 in
theorem pat_any (cs : List Nat) (hcs : cs.length = 2047) (A : Option Addr) (ca : Nat) (xs : List Nat) (x : Int) (w : World) (ha : Sl w w.heap.size A xs)
    (hla : xs.length ≤ 1000000) (x0 : 0 ≤ x) (x1 : x < 65536) :
    Calls Try.prog 34 #[.agg (cells cs), .slice A xs.length ca, .int .u16 x] w (Leaves w (.int .u16 ((ev (x.toNat % 1024) xs : Nat) : Int))) := by
  have HA := Lib.hid ha
  have HCS := Lib.hid hcs
  clear ha hcs
  generalize hX : x.toNat % 1024 = X
  replace hX := Lib.hid hX
  by_cases h0 : xs.length = 0
  · have hz : ((xs.length : Int) == 0) = true := by rw [beq_iff_eq]; omega
    have he : Hid (ev X xs = 0) := by rw [List.eq_nil_of_length_eq_zero h0]; exact Lib.hid rfl
    generalize ev X xs = V at he ⊢
    clear h0
    go_enter Try.func34, Try.ntmps34
    go_wp2_with fail
    go_step3
    go_wp2_with fail
    try rw [Exit.noGoto_ret]
    go_ret
    exact ⟨by rw [he.out]; rfl, (Below.refl _ _).alloc (Nat.le_refl _) _⟩
  · go_enter Try.func34, Try.ntmps34
    go_wp2_with fail
    refine wp_scope_jumps 0 (fun a' w' => AtR w w.heap.size cs w' ∧ ∃ (m v : Nat) (u9 u10 u11 u12 u13 u14 u15 u16 u17 u18 u19 u20 u21 u22 u23 u24 u25 u26 u27 u28 u29 : Value), a' = { tmps := #[.agg (cells cs), .slice A xs.length ca, .int .u16 x, .pointer (some ⟨w.heap.size, 0, none⟩), undef, undef, .int .u16 0, .int .i64 m, .int .u16 v, u9, u10, u11, u12, u13, u14, u15, u16, u17, u18, u19, u20, u21, u22, u23, u24, u25, u26, u27, u28, u29], defers := [] } ∧ m < xs.length ∧ Hid (v = gm (ev X (xs.drop (m + 1))) X)) (fun a' _ => (intOf (a'.tmps.getD 7 undef)).toNat) rfl ?_ ?_
    · go_wp2_with fail
      obtain ⟨m, hmN⟩ : ∃ m, m + 1 = xs.length := ⟨xs.length - 1, by omega⟩
      have hmI : (xs.length : Int) - 1 = (m : Int) := by omega
      rw [hmI]
      obtain ⟨v, hv0⟩ : ∃ v : Nat, v = 0 := ⟨0, rfl⟩
      have hm : m < xs.length := by omega
      have hv : Hid (v = gm (ev X (xs.drop (m + 1))) X) := by
        rw [hmN, List.drop_length, hv0]
        exact Lib.hid (gm_zero_left X).symm
      have hR : AtR w w.heap.size cs (w.alloc (.cells (cells cs) 28)) := ⟨(Below.refl _ _).alloc (Nat.le_refl _) _, tb_new w cs⟩
      have hvI : (0 : Int) = (v : Int) := by omega
      generalize hw' : w.alloc (.cells (cells cs) 28) = w' at hR ⊢
      clear hw' hmI
      go_step3
      obtain ⟨ad, hAe, hab, hcell⟩ := (HA.out.below hR.1).at_ hm
      have hxm := HA.out.1 xs[m] (List.getElem_mem hm)
      have hV := ev_lt X (xs.drop m)
      have hv2 : v < 1024 := by rw [hv.out]; exact gm_lt _ (ev_lt _ _)
      have hAdd : AddIs v xs[m] ((ev X (xs.drop m) : Nat) : Int) := addIs (by omega) (by omega) (by omega) (by omega) (by
        unfold addI
        rw [Int.toNat_natCast, Int.toNat_natCast, ev_drop hm, ← hv.out, xor_mod, Nat.mod_eq_of_lt hv2])
      rw [← hvI] at hAdd
      clear hvI hv0
      by_cases hm0 : m = 0
      · have hz : ((m : Int) == 0) = true := by rw [beq_iff_eq]; omega
        have he : Hid (ev X (xs.drop m) = ev X xs) := by rw [hm0, List.drop_zero]; exact Lib.hid rfl
        subst hAe
        generalize ev X (xs.drop m) = V at *
        clear hv hm0
        go_wp2_with (go_at_call 56; (with_reducible refine (hAdd.at _).mono ?_); rintro e w1 ⟨rfl, rfl⟩)
        simp only [Exit.jump]
        go_ret
        exact ⟨by rw [he.out]; rfl, hR.1⟩
      · obtain ⟨m1, hm1⟩ : ∃ m1, m = m1 + 1 := ⟨m - 1, by omega⟩
        subst hAe
        have hMul : MulIs ((ev X (xs.drop m) : Nat) : Int) x ((gm (ev X (xs.drop m)) X : Nat) : Int) := mulIs (by omega) (by omega) x0 x1 (by
          unfold mulI
          rw [Int.toNat_natCast, hX.out, Nat.mod_eq_of_lt hV])
        have hnext : Hid (gm (ev X (xs.drop m)) X = gm (ev X (xs.drop (m1 + 1))) X) := by rw [hm1]; exact Lib.hid rfl
        generalize ev X (xs.drop m) = V at *
        have hz : ((m : Int) == 0) = false := by rw [beq_eq_false_iff_ne]; omega
        have hjj : (m : Int) - 1 = (m1 : Int) := by omega
        have hi := hR.2.is HCS.out
        have ho := hR.2.of
        replace hR := Lib.hid hR
        replace hm1 := Lib.hid hm1
        clear hv hm0
        go_wp2_with (first
          | (go_at_call 56; (with_reducible refine (hAdd.at _).mono ?_); rintro e w1 ⟨rfl, rfl⟩)
          | (go_at_call 23; (with_reducible refine (hMul.at cs _).mono ?_); rintro e w1 ⟨rfl, hb⟩; have hR2 := Lib.hid (show AtR w w.heap.size cs w1 from ⟨hR.out.1.trans (hb.mono hR.out.1.size), hR.out.2.below hb hR.out.2.lt⟩); clear hb))
        go_step3
        exact ⟨rfl, hR2.out, m1, _, _, _, _, _, _, _, _, _, _, _, _, _, _, _, _, _, _, _, _, _, _, rfl, by have := hm1.out; omega, hnext⟩
    · rintro a' w' ⟨hR, m, v, u9, u10, u11, u12, u13, u14, u15, u16, u17, u18, u19, u20, u21, u22, u23, u24, u25, u26, u27, u28, u29, rfl, hm, hv⟩
      obtain ⟨ad, hAe, hab, hcell⟩ := (HA.out.below hR.1).at_ hm
      have hxm := HA.out.1 xs[m] (List.getElem_mem hm)
      have hV := ev_lt X (xs.drop m)
      have hv2 : v < 1024 := by rw [hv.out]; exact gm_lt _ (ev_lt _ _)
      have hAdd : AddIs v xs[m] ((ev X (xs.drop m) : Nat) : Int) := addIs (by omega) (by omega) (by omega) (by omega) (by
        unfold addI
        rw [Int.toNat_natCast, Int.toNat_natCast, ev_drop hm, ← hv.out, xor_mod, Nat.mod_eq_of_lt hv2])
      by_cases hm0 : m = 0
      · have hz : ((m : Int) == 0) = true := by rw [beq_iff_eq]; omega
        have he : Hid (ev X (xs.drop m) = ev X xs) := by rw [hm0, List.drop_zero]; exact Lib.hid rfl
        subst hAe
        generalize ev X (xs.drop m) = V at *
        clear hv hm0
        go_wp2_with (go_at_call 56; (with_reducible refine (hAdd.at _).mono ?_); rintro e w1 ⟨rfl, rfl⟩)
        simp only [Exit.jump]
        go_ret
        exact ⟨by rw [he.out]; rfl, hR.1⟩
      · obtain ⟨m1, hm1⟩ : ∃ m1, m = m1 + 1 := ⟨m - 1, by omega⟩
        subst hAe
        have hMul : MulIs ((ev X (xs.drop m) : Nat) : Int) x ((gm (ev X (xs.drop m)) X : Nat) : Int) := mulIs (by omega) (by omega) x0 x1 (by
          unfold mulI
          rw [Int.toNat_natCast, hX.out, Nat.mod_eq_of_lt hV])
        have hnext : Hid (gm (ev X (xs.drop m)) X = gm (ev X (xs.drop (m1 + 1))) X) := by rw [hm1]; exact Lib.hid rfl
        generalize ev X (xs.drop m) = V at *
        have hz : ((m : Int) == 0) = false := by rw [beq_eq_false_iff_ne]; omega
        have hjj : (m : Int) - 1 = (m1 : Int) := by omega
        have hi := hR.2.is HCS.out
        have ho := hR.2.of
        replace hR := Lib.hid hR
        replace hm1 := Lib.hid hm1
        clear hv hm0
        go_wp2_with (first
          | (go_at_call 56; (with_reducible refine (hAdd.at _).mono ?_); rintro e w1 ⟨rfl, rfl⟩)
          | (go_at_call 23; (with_reducible refine (hMul.at cs _).mono ?_); rintro e w1 ⟨rfl, hb⟩; have hR2 := Lib.hid (show AtR w w.heap.size cs w1 from ⟨hR.out.1.trans (hb.mono hR.out.1.size), hR.out.2.below hb hR.out.2.lt⟩); clear hb))
        go_step3
        refine ⟨rfl, ⟨hR2.out, m1, _, _, _, _, _, _, _, _, _, _, _, _, _, _, _, _, _, _, _, _, _, _, rfl, by have := hm1.out; omega, hnext⟩, ?_⟩
        have := hm1.out
        simp [intOf]; omega
end Go.Proofs.Ytciafkobnlfpbaa
