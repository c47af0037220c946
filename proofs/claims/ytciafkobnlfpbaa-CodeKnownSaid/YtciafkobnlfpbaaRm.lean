/- The reference's products of polynomials. -/
import Derived.Test.YtciafkobnlfpbaaRp
namespace Go.Proofs.Ytciafkobnlfpbaa
open Go.RowKit Go.Gf

theorem tr_bd (xs : List Nat) : ∀ x ∈ tr xs, x < 1024 := by
  intro x hx
  unfold tr at hx
  have h1 := List.mem_reverse.1 hx
  have h2 := (List.dropWhile_suffix (fun x => x == 0)).subset h1
  have h3 := List.mem_reverse.1 h2
  obtain ⟨y, _, rfl⟩ := List.mem_map.1 h3
  omega
theorem tr_len (xs : List Nat) : (tr xs).length ≤ xs.length := by
  unfold tr
  rw [List.length_reverse]
  have := (List.dropWhile_suffix (fun x : Nat => x == 0) (l := (xs.map (· % 1024)).reverse)).length_le
  simpa using this
theorem Fresh.sl {w w' : World} {s : Value} {ys : List Nat} (h : Fresh w w' s ys) : ∃ A c, s = .slice A ys.length c ∧ Sl w' w'.heap.size A ys ∧ Below w.heap.size w w' := by
  obtain ⟨hb, hy, h3⟩ := h
  rcases h3 with ⟨rfl, rfl⟩ | ⟨g, hg, rfl, ha⟩
  · exact ⟨none, 0, rfl, Sl.nil _ _ _, hb⟩
  · exact ⟨_, _, rfl, ha.sl hy, hb⟩
theorem Sl.far {w w' : World} {A : Option Addr} {xs : List Nat} (h : Sl w w.heap.size A xs) (hb : Below w.heap.size w w') : Sl w' w'.heap.size A xs := (h.below hb).more hb.size

/-- a slice that holds xs, made when the heap had at least lo blocks -/
def SlF (w : World) (lo : Nat) (A : Option Addr) (xs : List Nat) : Prop := Sl w w.heap.size A xs ∧ (xs = [] ∨ ∃ a, A = some a ∧ lo ≤ a.block)
theorem SlF.far {w w' : World} {lo : Nat} {A : Option Addr} {xs : List Nat} (h : SlF w lo A xs) (hb : Below w.heap.size w w') : SlF w' lo A xs := ⟨h.1.far hb, h.2⟩
theorem SlF.lo {w : World} {lo lo' : Nat} {A : Option Addr} {xs : List Nat} (h : SlF w lo A xs) (hl : lo' ≤ lo) : SlF w lo' A xs := by
  refine ⟨h.1, ?_⟩
  rcases h.2 with e | ⟨a, e, h2⟩
  · exact Or.inl e
  · exact Or.inr ⟨a, e, by omega⟩
theorem Fresh.slf {w w' : World} {s : Value} {ys : List Nat} (h : Fresh w w' s ys) : ∃ A c, s = .slice A ys.length c ∧ SlF w' w.heap.size A ys ∧ Below w.heap.size w w' := by
  obtain ⟨A, c, h1, h2, h3⟩ := h.sl
  refine ⟨A, c, h1, ⟨h2, ?_⟩, h3⟩
  obtain ⟨_, _, h4⟩ := h
  rcases h4 with ⟨_, e⟩ | ⟨g, hg, e, _⟩
  · exact Or.inl e
  · right
    rw [h1] at e
    injection e with e
    exact ⟨_, e, hg⟩

/-- one row of the product: f, with x times the first k of ys added from place i on -/
def mrow (f : Nat → Nat) (x : Nat) (ys : List Nat) (i : Nat) : Nat → Nat → Nat
  | 0, j => f j
  | k + 1, j => if j = i + k then mrow f x ys i k j ^^^ gm x (at_ ys k) else mrow f x ys i k j
/-- the first i rows of the product -/
def mall (xs ys : List Nat) : Nat → Nat → Nat
  | 0, _ => 0
  | i + 1, j => mrow (mall xs ys i) (at_ xs i) ys i ys.length j
theorem mrow_lt {f : Nat → Nat} {x : Nat} {ys : List Nat} {i : Nat} (hf : ∀ j, f j < 1024) (hx : x < 1024) (k j : Nat) : mrow f x ys i k j < 1024 := by
  induction k with
  | zero => exact hf j
  | succ k ih =>
    unfold mrow
    split
    · exact xor_lt ih (gm_lt _ hx)
    · exact ih
theorem mall_lt {xs ys : List Nat} (hx : ∀ x ∈ xs, x < 1024) (i j : Nat) : mall xs ys i j < 1024 := by
  induction i generalizing j with
  | zero => show 0 < 1024; decide
  | succ i ih => exact mrow_lt ih (at_lt hx (by decide)) _ _
def pmul (xs ys : List Nat) : List Nat :=
  if (tr xs).length = 0 ∨ (tr ys).length = 0 ∨ 4096 < (tr xs).length + (tr ys).length - 1 then [] else tr (rm ((tr xs).length + (tr ys).length - 1) (mall (tr xs) (tr ys) (tr xs).length))
theorem refmul_still (a b : Int) (w : World) (a0 : 0 ≤ a) (a1 : a < 65536) (b0 : 0 ≤ b) (b1 : b < 65536) :
    Calls Try.prog 28 #[.int .u16 a, .int .u16 b] w fun e w' => e = .returned (.int .u16 (mulI a b)) ∧ w' = w :=
  (refmul_any a b w a0 a1 b0 b1).mono fun _ _ h => ⟨h.1, h.2.symm⟩
theorem gives_nil {w w1 : World} (h : Below w.heap.size w w1) : Gives w [] (.returned (.slice none 0 0)) w1 := ⟨_, rfl, h, by simp, Or.inl ⟨rfl, rfl⟩⟩

set_option maxHeartbeats 4000000 in
theorem refpmul_any (A B : Option Addr) (ca cb : Nat) (xs ys : List Nat) (w : World) (ha : Sl w w.heap.size A xs) (hb : Sl w w.heap.size B ys) (hla : xs.length ≤ 1000000) (hlb : ys.length ≤ 1000000) :
    Calls Try.prog 32 #[.slice A xs.length ca, .slice B ys.length cb] w (Gives w (pmul xs ys)) := by
  have HA := Lib.hid ha
  have HB := Lib.hid hb
  clear ha hb
  have HX := Lib.hid (tr_bd xs)
  have HY := Lib.hid (tr_bd ys)
  have la := tr_len xs
  have lb := tr_len ys
  have HT : Hid (pmul xs ys = if (tr xs).length = 0 ∨ (tr ys).length = 0 ∨ 4096 < (tr xs).length + (tr ys).length - 1 then [] else tr (rm ((tr xs).length + (tr ys).length - 1) (mall (tr xs) (tr ys) (tr xs).length))) := rfl
  have t1 : ∀ w, Sl w w.heap.size A xs → Calls Try.prog 40 #[.slice A xs.length ca] w (Gives w (tr xs)) := fun w h => reftrim_any A ca xs w h hla
  have t2 : ∀ w, Sl w w.heap.size B ys → Calls Try.prog 40 #[.slice B ys.length cb] w (Gives w (tr ys)) := fun w h => reftrim_any B cb ys w h hlb
  generalize pmul xs ys = T at HT
  generalize tr xs = a at *
  generalize tr ys = b at *
  by_cases hc : a.length = 0 ∨ b.length = 0 ∨ 4096 < a.length + b.length - 1
  · have HT' : Hid (T = []) := by unfold Hid; rw [HT.out, if_pos hc]
    clear HT
    by_cases ha0 : a.length = 0
    · have hz : ((a.length : Int) == 0) = true := by rw [beq_iff_eq]; omega
      clear hc ha0
      go_enter Try.func32, Try.ntmps32
      go_wp2_with (first | (go_at_call 40; (with_reducible refine (t1 _ HA.out).mono ?_); rintro e w1 ⟨s1, rfl, HF1⟩; obtain ⟨A1, c1, rfl, HS1, HB1⟩ := HF1.sl; replace HS1 := Lib.hid HS1; replace HB1 := Lib.hid HB1; clear HF1) | (go_at_call 40; (with_reducible refine (t2 _ (HB.out.far HB1.out)).mono ?_); rintro e w2 ⟨s2, rfl, HF2⟩; obtain ⟨A2, c2, rfl, HS2, HB2⟩ := HF2.sl; replace HS2 := Lib.hid HS2; replace HB2 := Lib.hid HB2; clear HF2))
      go_ret
      rw [HT'.out]
      exact gives_nil (HB1.out.trans (HB2.out.mono HB1.out.size))
    · by_cases hb0 : b.length = 0
      · have hz : ((a.length : Int) == 0) = false := by rw [beq_eq_false_iff_ne]; omega
        have hz2 : ((b.length : Int) == 0) = true := by rw [beq_iff_eq]; omega
        clear hc ha0 hb0
        go_enter Try.func32, Try.ntmps32
        go_wp2_with (first | (go_at_call 40; (with_reducible refine (t1 _ HA.out).mono ?_); rintro e w1 ⟨s1, rfl, HF1⟩; obtain ⟨A1, c1, rfl, HS1, HB1⟩ := HF1.sl; replace HS1 := Lib.hid HS1; replace HB1 := Lib.hid HB1; clear HF1) | (go_at_call 40; (with_reducible refine (t2 _ (HB.out.far HB1.out)).mono ?_); rintro e w2 ⟨s2, rfl, HF2⟩; obtain ⟨A2, c2, rfl, HS2, HB2⟩ := HF2.sl; replace HS2 := Lib.hid HS2; replace HB2 := Lib.hid HB2; clear HF2))
        go_ret
        rw [HT'.out]
        exact gives_nil (HB1.out.trans (HB2.out.mono HB1.out.size))
      · have hz : ((a.length : Int) == 0) = false := by rw [beq_eq_false_iff_ne]; omega
        have hz2 : ((b.length : Int) == 0) = false := by rw [beq_eq_false_iff_ne]; omega
        have hz3 : decide ((4096 : Int) < (a.length : Int) + (b.length : Int) - 1) = true := by rw [decide_eq_true_eq]; omega
        clear hc ha0 hb0
        go_enter Try.func32, Try.ntmps32
        go_wp2_with (first | (go_at_call 40; (with_reducible refine (t1 _ HA.out).mono ?_); rintro e w1 ⟨s1, rfl, HF1⟩; obtain ⟨A1, c1, rfl, HS1, HB1⟩ := HF1.sl; replace HS1 := Lib.hid HS1; replace HB1 := Lib.hid HB1; clear HF1) | (go_at_call 40; (with_reducible refine (t2 _ (HB.out.far HB1.out)).mono ?_); rintro e w2 ⟨s2, rfl, HF2⟩; obtain ⟨A2, c2, rfl, HS2, HB2⟩ := HF2.sl; replace HS2 := Lib.hid HS2; replace HB2 := Lib.hid HB2; clear HF2))
        go_ret
        rw [HT'.out]
        exact gives_nil (HB1.out.trans (HB2.out.mono HB1.out.size))
  · have HT' : Hid (T = tr (rm (a.length + b.length - 1) (mall a b a.length))) := by unfold Hid; rw [HT.out, if_neg hc]
    clear HT
    have ha0 : ((a.length : Int) == 0) = false := by rw [beq_eq_false_iff_ne]; omega
    have hb0 : ((b.length : Int) == 0) = false := by rw [beq_eq_false_iff_ne]; omega
    have hab : decide ((4096 : Int) < (a.length : Int) + (b.length : Int) - 1) = false := by rw [decide_eq_false_iff_not]; omega
    have hN : a.length + b.length - 1 ≤ 4096 := by omega
    have hpos : 0 < a.length ∧ 0 < b.length := by omega
    obtain ⟨ap, bp⟩ := hpos
    have hmk : ∀ w, (Instr.makeSlice 22 (.int .i64 ((a.length : Int) + (b.length : Int) - 1)) (.int .i64 ((a.length : Int) + (b.length : Int) - 1))).run Try.prog w = .ok (.slice (some ⟨w.heap.size, 0, none⟩) (a.length + b.length - 1) (a.length + b.length - 1)) (w.alloc (.cells (madeCells #[.int .u16 0] (a.length + b.length - 1)) 23)) := by
      intro w
      have := run_make_row' (P := Try.prog) 22 23 (.int .u16 0) 2 Try.underlying22 info22 rfl .i64 .i64 (a.length + b.length - 1) (by omega) (by omega) w
      rw [show ((a.length + b.length - 1 : Nat) : Int) = (a.length : Int) + (b.length : Int) - 1 by omega] at this
      exact this
    clear hc
    go_enter Try.func32, Try.ntmps32
    go_wp2_with (first | (go_at_call 40; (with_reducible refine (t1 _ HA.out).mono ?_); rintro e w1 ⟨s1, rfl, HF1⟩; obtain ⟨A1, c1, rfl, HS1, HB1⟩ := HF1.sl; replace HS1 := Lib.hid HS1; replace HB1 := Lib.hid HB1; clear HF1) | (go_at_call 40; (with_reducible refine (t2 _ (HB.out.far HB1.out)).mono ?_); rintro e w2 ⟨s2, rfl, HF2⟩; obtain ⟨A2, c2, rfl, HS2, HB2⟩ := HF2.sl; replace HS2 := Lib.hid HS2; replace HB2 := Lib.hid HB2; clear HF2))
    have HA2 := Lib.hid (HS1.out.far HB2.out)
    have HW2 := Lib.hid (HB1.out.trans (HB2.out.mono HB1.out.size))
    clear HS1 HB1 HB2
    go_loopw [6] (fun q wr => ∃ i : Nat, i ≤ a.length ∧ q = .int .i64 i ∧ Own w2 wr w2.heap.size (a.length + b.length - 1) (mall a b i)) (fun q _ => a.length - (intOf q).toNat)
    case atStart => exact ⟨0, Nat.zero_le _, rfl, (own_start w2 _).congr (fun j _ => rfl)⟩
    case round =>
      clear hmk
      obtain ⟨i, hi, rfl, HO⟩ := hrel
      by_cases hlt : i < a.length
      · have HO0 := Lib.hid (HO.congr (f' := mrow (mall a b i) (at_ a i) b i 0) (fun j _ => rfl))
        clear HO
        go_wp2
        go_loopw [7] (fun q wr => ∃ k : Nat, k ≤ b.length ∧ q = .int .i64 k ∧ Own w2 wr w2.heap.size (a.length + b.length - 1) (mrow (mall a b i) (at_ a i) b i k)) (fun q _ => b.length - (intOf q).toNat)
        case atStart => exact ⟨0, Nat.zero_le _, rfl, HO0.out⟩
        case round =>
          clear HO0
          obtain ⟨k, hk, rfl, HO⟩ := hrel
          by_cases hlt2 : k < b.length
          · obtain ⟨ad1, hA1, _, hcell1⟩ := (HA2.out.below HO.2.1).at_ hlt
            obtain ⟨ad2, hA2, _, hcell2⟩ := (HS2.out.below HO.2.1).at_ hlt2
            subst hA1 hA2
            have hik : i + k < a.length + b.length - 1 := by omega
            have hc0 := HO.cell hik
            have hfz := HO.2.2.frozen (i + k)
            have hx1 := HX.out a[i] (List.getElem_mem hlt)
            have hy1 := HY.out b[k] (List.getElem_mem hlt2)
            have hf1 := mrow_lt (f := mall a b i) (x := at_ a i) (ys := b) (i := i) (mall_lt HX.out i) (at_lt HX.out (by decide)) k (i + k)
            have hmul := mulI_nat hx1 hy1
            have hg := gm_lt b[k] hx1
            have hxor := u16_xor_nat (mrow (mall a b i) (at_ a i) b i k (i + k)) (gm a[i] b[k]) (by omega) (by omega)
            have HO' := Lib.hid ((HO.set_ (i + k) (mrow (mall a b i) (at_ a i) b i k (i + k) ^^^ gm a[i] b[k])).congr (f' := mrow (mall a b i) (at_ a i) b i (k + 1)) (by
              intro j hj
              by_cases h1 : j = i + k
              · subst h1; rw [if_pos rfl]; conv => rhs; unfold mrow
                rw [if_pos rfl, at_get hlt, at_get hlt2]
              · rw [if_neg h1]; conv => rhs; unfold mrow
                rw [if_neg h1]))
            clear HO
            generalize mrow (mall a b i) (at_ a i) b i k (i + k) = U at *
            generalize gm a[i] b[k] = G at *
            generalize U ^^^ G = V at hxor HO'
            have HM := Lib.hid (fun w => refmul_still (a[i] : Int) (b[k] : Int) w (by omega) (by omega) (by omega) (by omega))
            have s1 : IntKind.i64.wrap ((i : Int) + (k : Int)) = (i : Int) + (k : Int) := IntWalk.i64_in _ (by omega)
            have s2 : (0 : Int) ≤ (i : Int) + (k : Int) := by omega
            have s3 : (i : Int) + (k : Int) < ((a.length + b.length - 1 : Nat) : Int) := by omega
            have s4 : ((i : Int) + (k : Int)).toNat = i + k := by omega
            go_wp2
            go_still_tail 21, (by kernel_rfl)
            still_call (HM.out _)
            repeat still_step
            refine wpStill_nil ?_
            go_wp2
            clear s1 s2 s3 s4
            go_roundw
            case rel => exact ⟨k + 1, by omega, by go_num, by first | exact HO'.out | exact HO'.out.drewN _⟩
            case measure => simp [intOf]; omega
          · obtain rfl : k = b.length := by omega
            have HO' := Lib.hid (HO.congr (f' := mall a b (i + 1)) (fun j _ => rfl))
            clear HO
            go_wp2
            go_roundw
            case rel => exact ⟨i + 1, by omega, by go_num, HO'.out⟩
            case measure => simp [intOf]; omega
      · obtain rfl : i = a.length := by omega
        have HC := Lib.hid (reftrim_any (some ⟨w2.heap.size, 0, none⟩) (a.length + b.length - 1) _ wr (HO.sl (fun j _ => by have := mall_lt (ys := b) HX.out a.length j; omega)) (by rw [rm_len]; omega))
        rw [rm_len] at HC
        have HW := Lib.hid HO.2.1
        clear HO
        go_wp2_with (go_at_call 40; refine HC.out.mono ?_; rintro e w' ⟨s, rfl, HF⟩)
        go_ret
        exact ⟨s, by rw [HT'.out]; exact ⟨rfl, (HF.since HW.out).since HW2.out⟩⟩
end Go.Proofs.Ytciafkobnlfpbaa
