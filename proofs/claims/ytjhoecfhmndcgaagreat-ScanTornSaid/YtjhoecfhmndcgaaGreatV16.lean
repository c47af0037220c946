/- The reference's slopes and sums of polynomials. · The reference's sums of polynomials. · The reference's products of polynomials. · The reference's quotients of polynomials. · append onto slices of 16-bit numbers of one's own. · Polynomials over the field of 1024 numbers, by their factors: sums, products, values, slopes (plain mathematics). -/
import Derived.Test.YtjhoecfhmndcgaaGreatV15
import Derived.StillTailTactics
import Derived.Maps.AppendAt
namespace Go.Proofs.YtjhoecfhmndcgaaGreat
open Go.RowKit Go.Gf

/-- the row of n numbers that f says -/
def rm (n : Nat) (f : Nat → Nat) : List Nat := (List.range n).map f
theorem rm_len (n : Nat) (f : Nat → Nat) : (rm n f).length = n := by simp [rm]
theorem rm_get {n : Nat} {f : Nat → Nat} {i : Nat} (h : i < (rm n f).length) : (rm n f)[i] = f i := by simp [rm]
theorem rm_congr {n : Nat} {f g : Nat → Nat} (h : ∀ j, j < n → f j = g j) : rm n f = rm n g := by
  unfold rm
  exact List.map_congr_left fun j hj => h j (List.mem_range.1 hj)
theorem rm_set (n : Nat) (f : Nat → Nat) (i v : Nat) : (rm n f).set i v = rm n (fun j => if j = i then v else f j) := by
  apply List.ext_getElem
  · simp [rm]
  · intro j h1 h2
    simp [rm, List.getElem_set]
    by_cases h : i = j
    · simp [h]
    · simp [h, Ne.symm h]
theorem rm_zero (n : Nat) : List.replicate n 0 = rm n (fun _ => 0) := by
  apply List.ext_getElem
  · simp [rm]
  · intro j h1 h2; simp [rm]
theorem rm_mem {n : Nat} {f : Nat → Nat} {b : Nat} (h : ∀ j, j < n → f j < b) : ∀ x ∈ rm n f, x < b := by
  intro x hx
  obtain ⟨j, hj, rfl⟩ := List.mem_map.1 hx
  exact h j (List.mem_range.1 hj)
theorem add_pos (a : Addr) (n : Nat) (h : n ≠ 0) : a.add n = ⟨a.block, a.off + n, none⟩ := by unfold Addr.add; rw [if_neg h]
/-- the call's own row, which f says -/
def Own (w wr : World) (g n : Nat) (f : Nat → Nat) : Prop := w.heap.size ≤ g ∧ Below w.heap.size w wr ∧ Arr wr g (rm n f)
theorem own_start (w : World) (n : Nat) : Own w (w.alloc (.cells (madeCells #[.int .u16 0] n) 46)) w.heap.size n (fun _ => 0) := by
  refine ⟨Nat.le_refl _, (Below.refl _ _).alloc (Nat.le_refl _) _, ?_⟩
  rw [made_uv, rm_zero]
  exact Arr.new w _
theorem Own.set_ {w wr : World} {g n : Nat} {f : Nat → Nat} (h : Own w wr g n f) (i v : Nat) : Own w (wr.setCell ⟨g, i, none⟩ (.int .u16 (v : Int))) g n (fun j => if j = i then v else f j) := by
  refine ⟨h.1, h.2.1.setCell h.1 _, ?_⟩
  rw [← rm_set]; exact h.2.2.set_ i v
theorem Own.congr {w wr : World} {g n : Nat} {f f' : Nat → Nat} (h : Own w wr g n f) (e : ∀ j, j < n → f j = f' j) : Own w wr g n f' := by
  refine ⟨h.1, h.2.1, ?_⟩
  rw [← rm_congr e]; exact h.2.2
theorem Own.drewN {w wr : World} {g n : Nat} {f : Nat → Nat} (h : Own w wr g n f) (k : Nat) : Own w (wr.drewN k) g n f := ⟨h.1, below_drewN h.2.1 k, h.2.2⟩
theorem Own.cell {w wr : World} {g n : Nat} {f : Nat → Nat} (h : Own w wr g n f) {i : Nat} (hi : i < n) : wr.cell? ⟨g, i, none⟩ = some (.int .u16 ((f i : Nat) : Int)) := by
  have := h.2.2.cell (i := i) (by rw [rm_len]; exact hi)
  rw [rm_get] at this; exact this
theorem Own.sl {w wr : World} {g n : Nat} {f : Nat → Nat} (h : Own w wr g n f) (hf : ∀ j, j < n → f j < 65536) : Sl wr wr.heap.size (some ⟨g, 0, none⟩) (rm n f) := h.2.2.sl (rm_mem hf)
theorem Fresh.since {w w1 w2 : World} {s : Value} {ys : List Nat} (h : Fresh w1 w2 s ys) (hb : Below w.heap.size w w1) : Fresh w w2 s ys := by
  obtain ⟨b, hy, h3⟩ := h
  refine ⟨hb.trans (b.mono hb.size), hy, ?_⟩
  rcases h3 with h3 | ⟨g, hg, h4, h5⟩
  · exact Or.inl h3
  · exact Or.inr ⟨g, Nat.le_trans hb.size hg, h4, h5⟩
/-- the row's numbers, noughts behind it -/
def at_ (xs : List Nat) (j : Nat) : Nat := xs.getD j 0
theorem at_get {xs : List Nat} {j : Nat} (h : j < xs.length) : at_ xs j = xs[j] := by simp [at_, h]
theorem at_far {xs : List Nat} {j : Nat} (h : xs.length ≤ j) : at_ xs j = 0 := by simp [at_, h]
theorem at_lt {xs : List Nat} {b j : Nat} (h : ∀ x ∈ xs, x < b) (hb : 0 < b) : at_ xs j < b := by
  rcases Nat.lt_or_ge j xs.length with hj | hj
  · rw [at_get hj]; exact h _ (List.getElem_mem hj)
  · rw [at_far hj]; exact hb

/-- the formal slope, not yet without noughts at its end: the places below p laid -/
def slopeF (xs : List Nat) (p j : Nat) : Nat := if j % 2 = 0 ∧ j < p then at_ xs (j + 1) else 0
def slope (xs : List Nat) : List Nat := tr (rm xs.length fun j => if j % 2 = 0 then at_ xs (j + 1) else 0)


end Go.Proofs.YtjhoecfhmndcgaaGreat
namespace Go.Proofs.YtjhoecfhmndcgaaGreat
open Go.RowKit Go.Gf
set_option maxRecDepth 20000

def padd (xs ys : List Nat) : List Nat := tr (rm (max xs.length ys.length) fun j => at_ xs j ^^^ at_ ys j)


end Go.Proofs.YtjhoecfhmndcgaaGreat
namespace Go.Proofs.YtjhoecfhmndcgaaGreat
open Go.RowKit Go.Gf
set_option maxRecDepth 20000

theorem tr_bd (xs : List Nat) : ∀ x ∈ tr xs, x < 1024 := by
  intro x hx
  unfold tr at hx
  have h1 := List.mem_reverse.1 hx
  have h2 := (List.dropWhile_suffix (fun x => x == 0)).subset h1
  have h3 := List.mem_reverse.1 h2
  obtain ⟨y, _, rfl⟩ := List.mem_map.1 h3
  omega
theorem tr_len (xs : List Nat) : (tr xs).length ≤ xs.length := by
  unfold tr
  rw [List.length_reverse]
  have := (List.dropWhile_suffix (fun x : Nat => x == 0) (l := (xs.map (· % 1024)).reverse)).length_le
  simpa using this
theorem Fresh.sl {w w' : World} {s : Value} {ys : List Nat} (h : Fresh w w' s ys) : ∃ A c, s = .slice A ys.length c ∧ Sl w' w'.heap.size A ys ∧ Below w.heap.size w w' := by
  obtain ⟨hb, hy, h3⟩ := h
  rcases h3 with ⟨rfl, rfl⟩ | ⟨g, hg, rfl, ha⟩
  · exact ⟨none, 0, rfl, Sl.nil _ _ _, hb⟩
  · exact ⟨_, _, rfl, ha.sl hy, hb⟩
theorem Sl.far {w w' : World} {A : Option Addr} {xs : List Nat} (h : Sl w w.heap.size A xs) (hb : Below w.heap.size w w') : Sl w' w'.heap.size A xs := (h.below hb).more hb.size

/-- a slice that holds xs, made when the heap had at least lo blocks -/
def SlF (w : World) (lo : Nat) (A : Option Addr) (xs : List Nat) : Prop := Sl w w.heap.size A xs ∧ (xs = [] ∨ ∃ a, A = some a ∧ lo ≤ a.block)
theorem SlF.far {w w' : World} {lo : Nat} {A : Option Addr} {xs : List Nat} (h : SlF w lo A xs) (hb : Below w.heap.size w w') : SlF w' lo A xs := ⟨h.1.far hb, h.2⟩
/-- one row of the product: f, with x times the first k of ys added from place i on -/
def mrow (f : Nat → Nat) (x : Nat) (ys : List Nat) (i : Nat) : Nat → Nat → Nat
  | 0, j => f j
  | k + 1, j => if j = i + k then mrow f x ys i k j ^^^ gm x (at_ ys k) else mrow f x ys i k j
/-- the first i rows of the product -/
def mall (xs ys : List Nat) : Nat → Nat → Nat
  | 0, _ => 0
  | i + 1, j => mrow (mall xs ys i) (at_ xs i) ys i ys.length j
theorem mrow_lt {f : Nat → Nat} {x : Nat} {ys : List Nat} {i : Nat} (hf : ∀ j, f j < 1024) (hx : x < 1024) (k j : Nat) : mrow f x ys i k j < 1024 := by
  induction k with
  | zero => exact hf j
  | succ k ih =>
    unfold mrow
    split
    · exact xor_lt ih (gm_lt _ hx)
    · exact ih
theorem mall_lt {xs ys : List Nat} (hx : ∀ x ∈ xs, x < 1024) (i j : Nat) : mall xs ys i j < 1024 := by
  induction i generalizing j with
  | zero => show 0 < 1024; decide
  | succ i ih => exact mrow_lt ih (at_lt hx (by decide)) _ _
def pmul (xs ys : List Nat) : List Nat :=
  if (tr xs).length = 0 ∨ (tr ys).length = 0 ∨ 4096 < (tr xs).length + (tr ys).length - 1 then [] else tr (rm ((tr xs).length + (tr ys).length - 1) (mall (tr xs) (tr ys) (tr xs).length))
theorem refmul_still (a b : Int) (w : World) (a0 : 0 ≤ a) (a1 : a < 65536) (b0 : 0 ≤ b) (b1 : b < 65536) :
    Calls Tryz.prog 57 #[.int .u16 a, .int .u16 b] w fun e w' => e = .returned (.int .u16 (mulI a b)) ∧ w' = w :=
  (refmul_any a b w a0 a1 b0 b1).mono fun _ _ h => ⟨h.1, h.2.symm⟩
theorem gives_nil {w w1 : World} (h : Below w.heap.size w w1) : Gives w [] (.returned (.slice none 0 0)) w1 := ⟨_, rfl, h, by simp, Or.inl ⟨rfl, rfl⟩⟩

set_option maxHeartbeats 4000000 in
theorem refpmul_any (A B : Option Addr) (ca cb : Nat) (xs ys : List Nat) (w : World) (ha : Sl w w.heap.size A xs) (hb : Sl w w.heap.size B ys) (hla : xs.length ≤ 1000000) (hlb : ys.length ≤ 1000000) :
    Calls Tryz.prog 74 #[.slice A xs.length ca, .slice B ys.length cb] w (Gives w (pmul xs ys)) := by
  have HA := Lib.hid ha
  have HB := Lib.hid hb
  clear ha hb
  have HX := Lib.hid (tr_bd xs)
  have HY := Lib.hid (tr_bd ys)
  have la := tr_len xs
  have lb := tr_len ys
  have HT : Hid (pmul xs ys = if (tr xs).length = 0 ∨ (tr ys).length = 0 ∨ 4096 < (tr xs).length + (tr ys).length - 1 then [] else tr (rm ((tr xs).length + (tr ys).length - 1) (mall (tr xs) (tr ys) (tr xs).length))) := rfl
  have t1 : ∀ w, Sl w w.heap.size A xs → Calls Tryz.prog 105 #[.slice A xs.length ca] w (Gives w (tr xs)) := fun w h => reftrim_any A ca xs w h hla
  have t2 : ∀ w, Sl w w.heap.size B ys → Calls Tryz.prog 105 #[.slice B ys.length cb] w (Gives w (tr ys)) := fun w h => reftrim_any B cb ys w h hlb
  generalize pmul xs ys = T at HT
  generalize tr xs = a at *
  generalize tr ys = b at *
  by_cases hc : a.length = 0 ∨ b.length = 0 ∨ 4096 < a.length + b.length - 1
  · have HT' : Hid (T = []) := by unfold Hid; rw [HT.out, if_pos hc]
    clear HT
    by_cases ha0 : a.length = 0
    · have hz : ((a.length : Int) == 0) = true := by rw [beq_iff_eq]; omega
      clear hc ha0
      go_enter Tryz.func74, Tryz.ntmps74
      go_wp2_with (first | (go_at_call 105; (with_reducible refine (t1 _ HA.out).mono ?_); rintro e w1 ⟨s1, rfl, HF1⟩; obtain ⟨A1, c1, rfl, HS1, HB1⟩ := HF1.sl; replace HS1 := Lib.hid HS1; replace HB1 := Lib.hid HB1; clear HF1) | (go_at_call 105; (with_reducible refine (t2 _ (HB.out.far HB1.out)).mono ?_); rintro e w2 ⟨s2, rfl, HF2⟩; obtain ⟨A2, c2, rfl, HS2, HB2⟩ := HF2.sl; replace HS2 := Lib.hid HS2; replace HB2 := Lib.hid HB2; clear HF2))
      go_ret
      rw [HT'.out]
      exact gives_nil (HB1.out.trans (HB2.out.mono HB1.out.size))
    · by_cases hb0 : b.length = 0
      · have hz : ((a.length : Int) == 0) = false := by rw [beq_eq_false_iff_ne]; omega
        have hz2 : ((b.length : Int) == 0) = true := by rw [beq_iff_eq]; omega
        clear hc ha0 hb0
        go_enter Tryz.func74, Tryz.ntmps74
        go_wp2_with (first | (go_at_call 105; (with_reducible refine (t1 _ HA.out).mono ?_); rintro e w1 ⟨s1, rfl, HF1⟩; obtain ⟨A1, c1, rfl, HS1, HB1⟩ := HF1.sl; replace HS1 := Lib.hid HS1; replace HB1 := Lib.hid HB1; clear HF1) | (go_at_call 105; (with_reducible refine (t2 _ (HB.out.far HB1.out)).mono ?_); rintro e w2 ⟨s2, rfl, HF2⟩; obtain ⟨A2, c2, rfl, HS2, HB2⟩ := HF2.sl; replace HS2 := Lib.hid HS2; replace HB2 := Lib.hid HB2; clear HF2))
        go_ret
        rw [HT'.out]
        exact gives_nil (HB1.out.trans (HB2.out.mono HB1.out.size))
      · have hz : ((a.length : Int) == 0) = false := by rw [beq_eq_false_iff_ne]; omega
        have hz2 : ((b.length : Int) == 0) = false := by rw [beq_eq_false_iff_ne]; omega
        have hz3 : decide ((4096 : Int) < (a.length : Int) + (b.length : Int) - 1) = true := by rw [decide_eq_true_eq]; omega
        clear hc ha0 hb0
        go_enter Tryz.func74, Tryz.ntmps74
        go_wp2_with (first | (go_at_call 105; (with_reducible refine (t1 _ HA.out).mono ?_); rintro e w1 ⟨s1, rfl, HF1⟩; obtain ⟨A1, c1, rfl, HS1, HB1⟩ := HF1.sl; replace HS1 := Lib.hid HS1; replace HB1 := Lib.hid HB1; clear HF1) | (go_at_call 105; (with_reducible refine (t2 _ (HB.out.far HB1.out)).mono ?_); rintro e w2 ⟨s2, rfl, HF2⟩; obtain ⟨A2, c2, rfl, HS2, HB2⟩ := HF2.sl; replace HS2 := Lib.hid HS2; replace HB2 := Lib.hid HB2; clear HF2))
        go_ret
        rw [HT'.out]
        exact gives_nil (HB1.out.trans (HB2.out.mono HB1.out.size))
  · have HT' : Hid (T = tr (rm (a.length + b.length - 1) (mall a b a.length))) := by unfold Hid; rw [HT.out, if_neg hc]
    clear HT
    have ha0 : ((a.length : Int) == 0) = false := by rw [beq_eq_false_iff_ne]; omega
    have hb0 : ((b.length : Int) == 0) = false := by rw [beq_eq_false_iff_ne]; omega
    have hab : decide ((4096 : Int) < (a.length : Int) + (b.length : Int) - 1) = false := by rw [decide_eq_false_iff_not]; omega
    have hN : a.length + b.length - 1 ≤ 4096 := by omega
    have hpos : 0 < a.length ∧ 0 < b.length := by omega
    obtain ⟨ap, bp⟩ := hpos
    have hmk : ∀ w, (Instr.makeSlice 41 (.int .i64 ((a.length : Int) + (b.length : Int) - 1)) (.int .i64 ((a.length : Int) + (b.length : Int) - 1))).run Tryz.prog w = .ok (.slice (some ⟨w.heap.size, 0, none⟩) (a.length + b.length - 1) (a.length + b.length - 1)) (w.alloc (.cells (madeCells #[.int .u16 0] (a.length + b.length - 1)) 46)) := by
      intro w
      have := run_make_row' (P := Tryz.prog) 41 46 (.int .u16 0) 2 Tryz.underlying41 info22 rfl .i64 .i64 (a.length + b.length - 1) (by omega) (by omega) w
      rw [show ((a.length + b.length - 1 : Nat) : Int) = (a.length : Int) + (b.length : Int) - 1 by omega] at this
      exact this
    clear hc
    go_enter Tryz.func74, Tryz.ntmps74
    go_wp2_with (first | (go_at_call 105; (with_reducible refine (t1 _ HA.out).mono ?_); rintro e w1 ⟨s1, rfl, HF1⟩; obtain ⟨A1, c1, rfl, HS1, HB1⟩ := HF1.sl; replace HS1 := Lib.hid HS1; replace HB1 := Lib.hid HB1; clear HF1) | (go_at_call 105; (with_reducible refine (t2 _ (HB.out.far HB1.out)).mono ?_); rintro e w2 ⟨s2, rfl, HF2⟩; obtain ⟨A2, c2, rfl, HS2, HB2⟩ := HF2.sl; replace HS2 := Lib.hid HS2; replace HB2 := Lib.hid HB2; clear HF2))
    have HA2 := Lib.hid (HS1.out.far HB2.out)
    have HW2 := Lib.hid (HB1.out.trans (HB2.out.mono HB1.out.size))
    clear HS1 HB1 HB2
    go_loopw [6] (fun q wr => ∃ i : Nat, i ≤ a.length ∧ q = .int .i64 i ∧ Own w2 wr w2.heap.size (a.length + b.length - 1) (mall a b i)) (fun q _ => a.length - (intOf q).toNat)
    case atStart => exact ⟨0, Nat.zero_le _, rfl, (own_start w2 _).congr (fun j _ => rfl)⟩
    case round =>
      clear hmk
      obtain ⟨i, hi, rfl, HO⟩ := hrel
      by_cases hlt : i < a.length
      · have HO0 := Lib.hid (HO.congr (f' := mrow (mall a b i) (at_ a i) b i 0) (fun j _ => rfl))
        clear HO
        go_wp2
        go_loopw [7] (fun q wr => ∃ k : Nat, k ≤ b.length ∧ q = .int .i64 k ∧ Own w2 wr w2.heap.size (a.length + b.length - 1) (mrow (mall a b i) (at_ a i) b i k)) (fun q _ => b.length - (intOf q).toNat)
        case atStart => exact ⟨0, Nat.zero_le _, rfl, HO0.out⟩
        case round =>
          clear HO0
          obtain ⟨k, hk, rfl, HO⟩ := hrel
          by_cases hlt2 : k < b.length
          · obtain ⟨ad1, hA1, _, hcell1⟩ := (HA2.out.below HO.2.1).at_ hlt
            obtain ⟨ad2, hA2, _, hcell2⟩ := (HS2.out.below HO.2.1).at_ hlt2
            subst hA1 hA2
            have hik : i + k < a.length + b.length - 1 := by omega
            have hc0 := HO.cell hik
            have hfz := HO.2.2.frozen (i + k)
            have hx1 := HX.out a[i] (List.getElem_mem hlt)
            have hy1 := HY.out b[k] (List.getElem_mem hlt2)
            have hf1 := mrow_lt (f := mall a b i) (x := at_ a i) (ys := b) (i := i) (mall_lt HX.out i) (at_lt HX.out (by decide)) k (i + k)
            have hmul := mulI_nat hx1 hy1
            have hg := gm_lt b[k] hx1
            have hxor := u16_xor_nat (mrow (mall a b i) (at_ a i) b i k (i + k)) (gm a[i] b[k]) (by omega) (by omega)
            have HO' := Lib.hid ((HO.set_ (i + k) (mrow (mall a b i) (at_ a i) b i k (i + k) ^^^ gm a[i] b[k])).congr (f' := mrow (mall a b i) (at_ a i) b i (k + 1)) (by
              intro j hj
              by_cases h1 : j = i + k
              · subst h1; rw [if_pos rfl]; conv => rhs; unfold mrow
                rw [if_pos rfl, at_get hlt, at_get hlt2]
              · rw [if_neg h1]; conv => rhs; unfold mrow
                rw [if_neg h1]))
            clear HO
            generalize mrow (mall a b i) (at_ a i) b i k (i + k) = U at *
            generalize gm a[i] b[k] = G at *
            generalize U ^^^ G = V at hxor HO'
            have HM := Lib.hid (fun w => refmul_still (a[i] : Int) (b[k] : Int) w (by omega) (by omega) (by omega) (by omega))
            have s1 : IntKind.i64.wrap ((i : Int) + (k : Int)) = (i : Int) + (k : Int) := IntWalk.i64_in _ (by omega)
            have s2 : (0 : Int) ≤ (i : Int) + (k : Int) := by omega
            have s3 : (i : Int) + (k : Int) < ((a.length + b.length - 1 : Nat) : Int) := by omega
            have s4 : ((i : Int) + (k : Int)).toNat = i + k := by omega
            go_wp2
            go_still_tail 21, (by kernel_rfl)
            still_call (HM.out _)
            repeat still_step
            refine wpStill_nil ?_
            go_wp2
            clear s1 s2 s3 s4
            go_roundw
            case rel => exact ⟨k + 1, by omega, by go_num, by first | exact HO'.out | exact HO'.out.drewN _⟩
            case measure => simp [intOf]; omega
          · obtain rfl : k = b.length := by omega
            have HO' := Lib.hid (HO.congr (f' := mall a b (i + 1)) (fun j _ => rfl))
            clear HO
            go_wp2
            go_roundw
            case rel => exact ⟨i + 1, by omega, by go_num, HO'.out⟩
            case measure => simp [intOf]; omega
      · obtain rfl : i = a.length := by omega
        have HC := Lib.hid (reftrim_any (some ⟨w2.heap.size, 0, none⟩) (a.length + b.length - 1) _ wr (HO.sl (fun j _ => by have := mall_lt (ys := b) HX.out a.length j; omega)) (by rw [rm_len]; omega))
        rw [rm_len] at HC
        have HW := Lib.hid HO.2.1
        clear HO
        go_wp2_with (go_at_call 105; refine HC.out.mono ?_; rintro e w' ⟨s, rfl, HF⟩)
        go_ret
        exact ⟨s, by rw [HT'.out]; exact ⟨rfl, (HF.since HW.out).since HW2.out⟩⟩
end Go.Proofs.YtjhoecfhmndcgaaGreat
namespace Go.Proofs.YtjhoecfhmndcgaaGreat
open Go.RowKit Go.Gf
set_option maxRecDepth 20000

theorem Arr.far {w : World} {g : Nat} {cs : List Nat} (h : Arr w g cs) {p : Addr} (hp : g ≠ p.block) (u : Value) : Arr (w.setCell p u) g cs := (Below.heap_setCell w p u g hp).trans h
theorem rm_at (xs : List Nat) : rm xs.length (at_ xs) = xs := by
  apply List.ext_getElem
  · simp [rm]
  · intro j h1 h2; rw [rm_get, at_get h2]

/-- the quotient's reckoning: t of n places done: what is left of the dividend, and the quotient -/
def dv1 (b : List Nat) (iv n : Nat) (f : Nat → Nat) : Nat → Nat → Nat
  | 0, j => f j
  | t + 1, j => mrow (dv1 b iv n f t) (gm (dv1 b iv n f t (n - 1 - t + b.length - 1)) iv) b (n - 1 - t) b.length j
def dv2 (b : List Nat) (iv n : Nat) (f : Nat → Nat) : Nat → Nat → Nat
  | 0, _ => 0
  | t + 1, j => if j = n - 1 - t then gm (dv1 b iv n f t (n - 1 - t + b.length - 1)) iv else dv2 b iv n f t j
theorem dv1_lt {b : List Nat} {iv n : Nat} {f : Nat → Nat} (hf : ∀ j, f j < 1024) (t j : Nat) : dv1 b iv n f t j < 1024 := by
  induction t generalizing j with
  | zero => exact hf j
  | succ t ih => exact mrow_lt ih (gm_lt _ (ih _)) _ _
theorem dv2_lt {b : List Nat} {iv n : Nat} {f : Nat → Nat} (hf : ∀ j, f j < 1024) (t j : Nat) : dv2 b iv n f t j < 1024 := by
  induction t generalizing j with
  | zero => show 0 < 1024; decide
  | succ t ih =>
    unfold dv2
    split
    · exact gm_lt _ (dv1_lt hf _ _)
    · exact ih j
def divN (xs ys : List Nat) : Nat := (tr xs).length + 1 - (tr ys).length
def divI (ys : List Nat) : Nat := ginv (at_ (tr ys) ((tr ys).length - 1))
def pquo (xs ys : List Nat) : List Nat := tr (rm (divN xs ys) (dv2 (tr ys) (divI ys) (divN xs ys) (at_ (tr xs)) (divN xs ys)))
def prem (xs ys : List Nat) : List Nat := tr (rm (tr xs).length (dv1 (tr ys) (divI ys) (divN xs ys) (at_ (tr xs)) (divN xs ys)))

theorem arr_rm_cell {w : World} {g n : Nat} {f : Nat → Nat} (h : Arr w g (rm n f)) {i : Nat} (hi : i < n) : w.cell? ⟨g, i, none⟩ = some (.int .u16 ((f i : Nat) : Int)) := by
  have := h.cell (i := i) (by rw [rm_len]; exact hi)
  rw [rm_get] at this; exact this
/-- a division by nought -/
def GivesNo (w : World) (e : Ending) (w' : World) : Prop := e = .returned (.tuple #[.slice none 0 0, .slice none 0 0, .bool false]) ∧ Below w.heap.size w w'

/-- a list written out in the text -/
theorem sl_new (w : World) (o : Obj) (xs : List Nat) (g : Nat) (hg : w.heap.size = g) (ho : o = .cells (xs.map uv).toArray 46) (h : ∀ x ∈ xs, x < 65536) : Sl (w.alloc o) (w.alloc o).heap.size (some ⟨g, 0, none⟩) xs := by
  subst hg ho
  exact (Arr.new w xs).sl h
theorem below_alloc (w : World) (o : Obj) : Below w.heap.size w (w.alloc o) := (Below.refl _ _).alloc (Nat.le_refl _) _
theorem slope_le (xs : List Nat) : (slope xs).length ≤ xs.length := Nat.le_trans (tr_len _) (by rw [rm_len]; exact Nat.le_refl _)
end Go.Proofs.YtjhoecfhmndcgaaGreat
namespace Go.Proofs.YtjhoecfhmndcgaaGreat
open Go.RowKit Go.Gf

/-- a slice of one's own (or nil) that holds ys, made since w0 -/
def OwnS (w0 w : World) (v : Value) (ys : List Nat) : Prop := w.ownsRow w0.heap.size 46 1 v ys.length (ys.map uv) ∧ ∀ y ∈ ys, y < 65536
/-- block g begins with the n numbers that f says, and may be written -/
def Pre (w : World) (g n : Nat) (f : Nat → Nat) : Prop := ∃ cur, w.heap[g]? = some (.cells cur 46 (0, 0)) ∧ ∀ i, i < n → cur[i]? = some (uv (f i))
section
variable {w0 w w' : World} {v : Value} {ys zs : List Nat} {g n : Nat} {f : Nat → Nat}
theorem OwnS.nil (w0 w : World) : OwnS w0 w (.slice none 0 0) [] := ⟨⟨rfl, Or.inl ⟨rfl, rfl⟩⟩, by simp⟩
theorem Pre.lt (h : Pre w g n f) : g < w.heap.size := by
  obtain ⟨cur, h, _⟩ := h
  rcases Nat.lt_or_ge g w.heap.size with hlt | hge
  · exact hlt
  · rw [Array.getElem?_eq_none hge] at h; cases h
theorem Pre.cell (h : Pre w g n f) {i : Nat} (hi : i < n) : w.cell? ⟨g, i, none⟩ = some (.int .u16 ((f i : Nat) : Int)) := by
  obtain ⟨cur, h, hc⟩ := h
  rw [cell_of_row w g i _ 46 (0, 0) h]
  exact hc i hi
theorem Pre.frozen (h : Pre w g n f) (i : Nat) : w.frozen? ⟨g, i, none⟩ = false := by
  obtain ⟨cur, h, hc⟩ := h
  simp [World.frozen?, h]
theorem Pre.set_ (h : Pre w g n f) (i x : Nat) : Pre (w.setCell ⟨g, i, none⟩ (.int .u16 (x : Int))) g n (fun j => if j = i then x else f j) := by
  obtain ⟨cur, h, hc⟩ := h
  refine ⟨cur.setIfInBounds i (.int .u16 (x : Int)), ?_, fun j hj => ?_⟩
  · simp only [World.setCell]
    rw [Array.getElem?_modify, h]
    simp
  · have := hc j hj
    have hlt : j < cur.size := (Array.getElem?_eq_some_iff.1 this).1
    rw [Array.getElem?_setIfInBounds]
    by_cases e : i = j
    · subst e; simp [hlt, uv]
    · rw [if_neg e]
      show _ = some (uv (if j = i then x else f j))
      rw [if_neg (Ne.symm e)]; exact this
theorem Pre.congr (h : Pre w g n f) {f' : Nat → Nat} (e : ∀ j, j < n → f j = f' j) : Pre w g n f' := by
  obtain ⟨cur, h, hc⟩ := h
  exact ⟨cur, h, fun i hi => by rw [← e i hi]; exact hc i hi⟩
theorem Pre.keep (h : Pre w g n f) (hb : w'.heap[g]? = w.heap[g]?) : Pre w' g n f := by
  obtain ⟨cur, h, hc⟩ := h
  exact ⟨cur, hb.trans h, hc⟩
theorem Pre.sl (h : Pre w g n f) (hf : ∀ j, j < n → f j < 65536) : Sl w w.heap.size (some ⟨g, 0, none⟩) (rm n f) := by
  refine ⟨rm_mem hf, Or.inr ⟨_, rfl, h.lt, fun i hi => ?_⟩⟩
  have e : (⟨g, 0, none⟩ : Addr).add i = ⟨g, i, none⟩ := by unfold Addr.add; split <;> simp_all
  rw [e, rm_get]
  rw [rm_len] at hi
  exact h.cell hi
theorem OwnS.pre (h : OwnS w0 w v ys) (hne : ys ≠ []) : ∃ g c, v = .slice (some ⟨g, 0, none⟩) ys.length c ∧ ys.length ≤ c ∧ w0.heap.size ≤ g ∧ Pre w g ys.length (at_ ys) := by
  obtain ⟨⟨_, h⟩, _⟩ := h
  rcases h with ⟨_, h0⟩ | ⟨g, cap, cur, rfl, hg, hh, hn, _, hcs, htk⟩
  · exact absurd (List.eq_nil_of_length_eq_zero h0) hne
  · refine ⟨g, cap, rfl, hn, hg, cur, hh, fun i hi => ?_⟩
    have e : (cur.toList.take (ys.length * 1))[i]? = (ys.map uv)[i]? := by rw [htk]
    rw [List.getElem?_take, if_pos (by omega), List.getElem?_map, List.getElem?_eq_getElem hi] at e
    rw [Array.getElem?_toList] at e
    rw [e, at_get hi]; rfl
theorem OwnS.sl (h : OwnS w0 w v ys) : ∃ A c, v = .slice A ys.length c ∧ ys.length ≤ c ∧ Sl w w.heap.size A ys := by
  rcases Classical.em (ys = []) with e | e
  · subst e
    obtain ⟨⟨_, h1⟩, _⟩ := h
    rcases h1 with ⟨rfl, _⟩ | ⟨g, cap, cur, rfl, _⟩
    · exact ⟨none, 0, rfl, Nat.le_refl _, Sl.nil _ _ _⟩
    · exact ⟨some ⟨g, 0, none⟩, cap, rfl, Nat.zero_le _, Sl.nil _ _ _⟩
  · obtain ⟨g, c, h1, h2, h3, h4⟩ := h.pre e
    refine ⟨_, c, h1, h2, ?_⟩
    have := h4.sl (fun j hj => at_lt h.2 (by decide))
    rwa [rm_at] at this
theorem OwnS.keep (h : OwnS w0 w v ys) (hb : Below w.heap.size w w') : OwnS w0 w' v ys := by
  obtain ⟨⟨h1, h2⟩, h3⟩ := h
  refine ⟨⟨h1, ?_⟩, h3⟩
  rcases h2 with h2 | ⟨g, cap, cur, rfl, hg, hh, hr⟩
  · exact Or.inl h2
  · have hlt : g < w.heap.size := by
      rcases Nat.lt_or_ge g w.heap.size with hlt | hge
      · exact hlt
      · rw [Array.getElem?_eq_none hge] at hh; cases hh
    exact Or.inr ⟨g, cap, cur, rfl, hg, (hb.block g hlt).trans hh, hr⟩
theorem OwnS.block (h : OwnS w0 w v ys) : ∀ k, v.ownBlock = some k → w0.heap.size ≤ k := by
  intro k hk
  obtain ⟨⟨_, h⟩, _⟩ := h
  rcases h with ⟨rfl, _⟩ | ⟨g, cap, cur, rfl, hg, _⟩
  · cases hk
  · simp [Value.ownBlock] at hk; omega
end
set_option maxRecDepth 20000 in
theorem app_law {w0 w : World} {ops : Array Oper} {rest : List Oper} {o : Oper} {a : Act} {Q : Exit → Act → World → Prop} (hgd : o.guard = none) (s x : Operand)
    (ho : o.op = .call { callee := .builtin .append, args := #[s, x], argTypes := #[41, 41] }) (v : Value) (ys : List Nat) (hs : a.eval s = v) (hown : OwnS w0 w v ys) (hb : Below w0.heap.size w0 w)
    (A : Option Addr) (c : Nat) (zs : List Nat) (n : Nat) (hn : zs.length = n) (hx : a.eval x = .slice A n c) (hz : Sl w w.heap.size A zs) (hne : zs ≠ []) (h63 : ys.length + zs.length ≤ 1000000)
    (h : ∀ v' w', OwnS w0 w' v' (ys ++ zs) → Below w0.heap.size w0 w' → Below w0.heap.size w w' → (v = .slice none 0 0 → Below w.heap.size w w') → wpList Tryz.prog ops Q rest (a.put o.dst v') w') :
    wpList Tryz.prog ops Q (o :: rest) a w := by
  have hi0 := info22
  obtain ⟨i, hi, hrest⟩ := Option.map_eq_some_iff.1 hi0
  simp only [Prod.mk.injEq] at hrest
  obtain ⟨i1, i2, i3⟩ := hrest
  obtain ⟨ad, rfl, _, hcell⟩ := hz.2.resolve_left hne
  refine wpList_append_own_at w hgd s x 41 ho w0.heap.size 46 i (.int .u16 0) 1 2 Tryz.underlying41 hi i1 i2 i3 rfl (by decide) v ys.length (ys.map uv) hs hown.1 ad n c (zs.map uv) hx (by simp [hn]) (fun j u hu => ?_) (fun u hu => ?_) (by unfold maxLen; omega) (by omega) hb.size (fun v' w' h1 h2 _ _ => ?_)
  · rw [List.getElem?_map] at hu
    rcases Nat.lt_or_ge j zs.length with hj | hj
    · rw [List.getElem?_eq_getElem hj] at hu
      injection hu with hu
      rw [← hu]; exact hcell j hj
    · rw [List.getElem?_eq_none hj] at hu; cases hu
  · obtain ⟨y, _, rfl⟩ := List.mem_map.1 hu; rfl
  · refine h v' w' ⟨?_, ?_⟩ (hb.grown h2 hb.size (OwnS.block hown)) ((Below.refl _ _).grown h2 hb.size (OwnS.block hown)) (fun e => ?_)
    · rw [List.length_append, List.map_append, hn]; exact h1
    · intro y hy
      rcases List.mem_append.1 hy with hy | hy
      · exact hown.2 y hy
      · exact hz.1 y hy
    · subst e
      exact (Below.refl _ _).grown h2 (Nat.le_refl _) (fun k hk => by cases hk)
end Go.Proofs.YtjhoecfhmndcgaaGreat
namespace Go.Proofs.YtjhoecfhmndcgaaGreat
open Go.Gf

/-- the sum of n numbers of the field -/
def X (n : Nat) (f : Nat → Nat) : Nat :=
  match n with
  | 0 => 0
  | n + 1 => X n f ^^^ f n
theorem X_succ (n : Nat) (f : Nat → Nat) : X (n + 1) f = X n f ^^^ f n := rfl
theorem X_congr {n : Nat} {f g : Nat → Nat} (h : ∀ i, i < n → f i = g i) : X n f = X n g := by
  induction n with
  | zero => rfl
  | succ n ih => rw [X_succ, X_succ, ih (fun i hi => h i (by omega)), h n (by omega)]
theorem X_lt {n : Nat} {f : Nat → Nat} (h : ∀ i, i < n → f i < 1024) : X n f < 1024 := by
  induction n with
  | zero => show 0 < 1024; decide
  | succ n ih => exact xor_lt (ih fun i hi => h i (by omega)) (h n (by omega))
theorem X_zero {n : Nat} {f : Nat → Nat} (h : ∀ i, i < n → f i = 0) : X n f = 0 := by
  induction n with
  | zero => rfl
  | succ n ih => rw [X_succ, ih (fun i hi => h i (by omega)), h n (by omega)]; rfl
theorem X_xor (n : Nat) (f g : Nat → Nat) : X n (fun i => f i ^^^ g i) = X n f ^^^ X n g := by
  induction n with
  | zero => simp [X]
  | succ n ih => rw [X_succ, X_succ, X_succ, ih, xor4]
theorem X_mul_left {n : Nat} {f : Nat → Nat} (c : Nat) : gm c (X n f) = X n fun i => gm c (f i) := by
  induction n with
  | zero => exact gm_zero_right c
  | succ n ih => rw [X_succ, X_succ, gm_xor_right, ih]
theorem X_mul_right {n : Nat} {f : Nat → Nat} (c : Nat) (h : ∀ i, i < n → f i < 1024) : gm (X n f) c = X n fun i => gm (f i) c := by
  induction n with
  | zero => exact gm_zero_left c
  | succ n ih => rw [X_succ, X_succ, gm_xor_left c (X_lt fun i hi => h i (by omega)) (h n (by omega)), ih fun i hi => h i (by omega)]
theorem X_swap (m n : Nat) (f : Nat → Nat → Nat) : X m (fun i => X n (f i)) = X n fun j => X m fun i => f i j := by
  induction m with
  | zero => exact (X_zero fun _ _ => rfl).symm
  | succ m ih => rw [X_succ, ih, ← X_xor]; rfl
theorem X_more {n m : Nat} {f : Nat → Nat} (h : n ≤ m) (hf : ∀ i, n ≤ i → i < m → f i = 0) : X m f = X n f := by
  induction m with
  | zero => have : n = 0 := by omega
            subst this; rfl
  | succ m ih =>
    rcases Nat.lt_or_ge n (m + 1) with hl | hl
    · rw [X_succ, hf m (by omega) (by omega), Nat.xor_zero]; exact ih (by omega) fun i h1 h2 => hf i h1 (by omega)
    · have : n = m + 1 := by omega
      subst this; rfl
theorem X_shift (n : Nat) (f : Nat → Nat) : X (n + 1) f = f 0 ^^^ X n fun i => f (i + 1) := by
  induction n with
  | zero => simp [X]
  | succ n ih => rw [X_succ, ih, X_succ, Nat.xor_assoc]
theorem X_rev (n : Nat) (f : Nat → Nat) : X (n + 1) f = X (n + 1) fun i => f (n - i) := by
  induction n generalizing f with
  | zero => rfl
  | succ n ih =>
    rw [X_succ, ih, X_shift (n + 1) (fun i => f (n + 1 - i)), Nat.xor_comm]
    congr 1
    exact X_congr fun i hi => by congr 1; omega

/-- the j-th factor of a product -/
def cv (f g : Nat → Nat) (j : Nat) : Nat := X (j + 1) fun i => gm (f i) (g (j - i))
theorem cv_comm {f g : Nat → Nat} (hf : ∀ i, f i < 1024) (hg : ∀ i, g i < 1024) (j : Nat) : cv f g j = cv g f j := by
  unfold cv
  rw [X_rev]
  exact X_congr fun i hi => by rw [gm_comm (hf _) (hg _)]; congr 2; omega
theorem cv_lt {f : Nat → Nat} (g : Nat → Nat) (hf : ∀ i, f i < 1024) (j : Nat) : cv f g j < 1024 := X_lt fun i _ => gm_lt _ (hf i)
theorem cv_xor_left {f g h : Nat → Nat} (hf : ∀ i, f i < 1024) (hg : ∀ i, g i < 1024) (j : Nat) : cv (fun i => f i ^^^ g i) h j = cv f h j ^^^ cv g h j := by
  unfold cv
  rw [← X_xor]
  exact X_congr fun i _ => gm_xor_left _ (hf i) (hg i)
theorem cv_xor_right (f g h : Nat → Nat) (j : Nat) : cv f (fun i => g i ^^^ h i) j = cv f g j ^^^ cv f h j := by
  unfold cv
  rw [← X_xor]
  exact X_congr fun i _ => gm_xor_right _ _ _
theorem cv_congr {f g f' g' : Nat → Nat} (hf : ∀ i, f i = f' i) (hg : ∀ i, g i = g' i) (j : Nat) : cv f g j = cv f' g' j := by
  have e1 : f = f' := funext hf
  have e2 : g = g' := funext hg
  rw [e1, e2]

/-! factors of what the rows say -/
theorem at_rm {n : Nat} {f : Nat → Nat} (j : Nat) : at_ (rm n f) j = if j < n then f j else 0 := by
  by_cases h : j < n
  · rw [if_pos h, at_get (by rw [rm_len]; exact h), rm_get]
  · rw [if_neg h, at_far (by rw [rm_len]; omega)]
theorem rm_succ (n : Nat) (f : Nat → Nat) : rm (n + 1) f = rm n f ++ [f n] := by
  unfold rm
  rw [List.range_succ, List.map_append]; rfl
/-- without its noughts at the end a row has the same factors -/
theorem at_tr (xs : List Nat) (j : Nat) : at_ (tr xs) j = at_ xs j % 1024 := by
  have e : xs = rm xs.length (at_ xs) := (rm_at xs).symm
  have hz : xs.length ≤ j → at_ xs j = 0 := at_far
  rw [e] at hz ⊢
  rw [rm_len] at hz
  generalize xs.length = n at hz ⊢
  generalize at_ xs = f at hz ⊢
  have key : ∀ n, at_ (tr (rm n f)) j = if j < n then f j % 1024 else 0 := by
    intro n
    induction n with
    | zero => simp [rm, tr, at_]
    | succ n ih =>
      rw [rm_succ, tr_snoc]
      by_cases h : f n % 1024 = 0
      · rw [if_pos h, ih]
        by_cases h1 : j < n
        · rw [if_pos h1, if_pos (by omega)]
        · rw [if_neg h1]
          by_cases h2 : j = n
          · subst h2; rw [if_pos (by omega), h]
          · rw [if_neg (by omega)]
      · rw [if_neg h, ← rm_succ]
        have : (rm (n + 1) f).map (· % 1024) = rm (n + 1) fun j => f j % 1024 := by simp [rm]
        rw [this, at_rm]
  rw [key, at_rm]
  by_cases h : j < n
  · rw [if_pos h, if_pos h]
  · rw [if_neg h, if_neg h]
/-- a row without noughts at its end has a last factor that is none -/
theorem tr_last (xs : List Nat) (h : tr xs ≠ []) : at_ (tr xs) ((tr xs).length - 1) ≠ 0 := by
  have e : xs = rm xs.length (at_ xs) := (rm_at xs).symm
  generalize xs.length = n at e
  generalize at_ xs = f at e
  subst e
  induction n with
  | zero => exact absurd rfl h
  | succ n ih =>
    rw [rm_succ, tr_snoc] at h ⊢
    by_cases h0 : f n % 1024 = 0
    · rw [if_pos h0] at h ⊢; exact ih h
    · rw [if_neg h0] at h ⊢
      rw [at_get (by simp)]
      simp
      exact h0
/-- rows without noughts at their ends are the same if their factors are -/
theorem tr_ext {xs ys : List Nat} (h : ∀ j, at_ xs j % 1024 = at_ ys j % 1024) : tr xs = tr ys := by
  have hl : ∀ {xs ys : List Nat}, (∀ j, at_ xs j % 1024 = at_ ys j % 1024) → (tr xs).length ≤ (tr ys).length := by
    intro xs ys h
    by_cases h0 : tr xs = []
    · rw [h0]; exact Nat.zero_le _
    · have h1 := tr_last xs h0
      rw [at_tr, h, ← at_tr] at h1
      rcases Nat.lt_or_ge ((tr xs).length - 1) (tr ys).length with h2 | h2
      · have := List.length_pos_iff.2 h0; omega
      · exact absurd (at_far h2) h1
  have e := Nat.le_antisymm (hl h) (hl fun j => (h j).symm)
  apply List.ext_getElem e
  intro i h1 h2
  rw [← at_get h1, ← at_get h2, at_tr, at_tr, h]
theorem tr_tr (xs : List Nat) : tr (tr xs) = tr xs := tr_ext fun j => by rw [at_tr]; omega
theorem tr_of {xs : List Nat} (h : ∀ x ∈ xs, x < 1024) (hl : xs ≠ [] → at_ xs (xs.length - 1) ≠ 0) : tr xs = xs := by
  by_cases h0 : xs = []
  · subst h0; rfl
  · obtain ⟨l, x, rfl⟩ : ∃ l x, xs = l ++ [x] := ⟨xs.dropLast, xs.getLast h0, (List.dropLast_concat_getLast h0).symm⟩
    have h2 := hl h0
    rw [at_get (by simp)] at h2
    simp at h2
    have hx := h x (by simp)
    rw [tr_snoc, if_neg (by omega)]
    have : ∀ y ∈ l ++ [x], y % 1024 = y := fun y hy => Nat.mod_eq_of_lt (h y hy)
    exact (List.map_congr_left this).trans (List.map_id _)

/-! sums and slopes -/
theorem xor_mod (a b : Nat) : (a ^^^ b) % 1024 = (a % 1024) ^^^ (b % 1024) := Nat.xor_mod_two_pow (n := 10)
theorem at_padd (xs ys : List Nat) (j : Nat) : at_ (padd xs ys) j = (at_ xs j % 1024) ^^^ (at_ ys j % 1024) := by
  unfold padd
  rw [at_tr, at_rm]
  by_cases h : j < max xs.length ys.length
  · rw [if_pos h, xor_mod]
  · rw [if_neg h, at_far (xs := xs) (by omega), at_far (xs := ys) (by omega)]; rfl
theorem at_slope (xs : List Nat) (j : Nat) : at_ (slope xs) j = if j % 2 = 0 then at_ xs (j + 1) % 1024 else 0 := by
  unfold slope
  rw [at_tr, at_rm]
  by_cases h : j < xs.length
  · rw [if_pos h]; split <;> rfl
  · rw [if_neg h]
    split
    · rw [at_far (xs := xs) (by omega)]
    · rfl
/-! products -/
theorem mrow_at {f : Nat → Nat} {x : Nat} {ys : List Nat} {i : Nat} (k j : Nat) : mrow f x ys i k j = f j ^^^ (if i ≤ j ∧ j < i + k then gm x (at_ ys (j - i)) else 0) := by
  induction k with
  | zero => rw [if_neg (by omega), Nat.xor_zero]; rfl
  | succ k ih =>
    unfold mrow
    by_cases h : j = i + k
    · subst h
      rw [if_pos rfl, ih, if_neg (by omega), Nat.xor_zero, if_pos (by omega), show i + k - i = k by omega]
    · rw [if_neg h, ih]
      by_cases h2 : i ≤ j ∧ j < i + k
      · rw [if_pos h2, if_pos (by omega)]
      · rw [if_neg h2, if_neg (by omega)]
/-- a whole row of the product: noughts behind the second polynomial change nothing -/
theorem mrow_full {f : Nat → Nat} {x : Nat} {ys : List Nat} {i : Nat} (j : Nat) : mrow f x ys i ys.length j = f j ^^^ (if i ≤ j then gm x (at_ ys (j - i)) else 0) := by
  rw [mrow_at]
  congr 1
  by_cases h : i ≤ j
  · by_cases h2 : j < i + ys.length
    · rw [if_pos ⟨h, h2⟩, if_pos h]
    · rw [if_neg (by omega), if_pos h, at_far (by omega), gm_zero_right]
  · rw [if_neg (by omega), if_neg h]
theorem mall_at (xs ys : List Nat) (i j : Nat) : mall xs ys i j = X i fun k => if k ≤ j then gm (at_ xs k) (at_ ys (j - k)) else 0 := by
  induction i with
  | zero => rfl
  | succ i ih =>
    rw [X_succ, ← ih]
    exact mrow_full j
/-- all rows: the factors of the product -/
theorem mall_full (xs ys : List Nat) (j : Nat) : mall xs ys xs.length j = cv (at_ xs) (at_ ys) j := by
  rw [mall_at]
  unfold cv
  rcases Nat.lt_or_ge xs.length (j + 1) with h | h
  · rw [X_more (n := xs.length) (m := j + 1) (by omega) (fun i h1 _ => by rw [at_far h1, gm_zero_left])]
    exact X_congr fun i hi => by rw [if_pos (by omega)]
  · rw [X_more (n := j + 1) (m := xs.length) (by omega) (fun i h1 _ => by rw [if_neg (by omega)])]
    exact X_congr fun i hi => by rw [if_pos (by omega)]
theorem at_lt' {xs : List Nat} (h : ∀ x ∈ xs, x < 1024) (j : Nat) : at_ xs j < 1024 := at_lt h (by decide)
/-- beyond its degree a product has noughts -/
theorem cv_far {xs ys : List Nat} {j : Nat} (h : xs.length + ys.length ≤ j + 1) : cv (at_ xs) (at_ ys) j = 0 := by
  refine X_zero fun i hi => ?_
  rcases Nat.lt_or_ge i xs.length with h1 | h1
  · rw [at_far (xs := ys) (by omega), gm_zero_right]
  · rw [at_far (xs := xs) h1, gm_zero_left]
theorem pmul_eq {xs ys : List Nat} (h : (tr xs).length + (tr ys).length - 1 ≤ 4096) : pmul xs ys = tr (rm ((tr xs).length + (tr ys).length) (cv (at_ (tr xs)) (at_ (tr ys)))) := by
  unfold pmul
  by_cases hc : (tr xs).length = 0 ∨ (tr ys).length = 0
  · rw [if_pos (by omega)]
    have z : ∀ j, cv (at_ (tr xs)) (at_ (tr ys)) j = 0 := by
      intro j
      refine X_zero fun i _ => ?_
      rcases hc with hc | hc
      · rw [at_far (xs := tr xs) (by omega), gm_zero_left]
      · rw [at_far (xs := tr ys) (by omega), gm_zero_right]
    have : tr [] = tr (rm ((tr xs).length + (tr ys).length) (cv (at_ (tr xs)) (at_ (tr ys)))) := tr_ext fun j => by
      rw [at_rm, z, ite_self]; rfl
    rw [← this]; rfl
  · rw [if_neg (by omega)]
    refine tr_ext fun j => ?_
    rw [at_rm, at_rm]
    by_cases h1 : j < (tr xs).length + (tr ys).length - 1
    · rw [if_pos h1, if_pos (by omega), mall_full]
    · rw [if_neg h1]
      split
      · rw [cv_far (by omega)]
      · rfl
theorem at_pmul {xs ys : List Nat} (h : (tr xs).length + (tr ys).length - 1 ≤ 4096) (j : Nat) : at_ (pmul xs ys) j = cv (at_ (tr xs)) (at_ (tr ys)) j := by
  rw [pmul_eq h, at_tr, at_rm]
  split
  · exact Nat.mod_eq_of_lt (cv_lt _ (at_lt' (tr_bd xs)) j)
  · rw [cv_far (by omega)]
theorem tr_pmul (xs ys : List Nat) : tr (pmul xs ys) = pmul xs ys := by
  unfold pmul; split
  · rfl
  · exact tr_tr _
theorem tr_padd (xs ys : List Nat) : tr (padd xs ys) = padd xs ys := tr_tr _
theorem tr_slope (xs : List Nat) : tr (slope xs) = slope xs := tr_tr _
/-- two rows of factors, each without noughts at its end -/
theorem row_ext {xs ys : List Nat} (hx : tr xs = xs) (hy : tr ys = ys) (h : ∀ j, at_ xs j = at_ ys j) : xs = ys := by
  rw [← hx, ← hy]; exact tr_ext fun j => by rw [h]

/-! values -/
theorem ev_X (x : Nat) (hx : x < 1024) (p : List Nat) : ev x p = X p.length fun i => gm (at_ p i % 1024) (gpow x i) := by
  induction p with
  | nil => rfl
  | cons c p ih =>
    show gm (ev x p) x ^^^ (c % 1024) = _
    rw [List.length_cons, X_shift, ih, X_mul_right _ (fun i _ => gm_lt _ (Nat.mod_lt _ (by decide))), Nat.xor_comm]
    have e0 : gm (at_ (c :: p) 0 % 1024) (gpow x 0) = c % 1024 := gm_one_right (c % 1024)
    have e1 : (X p.length fun i => gm (gm (at_ p i % 1024) (gpow x i)) x) = X p.length fun i => gm (at_ (c :: p) (i + 1) % 1024) (gpow x (i + 1)) := X_congr fun i _ => gm_assoc (Nat.mod_lt _ (by decide)) (gpow_lt i) hx
    rw [e0, e1]
theorem ev_more (x : Nat) (hx : x < 1024) (p : List Nat) {n : Nat} (h : p.length ≤ n) : ev x p = X n fun i => gm (at_ p i % 1024) (gpow x i) := by
  rw [ev_X x hx]
  exact (X_more h fun i h1 _ => by rw [at_far h1]; exact gm_zero_left _).symm
theorem ev_ext (x : Nat) (hx : x < 1024) {p q : List Nat} (h : ∀ j, at_ p j % 1024 = at_ q j % 1024) : ev x p = ev x q := by
  rw [ev_more x hx p (Nat.le_max_left p.length q.length), ev_more x hx q (Nat.le_max_right p.length q.length)]
  exact X_congr fun i _ => by rw [h]
theorem ev_tr (x : Nat) (hx : x < 1024) (p : List Nat) : ev x (tr p) = ev x p := ev_ext x hx fun j => by rw [at_tr]; omega
theorem ev_padd (x : Nat) (hx : x < 1024) (p q : List Nat) : ev x (padd p q) = ev x p ^^^ ev x q := by
  have hl : (padd p q).length ≤ max p.length q.length := by
    refine Nat.le_trans (tr_len _) ?_
    rw [rm_len]; exact Nat.le_refl _
  rw [ev_more x hx _ hl, ev_more x hx p (Nat.le_max_left p.length q.length), ev_more x hx q (Nat.le_max_right p.length q.length), ← X_xor]
  refine X_congr fun i _ => ?_
  have h1 : at_ p i % 1024 < 1024 := Nat.mod_lt _ (by decide)
  have h2 : at_ q i % 1024 < 1024 := Nat.mod_lt _ (by decide)
  rw [at_padd, Nat.mod_eq_of_lt (xor_lt h1 h2), gm_xor_left _ h1 h2]
theorem gpow_add (x m n : Nat) (hx : x < 1024) : gm (gpow x m) (gpow x n) = gpow x (m + n) := by
  rcases cases_E hx with rfl | ⟨i, _, rfl⟩
  · rcases Nat.eq_zero_or_pos m with rfl | hm
    · rw [show gpow 0 0 = 1 from rfl, gm_one_left (gpow_lt n), Nat.zero_add]
    · rw [gpow_zero (by omega), gm_zero_left, gpow_zero (by omega)]
  · rw [gpow_E, gpow_E, gpow_E, gm_E, Nat.mul_add]
/-- the value of the factors of a product is the product of the values -/
theorem cv_ev {f g : Nat → Nat} (x m n : Nat) (hx : x < 1024) (hf : ∀ i, f i < 1024) (hg : ∀ i, g i < 1024) (fz : ∀ i, m ≤ i → f i = 0) (gz : ∀ i, n ≤ i → g i = 0) :
    (X (m + n) fun j => gm (cv f g j) (gpow x j)) = gm (X m fun i => gm (f i) (gpow x i)) (X n fun i => gm (g i) (gpow x i)) := by
  have hR : gm (X m fun i => gm (f i) (gpow x i)) (X n fun i => gm (g i) (gpow x i)) = X m fun i => X n fun k => gm (gm (f i) (g k)) (gpow x (i + k)) := by
    rw [X_mul_right _ (fun i _ => gm_lt _ (hf i))]
    refine X_congr fun i _ => ?_
    rw [X_mul_left]
    refine X_congr fun k _ => ?_
    rw [← gpow_add x i k hx, gm_assoc (hf i) (gpow_lt i) (gm_lt _ (hg k)), gm_assoc (hf i) (hg k) (gm_lt _ (gpow_lt i))]
    refine congrArg (gm (f i)) ?_
    rw [← gm_assoc (gpow_lt i) (hg k) (gpow_lt k), gm_comm (gpow_lt i) (hg k), gm_assoc (hg k) (gpow_lt i) (gpow_lt k)]
  rw [hR]
  -- each factor, over all places
  have hL : (X (m + n) fun j => gm (cv f g j) (gpow x j)) = X (m + n) fun j => X m fun i => if i ≤ j then gm (gm (f i) (g (j - i))) (gpow x j) else 0 := by
    refine X_congr fun j _ => ?_
    unfold cv
    rw [X_mul_right _ (fun i _ => gm_lt _ (hf i))]
    rcases Nat.lt_or_ge m (j + 1) with h | h
    · rw [X_more (n := m) (m := j + 1) (by omega) (fun i h1 _ => by rw [fz i h1, gm_zero_left, gm_zero_left])]
      exact X_congr fun i hi => by rw [if_pos (by omega)]
    · rw [X_more (n := j + 1) (m := m) (by omega) (fun i h1 _ => by rw [if_neg (by omega)])]
      exact X_congr fun i hi => by rw [if_pos (by omega)]
  rw [hL, X_swap]
  refine X_congr fun i hi => ?_
  -- shift by i
  have sh : ∀ k, (X (i + k) fun j => if i ≤ j then gm (gm (f i) (g (j - i))) (gpow x j) else 0) = X k fun k => gm (gm (f i) (g k)) (gpow x (i + k)) := by
    intro k
    induction k with
    | zero => exact X_zero fun j hj => by rw [if_neg (by omega)]
    | succ k ih =>
      rw [← Nat.add_assoc, X_succ, ih, X_succ, if_pos (by omega), show i + k - i = k by omega]
  have : m + n = i + (m + n - i) := by omega
  rw [this, sh]
  exact X_more (by omega) fun k h1 _ => by rw [gz k h1, gm_zero_right, gm_zero_left]
theorem ev_pmul (x : Nat) (hx : x < 1024) {p q : List Nat} (h : (tr p).length + (tr q).length - 1 ≤ 4096) : ev x (pmul p q) = gm (ev x p) (ev x q) := by
  have hl : (pmul p q).length ≤ (tr p).length + (tr q).length := by
    rw [pmul_eq h]
    refine Nat.le_trans (tr_len _) ?_
    rw [rm_len]; exact Nat.le_refl _
  have hp := at_lt' (tr_bd p)
  have hq := at_lt' (tr_bd q)
  rw [ev_more x hx _ hl, ← ev_tr x hx p, ← ev_tr x hx q, ev_X x hx (tr p), ev_X x hx (tr q)]
  have e1 : (X (tr p).length fun i => gm (at_ (tr p) i % 1024) (gpow x i)) = X (tr p).length fun i => gm (at_ (tr p) i) (gpow x i) := X_congr fun i _ => by rw [Nat.mod_eq_of_lt (hp i)]
  have e2 : (X (tr q).length fun i => gm (at_ (tr q) i % 1024) (gpow x i)) = X (tr q).length fun i => gm (at_ (tr q) i) (gpow x i) := X_congr fun i _ => by rw [Nat.mod_eq_of_lt (hq i)]
  rw [e1, e2, ← cv_ev x _ _ hx hp hq (fun i h => at_far h) (fun i h => at_far h)]
  exact X_congr fun j _ => by rw [at_pmul h, Nat.mod_eq_of_lt (cv_lt _ hp j)]
end Go.Proofs.YtjhoecfhmndcgaaGreat
