/- The program's frame: a head that may be; numbers laid on symbols and read from them. -/
import Derived.Test.YtmchelbmeajcnaaMa
import Derived.Test.YtmchelbmeajcnaaGl
import Derived.Test.YtmchelbmeajcnaaKu
namespace Go.Proofs.Ytmchelbmeajcnaa
open Go.RowKit Go.Gf
set_option linter.unusedVariables false
set_option linter.unusedSimpArgs false
set_option maxRecDepth 20000

/-- is n from l on, and below m? -/
theorem fin_any (n l m : Int) (w : World) : Calls Try.prog 55 #[.int .i64 n, .int .i64 l, .int .i64 m] w fun e w' => e = .returned (.bool (decide (l ≤ n) && decide (n < m))) ∧ w = w' := by
  obtain ⟨b1, h1⟩ : ∃ b, decide (l ≤ n) = b := ⟨_, rfl⟩
  obtain ⟨b2, h2⟩ : ∃ b, decide (n < m) = b := ⟨_, rfl⟩
  rw [h1, h2]
  cases b1
  · go_enter Try.func55, Try.ntmps55
    go_wp2_with fail
    go_ret
    exact ⟨rfl, rfl⟩
  · go_enter Try.func55, Try.ntmps55
    go_wp2_with fail
    go_ret
    exact ⟨rfl, rfl⟩
/-- a head that may be -/
def mkB (k l q : Int) : Bool := decide (1 ≤ k ∧ k < 1024 ∧ 0 ≤ l ∧ l < 1048576 ∧ 0 ≤ q ∧ q < 1099511627776)
theorem mkB_eq (k l q : Int) : mkB k l q = (decide (1 ≤ k) && decide (k < 1024) && (decide (0 ≤ l) && decide (l < 1048576)) && (decide (0 ≤ q) && decide (q < 1099511627776))) := by
  unfold mkB
  rw [Bool.eq_iff_iff]
  simp only [Bool.and_eq_true, decide_eq_true_eq]
  omega
set_option maxHeartbeats 1000000 in
theorem fmay_any (k l q : Int) (w : World) : Calls Try.prog 31 #[.agg #[.int .i64 k, .int .i64 l, .int .i64 q]] w (Ge.Ans w (.bool (mkB k l q))) := by
  have hB : ∀ w, Calls Try.prog 55 #[.int .i64 k, .int .i64 1, .int .i64 1024] w fun e w' => e = .returned (.bool (decide (1 ≤ k) && decide (k < 1024))) ∧ w = w' := fin_any k 1 1024
  have hP : ∀ w, Calls Try.prog 55 #[.int .i64 l, .int .i64 0, .int .i64 1048576] w fun e w' => e = .returned (.bool (decide (0 ≤ l) && decide (l < 1048576))) ∧ w = w' := fin_any l 0 1048576
  have hW : ∀ w, Calls Try.prog 55 #[.int .i64 q, .int .i64 0, .int .i64 1099511627776] w fun e w' => e = .returned (.bool (decide (0 ≤ q) && decide (q < 1099511627776))) ∧ w = w' := fin_any q 0 1099511627776
  have hm := mkB_eq k l q
  have hb := Lib.hid (Ge.below_alloc w (.cells #[.int .i64 k, .int .i64 l, .int .i64 q] 25))
  obtain ⟨b1, h1⟩ : ∃ b, (decide (1 ≤ k) && decide (k < 1024)) = b := ⟨_, rfl⟩
  obtain ⟨b2, h2⟩ : ∃ b, (decide (0 ≤ l) && decide (l < 1048576)) = b := ⟨_, rfl⟩
  obtain ⟨b3, h3⟩ : ∃ b, (decide (0 ≤ q) && decide (q < 1099511627776)) = b := ⟨_, rfl⟩
  rw [h1] at hB; rw [h2] at hP; rw [h3] at hW
  rw [h1, h2, h3] at hm
  rw [hm]
  clear hm h1 h2 h3
  replace hB := Lib.hid hB
  replace hP := Lib.hid hP
  replace hW := Lib.hid hW
  cases b1
  rotate_left
  cases b2
  rotate_left
  all_goals
    go_enter Try.func31, Try.ntmps31
    go_wp2_with (go_at_call 55; first
      | (with_reducible refine (hB.out _).mono ?_; rintro e w1 ⟨rfl, rfl⟩)
      | (with_reducible refine (hP.out _).mono ?_; rintro e w1 ⟨rfl, rfl⟩)
      | (with_reducible refine (hW.out _).mono ?_; rintro e w1 ⟨rfl, rfl⟩))
    go_ret
    exact ⟨rfl, hb.out⟩
/-- n laid on the L symbols from o on, ten bits each -/
def putF (f : Nat → Nat) (o L n k j : Nat) : Nat := if o + L - k ≤ j ∧ j < o + L then n / 1024 ^ (o + L - 1 - j) % 1024 else f j
theorem putF_step {f : Nat → Nat} {o L n k : Nat} (hk : k < L) (j : Nat) : (if j = o + (L - 1 - k) then n / 1024 ^ k % 1024 else putF f o L n k j) = putF f o L n (k + 1) j := by
  unfold putF
  by_cases e : j = o + (L - 1 - k)
  · rw [if_pos e, if_pos (by omega), show o + L - 1 - j = k by omega]
  · rw [if_neg e]
    by_cases h : o + L - k ≤ j ∧ j < o + L
    · rw [if_pos h, if_pos (by omega)]
    · rw [if_neg h, if_neg (by omega)]
theorem add_at (g o i : Nat) : (⟨g, o, none⟩ : Addr).add i = ⟨g, o + i, none⟩ := by
  unfold Addr.add
  split
  · subst i; rfl
  · rfl
theorem grown_trans {w w1 w2 : World} {r : Option Nat} (h : w.grownBy w1 r) (k : w1.grownBy w2 r) : w.grownBy w2 r :=
  ⟨k.os.trans h.os, k.tape.trans h.tape, k.output.trans h.output, Nat.le_trans h.size k.size, fun b hb hne => (k.block b (Nat.lt_of_lt_of_le hb h.size) hne).trans (h.block b hb hne)⟩
set_option maxHeartbeats 1000000 in
theorem fput_any (w : World) (g n o L c : Nat) (f : Nat → Nat) (N : Nat) (hA : Arr w g (rm n f)) (ho : o + L ≤ n) (hL : 0 < L ∧ L ≤ 4) (hN : N < 1099511627776) (hn : n ≤ 1000000) :
    Calls Try.prog 60 #[.slice (some ⟨g, o, none⟩) L c, .int .i64 (N : Int)] w fun e w' => e = .returned (.tuple #[]) ∧ Arr w' g (rm n (putF f o L N L)) ∧ w.grownBy w' (some g) := by
  have H := Lib.hid hA
  clear hA
  have hLI : (L : Int) ≤ 4 := by omega
  go_enter Try.func60, Try.ntmps60
  go_wp2_with fail
  go_loopw [4, 1] (fun p q wr => ∃ k : Nat, k ≤ L ∧ p = .int .i64 ((L : Int) - 1 - (k : Int)) ∧ q = .int .i64 ((N / 1024 ^ k : Nat) : Int) ∧ Arr wr g (rm n (putF f o L N k)) ∧ w.grownBy wr (some g)) (fun p _ _ => (intOf p + 1).toNat)
  case atStart =>
    refine ⟨0, by omega, ?_, by simp, ?_, grown_refl _ _⟩
    · go_num
    · have := H.out
      rwa [rm_congr (g := putF f o L N 0) (fun j _ => by unfold putF; rw [if_neg (by omega)])] at this
  case round =>
    obtain ⟨k, hk, rfl, rfl, hA, hG⟩ := hrel
    by_cases hlt : k < L
    · have hi : (0 : Int) ≤ (L : Int) - 1 - (k : Int) := by omega
      have hd : decide ((0 : Int) ≤ (L : Int) - 1 - (k : Int)) = true := decide_eq_true hi
      obtain ⟨i, hik⟩ : ∃ i : Nat, (L : Int) - 1 - (k : Int) = (i : Int) := ⟨L - 1 - k, by omega⟩
      rw [hik] at hi hd ⊢
      have hiN : Hid (i = L - 1 - k) := by unfold Hid; omega
      have hiL : (i : Int) < (L : Int) := by omega
      obtain ⟨m, hm⟩ : ∃ m, Hid (N / 1024 ^ k = m) := ⟨_, Lib.hid rfl⟩
      have hmN : m < 1099511627776 := by rw [← hm.out]; exact Nat.lt_of_le_of_lt (Nat.div_le_self _ _) hN
      have hm2 : N / 1024 ^ (k + 1) = m / 1024 := by rw [Nat.pow_succ, ← Nat.div_div_eq_div_mul, hm.out]
      rw [hm.out]
      obtain ⟨V, hc⟩ : ∃ V, wr.cell? ⟨g, o + i, none⟩ = some V := ⟨_, hA.cell (i := o + i) (by rw [rm_len]; have := hiN.out; omega)⟩
      have hfz := hA.frozen (o + i)
      have hS := Lib.hid (hA.set_ (o + i) (m % 1024))
      have hG' := Lib.hid (grown_set (i := o + i) hG (.int .u16 ((m % 1024 : Nat) : Int)))
      rw [rm_set] at hS
      have hF : Hid (∀ j, j < n → (if j = o + i then m % 1024 else putF f o L N k j) = putF f o L N (k + 1) j) := fun j _ => by
        have := putF_step (f := f) (o := o) (n := N) hlt j
        rw [hm.out] at this
        rw [hiN.out]
        exact this
      rw [rm_congr hF.out] at hS
      have hj1 : Hid (L - 1 - k = i) := Lib.hid hiN.out.symm
      have hj2 : (i : Int) = (L : Int) - 1 - (k : Int) := hik.symm
      replace hj2 := Lib.hid hj2
      clear hA hG hF hm hik
      clear hiN
      go_wp2_with fail
      refine ⟨⟨k + 1, by omega, ?_, ?_, hS.out, hG'.out⟩, by simp [intOf]⟩
      · have := hj2.out
        go_num
      · rw [hm2]; go_num
    · have hke : k = L := by omega
      have hS := Lib.hid hA
      have hG' := Lib.hid hG
      have hd : decide ((0 : Int) ≤ (L : Int) - 1 - (k : Int)) = false := decide_eq_false (by omega)
      rw [hke] at hS
      have hneg : (L : Int) - 1 - (k : Int) = -1 := by omega
      rw [hneg] at hd ⊢
      clear hA hG
      go_wp2_with fail
      go_end0
      exact ⟨rfl, hS.out, hG'.out⟩
theorem or_ten (a b : Nat) (ha : a < 1073741824) (hb : b < 1024) : bits .or .i64 ((a * 1024 : Nat) : Int) (b : Int) = ((a * 1024 + b : Nat) : Int) := by
  show IntKind.i64.wrap ((BitVec.ofInt 64 ((a * 1024 : Nat) : Int) ||| BitVec.ofInt 64 (b : Int)).toNat : Int) = _
  rw [BitVec.toNat_or, ofInt_u64 (a * 1024) (by omega), ofInt_u64 b (by omega), nat_join 10 (a * 1024) b (by omega) (by omega)]
  rw [IntWalk.i64_in _ (by omega)]
/-- the number that the first k symbols say -/
def numL (xs : List Nat) : Nat → Nat
  | 0 => 0
  | k + 1 => numL xs k * 1024 + at_ xs k
theorem numL_lt {xs : List Nat} (h : ∀ x ∈ xs, x < 1024) : ∀ k, numL xs k < 1024 ^ k
  | 0 => by show 0 < 1; omega
  | k + 1 => by
    have := numL_lt h k
    have h2 := at_lt' h k
    show numL xs k * 1024 + at_ xs k < _
    rw [Nat.pow_succ]
    omega
set_option maxHeartbeats 1000000 in
theorem fnum_any (A : Option Addr) (c : Nat) (xs : List Nat) (w : World) (h : Sl w w.heap.size A xs) (hl : xs.length ≤ 4) (hx : ∀ x ∈ xs, x < 1024) :
    Calls Try.prog 69 #[.slice A xs.length c] w fun e w' => e = .returned (.int .i64 ((numL xs xs.length : Nat) : Int)) ∧ w = w' := by
  have H := Lib.hid h
  clear h
  obtain ⟨n, hn⟩ : ∃ n, Hid (xs.length = n) := ⟨_, Lib.hid rfl⟩
  have hl' : n ≤ 4 := by rw [← hn.out]; exact hl
  rw [hn.out]
  go_enter Try.func69, Try.ntmps69
  go_wp2_with fail
  go_loop [8, 3] (fun p q => ∃ k : Nat, k ≤ n ∧ p = .int .i64 k ∧ q = .int .i64 ((numL xs k : Nat) : Int)) (fun p _ => n - (intOf p).toNat)
  case atStart => exact ⟨0, Nat.zero_le _, rfl, rfl⟩
  case round =>
    obtain ⟨k, hk, rfl, rfl⟩ := hrel
    by_cases hlt : k < n
    · have hkI : (k : Int) < (n : Int) := by omega
      obtain ⟨a, rfl, hab, hca⟩ := H.out.at_ (i := k) (by rw [hn.out]; exact hlt)
      rw [← at_get (by rw [hn.out]; exact hlt)] at hca
      have h2 := at_lt' hx k
      have h3 := numL_lt hx k
      have h4 : 1024 ^ k ≤ 1024 ^ 3 := Nat.pow_le_pow_right (by decide) (by omega)
      have hs : Hid (numL xs (k + 1) = numL xs k * 1024 + at_ xs k) := Lib.hid rfl
      obtain ⟨x, hx'⟩ : ∃ x, Hid (at_ xs k = x) := ⟨_, Lib.hid rfl⟩
      obtain ⟨m, hm⟩ : ∃ m, Hid (numL xs k = m) := ⟨_, Lib.hid rfl⟩
      rw [hx'.out] at hca h2 hs
      rw [hm.out] at h3 hs ⊢
      have hm3 : m < 1073741824 := by
        have : (1024 : Nat) ^ 3 = 1073741824 := by decide
        omega
      have ho := or_ten m x hm3 h2
      have hM : (m : Int) * 1024 = ((m * 1024 : Nat) : Int) := by omega
      obtain ⟨y, hy⟩ : ∃ y, Hid (m * 1024 = y) := ⟨_, Lib.hid rfl⟩
      rw [hy.out] at ho hM hs
      have hy5 : y < 1099511627776 := by rw [← hy.out]; omega
      clear h3 h4 hm hx' hy
      go_wp2_with fail
      exact ⟨⟨k + 1, by omega, by go_num, by rw [hs.out]; go_num⟩, by simp [intOf]; omega⟩
    · obtain rfl : k = n := by omega
      have hd : decide (k < k) = false := decide_eq_false (Nat.lt_irrefl _)
      go_wp2_with fail
      go_ret
      exact ⟨rfl, rfl⟩
end Go.Proofs.Ytmchelbmeajcnaa
