/- The program's stream of bits: put and take. -/
import Derived.Test.YtoogdhnkihdkgaaBy
namespace Go.Proofs.Ytoogdhnkihdkgaa
open Go.RowKit Go.Gf

/-- what lies behind n bits, and n more -/
theorem ofB_add (T n : Nat) (f : Nat → Bool) : ofB (T + n) f = ofB T f * 2 ^ n + ofB n (fun k => f (T + k)) := by
  induction n with
  | zero => simp [ofB]
  | succ n ih =>
    show 2 * ofB (T + n) f + (if f (T + n) then 1 else 0) = _ + (2 * ofB n (fun k => f (T + k)) + if f (T + n) then 1 else 0)
    rw [ih, Nat.pow_succ, ← Nat.mul_assoc]
    omega
/-- n of the last h bits -/
theorem ofB_part (T h n : Nat) (f : Nat → Bool) (h1 : n ≤ h) (h2 : h ≤ T) : ofB T f / 2 ^ (h - n) % 2 ^ n = ofB n (fun k => f (T - h + k)) := by
  apply Nat.eq_of_testBit_eq
  intro t
  rw [Nat.testBit_mod_two_pow, Nat.testBit_div_two_pow, ofB_bit, ofB_bit]
  by_cases ht : t < n
  · have e1 : t + (h - n) < T := by omega
    have e2 : T - 1 - (t + (h - n)) = T - h + (n - 1 - t) := by omega
    simp [ht, e1, e2]
  · simp [ht]
theorem put_bits (V x n : Nat) (hx : x < 2 ^ n) (hn : n ≤ 10) : (V % 18446744073709551616 * 2 ^ n) % 18446744073709551616 ||| x = (V * 2 ^ n + x) % 18446744073709551616 := by
  obtain ⟨k, hk⟩ : ∃ k, 18446744073709551616 = k * 2 ^ n := ⟨2 ^ (64 - n), by rw [← Nat.pow_add, show 64 - n + n = 64 by omega]⟩
  have hkp : 0 < k := by
    rcases Nat.eq_zero_or_pos k with e | e
    · rw [e] at hk; simp at hk
    · exact e
  have e1 : (V % 18446744073709551616 * 2 ^ n) % 18446744073709551616 = (V % k) * 2 ^ n := by
    rw [Nat.mod_mul_mod, hk, Nat.mul_mod_mul_right]
  have e2 : (V % k * 2 ^ n) ||| x = V % k * 2 ^ n + x := by
    rw [← Nat.shiftLeft_eq, ← Nat.shiftLeft_add_eq_or_of_lt hx]
  have e3 : (V * 2 ^ n + x) = (V % k) * 2 ^ n + x + 18446744073709551616 * (V / k) := by
    have := Nat.mod_add_div V k
    rw [hk]
    calc V * 2 ^ n + x = (V % k + k * (V / k)) * 2 ^ n + x := by rw [this]
      _ = _ := by rw [Nat.add_mul, Nat.mul_right_comm]; omega
  have h4 : V % k < k := Nat.mod_lt _ hkp
  have h5 : V % k * 2 ^ n + x < 18446744073709551616 := by
    have : (V % k + 1) * 2 ^ n ≤ k * 2 ^ n := Nat.mul_le_mul_right _ h4
    rw [hk]
    rw [Nat.add_mul] at this
    omega
  rw [e1, e2, e3, Nat.add_mul_mod_self_left, Nat.mod_eq_of_lt h5]
theorem take_bits (V s n : Nat) (h : s + n ≤ 64) : (V % 18446744073709551616) / 2 ^ s % 2 ^ n = V / 2 ^ s % 2 ^ n := by
  apply Nat.eq_of_testBit_eq
  intro t
  rw [show (18446744073709551616 : Nat) = 2 ^ 64 from rfl, Nat.testBit_mod_two_pow, Nat.testBit_div_two_pow, Nat.testBit_mod_two_pow, Nat.testBit_mod_two_pow, Nat.testBit_div_two_pow]
  by_cases ht : t < n
  · have : t + s < 64 := by omega
    simp [ht, this]
  · simp [ht]

/-- block g is the two numbers of a stream -/
def Str (w : World) (g : Nat) (b h : Nat) : Prop := w.heap[g]? = some (.cells #[.int .u64 (b : Int), .int .u64 (h : Int)] 40 (0, 0))
theorem Str.lt {w : World} {g b h : Nat} (H : Str w g b h) : g < w.heap.size := by
  rcases Nat.lt_or_ge g w.heap.size with hlt | hge
  · exact hlt
  · unfold Str at H; rw [Array.getElem?_eq_none hge] at H; cases H
theorem Str.cell0 {w : World} {g b h : Nat} (H : Str w g b h) : w.cell? ⟨g, 0, none⟩ = some (.int .u64 (b : Int)) := by rw [cell_of_row w g 0 _ 40 (0, 0) H]; rfl
theorem Str.cell1 {w : World} {g b h : Nat} (H : Str w g b h) : w.cell? ⟨g, 1, none⟩ = some (.int .u64 (h : Int)) := by rw [cell_of_row w g 1 _ 40 (0, 0) H]; rfl
theorem Str.frozen {w : World} {g b h : Nat} (H : Str w g b h) (i : Nat) : w.frozen? ⟨g, i, none⟩ = false := by unfold Str at H; simp [World.frozen?, H]
theorem Str.set0 {w : World} {g b h : Nat} (H : Str w g b h) (c : Nat) : Str (w.setCell ⟨g, 0, none⟩ (.int .u64 (c : Int))) g c h := by
  unfold Str at *
  simp only [World.setCell]
  rw [Array.getElem?_modify, H]
  simp
theorem Str.set1 {w : World} {g b h : Nat} (H : Str w g b h) (c : Nat) : Str (w.setCell ⟨g, 1, none⟩ (.int .u64 (c : Int))) g b c := by
  unfold Str at *
  simp only [World.setCell]
  rw [Array.getElem?_modify, H]
  simp
theorem grown_refl (w : World) (r : Option Nat) : w.grownBy w r := ⟨rfl, rfl, rfl, Nat.le_refl _, fun _ _ _ => rfl⟩
theorem grown_set {w w' : World} {g i : Nat} (h : w.grownBy w' (some g)) (v : Value) : w.grownBy (w'.setCell ⟨g, i, none⟩ v) (some g) := by
  refine ⟨h.os, h.tape, h.output, ?_, fun k hk hne => ?_⟩
  · simp only [World.setCell, Array.size_modify]; exact h.size
  · simp only [World.setCell]
    rw [Array.getElem?_modify, if_neg (fun e => hne (by rw [e]))]
    exact h.block k hk hne
theorem grown_drewN {w w' : World} {r : Option Nat} (h : w.grownBy w' r) (n : Nat) : w.grownBy (w'.drewN n) r := ⟨h.os, h.tape, h.output, h.size, h.block⟩
set_option maxHeartbeats 1000000 in
theorem put_any (w : World) (g V h x n : Nat) (hs : Str w g (V % 18446744073709551616) h) (hx : x < 2 ^ n) (hn : n ≤ 10) (hh : h ≤ 100) {N Y : Int} (hN : N = (n : Int)) (hY : Y = (x : Int)) :
    Calls Try.prog 18 #[.pointer (some ⟨g, 0, none⟩), .int .u64 Y, .int .u64 N] w fun e w' => e = .returned (.tuple #[]) ∧ Str w' g ((V * 2 ^ n + x) % 18446744073709551616) (h + n) ∧ w.grownBy w' (some g) := by
  subst hN hY
  have H := Lib.hid hs
  have hb := put_bits V x n hx hn
  have hp : 2 ^ n ≤ 1024 := Nat.pow_le_pow_right (by decide) hn
  have hV : V % 18446744073709551616 < 18446744073709551616 := Nat.mod_lt _ (by decide)
  generalize V % 18446744073709551616 = b at *
  obtain ⟨c, hc⟩ : ∃ c, Hid ((b * 2 ^ n) % 18446744073709551616 = c) := ⟨_, Lib.hid rfl⟩
  have hc1 : c < 18446744073709551616 := by rw [← hc.out]; exact Nat.mod_lt _ (by decide)
  rw [hc.out] at hb
  generalize (V * 2 ^ n + x) % 18446744073709551616 = d at *
  have hor : bits .or .u64 (c : Int) (x : Int) = (d : Int) := by rw [u64_or_nat c x hc1 (by omega), hb]
  have hmn : min (n : Int) 64 = (n : Int) := by omega
  have hmN : min n 64 = n := by omega
  have hw : IntKind.u64.wrap ((b : Int) * 2 ^ n) = (c : Int) := by
    show ((b : Int) * 2 ^ n) % 18446744073709551616 = (c : Int)
    rw [← hc.out, Int.natCast_emod, Int.natCast_mul, Int.natCast_pow]; rfl
  have hw2 : IntKind.u64.wrap ((h : Int) + (n : Int)) = ((h + n : Nat) : Int) := by
    show ((h : Int) + (n : Int)) % 18446744073709551616 = _
    omega
  have c0 := hs.cell0
  have c1 := hs.cell1
  have f0 := hs.frozen
  have hN : Hid (Str ((w.setCell ⟨g, 0, none⟩ (.int .u64 (d : Int))).setCell ⟨g, 1, none⟩ (.int .u64 ((h + n : Nat) : Int))) g d (h + n)) := (hs.set0 d).set1 (h + n)
  have hG : Hid (w.grownBy ((w.setCell ⟨g, 0, none⟩ (.int .u64 (d : Int))).setCell ⟨g, 1, none⟩ (.int .u64 ((h + n : Nat) : Int))) (some g)) := grown_set (grown_set (grown_refl w _) _) _
  obtain ⟨m, hm⟩ : ∃ m, Hid (h + n = m) := ⟨_, Lib.hid rfl⟩
  rw [hm.out] at hw2 hN hG ⊢
  clear hs H hb hx hn hp
  go_enter Try.func18, Try.ntmps18
  go_wp2_with fail
  go_end0
  exact ⟨rfl, hN.out, hG.out⟩
set_option maxHeartbeats 1000000 in
theorem take_any (w : World) (g V h n : Nat) (hs : Str w g (V % 18446744073709551616) h) (hn : n ≤ h) (h10 : n ≤ 10) (h1 : 1 ≤ n) (hh : h ≤ 64) {N : Int} (hN : N = (n : Int)) :
    Calls Try.prog 19 #[.pointer (some ⟨g, 0, none⟩), .int .u64 N] w fun e w' => e = .returned (.int .u64 ((V / 2 ^ (h - n) % 2 ^ n : Nat) : Int)) ∧ Str w' g (V % 18446744073709551616) (h - n) ∧ w.grownBy w' (some g) := by
  subst hN
  have hb := take_bits V (h - n) n (by omega)
  generalize V / 2 ^ (h - n) % 2 ^ n = d at *
  have hV : V % 18446744073709551616 < 18446744073709551616 := Nat.mod_lt _ (by decide)
  generalize V % 18446744073709551616 = b at *
  obtain ⟨s, hsn⟩ : ∃ s, Hid (h - n = s) := ⟨_, Lib.hid rfl⟩
  rw [hsn.out] at hb ⊢
  have hw2 : IntKind.u64.wrap ((h : Int) - (n : Int)) = (s : Int) := by
    show ((h : Int) - (n : Int)) % 18446744073709551616 = _
    have := hsn.out; omega
  have c0 := hs.cell0
  have f0 := hs.frozen
  have hN : Hid (Str (w.setCell ⟨g, 1, none⟩ (.int .u64 (s : Int))) g b s) := hs.set1 s
  have hG : Hid (w.grownBy (w.setCell ⟨g, 1, none⟩ (.int .u64 (s : Int))) (some g)) := grown_set (grown_refl w _) _
  have c1 := hs.cell1
  have d0 := hN.out.cell0
  have d1 := hN.out.cell1
  have hp : 2 ^ n ≤ 1024 := Nat.pow_le_pow_right (by decide) h10
  have hp2 : 2 ≤ 2 ^ n := by have := Nat.pow_le_pow_right (n := 2) (by decide) h1; omega
  have hmn : min (n : Int) 64 = (n : Int) := by omega
  have hms : min (s : Int) 64 = (s : Int) := by have := hsn.out; omega
  have hmN : min n 64 = n := by omega
  have hmS : min s 64 = s := by have := hsn.out; omega
  have hand : bits .and .u64 ((b : Int) / 2 ^ s) (IntKind.u64.wrap (IntKind.u64.wrap (2 ^ n) - 1)) = (d : Int) := by
    have e1 : ((b : Int) / 2 ^ s) = ((b / 2 ^ s : Nat) : Int) := by push_cast; rfl
    have e2 : IntKind.u64.wrap (IntKind.u64.wrap (2 ^ n) - 1) = ((2 ^ n - 1 : Nat) : Int) := by
      show (((2 : Int) ^ n) % 18446744073709551616 - 1) % 18446744073709551616 = _
      have e3 : ((2 : Int) ^ n) = ((2 ^ n : Nat) : Int) := by push_cast; rfl
      rw [e3]
      omega
    rw [e1, e2, u64_and_nat (b / 2 ^ s) (2 ^ n - 1) (Nat.lt_of_le_of_lt (Nat.div_le_self _ _) hV) (by omega), Nat.and_two_pow_sub_one_eq_mod, hb]
  clear hs hb hn h10 h1
  go_enter Try.func19, Try.ntmps19
  go_wp2_with fail
  go_quiet (fail)
  go_wp2_with fail
  go_ret
  exact ⟨by rw [← hand]; rfl, hN.out, grown_drewN hG.out _⟩
end Go.Proofs.Ytoogdhnkihdkgaa
