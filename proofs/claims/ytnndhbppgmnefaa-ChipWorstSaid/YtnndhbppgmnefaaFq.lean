/- Floating-point numbers made whole: cut off, and rounded down (no program is named here). -/
import Derived.Test.YtnndhbppgmnefaaFl
import GoSem.Extern.MathFloor
namespace Go.Fl
open Ieee

theorem cut_down_pos {n d K : Nat} (h1 : K * 2 ^ d ≤ n) (h2 : n < (K + 1) * 2 ^ d) : Toward.down.cut false n d = K := by
  have e : Toward.down.cut false n d = Toward.zero.cut false n d := by simp [Toward.cut]
  rw [e]
  exact Nat.le_antisymm (cut_zero_le h2) (le_cut h1)
theorem ceil_eq {n g K : Nat} (hg : 0 < g) (h1 : n ≤ K * g) (h2 : K * g < n + g) : n / g + (n % g != 0).toNat = K := by
  have e := Nat.div_add_mod n g
  have hr := Nat.mod_lt n hg
  generalize n / g = l at *
  generalize n % g = r at *
  rw [Nat.mul_comm] at e
  by_cases h0 : r = 0
  · subst h0
    have a1 : l * g ≤ K * g := by omega
    have a2 : K * g < (l + 1) * g := by rw [Nat.add_mul]; omega
    have b1 := Nat.le_of_mul_le_mul_right a1 hg
    have b2 := Nat.lt_of_mul_lt_mul_right a2
    simp; omega
  · have a1 : l * g < K * g := by omega
    have a2 : K * g < (l + 2) * g := by rw [Nat.add_mul]; omega
    have b1 := Nat.lt_of_mul_lt_mul_right a1
    have b2 := Nat.lt_of_mul_lt_mul_right a2
    have : (r != 0) = true := by simpa using h0
    rw [this]; simp; omega
theorem cut_down_neg {n d K : Nat} (h1 : n ≤ K * 2 ^ d) (h2 : K * 2 ^ d < n + 2 ^ d) : Toward.down.cut true n d = K := by
  unfold Toward.cut
  dsimp only
  rw [Bool.true_and]
  by_cases hd : d ≤ n.log2 + 2
  · rw [Nat.min_eq_left hd, Nat.shiftLeft_eq, Nat.one_mul]
    exact ceil_eq (Nat.two_pow_pos d) h1 h2
  · have hl := lt_log n
    rw [Nat.min_eq_right (by omega), Nat.shiftLeft_eq, Nat.one_mul]
    have hm : 2 ^ (n.log2 + 2) ≤ 2 ^ d := Nat.pow_le_pow_right (by omega) (by omega)
    refine ceil_eq (Nat.two_pow_pos _) ?_ ?_
    · rcases Nat.eq_zero_or_pos K with rfl | hK
      · omega
      · have := Nat.le_mul_of_pos_left (2 ^ (n.log2 + 2)) hK
        omega
    · have : K * 2 ^ d < 2 * 2 ^ d := by omega
      have hK := Nat.lt_of_mul_lt_mul_right this
      rcases Nat.eq_zero_or_pos n with rfl | hn
      · have : K * 2 ^ d < 1 * 2 ^ d := by omega
        have := Nat.lt_of_mul_lt_mul_right this
        obtain rfl : K = 0 := by omega
        have := Nat.two_pow_pos ((0 : Nat).log2 + 2)
        omega
      · obtain rfl | rfl : K = 0 ∨ K = 1 := by omega
        · have := Nat.two_pow_pos (n.log2 + 2); omega
        · omega
theorem shl_scale (m : Nat) (p : Int) : ((m <<< p.toNat : Nat) : Rat) = (m : Rat) * pw p * ((2 ^ (-p).toNat : Nat) : Rat) := by
  rw [← pw_nat, Nat.shiftLeft_eq]
  have e : ((m * 2 ^ p.toNat : Nat) : Rat) = (m : Rat) * ((2 ^ p.toNat : Nat) : Rat) := by rw [Rat.natCast_mul]
  rw [e, ← pw_nat, Rat.mul_assoc, ← pw_add]
  congr 2
  omega
/-- what is made of a number, rounded down -/
theorem down_is {s : Bool} {m : Nat} {p : Int} {q : Rat} {k : Int} (e : dv s m p = q) (h1 : (k : Rat) ≤ q) (h2 : q < ((k + 1 : Int) : Rat)) :
    dv s (Toward.down.cut s (m <<< p.toNat) (-p).toNat) 0 = (k : Rat) := by
  subst e
  have hs := shl_scale m p
  have hpos : (0 : Rat) < ((2 ^ (-p).toNat : Nat) : Rat) := Rat.natCast_pos.2 (Nat.two_pow_pos _)
  have hm := mag_nonneg m p
  generalize m <<< p.toNat = n at *
  generalize (-p).toNat = d at *
  have f0 : ∀ (s : Bool) (c : Nat), dv s c 0 = sg s (c : Rat) := fun s c => by unfold dv; rw [pw_zero, Rat.mul_one]
  cases s
  · have e : dv false m p = (m : Rat) * pw p := rfl
    rw [e] at h1 h2
    generalize (m : Rat) * pw p = v at *
    have hk : 0 ≤ k := by
      have : (((-1 : Int) : Int) : Rat) < (k : Rat) := by
        have : (0 : Rat) < ((k + 1 : Int) : Rat) := lt_of_le_of_lt' hm h2
        rw [Rat.intCast_add] at this
        have e1 : (((-1 : Int) : Int) : Rat) = -1 := rfl
        have e2 : ((1 : Int) : Rat) = 1 := rfl
        rw [e1]; rw [e2] at this; grind
      have := Rat.intCast_lt_intCast.1 this
      omega
    obtain ⟨K, rfl⟩ : ∃ K : Nat, k = (K : Int) := ⟨k.toNat, by omega⟩
    have a1 : K * 2 ^ d ≤ n := by
      rw [← cast_le, Rat.natCast_mul, hs]
      exact Rat.mul_le_mul_of_nonneg_right h1 (Rat.le_of_lt hpos)
    have a2 : n < (K + 1) * 2 ^ d := by
      rw [← cast_lt, Rat.natCast_mul, hs]
      exact (mul_lt_cancel hpos).2 h2
    rw [cut_down_pos a1 a2, f0]
    rfl
  · have e : dv true m p = -((m : Rat) * pw p) := rfl
    rw [e] at h1 h2
    generalize (m : Rat) * pw p = v at *
    have hk : k ≤ 0 := by
      have : (k : Rat) ≤ ((0 : Int) : Rat) := by
        have e2 : ((0 : Int) : Rat) = 0 := rfl
        rw [e2]; grind
      exact Rat.intCast_le_intCast.1 this
    obtain ⟨K, rfl⟩ : ∃ K : Nat, k = -(K : Int) := ⟨(-k).toNat, by omega⟩
    have c1 : ((-(K : Int) : Int) : Rat) = -(K : Rat) := by rw [Rat.intCast_neg]; rfl
    have c2 : ((-(K : Int) + 1 : Int) : Rat) = -(K : Rat) + 1 := by rw [Rat.intCast_add, Rat.intCast_neg]; rfl
    rw [c1] at h1
    rw [c2] at h2
    have a1 : n ≤ K * 2 ^ d := by
      rw [← cast_le, Rat.natCast_mul, hs]
      exact Rat.mul_le_mul_of_nonneg_right (by grind) (Rat.le_of_lt hpos)
    have a2 : K * 2 ^ d < n + 2 ^ d := by
      rw [← cast_lt, Rat.natCast_mul, Rat.natCast_add, hs]
      have : (K : Rat) < v + 1 := by grind
      have := (mul_lt_cancel hpos).2 this
      grind
    rw [cut_down_neg a1 a2, f0, c1]
    rfl
/-- a word for a number that is not too great, rounded down -/
theorem floor_is {x : Nat} {q : Rat} {k : Int} (hx : Is x q) (h1 : (k : Rat) ≤ q) (h2 : q < ((k + 1 : Int) : Rat)) (hk : k.natAbs < 2 ^ 53) :
    ∃ s m p r, FloatKind.f64.decode x = .number s m p ∧ FloatKind.f64.encode ((Datum.number s m p).integral .down) = r ∧ Is r (k : Rat) := by
  obtain ⟨s, m, p, rx, e⟩ := hx
  refine ⟨s, m, p, _, rx, rfl, ?_⟩
  have hd := down_is e h1 h2
  obtain ⟨v, hv, b1, b2⟩ := write_is (s := s) (m := Toward.down.cut s (m <<< p.toNat) (-p).toNat) (p := 0) (rep_int k hk) (rep_int k hk) (by rw [hd]; exact Rat.le_refl) (by rw [hd]; exact Rat.le_refl)
  have : v = (k : Rat) := Rat.le_antisymm b2 b1
  rw [this] at hv
  exact hv
theorem run_integral {x : Nat} {s : Bool} {m : Nat} {p : Int} {nm : String} {way : Toward} (hd : FloatKind.f64.decode x = .number s m p) :
    Extern.MathFloor.toIntegral nm way #[.float .f64 x] = pure (.float .f64 (FloatKind.f64.encode ((Datum.number s m p).integral way))) := by
  delta Extern.MathFloor.toIntegral
  generalize FloatKind.f64.decode = D at hd ⊢
  conv => lhs; whnf
  rw [hd]
end Go.Fl
