/- Floating-point numbers cut off, and their sign taken away (no program is named here). -/
import Derived.Test.YtmchelbmeajcnaaWp
import GoSem.Extern.MathFloatBits
namespace Go.Fl
open Ieee

theorem read_abs {x : Nat} {s : Bool} {m : Nat} {p : Int} (h : double.read x = .number s m p) : double.read (x % 9223372036854775808) = .number false m p := by
  have e1 : double.signWeight = 9223372036854775808 := by decide +kernel
  unfold Format.read at h ⊢
  dsimp only at h ⊢
  rw [e1] at h ⊢
  rw [Nat.mod_mod]
  have e2 : (x % 9223372036854775808 / 9223372036854775808 % 2 == 1) = false := by
    rw [Nat.div_eq_of_lt (Nat.mod_lt _ (by decide))]; rfl
  rw [e2]
  split at h
  · rename_i h1
    rw [if_pos h1]
    injection h with h1 h2 h3
    rw [h2, h3]
  · rename_i h1
    rw [if_neg h1]
    split at h
    · rename_i h2
      rw [if_pos h2]
      injection h with h1 h2 h3
      rw [h2, h3]
    · split at h <;> cases h
/-- the number without its sign -/
theorem abs_is {x : Nat} {q : Rat} (hx : Is x q) : ∃ v, Is (x % 9223372036854775808) v ∧ 0 ≤ v ∧ (q = v ∨ q = -v) := by
  obtain ⟨s, m, p, rx, e⟩ := hx
  refine ⟨(m : Rat) * pw p, ⟨false, m, p, read_abs rx, rfl⟩, mag_nonneg m p, ?_⟩
  rw [← e]
  cases s
  · exact Or.inl rfl
  · exact Or.inr rfl
theorem abs_bits (x : Nat) : bits .andNot .u64 (x : Int) 9223372036854775808 = ((x % 9223372036854775808 : Nat) : Int) := by
  have e1 : (BitVec.ofInt 64 (x : Int) &&& ~~~ (BitVec.ofInt 64 9223372036854775808)).toNat = x % 9223372036854775808 := by
    have e2 : (~~~ (BitVec.ofInt 64 9223372036854775808)).toNat = 2 ^ 63 - 1 := by decide +kernel
    rw [BitVec.toNat_and, e2, Nat.and_two_pow_sub_one_eq_mod, BitVec.toNat_ofInt]
    have : ((x : Int) % ((2 ^ 64 : Nat) : Int)).toNat = x % 2 ^ 64 := by omega
    rw [this]
    omega
  show IntKind.u64.wrap (((BitVec.ofInt 64 (x : Int) &&& ~~~ (BitVec.ofInt 64 9223372036854775808)).toNat : Nat) : Int) = _
  rw [e1]
  have : x % 9223372036854775808 < 9223372036854775808 := Nat.mod_lt _ (by decide)
  generalize x % 9223372036854775808 = y at *
  simp [IntKind.wrap, IntKind.bits, IntKind.signed]; omega
/-- what is made of a number, cut off -/
theorem zero_is {s : Bool} {m : Nat} {p : Int} {K : Nat} (h1 : (K : Rat) ≤ (m : Rat) * pw p) (h2 : (m : Rat) * pw p < ((K + 1 : Nat) : Rat)) :
    Toward.zero.cut s (m <<< p.toNat) (-p).toNat = K := by
  have hs := shl_scale m p
  have hpos : (0 : Rat) < ((2 ^ (-p).toNat : Nat) : Rat) := Rat.natCast_pos.2 (Nat.two_pow_pos _)
  generalize m <<< p.toNat = n at *
  generalize (-p).toNat = d at *
  generalize (m : Rat) * pw p = v at *
  have a1 : K * 2 ^ d ≤ n := by
    rw [← cast_le, Rat.natCast_mul, hs]
    exact Rat.mul_le_mul_of_nonneg_right h1 (Rat.le_of_lt hpos)
  have a2 : n < (K + 1) * 2 ^ d := by
    rw [← cast_lt, Rat.natCast_mul, hs]
    exact (mul_lt_cancel hpos).2 h2
  exact Nat.le_antisymm (cut_zero_le a2) (le_cut a1)
/-- a number that is not too great, cut off: it is itself just if it is whole -/
theorem trunc_is {x : Nat} {q : Rat} (hx : Is x q) (b1 : -4503599627370496 ≤ q) (b2 : q ≤ 4503599627370496) :
    ∃ s m p r, ∃ t : Int, FloatKind.f64.decode x = .number s m p ∧ FloatKind.f64.encode ((Datum.number s m p).integral .zero) = r ∧ Is r (t : Rat) ∧ ∀ a : Int, q = (a : Rat) → t = a := by
  obtain ⟨s, m, p, rx, e⟩ := hx
  have hv := mag_nonneg m p
  obtain ⟨K, hK1, hK2⟩ : ∃ K : Nat, (K : Rat) ≤ (m : Rat) * pw p ∧ (m : Rat) * pw p < ((K + 1 : Nat) : Rat) := by
    refine ⟨((m : Rat) * pw p).floor.toNat, ?_, ?_⟩
    · have h1 := Rat.floor_le ((m : Rat) * pw p)
      have h2 : 0 ≤ ((m : Rat) * pw p).floor := Rat.le_floor_iff.2 hv
      generalize ((m : Rat) * pw p).floor = f at *
      obtain ⟨n, rfl⟩ : ∃ n : Nat, f = (n : Int) := ⟨f.toNat, by omega⟩
      exact h1
    · have h1 := Rat.lt_floor_add_one ((m : Rat) * pw p)
      have h2 : 0 ≤ ((m : Rat) * pw p).floor := Rat.le_floor_iff.2 hv
      generalize ((m : Rat) * pw p).floor = f at *
      obtain ⟨n, rfl⟩ : ∃ n : Nat, f = (n : Int) := ⟨f.toNat, by omega⟩
      exact h1
  have hcut := zero_is (s := s) hK1 hK2
  have hKb : K ≤ 4503599627370496 := by
    have h1 : (K : Rat) ≤ ((4503599627370496 : Nat) : Rat) := by
      have h3 : ((4503599627370496 : Nat) : Rat) = 4503599627370496 := rfl
      rw [h3]
      unfold dv sg at e
      cases s
      · simp at e; grind
      · simp at e; grind
    exact cast_le.1 h1
  have hval : ∀ s : Bool, dv s K 0 = ((if s then -(K : Int) else (K : Int) : Int) : Rat) := fun s => by
    unfold dv sg
    rw [pw_zero, Rat.mul_one]
    cases s
    · rfl
    · simp [Rat.intCast_neg]; rfl
  refine ⟨s, m, p, _, (if s then -(K : Int) else (K : Int)), rx, rfl, ?_, ?_⟩
  · have hrep : Rep (((if s then -(K : Int) else (K : Int) : Int)) : Rat) := rep_int _ (by cases s <;> simp <;> omega)
    obtain ⟨v, hv, g1, g2⟩ := write_is (s := s) (m := Toward.zero.cut s (m <<< p.toNat) (-p).toNat) (p := 0) hrep hrep (by rw [hcut, hval]; exact Rat.le_refl) (by rw [hcut, hval]; exact Rat.le_refl)
    rw [Rat.le_antisymm g2 g1] at hv
    exact hv
  · intro a ha
    rw [ha] at e
    unfold dv sg at e
    cases s
    · simp at e
      rw [e] at hK1 hK2
      have h1 : ((K : Int) : Rat) ≤ (a : Rat) := hK1
      have h2 : (a : Rat) < (((K + 1 : Nat) : Int) : Rat) := hK2
      have := Rat.intCast_le_intCast.1 h1
      have := Rat.intCast_lt_intCast.1 h2
      simp; omega
    · simp at e
      have e2 : (m : Rat) * pw p = ((-a : Int) : Rat) := by rw [Rat.intCast_neg]; grind
      rw [e2] at hK1 hK2
      have h1 : ((K : Int) : Rat) ≤ ((-a : Int) : Rat) := hK1
      have h2 : ((-a : Int) : Rat) < (((K + 1 : Nat) : Int) : Rat) := hK2
      have := Rat.intCast_le_intCast.1 h1
      have := Rat.intCast_lt_intCast.1 h2
      simp; omega
end Go.Fl
