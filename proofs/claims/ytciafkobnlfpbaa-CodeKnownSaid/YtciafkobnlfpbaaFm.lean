/- What the program's product does, as plain numbers: powers of x added up, folded twice, are the product of the field (no program is named here). -/
import Derived.Test.YtciafkobnlfpbaaGf
namespace Go.Gf

/-- x^3 + 1 for x^10 -/
def fo (p : Nat) : Nat := p % 1024 ^^^ 8 * (p / 1024) ^^^ p / 1024
/-- a times the powers of x in the lowest k bits of b, added up -/
def pr : Nat → Nat → Nat → Nat
  | 0, _, _ => 0
  | k + 1, a, b => pr k a b ^^^ a * 2 ^ k * (b / 2 ^ k % 2)
theorem xor_8 (a b : Nat) : 8 * (a ^^^ b) = 8 * a ^^^ 8 * b := by
  have h : ∀ n, 8 * n = 2 * (2 * (2 * n)) := fun n => by omega
  rw [h, h a, h b, xor_double, xor_double, xor_double]
theorem xor_div1024 (a b : Nat) : (a ^^^ b) / 1024 = a / 1024 ^^^ b / 1024 := by
  have := Nat.shiftRight_xor_distrib (a := a) (b := b) (i := 10)
  simpa [Nat.shiftRight_eq_div_pow] using this
theorem fo_xor (a b : Nat) : fo (a ^^^ b) = fo a ^^^ fo b := by
  unfold fo
  have h := Nat.xor_mod_two_pow (a := a) (b := b) (n := 10)
  rw [show (2 : Nat) ^ 10 = 1024 from rfl] at h
  rw [h, xor_div1024, xor_8, xor4 (a % 1024) (b % 1024), xor4]
theorem fo_double : ∀ {a : Nat}, a < 1024 → fo (2 * a) = xt a := fun {a} h => (by decide +kernel : ∀ a : Fin 1024, fo (2 * a.val) = xt a) ⟨a, h⟩
theorem fofo_pow : ∀ {a k : Nat}, a < 1024 → k < 10 → fo (fo (a * 2 ^ k)) = gm a (2 ^ k) :=
  fun {a k} h hk => (by decide +kernel : ∀ a : Fin 1024, ∀ k : Fin 10, fo (fo (a.val * 2 ^ k.val)) = gm a (2 ^ k.val)) ⟨a, h⟩ ⟨k, hk⟩
theorem add_xor {x k : Nat} (h : x < 2 ^ k) : x + 2 ^ k = x ^^^ 2 ^ k := by
  have := Nat.two_pow_add_eq_or_of_lt h 1
  simp only [Nat.mul_one] at this
  rw [Nat.add_comm, this]
  apply Nat.eq_of_testBit_eq
  intro i
  rw [Nat.testBit_xor, Nat.testBit_or, Nat.testBit_two_pow]
  by_cases hi : k = i
  · subst hi
    rw [Nat.testBit_lt_two_pow h]; simp
  · simp [hi]
theorem fofo_pr {a : Nat} (b : Nat) (ha : a < 1024) : ∀ {k : Nat}, k ≤ 10 → fo (fo (pr k a b)) = gm a (b % 2 ^ k)
  | 0, _ => by
    show fo (fo 0) = gm a (b % 2 ^ 0)
    rw [Nat.pow_zero, Nat.mod_one, gm_zero_right]; rfl
  | k + 1, hk => by
    have ih := fofo_pr b ha (k := k) (by omega)
    have hm : b % 2 ^ (k + 1) = b % 2 ^ k + 2 ^ k * (b / 2 ^ k % 2) := by rw [Nat.pow_succ, Nat.mod_mul]
    show fo (fo (pr k a b ^^^ a * 2 ^ k * (b / 2 ^ k % 2))) = _
    rw [fo_xor, fo_xor, ih, hm]
    rcases Nat.mod_two_eq_zero_or_one (b / 2 ^ k) with h | h
    · rw [h, Nat.mul_zero, Nat.mul_zero, Nat.add_zero]
      exact Nat.xor_zero _
    · rw [h, Nat.mul_one, Nat.mul_one, fofo_pow ha (by omega), add_xor (Nat.mod_lt _ (Nat.two_pow_pos k)), gm_xor_right]
theorem pr_gm {a b : Nat} (ha : a < 1024) : fo (fo (pr 10 a b)) = gm a (b % 1024) := fofo_pr b ha (k := 10) (Nat.le_refl _)
theorem pr_lt {a b : Nat} (ha : a < 1024) : ∀ {k : Nat}, k ≤ 10 → pr k a b < 2 ^ 20
  | 0, _ => by show 0 < _; decide
  | k + 1, hk => by
    have ih := pr_lt (b := b) ha (k := k) (by omega)
    show pr k a b ^^^ _ < _
    refine Nat.xor_lt_two_pow ih ?_
    have h2 : (2 : Nat) ^ k ≤ 2 ^ 9 := Nat.pow_le_pow_right (by omega) (by omega)
    have h3 : a * 2 ^ k ≤ 1023 * 2 ^ 9 := Nat.mul_le_mul (by omega) h2
    have h4 : b / 2 ^ k % 2 ≤ 1 := by omega
    have h5 := Nat.mul_le_mul h3 h4
    omega
theorem fo_lt {p : Nat} (h : p < 2 ^ 20) : fo p < 2 ^ 20 := by
  unfold fo
  refine Nat.xor_lt_two_pow (Nat.xor_lt_two_pow ?_ ?_) ?_ <;> omega
end Go.Gf
