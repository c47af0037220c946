/- What a call of field's functions answers, said as a name for each, whatever made tables and whatever world; and the numbers of the field as powers of x. -/
import Derived.Test.YtciafkobnlfpbaaFa
import Derived.Test.YtciafkobnlfpbaaRows
import Derived.ProofKit
import Derived.OpenShut
namespace Go.Proofs.Ytciafkobnlfpbaa
open Go.RowKit Go.Gf

theorem u16_bd {a : Int} (h : (Lit.int .u16 a).wf = true) : 0 ≤ a ∧ a < 65536 := by
  simp [Lit.wf, IntKind.min, IntKind.max, IntKind.signed, IntKind.bits] at h; omega
theorem logI_bd (a : Int) (a0 : 0 ≤ a) : 0 ≤ logI a ∧ logI a < 1023 := by
  unfold logI
  split
  · omega
  · have := (E_lg (a := a.toNat % 1024) (by omega) (by omega)).2
    omega
theorem expI_logI {a : Int} (h0 : 0 ≤ a) (h : a % 1024 ≠ 0) : expI (logI a) = a % 1024 := by
  have h1 := E_lg (a := a.toNat % 1024) (by omega) (by omega)
  unfold expI logI
  rw [if_neg h, show (((lg (a.toNat % 1024) : Nat) : Int) % 1023).toNat = lg (a.toNat % 1024) by omega, h1.1]
  omega
theorem expI_bd (n : Int) : 1 ≤ expI n ∧ expI n < 1024 := by
  unfold expI
  have h1 := E_lt (n % 1023).toNat
  have h2 := Nat.pos_of_ne_zero (E_ne (n % 1023).toNat)
  omega
theorem expI_mod (n : Int) : expI n % 1024 = expI n := by have := expI_bd n; omega
theorem expI_eq {x y : Int} : expI x = expI y ↔ x % 1023 = y % 1023 := by
  unfold expI
  constructor
  · intro h
    have h' := (E_inj (i := (x % 1023).toNat) (j := (y % 1023).toNat)).1 (by omega)
    omega
  · intro h; rw [h]
theorem expI_of {x y : Int} (h : (x - y) % 1023 = 0) : expI x = expI y := expI_eq.2 (by omega)
theorem expI_nat (n : Nat) : ((E n : Nat) : Int) = expI n := by
  unfold expI
  rw [E_mod n]
  congr 2
theorem expI_zero : expI 0 = 1 := by decide +kernel
theorem mulI_exp (x y : Int) : mulI (expI x) (expI y) = expI (x + y) := by
  have h : ∀ z, expI z = ((E (z % 1023).toNat : Nat) : Int) := fun _ => rfl
  rw [h x, h y, mulI_E, expI_nat]
  refine expI_of ?_
  rw [Int.natCast_add, Int.toNat_of_nonneg (Int.emod_nonneg _ (by omega)), Int.toNat_of_nonneg (Int.emod_nonneg _ (by omega))]
  omega
theorem logI_exp (x : Int) : logI (expI x) = x % 1023 := by
  have h := expI_bd x
  have h1 := expI_logI (a := expI x) (by omega) (by omega)
  rw [expI_mod, expI_eq] at h1
  have := logI_bd (expI x) (by omega)
  omega
theorem expI_log {a : Int} (h0 : 0 < a) (h1 : a < 1024) : expI (logI a) = a := by
  have := expI_logI (a := a) (by omega) (by omega)
  omega
theorem cases_exp {a : Int} (h0 : 0 ≤ a) (h1 : a < 1024) : a = 0 ∨ ∃ i : Int, 0 ≤ i ∧ i < 1023 ∧ a = expI i := by
  rcases Int.lt_or_eq_of_le h0 with h | h
  · have := logI_bd a h0
    exact Or.inr ⟨logI a, this.1, this.2, (expI_log h h1).symm⟩
  · exact Or.inl h.symm
theorem mulI_one {a : Int} (h0 : 0 ≤ a) (h1 : a < 1024) : mulI a 1 = a := by
  unfold mulI
  rw [show (1 : Int).toNat % 1024 = 1 from rfl, gm_one_right]; omega
theorem mulI_zero (a : Int) : mulI a 0 = 0 := by
  unfold mulI
  rw [show (0 : Int).toNat % 1024 = 0 from rfl, gm_zero_right]; rfl
theorem mulI_comm (a b : Int) : mulI a b = mulI b a := by
  unfold mulI
  rw [gm_comm (Nat.mod_lt _ (by decide)) (Nat.mod_lt _ (by decide))]
theorem zero_mulI (a : Int) : mulI 0 a = 0 := by rw [mulI_comm, mulI_zero]
theorem mulI_assoc (a b c : Int) : mulI (mulI a b) c = mulI a (mulI b c) := by
  have h : ∀ x : Nat, x < 1024 → ((x : Nat) : Int).toNat % 1024 = x := fun x hx => by omega
  unfold mulI
  rw [h _ (gm_lt _ (Nat.mod_lt _ (by decide))), h _ (gm_lt _ (Nat.mod_lt _ (by decide))), gm_assoc (Nat.mod_lt _ (by decide)) (Nat.mod_lt _ (by decide)) (Nat.mod_lt _ (by decide))]
/-- the sum -/
def addI (a b : Int) : Int := ((a.toNat ^^^ b.toNat : Nat) % 1024 : Nat)
theorem addI_bd (a b : Int) : 0 ≤ addI a b ∧ addI a b < 1024 := by unfold addI; omega
theorem mulI_add {a b c : Int} (b0 : 0 ≤ b) (b1 : b < 1024) (c0 : 0 ≤ c) (c1 : c < 1024) : mulI a (addI b c) = addI (mulI a b) (mulI a c) := by
  obtain ⟨B, rfl⟩ : ∃ B : Nat, b = B := ⟨b.toNat, by omega⟩
  obtain ⟨C, rfl⟩ : ∃ C : Nat, c = C := ⟨c.toNat, by omega⟩
  have hx := xor_lt (a := B) (b := C) (by omega) (by omega)
  unfold mulI addI
  simp only [Int.toNat_natCast]
  have hA : a.toNat % 1024 < 1024 := Nat.mod_lt _ (by decide)
  have h1 := gm_lt B hA
  have h2 := gm_lt C hA
  rw [Nat.mod_mod, Nat.mod_eq_of_lt hx, Nat.mod_eq_of_lt (show B < 1024 by omega), Nat.mod_eq_of_lt (show C < 1024 by omega), gm_xor_right, Nat.mod_eq_of_lt (xor_lt h1 h2)]
theorem invI_exp (x : Int) : invI (expI x) = expI (-x) := by
  have h : expI x = ((E (x % 1023).toNat : Nat) : Int) := rfl
  have hE := E_lt (x % 1023).toNat
  unfold invI
  rw [h, Int.toNat_natCast, Nat.mod_eq_of_lt hE, ginv_E, expI_nat]
  exact expI_of (by omega)
theorem powI_exp (x n : Int) : powI (expI x) n = expI (x * n) := by
  have hb := expI_bd x
  unfold powI
  by_cases hn : n = 0
  · rw [if_pos hn, hn, Int.mul_zero, expI_zero]
  · rw [if_neg hn, if_neg (by omega)]
    have h : expI x = ((E (x % 1023).toNat : Nat) : Int) := rfl
    have hE := E_lt (x % 1023).toNat
    rw [h, Int.toNat_natCast, Nat.mod_eq_of_lt hE, gpow_E, expI_nat, Int.natCast_mul, Int.toNat_of_nonneg (Int.emod_nonneg _ (by omega)), Int.toNat_of_nonneg (Int.emod_nonneg _ (by omega))]
    rw [expI_eq, ← Int.mul_emod]

theorem St.after {w w1 : World} {g : Nat} {cs : List Nat} (h : St w g cs w1) (x : Cl.After w1.heap.size w1) : St w g cs x.w := h.next x.below
theorem St.isA {w w1 : World} {g : Nat} {cs : List Nat} (h : St w g cs w1) (hl : cs.length = 2047) : ∀ x : Cl.After w1.heap.size w1, isTb x.w g = true := fun x => (h.after x).is hl
theorem St.ofA {w w1 : World} {g : Nat} {cs : List Nat} (h : St w g cs w1) : ∀ x : Cl.After w1.heap.size w1, tbOf x.w g = cells cs := fun x => (h.after x).of

theorem mulI_inv {a : Int} (h0 : 0 < a) (h1 : a < 1024) : mulI (invI a) a = 1 := by
  rw [← expI_log h0 h1, invI_exp, mulI_exp, show -logI a + logI a = 0 by omega, expI_zero]
theorem mulI_eq_zero {a b : Int} (a0 : 0 ≤ a) (a1 : a < 1024) (b0 : 0 ≤ b) (b1 : b < 1024) : mulI a b = 0 ↔ a = 0 ∨ b = 0 := by
  constructor
  · intro h
    rcases cases_exp a0 a1 with ha | ⟨i, _, _, ha⟩
    · exact Or.inl ha
    · rcases cases_exp b0 b1 with hb | ⟨j, _, _, hb⟩
      · exact Or.inr hb
      · rw [ha, hb, mulI_exp] at h
        have := expI_bd (i + j)
        omega
  · rintro (h | h)
    · rw [h, zero_mulI]
    · rw [h, mulI_zero]

/-! calls, by name -/
def MulIs (a b c : Int) : Prop := ∀ (cs : List Nat) (w : World), Calls Try.prog 23 #[.agg (cells cs), .int .u16 a, .int .u16 b] w fun e w' => e = .returned (.int .u16 c) ∧ Below w.heap.size w w'
def AddIs (a b c : Int) : Prop := ∀ (w : World), Calls Try.prog 56 #[.int .u16 a, .int .u16 b] w fun e w' => e = .returned (.int .u16 c) ∧ w = w'
def InvIs (a x : Int) (ok : Bool) : Prop := ∀ (cs : List Nat) (w : World), Laid cs 1023 → Calls Try.prog 50 #[.agg (cells cs), .int .u16 a] w fun e w' => e = .returned (.tuple #[.int .u16 x, .bool ok]) ∧ Below w.heap.size w w'
def ExpIs (n x : Int) : Prop := ∀ (cs : List Nat) (w : World), Laid cs 1023 → Calls Try.prog 31 #[.agg (cells cs), .int .i64 n] w fun e w' => e = .returned (.int .u16 x) ∧ Below w.heap.size w w'
section
variable {a b c x l n : Int} {ok : Bool} {cs : List Nat}
theorem MulIs.at (h : MulIs a b c) (cs : List Nat) (w : World) : Calls Try.prog 23 #[.agg (cells cs), .int .u16 a, .int .u16 b] w fun e w' => e = .returned (.int .u16 c) ∧ Below w.heap.size w w' := h cs w
theorem AddIs.at (h : AddIs a b c) (w : World) : Calls Try.prog 56 #[.int .u16 a, .int .u16 b] w fun e w' => e = .returned (.int .u16 c) ∧ w = w' := h w
theorem InvIs.at (h : InvIs a x ok) (hl : Laid cs 1023) (w : World) : Calls Try.prog 50 #[.agg (cells cs), .int .u16 a] w fun e w' => e = .returned (.tuple #[.int .u16 x, .bool ok]) ∧ Below w.heap.size w w' := h cs w hl
theorem ExpIs.at (h : ExpIs n x) (hl : Laid cs 1023) (w : World) : Calls Try.prog 31 #[.agg (cells cs), .int .i64 n] w fun e w' => e = .returned (.int .u16 x) ∧ Below w.heap.size w w' := h cs w hl
end
theorem mulIs {a b c : Int} (a0 : 0 ≤ a) (a1 : a < 65536) (b0 : 0 ≤ b) (b1 : b < 65536) (h : mulI a b = c) : MulIs a b c := fun cs w => h ▸ mul_any cs a b w a0 a1 b0 b1
theorem addIs {a b c : Int} (a0 : 0 ≤ a) (a1 : a < 65536) (b0 : 0 ≤ b) (b1 : b < 65536) (h : addI a b = c) : AddIs a b c := fun w => h ▸ add_any a b w a0 a1 b0 b1
theorem invIs {a x : Int} {ok : Bool} (a0 : 0 ≤ a) (a1 : a < 65536) (h : invI a = x) (ho : (a % 1024 != 0) = ok) : InvIs a x ok := fun cs w hl => h ▸ ho ▸ inv_any cs hl.tab a w a0 a1
theorem expIs {n x : Int} (h : expI n = x) : ExpIs n x := fun cs w hl => h ▸ exp_any cs hl.tab n w
end Go.Proofs.Ytciafkobnlfpbaa
