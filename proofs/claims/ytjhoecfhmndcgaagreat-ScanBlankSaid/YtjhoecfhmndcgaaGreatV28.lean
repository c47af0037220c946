/- What a call of field's functions answers, said as a name for each, whatever made tables and whatever world; and the numbers of the field as powers of x. -/
import Derived.Test.YtjhoecfhmndcgaaGreatV26
import Derived.Test.YtjhoecfhmndcgaaGreatRows
import Derived.ProofKit
import Derived.OpenShut
namespace Go.Proofs.YtjhoecfhmndcgaaGreat
open Go.RowKit Go.Gf

theorem expI_eq {x y : Int} : expI x = expI y ↔ x % 1023 = y % 1023 := by
  unfold expI
  constructor
  · intro h
    have h' := (E_inj (i := (x % 1023).toNat) (j := (y % 1023).toNat)).1 (by omega)
    omega
  · intro h; rw [h]
theorem expI_of {x y : Int} (h : (x - y) % 1023 = 0) : expI x = expI y := expI_eq.2 (by omega)
theorem expI_nat (n : Nat) : ((E n : Nat) : Int) = expI n := by
  unfold expI
  rw [E_mod n]
  congr 2
theorem mulI_exp (x y : Int) : mulI (expI x) (expI y) = expI (x + y) := by
  have h : ∀ z, expI z = ((E (z % 1023).toNat : Nat) : Int) := fun _ => rfl
  rw [h x, h y, mulI_E, expI_nat]
  refine expI_of ?_
  rw [Int.natCast_add, Int.toNat_of_nonneg (Int.emod_nonneg _ (by omega)), Int.toNat_of_nonneg (Int.emod_nonneg _ (by omega))]
  omega
/-- the sum -/
def addI (a b : Int) : Int := ((a.toNat ^^^ b.toNat : Nat) % 1024 : Nat)
theorem invI_exp (x : Int) : invI (expI x) = expI (-x) := by
  have h : expI x = ((E (x % 1023).toNat : Nat) : Int) := rfl
  have hE := E_lt (x % 1023).toNat
  unfold invI
  rw [h, Int.toNat_natCast, Nat.mod_eq_of_lt hE, ginv_E, expI_nat]
  exact expI_of (by omega)
/-! calls, by name -/
def MulIs (a b c : Int) : Prop := ∀ (cs : List Nat) (w : World), Calls Tryz.prog 163 #[.agg (cells cs), .int .u16 a, .int .u16 b] w fun e w' => e = .returned (.int .u16 c) ∧ Below w.heap.size w w'
def AddIs (a b c : Int) : Prop := ∀ (w : World), Calls Tryz.prog 161 #[.int .u16 a, .int .u16 b] w fun e w' => e = .returned (.int .u16 c) ∧ w = w'
def InvIs (a x : Int) (ok : Bool) : Prop := ∀ (cs : List Nat) (w : World), Tab cs → Calls Tryz.prog 168 #[.agg (cells cs), .int .u16 a] w fun e w' => e = .returned (.tuple #[.int .u16 x, .bool ok]) ∧ Below w.heap.size w w'

def ExpIs (n x : Int) : Prop := ∀ (cs : List Nat) (w : World), Tab cs → Calls Tryz.prog 155 #[.agg (cells cs), .int .i64 n] w fun e w' => e = .returned (.int .u16 x) ∧ Below w.heap.size w w'

section
variable {a b c x l n : Int} {ok : Bool} {cs : List Nat}
theorem MulIs.at (h : MulIs a b c) (cs : List Nat) (w : World) : Calls Tryz.prog 163 #[.agg (cells cs), .int .u16 a, .int .u16 b] w fun e w' => e = .returned (.int .u16 c) ∧ Below w.heap.size w w' := h cs w
theorem AddIs.at (h : AddIs a b c) (w : World) : Calls Tryz.prog 161 #[.int .u16 a, .int .u16 b] w fun e w' => e = .returned (.int .u16 c) ∧ w = w' := h w
theorem InvIs.at (h : InvIs a x ok) (hl : Tab cs) (w : World) : Calls Tryz.prog 168 #[.agg (cells cs), .int .u16 a] w fun e w' => e = .returned (.tuple #[.int .u16 x, .bool ok]) ∧ Below w.heap.size w w' := h cs w hl

theorem ExpIs.at (h : ExpIs n x) (hl : Tab cs) (w : World) : Calls Tryz.prog 155 #[.agg (cells cs), .int .i64 n] w fun e w' => e = .returned (.int .u16 x) ∧ Below w.heap.size w w' := h cs w hl

end
theorem mulIs {a b c : Int} (a0 : 0 ≤ a) (a1 : a < 65536) (b0 : 0 ≤ b) (b1 : b < 65536) (h : mulI a b = c) : MulIs a b c := fun cs w => h ▸ mul_any cs a b w a0 a1 b0 b1
theorem addIs {a b c : Int} (a0 : 0 ≤ a) (a1 : a < 65536) (b0 : 0 ≤ b) (b1 : b < 65536) (h : addI a b = c) : AddIs a b c := fun w => h ▸ add_any a b w a0 a1 b0 b1
theorem invIs {a x : Int} {ok : Bool} (a0 : 0 ≤ a) (a1 : a < 65536) (h : invI a = x) (ho : (a % 1024 != 0) = ok) : InvIs a x ok := fun cs w hl => h ▸ ho ▸ inv_any cs hl a w a0 a1

theorem expIs {n x : Int} (h : expI n = x) : ExpIs n x := fun cs w hl => h ▸ exp_any cs hl n w

end Go.Proofs.YtjhoecfhmndcgaaGreat
