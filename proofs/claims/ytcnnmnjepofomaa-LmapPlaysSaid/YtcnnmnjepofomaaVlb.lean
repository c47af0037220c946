/- Bits: the box and its words; a row in a block of one's own; math/bits' two functions, place, upper. -/
import Derived.Test.YtcnnmnjepofomaaWra
import Derived.Test.YtcnnmnjepofomaaVla
import Derived.Laws.MakeOwn
import Derived.Laws.Bits128
namespace Go.Proofs.Ytcnnmnjepofomaa.Vl
open Go.RowKit Go.Bw
set_option linter.unusedVariables false
set_option linter.unusedSimpArgs false
theorem w64_127 (n : Nat) (h : n < 18446744073709551616) : wrap64 (n : Int) % 128 = ((n % 128 : Nat) : Int) := by
  rcases Nat.lt_or_ge n 9223372036854775808 with h1 | h1
  · have e : wrap64 (n : Int) = n := by unfold wrap64; omega
    rw [e]; rfl
  · obtain ⟨m, rfl⟩ := Nat.exists_eq_add_of_le h1
    have e : wrap64 ((9223372036854775808 + m : Nat) : Int) = (m : Int) - 9223372036854775808 := by unfold wrap64; omega
    rw [e]; omega
theorem ones_any (x : Nat) (hx : x < 18446744073709551616) (w : World) :
    Calls Try.prog 33 #[.int .u64 (x : Int)] w fun e w' => e = .returned (.int .i64 ((pc x.testBit 64 : Nat) : Int)) ∧ w = w' := by
  have m85 : M 85 8 = 6148914691236517205 := by decide
  have m51 : M 51 8 = 3689348814741910323 := by decide
  have m15 : M 15 8 = 1085102592571150095 := by decide
  have l1 := s1_lt 8 x hx
  obtain ⟨_, l2, l3⟩ := s2_low 8 x hx
  obtain ⟨y, e0, l4, l5, l6, e1⟩ := ones x hx
  have q1 : (x / 2 &&& M 85 8) + (x &&& M 85 8) = s1 8 x := rfl
  have q2 : (s1 8 x / 4 &&& M 51 8) + (s1 8 x &&& M 51 8) = s2 8 (s1 8 x) := rfl
  have q3 : (s2 8 (s1 8 x) / 16 + s2 8 (s1 8 x)) &&& M 15 8 = y := e0
  obtain ⟨x1, h1⟩ : ∃ x1, s1 8 x = x1 := ⟨_, rfl⟩
  rw [h1] at q1 q2 l1 l2 l3 q3
  obtain ⟨x2, h2⟩ : ∃ x2, s2 8 x1 = x2 := ⟨_, rfl⟩
  rw [h2] at q2 q3 l2 l3
  rw [m85] at q1
  rw [m51] at q2
  rw [m15] at q3
  have p0 : (256 : Nat) ^ 8 = 18446744073709551616 := by decide
  rw [p0] at l1 l2 l3
  clear e0 h1 h2 m85 m51 m15 p0
  have g1 : bits .and .u64 ((x : Int) / 2) 6148914691236517205 = ((x / 2 &&& 6148914691236517205 : Nat) : Int) := u64_and_nat (x / 2) 6148914691236517205 (by omega) (by decide)
  have g2 : bits .and .u64 (x : Int) 6148914691236517205 = ((x &&& 6148914691236517205 : Nat) : Int) := u64_and_nat x 6148914691236517205 hx (by decide)
  have g4 : bits .and .u64 ((x1 : Int) / 4) 3689348814741910323 = ((x1 / 4 &&& 3689348814741910323 : Nat) : Int) := u64_and_nat (x1 / 4) 3689348814741910323 (by omega) (by decide)
  have g5 : bits .and .u64 (x1 : Int) 3689348814741910323 = ((x1 &&& 3689348814741910323 : Nat) : Int) := u64_and_nat x1 3689348814741910323 (by omega) (by decide)
  have g8 : bits .and .u64 ((x2 / 16 + x2 : Nat) : Int) 1085102592571150095 = (y : Int) := by rw [← q3]; exact u64_and_nat (x2 / 16 + x2) 1085102592571150095 (by omega) (by decide)
  generalize x / 2 &&& 6148914691236517205 = A1 at *
  generalize x &&& 6148914691236517205 = A2 at *
  generalize x1 / 4 &&& 3689348814741910323 = B1 at *
  generalize x1 &&& 3689348814741910323 = B2 at *
  have wr : ∀ n : Nat, n < 18446744073709551616 → IntKind.u64.wrap (n : Int) = (n : Int) := fun n hn => by simp only [IntKind.wrap, IntKind.signed, IntKind.bits]; simp; omega
  have g3 : IntKind.u64.wrap ((A1 : Int) + (A2 : Int)) = (x1 : Int) := by rw [← Int.natCast_add, q1]; exact wr _ l1
  have g6 : IntKind.u64.wrap ((B1 : Int) + (B2 : Int)) = (x2 : Int) := by rw [← Int.natCast_add, q2]; exact wr _ l2
  obtain ⟨u, hu⟩ : ∃ u, x2 / 16 + x2 = u := ⟨_, rfl⟩
  rw [hu] at g8 l3
  have g7 : IntKind.u64.wrap ((x2 : Int) / 16 + (x2 : Int)) = (u : Int) := by rw [← wr u l3]; congr 1; omega
  obtain ⟨y1, hy1⟩ : ∃ y1, y + y / 256 = y1 := ⟨_, rfl⟩
  rw [hy1] at l4 l5 l6 e1
  obtain ⟨y2, hy2⟩ : ∃ y2, y1 + y1 / 65536 = y2 := ⟨_, rfl⟩
  rw [hy2] at l5 l6 e1
  obtain ⟨y3, hy3⟩ : ∃ y3, y2 + y2 / 4294967296 = y3 := ⟨_, rfl⟩
  rw [hy3] at l6 e1
  have g9 : IntKind.u64.wrap ((y : Int) + (y : Int) / 256) = (y1 : Int) := by rw [← wr y1 l4]; congr 1; omega
  have g10 : IntKind.u64.wrap ((y1 : Int) + (y1 : Int) / 65536) = (y2 : Int) := by rw [← wr y2 l5]; congr 1; omega
  have g11 : IntKind.u64.wrap ((y2 : Int) + (y2 : Int) / 4294967296) = (y3 : Int) := by rw [← wr y3 l6]; congr 1; omega
  have g12 : bits .and .i64 (wrap64 (y3 : Int)) 127 = ((pc x.testBit 64 : Nat) : Int) := by
    rw [← e1, i64_and127]
    exact w64_127 y3 l6
  generalize pc x.testBit 64 = R at *
  clear e1 hu hy1 hy2 hy3 q1 q2 q3 l1 l2 l3 l4 l5 l6 wr
  go_enter Try.func33, Try.ntmps33
  go_wp2
  go_ret
  exact ⟨rfl, rfl⟩
/-- math/bits' table lies where it lies -/
def Tb (w : World) : Prop := ∀ t, t < 64 → w.cell? ⟨0, br t, none⟩ = some (.int .u8 (t : Int))
theorem br_lt : ∀ t, t < 64 → br t < 64 := by decide +kernel
theorem place_any (i : Nat) (w : World) :
    Calls Try.prog 30 #[.int .i64 (i : Int)] w fun e w' => e = .returned (.int .u64 ((2 ^ (i % 64) : Nat) : Int)) ∧ w = w' := by
  have hm : i % 64 < 64 := Nat.mod_lt _ (by decide)
  have hp : 2 ^ (i % 64) < 18446744073709551616 := Nat.pow_lt_pow_right (by decide) hm
  have f1 : IntKind.u64.wrap ((2 : Int) ^ (i % 64)) = ((2 ^ (i % 64) : Nat) : Int) := by
    have e : (2 : Int) ^ (i % 64) = ((2 ^ (i % 64) : Nat) : Int) := by simp
    rw [e]
    generalize 2 ^ (i % 64) = p at hp
    simp only [IntKind.wrap, IntKind.signed, IntKind.bits]; simp; omega
  go_enter Try.func30, Try.ntmps30
  go_wp2
  rw [f1]
  go_ret
  exact ⟨rfl, rfl⟩
theorem upper_any (i : Int) (w : World) :
    Calls Try.prog 32 #[.int .i64 i] w fun e w' => e = .returned (.int .u64 ((up i.toNat : Nat) : Int)) ∧ w = w' := by
  have f1 : IntKind.u64.wrap (18446744073709551615 * (2 : Int) ^ min i.toNat 64) = ((up i.toNat : Nat) : Int) := by
    unfold up
    simp only [IntKind.wrap, IntKind.signed, IntKind.bits]; simp
  have f2 : i < 0 → IntKind.u64.wrap 18446744073709551615 = ((up i.toNat : Nat) : Int) := fun h => by
    rw [show i.toNat = 0 by omega]; decide
  rcases Int.lt_or_le i 0 with hi | hi
  · have f3 := f2 hi
    clear f1 f2
    have h0 : ¬ 0 ≤ i := by omega
    go_enter Try.func32, Try.ntmps32
    go_wp2
    go_ret
    exact ⟨rfl, rfl⟩
  clear f2
  go_enter Try.func32, Try.ntmps32
  go_wp2
  go_ret
  exact ⟨rfl, rfl⟩
end Go.Proofs.Ytcnnmnjepofomaa.Vl
