/- Maps: who owns a page, what is put and dropped, as the reference has it; the reference's Map: Owner, Put, Drop walked. -/
import Derived.Test.YtcnnmnjepofomaaVls
namespace Go.Proofs.Ytcnnmnjepofomaa.Lm
open Go.RowKit Go.Bw Go.Proofs.Ytcnnmnjepofomaa.Vl
set_option linter.unusedVariables false
set_option linter.unusedSimpArgs false
/-- who lies on page p -/
def ow (f : Nat → Int) (lp : Nat) (p : Int) : Option Nat := nx (fun i => decide (f i = p) && decide (0 ≤ p)) lp
/-- lpn a lies at b -/
def lay (f : Nat → Int) (a b : Int) (j : Nat) : Int := if (j : Int) = a then b else f j
/-- what Put answers: where it lay, the error, where all lie then -/
def putM (lp pg : Nat) (f : Nat → Int) (a b : Int) : Int × Int × (Nat → Int) :=
  if (inB lp a && inB pg b) = true then
    match ow f lp b with
    | some o => if (o : Int) = a then (if f a.toNat = b then -1 else f a.toNat, 0, lay f a b) else (0, 1, f)
    | none => (if f a.toNat = b then -1 else f a.toNat, 0, lay f a b)
  else (0, 2, f)
/-- what Drop answers -/
def dropM (lp : Nat) (f : Nat → Int) (a : Int) : Int × Bool × (Nat → Int) :=
  if (inB lp a && decide (0 ≤ f a.toNat)) = true then (f a.toNat, true, lay f a (-1)) else (0, false, f)
/-- the reference's box -/
def rbF (A : Option Addr) (c lp pg : Nat) (i : Nat) : Value := if i = 0 then .slice A lp c else .int .i64 (pg : Int)
/-- THE REFERENCE's MAP: its box in g, its row in h -/
structure RM (w : World) (g h : Nat) (A : Option Addr) (c lp pg : Nat) (f : Nat → Int) : Prop where
  box : PV w 41 g 2 (rbF A c lp pg)
  row : 0 < lp → A = some ⟨h, 0, none⟩ ∧ PV w 3 h lp (We.iF f)
  ne : g ≠ h
  le : lp ≤ 1048576
section
variable {w w' : World} {g h c lp pg : Nat} {A : Option Addr} {f : Nat → Int}
theorem RM.c0 (m : RM w g h A c lp pg f) : w.cell? ⟨g, 0, none⟩ = some (.slice A lp c) := m.box.cell (i := 0) (by decide)
theorem RM.c1 (m : RM w g h A c lp pg f) : w.cell? ⟨g, 1, none⟩ = some (.int .i64 (pg : Int)) := m.box.cell (i := 1) (by decide)
theorem RM.at_ (m : RM w g h A c lp pg f) {i : Nat} (hi : i < lp) : A = some ⟨h, 0, none⟩ ∧ w.cell? ⟨h, i, none⟩ = some (.int .i64 (f i)) := by
  obtain ⟨e, r⟩ := m.row (by omega)
  exact ⟨e, r.cell hi⟩
theorem RM.below (m : RM w g h A c lp pg f) (hb : Below w.heap.size w w') : RM w' g h A c lp pg f := ⟨m.box.below hb, fun hp => ⟨(m.row hp).1, (m.row hp).2.below hb⟩, m.ne, m.le⟩
theorem RM.keep (m : RM w g h A c lp pg f) (e1 : w'.heap[g]? = w.heap[g]?) (e2 : 0 < lp → w'.heap[h]? = w.heap[h]?) : RM w' g h A c lp pg f := ⟨m.box.keep e1, fun hp => ⟨(m.row hp).1, (m.row hp).2.keep (e2 hp)⟩, m.ne, m.le⟩
theorem RM.set_ (m : RM w g h A c lp pg f) {i : Nat} (hi : i < lp) (b : Int) : RM (w.setCell ⟨h, i, none⟩ (.int .i64 b)) g h A c lp pg (lay f (i : Int) b) := by
  refine ⟨m.box.other _ m.ne, fun hp => ⟨(m.row hp).1, ((m.row hp).2.set_ i _).congr fun j hj => ?_⟩, m.ne, m.le⟩
  show (if j = i then Value.int .i64 b else We.iF f j) = .int .i64 (lay f (i : Int) b j)
  unfold lay We.iF
  by_cases e : j = i
  · subst e; rw [if_pos rfl, if_pos rfl]
  · rw [if_neg e, if_neg (by omega)]
end
/-- an answer of Owner -/
def owV (o : Option Nat) : Value := .tuple #[.int .i64 ((o.getD 0 : Nat) : Int), .bool o.isSome]
set_option maxHeartbeats 1000000 in
theorem refowner_any {g h c lp pg : Nat} {A : Option Addr} {f : Nat → Int} (w : World) (m : RM w g h A c lp pg f) (p : Int) :
    Calls Try.prog 15 #[.pointer (some ⟨g, 0, none⟩), .int .i64 p] w (Same w (owV (ow f lp p))) := by
  have c0 := m.c0
  have hle := m.le
  have M := Lib.hid m
  clear m
  go_enter Try.func15, Try.ntmps15
  go_wp2_with fail
  go_loopw [6] (fun q wr => ∃ i : Nat, q = .int .i64 (i : Int) ∧ i ≤ lp ∧ Hid (∀ j, j < i → (decide (f j = p) && decide (0 ≤ p)) = false) ∧ w = wr) (fun q _ => lp - (intOf q).toNat)
  case atStart => exact ⟨0, rfl, Nat.zero_le _, Lib.hid fun j hj => absurd hj (Nat.not_lt_zero _), rfl⟩
  case round =>
    obtain ⟨i, rfl, hi, hno, rfl⟩ := hrel
    by_cases hil : i < lp
    · obtain ⟨rfl, ci⟩ := M.out.at_ hil
      have hiI : (i : Int) < (lp : Int) := by omega
      have d1 : decide ((i : Int) < (lp : Int)) = true := decide_eq_true hiI
      obtain ⟨X, hX⟩ : ∃ X, f i = X := ⟨_, rfl⟩
      rw [hX] at ci
      cases hb : (decide (X = p) && decide (0 ≤ p))
      · have hno2 := Lib.hid (show ∀ j, j < i + 1 → (decide (f j = p) && decide (0 ≤ p)) = false from fun j hj => by
          rcases Nat.lt_or_ge j i with h1 | h1
          · exact hno.out j h1
          · obtain rfl : j = i := by omega
            rw [hX]; exact hb)
        by_cases h1 : X = p
        · subst h1
          have d2 : decide (0 ≤ X) = false := by simpa using hb
          replace hX := Lib.hid hX
          replace hb := Lib.hid hb
          go_wp2_with fail
          go_roundw
          case rel => exact ⟨i + 1, by go_num, by omega, hno2, by first | rfl | trivial⟩
          case measure => simp [intOf] <;> omega
        · have d2 : (X == p) = false := by simpa using h1
          replace hX := Lib.hid hX
          replace hb := Lib.hid hb
          replace h1 := Lib.hid h1
          go_wp2_with fail
          go_roundw
          case rel => exact ⟨i + 1, by go_num, by omega, hno2, by first | rfl | trivial⟩
          case measure => simp [intOf] <;> omega
      · have hres := Lib.hid (show ow f lp p = some i from nx_some.2 ⟨hil, by rw [hX]; exact hb, hno.out⟩)
        obtain ⟨h1, h2⟩ : X = p ∧ 0 ≤ p := by simpa using hb
        subst h1
        have d2 : decide (0 ≤ X) = true := decide_eq_true h2
        replace hX := Lib.hid hX
        replace hb := Lib.hid hb
        go_wp2_with fail
        go_ret2
        exact ⟨by rw [hres.out]; rfl, rfl⟩
    · have d1 : decide ((i : Int) < (lp : Int)) = false := decide_eq_false (by omega)
      have hres := Lib.hid (show ow f lp p = none from nx_none.2 fun j hj => hno.out j (by omega))
      go_wp2_with fail
      go_ret2
      exact ⟨by rw [hres.out]; rfl, rfl⟩
end Go.Proofs.Ytcnnmnjepofomaa.Lm
