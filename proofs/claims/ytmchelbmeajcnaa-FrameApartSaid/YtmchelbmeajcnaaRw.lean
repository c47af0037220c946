/- What the calls of this layer answer, in one form: a slice of one's own that holds a list, a value; old memory is as it was. -/
import Derived.Test.YtmchelbmeajcnaaPf
namespace Go.Proofs.Ytmchelbmeajcnaa
open Go.RowKit Go.Gf

/-- a slice as long as it may be, which holds ys -/
def Row (w : World) (ys : List Nat) (e : Ending) (w' : World) : Prop := ∃ A, e = .returned (.slice A ys.length ys.length) ∧ Sl w' w'.heap.size A ys ∧ Below w.heap.size w w'
theorem Gives.row {w w' : World} {ys : List Nat} {e : Ending} (h : Gives w ys e w') : Row w ys e w' := by
  obtain ⟨s, he, hb, hy, h⟩ := h
  rcases h with ⟨rfl, rfl⟩ | ⟨g, hg, rfl, ha⟩
  · exact ⟨none, he, Sl.nil _ _ _, hb⟩
  · exact ⟨some ⟨g, 0, none⟩, he, ha.sl hy, hb⟩
theorem Drawn.below {w w' : World} (h : Drawn w w') : Below w.heap.size w w' := by
  obtain ⟨n, rfl⟩ := h
  exact ⟨rfl, rfl, rfl, Nat.le_refl _, fun _ _ => rfl⟩
theorem Quietly.leaves {w w' : World} {v : Value} {e : Ending} (h : Quietly w v e w') : Leaves w v e w' := ⟨h.1, Drawn.below h.2⟩
section
variable {A B : Option Addr} {ca cb : Nat} {xs ys : List Nat} {cs : List Nat} {w : World}
theorem row_trim (ha : Sl w w.heap.size A xs) (hl : xs.length ≤ 1000000) : Calls Try.prog 99 #[.slice A xs.length ca] w (Row w (tr xs)) := (ptrim_blk A ca xs w ha hl).mono fun _ _ h => h.gives.row
theorem row_add (ha : Sl w w.heap.size A xs) (hb : Sl w w.heap.size B ys) (hla : xs.length ≤ 1000000) (hlb : ys.length ≤ 1000000) :
    Calls Try.prog 118 #[.slice A xs.length ca, .slice B ys.length cb] w (Row w (padd xs ys)) := (padd_blk A B ca cb xs ys w ha hb hla hlb).mono fun _ _ h => h.gives.row
theorem row_mul (hl : Tab cs) (ha : Sl w w.heap.size A xs) (hb : Sl w w.heap.size B ys) (hla : xs.length ≤ 1000000) (hlb : ys.length ≤ 1000000) (hca : xs.length ≤ ca) (hcb : ys.length ≤ cb) :
    Calls Try.prog 104 #[.agg (cells cs), .slice A xs.length ca, .slice B ys.length cb] w (Row w (pmul xs ys)) := (pmul_any cs hl.1 A B ca cb xs ys w ha hb hla hlb hca hcb).mono fun _ _ h => h.row
theorem row_slope (ha : Sl w w.heap.size A xs) (hl : xs.length ≤ 1000000) : Calls Try.prog 119 #[.slice A xs.length ca] w (Row w (slope xs)) := (pslope_blk A ca xs w ha hl).mono fun _ _ h => h.gives.row
theorem val_at {x : Int} (hl : Tab cs) (ha : Sl w w.heap.size A xs) (hla : xs.length ≤ 1000000) (x0 : 0 ≤ x) (x1 : x < 65536) :
    Calls Try.prog 117 #[.agg (cells cs), .slice A xs.length ca, .int .u16 x] w (Leaves w (.int .u16 ((ev (x.toNat % 1024) xs : Nat) : Int))) := pat_any cs hl.1 A ca xs x w ha hla x0 x1
theorem row_rtrim (ha : Sl w w.heap.size A xs) (hl : xs.length ≤ 1000000) : Calls Try.prog 106 #[.slice A xs.length ca] w (Row w (tr xs)) := (reftrim_any A ca xs w ha hl).mono fun _ _ h => h.row
theorem row_rmul (ha : Sl w w.heap.size A xs) (hb : Sl w w.heap.size B ys) (hla : xs.length ≤ 1000000) (hlb : ys.length ≤ 1000000) :
    Calls Try.prog 88 #[.slice A xs.length ca, .slice B ys.length cb] w (Row w (pmul xs ys)) := (refpmul_any A B ca cb xs ys w ha hb hla hlb).mono fun _ _ h => h.row
/-- whether two slices hold the same -/
theorem val_same {b : Bool} (ha : Sl w w.heap.size A xs) (hb : Sl w w.heap.size B ys) (hla : xs.length ≤ 1000000) (hlb : ys.length ≤ 1000000) (h : decide (xs = ys) = b) :
    Calls Try.prog 18 #[.slice A xs.length ca, .slice B ys.length cb] w (Leaves w (.bool b)) := (refsame_any A B ca cb xs ys w ha hb hla hlb).mono fun _ _ h' => h ▸ h'.leaves
end
theorem pmul_le (xs ys : List Nat) : (pmul xs ys).length ≤ 4096 := by
  unfold pmul
  split
  · exact Nat.zero_le _
  · refine Nat.le_trans (tr_len _) ?_
    rw [rm_len]; omega
theorem padd_le (xs ys : List Nat) : (padd xs ys).length ≤ max xs.length ys.length := Nat.le_trans (tr_len _) (by rw [rm_len]; exact Nat.le_refl _)
/-- a division's answers, with those of a division by nought -/
def qq (xs ys : List Nat) : List Nat := if tr ys = [] then [] else pquo xs ys
def rr (xs ys : List Nat) : List Nat := if tr ys = [] then [] else prem xs ys
def RowQ (w : World) (q r : List Nat) (ok : Bool) (e : Ending) (w' : World) : Prop :=
  ∃ A1 c1 A2 c2, e = .returned (.tuple #[.slice A1 q.length c1, .slice A2 r.length c2, .bool ok]) ∧ q.length ≤ c1 ∧ r.length ≤ c2 ∧ Sl w' w'.heap.size A1 q ∧ Sl w' w'.heap.size A2 r ∧ Below w.heap.size w w'
def RowR (w : World) (q r : List Nat) (ok : Bool) (e : Ending) (w' : World) : Prop :=
  ∃ A1 c1 A2 c2, e = .returned (.tuple #[.slice A1 q.length c1, .slice A2 r.length c2, .bool ok]) ∧ Sl w' w'.heap.size A1 q ∧ Sl w' w'.heap.size A2 r ∧ Below w.heap.size w w'
theorem qq_le (xs ys : List Nat) : (qq xs ys).length ≤ xs.length + 1 := by
  unfold qq
  split
  · exact Nat.zero_le _
  · refine Nat.le_trans (pquo_len_le (xs := xs) (ys := ys)) ?_
    have := tr_len xs
    unfold divN; omega
theorem rr_le (xs ys : List Nat) : (rr xs ys).length ≤ xs.length := by
  unfold rr
  split
  · exact Nat.zero_le _
  · refine Nat.le_trans (tr_len _) ?_
    rw [rm_len]; exact tr_len xs
section
variable {A B : Option Addr} {ca cb : Nat} {xs ys : List Nat} {cs : List Nat} {w : World}
theorem row_div {ok : Bool} (hl : Tab cs) (ha : Sl w w.heap.size A xs) (hb : Sl w w.heap.size B ys) (hla : xs.length ≤ 1000000) (hlb : ys.length ≤ 1000000) (hcb : ys.length ≤ cb) (ho : decide (tr ys ≠ []) = ok) :
    Calls Try.prog 81 #[.agg (cells cs), .slice A xs.length ca, .slice B ys.length cb] w (RowQ w (qq xs ys) (rr xs ys) ok) := by
  subst ho
  by_cases h : tr ys = []
  · have e1 : qq xs ys = [] := by unfold qq; rw [if_pos h]
    have e2 : rr xs ys = [] := by unfold rr; rw [if_pos h]
    rw [e1, e2]
    refine (pdiv_none cs A B ca cb xs ys w hb hlb h).mono ?_
    rintro e w' ⟨rfl, hb'⟩
    exact ⟨none, 0, none, 0, by simp [h], Nat.le_refl _, Nat.le_refl _, Sl.nil _ _ _, Sl.nil _ _ _, hb'⟩
  · have e1 : qq xs ys = pquo xs ys := by unfold qq; rw [if_neg h]
    have e2 : rr xs ys = prem xs ys := by unfold rr; rw [if_neg h]
    rw [e1, e2]
    refine (pdiv_any cs hl A B ca cb xs ys w ha hb hla hlb hcb h).mono ?_
    rintro e w' ⟨g1, c1, g2, c2, rfl, h1, h2, h3, h4, h5, _⟩
    exact ⟨_, _, _, _, by simp [h], h1, h2, h3, h4, h5⟩
end
end Go.Proofs.Ytmchelbmeajcnaa
