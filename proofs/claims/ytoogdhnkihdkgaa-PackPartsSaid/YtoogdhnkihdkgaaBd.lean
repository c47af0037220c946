/- What the calls of chapter 5 answer: words. -/
import Derived.Test.YtoogdhnkihdkgaaBs
import Derived.Test.YtoogdhnkihdkgaaSi
namespace Go.Proofs.Ytoogdhnkihdkgaa
open Go.RowKit Go.Gf

/-- an answer; old memory is as it was -/
def Ans (w : World) (v : Value) (e : Ending) (w' : World) : Prop := e = .returned v ∧ Below w.heap.size w w'
/-- a row of 16-bit numbers of one's own -/
def RowP (w : World) (ys : List Nat) (e : Ending) (w' : World) : Prop := ∃ v, e = .returned v ∧ OwnS w w' v ys ∧ Below w.heap.size w w'
section
variable {A : Option Addr} {c : Nat} {xs : List Nat} {n : Int} {w : World}
theorem RowU.rowP {w w' : World} {ys : List Nat} {e : Ending} (h : RowU w ys e w') (hy : ∀ y ∈ ys, y < 65536) (hl : ys.length ≤ 1000000) : RowP w ys e w' := by
  obtain ⟨g, he, hg, ha, hb⟩ := h
  exact ⟨_, he, ⟨⟨by simp, Or.inr ⟨g, ys.length, (ys.map uv).toArray, rfl, hg, ha, Nat.le_refl _, by unfold maxLen; omega, by simp, by simp [List.take_of_length_le]⟩⟩, hy⟩, hb⟩
theorem pk_le (hl : xs.length ≤ 1000000) : (pk xs).length ≤ 1000000 := by rw [pk_len]; unfold symN; omega
theorem pk_u16 (xs : List Nat) : ∀ y ∈ pk xs, y < 65536 := fun y hy => Nat.lt_trans (pk_bd xs y hy) (by decide)
end
/-- a row of bytes made in the text -/
theorem sb_new (w : World) (o : Obj) (xs : List Nat) (g : Nat) (hg : w.heap.size = g) (ho : o = .cells (xs.map ub).toArray 5) (h : ∀ x ∈ xs, x < 256) : Sb (w.alloc o) (w.alloc o).heap.size (some ⟨g, 0, none⟩) xs := by
  subst hg ho
  exact (Ab.new w xs).sb h
/-- whether two slices hold the same -/
theorem ans_same {A B : Option Addr} {ca cb : Nat} {xs ys : List Nat} {w : World} {b : Bool} (ha : Sl w w.heap.size A xs) (hb : Sl w w.heap.size B ys) (hla : xs.length ≤ 1000000) (hlb : ys.length ≤ 1000000) (h : decide (xs = ys) = b) :
    Calls Try.prog 12 #[.slice A xs.length ca, .slice B ys.length cb] w (Ans w (.bool b)) := (refsame_any A B ca cb xs ys w ha hb hla hlb).mono fun _ _ h' => by
  obtain ⟨he, n, rfl⟩ := h'
  exact ⟨by rw [← h]; exact he, ⟨rfl, rfl, rfl, Nat.le_refl _, fun _ _ => rfl⟩⟩
end Go.Proofs.Ytoogdhnkihdkgaa
