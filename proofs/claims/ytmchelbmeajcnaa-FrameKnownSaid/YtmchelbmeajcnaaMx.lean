/- Pages by hand: what is read from points that nobody made: plain. -/
import Derived.Test.YtmchelbmeajcnaaMv
namespace Go.Proofs.Ytmchelbmeajcnaa
open Go.RowKit Go.Gf Go.Fl
set_option linter.unusedVariables false
set_option linter.unusedSimpArgs false
section
variable {B P W K : Int} {xs : List (Nat × Nat)} {ss : List Nat} {k' l' q' n' er : Nat} {d' : List Nat}
theorem rd_arg (hM : Ge.mayG B P W K = false) (h : RdS B P W K xs ss k' l' q' n' d' er) : er = 1 := by
  cases h with
  | arg => rfl
  | size h => rw [hM] at h; cases h
  | none h => rw [hM] at h; cases h
  | data h => rw [hM] at h; cases h
  | form h => rw [hM] at h; cases h
  | ok h => rw [hM] at h; cases h
theorem rd_size (hM : Ge.mayG B P W K = true) (hx : (xs.length : Int) ≠ Ge.celG B P W K) (h : RdS B P W K xs ss k' l' q' n' d' er) : er = 3 := by
  cases h with
  | arg h => rw [hM] at h; cases h
  | size => rfl
  | none _ h => exact absurd h hx
  | data _ h => exact absurd h hx
  | form _ h => exact absurd h hx
  | ok _ h => exact absurd h hx
end
theorem page_zero : pageL 2 (List.replicate 24 0) = List.replicate 56 0 := by decide +kernel
/-- a page of noughts has a head that nobody makes -/
theorem rd_zeros {k' l' q' n' er : Nat} {d' : List Nat} (h : RdS 4 2 2 12 ((List.replicate 56 0).map ptB) (List.replicate 56 0) k' l' q' n' d' er) : er = 12 := by
  have hl : (List.replicate 24 0).length = 2 * 12 := rfl
  have hS : ∀ y ∈ List.replicate 24 0, y < 1024 := fun y hy => by rw [(List.mem_replicate.1 hy).2]; decide
  have hz : ∀ j, j < 2 → bc (fun t => offB (pageL 2 (List.replicate 24 0)) (List.replicate 56 0) (zX ((List.replicate 56 0).map ptB)) (t * 2 + j)) 28 ≤ 8 := fun j hj => by
    rw [bc_zero fun t ht => ?_]
    · decide
    · rw [page_zero]
      unfold offB
      rw [pts_z (by rw [List.length_replicate]; omega)]
      simp
  have hgood : ∀ j, j < 2 → GoodR 2 28 (List.replicate 56 0) (zX ((List.replicate 56 0).map ptB)) j ((rowsL 2 (List.replicate 24 0)).getD j []) := fun j hj => good_page (by decide) hl hS (by decide) hj (hz j hj)
  have hM : Ge.mayG 4 2 2 12 = true := by decide +kernel
  have huni : ∀ ws : Nat → List Nat, (∀ j, j < 2 → GoodR 2 28 (List.replicate 56 0) (zX ((List.replicate 56 0).map ptB)) j (ws j)) → sayW 2 12 ws = List.replicate 24 0 := fun ws hg => by
    rw [sayW_congr fun j hj => good_unique (by decide) (hg j hj) (hgood j hj), sayW_rows (by decide) hl]
  have hno : sayB 24 (List.replicate 24 0) = false := by decide +kernel
  have hbk : blkB ((List.replicate 56 0).map ptB) = false := pts_blk (by decide)
  cases h with
  | arg h => rw [hM] at h; cases h
  | size _ h2 => exact absurd (by decide +kernel) h2
  | none _ _ h3 => rw [hbk] at h3; cases h3
  | data _ _ _ j hj h4 => exact absurd (hgood j hj) (h4 _)
  | form => rfl
  | ok _ _ _ ws hg h4 =>
    have h5 : sayB 24 (sayW 2 12 ws) = true := h4
    rw [huni ws hg, hno] at h5
    cases h5
theorem ab_tail {w : World} {g : Nat} {n : Nat} (h : Ab w g (List.replicate (n + 1) 0)) : Sb w w.heap.size (some ⟨g, 1, none⟩) (List.replicate n 0) := by
  refine ⟨fun x hx => by rw [(List.mem_replicate.1 hx).2]; decide, Or.inr ⟨_, rfl, h.lt', fun i hi => ?_⟩⟩
  have hi' : i < n := by simpa using hi
  rw [add_at, h.cell (i := 1 + i) (by rw [List.length_replicate]; omega)]
  simp
  rfl
end Go.Proofs.Ytmchelbmeajcnaa
