/- A page's points, of which some are nought or moved: what is read from them; rows of points and of whole numbers of one's own. -/
import Derived.Test.YtmchelbmeajcnaaMt
import Derived.Test.YtmchelbmeajcnaaMr
import Derived.Test.YtmchelbmeajcnaaMl
namespace Go.Proofs.Ytmchelbmeajcnaa
open Go.RowKit Go.Gf Go.Fl
set_option linter.unusedVariables false
set_option linter.unusedSimpArgs false
theorem PreV.cx {w : World} {g n : Nat} {X : Nat → Nat × Nat} (h : PreV w 49 g n (fun i => cpx (X i))) : Cx w w.heap.size (some ⟨g, 0, none⟩) ((List.range n).map X) := by
  by_cases h0 : n = 0
  · subst h0; exact Or.inl rfl
  · refine Or.inr ⟨_, rfl, h.lt, fun i hi => ?_⟩
    have hi' : i < n := by simpa using hi
    have e : (⟨g, 0, none⟩ : Addr).add i = ⟨g, i, none⟩ := by unfold Addr.add; split <;> simp_all
    rw [e, h.cell hi']
    simp
theorem OwnC.pre {w0 w : World} {v : Value} {l : List (Nat × Nat)} (h : OwnC w0 w v l) (h0 : l ≠ []) : ∃ g c, v = .slice (some ⟨g, 0, none⟩) l.length c ∧ l.length ≤ c ∧ w0.heap.size ≤ g ∧ PreV w 49 g l.length (fun i => cpx (xA l i)) := by
  obtain ⟨hl, h2⟩ := h
  rcases h2 with ⟨rfl, h3⟩ | ⟨g, cap, cur, rfl, hg, hh, hn, hcap, hcs, htk⟩
  · exact absurd (List.eq_nil_of_length_eq_zero h3) h0
  · refine ⟨g, cap, rfl, hn, hg, cur, hh, fun i hi => ?_⟩
    have e2 : (cur.toList.take (l.length * 1))[i]? = (l.map cpx)[i]? := by rw [htk]
    rw [List.getElem?_take, if_pos (by omega), Array.getElem?_toList, List.getElem?_map, List.getElem?_eq_getElem hi] at e2
    rw [e2]
    show some (cpx l[i]) = some (cpx (xA l i))
    rw [xA_get hi]
/-- a row of whole numbers, all nought -/
theorem nums_new (w : World) (n : Nat) : PreV (w.alloc (.cells (madeCells #[.int .i64 0] n) 3)) 3 w.heap.size n (fun _ => .int .i64 0) := by
  refine ⟨madeCells #[.int .i64 0] n, heap_alloc_new w _, fun i hi => ?_⟩
  unfold madeCells
  simp [hi, Nat.mod_one]
section
variable {W K N k l q n : Nat} {d S ss : List Nat} {xs : List (Nat × Nat)} {f : Nat → Bool}
theorem range_at {X : Nat → Nat × Nat} {i : Nat} (h : i < n) : xA ((List.range n).map X) i = X i := by
  rw [xA_get (by simpa using h)]
  simp
/-- how many are off in each codeword, told place by place -/
theorem off_row (hn : n = W * (K + 16)) (hf : ∀ i, i < n → offB S ss (zX xs) i = f i) {j : Nat} (hj : j < W) : bc (fun t => offB S ss (zX xs) (t * W + j)) (K + 16) = bc (fun t => f (t * W + j)) (K + 16) :=
  bc_congr fun t ht => hf _ (by rw [hn]; exact place_lt hj ht)
theorem off_most (hn : n = W * (K + 16)) : mxR f W n = mxF (fun j => bc (fun t => f (t * W + j)) (K + 16)) W := by
  rw [hn]; exact mxR_bc
/-- with at most eight off in each codeword a page says what it was to say -/
theorem rd_few {B P : Int} (hM : Ge.mayG B P (W : Int) (K : Int) = true) (hN : W * K = N) (hv : sayV N k l q d) (hx : xs.length = n) (hn : n = W * (K + 16)) (hf : ∀ i, i < n → offB (pageL W (sayL N k l q d)) ss (zX xs) i = f i) (h8 : mxR f W n ≤ 8)
    {k' l' q' n' er : Nat} {d' : List Nat} (h : RdS B P (W : Int) (K : Int) xs ss k' l' q' n' d' er) : k' = k ∧ l' = l ∧ q' = q ∧ n' = mxR f W n ∧ d' = d ∧ er = 0 := by
  obtain ⟨W', K', N', hWe, hKe, hN', hW1, hW4, hK1, hK64, h8', h256, hsg, hcg⟩ := mayG_of hM
  obtain rfl : W = W' := Int.ofNat.inj hWe
  rw [off_most hn] at h8 ⊢
  have h8'' := mxF_le.1 h8
  have hbk : blkB xs = false := by
    rw [Bool.eq_false_iff]
    intro e
    have e2 := blkB_true.1 e
    have := h8'' 0 hW1
    have hall : bc (fun _ => true) (K + 16) ≤ bc (fun t => f (t * W + 0)) (K + 16) := bc_mono fun t ht _ => by
      have hi : t * W + 0 < n := by rw [hn]; exact place_lt hW1 ht
      rw [← hf _ hi]
      show (zX xs (t * W + 0) || _) = true
      rw [show zX xs (t * W + 0) = true from e2 _ (by rw [hx]; exact hi)]
      rfl
    have hc : ∀ i, bc (fun _ => true) i = i := fun i => by
      induction i with
      | zero => rfl
      | succ i ih =>
        show bc (fun _ => true) i + (if true = true then 1 else 0) = i + 1
        rw [ih]; rfl
    rw [hc] at hall
    omega
  have hr : ∀ j, j < W → bc (fun t => offB (pageL W (sayL N k l q d)) ss (zX xs) (t * W + j)) (K + 16) = bc (fun t => f (t * W + j)) (K + 16) := fun j hj => off_row hn hf hj
  obtain ⟨e1, e2, e3, e4, e5, e6⟩ := rd_page hM hN hv (by rw [hx, hn]) hbk (fun j hj => by rw [hr j hj]; exact h8'' j hj) h
  exact ⟨e1, e2, e3, by rw [e4]; exact mxF_congr hr, e5, e6⟩
/-- nothing is read where a codeword has more than eight that are nought -/
theorem rd_many {B P : Int} (hM : Ge.mayG B P (W : Int) (K : Int) = true) (hx : xs.length = n) (hn : n = W * (K + 16)) (hf : ∀ i, i < n → zX xs i = f i) (hbk : blkB xs = false) (h9 : 8 < mxR f W n)
    {k' l' q' n' er : Nat} {d' : List Nat} (h : RdS B P (W : Int) (K : Int) xs ss k' l' q' n' d' er) : er = 4 ∧ n' = 0 := by
  rw [off_most hn] at h9
  have hex : ∃ j, j < W ∧ 8 < bc (fun t => f (t * W + j)) (K + 16) := by
    rcases Classical.em (∃ j, j < W ∧ 8 < bc (fun t => f (t * W + j)) (K + 16)) with h | h
    · exact h
    · have : mxF (fun j => bc (fun t => f (t * W + j)) (K + 16)) W ≤ 8 := mxF_le.2 fun j hj => by
        rcases Nat.lt_or_ge 8 (bc (fun t => f (t * W + j)) (K + 16)) with h2 | h2
        · exact absurd ⟨j, hj, h2⟩ h
        · exact h2
      omega
  obtain ⟨j, hj, h8⟩ := hex
  refine rd_torn hM (by rw [hx, hn]) hbk hj ?_ h
  rw [show bc (fun t => zX xs (t * W + j)) (K + 16) = bc (fun t => f (t * W + j)) (K + 16) from bc_congr fun t ht => hf _ (by rw [hn]; exact place_lt hj ht)]
  exact h8
/-- a page of which just the first k cells were programmed -/
def tornX (S : List Nat) (k i : Nat) : Nat × Nat := if k ≤ i then (0, 0) else ptB (at_ S i)
def tornS (S : List Nat) (k i : Nat) : Nat := if k ≤ i then 528 else at_ S i
theorem torn_slc (hS : ∀ y ∈ S, y < 1024) (k n : Nat) : ∀ i, i < ((List.range n).map (tornX S k)).length → SlcIs (xA ((List.range n).map (tornX S k)) i) (at_ (rm n (tornS S k)) i) := fun i hi => by
  have hi' : i < n := by simpa using hi
  rw [range_at hi', at_rm, if_pos hi']
  unfold tornX tornS
  split
  · exact slc_zero
  · exact slc_pt (at_lt' hS i)
theorem torn_bd (hS : ∀ y ∈ S, y < 1024) (k n : Nat) : ∀ y ∈ rm n (tornS S k), y < 1024 := rm_mem fun i _ => by
  unfold tornS
  split
  · decide
  · exact at_lt' hS i
theorem torn_z {k n i : Nat} (hi : i < n) : zX ((List.range n).map (tornX S k)) i = decide (k ≤ i) := by
  show zP (xA _ i) = _
  rw [range_at hi]
  unfold tornX
  by_cases h : k ≤ i
  · rw [if_pos h, zP_zero, decide_eq_true h]
  · rw [if_neg h, zP_pt, decide_eq_false h]
theorem torn_off {k n i : Nat} (hi : i < n) : offB S (rm n (tornS S k)) (zX ((List.range n).map (tornX S k))) i = decide (k ≤ i) := by
  unfold offB
  rw [torn_z hi, at_rm, if_pos hi]
  unfold tornS
  by_cases h : k ≤ i
  · rw [decide_eq_true h]; rfl
  · rw [if_neg h, decide_eq_false h]; simp
theorem torn_start (k W r : Nat) : ∀ i, i ≤ k → mcR (fun i => decide (k ≤ i)) W r i = 0
  | 0, _ => rfl
  | i + 1, h => by
    have ih := torn_start k W r i (by omega)
    have e := congrFun (mcR_same (f := fun i => decide (k ≤ i)) (W := W) (i := i) (decide_eq_false (by omega))) r
    exact e.symm.trans ih
theorem torn_most0 (k W : Nat) : mxR (fun i => decide (k ≤ i)) W k = 0 := by
  unfold mxR
  rw [mxF_congr (h := fun _ => 0) fun r _ => torn_start k W r k (Nat.le_refl _), mxF_zero]
end
end Go.Proofs.Ytmchelbmeajcnaa
