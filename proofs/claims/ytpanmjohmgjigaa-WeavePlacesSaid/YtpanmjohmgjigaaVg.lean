/- The reference's In. -/
import Derived.Test.YtpanmjohmgjigaaVf
import Derived.Test.YtpanmjohmgjigaaWb
namespace Go.Proofs.Ytpanmjohmgjigaa
open Go.RowKit Go.Gf
attribute [local go_sem ↓] Cl.quiet_since

theorem grown_setCell (w : World) (g i : Nat) (v : Value) : w.grownBy (w.setCell ⟨g, i, none⟩ v) (some g) :=
  ⟨rfl, rfl, rfl, by rw [World.size_setCell]; exact Nat.le_refl _, fun k _ hne => by
    simp only [World.setCell]
    rw [Array.getElem?_modify, if_neg (fun e => hne (by rw [e]))]⟩
section
variable {w0 w w' : World} {g n : Nat} {f : Nat → Value} {ws : Nat → List Nat}
theorem OwnW.grown (h : OwnW w0 w g n f ws) {r : Option Nat} (hg : w.grownBy w' r) (hne : r ≠ some g) (hr : ∀ j, j < n → (f j).ownBlock = none ∨ (f j).ownBlock ≠ r) : OwnW w0 w' g n f ws :=
  ⟨h.at0, h.vs.keep (hg.block g h.vs.lt (Ne.symm hne)), fun j hj => (h.own j hj).grown hg (hr j hj), h.off, h.apart⟩
theorem OwnW.alloc (h : OwnW w0 w g n f ws) (o : Obj) : OwnW w0 (w.alloc o) g n f ws :=
  ⟨h.at0, h.vs.alloc o, fun j hj => (h.own j hj).alloc o, h.off, h.apart⟩
theorem OwnW.keep (h : OwnW w0 w g n f ws) (hb : Below w.heap.size w w') : OwnW w0 w' g n f ws :=
  ⟨h.at0, h.vs.keep (hb.block g h.vs.lt), fun j hj => (h.own j hj).keep hb, h.off, h.apart⟩
theorem OwnW.inHeap (h : OwnW w0 w g n f ws) {j : Nat} (hj : j < n) {k : Nat} (hk : (f j).ownBlock = some k) : k < w.heap.size := (h.own j hj).inHeap hk
/-- one row grows, and is laid back -/
theorem OwnW.step (h : OwnW w0 w g n f ws) {p : Nat} (hp : p < n) {v' : Value} {ys : List Nat} (hv : OwnS w0 w' v' ys) (hg : w.grownBy w' (f p).ownBlock) (hn : v'.ownBlock = (f p).ownBlock ∨ v'.ownBlock = some w.heap.size) :
    OwnW w0 (w'.setCell ⟨g, p, none⟩ v') g n (fun j => if j = p then v' else f j) (fun j => if j = p then ys else ws j) := by
  have hoff : v'.ownBlock ≠ some g := by
    rcases hn with e | e
    · rw [e]; exact h.off p hp
    · rw [e]; intro e2; injection e2 with e2; have := h.vs.lt; omega
  have hap : ∀ j, j < n → j ≠ p → ∀ k, v'.ownBlock = some k → (f j).ownBlock ≠ some k := by
    intro j hj hne k hk
    rcases hn with e | e
    · exact h.apart p j hp hj (Ne.symm hne) k (e.symm.trans hk)
    · intro e2
      have := h.inHeap hj e2
      rw [e] at hk; injection hk with hk; omega
  refine ⟨h.at0, ?_, ?_, ?_, ?_⟩
  · exact (h.vs.keep (hg.block g h.vs.lt (fun e => h.off p hp e.symm))).set_ p v'
  · intro j hj
    show OwnS w0 _ (if j = p then v' else f j) (if j = p then ys else ws j)
    by_cases e : j = p
    · rw [if_pos e, if_pos e]
      exact hv.grown (grown_setCell w' g p v') (Or.inr hoff)
    · rw [if_neg e, if_neg e]
      refine ((h.own j hj).grown hg ?_).grown (grown_setCell w' g p v') (Or.inr (h.off j hj))
      cases e2 : (f j).ownBlock with
      | none => exact Or.inl rfl
      | some k => exact Or.inr fun e3 => h.apart p j hp hj (Ne.symm e) k e3.symm e2
  · intro j hj
    show (if j = p then v' else f j).ownBlock ≠ some g
    by_cases e : j = p
    · rw [if_pos e]; exact hoff
    · rw [if_neg e]; exact h.off j hj
  · intro i j hi hj hne k
    show (if i = p then v' else f i).ownBlock = some k → (if j = p then v' else f j).ownBlock ≠ some k
    by_cases e : i = p
    · rw [if_pos e, if_neg (fun e2 => hne (e.trans e2.symm))]
      exact hap j hj (fun e2 => hne (e.trans e2.symm)) k
    · rw [if_neg e]
      by_cases e2 : j = p
      · rw [if_pos e2]
        intro h1 h2
        exact hap i hi e k h2 h1
      · rw [if_neg e2]
        exact h.apart i j hi hj hne k
theorem OwnW.congr (h : OwnW w0 w g n f ws) {ws' : Nat → List Nat} (e : ∀ j, j < n → ws j = ws' j) : OwnW w0 w g n f ws' :=
  ⟨h.at0, h.vs, fun j hj => by rw [← e j hj]; exact h.own j hj, h.off, h.apart⟩
theorem OwnW.start (w : World) (n : Nat) : OwnW w (w.alloc (.cells (madeCells #[.slice none 0 0] n) 23)) w.heap.size n (fun _ => .slice none 0 0) (fun _ => []) :=
  ⟨Nat.le_refl _, Vs.start w n, fun j _ => OwnS.nil _ _, fun j _ => by simp [Value.ownBlock], fun i j _ _ _ k h => by simp [Value.ownBlock] at h⟩
end
/-- how many of the first i places are row j's, of V rows -/
def cn (V j i : Nat) : Nat := (i + (V - 1 - j)) / V
theorem cn_zero {V j : Nat} (hj : j < V) : cn V j 0 = 0 := by unfold cn; exact Nat.div_eq_of_lt (by omega)
theorem cn_step {V j i : Nat} (hj : j < V) : cn V j (i + 1) = if j = i % V then cn V j i + 1 else cn V j i := by
  unfold cn
  have hV : 0 < V := by omega
  have hd := Nat.div_add_mod i V
  have hm := Nat.mod_lt i hV
  generalize i / V = q at *
  generalize i % V = r at *
  subst hd
  by_cases e : j = r
  · rw [if_pos e]
    subst e
    rw [show V * q + j + 1 + (V - 1 - j) = V * (q + 1) by rw [Nat.mul_add]; omega, Nat.mul_div_cancel_left _ hV, show V * q + j + (V - 1 - j) = (V - 1) + V * q by omega, Nat.add_mul_div_left _ _ hV, Nat.div_eq_of_lt (by omega)]
    omega
  · rw [if_neg e]
    rcases Nat.lt_or_ge j r with h | h
    · rw [show V * q + r + 1 + (V - 1 - j) = (r - j) + V * (q + 1) by rw [Nat.mul_add]; omega, show V * q + r + (V - 1 - j) = (r - j - 1) + V * (q + 1) by rw [Nat.mul_add]; omega, Nat.add_mul_div_left _ _ hV, Nat.add_mul_div_left _ _ hV, Nat.div_eq_of_lt (by omega), Nat.div_eq_of_lt (by omega)]
    · rw [show V * q + r + 1 + (V - 1 - j) = (r + V - j) + V * q by omega, show V * q + r + (V - 1 - j) = (r + V - j - 1) + V * q by omega, Nat.add_mul_div_left _ _ hV, Nat.add_mul_div_left _ _ hV, Nat.div_eq_of_lt (by omega), Nat.div_eq_of_lt (by omega)]
theorem cn_at {V i : Nat} (hV : 0 < V) : cn V (i % V) i = i / V := by
  unfold cn
  have hd := Nat.div_add_mod i V
  have hm := Nat.mod_lt i hV
  generalize i / V = q at *
  generalize i % V = r at *
  subst hd
  rw [show V * q + r + (V - 1 - r) = (V - 1) + V * q by omega, Nat.add_mul_div_left _ _ hV, Nat.div_eq_of_lt (by omega)]
  omega
theorem cn_end {V j n : Nat} (hj : j < V) : cn V j (V * n) = n := by
  unfold cn
  rw [Nat.add_comm, Nat.add_mul_div_left _ _ (by omega), Nat.div_eq_of_lt (by omega)]
  omega
end Go.Proofs.Ytpanmjohmgjigaa
