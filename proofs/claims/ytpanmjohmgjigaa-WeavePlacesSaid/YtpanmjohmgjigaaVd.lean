/- The program's In. -/
import Derived.Test.YtpanmjohmgjigaaVc
namespace Go.Proofs.Ytpanmjohmgjigaa
open Go.RowKit Go.Gf

theorem info23w : (Try.prog.info? 23).map (fun i => (i.zero, i.size, i.bytes)) = some (some (.slice none 0 0), 1, 24) := by kernel_rfl
/-- block g is just the n values that f says, slices, and may be written -/
def Vs (w : World) (g n : Nat) (f : Nat → Value) : Prop := w.heap[g]? = some (.cells ((List.range n).map f).toArray 23 (0, 0))
section
variable {w w' : World} {g n : Nat} {f : Nat → Value}
theorem Vs.lt (h : Vs w g n f) : g < w.heap.size := by
  rcases Nat.lt_or_ge g w.heap.size with hlt | hge
  · exact hlt
  · unfold Vs at h; rw [Array.getElem?_eq_none hge] at h; cases h
theorem Vs.cell (h : Vs w g n f) {i : Nat} (hi : i < n) : w.cell? ⟨g, i, none⟩ = some (f i) := by
  rw [cell_of_row w g i _ 23 (0, 0) h]
  simp [hi]
theorem Vs.frozen (h : Vs w g n f) (i : Nat) : w.frozen? ⟨g, i, none⟩ = false := by
  unfold Vs at h
  simp [World.frozen?, h]
theorem Vs.set_ (h : Vs w g n f) (i : Nat) (v : Value) : Vs (w.setCell ⟨g, i, none⟩ v) g n (fun j => if j = i then v else f j) := by
  unfold Vs at h ⊢
  simp only [World.setCell]
  rw [Array.getElem?_modify, h]
  have e : (List.map f (List.range n)).set i v = List.map (fun j => if j = i then v else f j) (List.range n) := by
    apply List.ext_getElem
    · simp
    · intro j h1 h2
      rw [List.getElem_set]
      simp only [List.getElem_map, List.getElem_range]
      by_cases e : i = j
      · rw [if_pos e, if_pos e.symm]
      · rw [if_neg e, if_neg (Ne.symm e)]
  rw [← e]
  simp
theorem Vs.congr (h : Vs w g n f) {f' : Nat → Value} (e : ∀ j, j < n → f j = f' j) : Vs w g n f' := by
  unfold Vs at h ⊢
  rw [h]
  congr 3
  exact List.map_congr_left fun j hj => e j (List.mem_range.1 hj)
theorem Vs.keep (h : Vs w g n f) (hb : w'.heap[g]? = w.heap[g]?) : Vs w' g n f := hb.trans h
theorem Vs.alloc (h : Vs w g n f) (o : Obj) : Vs (w.alloc o) g n f := (Below.heap_alloc w o g h.lt).trans h
theorem Vs.start (w : World) (n : Nat) : Vs (w.alloc (.cells (madeCells #[.slice none 0 0] n) 23)) w.heap.size n (fun _ => .slice none 0 0) := by
  have h := heap_alloc_new w (.cells (madeCells #[.slice none 0 0] n) 23)
  unfold Vs
  rw [h]
  congr 2
  unfold madeCells
  apply Array.ext
  · simp
  · intro i h1 h2
    simp [Nat.mod_one]
end
/-- an error's number, and the words dealt out -/
def inE (W : Int) (s : List Nat) : Nat := if mayB W = false then 1 else if s.length % W.toNat ≠ 0 ∨ s.length = 0 then 3 else 0
def dealt (W : Nat) (s : List Nat) : List (List Nat) := (List.range W).map fun j => rm (s.length / W) fun q => at_ s (q * W + j)
def inW (W : Int) (s : List Nat) : List (List Nat) := if inE W s = 0 then dealt W.toNat s else []
theorem dealt_len (W : Nat) (s : List Nat) : (dealt W s).length = W := by simp [dealt]
theorem dealt_get {W : Nat} {s : List Nat} {j : Nat} (h : j < (dealt W s).length) : (dealt W s)[j] = rm (s.length / W) fun q => at_ s (q * W + j) := by simp [dealt]
/-- slices of one's own (or nil), in a block of one's own, no two of which share memory, that hold the rows ws -/
structure OwnW (w0 w : World) (g n : Nat) (f : Nat → Value) (ws : Nat → List Nat) : Prop where
  at0 : w0.heap.size ≤ g
  vs : Vs w g n f
  own : ∀ j, j < n → OwnS w0 w (f j) (ws j)
  off : ∀ j, j < n → (f j).ownBlock ≠ some g
  apart : ∀ i j, i < n → j < n → i ≠ j → ∀ k, (f i).ownBlock = some k → (f j).ownBlock ≠ some k
theorem OwnW.sw {w0 w : World} {g n : Nat} {f : Nat → Value} {ws : Nat → List Nat} (h : OwnW w0 w g n f ws) : Sw w w.heap.size (some ⟨g, 0, none⟩) ((List.range n).map ws) := by
  refine Or.inr ⟨_, rfl, h.vs.lt, fun i hi => ?_⟩
  have hi' : i < n := by simpa using hi
  have e : (⟨g, 0, none⟩ : Addr).add i = ⟨g, i, none⟩ := by unfold Addr.add; split <;> simp_all
  rw [e, h.vs.cell hi']
  simp only [List.getElem_map, List.getElem_range]
  obtain ⟨A, c, h1, h2, h3⟩ := (h.own i hi').sl
  exact ⟨A, c, by rw [h1], h2, h3⟩
/-- slices of one's own, and an error's number -/
def RowsV (w : World) (ws : List (List Nat)) (n : Nat) (e : Ending) (w' : World) : Prop :=
  (ws = [] ∧ e = .returned (.tuple #[.slice none 0 0, .int .i64 (n : Int)]) ∨ ∃ g f, e = .returned (.tuple #[.slice (some ⟨g, 0, none⟩) ws.length ws.length, .int .i64 (n : Int)]) ∧ OwnW w w' g ws.length f (fun j => ws.getD j [])) ∧ Below w.heap.size w w'
theorem list_range_getD (ws : List (List Nat)) : (List.range ws.length).map (fun j => ws.getD j []) = ws := by
  apply List.ext_getElem
  · simp
  · intro i h1 h2
    simp [List.getD_eq_getElem?_getD, List.getElem?_eq_getElem h2]
theorem RowsV.sw {w w' : World} {ws : List (List Nat)} {n : Nat} {e : Ending} (h : RowsV w ws n e w') : ∃ A c, e = .returned (.tuple #[.slice A ws.length c, .int .i64 (n : Int)]) ∧ ws.length ≤ c ∧ Sw w' w'.heap.size A ws ∧ Below w.heap.size w w' := by
  obtain ⟨h, hb⟩ := h
  rcases h with ⟨rfl, he⟩ | ⟨g, f, he, ho⟩
  · exact ⟨none, 0, he, Nat.le_refl _, Sw.nil _ _ _, hb⟩
  · refine ⟨_, _, he, Nat.le_refl _, ?_, hb⟩
    have := ho.sw
    rwa [list_range_getD] at this
theorem inE_arg {W : Int} {s : List Nat} (h : mayB W = false) : inE W s = 1 := by unfold inE; rw [if_pos h]
theorem inE_size {W : Int} {s : List Nat} (h : mayB W = true) (h2 : s.length % W.toNat ≠ 0 ∨ s.length = 0) : inE W s = 3 := by unfold inE; rw [if_neg (by rw [h]; simp), if_pos h2]
theorem inE_ok {W : Int} {s : List Nat} (h : mayB W = true) (h2 : ¬ (s.length % W.toNat ≠ 0 ∨ s.length = 0)) : inE W s = 0 := by unfold inE; rw [if_neg (by rw [h]; simp), if_neg h2]
/-- the row's value, of W rows of n, behind block h -/
def rowV (h n j : Nat) : Value := .slice (some ⟨h + 1 + j, 0, none⟩) n n
/-- i of the W rows are made -/
structure Made (w wr : World) (W n i : Nat) : Prop where
  be : Below w.heap.size w wr
  size : wr.heap.size = w.heap.size + 1 + i
  vs : Vs wr w.heap.size W (fun j => if j < i then rowV w.heap.size n j else .slice none 0 0)
  rows : ∀ j, j < i → Arr wr (w.heap.size + 1 + j) (rm n fun _ => 0)
theorem Made.start (w : World) (W n : Nat) : Made w (w.alloc (.cells (madeCells #[.slice none 0 0] W) 23)) W n 0 :=
  ⟨(Below.refl _ _).alloc (Nat.le_refl _) _, by rw [World.size_alloc], (Vs.start w W).congr fun j _ => by rw [if_neg (by omega)], fun j h => absurd h (by omega)⟩
theorem Made.step {w wr : World} {W n i : Nat} (h : Made w wr W n i) : Made w ((wr.alloc (.cells (madeCells #[.int .u16 0] n) 37)).setCell ⟨w.heap.size, i, none⟩ (.slice (some ⟨wr.heap.size, 0, none⟩) n n)) W n (i + 1) := by
  have hs := h.size
  refine ⟨(h.be.alloc h.be.size _).setCell (Nat.le_refl _) _, ?_, ?_, ?_⟩
  · rw [World.size_setCell, World.size_alloc, hs]; omega
  · refine ((h.vs.alloc _).set_ i _).congr fun j _ => ?_
    show (if j = i then Value.slice (some ⟨wr.heap.size, 0, none⟩) n n else if j < i then rowV w.heap.size n j else .slice none 0 0) = if j < i + 1 then rowV w.heap.size n j else .slice none 0 0
    by_cases e : j = i
    · rw [if_pos e, if_pos (by omega), e, hs]; rfl
    · rw [if_neg e]
      by_cases h2 : j < i
      · rw [if_pos h2, if_pos (by omega)]
      · rw [if_neg h2, if_neg (by omega)]
  · intro j hj
    have key : Arr (wr.alloc (.cells (madeCells #[.int .u16 0] n) 37)) (w.heap.size + 1 + j) (rm n fun _ => 0) := by
      by_cases e : j = i
      · rw [e, ← hs, made_uv, rm_zero]
        exact Arr.new wr _
      · exact (h.rows j (by omega)).alloc _
    unfold Arr at key ⊢
    simp only [World.setCell]
    rw [Array.getElem?_modify, if_neg (by omega)]
    exact key
/-- i of the symbols are dealt out -/
structure Dealt (w wr : World) (W n : Nat) (s : List Nat) (i : Nat) : Prop where
  be : Below w.heap.size w wr
  size : wr.heap.size = w.heap.size + 1 + W
  vs : Vs wr w.heap.size W (rowV w.heap.size n)
  rows : ∀ j, j < W → Arr wr (w.heap.size + 1 + j) (rm n fun q => if q * W + j < i then at_ s (q * W + j) else 0)
theorem Made.dealt {w wr : World} {W n : Nat} (s : List Nat) (h : Made w wr W n W) : Dealt w wr W n s 0 :=
  ⟨h.be, h.size, h.vs.congr fun j hj => by rw [if_pos hj], fun j hj => by
    have := h.rows j hj
    rwa [rm_congr (n := n) (f := fun _ => 0) (g := fun q => if q * W + j < 0 then at_ s (q * W + j) else 0) (fun q _ => by rw [if_neg (by omega)])] at this⟩
theorem Dealt.drewN {w wr : World} {W n : Nat} {s : List Nat} {i : Nat} (h : Dealt w wr W n s i) (k : Nat) : Dealt w (wr.drewN k) W n s i := ⟨below_drewN h.be k, h.size, h.vs, h.rows⟩
theorem divmod_eq {W q j i : Nat} (hj : j < W) : q * W + j = i ↔ j = i % W ∧ q = i / W := by
  constructor
  · intro e
    subst e
    rw [Nat.add_comm, Nat.mul_comm, Nat.add_mul_mod_self_left, Nat.mod_eq_of_lt hj, Nat.add_mul_div_left _ _ (by omega), Nat.div_eq_of_lt hj]
    omega
  · rintro ⟨h1, h2⟩
    rw [h1, h2, Nat.mul_comm]
    exact Nat.div_add_mod i W
theorem Dealt.step {w wr : World} {W n : Nat} {s : List Nat} {i : Nat} (h : Dealt w wr W n s i) :
    Dealt w (wr.setCell ⟨w.heap.size + 1 + i % W, i / W, none⟩ (.int .u16 ((at_ s i : Nat) : Int))) W n s (i + 1) := by
  refine ⟨h.be.setCell (by show w.heap.size ≤ w.heap.size + 1 + i % W; omega) _, by rw [World.size_setCell]; exact h.size, ?_, ?_⟩
  · refine h.vs.keep ?_
    simp only [World.setCell]
    rw [Array.getElem?_modify, if_neg (by omega)]
  · intro j hj
    by_cases e : j = i % W
    · have := (h.rows j hj).set_ (i / W) (at_ s i)
      rw [rm_set] at this
      rw [← e]
      rw [rm_congr (g := fun q => if q * W + j < i + 1 then at_ s (q * W + j) else 0)] at this
      · exact this
      · intro q hq
        show (if q = i / W then at_ s i else if q * W + j < i then at_ s (q * W + j) else 0) = if q * W + j < i + 1 then at_ s (q * W + j) else 0
        have hd := divmod_eq (W := W) (q := q) (j := j) (i := i) hj
        by_cases e2 : q = i / W
        · rw [if_pos e2]
          have := hd.2 ⟨e, e2⟩
          rw [if_pos (by omega), this]
        · rw [if_neg e2]
          have hne : q * W + j ≠ i := fun h => e2 (hd.1 h).2
          by_cases h3 : q * W + j < i
          · rw [if_pos h3, if_pos (by omega)]
          · rw [if_neg h3, if_neg (by omega)]
    · have := h.rows j hj
      rw [rm_congr (g := fun q => if q * W + j < i + 1 then at_ s (q * W + j) else 0)] at this
      · unfold Arr at this ⊢
        simp only [World.setCell]
        rw [Array.getElem?_modify, if_neg (by omega)]
        exact this
      · intro q hq
        have hne : q * W + j ≠ i := fun h => e (divmod_eq hj |>.1 h).1
        by_cases h3 : q * W + j < i
        · rw [if_pos h3, if_pos (by omega)]
        · rw [if_neg h3, if_neg (by omega)]
theorem dealt_at {W : Nat} {s : List Nat} {j : Nat} (h : j < W) : (dealt W s).getD j [] = rm (s.length / W) fun q => at_ s (q * W + j) := by
  have hl : j < (dealt W s).length := by rw [dealt_len]; exact h
  rw [List.getD_eq_getElem?_getD, List.getElem?_eq_getElem hl, Option.getD_some, dealt_get]
theorem Dealt.done {w wr : World} {W n : Nat} {s : List Nat} {i : Nat} (h : Dealt w wr W n s i) (hn : n = s.length / W) (hi : W * n ≤ i) (hs : ∀ x ∈ s, x < 65536) (h6 : n ≤ 1000000) : RowsV w (dealt W s) 0 (.returned (.tuple #[.slice (some ⟨w.heap.size, 0, none⟩) W W, .int .i64 0])) wr := by
  refine ⟨Or.inr ⟨w.heap.size, rowV w.heap.size n, by rw [dealt_len]; rfl, ?_⟩, h.be⟩
  rw [dealt_len]
  refine ⟨Nat.le_refl _, h.vs, fun j hj => ?_, fun j hj => ?_, fun a b ha hb hne k hk => ?_⟩
  · rw [dealt_at hj, ← hn]
    have e : (rm n fun q => at_ s (q * W + j)) = rm n fun q => if q * W + j < i then at_ s (q * W + j) else 0 := rm_congr fun q hq => by
      have : (q + 1) * W ≤ n * W := Nat.mul_le_mul_right W hq
      rw [Nat.add_mul, Nat.mul_comm n W] at this
      rw [if_pos (by omega)]
    rw [e]
    refine Own.owns ⟨by omega, h.be, h.rows j hj⟩ (fun q _ => ?_) h6
    show (if q * W + j < i then at_ s (q * W + j) else 0) < 65536
    split
    · exact at_lt hs (by decide)
    · decide
  · simp [rowV, Value.ownBlock]; omega
  · simp [rowV, Value.ownBlock] at hk ⊢
    omega
end Go.Proofs.Ytpanmjohmgjigaa
