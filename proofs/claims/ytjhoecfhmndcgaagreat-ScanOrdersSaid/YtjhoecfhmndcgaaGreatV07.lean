/- Slices of whole numbers and of bools by functions; what a call answers; who is first of those that may. · WHAT IS FOUND ON A CHIP: slices of what was found; the latest; plain and in memory. · Slices of structs of three whole numbers, as lists of triples; whether fates may be, by the reference. · Whether fates may be, by the reference. · Geometries: what the program and the reference answer whether one may be; how many bytes go into so many symbols. · Geometries: how great one is: Cells, Size, Count, Lpns, of the program and of the reference. · Geometries: where a page stands, and its number. · Geometries: contracts at numbers that are known; regions that draw their order. · Slices of triples of one's own, and append of one. -/
import Derived.Test.YtjhoecfhmndcgaaGreatProg
import Derived.Test.YtjhoecfhmndcgaaGreatV06
import Derived.Test.YtjhoecfhmndcgaaGreatV05
import Derived.Below
import Derived.WalkKit
import Derived.WalkSpells
import Derived.WalkLawsBesides
import Derived.Lib.Hide
import Derived.IntWalk
import Derived.Deep.Draws
import Derived.Laws.Rows
import Derived.Maps.AppendAt
import Derived.Laws.AppendOwn
import Derived.KernelRfl
namespace Go.Proofs.YtjhoecfhmndcgaaGreat.We
open Go.RowKit
set_option linter.unusedVariables false
set_option linter.unusedSimpArgs false

theorem add_block (a : Addr) (n : Nat) : (a.add n).block = a.block := by unfold Addr.add; split <;> rfl
theorem add_pos (a : Addr) (n : Nat) (h : n ≠ 0) : a.add n = ⟨a.block, a.off + n, none⟩ := by unfold Addr.add; rw [if_neg h]
theorem add_zero' (a : Addr) : a.add 0 = a := by unfold Addr.add; rw [if_pos rfl]
/-- an answer; old memory is as it was -/
def Ans (w : World) (v : Value) (e : Ending) (w' : World) : Prop := e = .returned v ∧ Below w.heap.size w w'
theorem below_drewN (w : World) (n : Nat) : Below w.heap.size w (w.drewN n) := ⟨rfl, rfl, rfl, Nat.le_refl _, fun _ _ => rfl⟩
theorem below_alloc (w : World) (o : Obj) : Below w.heap.size w (w.alloc o) := (Below.refl _ _).alloc (Nat.le_refl _) _
theorem below_trans {w w1 w2 : World} (h : Below w.heap.size w w1) (k : Below w1.heap.size w1 w2) : Below w.heap.size w w2 := h.trans (k.mono h.size)
theorem cell_new (w : World) (cs : Array Value) (t : TypeId) (i : Nat) : (w.alloc (.cells cs t)).cell? ⟨w.heap.size, i, none⟩ = cs[i]? := cell_of_row _ _ i cs t (0, 0) (heap_alloc_new w (.cells cs t))
/-- who is first of those below the number that may -/
def fst (m : Nat → Bool) (ah : Nat → Nat → Bool) : Nat → Option Nat
  | 0 => none
  | k + 1 => match fst m ah k with
    | none => if m k then some k else none
    | some b => if m k && ah k b then some k else some b
/-- less worn -/
def lo (e : Nat → Int) (a b : Nat) : Bool := decide (e a < e b)
def hi (e : Nat → Int) (a b : Nat) : Bool := decide (e b < e a)
end Go.Proofs.YtjhoecfhmndcgaaGreat.We
namespace Go.Proofs.YtjhoecfhmndcgaaGreat.Sc
open Go.RowKit
set_option linter.unusedVariables false
set_option linter.unusedSimpArgs false
/-- a page that was found: its number, kind, host page, sequence, how many wrong -/
structure Fnd where
  pg : Int
  kd : Int
  lp : Int
  sq : Int
  wr : Int
def fV (x : Fnd) : Value := .agg #[.int .i64 x.pg, .int .i64 x.kd, .int .i64 x.lp, .int .i64 x.sq, .int .i64 x.wr]
def fC (x : Fnd) (j : Nat) : Value := .int .i64 (if j = 0 then x.pg else if j = 1 then x.kd else if j = 2 then x.lp else if j = 3 then x.sq else x.wr)
def f0 : Fnd := ⟨0, 0, 0, 0, 0⟩
def fA (l : List Fnd) (i : Nat) : Fnd := l.getD i f0
theorem fA_get {l : List Fnd} {i : Nat} (h : i < l.length) : fA l i = l[i] := by simp [fA, h]
theorem fA_mem {l : List Fnd} {i : Nat} (h : i < l.length) : fA l i ∈ l := by rw [fA_get h]; exact List.getElem_mem h
/-- x is rather the latest than y: of a greater sequence, of as great a one on a lesser page -/
def better (x y : Fnd) : Prop := y.sq < x.sq ∨ y.sq = x.sq ∧ x.pg ≤ y.pg
/-- m are the latest of l, by host pages -/
structure LatIs (l m : List Fnd) : Prop where
  mem : ∀ x ∈ m, x ∈ l
  all : ∀ x ∈ l, ∃ y ∈ m, y.lp = x.lp ∧ better y x
  ord : m.Pairwise (fun x y => x.lp < y.lp)
theorem eq_of_pw : ∀ {m m' : List Fnd}, m.Pairwise (fun x y => x.lp < y.lp) → m'.Pairwise (fun x y => x.lp < y.lp) → (∀ x, x ∈ m ↔ x ∈ m') → m = m'
  | [], [], _, _, _ => rfl
  | [], y :: ys, _, _, h => by have := (h y).2 List.mem_cons_self; cases this
  | x :: xs, [], _, _, h => by have := (h x).1 List.mem_cons_self; cases this
  | x :: xs, y :: ys, h1, h2, h => by
    rw [List.pairwise_cons] at h1 h2
    have e : x = y := by
      rcases List.mem_cons.1 ((h x).1 List.mem_cons_self) with e | hx
      · exact e
      · rcases List.mem_cons.1 ((h y).2 List.mem_cons_self) with e | hy
        · exact e.symm
        · have := h2.1 x hx; have := h1.1 y hy; omega
    subst e
    rw [eq_of_pw h1.2 h2.2 fun z => ⟨fun hz => ?_, fun hz => ?_⟩]
    · rcases List.mem_cons.1 ((h z).1 (List.mem_cons_of_mem _ hz)) with e | hz'
      · subst e; have := h1.1 z hz; omega
      · exact hz'
    · rcases List.mem_cons.1 ((h z).2 (List.mem_cons_of_mem _ hz)) with e | hz'
      · subst e; have := h2.1 z hz; omega
      · exact hz'
theorem pw_uniq : ∀ {m : List Fnd}, m.Pairwise (fun x y => x.lp < y.lp) → ∀ {x y : Fnd}, x ∈ m → y ∈ m → x.lp = y.lp → x = y
  | [], _, x, y, hx, _, _ => by cases hx
  | z :: zs, h, x, y, hx, hy, e => by
    rw [List.pairwise_cons] at h
    rcases List.mem_cons.1 hx with e1 | hx'
    · rcases List.mem_cons.1 hy with e2 | hy'
      · rw [e1, e2]
      · have := h.1 y hy'; rw [e1] at e; omega
    · rcases List.mem_cons.1 hy with e2 | hy'
      · have := h.1 x hx'; rw [e2] at e; omega
      · exact pw_uniq h.2 hx' hy' e
theorem LatIs.sub {l l' m m' : List Fnd} (h : LatIs l m) (h' : LatIs l' m') (he : ∀ x, x ∈ l ↔ x ∈ l') (ht : ∀ x ∈ l, ∀ y ∈ l, x.lp = y.lp → x.sq = y.sq → x.pg = y.pg → x = y) : ∀ x, x ∈ m → x ∈ m' := fun x hx => by
  obtain ⟨y, hy, e1, b1⟩ := h'.all x ((he x).1 (h.mem x hx))
  obtain ⟨z, hz, e2, b2⟩ := h.all y ((he y).2 (h'.mem y hy))
  have := pw_uniq h.ord hz hx (by rw [e2, e1])
  subst this
  unfold better at b1 b2
  have := ht z (h.mem z hx) y ((he y).2 (h'.mem y hy)) e2 (by omega) (by omega)
  rw [this]; exact hy
/-- of the same pages, in whatever order, the latest are the same -/
theorem LatIs.uniq {l l' m m' : List Fnd} (h : LatIs l m) (h' : LatIs l' m') (he : ∀ x, x ∈ l ↔ x ∈ l') (ht : ∀ x ∈ l, ∀ y ∈ l, x.lp = y.lp → x.sq = y.sq → x.pg = y.pg → x = y) : m = m' :=
  eq_of_pw h.ord h'.ord fun x => ⟨h.sub h' he ht x, h'.sub h (fun x => (he x).symm) (fun x hx y hy => ht x ((he x).2 hx) y ((he y).2 hy)) x⟩
/-- the greatest sequence -/
def gtL (l : List Fnd) : Int := l.foldl (fun a x => max a x.sq) (-1)
theorem gtL_app (l : List Fnd) (x : Fnd) : gtL (l ++ [x]) = max (gtL l) x.sq := by unfold gtL; rw [List.foldl_append]; rfl
/-- the slice with address A holds what was found, below block B -/
def FS (w : World) (B : Nat) (A : Option Addr) (l : List Fnd) : Prop := l = [] ∨ ∃ a, A = some a ∧ a.block < B ∧ ∀ i, i < l.length → ∀ j, j < 5 → w.cell? (a.add (i * 5 + j)) = some (fC (fA l i) j)
section
variable {w w' : World} {B : Nat} {A : Option Addr} {l : List Fnd}
theorem FS.nil (w : World) (B : Nat) (A : Option Addr) : FS w B A [] := Or.inl rfl
theorem FS.below (h : FS w B A l) (hb : Below B w w') : FS w' B A l := by
  rcases h with e | ⟨a, e, h1, h2⟩
  · exact Or.inl e
  · exact Or.inr ⟨a, e, h1, fun i hi j hj => by rw [hb.cell (by rw [We.add_block]; exact h1)]; exact h2 i hi j hj⟩
theorem FS.more (h : FS w B A l) {B' : Nat} (hb : B ≤ B') : FS w B' A l := by
  rcases h with e | ⟨a, e, h1, h2⟩
  · exact Or.inl e
  · exact Or.inr ⟨a, e, Nat.lt_of_lt_of_le h1 hb, h2⟩
theorem FS.far (h : FS w w.heap.size A l) (hb : Below w.heap.size w w') : FS w' w'.heap.size A l := (h.below hb).more hb.size
theorem FS.keep (h : FS w B A l) {B' : Nat} (hB : B ≤ B') (hk : ∀ a, A = some a → a.block < B → w'.heap[a.block]? = w.heap[a.block]?) : FS w' B' A l := by
  rcases h with e | ⟨a, e, h1, h2⟩
  · exact Or.inl e
  · refine Or.inr ⟨a, e, Nat.lt_of_lt_of_le h1 hB, fun i hi j hj => ?_⟩
    have := h2 i hi j hj
    rw [← this]
    unfold World.cell?
    rw [We.add_block, hk a e h1]
theorem add_plus (a : Addr) (k m : Nat) (hm : m ≠ 0) : a.add (k + m) = ⟨(a.add k).block, (a.add k).off + m, none⟩ := by
  unfold Addr.add
  by_cases hk : k = 0
  · subst hk
    rw [if_neg (by omega), if_pos rfl, Nat.zero_add]
  · rw [if_neg (by omega), if_neg hk]
    simp [Nat.add_assoc]
/-- its five cells, as the walk asks for them -/
theorem FS.at_ (h : FS w B A l) {i : Nat} (hi : i < l.length) : ∃ a, A = some a ∧ a.block < B ∧ w.cell? (a.add (i * 5)) = some (.int .i64 (fA l i).pg) ∧ w.cell? ⟨(a.add (i * 5)).block, (a.add (i * 5)).off + 1, none⟩ = some (.int .i64 (fA l i).kd) ∧
    w.cell? ⟨(a.add (i * 5)).block, (a.add (i * 5)).off + 2, none⟩ = some (.int .i64 (fA l i).lp) ∧ w.cell? ⟨(a.add (i * 5)).block, (a.add (i * 5)).off + 3, none⟩ = some (.int .i64 (fA l i).sq) ∧ w.cell? ⟨(a.add (i * 5)).block, (a.add (i * 5)).off + 4, none⟩ = some (.int .i64 (fA l i).wr) := by
  rcases h with e | ⟨a, e, h1, h2⟩
  · rw [e] at hi; exact absurd hi (by simp)
  · have g := h2 i hi
    have g0 := g 0 (by decide)
    have g1 := g 1 (by decide)
    have g2 := g 2 (by decide)
    have g3 := g 3 (by decide)
    have g4 := g 4 (by decide)
    rw [Nat.add_zero] at g0
    rw [add_plus a _ _ (by decide)] at g1 g2 g3 g4
    exact ⟨a, e, h1, g0, g1, g2, g3, g4⟩
theorem FS.head {x : Fnd} (h : FS w B A (x :: l)) : ∃ a, A = some a ∧ a.block < B ∧ w.cell? a = some (.int .i64 x.pg) ∧ w.cell? ⟨a.block, a.off + 1, none⟩ = some (.int .i64 x.kd) ∧ w.cell? ⟨a.block, a.off + 2, none⟩ = some (.int .i64 x.lp) ∧ w.cell? ⟨a.block, a.off + 3, none⟩ = some (.int .i64 x.sq) ∧ w.cell? ⟨a.block, a.off + 4, none⟩ = some (.int .i64 x.wr) := by
  obtain ⟨a, e, h1, q0, q1, q2, q3, q4⟩ := h.at_ (i := 0) (Nat.succ_pos _)
  rw [Nat.zero_mul, We.add_zero'] at q0 q1 q2 q3 q4
  exact ⟨a, e, h1, q0, q1, q2, q3, q4⟩
end
/-- all cells of what was found, one behind another -/
def flat5 : List Fnd → List Value
  | [] => []
  | x :: xs => .int .i64 x.pg :: .int .i64 x.kd :: .int .i64 x.lp :: .int .i64 x.sq :: .int .i64 x.wr :: flat5 xs
theorem flat5_len (l : List Fnd) : (flat5 l).length = l.length * 5 := by
  induction l with
  | nil => rfl
  | cons x xs ih => simp [flat5, ih]; omega
theorem flat5_app (a b : List Fnd) : flat5 (a ++ b) = flat5 a ++ flat5 b := by
  induction a with
  | nil => rfl
  | cons x xs ih => simp [flat5, ih]
theorem flat5_at (l : List Fnd) : ∀ i, i < l.length → ∀ j, j < 5 → (flat5 l)[i * 5 + j]? = some (fC (fA l i) j) := by
  induction l with
  | nil => intro i h; exact absurd h (by simp)
  | cons x xs ih =>
    intro i hi j hj
    cases i with
    | zero =>
      have : j = 0 ∨ j = 1 ∨ j = 2 ∨ j = 3 ∨ j = 4 := by omega
      rcases this with rfl | rfl | rfl | rfl | rfl <;> rfl
    | succ i =>
      have := ih i (by simpa using hi) j hj
      have e : fA (x :: xs) (i + 1) = fA xs i := by unfold fA; rfl
      rw [e, show (i + 1) * 5 + j = i * 5 + j + 5 by omega]
      exact this
theorem flat5_one (l : List Fnd) : ∀ u ∈ flat5 l, u.oneCell' = true := by
  induction l with
  | nil => intro u h; cases h
  | cons x xs ih =>
    intro u h
    simp only [flat5, List.mem_cons] at h
    rcases h with rfl | rfl | rfl | rfl | rfl | h
    · rfl
    · rfl
    · rfl
    · rfl
    · rfl
    · exact ih u h
/-- a slice of one's own of what was found (or nil), made since w0 -/
def OwnF (w0 w : World) (A : Option Addr) (n c : Nat) (l : List Fnd) : Prop := w.ownsRow w0.heap.size 29 5 (.slice A n c) n (flat5 l)
section
variable {w0 w w' : World} {A : Option Addr} {n c : Nat} {l : List Fnd}
theorem OwnF.nil (w0 w : World) : OwnF w0 w none 0 0 [] := ⟨rfl, Or.inl ⟨rfl, rfl⟩⟩
theorem OwnF.grow (h : OwnF w0 w A n c l) (o : Obj) : OwnF w0 (w.alloc o) A n c l := World.ownsRow.alloc h o
theorem OwnF.len (h : OwnF w0 w A n c l) : l.length = n := by have := h.1; rw [flat5_len] at this; omega
theorem OwnF.fs (h : OwnF w0 w A n c l) : FS w w.heap.size A l := by
  have hn := h.len
  obtain ⟨hl, h⟩ := h
  rcases h with ⟨e, h0⟩ | ⟨g, cap, cur, e, hg, hh, hr, hcap, hcs, htk⟩
  · exact Or.inl (List.eq_nil_of_length_eq_zero (by omega))
  · cases e
    have hlt : g < w.heap.size := by
      rcases Nat.lt_or_ge g w.heap.size with hlt | hge
      · exact hlt
      · rw [Array.getElem?_eq_none hge] at hh; cases hh
    refine Or.inr ⟨_, rfl, hlt, fun i hi j hj => ?_⟩
    have e : ∀ k, (⟨g, 0, none⟩ : Addr).add k = ⟨g, k, none⟩ := fun k => by unfold Addr.add; split <;> simp_all
    have e2 : (cur.toList.take (n * 5))[i * 5 + j]? = (flat5 l)[i * 5 + j]? := by rw [htk]
    rw [List.getElem?_take, if_pos (by omega), Array.getElem?_toList, flat5_at l i hi j hj] at e2
    rw [e, cell_of_row w g _ _ 29 (0, 0) hh, e2]
theorem OwnF.blk (h : OwnF w0 w A n c l) : ∀ a, A = some a → w0.heap.size ≤ a.block := by
  intro a ha
  obtain ⟨_, h⟩ := h
  rcases h with ⟨e, _⟩ | ⟨g, cap, cur, e, hg, _⟩
  · cases e; cases ha
  · cases e; cases ha; exact hg
theorem OwnF.cap (h : OwnF w0 w A n c l) : n ≤ c := by
  obtain ⟨_, h⟩ := h
  rcases h with ⟨e, h0⟩ | ⟨g, cap, cur, e, hg, hh, hr, _⟩
  · cases e; omega
  · cases e; exact hr
theorem OwnF.keep (h : OwnF w0 w A n c l) (hb : ∀ g, w0.heap.size ≤ g → g < w.heap.size → w'.heap[g]? = w.heap[g]?) : OwnF w0 w' A n c l := by
  obtain ⟨hl, h⟩ := h
  refine ⟨hl, ?_⟩
  rcases h with h | ⟨g, cap, cur, e, hg, hh, hr⟩
  · exact Or.inl h
  · have hlt : g < w.heap.size := by
      rcases Nat.lt_or_ge g w.heap.size with hlt | hge
      · exact hlt
      · rw [Array.getElem?_eq_none hge] at hh; cases hh
    exact Or.inr ⟨g, cap, cur, e, hg, (hb g hg hlt).trans hh, hr⟩
end
/-- made at once -/
theorem FS.made (w : World) (l : List Fnd) (T : TypeId) : FS (w.alloc (.cells (flat5 l).toArray T)) (w.alloc (.cells (flat5 l).toArray T)).heap.size (some ⟨w.heap.size, 0, none⟩) l := by
  refine Or.inr ⟨_, rfl, by rw [World.size_alloc]; exact Nat.lt_succ_self _, fun i hi j hj => ?_⟩
  have e : ∀ k, (⟨w.heap.size, 0, none⟩ : Addr).add k = ⟨w.heap.size, k, none⟩ := fun k => by unfold Addr.add; split <;> simp_all
  rw [e, We.cell_new, List.getElem?_toArray]
  exact flat5_at l i hi j hj
theorem infoF : (Tryz.prog.info? 29).map (fun i => (i.zero, i.size, i.bytes)) = some (some (.agg #[.int .i64 0, .int .i64 0, .int .i64 0, .int .i64 0, .int .i64 0]), 5, 40) := by kernel_rfl
/-- append of one, which lies in a block of its own -/
theorem app_fnd {w0 w : World} {ops : Array Oper} {rest : List Oper} {o : Oper} {a : Act} {Q : Exit → Act → World → Prop} (hgd : o.guard = none) (s x : Operand)
    (ho : o.op = .call { callee := .builtin .append, args := #[s, x], argTypes := #[24, 24] }) (A : Option Addr) (n c : Nat) (l : List Fnd) (hs : a.eval s = .slice A n c) (hown : OwnF w0 w A n c l) (hb : w0.heap.size ≤ w.heap.size)
    (g : Nat) (hx : a.eval x = .slice (some ⟨g, 0, none⟩) 1 1) (y : Fnd) (hy : ∀ j, j < 5 → w.cell? ⟨g, j, none⟩ = some (fC y j)) (h63 : n ≤ 1000000)
    (h : ∀ A' c' w', OwnF w0 w' A' (n + 1) c' (l ++ [y]) → Below w0.heap.size w w' → wpList Tryz.prog ops Q rest (a.put o.dst (.slice A' (n + 1) c')) w') :
    wpList Tryz.prog ops Q (o :: rest) a w := by
  have hi0 := infoF
  obtain ⟨i, hi, hrest⟩ := Option.map_eq_some_iff.1 hi0
  simp only [Prod.mk.injEq] at hrest
  obtain ⟨i1, i2, i3⟩ := hrest
  refine wpList_append_own_at w hgd s x 24 ho w0.heap.size 29 i (.agg #[.int .i64 0, .int .i64 0, .int .i64 0, .int .i64 0, .int .i64 0]) 5 40 Tryz.underlying24 hi i1 i2 i3 rfl (by decide) (.slice A n c) n (flat5 l) hs hown ⟨g, 0, none⟩ 1 1 (flat5 [y]) hx (by rw [flat5_len]; rfl) (fun j u hu => ?_) (flat5_one [y]) (by unfold maxLen; omega) (by omega) hb (fun v' w' h1 h2 _ _ => ?_)
  · have e : (⟨g, 0, none⟩ : Addr).add j = ⟨g, j, none⟩ := by unfold Addr.add; split <;> simp_all
    have hj : j < 5 := (List.getElem?_eq_some_iff.1 hu).1
    rw [e, hy j hj, ← hu]
    have := flat5_at [y] 0 (by simp) j hj
    rw [Nat.zero_mul, Nat.zero_add] at this
    rw [this]; rfl
  · have e : flat5 l ++ flat5 [y] = flat5 (l ++ [y]) := (flat5_app _ _).symm
    rw [e] at h1
    have hsh : ∃ A' c', v' = .slice A' (n + 1) c' := by
      rcases h1.2 with ⟨_, h0⟩ | ⟨g', cap, cur, e', _⟩
      · simp at h0
      · exact ⟨_, _, e'⟩
    obtain ⟨A', c', rfl⟩ := hsh
    refine h A' c' w' h1 ⟨h2.os, h2.tape, h2.output, h2.size, fun b hb2 => h2.block b (by omega) (fun e => ?_)⟩
    rcases hown.2 with ⟨e', _⟩ | ⟨g', cap, cur, e', hg', _⟩
    · cases e'; cases e
    · cases e'
      have : b = g' := by simpa [Value.ownBlock] using e
      omega
end Go.Proofs.YtjhoecfhmndcgaaGreat.Sc
namespace Go.Proofs.YtjhoecfhmndcgaaGreat.Ft
open Go.RowKit
set_option linter.unusedVariables false
set_option linter.unusedSimpArgs false

def Ans (w : World) (v : Value) (e : Ending) (w' : World) : Prop := e = .returned v ∧ Below w.heap.size w w'
def tAt (ts : List (Int × Int × Int)) (i : Nat) : Int × Int × Int := ts.getD i (0, 0, 0)
theorem add_block (a : Addr) (n : Nat) : (a.add n).block = a.block := by unfold Addr.add; split <;> rfl
theorem below_alloc (w : World) (o : Obj) : Below w.heap.size w (w.alloc o) := (Below.refl _ _).alloc (Nat.le_refl _) _
theorem below_drewN {B : Nat} {w w1 : World} (h : Below B w w1) (n : Nat) : Below B w (w1.drewN n) := ⟨h.os, h.tape, h.output, h.size, h.block⟩
/-- the slice with address A holds the triples ts, below block B -/
def S3 (w : World) (B : Nat) (A : Option Addr) (ts : List (Int × Int × Int)) : Prop :=
  ts = [] ∨ ∃ a, A = some a ∧ a.block < B ∧ ∀ i, i < ts.length → w.cell? (a.add (i * 3)) = some (.int .i64 (tAt ts i).1) ∧ w.cell? (a.add (i * 3 + 1)) = some (.int .i64 (tAt ts i).2.1) ∧ w.cell? (a.add (i * 3 + 2)) = some (.int .i64 (tAt ts i).2.2)
theorem S3.nil (w : World) (B : Nat) (A : Option Addr) : S3 w B A [] := Or.inl rfl
theorem S3.keep {w w' : World} {B : Nat} {A : Option Addr} {ts : List (Int × Int × Int)} (h : S3 w B A ts) (hk : ∀ p : Addr, p.block < B → w'.cell? p = w.cell? p) : S3 w' B A ts := by
  rcases h with e | ⟨a, e, h1, h2⟩
  · exact Or.inl e
  · refine Or.inr ⟨a, e, h1, fun i hi => ?_⟩
    rw [hk _ (by rw [add_block]; exact h1), hk _ (by rw [add_block]; exact h1), hk _ (by rw [add_block]; exact h1)]
    exact h2 i hi
theorem S3.more {w : World} {B B' : Nat} {A : Option Addr} {ts : List (Int × Int × Int)} (h : S3 w B A ts) (hB : B ≤ B') : S3 w B' A ts := by
  rcases h with e | ⟨a, e, h1, h2⟩
  · exact Or.inl e
  · exact Or.inr ⟨a, e, by omega, h2⟩
theorem S3.below {w w' : World} {B : Nat} {A : Option Addr} {ts : List (Int × Int × Int)} (h : S3 w B A ts) (hb : Below B w w') : S3 w' B A ts := h.keep fun _ hp => hb.cell hp
theorem S3.far {w w' : World} {A : Option Addr} {ts : List (Int × Int × Int)} (h : S3 w w.heap.size A ts) (hb : Below w.heap.size w w') : S3 w' w'.heap.size A ts := (h.below hb).more hb.size
theorem add_more (a : Addr) (k m : Nat) (hm : m ≠ 0) : a.add (k + m) = ⟨(a.add k).block, (a.add k).off + m, none⟩ := by
  unfold Addr.add
  by_cases hk : k = 0
  · subst hk
    rw [if_neg (by omega), if_pos rfl, Nat.zero_add]
  · rw [if_neg (by omega), if_neg hk]
    simp [Nat.add_assoc]
theorem S3.at_ {w : World} {B : Nat} {A : Option Addr} {ts : List (Int × Int × Int)} {i : Nat} (h : S3 w B A ts) (hi : i < ts.length) : ∃ a, A = some a ∧ a.block < B ∧ w.cell? (a.add (i * 3)) = some (.int .i64 (tAt ts i).1) ∧
    w.cell? ⟨(a.add (i * 3)).block, (a.add (i * 3)).off + 1, none⟩ = some (.int .i64 (tAt ts i).2.1) ∧ w.cell? ⟨(a.add (i * 3)).block, (a.add (i * 3)).off + 2, none⟩ = some (.int .i64 (tAt ts i).2.2) := by
  rcases h with e | ⟨a, e, h1, h2⟩
  · rw [e] at hi; exact absurd hi (by simp)
  · obtain ⟨g0, g1, g2⟩ := h2 i hi
    rw [add_more a _ 1 (by decide)] at g1
    rw [add_more a _ 2 (by decide)] at g2
    exact ⟨a, e, h1, g0, g1, g2⟩
/-- one fate that may be -/
def okT (x : Int × Int × Int) : Bool := decide (0 ≤ x.1 ∧ x.1 ≤ 1099511627776 ∧ (x.2.1 = 1 ∨ x.2.1 = 2) ∧ 0 ≤ x.2.2)
def newT (ts : List (Int × Int × Int)) (i : Nat) : Bool := okT (tAt ts i) && (List.range i).all fun k => decide ((tAt ts k).1 ≠ (tAt ts i).1)
def mayF (ts : List (Int × Int × Int)) : Bool := decide (ts.length ≤ 256) && (List.range ts.length).all fun i => newT ts i
theorem mayF_yes {ts : List (Int × Int × Int)} (hl : ts.length ≤ 256) (h : ∀ i, i < ts.length → newT ts i = true) : mayF ts = true := by
  unfold mayF
  rw [decide_eq_true hl, Bool.true_and]
  exact List.all_eq_true.2 fun i hi => h i (List.mem_range.1 hi)
theorem newT_ok {ts : List (Int × Int × Int)} {i : Nat} (h1 : okT (tAt ts i) = true) (h2 : ∀ k, k < i → (tAt ts k).1 ≠ (tAt ts i).1) : newT ts i = true := by
  unfold newT
  rw [h1, Bool.true_and]
  exact List.all_eq_true.2 fun k hk => decide_eq_true (h2 k (List.mem_range.1 hk))
end Go.Proofs.YtjhoecfhmndcgaaGreat.Ft
namespace Go.Proofs.YtjhoecfhmndcgaaGreat.Ft
open Go.RowKit
set_option linter.unusedVariables false
set_option linter.unusedSimpArgs false

theorem cell_of {w : World} {g : Nat} {cs : Array Value} {t : TypeId} (h : w.heap[g]? = some (.cells cs t)) (i : Nat) : w.cell? ⟨g, i, none⟩ = cs[i]? := by simp [World.cell?, h]
theorem cell_new (w : World) (cs : Array Value) (t : TypeId) (i : Nat) : (w.alloc (.cells cs t)).cell? ⟨w.heap.size, i, none⟩ = cs[i]? := cell_of (heap_alloc_new w (.cells cs t)) i

end Go.Proofs.YtjhoecfhmndcgaaGreat.Ft
namespace Go.Proofs.YtjhoecfhmndcgaaGreat.Ge
open Go.RowKit

/-- an answer; old memory is as it was -/
def Ans (w : World) (v : Value) (e : Ending) (w' : World) : Prop := e = .returned v ∧ Below w.heap.size w w'
theorem below_drewN (w : World) (n : Nat) : Below w.heap.size w (w.drewN n) := ⟨rfl, rfl, rfl, Nat.le_refl _, fun _ _ => rfl⟩
theorem below_alloc (w : World) (o : Obj) : Below w.heap.size w (w.alloc o) := (Below.refl _ _).alloc (Nat.le_refl _) _
/-- is n from l to m? -/
theorem in_any (n l m : Int) (w : World) : Calls Tryz.prog 46 #[.int .i64 n, .int .i64 l, .int .i64 m] w fun e w' => e = .returned (.bool (decide (l ≤ n) && decide (n ≤ m))) ∧ w = w' := by
  obtain ⟨b1, h1⟩ : ∃ b, decide (l ≤ n) = b := ⟨_, rfl⟩
  obtain ⟨b2, h2⟩ : ∃ b, decide (n ≤ m) = b := ⟨_, rfl⟩
  rw [h1, h2]
  cases b1
  · go_enter Tryz.func46, Tryz.ntmps46
    go_wp2_with fail
    go_ret
    exact ⟨rfl, rfl⟩
  · go_enter Tryz.func46, Tryz.ntmps46
    go_wp2_with fail
    go_ret
    exact ⟨rfl, rfl⟩
/-- a geometry that may be -/
def mayG (B P W K : Int) : Bool := decide (4 ≤ B ∧ B ≤ 64 ∧ 2 ≤ P ∧ P ≤ 32 ∧ 1 ≤ W ∧ W ≤ 4 ∧ 1 ≤ K ∧ K ≤ 64 ∧ 8 < W * K)
theorem prod_le {W K : Int} (h1 : 1 ≤ W) (h2 : W ≤ 4) (h3 : 1 ≤ K) (h4 : K ≤ 64) : 0 ≤ W * K ∧ W * K ≤ 256 := by
  have : W = 1 ∨ W = 2 ∨ W = 3 ∨ W = 4 := by omega
  rcases this with rfl | rfl | rfl | rfl <;> omega
/-- .. as both reckon it, test by test -/
theorem mayG_eq (B P W K : Int) : mayG B P W K = (decide (4 ≤ B) && decide (B ≤ 64) && (decide (2 ≤ P) && decide (P ≤ 32)) && (decide (1 ≤ W) && decide (W ≤ 4)) && (decide (1 ≤ K) && decide (K ≤ 64)) && decide (8 < wrap64 (W * K))) := by
  unfold mayG
  rw [Bool.eq_iff_iff]
  simp only [Bool.and_eq_true, decide_eq_true_eq]
  refine ⟨fun ⟨h1, h2, h3, h4, h5, h6, h7, h8, h9⟩ => ?_, fun ⟨⟨⟨⟨⟨h1, h2⟩, h3, h4⟩, h5, h6⟩, h7, h8⟩, h9⟩ => ?_⟩
  · have := prod_le h5 h6 h7 h8
    rw [IntWalk.wrap64_in _ (by omega)]
    exact ⟨⟨⟨⟨⟨h1, h2⟩, h3, h4⟩, h5, h6⟩, h7, h8⟩, h9⟩
  · have := prod_le h5 h6 h7 h8
    rw [IntWalk.wrap64_in _ (by omega)] at h9
    exact ⟨h1, h2, h3, h4, h5, h6, h7, h8, h9⟩
set_option maxHeartbeats 2000000 in
theorem may_any (B P W K : Int) (w : World) : Calls Tryz.prog 28 #[.agg #[.int .i64 B, .int .i64 P, .int .i64 W, .int .i64 K]] w (Ans w (.bool (mayG B P W K))) := by
  have hB : ∀ w, Calls Tryz.prog 46 #[.int .i64 B, .int .i64 4, .int .i64 64] w fun e w' => e = .returned (.bool (decide (4 ≤ B) && decide (B ≤ 64))) ∧ w = w' := in_any B 4 64
  have hP : ∀ w, Calls Tryz.prog 46 #[.int .i64 P, .int .i64 2, .int .i64 32] w fun e w' => e = .returned (.bool (decide (2 ≤ P) && decide (P ≤ 32))) ∧ w = w' := in_any P 2 32
  have hW : ∀ w, Calls Tryz.prog 46 #[.int .i64 W, .int .i64 1, .int .i64 4] w fun e w' => e = .returned (.bool (decide (1 ≤ W) && decide (W ≤ 4))) ∧ w = w' := in_any W 1 4
  have hK : ∀ w, Calls Tryz.prog 46 #[.int .i64 K, .int .i64 1, .int .i64 64] w fun e w' => e = .returned (.bool (decide (1 ≤ K) && decide (K ≤ 64))) ∧ w = w' := in_any K 1 64
  have hm := mayG_eq B P W K
  have hb := Lib.hid (below_alloc w (.cells #[.int .i64 B, .int .i64 P, .int .i64 W, .int .i64 K] 34))
  obtain ⟨b1, h1⟩ : ∃ b, (decide (4 ≤ B) && decide (B ≤ 64)) = b := ⟨_, rfl⟩
  obtain ⟨b2, h2⟩ : ∃ b, (decide (2 ≤ P) && decide (P ≤ 32)) = b := ⟨_, rfl⟩
  obtain ⟨b3, h3⟩ : ∃ b, (decide (1 ≤ W) && decide (W ≤ 4)) = b := ⟨_, rfl⟩
  obtain ⟨b4, h4⟩ : ∃ b, (decide (1 ≤ K) && decide (K ≤ 64)) = b := ⟨_, rfl⟩
  obtain ⟨b5, h5⟩ : ∃ b, decide (8 < wrap64 (W * K)) = b := ⟨_, rfl⟩
  rw [h1] at hB; rw [h2] at hP; rw [h3] at hW; rw [h4] at hK
  rw [h1, h2, h3, h4, h5] at hm
  rw [hm]
  clear hm h1 h2 h3 h4
  replace hB := Lib.hid hB
  replace hP := Lib.hid hP
  replace hW := Lib.hid hW
  replace hK := Lib.hid hK
  cases b1
  rotate_left
  cases b2
  rotate_left
  cases b3
  rotate_left
  cases b4
  rotate_left
  all_goals
    go_enter Tryz.func28, Tryz.ntmps28
    go_wp2_with (go_at_call 46; first
      | (with_reducible refine (hB.out _).mono ?_; rintro e w1 ⟨rfl, rfl⟩)
      | (with_reducible refine (hP.out _).mono ?_; rintro e w1 ⟨rfl, rfl⟩)
      | (with_reducible refine (hW.out _).mono ?_; rintro e w1 ⟨rfl, rfl⟩)
      | (with_reducible refine (hK.out _).mono ?_; rintro e w1 ⟨rfl, rfl⟩))
    go_ret
    exact ⟨rfl, hb.out⟩
set_option maxHeartbeats 4000000 in
theorem refmay_any (B P W K : Int) (w : World) : Calls Tryz.prog 11 #[.agg #[.int .i64 B, .int .i64 P, .int .i64 W, .int .i64 K]] w (Ans w (.bool (mayG B P W K))) := by
  have hm := mayG_eq B P W K
  have hb := Lib.hid (below_alloc w (.cells #[.int .i64 B, .int .i64 P, .int .i64 W, .int .i64 K] 34))
  obtain ⟨b1, h1⟩ : ∃ b, decide (4 ≤ B) = b := ⟨_, rfl⟩
  obtain ⟨b2, h2⟩ : ∃ b, decide (B ≤ 64) = b := ⟨_, rfl⟩
  obtain ⟨b3, h3⟩ : ∃ b, decide (2 ≤ P) = b := ⟨_, rfl⟩
  obtain ⟨b4, h4⟩ : ∃ b, decide (P ≤ 32) = b := ⟨_, rfl⟩
  obtain ⟨b5, h5⟩ : ∃ b, decide (1 ≤ W) = b := ⟨_, rfl⟩
  obtain ⟨b6, h6⟩ : ∃ b, decide (W ≤ 4) = b := ⟨_, rfl⟩
  obtain ⟨b7, h7⟩ : ∃ b, decide (1 ≤ K) = b := ⟨_, rfl⟩
  obtain ⟨b8, h8⟩ : ∃ b, decide (K ≤ 64) = b := ⟨_, rfl⟩
  obtain ⟨b9, h9⟩ : ∃ b, decide (8 < wrap64 (W * K)) = b := ⟨_, rfl⟩
  rw [h1, h2, h3, h4, h5, h6, h7, h8, h9] at hm
  rw [hm]
  clear hm
  cases b1
  rotate_left
  cases b2
  rotate_left
  cases b3
  rotate_left
  cases b4
  rotate_left
  cases b5
  rotate_left
  cases b6
  rotate_left
  cases b7
  rotate_left
  cases b8
  rotate_left
  all_goals
    go_enter Tryz.func11, Tryz.ntmps11
    go_wp2_with fail
    go_ret
    exact ⟨rfl, hb.out⟩
/-- how many bytes go into so many symbols: both the same -/
def bytG (n : Int) : Int := 10 * min (max n 0) 1099511627776 / 8
theorem clamp_any (n : Int) (w : World) : Calls Tryz.prog 146 #[.int .i64 n] w fun e w' => e = .returned (.int .i64 (min (max n 0) 1099511627776)) ∧ w = w' := by
  go_enter Tryz.func146, Tryz.ntmps146
  go_wp2_with fail
  all_goals (go_ret; refine ⟨congrArg (fun z => Ending.returned (.int .i64 z)) ?_, rfl⟩; split at * <;> omega)
set_option maxHeartbeats 1000000 in
theorem bytes_any (n : Int) (w : World) : Calls Tryz.prog 120 #[.int .i64 n] w fun e w' => e = .returned (.int .i64 (bytG n)) ∧ w = w' := by
  have hc := Lib.hid (clamp_any n w)
  obtain ⟨m, hm, hm1⟩ : ∃ m : Nat, min (max n 0) 1099511627776 = (m : Int) ∧ m ≤ 1099511627776 := ⟨(min (max n 0) 1099511627776).toNat, by omega, by omega⟩
  unfold bytG
  rw [hm] at hc ⊢
  clear hm
  go_enter Tryz.func120, Tryz.ntmps120
  go_wp2_with (go_at_call 146; (with_reducible refine hc.out.mono ?_); rintro e w1 ⟨rfl, rfl⟩)
  go_ret
  exact ⟨rfl, rfl⟩
theorem refbytes_any (n : Int) (w : World) : Calls Tryz.prog 36 #[.int .i64 n] w fun e w' => e = .returned (.int .i64 (bytG n)) ∧ w = w' := by
  rcases Int.lt_or_le n 0 with h0 | h0
  · have hn : bytG n = 0 := by unfold bytG; omega
    rw [hn]
    go_enter Tryz.func36, Tryz.ntmps36
    go_wp2_with fail
    go_ret
    exact ⟨rfl, rfl⟩
  · rcases Int.lt_or_le 1099511627776 n with h1 | h1
    · have hn : bytG n = 1374389534720 := by unfold bytG; omega
      rw [hn]
      go_enter Tryz.func36, Tryz.ntmps36
      go_wp2_with fail
      go_ret
      exact ⟨rfl, rfl⟩
    · obtain ⟨m, rfl⟩ : ∃ m : Nat, n = (m : Int) := ⟨n.toNat, by omega⟩
      have hs : bytG (m : Int) = 10 * (m : Int) / 8 := by unfold bytG; omega
      rw [hs]
      go_enter Tryz.func36, Tryz.ntmps36
      go_wp2_with fail
      go_ret
      exact ⟨rfl, rfl⟩
end Go.Proofs.YtjhoecfhmndcgaaGreat.Ge
namespace Go.Proofs.YtjhoecfhmndcgaaGreat.Ge
open Go.RowKit

theorem may_of {B P W K : Int} (h : mayG B P W K = true) : 4 ≤ B ∧ B ≤ 64 ∧ 2 ≤ P ∧ P ≤ 32 ∧ 1 ≤ W ∧ W ≤ 4 ∧ 1 ≤ K ∧ K ≤ 64 ∧ 8 < W * K := by
  unfold mayG at h
  exact of_decide_eq_true h
def celG (B P W K : Int) : Int := if mayG B P W K = true then W * (K + 16) else 0
def sizG (B P W K : Int) : Int := if mayG B P W K = true then bytG (W * K - 8) else 0
theorem wk16 {W K : Int} (h1 : 1 ≤ W) (h2 : W ≤ 4) (h3 : 1 ≤ K) (h4 : K ≤ 64) : wrap64 (W * (K + 16)) = W * (K + 16) := by
  refine IntWalk.wrap64_in _ ?_
  have : W = 1 ∨ W = 2 ∨ W = 3 ∨ W = 4 := by omega
  rcases this with rfl | rfl | rfl | rfl <;> omega
theorem wk_in {W K : Int} (h1 : 1 ≤ W) (h2 : W ≤ 4) (h3 : 1 ≤ K) (h4 : K ≤ 64) : wrap64 (W * K) = W * K := by
  have := prod_le h1 h2 h3 h4
  exact IntWalk.wrap64_in _ (by omega)
theorem bp_le {x P : Int} (h1 : 0 ≤ x) (h2 : x ≤ 64) (h3 : 0 ≤ P) (h4 : P ≤ 32) : 0 ≤ x * P ∧ x * P ≤ 2048 := by
  refine ⟨Int.mul_nonneg h1 h3, ?_⟩
  have h5 : x * P ≤ x * 32 := Int.mul_le_mul_of_nonneg_left h4 h1
  omega
theorem bp_in {x P : Int} (h1 : 0 ≤ x) (h2 : x ≤ 64) (h3 : 0 ≤ P) (h4 : P ≤ 32) : wrap64 (x * P) = x * P := by
  have := bp_le h1 h2 h3 h4
  exact IntWalk.wrap64_in _ (by omega)
/-- block g holds that geometry -/
structure Box (w : World) (g : Nat) (B P W K : Int) : Prop where
  lt : g < w.heap.size
  c0 : w.cell? ⟨g, 0, none⟩ = some (.int .i64 B)
  c1 : w.cell? ⟨g, 1, none⟩ = some (.int .i64 P)
  c2 : w.cell? ⟨g, 2, none⟩ = some (.int .i64 W)
  c3 : w.cell? ⟨g, 3, none⟩ = some (.int .i64 K)
theorem Box.keep {w w' : World} {g : Nat} {B P W K : Int} (h : Box w g B P W K) (hb : Below w.heap.size w w') : Box w' g B P W K :=
  ⟨Nat.lt_of_lt_of_le h.lt hb.size, (hb.cell h.lt).trans h.c0, (hb.cell h.lt).trans h.c1, (hb.cell h.lt).trans h.c2, (hb.cell h.lt).trans h.c3⟩
theorem cell_of {w : World} {g : Nat} {cs : Array Value} {t : TypeId} (h : w.heap[g]? = some (.cells cs t)) (i : Nat) : w.cell? ⟨g, i, none⟩ = cs[i]? := by simp [World.cell?, h]
theorem Box.new (w : World) (B P W K : Int) : Box (w.alloc (.cells #[.int .i64 B, .int .i64 P, .int .i64 W, .int .i64 K] 34)) w.heap.size B P W K := by
  have h : (w.alloc (.cells #[.int .i64 B, .int .i64 P, .int .i64 W, .int .i64 K] 34)).heap[w.heap.size]? = some (.cells #[.int .i64 B, .int .i64 P, .int .i64 W, .int .i64 K] 34) := by
    show (w.heap.push _)[w.heap.size]? = _
    rw [Array.getElem?_push, if_pos rfl]
  exact ⟨by rw [World.size_alloc]; omega, cell_of h 0, cell_of h 1, cell_of h 2, cell_of h 3⟩
set_option maxHeartbeats 1000000 in
theorem cells_any (B P W K : Int) (w : World) : Calls Tryz.prog 48 #[.agg #[.int .i64 B, .int .i64 P, .int .i64 W, .int .i64 K]] w (Ans w (.int .i64 (celG B P W K))) := by
  have hb := below_alloc w (.cells #[.int .i64 B, .int .i64 P, .int .i64 W, .int .i64 K] 34)
  have hx := Lib.hid (Box.new w B P W K)
  have hc := Lib.hid (may_any B P W K (w.alloc (.cells #[.int .i64 B, .int .i64 P, .int .i64 W, .int .i64 K] 34)))
  replace hb := Lib.hid hb
  cases hM : mayG B P W K
  · have hr : celG B P W K = 0 := by unfold celG; rw [hM]; rfl
    rw [hM] at hc
    rw [hr]
    go_enter Tryz.func48, Tryz.ntmps48
    go_wp2_with (go_at_call 28; (with_reducible refine hc.out.mono ?_); rintro e w1 ⟨rfl, hb1⟩; have hb2 := Lib.hid (hb.out.trans (hb1.mono hb.out.size)); clear hb1)
    go_ret
    exact ⟨rfl, hb2.out⟩
  · obtain ⟨h1, h2, h3, h4, h5, h6, h7, h8, h9⟩ := may_of hM
    rw [hM] at hc
    have hr : celG B P W K = W * (K + 16) := by unfold celG; rw [hM]; rfl
    have hw := wk16 h5 h6 h7 h8
    rw [hr]
    clear hr h9 h1 h2 h3 h4
    go_enter Tryz.func48, Tryz.ntmps48
    go_wp2_with (first
      | (go_at_call 28; (with_reducible refine hc.out.mono ?_); rintro e w1 ⟨rfl, hb1⟩; have hb2 := Lib.hid (hb.out.trans (hb1.mono hb.out.size)); obtain ⟨hlt, c0, c1, c2, c3⟩ := hx.out.keep hb1; clear hb1))
    go_ret
    exact ⟨congrArg (fun z => Ending.returned (.int .i64 z)) (hw), hb2.out⟩
set_option maxHeartbeats 1000000 in
theorem refcells_any (B P W K : Int) (w : World) : Calls Tryz.prog 12 #[.agg #[.int .i64 B, .int .i64 P, .int .i64 W, .int .i64 K]] w (Ans w (.int .i64 (celG B P W K))) := by
  have hb := below_alloc w (.cells #[.int .i64 B, .int .i64 P, .int .i64 W, .int .i64 K] 34)
  have hx := Lib.hid (Box.new w B P W K)
  have hc := Lib.hid (refmay_any B P W K (w.alloc (.cells #[.int .i64 B, .int .i64 P, .int .i64 W, .int .i64 K] 34)))
  replace hb := Lib.hid hb
  cases hM : mayG B P W K
  · have hr : celG B P W K = 0 := by unfold celG; rw [hM]; rfl
    rw [hM] at hc
    rw [hr]
    go_enter Tryz.func12, Tryz.ntmps12
    go_wp2_with (go_at_call 11; (with_reducible refine hc.out.mono ?_); rintro e w1 ⟨rfl, hb1⟩; have hb2 := Lib.hid (hb.out.trans (hb1.mono hb.out.size)); clear hb1)
    go_ret
    exact ⟨rfl, hb2.out⟩
  · obtain ⟨h1, h2, h3, h4, h5, h6, h7, h8, h9⟩ := may_of hM
    rw [hM] at hc
    have hr : celG B P W K = W * (K + 16) := by unfold celG; rw [hM]; rfl
    have hw := wk16 h5 h6 h7 h8
    rw [hr]
    clear hr h9 h1 h2 h3 h4
    go_enter Tryz.func12, Tryz.ntmps12
    go_wp2_with (first
      | (go_at_call 11; (with_reducible refine hc.out.mono ?_); rintro e w1 ⟨rfl, hb1⟩; have hb2 := Lib.hid (hb.out.trans (hb1.mono hb.out.size)); obtain ⟨hlt, c0, c1, c2, c3⟩ := hx.out.keep hb1; clear hb1))
    go_ret
    exact ⟨congrArg (fun z => Ending.returned (.int .i64 z)) (hw), hb2.out⟩
set_option maxHeartbeats 1000000 in
theorem size_any (B P W K : Int) (w : World) : Calls Tryz.prog 90 #[.agg #[.int .i64 B, .int .i64 P, .int .i64 W, .int .i64 K]] w (Ans w (.int .i64 (sizG B P W K))) := by
  have hb := below_alloc w (.cells #[.int .i64 B, .int .i64 P, .int .i64 W, .int .i64 K] 34)
  have hx := Lib.hid (Box.new w B P W K)
  have hc := Lib.hid (may_any B P W K (w.alloc (.cells #[.int .i64 B, .int .i64 P, .int .i64 W, .int .i64 K] 34)))
  replace hb := Lib.hid hb
  cases hM : mayG B P W K
  · have hr : sizG B P W K = 0 := by unfold sizG; rw [hM]; rfl
    rw [hM] at hc
    rw [hr]
    go_enter Tryz.func90, Tryz.ntmps90
    go_wp2_with (go_at_call 28; (with_reducible refine hc.out.mono ?_); rintro e w1 ⟨rfl, hb1⟩; have hb2 := Lib.hid (hb.out.trans (hb1.mono hb.out.size)); clear hb1)
    go_ret
    exact ⟨rfl, hb2.out⟩
  · obtain ⟨h1, h2, h3, h4, h5, h6, h7, h8, h9⟩ := may_of hM
    rw [hM] at hc
    have hr : sizG B P W K = bytG (W * K - 8) := by unfold sizG; rw [hM]; rfl
    have hw := wk_in h5 h6 h7 h8
    have hp := prod_le h5 h6 h7 h8
    obtain ⟨n, hn⟩ : ∃ n, W * K = n := ⟨_, rfl⟩
    rw [hr, hn]
    rw [hn] at hw hp h9
    have hcb := Lib.hid (bytes_any (n - 8))
    clear hr h1 h2 h3 h4
    go_enter Tryz.func90, Tryz.ntmps90
    go_wp2_with (first
      | (go_at_call 28; (with_reducible refine hc.out.mono ?_); rintro e w1 ⟨rfl, hb1⟩; have hb2 := Lib.hid (hb.out.trans (hb1.mono hb.out.size)); obtain ⟨hlt, c0, c1, c2, c3⟩ := hx.out.keep hb1; clear hb1)
      | (go_at_call 120; (with_reducible refine (hcb.out _).mono ?_); rintro e w2 ⟨rfl, rfl⟩))
    go_ret
    exact ⟨rfl, hb2.out⟩
set_option maxHeartbeats 1000000 in
theorem refsize_any (B P W K : Int) (w : World) : Calls Tryz.prog 15 #[.agg #[.int .i64 B, .int .i64 P, .int .i64 W, .int .i64 K]] w (Ans w (.int .i64 (sizG B P W K))) := by
  have hb := below_alloc w (.cells #[.int .i64 B, .int .i64 P, .int .i64 W, .int .i64 K] 34)
  have hx := Lib.hid (Box.new w B P W K)
  have hc := Lib.hid (refmay_any B P W K (w.alloc (.cells #[.int .i64 B, .int .i64 P, .int .i64 W, .int .i64 K] 34)))
  replace hb := Lib.hid hb
  cases hM : mayG B P W K
  · have hr : sizG B P W K = 0 := by unfold sizG; rw [hM]; rfl
    rw [hM] at hc
    rw [hr]
    go_enter Tryz.func15, Tryz.ntmps15
    go_wp2_with (go_at_call 11; (with_reducible refine hc.out.mono ?_); rintro e w1 ⟨rfl, hb1⟩; have hb2 := Lib.hid (hb.out.trans (hb1.mono hb.out.size)); clear hb1)
    go_ret
    exact ⟨rfl, hb2.out⟩
  · obtain ⟨h1, h2, h3, h4, h5, h6, h7, h8, h9⟩ := may_of hM
    rw [hM] at hc
    have hr : sizG B P W K = bytG (W * K - 8) := by unfold sizG; rw [hM]; rfl
    have hw := wk_in h5 h6 h7 h8
    have hp := prod_le h5 h6 h7 h8
    obtain ⟨n, hn⟩ : ∃ n, W * K = n := ⟨_, rfl⟩
    rw [hr, hn]
    rw [hn] at hw hp h9
    have hcb := Lib.hid (refbytes_any (n - 8))
    clear hr h1 h2 h3 h4
    go_enter Tryz.func15, Tryz.ntmps15
    go_wp2_with (first
      | (go_at_call 11; (with_reducible refine hc.out.mono ?_); rintro e w1 ⟨rfl, hb1⟩; have hb2 := Lib.hid (hb.out.trans (hb1.mono hb.out.size)); obtain ⟨hlt, c0, c1, c2, c3⟩ := hx.out.keep hb1; clear hb1)
      | (go_at_call 36; (with_reducible refine (hcb.out _).mono ?_); rintro e w2 ⟨rfl, rfl⟩))
    go_ret
    exact ⟨rfl, hb2.out⟩



end Go.Proofs.YtjhoecfhmndcgaaGreat.Ge
namespace Go.Proofs.YtjhoecfhmndcgaaGreat.Ge
open Go.RowKit

/-- is there that page of that block? -/
def isN (B P W K b p : Int) : Bool := mayG B P W K && (decide (0 ≤ b) && decide (b ≤ B - 1)) && (decide (0 ≤ p) && decide (p ≤ P - 1))
def numG (B P W K b p : Int) : Int := if isN B P W K b p = true then b * P + p else 0
set_option maxHeartbeats 1000000 in
theorem number_any (B P W K b p : Int) (w : World) : Calls Tryz.prog 42 #[.agg #[.int .i64 B, .int .i64 P, .int .i64 W, .int .i64 K], .int .i64 b, .int .i64 p] w (Ans w (.tuple #[.int .i64 (numG B P W K b p), .bool (isN B P W K b p)])) := by
  have hb := below_alloc w (.cells #[.int .i64 B, .int .i64 P, .int .i64 W, .int .i64 K] 34)
  have hx := Lib.hid (Box.new w B P W K)
  have hc := Lib.hid (may_any B P W K (w.alloc (.cells #[.int .i64 B, .int .i64 P, .int .i64 W, .int .i64 K] 34)))
  replace hb := Lib.hid hb
  have hcb := in_any b 0 (B - 1)
  have hcp := in_any p 0 (P - 1)
  cases hM : mayG B P W K
  · have h1 : isN B P W K b p = false := by unfold isN; rw [hM]; rfl
    have h2 : numG B P W K b p = 0 := by unfold numG; rw [h1]; rfl
    rw [hM] at hc
    rw [h1, h2]
    clear hcb hcp
    go_enter Tryz.func42, Tryz.ntmps42
    go_wp2_with (go_at_call 28; (with_reducible refine hc.out.mono ?_); rintro e w1 ⟨rfl, hb1⟩; have hb2 := Lib.hid (hb.out.trans (hb1.mono hb.out.size)); obtain ⟨hlt, c0, c1, c2, c3⟩ := hx.out.keep hb1; clear hb1)
    go_ret2
    exact ⟨rfl, hb2.out⟩
  · obtain ⟨g1, g2, g3, g4, _⟩ := may_of hM
    rw [hM] at hc
    cases hB : (decide (0 ≤ b) && decide (b ≤ B - 1))
    · have h1 : isN B P W K b p = false := by unfold isN; rw [hM, hB]; rfl
      have h2 : numG B P W K b p = 0 := by unfold numG; rw [h1]; rfl
      rw [hB] at hcb
      rw [h1, h2]
      replace hcb := Lib.hid hcb
      clear hcp hB
      go_enter Tryz.func42, Tryz.ntmps42
      go_wp2_with (first
        | (go_at_call 28; (with_reducible refine hc.out.mono ?_); rintro e w1 ⟨rfl, hb1⟩; have hb2 := Lib.hid (hb.out.trans (hb1.mono hb.out.size)); obtain ⟨hlt, c0, c1, c2, c3⟩ := hx.out.keep hb1; clear hb1)
        | (go_at_call 46; (with_reducible refine (hcb.out _).mono ?_); rintro e w2 ⟨rfl, rfl⟩))
      go_ret2
      exact ⟨rfl, hb2.out⟩
    · rw [hB] at hcb
      cases hP : (decide (0 ≤ p) && decide (p ≤ P - 1))
      · have h1 : isN B P W K b p = false := by unfold isN; rw [hM, hB, hP]; rfl
        have h2 : numG B P W K b p = 0 := by unfold numG; rw [h1]; rfl
        rw [hP] at hcp
        rw [h1, h2]
        replace hcb := Lib.hid hcb
        replace hcp := Lib.hid hcp
        clear hB hP
        go_enter Tryz.func42, Tryz.ntmps42
        go_wp2_with (first
          | (go_at_call 28; (with_reducible refine hc.out.mono ?_); rintro e w1 ⟨rfl, hb1⟩; have hb2 := Lib.hid (hb.out.trans (hb1.mono hb.out.size)); obtain ⟨hlt, c0, c1, c2, c3⟩ := hx.out.keep hb1; clear hb1)
          | (go_at_call 46; first
            | (with_reducible refine (hcb.out _).mono ?_; rintro e w2 ⟨rfl, rfl⟩)
            | (with_reducible refine (hcp.out _).mono ?_; rintro e w2 ⟨rfl, rfl⟩)))
        go_ret2
        exact ⟨rfl, hb2.out⟩
      · have h1 : isN B P W K b p = true := by unfold isN; rw [hM, hB, hP]; rfl
        have h2 : numG B P W K b p = b * P + p := by unfold numG; rw [h1]; rfl
        rw [hP] at hcp
        rw [h1, h2]
        rw [Bool.and_eq_true, decide_eq_true_eq, decide_eq_true_eq] at hB hP
        obtain ⟨b1, b2⟩ := hB
        obtain ⟨p1, p2⟩ := hP
        have hw := bp_in b1 (by omega) (by omega : 0 ≤ P) g4
        have hp := bp_le b1 (by omega) (by omega : 0 ≤ P) g4
        replace hcb := Lib.hid hcb
        replace hcp := Lib.hid hcp
        go_enter Tryz.func42, Tryz.ntmps42
        go_wp2_with (first
          | (go_at_call 28; (with_reducible refine hc.out.mono ?_); rintro e w1 ⟨rfl, hb1⟩; have hb2 := Lib.hid (hb.out.trans (hb1.mono hb.out.size)); obtain ⟨hlt, c0, c1, c2, c3⟩ := hx.out.keep hb1; clear hb1)
          | (go_at_call 46; first
            | (with_reducible refine (hcb.out _).mono ?_; rintro e w2 ⟨rfl, rfl⟩)
            | (with_reducible refine (hcp.out _).mono ?_; rintro e w2 ⟨rfl, rfl⟩)))
        go_ret2
        exact ⟨rfl, hb2.out⟩
end Go.Proofs.YtjhoecfhmndcgaaGreat.Ge
namespace Go.Proofs.YtjhoecfhmndcgaaGreat.Ge
open Go.RowKit

theorem ans_of {f : FuncId} {args : Array Value} {B : Nat} {w₀ : World} {x : Cl.After B w₀} {v : Value} (hB : B ≤ w₀.heap.size) (h : Calls Tryz.prog f args x.w (Ans x.w v)) :
    Calls Tryz.prog f args x.w fun e w'' => e = .returned v ∧ ∃ y : Cl.After B w₀, w'' = y.w := Cl.after_of hB h
theorem may_lit {B P W K : Int} {b : Bool} (h : mayG B P W K = b) (w : World) : Calls Tryz.prog 28 #[.agg #[.int .i64 B, .int .i64 P, .int .i64 W, .int .i64 K]] w (Ans w (.bool b)) := by subst h; exact may_any B P W K w
theorem cells_lit {B P W K n : Int} (h : celG B P W K = n) (w : World) : Calls Tryz.prog 48 #[.agg #[.int .i64 B, .int .i64 P, .int .i64 W, .int .i64 K]] w (Ans w (.int .i64 n)) := by subst h; exact cells_any B P W K w
theorem number_lit {B P W K b p n : Int} {i : Bool} (hi : isN B P W K b p = i) (h : numG B P W K b p = n) (w : World) : Calls Tryz.prog 42 #[.agg #[.int .i64 B, .int .i64 P, .int .i64 W, .int .i64 K], .int .i64 b, .int .i64 p] w (Ans w (.tuple #[.int .i64 n, .bool i])) := by subst hi h; exact number_any B P W K b p w

end Go.Proofs.YtjhoecfhmndcgaaGreat.Ge
namespace Go.Proofs.YtjhoecfhmndcgaaGreat.Ft
open Go.RowKit
set_option linter.unusedVariables false
set_option linter.unusedSimpArgs false

def flat3 : List (Int × Int × Int) → List Value
  | [] => []
  | x :: xs => .int .i64 x.1 :: .int .i64 x.2.1 :: .int .i64 x.2.2 :: flat3 xs
theorem flat3_len (ts : List (Int × Int × Int)) : (flat3 ts).length = ts.length * 3 := by
  induction ts with
  | nil => rfl
  | cons x xs ih => simp [flat3, ih]; omega
theorem flat3_at (ts : List (Int × Int × Int)) : ∀ i, i < ts.length → (flat3 ts)[i * 3]? = some (.int .i64 (tAt ts i).1) ∧ (flat3 ts)[i * 3 + 1]? = some (.int .i64 (tAt ts i).2.1) ∧ (flat3 ts)[i * 3 + 2]? = some (.int .i64 (tAt ts i).2.2) := by
  induction ts with
  | nil => intro i h; exact absurd h (by simp)
  | cons x xs ih =>
    intro i hi
    cases i with
    | zero => exact ⟨rfl, rfl, rfl⟩
    | succ i =>
      have := ih i (by simpa using hi)
      have e : tAt (x :: xs) (i + 1) = tAt xs i := by unfold tAt; rfl
      rw [e, show (i + 1) * 3 = i * 3 + 3 by omega]
      exact this
theorem flat3_one (ts : List (Int × Int × Int)) : ∀ u ∈ flat3 ts, u.oneCell' = true := by
  induction ts with
  | nil => intro u h; cases h
  | cons x xs ih =>
    intro u h
    rcases List.mem_cons.1 h with rfl | h
    · rfl
    · rcases List.mem_cons.1 h with rfl | h
      · rfl
      · rcases List.mem_cons.1 h with rfl | h
        · rfl
        · exact ih u h
/-- a slice of triples of one's own (or nil), made since w0 -/
def OwnT (w0 w : World) (v : Value) (ts : List (Int × Int × Int)) : Prop := w.ownsRow w0.heap.size 61 3 v ts.length (flat3 ts)
section
variable {w0 w w' : World} {v : Value} {ts : List (Int × Int × Int)}
theorem OwnT.nil (w0 w : World) : OwnT w0 w (.slice none 0 0) [] := ⟨rfl, Or.inl ⟨rfl, rfl⟩⟩
theorem OwnT.s3 (h : OwnT w0 w v ts) : ∃ A c, v = .slice A ts.length c ∧ ts.length ≤ c ∧ S3 w w.heap.size A ts := by
  obtain ⟨hl, h2⟩ := h
  rcases h2 with ⟨rfl, h0⟩ | ⟨g, cap, cur, rfl, hg, hh, hn, hcap, hcs, htk⟩
  · obtain rfl : ts = [] := List.eq_nil_of_length_eq_zero h0
    exact ⟨none, 0, rfl, Nat.le_refl _, S3.nil _ _ _⟩
  · have hlt : g < w.heap.size := by
      rcases Nat.lt_or_ge g w.heap.size with hlt | hge
      · exact hlt
      · rw [Array.getElem?_eq_none hge] at hh; cases hh
    refine ⟨_, cap, rfl, hn, Or.inr ⟨_, rfl, hlt, fun j hj => ?_⟩⟩
    have e : ∀ k, (⟨g, 0, none⟩ : Addr).add k = ⟨g, k, none⟩ := fun k => by unfold Addr.add; split <;> simp_all
    have c : ∀ k, k < ts.length * 3 → w.cell? ⟨g, k, none⟩ = (flat3 ts)[k]? := fun k hk => by
      have e2 : (cur.toList.take (ts.length * 3))[k]? = (flat3 ts)[k]? := by rw [htk]
      rw [List.getElem?_take, if_pos hk, Array.getElem?_toList] at e2
      rw [cell_of hh, e2]
    obtain ⟨f0, f1, f2⟩ := flat3_at ts j hj
    rw [e, e, e, c _ (by omega), c _ (by omega), c _ (by omega)]
    exact ⟨f0, f1, f2⟩
end
theorem info30 : (Tryz.prog.info? 61).map (fun i => (i.zero, i.size, i.bytes)) = some (some (.agg #[.int .i64 0, .int .i64 0, .int .i64 0]), 3, 24) := by kernel_rfl
end Go.Proofs.YtjhoecfhmndcgaaGreat.Ft
