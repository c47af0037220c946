/- A page's points: what it holds, and what its functions do, said of whole points. · Small laws on worlds and points. · Points of symbols, plain: what is wrong of a page whose cells moved. · Rows of whole numbers of one's own, and append of one. · New, State, and what Program refuses at once. · What Program asks and sets: is something no symbol, and which state lies behind it. · Program puts the first points and symbols. · Erase takes all charge away. · What a part of a move may be, and a part of a point. · Drift moves one cell. · Sense tells all points, in a row of its own. · The places of what is wrong. · The page's contracts, by their names. -/
import Derived.Test.YtjhoecfhmndcgaaGreatV13
import Derived.Test.YtjhoecfhmndcgaaGreatV18
import Derived.Test.YtjhoecfhmndcgaaGreatV06
import Derived.Deep.Draws
import Derived.Maps.AppendAt
import Derived.KernelRfl
import Derived.StillTailTactics
import Derived.Lib.SliceRun
import Derived.Test.YtjhoecfhmndcgaaGreatV12
import Derived.Test.YtjhoecfhmndcgaaGreatV05
namespace Go.Proofs.YtjhoecfhmndcgaaGreat
open Go.RowKit Go.Gf Go.Fl
set_option linter.unusedVariables false
set_option linter.unusedSimpArgs false

def AnsY (w : World) (v : Value) (e : Ending) (w' : World) : Prop := e = .returned v ∧ Below w.heap.size w w'
/-- a symbol's point -/
def pt (s : Nat) : Int × Int := (2 * ((s : Int) / 32 % 32) - 31, 2 * ((s : Int) % 32) - 31)
def ptAt (ps : List (Int × Int)) (i : Nat) : Int × Int := ps.getD i (0, 0)
def syAt (ss : List Nat) (i : Nat) : Nat := ss.getD i 0
/-- the first symbols' points, the others as they were -/
def progP (ps : List (Int × Int)) (ss : List Nat) (keep : Int) : List (Int × Int) := (List.range ps.length).map fun (i : Nat) => if (i : Int) < keep then pt (syAt ss i) else ptAt ps i
def progS (n : Nat) (keep : Int) : Int := if keep ≤ 0 then 0 else if (n : Int) ≤ keep then 1 else 2
/-- a cell holds a whole point -/
def IsP (w : World) (a : Addr) (p : Int × Int) : Prop := ∃ x y, w.cell? a = some (.complex .f64 x y) ∧ Is x (p.1 : Rat) ∧ Is y (p.2 : Rat)
/-- block g has n cells for points, and may be written -/
def RowX (w : World) (g n : Nat) : Prop := ∃ cs, w.heap[g]? = some (.cells cs 150 (0, 0)) ∧ n ≤ cs.size
/-- the slice with address A holds the points ps, in a block from lo on -/
def Pts (w : World) (lo : Nat) (A : Option Addr) (ps : List (Int × Int)) : Prop := ps = [] ∨ ∃ g, A = some ⟨g, 0, none⟩ ∧ lo ≤ g ∧ RowX w g ps.length ∧ ∀ i, i < ps.length → IsP w ⟨g, i, none⟩ (ptAt ps i)
theorem RowX.lt {w : World} {g n : Nat} (h : RowX w g n) : g < w.heap.size := by
  obtain ⟨cs, h, _⟩ := h
  rcases Nat.lt_or_ge g w.heap.size with hlt | hge
  · exact hlt
  · rw [Array.getElem?_eq_none hge] at h; cases h
theorem RowX.keep {w w' : World} {g n : Nat} (h : RowX w g n) (hk : w'.heap[g]? = w.heap[g]?) : RowX w' g n := by
  obtain ⟨cs, h, hn⟩ := h
  exact ⟨cs, hk.trans h, hn⟩
theorem RowX.frozen {w : World} {g n : Nat} (h : RowX w g n) (i : Nat) : w.frozen? ⟨g, i, none⟩ = false := by
  obtain ⟨cs, h, _⟩ := h
  simp [World.frozen?, h]
theorem RowX.cell {w : World} {g n i : Nat} (h : RowX w g n) (hi : i < n) : ∃ v, w.cell? ⟨g, i, none⟩ = some v := by
  obtain ⟨cs, h, hn⟩ := h
  refine ⟨cs[i]'(by omega), ?_⟩
  simp [World.cell?, h]
theorem RowX.set_ {w : World} {g n : Nat} (h : RowX w g n) (k : Nat) (v : Value) : RowX (w.setCell ⟨g, k, none⟩ v) g n := by
  obtain ⟨cs, h, hn⟩ := h
  refine ⟨cs.setIfInBounds k v, ?_, by simpa using hn⟩
  simp only [World.setCell]
  rw [Array.getElem?_modify, h]
  simp
/-- a row of places -/
def Ints (w : World) (lo : Nat) (A : Option Addr) (l : List Nat) : Prop := l = [] ∨ ∃ a, A = some a ∧ lo ≤ a.block ∧ a.block < w.heap.size ∧ ∀ i, i < l.length → w.cell? (a.add i) = some (.int .i64 ((syAt l i : Nat) : Int))
/-- block k holds n cells: a point each, and the symbol that was put there -/
def RowCY (w : World) (k n : Nat) : Prop := ∃ cs, w.heap[k]? = some (.cells cs 152 (0, 0)) ∧ n * 2 ≤ cs.size
/-- the i-th cell of block k -/
def CellC (w : World) (k i : Nat) (q : Int × Int) (st : Int) (x : Nat) : Prop := IsP w ⟨k, i * 2, none⟩ q ∧ ∃ s : Nat, w.cell? ⟨k, i * 2 + 1, none⟩ = some (.int .u16 (s : Int)) ∧ (st = 1 → s = x)
/-- THE PAGE (the program's own way to keep it) -/
structure Page (w : World) (F : Nat → Prop) (p : Addr) (ps : List (Int × Int)) (ss : List Nat) (st : Int) : Prop where
  shape : ∃ g k c, p = ⟨g, 0, none⟩ ∧ F g ∧ g < w.heap.size ∧ F k ∧ k < w.heap.size ∧ g ≠ k ∧ (∀ i, w.frozen? ⟨g, i, none⟩ = false) ∧
    w.cell? ⟨g, 0, none⟩ = some (.slice (some ⟨k, 0, none⟩) ps.length c) ∧ w.cell? ⟨g, 1, none⟩ = some (.int .i64 st) ∧ RowCY w k ps.length ∧ ∀ i, i < ps.length → CellC w k i (ptAt ps i) st (syAt ss i)
  bound : ∀ i, -1000 ≤ (ptAt ps i).1 ∧ (ptAt ps i).1 ≤ 1000 ∧ -1000 ≤ (ptAt ps i).2 ∧ (ptAt ps i).2 ≤ 1000
  small : ps.length ≤ 65536
section
variable {w w' : World} {F F' : Nat → Prop} {p : Addr} {ps : List (Int × Int)} {ss : List Nat} {st : Int}
theorem frozen_block {w w' : World} {b : Nat} (h : w'.heap[b]? = w.heap[b]?) (i : Nat) : w'.frozen? ⟨b, i, none⟩ = w.frozen? ⟨b, i, none⟩ := by
  unfold World.frozen?
  dsimp only
  rw [h]
theorem IsP.block {w w' : World} {a : Addr} {q : Int × Int} (h : IsP w a q) (hb : w'.heap[a.block]? = w.heap[a.block]?) : IsP w' a q := by
  obtain ⟨x, y, hc, hx, hy⟩ := h
  exact ⟨x, y, (World.cell?_of_block hb).trans hc, hx, hy⟩
theorem Sl.block {w w' : World} {B B' : Nat} {A : Option Addr} {xs : List Nat} (h : Sl w B A xs) (hB : B ≤ B') (hb : ∀ a, A = some a → a.block < B → w'.heap[a.block]? = w.heap[a.block]?) : Sl w' B' A xs := by
  refine ⟨h.1, ?_⟩
  rcases h.2 with e | ⟨a, rfl, h1, h2⟩
  · exact Or.inl e
  · exact Or.inr ⟨a, rfl, by omega, fun i hi => (World.cell?_of_block (by rw [add_block]; exact hb a rfl h1)).trans (h2 i hi)⟩
theorem RowCY.block {w w' : World} {k n : Nat} (h : RowCY w k n) (hk : w'.heap[k]? = w.heap[k]?) : RowCY w' k n := by
  obtain ⟨cs, h, hn⟩ := h
  exact ⟨cs, hk.trans h, hn⟩
theorem CellC.block {w w' : World} {k i : Nat} {q : Int × Int} {st : Int} {x : Nat} (h : CellC w k i q st x) (hk : w'.heap[k]? = w.heap[k]?) : CellC w' k i q st x := by
  obtain ⟨h1, s, h2, h3⟩ := h
  exact ⟨h1.block hk, s, (World.cell?_of_block hk).trans h2, h3⟩
/-- a page whose blocks are as they were -/
theorem Page.block (h : Page w F p ps ss st) (hs : w.heap.size ≤ w'.heap.size) (hb : ∀ b, b < w.heap.size → F b → w'.heap[b]? = w.heap[b]?) : Page w' F p ps ss st := by
  obtain ⟨⟨g, k, c, rfl, hg, hgl, hk, hkl, hgk, hfr, c0, c1, hr, hc⟩, hbd, hsm⟩ := h
  have eg := hb g hgl hg
  have ek := hb k hkl hk
  have ca : ∀ i, w'.cell? ⟨g, i, none⟩ = w.cell? ⟨g, i, none⟩ := fun i => World.cell?_of_block eg
  exact ⟨⟨g, k, c, rfl, hg, Nat.lt_of_lt_of_le hgl hs, hk, Nat.lt_of_lt_of_le hkl hs, hgk, fun i => (frozen_block eg i).trans (hfr i), (ca 0).trans c0, (ca 1).trans c1, hr.block ek, fun i hi => (hc i hi).block ek⟩, hbd, hsm⟩
theorem Page.below (h : Page w F p ps ss st) (hb : Below w.heap.size w w') : Page w' F p ps ss st := h.block hb.size fun b hlt _ => hb.block b hlt
theorem Page.only (h : Page w F p ps ss st) (hF : ∀ b, b < w.heap.size → F b → F' b) : Page w F' p ps ss st := by
  obtain ⟨⟨g, k, c, rfl, hg, hgl, hk, hkl, hr⟩, hbd, hsm⟩ := h
  exact ⟨⟨g, k, c, rfl, hF g hgl hg, hgl, hF k hkl hk, hkl, hr⟩, hbd, hsm⟩
end
end Go.Proofs.YtjhoecfhmndcgaaGreat
namespace Go.Proofs.YtjhoecfhmndcgaaGreat
open Go.RowKit Go.Gf Go.Fl
set_option linter.unusedVariables false
set_option linter.unusedSimpArgs false

theorem is_zeroY' : Is 0 (((0 : Int) : Int) : Rat) := is_zero
theorem cell_of {w : World} {g : Nat} {cs : Array Value} {t : TypeId} (h : w.heap[g]? = some (.cells cs t)) (i : Nat) : w.cell? ⟨g, i, none⟩ = cs[i]? := by simp [World.cell?, h]
theorem cell_new (w : World) (cs : Array Value) (t : TypeId) (i : Nat) : (w.alloc (.cells cs t)).cell? ⟨w.heap.size, i, none⟩ = cs[i]? := cell_of (heap_alloc_new w (.cells cs t)) i
theorem add_zeroY' (a : Addr) : a.add 0 = a := by unfold Addr.add; rw [if_pos rfl]
theorem below_alloc' (w : World) (o : Obj) : Below w.heap.size w (w.alloc o) := (Below.refl _ _).alloc (Nat.le_refl _) _
theorem Cl.Keeps.low {F : Nat → Prop} {w0 w w' : World} (hb : Below w0.heap.size w0 w) (hF : ∀ b, F b → w0.heap.size ≤ b) (hk : Cl.Keeps (fun b => ¬ F b) w w') : Below w0.heap.size w0 w' :=
  ⟨hk.os.trans hb.os, hk.tape.trans hb.tape, hk.output.trans hb.output, Nat.le_trans hb.size hk.size, fun b hlt => (hk.block b (Nat.lt_of_lt_of_le hlt hb.size) (fun e => absurd (hF b e) (by omega))).trans (hb.block b hlt)⟩
end Go.Proofs.YtjhoecfhmndcgaaGreat
namespace Go.Proofs.YtjhoecfhmndcgaaGreat
open Go.RowKit Go.Gf Go.Fl
set_option linter.unusedVariables false
set_option linter.unusedSimpArgs false

theorem lev_pt (m : Int) (h0 : 0 ≤ m) (h1 : m ≤ 31) : lev (2 * m - 31) = m := by unfold lev; omega
theorem slc_ptY {s : Nat} (h : s < 1024) : slc (pt s).1 (pt s).2 = (s : Int) := by
  unfold slc pt
  dsimp only
  rw [lev_pt _ (by omega) (by omega), lev_pt _ (by omega) (by omega)]
  omega
theorem pt_range (s : Nat) : -31 ≤ (pt s).1 ∧ (pt s).1 ≤ 31 ∧ -31 ≤ (pt s).2 ∧ (pt s).2 ≤ 31 := by unfold pt; dsimp only; omega
theorem pt_odd (s : Nat) : pt s ≠ (0, 0) := by
  intro e
  have e1 := congrArg Prod.fst e
  unfold pt at e1
  dsimp only at e1
  omega
theorem syAt_lt {xs : List Nat} (hx : ∀ x ∈ xs, x < 1024) (i : Nat) : syAt xs i < 1024 := by
  unfold syAt
  rcases Nat.lt_or_ge i xs.length with h | h
  · rw [List.getD_eq_getElem?_getD, List.getElem?_eq_getElem h]
    exact hx _ (List.getElem_mem h)
  · rw [List.getD_eq_getElem?_getD, List.getElem?_eq_none h]
    decide
theorem syAt_get {xs : List Nat} {i : Nat} (h : i < xs.length) : syAt xs i = xs[i] := by
  unfold syAt
  rw [List.getD_eq_getElem?_getD, List.getElem?_eq_getElem h]; rfl
theorem prog_len (ps : List (Int × Int)) (xs : List Nat) (k : Int) : (progP ps xs k).length = ps.length := by unfold progP; simp
theorem prog_at {ps : List (Int × Int)} {xs : List Nat} {k : Int} {i : Nat} (hi : i < ps.length) : ptAt (progP ps xs k) i = if (i : Int) < k then pt (syAt xs i) else ptAt ps i := by
  unfold progP
  conv => lhs; unfold ptAt
  rw [List.getD_eq_getElem?_getD, List.getElem?_map, List.getElem?_range hi]
  rfl
theorem zero_at (n i : Nat) : ptAt (List.replicate n (0, 0)) i = (0, 0) := by
  unfold ptAt
  rw [List.getD_eq_getElem?_getD]
  rcases Nat.lt_or_ge i n with h | h
  · rw [List.getElem?_replicate, if_pos h]; rfl
  · rw [List.getElem?_eq_none (by simpa using h)]; rfl
theorem is_L1 (s : Nat) : Is (L ((s : Int) / 32)) (((pt s).1 : Int) : Rat) := L_is _
theorem is_L2 (s : Nat) : Is (L (s : Int)) (((pt s).2 : Int) : Rat) := L_is _
end Go.Proofs.YtjhoecfhmndcgaaGreat
namespace Go.Proofs.YtjhoecfhmndcgaaGreat
open Go.RowKit Go.Gf Go.Fl
set_option linter.unusedVariables false
set_option linter.unusedSimpArgs false

def iv (n : Nat) : Value := .int .i64 (n : Int)
section
variable {w0 w w' : World} {v : Value} {l : List Nat}
end
end Go.Proofs.YtjhoecfhmndcgaaGreat
namespace Go.Proofs.YtjhoecfhmndcgaaGreat
open Go.RowKit Go.Gf Go.Fl
set_option linter.unusedVariables false
set_option linter.unusedSimpArgs false
theorem info50 : (Tryz.prog.info? 152).map (fun i => (i.zero, i.size, i.bytes)) = some (some (.agg #[.complex .f64 0 0, .int .u16 0]), 2, 24) := by kernel_rfl
/-- n cells without charge -/
def zC (n : Nat) : Array Value := madeCells #[.complex .f64 0 0, .int .u16 0] (n * 2)
theorem zC_size (n : Nat) : (zC n).size = n * 2 := size_madeCells _ _
theorem zC_0 {n i : Nat} (h : i < n) : (zC n)[i * 2]? = some (.complex .f64 0 0) := by
  unfold zC madeCells
  simp [show i * 2 < n * 2 by omega]
theorem zC_1 {n i : Nat} (h : i < n) : (zC n)[i * 2 + 1]? = some (.int .u16 0) := by
  unfold zC madeCells
  have e : (i * 2 + 1) % 2 = 1 := by omega
  simp [show i * 2 + 1 < n * 2 by omega, e]
theorem run_make44 (w : World) (n : Nat) (hn : n ≤ 65536) : (Instr.makeSlice 136 (.int .i64 (n : Int)) (.int .i64 (n : Int))).run Tryz.prog w = .ok (.slice (some ⟨w.heap.size, 0, none⟩) n n) (w.alloc (.cells (zC n) 152)) := by
  have hi0 := info50
  obtain ⟨i, hi, hrest⟩ := Option.map_eq_some_iff.1 hi0
  simp only [Prod.mk.injEq] at hrest
  obtain ⟨i1, i2, i3⟩ := hrest
  have h := run_make (P := Tryz.prog) w 136 152 i _ Tryz.underlying136 hi i1 .i64 .i64 (n : Int) (n : Int) (by omega) (Int.le_refl _) (by rw [i3]; omega) (by omega)
  rw [i2, Int.toNat_natCast] at h
  exact h
/-- n cells without charge, in new memory -/
theorem zC_new (w : World) (n : Nat) (st : Int) (hst : st = 0) (i : Nat) (hi : i < n) (x : Nat) : CellC (w.alloc (.cells (zC n) 152)) w.heap.size i (0, 0) st x :=
  ⟨⟨0, 0, (cell_new w _ _ _).trans (zC_0 hi), is_zeroY', is_zeroY'⟩, 0, (cell_new w _ _ _).trans (zC_1 hi), fun e => by rw [hst] at e; cases e⟩
section
variable {w w' : World} {F F' : Nat → Prop} {p : Addr} {ps : List (Int × Int)} {ss : List Nat} {st : Int}
theorem p_state (h : Page w F p ps ss st) : Calls Tryz.prog 133 #[.pointer (some p)] w (AnsY w (.int .i64 st)) := by
  obtain ⟨⟨g, k, c, rfl, hg, hgl, hk, hkl, hgk, hfr, c0, c1, hr, hc⟩, hbd, hsm⟩ := h
  clear hr hc
  go_enter Tryz.func133, Tryz.ntmps133
  go_wp2_with fail
  go_ret
  exact ⟨rfl, Below.refl _ _⟩
theorem frozen_new {w : World} {g : Nat} {cs : Array Value} {t : TypeId} (h : w.heap[g]? = some (.cells cs t)) (i : Nat) : w.frozen? ⟨g, i, none⟩ = false := by simp [World.frozen?, h]
theorem page_fresh (w : World) (n : Nat) (hn : n ≤ 65536) (F : Nat → Prop) (hF : ∀ b, w.heap.size ≤ b → F b) :
    Page ((w.alloc (.cells (zC n) 152)).alloc (.cells #[.slice (some ⟨w.heap.size, 0, none⟩) n n, .int .i64 0] 138)) F ⟨w.heap.size + 1, 0, none⟩ (List.replicate n (0, 0)) [] 0 := by
  have hs := World.size_alloc w (.cells (zC n) 152)
  obtain ⟨w1, hw1⟩ : ∃ w1, w.alloc (.cells (zC n) 152) = w1 := ⟨_, rfl⟩
  have hcc := fun i hi x => zC_new w n 0 rfl i hi x
  have hrow := heap_alloc_new w (.cells (zC n) 152)
  rw [hw1] at hs hcc hrow ⊢
  have hb := below_alloc' w1 (.cells #[.slice (some ⟨w.heap.size, 0, none⟩) n n, .int .i64 0] 138)
  have hg := heap_alloc_new w1 (.cells #[.slice (some ⟨w.heap.size, 0, none⟩) n n, .int .i64 0] 138)
  have hs2 := World.size_alloc w1 (.cells #[.slice (some ⟨w.heap.size, 0, none⟩) n n, .int .i64 0] 138)
  rw [hs] at hg
  generalize w1.alloc (.cells #[.slice (some ⟨w.heap.size, 0, none⟩) n n, .int .i64 0] 138) = w2 at *
  have hk := hb.block w.heap.size (by omega)
  refine ⟨⟨w.heap.size + 1, w.heap.size, n, rfl, hF _ (by omega), by omega, hF _ (by omega), by omega, by omega, frozen_new hg, ?_, ?_, ⟨zC n, hk.trans hrow, ?_⟩, fun i hi => ?_⟩, fun i => ?_, ?_⟩
  · rw [cell_of hg, List.length_replicate]; rfl
  · rw [cell_of hg]; rfl
  · rw [zC_size, List.length_replicate]; exact Nat.le_refl _
  · rw [List.length_replicate] at hi
    rw [zero_at]
    exact (hcc i hi _).block hk
  · rw [zero_at]; decide
  · rw [List.length_replicate]; exact hn
theorem p_new (n : Nat) (N : Int) (hN : N = (n : Int)) (hn : n ≤ 65536) (F : Nat → Prop) (hF : ∀ b, w.heap.size ≤ b → F b) :
    Calls Tryz.prog 47 #[.int .i64 N] w fun e w' => ∃ p, e = .returned (.pointer (some p)) ∧ Below w.heap.size w w' ∧ Page w' F p (List.replicate n (0, 0)) [] 0 := by
  have e1 : (if (0 : Int) < N then N else 0) = (n : Int) := by split <;> omega
  have e2 : (if (65536 : Int) < N then 65536 else N) = (n : Int) := by split <;> omega
  subst hN
  have hm := run_make44 w n hn
  have hA := below_alloc' w (.cells (zC n) 152)
  have hpg := Lib.hid (page_fresh w n hn F hF)
  have hA2 := Lib.hid (hA.trans ((below_alloc' (w.alloc (.cells (zC n) 152)) (.cells #[.slice (some ⟨w.heap.size, 0, none⟩) n n, .int .i64 0] 138)).mono hA.size))
  clear hF hA
  go_enter Tryz.func47, Tryz.ntmps47
  go_wp2_with fail
  go_ret
  exact ⟨_, rfl, hA2.out, hpg.out⟩
end
end Go.Proofs.YtjhoecfhmndcgaaGreat
namespace Go.Proofs.YtjhoecfhmndcgaaGreat
open Go.RowKit Go.Gf Go.Fl
set_option linter.unusedVariables false
set_option linter.unusedSimpArgs false
theorem cbeyond_any (x : Nat) (w : World) : Calls Tryz.prog 134 #[.int .u16 (x : Int)] w fun e w' => e = .returned (.bool (decide (1024 ≤ x))) ∧ w = w' := by
  have h : decide ((1024 : Int) ≤ (x : Int)) = decide (1024 ≤ x) := by rw [decide_eq_decide]; omega
  go_enter Tryz.func134, Tryz.ntmps134
  go_wp2_with fail
  go_ret
  exact ⟨rfl, rfl⟩
/-- is there one that is no symbol? -/
def anyC (xs : List Nat) : Bool := xs.any fun x => decide (1024 ≤ x)
theorem anyC_none {xs : List Nat} (h : ∀ k (h : k < xs.length), xs[k] < 1024) : anyC xs = false := by
  rw [Bool.eq_false_iff]
  intro e
  obtain ⟨x, hx, h2⟩ := List.any_eq_true.1 e
  obtain ⟨k, hk, rfl⟩ := List.getElem_of_mem hx
  have := h k hk
  simp at h2; omega
theorem anyC_some {xs : List Nat} {k : Nat} (hk : k < xs.length) (h : 1024 ≤ xs[k]) : anyC xs = true :=
  List.any_eq_true.2 ⟨xs[k], List.getElem_mem hk, by simpa using h⟩
set_option maxHeartbeats 2000000 in
theorem cindex_anyY (A : Option Addr) (c : Nat) (xs : List Nat) (w : World) (h : Sl w w.heap.size A xs) (hl : xs.length ≤ 1000000) (n : Nat) (hn : xs.length = n) :
    Calls Tryz.prog 132 #[.slice A n c, .func (.func 134) #[] #[]] w fun e w' => (∃ k : Int, e = .returned (.int .i64 k) ∧ anyC xs = decide (0 ≤ k)) ∧ w = w' := by
  subst hn
  have H := Lib.hid h
  clear h
  have hno : Hid ((∀ k (h : k < xs.length), xs[k] < 1024) → anyC xs = false) := anyC_none
  have hyes : Hid (∀ {k : Nat} (hk : k < xs.length), 1024 ≤ xs[k] → anyC xs = true) := anyC_some
  generalize anyC xs = T at *
  go_enter Tryz.func132, Tryz.ntmps132
  go_wp2_with fail
  go_loop [8] (fun n => ∃ k : Nat, k ≤ xs.length ∧ Hid (∀ j (h : j < xs.length), j < k → xs[j] < 1024) ∧ n = .int .i64 k) (fun n => xs.length - (intOf n).toNat)
  case atStart => exact ⟨0, Nat.zero_le _, Lib.hid (fun j _ h => absurd h (by omega)), rfl⟩
  case round =>
    obtain ⟨k, hk, HK, rfl⟩ := hrel
    by_cases hlt : k < xs.length
    · obtain ⟨a, rfl, hab, hcell⟩ := H.out.at_ hlt
      have hx := H.out.1 xs[k] (List.getElem_mem hlt)
      have hc := cbeyond_any xs[k] w
      by_cases hb : 1024 ≤ xs[k]
      · obtain rfl := hyes.out hlt hb
        rw [decide_eq_true hb] at hc
        replace hc := Lib.hid hc
        clear hb
        go_wp2_with (go_at_call 134; (with_reducible refine hc.out.mono ?_); rintro e w1 ⟨rfl, rfl⟩)
        go_ret
        exact ⟨⟨_, rfl, by rw [eq_comm, decide_eq_true_eq]; omega⟩, rfl⟩
      · rw [decide_eq_false hb] at hc
        replace hc := Lib.hid hc
        have HK' : Hid (∀ j (h : j < xs.length), j < k + 1 → xs[j] < 1024) := fun j hj hjk => by
          rcases Nat.lt_or_ge j k with h1 | h1
          · exact HK.out j hj h1
          · obtain rfl : j = k := by omega
            omega
        clear hb HK
        go_wp2_with (go_at_call 134; (with_reducible refine hc.out.mono ?_); rintro e w1 ⟨rfl, rfl⟩)
        go_round
        case rel => exact ⟨k + 1, by omega, HK', by go_num⟩
        case measure => simp [intOf]; omega
    · obtain rfl : k = xs.length := by omega
      obtain rfl := hno.out (fun j hj => HK.out j hj hj)
      clear HK
      go_wp2_with fail
      go_ret
      exact ⟨⟨-1, rfl, by decide⟩, rfl⟩
set_option maxHeartbeats 1000000 in
theorem ccontains_anyY (A : Option Addr) (c : Nat) (xs : List Nat) (w : World) (h : Sl w w.heap.size A xs) (hl : xs.length ≤ 1000000) (n : Nat) (hn : xs.length = n) :
    Calls Tryz.prog 108 #[.slice A n c, .func (.func 134) #[] #[]] w fun e w' => e = .returned (.bool (anyC xs)) ∧ w = w' := by
  have hc := Lib.hid (cindex_anyY A c xs w h hl n hn)
  clear h hn
  generalize anyC xs = T at *
  go_enter Tryz.func108, Tryz.ntmps108
  go_wp2_with (go_at_call 132; (with_reducible refine hc.out.mono ?_); rintro e w1 ⟨⟨k, rfl, hk⟩, rfl⟩)
  go_ret
  exact ⟨by rw [hk]; rfl, rfl⟩
theorem behind_any (keep : Int) (n : Nat) (w : World) : Calls Tryz.prog 136 #[.int .i64 keep, .int .i64 (n : Int)] w fun e w' => e = .returned (.int .i64 (progS n keep)) ∧ w = w' := by
  unfold progS
  by_cases h1 : keep ≤ 0
  · rw [if_pos h1]
    go_enter Tryz.func136, Tryz.ntmps136
    go_wp2_with fail
    go_ret
    exact ⟨rfl, rfl⟩
  · rw [if_neg h1]
    by_cases h2 : (n : Int) ≤ keep
    · rw [if_pos h2]
      go_enter Tryz.func136, Tryz.ntmps136
      go_wp2_with fail
      go_ret
      exact ⟨rfl, rfl⟩
    · rw [if_neg h2]
      go_enter Tryz.func136, Tryz.ntmps136
      go_wp2_with fail
      go_ret
      exact ⟨rfl, rfl⟩
end Go.Proofs.YtjhoecfhmndcgaaGreat
namespace Go.Proofs.YtjhoecfhmndcgaaGreat
open Go.RowKit Go.Gf Go.Fl
set_option linter.unusedVariables false
set_option linter.unusedSimpArgs false
attribute [local go_sem ↓] Cl.quiet_since
/-- what block k holds when i cells of it were programmed -/
def Half (w : World) (k n : Nat) (ps : List (Int × Int)) (xs : List Nat) (i : Nat) : Prop :=
  RowCY w k n ∧ ∀ j, j < n → CellC w k j (if j < i then pt (syAt xs j) else ptAt ps j) (if j < i then 1 else 0) (syAt xs j)
theorem Cl.keeps_mono' {F : Nat → Prop} {w w' : World} (h : Cl.Keeps (fun _ => True) w w') : Cl.Keeps F w w' := ⟨h.os, h.tape, h.output, h.size, fun b hb _ => h.block b hb trivial⟩
theorem Cl.keeps_of {F G : Nat → Prop} {w w' : World} (h : Cl.Keeps F w w') (hg : ∀ b, G b → F b) : Cl.Keeps G w w' := ⟨h.os, h.tape, h.output, h.size, fun b hb hk => h.block b hb (hg b hk)⟩
theorem keeps_put {F : Nat → Prop} {g k : Nat} {v : Value} {w wr : World} (h : Cl.Keeps F w wr) (hF : ¬ F g) : Cl.Keeps F w (wr.setCell ⟨g, k, none⟩ v) :=
  ⟨h.os, h.tape, h.output, by simpa [World.setCell] using h.size, fun b hb hk => (Below.heap_setCell _ _ _ b (fun e => hF (by rw [← show b = g from e]; exact hk))).trans (h.block b hb hk)⟩
theorem Cl.all_cell {w w' : World} (h : Cl.Keeps (fun _ => True) w w') {p : Addr} (hp : p.block < w.heap.size) : w'.cell? p = w.cell? p := World.cell?_of_block (h.block _ hp trivial)
theorem RowCY.lt {w : World} {k n : Nat} (h : RowCY w k n) : k < w.heap.size := by
  obtain ⟨cs, h, _⟩ := h
  rcases Nat.lt_or_ge k w.heap.size with hlt | hge
  · exact hlt
  · rw [Array.getElem?_eq_none hge] at h; cases h
theorem RowCY.frozen {w : World} {k n : Nat} (h : RowCY w k n) (i : Nat) : w.frozen? ⟨k, i, none⟩ = false := by
  obtain ⟨cs, h, _⟩ := h
  simp [World.frozen?, h]
theorem RowCY.set_ {w : World} {k n : Nat} (h : RowCY w k n) (j : Nat) (v : Value) : RowCY (w.setCell ⟨k, j, none⟩ v) k n := by
  obtain ⟨cs, h, hn⟩ := h
  refine ⟨cs.setIfInBounds j v, ?_, by simpa using hn⟩
  simp only [World.setCell]
  rw [Array.getElem?_modify, h]
  simp
theorem Half.block {w w' : World} {k n i : Nat} {ps : List (Int × Int)} {xs : List Nat} (h : Half w k n ps xs i) (hk : w'.heap[k]? = w.heap[k]?) : Half w' k n ps xs i := ⟨h.1.block hk, fun j hj => (h.2 j hj).block hk⟩
theorem Half.keep {w w' : World} {k n i : Nat} {ps : List (Int × Int)} {xs : List Nat} (h : Half w k n ps xs i) (hk : Cl.Keeps (fun _ => True) w w') : Half w' k n ps xs i := h.block (hk.block _ h.1.lt trivial)
theorem CellC.other {w : World} {k j i : Nat} {q : Int × Int} {st : Int} {x : Nat} (h : CellC w k j q st x) (hij : j ≠ i) (u v : Value) : CellC ((w.setCell ⟨k, i * 2, none⟩ u).setCell ⟨k, i * 2 + 1, none⟩ v) k j q st x := by
  obtain ⟨⟨x, y, h1, hx, hy⟩, s, h2, h3⟩ := h
  refine ⟨⟨x, y, ?_, hx, hy⟩, s, ?_, h3⟩
  · rw [World.cell?_setCell_other _ _ _ _ (by intro e; injection e; omega), World.cell?_setCell_other _ _ _ _ (by intro e; injection e; omega)]; exact h1
  · rw [World.cell?_setCell_other _ _ _ _ (by intro e; injection e; omega), World.cell?_setCell_other _ _ _ _ (by intro e; injection e; omega)]; exact h2
theorem run_store_cx {P : Program} {w : World} {a : Addr} {m : Mode} (k : FloatKind) (x y : Nat) : (store a (.complex k x y) m).run P w = stored P w a (.complex k x y) m := run_store P w a _ m rfl
/-- one cell more -/
theorem Half.step {w : World} {k n i : Nat} {ps : List (Int × Int)} {xs : List Nat} (h : Half w k n ps xs i) (hi : i < n) : ∃ u v, w.cell? ⟨k, i * 2, none⟩ = some u ∧ w.frozen? ⟨k, i * 2, none⟩ = false ∧ (∀ x, (w.setCell ⟨k, i * 2, none⟩ x).cell? ⟨k, i * 2 + 1, none⟩ = some v) ∧ (∀ x, (w.setCell ⟨k, i * 2, none⟩ x).frozen? ⟨k, i * 2 + 1, none⟩ = false) ∧
    Hid (Half ((w.setCell ⟨k, i * 2, none⟩ (.complex .f64 (L ((syAt xs i : Nat) / 32 : Int)) (L (syAt xs i : Nat)))).setCell ⟨k, i * 2 + 1, none⟩ (.int .u16 (syAt xs i : Nat))) k n ps xs (i + 1)) := by
  obtain ⟨⟨x, y, h1, hx, hy⟩, s, h2, h3⟩ := h.2 i hi
  refine ⟨_, _, h1, h.1.frozen _, fun x => (World.cell?_setCell_other _ _ _ _ (by intro e; injection e; omega)).trans h2, fun x => (h.1.set_ _ _).frozen _, ⟨(h.1.set_ _ _).set_ _ _, fun j hj => ?_⟩⟩
  by_cases e : j = i
  · subst e
    rw [if_pos (by omega), if_pos (by omega)]
    refine ⟨⟨_, _, ?_, is_L1 _, is_L2 _⟩, _, ?_, fun _ => rfl⟩
    · rw [World.cell?_setCell_other _ _ _ _ (by intro e; injection e; omega)]
      exact World.cell?_setCell_same _ _ _ h1
    · refine World.cell?_setCell_same _ _ _ ((World.cell?_setCell_other _ _ _ _ (by intro e; injection e; omega)).trans h2)
  · have := (h.2 j hj).other e (.complex .f64 (L ((syAt xs i : Nat) / 32 : Int)) (L (syAt xs i : Nat))) (.int .u16 (syAt xs i : Nat))
    by_cases e2 : j < i
    · rw [if_pos e2, if_pos e2] at this
      rw [if_pos (by omega), if_pos (by omega)]; exact this
    · rw [if_neg e2, if_neg e2] at this
      rw [if_neg (by omega), if_neg (by omega)]; exact this
attribute [local go_sem] run_store_cx
set_option maxRecDepth 20000 in
set_option maxHeartbeats 4000000 in
theorem p_prog {w : World} {F : Nat → Prop} {p : Addr} {ps : List (Int × Int)} {ss : List Nat} (h : Page w F p ps ss 0) {A : Option Addr} {xs : List Nat} {c n : Nat} (hn' : xs.length = n) (hnc : n ≤ c) (hs : Sl w w.heap.size A xs) (hA : ∀ a, A = some a → ¬ F a.block) (hl : xs.length = ps.length) (hn : xs.length ≤ 65536) (hx : ∀ x ∈ xs, x < 1024) (keep : Int) (hk : -9223372036854775808 ≤ keep ∧ keep ≤ 9223372036854775807) :
    Calls Tryz.prog 111 #[.pointer (some p), .slice A n c, .int .i64 keep] w fun e w' => e = .returned (.int .i64 0) ∧ Cl.Keeps (fun b => ¬ F b) w w' ∧ ∃ ss', Page w' F p (progP ps xs keep) ss' (progS xs.length keep) ∧ (0 < keep → ss' = xs) := by
  obtain ⟨⟨g, k, d, rfl, hg, hgl, hk', hkl, hgk, hfr, c0, c1, hr, hc⟩, hbd, hsm⟩ := h
  have hany : anyC xs = false := anyC_none fun i hi => hx _ (List.getElem_mem hi)
  have hcc := Lib.hid (ccontains_anyY A c xs w hs (by omega) n hn')
  rw [hany] at hcc
  rw [← hl, hn'] at c0 hr hc
  have hH0 : Hid (Half w k n ps xs 0) := ⟨hr, fun j hj => by
    obtain ⟨h1, s, h2, h3⟩ := hc j hj
    rw [if_neg (by omega), if_neg (by omega)]
    exact ⟨h1, s, h2, fun e => by cases e⟩⟩
  obtain ⟨m, hm⟩ : ∃ m : Nat, m = (min (max keep 0) (n : Int)).toNat := ⟨_, rfl⟩
  have hmn : m ≤ n := by omega
  have hmc : m ≤ c := by omega
  have e1 : (if keep < 0 then 0 else keep) = max keep 0 := by split <;> omega
  have e2 : (if 0 ≤ keep then keep else 0) = max keep 0 := by split <;> omega
  have e3 : (if (n : Int) < max keep 0 then (n : Int) else max keep 0) = (m : Int) := by split <;> omega
  obtain ⟨K, hK⟩ : ∃ K : Int, max keep 0 = K := ⟨_, rfl⟩
  rw [hK] at e1 e2 e3
  have hmm := Lib.hid (show (m : Int) = min (max keep 0) n by omega)
  clear hm hK hany hr hc hk
  replace hs := Lib.hid hs
  replace hn' := Lib.hid hn'
  replace hx := Lib.hid hx
  replace hbd := Lib.hid hbd
  replace hl := Lib.hid hl
  replace hn := Lib.hid hn
  go_enter Tryz.func111, Tryz.ntmps111
  go_wp2_with (go_at_call 108; (with_reducible refine hcc.out.mono ?_); rintro e w1 ⟨rfl, rfl⟩)
  go_loopw [38] (fun q wr => ∃ i : Nat, i ≤ m ∧ q = .int .i64 i ∧ Half wr k n ps xs i ∧ Cl.Keeps (fun b => b ≠ k) w wr) (fun q _ => m - (intOf q).toNat)
  case atStart => exact ⟨0, Nat.zero_le _, rfl, hH0.out, Cl.Keeps.refl _ _⟩
  case round =>
    obtain ⟨i, hi, rfl, hH, hK⟩ := hrel
    by_cases hin : i < m
    · have hiI : (i : Int) < (m : Int) := by omega
      have hdi : decide (i < m) = true := decide_eq_true hin
      obtain ⟨s, rfl, hsb, hsc⟩ := (hs.out).at_ (i := i) (by rw [hn'.out]; omega)
      rw [← syAt_get (by rw [hn'.out]; omega)] at hsc
      have hX := syAt_lt hx.out i
      have hsk : s.block ≠ k := fun e => hA s rfl (by rw [e]; exact hk')
      have hscr : wr.cell? (s.add i) = some (.int .u16 (syAt xs i : Int)) := (World.cell?_of_block (hK.block _ (by rw [add_block]; exact hsb) (by rw [add_block]; exact hsk))).trans hsc
      have hc0r : wr.cell? ⟨g, 0, none⟩ = some (.slice (some ⟨k, 0, none⟩) n d) := (World.cell?_of_block (hK.block g hgl hgk)).trans c0
      obtain ⟨X, hXe⟩ : ∃ X, Hid (syAt xs i = X) := ⟨_, Lib.hid rfl⟩
      rw [hXe.out] at hscr hX
      have hof := Lib.hid (fun w => of_any (X : Int) w (by omega) (by omega))
      replace hH := Lib.hid hH
      replace hK := Lib.hid hK
      have hinn : i < n := by omega
      have hi6 : i < 65536 := by have := hn.out; rw [hn'.out] at this; omega
      have hinI : (i : Int) < (n : Int) := by omega
      clear hsc hX
      go_wp2_with fail
      refine Cl.region_way (fun _ => True) 10 [(0, .r), (1, .r), (2, .r), (3, .r), (4, .r), (5, .r), (7, .r), (6, .c), (8, .r), (9, .r), (10, .z)] (by kernel_rfl) (by kernel_rfl) ?_
      intro w2 hk1
      have hK2 := Lib.hid (hK.out.trans (Cl.keeps_mono' hk1))
      have hH2 := Lib.hid (hH.out.keep hk1)
      have hcg : ∀ y : Cl.Since (fun _ => True) w2, y.w.cell? ⟨g, 0, none⟩ = some (.slice (some ⟨k, 0, none⟩) n d) := fun y => (Cl.all_cell y.keeps (p := ⟨g, 0, none⟩) (Nat.lt_of_lt_of_le hgl (Nat.le_trans hK.out.size hk1.size))).trans ((Cl.all_cell hk1 (p := ⟨g, 0, none⟩) (Nat.lt_of_lt_of_le hgl hK.out.size)).trans hc0r)
      iterate 7 (refine Cl.way_r rfl ?_; go_big_quiet_step (fail); refine wpQuiet_nil ?_)
      clear hcg hk1 hK hH
      refine Cl.way_c rfl ?_
      go_wp2_with (go_at_call 135; (with_reducible refine (hof.out _).mono ?_); rintro e w3 ⟨rfl, rfl⟩)
      refine Cl.way_on (Cl.Keeps.refl _ _) ?_
      iterate 2 (refine Cl.way_r rfl ?_; go_big_quiet_step (fail); refine wpQuiet_nil ?_)
      refine Cl.way_z rfl ?_
      obtain ⟨u0, v0, h00, hf0, h10, hf1, hnx⟩ := hH2.out.step hinn
      rw [hXe.out] at hnx
      go_wp2_with fail
      refine Cl.Calm.normal ?_
      have hK3 := Lib.hid (keeps_put (keeps_put hK2.out (g := k) (k := i * 2) (v := .complex .f64 (L ((X : Int) / 32)) (L (X : Int))) (by simp)) (g := k) (k := i * 2 + 1) (v := .int .u16 (X : Int)) (by simp))
      clear h00 hf0 h10 hf1 hH2 hK2
      generalize (w2.setCell ⟨k, i * 2, none⟩ (.complex .f64 (L ((X : Int) / 32)) (L (X : Int)))).setCell ⟨k, i * 2 + 1, none⟩ (.int .u16 (X : Int)) = w5 at hK3 hnx ⊢
      go_wp2_with fail
      go_roundw
      case rel => exact ⟨i + 1, by omega, by go_num, hnx.out, hK3.out⟩
      case measure => simp [intOf]; omega
    · obtain rfl : i = m := by omega
      have hdi : decide (i < i) = false := decide_eq_false (Nat.lt_irrefl _)
      have hb := Lib.hid (behind_any keep n)
      have hgr := hK.block g hgl hgk
      have c1r : wr.cell? ⟨g, 1, none⟩ = some (.int .i64 0) := (World.cell?_of_block hgr).trans c1
      have hfr1 : wr.frozen? ⟨g, 1, none⟩ = false := (frozen_block hgr 1).trans (hfr 1)
      replace hH := Lib.hid hH
      replace hK := Lib.hid hK
      replace hgr := Lib.hid hgr
      obtain ⟨S, hS⟩ : ∃ S, Hid (progS n keep = S) := ⟨_, Lib.hid rfl⟩
      rw [hS.out] at hb
      go_wp2_with (go_at_call 136; (with_reducible refine (hb.out _).mono ?_); rintro e w3 ⟨rfl, rfl⟩)
      go_ret
      have hK2 : Cl.Keeps (fun b => ¬ F b) w (wr.setCell ⟨g, 1, none⟩ (.int .i64 S)) := keeps_put (Cl.keeps_of (G := fun b => ¬ F b) hK.out (fun b hb e => hb (by rw [e]; exact hk'))) (fun h => h hg)
      have hkr : (wr.setCell ⟨g, 1, none⟩ (.int .i64 S)).heap[k]? = wr.heap[k]? := Below.heap_setCell _ _ _ _ (by show k ≠ g; omega)
      have hsz := hK2.size
      refine ⟨rfl, hK2, xs, ⟨⟨g, k, d, rfl, hg, by omega, hk', by omega, hgk, fun j => ?_, ?_, ?_, ?_, fun j hj => ?_⟩, fun j => ?_, ?_⟩, fun _ => rfl⟩
      · rw [World.frozen?_setCell]
        exact (frozen_block hgr.out j).trans (hfr j)
      · rw [prog_len, ← hl.out, hn'.out, World.cell?_setCell_other _ _ _ _ (by intro e; injection e; omega)]
        exact (World.cell?_of_block hgr.out).trans c0
      · rw [hn'.out, hS.out]
        exact World.cell?_setCell_same _ _ _ c1r
      · rw [prog_len, ← hl.out, hn'.out]
        exact hH.out.1.block hkr
      · rw [prog_len, ← hl.out, hn'.out] at hj
        obtain ⟨q1, s, q2, q3⟩ := (hH.out.2 j hj).block hkr
        have hmi := hmm.out
        rw [prog_at (by rw [← hl.out, hn'.out]; exact hj)]
        refine ⟨?_, s, q2, fun e => q3 ?_⟩
        · by_cases hji : j < i
          · rw [if_pos hji] at q1
            rw [if_pos (by omega)]; exact q1
          · rw [if_neg hji] at q1
            rw [if_neg (by omega)]; exact q1
        · rw [hn'.out] at e
          unfold progS at e
          by_cases k0 : keep ≤ 0
          · rw [if_pos k0] at e; cases e
          · by_cases k1 : (n : Int) ≤ keep
            · rw [if_pos (by omega)]
            · rw [if_neg k0, if_neg k1] at e; cases e
      · rcases Nat.lt_or_ge j ps.length with hj | hj
        · rw [prog_at hj]
          split
          · have := pt_range (syAt xs j)
            omega
          · exact hbd.out j
        · have e : ptAt (progP ps xs keep) j = (0, 0) := by
            unfold ptAt
            rw [List.getD_eq_getElem?_getD, List.getElem?_eq_none (by rw [prog_len]; exact hj)]; rfl
          rw [e]; decide
      · rw [prog_len]; exact hsm
end Go.Proofs.YtjhoecfhmndcgaaGreat
namespace Go.Proofs.YtjhoecfhmndcgaaGreat
open Go.RowKit Go.Gf Go.Fl
set_option linter.unusedVariables false
set_option linter.unusedSimpArgs false
theorem RowCY.cells {k n : Nat} : ∀ (vs : List Value) (o : Nat) (w : World), RowCY w k n → RowCY (w.setCells k o vs) k n
  | [], _, _, h => h
  | v :: r, o, w, h => RowCY.cells r (o + 1) _ (h.set_ o v)
theorem keeps_cells {F : Nat → Prop} {k : Nat} {w0 : World} (hF : ¬ F k) : ∀ (vs : List Value) (o : Nat) (w : World), Cl.Keeps F w0 w → Cl.Keeps F w0 (w.setCells k o vs)
  | [], _, _, h => h
  | v :: r, o, w, h => keeps_cells hF r (o + 1) _ (keeps_put h hF)
theorem heap_cells {k b : Nat} (hb : b ≠ k) : ∀ (vs : List Value) (o : Nat) (w : World), (w.setCells k o vs).heap[b]? = w.heap[b]?
  | [], _, _ => rfl
  | v :: r, o, w => (heap_cells hb r (o + 1) _).trans (Below.heap_setCell _ _ _ _ hb)
theorem zC_list (n : Nat) : (Builtin.zeroCells #[.complex .f64 0 0, .int .u16 0] n).toList = (zC n).toList := rfl
theorem zC_len (n : Nat) : (zC n).toList.length = n * 2 := by rw [Array.length_toList, zC_size]
theorem zC_one (n : Nat) : ∀ v ∈ (zC n).toList, v.oneCell' = true := by
  intro v hv
  obtain ⟨j, hj, rfl⟩ := List.getElem_of_mem hv
  rw [zC_len] at hj
  have : (zC n).toList[j]? = (zC n)[j]? := Array.getElem?_toList
  rcases Nat.mod_two_eq_zero_or_one j with e | e
  · have h0 := zC_0 (n := n) (i := j / 2) (by omega)
    rw [show j / 2 * 2 = j by omega, ← this, List.getElem?_eq_getElem (by rw [zC_len]; exact hj)] at h0
    injection h0 with h0
    rw [h0]; rfl
  · have h0 := zC_1 (n := n) (i := j / 2) (by omega)
    rw [show j / 2 * 2 + 1 = j by omega, ← this, List.getElem?_eq_getElem (by rw [zC_len]; exact hj)] at h0
    injection h0 with h0
    rw [h0]; rfl
theorem run_clear44 (w : World) (ty : TypeId) (k n d : Nat) (hn : 0 < n) (hr : RowCY w k n) :
    (Builtin.clear_ #[136] ty #[.slice (some ⟨k, 0, none⟩) n d]).run Tryz.prog w = .ok (.tuple #[]) (w.setCells k 0 (zC n).toList) := by
  have hi0 := info50
  obtain ⟨i, hi, hrest⟩ := Option.map_eq_some_iff.1 hi0
  simp only [Prod.mk.injEq] at hrest
  obtain ⟨i1, i2, i3⟩ := hrest
  have hv : ∀ w, (zeroValue 152).run Tryz.prog w = .ok (.agg #[.complex .f64 0 0, .int .u16 0]) w := fun w => by
    simp [zeroValue, typeInfo, hi, i1]
  have hst := run_storeCells_cells (P := Tryz.prog) k 0 (zC n).toList 0 w (fun j hj => by
    obtain ⟨cs, h1, h2⟩ := hr
    rw [zC_len] at hj
    rw [cell_of h1, Array.getElem?_eq_getElem (by omega)]; rfl) (fun j hj => hr.frozen _) (zC_one n)
  simp only [Nat.add_zero] at hst
  obtain ⟨m, rfl⟩ : ∃ m, n = m + 1 := ⟨n - 1, by omega⟩
  simp [Builtin.clear_, run_underlying Tryz.underlying136, hv, zC_list, hst, Value.cells]
theorem run_clear44_0 (w : World) (ty : TypeId) (k d : Nat) : (Builtin.clear_ #[136] ty #[.slice (some ⟨k, 0, none⟩) 0 d]).run Tryz.prog w = .ok (.tuple #[]) w := by
  simp [Builtin.clear_, run_underlying Tryz.underlying136]
/-- n cells without charge -/
theorem cleared (w : World) {k n : Nat} (hr : RowCY w k n) {i : Nat} (hi : i < n) (st : Int) (hst : st = 0) (x : Nat) : CellC (w.setCells k 0 (zC n).toList) k i (0, 0) st x := by
  have key : ∀ j, j < n * 2 → (w.setCells k 0 (zC n).toList).cell? ⟨k, j, none⟩ = (zC n)[j]? := fun j hj => by
    have h := World.cell?_setCells_in k (zC n).toList 0 w (fun j hj => by
      obtain ⟨cs, h1, h2⟩ := hr
      rw [zC_len] at hj
      rw [Nat.zero_add, cell_of h1, Array.getElem?_eq_getElem (by omega)]; rfl) j (by rw [zC_len]; exact hj)
    rw [Nat.zero_add] at h
    rw [h, ← Array.getElem?_toList, List.getElem?_eq_getElem (by rw [zC_len]; exact hj)]
  exact ⟨⟨0, 0, (key _ (by omega)).trans (zC_0 hi), is_zeroY', is_zeroY'⟩, 0, (key _ (by omega)).trans (zC_1 hi), fun e => by rw [hst] at e; cases e⟩
set_option maxHeartbeats 1000000 in
theorem p_erase {w : World} {F : Nat → Prop} {p : Addr} {ps : List (Int × Int)} {ss : List Nat} {st : Int} (h : Page w F p ps ss st) (hF : ∀ b, w.heap.size ≤ b → F b) :
    Calls Tryz.prog 137 #[.pointer (some p)] w fun e w' => e = .returned (.tuple #[]) ∧ Cl.Keeps (fun b => ¬ F b) w w' ∧ ∃ ss', Page w' F p (List.replicate ps.length (0, 0)) ss' 0 := by
  obtain ⟨⟨g, k, d, rfl, hg, hgl, hk', hkl, hgk, hfr, c0, c1, hr, hc⟩, hbd, hsm⟩ := h
  clear hc hbd hF
  generalize ps.length = n at *
  obtain ⟨w1, hcl, hr1, hK1, hg1, hc1⟩ : ∃ w1, (∀ ty, (Builtin.clear_ #[136] ty #[.slice (some ⟨k, 0, none⟩) n d]).run Tryz.prog w = .ok (.tuple #[]) w1) ∧ RowCY w1 k n ∧ Cl.Keeps (fun b => ¬ F b) w w1 ∧ w1.heap[g]? = w.heap[g]? ∧ ∀ i, i < n → CellC w1 k i (0, 0) 0 (syAt ss i) := by
    by_cases hz : n = 0
    · subst hz
      exact ⟨w, fun ty => run_clear44_0 w ty k d, hr, Cl.Keeps.refl _ _, rfl, fun i hi => absurd hi (by omega)⟩
    · exact ⟨_, fun ty => run_clear44 w ty k n d (by omega) hr, hr.cells _ _ _, keeps_cells (fun h => h hk') _ _ _ (Cl.Keeps.refl _ _), heap_cells hgk _ _ _, fun i hi => cleared w hr hi 0 rfl _⟩
  have d0 := (World.cell?_of_block (a := ⟨g, 0, none⟩) hg1).trans c0
  have d1 := (World.cell?_of_block (a := ⟨g, 1, none⟩) hg1).trans c1
  have f1 := (frozen_block hg1 1).trans (hfr 1)
  replace hr1 := Lib.hid hr1
  replace hK1 := Lib.hid hK1
  replace hg1 := Lib.hid hg1
  replace hc1 := Lib.hid hc1
  clear hr
  go_enter Tryz.func137, Tryz.ntmps137
  go_wp2_with fail
  go_end0
  have hK2 : Cl.Keeps (fun b => ¬ F b) w (w1.setCell ⟨g, 1, none⟩ (.int .i64 0)) := keeps_put hK1.out (fun h => h hg)
  have hkr : (w1.setCell ⟨g, 1, none⟩ (.int .i64 0)).heap[k]? = w1.heap[k]? := Below.heap_setCell _ _ _ _ (by show k ≠ g; omega)
  have hsz := hK2.size
  refine ⟨rfl, hK2, ss, ⟨⟨g, k, d, rfl, hg, by omega, hk', by omega, hgk, fun j => ?_, ?_, ?_, ?_, fun j hj => ?_⟩, fun j => ?_, ?_⟩⟩
  · rw [World.frozen?_setCell]
    exact (frozen_block hg1.out j).trans (hfr j)
  · rw [List.length_replicate, World.cell?_setCell_other _ _ _ _ (by intro e; injection e; omega)]
    exact d0
  · exact World.cell?_setCell_same _ _ _ d1
  · rw [List.length_replicate]
    exact hr1.out.block hkr
  · rw [List.length_replicate] at hj
    rw [zero_at]
    exact (hc1.out j hj).block hkr
  · rw [zero_at]; decide
  · rw [List.length_replicate]; exact hsm
end Go.Proofs.YtjhoecfhmndcgaaGreat
namespace Go.Proofs.YtjhoecfhmndcgaaGreat
open Go.RowKit Go.Gf Go.Fl
set_option linter.unusedVariables false
set_option linter.unusedSimpArgs false
end Go.Proofs.YtjhoecfhmndcgaaGreat
namespace Go.Proofs.YtjhoecfhmndcgaaGreat
open Go.RowKit Go.Gf Go.Fl
set_option linter.unusedVariables false
set_option linter.unusedSimpArgs false
section
variable {w w' : World} {F F' : Nat → Prop} {p : Addr} {ps : List (Int × Int)} {ss : List Nat} {st : Int}
attribute [local go_sem] run_store_cx
end
end Go.Proofs.YtjhoecfhmndcgaaGreat
namespace Go.Proofs.YtjhoecfhmndcgaaGreat
open Go.RowKit Go.Gf Go.Fl
set_option linter.unusedVariables false
set_option linter.unusedSimpArgs false
theorem info31 : (Tryz.prog.info? 150).map (fun i => (i.zero, i.size, i.bytes)) = some (some (.complex .f64 0 0), 1, 16) := by kernel_rfl
/-- n points at nought -/
def zXY (n : Nat) : Array Value := madeCells #[.complex .f64 0 0] n
theorem zX_size (n : Nat) : (zXY n).size = n := size_madeCells _ _
theorem run_make32 (w : World) (n : Nat) (hn : n ≤ 65536) : (Instr.makeSlice 97 (.int .i64 (n : Int)) (.int .i64 (n : Int))).run Tryz.prog w = .ok (.slice (some ⟨w.heap.size, 0, none⟩) n n) (w.alloc (.cells (zXY n) 150)) := by
  have hi0 := info31
  obtain ⟨i, hi, hrest⟩ := Option.map_eq_some_iff.1 hi0
  simp only [Prod.mk.injEq] at hrest
  obtain ⟨i1, i2, i3⟩ := hrest
  have h := run_make (P := Tryz.prog) w 97 150 i _ Tryz.underlying97 hi i1 .i64 .i64 (n : Int) (n : Int) (by omega) (Int.le_refl _) (by rw [i3]; omega) (by omega)
  rw [i2, Int.toNat_natCast, Nat.mul_one] at h
  exact h
/-- the first i points lie in block m -/
def Told (w0 wr : World) (m n : Nat) (ps : List (Int × Int)) (i : Nat) : Prop := Below w0.heap.size w0 wr ∧ w0.heap.size ≤ m ∧ RowX wr m n ∧ ∀ j, j < i → IsP wr ⟨m, j, none⟩ (ptAt ps j)
theorem Told.step {w0 wr : World} {m n i : Nat} {ps : List (Int × Int)} (h : Told w0 wr m n ps i) (hi : i < n) {x y s : Nat} (hx : Is x ((ptAt ps i).1 : Rat)) (hy : Is y ((ptAt ps i).2 : Rat)) :
    ∃ u, (wr.alloc (.cells #[.complex .f64 x y, .int .u16 (s : Int)] 152)).cell? ⟨m, i, none⟩ = some u ∧ (wr.alloc (.cells #[.complex .f64 x y, .int .u16 (s : Int)] 152)).frozen? ⟨m, i, none⟩ = false ∧
      Hid (Told w0 ((wr.alloc (.cells #[.complex .f64 x y, .int .u16 (s : Int)] 152)).setCell ⟨m, i, none⟩ (.complex .f64 x y)) m n ps (i + 1)) := by
  obtain ⟨h1, h2, h3, h4⟩ := h
  have hb := below_alloc' wr (.cells #[.complex .f64 x y, .int .u16 (s : Int)] 152)
  generalize wr.alloc (.cells #[.complex .f64 x y, .int .u16 (s : Int)] 152) = w2 at *
  have hm := h3.lt
  have e := hb.block m hm
  have r2 := h3.keep e
  obtain ⟨u, hu⟩ := r2.cell hi
  refine ⟨u, hu, r2.frozen i, (h1.trans (hb.mono h1.size)).setCell (p := ⟨m, i, none⟩) h2 _, h2, r2.set_ _ _, fun j hj => ?_⟩
  by_cases ej : j = i
  · subst ej
    exact ⟨x, y, World.cell?_setCell_same _ _ _ hu, hx, hy⟩
  · obtain ⟨x1, y1, q1, q2, q3⟩ := (h4 j (by omega)).block (w' := w2) e
    exact ⟨x1, y1, (World.cell?_setCell_other _ _ _ _ (by intro e; injection e; omega)).trans q1, q2, q3⟩
attribute [local go_sem] run_store_cx
set_option maxHeartbeats 2000000 in
theorem p_sense {w : World} {F : Nat → Prop} {p : Addr} {ps : List (Int × Int)} {ss : List Nat} {st : Int} (h : Page w F p ps ss st) {n : Nat} (hn : ps.length = n) :
    Calls Tryz.prog 62 #[.pointer (some p)] w fun e w' => ∃ A c, e = .returned (.slice A n c) ∧ n ≤ c ∧ Below w.heap.size w w' ∧ Pts w' w.heap.size A ps := by
  obtain ⟨⟨g, k, d, rfl, hg, hgl, hk', hkl, hgk, hfr, c0, c1, hr, hc⟩, hbd, hsm⟩ := h
  rw [hn] at c0 hr hc hsm
  have hm := run_make32 w n hsm
  have hA := below_alloc' w (.cells (zXY n) 150)
  have hsz := World.size_alloc w (.cells (zXY n) 150)
  have hrow : RowX (w.alloc (.cells (zXY n) 150)) w.heap.size n := ⟨zXY n, heap_alloc_new w _, by rw [zX_size]; exact Nat.le_refl _⟩
  have hT0 : Hid (Told w (w.alloc (.cells (zXY n) 150)) w.heap.size n ps 0) := ⟨hA, Nat.le_refl _, hrow, fun j hj => absurd hj (by omega)⟩
  have c0' : (w.alloc (.cells (zXY n) 150)).cell? ⟨g, 0, none⟩ = some (.slice (some ⟨k, 0, none⟩) n d) := (hA.cell (p := ⟨g, 0, none⟩) hgl).trans c0
  replace hc := Lib.hid hc
  replace hn := Lib.hid hn
  clear hbd hrow hr hA hsz
  generalize hw1 : w.alloc (.cells (zXY n) 150) = w1 at *
  generalize hmm : w.heap.size = m at *
  clear hw1
  replace hmm := Lib.hid hmm
  go_enter Tryz.func62, Tryz.ntmps62
  go_wp2_with fail
  go_loopw [19] (fun q wr => ∃ i : Nat, i ≤ n ∧ q = .int .i64 i ∧ Told w wr m n ps i) (fun q _ => n - (intOf q).toNat)
  case atStart => exact ⟨0, Nat.zero_le _, rfl, hT0.out⟩
  case round =>
    obtain ⟨i, hi, rfl, hT⟩ := hrel
    by_cases hin : i < n
    · have hiI : (i : Int) < (n : Int) := by omega
      have hdi : decide (i < n) = true := decide_eq_true hin
      obtain ⟨⟨x, y, hxy, hx, hy⟩, s, hs, _⟩ := hc.out i hin
      have hxr : wr.cell? ⟨k, i * 2, none⟩ = some (.complex .f64 x y) := (hT.1.cell (p := ⟨k, i * 2, none⟩) (by rw [hmm.out]; exact hkl)).trans hxy
      have hsr : wr.cell? ⟨k, i * 2 + 1, none⟩ = some (.int .u16 (s : Int)) := (hT.1.cell (p := ⟨k, i * 2 + 1, none⟩) (by rw [hmm.out]; exact hkl)).trans hs
      have h6 : i < 65536 := by omega
      replace hT := Lib.hid hT
      clear hxy hs
      obtain ⟨u, hu, hf, hT1⟩ := hT.out.step hin (s := s) hx hy
      clear hx hy
      go_wp2_with fail
      go_roundw
      case rel => exact ⟨i + 1, by omega, by go_num, hT1.out⟩
      case measure => simp [intOf]; omega
    · obtain rfl : i = n := by omega
      have hdi : decide (i < i) = false := decide_eq_false (Nat.lt_irrefl _)
      obtain ⟨t1, t2, t3, t4⟩ := hT
      replace t1 := Lib.hid t1
      replace t2 := Lib.hid t2
      replace t3 := Lib.hid t3
      replace t4 := Lib.hid t4
      go_wp2_with fail
      go_ret
      refine ⟨some ⟨m, 0, none⟩, i, rfl, Nat.le_refl _, by rw [← hmm.out]; exact t1.out, Or.inr ⟨m, rfl, Nat.le_refl _, by rw [hn.out]; exact t3.out, fun j hj => t4.out j (by rw [← hn.out]; exact hj)⟩⟩
end Go.Proofs.YtjhoecfhmndcgaaGreat
namespace Go.Proofs.YtjhoecfhmndcgaaGreat
open Go.RowKit Go.Gf Go.Fl
set_option linter.unusedVariables false
set_option linter.unusedSimpArgs false
attribute [local go_sem ↓] Cl.quiet_after

attribute [local go_sem] run_store_cx
end Go.Proofs.YtjhoecfhmndcgaaGreat
namespace Go.Proofs.YtjhoecfhmndcgaaGreat
open Go.RowKit Go.Gf Go.Fl
set_option linter.unusedVariables false
set_option linter.unusedSimpArgs false
section
variable {w w' : World} {F F' : Nat → Prop} {p : Addr} {ps : List (Int × Int)} {ss : List Nat} {st : Int}
theorem c_new (n : Nat) (N : Int) (hN : N = (n : Int)) (hn : n ≤ 65536) (F : Nat → Prop) (hF : ∀ b, w.heap.size ≤ b → F b) :
    Calls Tryz.prog 47 #[.int .i64 N] w fun e w' => ∃ p, e = .returned (.pointer (some p)) ∧ Below w.heap.size w w' ∧ Page w' F p (List.replicate n (0, 0)) [] 0 := p_new n N hN hn F hF
theorem c_state (h : Page w F p ps ss st) : Calls Tryz.prog 133 #[.pointer (some p)] w (AnsY w (.int .i64 st)) := p_state h
theorem c_prog (h : Page w F p ps ss 0) (hF : ∀ b, w.heap.size ≤ b → F b) {A : Option Addr} {xs : List Nat} {c n : Nat} (hn' : xs.length = n) (hnc : n ≤ c) (hs : Sl w w.heap.size A xs) (hA : ∀ a, A = some a → ¬ F a.block) (hl : xs.length = ps.length) (hn : xs.length ≤ 65536) (hx : ∀ x ∈ xs, x < 1024) (keep : Int) (hk : -9223372036854775808 ≤ keep ∧ keep ≤ 9223372036854775807) :
    Calls Tryz.prog 111 #[.pointer (some p), .slice A n c, .int .i64 keep] w fun e w' => e = .returned (.int .i64 0) ∧ Cl.Keeps (fun b => ¬ F b) w w' ∧ ∃ ss', Page w' F p (progP ps xs keep) ss' (progS xs.length keep) ∧ (0 < keep → ss' = xs) := p_prog h hn' hnc hs hA hl hn hx keep hk
theorem c_erase (h : Page w F p ps ss st) (hF : ∀ b, w.heap.size ≤ b → F b) : Calls Tryz.prog 137 #[.pointer (some p)] w fun e w' => e = .returned (.tuple #[]) ∧ Cl.Keeps (fun b => ¬ F b) w w' ∧ ∃ ss', Page w' F p (List.replicate ps.length (0, 0)) ss' 0 := p_erase h hF
theorem c_sense (h : Page w F p ps ss st) {n : Nat} (hn : ps.length = n) : Calls Tryz.prog 62 #[.pointer (some p)] w fun e w' => ∃ A c, e = .returned (.slice A n c) ∧ n ≤ c ∧ Below w.heap.size w w' ∧ Pts w' w.heap.size A ps := p_sense h hn
end
end Go.Proofs.YtjhoecfhmndcgaaGreat
