/- Rows of one's own that grow; PatrolDue walked, for whatever is a patrol. -/
import Derived.Test.YtmmpcgmhcaianaaPtb
import Derived.Laws.Rows
namespace Go.Proofs.Ytmmpcgmhcaianaa.Pt
open Go.RowKit Go.Proofs.Ytmmpcgmhcaianaa.Ge
set_option linter.unusedVariables false
set_option linter.unusedSimpArgs false
attribute [local go_sem ↓] Cl.quiet_since
/-- the first n rows -/
def rowsL (f : Nat → Int × Bool) (n : Nat) : List (Int × Bool) := (List.range n).map f
theorem rowsL_len (f : Nat → Int × Bool) (n : Nat) : (rowsL f n).length = n := by unfold rowsL; simp
theorem rowsL_succ (f : Nat → Int × Bool) (n : Nat) : rowsL f n ++ [f n] = rowsL f (n + 1) := by unfold rowsL; rw [List.range_succ, List.map_append]; rfl
theorem rowsL_at (f : Nat → Int × Bool) {n i : Nat} (h : i < n) : (rowsL f n)[i]? = some (f i) := by unfold rowsL; simp [h]
/-- all cells of the rows, one behind another -/
def flatD : List (Int × Bool) → List Value
  | [] => []
  | x :: xs => .int .i64 x.1 :: .bool x.2 :: flatD xs
theorem flatD_len (l : List (Int × Bool)) : (flatD l).length = l.length * 2 := by
  induction l with
  | nil => rfl
  | cons x xs ih => simp [flatD, ih]; omega
theorem flatD_app (a b : List (Int × Bool)) : flatD (a ++ b) = flatD a ++ flatD b := by
  induction a with
  | nil => rfl
  | cons x xs ih => simp [flatD, ih]
theorem flatD_at (l : List (Int × Bool)) : ∀ i y, l[i]? = some y → (flatD l)[i * 2]? = some (.int .i64 y.1) ∧ (flatD l)[i * 2 + 1]? = some (.bool y.2) := by
  induction l with
  | nil => intro i y h; simp at h
  | cons x xs ih =>
    intro i y h
    cases i with
    | zero =>
      simp at h
      subst h
      exact ⟨rfl, rfl⟩
    | succ i =>
      have := ih i y (by simpa using h)
      rw [show (i + 1) * 2 = i * 2 + 2 by omega, show i * 2 + 2 + 1 = i * 2 + 1 + 2 by omega]
      exact this
theorem flatD_one (l : List (Int × Bool)) : ∀ u ∈ flatD l, u.oneCell' = true := by
  induction l with
  | nil => intro u h; cases h
  | cons x xs ih =>
    intro u h
    simp only [flatD, List.mem_cons] at h
    rcases h with rfl | rfl | h
    · rfl
    · rfl
    · exact ih u h
/-- a slice of one's own of rows (or nil), made since w0 -/
def OwnD (w0 w : World) (A : Option Addr) (n c : Nat) (l : List (Int × Bool)) : Prop := w.ownsRow w0.heap.size 36 2 (.slice A n c) n (flatD l)
section
variable {w0 w w' : World} {A : Option Addr} {n c : Nat} {l : List (Int × Bool)} {f : Nat → Int × Bool}
theorem OwnD.nil (w0 w : World) (f : Nat → Int × Bool) : OwnD w0 w none 0 0 (rowsL f 0) := ⟨rfl, Or.inl ⟨rfl, rfl⟩⟩
theorem OwnD.grow (h : OwnD w0 w A n c l) (o : Obj) : OwnD w0 (w.alloc o) A n c l := World.ownsRow.alloc h o
theorem OwnD.keep (h : OwnD w0 w A n c l) (hb : ∀ g, w0.heap.size ≤ g → g < w.heap.size → w'.heap[g]? = w.heap[g]?) : OwnD w0 w' A n c l := by
  obtain ⟨hl, h⟩ := h
  refine ⟨hl, ?_⟩
  rcases h with h | ⟨g, cap, cur, e, hg, hh, hr⟩
  · exact Or.inl h
  · have hlt : g < w.heap.size := by
      rcases Nat.lt_or_ge g w.heap.size with hlt | hge
      · exact hlt
      · rw [Array.getElem?_eq_none hge] at hh; cases hh
    exact Or.inr ⟨g, cap, cur, e, hg, (hb g hg hlt).trans hh, hr⟩
theorem OwnD.below (h : OwnD w0 w A n c l) (hb : Below w.heap.size w w') : OwnD w0 w' A n c l := h.keep fun g _ hl => hb.block g hl
/-- its block -/
theorem OwnD.row (h : OwnD w0 w A n c (rowsL f n)) (hn : 0 < n) : ∃ g, A = some ⟨g, 0, none⟩ ∧ w0.heap.size ≤ g ∧ g < w.heap.size ∧ ∃ cur, w.heap[g]? = some (.cells cur 36 (0, 0)) ∧ ∀ i, i < n → cur[i * 2]? = some (.int .i64 (f i).1) ∧ cur[i * 2 + 1]? = some (.bool (f i).2) := by
  obtain ⟨hl, h⟩ := h
  rcases h with ⟨e, h0⟩ | ⟨g, cap, cur, e, hg, hh, hr, hcap, hcs, htk⟩
  · omega
  · cases e
    have hlt : g < w.heap.size := by
      rcases Nat.lt_or_ge g w.heap.size with hlt | hge
      · exact hlt
      · rw [Array.getElem?_eq_none hge] at hh; cases hh
    refine ⟨g, rfl, hg, hlt, cur, hh, fun i hi => ?_⟩
    obtain ⟨e1, e2⟩ := flatD_at (rowsL f n) i (f i) (rowsL_at f hi)
    rw [← htk] at e1 e2
    rw [List.getElem?_take, if_pos (by omega), Array.getElem?_toList] at e1 e2
    exact ⟨e1, e2⟩
theorem OwnD.db (h : OwnD w0 w A n c (rowsL f n)) : DB w w.heap.size A n f := by
  rcases Nat.eq_zero_or_pos n with h0 | h0
  · exact Or.inl h0
  · obtain ⟨g, rfl, hg, hlt, cur, hh, hc⟩ := h.row h0
    refine Or.inr ⟨_, rfl, hlt, fun i hi => ?_⟩
    have e : ∀ k, (⟨g, 0, none⟩ : Addr).add k = ⟨g, k, none⟩ := fun k => by unfold Addr.add; split <;> simp_all
    rw [e, e, cell_of_row w g _ _ 36 (0, 0) hh, cell_of_row w g _ _ 36 (0, 0) hh]
    exact hc i hi
/-- one number more or less -/
theorem OwnD.put (h : OwnD w0 w A n c (rowsL f n)) {q : Nat} (hq : q < n) (v : Int) : ∃ g, A = some ⟨g, 0, none⟩ ∧ w0.heap.size ≤ g ∧ w.cell? ⟨g, q * 2, none⟩ = some (.int .i64 (f q).1) ∧ w.frozen? ⟨g, q * 2, none⟩ = false ∧
    DB (w.setCell ⟨g, q * 2, none⟩ (.int .i64 v)) (w.setCell ⟨g, q * 2, none⟩ (.int .i64 v)).heap.size A n (fun i => if i = q then (v, (f i).2) else f i) := by
  obtain ⟨g, rfl, hg, hlt, cur, hh, hc⟩ := h.row (by omega)
  refine ⟨g, rfl, hg, by rw [cell_of_row w g _ _ 36 (0, 0) hh]; exact (hc q hq).1, by simp [World.frozen?, hh], ?_⟩
  have e : ∀ k, (⟨g, 0, none⟩ : Addr).add k = ⟨g, k, none⟩ := fun k => by unfold Addr.add; split <;> simp_all
  have hh' : (w.setCell ⟨g, q * 2, none⟩ (.int .i64 v)).heap[g]? = some (.cells (cur.setIfInBounds (q * 2) (.int .i64 v)) 36 (0, 0)) := by
    simp only [World.setCell]
    rw [Array.getElem?_modify, hh]
    simp
  refine Or.inr ⟨_, rfl, by simp [World.setCell]; exact hlt, fun i hi => ?_⟩
  rw [e, e, cell_of_row _ g _ _ 36 (0, 0) hh', cell_of_row _ g _ _ 36 (0, 0) hh', Array.getElem?_setIfInBounds, Array.getElem?_setIfInBounds]
  have h1 := hc i hi
  have hs : i * 2 < cur.size := (Array.getElem?_eq_some_iff.1 h1.1).1
  by_cases hi' : i = q
  · subst hi'
    rw [if_pos rfl, if_pos hs, if_neg (by omega)]
    dsimp only
    rw [if_pos rfl]
    exact ⟨rfl, h1.2⟩
  · rw [if_neg (by omega), if_neg (by omega)]
    dsimp only
    rw [if_neg hi']
    exact h1
end
theorem infoD : (Try.prog.info? 36).map (fun i => (i.zero, i.size, i.bytes)) = some (some (.agg #[.int .i64 0, .bool false]), 2, 16) := by kernel_rfl
/-- append of one, which lies in a block of its own -/
theorem app_row {w0 w : World} {ops : Array Oper} {rest : List Oper} {o : Oper} {a : Act} {Q : Exit → Act → World → Prop} (hgd : o.guard = none) (s x : Operand)
    (ho : o.op = .call { callee := .builtin .append, args := #[s, x], argTypes := #[33, 33] }) (A : Option Addr) (n c : Nat) (l : List (Int × Bool)) (hs : a.eval s = .slice A n c) (hown : OwnD w0 w A n c l) (hb : w0.heap.size ≤ w.heap.size)
    (g : Nat) (hx : a.eval x = .slice (some ⟨g, 0, none⟩) 1 1) (y : Int × Bool) (hy0 : w.cell? ⟨g, 0, none⟩ = some (.int .i64 y.1)) (hy1 : w.cell? ⟨g, 1, none⟩ = some (.bool y.2)) (h63 : n ≤ 1000000)
    (h : ∀ A' c' w', OwnD w0 w' A' (n + 1) c' (l ++ [y]) → Below w0.heap.size w w' → wpList Try.prog ops Q rest (a.put o.dst (.slice A' (n + 1) c')) w') :
    wpList Try.prog ops Q (o :: rest) a w := by
  have hi0 := infoD
  obtain ⟨i, hi, hrest⟩ := Option.map_eq_some_iff.1 hi0
  simp only [Prod.mk.injEq] at hrest
  obtain ⟨i1, i2, i3⟩ := hrest
  refine wpList_append_own_at w hgd s x 33 ho w0.heap.size 36 i (.agg #[.int .i64 0, .bool false]) 2 16 Try.underlying33 hi i1 i2 i3 rfl (by decide) (.slice A n c) n (flatD l) hs hown ⟨g, 0, none⟩ 1 1 (flatD [y]) hx (by rw [flatD_len]; rfl) (fun j u hu => ?_) (flatD_one [y]) (by unfold maxLen; omega) (by omega) hb (fun v' w' h1 h2 _ _ => ?_)
  · have e : (⟨g, 0, none⟩ : Addr).add j = ⟨g, j, none⟩ := by unfold Addr.add; split <;> simp_all
    have hj : j < 2 := (List.getElem?_eq_some_iff.1 hu).1
    rw [e, ← hu]
    rcases (show j = 0 ∨ j = 1 by omega) with rfl | rfl
    · exact hy0
    · exact hy1
  · have e : flatD l ++ flatD [y] = flatD (l ++ [y]) := (flatD_app _ _).symm
    rw [e] at h1
    have hsh : ∃ A' c', v' = .slice A' (n + 1) c' := by
      rcases h1.2 with ⟨_, h0⟩ | ⟨g', cap, cur, e', _⟩
      · simp at h0
      · exact ⟨_, _, e'⟩
    obtain ⟨A', c', rfl⟩ := hsh
    refine h A' c' w' h1 ⟨h2.os, h2.tape, h2.output, h2.size, fun b hb2 => h2.block b (by omega) (fun e => ?_)⟩
    rcases hown.2 with ⟨e', _⟩ | ⟨g', cap, cur, e', hg', _⟩
    · cases e'; cases e
    · cases e'
      have : b = g' := by simpa [Value.ownBlock] using e
      omega
theorem dueF_mono {f f' : Nat → Int × Bool} : ∀ n, (∀ i, i < n → (f i).1 ≤ (f' i).1 ∧ (f i).2 = (f' i).2) → dueF f n = true → dueF f' n = true
  | 0, _, h => h
  | n + 1, h, hd => by
    unfold dueF at hd ⊢
    rw [Bool.or_eq_true] at hd ⊢
    rcases hd with hd | hd
    · exact Or.inl (dueF_mono n (fun i hi => h i (by omega)) hd)
    · refine Or.inr ?_
      rw [Bool.and_eq_true, decide_eq_true_eq] at hd ⊢
      have := h n (by omega)
      exact ⟨by omega, this.2 ▸ hd.2⟩
/-- the rows of PatrolDue -/
def rwF (x : Nat → Nat) (i : Nat) : Int × Bool := (((x i % 9 : Nat) : Int), true)
theorem rw_next (x : Nat → Nat) (i : Nat) (d : Bool) (hd : dueF (rwF x) i = d) : (d = true → dueF (rwF x) (i + 1) = true) ∧ (d = false → dueF (rwF x) (i + 1) = decide ((4 : Int) ≤ ((x i % 9 : Nat) : Int))) := by
  show (d = true → (dueF (rwF x) i || (decide ((4 : Int) ≤ ((x i % 9 : Nat) : Int)) && true)) = true) ∧ (d = false → (dueF (rwF x) i || (decide ((4 : Int) ≤ ((x i % 9 : Nat) : Int)) && true)) = _)
  rw [hd, Bool.and_true]
  exact ⟨fun e => by rw [e, Bool.true_or], fun e => by rw [e, Bool.false_or]⟩
section
variable {Q : World → Nat → Nat → Nat → Int → Int → Int → Int → Nat → Prop}
set_option maxRecDepth 20000 in
set_option maxHeartbeats 8000000 in
theorem due_law (C : PC Q) (A : Option Addr) (n : Nat) (x : Nat → Nat) (hx : ∀ j, x j < 256) (c : Nat) (N : Nat) (hN : N < 256) (w : World) (hs : We.SF w w.heap.size A n (fun j => .int .u8 ((x j : Nat) : Int))) :
    Calls Try.prog 5 #[.slice A n c, .int .u8 (N : Int)] w (We.Ans w (.bool true)) := by
  have ha := Lib.hid (awake_any C w)
  have H := Lib.hid hs
  have C' := Lib.hid C
  clear C hs
  by_cases h0 : n = 0
  · subst h0
    go_enter Try.func5, Try.ntmps5
    go_wp2_with (go_at_call 7; (with_reducible refine ha.out.mono ?_); clear ha; rintro e w1 ⟨rfl, hb1⟩; replace hb1 := Lib.hid hb1)
    go_ret
    exact ⟨rfl, hb1.out⟩
  have z0 : ((n : Int) == 0) = false := by simp; omega
  by_cases h100 : (100 : Int) < (n : Int)
  · have z1 : decide ((100 : Int) < (n : Int)) = true := decide_eq_true h100
    clear h100
    go_enter Try.func5, Try.ntmps5
    go_wp2_with (go_at_call 7; (with_reducible refine ha.out.mono ?_); clear ha; rintro e w1 ⟨rfl, hb1⟩; replace hb1 := Lib.hid hb1)
    go_ret
    exact ⟨rfl, hb1.out⟩
  have z1 : decide ((100 : Int) < (n : Int)) = false := decide_eq_false h100
  have hn1 := Lib.hid (show n ≤ 100 by omega)
  have hn0 := Lib.hid (Nat.pos_of_ne_zero h0)
  clear h100
  go_enter Try.func5, Try.ntmps5
  go_wp2_with (go_at_call 7; (with_reducible refine ha.out.mono ?_); clear ha; rintro e w1 ⟨rfl, hb1⟩; replace hb1 := Lib.hid hb1)
  clear z0 z1 h0
  go_loopw [5, 6, 7] (fun v d q wr => ∃ (i : Nat) (A' : Option Addr) (c' : Nat), q = .int .i64 (i : Int) ∧ i ≤ n ∧ v = .slice A' i c' ∧ d = .bool (dueF (rwF x) i) ∧ Hid (OwnD w wr A' i c' (rowsL (rwF x) i)) ∧ Hid (Below w.heap.size w wr)) (fun _ _ q _ => n - (intOf q).toNat)
  case atStart => exact ⟨0, none, 0, rfl, Nat.zero_le _, rfl, rfl, Lib.hid (OwnD.nil w w1 _), hb1⟩
  case round =>
    clear hb1
    obtain ⟨i, A', c', rfl, hin, rfl, rfl, ho, hB⟩ := hrel
    by_cases hi : i < n
    · have d1 : decide (i < n) = true := decide_eq_true hi
      have d2 : decide ((i : Int) < (n : Int)) = true := decide_eq_true (Int.ofNat_lt.mpr hi)
      have hiI : (i : Int) < (n : Int) := Int.ofNat_lt.mpr hi
      have hk1 : wrap64 ((i : Int) + 1) = ((i + 1 : Nat) : Int) := by have := hn1.out; rw [IntWalk.wrap64_in _ (by omega)]; omega
      have hi6 : i ≤ 1000000 := by have := hn1.out; omega
      obtain ⟨a0, ea, hal, hcl⟩ := We.SF.at_ (H.out.below hB.out) hi
      subst ea
      obtain ⟨d, hd⟩ : ∃ d, dueF (rwF x) i = d := ⟨_, rfl⟩
      have hnx := rw_next x i d hd
      rw [hd]
      have hrs := Lib.hid (rowsL_succ (rwF x) i)
      obtain ⟨y, hy⟩ : ∃ y, x i = y := ⟨_, rfl⟩
      have hyl : y < 256 := by rw [← hy]; exact hx i
      have hrw : rwF x i = (((y % 9 : Nat) : Int), true) := by unfold rwF; rw [hy]
      rw [hy] at hcl hnx
      have f1 : ((y : Nat) : Int).tmod 9 = ((y % 9 : Nat) : Int) := rfl
      have f2 : ((y : Nat) : Int) % 9 = ((y % 9 : Nat) : Int) := (Int.natCast_emod _ _).symm
      obtain ⟨z, hz⟩ : ∃ z, y % 9 = z := ⟨_, rfl⟩
      rw [hz] at f1 f2 hrw hnx
      have hxy := Lib.hid hy
      clear hz hy hd
      replace hnx := Lib.hid hnx
      replace hrw := Lib.hid hrw
      replace hi := Lib.hid hi
      replace hin := Lib.hid hin
      cases d
      · go_wp2_with (refine app_row (w0 := w) rfl (.tmp 25) (.tmp 33) rfl A' i c' (rowsL (rwF x) i) rfl (ho.out.grow _) (by rw [World.size_alloc]; exact Nat.le_succ_of_le hB.out.size) wr.heap.size rfl (((z : Nat) : Int), true) (We.cell_new wr _ _ 0) (We.cell_new wr _ _ 1) hi6 ?_; intro A2 c2 w4 hO hb4; (rw [← hrw.out, hrs.out] at hO); have B4 := Lib.hid ((hB.out.trans ((We.below_alloc wr (.cells #[.int .i64 ((z : Nat) : Int), .bool true] 36)).mono hB.out.size)).trans hb4); obtain ⟨a1, ea1, hal1, hcl1⟩ := We.SF.at_ (H.out.below B4.out) hi.out; (obtain rfl : a0 = a1 := by injection ea1); (rw [hxy.out] at hcl1); replace hO := Lib.hid hO; clear hb4 ho hB hcl ea1 hal1)
        go_roundw
        case rel => exact ⟨i + 1, A2, c2, by first | rfl | rw [hk1], hi.out, rfl, by rw [hnx.out.2 rfl], hO, B4⟩
        case measure => first | (rw [hk1]; simp only [intOf, Int.toNat_natCast]; exact Nat.sub_lt_sub_left hi.out (Nat.lt_succ_self i)) | (simp only [intOf]; exact Nat.sub_lt_sub_left hi.out (Nat.lt_succ_self i))
      · go_wp2_with (refine app_row (w0 := w) rfl (.tmp 25) (.tmp 33) rfl A' i c' (rowsL (rwF x) i) rfl (ho.out.grow _) (by rw [World.size_alloc]; exact Nat.le_succ_of_le hB.out.size) wr.heap.size rfl (((z : Nat) : Int), true) (We.cell_new wr _ _ 0) (We.cell_new wr _ _ 1) hi6 ?_; intro A2 c2 w4 hO hb4; (rw [← hrw.out, hrs.out] at hO); have B4 := Lib.hid ((hB.out.trans ((We.below_alloc wr (.cells #[.int .i64 ((z : Nat) : Int), .bool true] 36)).mono hB.out.size)).trans hb4); obtain ⟨a1, ea1, hal1, hcl1⟩ := We.SF.at_ (H.out.below B4.out) hi.out; (obtain rfl : a0 = a1 := by injection ea1); (rw [hxy.out] at hcl1); replace hO := Lib.hid hO; clear hb4 ho hB hcl ea1 hal1)
        go_roundw
        case rel => exact ⟨i + 1, A2, c2, by first | rfl | rw [hk1], hi.out, rfl, by rw [hnx.out.1 rfl], hO, B4⟩
        case measure => first | (rw [hk1]; simp only [intOf, Int.toNat_natCast]; exact Nat.sub_lt_sub_left hi.out (Nat.lt_succ_self i)) | (simp only [intOf]; exact Nat.sub_lt_sub_left hi.out (Nat.lt_succ_self i))
    · obtain rfl : i = n := Nat.le_antisymm hin (Nat.le_of_not_lt hi)
      have d1 : decide (i < i) = false := decide_eq_false (Nat.lt_irrefl i)
      have d2 : decide ((i : Int) < (i : Int)) = false := decide_eq_false (Int.lt_irrefl _)
      have hql : N % i < i := Nat.mod_lt _ hn0.out
      have f1 : (N : Int).tmod (i : Int) = ((N % i : Nat) : Int) := rfl
      have f2 : (N : Int) % (i : Int) = ((N % i : Nat) : Int) := (Int.natCast_emod _ _).symm
      have z3 : ((i : Int) == 0) = false := by have := hn0.out; simp; omega
      have z4 : ¬ (i : Int) = 0 := by have := hn0.out; omega
      have z5 : ¬ i = 0 := by have := hn0.out; omega
      generalize N % i = q at *
      have hqI : (q : Int) < (i : Int) := Int.ofNat_lt.mpr hql
      have hdue := Lib.hid (due_lit C'.out (c := c') ho.out.db (by have := hn1.out; omega) _ rfl)
      obtain ⟨g, rfl, hg, hgl, _⟩ := ho.out.row hn0.out
      obtain ⟨z, hz⟩ : ∃ z, x q % 9 = z := ⟨_, rfl⟩
      have hrq : (rwF x q).1 = (z : Int) := by unfold rwF; rw [hz]
      have hz9 : z < 9 := by rw [← hz]; exact Nat.mod_lt _ (by decide)
      have hk2 : wrap64 ((z : Int) + 1) = (z : Int) + 1 := IntWalk.wrap64_in _ (by omega)
      have hmono := Lib.hid (dueF_mono (f := rwF x) (f' := fun j => if j = q then ((z : Int) + 1, (rwF x j).2) else rwF x j) i (fun j _ => by
        by_cases e : j = q
        · rw [if_pos e, e]
          exact ⟨by rw [hrq]; show (z : Int) ≤ (z : Int) + 1; omega, rfl⟩
        · rw [if_neg e]; exact ⟨Int.le_refl _, rfl⟩))
      replace hql := Lib.hid hql
      replace hg := Lib.hid hg
      clear hz hz9
      have hi6 := Lib.hid (show i ≤ 1000000 by have := hn1.out; omega)
      have dn := Lib.hid (fun w => due_lit C'.out (w := w) (c := 0) (DB.nil w w.heap.size none (rwF x)) (Nat.zero_le _) false rfl)
      obtain ⟨D, hD⟩ : ∃ D, dueF (rwF x) i = D := ⟨_, rfl⟩
      rw [hD] at hdue hmono ⊢
      clear hD hi hin d1 d2
      cases D
      · go_wp2_with (go_at_call 13; (with_reducible refine hdue.out.mono ?_); clear hdue; rintro e w5 ⟨rfl, hb5⟩; have o5 := Lib.hid (ho.out.below hb5); replace hb5 := Lib.hid (hB.out.trans (hb5.mono hB.out.size)); obtain ⟨g', eg, _, cq, fq, hdb⟩ := o5.out.put hql.out ((z : Int) + 1); (obtain rfl : g = g' := by injection eg with e1; injection e1); rw [hrq] at cq; clear eg ho hB; have Bs := Lib.hid (We.below_set hb5.out hg.out (i := q * 2) (.int .i64 ((z : Int) + 1))); clear hdb)
        go_wp2_with (go_at_call 13; (with_reducible refine (dn.out _).mono ?_); clear dn; rintro e w6 ⟨rfl, hb6⟩; have B6 := Lib.hid (Bs.out.trans (hb6.mono Bs.out.size)))
        go_ret
        exact ⟨rfl, B6.out⟩
      · go_wp2_with (go_at_call 13; (with_reducible refine hdue.out.mono ?_); clear hdue; rintro e w5 ⟨rfl, hb5⟩; have o5 := Lib.hid (ho.out.below hb5); replace hb5 := Lib.hid (hB.out.trans (hb5.mono hB.out.size)); obtain ⟨g', eg, _, cq, fq, hdb⟩ := o5.out.put hql.out ((z : Int) + 1); (obtain rfl : g = g' := by injection eg with e1; injection e1); rw [hrq] at cq; clear eg ho hB; have Bs := Lib.hid (We.below_set hb5.out hg.out (i := q * 2) (.int .i64 ((z : Int) + 1))); have hdue2 := Lib.hid (due_lit C'.out (c := c') hdb hi6.out true (hmono.out rfl)); clear hdb)
        go_wp2_with (go_at_call 13; (with_reducible refine hdue2.out.mono ?_); clear hdue2; rintro e w6 ⟨rfl, hb6⟩; have B6 := Lib.hid (Bs.out.trans (hb6.mono Bs.out.size)))
        go_wp2_with (go_at_call 13; (with_reducible refine (dn.out _).mono ?_); clear dn; rintro e w7 ⟨rfl, hb7⟩; have B7 := Lib.hid (B6.out.trans (hb7.mono B6.out.size)))
        go_ret
        exact ⟨rfl, B7.out⟩
end
end Go.Proofs.Ytmmpcgmhcaianaa.Pt
