/- List, Count walked. -/
import Derived.Test.YtnhkagkgmgpjeaaYdm
import Derived.Maps.AppendAt
namespace Go.Proofs.Ytnhkagkgmgpjeaa.Yd
open Go.RowKit
set_option linter.unusedVariables false
set_option linter.unusedSimpArgs false
/-- those below k that are so -/
def ls (f : Nat → Bool) : Nat → List Int
  | 0 => []
  | k + 1 => if f k = true then ls f k ++ [(k : Int)] else ls f k
theorem ls_len (f : Nat → Bool) : ∀ k : Nat, (ls f k).length = nb f k
  | 0 => rfl
  | k + 1 => by
    rw [ls, nb]
    cases f k
    · rw [if_neg (by simp), ls_len f k]; simp
    · rw [if_pos rfl, List.length_append, ls_len f k]; simp
theorem ls_at (f : Nat → Bool) : ∀ (k b : Nat), b < k → f b = true → (ls f k)[nb f b]? = some (b : Int)
  | 0, b, h, _ => absurd h (Nat.not_lt_zero _)
  | k + 1, b, h, hb => by
    rw [ls]
    by_cases e : b = k
    · subst e
      rw [if_pos hb, List.getElem?_append_right (by rw [ls_len]; exact Nat.le_refl _), ls_len, Nat.sub_self]
      rfl
    · have ih := ls_at f k b (by omega) hb
      split
      · rw [List.getElem?_append_left]
        · exact ih
        · exact (List.getElem?_eq_some_iff.1 ih).1
      · exact ih
theorem infoL : (Try.prog.info? 3).map (fun i => (i.zero, i.size, i.bytes)) = some (some (.int .i64 0), 1, 8) := by kernel_rfl
/-- a row of whole numbers of one's own (or nil), made since w0 -/
def OwnL (w0 w : World) (A : Option Addr) (n c : Nat) (l : List Int) : Prop := w.ownsRow w0.heap.size 3 1 (.slice A n c) n (l.map (Value.int .i64))
section
variable {w0 w w' : World} {A : Option Addr} {n c : Nat} {l : List Int}
theorem OwnL.nil (w0 w : World) : OwnL w0 w none 0 0 [] := ⟨rfl, Or.inl ⟨rfl, rfl⟩⟩
theorem OwnL.grow (h : OwnL w0 w A n c l) (o : Obj) : OwnL w0 (w.alloc o) A n c l := World.ownsRow.alloc h o
theorem OwnL.sf (h : OwnL w0 w A n c l) : We.SF w w.heap.size A n (We.iF fun j => l.getD j 0) := by
  obtain ⟨hl, h⟩ := h
  rw [List.length_map] at hl
  rcases h with ⟨e, h0⟩ | ⟨g, cap, cur, e, hg, hh, hn, hcap, hcs, htk⟩
  · exact Or.inl h0
  · cases e
    have hlt : g < w.heap.size := by
      rcases Nat.lt_or_ge g w.heap.size with hlt | hge
      · exact hlt
      · rw [Array.getElem?_eq_none hge] at hh; cases hh
    refine Or.inr ⟨_, rfl, hlt, fun j hj => ?_⟩
    have e : (⟨g, 0, none⟩ : Addr).add j = ⟨g, j, none⟩ := by unfold Addr.add; split <;> simp_all
    have e2 : (cur.toList.take (n * 1))[j]? = (l.map (Value.int .i64))[j]? := by rw [htk]
    rw [List.getElem?_take, if_pos (by omega), Array.getElem?_toList, List.getElem?_map, List.getElem?_eq_getElem (by omega)] at e2
    rw [e, cell_of_row w g j _ 3 (0, 0) hh, e2]
    simp [We.iF, List.getD_eq_getElem?_getD, show j < l.length by omega]
end
theorem app_one {w0 w : World} {ops : Array Oper} {rest : List Oper} {o : Oper} {a : Act} {Q : Exit → Act → World → Prop} (hgd : o.guard = none) (s x : Operand)
    (ho : o.op = .call { callee := .builtin .append, args := #[s, x], argTypes := #[26, 26] }) (A : Option Addr) (n c : Nat) (l : List Int) (hs : a.eval s = .slice A n c) (hown : OwnL w0 w A n c l) (hb : w0.heap.size ≤ w.heap.size)
    (g : Nat) (hx : a.eval x = .slice (some ⟨g, 0, none⟩) 1 1) (z : Int) (hy : w.cell? ⟨g, 0, none⟩ = some (.int .i64 z)) (h63 : n ≤ 1000000)
    (h : ∀ A' c' w', OwnL w0 w' A' (n + 1) c' (l ++ [z]) → Below w0.heap.size w w' → wpList Try.prog ops Q rest (a.put o.dst (.slice A' (n + 1) c')) w') :
    wpList Try.prog ops Q (o :: rest) a w := by
  have hi0 := infoL
  obtain ⟨i, hi, hrest⟩ := Option.map_eq_some_iff.1 hi0
  simp only [Prod.mk.injEq] at hrest
  obtain ⟨i1, i2, i3⟩ := hrest
  refine wpList_append_own_at w hgd s x 26 ho w0.heap.size 3 i (.int .i64 0) 1 8 Try.underlying26 hi i1 i2 i3 rfl (by decide) (.slice A n c) n (l.map (Value.int .i64)) hs hown ⟨g, 0, none⟩ 1 1 [.int .i64 z] hx rfl (fun j u hu => ?_) (fun u hu => ?_) (by unfold maxLen; omega) (by omega) hb (fun v' w' h1 h2 _ h5 => ?_)
  · match j, hu with
    | 0, hu =>
      simp at hu
      rw [← hu, We.add_zero']
      exact hy
    | j + 1, hu => simp at hu
  · simp at hu
    rw [hu]; rfl
  · have e : l.map (Value.int .i64) ++ [Value.int .i64 z] = (l ++ [z]).map (Value.int .i64) := by simp
    rw [e] at h1
    have hsh : ∃ A' c', v' = .slice A' (n + 1) c' := by
      rcases h1.2 with ⟨_, h0⟩ | ⟨g', cap, cur, e', _⟩
      · simp at h0
      · exact ⟨_, _, e'⟩
    obtain ⟨A', c', rfl⟩ := hsh
    refine h A' c' w' h1 ⟨h2.os, h2.tape, h2.output, h2.size, fun b hb2 => h2.block b (by omega) (fun e => ?_)⟩
    rcases hown.2 with ⟨e', _⟩ | ⟨g', cap, cur, e', hg', _⟩
    · cases e'; cases e
    · cases e'
      have : b = g' := by simpa [Value.ownBlock] using e
      omega
set_option maxHeartbeats 4000000 in
theorem list_any {w : World} {lo hi G k g1 g2 : Nat} {st er : Nat → Int} (m : YM w lo hi G k st er g1 g2) (s : Int) :
    Calls Try.prog 17 #[.pointer (some ⟨G, 0, none⟩), .int .i64 s] w fun e w' => ∃ (A : Option Addr) (c : Nat) (f : Nat → Int), e = .returned (.slice A (nb (isS st s) k) c) ∧ Below w.heap.size w w' ∧ We.SF w' w'.heap.size A (nb (isS st s) k) (We.iF f) ∧ ∀ b, b < k → isS st s b = true → f (nb (isS st s) b) = (b : Int) := by
  have c0 := m.box.c0
  have M := Lib.hid m.sts
  have hk3 := Lib.hid m.le
  clear m
  obtain ⟨P, hP⟩ : ∃ P, isS st s = P := ⟨_, rfl⟩
  have hPs := Lib.hid (show ∀ i, (st i == s) = P i from fun i => by rw [← hP]; unfold isS; rw [Bool.eq_iff_iff]; simp)
  rw [hP]
  clear hP
  go_enter Try.func17, Try.ntmps17
  go_wp2_with fail
  go_loopw [5, 15] (fun p q wr => ∃ (i c : Nat) (A : Option Addr), p = .slice A (nb P i) c ∧ q = .int .i64 (i : Int) ∧ i ≤ k ∧ Hid (OwnL w wr A (nb P i) c (ls P i)) ∧ Hid (Below w.heap.size w wr)) (fun _ q _ => k - (intOf q).toNat)
  case atStart => exact ⟨0, 0, none, rfl, rfl, Nat.zero_le _, Lib.hid (OwnL.nil w w), Lib.hid (Below.refl _ _)⟩
  case round =>
    obtain ⟨i, c, A, rfl, rfl, hi', hO, hB⟩ := hrel
    clear c0
    by_cases hik : i < k
    · have hikI : (i : Int) < (k : Int) := by omega
      have d1 : decide ((i : Int) < (k : Int)) = true := decide_eq_true hikI
      have c1 : wr.cell? ⟨g1, i, none⟩ = some (.int .i64 (st i)) := (M.out.below hB.out).cell hik
      have hi1 : wrap64 ((i : Int) + 1) = ((i + 1 : Nat) : Int) := by have := hk3.out; rw [IntWalk.wrap64_in _ (by omega)]; omega
      have e := hPs.out i
      obtain ⟨S, hS⟩ : ∃ S, st i = S := ⟨_, rfl⟩
      rw [hS] at c1 e
      clear hS
      have hn : nb P (i + 1) = nb P i + (P i).toNat := rfl
      have hl : ls P (i + 1) = if P i = true then ls P i ++ [(i : Int)] else ls P i := rfl
      have hle := nb_le P i
      cases hpi : P i
      · rw [hpi] at e hn hl
        simp only [Bool.false_eq_true, if_false, Bool.toNat_false, Nat.add_zero] at hn hl
        replace hn := Lib.hid hn
        replace hl := Lib.hid hl
        replace hpi := Lib.hid hpi
        generalize hN : nb P i = N at *
        replace hN := Lib.hid hN
        go_wp2_with fail
        go_roundw
        case rel => exact ⟨i + 1, c, A, by rw [hn.out], by rw [hi1], by omega, by rw [hn.out, hl.out]; exact hO, hB⟩
        case measure => rw [hi1]; simp only [intOf, Int.toNat_natCast]; omega
      · rw [hpi] at e hn hl
        simp only [if_true, Bool.toNat_true] at hn hl
        replace hn := Lib.hid hn
        replace hl := Lib.hid hl
        replace hpi := Lib.hid hpi
        generalize hN : nb P i = N at *
        replace hN := Lib.hid hN
        have hN3 : N ≤ 1000000 := by have := hk3.out; omega
        replace hle := Lib.hid hle
        go_wp2_with (refine app_one (w0 := w) rfl (.tmp 23) (.tmp 25) rfl A N c (ls P i) rfl (hO.out.grow _) (by rw [World.size_alloc]; have := hB.out.size; omega) wr.heap.size rfl (i : Int) (We.cell_box _ _ _) hN3 ?_; intro A' c' w' hO' hB'; have hB2 := Lib.hid (show Below w.heap.size w w' from (We.below_trans hB.out (We.below_alloc wr _)).trans hB'); replace hO' := Lib.hid hO'; clear hB')
        go_roundw
        case rel => exact ⟨i + 1, c', A', by rw [hn.out], by rw [hi1], by omega, by rw [hn.out, hl.out]; exact hO', hB2⟩
        case measure => rw [hi1]; simp only [intOf, Int.toNat_natCast]; omega
    · obtain rfl : i = k := by omega
      have d1 : decide ((i : Int) < (i : Int)) = false := decide_eq_false (by omega)
      go_wp2_with fail
      go_ret
      refine ⟨A, c, fun j => (ls P i).getD j 0, rfl, hB.out, hO.out.sf, fun b hb hPb => ?_⟩
      show (ls P i).getD (nb P b) 0 = _
      rw [List.getD_eq_getElem?_getD, ls_at P i b hb hPb]; rfl
set_option maxHeartbeats 1000000 in
theorem count_any {w : World} {lo hi G k g1 g2 : Nat} {st er : Nat → Int} (m : YM w lo hi G k st er g1 g2) (s : Int) :
    Calls Try.prog 18 #[.pointer (some ⟨G, 0, none⟩), .int .i64 s] w (We.Ans w (.int .i64 ((nb (isS st s) k : Nat) : Int))) := by
  have hc := Lib.hid (list_any m s)
  clear m
  go_enter Try.func18, Try.ntmps18
  go_wp2_with (go_at_call 17; (with_reducible refine hc.out.mono ?_); rintro e w1 ⟨A, c, f, rfl, hb, _, _⟩; replace hb := Lib.hid hb)
  go_ret
  exact ⟨rfl, hb.out⟩
end Go.Proofs.Ytnhkagkgmgpjeaa.Yd
