/- The reference's NewMap walked. -/
import Derived.Test.YtcnnmnjepofomaaLmc
import Derived.Maps.AppendAt
namespace Go.Proofs.Ytcnnmnjepofomaa.Lm
open Go.RowKit Go.Bw Go.Proofs.Ytcnnmnjepofomaa.Vl
set_option linter.unusedVariables false
set_option linter.unusedSimpArgs false
theorem infoN : (Try.prog.info? 3).map (fun i => (i.zero, i.size, i.bytes)) = some (some (.int .i64 0), 1, 8) := by kernel_rfl
/-- n times -1 -/
def negs (n : Nat) : List Value := List.replicate n (.int .i64 (-1))
theorem negs_len (n : Nat) : (negs n).length = n := List.length_replicate
theorem negs_at {n i : Nat} (h : i < n) : (negs n)[i]? = some (.int .i64 (-1)) := by unfold negs; simp [h]
/-- a row of -1s of one's own (or nil), made since w0 -/
def OwnN (w0 w : World) (A : Option Addr) (n c : Nat) : Prop := w.ownsRow w0.heap.size 3 1 (.slice A n c) n (negs n)
section
variable {w0 w w' : World} {A : Option Addr} {n c : Nat}
theorem OwnN.nil (w0 w : World) : OwnN w0 w none 0 0 := ⟨rfl, Or.inl ⟨rfl, rfl⟩⟩
theorem OwnN.pv (h : OwnN w0 w A n c) (hn : 0 < n) : ∃ g, A = some ⟨g, 0, none⟩ ∧ w0.heap.size ≤ g ∧ g < w.heap.size ∧ PV w 3 g n (We.iF fun _ => -1) := by
  rcases h.2 with ⟨e, h0⟩ | ⟨g, cap, cur, e, hg, hh, hl, hcap, hcs, htk⟩
  · omega
  · cases e
    have hlt : g < w.heap.size := by
      rcases Nat.lt_or_ge g w.heap.size with hlt | hge
      · exact hlt
      · rw [Array.getElem?_eq_none hge] at hh; cases hh
    refine ⟨g, rfl, hg, hlt, cur, hh, fun j hj => ?_⟩
    have e2 : (cur.toList.take (n * 1))[j]? = (negs n)[j]? := by rw [htk]
    rw [List.getElem?_take, if_pos (by omega), Array.getElem?_toList, negs_at hj] at e2
    exact e2
theorem OwnN.keep (h : OwnN w0 w A n c) (hb : ∀ g, w0.heap.size ≤ g → w'.heap[g]? = w.heap[g]?) : OwnN w0 w' A n c := by
  obtain ⟨hl, h⟩ := h
  refine ⟨hl, ?_⟩
  rcases h with h | ⟨g, cap, cur, e, hg, hh, hr⟩
  · exact Or.inl h
  · exact Or.inr ⟨g, cap, cur, e, hg, (hb g hg).trans hh, hr⟩
theorem OwnN.grow (h : OwnN w0 w A n c) (o : Obj) : OwnN w0 (w.alloc o) A n c := World.ownsRow.alloc h o
end
theorem app_neg {w0 w : World} {ops : Array Oper} {rest : List Oper} {o : Oper} {a : Act} {Q : Exit → Act → World → Prop} (hgd : o.guard = none) (s x : Operand)
    (ho : o.op = .call { callee := .builtin .append, args := #[s, x], argTypes := #[39, 39] }) (A : Option Addr) (n c : Nat) (hs : a.eval s = .slice A n c) (hown : OwnN w0 w A n c) (hb : w0.heap.size ≤ w.heap.size)
    (g : Nat) (hx : a.eval x = .slice (some ⟨g, 0, none⟩) 1 1) (hy : w.cell? ⟨g, 0, none⟩ = some (.int .i64 (-1))) (h63 : n ≤ 1000000)
    (h : ∀ A' c' w', OwnN w0 w' A' (n + 1) c' → (∀ b, b < w0.heap.size → w'.heap[b]? = w.heap[b]?) → w'.os = w.os → w'.tape = w.tape → w'.output = w.output → w.heap.size ≤ w'.heap.size → wpList Try.prog ops Q rest (a.put o.dst (.slice A' (n + 1) c')) w') :
    wpList Try.prog ops Q (o :: rest) a w := by
  have hi0 := infoN
  obtain ⟨i, hi, hrest⟩ := Option.map_eq_some_iff.1 hi0
  simp only [Prod.mk.injEq] at hrest
  obtain ⟨i1, i2, i3⟩ := hrest
  refine wpList_append_own_at w hgd s x 39 ho w0.heap.size 3 i (.int .i64 0) 1 8 Try.underlying39 hi i1 i2 i3 rfl (by decide) (.slice A n c) n (negs n) hs hown ⟨g, 0, none⟩ 1 1 [.int .i64 (-1)] hx rfl (fun j u hu => ?_) (fun u hu => ?_) (by unfold maxLen; omega) (by omega) hb (fun v' w' h1 h2 _ h5 => ?_)
  · match j, hu with
    | 0, hu =>
      simp at hu
      rw [← hu, We.add_zero']
      exact hy
    | j + 1, hu => simp at hu
  · simp at hu
    rw [hu]; rfl
  · have e : negs n ++ [Value.int .i64 (-1)] = negs (n + 1) := by unfold negs; rw [List.replicate_succ']
    rw [e] at h1
    have hsh : ∃ A' c', v' = .slice A' (n + 1) c' := by
      rcases h1.2 with ⟨_, h0⟩ | ⟨g', cap, cur, e', _⟩
      · simp at h0
      · exact ⟨_, _, e'⟩
    obtain ⟨A', c', rfl⟩ := hsh
    refine h A' c' w' h1 (fun b hb2 => h2.block b (by omega) (fun e => ?_)) h2.os h2.tape h2.output h2.size
    rcases hown.2 with ⟨e', _⟩ | ⟨g', cap, cur, e', hg', _⟩
    · cases e'; cases e
    · cases e'
      have : b = g' := by simpa [Value.ownBlock] using e
      omega
set_option maxHeartbeats 2000000 in
theorem refnew_any (lp pg : Nat) (hlp : lp ≤ 1000000) (w : World) :
    Calls Try.prog 10 #[.int .i64 (lp : Int), .int .i64 (pg : Int)] w fun e w' => ∃ g h A c, e = .returned (.pointer (some ⟨g, 0, none⟩)) ∧ Below w.heap.size w w' ∧ w.heap.size ≤ g ∧ w.heap.size ≤ h ∧ RM w' g h A c lp pg (fun _ => -1) := by
  go_enter Try.func10, Try.ntmps10
  go_wp2_with fail
  have hs1 : (w.alloc (.cells #[.slice none 0 0, .int .i64 (pg : Int)] 41)).heap.size = w.heap.size + 1 := World.size_alloc _ _
  have hB1 : Below w.heap.size w (w.alloc (.cells #[.slice none 0 0, .int .i64 (pg : Int)] 41)) := We.below_alloc _ _
  have box1 := PV.new w 41 #[.slice none 0 0, .int .i64 (pg : Int)] 2 (rbF none 0 0 pg) fun i hi => by
    match i, hi with
    | 0, _ => rfl
    | 1, _ => rfl
  generalize hw1 : w.alloc (.cells #[.slice none 0 0, .int .i64 (pg : Int)] 41) = w1 at *
  clear hw1
  have hgb := Lib.hid (show w.heap.size < w1.heap.size by omega)
  have hgw : w.heap.size ≤ w.heap.size := Nat.le_refl _
  generalize hG : w.heap.size = gb at box1 hgb hgw ⊢
  replace hG := Lib.hid hG
  replace hs1 := Lib.hid hs1
  replace hgw := Lib.hid hgw
  replace hB1 := Lib.hid (show Below gb w w1 by rw [← hG.out]; exact hB1)
  replace box1 := Lib.hid box1
  go_loopw [6] (fun q wr => ∃ (i c : Nat) (A : Option Addr), q = .int .i64 (i : Int) ∧ i ≤ lp ∧ Hid (PV wr 41 gb 2 (rbF A c i pg)) ∧ Hid (OwnN w1 wr A i c) ∧ Hid (Below gb w wr) ∧ Hid (w1.heap.size ≤ wr.heap.size)) (fun q _ => lp - (intOf q).toNat)
  case atStart => exact ⟨0, 0, none, rfl, Nat.zero_le _, box1, Lib.hid (OwnN.nil w1 w1), hB1, Lib.hid (Nat.le_refl _)⟩
  case round =>
    obtain ⟨i, c, A, rfl, hi, box, hO, hB, hz⟩ := hrel
    clear box1 hB1
    by_cases hil : i < lp
    · have d1 : decide ((i : Int) < (lp : Int)) = true := decide_eq_true (by omega)
      have c0 := box.out.cell (i := 0) (by decide)
      have hbl := box.out.lt
      unfold rbF at c0
      rw [if_pos rfl] at c0
      replace hbl := Lib.hid hbl
      go_wp2_with (refine app_neg (w0 := w1) rfl (.tmp 19) (.tmp 20) rfl A i c rfl (hO.out.grow _) (by rw [World.size_alloc]; have := hz.out; omega) wr.heap.size rfl (We.cell_box _ _ _) (by omega) ?_; intro A' c' w' hO' hkeep e1 e2 e3 e4; have hbk := Lib.hid ((hkeep gb hgb.out).trans ((We.below_alloc wr _).block gb hbl.out)); have box' := Lib.hid (box.out.keep hbk.out); have hB' := Lib.hid (show Below gb w w' from ⟨e1.trans hB.out.os, e2.trans hB.out.tape, e3.trans hB.out.output, Nat.le_trans (Nat.le_trans hB.out.size (Nat.le_succ _)) (by rw [World.size_alloc] at e4; exact e4), fun b hb => (hkeep b (by have := hgb.out; omega)).trans (((We.below_alloc wr _).block b (by have := hbl.out; omega)).trans (hB.out.block b hb))⟩); have hz' := Lib.hid (show w1.heap.size ≤ w'.heap.size from by rw [World.size_alloc] at e4; have := hz.out; omega); replace hO' := Lib.hid hO'; clear hkeep e1 e2 e3 e4 hbk; have c0' := box'.out.cell (i := 0) (by decide); (unfold rbF at c0'); (rw [if_pos rfl] at c0'); have fz := box'.out.frozen 0; clear c0)
      have r1 : PV (w'.setCell ⟨gb, 0, none⟩ (.slice A' (i + 1) c')) 41 gb 2 (rbF A' c' (i + 1) pg) := (box'.out.set_ 0 (.slice A' (i + 1) c')).congr fun j hj => by
        match j, hj with
        | 0, _ => rfl
        | 1, _ => rfl
      have r2 : OwnN w1 (w'.setCell ⟨gb, 0, none⟩ (.slice A' (i + 1) c')) A' (i + 1) c' := hO'.out.keep fun q hq => setCell_block w' _ (by have := hgb.out; omega)
      have r3 : Below gb w (w'.setCell ⟨gb, 0, none⟩ (.slice A' (i + 1) c')) := below_set hB'.out (Nat.le_refl _) _
      have r4 : w1.heap.size ≤ (w'.setCell ⟨gb, 0, none⟩ (.slice A' (i + 1) c')).heap.size := by
        have e : (w'.setCell ⟨gb, 0, none⟩ (.slice A' (i + 1) c')).heap.size = w'.heap.size := by simp [World.setCell]
        rw [e]; exact hz'.out
      go_roundw
      case rel => exact ⟨i + 1, c', A', by go_num, by omega, Lib.hid r1, Lib.hid r2, Lib.hid r3, Lib.hid r4⟩
      case measure => simp [intOf] <;> omega
    · obtain rfl : i = lp := by omega
      have d1 : decide ((i : Int) < (i : Int)) = false := decide_eq_false (by omega)
      go_wp2_with fail
      go_ret
      by_cases h0 : 0 < i
      · obtain ⟨h, rfl, hh, _, pv⟩ := hO.out.pv h0
        exact ⟨gb, h, some ⟨h, 0, none⟩, c, rfl, by rw [hG.out]; exact hB.out, Nat.le_of_eq hG.out, by have := hgb.out; have := hG.out; omega, box.out, fun _ => ⟨rfl, pv⟩, by have := hgb.out; omega, by omega⟩
      · exact ⟨gb, gb + 1, A, c, rfl, by rw [hG.out]; exact hB.out, Nat.le_of_eq hG.out, by have := hG.out; omega, box.out, fun hp => absurd hp h0, by omega, by omega⟩
end Go.Proofs.Ytcnnmnjepofomaa.Lm
