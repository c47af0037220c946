/- Program puts the first points and symbols. -/
import Derived.Test.YtnndhbppgmnefaaYq
import Derived.StillTailTactics
namespace Go.Proofs.Ytnndhbppgmnefaa
open Go.RowKit Go.Gf Go.Fl
set_option linter.unusedVariables false
set_option linter.unusedSimpArgs false
attribute [local go_sem ↓] Cl.quiet_since
/-- what block k holds when i cells of it were programmed -/
def Half (w : World) (k n : Nat) (ps : List (Int × Int)) (xs : List Nat) (i : Nat) : Prop :=
  RowC w k n ∧ ∀ j, j < n → CellC w k j (if j < i then pt (syAt xs j) else ptAt ps j) (if j < i then 1 else 0) (syAt xs j)
theorem Cl.keeps_mono' {F : Nat → Prop} {w w' : World} (h : Cl.Keeps (fun _ => True) w w') : Cl.Keeps F w w' := ⟨h.os, h.tape, h.output, h.size, fun b hb _ => h.block b hb trivial⟩
theorem Cl.keeps_of {F G : Nat → Prop} {w w' : World} (h : Cl.Keeps F w w') (hg : ∀ b, G b → F b) : Cl.Keeps G w w' := ⟨h.os, h.tape, h.output, h.size, fun b hb hk => h.block b hb (hg b hk)⟩
theorem keeps_put {F : Nat → Prop} {g k : Nat} {v : Value} {w wr : World} (h : Cl.Keeps F w wr) (hF : ¬ F g) : Cl.Keeps F w (wr.setCell ⟨g, k, none⟩ v) :=
  ⟨h.os, h.tape, h.output, by simpa [World.setCell] using h.size, fun b hb hk => (Below.heap_setCell _ _ _ b (fun e => hF (by rw [← show b = g from e]; exact hk))).trans (h.block b hb hk)⟩
theorem Cl.all_cell {w w' : World} (h : Cl.Keeps (fun _ => True) w w') {p : Addr} (hp : p.block < w.heap.size) : w'.cell? p = w.cell? p := World.cell?_of_block (h.block _ hp trivial)
theorem RowC.lt {w : World} {k n : Nat} (h : RowC w k n) : k < w.heap.size := by
  obtain ⟨cs, h, _⟩ := h
  rcases Nat.lt_or_ge k w.heap.size with hlt | hge
  · exact hlt
  · rw [Array.getElem?_eq_none hge] at h; cases h
theorem RowC.frozen {w : World} {k n : Nat} (h : RowC w k n) (i : Nat) : w.frozen? ⟨k, i, none⟩ = false := by
  obtain ⟨cs, h, _⟩ := h
  simp [World.frozen?, h]
theorem RowC.set_ {w : World} {k n : Nat} (h : RowC w k n) (j : Nat) (v : Value) : RowC (w.setCell ⟨k, j, none⟩ v) k n := by
  obtain ⟨cs, h, hn⟩ := h
  refine ⟨cs.setIfInBounds j v, ?_, by simpa using hn⟩
  simp only [World.setCell]
  rw [Array.getElem?_modify, h]
  simp
theorem Half.block {w w' : World} {k n i : Nat} {ps : List (Int × Int)} {xs : List Nat} (h : Half w k n ps xs i) (hk : w'.heap[k]? = w.heap[k]?) : Half w' k n ps xs i := ⟨h.1.block hk, fun j hj => (h.2 j hj).block hk⟩
theorem Half.keep {w w' : World} {k n i : Nat} {ps : List (Int × Int)} {xs : List Nat} (h : Half w k n ps xs i) (hk : Cl.Keeps (fun _ => True) w w') : Half w' k n ps xs i := h.block (hk.block _ h.1.lt trivial)
theorem CellC.other {w : World} {k j i : Nat} {q : Int × Int} {st : Int} {x : Nat} (h : CellC w k j q st x) (hij : j ≠ i) (u v : Value) : CellC ((w.setCell ⟨k, i * 2, none⟩ u).setCell ⟨k, i * 2 + 1, none⟩ v) k j q st x := by
  obtain ⟨⟨x, y, h1, hx, hy⟩, s, h2, h3⟩ := h
  refine ⟨⟨x, y, ?_, hx, hy⟩, s, ?_, h3⟩
  · rw [World.cell?_setCell_other _ _ _ _ (by intro e; injection e; omega), World.cell?_setCell_other _ _ _ _ (by intro e; injection e; omega)]; exact h1
  · rw [World.cell?_setCell_other _ _ _ _ (by intro e; injection e; omega), World.cell?_setCell_other _ _ _ _ (by intro e; injection e; omega)]; exact h2
theorem run_store_cx {P : Program} {w : World} {a : Addr} {m : Mode} (k : FloatKind) (x y : Nat) : (store a (.complex k x y) m).run P w = stored P w a (.complex k x y) m := run_store P w a _ m rfl
/-- one cell more -/
theorem Half.step {w : World} {k n i : Nat} {ps : List (Int × Int)} {xs : List Nat} (h : Half w k n ps xs i) (hi : i < n) : ∃ u v, w.cell? ⟨k, i * 2, none⟩ = some u ∧ w.frozen? ⟨k, i * 2, none⟩ = false ∧ (∀ x, (w.setCell ⟨k, i * 2, none⟩ x).cell? ⟨k, i * 2 + 1, none⟩ = some v) ∧ (∀ x, (w.setCell ⟨k, i * 2, none⟩ x).frozen? ⟨k, i * 2 + 1, none⟩ = false) ∧
    Hid (Half ((w.setCell ⟨k, i * 2, none⟩ (.complex .f64 (L ((syAt xs i : Nat) / 32 : Int)) (L (syAt xs i : Nat)))).setCell ⟨k, i * 2 + 1, none⟩ (.int .u16 (syAt xs i : Nat))) k n ps xs (i + 1)) := by
  obtain ⟨⟨x, y, h1, hx, hy⟩, s, h2, h3⟩ := h.2 i hi
  refine ⟨_, _, h1, h.1.frozen _, fun x => (World.cell?_setCell_other _ _ _ _ (by intro e; injection e; omega)).trans h2, fun x => (h.1.set_ _ _).frozen _, ⟨(h.1.set_ _ _).set_ _ _, fun j hj => ?_⟩⟩
  by_cases e : j = i
  · subst e
    rw [if_pos (by omega), if_pos (by omega)]
    refine ⟨⟨_, _, ?_, is_L1 _, is_L2 _⟩, _, ?_, fun _ => rfl⟩
    · rw [World.cell?_setCell_other _ _ _ _ (by intro e; injection e; omega)]
      exact World.cell?_setCell_same _ _ _ h1
    · refine World.cell?_setCell_same _ _ _ ((World.cell?_setCell_other _ _ _ _ (by intro e; injection e; omega)).trans h2)
  · have := (h.2 j hj).other e (.complex .f64 (L ((syAt xs i : Nat) / 32 : Int)) (L (syAt xs i : Nat))) (.int .u16 (syAt xs i : Nat))
    by_cases e2 : j < i
    · rw [if_pos e2, if_pos e2] at this
      rw [if_pos (by omega), if_pos (by omega)]; exact this
    · rw [if_neg e2, if_neg e2] at this
      rw [if_neg (by omega), if_neg (by omega)]; exact this
attribute [local go_sem] run_store_cx
set_option maxRecDepth 20000 in
set_option maxHeartbeats 4000000 in
theorem p_prog {w : World} {F : Nat → Prop} {p : Addr} {ps : List (Int × Int)} {ss : List Nat} (h : Page w F p ps ss 0) {A : Option Addr} {xs : List Nat} {c n : Nat} (hn' : xs.length = n) (hnc : n ≤ c) (hs : Sl w w.heap.size A xs) (hA : ∀ a, A = some a → ¬ F a.block) (hl : xs.length = ps.length) (hn : xs.length ≤ 65536) (hx : ∀ x ∈ xs, x < 1024) (keep : Int) (hk : -9223372036854775808 ≤ keep ∧ keep ≤ 9223372036854775807) :
    Calls Try.prog 82 #[.pointer (some p), .slice A n c, .int .i64 keep] w fun e w' => e = .returned (.int .i64 0) ∧ Cl.Keeps (fun b => ¬ F b) w w' ∧ ∃ ss', Page w' F p (progP ps xs keep) ss' (progS xs.length keep) ∧ (0 < keep → ss' = xs) := by
  obtain ⟨⟨g, k, d, rfl, hg, hgl, hk', hkl, hgk, hfr, c0, c1, hr, hc⟩, hbd, hsm⟩ := h
  have hany : anyC xs = false := anyC_none fun i hi => hx _ (List.getElem_mem hi)
  have hcc := Lib.hid (ccontains_any A c xs w hs (by omega) n hn')
  rw [hany] at hcc
  rw [← hl, hn'] at c0 hr hc
  have hH0 : Hid (Half w k n ps xs 0) := ⟨hr, fun j hj => by
    obtain ⟨h1, s, h2, h3⟩ := hc j hj
    rw [if_neg (by omega), if_neg (by omega)]
    exact ⟨h1, s, h2, fun e => by cases e⟩⟩
  obtain ⟨m, hm⟩ : ∃ m : Nat, m = (min (max keep 0) (n : Int)).toNat := ⟨_, rfl⟩
  have hmn : m ≤ n := by omega
  have hmc : m ≤ c := by omega
  have e1 : (if keep < 0 then 0 else keep) = max keep 0 := by split <;> omega
  have e2 : (if 0 ≤ keep then keep else 0) = max keep 0 := by split <;> omega
  have e3 : (if (n : Int) < max keep 0 then (n : Int) else max keep 0) = (m : Int) := by split <;> omega
  obtain ⟨K, hK⟩ : ∃ K : Int, max keep 0 = K := ⟨_, rfl⟩
  rw [hK] at e1 e2 e3
  have hmm := Lib.hid (show (m : Int) = min (max keep 0) n by omega)
  clear hm hK hany hr hc hk
  replace hs := Lib.hid hs
  replace hn' := Lib.hid hn'
  replace hx := Lib.hid hx
  replace hbd := Lib.hid hbd
  replace hl := Lib.hid hl
  replace hn := Lib.hid hn
  go_enter Try.func82, Try.ntmps82
  go_wp2_with (go_at_call 79; (with_reducible refine hcc.out.mono ?_); rintro e w1 ⟨rfl, rfl⟩)
  go_loopw [38] (fun q wr => ∃ i : Nat, i ≤ m ∧ q = .int .i64 i ∧ Half wr k n ps xs i ∧ Cl.Keeps (fun b => b ≠ k) w wr) (fun q _ => m - (intOf q).toNat)
  case atStart => exact ⟨0, Nat.zero_le _, rfl, hH0.out, Cl.Keeps.refl _ _⟩
  case round =>
    obtain ⟨i, hi, rfl, hH, hK⟩ := hrel
    by_cases hin : i < m
    · have hiI : (i : Int) < (m : Int) := by omega
      have hdi : decide (i < m) = true := decide_eq_true hin
      obtain ⟨s, rfl, hsb, hsc⟩ := (hs.out).at_ (i := i) (by rw [hn'.out]; omega)
      rw [← syAt_get (by rw [hn'.out]; omega)] at hsc
      have hX := syAt_lt hx.out i
      have hsk : s.block ≠ k := fun e => hA s rfl (by rw [e]; exact hk')
      have hscr : wr.cell? (s.add i) = some (.int .u16 (syAt xs i : Int)) := (World.cell?_of_block (hK.block _ (by rw [add_block]; exact hsb) (by rw [add_block]; exact hsk))).trans hsc
      have hc0r : wr.cell? ⟨g, 0, none⟩ = some (.slice (some ⟨k, 0, none⟩) n d) := (World.cell?_of_block (hK.block g hgl hgk)).trans c0
      obtain ⟨X, hXe⟩ : ∃ X, Hid (syAt xs i = X) := ⟨_, Lib.hid rfl⟩
      rw [hXe.out] at hscr hX
      have hof := Lib.hid (fun w => of_any (X : Int) w (by omega) (by omega))
      replace hH := Lib.hid hH
      replace hK := Lib.hid hK
      have hinn : i < n := by omega
      have hi6 : i < 65536 := by have := hn.out; rw [hn'.out] at this; omega
      have hinI : (i : Int) < (n : Int) := by omega
      clear hsc hX
      go_wp2_with fail
      refine Cl.region_way (fun _ => True) 10 [(0, .r), (1, .r), (2, .r), (3, .r), (4, .r), (5, .r), (7, .r), (6, .c), (8, .r), (9, .r), (10, .z)] (by kernel_rfl) (by kernel_rfl) ?_
      intro w2 hk1
      have hK2 := Lib.hid (hK.out.trans (Cl.keeps_mono' hk1))
      have hH2 := Lib.hid (hH.out.keep hk1)
      have hcg : ∀ y : Cl.Since (fun _ => True) w2, y.w.cell? ⟨g, 0, none⟩ = some (.slice (some ⟨k, 0, none⟩) n d) := fun y => (Cl.all_cell y.keeps (p := ⟨g, 0, none⟩) (Nat.lt_of_lt_of_le hgl (Nat.le_trans hK.out.size hk1.size))).trans ((Cl.all_cell hk1 (p := ⟨g, 0, none⟩) (Nat.lt_of_lt_of_le hgl hK.out.size)).trans hc0r)
      iterate 7 (refine Cl.way_r rfl ?_; go_big_quiet_step (fail); refine wpQuiet_nil ?_)
      clear hcg hk1 hK hH
      refine Cl.way_c rfl ?_
      go_wp2_with (go_at_call 96; (with_reducible refine (hof.out _).mono ?_); rintro e w3 ⟨rfl, rfl⟩)
      refine Cl.way_on (Cl.Keeps.refl _ _) ?_
      iterate 2 (refine Cl.way_r rfl ?_; go_big_quiet_step (fail); refine wpQuiet_nil ?_)
      refine Cl.way_z rfl ?_
      obtain ⟨u0, v0, h00, hf0, h10, hf1, hnx⟩ := hH2.out.step hinn
      rw [hXe.out] at hnx
      go_wp2_with fail
      refine Cl.Calm.normal ?_
      have hK3 := Lib.hid (keeps_put (keeps_put hK2.out (g := k) (k := i * 2) (v := .complex .f64 (L ((X : Int) / 32)) (L (X : Int))) (by simp)) (g := k) (k := i * 2 + 1) (v := .int .u16 (X : Int)) (by simp))
      clear h00 hf0 h10 hf1 hH2 hK2
      generalize (w2.setCell ⟨k, i * 2, none⟩ (.complex .f64 (L ((X : Int) / 32)) (L (X : Int)))).setCell ⟨k, i * 2 + 1, none⟩ (.int .u16 (X : Int)) = w5 at hK3 hnx ⊢
      go_wp2_with fail
      go_roundw
      case rel => exact ⟨i + 1, by omega, by go_num, hnx.out, hK3.out⟩
      case measure => simp [intOf]; omega
    · obtain rfl : i = m := by omega
      have hdi : decide (i < i) = false := decide_eq_false (Nat.lt_irrefl _)
      have hb := Lib.hid (behind_any keep n)
      have hgr := hK.block g hgl hgk
      have c1r : wr.cell? ⟨g, 1, none⟩ = some (.int .i64 0) := (World.cell?_of_block hgr).trans c1
      have hfr1 : wr.frozen? ⟨g, 1, none⟩ = false := (frozen_block hgr 1).trans (hfr 1)
      replace hH := Lib.hid hH
      replace hK := Lib.hid hK
      replace hgr := Lib.hid hgr
      obtain ⟨S, hS⟩ : ∃ S, Hid (progS n keep = S) := ⟨_, Lib.hid rfl⟩
      rw [hS.out] at hb
      go_wp2_with (go_at_call 97; (with_reducible refine (hb.out _).mono ?_); rintro e w3 ⟨rfl, rfl⟩)
      go_ret
      have hK2 : Cl.Keeps (fun b => ¬ F b) w (wr.setCell ⟨g, 1, none⟩ (.int .i64 S)) := keeps_put (Cl.keeps_of (G := fun b => ¬ F b) hK.out (fun b hb e => hb (by rw [e]; exact hk'))) (fun h => h hg)
      have hkr : (wr.setCell ⟨g, 1, none⟩ (.int .i64 S)).heap[k]? = wr.heap[k]? := Below.heap_setCell _ _ _ _ (by show k ≠ g; omega)
      have hsz := hK2.size
      refine ⟨rfl, hK2, xs, ⟨⟨g, k, d, rfl, hg, by omega, hk', by omega, hgk, fun j => ?_, ?_, ?_, ?_, fun j hj => ?_⟩, fun j => ?_, ?_⟩, fun _ => rfl⟩
      · rw [World.frozen?_setCell]
        exact (frozen_block hgr.out j).trans (hfr j)
      · rw [prog_len, ← hl.out, hn'.out, World.cell?_setCell_other _ _ _ _ (by intro e; injection e; omega)]
        exact (World.cell?_of_block hgr.out).trans c0
      · rw [hn'.out, hS.out]
        exact World.cell?_setCell_same _ _ _ c1r
      · rw [prog_len, ← hl.out, hn'.out]
        exact hH.out.1.block hkr
      · rw [prog_len, ← hl.out, hn'.out] at hj
        obtain ⟨q1, s, q2, q3⟩ := (hH.out.2 j hj).block hkr
        have hmi := hmm.out
        rw [prog_at (by rw [← hl.out, hn'.out]; exact hj)]
        refine ⟨?_, s, q2, fun e => q3 ?_⟩
        · by_cases hji : j < i
          · rw [if_pos hji] at q1
            rw [if_pos (by omega)]; exact q1
          · rw [if_neg hji] at q1
            rw [if_neg (by omega)]; exact q1
        · rw [hn'.out] at e
          unfold progS at e
          by_cases k0 : keep ≤ 0
          · rw [if_pos k0] at e; cases e
          · by_cases k1 : (n : Int) ≤ keep
            · rw [if_pos (by omega)]
            · rw [if_neg k0, if_neg k1] at e; cases e
      · rcases Nat.lt_or_ge j ps.length with hj | hj
        · rw [prog_at hj]
          split
          · have := pt_range (syAt xs j)
            omega
          · exact hbd.out j
        · have e : ptAt (progP ps xs keep) j = (0, 0) := by
            unfold ptAt
            rw [List.getD_eq_getElem?_getD, List.getElem?_eq_none (by rw [prog_len]; exact hj)]; rfl
          rw [e]; decide
      · rw [prog_len]; exact hsm
end Go.Proofs.Ytnndhbppgmnefaa
