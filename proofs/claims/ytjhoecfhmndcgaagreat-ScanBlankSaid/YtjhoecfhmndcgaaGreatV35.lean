/- The program's frame: what symbols say. · The program's frame: what the codewords of a page say together. -/
import Derived.Test.YtjhoecfhmndcgaaGreatV33
import Derived.Test.YtjhoecfhmndcgaaGreatV06
import Derived.Test.YtjhoecfhmndcgaaGreatV24
import Derived.Deep.CutRange
import Derived.Test.YtjhoecfhmndcgaaGreatV34
namespace Go.Proofs.YtjhoecfhmndcgaaGreat
open Go.RowKit Go.Gf Go.Fl
set_option linter.unusedVariables false
set_option linter.unusedSimpArgs false
set_option maxRecDepth 20000
attribute [local go_sem ↓] exec_load_tb Cl.quiet_since
attribute [local go_sem] tbAt_ptr tbIn_ptr

/-- block g is a head of one's own -/
def Hdo (w : World) (g : Nat) (k l q : Int) : Prop := w.heap[g]? = some (.cells #[.int .i64 k, .int .i64 l, .int .i64 q] 27 (0, 0))
theorem Hdo.lt {w : World} {g : Nat} {k l q : Int} (h : Hdo w g k l q) : g < w.heap.size := by
  rcases Nat.lt_or_ge g w.heap.size with hlt | hge
  · exact hlt
  · unfold Hdo at h; rw [Array.getElem?_eq_none hge] at h; cases h
theorem Hdo.hed {w : World} {g : Nat} {k l q : Int} (h : Hdo w g k l q) : Hed w g k l q := ⟨h.lt, Ge.cell_of h 0, Ge.cell_of h 1, Ge.cell_of h 2⟩
theorem Hdo.frozen {w : World} {g : Nat} {k l q : Int} (h : Hdo w g k l q) (i : Nat) : w.frozen? ⟨g, i, none⟩ = false := by unfold Hdo at h; simp [World.frozen?, h]
theorem Hdo.keep {w w' : World} {g : Nat} {k l q : Int} (h : Hdo w g k l q) (hb : Below w.heap.size w w') : Hdo w' g k l q := (hb.block g h.lt).trans h
theorem Hdo.new (w : World) (k l q : Int) : Hdo (w.alloc (.cells #[.int .i64 k, .int .i64 l, .int .i64 q] 27)) w.heap.size k l q := heap_alloc_new w _
theorem Hdo.set_ {w : World} {g : Nat} {k l q : Int} (h : Hdo w g k l q) (k' l' q' : Int) : Hdo (((w.setCell ⟨g, 0, none⟩ (.int .i64 k')).setCell ⟨g, 1, none⟩ (.int .i64 l')).setCell ⟨g, 2, none⟩ (.int .i64 q')) g k' l' q' := by
  unfold Hdo at h ⊢
  simp only [World.setCell]
  rw [Array.getElem?_modify, if_pos rfl, Array.getElem?_modify, if_pos rfl, Array.getElem?_modify, if_pos rfl, h]
  rfl
theorem below_set3 {w0 w : World} {g : Nat} (h : Below w0.heap.size w0 w) (hg : w0.heap.size ≤ g) (x y z : Value) : Below w0.heap.size w0 (((w.setCell ⟨g, 0, none⟩ x).setCell ⟨g, 1, none⟩ y).setCell ⟨g, 2, none⟩ z) :=
  ((h.setCell (show w0.heap.size ≤ g from hg) x).setCell (show w0.heap.size ≤ g from hg) y).setCell (show w0.heap.size ≤ g from hg) z
/-- bytes don't lie in a head -/
theorem Hdo.ne {w : World} {g B : Nat} {k l q : Int} {A : Option Addr} {xs : List Nat} (h : Hdo w g k l q) (hs : Sb w B A xs) : xs = [] ∨ ∀ a, A = some a → a.block ≠ g := by
  rcases hs.2 with e | ⟨a', e2, hb, hc⟩
  · exact Or.inl e
  · by_cases hx : xs = []
    · exact Or.inl hx
    · refine Or.inr fun a e hg => ?_
      rw [e] at e2
      injection e2 with e2
      subst e2
      have h0 : 0 < xs.length := List.length_pos_iff.2 hx
      have := hc 0 h0
      unfold Hdo at h
      unfold World.cell? at this
      rw [add_block, hg, h] at this
      dsimp only at this
      split at this
      · cases this
      · have hm := Array.mem_of_getElem? this
        simp [ub] at hm
theorem Sb.setOther {w : World} {g i B : Nat} {A : Option Addr} {xs : List Nat} {v : Value} (h : Sb w B A xs) (hne : xs = [] ∨ ∀ a, A = some a → a.block ≠ g) : Sb (w.setCell ⟨g, i, none⟩ v) B A xs := by
  refine ⟨h.1, ?_⟩
  rcases h.2 with e | ⟨a, rfl, hb, hc⟩
  · exact Or.inl e
  · rcases hne with e | hne
    · exact Or.inl e
    · refine Or.inr ⟨a, rfl, hb, fun k hk => ?_⟩
      have hg : (w.setCell ⟨g, i, none⟩ v).heap[(a.add k).block]? = w.heap[(a.add k).block]? := by
        rw [add_block]
        simp only [World.setCell]
        rw [Array.getElem?_modify, if_neg (fun e => hne a rfl e.symm)]
      rw [World.cell?_of_block hg]
      exact hc k hk
/-- what said is to answer -/
def Sad (N : Nat) (s : List Nat) (w : World) (e : Ending) (w' : World) : Prop :=
  ((sayB N s = false ∧ e = .returned (.tuple #[.agg #[.int .i64 0, .int .i64 0, .int .i64 0], .slice none 0 0, .bool false])) ∨
   ∃ A c, sayB N s = true ∧ e = .returned (.tuple #[.agg #[.int .i64 ((sayK s : Nat) : Int), .int .i64 ((sayN s : Nat) : Int), .int .i64 ((sayQ s : Nat) : Int)], .slice A (sayD N s).length c, .bool true]) ∧ (sayD N s).length ≤ c ∧ Sb w' w'.heap.size A (sayD N s)) ∧ Below w.heap.size w w'
theorem at_part (s : List Nat) {i n j : Nat} (h : j < n) : at_ ((s.drop i).take n) j = at_ s (i + j) := by
  unfold at_
  rw [List.getD_eq_getElem?_getD, List.getD_eq_getElem?_getD, List.getElem?_take, if_pos h, List.getElem?_drop]
/-- the number that a part of the symbols says -/
theorem num_part {a : Addr} {s : List Nat} {w : World} {c : Nat} (hs : Sl w w.heap.size (some a) s) (hb : ∀ y ∈ s, y < 1024) (i n m : Nat) (hi : i + n ≤ s.length) (hn : n ≤ 4) (hm : numL ((s.drop i).take n) n = m) :
    Calls Tryz.prog 88 #[.slice (some (a.add i)) n c] w fun e w' => e = .returned (.int .i64 (m : Int)) ∧ w = w' := by
  have hl : ((s.drop i).take n).length = n := by rw [List.length_take, List.length_drop]; omega
  have := fnum_any (some (a.add i)) c _ w (hs.part i n hi) (by rw [hl]; exact hn) (fun x hx => hb x (List.mem_of_mem_drop (List.mem_of_mem_take hx)))
  rw [hl, hm] at this
  exact this
set_option maxHeartbeats 8000000 in
theorem said_any {B P : Int} {W K N : Nat} {A : Option Addr} {c : Nat} {s : List Nat} {w : World} (hM : Ge.mayG B P (W : Int) (K : Int) = true) (hN : W * K = N) (hs : Sl w w.heap.size A s) (hl : s.length = N) (hb : ∀ y ∈ s, y < 1024) (hc : N ≤ c) :
    Calls Tryz.prog 67 #[.agg #[.int .i64 B, .int .i64 P, .int .i64 (W : Int), .int .i64 (K : Int)], .slice A s.length c] w (Sad N s w) := by
  have H := Lib.hid hs
  have HB := Lib.hid hb
  have HL := Lib.hid hl
  obtain ⟨W', K', N', hWe, hKe, hN', hW1, hW4, hK1, hK64, h8, h256, hsg, _⟩ := mayG_of hM
  obtain rfl : W = W' := Int.ofNat.inj hWe
  obtain rfl : K = K' := Int.ofNat.inj hKe
  have hNN : N' = N := by omega
  subst hNN
  obtain ⟨a, rfl, hab, hcel⟩ := hs.2.resolve_left (by intro e; rw [e] at hl; simp at hl; omega)
  rw [hl]
  have hb0 := Ge.below_alloc w (.cells #[.int .i64 B, .int .i64 P, .int .i64 (W : Int), .int .i64 (K : Int)] 34)
  obtain ⟨wa, hwa⟩ : ∃ wa, wa = w.alloc (.cells #[.int .i64 B, .int .i64 P, .int .i64 (W : Int), .int .i64 (K : Int)] 34) := ⟨_, rfl⟩
  obtain ⟨wb, hwb⟩ : ∃ wb, wb = wa.alloc (.cells #[.int .i64 0, .int .i64 0, .int .i64 0] 27) := ⟨_, rfl⟩
  rw [← hwa] at hb0
  have hza : wa.heap.size = w.heap.size + 1 := by rw [hwa, World.size_alloc]
  have hbb : Below w.heap.size w wb := hb0.trans (by rw [hwb]; exact (Ge.below_alloc wa _).mono hb0.size)
  have hX : Ge.Box wb w.heap.size B P W K := by
    have := Ge.Box.new w B P W K
    rw [← hwa] at this
    exact this.keep (by rw [hwb]; exact Ge.below_alloc wa _)
  have hH : Hdo wb (w.heap.size + 1) 0 0 0 := by
    have := Hdo.new wa 0 0 0
    rwa [← hwb, hza] at this
  replace hcel := Lib.hid hcel
  clear hs hl hb
  go_enter Tryz.func67, Tryz.ntmps67
  go_wp2_with fail
  rw [← hwa, ← hwb]
  replace hX := Lib.hid hX
  replace hH := Lib.hid hH
  replace hbb := Lib.hid hbb
  clear hwa hwb hza hb0
  go_cut [7] from 10 to 19 (fun p wx => ∃ g, p = .pointer (some ⟨g, 0, none⟩) ∧ Hed wx g (sayK s : Int) (sayN s : Int) (sayQ s : Int) ∧ Below wb.heap.size wb wx)
  case first =>
    refine Cl.region_tree (fun _ => True) 11 (.r 0 <| .r 1 <| .r 3 <| .r 4 <| .r 6 <| .r 7 <| .b 2 10 (.b 5 10 (.b 8 10 (.r 9 <| .c 10 <| .z 11) (.c 8 <| .r 9 <| .z 11)) (.c 5 <| .c 8 <| .r 9 <| .z 11)) (.c 2 <| .c 5 <| .c 8 <| .r 9 <| .z 11)) (by kernel_rfl) (by kernel_rfl) ?_
    intro w1 hk1
    have hbw1 := hbb.out.trans ((Cl.Keeps.below hk1).mono hbb.out.size)
    have hB0 := Lib.hid hbw1
    have hB1 := Lib.hid (hbw1.trans ((Ge.below_alloc w1 (.cells #[.int .i64 0, .int .i64 0, .int .i64 0] 27)).mono hbw1.size))
    have hB2 := Lib.hid ((Cl.Keeps.below hk1).trans ((Ge.below_alloc w1 (.cells #[.int .i64 ((sayK s : Nat) : Int), .int .i64 ((sayN s : Nat) : Int), .int .i64 ((sayQ s : Nat) : Int)] 27)).mono (Cl.Keeps.below hk1).size))
    have hN1 := Lib.hid (Hed.new w1 (sayK s : Int) (sayN s : Int) (sayQ s : Int))
    have q1 : Hid (∀ w', Below w.heap.size w w' → Calls Tryz.prog 88 #[.slice (some a) 1 c] w' fun e w'' => e = .returned (.int .i64 ((sayK s : Nat) : Int)) ∧ w' = w'') := fun w' hb => num_part (H.out.far hb) HB.out 0 1 _ (by rw [HL.out]; omega) (by decide) (by rw [numL_one, at_part s (by decide)]; rfl)
    have q2 : Hid (∀ w', Below w.heap.size w w' → Calls Tryz.prog 88 #[.slice (some ⟨a.block, a.off + 1, none⟩) 2 (c - 1)] w' fun e w'' => e = .returned (.int .i64 ((sayN s : Nat) : Int)) ∧ w' = w'') := fun w' hb => num_part (H.out.far hb) HB.out 1 2 _ (by rw [HL.out]; omega) (by decide) (by rw [numL_two, at_part s (by decide), at_part s (by decide)]; rfl)
    have q3 : Hid (∀ w', Below w.heap.size w w' → Calls Tryz.prog 88 #[.slice (some ⟨a.block, a.off + 3, none⟩) 4 (c - 3)] w' fun e w'' => e = .returned (.int .i64 ((sayQ s : Nat) : Int)) ∧ w' = w'') := fun w' hb => num_part (H.out.far hb) HB.out 3 4 _ (by rw [HL.out]; omega) (by decide) (by rw [numL_four, at_part s (by decide), at_part s (by decide), at_part s (by decide), at_part s (by decide)]; rfl)
    iterate 6 (refine Cl.tree_r rfl ?_; go_big_quiet_step (fail); refine wpQuiet_nil ?_)
    clear hbw1 hk1 hX hH
    refine Cl.tree_b rfl rfl ?_ ?_
    · go_wp2_with (go_at_call 88; (with_reducible refine (q1.out _ hB0.out).mono ?_); rintro e w2 ⟨rfl, rfl⟩)
      refine Cl.way_on (Cl.Keeps.refl _ _) ?_
      refine Cl.tree_b rfl rfl ?_ ?_
      · go_wp2_with (go_at_call 88; (with_reducible refine (q2.out _ hB0.out).mono ?_); rintro e w2 ⟨rfl, rfl⟩)
        refine Cl.way_on (Cl.Keeps.refl _ _) ?_
        refine Cl.tree_b rfl rfl ?_ ?_
        · go_wp2_with (go_at_call 88; (with_reducible refine (q3.out _ hB0.out).mono ?_); rintro e w2 ⟨rfl, rfl⟩)
          refine Cl.way_on (Cl.Keeps.refl _ _) ?_
          refine Cl.tree_r rfl ?_
          go_big_quiet_step (fail)
          refine wpQuiet_nil ?_
          refine Cl.tree_c rfl ?_
          go_wp2_with fail
          refine Cl.way_on (Cl.Keeps.of_below (Ge.below_alloc _ _)) ?_
          refine Cl.tree_z rfl ?_
          go_wp2_with fail
          refine Cl.Calm.normal ?_
          go_wp2_with fail
          go_meet
          exact ⟨_, rfl, hN1.out, hB2.out⟩
        · go_wp2_with fail
          refine Cl.way_on (Cl.Keeps.of_below (Ge.below_alloc _ _)) ?_
          refine Cl.tree_c rfl ?_
          go_wp2_with (go_at_call 88; (with_reducible refine (q3.out _ hB1.out).mono ?_); rintro e w2 ⟨rfl, rfl⟩)
          refine Cl.way_on (Cl.Keeps.refl _ _) ?_
          refine Cl.tree_r rfl ?_
          go_big_quiet_step (fail)
          refine wpQuiet_nil ?_
          refine Cl.tree_z rfl ?_
          go_wp2_with fail
          refine Cl.Calm.normal ?_
          go_wp2_with fail
          go_meet
          exact ⟨_, rfl, hN1.out, hB2.out⟩
      · go_wp2_with fail
        refine Cl.way_on (Cl.Keeps.of_below (Ge.below_alloc _ _)) ?_
        refine Cl.tree_c rfl ?_
        go_wp2_with (go_at_call 88; (with_reducible refine (q2.out _ hB1.out).mono ?_); rintro e w2 ⟨rfl, rfl⟩)
        refine Cl.way_on (Cl.Keeps.refl _ _) ?_
        refine Cl.tree_c rfl ?_
        go_wp2_with (go_at_call 88; (with_reducible refine (q3.out _ hB1.out).mono ?_); rintro e w2 ⟨rfl, rfl⟩)
        refine Cl.way_on (Cl.Keeps.refl _ _) ?_
        refine Cl.tree_r rfl ?_
        go_big_quiet_step (fail)
        refine wpQuiet_nil ?_
        refine Cl.tree_z rfl ?_
        go_wp2_with fail
        refine Cl.Calm.normal ?_
        go_wp2_with fail
        go_meet
        exact ⟨_, rfl, hN1.out, hB2.out⟩
    · go_wp2_with fail
      refine Cl.way_on (Cl.Keeps.of_below (Ge.below_alloc _ _)) ?_
      refine Cl.tree_c rfl ?_
      go_wp2_with (go_at_call 88; (with_reducible refine (q1.out _ hB1.out).mono ?_); rintro e w2 ⟨rfl, rfl⟩)
      refine Cl.way_on (Cl.Keeps.refl _ _) ?_
      refine Cl.tree_c rfl ?_
      go_wp2_with (go_at_call 88; (with_reducible refine (q2.out _ hB1.out).mono ?_); rintro e w2 ⟨rfl, rfl⟩)
      refine Cl.way_on (Cl.Keeps.refl _ _) ?_
      refine Cl.tree_c rfl ?_
      go_wp2_with (go_at_call 88; (with_reducible refine (q3.out _ hB1.out).mono ?_); rintro e w2 ⟨rfl, rfl⟩)
      refine Cl.way_on (Cl.Keeps.refl _ _) ?_
      refine Cl.tree_r rfl ?_
      go_big_quiet_step (fail)
      refine wpQuiet_nil ?_
      refine Cl.tree_z rfl ?_
      go_wp2_with fail
      refine Cl.Calm.normal ?_
      go_wp2_with fail
      go_meet
      exact ⟨_, rfl, hN1.out, hB2.out⟩
  case rest =>
    obtain ⟨g, rfl, hG, hbc⟩ := hcut
    have hbw := hbb.out.trans (hbc.mono hbb.out.size)
    have hX0 := Lib.hid (hX.out.keep hbc)
    have hH0 := Lib.hid (hH.out.keep hbc)
    replace hbw := Lib.hid hbw
    replace hG := Lib.hid hG
    clear hbc hX hH hbb
    go_wp2_with fail
    refine Cl.region_way (fun _ => True) 10 [(0, .r), (1, .r), (2, .r), (3, .c), (4, .c), (5, .r), (6, .r), (7, .r), (8, .r), (9, .r)] (by kernel_rfl) (by kernel_rfl) ?_
    intro w1 hk1
    have hX1 := hX0.out.keep (Cl.Keeps.below hk1)
    have hH1 := Lib.hid (hH0.out.keep (Cl.Keeps.below hk1))
    have hG1 := Lib.hid (hG.out.keep (Cl.Keeps.below hk1))
    have hb1 := Lib.hid (hbw.out.trans ((Cl.Keeps.below hk1).mono hbw.out.size))
    have x0 : ∀ y : Cl.Since (fun _ => True) w1, y.w.cell? ⟨w.heap.size, 0, none⟩ = some (.int .i64 B) := fun y => (hX1.keep (Cl.Keeps.below y.keeps)).c0
    have x1 : ∀ y : Cl.Since (fun _ => True) w1, y.w.cell? ⟨w.heap.size, 1, none⟩ = some (.int .i64 P) := fun y => (hX1.keep (Cl.Keeps.below y.keeps)).c1
    have x2 : ∀ y : Cl.Since (fun _ => True) w1, y.w.cell? ⟨w.heap.size, 2, none⟩ = some (.int .i64 (W : Int)) := fun y => (hX1.keep (Cl.Keeps.below y.keeps)).c2
    have x3 : ∀ y : Cl.Since (fun _ => True) w1, y.w.cell? ⟨w.heap.size, 3, none⟩ = some (.int .i64 (K : Int)) := fun y => (hX1.keep (Cl.Keeps.below y.keeps)).c3
    obtain ⟨D, hD⟩ : ∃ D, 10 * (N' - 8) / 8 = D := ⟨_, rfl⟩
    have hD4 : D ≤ 400 := by omega
    have hsz := Ge.size_any B P (W : Int) (K : Int) w1
    rw [hsg, hD] at hsz
    replace hsz := Lib.hid hsz
    replace hX1 := Lib.hid hX1
    clear hk1 hX0 hH0 hG hbw
    iterate 3 (refine Cl.way_r rfl ?_; go_big_quiet_step (fail); refine wpQuiet_nil ?_)
    clear x0 x1 x2 x3
    refine Cl.way_c rfl ?_
    go_wp2_with (go_at_call 90; (with_reducible refine hsz.out.mono ?_); rintro e w2 ⟨rfl, hb2⟩)
    refine Cl.way_on (Cl.Keeps.of_below hb2) ?_
    have hX2 := hX1.out.keep hb2
    have hH2 := hH1.out.keep hb2
    have hG2 := hG1.out.keep hb2
    have hbw2 := hb1.out.trans (hb2.mono hb1.out.size)
    have hdl : (s.drop 8).length = N' - 8 := by rw [List.length_drop, HL.out]
    have hdb : ∀ x ∈ s.drop 8, x < 1024 := fun x hx => HB.out x (List.mem_of_mem_drop hx)
    have hs8 : Sl w2 w2.heap.size (some ⟨a.block, a.off + 8, none⟩) (s.drop 8) := by
      have := (H.out.far hbw2).part 8 (N' - 8) (by rw [HL.out]; omega)
      rwa [List.take_of_length_le (by rw [hdl]; exact Nat.le_refl _)] at this
    have hup := pak_unpack (c := c - 8) (n := (D : Int)) hs8 (by omega)
    have hE : upkE (s.drop 8) (D : Int) = 0 := by
      unfold upkE
      rw [if_neg (by rw [hdl]; unfold bytN; omega), if_neg]
      intro h
      rw [List.any_eq_true] at h
      obtain ⟨x, hx, h⟩ := h
      have := hdb x hx
      rw [decide_eq_true_eq] at h
      omega
    have hW' : upkW (s.drop 8) (D : Int) = sayD N' s := by
      unfold upkW sayD
      rw [hE, if_pos rfl, Int.toNat_natCast, hD]
    rw [hE, hW', hdl] at hup
    have hDl : (sayD N' s).length = D := by unfold sayD; rw [upk_len, hD]
    replace hup := Lib.hid hup
    replace hX2 := Lib.hid hX2
    replace hH2 := Lib.hid hH2
    replace hG2 := Lib.hid hG2
    replace hbw2 := Lib.hid hbw2
    replace hDl := Lib.hid hDl
    clear hs8 hdl hdb hb2 hX1 hH1 hG1 hb1 hsz hE hW'
    refine Cl.way_c rfl ?_
    go_wp2_with (go_at_call 89; (with_reducible refine hup.out.mono ?_); rintro e w3 ⟨A3, c3, rfl, hc3, hs3, hb3⟩)
    refine Cl.way_on (Cl.Keeps.of_below hb3) ?_
    rw [hDl.out] at hc3 ⊢
    have hX3 := hX2.out.keep hb3
    have hH3 := Lib.hid (hH2.out.keep hb3)
    have hG3 := hG2.out.keep hb3
    have hbw3 := Lib.hid (hbw2.out.trans (hb3.mono hbw2.out.size))
    replace hs3 := Lib.hid hs3
    clear hX2 hH2 hG2 hbw2 hb3 hup
    iterate 5 (refine Cl.way_r rfl ?_; go_big_quiet_step (fail); refine wpQuiet_nil ?_)
    refine Cl.way_end ?_
    obtain ⟨f1, f2, f3⟩ := say_of (N := N') HB.out
    have hsK := Lib.hid f1
    have hmB : mkB (sayK s : Int) (sayN s : Int) (sayQ s : Int) = decide (1 ≤ sayK s) := by
      unfold mkB
      rw [decide_eq_decide]
      omega
    have hfm := fmay_any (sayK s : Int) (sayN s : Int) (sayQ s : Int) w3
    rw [hmB] at hfm
    have hsB : sayB N' s = (decide (1 ≤ sayK s) && decide (sayL N' (sayK s) (sayN s) (sayQ s) (sayD N' s) = s)) := rfl
    obtain ⟨g1, g2, g3, g4⟩ := id hG3
    obtain ⟨m1, hm1⟩ : ∃ b, decide (1 ≤ sayK s) = b := ⟨_, rfl⟩
    rw [hm1] at hfm hsB
    replace hfm := Lib.hid hfm
    cases m1
    · have hsB := Lib.hid hsB
      go_wp2_with (go_at_call 91; (with_reducible refine hfm.out.mono ?_); rintro e w4 ⟨rfl, hb4⟩; have hH4 := hH3.out.keep hb4; obtain ⟨j1, j2, j3, j4⟩ := hH4.hed; have jf := hH4.frozen; have hbw4 := hbw3.out.trans (hb4.mono hbw3.out.size))
      refine bodyPost_ret (results_m3 rfl rfl (hH4.set_ 0 0 0).hed) rfl ?_
      exact ⟨Or.inl ⟨hsB.out, rfl⟩, below_set3 hbw4 (by omega) _ _ _⟩
    · rw [Bool.true_and] at hsB
      obtain ⟨m2, hm2⟩ : ∃ b, decide (sayL N' (sayK s) (sayN s) (sayQ s) (sayD N' s) = s) = b := ⟨_, rfl⟩
      rw [hm2] at hsB
      replace hsB := Lib.hid hsB
      have hsl := say_len (k := sayK s) (l := sayN s) (q := sayQ s) (d := sayD N' s) (by rw [hDl.out, hD]) (by omega)
      have hsb := say_bd (N := N') (d := sayD N' s) f1 f2 f3
      have hpl : Hid (∀ w', Below w3.heap.size w3 w' → Calls Tryz.prog 93 #[.agg #[.int .i64 B, .int .i64 P, .int .i64 (W : Int), .int .i64 (K : Int)], .agg #[.int .i64 (sayK s : Int), .int .i64 (sayN s : Int), .int .i64 (sayQ s : Int)], .slice A3 D c3] w'
          fun e w'' => ∃ g, e = .returned (.slice (some ⟨g, 0, none⟩) N' N') ∧ w'.heap.size ≤ g ∧ Arr w'' g (sayL N' (sayK s) (sayN s) (sayQ s) (sayD N' s)) ∧ Below w'.heap.size w' w'') := fun w' hb => by
        have := plain_any (B := B) (P := P) (c := c3) hN h8 h256 f1 f2 f3 (hs3.out.far hb) (by rw [hDl.out, hD])
        rw [hDl.out] at this
        exact this
      have heq : Hid (∀ w' g', Below w.heap.size w w' → Arr w' g' (sayL N' (sayK s) (sayN s) (sayQ s) (sayD N' s)) → Calls Tryz.prog 92 #[.slice (some ⟨g', 0, none⟩) N' N', .slice (some a) N' c] w' fun e w'' => e = .returned (.bool m2) ∧ Below w'.heap.size w' w'') := fun w' g' hb hA => by
        have := equal_any (ca := N') (cb := c) (hA.sl (fun x hx => by have := hsb x hx; omega)) (H.out.far hb) (by rw [hsl]; omega) (by rw [HL.out]; omega)
        rw [hsl, HL.out, hm2] at this
        exact this
      obtain ⟨v1, v2, v3, v4, v5⟩ := hX3
      have hX3 := Lib.hid (Ge.Box.mk v1 v2 v3 v4 v5)
      clear hsl hsb hm2
      cases m2
      all_goals
        go_wp2_with (first
          | (go_at_call 91; (with_reducible refine hfm.out.mono ?_); rintro e w4 ⟨rfl, hb4⟩; have hbw4 := hbw3.out.trans (hb4.mono hbw3.out.size); obtain ⟨n1, n2, n3, n4, n5⟩ := hX3.out.keep hb4; have hG4 := hG3.keep hb4; obtain ⟨e1, e2, e3, e4⟩ := id hG4; have hp4 := Lib.hid (hpl.out w4 hb4))
          | (go_at_call 93; (with_reducible refine hp4.out.mono ?_); rintro e w5 ⟨g5, rfl, hg5, hA5, hb5⟩; have hb35 := hb4.trans (hb5.mono hb4.size); have hbw5 := hbw3.out.trans (hb35.mono hbw3.out.size); have hq5 := Lib.hid (heq.out w5 g5 hbw5 hA5))
          | (go_at_call 92; (with_reducible refine hq5.out.mono ?_); rintro e w6 ⟨rfl, hb6⟩; have hb36 := hb35.trans (hb6.mono hb35.size); have hbw6 := hbw3.out.trans (hb36.mono hbw3.out.size); have hH6 := hH3.out.keep hb36; have hG6 := hG3.keep hb36; obtain ⟨j1, j2, j3, j4⟩ := hH6.hed; have jf := hH6.frozen; obtain ⟨o1, o2, o3, o4⟩ := hG6))
      · refine bodyPost_ret (results_m3 rfl rfl (hH6.set_ 0 0 0).hed) rfl ?_
        exact ⟨Or.inl ⟨hsB.out, rfl⟩, below_set3 hbw6 (by omega) _ _ _⟩
      · refine bodyPost_ret (results_m3 rfl rfl (hH6.set_ _ _ _).hed) rfl ?_
        refine ⟨Or.inr ⟨A3, c3, hsB.out, ?_, by rw [hDl.out]; exact hc3, ?_⟩, below_set3 hbw6 (by omega) _ _ _⟩
        · rw [hDl.out]; rfl
        · have hsb6 := hs3.out.far hb36
          have hne6 := hH6.ne hsb6
          simp only [World.size_setCell]
          exact ((hsb6.setOther hne6).setOther hne6).setOther hne6
end Go.Proofs.YtjhoecfhmndcgaaGreat
namespace Go.Proofs.YtjhoecfhmndcgaaGreat
open Go.RowKit Go.Gf Go.Fl
set_option linter.unusedVariables false
set_option linter.unusedSimpArgs false
set_option maxRecDepth 20000
attribute [local go_sem ↓] exec_load_tb Cl.quiet_since
attribute [local go_sem] tbAt_ptr tbIn_ptr

theorem WdIs.yes {w : World} {g m : Nat} {ys : List Nat} {x y b : Value} (h : WdIs w g (some ys) m x y b) : ∃ A c, x = .slice A ys.length c ∧ ys.length ≤ c ∧ Sl w w.heap.size A ys ∧ (ys = [] ∨ ∀ a, A = some a → a.block ≠ g) ∧ y = .int .i64 (m : Int) ∧ b = .bool true := h
theorem WdIs.no {w : World} {g m : Nat} {x y b : Value} (h : WdIs w g none m x y b) : x = .slice none 0 0 ∧ y = .int .i64 (m : Int) ∧ b = .bool false := h
set_option maxHeartbeats 8000000 in
theorem joined_any {B P : Int} {W K g : Nat} {f : Nat → Value} {r : Nat → Option (List Nat)} {m : Nat → Nat} {w : World} (hW : 1 ≤ W ∧ W ≤ 4) (hK : 1 ≤ K ∧ K ≤ 64) (h : WdsI w g W f r m W) (k : Nat) (ws : Nat → List Nat) (hk : k ≤ W) (hall : ∀ j, j < k → r j = some (ws j)) (hl : ∀ j, j < k → (ws j).length = K + 16) (hno : k < W → r k = none) (hm : ∀ j, j < W → m j ≤ 8) :
    Calls Tryz.prog 65 #[.agg #[.int .i64 B, .int .i64 P, .int .i64 (W : Int), .int .i64 (K : Int)], .slice (some ⟨g, 0, none⟩) W W] w
      fun e w' => ((k < W ∧ e = .returned (.tuple #[.slice none 0 0, .int .i64 0, .bool false])) ∨ (k = W ∧ ∃ v, e = .returned (.tuple #[v, .int .i64 ((mxF m W : Nat) : Int), .bool true]) ∧ OwnS w w' v (sayW W K ws))) ∧ Below w.heap.size w w' := by
  have H := Lib.hid h
  obtain ⟨wb, hwb⟩ : ∃ wb, wb = w.alloc (.cells #[.int .i64 B, .int .i64 P, .int .i64 (W : Int), .int .i64 (K : Int)] 34) := ⟨_, rfl⟩
  have hz : wb.heap.size = w.heap.size + 1 := by rw [hwb, World.size_alloc]
  have hbb : Below w.heap.size w wb := by rw [hwb]; exact Ge.below_alloc w _
  have hX : Ge.Box wb w.heap.size B P W K := by
    have := Ge.Box.new w B P W K
    rwa [← hwb] at this
  have hmk : ∀ w, (Instr.makeSlice 84 (.int .i64 (W : Int)) (.int .i64 (W : Int))).run Tryz.prog w = .ok (.slice (some ⟨w.heap.size, 0, none⟩) W W) (w.alloc (.cells (madeCells #[.slice none 0 0] W) 41)) :=
    run_make_row' (P := Tryz.prog) 84 41 (.slice none 0 0) 24 Tryz.underlying84 info23w rfl .i64 .i64 W (by omega) (by omega)
  have hgl := H.out.pre.lt
  have hR0 : RowsI (wb.alloc (.cells (madeCells #[.slice none 0 0] W) 41)) wb.heap.size W (fun _ => .slice none 0 0) (fun j => if j < 0 then (ws j).take K else []) := ⟨Vs.start wb W, fun j hj => ⟨none, 0, rfl, Nat.le_refl _, ⟨fun x hx => by simp at hx, Or.inl rfl⟩, Or.inl rfl⟩⟩
  have hB0 := hbb.trans ((Ge.below_alloc wb (.cells (madeCells #[.slice none 0 0] W) 41)).mono hbb.size)
  clear h
  go_enter Tryz.func65, Tryz.ntmps65
  go_wp2_with fail
  rw [← hwb, ← hz]
  clear hwb
  replace hz := Lib.hid hz
  go_loopw [8, 18] (fun q p wr => ∃ i : Nat, i ≤ k ∧ p = .int .i64 i ∧ q = .int .i64 ((mxF m i : Nat) : Int) ∧ (∃ f, RowsI wr wb.heap.size W f (fun j => if j < i then (ws j).take K else [])) ∧ Ge.Box wr w.heap.size B P W K ∧ Below w.heap.size w wr) (fun _ p _ => W - (intOf p).toNat)
  case atStart => exact ⟨0, Nat.zero_le _, rfl, rfl, ⟨_, hR0⟩, hX.keep (Ge.below_alloc wb _), hB0⟩
  case round =>
    clear hR0 hB0 hmk
    obtain ⟨i, hi, rfl, rfl, ⟨fr, hR⟩, hXr, hB⟩ := hrel
    by_cases hlt : i < k
    · have hiW : i < W := by omega
      have hiI : (i : Int) < (W : Int) := by omega
      have hdi : decide (i < W) = true := decide_eq_true hiW
      have hWr := H.out.keep hB
      have hei := hWr.each i hiW
      rw [hall i hlt] at hei
      have hli := hl i hlt
      obtain ⟨A, c, e0, hc, hs, hne, e1, e2⟩ := hei.yes
      have c0 := hWr.c0 hiW
      have c1 := hWr.c1 hiW
      have c2 := hWr.c2 hiW
      rw [e0, hli] at c0
      rw [e1] at c1
      rw [e2] at c2
      have hO := Ge.below_alloc wr (.cells #[.slice A (K + 16) c, .int .i64 (m i : Int), .bool true] 156)
      have hXq := hXr.keep hO
      have hRq := hR.keep hO
      have q3 := hXq.c3
      obtain ⟨V, hV⟩ : ∃ V, (wr.alloc (.cells #[.slice A (K + 16) c, .int .i64 (m i : Int), .bool true] 156)).cell? ⟨wb.heap.size, i, none⟩ = some V := ⟨_, hRq.vs.cell hiW⟩
      have hfz := hRq.vs.frozen i
      have hKc : (K : Int) ≤ (c : Int) := by omega
      have hBq := hB.trans (hO.mono hB.size)
      have htk : ((ws i).take K).length = K := by rw [List.length_take, hli]; omega
      have hsq := (hs.far hO).take K
      have hneq : (ws i).take K = [] ∨ ∀ a, A = some a → a.block ≠ wb.heap.size := by
        by_cases e : (ws i).take K = []
        · exact Or.inl e
        · exact Or.inr (hRq.ne hsq e)
      have hRn := hRq.lay hiW (A := A) (c := c) (ys := (ws i).take K) (by rw [htk]; omega) hsq hneq
      rw [htk] at hRn
      have hRn' := Lib.hid (hRn.congr (ws' := fun j => if j < i + 1 then (ws j).take K else []) (fun j hj => by
        show (if j = i then (ws i).take K else if j < i then (ws j).take K else []) = if j < i + 1 then (ws j).take K else []
        by_cases e : j = i
        · rw [if_pos e, if_pos (by omega), e]
        · rw [if_neg e]
          by_cases h : j < i
          · rw [if_pos h, if_pos (by omega)]
          · rw [if_neg h, if_neg (by omega)]))
      have hXn := Lib.hid (hXq.other (g := wb.heap.size) (i := i) (.slice A K c) (by have := hz.out; omega))
      have hBn := Lib.hid (hBq.setCell (show w.heap.size ≤ wb.heap.size by have := hz.out; omega) (p := ⟨wb.heap.size, i, none⟩) (.slice A K c))
      have hms : Hid (mxF m (i + 1) = max (mxF m i) (m i)) := Lib.hid rfl
      obtain ⟨M, hM⟩ : ∃ M, m i = M := ⟨_, rfl⟩
      have hM8 : M ≤ 8 := by rw [← hM]; exact hm i hiW
      have hmx : mxF m i ≤ 8 := mxF_le.2 fun j hj => hm j (by omega)
      have hgw : wr.heap.size ≠ wb.heap.size := by have := hR.vs.lt; omega
      have p1 := (cell_block (i := 1) (setCell_block (i := i) (wr.alloc (.cells #[.slice A (K + 16) c, .int .i64 (m i : Int), .bool true] 156)) (.slice A K c) hgw)).trans (B3.new wr 156 (.slice A (K + 16) c) (.int .i64 (m i : Int)) (.bool true)).c1
      rw [hM] at hms c1 q3 hV hfz hRn' hXn hBn p1
      obtain ⟨mx, hmxe⟩ : ∃ mx, mxF m i = mx := ⟨_, rfl⟩
      rw [hmxe] at hms hmx ⊢
      clear hR hXr hB hXq hRq hRn hO hBq hsq hneq hs hne hWr hei
      go_wp2_with fail
      refine ⟨⟨i + 1, by omega, by go_num, ?_, ⟨_, hRn'.out⟩, hXn.out, hBn.out⟩, by simp [intOf]; omega⟩
      rw [hms.out]
      congr 1
      split <;> omega
    · obtain rfl : i = k := by omega
      rcases Nat.lt_or_ge i W with hiW | hge
      · have hiI : (i : Int) < (W : Int) := by omega
        have hdi : decide (i < W) = true := decide_eq_true hiW
        have hWr := H.out.keep hB
        have hei := hWr.each i hiW
        rw [hno hiW] at hei
        obtain ⟨e0, e1, e2⟩ := hei.no
        have c0 := hWr.c0 hiW
        have c1 := hWr.c1 hiW
        have c2 := hWr.c2 hiW
        rw [e0] at c0
        rw [e1] at c1
        rw [e2] at c2
        have hBn := Lib.hid (hB.trans ((Ge.below_alloc wr (.cells #[.slice none 0 0, .int .i64 (m i : Int), .bool false] 156)).mono hB.size))
        clear hR hXr hB hWr hei
        go_wp2_with fail
        go_ret3
        exact ⟨Or.inl ⟨hiW, rfl⟩, hBn.out⟩
      · obtain rfl : i = W := by omega
        have hdi : decide (i < i) = false := decide_eq_false (Nat.lt_irrefl _)
        have hws : ((List.range i).map fun j => if j < i then (ws j).take K else []) = (List.range i).map fun j => (ws j).take K := by
          refine List.map_congr_left fun j hj => ?_
          rw [if_pos (List.mem_range.1 hj)]
        have hsw := hR.sw
        rw [hws] at hsw
        have hlen : ((List.range i).map fun j => (ws j).take K).length = i := by simp
        have hall' : ∀ x ∈ (List.range i).map (fun j => (ws j).take K), x.length = K := by
          intro x hx
          obtain ⟨j, hj, rfl⟩ := List.mem_map.1 hx
          rw [List.length_take, hl j (List.mem_range.1 hj)]
          omega
        have hwN := wvN_all hall' (by intro e; rw [e] at hlen; simp at hlen; omega)
        have hE : outE (i : Int) ((List.range i).map fun j => (ws j).take K) = 0 := outE_ok (by unfold mayB; rw [Bool.and_eq_true, decide_eq_true_eq, decide_eq_true_eq]; omega) (by rw [hlen]) (unl_false fun k hk => by rw [hall' _ (List.getElem_mem hk), hwN]) (by rw [hwN]; omega)
        have hO : outW (i : Int) ((List.range i).map fun j => (ws j).take K) = sayW i K ws := by unfold outW; rw [hE, if_pos rfl]; rfl
        have hout := out_any (i : Int) (some ⟨wb.heap.size, 0, none⟩) i ((List.range i).map fun j => (ws j).take K) wr hsw (by omega) (fun x hx => by rw [hall' x hx]; omega)
        rw [hE, hO, hlen] at hout
        replace hout := Lib.hid hout
        have hc2 := hXr.c2
        have hmx : mxF m i ≤ 8 := mxF_le.2 fun j hj => hm j (by omega)
        replace hB := Lib.hid hB
        obtain ⟨mx, hmx2⟩ : ∃ mx, Hid (mxF m i = mx) := ⟨_, Lib.hid rfl⟩
        rw [hmx2.out] at hmx ⊢
        clear hsw hR hXr hlen hall' hE hO hws hwN
        go_wp2_with (go_at_call 83; (with_reducible refine hout.out.mono ?_); rintro e w2 ⟨v2, rfl, ho2, hb2⟩)
        go_ret3
        refine ⟨⟨v2, ?_, ho2.low hB.out.size⟩, hB.out.trans (hb2.mono hB.out.size)⟩
        rw [hmx2.out]
        rfl
/-- why points are no page's, by its number -/
def rfE (B P W K : Int) (n : Nat) : Nat := if Ge.mayG B P W K = false then 1 else if (n : Int) ≠ Ge.celG B P W K then 3 else 0
theorem rfE_arg {B P W K : Int} {n : Nat} (h : Ge.mayG B P W K = false) : rfE B P W K n = 1 := by unfold rfE; rw [if_pos h]
theorem rfE_size {B P W K : Int} {n : Nat} (h : Ge.mayG B P W K = true) (h2 : (n : Int) ≠ Ge.celG B P W K) : rfE B P W K n = 3 := by unfold rfE; rw [if_neg (by rw [h]; simp), if_pos h2]
theorem rfE_ok {B P W K : Int} {n : Nat} (h : Ge.mayG B P W K = true) (h2 : (n : Int) = Ge.celG B P W K) : rfE B P W K n = 0 := by unfold rfE; rw [if_neg (by rw [h]; simp), if_neg (by simp [h2])]
set_option maxHeartbeats 4000000 in
theorem refused_any {B P W K : Int} {A : Option Addr} {n c : Nat} {w : World} (h6 : n ≤ 1000000) :
    Calls Tryz.prog 63 #[.agg #[.int .i64 B, .int .i64 P, .int .i64 W, .int .i64 K], .slice A n c] w fun e w' => e = .returned (.int .i64 (rfE B P W K n : Int)) ∧ Below w.heap.size w w' := by
  obtain ⟨wb, hwb⟩ : ∃ wb, wb = w.alloc (.cells #[.int .i64 B, .int .i64 P, .int .i64 W, .int .i64 K] 34) := ⟨_, rfl⟩
  have hbb : Below w.heap.size w wb := by rw [hwb]; exact Ge.below_alloc w _
  have hX : Ge.Box wb w.heap.size B P W K := by
    have := Ge.Box.new w B P W K
    rwa [← hwb] at this
  have hmay := Lib.hid (Ge.may_any B P W K wb)
  obtain ⟨x1, x2, x3, x4, x5⟩ := id hX
  cases hM : Ge.mayG B P W K
  · rw [rfE_arg hM]
    rw [hM] at hmay
    rw [hwb] at hmay x2 x3 x4 x5
    go_enter Tryz.func63, Tryz.ntmps63
    go_wp2_with (go_at_call 28; (with_reducible refine hmay.out.mono ?_); rintro e w1 ⟨rfl, hb1⟩; rw [← hwb] at hb1; have hbw1 := hbb.trans (hb1.mono hbb.size))
    go_ret
    exact ⟨rfl, hbw1⟩
  · rw [hM] at hmay
    by_cases hsz : (n : Int) = Ge.celG B P W K
    · have hne : ((n : Int) != Ge.celG B P W K) = false := by simp [hsz]
      rw [rfE_ok hM hsz]
      rw [hwb] at hmay x2 x3 x4 x5
      clear hsz
      go_enter Tryz.func63, Tryz.ntmps63
      go_wp2_with (first
        | (go_at_call 28; (with_reducible refine hmay.out.mono ?_); rintro e w1 ⟨rfl, hb1⟩; rw [← hwb] at hb1; have hbw1 := hbb.trans (hb1.mono hbb.size); obtain ⟨n1, n2, n3, n4, n5⟩ := hX.keep hb1; have hcl := Lib.hid (Ge.cells_any B P W K w1))
        | (go_at_call 48; (with_reducible refine hcl.out.mono ?_); rintro e w2 ⟨rfl, hb2⟩; have hbw2 := hbw1.trans (hb2.mono hbw1.size)))
      go_ret
      exact ⟨rfl, hbw2⟩
    · have hne : ((n : Int) != Ge.celG B P W K) = true := by simp [hsz]
      rw [rfE_size hM hsz]
      rw [hwb] at hmay x2 x3 x4 x5
      clear hsz
      go_enter Tryz.func63, Tryz.ntmps63
      go_wp2_with (first
        | (go_at_call 28; (with_reducible refine hmay.out.mono ?_); rintro e w1 ⟨rfl, hb1⟩; rw [← hwb] at hb1; have hbw1 := hbb.trans (hb1.mono hbb.size); obtain ⟨n1, n2, n3, n4, n5⟩ := hX.keep hb1; have hcl := Lib.hid (Ge.cells_any B P W K w1))
        | (go_at_call 48; (with_reducible refine hcl.out.mono ?_); rintro e w2 ⟨rfl, hb2⟩; have hbw2 := hbw1.trans (hb2.mono hbw1.size)))
      go_ret
      exact ⟨rfl, hbw2⟩
end Go.Proofs.YtjhoecfhmndcgaaGreat
