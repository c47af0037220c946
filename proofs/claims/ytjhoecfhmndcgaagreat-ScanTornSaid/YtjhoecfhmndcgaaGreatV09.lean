/- WHAT WAS FOUND, IN THE ORDER OF scan.later, plain: of each host page's the first is the latest. · scan.later AND scan.sameLpn, as the program has them: which of two that were found comes ahead. -/
import Derived.Test.YtjhoecfhmndcgaaGreatV01
import Derived.Test.YtjhoecfhmndcgaaGreatV07
import Derived.Test.YtjhoecfhmndcgaaGreatV08
import Derived.Shelf.SlSortCmp.KitK
import Derived.Test.YtjhoecfhmndcgaaGreatV06
namespace Go.Proofs.YtjhoecfhmndcgaaGreat.So
open Go.Sort Go.Proofs.YtjhoecfhmndcgaaGreat.Sc
set_option linter.unusedVariables false
set_option linter.unusedSimpArgs false
instance : Inhabited Fnd := ⟨f0⟩
def orI (a b c : Int) : Int := if a ≠ 0 then a else if b ≠ 0 then b else c
def latI (x y : Fnd) : Int := orI (Ft.cmpI x.lp y.lp) (Ft.cmpI y.sq x.sq) (Ft.cmpI x.pg y.pg)
theorem latI_lt (x y : Fnd) : latI x y < 0 ↔ x.lp < y.lp ∨ x.lp = y.lp ∧ (y.sq < x.sq ∨ y.sq = x.sq ∧ x.pg < y.pg) := by
  unfold latI orI
  have h1 := Ft.cmpI_lt x.lp y.lp
  have h2 := Ft.cmpI_eq x.lp y.lp
  have h3 := Ft.cmpI_lt y.sq x.sq
  have h4 := Ft.cmpI_eq y.sq x.sq
  have h5 := Ft.cmpI_lt x.pg y.pg
  split
  · omega
  · split <;> omega
theorem swoL : SWO (ltOf latI) where
  irrefl x := by unfold ltOf; rw [decide_eq_false_iff_not, latI_lt]; omega
  trans x y z h1 h2 := by unfold ltOf at *; rw [decide_eq_true_eq, latI_lt] at *; omega
  ntrans x y z h1 h2 := by unfold ltOf at *; rw [decide_eq_false_iff_not, latI_lt] at *; omega
/-- not less, of one host page: the other one is better -/
theorem no_lt {x y : Fnd} (h : ltOf latI y x = false) : x.lp ≤ y.lp ∧ (x.lp = y.lp → better x y) := by
  unfold ltOf at h
  rw [decide_eq_false_iff_not, latI_lt] at h
  unfold better
  omega
/-- the first of each run of one host page -/
def fsts (F : Nat → Fnd) : Nat → List Fnd
  | 0 => []
  | n + 1 => if n = 0 ∨ (F n).lp ≠ (F (n - 1)).lp then fsts F n ++ [F n] else fsts F n
theorem fsts_len (F : Nat → Fnd) : ∀ n, (fsts F n).length ≤ n
  | 0 => Nat.le_refl _
  | n + 1 => by
    have := fsts_len F n
    unfold fsts
    split
    · rw [List.length_append]; exact Nat.succ_le_succ this
    · omega
theorem fsts_app {F : Nat → Fnd} {n : Nat} (h : n = 0 ∨ (F n).lp ≠ (F (n - 1)).lp) : fsts F (n + 1) = fsts F n ++ [F n] := by
  conv => lhs; unfold fsts
  rw [if_pos h]
theorem fsts_same {F : Nat → Fnd} {n : Nat} (h0 : n ≠ 0) (h : (F n).lp = (F (n - 1)).lp) : fsts F (n + 1) = fsts F n := by
  conv => lhs; unfold fsts
  rw [if_neg (fun e => e.elim h0 (fun e => e h))]
theorem fsts_mem (F : Nat → Fnd) : ∀ n x, x ∈ fsts F n → ∃ i, i < n ∧ x = F i
  | 0, x, h => by cases h
  | n + 1, x, h => by
    unfold fsts at h
    split at h
    · rcases List.mem_append.1 h with h | h
      · obtain ⟨i, hi, e⟩ := fsts_mem F n x h; exact ⟨i, by omega, e⟩
      · rw [List.mem_singleton] at h; exact ⟨n, by omega, h⟩
    · obtain ⟨i, hi, e⟩ := fsts_mem F n x h; exact ⟨i, by omega, e⟩
theorem fsts_all (F : Nat → Fnd) : ∀ n j, j < n → ∃ i, i ≤ j ∧ (F i).lp = (F j).lp ∧ F i ∈ fsts F n
  | 0, j, h => absurd h (by omega)
  | n + 1, j, h => by
    rcases Nat.lt_or_ge j n with hj | hj
    · obtain ⟨i, h1, h2, h3⟩ := fsts_all F n j hj
      refine ⟨i, h1, h2, ?_⟩
      unfold fsts
      split
      · exact List.mem_append_left _ h3
      · exact h3
    · obtain rfl : j = n := by omega
      by_cases hc : j = 0 ∨ (F j).lp ≠ (F (j - 1)).lp
      · exact ⟨j, Nat.le_refl _, rfl, by rw [fsts_app hc]; exact List.mem_append_right _ List.mem_cons_self⟩
      · have h0 : j ≠ 0 := fun e => hc (Or.inl e)
        have he : (F j).lp = (F (j - 1)).lp := Decidable.byContradiction fun e => hc (Or.inr e)
        obtain ⟨i, h1, h2, h3⟩ := fsts_all F j (j - 1) (by omega)
        exact ⟨i, by omega, by rw [h2, he], by rw [fsts_same h0 he]; exact h3⟩
theorem fsts_pw {F : Nat → Fnd} : ∀ n, (∀ i j, i < j → j < n → (F i).lp ≤ (F j).lp) → (fsts F n).Pairwise (fun x y => x.lp < y.lp)
  | 0, _ => List.Pairwise.nil
  | n + 1, h => by
    have ih := fsts_pw n (fun i j h1 h2 => h i j h1 (by omega))
    unfold fsts
    split
    · rename_i hc
      refine List.pairwise_append.2 ⟨ih, List.pairwise_singleton _ _, fun x hx y hy => ?_⟩
      rw [List.mem_singleton] at hy
      subst hy
      obtain ⟨i, hi, rfl⟩ := fsts_mem F n x hx
      have hn : n ≠ 0 := by omega
      have hne : (F n).lp ≠ (F (n - 1)).lp := hc.resolve_left hn
      have e1 := h (n - 1) n (by omega) (by omega)
      have e2 : (F i).lp ≤ (F (n - 1)).lp := by
        rcases Nat.lt_or_ge i (n - 1) with c | c
        · exact h i (n - 1) c (by omega)
        · rw [show i = n - 1 by omega]; exact Int.le_refl _
      omega
    · exact ih
/-- of a row that was sorted the first of each host page are the latest -/
theorem lat_of {l : List Fnd} {d : Array Fnd} {n : Nat} (hn : l.length = n) (hp : PermIn 0 n l.toArray d) (hs : SortedIn (ltOf latI) 0 n d) : LatIs l (fsts (vw d) n) := by
  have hz : d.size = n := by have := hp.1; simpa [hn] using this
  have hperm : d.toList.Perm l := by
    have h3 := hp.2.2
    have e1 : (d.extract 0 n).toList = d.toList := by simp [← hz]
    have e2 : (l.toArray.extract 0 n).toList = l := by simp [← hn]
    rw [e1, e2] at h3
    exact h3
  have hget : ∀ i, i < n → vw d i ∈ l := fun i hi => by
    refine hperm.mem_iff.1 ?_
    unfold vw
    rw [getElem!_pos d i (by omega)]
    exact Array.getElem_mem_toList _
  have hidx : ∀ x ∈ l, ∃ i, i < n ∧ vw d i = x := fun x hx => by
    obtain ⟨i, hi, e⟩ := List.getElem_of_mem (hperm.mem_iff.2 hx)
    have hi' : i < d.size := by simpa using hi
    refine ⟨i, by omega, ?_⟩
    unfold vw
    rw [getElem!_pos d i hi']
    simpa using e
  have hle : ∀ i j, i < j → j < n → (vw d i).lp ≤ (vw d j).lp := fun i j h1 h2 => (no_lt (hs i j (Nat.zero_le _) h1 h2)).1
  refine ⟨fun x hx => ?_, fun x hx => ?_, fsts_pw n hle⟩
  · obtain ⟨i, hi, rfl⟩ := fsts_mem _ n x hx
    exact hget i hi
  · obtain ⟨j, hj, rfl⟩ := hidx x hx
    obtain ⟨i, h1, h2, h3⟩ := fsts_all (vw d) n j hj
    refine ⟨_, h3, h2, ?_⟩
    rcases Nat.lt_or_ge i j with c | c
    · exact (no_lt (hs i j (Nat.zero_le _) c hj)).2 h2
    · rw [show i = j by omega]; unfold better; omega
end Go.Proofs.YtjhoecfhmndcgaaGreat.So
namespace Go.Cl
open Go.RowKit
/-- a region's way, told of the world in which it begins -/
theorem region_way1 {P : Program} {Q : Exit → Act → World → Prop} {id : Nat} {a : Act} {w : World} {l : List Oper} (K : Nat → Prop) (n : Nat) (π : List (Nat × Step)) (hm : P.follows .mixedOrders = true)
    (hB : wayB .any l.toArray n π = true) (h : wpWay P l.toArray (Calm Q) K π a w.drew) : (Code.region id l.toArray true).wp P Q a w := by
  refine Code.wp_mono Calm.imp ?_
  simp only [wayB, Bool.and_eq_true, beq_iff_eq] at hB
  obtain ⟨⟨⟨h1, h2⟩, h3⟩, h4⟩ := hB
  refine wp_region_any hm (wpAny_of_R (K := K) (n := n) _ _ _ _ ?_)
  have := wpAnyR_way (K := K) h3 h1 (fun _ _ _ _ _ h => h) π _ a _ ⟨by simp, fun j oj hj hl => (by rw [getD_replicate_false] at hl; cases hl), fun t _ ht => by simp only [Array.getD, Array.size_replicate]; rw [dif_pos ht]; simp⟩ h4 h
  rw [h2] at this
  exact this
end Go.Cl
namespace Go.Proofs.YtjhoecfhmndcgaaGreat.So
open Go.RowKit Go.Sort Go.Proofs.YtjhoecfhmndcgaaGreat.Sc
set_option linter.unusedVariables false
set_option linter.unusedSimpArgs false
/-- three numbers in a row, as the walk asks for them -/
def thr (a b c : Int) (i : Nat) : Int := if i = 0 then a else if i = 1 then b else c
set_option maxHeartbeats 1000000 in
theorem or_any (w : World) (G : Nat) (a b c : Int) (h : ∀ i, i < 3 → w.cell? ⟨G, i, none⟩ = some (.int .i64 (thr a b c i))) :
    Calls Tryz.prog 44 #[.slice (some ⟨G, 0, none⟩) 3 3] w fun e w' => e = .returned (.int .i64 (orI a b c)) ∧ w = w' := by
  have H := Lib.hid h
  clear h
  go_enter Tryz.func44, Tryz.ntmps44
  go_wp2_with fail
  go_loopw [8] (fun q wr => ∃ i : Nat, i ≤ 3 ∧ Hid (∀ j, j < i → thr a b c j = 0) ∧ q = .int .i64 i ∧ w = wr) (fun q _ => 3 - (intOf q).toNat)
  case atStart => exact ⟨0, by omega, fun j hj => absurd hj (by omega), rfl, rfl⟩
  case round =>
    obtain ⟨i, hi, HZ, rfl, rfl⟩ := hrel
    by_cases hlt : i < 3
    · have hltI : (i : Int) < 3 := by omega
      obtain ⟨v, hv⟩ : ∃ v, Hid (thr a b c i = v) := ⟨_, Lib.hid rfl⟩
      have c0 := H.out i hlt
      rw [hv.out] at c0
      by_cases hz : v = 0
      · subst hz
        go_wp2_with fail
        go_round
        case rel =>
          refine ⟨i + 1, by omega, fun j hj => ?_, by go_num, by first | rfl | trivial⟩
          rcases (by omega : j < i ∨ j = i) with h1 | rfl
          · exact HZ.out j h1
          · exact hv.out
        case measure => simp [intOf]; omega
      · have hd : (v == 0) = false := by simpa using hz
        have hd2 : (v != 0) = true := by simpa using hz
        go_wp2_with fail
        go_ret
        refine ⟨?_, rfl⟩
        have e : orI a b c = v := by
          have h0 := HZ.out
          have h1 := hv.out
          unfold orI
          rcases (by omega : i = 0 ∨ i = 1 ∨ i = 2) with rfl | rfl | rfl
          · have : a = v := h1
            rw [this, if_pos hz]
          · have e0 : a = 0 := h0 0 (by omega)
            have : b = v := h1
            rw [e0, this, if_neg (by simp), if_pos hz]
          · have e0 : a = 0 := h0 0 (by omega)
            have e1 : b = 0 := h0 1 (by omega)
            have : c = v := h1
            rw [e0, e1, this, if_neg (by simp), if_neg (by simp)]
        rw [e]; rfl
    · have hltI : ¬ (i : Int) < 3 := by omega
      obtain rfl : i = 3 := by omega
      go_wp2_with fail
      go_ret
      refine ⟨?_, rfl⟩
      have e0 : a = 0 := HZ.out 0 (by omega)
      have e1 : b = 0 := HZ.out 1 (by omega)
      have e2 : c = 0 := HZ.out 2 (by omega)
      have e : orI a b c = 0 := by rw [e0, e1, e2]; rfl
      rw [e]; rfl
/-- one that was found, in a box -/
theorem box_cells (w : World) (x : Fnd) (T : TypeId) {w' : World} (hb : Below (w.heap.size + 1) (w.alloc (.cells #[.int .i64 x.pg, .int .i64 x.kd, .int .i64 x.lp, .int .i64 x.sq, .int .i64 x.wr] T)) w') :
    ∀ y : Cl.Since (fun _ => True) w', w.heap.size < w'.heap.size ∧ y.w.cell? ⟨w.heap.size, 0, none⟩ = some (.int .i64 x.pg) ∧ y.w.cell? ⟨w.heap.size, 2, none⟩ = some (.int .i64 x.lp) ∧ y.w.cell? ⟨w.heap.size, 3, none⟩ = some (.int .i64 x.sq) := by
  intro y
  have hs : w.heap.size < w'.heap.size := by have := hb.size; rw [World.size_alloc] at this; omega
  have k : ∀ j, y.w.cell? ⟨w.heap.size, j, none⟩ = (#[Value.int .i64 x.pg, .int .i64 x.kd, .int .i64 x.lp, .int .i64 x.sq, .int .i64 x.wr] : Array Value)[j]? := fun j => by
    rw [y.cell (p := ⟨w.heap.size, j, none⟩) hs trivial, hb.cell (show (⟨w.heap.size, j, none⟩ : Addr).block < w.heap.size + 1 from Nat.lt_succ_self _), We.cell_new]
  exact ⟨hs, k 0, k 2, k 3⟩
set_option maxHeartbeats 4000000 in
theorem later_any (x y : Fnd) (W : World) : Calls Tryz.prog 25 #[fV x, fV y] W fun e w' => e = .returned (.int .i64 (latI x y)) ∧ ∃ q os', w' = Sort.grow (W.drewN q) os' := by
  have hc1 := fun W' => Lib.hid (Ft.cmp_any x.lp y.lp W')
  have hc2 := fun W' => Lib.hid (Ft.cmp_any y.sq x.sq W')
  have hc3 := fun W' => Lib.hid (Ft.cmp_any x.pg y.pg W')
  unfold latI fV
  generalize Ft.cmpI x.lp y.lp = r1 at *
  generalize Ft.cmpI y.sq x.sq = r2 at *
  generalize Ft.cmpI x.pg y.pg = r3 at *
  obtain ⟨T, hT⟩ : ∃ T : TypeId, T = 29 := ⟨_, rfl⟩
  have b1 := box_cells W x T (w' := ((W.alloc (.cells #[.int .i64 x.pg, .int .i64 x.kd, .int .i64 x.lp, .int .i64 x.sq, .int .i64 x.wr] T)).alloc (.cells #[.int .i64 y.pg, .int .i64 y.kd, .int .i64 y.lp, .int .i64 y.sq, .int .i64 y.wr] T)).drew) (by
    refine ((Below.refl _ _).alloc (by rw [World.size_alloc]; exact Nat.le_refl _) _).trans ⟨rfl, rfl, rfl, Nat.le_refl _, fun _ _ => rfl⟩)
  have b2 := box_cells (W.alloc (.cells #[.int .i64 x.pg, .int .i64 x.kd, .int .i64 x.lp, .int .i64 x.sq, .int .i64 x.wr] T)) y T (w' := ((W.alloc (.cells #[.int .i64 x.pg, .int .i64 x.kd, .int .i64 x.lp, .int .i64 x.sq, .int .i64 x.wr] T)).alloc (.cells #[.int .i64 y.pg, .int .i64 y.kd, .int .i64 y.lp, .int .i64 y.sq, .int .i64 y.wr] T)).drew) ⟨rfl, rfl, rfl, Nat.le_refl _, fun _ _ => rfl⟩
  rw [World.size_alloc] at b2
  subst hT
  have B1 := Lib.hid b1
  have B2 := Lib.hid b2
  clear b1 b2
  go_enter Tryz.func25, Tryz.ntmps25
  go_wp2_with fail
  refine Cl.region_way1 (fun _ => True) 21 [(0, .r), (1, .r), (2, .r), (3, .r), (4, .r), (5, .r), (7, .r), (8, .r), (9, .r), (10, .r), (11, .r), (12, .r), (14, .r), (15, .r), (16, .r), (17, .r), (6, .c), (13, .c), (18, .c), (19, .c), (20, .c), (21, .z)] (by kernel_rfl) (by kernel_rfl) ?_
  generalize hw2 : World.drew _ = w2 at B1 B2 ⊢
  have n1 := fun z => (B1.out z).2.1
  have n2 := fun z => (B1.out z).2.2.1
  have n3 := fun z => (B1.out z).2.2.2
  have m1 := fun z => (B2.out z).2.1
  have m2 := fun z => (B2.out z).2.2.1
  have m3 := fun z => (B2.out z).2.2.2
  have HW := Lib.hid hw2
  clear hw2 B1 B2
  iterate 16 (refine Cl.way_r rfl ?_; go_big_quiet_step (fail); refine wpQuiet_nil ?_)
  refine Cl.way_c rfl ?_
  go_wp2_with (go_at_call 45; (with_reducible refine (hc1 _).out.mono ?_); rintro e w3 ⟨rfl, rfl⟩)
  refine Cl.way_on (Cl.Keeps.refl _ _) ?_
  refine Cl.way_c rfl ?_
  go_wp2_with (go_at_call 45; (with_reducible refine (hc2 _).out.mono ?_); rintro e w3 ⟨rfl, rfl⟩)
  refine Cl.way_on (Cl.Keeps.refl _ _) ?_
  refine Cl.way_c rfl ?_
  go_wp2_with (go_at_call 45; (with_reducible refine (hc3 _).out.mono ?_); rintro e w3 ⟨rfl, rfl⟩)
  refine Cl.way_on (Cl.Keeps.refl _ _) ?_
  refine Cl.way_c rfl ?_
  go_wp2_with fail
  refine Cl.way_on (Cl.Keeps.of_below (We.below_alloc _ _)) ?_
  have ho := Lib.hid (or_any (w2.alloc (.cells #[.int .i64 r1, .int .i64 r2, .int .i64 r3] 3)) w2.heap.size r1 r2 r3 (fun i hi => by
    rw [We.cell_new]
    rcases (by omega : i = 0 ∨ i = 1 ∨ i = 2) with rfl | rfl | rfl <;> rfl))
  refine Cl.way_c rfl ?_
  go_wp2_with (go_at_call 44; (with_reducible refine ho.out.mono ?_); rintro e w3 ⟨rfl, rfl⟩)
  refine Cl.way_on (Cl.Keeps.refl _ _) ?_
  refine Cl.way_z rfl ?_
  go_wp2_with fail
  refine Cl.Calm.normal ?_
  go_wp2_with fail
  go_ret
  refine ⟨rfl, 1, #[.cells #[.int .i64 x.pg, .int .i64 x.kd, .int .i64 x.lp, .int .i64 x.sq, .int .i64 x.wr] 29, .cells #[.int .i64 y.pg, .int .i64 y.kd, .int .i64 y.lp, .int .i64 y.sq, .int .i64 y.wr] 29, .cells #[.int .i64 r1, .int .i64 r2, .int .i64 r3] 3], ?_⟩
  rw [← HW.out, Sort.alloc_eq_grow, Sort.alloc_eq_grow, Sort.alloc_eq_grow, Sort.grow_grow, Sort.drew_grow, Sort.grow_grow]
  rfl
theorem same_lpn (x y : Fnd) (W : World) : Calls Tryz.prog 27 #[fV x, fV y] W fun e w' => e = .returned (.bool (x.lp == y.lp)) ∧ ∃ q os', w' = Sort.grow (W.drewN q) os' := by
  unfold fV
  go_enter Tryz.func27, Tryz.ntmps27
  go_wp2_with fail
  go_ret
  refine ⟨rfl, 0, #[.cells #[.int .i64 x.pg, .int .i64 x.kd, .int .i64 x.lp, .int .i64 x.sq, .int .i64 x.wr] 29, .cells #[.int .i64 y.pg, .int .i64 y.kd, .int .i64 y.lp, .int .i64 y.sq, .int .i64 y.wr] 29], ?_⟩
  rw [Sort.alloc_eq_grow, Sort.alloc_eq_grow, Sort.grow_grow]
  rfl
end Go.Proofs.YtjhoecfhmndcgaaGreat.So
