/- The program's frame: Read. · The laws' words: points of symbols; small geometries. · What is read from a page's points, if few of them are wrong or nought: plain. · The document's example of chapter 11: a page is made and read. · FrameMakes: the page, or why there is none, as the document has it; read it is the same. -/
import Derived.Test.YtjhoecfhmndcgaaGreatV35
import Derived.Test.YtjhoecfhmndcgaaGreatV22
import Derived.Deep.CutRange
import Derived.Test.YtjhoecfhmndcgaaGreatV33
namespace Go.Proofs.YtjhoecfhmndcgaaGreat
open Go.RowKit Go.Gf Go.Fl
set_option linter.unusedVariables false
set_option linter.unusedSimpArgs false
set_option maxRecDepth 20000
attribute [local go_sem ↓] exec_load_tb Cl.quiet_since
attribute [local go_sem] tbAt_ptr tbIn_ptr

/-- what is to be read from the points xs, whose symbols are ss: a head, a number, data, an error's number -/
inductive RdS (B P W K : Int) (xs : List (Nat × Nat)) (ss : List Nat) : Nat → Nat → Nat → Nat → List Nat → Nat → Prop where
  | arg (h : Ge.mayG B P W K = false) : RdS B P W K xs ss 0 0 0 0 [] 1
  | size (h : Ge.mayG B P W K = true) (h2 : (xs.length : Int) ≠ Ge.celG B P W K) : RdS B P W K xs ss 0 0 0 0 [] 3
  | none (h : Ge.mayG B P W K = true) (h2 : (xs.length : Int) = Ge.celG B P W K) (h3 : blkB xs = true) : RdS B P W K xs ss 0 0 0 0 [] 13
  | data (h : Ge.mayG B P W K = true) (h2 : (xs.length : Int) = Ge.celG B P W K) (h3 : blkB xs = false) (j : Nat) (hj : j < W.toNat) (h4 : ∀ ys, ¬ GoodR W.toNat (K.toNat + 16) ss (zX xs) j ys) : RdS B P W K xs ss 0 0 0 0 [] 4
  | form (h : Ge.mayG B P W K = true) (h2 : (xs.length : Int) = Ge.celG B P W K) (h3 : blkB xs = false) (ws : Nat → List Nat) (hg : ∀ j, j < W.toNat → GoodR W.toNat (K.toNat + 16) ss (zX xs) j (ws j)) (h4 : sayB (W.toNat * K.toNat) (sayW W.toNat K.toNat ws) = false) : RdS B P W K xs ss 0 0 0 0 [] 12
  | ok (h : Ge.mayG B P W K = true) (h2 : (xs.length : Int) = Ge.celG B P W K) (h3 : blkB xs = false) (ws : Nat → List Nat) (hg : ∀ j, j < W.toNat → GoodR W.toNat (K.toNat + 16) ss (zX xs) j (ws j)) (h4 : sayB (W.toNat * K.toNat) (sayW W.toNat K.toNat ws) = true) :
      RdS B P W K xs ss (sayK (sayW W.toNat K.toNat ws)) (sayN (sayW W.toNat K.toNat ws)) (sayQ (sayW W.toNat K.toNat ws)) (mxF (fun j => nbW W.toNat (K.toNat + 16) ss (zX xs) j (ws j)) W.toNat) (sayD (W.toNat * K.toNat) (sayW W.toNat K.toNat ws)) 0
/-- .. as it is answered -/
def RdV (k l q n : Nat) (d : List Nat) (er : Nat) (w : World) (e : Ending) (w' : World) : Prop :=
  ∃ A c, e = .returned (.tuple #[.agg #[.int .i64 (k : Int), .int .i64 (l : Int), .int .i64 (q : Int)], .slice A d.length c, .int .i64 (n : Int), .int .i64 (er : Int)]) ∧ d.length ≤ c ∧ Sb w' w'.heap.size A d ∧ Below w.heap.size w w'
theorem sayW_len {W K : Nat} {ws : Nat → List Nat} {n : Nat} (h0 : 0 < W) (hl : ∀ j, j < W → (ws j).length = n) (hK : K ≤ n) : (sayW W K ws).length = W * K := by
  have hall : ∀ x ∈ (List.range W).map (fun j => (ws j).take K), x.length = K := by
    intro x hx
    obtain ⟨j, hj, rfl⟩ := List.mem_map.1 hx
    rw [List.length_take, hl j (List.mem_range.1 hj)]
    omega
  unfold sayW
  rw [wvOf_len, wvN_all hall (by intro e; have := congrArg List.length e; simp at this; omega)]
  simp
theorem sayW_bd {W K : Nat} {ws : Nat → List Nat} (hb : ∀ j, j < W → ∀ y ∈ ws j, y < 1024) : ∀ y ∈ sayW W K ws, y < 1024 := by
  unfold sayW wvOf
  refine rm_mem fun i _ => ?_
  unfold wvF
  refine at_lt (fun y hy => ?_) (by decide)
  rw [List.getD_eq_getElem?_getD] at hy
  rcases Nat.lt_or_ge (i % ((List.range W).map fun j => (ws j).take K).length) ((List.range W).map fun j => (ws j).take K).length with h | h
  · rw [List.getElem?_eq_getElem h, Option.getD_some, List.getElem_map, List.getElem_range] at hy
    have hW : i % ((List.range W).map fun j => (ws j).take K).length < W := by simpa using h
    exact hb _ hW y (List.mem_of_mem_take hy)
  · rw [List.getElem?_eq_none h, Option.getD_none] at hy
    cases hy
theorem sayW_congr {W K : Nat} {ws vs : Nat → List Nat} (h : ∀ j, j < W → ws j = vs j) : sayW W K ws = sayW W K vs := by
  unfold sayW
  rw [List.map_congr_left fun j hj => by rw [h j (List.mem_range.1 hj)]]
/-- how each word is read -/
theorem rd_exists (W n : Nat) (ss : List Nat) (z : Nat → Bool) : ∃ r : Nat → Option (List Nat), ∀ j, RdW W n ss z j (r j) := by
  have hex : ∀ j, ∃ o : Option (List Nat), RdW W n ss z j o := fun j => by
    rcases Classical.em (∃ ys, GoodR W n ss z j ys) with ⟨ys, h⟩ | h
    · exact ⟨some ys, h⟩
    · exact ⟨none, fun ys hy => h ⟨ys, hy⟩⟩
  exact Classical.axiomOfChoice hex
/-- the first one of a row that is nothing, or there is none -/
theorem first_none (r : Nat → Option (List Nat)) (W : Nat) : ∃ k, k ≤ W ∧ (∀ j, j < k → r j = some ((r j).getD [])) ∧ (k < W → r k = none) := by
  induction W with
  | zero => exact ⟨0, Nat.le_refl _, fun j h => absurd h (by omega), fun h => absurd h (by omega)⟩
  | succ W ih =>
    obtain ⟨k, h1, h2, h3⟩ := ih
    rcases Nat.lt_or_ge k W with h | h
    · exact ⟨k, by omega, h2, fun _ => h3 h⟩
    · obtain rfl : k = W := by omega
      cases e : r k with
      | none => exact ⟨k, by omega, h2, fun _ => e⟩
      | some ys =>
        refine ⟨k + 1, Nat.le_refl _, fun j hj => ?_, fun h => absurd h (by omega)⟩
        rcases Nat.lt_or_ge j k with h4 | h4
        · exact h2 j h4
        · obtain rfl : j = k := by omega
          rw [e]; rfl
theorem wrO_le {W n : Nat} {ss : List Nat} {z : Nat → Bool} {j : Nat} {o : Option (List Nat)} (h : RdW W n ss z j o) : wrO W n ss z j o ≤ 8 := by
  cases o with
  | none => exact Nat.zero_le _
  | some ys => exact h.2
theorem rdW_len {W n : Nat} {ss : List Nat} {z : Nat → Bool} {j : Nat} {ys : List Nat} (h : RdW W n ss z j (some ys)) : ys.length = n := near_len h.1
/-- joined, where a word can't be read; and where all can -/
theorem joined_no {B P : Int} {W K g : Nat} {f : Nat → Value} {r : Nat → Option (List Nat)} {ss : List Nat} {z : Nat → Bool} {w : World} (hW : 1 ≤ W ∧ W ≤ 4) (hK : 1 ≤ K ∧ K ≤ 64) (h : WdsI w g W f r (fun j => wrO W (K + 16) ss z j (r j)) W) (hr : ∀ j, j < W → RdW W (K + 16) ss z j (r j))
    (hno : ∃ j, j < W ∧ ∀ ys, ¬ GoodR W (K + 16) ss z j ys) :
    Calls Tryz.prog 65 #[.agg #[.int .i64 B, .int .i64 P, .int .i64 (W : Int), .int .i64 (K : Int)], .slice (some ⟨g, 0, none⟩) W W] w
      fun e w' => e = .returned (.tuple #[.slice none 0 0, .int .i64 0, .bool false]) ∧ Below w.heap.size w w' := by
  obtain ⟨k, h1, h2, h3⟩ := first_none r W
  have hlen : ∀ j, j < k → ((r j).getD []).length = K + 16 := fun j hj => by
    have := hr j (by omega)
    rw [h2 j hj] at this
    exact rdW_len this
  refine (joined_any hW hK h k (fun j => (r j).getD []) h1 h2 hlen h3 (fun j hj => wrO_le (hr j hj))).mono ?_
  rintro e w' ⟨h4, hb⟩
  rcases h4 with ⟨_, he⟩ | ⟨hk, _⟩
  · exact ⟨he, hb⟩
  · obtain ⟨j, hj, hbad⟩ := hno
    have := hr j hj
    rw [h2 j (by omega)] at this
    exact absurd this (hbad _)
theorem joined_yes {B P : Int} {W K g : Nat} {f : Nat → Value} {r : Nat → Option (List Nat)} {ss : List Nat} {z : Nat → Bool} {w : World} (hW : 1 ≤ W ∧ W ≤ 4) (hK : 1 ≤ K ∧ K ≤ 64) (h : WdsI w g W f r (fun j => wrO W (K + 16) ss z j (r j)) W) (hr : ∀ j, j < W → RdW W (K + 16) ss z j (r j))
    (ws : Nat → List Nat) (hg : ∀ j, j < W → GoodR W (K + 16) ss z j (ws j)) :
    Calls Tryz.prog 65 #[.agg #[.int .i64 B, .int .i64 P, .int .i64 (W : Int), .int .i64 (K : Int)], .slice (some ⟨g, 0, none⟩) W W] w
      fun e w' => ∃ v, e = .returned (.tuple #[v, .int .i64 ((mxF (fun j => nbW W (K + 16) ss z j (ws j)) W : Nat) : Int), .bool true]) ∧ OwnS w w' v (sayW W K ws) ∧ Below w.heap.size w w' := by
  have hall : ∀ j, j < W → r j = some (ws j) := fun j hj => by
    have h1 := hr j hj
    cases e : r j with
    | none => rw [e] at h1; exact absurd (hg j hj) (h1 _)
    | some ys => rw [e] at h1; rw [good_unique (by omega) h1 (hg j hj)]
  refine (joined_any hW hK h W ws (Nat.le_refl _) hall (fun j hj => near_len (hg j hj).1) (fun h => absurd h (by omega)) (fun j hj => wrO_le (hr j hj))).mono ?_
  rintro e w' ⟨h4, hb⟩
  rcases h4 with ⟨hk, _⟩ | ⟨_, v, he, ho⟩
  · exact absurd hk (by omega)
  · refine ⟨v, ?_, ho, hb⟩
    rw [he, mxF_congr (g := fun j => wrO W (K + 16) ss z j (r j)) (h := fun j => nbW W (K + 16) ss z j (ws j)) (fun j hj => by show wrO W (K + 16) ss z j (r j) = _; rw [hall j hj]; rfl)]
set_option maxHeartbeats 8000000 in
theorem read_any {cs : List Nat} (hcs : Tab cs) {B P W K : Int} {A : Option Addr} {c : Nat} {xs : List (Nat × Nat)} {ss : List Nat} {w : World} (hs : Cx w w.heap.size A xs) (h6 : xs.length ≤ 1000000)
    (hn : ss.length = xs.length) (hsl : ∀ i, i < xs.length → SlcIs (xA xs i) (at_ ss i)) (hb : ∀ y ∈ ss, y < 1024) :
    Calls Tryz.prog 41 #[.agg (cells cs), .agg #[.int .i64 B, .int .i64 P, .int .i64 W, .int .i64 K], .slice A xs.length c] w fun e w' => ∃ k l q n d er, RdS B P W K xs ss k l q n d er ∧ RdV k l q n d er w e w' := by
  have H := Lib.hid hs
  have HCS := Lib.hid hcs
  obtain ⟨wa, hwa⟩ : ∃ wa, wa = w.alloc (.cells (cells cs) 50) := ⟨_, rfl⟩
  obtain ⟨wb, hwb⟩ : ∃ wb, wb = wa.alloc (.cells #[.int .i64 B, .int .i64 P, .int .i64 W, .int .i64 K] 34) := ⟨_, rfl⟩
  obtain ⟨wc, hwc⟩ : ∃ wc, wc = wb.alloc (.cells #[.int .i64 0, .int .i64 0, .int .i64 0] 27) := ⟨_, rfl⟩
  have hza : wa.heap.size = w.heap.size + 1 := by rw [hwa, World.size_alloc]
  have hzb : wb.heap.size = w.heap.size + 1 + 1 := by rw [hwb, World.size_alloc, hza]
  have hba : Below w.heap.size w wa := by rw [hwa]; exact Ge.below_alloc w _
  have hbc' : Below wb.heap.size wb wc := by rw [hwc]; exact Ge.below_alloc wb _
  have hab : Below wa.heap.size wa wb := by rw [hwb]; exact Ge.below_alloc wa _
  have hbb : Below w.heap.size w wb := hba.trans (hab.mono hba.size)
  have hbc : Below w.heap.size w wc := hbb.trans (hbc'.mono hbb.size)
  have hT : Tb wc w.heap.size cs := by
    have h1 : Tb wa w.heap.size cs := by rw [hwa]; exact tb_new w cs
    exact (h1.keep hab).keep hbc'
  have hX : Ge.Box wc (w.heap.size + 1) B P W K := by
    have := Ge.Box.new wa B P W K
    rw [← hwb, hza] at this
    exact this.keep hbc'
  have hH : Hdo wc (w.heap.size + 1 + 1) 0 0 0 := by
    have := Hdo.new wb 0 0 0
    rwa [← hwc, hzb] at this
  have hrf := Lib.hid (refused_any (B := B) (P := P) (W := W) (K := K) (A := A) (c := c) (w := wc) h6)
  obtain ⟨x1, x2, x3, x4, x5⟩ := id hX
  cases hM : Ge.mayG B P W K
  · have hR := RdS.arg (xs := xs) (ss := ss) hM
    rw [rfE_arg hM] at hrf
    have hE0 : (((1 : Nat) : Int) != 0) = true := by decide
    go_enter Tryz.func41, Tryz.ntmps41
    go_upto_region 1 with fail
    rw [← hwa, ← hwb, ← hwc]
    clear hwa hwb hwc
    go_wp2_with (go_at_call 63; (with_reducible refine hrf.out.mono ?_); rintro e w1 ⟨rfl, hb1⟩; have hH1 := hH.keep hb1; obtain ⟨j1, j2, j3, j4⟩ := hH1.hed; have jf := hH1.frozen; have hbw1 := hbc.trans (hb1.mono hbc.size))
    refine bodyPost_ret (results_m4 rfl rfl (hH1.set_ 0 0 0).hed) rfl ?_
    exact ⟨0, 0, 0, 0, [], 1, hR, none, 0, rfl, Nat.le_refl _, Sb.nil _ _ _, below_set3 hbw1 (by omega) _ _ _⟩
  · by_cases hsz : (xs.length : Int) = Ge.celG B P W K
    · rw [rfE_ok hM hsz] at hrf
      cases hbk : blkB xs
      · obtain ⟨W', K', N, rfl, rfl, hN, hW1, hW4, hK1, hK64, h8, h256, hsg, hcg⟩ := mayG_of hM
        have hxl : xs.length = W' * (K' + 16) := by rw [hcg] at hsz; exact Int.ofNat.inj hsz
        have hsz' := hsz
        replace hn := Lib.hid hn
        replace hsl := Lib.hid hsl
        replace hb := Lib.hid hb
        replace hxl := Lib.hid hxl
        replace hsz' := Lib.hid hsz'
        clear hsz hcg
        obtain ⟨r, hr⟩ := rd_exists W' (K' + 16) ss (zX xs)
        have HM : Hid (∀ w', Cx w' w'.heap.size A xs → Calls Tryz.prog 66 #[.agg (cells cs), .agg #[.int .i64 B, .int .i64 P, .int .i64 (W' : Int), .int .i64 (K' : Int)], .slice A xs.length c] w' fun e w'' => ∃ g f, e = .returned (.slice (some ⟨g, 0, none⟩) W' W') ∧ w'.heap.size ≤ g ∧ WdsI w'' g W' f r (fun j => wrO W' (K' + 16) ss (zX xs) j (r j)) W' ∧ Below w'.heap.size w' w'') := fun w' h => mended_any HCS.out ⟨hW1, hW4⟩ ⟨hK1, hK64⟩ h hxl.out hn.out hsl.out hb.out r (fun j _ => hr j)
        by_cases hbad : ∃ j, j < W' ∧ ∀ ys, ¬ GoodR W' (K' + 16) ss (zX xs) j ys
        · have hR : Hid (RdS B P (W' : Int) (K' : Int) xs ss 0 0 0 0 [] 4) := by
            obtain ⟨j, hj, h⟩ := hbad
            exact RdS.data hM hsz'.out hbk j hj h
          have HJ : Hid (∀ w' g f, WdsI w' g W' f r (fun j => wrO W' (K' + 16) ss (zX xs) j (r j)) W' → Calls Tryz.prog 65 #[.agg #[.int .i64 B, .int .i64 P, .int .i64 (W' : Int), .int .i64 (K' : Int)], .slice (some ⟨g, 0, none⟩) W' W'] w' fun e w'' => e = .returned (.tuple #[.slice none 0 0, .int .i64 0, .bool false]) ∧ Below w'.heap.size w' w'') := fun w' g f h => joined_no ⟨hW1, hW4⟩ ⟨hK1, hK64⟩ h (fun j _ => hr j) hbad
          clear hbad hr
          go_enter Tryz.func41, Tryz.ntmps41
          go_upto_region 1 with fail
          rw [← hwa, ← hwb, ← hwc]
          clear hwa hwb hwc
          go_wp2_with (first
            | (go_at_call 63; (with_reducible refine hrf.out.mono ?_); rintro e w1 ⟨rfl, hb1⟩; have hT1 := hT.keep hb1; have hX1 := hX.keep hb1; have hH1 := hH.keep hb1; have hbw1 := hbc.trans (hb1.mono hbc.size); have hbl := Lib.hid (blank_any A c xs w1 (H.out.far hbw1) h6); rw [hbk] at hbl)
            | (go_at_call 64; (with_reducible refine hbl.out.mono ?_); rintro e w2 ⟨rfl, rfl⟩))
          refine Cl.region_way (fun _ => True) 13 [(0, .r), (1, .r), (2, .r), (3, .r), (4, .c), (5, .c), (6, .r), (7, .r), (8, .r), (9, .r), (10, .r), (11, .r), (12, .r)] (by kernel_rfl) (by kernel_rfl) ?_
          intro w3 hk3
          have hb3 := Cl.Keeps.below hk3
          have hT3 := Lib.hid (hT1.keep hb3)
          have hX3 := Lib.hid (hX1.keep hb3)
          have hH3 := Lib.hid (hH1.keep hb3)
          have hbw3 := Lib.hid (hbw1.trans (hb3.mono hbw1.size))
          have hi3 : ∀ y : Cl.Since (fun _ => True) w3, isTb y.w w.heap.size = true := fun y => (hT3.out.keep (Cl.Keeps.below y.keeps)).is HCS.out.1
          have ho3 : ∀ y : Cl.Since (fun _ => True) w3, tbOf y.w w.heap.size = cells cs := fun y => (hT3.out.keep (Cl.Keeps.below y.keeps)).of
          have b0 : ∀ y : Cl.Since (fun _ => True) w3, y.w.cell? ⟨w.heap.size + 1, 0, none⟩ = some (.int .i64 B) := fun y => (hX3.out.keep (Cl.Keeps.below y.keeps)).c0
          have b1 : ∀ y : Cl.Since (fun _ => True) w3, y.w.cell? ⟨w.heap.size + 1, 1, none⟩ = some (.int .i64 P) := fun y => (hX3.out.keep (Cl.Keeps.below y.keeps)).c1
          have b2 : ∀ y : Cl.Since (fun _ => True) w3, y.w.cell? ⟨w.heap.size + 1, 2, none⟩ = some (.int .i64 (W' : Int)) := fun y => (hX3.out.keep (Cl.Keeps.below y.keeps)).c2
          have b3 : ∀ y : Cl.Since (fun _ => True) w3, y.w.cell? ⟨w.heap.size + 1, 3, none⟩ = some (.int .i64 (K' : Int)) := fun y => (hX3.out.keep (Cl.Keeps.below y.keeps)).c3
          have hmd := Lib.hid (HM.out w3 (H.out.far hbw3.out))
          clear hk3 hb3 hT hX hH hT1 hX1 hH1 hbw1 hb1 hrf hbl
          iterate 4 (refine Cl.way_r rfl ?_; go_big_quiet_step (fail); refine wpQuiet_nil ?_)
          clear hi3 ho3 b0 b1 b2 b3
          refine Cl.way_c rfl ?_
          go_wp2_with (go_at_call 66; (with_reducible refine hmd.out.mono ?_); rintro e w4 ⟨g, f, rfl, hg, hWd, hb4⟩)
          refine Cl.way_on (Cl.Keeps.of_below hb4) ?_
          have hjn := Lib.hid (HJ.out w4 g f hWd)
          have hX4 := Lib.hid (hX3.out.keep hb4)
          have hH4 := Lib.hid (hH3.out.keep hb4)
          have hbw4 := Lib.hid (hbw3.out.trans (hb4.mono hbw3.out.size))
          clear hb4 hWd hX3 hH3 hbw3 hmd hT3
          refine Cl.way_c rfl ?_
          go_wp2_with (go_at_call 65; (with_reducible refine hjn.out.mono ?_); rintro e w5 ⟨rfl, hb5⟩)
          refine Cl.way_on (Cl.Keeps.of_below hb5) ?_
          have hH5 := hH4.out.keep hb5
          have hbw5 := hbw4.out.trans (hb5.mono hbw4.out.size)
          clear hX4 hH4 hbw4 hb5 hjn
          iterate 7 (refine Cl.way_r rfl ?_; go_big_quiet_step (fail); refine wpQuiet_nil ?_)
          refine Cl.way_end ?_
          obtain ⟨j1, j2, j3, j4⟩ := hH5.hed
          have jf := hH5.frozen
          go_wp2_with fail
          refine bodyPost_ret (results_m4 rfl rfl (hH5.set_ 0 0 0).hed) rfl ?_
          exact ⟨0, 0, 0, 0, [], 4, hR.out, none, 0, rfl, Nat.le_refl _, Sb.nil _ _ _, below_set3 hbw5 (by omega) _ _ _⟩
        · have hex : ∀ j, ∃ ys, j < W' → GoodR W' (K' + 16) ss (zX xs) j ys := fun j => by
            by_cases hj : j < W'
            · rcases Classical.em (∃ ys, GoodR W' (K' + 16) ss (zX xs) j ys) with ⟨ys, h⟩ | h
              · exact ⟨ys, fun _ => h⟩
              · exact absurd ⟨j, hj, fun ys hy => h ⟨ys, hy⟩⟩ hbad
            · exact ⟨[], fun h => absurd h hj⟩
          obtain ⟨ws, hws⟩ := Classical.axiomOfChoice hex
          clear hbad hex
          have hwl : ∀ j, j < W' → (ws j).length = K' + 16 := fun j hj => near_len (hws j hj).1
          have hsl' := sayW_len (W := W') (K := K') (ws := ws) hW1 hwl (by omega)
          have hsb' := sayW_bd (W := W') (K := K') (ws := ws) (fun j hj => (hws j hj).1.bd)
          have HJ : Hid (∀ w' g f, WdsI w' g W' f r (fun j => wrO W' (K' + 16) ss (zX xs) j (r j)) W' → Calls Tryz.prog 65 #[.agg #[.int .i64 B, .int .i64 P, .int .i64 (W' : Int), .int .i64 (K' : Int)], .slice (some ⟨g, 0, none⟩) W' W'] w' fun e w'' => ∃ v, e = .returned (.tuple #[v, .int .i64 ((mxF (fun j => nbW W' (K' + 16) ss (zX xs) j (ws j)) W' : Nat) : Int), .bool true]) ∧ OwnS w' w'' v (sayW W' K' ws) ∧ Below w'.heap.size w' w'') := fun w' g f h => joined_yes ⟨hW1, hW4⟩ ⟨hK1, hK64⟩ h (fun j _ => hr j) ws hws
          obtain ⟨S, hS⟩ : ∃ S, sayW W' K' ws = S := ⟨_, rfl⟩
          obtain ⟨M, hMx⟩ : ∃ M, mxF (fun j => nbW W' (K' + 16) ss (zX xs) j (ws j)) W' = M := ⟨_, rfl⟩
          rw [hS, hMx] at HJ
          rw [hS] at hsl' hsb'
          rw [hN] at hsl'
          cases hSB : sayB N S
          · have hR : Hid (RdS B P (W' : Int) (K' : Int) xs ss 0 0 0 0 [] 12) := RdS.form hM hsz'.out hbk ws hws (by show sayB (W' * K') (sayW W' K' ws) = false; rw [hS, hN]; exact hSB)
            have HD : Hid (∀ w' A' c', Sl w' w'.heap.size A' S → S.length ≤ c' → Calls Tryz.prog 67 #[.agg #[.int .i64 B, .int .i64 P, .int .i64 (W' : Int), .int .i64 (K' : Int)], .slice A' S.length c'] w' fun e w'' => e = .returned (.tuple #[.agg #[.int .i64 0, .int .i64 0, .int .i64 0], .slice none 0 0, .bool false]) ∧ Below w'.heap.size w' w'') := fun w' A' c' h1 h2 => by
              refine (said_any hM hN h1 hsl' hsb' (by rw [← hsl']; exact h2)).mono ?_
              rintro e w'' ⟨h, hbb⟩
              rcases h with ⟨_, he⟩ | ⟨_, _, h, _⟩
              · exact ⟨he, hbb⟩
              · rw [hSB] at h; cases h
            clear hMx hS hSB hws hsl' hsb' hr
            go_enter Tryz.func41, Tryz.ntmps41
            go_upto_region 1 with fail
            rw [← hwa, ← hwb, ← hwc]
            clear hwa hwb hwc
            go_wp2_with (first
              | (go_at_call 63; (with_reducible refine hrf.out.mono ?_); rintro e w1 ⟨rfl, hb1⟩; have hT1 := hT.keep hb1; have hX1 := hX.keep hb1; have hH1 := hH.keep hb1; have hbw1 := hbc.trans (hb1.mono hbc.size); have hbl := Lib.hid (blank_any A c xs w1 (H.out.far hbw1) h6); rw [hbk] at hbl)
              | (go_at_call 64; (with_reducible refine hbl.out.mono ?_); rintro e w2 ⟨rfl, rfl⟩))
            refine Cl.region_way (fun _ => True) 13 [(0, .r), (1, .r), (2, .r), (3, .r), (4, .c), (5, .c), (6, .r), (7, .r), (8, .r), (9, .r), (10, .r), (11, .r), (12, .r)] (by kernel_rfl) (by kernel_rfl) ?_
            intro w3 hk3
            have hb3 := Cl.Keeps.below hk3
            have hT3 := Lib.hid (hT1.keep hb3)
            have hX3 := Lib.hid (hX1.keep hb3)
            have hH3 := Lib.hid (hH1.keep hb3)
            have hbw3 := Lib.hid (hbw1.trans (hb3.mono hbw1.size))
            have hi3 : ∀ y : Cl.Since (fun _ => True) w3, isTb y.w w.heap.size = true := fun y => (hT3.out.keep (Cl.Keeps.below y.keeps)).is HCS.out.1
            have ho3 : ∀ y : Cl.Since (fun _ => True) w3, tbOf y.w w.heap.size = cells cs := fun y => (hT3.out.keep (Cl.Keeps.below y.keeps)).of
            have b0 : ∀ y : Cl.Since (fun _ => True) w3, y.w.cell? ⟨w.heap.size + 1, 0, none⟩ = some (.int .i64 B) := fun y => (hX3.out.keep (Cl.Keeps.below y.keeps)).c0
            have b1 : ∀ y : Cl.Since (fun _ => True) w3, y.w.cell? ⟨w.heap.size + 1, 1, none⟩ = some (.int .i64 P) := fun y => (hX3.out.keep (Cl.Keeps.below y.keeps)).c1
            have b2 : ∀ y : Cl.Since (fun _ => True) w3, y.w.cell? ⟨w.heap.size + 1, 2, none⟩ = some (.int .i64 (W' : Int)) := fun y => (hX3.out.keep (Cl.Keeps.below y.keeps)).c2
            have b3 : ∀ y : Cl.Since (fun _ => True) w3, y.w.cell? ⟨w.heap.size + 1, 3, none⟩ = some (.int .i64 (K' : Int)) := fun y => (hX3.out.keep (Cl.Keeps.below y.keeps)).c3
            have hmd := Lib.hid (HM.out w3 (H.out.far hbw3.out))
            clear hk3 hb3 hT hX hH hT1 hX1 hH1 hbw1 hb1 hrf hbl
            iterate 4 (refine Cl.way_r rfl ?_; go_big_quiet_step (fail); refine wpQuiet_nil ?_)
            clear hi3 ho3 b0 b1 b2 b3
            refine Cl.way_c rfl ?_
            go_wp2_with (go_at_call 66; (with_reducible refine hmd.out.mono ?_); rintro e w4 ⟨g, f, rfl, hg, hWd, hb4⟩)
            refine Cl.way_on (Cl.Keeps.of_below hb4) ?_
            have hjn := Lib.hid (HJ.out w4 g f hWd)
            have hX4 := Lib.hid (hX3.out.keep hb4)
            have hH4 := Lib.hid (hH3.out.keep hb4)
            have hbw4 := Lib.hid (hbw3.out.trans (hb4.mono hbw3.out.size))
            clear hb4 hWd hX3 hH3 hbw3 hmd hT3
            refine Cl.way_c rfl ?_
            go_wp2_with (go_at_call 65; (with_reducible refine hjn.out.mono ?_); rintro e w5 ⟨v5, rfl, ho5, hb5⟩)
            refine Cl.way_on (Cl.Keeps.of_below hb5) ?_
            have hX5 := hX4.out.keep hb5
            have hH5 := Lib.hid (hH4.out.keep hb5)
            have hbw5 := Lib.hid (hbw4.out.trans (hb5.mono hbw4.out.size))
            obtain ⟨p1, p2, p3, p4, p5⟩ := id hX5
            obtain ⟨A5, c5, rfl, hc5, hs5⟩ := ho5.sl
            have hsd := Lib.hid (HD.out w5 A5 c5 hs5 hc5)
            clear hX4 hH4 hbw4 hb5 hjn ho5 hs5 hc5
            iterate 7 (refine Cl.way_r rfl ?_; go_big_quiet_step (fail); refine wpQuiet_nil ?_)
            refine Cl.way_end ?_
            go_wp2_with (go_at_call 67; (with_reducible refine hsd.out.mono ?_); rintro e w6 ⟨rfl, hb6⟩; have hb6' := hb6.trans ((Ge.below_alloc w6 (.cells #[.int .i64 0, .int .i64 0, .int .i64 0] 27)).mono hb6.size); have hH6 := hH5.out.keep hb6'; obtain ⟨j1, j2, j3, j4⟩ := hH6.hed; have jf := hH6.frozen; have hbw6 := hbw5.out.trans (hb6'.mono hbw5.out.size))
            refine bodyPost_ret (results_m4 rfl rfl (hH6.set_ 0 0 0).hed) rfl ?_
            exact ⟨0, 0, 0, 0, [], 12, hR.out, none, 0, rfl, Nat.le_refl _, Sb.nil _ _ _, below_set3 hbw6 (by omega) _ _ _⟩
          · have hR : Hid (RdS B P (W' : Int) (K' : Int) xs ss (sayK S) (sayN S) (sayQ S) M (sayD N S) 0) := by
              have := RdS.ok hM hsz'.out hbk ws hws (by show sayB (W' * K') (sayW W' K' ws) = true; rw [hS, hN]; exact hSB)
              simp only [Int.toNat_natCast] at this
              rw [hS, hMx, hN] at this
              exact this
            have HD : Hid (∀ w' A' c', Sl w' w'.heap.size A' S → S.length ≤ c' → Calls Tryz.prog 67 #[.agg #[.int .i64 B, .int .i64 P, .int .i64 (W' : Int), .int .i64 (K' : Int)], .slice A' S.length c'] w' fun e w'' => ∃ A c, e = .returned (.tuple #[.agg #[.int .i64 ((sayK S : Nat) : Int), .int .i64 ((sayN S : Nat) : Int), .int .i64 ((sayQ S : Nat) : Int)], .slice A (sayD N S).length c, .bool true]) ∧ (sayD N S).length ≤ c ∧ Sb w'' w''.heap.size A (sayD N S) ∧ Below w'.heap.size w' w'') := fun w' A' c' h1 h2 => by
              refine (said_any hM hN h1 hsl' hsb' (by rw [← hsl']; exact h2)).mono ?_
              rintro e w'' ⟨h, hbb⟩
              rcases h with ⟨h, _⟩ | ⟨A, c, _, he, hc, hs⟩
              · rw [hSB] at h; cases h
              · exact ⟨A, c, he, hc, hs, hbb⟩
            clear hMx hS hSB hws hsl' hsb' hr
            go_enter Tryz.func41, Tryz.ntmps41
            go_upto_region 1 with fail
            rw [← hwa, ← hwb, ← hwc]
            clear hwa hwb hwc
            go_wp2_with (first
              | (go_at_call 63; (with_reducible refine hrf.out.mono ?_); rintro e w1 ⟨rfl, hb1⟩; have hT1 := hT.keep hb1; have hX1 := hX.keep hb1; have hH1 := hH.keep hb1; have hbw1 := hbc.trans (hb1.mono hbc.size); have hbl := Lib.hid (blank_any A c xs w1 (H.out.far hbw1) h6); rw [hbk] at hbl)
              | (go_at_call 64; (with_reducible refine hbl.out.mono ?_); rintro e w2 ⟨rfl, rfl⟩))
            refine Cl.region_way (fun _ => True) 13 [(0, .r), (1, .r), (2, .r), (3, .r), (4, .c), (5, .c), (6, .r), (7, .r), (8, .r), (9, .r), (10, .r), (11, .r), (12, .r)] (by kernel_rfl) (by kernel_rfl) ?_
            intro w3 hk3
            have hb3 := Cl.Keeps.below hk3
            have hT3 := Lib.hid (hT1.keep hb3)
            have hX3 := Lib.hid (hX1.keep hb3)
            have hH3 := Lib.hid (hH1.keep hb3)
            have hbw3 := Lib.hid (hbw1.trans (hb3.mono hbw1.size))
            have hi3 : ∀ y : Cl.Since (fun _ => True) w3, isTb y.w w.heap.size = true := fun y => (hT3.out.keep (Cl.Keeps.below y.keeps)).is HCS.out.1
            have ho3 : ∀ y : Cl.Since (fun _ => True) w3, tbOf y.w w.heap.size = cells cs := fun y => (hT3.out.keep (Cl.Keeps.below y.keeps)).of
            have b0 : ∀ y : Cl.Since (fun _ => True) w3, y.w.cell? ⟨w.heap.size + 1, 0, none⟩ = some (.int .i64 B) := fun y => (hX3.out.keep (Cl.Keeps.below y.keeps)).c0
            have b1 : ∀ y : Cl.Since (fun _ => True) w3, y.w.cell? ⟨w.heap.size + 1, 1, none⟩ = some (.int .i64 P) := fun y => (hX3.out.keep (Cl.Keeps.below y.keeps)).c1
            have b2 : ∀ y : Cl.Since (fun _ => True) w3, y.w.cell? ⟨w.heap.size + 1, 2, none⟩ = some (.int .i64 (W' : Int)) := fun y => (hX3.out.keep (Cl.Keeps.below y.keeps)).c2
            have b3 : ∀ y : Cl.Since (fun _ => True) w3, y.w.cell? ⟨w.heap.size + 1, 3, none⟩ = some (.int .i64 (K' : Int)) := fun y => (hX3.out.keep (Cl.Keeps.below y.keeps)).c3
            have hmd := Lib.hid (HM.out w3 (H.out.far hbw3.out))
            clear hk3 hb3 hT hX hH hT1 hX1 hH1 hbw1 hb1 hrf hbl
            iterate 4 (refine Cl.way_r rfl ?_; go_big_quiet_step (fail); refine wpQuiet_nil ?_)
            clear hi3 ho3 b0 b1 b2 b3
            refine Cl.way_c rfl ?_
            go_wp2_with (go_at_call 66; (with_reducible refine hmd.out.mono ?_); rintro e w4 ⟨g, f, rfl, hg, hWd, hb4⟩)
            refine Cl.way_on (Cl.Keeps.of_below hb4) ?_
            have hjn := Lib.hid (HJ.out w4 g f hWd)
            have hX4 := Lib.hid (hX3.out.keep hb4)
            have hH4 := Lib.hid (hH3.out.keep hb4)
            have hbw4 := Lib.hid (hbw3.out.trans (hb4.mono hbw3.out.size))
            clear hb4 hWd hX3 hH3 hbw3 hmd hT3
            refine Cl.way_c rfl ?_
            go_wp2_with (go_at_call 65; (with_reducible refine hjn.out.mono ?_); rintro e w5 ⟨v5, rfl, ho5, hb5⟩)
            refine Cl.way_on (Cl.Keeps.of_below hb5) ?_
            have hX5 := hX4.out.keep hb5
            have hH5 := Lib.hid (hH4.out.keep hb5)
            have hbw5 := Lib.hid (hbw4.out.trans (hb5.mono hbw4.out.size))
            obtain ⟨p1, p2, p3, p4, p5⟩ := id hX5
            obtain ⟨A5, c5, rfl, hc5, hs5⟩ := ho5.sl
            have hsd := Lib.hid (HD.out w5 A5 c5 hs5 hc5)
            clear hX4 hH4 hbw4 hb5 hjn ho5 hs5 hc5
            iterate 7 (refine Cl.way_r rfl ?_; go_big_quiet_step (fail); refine wpQuiet_nil ?_)
            refine Cl.way_end ?_
            go_wp2_with (go_at_call 67; (with_reducible refine hsd.out.mono ?_); rintro e w6 ⟨A6, c6, rfl, hc6, hs6, hb6⟩; have ha6 := Ge.below_alloc w6 (.cells #[.int .i64 ((sayK S : Nat) : Int), .int .i64 ((sayN S : Nat) : Int), .int .i64 ((sayQ S : Nat) : Int)] 27); have hb6' := hb6.trans (ha6.mono hb6.size); have hH6 := hH5.out.keep hb6'; obtain ⟨j1, j2, j3, j4⟩ := hH6.hed; have jf := hH6.frozen; have hbw6 := hbw5.out.trans (hb6'.mono hbw5.out.size); have hs7 := hs6.far ha6)
            refine bodyPost_ret (results_m4 rfl rfl (hH6.set_ _ _ _).hed) rfl ?_
            refine ⟨sayK S, sayN S, sayQ S, M, sayD N S, 0, hR.out, A6, c6, rfl, hc6, ?_, below_set3 hbw6 (by omega) _ _ _⟩
            have hne7 := hH6.ne hs7
            simp only [World.size_setCell]
            exact ((hs7.setOther hne7).setOther hne7).setOther hne7
      · have hR := RdS.none (ss := ss) hM hsz hbk
        go_enter Tryz.func41, Tryz.ntmps41
        go_upto_region 1 with fail
        rw [← hwa, ← hwb, ← hwc]
        clear hwa hwb hwc
        go_wp2_with (first
          | (go_at_call 63; (with_reducible refine hrf.out.mono ?_); rintro e w1 ⟨rfl, hb1⟩; have hH1 := hH.keep hb1; have hbw1 := hbc.trans (hb1.mono hbc.size); obtain ⟨j1, j2, j3, j4⟩ := hH1.hed; have jf := hH1.frozen; have hbl := Lib.hid (blank_any A c xs w1 (H.out.far hbw1) h6); rw [hbk] at hbl)
          | (go_at_call 64; (with_reducible refine hbl.out.mono ?_); rintro e w3 ⟨rfl, rfl⟩))
        refine bodyPost_ret (results_m4 rfl rfl (hH1.set_ 0 0 0).hed) rfl ?_
        exact ⟨0, 0, 0, 0, [], 13, hR, none, 0, rfl, Nat.le_refl _, Sb.nil _ _ _, below_set3 hbw1 (by omega) _ _ _⟩
    · have hR := RdS.size (ss := ss) hM hsz
      rw [rfE_size hM hsz] at hrf
      have hE0 : (((3 : Nat) : Int) != 0) = true := by decide
      go_enter Tryz.func41, Tryz.ntmps41
      go_upto_region 1 with fail
      rw [← hwa, ← hwb, ← hwc]
      clear hwa hwb hwc
      go_wp2_with (go_at_call 63; (with_reducible refine hrf.out.mono ?_); rintro e w1 ⟨rfl, hb1⟩; have hH1 := hH.keep hb1; obtain ⟨j1, j2, j3, j4⟩ := hH1.hed; have jf := hH1.frozen; have hbw1 := hbc.trans (hb1.mono hbc.size))
      refine bodyPost_ret (results_m4 rfl rfl (hH1.set_ 0 0 0).hed) rfl ?_
      exact ⟨0, 0, 0, 0, [], 3, hR, none, 0, rfl, Nat.le_refl _, Sb.nil _ _ _, below_set3 hbw1 (by omega) _ _ _⟩
end Go.Proofs.YtjhoecfhmndcgaaGreat
namespace Go.Proofs.YtjhoecfhmndcgaaGreat
open Go.RowKit Go.Gf Go.Fl
set_option linter.unusedVariables false
set_option linter.unusedSimpArgs false
set_option maxRecDepth 20000
attribute [local go_sem ↓] exec_load_tb Cl.quiet_since
attribute [local go_sem] tbAt_ptr tbIn_ptr

theorem is_zero' : Is 0 (((0 : Int) : Int) : Rat) := is_zero
attribute [local go_sem] run_store_cpx
end Go.Proofs.YtjhoecfhmndcgaaGreat
namespace Go.Proofs.YtjhoecfhmndcgaaGreat
open Go.RowKit Go.Gf Go.Fl
set_option linter.unusedVariables false
set_option linter.unusedSimpArgs false
section
variable {W K N k l q : Nat} {d : List Nat} {S ss : List Nat} {z : Nat → Bool}
theorem sayW_rows (h0 : 0 < W) (hl : S.length = W * K) : sayW W K (fun j => (rowsL W S).getD j []) = S := by
  have e : (List.range W).map (fun j => ((rowsL W S).getD j []).take K) = (rowsL W S).map (List.take K) := by
    apply List.ext_getElem
    · rw [List.length_map, List.length_range, List.length_map, rowsL_len]
    · intro j h1 h2
      have hj : j < W := by simpa using h1
      have hj2 : j < (rowsL W S).length := by rw [rowsL_len]; exact hj
      rw [List.getElem_map, List.getElem_range, List.getElem_map, List.getD_eq_getElem?_getD, List.getElem?_eq_getElem hj2, Option.getD_some]
  unfold sayW
  rw [e, take_rows hl h0]
/-- the marked places: a symbol that is not the page's, or a point that is nought -/
def offB (pl ss : List Nat) (z : Nat → Bool) (i : Nat) : Bool := z i || decide (at_ ss i ≠ at_ pl i)
theorem row_at {n : Nat} (hl : S.length = W * K) (hn : n = K + 16) {j t : Nat} (hj : j < W) (ht : t < n) : at_ ((rowsL W S).getD j []) t = at_ (pageL W S) (t * W + j) := by
  subst hn
  exact (pageL_row hl hj ht).symm
theorem nb_page {n : Nat} (hl : S.length = W * K) (hn : n = K + 16) {j : Nat} (hj : j < W) : nbW W n ss z j ((rowsL W S).getD j []) = bc (fun t => offB (pageL W S) ss z (t * W + j)) n := by
  unfold nbW
  refine bc_congr fun t ht => ?_
  unfold offB rowS
  rw [at_rm, if_pos ht, row_at hl hn hj ht]
theorem good_page {n : Nat} (h0 : 0 < W) (hl : S.length = W * K) (hS : ∀ y ∈ S, y < 1024) (hn : n = K + 16) {j : Nat} (hj : j < W) (h8 : bc (fun t => offB (pageL W S) ss z (t * W + j)) n ≤ 8) : GoodR W n ss z j ((rowsL W S).getD j []) := by
  have hm : (rowsL W S).getD j [] ∈ rowsL W S := getD_mem (by rw [rowsL_len]; exact hj)
  have hlen := rowsL_all hl h0 _ hm
  have hnb := nb_page (ss := ss) (z := z) hl hn hj
  refine ⟨⟨by rw [hlen, rowS_len, hn], rowsL_bd hS _ hm, rowsL_cw hS _ hm, ?_⟩, by rw [hnb]; exact h8⟩
  rw [dl_bc (by rw [hlen, rowS_len, hn]), hlen, ← hn]
  refine Nat.le_trans (bc_mono fun t ht e => ?_) h8
  rw [decide_eq_true_eq] at e
  unfold offB
  rw [Bool.or_eq_true, decide_eq_true_eq]
  right
  intro e2
  apply e
  unfold rowS
  rw [at_rm, if_pos ht, row_at hl hn hj ht, e2]
/-- A PAGE IS READ AS IT WAS MEANT, if in each codeword at most eight symbols are wrong or nought -/
theorem rd_page {B P : Int} {xs : List (Nat × Nat)} (hM : Ge.mayG B P (W : Int) (K : Int) = true) (hN : W * K = N) (hv : sayV N k l q d) (hx : xs.length = W * (K + 16)) (hbk : blkB xs = false)
    (h8 : ∀ j, j < W → bc (fun t => offB (pageL W (sayL N k l q d)) ss (zX xs) (t * W + j)) (K + 16) ≤ 8) {k' l' q' n' er : Nat} {d' : List Nat} (h : RdS B P (W : Int) (K : Int) xs ss k' l' q' n' d' er) :
    k' = k ∧ l' = l ∧ q' = q ∧ n' = mxF (fun j => bc (fun t => offB (pageL W (sayL N k l q d)) ss (zX xs) (t * W + j)) (K + 16)) W ∧ d' = d ∧ er = 0 := by
  obtain ⟨W', K', N', hWe, hKe, hN', hW1, hW4, hK1, hK64, h8', h256, hsg, hcg⟩ := mayG_of hM
  obtain rfl : W = W' := Int.ofNat.inj hWe
  obtain rfl : K = K' := Int.ofNat.inj hKe
  have hNe : N' = N := by rw [← hN', hN]
  have hN8 : 8 < N := by omega
  have hd : d.length = 10 * (N - 8) / 8 := hv.2.2.2.2.1
  have hl : (sayL N k l q d).length = W * K := by rw [say_len hd (by omega), hN]
  have hS := say_bd (N := N) (d := d) hv.2.1 hv.2.2.1 hv.2.2.2.1
  have hgood : ∀ j, j < W → GoodR W (K + 16) ss (zX xs) j ((rowsL W (sayL N k l q d)).getD j []) := fun j hj => good_page hW1 hl hS rfl hj (h8 j hj)
  have hsr := sayW_rows hW1 hl
  obtain ⟨b1, b2, b3, b4, b5⟩ := sayB_say hv
  have huni : ∀ ws : Nat → List Nat, (∀ j, j < W → GoodR W (K + 16) ss (zX xs) j (ws j)) → ∀ j, j < W → ws j = (rowsL W (sayL N k l q d)).getD j [] := fun ws hg j hj => good_unique (by omega) (hg j hj) (hgood j hj)
  cases h with
  | arg h => rw [hM] at h; cases h
  | size _ h2 => rw [hcg, hx] at h2; exact absurd rfl h2
  | none _ _ h3 => rw [hbk] at h3; cases h3
  | data _ _ _ j hj h4 =>
    simp only [Int.toNat_natCast] at hj h4
    exact absurd (hgood j hj) (h4 _)
  | form _ _ _ ws hg h4 =>
    simp only [Int.toNat_natCast] at hg h4
    rw [sayW_congr (huni ws hg), hsr, hN, b1] at h4
    cases h4
  | ok _ _ _ ws hg h4 =>
    simp only [Int.toNat_natCast] at hg h4 ⊢
    have e := huni ws hg
    rw [sayW_congr e, hsr, hN]
    refine ⟨b2, b3, b4, ?_, b5, trivial⟩
    refine mxF_congr fun j hj => ?_
    show nbW W (K + 16) ss (zX xs) j (ws j) = _
    rw [e j hj, nb_page hl rfl hj]
/-- nothing is read where a codeword has more than eight points that are nought -/
theorem rd_torn {B P : Int} {xs : List (Nat × Nat)} (hM : Ge.mayG B P (W : Int) (K : Int) = true) (hx : xs.length = W * (K + 16)) (hbk : blkB xs = false) {j : Nat} (hj : j < W) (h9 : 8 < bc (fun t => zX xs (t * W + j)) (K + 16))
    {k' l' q' n' er : Nat} {d' : List Nat} (h : RdS B P (W : Int) (K : Int) xs ss k' l' q' n' d' er) : er = 4 ∧ n' = 0 := by
  obtain ⟨W', K', N', hWe, hKe, hN', hW1, hW4, hK1, hK64, h8', h256, hsg, hcg⟩ := mayG_of hM
  obtain rfl : W = W' := Int.ofNat.inj hWe
  obtain rfl : K = K' := Int.ofNat.inj hKe
  have hno : ∀ ys, ¬ GoodR W (K + 16) ss (zX xs) j ys := fun ys hg => by
    have := hg.2
    have h2 : bc (fun t => zX xs (t * W + j)) (K + 16) ≤ nbW W (K + 16) ss (zX xs) j ys := bc_mono fun t _ e => by
      show (zX xs (t * W + j) || _) = true
      rw [e]; rfl
    omega
  cases h with
  | arg h => rw [hM] at h; cases h
  | size _ h2 => rw [hcg, hx] at h2; exact absurd rfl h2
  | none _ _ h3 => rw [hbk] at h3; cases h3
  | data => exact ⟨rfl, rfl⟩
  | form _ _ _ ws hg =>
    simp only [Int.toNat_natCast] at hg
    exact absurd (hg j hj) (hno _)
  | ok _ _ _ ws hg =>
    simp only [Int.toNat_natCast] at hg
    exact absurd (hg j hj) (hno _)
theorem rd_none {B P : Int} {xs : List (Nat × Nat)} (hM : Ge.mayG B P (W : Int) (K : Int) = true) (hx : xs.length = W * (K + 16)) (hbk : blkB xs = true) {k' l' q' n' er : Nat} {d' : List Nat} (h : RdS B P (W : Int) (K : Int) xs ss k' l' q' n' d' er) : er = 13 := by
  obtain ⟨W', K', N', hWe, hKe, hN', hW1, hW4, hK1, hK64, h8', h256, hsg, hcg⟩ := mayG_of hM
  obtain rfl : W = W' := Int.ofNat.inj hWe
  obtain rfl : K = K' := Int.ofNat.inj hKe
  cases h with
  | arg h => rw [hM] at h; cases h
  | size _ h2 => rw [hcg, hx] at h2; exact absurd rfl h2
  | none => rfl
  | data _ _ h3 => rw [hbk] at h3; cases h3
  | form _ _ h3 => rw [hbk] at h3; cases h3
  | ok _ _ h3 => rw [hbk] at h3; cases h3
end
end Go.Proofs.YtjhoecfhmndcgaaGreat
namespace Go.Proofs.YtjhoecfhmndcgaaGreat
open Go.RowKit Go.Gf Go.Fl
set_option linter.unusedVariables false
set_option linter.unusedSimpArgs false
set_option maxRecDepth 20000
attribute [local go_sem ↓] exec_load_tb Cl.quiet_since
attribute [local go_sem] tbAt_ptr tbIn_ptr

end Go.Proofs.YtjhoecfhmndcgaaGreat
namespace Go.Proofs.YtjhoecfhmndcgaaGreat
open Go.RowKit Go.Gf Go.Fl
set_option linter.unusedVariables false
set_option linter.unusedSimpArgs false
set_option maxRecDepth 20000
attribute [local go_sem ↓] exec_load_tb Cl.quiet_since
attribute [local go_sem] tbAt_ptr tbIn_ptr


end Go.Proofs.YtjhoecfhmndcgaaGreat
